import PyProof.Rows.All
import Wide.All
import OpenK.AllK
import Wide.FinOn
import Lean
import PyProof.EqAt
import PyProof.EqKinds
import PyProof.TupleCall
import PyProof.NeKinds
import KE.KIntText
import PyProof.TupleOfStr
import PyProof.ReprRoads
import PyProof.NeData
import PyProof.DictKinds
import PyProof.AttrMiss
import PyProof.IsiH_list
import KE.KDictOf
import KE.KSortTup
import KE.KItemsList
import KE.KDictSum
import PyProof.DictWalks
import PyProof.DictItems
import KE.KDictList
import KE.KEqDict
import KE.KPairComp
import PyProof.DictTruth
import PyProof.MeetsDict
import KE.KLam
import KE.KNestM
import PyProof.Defs
import PyProof.P3In
import PyProof.Rows.SortRev
import PyProof.Rows.Range3
import PyProof.AutoIntG2
import PySem.Challenge.RW_stairlanes_k35_books_hold_for_all_counts
set_option Elab.async false
set_option linter.all false
set_option maxRecDepth 100000
local macro_rules|`(tactic|trivial)=>`(tactic|first|exact⟨by rfl,by first|exact Or.inl rfl|exact Or.inr (.inl rfl)|exact Or.inr (.inr rfl),by decide,by decide⟩|exact⟨rfl,rfl,rfl,by decide +kernel,rfl,by decide +kernel,by decide +kernel⟩|exact True.intro|rfl|assumption|exact .inl rfl|exact .inr rfl)
section
open PySem PySem.Spec PyProof.Rows
theorem J0:type_of% @wpAny_bind:=@wpAny_bind
theorem J7:type_of% @List.getElem?_eq_getElem:=@List.getElem?_eq_getElem
theorem J8:type_of% @Heap.get?_push_of_some:=@Heap.get?_push_of_some
theorem J9:type_of% @wpAny_pure:=@wpAny_pure
theorem Ja:type_of% @List.getD_eq_getElem?_getD:=@List.getD_eq_getElem?_getD
theorem Jb:type_of% @if_neg:=@if_neg
theorem Jc:type_of% @List.getElem?_eq_some_iff:=@List.getElem?_eq_some_iff
theorem Jd:type_of% @List.length_append:=@List.length_append
theorem Je:type_of% @List.mem_singleton:=@List.mem_singleton
theorem Jf:type_of% @if_pos:=@if_pos
theorem Jg:type_of% @Nat.le_refl:=@Nat.le_refl
theorem Jh:type_of% @wpS_pure:=@wpS_pure
theorem Jj:type_of% @wpS_bind:=@wpS_bind
theorem Jm:type_of% @List.size_toArray:=@List.size_toArray
theorem Jn:type_of% @Option.some.inj:=@Option.some.inj
theorem Jp:type_of% @Bool.false_ne_true:=@Bool.false_ne_true
theorem Jq:type_of% @List.length_map:=@List.length_map
theorem Jr:type_of% @Heap.lt_size:=@Heap.lt_size
theorem Js:type_of% @Heap.get?_push_size:=@Heap.get?_push_size
theorem Jt:type_of% @List.mem_cons:=@List.mem_cons
theorem Ju:type_of% @Array.size_append:=@Array.size_append
theorem Jv:type_of% @decide_eq_false:=@decide_eq_false
theorem Jw:type_of% @List.not_mem_nil:=@List.not_mem_nil
theorem Jx:type_of% @Array.size_push:=@Array.size_push
theorem Jy:type_of% @List.length_take:=@List.length_take
theorem Jz:type_of% @List.mem_append_right:=@List.mem_append_right
theorem JA:type_of% @Array.length_toList:=@Array.length_toList
theorem JB:type_of% @List.mem_append:=@List.mem_append
theorem JC:type_of% @sizeLine_eq:=@sizeLine_eq
theorem JD:type_of% @List.mem_map:=@List.mem_map
theorem JE:type_of% @decide_eq_true:=@decide_eq_true
theorem JF:type_of% @Nat.ne_of_lt:=@Nat.ne_of_lt
theorem JG:type_of% @List.mem_cons_of_mem:=@List.mem_cons_of_mem
theorem JH:type_of% @List.mem_cons_self:=@List.mem_cons_self
theorem JJ:type_of% @Nat.lt_of_lt_of_le:=@Nat.lt_of_lt_of_le
theorem JK:type_of% @List.getElem?_map:=@List.getElem?_map
theorem JL:type_of% @List.length_cons:=@List.length_cons
theorem JM:type_of% @wpAny_newObj_type:=@wpAny_newObj_type
theorem JN:type_of% @Nat.zero_le:=@Nat.zero_le
theorem JP:type_of% @List.mem_of_getElem?:=@List.mem_of_getElem?
theorem JQ:type_of% @List.take_of_length_le:=@List.take_of_length_le
theorem JR:type_of% @List.nodup_cons:=@List.nodup_cons
theorem JS:type_of% @PySem.W.mg_of:=@PySem.W.mg_of
theorem JT:type_of% @wpAny_mono:=@wpAny_mono
theorem JU:type_of% @List.append_assoc:=@List.append_assoc
theorem JV:type_of% @decide_eq_false_iff_not:=@decide_eq_false_iff_not
theorem JW:type_of% @Array.getElem?_eq_some_iff:=@Array.getElem?_eq_some_iff
theorem JX:type_of% @congrArg:=@congrArg
theorem JY:type_of% @List.map_append:=@List.map_append
theorem JZ:type_of% @List.map_cons:=@List.map_cons
theorem Y0:type_of% @decide_eq_true_eq:=@decide_eq_true_eq
theorem Y1:type_of% @PySem.W.mg_none_of:=@PySem.W.mg_none_of
theorem Y2:type_of% @List.append_nil:=@List.append_nil
theorem Y3:type_of% @Nat.le_trans:=@Nat.le_trans
theorem Y4:type_of% @wpAny_call_entry:=@wpAny_call_entry
theorem Y5:type_of% @List.getElem_mem:=@List.getElem_mem
theorem Y6:type_of% @Array.getElem?_toList:=@Array.getElem?_toList
theorem Y7:type_of% @Bool.false_eq_true:=@Bool.false_eq_true
theorem Y8:type_of% @Array.toList_append:=@Array.toList_append
theorem Y9:type_of% @List.length_drop:=@List.length_drop
theorem Ya:type_of% @Int.toNat_natCast:=@Int.toNat_natCast
theorem Yb:type_of% @List.length_range:=@List.length_range
theorem Yc:type_of% @wpAny_dictEntries:=@wpAny_dictEntries
theorem Yd:type_of% @wpAny_setField_rec:=@wpAny_setField_rec
theorem Ye:type_of% @wpAny_dictEpoch:=@wpAny_dictEpoch
theorem Yf:type_of% @wpAny_seqItems:=@wpAny_seqItems
theorem Yg:type_of% @List.take_succ_eq_append_getElem:=@List.take_succ_eq_append_getElem
theorem Yh:type_of% @Option.map_eq_some_iff:=@Option.map_eq_some_iff
theorem Yi:type_of% @wpAny_holding:=@wpAny_holding
theorem Yj:type_of% @PyProof.Rows.callWith_type1:=@PyProof.Rows.callWith_type1
theorem Yk:type_of% @if_true:=@if_true
theorem Ym:type_of% @List.replicate_succ:=@List.replicate_succ
theorem Yn:type_of% @PySem.boot_len:=@PySem.boot_len
theorem Yp:type_of% @List.mem_append_left:=@List.mem_append_left
theorem Yq:type_of% @List.pairwise_append:=@List.pairwise_append
theorem Yr:type_of% @Heap.get?_update_other:=@Heap.get?_update_other
theorem Ys:type_of% @Bool.eq_iff_iff:=@Bool.eq_iff_iff
theorem Yt:type_of% @PassesOwn.never:=@PassesOwn.never
theorem Yu:type_of% @Nat.zero_add:=@Nat.zero_add
theorem Yv:type_of% @wpS_forRange:=@wpS_forRange
theorem Yw:type_of% @PySem.F.plainAttrs_list:=@PySem.F.plainAttrs_list
theorem Yx:type_of% @List.mem_range:=@List.mem_range
theorem Yy:type_of% @List.getElem?_append_right:=@List.getElem?_append_right
theorem Yz:type_of% @List.lookup_cons:=@List.lookup_cons
theorem YA:type_of% @List.take_length:=@List.take_length
theorem YB:type_of% @List.getElem?_append_left:=@List.getElem?_append_left
theorem YC:type_of% @Int.compare_eq_lt:=@Int.compare_eq_lt
theorem YD:type_of% @Int.compare_eq_gt:=@Int.compare_eq_gt
theorem YE:type_of% @List.length_replicate:=@List.length_replicate
theorem YF:type_of% @List.take_append_getElem:=@List.take_append_getElem
theorem YG:type_of% @Nat.lt_irrefl:=@Nat.lt_irrefl
theorem YH:type_of% @Nat.add_zero:=@Nat.add_zero
theorem YJ:type_of% @Heap.SameBut.update:=@Heap.SameBut.update
theorem YK:type_of% @List.find?_cons:=@List.find?_cons
theorem YL:type_of% @List.drop_eq_getElem_cons:=@List.drop_eq_getElem_cons
theorem YM:type_of% @Heap.get?_update_self:=@Heap.get?_update_self
theorem YN:type_of% @Bool.and_eq_true:=@Bool.and_eq_true
theorem YQ:type_of% @F.plain_min_loop:=@F.plain_min_loop
theorem YR:type_of% @Paired.length:=@Paired.length
theorem YS:type_of% @Int.compare_eq_eq:=@Int.compare_eq_eq
theorem YT:type_of% @wpAny_rule:=@wpAny_rule
theorem YU:type_of% @List.forIn_cons:=@List.forIn_cons
theorem YV:type_of% @if_false:=@if_false
theorem YW:type_of% @Heap.size_push:=@Heap.size_push
theorem YX:type_of% @wpS_mono:=@wpS_mono
theorem YY:type_of% @List.extract_eq_take_drop:=@List.extract_eq_take_drop
theorem YZ:type_of% @List.length_set:=@List.length_set
theorem Z0:type_of% @wpAny_truthy_bool:=@wpAny_truthy_bool
theorem Z1:type_of% @Nat.ne_of_gt:=@Nat.ne_of_gt
theorem Z2:type_of% @List.mem_iff_getElem:=@List.mem_iff_getElem
theorem Z3:type_of% @of_decide_eq_true:=@of_decide_eq_true
theorem Z4:type_of% @Nat.pow_le_pow_right:=@Nat.pow_le_pow_right
theorem Z5:type_of% @wpAny_standAt:=@wpAny_standAt
theorem Z6:type_of% @List.getElem?_take_of_lt:=@List.getElem?_take_of_lt
theorem Z7:type_of% @PySem.F.slot_list_append:=@PySem.F.slot_list_append
theorem Z8:type_of% @PySem.F.type_list_append:=@PySem.F.type_list_append
theorem Z9:type_of% @PySem.mem_of_lookup:=@PySem.mem_of_lookup
theorem Za:type_of% @or_false:=@or_false
theorem Zb:type_of% @List.all_eq_true:=@List.all_eq_true
theorem Zc:type_of% @List.take_zero:=@List.take_zero
theorem Zd:type_of% @List.nodup_nil:=@List.nodup_nil
theorem Ze:type_of% @Int.le_refl:=@Int.le_refl
theorem Zf:type_of% @wpAny_Call_Name_kw:=@wpAny_Call_Name_kw
theorem Zg:type_of% @wpAny_typeOf:=@wpAny_typeOf
theorem Zh:type_of% @Nat.pow_succ:=@Nat.pow_succ
theorem Zi:type_of% @Nat.min_eq_left:=@Nat.min_eq_left
theorem Zj:type_of% @Nat.add_assoc:=@Nat.add_assoc
theorem Zk:type_of% @List.mem_iff_getElem?:=@List.mem_iff_getElem?
theorem Zm:type_of% @List.foldl_append:=@List.foldl_append
theorem Zn:type_of% @Array.toList_push:=@Array.toList_push
theorem Zp:type_of% @Int.lt_trichotomy:=@Int.lt_trichotomy
theorem Zq:type_of% @List.forIn_nil:=@List.forIn_nil
theorem Zr:type_of% @Around.under_plainId:=@Around.under_plainId
theorem Zs:type_of% @Array.toList_extract:=@Array.toList_extract
theorem Zt:type_of% @List.mem_of_mem_take:=@List.mem_of_mem_take
theorem Zu:type_of% @wpAny_isInstance:=@wpAny_isInstance
theorem Zv:type_of% @List.map_map:=@List.map_map
theorem Zw:type_of% @Option.getD_some:=@Option.getD_some
theorem Zx:type_of% @beq_self_eq_true:=@beq_self_eq_true
theorem Zy:type_of% @Int.le_trans:=@Int.le_trans
theorem Zz:type_of% @Array.getElem?_eq_getElem:=@Array.getElem?_eq_getElem
theorem ZA:type_of% @beq_eq_false_iff_ne:=@beq_eq_false_iff_ne
theorem ZB:type_of% @List.length_zipWith:=@List.length_zipWith
theorem ZC:type_of% @List.take_succ_cons:=@List.take_succ_cons
theorem ZD:type_of% @Option.isSome_iff_exists:=@Option.isSome_iff_exists
theorem ZE:type_of% @wpAny_attempt:=@wpAny_attempt
theorem ZF:type_of% @wpAny_passesOwn:=@wpAny_passesOwn
theorem ZG:type_of% @codeAny_builtin:=@codeAny_builtin
theorem ZH:type_of% @List.length_nil:=@List.length_nil
theorem ZJ:type_of% @size_of_entries:=@size_of_entries
theorem ZK:type_of% @List.length_zip:=@List.length_zip
theorem ZL:type_of% @assignInOrder_cons:=@assignInOrder_cons
theorem ZM:type_of% @Calls.spliced_cons:=@Calls.spliced_cons
theorem ZN:type_of% @List.filterMap_map:=@List.filterMap_map
theorem ZP:type_of% @Nat.one_le_two_pow:=@Nat.one_le_two_pow
theorem ZQ:type_of% @wpAny_letGo:=@wpAny_letGo
theorem ZR:type_of% @List.pairwise_singleton:=@List.pairwise_singleton
theorem ZS:type_of% @Calls.callWith_builtin:=@Calls.callWith_builtin
theorem ZT:type_of% @List.flatten_cons:=@List.flatten_cons
theorem ZU:type_of% @List.drop_zero:=@List.drop_zero
theorem ZV:type_of% @Bool.not_eq_true':=@Bool.not_eq_true'
theorem ZW:type_of% @PyProof.Rows.slot_tuple_getitem:=@PyProof.Rows.slot_tuple_getitem
theorem ZX:type_of% @List.take_append_drop:=@List.take_append_drop
theorem ZY:type_of% @List.perm_append_comm:=@List.perm_append_comm
theorem ZZ:type_of% @List.ext_getElem:=@List.ext_getElem
theorem W0:type_of% @wpAny_typeNameOfWhole_itemiter:=@wpAny_typeNameOfWhole_itemiter
theorem W5:type_of% @plainId_quiet:=@plainId_quiet
theorem W6:type_of% @wpAny_field:=@wpAny_field
theorem W7:type_of% @wpAny_typeNameOfWhole_keyiter:=@wpAny_typeNameOfWhole_keyiter
theorem W8:type_of% @F.slot_dict_itemiterator_next:=@F.slot_dict_itemiterator_next
theorem W9:type_of% @List.nil_append:=@List.nil_append
theorem Wa:type_of% @F.slot_zip_next:=@F.slot_zip_next
theorem Wb:type_of% @Bool.or_eq_true:=@Bool.or_eq_true
theorem Wc:type_of% @F.slot_dict_keyiterator_next:=@F.slot_dict_keyiterator_next
theorem Wd:type_of% @Int.emod_nonneg:=@Int.emod_nonneg
theorem We:type_of% @List.map_congr_left:=@List.map_congr_left
theorem Wf:type_of% @Array.toList_modify:=@Array.toList_modify
theorem Wg:type_of% @wpS_get:=@wpS_get
theorem Wh:type_of% @call_meets:=@call_meets
theorem Wi:type_of% @wpS_modify:=@wpS_modify
theorem Wj:type_of% @List.getElem?_drop:=@List.getElem?_drop
theorem Wk:type_of% @Bool.not_eq_false':=@Bool.not_eq_false'
theorem Wm:type_of% @Int.emod_lt_of_pos:=@Int.emod_lt_of_pos
theorem Wn:type_of% @List.getElem?_zip_eq_some:=@List.getElem?_zip_eq_some
theorem Wp:type_of% @Calls.spliced_nil:=@Calls.spliced_nil
theorem Wq:type_of% @Nat.lt_succ_of_lt:=@Nat.lt_succ_of_lt
theorem Wr:type_of% @AutoSeq1.wpAny_loadPart':=@AutoSeq1.wpAny_loadPart'
theorem Ws:type_of% @not_or:=@not_or
theorem Wt:type_of% @List.take_nil:=@List.take_nil
end
namespace L2
open PySem PySem.Spec PyProof.Rows
abbrev Key:=Sum Int Str
def zfB:Key->Value->Bool
  | .inl k,v=>Value.isInt k v
  | .inr x,v=>Value.isStrOf x v
def keyH (w:World):Key->Int
  | .inl k=>hashInt k
  | .inr x=>hashStr w x
theorem zaN:∀ {k:Key}{v:Value},zfB k v=true->(∃ i t,k=Sum.inl i/\v=Value.int i t)\/(∃ x t,k=Sum.inr x/\v=Value.str x t)
  | .inl i,v,h=>by
    obtain⟨t,e⟩:=Value.isInt_shape (k:=i) (v:=v) h
    exact .inl ⟨i,t,rfl,e⟩
  | .inr x,v,h=>by
    obtain⟨t,e⟩:=Value.isStrOf_shape (x:=x) (v:=v) h
    exact .inr ⟨x,t,rfl,e⟩
theorem ziJ (i:Int) (t:Tok):zfB (.inl i) (.int i t)=true:=by simp[zfB,Value.isInt]
theorem ziI (x:Str) (t:Tok):zfB (.inr x) (.str x t)=true:=by simp[zfB,Value.isStrOf]
theorem zmT (a b:Int):decide ((Sum.inl a:Key)=Sum.inl b)=(a == b):=by
  by_cases e:a=b
  · subst e;simp
  · have h:¬(Sum.inl a:Key)=Sum.inl b:=λq=>e (Sum.inl.inj q)
    rw[Jv h]
    exact(ZA.mpr e).symm
theorem zmP (a b:Str):decide ((Sum.inr a:Key)=Sum.inr b)=decide (a=b):=by
  by_cases e:a=b
  · subst e;simp
  · have h:¬(Sum.inr a:Key)=Sum.inr b:=λq=>e (Sum.inr.inj q)
    rw[Jv h,Jv e]
theorem zmS (a:Int) (b:Str):decide ((Sum.inl a:Key)=Sum.inr b)=false:=Jv (λq=>nomatch q)
theorem zmQ (a:Str) (b:Int):decide ((Sum.inr a:Key)=Sum.inl b)=false:=Jv (λq=>nomatch q)
def za1 (prog:Program) (w:World):PySem.KeyKind prog w Key where
  is:=zfB
  hash:=keyH w
  inj:=λv a b ha hb=>by
    rcases zaN ha with ⟨i,t,rfl,rfl⟩|⟨x,t,rfl,rfl⟩
    · rcases zaN hb with ⟨j,u,rfl,e⟩|⟨y,u,rfl,e⟩
      · injection e with c _;rw[c]
      · exact nomatch e
    · rcases zaN hb with ⟨j,u,rfl,e⟩|⟨y,u,rfl,e⟩
      · exact nomatch e
      · injection e with c _;rw[c]
  byValue:=λk v h=>by
    rcases zaN h with ⟨i,t,rfl,rfl⟩|⟨x,t,rfl,rfl⟩<;>rfl
  pyHash:=λd h=>by
    rcases zaN d with ⟨i,t,rfl,rfl⟩|⟨x,t,rfl,rfl⟩
    · exact wpAny_pyHash_int h
    · exact wpAny_pyHash_str h
  eqBool:=λf d h=>by
    rcases zaN f with ⟨i,t,rfl,rfl⟩|⟨x,t,rfl,rfl⟩
    · rcases zaN d with ⟨j,u,rfl,rfl⟩|⟨y,u,rfl,rfl⟩
      · rw[zmT]at h;exact wpAny_eqBool_int h
      · rw[zmS]at h;exact SeqAt.EqAt.int_str i t y u _ _ _ _ h
    · rcases zaN d with ⟨j,u,rfl,rfl⟩|⟨y,u,rfl,rfl⟩
      · rw[zmQ]at h;exact SeqAt.EqAt.str_int x t j u _ _ _ _ h
      · rw[zmP]at h;exact wpAny_eqBool_str h
  «strs»:=λk x t v h=>by
    rcases zaN h with ⟨i,u,rfl,e⟩|⟨y,u,rfl,e⟩
    · exact nomatch e
    · injection e with c _
      subst c
      cases v<;>rfl
theorem zgZ (prog:Program) (w:World) (k:Key) (v:Value):(za1 prog w).is k v=zfB k v:=rfl
theorem zft (prog:Program) (w:World) (i:Int) (t:Tok):(za1 prog w).is (.inl i) (.int i t)=true:=ziJ i t
theorem zfs (prog:Program) (w:World) (x:Str) (t:Tok):(za1 prog w).is (.inr x) (.str x t)=true:=ziI x t
inductive V where
  | non|bl (b:Bool)|int (i:Int)|str (x:Str)|byt (b:Array UInt8)|flt (b:UInt64)|ref (a:Addr)|ty (n:String)
  deriving DecidableEq
def RelV:V->Value->Prop
  | .non,u=>u=Value.none
  | .bl b,u=>u=Value.bool b
  | .int i,u=>∃ t,u=Value.int i t
  | .str x,u=>∃ t,u=Value.str x t
  | .byt b,u=>∃ t,u=Value.bytes b t
  | .flt b,u=>∃ t,u=Value.float b t
  | .ref a,u=>u=Value.ref a
  | .ty n,u=>u=Value.type n
abbrev Vals:List V->List Value->Prop:=Paired RelV
theorem Vals.length {xs:List V}{us:List Value}(r:Vals xs us):xs.length=us.length:=YR r
theorem Vals.get:∀ {xs:List V}{us:List Value}{i:Nat}{x:V},Vals xs us->xs[i]?=some x->∃ u,us[i]?=some u/\RelV x u
  | _,_,_,_,.nil,e=>by simp at e
  | _,_,0,_,.cons r _,e=>by simp at e;subst e;exact⟨_,rfl,r⟩
  | _,_,i+1,x,.cons _ t,e=>by
    obtain⟨u,h1,a⟩:=Vals.get (i:=i) (x:=x) t (by simpa using e)
    exact⟨u,by simpa using h1,a⟩
theorem Vals.set {x:V}{u:Value}(r:RelV x u):∀ {xs:List V}{us:List Value}(i:Nat),Vals xs us->Vals (xs.set i x) (us.set i u)
  | _,_,_,.nil=>.nil
  | _,_,0,.cons _ t=>.cons r t
  | _,_,i+1,.cons q t=>.cons q (Vals.set r i t)
theorem Vals.append:∀ {xs ys:List V}{us ws:List Value},Vals xs us->Vals ys ws->Vals (xs++ys) (us++ws)
  | _,_,_,_,.nil,s=>s
  | _,_,_,_,.cons r t,s=>.cons r (Vals.append t s)
theorem Vals.take:∀ {xs:List V}{us:List Value}(n:Nat),Vals xs us->Vals (xs.take n) (us.take n)
  | _,_,0,_=>.nil
  | _,_,_+1,.nil=>.nil
  | _,_,n+1,.cons r t=>.cons r (Vals.take n t)
theorem Vals.drop:∀ {xs:List V}{us:List Value}(n:Nat),Vals xs us->Vals (xs.drop n) (us.drop n)
  | _,_,0,r=>r
  | _,_,_+1,.nil=>.nil
  | _,_,n+1,.cons _ t=>Vals.drop n t
def RelO:Option V->Option Value->Prop
  | some v,some u=>RelV v u
  | none,none=>True
  | _,_=>False
def KV {κ:Type}:List (κ × V)->List (κ × Value)->Prop:=Paired λ(p:κ × V) (q:κ × Value)=>p.1=q.1/\RelV p.2 q.2
def kV:Key->V
  | .inl i=>.int i
  | .inr x=>.str x
inductive HO where
  | lst (xs:List V)
  | tup (xs:List V)
  | dK (kvs:List (Key × V))|dT (kvs:List (List Key × V))
  | set (S:Int->Bool) (n:Nat)
  | ins (C dx:Addr) (fs:List (Str × V))
  | own (x:Addr)
  | xd (fs:List (Str × V))
  | met (f x:Addr)
  | rng (lo hi:Int)
  | frz (o:Obj) (u:HO)
  | tbl (ps:Array Value)
  | ext (φ:Heap->Prop)
abbrev Hp:=Addr->Option HO
def upd (H:Hp) (a:Addr) (o:HO):Hp:=λb=>if b=a then some o else H b
theorem zag {H:Hp}{a:Addr}{o:HO}:upd H a o a=some o:=by unfold upd;rw[Jf rfl]
theorem zah {H:Hp}{a b:Addr}{o:HO}(h:b≠a):upd H a o b=H b:=by unfold upd;rw[Jb h]
theorem zcD {H:Hp}{a b:Addr}{o u:HO}(h:H a=some o) (h':H b=some u) (d:o≠u):a≠b:=by
  intro e;subst e;rw[h]at h';exact d (Jn h')
theorem zaf {H:Hp}{a b:Addr}{o:HO}(h:H a=some o) (h':H b=none):a≠b:=by
  intro e;subst e;rw[h]at h';cases h'
def TupX (h:Heap) (a:Addr) (items:Array Value):Prop:=∃ o,h.get? a=some o/\o.cls=.type "tuple"/\∃ n,o.data=.seq items n/\o.dict=none
theorem TupX.tup {h:Heap}{a:Addr}{items:Array Value}(x:TupX h a items):IsTup h a items:=let ⟨o,e,c,n,d,_⟩:=x;⟨o,e,c,n,d⟩
theorem TupX.new (h:Heap) (items:Array Value):TupX (h.push { cls:=.type "tuple",data:=.seq items }) h.objs.size items:=⟨_,Js _ rfl,rfl,0,rfl,rfl⟩
section
variable (P:Program)(w:World)
def ObjOk (H:Hp) (h:Heap) (a:Addr):HO->Prop
  | .lst xs=>xs.length<=sizeLine/\∃ (its:List Value) (n:Nat),Vals xs its/\h.get? a=some { cls:=.type "list",data:=.seq its.toArray n }
  | .tup xs=>xs.length<=sizeLine/\∃ its:List Value,Vals xs its/\TupX h a its.toArray
  | .dK kvs=>kvs.length<=sizeLine/\(a == sysModules)=false/\∃ vs,KV kvs vs/\h.DictOf (za1 P w) a vs
  | .dT kvs=>kvs.length<=sizeLine/\(a == sysModules)=false/\∃ xs:List (List Key × Addr × Value),
      Paired (λ(p:List Key × V) (q:List Key × Addr × Value)=>p.1=q.1/\H q.2.1=some (.tup (p.1.map kV))/\RelV p.2 q.2.2) kvs xs /\
      ∃ o es ep,h.get? a=some o/\o.ExactDict/\o.data=.dict es ep/\es.toList=xs.map (entryOfKey (tupleKind (za1 P w)))/\(xs.map (·.1)).Nodup
  | .set S n=>h.SetOf (intKind P w) a S n
  | .ins C dx fs=>H dx=some (.own a)/\fs.length<=1000/\dx≠a/\h.get? a=some (PySem.W.instObj C dx) /\
      ∃ b,h.Ns1 dx b/\(∀ f,RelO (fs.lookup f) (b f))/\PySem.Within b (fs.map (·.1))
  | .own _=>∃ o,h.get? a=some o
  | .xd fs=>∃ b,h.Ns1 a b/\∀ f,RelO (fs.lookup f) (b f)
  | .rng lo hi=>∃ t u v,h.get? a=some { cls:=.type "range",data:=.fields #[.int lo t,.int hi u,.int 1 v] }
  | .frz o u=>h.get? a=some o/\ObjOk H h a u
  | .tbl ps=>h.get? a=some { cls:=.none,data:=.fields ps }
  | .met f x=>h.get? a=some (PySem.W.methodObj (.ref f) (.ref x))
  | .ext φ=>φ h/\(∃ o,h.get? a=some o)/\∀ h1 c:Heap,φ h1->(∀ o,h1.get? a=some o->c.get? a=some o)->φ c
def HOk (H:Hp) (h:Heap):Prop:=∀ a o,H a=some o->ObjOk P w H h a o
end
section
variable {P:Program}{w:World}{H H':Hp}{h h':Heap}{a:Addr}{o:HO}
theorem ObjOk.lt (x:ObjOk P w H h a o):a<h.objs.size:=by
  cases o with
  | lst xs=>obtain⟨_,_,_,_,e⟩:=x;exact Jr e
  | tup xs=>obtain⟨_,_,_,p⟩:=x;exact p.tup.lt
  | dK kvs=>obtain⟨_,_,_,_,o,_,_,e,_⟩:=x;exact Jr e
  | dT kvs=>obtain⟨_,_,_,_,o,_,_,e,_⟩:=x;exact Jr e
  | set S n=>obtain⟨o,_,_,_,e,_⟩:=x;exact Jr e
  | ins C dx fs=>obtain⟨_,_,_,e,_⟩:=x;exact Jr e
  | own y=>obtain⟨_,e⟩:=x;exact Jr e
  | xd fs=>obtain⟨_,⟨_,_,_,e,_⟩,_⟩:=x;exact Jr e
  | rng lo hi=>obtain⟨_,_,_,e⟩:=x;exact Jr e
  | frz ob u=>obtain⟨e,_⟩:=x;exact Jr e
  | tbl ps=>exact Jr (show h.get? a=some _ from x)
  | met f y=>exact Jr (show h.get? a=some _ from x)
  | ext φ=>obtain⟨_,⟨_,e⟩,_⟩:=x;exact Jr e
theorem Paired.mapP {α β:Type}{F G:α->β->Prop}:∀ {l₁:List α}{l₂:List β},Paired F l₁ l₂->(∀ a b,F a b->G a b)->Paired G l₁ l₂
  | _,_,.nil,_=>.nil
  | _,_,.cons r t,f=>.cons (f _ _ r) (Paired.mapP t f)
theorem ObjOk.stay (x:ObjOk P w H h a o) (k:∀ b u,(b=a\/H b=some (.own a))->h.get? b=some u->h'.get? b=some u)
    (j:∀ b,H b=some (.own a)->H' b=some (.own a)) (i:∀ b xs,H b=some (.tup xs)->H' b=some (.tup xs)):ObjOk P w H' h' a o:=by
  induction o with
  | lst xs=>obtain⟨z,its,n,r,e⟩:=x;exact⟨z,its,n,r,k _ _ (.inl rfl) e⟩
  | tup xs=>obtain⟨z,its,r,ob,e,c⟩:=x;exact⟨z,its,r,ob,k _ _ (.inl rfl) e,c⟩
  | dK kvs=>obtain⟨z,y,vs,r,ob,es,ep,e,c⟩:=x;exact⟨z,y,vs,r,ob,es,ep,k _ _ (.inl rfl) e,c⟩
  | dT kvs =>
    obtain⟨z,y,xs,r,ob,es,ep,e,c⟩:=x
    exact⟨z,y,xs,Paired.mapP r λp q z=>⟨z.1,i _ _ z.2.1,z.2.2⟩,ob,es,ep,k _ _ (.inl rfl) e,c⟩
  | set S n=>obtain⟨ob,es,ep,t,e,c⟩:=x;exact⟨ob,es,ep,t,k _ _ (.inl rfl) e,c⟩
  | ins C dx fs =>
    obtain⟨d,z,ne,e,g,⟨od,es,ep,e2,c⟩,r⟩:=x
    exact⟨j _ d,z,ne,k _ _ (.inl rfl) e,g,⟨od,es,ep,k _ _ (.inr d) e2,c⟩,r⟩
  | own y=>obtain⟨ob,e⟩:=x;exact⟨ob,k _ _ (.inl rfl) e⟩
  | xd fs=>obtain⟨g,⟨od,es,ep,e,c⟩,r⟩:=x;exact⟨g,⟨od,es,ep,k _ _ (.inl rfl) e,c⟩,r⟩
  | rng lo hi=>obtain⟨t,u,v,e⟩:=x;exact⟨t,u,v,k _ _ (.inl rfl) e⟩
  | frz ob u ih=>obtain⟨e,q⟩:=x;exact⟨k _ _ (.inl rfl) e,ih q⟩
  | tbl ps =>
    have e:h.get? a=some { cls:=.none,data:=.fields ps }:=x
    show h'.get? a=some { cls:=.none,data:=.fields ps }
    exact k a _ (.inl rfl) e
  | met f y =>
    have e:h.get? a=some (PySem.W.methodObj (.ref f) (.ref y)):=x
    show h'.get? a=some (PySem.W.methodObj (.ref f) (.ref y))
    exact k a _ (.inl rfl) e
  | ext φ=>obtain⟨p,⟨o,e⟩,st⟩:=x;exact⟨st _ _ p λo q=>k _ _ (.inl rfl) q,⟨o,k _ _ (.inl rfl) e⟩,st⟩
theorem HOk.lt (x:HOk P w H h) (e:H a=some o):a<h.objs.size:=(x a o e).lt
theorem HOk.fresh (x:HOk P w H h) (e:h.objs.size<=a):H a=none:=by
  cases q:H a with
  | none=>rfl
  | some u=>exact absurd (JJ (x.lt q) e) (YG _)
theorem HOk.kept (x:HOk P w H h) (k:∀ b u,h.get? b=some u->h'.get? b=some u):HOk P w H h':=λa o e =>
  (x a o e).stay (λb u _ q=>k b u q) (λ_ q=>q) λ_ _ q=>q
theorem HOk.laid (x:HOk P w H h) (k:∀ b u,h.get? b=some u->h'.get? b=some u) (f:h.objs.size<=a) (new:ObjOk P w (upd H a o) h' a o):HOk P w (upd H a o) h':=λb u e=>by
  have d:=x.fresh f
  by_cases hb:b=a
  · subst hb;rw[zag]at e;cases e;exact new
  · rw[zah hb]at e
    exact(x b u e).stay (λc v _ q=>k c v q) (λc q=>by rw[zah (zaf q d)];exact q) λc xs q=>by rw[zah (zaf q d)];exact q
end
def Rd (H:Hp) (a:Addr) (u:HO):Prop:=H a=some u\/∃ o,H a=some (.frz o u)
theorem Rd.ok {P:Program}{w:World}{H:Hp}{h:Heap}{a:Addr}{u:HO}(r:Rd H a u) (x:HOk P w H h):ObjOk P w H h a u:=by
  rcases r with r|⟨o,r⟩
  · exact x a u r
  · obtain⟨_,q⟩:=x a _ r
    exact q
def Mut:Option HO->Prop
  | some (.lst _)=>True
  | some (.dK _)=>True
  | some (.dT _)=>True
  | some (.set _ _)=>True
  | some (.ins _ _ _)=>True
  | some (.ext _)=>True
  | _=>False
section
variable {P:Program}{w:World}{H:Hp}{h h':Heap}{x e:Addr}{o':HO}
theorem HOk.write (ok:HOk P w H h) (g:Mut (H x)) (m:e=x\/H e=some (.own x)) (k:∀ b u,b≠e->h.get? b=some u->h'.get? b=some u) (j:∃ u,h'.get? e=some u)
    (new:ObjOk P w (upd H x o') h' x o'):HOk P w (upd H x o') h':=λb u q=>by
  have d:∀ c y,H c=some (.own y)->c≠x:=λc y r z=>by subst z;rw[r]at g;exact g
  have f:∀ c xs,H c=some (.tup xs)->c≠x:=λc xs r z=>by subst z;rw[r]at g;exact g
  by_cases hb:b=x
  · subst hb;rw[zag]at q;cases q;exact new
  · rw[zah hb]at q
    by_cases a:b=e
    · have l:H b=some (.own x):=by
        rcases m with z|z
        · exact absurd (a.trans z) hb
        · rw[a];exact z
      rw[q]at l;cases l
      obtain⟨v,n⟩:=j
      exact⟨v,by rw[a];exact n⟩
    · refine(ok b u q).stay (λc v i r=>k c v ?_ r) (λc r=>by rw[zah (d c b r)];exact r) λc xs r=>by rw[zah (f c xs r)];exact r
      rcases i with rfl|i
      · exact a
      · rintro rfl
        rcases m with z|z
        · exact d c b i z
        · rw[i]at z;cases z;exact hb rfl
end
structure Un (fs ex:List Addr) (H H':Hp) (h h':Heap):Prop where
  keep:∀ b o,h.get? b=some o->H b=none->b∉fs->b∉ex->h'.get? b=some o
  slot:∀ b o,h.get? b=some o->H b=none->b∈fs->b∉ex->∃ sl,h'.get? b=some { o with slots:=sl }
  free:∀ b o,h.get? b=some o->H b=none->b∉ex->H' b=none
  there:∀ b o,h.get? b=some o->b∉ex->∃ o',h'.get? b=some o'
  tups:∀ b xs,H b=some (.tup xs)->H' b=some (.tup xs)
  frzs:∀ b o u,H b=some (.frz o u)->H' b=some (.frz o u)
  tbls:∀ b ps,H b=some (.tbl ps)->∃ more,H' b=some (.tbl (ps++more))
section
variable {fs ex:List Addr}{H H1:Hp}{h h1 h':Heap}{a x e:Addr}{o:HO}
theorem Un.any (u:Un fs ex H H1 h h1) {b:Addr}{ob:Obj}(q:h.get? b=some ob) (n:H b=none) (a:b∉ex):∃ sl,h1.get? b=some { ob with slots:=sl }:=by
  by_cases hb:b∈fs
  · exact u.slot b ob q n hb a
  · exact⟨ob.slots,u.keep b ob q n hb a⟩
theorem Un.kept (k:∀ b u,h.get? b=some u->h'.get? b=some u):Un fs ex H H h h' :=
  ⟨λb ob q _ _ _=>k b ob q,λb ob q _ _ _=>⟨ob.slots,k b ob q⟩,λ_ _ _ n _=>n,λb ob q _=>⟨ob,k b ob q⟩,λ_ _ q=>q,λ_ _ _ q=>q,λ_ ps q=>⟨#[],by rw[q];simp⟩⟩
theorem Un.refl:Un fs ex H H h h:=Un.kept λ_ _ q=>q
theorem Un.laid (k:∀ b u,h.get? b=some u->h'.get? b=some u) (d:h.objs.size<=a) (c:H a=none):Un fs ex H (upd H a o) h h' where
  keep:=λb u q _ _ _=>k b u q
  slot:=λb u q _ _ _=>⟨u.slots,k b u q⟩
  free:=λb u q n _=>by rw[zah (JF (JJ (Jr q) d))];exact n
  there:=λb u q _=>⟨u,k b u q⟩
  tups:=λb xs q=>by rw[zah (zaf q c)];exact q
  frzs:=λb u xs q=>by rw[zah (zaf q c)];exact q
  tbls:=λb ps q=>⟨#[],by rw[zah (zaf q c),q];simp⟩
theorem Un.write (c:Mut (H x)) (i:e=x\/H e=some (.own x)) (k:∀ b u,b≠e->h.get? b=some u->h'.get? b=some u) (f:∃ u,h'.get? e=some u):Un fs ex H (upd H x o) h h':=by
  have g:∀ b,H b=none->b≠x:=λb n z=>by subst z;rw[n]at c;exact c
  have hb:∀ b,H b=none->b≠e:=λb n z=>by
    subst z
    rcases i with r|r
    · exact g b n r
    · rw[n]at r;cases r
  have d:∀ b u,H b=some u->¬ Mut (some u)->b≠x:=λb u q nm z=>by subst z;rw[q]at c;exact nm c
  refine⟨λb u q n _ _=>k b u (hb b n) q,λb u q n _ _=>⟨u.slots,k b u (hb b n) q⟩,λb u q n _=>by rw[zah (g b n)];exact n,λb u q _=>?_,
    λb xs q=>by rw[zah (d b _ q λz=>z)];exact q,λb u xs q=>by rw[zah (d b _ q λz=>z)];exact q,λb ps q=>⟨#[],by rw[zah (d b _ q λz=>z),q];simp⟩⟩
  by_cases a:b=e
  · subst a;exact f
  · exact⟨u,k b u a q⟩
end
def trk (h:Heap) (H:Hp):List Addr:=(List.range h.objs.size).filter λa=>(H a).isSome
def hidT (h:Heap) (H:Hp):Heap:=PySem.W.hideAll h (trk h H)
theorem ziN (h:Heap) (H:Hp):(hidT h H).objs.size=h.objs.size:=PySem.W.hideAll_size _ _
theorem zkm {h:Heap}{H:Hp}{b:Addr}{o:Obj}(e:h.get? b=some o) (n:H b=none):(hidT h H).get? b=some o :=
  PySem.W.hideAll_get _ e λa=>by
    have q:(H b).isSome=true:=(List.mem_filter.mp a).2
    rw[n]at q;simp at q
theorem zlH {h:Heap}{H:Hp}{b:Addr}{o:Obj}(e:(hidT h H).get? b=some o):h.get? b=some o/\H b=none:=by
  have a:h.get? b=some o:=PySem.W.of_hideAll (trk h H) e
  refine⟨a,?_⟩
  cases q:H b with
  | none=>rfl
  | some x =>
    have c:b∈trk h H:=List.mem_filter.mpr ⟨Yx.mpr (Jr a),by simp[q]⟩
    have z:(hidT h H).get? b=none:=PySem.W.hideAll_none (trk h H) c
    rw[z]at e;cases e
def zmb (g h:Heap) (L:Addr):List (Addr × Obj):=(List.range h.objs.size).filterMap λa=>if a=L\/(g.get? a).isSome=true then none else (h.get? a).map λo=>(a,o)
def rest (g h:Heap) (L d:Addr):List (Addr × Obj):=(zmb g h L).filter λp=>decide (p.1≠d)
structure Mod (K:PySem.W.Frag) (mg:Str->Option Value) (base:Heap):Prop where
  kin:K.In base
  glob:base.Ns mainGlobals mg
  blt:∃ mb,base.Ns builtinsNs mb/\∀ x:Str,x≠"__name__"->mb x=bootBuiltins x
  nolimit:base.NoLimit
structure Cx where
  prog:Program
  w:World
  K:PySem.W.Frag
  mg:Str->Option Value
  base:Heap
  A:Around
  N:List Str
  s₀:Shared
  H₀:Hp
  env:Env
  outer:List Env
  stack:List Env
  ex:List Addr
  fn:Str->Bool
  calm:Bool
  pn:List (Addr × Obj)
  xe:Value->Shared->Prop
def frs (l:List Env):List Addr:=l.filterMap (·.frame)
abbrev Cx.fs (X:Cx):List Addr:=frs X.outer
def Vis (sc:Scope) (x:Str):Prop:=sc.names.lookup x=some .local \/ sc.names.lookup x=some .cell\/sc.names.lookup x=some .free
def Loc (sc:Scope) (x:Str):Prop:=sc.names.lookup x=some .local \/ sc.names.lookup x=some .cell
def Look (env:Env) (h:Heap) (m:Str->Option Value) (x:Str) (u:Value):Prop :=
  (env.kindOf x=some .local /\ m x=some u)\/((env.kindOf x=some .cell\/env.kindOf x=some .free)/\∃ c,env.cells.lookup x=some c/\h.IsCell c (some u))
structure Cx.Ok (X:Cx):Prop where
  mod:Mod X.K X.mg X.base
  kind:X.env.scope.kind=.function
  glob:X.env.globals=mainGlobals
  blt:X.env.builtins=builtinsNs
  above:X.s₀.heap.objs.size<=X.env.locals
  inj:∀ x y c,X.env.cells.lookup x=some c->X.env.cells.lookup y=some c->x=y
  has:∀ x,(X.env.kindOf x=some .cell\/X.env.kindOf x=some .free)->∃ c,X.env.cells.lookup x=some c
  cab:∀ x c,X.fn x=true->X.env.cells.lookup x=some c->X.s₀.heap.objs.size<=c
  hd:X.calm=true->X.A.handled=none
  frames:X.A.frames=some X.stack
  stk:X.stack=X.outer\/(X.stack=X.env::X.outer/\X.env.frame=some X.env.locals)
  exf:∀ b∈X.ex,b≠X.env.locals/\∀ x c,X.env.cells.lookup x=some c->c≠b
  bs:∀ b o,X.base.get? b=some o->X.s₀.heap.get? b=some o/\X.H₀ b=none
  bsz:X.base.objs.size<=X.s₀.heap.objs.size
  noex:∀ b o,X.base.get? b=some o->b∉X.ex
  exfs:∀ b∈X.ex,b∉X.fs
  funs:X.s₀.heap.FunFrames X.base X.outer
  frf:∀ b∈X.fs,X.H₀ b=none
structure Inv (X:Cx) (pins:List (Addr × Obj)) (σ:List (Option V)) (H:Hp) (s:Shared):Prop where
  ok:X.Ok
  os:s.os=X.s₀.os
  bare:AllBare s.gens
  base:Un X.fs X.ex X.H₀ H X.s₀.heap s.heap
  loc:∃ m,s.heap.Ns X.env.locals m/\∀ (i:Nat) (x:Str) (v:V),X.N[i]?=some x->σ[i]?=some (some v)->Vis X.env.scope x->∃ u,RelV v u/\Look X.env s.heap m x u
  cell:∀ x c,X.env.cells.lookup x=some c->∃ v,s.heap.IsCell c v
  free:H X.env.locals=none
  freeC:∀ x c,X.env.cells.lookup x=some c->H c=none
  pin:∀ p∈X.pn++pins,s.heap.get? p.1=some p.2/\H p.1=none/\p.1≠X.env.locals/\p.1∉X.fs/\∀ v,p.2.data≠.cell v
  hok:HOk X.prog X.w H s.heap
  len:σ.length=X.N.length
section
variable {X:Cx}{pins:List (Addr × Obj)}{σ:List (Option V)}{H H':Hp}{s:Shared}{h':Heap}
theorem Cx.Ok.nofr (ok:X.Ok) {b:Addr}{o:Obj}(e:X.base.get? b=some o):b∉X.fs:=λhb=>by
  have:=(ok.funs.mem hb).1
  rw[e]at this;cases this
theorem Inv.bs (I:Inv X pins σ H s):∀ b o,X.base.get? b=some o->s.heap.get? b=some o/\H b=none:=λb o e =>
  ⟨I.base.keep b o (I.ok.bs b o e).1 (I.ok.bs b o e).2 (I.ok.nofr e) (I.ok.noex b o e),I.base.free b o (I.ok.bs b o e).1 (I.ok.bs b o e).2 (I.ok.noex b o e)⟩
theorem Inv.bk (I:Inv X pins σ H s):∀ b o,X.base.get? b=some o->s.heap.get? b=some o:=λb o e=>(I.bs b o e).1
theorem Inv.mod (I:Inv X pins σ H s):Mod X.K X.mg X.base:=I.ok.mod
theorem Inv.kIn (I:Inv X pins σ H s):X.K.In s.heap:=I.ok.mod.kin.keeps I.bk
theorem Inv.lt (I:Inv X pins σ H s):X.env.locals<s.heap.objs.size:=let ⟨_,a,_⟩:=I.loc;a.lt
theorem Inv.sz (I:Inv X pins σ H s):X.s₀.heap.objs.size<=s.heap.objs.size:=Y3 I.ok.above (Nat.le_of_lt I.lt)
theorem Inv.nofs (I:Inv X pins σ H s) {a:Addr}(h:s.heap.objs.size<=a):a∉X.fs:=λhb=>by
  obtain⟨_,o,b,_⟩:=I.ok.funs.mem hb
  exact absurd (JJ (Jr b) (Y3 I.sz h)) (YG _)
theorem Inv.cne (I:Inv X pins σ H s):∀ x c,X.env.cells.lookup x=some c->c≠X.env.locals:=λx c e z=>by
  obtain⟨v,o,d,hd⟩:=I.cell x c e
  obtain⟨m,⟨o',es,ep,a,b,_⟩,_⟩:=I.loc
  rw[z,a]at d;cases d;rw[b]at hd;cases hd
theorem Inv.funs (I:Inv X pins σ H s):s.heap.FunFrames X.base X.outer:=by
  have all:∀ (l:List Env),(∀ b∈frs l,b∈X.fs)->X.s₀.heap.FunFrames X.base l->s.heap.FunFrames X.base l:=by
    intro l
    induction l with
    | nil=>intro _ _;trivial
    | cons env r ih =>
      intro d i
      obtain⟨j,⟨L,o,a,h,g,hd⟩,f⟩:=i
      have c:L∈X.fs:=d L (by unfold frs;rw[List.filterMap_cons,a];exact JH)
      obtain⟨sl,e⟩:=I.base.slot L o g (I.ok.frf L c) c λz=>I.ok.exfs L z c
      exact⟨j,⟨L,_,a,h,e,hd⟩,ih (λb hb=>d b (by unfold frs;rw[List.filterMap_cons,a];exact JG _ hb)) f⟩
  exact all X.outer (λ_ hb=>hb) I.ok.funs
theorem Inv.stack (I:Inv X pins σ H s):s.heap.FunFrames X.base X.stack:=by
  rcases I.ok.stk with e|⟨e,b⟩
  · rw[e];exact I.funs
  · rw[e]
    obtain⟨m,a,_⟩:=I.loc
    refine .cons (by rw[I.ok.kind];decide) b a ?_ I.funs
    exact Heap.get?_none_of_le (Y3 I.ok.bsz I.ok.above)
theorem Inv.stkSub (I:Inv X pins σ H s):∀ b∈frs X.stack,b∈X.env.locals::X.fs:=λb hb=>by
  rcases I.ok.stk with e|⟨e,a⟩
  · rw[e]at hb;exact JG _ hb
  · rw[e]at hb
    unfold frs at hb
    rw[List.filterMap_cons,a]at hb
    exact hb
theorem Inv.stkFree (I:Inv X pins σ H s):∀ b∈frs X.stack,H b=none:=λb hb=>by
  rcases Jt.mp (I.stkSub b hb) with e|hb
  · rw[e];exact I.free
  · obtain⟨_,o,a,_⟩:=I.ok.funs.mem hb
    exact I.base.free b o a (I.ok.frf b hb) λz=>I.ok.exfs b z hb
theorem Inv.step {g':Array GenState}{t':Nat}{d':Drawn}{ch:List Addr}(I:Inv X pins σ H s)
    (g:∀ b∈ch,(b∈X.ex\/X.s₀.heap.objs.size<=b)/\b≠X.env.locals/\(∀ x c,X.env.cells.lookup x=some c->c≠b)/\∀ p∈X.pn++pins,p.1≠b)
    (keep:∀ b o,b≠X.env.locals->b∉X.fs->b∉ch->s.heap.get? b=some o->H b=none->h'.get? b=some o)
    (slot:∀ b o,b≠X.env.locals->b∈X.fs->b∉ch->s.heap.get? b=some o->H b=none->∃ sl,h'.get? b=some { o with slots:=sl }) (free:∀ b o,b∉ch->s.heap.get? b=some o->H b=none->H' b=none)
    (there:∀ b o,b∉ch->s.heap.get? b=some o->∃ o',h'.get? b=some o')
    (tups:∀ b xs,H b=some (.tup xs)->H' b=some (.tup xs)) (frzs:∀ b o u,H b=some (.frz o u)->H' b=some (.frz o u)) (tbls:∀ b ps,H b=some (.tbl ps)->∃ more,H' b=some (.tbl (ps++more)))
    (ns:∀ m,s.heap.Ns X.env.locals m->h'.Ns X.env.locals m) (hok:HOk X.prog X.w H' h') (J:AllBare g') :
    Inv X pins σ H' { s with heap:=h',gens:=g',drawn:=d',toks:=t' }:=by
  have w:∀ b o,X.s₀.heap.get? b=some o->b≠X.env.locals:=λb o e=>JF (JJ (Jr e) I.ok.above)
  have j:∀ b o,X.s₀.heap.get? b=some o->b∉X.ex->b∉ch:=λb o e a hb=>by
    rcases (g b hb).1 with z|z
    · exact a z
    · exact absurd (JJ (Jr e) z) (YG _)
  have cellK:∀ x c,X.env.cells.lookup x=some c->∀ v,s.heap.IsCell c v->h'.IsCell c v:=λx c e v ⟨o,t,hd⟩=>by
    have f:c∉ch:=λz=>(g c z).2.2.1 x c e rfl
    by_cases C:c∈X.fs
    · obtain⟨sl,q⟩:=slot c o (I.cne x c e) C f t (I.freeC x c e)
      exact⟨_,q,hd⟩
    · exact⟨o,keep c o (I.cne x c e) C f t (I.freeC x c e),hd⟩
  refine⟨I.ok,I.os,J,⟨λb o e n hb a=>?_,λb o e n hb a=>?_,λb o e n a=>?_,λb o e a=>?_,λb xs e=>tups b xs (I.base.tups b xs e),λb o xs e=>frzs b o xs (I.base.frzs b o xs e),λb ps e=>?_⟩,?_,λx c e=>?_,?_,λx c e=>?_,λp B=>?_,hok,I.len⟩
  · exact keep b o (w b o e) hb (j b o e a) (I.base.keep b o e n hb a) (I.base.free b o e n a)
  · obtain⟨sl,h⟩:=I.base.slot b o e n hb a
    obtain⟨y,e2⟩:=slot b _ (w b o e) hb (j b o e a) h (I.base.free b o e n a)
    exact⟨y,e2⟩
  · obtain⟨o',h⟩:=I.base.there b o e a
    exact free b o' (j b o e a) h (I.base.free b o e n a)
  · obtain⟨o',h⟩:=I.base.there b o e a
    exact there b o' (j b o e a) h
  · obtain⟨E,h⟩:=I.base.tbls b ps e
    obtain⟨D,e2⟩:=tbls b _ h
    exact⟨E++D,by rw[e2,Array.append_assoc]⟩
  · obtain⟨m,F,G⟩:=I.loc
    refine⟨m,ns m F,λi x v h e2 K=>?_⟩
    obtain⟨u,r,l⟩:=G i x v h e2 K
    refine⟨u,r,?_⟩
    rcases l with l|⟨k,c,e,z⟩
    · exact .inl l
    · exact .inr ⟨k,c,e,cellK x c e _ z⟩
  · obtain⟨v,z⟩:=I.cell x c e
    exact⟨v,cellK x c e v z⟩
  · obtain⟨m,⟨o,_,_,t,_⟩,_⟩:=I.loc
    exact free _ o (λz=>(g _ z).2.1 rfl) t I.free
  · obtain⟨v,o,t,hd⟩:=I.cell x c e
    exact free c o (λz=>(g c z).2.2.1 x c e rfl) t (I.freeC x c e)
  · obtain⟨e,n,ne,A,d⟩:=I.pin p B
    have f:p.1∉ch:=λz=>(g p.1 z).2.2.2 p B rfl
    exact⟨keep p.1 p.2 ne A f e n,free p.1 p.2 f e n,ne,A,d⟩
theorem Inv.un {t':Nat}(I:Inv X pins σ H s) (u:Un X.fs [] H H' s.heap h') (hok:HOk X.prog X.w H' h'):Inv X pins σ H' { s with heap:=h',toks:=t' }:=by
  obtain⟨m,⟨o,es,ep,f,r⟩,_⟩:=id I.loc
  obtain⟨sl,i⟩:=u.any f I.free (by simp)
  exact I.step (g':=s.gens) (d':=s.drawn) (ch:=[]) (λ_ z=>nomatch z) (λb o _ hb _ e n=>u.keep b o e n hb (by simp)) (λb o _ hb _ e n=>u.slot b o e n hb (by simp)) (λb o _ e n=>u.free b o e n (by simp)) (λb o _ e=>u.there b o e (by simp)) u.tups u.frzs u.tbls (λj h=>by
    obtain⟨o',c,d,a,g⟩:=h
    rw[f]at a;cases a
    exact⟨_,c,d,i,g⟩) hok I.bare
theorem Inv.call {g':Array GenState}{t':Nat}{d':Drawn}{ch:List Addr}(I:Inv X pins σ H s) (u:Un (frs X.stack) ch H H' s.heap h') (hok:HOk X.prog X.w H' h') (q:AllBare g')
    (f:∀ b∈ch,(b∈X.ex\/X.s₀.heap.objs.size<=b)/\b≠X.env.locals/\(∀ x c,X.env.cells.lookup x=some c->c≠b)/\∀ p∈X.pn++pins,p.1≠b) :
    Inv X pins σ H' { s with heap:=h',gens:=g',drawn:=d',toks:=t' }:=by
  obtain⟨m,⟨o,es,ep,j,r⟩,_⟩:=id I.loc
  obtain⟨sl,g⟩:=u.any j I.free λz=>(f _ z).2.1 rfl
  exact I.step (ch:=ch) f (λb o g hb a e n=>u.keep b o e n (λz=>(Jt.mp (I.stkSub b z)).elim g hb) a) (λb o _ _ a e n=>u.any e n a) (λb o a e n=>u.free b o e n a) (λb o a e=>u.there b o e a) u.tups u.frzs u.tbls (λt l=>by
    obtain⟨o',h,i,d,k⟩:=l
    rw[j]at d;cases d
    exact⟨_,h,i,g,k⟩) hok q
theorem Inv.turned {t':Nat}{it:Addr}(I:Inv X pins σ H s) (k:∀ b o,b≠it->s.heap.get? b=some o->h'.get? b=some o) (h:H it=none) (f:it≠X.env.locals)
    (h1:it∈X.ex\/X.s₀.heap.objs.size<=it) (l:∀ x c,X.env.cells.lookup x=some c->c≠it) (j:∀ p∈X.pn++pins,p.1≠it):Inv X pins σ H { s with heap:=h',toks:=t' }:=by
  have d:∀ b u,H b=some u->b≠it:=λb u e z=>by rw[z,h]at e;cases e
  refine I.step (g':=s.gens) (d':=s.drawn) (ch:=[it]) (λb hb=>?_) (λb o _ _ a e _=>k b o (λz=>a (by simp[z])) e) (λb o _ _ a e _=>⟨o.slots,k b o (λz=>a (by simp[z])) e⟩) (λ_ _ _ _ n=>n)
    (λb o a e=>⟨o,k b o (λz=>a (by simp[z])) e⟩) (λ_ _ e=>e) (λ_ _ _ e=>e) (λb ps e=>⟨#[],by rw[e];simp⟩) (λm i=>?_) (λb u e=>?_) I.bare
  · have e:b=it:=by simpa using hb
    subst e
    exact⟨h1,f,l,j⟩
  · obtain⟨o,es,ep,g,r⟩:=i
    exact⟨o,es,ep,k _ o (Ne.symm f) g,r⟩
  · refine(I.hok b u e).stay (λc v a q=>k c v ?_ q) (λ_ q=>q) λ_ _ q=>q
    rcases a with z|z
    · rw[z];exact d b u e
    · exact d c _ z
theorem Inv.tok (I:Inv X pins σ H s) (t:Nat):Inv X pins σ H { s with toks:=t }:=I.un (h':=s.heap) (t':=t) Un.refl I.hok
theorem Inv.kept {t':Nat}(I:Inv X pins σ H s) (k:∀ b u,s.heap.get? b=some u->h'.get? b=some u):Inv X pins σ H { s with heap:=h',toks:=t' }:=I.un (Un.kept k) (I.hok.kept k)
theorem Inv.laid {a:Addr}{o:HO}{t':Nat}(I:Inv X pins σ H s) (k:∀ b u,s.heap.get? b=some u->h'.get? b=some u) (c:s.heap.objs.size<=a) (new:ObjOk X.prog X.w (upd H a o) h' a o) :
    Inv X pins σ (upd H a o) { s with heap:=h',toks:=t' }:=I.un (Un.laid k c (I.hok.fresh c)) (I.hok.laid k c new)
theorem Inv.write {x e:Addr}{o:HO}{t':Nat}(I:Inv X pins σ H s) (c:Mut (H x)) (d:e=x\/H e=some (.own x)) (k:∀ b u,b≠e->s.heap.get? b=some u->h'.get? b=some u) (a:∃ u,h'.get? e=some u)
    (new:ObjOk X.prog X.w (upd H x o) h' x o):Inv X pins σ (upd H x o) { s with heap:=h',toks:=t' }:=I.un (Un.write c d k a) (I.hok.write c d k a new)
theorem Inv.pins_of {a:List (Addr × Obj)}(I:Inv X pins σ H s) (h:∀ p∈a,s.heap.get? p.1=some p.2/\H p.1=none/\p.1≠X.env.locals/\p.1∉X.fs/\∀ v,p.2.data≠.cell v):Inv X a σ H s :=
  ⟨I.ok,I.os,I.bare,I.base,I.loc,I.cell,I.free,I.freeC,λp b=>(JB.mp b).elim (λz=>I.pin p (Yp _ z)) (h p),I.hok,I.len⟩
theorem zgj {N:List Str}(c:N.Nodup) {i j:Nat}{x:Str}(a:N[i]?=some x) (b:N[j]?=some x):i=j:=by
  obtain⟨h1,d⟩:=Jc.mp a
  obtain⟨e,e2⟩:=Jc.mp b
  exact(List.getElem_inj c).mp (d.trans e2.symm)
theorem zeo {M:Model}{A:Around}{E:Value->Shared->Prop}{i:Nat}{x:Str}{v:V}{u:Value}{Q:Unit->Shared->Prop}(I:Inv X pins σ H s) (hN:X.N.Nodup) (hi:X.N[i]?=some x) (t:Loc X.env.scope x) (r:RelV v u)
    (h:∀ s',Inv X pins (σ.set i (some v)) H s'->(∃ a,Heap.SameBut a s.heap s'.heap/\(a=X.env.locals\/X.env.cells.lookup x=some a))->Q () s') (hf:X.fn x=true\/X.env.scope.names.lookup x=some .local:=by first|exact .inl rfl|exact .inr rfl|assumption):wpAny M A (storeName X.env x u) Q E s:=by
  obtain⟨m,Y,hl⟩:=id I.loc
  have N:(X.env.scope.kind == .class || (X.env.scope.kind == .module && X.env.locals != X.env.globals))=false:=by rw[I.ok.kind];rfl
  have C:i<σ.length:=by rw[I.len];exact(Jc.mp hi).1
  have cne:=I.cne
  have tracked:∀ {a:Addr}{h':Heap},(∃ o,s.heap.get? a=some o/\H a=none)->Heap.SameBut a s.heap h'->HOk X.prog X.w H h':=λ{a h'} ha f b ob e=>by
    obtain⟨_,_,w⟩:=ha
    refine(I.hok b ob e).stay (λc O l q=>(f.2 c ?_).trans q) (λ_ q=>q) λ_ _ q=>q
    rintro rfl
    rcases l with rfl|l
    · rw[w]at e;cases e
    · rw[w]at l;cases l
  rcases t with B|B
  · refine wpAny_storeName_local B Y (λh' ab f=>?_) N
    obtain⟨oL,_,_,aa,_⟩:=id Y
    refine h _ ⟨I.ok,I.os,I.bare,⟨λb o e n hb t=>?_,λb o e n hb t=>?_,I.base.free,λb o e t=>?_,I.base.tups,I.base.frzs,I.base.tbls⟩,⟨_,ab,λj y R g e2 Z=>?_⟩,λy c e=>?_,I.free,I.freeC,λp W=>?_,tracked ⟨oL,aa,I.free⟩ f,by simpa using I.len⟩ ⟨_,f,.inl rfl⟩
    · exact(f.2 b (JF (JJ (Jr e) I.ok.above))).trans (I.base.keep b o e n hb t)
    · obtain⟨sl,g⟩:=I.base.slot b o e n hb t
      exact⟨sl,(f.2 b (JF (JJ (Jr e) I.ok.above))).trans g⟩
    · obtain⟨o',g⟩:=I.base.there b o e t
      exact⟨o',(f.2 b (JF (JJ (Jr e) I.ok.above))).trans g⟩
    · by_cases D:j=i
      · subst D
        rw[hi]at g;cases g
        rw[List.getElem?_set_self C]at e2
        cases e2
        exact⟨u,r,.inl ⟨B,by simp⟩⟩
      · rw[List.getElem?_set_ne (Ne.symm D)]at e2
        obtain⟨S,T,q⟩:=hl j y R g e2 Z
        refine⟨S,T,?_⟩
        rcases q with ⟨k,e⟩|⟨k,c,e,z⟩
        · refine .inl ⟨k,?_⟩
          have:y≠x:=λe=>D (zgj hN g (e ▸ hi))
          simp[this,e]
        · exact .inr ⟨k,c,e,z.sameBut f (cne y c e)⟩
    · obtain⟨O,z⟩:=I.cell y c e
      exact⟨O,z.sameBut f (cne y c e)⟩
    · obtain⟨e,n,ne,U,d⟩:=I.pin p W
      exact⟨(f.2 p.1 ne).trans e,n,ne,U,d⟩
  · have F:X.fn x=true:=by
      rcases hf with z|z
      · exact z
      · rw[z]at B;cases B
    obtain⟨c,l⟩:=I.ok.has x (.inl B)
    obtain⟨O,z⟩:=I.cell x c l
    refine wpAny_storeName_cell I.ok.kind B l z (λh' K f=>?_)
    obtain⟨oc,G,L⟩:=id z
    refine h { s with heap:=h' } ⟨I.ok,I.os,I.bare,⟨λb o e n hb t=>?_,λb o e n hb t=>?_,I.base.free,λb o e t=>?_,I.base.tups,I.base.frzs,I.base.tbls⟩,⟨m,Y.sameBut f (Ne.symm (cne x c l)),λj y R g e2 Z=>?_⟩,λy P e=>?_,I.free,I.freeC,λp W=>?_,tracked ⟨oc,G,I.freeC x c l⟩ f,by simpa using I.len⟩ ⟨c,f,.inr l⟩
    · exact(f.2 b (JF (JJ (Jr e) (I.ok.cab x c F l)))).trans (I.base.keep b o e n hb t)
    · obtain⟨sl,g⟩:=I.base.slot b o e n hb t
      exact⟨sl,(f.2 b (JF (JJ (Jr e) (I.ok.cab x c F l)))).trans g⟩
    · obtain⟨o',g⟩:=I.base.there b o e t
      exact⟨o',(f.2 b (JF (JJ (Jr e) (I.ok.cab x c F l)))).trans g⟩
    · by_cases D:j=i
      · subst D
        rw[hi]at g;cases g
        rw[List.getElem?_set_self C]at e2
        cases e2
        exact⟨u,r,.inr ⟨.inl B,c,l,K⟩⟩
      · rw[List.getElem?_set_ne (Ne.symm D)]at e2
        obtain⟨S,T,q⟩:=hl j y R g e2 Z
        refine⟨S,T,?_⟩
        rcases q with q|⟨k,P,e,z'⟩
        · exact .inl q
        · refine .inr ⟨k,P,e,z'.sameBut f ?_⟩
          rintro rfl
          exact D (zgj hN g (I.ok.inj _ _ _ e l ▸ hi))
    · by_cases J:P=c
      · subst J;exact⟨_,K⟩
      · obtain⟨w2,z2⟩:=I.cell y P e
        exact⟨w2,z2.sameBut f J⟩
    · obtain⟨e,n,ne,U,d⟩:=I.pin p W
      refine⟨(f.2 p.1 ?_).trans e,n,ne,U,d⟩
      intro q
      rw[q,G]at e
      have q':oc=p.2:=Jn e
      exact d O (by rw[<- q'];exact L)
theorem zbD {M:Model}{A:Around}{E:Value->Shared->Prop}{i:Nat}{x:Str}{v:V}{u:Value}{Q:Unit->Shared->Prop}(I:Inv X pins σ H s) (c:X.N.Nodup) (hi:X.N[i]?=some x) (a:Loc X.env.scope x) (r:RelV v u)
    (h:∀ s',Inv X pins (σ.set i (some v)) H s'->Q () s') (b:X.fn x=true\/X.env.scope.names.lookup x=some .local:=by first|exact .inl rfl|exact .inr rfl|assumption):wpAny M A (storeName X.env x u) Q E s :=
  zeo I c hi a r (λs' d _=>h s' d) b
theorem Inv.call' {s':Shared}{ch:List Addr}(I:Inv X pins σ H s) (d:s'.os=s.os) (u:Un (frs X.stack) ch H H' s.heap s'.heap) (hok:HOk X.prog X.w H' s'.heap) (f:AllBare s'.gens)
    (a:∀ b∈ch,(b∈X.ex\/X.s₀.heap.objs.size<=b)/\b≠X.env.locals/\(∀ x c,X.env.cells.lookup x=some c->c≠b)/\∀ p∈X.pn++pins,p.1≠b):Inv X pins σ H' s':=by
  obtain⟨h',g',d',t',o'⟩:=s'
  have e:o'=s.os:=d
  subst e
  exact I.call (g':=g') (t':=t') (d':=d') u hok f a
end
abbrev XK:=Value->Option Addr->Hp->Prop
abbrev St:=List (Option V)
abbrev VK:=V->Hp->Prop
abbrev TE:=St->Hp->VK->Prop
abbrev TT:=St->Hp->(Bool->Hp->Prop)->Prop
abbrev TA:=St->Hp->(List V->Hp->Prop)->Prop
structure Ends where
  nx:St->Hp->Prop
  rt:VK
  bk:St->Hp->Prop:=λ_ _=>False
  ct:St->Hp->Prop:=λ_ _=>False
abbrev TS:=Ends->St->Hp->Prop
def EP (X:Cx) (pins:List (Addr × Obj)) (σ:St) (Q:VK) (u:Value) (s':Shared):Prop:=∃ v H',Inv X pins σ H' s'/\RelV v u/\Q v H'
def TP (X:Cx) (pins:List (Addr × Obj)) (σ:St) (Q:Bool->Hp->Prop) (b:Bool) (s':Shared):Prop:=∃ H',Inv X pins σ H' s'/\Q b H'
def AP (X:Cx) (pins:List (Addr × Obj)) (σ:St) (Q:List V->Hp->Prop) (us:List Value) (s':Shared):Prop:=∃ vs H',Inv X pins σ H' s'/\Vals vs us/\Q vs H'
def SP (X:Cx) (pins:List (Addr × Obj)) (D:Ends) (f:Flow) (s':Shared):Prop :=
  match f with
  | .next=>∃ a H',Inv X pins a H' s'/\D.nx a H'
  | .brk=>∃ a H',Inv X pins a H' s'/\D.bk a H'
  | .cont=>∃ a H',Inv X pins a H' s'/\D.ct a H'
  | .ret u=>∃ v a H',Inv X pins a H' s'/\RelV v u/\D.rt v H'
def PE (X:Cx) (e:Expr) (t:TE):Prop :=
  ∀ (pins:List (Addr × Obj)) (s:Shared) (σ:St) (H:Hp) (Q:VK),Inv X pins σ H s->t σ H Q->wpAny (model X.prog X.w) X.A (eval e X.env) (EP X pins σ Q) X.xe s
def PT (X:Cx) (e:Expr) (t:TT):Prop :=
  ∀ (pins:List (Addr × Obj)) (s:Shared) (σ:St) (H:Hp) (Q:Bool->Hp->Prop),Inv X pins σ H s->t σ H Q->wpAny (model X.prog X.w) X.A (isTrue e X.env (eval e X.env)) (TP X pins σ Q) X.xe s
def PA (X:Cx) (es:List Expr) (t:TA):Prop :=
  ∀ (pos:Pos) (pins:List (Addr × Obj)) (s:Shared) (σ:St) (H:Hp) (Q:List V->Hp->Prop),Inv X pins σ H s->t σ H Q->wpAny (model X.prog X.w) X.A (spliced (backTo pos (starEach es X.env))) (AP X pins σ Q) X.xe s
def PS (X:Cx) (st:Stmt) (t:TS):Prop :=
  ∀ (pins:List (Addr × Obj)) (s:Shared) (σ:St) (H:Hp) (D:Ends),Inv X pins σ H s->t D σ H->wpAny (model X.prog X.w) X.A (exec st X.env) (SP X pins D) X.xe s
def PSs (X:Cx) (st:List Stmt) (t:TS):Prop :=
  ∀ (pins:List (Addr × Obj)) (s:Shared) (σ:St) (H:Hp) (D:Ends),Inv X pins σ H s->t D σ H->wpAny (model X.prog X.w) X.A (execs st X.env) (SP X pins D) X.xe s
theorem thn {α:Type}{t:Sem α}{Q b:α->Shared->Prop}{M:Model}{A:Around}{E:Value->Shared->Prop}{s:Shared}(h:wpAny M A t Q E s) (c:∀ a s,Q a s->b a s):wpAny M A t b E s:=JT h c λ_ _ x=>x
section
variable {X:Cx}
def tVar (i:Nat):TE:=λσ H Q=>∃ v,σ[i]?=some (some v)/\Q v H
def tC (v:V):TE:=λ_ H Q=>Q v H
theorem zmt {i:Nat}{x:Str}{pos:Pos}(o:X.N[i]?=some x) (g:Vis X.env.scope x) (hd:(x == ("__debug__":Str))=false:=by decide) (d:(x == ("__classdict__":Str))=false:=by decide):PE X (.Name x pos) (tVar i):=by
  intro pins s σ H Q I h
  obtain⟨v,e,h⟩:=h
  obtain⟨m,j,n⟩:=I.loc
  obtain⟨u,r,l⟩:=n i x v o e g
  have fin:EP X pins σ Q u s:=⟨v,H,I,r,h⟩
  rcases l with ⟨b,k⟩|⟨b,c,f,a⟩
  · exact wpAny_Name (wpAny_loadName_local I.ok.kind b j k fin) hd
  · rcases b with b|b
    · exact wpAny_Name (wpAny_loadName_cell I.ok.kind b f a fin) hd
    · exact wpAny_Name (wpAny_loadName_free I.ok.kind b f a fin d) hd
theorem zad {i j pos}:PE X (.Constant (.int i) j pos) (tC (.int i)):=λ_ _ _ H _ I h=>wpAny_Constant_int ⟨.int i,H,I.tok _,⟨_,rfl⟩,h⟩
theorem zjM {b j pos}:PE X (.Constant (.bool b) j pos) (tC (.bl b)):=λ_ _ _ H _ I h=>Constant_bool ⟨.bl b,H,I,rfl,h⟩
theorem zh1 {j pos}:PE X (.Constant .none j pos) (tC .non):=λ_ _ _ H _ I h=>Constant_none ⟨.non,H,I,rfl,h⟩
theorem zc8 {x j pos}:PE X (.Constant (.str x) j pos) (tC (.str x)):=λ_ _ _ H _ I h=>Calls.Constant_str ⟨.str x,H,I.tok _,⟨_,rfl⟩,h⟩
def Gl (X:Cx) (x:Str):Prop:=X.env.kindOf x=some .globalImplicit
theorem ziB {E:Value->Shared->Prop}{pins:List (Addr × Obj)}{s:Shared}{σ:St}{H:Hp}{x:Str}{u:Value}{pos:Pos}{Q:Value->Shared->Prop}(I:Inv X pins σ H s) (b:Gl X x) (a:X.mg x=some u) (h:Q u s)
    (hd:(x == ("__debug__":Str))=false:=by decide):wpAny (model X.prog X.w) X.A (eval (.Name x pos) X.env) Q E s :=
  Calls.Name_function_global I.ok.kind b (Calls.loadGlobal_global (by rw[I.ok.glob];exact I.mod.glob.keeps I.bk) a h) hd
theorem zb0 {E:Value->Shared->Prop}{pins:List (Addr × Obj)}{s:Shared}{σ:St}{H:Hp}{x:Str}{u:Value}{pos:Pos}{Q:Value->Shared->Prop}(I:Inv X pins σ H s) (d:Gl X x) (c:X.mg x=none) (a:bootBuiltins x=some u) (h:Q u s)
    (b:x≠"__name__":=by decide) (hd:(x == ("__debug__":Str))=false:=by decide):wpAny (model X.prog X.w) X.A (eval (.Name x pos) X.env) Q E s:=by
  obtain⟨mb,h1,e⟩:=I.mod.blt
  exact Calls.Name_function_global I.ok.kind d (Calls.loadGlobal_builtin (by rw[I.ok.glob];exact I.mod.glob.keeps I.bk) c (by rw[I.ok.blt];exact h1.keeps I.bk) ((e x b).trans a) h) hd
variable {a b:Expr}{ta tb:TE}{pos:Pos}
def tB (t:TE):TT:=λσ H Q=>t σ H λx H1=>∃ c,x=.bl c/\Q c H1
theorem zmr {e:Expr}{t:TE}(h:PE X e t) (f:∀ whole,isTrue e X.env whole=(do let v <- whole;standAt e.pos;holding [v] (truthy v)):=by intro _;rfl):PT X e (tB t):=by
  intro pins s σ H Q I c
  refine isTrue_plain (thn (h pins s σ H _ I c) λv s1 ⟨x,H1,g,a,b⟩=>?_) (f _)
  obtain⟨d,rfl,q⟩:=b
  cases a
  exact Z0 ⟨H1,g,q⟩
variable {tA:TT}{rest:List Expr}
def tNot (t:TT):TT:=λσ H Q=>t σ H λc H1=>Q (!c) H1
theorem zms (ha:PT X a tA):PT X (.UnaryOp .Not a pos) (tNot tA):=by
  intro pins s σ H Q I h
  exact isTrue_not (ha pins s σ H (λc H1=>Q (!c) H1) I h)
def znk (ta tb:TE):TE:=λσ H Q=>ta σ H λx H1=>∃ c,x=.bl c/\if c=true then tb σ H1 Q else Q (.bl false) H1
theorem zmv {op} {t:TE}(h:PE X a t):PE X (.BoolOp op [a] pos) t:=λpins s σ H Q I b=>BoolOp_one (h pins s σ H Q I b)
theorem zmy (ha:PE X a ta) (hb:PE X (.BoolOp .And (b::rest) pos) tb):PE X (.BoolOp .And (a::b::rest) pos) (znk ta tb):=by
  intro pins s σ H Q I h
  refine BoolOp_and (thn (ha pins s σ H _ I h) λv s1 ⟨x,H1,e,f,d⟩=>?_)
  obtain⟨c,rfl,d⟩:=d
  cases f
  refine Z0 ?_
  cases c with
  | true=>exact hb pins s1 σ H1 Q e d
  | false=>exact⟨.bl false,H1,e,rfl,d⟩
def tIf (t:TT) (ta tb:TE):TE:=λσ H Q=>t σ H λc H1=>if c=true then ta σ H1 Q else tb σ H1 Q
theorem zdY {c:Expr}(g:PT X c tA) (ha:PE X a ta) (hb:PE X b tb):PE X (.IfExp c a b pos) (tIf tA ta tb):=by
  intro pins s σ H Q I h
  refine wpAny_IfExp (thn (g pins s σ H _ I h) λd s1 ⟨H1,f,e⟩=>?_)
  cases d with
  | true=>exact ha pins s1 σ H1 Q f e
  | false=>exact hb pins s1 σ H1 Q f e
end
def SqL (K:PySem.W.Frag) (H:Hp) (a:Addr) (xs:List V):Prop :=
  Rd H a (.lst xs) \/
    ∃ (o:Obj) (its:Array Value) (n:Nat),K.lookup a=some o/\o.cls=.type "list"/\o.dict=none/\o.data=.seq its n/\its.size<=sizeLine/\Vals xs its.toList
def SqT (K:PySem.W.Frag) (H:Hp) (a:Addr) (xs:List V):Prop :=
  Rd H a (.tup xs) \/
    ∃ (o:Obj) (its:Array Value) (n:Nat),K.lookup a=some o/\o.cls=.type "tuple"/\o.data=.seq its n/\its.size<=sizeLine/\Vals xs its.toList
def absV:Value->Option V
  | .none=>some .non
  | .bool b=>some (.bl b)
  | .int i _=>some (.int i)
  | .str x _=>some (.str x)
  | .bytes b _=>some (.byt b)
  | .float b _=>some (.flt b)
  | .ref a=>some (.ref a)
  | .type n=>some (.ty n)
  | _=>none
theorem RelV.abs {x:V}{u:Value}(r:RelV x u):absV u=some x:=by
  cases x with
  | non=>cases r;rfl
  | bl _=>cases r;rfl
  | int _=>obtain⟨t,rfl⟩:=r;rfl
  | str _=>obtain⟨t,rfl⟩:=r;rfl
  | byt _=>obtain⟨t,rfl⟩:=r;rfl
  | flt _=>obtain⟨t,rfl⟩:=r;rfl
  | ref _=>cases r;rfl
  | ty _=>cases r;rfl
theorem RelV.inj {x y:V}{u:Value}(r:RelV x u) (q:RelV y u):x=y:=Jn (r.abs.symm.trans q.abs)
theorem Vals.inj:∀ {xs ys:List V}{us:List Value},Vals xs us->Vals ys us->xs=ys
  | _,_,_,.nil,.nil=>rfl
  | _,_,_,.cons r t,.cons a t'=>by rw[r.inj a,Vals.inj t t']
section
variable {X:Cx}{pins:List (Addr × Obj)}{σ:St}{H:Hp}{s:Shared}{a:Addr}{xs ys:List V}
theorem SqL.of {K:PySem.W.Frag}(h:H a=some (.lst xs)):SqL K H a xs:=.inl (.inl h)
theorem SqT.of {K:PySem.W.Frag}(h:H a=some (.tup xs)):SqT K H a xs:=.inl (.inl h)
theorem Inv.list (I:Inv X pins σ H s) (h:SqL X.K H a xs):∃ its:List Value,Vals xs its/\PlainL s.heap a its.toArray/\xs.length<=sizeLine:=by
  rcases h with h|⟨o,its,n,c,d,hd,b,f,r⟩
  · obtain⟨z,its,n,r,e⟩:=h.ok I.hok
    exact⟨its,r,⟨_,n,e,rfl,rfl,rfl⟩,z⟩
  · refine⟨its.toList,r,⟨o,n,I.kIn a o c,d,hd,by simpa using b⟩,?_⟩
    have e:=r.length
    simp only[JA]at e
    omega
theorem Inv.tuple (I:Inv X pins σ H s) (h:SqT X.K H a xs):∃ its:List Value,Vals xs its/\IsTup s.heap a its.toArray/\xs.length<=sizeLine:=by
  rcases h with h|⟨o,its,n,c,d,b,f,r⟩
  · obtain⟨z,its,r,p⟩:=h.ok I.hok
    exact⟨its,r,p.tup,z⟩
  · refine⟨its.toList,r,⟨o,I.kIn a o c,d,n,by simpa using b⟩,?_⟩
    have e:=r.length
    simp only[JA]at e
    omega
theorem Inv.list_inj (I:Inv X pins σ H s) (h:SqL X.K H a xs) (h':SqL X.K H a ys):xs=ys:=by
  obtain⟨its,r,⟨o,n,e,_,_,d⟩,_⟩:=I.list h
  obtain⟨its',c,⟨o',g,b,_,_,d'⟩,_⟩:=I.list h'
  rw[e]at b;cases b
  rw[d]at d'
  injection d' with f _
  have:its=its':=by simpa using JX Array.toList f
  subst this
  exact r.inj c
theorem Inv.tuple_inj (I:Inv X pins σ H s) (h:SqT X.K H a xs) (h':SqT X.K H a ys):xs=ys:=by
  obtain⟨its,r,⟨o,e,_,n,d⟩,_⟩:=I.tuple h
  obtain⟨its',c,⟨o',b,_,g,d'⟩,_⟩:=I.tuple h'
  rw[e]at b;cases b
  rw[d]at d'
  injection d' with f _
  have:its=its':=by simpa using JX Array.toList f
  subst this
  exact r.inj c
end
abbrev Cx.wish (X:Cx) (E:Value->Shared->Prop):Cx:={ X with xe:=E }
abbrev Cx.nox (X:Cx):Cx:=X.wish λ_ _=>False
theorem Cx.Ok.wish {X:Cx}(ok:X.Ok) (E:Value->Shared->Prop):(X.wish E).Ok :=
  ⟨ok.mod,ok.kind,ok.glob,ok.blt,ok.above,ok.inj,ok.has,ok.cab,ok.hd,ok.frames,ok.stk,ok.exf,ok.bs,ok.bsz,ok.noex,ok.exfs,ok.funs,ok.frf⟩
theorem Cx.Ok.unwish {X:Cx}{E:Value->Shared->Prop}(ok:(X.wish E).Ok):X.Ok :=
  ⟨ok.mod,ok.kind,ok.glob,ok.blt,ok.above,ok.inj,ok.has,ok.cab,ok.hd,ok.frames,ok.stk,ok.exf,ok.bs,ok.bsz,ok.noex,ok.exfs,ok.funs,ok.frf⟩
section
variable {X:Cx}{pins:List (Addr × Obj)}{σ:St}{H:Hp}{s:Shared}{E:Value->Shared->Prop}
theorem Inv.wish (I:Inv X pins σ H s) (E:Value->Shared->Prop):Inv (X.wish E) pins σ H s:=⟨I.ok.wish E,I.os,I.bare,I.base,I.loc,I.cell,I.free,I.freeC,I.pin,I.hok,I.len⟩
theorem Inv.unwish (I:Inv (X.wish E) pins σ H s):Inv X pins σ H s:=⟨I.ok.unwish,I.os,I.bare,I.base,I.loc,I.cell,I.free,I.freeC,I.pin,I.hok,I.len⟩
theorem SP.unwish {D:Ends}{f:Flow}{s':Shared}(h:SP (X.wish E) pins D f s'):SP X pins D f s':=by
  cases f with
  | next=>obtain⟨a,H',I,q⟩:=h;exact⟨a,H',I.unwish,q⟩
  | brk=>obtain⟨a,H',I,q⟩:=h;exact⟨a,H',I.unwish,q⟩
  | cont=>obtain⟨a,H',I,q⟩:=h;exact⟨a,H',I.unwish,q⟩
  | ret u=>obtain⟨v,a,H',I,r,q⟩:=h;exact⟨v,a,H',I.unwish,r,q⟩
theorem PSs.nox {st:List Stmt}{t:TS}(h:PSs X.nox st t):PSs X st t:=λpins s σ H D I a =>
  JT (h pins s σ H D (I.wish _) a) (λ_ _ q=>q.unwish) λ_ _ z=>False.elim z
end
section
variable {X:Cx}{st:Stmt}{rest:List Stmt}{t u:TS}{e:Expr}{te:TE}{pos:Pos}
def znc:TS:=λD σ H=>D.nx σ H
def tSeq (t u:TS):TS:=λD σ H=>t { D with nx:=u D } σ H
theorem zaM:PSs X [] znc:=λ_ _ σ H _ I h=>wpAny_execs_nil ⟨σ,H,I,h⟩
theorem zae (h1:PS X st t) (b:PSs X rest u):PSs X (st::rest) (tSeq t u):=by
  intro pins s σ H D I h
  refine wpAny_execs_cons (thn (h1 pins s σ H { D with nx:=u D } I h) λf s1 q=>?_)
  cases f with
  | next =>
    obtain⟨a,H',c,q⟩:=q
    exact b pins s1 a H' D c q
  | ret v=>exact q
  | brk=>exact q
  | cont=>exact q
theorem zai (h1:PS X st t):PSs X [st] t:=by
  intro pins s σ H D I h
  refine wpAny_execs_cons (thn (h1 pins s σ H D I h) λf s1 q=>?_)
  cases f with
  | next=>exact wpAny_execs_nil q
  | ret v=>exact q
  | brk=>exact q
  | cont=>exact q
def zni:TS:=λD σ H=>D.ct σ H
theorem zfn:PS X (.Continue pos) zni:=λ_ _ σ H _ I h=>wpAny_Continue ⟨σ,H,I,h⟩
theorem Inv.quiet {pins:List (Addr × Obj)}{σ:St}{H:Hp}{s:Shared}(I:Inv X pins σ H s):interactive X.env=false:=by simp[interactive,I.ok.kind]
def znh (te:TE):TS:=λD σ H=>te σ H λ_ H1=>D.nx σ H1
theorem zbH (c:PE X e te) (b:swapsWith e none pos.line X.env=pure false:=by rfl):PS X (.Expr e pos) (znh te):=by
  intro pins s σ H D I h
  exact wpAny_Expr_any (thn (c pins s σ H _ I h) λv s1 ⟨x,H1,d,f,a⟩=>⟨σ,H1,d,a⟩) I.quiet b
def tRet (te:TE):TS:=λD σ H=>te σ H D.rt
theorem zav (c:PE X e te):PS X (.Return (some e) pos) (tRet te):=by
  intro pins s σ H D I h
  exact wpAny_Return_some (thn (c pins s σ H _ I h) λv s1 ⟨x,H1,d,a,b⟩=>⟨x,σ,H1,d,a,b⟩)
def tIfS (c:TT) (t u:TS):TS:=λD σ H=>c σ H λb H1=>if b=true then t D σ H1 else u D σ H1
theorem zbj {c:Expr}{a b:List Stmt}{e:TT}(i:PT X c e) (ha:PSs X a t) (hb:PSs X b u):PS X (.If c a b pos) (tIfS e t u):=by
  intro pins s σ H D I h
  refine wpAny_If (thn (i pins s σ H _ I h) λd s1 ⟨H1,g,f⟩=>?_)
  cases d with
  | true=>exact ha pins s1 σ H1 D g f
  | false=>exact hb pins s1 σ H1 D g f
end
abbrev TG:=V->St->Hp->(St->Hp->Prop)->Prop
abbrev TGs:=List V->St->Hp->(St->Hp->Prop)->Prop
def PG (X:Cx) (target:Expr) (t:TG):Prop :=
  ∀ (pins:List (Addr × Obj)) (s:Shared) (σ:St) (H:Hp) (v:V) (u:Value) (Q:St->Hp->Prop),Inv X pins σ H s->RelV v u->t v σ H Q ->
    wpAny (model X.prog X.w) X.A (assign target X.env u) (λ_ s'=>∃ a H',Inv X pins a H' s'/\Q a H') X.xe s
def PGs (X:Cx) (ts:List Expr) (t:TGs):Prop :=
  ∀ (pins:List (Addr × Obj)) (s:Shared) (σ:St) (H:Hp) (vs:List V) (us:List Value) (Q:St->Hp->Prop),Inv X pins σ H s->Vals vs us->t vs σ H Q ->
    wpAny (model X.prog X.w) X.A (assignInOrder ((assignEach ts X.env).map (·.2)) us) (λ_ s'=>∃ a H',Inv X pins a H' s'/\Q a H') X.xe s
abbrev TSet:=V->V->V->Hp->(Hp->Prop)->Prop
def PSet (X:Cx) (t:TSet):Prop :=
  ∀ (pins:List (Addr × Obj)) (s:Shared) (σ:St) (H:Hp) (o i v:V) (a b u:Value) (Q:Hp->Prop),Inv X pins σ H s->RelV o a->RelV i b->RelV v u->t o i v H Q ->
    wpAny (model X.prog X.w) X.A (setItem a b u) (λ_ s'=>∃ H',Inv X pins σ H' s'/\Q H') X.xe s
section
variable {X:Cx}{pos:Pos}
def zcQ (i:Nat):TG:=λv σ H Q=>Q (σ.set i (some v)) H
theorem zal {i:Nat}{x:Str}(c:X.N.Nodup) (hi:X.N[i]?=some x) (a:Loc X.env.scope x) (b:X.fn x=true\/X.env.scope.names.lookup x=some .local:=by first|exact .inl rfl|exact .inr rfl|assumption):PG X (.Name x pos) (zcQ i):=by
  intro pins s σ H v u Q I r h
  exact wpAny_assign_Name (zbD I c hi a r (λs' d=>⟨_,H,d,h⟩) b)
def gNil:TGs:=λvs σ H Q=>vs=[]/\Q σ H
def zfH (t:TG) (u:TGs):TGs:=λvs σ H Q=>∃ v r,vs=v::r/\t v σ H λa H'=>u r a H' Q
theorem zaG:PGs X [] gNil:=by
  intro pins s σ H vs us Q I r h
  obtain⟨e,h⟩:=h
  subst e
  cases r
  exact assignInOrder_nil ⟨σ,H,I,h⟩
theorem zak {e:Expr}{es:List Expr}{t:TG}{u:TGs}(h1:PG X e t) (f:PGs X es u)
    (d:(assignEach (e::es) X.env).map (·.2)=assign e X.env::(assignEach es X.env).map (·.2):=by rfl):PGs X (e::es) (zfH t u):=by
  intro pins s σ H vs us Q I r h
  obtain⟨v,j,g,h⟩:=h
  subst g
  cases r with
  | cons r b =>
    rw[d]
    refine ZL (thn (h1 pins s σ H _ _ _ I r h) λ_ s1 ⟨a,H1,i,c⟩=>?_)
    exact f pins s1 a H1 _ _ Q i b c
def gTup (K:PySem.W.Frag) (n:Nat) (t:TGs):TG:=λv σ H Q=>∃ a xs,v=.ref a/\SqT K H a xs/\xs.length=n/\t xs σ H Q
theorem zaT {es:List Expr}{k:Nat}{t:TGs}{n:Nat}(p:X.calm=true) (h:PGs X es t)
    (l:(assignEach es X.env).length=n:=by rfl) (d:(assignEach es X.env).findIdx? (·.1)=none:=by rfl):PG X (.Tuple es k pos) (gTup X.K n t):=by
  intro pins s σ H v u Q I r c
  obtain⟨a,xs,q,j,m,c⟩:=c
  subst q
  cases r
  obtain⟨its,f,i,x⟩:=I.tuple j
  refine assign_Tuple_tuple (I.ok.hd p) i (by simp[l,<- m,f.length]) d λh' g=>?_
  have w:Inv X pins σ H { s with heap:=h' }:=I.kept (t':=s.toks) λb o e=>g b o (JF (Jr e)) e
  exact h pins _ σ H xs _ Q w (by simpa using f) c
def gSub (to a:TE) (t:TSet):TG:=λv σ H Q=>to σ H λo H1=>a σ H1 λi c=>t o i v c λb=>Q σ b
theorem zcN {o i:Expr}{to c:TE}{t:TSet}(l:PE X o to) (hi:PE X i c) (k:PSet X t)
    (ha:∀ v,assign (.Subscript o i pos) X.env v=(do
      let a <- holding [v] (eval o X.env)
      let b <- holding [v,a] (eval i X.env)
      standAt pos
      holding [v,a,b] (setItem a b v)
      release [v,a,b] []):=by intro _;rfl):PG X (.Subscript o i pos) (gSub to c t):=by
  intro pins s σ H v u Q I r h
  rw[ha]
  refine J0 (Yi (thn (l pins s σ H _ I h) λa s1 ⟨x,H1,p,e,j⟩=>?_))
  refine J0 (Yi (thn (hi pins s1 σ H1 _ p j) λb s2 ⟨y,w,n,d,g⟩=>?_))
  refine J0 (Z5 (J0 (Yi (thn (k pins s2 σ w x y v a b u _ n e d r g) λ_ z ⟨q,m,f⟩=>?_))))
  exact wpAny_release ⟨σ,q,m,f⟩
def tAsg (te:TE) (g:TG):TS:=λD σ H=>te σ H λx H1=>g x σ H1 D.nx
theorem zaX {tg e:Expr}{te:TE}{g:TG}(i:PE X e te) (f:PG X tg g) (d:swapsWithSole [tg] e pos.line X.env=pure false:=by rfl) (c:swappedStores [tg] e X.env=pure none:=by rfl)
    (h1:(assignEach [tg] X.env).map (·.2)=[assign tg X.env]:=by rfl):PS X (.Assign [tg] e pos) (tAsg te g):=by
  intro pins s σ H D I h
  refine wpAny_Assign_stores (thn (i pins s σ H _ I h) λv s1 ⟨x,H1,j,a,b⟩=>?_) d c
  rw[h1]
  exact thn (f pins s1 σ H1 x v _ j a b) λ_ s2 q=>q
theorem zaw {i:Nat}{x:Str}{e:Expr}{te:TE}{pos':Pos}(j:X.N.Nodup) (hi:X.N[i]?=some x) (c:Loc X.env.scope x) (g:PE X e te) (d:swapsWith e (some (.Name x pos')) pos.line X.env=pure false:=by rfl) (f:X.fn x=true\/X.env.scope.names.lookup x=some .local:=by first|exact .inl rfl|exact .inr rfl|assumption) :
    PS X (.Assign [.Name x pos'] e pos) (tAsg te (zcQ i)):=by
  intro pins s σ H D I h
  refine wpAny_Assign_Name (thn (g pins s σ H _ I h) λv s1 ⟨y,H1,l,a,b⟩=>?_) d
  exact zbD l j hi c a (λs2 k=>⟨_,H1,k,b⟩) f
def tPar (i j:Nat) (ta:TA):TS:=λD σ H=>ta σ H λvs H1=>∃ v w,vs=[v,w]/\D.nx ((σ.set i (some v)).set j (some w)) H1
theorem zhV {i j:Nat}{x y:Str}{a b:Expr}{ta:TA}{g py pt:Pos}{kt k2 pt2} (J:X.calm=true) (t:X.N.Nodup) (hi:X.N[i]?=some x) (G:X.N[j]?=some y) (m:i≠j)
    (r:X.env.scope.names.lookup x=some .local) (n:X.env.scope.names.lookup y=some .local) (ha:PA X [a,b] ta)
    (E:swappedStores [.Tuple [.Name x g,.Name y py] kt pt] (.Tuple [a,b] k2 pt2) X.env=pure (some [x,y]))
    (F:swapsWithSole [.Tuple [.Name x g,.Name y py] kt pt] (.Tuple [a,b] k2 pt2) pos.line X.env=pure false:=by rfl) :
    PS X (.Assign [.Tuple [.Name x g,.Name y py] kt pt] (.Tuple [a,b] k2 pt2) pos) (tPar i j ta):=by
  intro pins s σ H D I h
  rw[exec_Assign_arm]
  refine J0 (Z5 ?_)
  rw[F]
  refine J0 (J9 ?_)
  rw[Jb (by decide)]
  refine J0 (Tuple_ (thn (ha _ pins s σ H _ I h) λus s1 ⟨vs,H1,O,A,f⟩=>?_))
  obtain⟨v,w,K,f⟩:=f
  subst K
  obtain⟨d,c,rfl,z,k⟩:∃ d c,us=[d,c]/\RelV v d/\RelV w c:=by
    cases A with
    | cons p q =>
      cases q with
      | cons C B =>
        cases B
        exact⟨_,_,rfl,p,C⟩
  refine JM ?_ (by show 2<=sizeLine;decide)
  have N:Inv X pins σ H1 { s1 with heap:=s1.heap.push { cls:=.type "tuple",data:=.seq [d,c].toArray } }:=O.kept (t':=s1.toks) λb o e=>J8 _ e
  rw[E]
  refine J0 (J9 ?_)
  show wpAny (model X.prog X.w) X.A (do rule "assign.swapped-stores";let items <- unpackItems (.ref s1.heap.objs.size) 2 none;assignInOrder [λv=>bindName X.env y v,λv=>bindName X.env x v] items.reverse;pure Flow.next) _ _ _
  refine J0 (YT (J0 (unpackItems_tuple (items:=#[d,c]) (I.ok.hd J) (IsTup.new s1.heap _) λh' l=>?_)))
  have M:=N.kept (h':=h') (t':=s1.toks) λb o e=>l b o (JF (Jr e)) e
  show wpAny _ _ (assignInOrder [λv=>bindName X.env y v,λv=>bindName X.env x v] [c,d] >>= λ_=>pure Flow.next) _ _ _
  refine J0 (ZL (wpAny_bindName (zbD M t G (.inl n) k (λs2 L=>?_) (.inr n))))
  refine ZL (wpAny_bindName (zbD L t hi (.inl r) z (λP u=>assignInOrder_nil (J9 ?_)) (.inr r)))
  rw[List.set_comm _ _ (Ne.symm m)]at u
  exact⟨_,H1,u,f⟩
end
section
variable {X:Cx}{pos:Pos}
def zmg (c:TT) (tb:TS):TS:=λD σ H=>∃ W:Nat->St->Hp->Prop,(∃ m,W m σ H)/\∀ m σ H,W m σ H ->
  c σ H λb H1=>if b=true then ∃ N:St->Hp->Prop,(∀ a H',N a H'->∃ d,d<m/\W d a H')/\tb { D with nx:=N,ct:=N,bk:=D.nx } σ H1 else D.nx σ H1
theorem zf9 {c:Expr}{body:List Stmt}{q:TT}{tb:TS}(r:PassesOwn (model X.prog X.w) X.A X.env X.xe) (A:PT X c q) (hb:PSs X body tb):PS X (.While c body [] pos) (zmg q tb):=by
  intro pins s σ H D I h
  obtain⟨W,⟨z,y⟩,turn⟩:=h
  refine wpAny_While (codeAny_whileLoop (λn s'=>∃ g H',Inv X pins g H' s'/\W n g H') ?_ z ⟨σ,H,I,y⟩)
  rintro n s1 ⟨d,H1,B,x⟩
  refine ZF r (thn (A pins s1 d H1 _ B (turn n d H1 x)) λb s2 ⟨w,u,j⟩=>?_)
  cases b with
  | true =>
    obtain⟨N,t,j⟩:=j
    rw[Jf rfl]
    refine ZF r (thn (hb pins s2 d w _ u j) λf C i=>?_)
    cases f with
    | next =>
      obtain⟨a,e,p,l⟩:=i
      obtain⟨m,o,k⟩:=t a e l
      exact⟨m,o,a,e,p,k⟩
    | cont =>
      obtain⟨a,e,p,l⟩:=i
      obtain⟨m,o,k⟩:=t a e l
      exact⟨m,o,a,e,p,k⟩
    | brk=>exact i
    | ret v=>exact i
  | false =>
    rw[Jb Jp]
    exact wpAny_execs_nil ⟨d,w,u,j⟩
end
structure It where
  go:Nat->Hp->Prop
  yld:Nat->Hp->V->Hp->Prop
  stop:Nat->Hp->Prop
def FpOk (X:Cx) (pins:List (Addr × Obj)) (H:Hp) (b:Addr):Prop :=
  H b=none/\b≠X.env.locals/\b∉X.fs/\(b∈X.ex\/X.s₀.heap.objs.size<=b)/\(∀ x c,X.env.cells.lookup x=some c->c≠b)/\∀ p∈X.pn++pins,p.1≠b
theorem Inv.fpOk {X:Cx}{pins:List (Addr × Obj)}{σ:St}{H H':Hp}{s:Shared}{b:Addr}(I:Inv X pins σ H s) (hb:s.heap.objs.size<=b) (d:H' b=none):FpOk X pins H' b:=by
  refine⟨d,Z1 (JJ I.lt hb),I.nofs hb,.inr (Y3 I.sz hb),λx c e z=>?_,λp a z=>?_⟩
  · obtain⟨v,q⟩:=I.cell x c e
    exact absurd (JJ q.lt (by rw[z];exact hb)) (YG _)
  · exact absurd (JJ (Jr (I.pin p a).1) (by rw[z];exact hb)) (YG _)
structure Turn (P:Program) (w:World) (K:PySem.W.Frag) (tg:Expr) (J:It) (fp:List Addr) (it:Addr) (tn:Nat->Heap->Prop):Prop where
  mem:it∈fp
  obj:∀ i h,tn i h->∀ b∈fp,∃ o,h.get? b=some o/\∀ v,o.data≠.cell v
  keep:∀ i h h',tn i h->(∀ b∈fp,∀ o,h.get? b=some o->h'.get? b=some o)->tn i h'
  item:∀ (X:Cx),X.prog=P->X.w=w->X.K=K->X.calm=true->∀ (i:Nat) (pins:List (Addr × Obj)) (s:Shared) (σ:St) (H:Hp) (E:Value->Shared->Prop),Inv X pins σ H s->(∀ b∈fp,FpOk X pins H b)->tn i s.heap->J.go i H ->
    wpAny (model P w) X.A (pyNext (.ref it)) (λr s1=>∃ u,r=some u /\
      wpAny (model P w) X.A (letOwnedTupleGo tg (.ref it) u) (λ_ s2=>∃ x H',Inv X pins σ H' s2/\RelV x u/\J.yld i H x H'/\tn (i+1) s2.heap/\∀ b∈fp,H' b=none) E s1) E s
  done:∀ (X:Cx),X.prog=P->X.w=w->X.K=K->X.calm=true->∀ (i:Nat) (pins:List (Addr × Obj)) (s:Shared) (σ:St) (H:Hp) (E:Value->Shared->Prop),Inv X pins σ H s->(∀ b∈fp,FpOk X pins H b)->tn i s.heap->J.stop i H ->
    wpAny (model P w) X.A (pyNext (.ref it)) (λr s1=>r=none/\Inv X pins σ H s1) E s
  self:∀ (A:Around) (i:Nat) (s:Shared) (Q:Value->Shared->Prop) (E:Value->Shared->Prop),tn i s.heap->Q (.ref it) s->wpAny (model P w) A (pyIter (.ref it)) Q E s
abbrev TI:=St->Hp->(It->Hp->Prop)->Prop
def PIE (X:Cx) (pins:List (Addr × Obj)) (σ:St) (tg:Expr) (R:It->Hp->Prop) (a:Value) (s2:Shared):Prop :=
  ∃ (it:Addr) (fp:List Addr) (tn:Nat->Heap->Prop) (J:It) (H':Hp),a=.ref it/\Inv X pins σ H' s2/\Turn X.prog X.w X.K tg J fp it tn/\tn 0 s2.heap/\(∀ b∈fp,FpOk X pins H' b)/\R J H'
def PI (X:Cx) (tg iter:Expr) (a:TI):Prop :=
  ∀ (pins:List (Addr × Obj)) (s:Shared) (σ:St) (H:Hp) (R:It->Hp->Prop),Inv X pins σ H s->a σ H R ->
    wpAny (model X.prog X.w) X.A (eval iter X.env) (λv s1=>wpAny (model X.prog X.w) X.A (pyIter v) (PIE X pins σ tg R) X.xe s1) X.xe s
theorem zl0 {M:Model}{A:Around}{E:Value->Shared->Prop}{s:Shared}{tg:Expr}{it:Addr}{u:Value}{o:Obj}{n:String}{vs:Array Value}{Q:Unit->Shared->Prop}(b:s.heap.get? it=some o) (d:o.cls=.type n) (hd:o.data=.fields vs)
    (c:["enumerate","zip","dict_itemiterator","dict_reverseitemiterator","odict_iterator","itertools.zip_longest","itertools.pairwise"].contains n=false) (a:Q () s):wpAny M A (letOwnedTupleGo tg (.ref it) u) Q E s:=by
  unfold letOwnedTupleGo
  cases tg<;>first
    | exact J9 a
    | (cases u<;>first
        | exact J9 a
        | (refine J0 (wpAny_load b ?_)
           rw[d,hd]
           show wpAny M A (if (["enumerate","zip","dict_itemiterator","dict_reverseitemiterator","odict_iterator","itertools.zip_longest","itertools.pairwise"].contains n && vs[0]? == some (rawInt _))=true then _ else _) Q E s
           rw[Jb (by intro h;rw[c,Bool.false_and]at h;cases h)]
           exact J9 a))
def Itl (K:PySem.W.Frag) (a:Addr):It :=
  ⟨λi H=>∃ xs x,SqL K H a xs/\xs[i]?=some x,λi H x H'=>H'=H/\∀ xs,SqL K H a xs->xs[i]?=some x,λi H=>∃ xs,SqL K H a xs/\xs.length<=i⟩
def Itt (K:PySem.W.Frag) (a:Addr):It :=
  ⟨λi H=>∃ xs x,SqT K H a xs/\xs[i]?=some x,λi H x H'=>H'=H/\∀ xs,SqT K H a xs->xs[i]?=some x,λi H=>∃ xs,SqT K H a xs/\xs.length<=i⟩
def Itr (lo:Int) (n:Nat):It:=⟨λi _=>i<n,λi H x H'=>H'=H/\x=.int (lo+i),λi _=>n<=i⟩
theorem zho {P:Program}{w:World}{K:PySem.W.Frag}{tg:Expr}(a it:Addr):Turn P w K tg (Itl K a) [it] it (λi h=>h.IsListIter it a i) where
  mem:=by simp
  obj:=λi h st b hb=>by
    have e:b=it:=by simpa using hb
    subst e
    obtain⟨o,e,c,d⟩:=st
    exact⟨o,e,λv z=>by rw[d]at z;cases z⟩
  keep:=λi h h' st k=>st.at λo e=>k it (by simp) o e
  item:=by
    intro X q m r C i pins s σ H E I g st n
    subst q m r
    obtain⟨xs,x,f,l⟩:=n
    obtain⟨its,j,p,F⟩:=I.list f
    obtain⟨u,J,D⟩:=j.get l
    obtain⟨B,f1,f2,A,y,t⟩:=g it (by simp)
    refine wpAny_pyNext_list_item st p.isList (x:=u) (by simpa using J) λh' st' sb=>?_
    have M:Inv X pins σ H { s with heap:=h' }:=I.turned (t':=s.toks) (λb o hb e=>(sb.2 b hb).trans e) B f1 A y t
    obtain⟨o,e,c,d⟩:=id st'
    exact⟨u,rfl,zl0 (s:={ s with heap:=h' }) e c d (by decide) ⟨x,H,M,D,⟨rfl,λys G=>by rw[I.list_inj G f];exact l⟩,st',λb hb=>(g b hb).1⟩⟩
  done:=by
    intro X q m r C i pins s σ H E I g st n
    subst q m r
    obtain⟨xs,f,l⟩:=n
    obtain⟨its,j,p,F⟩:=I.list f
    obtain⟨B,f1,f2,A,y,t⟩:=g it (by simp)
    have N:=j.length
    exact wpAny_pyNext_list_end (I.ok.hd C) st p.isList (by simp;omega) λh' L=>⟨rfl,I.turned (t':=s.toks) (λb o hb e=>L b o hb e) B f1 A y t⟩
  self:=λ_ _ _ _ _ st h=>wpAny_pyIter_listiter st h
theorem zgF {P:Program}{w:World}{K:PySem.W.Frag}{tg:Expr}(a it:Addr):Turn P w K tg (Itt K a) [it] it (λi h=>h.IsTupleIter it a i) where
  mem:=by simp
  obj:=λi h st b hb=>by
    have e:b=it:=by simpa using hb
    subst e
    obtain⟨o,e,c,d⟩:=st
    exact⟨o,e,λv z=>by rw[d]at z;cases z⟩
  keep:=λi h h' st k=>st.at λo e=>k it (by simp) o e
  item:=by
    intro X q m r C i pins s σ H E I g st n
    subst q m r
    obtain⟨xs,x,f,l⟩:=n
    obtain⟨its,j,p,F⟩:=I.tuple f
    obtain⟨u,J,D⟩:=j.get l
    obtain⟨B,f1,f2,A,y,t⟩:=g it (by simp)
    refine wpAny_pyNext_tuple_item st (show s.heap.IsTuple a its.toArray from p) (x:=u) (by simpa using J) λh' st' sb=>?_
    have M:Inv X pins σ H { s with heap:=h' }:=I.turned (t':=s.toks) (λb o hb e=>(sb.2 b hb).trans e) B f1 A y t
    obtain⟨o,e,c,d⟩:=id st'
    exact⟨u,rfl,zl0 (s:={ s with heap:=h' }) e c d (by decide) ⟨x,H,M,D,⟨rfl,λys G=>by rw[I.tuple_inj G f];exact l⟩,st',λb hb=>(g b hb).1⟩⟩
  done:=by
    intro X q m r C i pins s σ H E I g st n
    subst q m r
    obtain⟨xs,f,l⟩:=n
    obtain⟨its,j,p,F⟩:=I.tuple f
    obtain⟨B,f1,f2,A,y,t⟩:=g it (by simp)
    have N:=j.length
    exact wpAny_pyNext_tuple_end (I.ok.hd C) st (show s.heap.IsTuple a its.toArray from p) (by simp;omega) λh' L=>⟨rfl,I.turned (t':=s.toks) (λb o hb e=>L b o hb e) B f1 A y t⟩
  self:=λ_ _ _ _ _ st h=>wpAny_pyIter_tupleiter st h
theorem zgG {P:Program}{w:World}{K:PySem.W.Frag}{tg:Expr}(it:Addr) (lo:Int) (n:Nat):Turn P w K tg (Itr lo n) [it] it (λi h=>IsRangeIter h it (lo+(i:Nat)*1) ((n:Int)-(i:Nat)) 1) where
  mem:=by simp
  obj:=λi h st b hb=>by
    have e:b=it:=by simpa using hb
    subst e
    exact⟨_,st,λv z=>by
      have r:Data.fields _=Data.cell v:=z
      cases r⟩
  keep:=λi h h' st k=>k it (by simp) _ st
  item:=by
    intro X g c j f i pins s σ H E I a st d
    subst g c j
    obtain⟨q,f1,f2,p,m,l⟩:=a it (by simp)
    have W:=Walks.range (prog:=X.prog) (w:=X.w) (I.ok.hd f) it lo 1 n
    refine W.item i s _ _ d st λv h' tk x st' u=>?_
    obtain⟨t,rfl⟩:=x
    have A:Inv X pins σ H { s with heap:=h',toks:=tk }:=I.turned (λb o hb e=>u b o (by simpa using hb) e) q f1 p m l
    refine⟨_,rfl,zl0 (s:={ s with heap:=h',toks:=tk }) (n:="range_iterator") st' rfl rfl (by decide) ⟨.int (lo+i),H,A,⟨t,?_⟩,⟨rfl,rfl⟩,st',λb hb=>(a b hb).1⟩⟩
    rw[Int.mul_one]
  done:=by
    intro X g c j f i pins s σ H E I a st d
    subst g c j
    obtain⟨q,f1,f2,p,m,l⟩:=a it (by simp)
    exact wpAny_pyNext_range_end (I.ok.hd f) st (by have:n<=i:=d;omega) λh' y=>⟨rfl,I.turned (t':=s.toks) (λb o hb e=>y b o hb e) q f1 p m l⟩
  self:=λ_ _ _ _ _ st h=>wpAny_pyIter_rangeiter st h
section
variable {X:Cx}{tg:Expr}
def zmV (K:PySem.W.Frag) (tl:TE):TI:=λσ H R=>tl σ H λx H1=>∃ a,x=.ref a/\(∃ xs,SqL K H1 a xs)/\R (Itl K a) H1
def iTup (K:PySem.W.Frag) (tl:TE):TI:=λσ H R=>tl σ H λx H1=>∃ a,x=.ref a/\(∃ xs,SqT K H1 a xs)/\R (Itt K a) H1
theorem zhZ {l:Expr}{tl:TE}(i:PE X l tl):PI X tg l (zmV X.K tl):=by
  intro pins s σ H R I h
  refine thn (i pins s σ H _ I h) λv s1 ⟨x,H1,c,d,f⟩=>?_
  obtain⟨a,e,⟨xs,g⟩,q⟩:=f
  subst e
  cases d
  obtain⟨its,j,p,k⟩:=c.list g
  refine wpAny_pyIter_list p.isList ?_
  refine⟨s1.heap.objs.size,[s1.heap.objs.size],_,_,H1,rfl,c.kept (t':=s1.toks) λb o e=>J8 _ e,zho a _,⟨_,Js _ rfl,rfl,rfl⟩,λb hb=>?_,q⟩
  have e:b=s1.heap.objs.size:=by simpa using hb
  subst e
  exact c.fpOk (Jg _) (c.hok.fresh (Jg _))
theorem zc6 {l:Expr}{tl:TE}(i:PE X l tl):PI X tg l (iTup X.K tl):=by
  intro pins s σ H R I h
  refine thn (i pins s σ H _ I h) λv s1 ⟨x,H1,c,d,f⟩=>?_
  obtain⟨a,e,⟨xs,g⟩,q⟩:=f
  subst e
  cases d
  obtain⟨its,j,p,k⟩:=c.tuple g
  refine wpAny_pyIter_tuple (show s1.heap.IsTuple a its.toArray from p) ?_
  refine⟨s1.heap.objs.size,[s1.heap.objs.size],_,_,H1,rfl,c.kept (t':=s1.toks) λb o e=>J8 _ e,zgF a _,⟨_,Js _ rfl,rfl,rfl⟩,λb hb=>?_,q⟩
  have e:b=s1.heap.objs.size:=by simpa using hb
  subst e
  exact c.fpOk (Jg _) (c.hok.fresh (Jg _))
theorem zjB {pins:List (Addr × Obj)}{σ:St}{H:Hp}{s:Shared}{R:It->Hp->Prop}{E:Value->Shared->Prop}{lo hi:Int}{t u v:Tok}{tk:Nat}(I:Inv X pins σ H s) (h1:-(2 ^ 62)<=lo) (f:lo<2 ^ 62) (d:-(2 ^ 62)<=hi) (c:hi<2 ^ 62)
    (q:R (Itr lo (hi-lo).toNat) H):wpAny (model X.prog X.w) X.A (pyIter (.ref s.heap.objs.size)) (PIE X pins σ tg R) E { s with heap:=s.heap.push { cls:=.type "range",data:=.fields #[.int lo t,.int hi u,.int 1 v] },toks:=tk }:=by
  refine wpAny_pyIter_range (IsRange.new ..) (small_one h1 f d c) ?_
  have a:Inv X pins σ H { s with heap:=s.heap.push { cls:=.type "range",data:=.fields #[.int lo t,.int hi u,.int 1 v] },toks:=tk }:=I.kept λb o e=>J8 _ e
  refine⟨(s.heap.push { cls:=.type "range",data:=.fields #[.int lo t,.int hi u,.int 1 v] }).objs.size,[(s.heap.push { cls:=.type "range",data:=.fields #[.int lo t,.int hi u,.int 1 v] }).objs.size],_,_,H,rfl,
    a.kept (t':=tk) λb o e=>J8 _ e,zgG _ lo (hi-lo).toNat,?_,λb hb=>?_,q⟩
  · have g:lo+((0:Nat):Int)*1=lo:=by simp
    have e2:(((hi-lo).toNat:Nat):Int)-((0:Nat):Int)=Builtin.Range.rangeSize lo hi 1:=by rw[rangeSize_one];split<;>omega
    show IsRangeIter _ _ (lo+((0:Nat):Int)*1) ((((hi-lo).toNat:Nat):Int)-((0:Nat):Int)) 1
    rw[g,e2]
    exact Js _ rfl
  · have e:b=(s.heap.push { cls:=.type "range",data:=.fields #[.int lo t,.int hi u,.int 1 v] }).objs.size:=by simpa using hb
    subst e
    exact a.fpOk (Jg _) (a.hok.fresh (Jg _))
def znx (ta:TA):TI:=λσ H R=>ta σ H λvs H1=>∃ j:Int,vs=[.int j]/\-(2 ^ 62)<=j/\j<2 ^ 62/\R (Itr 0 j.toNat) H1
theorem zbk {a:Expr}{ta:TA}{p pos:Pos}(k:Gl X "range") (i:X.mg "range" = none) (ha:PA X [a] ta) (g:starEach [a] X.env=[(false,eval a X.env)]:=by rfl):PI X tg (.Call (.Name "range" p) [a] [] pos) (znx ta):=by
  intro pins s σ H R I h
  refine Call_ (zb0 I k i boot_range (Yj (thn (ha pos pins s σ H _ I h) λus s1 ⟨vs,H1,l,d,b⟩=>?_) g rfl))
  obtain⟨j,e,b,f,q⟩:=b
  subst e
  cases d with
  | cons r c =>
    cases c
    obtain⟨t,rfl⟩:=r
    exact call_range_1 (zjB l (by omega) (by omega) b f (by simpa using q))
def tFor (d:TI) (g:TG) (tb:TS):TS:=λD σ H=>d σ H λJ H1=>∃ W:Nat->Nat->St->Hp->Prop,(∃ m,W 0 m σ H1)/\∀ i m σ H,W i m σ H ->
  (J.stop i H/\D.nx σ H)\/(J.go i H/\∃ N:St->Hp->Prop,(∀ a H',N a H'->∃ c,c<m/\W (i+1) c a H')/\∀ x H',J.yld i H x H'->g x σ H' λb e=>tb { D with nx:=N,ct:=N,bk:=D.nx } b e)
def zcM (fp:List Addr) (h:Heap):List (Addr × Obj):=fp.filterMap λb=>(h.get? b).map λo=>(b,o)
theorem za4 {fp:List Addr}{h:Heap}{b:Addr}{o:Obj}(hb:b∈fp) (e:h.get? b=some o):(b,o)∈zcM fp h:=List.mem_filterMap.mpr ⟨b,hb,by rw[e];rfl⟩
theorem zij {fp:List Addr}{h:Heap}{p:Addr × Obj}(a:p∈zcM fp h):p.1∈fp/\h.get? p.1=some p.2:=by
  obtain⟨b,hb,e⟩:=List.mem_filterMap.mp a
  cases q:h.get? b with
  | none=>rw[q]at e;cases e
  | some o =>
    rw[q]at e
    have c:(b,o)=p:=Jn e
    subst c
    exact⟨hb,q⟩
theorem Inv.pinned {pins:List (Addr × Obj)}{σ:St}{H:Hp}{s:Shared}{fp:List Addr}(I:Inv X pins σ H s) (g:∀ b∈fp,FpOk X pins H b) (f:∀ b∈fp,∃ o,s.heap.get? b=some o/\∀ v,o.data≠.cell v):Inv X (pins++zcM fp s.heap) σ H s :=
  I.pins_of λp c=>(JB.mp c).elim (λz=>I.pin p (Jz _ z)) λz=>by
    obtain⟨hb,e⟩:=zij z
    obtain⟨h,f1,f2,_⟩:=g p.1 hb
    obtain⟨o,a,d⟩:=f p.1 hb
    rw[e]at a;cases a
    exact⟨e,h,f1,f2,d⟩
theorem Inv.unpinned {pins a:List (Addr × Obj)}{σ:St}{H:Hp}{s:Shared}(I:Inv X (pins++a) σ H s):Inv X pins σ H s:=I.pins_of λp b=>I.pin p (Jz _ (Yp _ b))
theorem zbN {iter:Expr}{body:List Stmt}{L:TI}{g:TG}{tb:TS}{pos:Pos}(y:PassesOwn (model X.prog X.w) X.A X.env X.xe) (P:X.calm=true) (hi:PI X tg iter L) (hg:PG X tg g) (hb:PSs X body tb)
    (hs:∀ x,foldedSetIterable iter X.env x=pure x:=by intro _;rfl):PS X (.For tg iter body [] pos) (tFor L g tb):=by
  intro pins s σ H D I h
  refine wpAny_For (thn (hi pins s σ H _ I h) λv s1 h1=>thn h1 λaa s2 h2=>?_) hs
  obtain⟨it,fp,tn,J,H2,e,I2,T,st2,f2,W,⟨m0,Z⟩,turn⟩:=h2
  subst e
  have p:∀ {H':Hp},(∀ b∈fp,H' b=none)->∀ b∈fp,FpOk X pins H' b:=λhn b hb=>⟨hn b hb,(f2 b hb).2⟩
  refine codeAny_forLoop_any (λn s'=>∃ i l H',Inv X pins l H' s'/\tn i s'.heap/\(∀ b∈fp,H' b=none)/\W i n l H') ?_ m0 ⟨0,σ,H2,I2,st2,λb hb=>(f2 b hb).1,Z⟩
  rintro n O ⟨i,k,B,Q,z,A,Y⟩
  rcases turn i n k B Y with ⟨stop,qn⟩|⟨go,N,hN,step⟩
  · refine ZF y (thn (T.done X rfl rfl rfl P i pins O k B X.xe Q (p A) z stop) λr s4 ⟨E,I4⟩=>?_)
    subst E
    exact wpAny_execs_nil ⟨k,B,I4,qn⟩
  · refine ZF y (thn (T.item X rfl rfl rfl P i pins O k B X.xe Q (p A) z go) λr s4 ⟨u,E,h4⟩=>?_)
    subst E
    refine ZF y (thn h4 λ_ M ⟨x,R,I5,r5,S,t,G⟩=>?_)
    have K:=I5.pinned (p G) (T.obj _ _ t)
    refine ZF y (thn (hg _ M k R x u _ K r5 (step x R S)) λ_ s6 ⟨F,H6,I6,q6⟩=>?_)
    refine ZF y (thn (hb _ s6 F H6 _ I6 q6) λf C q=>?_)
    have again:∀ {a:St}{j:Hp},Inv X (pins++zcM fp M.heap) a j C->N a j->∃ m,m<n/\∃ i l H',Inv X pins l H' C/\tn i C.heap/\(∀ b∈fp,H' b=none)/\W i m l H':=λ{a j} c w=>by
      obtain⟨m',hm,V⟩:=hN a j w
      refine⟨m',hm,i+1,a,j,c.unpinned,T.keep _ _ _ t λb hb o e=>(c.pin (b,o) (Jz _ (Jz _ (za4 hb e)))).1,λb hb=>?_,V⟩
      obtain⟨o,e,d⟩:=T.obj _ _ t b hb
      exact(c.pin (b,o) (Jz _ (Jz _ (za4 hb e)))).2.1
    cases f with
    | next=>obtain⟨a,j,c,w⟩:=q;exact again c w
    | cont=>obtain⟨a,j,c,w⟩:=q;exact again c w
    | brk=>obtain⟨a,j,c,q⟩:=q;exact⟨a,j,c.unpinned,q⟩
    | ret v=>obtain⟨U,a,j,c,r7,q⟩:=q;exact⟨U,a,j,c.unpinned,r7,q⟩
end
theorem zfI {K:PySem.W.Frag}{a:Addr}{xs:List V}{g:TG}{tb:TS}{D:Ends}{σ:St}{H:Hp}(b:Nat->St->Hp->Prop) (o:b 0 σ H) (n:∀ i σ H,i<=xs.length->b i σ H->SqT K H a xs)
    (l:∀ i x σ H,xs[i]?=some x->b i σ H->g x σ H λc h=>tb { D with nx:=b (i+1),ct:=b (i+1),bk:=D.nx } c h) (hd:∀ σ H,b xs.length σ H->D.nx σ H) :
    ∃ W:Nat->Nat->St->Hp->Prop,(∃ m,W 0 m σ H)/\∀ i m σ H,W i m σ H ->
      ((Itt K a).stop i H/\D.nx σ H)\/((Itt K a).go i H/\∃ N:St->Hp->Prop,(∀ d H',N d H'->∃ j,j<m/\W (i+1) j d H')/\∀ x H',(Itt K a).yld i H x H'->g x σ H' λc h=>tb { D with nx:=N,ct:=N,bk:=D.nx } c h):=by
  refine⟨λi m σ H=>m=xs.length-i/\i<=xs.length/\b i σ H,⟨xs.length,by simp,JN _,o⟩,?_⟩
  rintro i m σ H ⟨rfl,hi,p⟩
  have q:=n i σ H hi p
  by_cases f:i<xs.length
  · refine .inr ⟨⟨xs,xs[i],q,by simp[f]⟩,b (i+1),λd H' k=>⟨xs.length-(i+1),by omega,rfl,f,k⟩,λx H' y=>?_⟩
    obtain⟨e,y⟩:=y
    subst e
    exact l i x σ _ (y xs q) p
  · have e:i=xs.length:=by omega
    subst e
    exact .inl ⟨⟨xs,q,Jg _⟩,hd σ H p⟩
theorem zbS {lo:Int}{n:Nat}{g:TG}{tb:TS}{D:Ends}{σ:St}{H:Hp}(a:Nat->St->Hp->Prop) (l:a 0 σ H)
    (k:∀ i σ H,i<n->a i σ H->g (.int (lo+i)) σ H λb f=>tb { D with nx:=a (i+1),ct:=a (i+1),bk:=D.nx } b f) (hd:∀ σ H,a n σ H->D.nx σ H) :
    ∃ W:Nat->Nat->St->Hp->Prop,(∃ m,W 0 m σ H)/\∀ i m σ H,W i m σ H ->
      ((Itr lo n).stop i H/\D.nx σ H)\/((Itr lo n).go i H/\∃ N:St->Hp->Prop,(∀ c H',N c H'->∃ h,h<m/\W (i+1) h c H')/\∀ x H',(Itr lo n).yld i H x H'->g x σ H' λb f=>tb { D with nx:=N,ct:=N,bk:=D.nx } b f):=by
  refine⟨λi m σ H=>m=n-i/\i<=n/\a i σ H,⟨n,by simp,JN _,l⟩,?_⟩
  rintro i m σ H ⟨rfl,hi,p⟩
  by_cases d:i<n
  · refine .inr ⟨d,a (i+1),λc H' j=>⟨n-(i+1),by omega,rfl,d,j⟩,λx H' y=>?_⟩
    obtain⟨e,y⟩:=y
    subst e y
    exact k i σ _ d p
  · have e:i=n:=by omega
    subst e
    exact .inl ⟨Jg _,hd σ H p⟩
abbrev R2:=V->V->Hp->VK->Prop
def OpR (X:Cx) (f:Value->Value->Sem Value) (r:R2):Prop :=
  ∀ (pins:List (Addr × Obj)) (s:Shared) (σ:St) (H:Hp) (x y:V) (v u:Value) (Q:VK),Inv X pins σ H s->RelV x v->RelV y u->r x y H Q ->
    wpAny (model X.prog X.w) X.A (f v u) (EP X pins σ Q) X.xe s
def UnR (X:Cx) (f:Value->Sem Value) (r:V->Hp->VK->Prop):Prop :=
  ∀ (pins:List (Addr × Obj)) (s:Shared) (σ:St) (H:Hp) (x:V) (v:Value) (Q:VK),Inv X pins σ H s->RelV x v->r x H Q ->
    wpAny (model X.prog X.w) X.A (f v) (EP X pins σ Q) X.xe s
def CallR (X:Cx) (f:Value) (r:List V->Hp->VK->Prop):Prop :=
  ∀ (pins:List (Addr × Obj)) (s:Shared) (σ:St) (H:Hp) (xs:List V) (us:List Value) (Q:VK),Inv X pins σ H s->Vals xs us->r xs H Q ->
    wpAny (model X.prog X.w) X.A (call f us) (EP X pins σ Q) X.xe s
def TruR (X:Cx) (r:V->Hp->(Bool->Hp->Prop)->Prop):Prop :=
  ∀ (pins:List (Addr × Obj)) (s:Shared) (σ:St) (H:Hp) (x:V) (v:Value) (Q:Bool->Hp->Prop),Inv X pins σ H s->RelV x v->r x H Q ->
    wpAny (model X.prog X.w) X.A (truthy v) (TP X pins σ Q) X.xe s
def tOp (r:R2) (ta tb:TE):TE:=λσ H Q=>ta σ H λx H1=>tb σ H1 λy a=>r x y a Q
def tUn (r:V->Hp->VK->Prop) (ta:TE):TE:=λσ H Q=>ta σ H λx H1=>r x H1 Q
def rI (C:Int->Int->Prop) (g:Int->Int->V):R2:=λx y H Q=>∃ i j,x=.int i/\y=.int j/\C i j/\Q (g i j) H
def rI0 (g:Int->Int->V):R2:=λx y H Q=>∃ i j,x=.int i/\y=.int j/\Q (g i j) H
def rU (g:Int->V):V->Hp->VK->Prop:=λx H Q=>∃ i,x=.int i/\Q (g i) H
section
variable {X:Cx}{a b:Expr}{ta tb:TE}{pos:Pos}
theorem binT (ha:PE X a ta) (hb:PE X b tb) {pins:List (Addr × Obj)}{s:Shared}{σ:St}{H:Hp}{R:V->V->Hp->Prop}(I:Inv X pins σ H s)
    (h:ta σ H λx H1=>tb σ H1 λy c=>R x y c) {Q:Value->Shared->Prop}{f:Value->Value->Sem Value}
    (l:∀ v u s2 x y c,Inv X pins σ c s2->RelV x v->RelV y u->R x y c->wpAny (model X.prog X.w) X.A (f v u) Q X.xe s2) :
    wpAny (model X.prog X.w) X.A (eval a X.env) (λv e=>wpAny (model X.prog X.w) X.A (eval b X.env) (λu d=>wpAny (model X.prog X.w) X.A (f v u) Q X.xe d) X.xe e) X.xe s:=by
  refine thn (ha pins s σ H _ I h) λv s1 ⟨x,H1,n,i,k⟩=>?_
  refine thn (hb pins s1 σ H1 _ n k) λu s2 ⟨y,c,m,g,j⟩=>?_
  exact l v u s2 x y c m i g j
theorem zap {op:Operator}{r:R2}(e:OpR X (binaryOp op) r) (ha:PE X a ta) (hb:PE X b tb):PE X (.BinOp a op b pos) (tOp r ta tb):=by
  intro pins s σ H Q I h
  exact wpAny_BinOp (binT ha hb I h λv u s2 x y g f d c q=>e pins s2 σ g x y v u Q f d c q)
theorem zmu {op:UnaryOp}{r:V->Hp->VK->Prop}(d:UnR X (unaryOp op) r) (ha:PE X a ta):PE X (.UnaryOp op a pos) (tUn r ta):=by
  intro pins s σ H Q I h
  exact UnaryOp_ (thn (ha pins s σ H _ I h) λv s1 ⟨x,H1,e,b,c⟩=>d pins s1 σ H1 x v Q e b c)
theorem opI {f:Value->Value->Sem Value}{C:Int->Int->Prop}{g:Int->Int->Int}
    (rule:∀ (i j:Int) (t u:Tok) (s:Shared) (Q:Value->Shared->Prop) (E:Value->Shared->Prop),C i j->Q (.int (g i j) s.toks) { s with toks:=s.toks+1 }->wpAny (model X.prog X.w) X.A (f (.int i t) (.int j u)) Q E s) :
    OpR X f (rI C λi j=>.int (g i j)):=by
  intro pins s σ H x y v u Q I b a h
  obtain⟨i,j,rfl,rfl,c,q⟩:=h
  obtain⟨t,rfl⟩:=b
  obtain⟨t',rfl⟩:=a
  exact rule i j t t' s _ _ c ⟨.int (g i j),H,I.tok _,⟨_,rfl⟩,q⟩
theorem opI0 {f:Value->Value->Sem Value}{g:Int->Int->Int}
    (rule:∀ (i j:Int) (t u:Tok) (s:Shared) (Q:Value->Shared->Prop) (E:Value->Shared->Prop),Q (.int (g i j) s.toks) { s with toks:=s.toks+1 }->wpAny (model X.prog X.w) X.A (f (.int i t) (.int j u)) Q E s) :
    OpR X f (rI0 λi j=>.int (g i j)):=by
  intro pins s σ H x y v u Q I b a h
  obtain⟨i,j,rfl,rfl,q⟩:=h
  obtain⟨t,rfl⟩:=b
  obtain⟨t',rfl⟩:=a
  exact rule i j t t' s _ _ ⟨.int (g i j),H,I.tok _,⟨_,rfl⟩,q⟩
theorem opB0 {f:Value->Value->Sem Value}{g:Int->Int->Bool}
    (rule:∀ (i j:Int) (t u:Tok) (s:Shared) (Q:Value->Shared->Prop) (E:Value->Shared->Prop),Q (.bool (g i j)) s->wpAny (model X.prog X.w) X.A (f (.int i t) (.int j u)) Q E s) :
    OpR X f (rI0 λi j=>.bl (g i j)):=by
  intro pins s σ H x y v u Q I b a h
  obtain⟨i,j,rfl,rfl,q⟩:=h
  obtain⟨t,rfl⟩:=b
  obtain⟨t',rfl⟩:=a
  exact rule i j t t' s _ _ ⟨.bl (g i j),H,I,rfl,q⟩
def CDiv (i j:Int):Prop:=0<j/\j<1073741824
def CPow (i j:Int):Prop:=0<=j/\j<=1000000/\i.natAbs<2 ^ 64
def CMul (i j:Int):Prop:=(-(2 ^ 64)<i/\i<2 ^ 64)\/(-(2 ^ 64)<j/\j<2 ^ 64)
theorem CMul.ok {i j:Int}(h:CMul i j):IntMulOk i j:=by
  rcases h with ⟨h1,a⟩|⟨h1,a⟩
  · exact .of_left (intBits_le_64 h1 a)
  · exact .of_right (intBits_le_64 h1 a)
theorem za6:OpR X (binaryOp .Add) (rI0 λi j=>.int (i+j)):=opI0 λ_ _ _ _ _ _ _ q=>add_int q
theorem zdb:OpR X (binaryOp .Sub) (rI0 λi j=>.int (i-j)):=opI0 λ_ _ _ _ _ _ _ q=>sub_int q
theorem zbQ:OpR X (binaryOp .Mult) (rI CMul λi j=>.int (i*j)):=opI λ_ _ _ _ _ _ _ a q=>mul_int q a.ok
theorem zb5:OpR X (binaryOp .FloorDiv) (rI CDiv λi j=>.int (i / j)):=opI λi j _ _ _ _ _ a q=>by
  have h1:(0:Int)<j:=a.1
  have b:j<1073741824:=a.2
  exact floordiv_int (by omega) (by rw[Int.fdiv_eq_ediv_of_nonneg i (by omega)];exact q) (.inl (PyProof.noPylong_small (by omega)))
theorem zbZ:OpR X (binaryOp .Mod) (rI (λ_ j=>0<j) λi j=>.int (i%j)):=opI λi j _ _ _ _ _ a q=>by
  have h1:(0:Int)<j:=a
  exact mod_int' (by omega) (by rw[Int.fmod_eq_emod_of_nonneg i (by omega)];exact q)
theorem zeB:OpR X (binaryOp .Pow) (rI CPow λi j=>.int (i ^ j.toNat)):=opI λ_ _ _ _ _ _ _ a q=>pow_int_small a.1 a.2.1 a.2.2 q
theorem unI {f:Value->Sem Value}{g:Int->Int}
    (rule:∀ (i:Int) (t:Tok) (s:Shared) (Q:Value->Shared->Prop) (E:Value->Shared->Prop),Q (.int (g i) s.toks) { s with toks:=s.toks+1 }->wpAny (model X.prog X.w) X.A (f (.int i t)) Q E s) :
    UnR X f (rU λi=>.int (g i)):=by
  intro pins s σ H x v Q I a h
  obtain⟨i,rfl,q⟩:=h
  obtain⟨t,rfl⟩:=a
  exact rule i t s _ _ ⟨.int (g i),H,I.tok _,⟨_,rfl⟩,q⟩
theorem zkG:UnR X (unaryOp .USub) (rU λi=>.int (-i)):=unI λ_ _ _ _ _ q=>neg_int q
end
def scal:V->V->Bool
  | .non,.non=>true|.non,.int _=>true|.int _,.non=>true|.non,.bl _=>true|.bl _,.non=>true|.non,.str _=>true|.str _,.non=>true
  | .int _,.int _=>true|.bl _,.bl _=>true|.str _,.str _=>true|.byt _,.byt _=>true
  | .int _,.str _=>true|.str _,.int _=>true|.bl _,.str _=>true|.str _,.bl _=>true
  | _,_=>false
def rEq:R2:=λx y H Q=>scal x y=true/\Q (.bl (decide (x=y))) H
def rNe:R2:=λx y H Q=>scal x y=true/\Q (.bl (!decide (x=y))) H
theorem zi3 {i j:Int}:decide (V.int i=V.int j)=(i == j):=by
  rw[Ys]
  simp
theorem zkV {i j:Bool}:decide (V.bl i=V.bl j)=(i == j):=by
  rw[Ys]
  simp
theorem zi2 {i j:Str}:decide (V.str i=V.str j)=(i == j):=by
  rw[Ys]
  simp
theorem zi4 {i j:Array UInt8}:decide (V.byt i=V.byt j)=(i.toList == j.toList):=by
  rw[Ys]
  cases i
  cases j
  simp
section
variable {X:Cx}{a b c:Expr}{ta tb:TE}{pos:Pos}
theorem zaJ {pins:List (Addr × Obj)}{σ:St}{H:Hp}{s:Shared}{Q:VK}{k a:Bool}(I:Inv X pins σ H s) (q:Q (.bl k) H) (e:k=a):EP X pins σ Q (.bool a) s:=by
  subst e
  exact⟨.bl k,H,I,rfl,q⟩
theorem zb6:OpR X (compareOp .Eq) rEq:=by
  intro pins s σ H x y v u Q I c a h
  obtain⟨b,q⟩:=h
  cases x with
  | non =>
    cases c
    cases y with
    | non=>cases a;exact PySem.EqNone.eq_none_none (zaJ I q (by simp))
    | bl j=>cases a;exact PySem.EqNone.eq_none_bool (zaJ I q (by simp))
    | int j=>obtain⟨t',rfl⟩:=a;exact PySem.EqNone.eq_none_int (zaJ I q (by simp))
    | str j=>obtain⟨t',rfl⟩:=a;exact PySem.EqNone.eq_none_str (zaJ I q (by simp))
    | _=>exact absurd (show false=true from b) Jp
  | bl i =>
    cases c
    cases y with
    | non=>cases a;exact PySem.EqNone.eq_bool_none (zaJ I q (by simp))
    | bl j=>cases a;exact eq_bool (zaJ I q zkV)
    | str j=>obtain⟨t',rfl⟩:=a;exact PySem.EqMixed.eq_bool_str (zaJ I q (by simp))
    | _=>exact absurd (show false=true from b) Jp
  | int i =>
    obtain⟨t,rfl⟩:=c
    cases y with
    | non=>cases a;exact PySem.EqNone.eq_int_none (zaJ I q (by simp))
    | int j=>obtain⟨t',rfl⟩:=a;exact eq_int (zaJ I q zi3)
    | str j=>obtain⟨t',rfl⟩:=a;exact PySem.EqMixed.eq_int_str (zaJ I q (by simp))
    | _=>exact absurd (show false=true from b) Jp
  | str i =>
    obtain⟨t,rfl⟩:=c
    cases y with
    | non=>cases a;exact PySem.EqNone.eq_str_none (zaJ I q (by simp))
    | bl j=>cases a;exact PySem.EqMixed.eq_str_bool (zaJ I q (by simp))
    | int j=>obtain⟨t',rfl⟩:=a;exact PySem.EqMixed.eq_str_int (zaJ I q (by simp))
    | str j=>obtain⟨t',rfl⟩:=a;exact eq_str (zaJ I q zi2)
    | _=>exact absurd (show false=true from b) Jp
  | byt i =>
    obtain⟨t,rfl⟩:=c
    cases y with
    | byt j=>obtain⟨t',rfl⟩:=a;exact PySem.W.eq_bytes (zaJ I q zi4)
    | _=>exact absurd (show false=true from b) Jp
  | _=>cases y<;>exact absurd (show false=true from b) Jp
theorem zmA:OpR X (compareOp .NotEq) rNe:=by
  intro pins s σ H x y v u Q I c a h
  obtain⟨b,q⟩:=h
  cases x with
  | non =>
    cases c
    cases y with
    | non=>cases a;exact PySem.EqNone.ne_none_none (zaJ I q (by simp))
    | bl j=>cases a;exact PySem.EqNone.ne_none_bool (zaJ I q (by simp))
    | int j=>obtain⟨t',rfl⟩:=a;exact PySem.EqNone.ne_none_int (zaJ I q (by simp))
    | str j=>obtain⟨t',rfl⟩:=a;exact PySem.EqNone.ne_none_str (zaJ I q (by simp))
    | _=>exact absurd (show false=true from b) Jp
  | bl i =>
    cases c
    cases y with
    | non=>cases a;exact PySem.EqNone.ne_bool_none (zaJ I q (by simp))
    | bl j=>cases a;exact ne_bool (zaJ I q (JX not zkV))
    | str j=>obtain⟨t',rfl⟩:=a;exact PySem.EqMixed.ne_bool_str (zaJ I q (by simp))
    | _=>exact absurd (show false=true from b) Jp
  | int i =>
    obtain⟨t,rfl⟩:=c
    cases y with
    | non=>cases a;exact PySem.EqNone.ne_int_none (zaJ I q (by simp))
    | int j=>obtain⟨t',rfl⟩:=a;exact ne_int (zaJ I q (JX not zi3))
    | str j=>obtain⟨t',rfl⟩:=a;exact PySem.EqMixed.ne_int_str (zaJ I q (by simp))
    | _=>exact absurd (show false=true from b) Jp
  | str i =>
    obtain⟨t,rfl⟩:=c
    cases y with
    | non=>cases a;exact PySem.EqNone.ne_str_none (zaJ I q (by simp))
    | bl j=>cases a;exact PySem.EqMixed.ne_str_bool (zaJ I q (by simp))
    | int j=>obtain⟨t',rfl⟩:=a;exact PySem.EqMixed.ne_str_int (zaJ I q (by simp))
    | str j=>obtain⟨t',rfl⟩:=a;exact ne_str (zaJ I q (JX not zi2))
    | _=>exact absurd (show false=true from b) Jp
  | byt i =>
    obtain⟨t,rfl⟩:=c
    cases y with
    | byt j=>obtain⟨t',rfl⟩:=a;exact PySem.W.ne_bytes (zaJ I q (JX not zi4))
    | _=>exact absurd (show false=true from b) Jp
  | _=>cases y<;>exact absurd (show false=true from b) Jp
theorem znp:OpR X (compareOp .Lt) (rI0 λi j=>.bl (decide (i<j))):=opB0 λ_ _ _ _ _ _ _ q=>lt_int q
theorem zjO:OpR X (compareOp .Gt) (rI0 λi j=>.bl (decide (j<i))):=opB0 λ_ _ _ _ _ _ _ q=>gt_int q
theorem zmD:OpR X (compareOp .GtE) (rI0 λi j=>.bl (decide (j<=i))):=opB0 λ_ _ _ _ _ _ _ q=>ge_int q
theorem zmB:OpR X (compareOp .Is) (λx y H Q=>y=.non/\Q (.bl (decide (x=.non))) H):=by
  intro pins s σ H x y v u Q I a b h
  obtain⟨rfl,q⟩:=h
  cases b
  refine is_none_gen (zaJ I q ?_)
  cases x<;>first
    | (cases a;rfl)
    | (obtain⟨t,rfl⟩:=a;rfl)
theorem zaQ (b:Expr) {op:CmpOp}(h:op≠.In:=by decide) (a:op≠.NotIn:=by decide):behindInMarks op b=false:=by
  have c:(op == CmpOp.In)=false:=by cases op<;>first|rfl|exact absurd rfl h
  have e2:(op == CmpOp.NotIn)=false:=by cases op<;>first|rfl|exact absurd rfl a
  cases b<;>simp[behindInMarks,c,e2]
theorem zcC {op:CmpOp}{r:R2}(e:OpR X (compareOp op) r) (ha:PE X a ta) (hb:PE X b tb) (f:behindInMarks op b=false):PE X (.Compare a [op] [b] pos) (tOp r ta tb):=by
  intro pins s σ H Q I h
  exact wpAny_Compare1 (binT ha hb I h λv u s2 x y i g d c q=>e pins s2 σ i x y v u Q g d c q) f
def zm9 (t:TE):TT:=λσ H Q=>t σ H λx H'=>∃ k,x=.bl k/\Q k H'
theorem zaE {op:CmpOp}{r:R2}(m:OpR X (compareOp op) r) (ha:PE X a ta) (hb:PE X b tb) (n:behindInMarks op b=false):PT X (.Compare a [op] [b] pos) (zm9 (tOp r ta tb)):=by
  intro pins s σ H Q I h
  refine wpAny_isTrue_Compare1 (thn (ha pins s σ H _ I h) λv s1 ⟨x,H1,q,g,l⟩=>thn (hb pins s1 σ H1 _ q l) λu s2 ⟨y,w,p,f,j⟩ =>
    thn (m pins s2 σ w x y v u _ p g f j) λc A ⟨z,t,o,d,k,e,i⟩=>?_) n
  subst e
  cases d
  exact Z0 ⟨t,o,i⟩
def TruV (K:PySem.W.Frag) (x:V) (H:Hp) (k:Bool):Prop :=
  match x with
  | .non=>k=false
  | .bl b=>k=b
  | .int i=>k=(i != 0)
  | .str y=>y.length<=sizeLine/\k=((y.length:Int) != 0)
  | .byt y=>y.size<=sizeLine/\k=((y.size:Int) != 0)
  | .ref p=>(∃ xs,SqL K H p xs/\k = !xs.isEmpty)\/(∃ xs,SqT K H p xs/\k = !xs.isEmpty)\/∃ kvs,H p=some (.dK kvs)/\k = !kvs.isEmpty
  | _=>False
theorem zha {κ:Type}{kvs:List (κ × V)}{vs:List (κ × Value)}(r:KV kvs vs):(!vs.isEmpty) = !kvs.isEmpty:=by
  cases r<;>rfl
theorem zdC {xs:List V}{its:List Value}(r:Vals xs its):(!its.toArray.isEmpty) = !xs.isEmpty:=by
  cases r<;>simp
theorem zeL:(sizeLine:Nat)<2 ^ 63:=by rw[JC];decide
theorem zmf:TruR X (λx H Q=>∃ k,TruV X.K x H k/\Q k H):=by
  intro pins s σ H x v Q I c h
  obtain⟨k,e,q⟩:=h
  have o:=zeL
  have n:sizeLine=16777216:=JC
  cases x with
  | non =>
    cases c
    have a:k=false:=e
    subst a
    exact truthy_none ⟨H,I,q⟩
  | bl b =>
    cases c
    have a:k=b:=e
    subst a
    exact Z0 ⟨H,I,q⟩
  | int i =>
    obtain⟨t,rfl⟩:=c
    have a:k=(i != 0):=e
    subst a
    exact PySem.P.truthy_int ⟨H,I,q⟩
  | str y =>
    obtain⟨t,rfl⟩:=c
    obtain⟨j,a⟩:y.length<=sizeLine/\k=((y.length:Int) != 0):=e
    subst a
    exact PySem.P.truthy_str (by omega) ⟨H,I.tok _,q⟩
  | byt y =>
    obtain⟨t,rfl⟩:=c
    obtain⟨j,a⟩:y.size<=sizeLine/\k=((y.size:Int) != 0):=e
    subst a
    exact PySem.W.truthy_bytes (by omega) ⟨H,I.tok _,q⟩
  | ref p =>
    cases c
    have a:(∃ xs,SqL X.K H p xs/\k = !xs.isEmpty)\/(∃ xs,SqT X.K H p xs/\k = !xs.isEmpty)\/∃ kvs,H p=some (.dK kvs)/\k = !kvs.isEmpty:=e
    rcases a with ⟨xs,d,a⟩|⟨xs,d,a⟩|⟨kvs,d,a⟩
    · subst a
      obtain⟨its,r,f,g⟩:=I.list d
      have hlen:=r.length
      exact wpAny_truthy_list f.isList (by simp only[Jm];omega) ⟨H,I.tok _,by rw[zdC r];exact q⟩
    · subst a
      obtain⟨its,r,f,g⟩:=I.tuple d
      have hlen:=r.length
      exact truthy_tuple f (by simp only[Jm];omega) ⟨H,I.tok _,by rw[zdC r];exact q⟩
    · subst a
      obtain⟨g,l,vs,r,m⟩:kvs.length<=sizeLine/\(p == sysModules)=false/\∃ vs,KV kvs vs/\s.heap.DictOf (za1 X.prog X.w) p vs:=I.hok p _ d
      have hlen:kvs.length=vs.length:=YR r
      exact wpAny_truthy_dict l m (by omega) ⟨H,I.tok _,by rw[zha r];exact q⟩
  | _=>exact(show False from e).elim
theorem zf8 (ha:PE X a ta) (d:∀ whole,isTrue a X.env whole=(do let v <- whole;standAt a.pos;holding [v] (truthy v))) :
    PT X a (λσ H Q=>ta σ H λx H'=>∃ k,TruV X.K x H' k/\Q k H'):=by
  intro pins s σ H Q I h
  exact isTrue_plain (thn (ha pins s σ H _ I h) λv s1 ⟨x,H1,e,b,c⟩=>zmf pins s1 σ H1 x v Q e b c) (d _)
theorem zgC {x:V}{us:List Value}(r:Vals [x] us):∃ u,us=[u]/\RelV x u:=by
  cases r with
  | cons b a=>cases a;exact⟨_,rfl,b⟩
theorem zk0 {x y:V}{us:List Value}(r:Vals [x,y] us):∃ u a,us=[u,a]/\RelV x u/\RelV y a:=by
  cases r with
  | cons e d =>
    cases d with
    | cons c b=>cases b;exact⟨_,_,rfl,e,c⟩
theorem zgB:CallR X (.builtin "abs") (λxs H Q=>∃ i,xs=[.int i]/\Q (.int (if i<0 then -i else i)) H):=by
  intro pins s σ H xs us Q I r h
  obtain⟨i,rfl,q⟩:=h
  obtain⟨u,rfl,t,rfl⟩:=zgC r
  exact call_abs_int λu tk=>⟨.int (if i<0 then -i else i),H,I.tok _,⟨_,rfl⟩,q⟩
theorem zjf (b:X.calm=true):CallR X (.builtin "max") (λxs H Q=>∃ i j,xs=[.int i,.int j]/\Q (.int (if j > i then j else i)) H):=by
  intro pins s σ H xs us Q I r h
  obtain⟨i,j,rfl,q⟩:=h
  obtain⟨u,c,rfl,⟨t,rfl⟩,⟨t',rfl⟩⟩:=zk0 r
  refine max_two_ints (I.ok.hd b) λh' tk k=>⟨_,H,I.kept k,?_,q⟩
  by_cases a:j > i
  · rw[Jf a,Jf a];exact⟨_,rfl⟩
  · rw[Jb a,Jb a];exact⟨_,rfl⟩
theorem zje (b:X.calm=true):CallR X (.builtin "min") (λxs H Q=>∃ i j,xs=[.int i,.int j]/\Q (.int (if j<i then j else i)) H):=by
  intro pins s σ H xs us Q I r h
  obtain⟨i,j,rfl,q⟩:=h
  obtain⟨u,c,rfl,⟨t,rfl⟩,⟨t',rfl⟩⟩:=zk0 r
  refine min_two_ints (I.ok.hd b) λh' tk k=>⟨_,H,I.kept k,?_,q⟩
  by_cases a:j<i
  · rw[Jf a,Jf a];exact⟨_,rfl⟩
  · rw[Jb a,Jb a];exact⟨_,rfl⟩
theorem zcv:CallR X (.type "int") (λxs H Q=>(∃ i,xs=[.int i]/\Q (.int i) H)\/∃ k,xs=[.bl k]/\Q (.int (if k then 1 else 0)) H):=by
  intro pins s σ H xs us Q I r h
  rcases h with ⟨i,rfl,q⟩|⟨k,rfl,q⟩
  · obtain⟨u,rfl,t,rfl⟩:=zgC r
    exact call_int_int ⟨.int i,H,I,⟨_,rfl⟩,q⟩
  · obtain⟨u,rfl,a⟩:=zgC r
    cases a
    exact call_int_bool ⟨.int (if k then 1 else 0),H,I.tok _,⟨_,rfl⟩,q⟩
end
structure Room (k:Nat) (A:Around):Prop where
  hd:A.handled=none
  dp:A.depth+3*k+5<recursionLimit
  un:A.units+16*k+200<cLine
  gd:A.guards=some []
theorem Room.mono {j k:Nat}{A:Around}(r:Room k A) (h:j<=k):Room j A:=⟨r.hd,by have:=r.dp;omega,by have:=r.un;omega,r.gd⟩
theorem Room.deeper {k:Nat}{A:Around}(r:Room (k+1) A) (env:Env):Room k (A.deeper env) :=
  ⟨r.hd,by have:=r.dp;show A.depth+1+3*k+5<_;omega,by have:=r.un;show A.units+3+16*k+200<_;omega,r.gd⟩
theorem Room.depth {k:Nat}{A:Around}(r:Room k A):A.depth<recursionLimit:=by have:=r.dp;omega
theorem Room.units {k:Nat}{A:Around}(r:Room k A):A.units+64<cLine:=by have:=r.un;omega
theorem Room.units0 {k:Nat}{A:Around}(r:Room k A):A.units<cLine:=by have:=r.un;omega
def tNil:TA:=λ_ H Q=>Q [] H
def zk7 (ta:TE) (a:TA):TA:=λσ H Q=>ta σ H λx H1=>a σ H1 λxs b=>Q (x::xs) b
section
variable {X:Cx}{e:Expr}{es:List Expr}{te:TE}{t:TA}{pos:Pos}
theorem zac:PA X [] tNil:=λ_ _ _ _ H Q I h=>Wp ⟨[],H,I,.nil,h⟩
theorem zaa (ha:PE X e te) (g:PA X es t) (f:starEach (e::es) X.env=(false,eval e X.env)::starEach es X.env:=by rfl):PA X (e::es) (zk7 te t):=by
  intro pos pins s σ H Q I h
  rw[f]
  show wpAny _ _ (spliced ((false,eval e X.env)::backTo pos (starEach es X.env))) _ _ s
  refine ZM (thn (ha pins s σ H _ I h) λu s1 ⟨x,H1,j,b,d⟩=>?_)
  exact thn (g pos pins s1 σ H1 _ j d) λus s2 ⟨xs,k,i,a,c⟩=>⟨x::xs,k,i,.cons b a,c⟩
def tTup (t:TA):TE:=λσ H Q=>t σ H λxs H1=>xs.length<=sizeLine/\∀ p,H1 p=none->Q (.ref p) (upd H1 p (.tup xs))
def tLst (t:TA):TE:=λσ H Q=>t σ H λxs H1=>xs.length<=sizeLine/\∀ p,H1 p=none->Q (.ref p) (upd H1 p (.lst xs))
theorem zaz {x1} (h:PA X es t):PE X (.Tuple es x1 pos) (tTup t):=by
  intro pins s σ H Q I c
  refine wpAny_Tuple_spliced (thn (h pos pins s σ H _ I c) λus s1 ⟨xs,H1,a,r,z,q⟩=>⟨by rw[<- r.length];exact z,?_⟩)
  have d:H1 s1.heap.objs.size=none:=a.hok.fresh (Jg _)
  refine⟨.ref s1.heap.objs.size,upd H1 s1.heap.objs.size (.tup xs),a.laid (t':=s1.toks) (λb u e=>J8 _ e) (Jg _) ?_,rfl,q _ d⟩
  exact⟨z,us,r,TupX.new _ _⟩
theorem zaI (h:PA X es t):PE X (.List es pos) (tLst t):=by
  intro pins s σ H Q I c
  refine wpAny_List_spliced (thn (h pos pins s σ H _ I c) λus s1 ⟨xs,H1,a,r,z,q⟩=>⟨by rw[<- r.length];exact z,?_⟩)
  have d:H1 s1.heap.objs.size=none:=a.hok.fresh (Jg _)
  refine⟨.ref s1.heap.objs.size,upd H1 s1.heap.objs.size (.lst xs),a.laid (t':=s1.toks) (λb u e=>J8 _ e) (Jg _) ?_,rfl,q _ d⟩
  exact⟨z,us,0,r,Js _ rfl⟩
end
abbrev Sp:=List V->Hp->VK->XK->Prop
abbrev CXT:=List Env->Hp->Shared->XK->Value->Shared->Prop
structure Env0 (P:Program) (w:World) (K:PySem.W.Frag) (mg:Str->Option Value) (base:Heap) (A:Around) (outer:List Env) (s:Shared) (H:Hp):Prop where
  frames:A.frames=some outer
  mod:Mod K mg base
  bs:∀ b o,base.get? b=some o->s.heap.get? b=some o/\H b=none
  bsz:base.objs.size<=s.heap.objs.size
  funs:s.heap.FunFrames base outer
  frf:∀ b∈frs outer,H b=none
  hok:HOk P w H s.heap
  bare:AllBare s.gens
def CE (outer:List Env) (P:Program) (w:World) (H:Hp) (s:Shared) (Q:VK) (u:Value) (s':Shared):Prop :=
  ∃ v H',s'.os=s.os/\AllBare s'.gens/\Un (frs outer) [] H H' s.heap s'.heap/\HOk P w H' s'.heap/\RelV v u/\Q v H'
def CR (CX:CXT) (outer:List Env) (P:Program) (w:World) (H:Hp) (s:Shared) (Q:VK) (E:XK) (r:Result) (s':Shared):Prop :=
  match r with
  | .ok (.ret u)=>CE outer P w H s Q u s'
  | .ok _=>False
  | .error e=>CX outer H s E e s'
structure FnOk (P:Program) (w:World) (K:PySem.W.Frag) (mg:Str->Option Value) (base:Heap) (CX:CXT) (k:Nat) (f:Addr) (fd:FuncData) (ps:List Str) (sp:Sp):Prop where
  len:∀ vs H Q E,sp vs H Q E->vs.length=ps.length
  run:∀ (A:Around) (outer:List Env) (s:Shared) (H:Hp) (args:Args) (us:List Value) (vs:List V) (Q:VK) (E:XK),Room k A->Env0 P w K mg base A outer s H->BindsTo s fd args (ps.zip us)->Vals vs us->sp vs H Q E ->
    codeAny (model P w) A (.call (.ref f) args) (CR CX outer P w H s Q E) s
theorem FnOk.mono {P:Program}{w:World}{K:PySem.W.Frag}{mg:Str->Option Value}{base:Heap}{CX:CXT}{j k:Nat}{f:Addr}{fd:FuncData}{ps:List Str}{sp:Sp}(F:FnOk P w K mg base CX j f fd ps sp) (h:j<=k) :
    FnOk P w K mg base CX k f fd ps sp:=⟨F.len,λA outer s H args us vs Q E a=>F.run A outer s H args us vs Q E (a.mono h)⟩
theorem FnOk.imp {P:Program}{w:World}{K:PySem.W.Frag}{mg:Str->Option Value}{base:Heap}{CX:CXT}{k:Nat}{f:Addr}{fd:FuncData}{ps:List Str}{sp a:Sp}(F:FnOk P w K mg base CX k f fd ps sp)
    (h:∀ vs H Q E,a vs H Q E->sp vs H Q E):FnOk P w K mg base CX k f fd ps a :=
  ⟨λvs H Q E q=>F.len vs H Q E (h _ _ _ _ q),λA outer s H args us vs Q E d e hb b c=>F.run A outer s H args us vs Q E d e hb b (h _ _ _ _ c)⟩
section
variable {X:Cx}{pins:List (Addr × Obj)}{σ:St}{H:Hp}{s s':Shared}
theorem Inv.env0 (I:Inv X pins σ H s):Env0 X.prog X.w X.K X.mg X.base X.A X.stack s H :=
  ⟨I.ok.frames,I.ok.mod,I.bs,Y3 I.ok.bsz I.sz,I.stack,I.stkFree,I.hok,I.bare⟩
theorem Inv.after {Q:VK}{u:Value}(I:Inv X pins σ H s) (h:CE X.stack X.prog X.w H s Q u s'):EP X pins σ Q u s':=by
  obtain⟨v,H',os,bare,un,hok,r,q⟩:=h
  obtain⟨c,g,d,t,a⟩:=s'
  obtain rfl:a=s.os:=os
  exact⟨v,H',I.call (h':=c) (g':=g) (d':=d) (t':=t) (ch:=[]) un hok bare (λb z=>absurd z (by simp)),r,q⟩
end
def znj (sp:Sp) (dvs:List V) (E:XK) (t:TA):TE:=λσ H Q=>t σ H λvs H1=>sp (vs++dvs) H1 Q E
def Binds (K:PySem.W.Frag) (fd:FuncData) (ps:List Str) (ds:List Value):Prop :=
  ∀ (s:Shared) (us:List Value),K.In s.heap->(us++ds).length=ps.length->BindsTo s fd ⟨us,[]⟩ (ps.zip (us++ds))
theorem Binds.all {K:PySem.W.Frag}{fd:FuncData}{ps:List Str}(h:∀ us:List Value,us.length=ps.length->bindArgs fd ⟨us,[]⟩=pure (ps.zip us)):Binds K fd ps []:=λs us _ a=>by
  rw[Y2]at a ⊢
  exact .of_eq (h us a)
def Passes (CX:CXT) (X:Cx) (E:XK):Prop:=∀ (pins:List (Addr × Obj)) (σ:St) (H:Hp) (s:Shared) (e:Value) (s':Shared),Inv X pins σ H s->CX X.stack H s E e s'->X.xe e s'
section
variable {X:Cx}{CX:CXT}{k:Nat}{f:Addr}{fd:FuncData}{ps:List Str}{sp:Sp}{dvs:List V}{ds:List Value}{E:XK}{x:Str}{p pos:Pos}{e:Expr}{es:List Expr}{t:TA}
theorem zmm {pins:List (Addr × Obj)}{σ:St}{H:Hp}{s:Shared}{Q:VK}{us:List Value}{vs:List V}(F:FnOk X.prog X.w X.K X.mg X.base CX k f fd ps sp) (d:Room k X.A) (hb:Binds X.K fd ps ds) (hd:Vals dvs ds) (c:Passes CX X E)
    (I:Inv X pins σ H s) (r:Vals vs us) (h:sp (vs++dvs) H Q E):wpAny (model X.prog X.w) X.A (call (.ref f) us) (EP X pins σ Q) X.xe s:=by
  have b:Vals (vs++dvs) (us++ds):=r.append hd
  have g:(us++ds).length=ps.length:=by rw[<- b.length];exact F.len _ _ _ _ h
  refine wpAny_call (codeAny_mono (F.run X.A X.stack s H ⟨us,[]⟩ (us++ds) (vs++dvs) Q E d I.env0 (hb s us I.kIn g) b h) λr s' a=>?_)
  cases r with
  | error e=>exact c pins σ H s e s' I a
  | ok fl =>
    cases fl with
    | ret u=>exact I.after a
    | next=>exact False.elim a
    | brk=>exact False.elim a
    | cont=>exact False.elim a
theorem zaj (F:FnOk X.prog X.w X.K X.mg X.base CX k f fd ps sp) (g:Room k X.A) (l:Gl X x) (i:X.mg x=some (.ref f)) (j:PySem.W.keepIn X.K (.ref f)=true) (hb:Binds X.K fd ps ds) (hd:Vals dvs ds) (d:Passes CX X E)
    (ha:PA X (e::es) t) (b:(x == ("__debug__":Str))=false:=by decide) (m:starEach (e::es) X.env=(false,eval e X.env)::starEach es X.env:=by rfl) (a:(backTo pos (starEach es X.env)).any (·.1)=false:=by rfl) :
    PE X (.Call (.Name x p) (e::es) [] pos) (znj sp dvs E t):=by
  intro pins s σ H Q I h
  refine Zf (ziB I l i ?_ b)
  refine PySem.W.callWith_K (h₀:=X.base) I.ok.mod.kin j (thn (ha pos pins s σ H _ I h) λus s1 ⟨vs,H1,c,r,q⟩=>⟨c.kIn,?_⟩) m a
  exact zmm F g hb hd d c r q
end
structure FnScope (N P:List Str) (sc:Scope):Prop where
  kind:sc.kind=.function
  co:sc.isCoroutine=false
  gen:sc.isGenerator=false
  nd:N.Nodup
  pre:N.take P.length=P
  par:∀ x∈P,sc.names.lookup x=some .local \/ sc.names.lookup x=some .cell
  nofree:∀ y∈sc.names,y.2≠.free
theorem ze0 {kindOf:Str->Option NameKind}{x:Str}:∀ {binds:List (Str × Value)}{m:Str->Option Value},(∀ v,(x,v)∉binds)->bindL kindOf binds m x=m x
  | [],_,_=>rfl
  | (n,v)::r,m,h=>by
    unfold bindL
    rw[ze0 λw a=>h w (JG _ a)]
    split
    · have:x≠n:=by rintro rfl;exact h v JH
      simp[this]
    · rfl
theorem ze2 {kindOf:Str->Option NameKind}{x:Str}:∀ {binds:List (Str × Value)}{m:Str->Option Value},(∀ v,(x,v)∉binds)->bindC kindOf binds m x=m x
  | [],_,_=>rfl
  | (n,v)::r,m,h=>by
    unfold bindC
    rw[ze2 λw a=>h w (JG _ a)]
    split
    · rfl
    · have:x≠n:=by rintro rfl;exact h v JH
      simp[this]
theorem ze1 {kindOf:Str->Option NameKind}{x:Str}{v:Value}:∀ {P:List Str}{vs:List Value}{i:Nat}{m:Str->Option Value},P.Nodup->P[i]?=some x->vs[i]?=some v->kindOf x=some .local ->
    bindL kindOf (P.zip vs) m x=some v
  | [],_,_,_,_,h,_,_=>by simp at h
  | _::_,[],_,_,_,_,h,_=>by simp at h
  | p::P,w::vs,0,m,nd,h1,a,b=>by
    simp at h1 a;subst h1;subst a
    show bindL kindOf ((p,w)::P.zip vs) m p=_
    unfold bindL
    rw[ze0 λv c=>(JR.mp nd).1 (List.of_mem_zip c).1,Jf b]
    simp
  | p::P,w::vs,i+1,m,nd,h1,a,b=>by
    show bindL kindOf ((p,w)::P.zip vs) m x=_
    unfold bindL
    exact ze1 (i:=i) (JR.mp nd).2 (by simpa using h1) (by simpa using a) b
theorem ze3 {kindOf:Str->Option NameKind}{x:Str}{v:Value}:∀ {P:List Str}{vs:List Value}{i:Nat}{m:Str->Option Value},P.Nodup->P[i]?=some x->vs[i]?=some v->kindOf x≠some .local ->
    bindC kindOf (P.zip vs) m x=some v
  | [],_,_,_,_,h,_,_=>by simp at h
  | _::_,[],_,_,_,_,h,_=>by simp at h
  | p::P,w::vs,0,m,nd,h1,a,b=>by
    simp at h1 a;subst h1;subst a
    show bindC kindOf ((p,w)::P.zip vs) m p=_
    unfold bindC
    rw[ze2 λv c=>(JR.mp nd).1 (List.of_mem_zip c).1,Jb b]
    simp
  | p::P,w::vs,i+1,m,nd,h1,a,b=>by
    show bindC kindOf ((p,w)::P.zip vs) m x=_
    unfold bindC
    exact ze3 (i:=i) (JR.mp nd).2 (by simpa using h1) (by simpa using a) b
def zds (N:List Str) (vs:List V):St:=vs.map some++List.replicate (N.length-vs.length) none
def cxOf (CX:CXT) (P:Program) (w:World) (K:PySem.W.Frag) (mg:Str->Option Value) (base:Heap) (N:List Str) (qual:Str) (scope:Scope) (f:Addr) (cd:Value) (A:Around) (outer:List Env) (s:Shared) (H:Hp) (E:XK):Cx where
  prog:=P
  w:=w
  K:=K
  mg:=mg
  base:=base
  A:=A.deeper (envOfC qual scope s.heap.objs.size f cd)
  N:=N
  s₀:=s
  H₀:=H
  env:=envOfC qual scope s.heap.objs.size f cd
  outer:=outer
  stack:=envOfC qual scope s.heap.objs.size f cd::outer
  ex:=[]
  calm:=true
  fn:=λ_=>true
  pn:=[]
  xe:=λe s'=>wpAny (model P w) (A.deeper (envOfC qual scope s.heap.objs.size f cd)) (leaving (envOfC qual scope s.heap.objs.size f cd) e) (λ_ a=>CX outer H s E e a) (λb a=>CX outer H s E b a) s'
theorem zgA {sc:Scope}{n:Nat}{x:Str}(h:sc.names.lookup x=some .cell):∃ c,(cellsFrom n sc.names []).lookup x=some c:=by
  have q:=PySem.W.cellsFrom_some sc.names n [] (.inl h)
  exact ZD.mp q
theorem ziL {CX:CXT}{P:Program}{w:World}{K:PySem.W.Frag}{mg:Str->Option Value}{base:Heap}{N ps:List Str}{qual:Str}{scope:Scope}{f:Addr}{cd:Value}{A:Around}{outer:List Env}{s s1:Shared}{H:Hp}{E:XK}{us:List Value}{vs:List V}
    (S:FnScope N ps scope) (hd:A.handled=none) (g:Env0 P w K mg base A outer s H) (F:vs.length=ps.length) (r:Vals vs us)
    (x:InCallC s s.heap.objs.size (bindL (envOfC qual scope s.heap.objs.size f cd).kindOf (ps.zip us) λ_=>none) (cellsFrom (s.heap.objs.size+1) scope.names []) (bindC (envOfC qual scope s.heap.objs.size f cd).kindOf (ps.zip us) λ_=>none) s1) :
    Inv (cxOf CX P w K mg base N qual scope f cd A outer s H E) [] (zds N vs) H s1:=by
  have D:ps.length<=N.length:=by have:=JX List.length S.pre;rw[Jy]at this;omega
  obtain⟨h1,tk,rfl,B⟩:=x.done
  have l:∀ b:Addr,b∉(cxOf CX P w K mg base N qual scope f cd A outer s H E).ex:=λb z=>absurd (show b∈([]:List Addr) from z) (by simp)
  refine⟨⟨g.mod,S.kind,rfl,rfl,Jg _,λy z c h1 d=>?_,λy j=>?_,λy c _ h=>?_,λ_=>hd,Around.frames_deeper g.frames,.inr ⟨rfl,rfl⟩,λb z=>absurd z (l b),g.bs,g.bsz,λb _ _=>l b,λb z=>absurd z (l b),g.funs,g.frf⟩,
    rfl,g.bare,Un.kept B,⟨_,x.toInCall.ns,λi y v h1 d G=>?_⟩,λy c h=>⟨_,x.cell y c h⟩,g.hok.fresh (Jg _),λy c h=>?_,λp m=>absurd (show p∈([]:List (Addr × Obj)) from m) (by simp),g.hok.kept B,?_⟩
  · exact name_of_addr x.apart (Z9 h1) (Z9 d)
  · have j:scope.names.lookup y=some .cell\/scope.names.lookup y=some .free:=j
    rcases j with j|j
    · exact zgA j
    · exact absurd rfl (S.nofree _ (Z9 j))
  · exact Nat.le_of_lt (x.above y c (Z9 h))
  · have hi:i<vs.length:=by
      unfold zds at d
      by_cases hi:i<vs.length
      · exact hi
      · rw[Yy (by simpa using hi)]at d
        rw[List.getElem?_replicate]at d
        split at d<;>cases d
    have ha:vs[i]?=some v:=by
      unfold zds at d
      rw[YB (by simpa using hi),JK]at d
      cases e:vs[i]? with
      | none=>rw[e]at d;cases d
      | some a=>rw[e]at d;cases d;rfl
    obtain⟨u,t,C⟩:=r.get ha
    have m:ps[i]?=some y:=by
      rw[<- S.pre,Z6 (by omega)];exact h1
    have o:ps.Nodup:=by rw[<- S.pre];exact S.nd.sublist (List.take_sublist _ _)
    refine⟨u,C,?_⟩
    rcases S.par y (JP m) with k|k
    · exact .inl ⟨k,ze1 o m t k⟩
    · obtain⟨c,e⟩:=zgA (n:=s.heap.objs.size+1) k
      refine .inr ⟨.inl k,c,e,?_⟩
      have q:=x.cell y c e
      rw[ze3 o m t (by show scope.names.lookup y≠_;rw[k];decide)]at q
      exact q
  · exact g.hok.fresh (Nat.le_of_lt (x.above y c (Z9 h)))
  · unfold zds
    show _=N.length
    rw[Jd,Jq,YE]
    omega
theorem zmY {CX:CXT}{P:Program}{w:World}{K:PySem.W.Frag}{mg:Str->Option Value}{base:Heap}{k:Nat}{f:Addr}{name qual:Str}{params:Arguments}{body:List Stmt}{scope:Scope}{p kV doc pm cdv ct oc:Value}{an od:Option Addr}
    {osl:Array (Option Value)}{N ps:List Str}{sp:Sp}(B:K.lookup f=some ⟨oc,od,.func (PySem.W.fnOf name qual params body scope p kV doc pm an cdv ct),osl⟩) (m:PySem.W.codeIn K cdv qual=true) (S:FnScope N ps scope)
    (len:∀ vs H Q E,sp vs H Q E->vs.length=ps.length)
    (d:∀ (A:Around) (outer:List Env) (s:Shared) (H:Hp) (vs:List V) (Q:VK) (E:XK),Room k (A.deeper (envOfC qual scope s.heap.objs.size f cdv))->sp vs H Q E ->
      ∃ t,PSs (cxOf CX P w K mg base N qual scope f cdv A outer s H E) body t/\t { nx:=λ_ H'=>Q .non H',rt:=Q } (zds N vs) H) :
    FnOk P w K mg base CX (k+1) f (PySem.W.fnOf name qual params body scope p kV doc pm an cdv ct) ps sp:=by
  refine⟨len,λA outer s H args us vs Q E l h hb r i=>?_⟩
  have G:=len _ _ _ _ i
  have z:K.In s.heap:=h.mod.kin.keeps λb o e=>(h.bs b o e).1
  have lim:s.heap.NoLimit:=h.mod.nolimit.keeps λb o e=>(h.bs b o e).1
  have c:∀ y∈ps.zip us,scope.names.lookup y.1=some .local \/ (scope.names.lookup y.1=some .cell/\((cellsFrom (s.heap.objs.size+1) scope.names []).lookup y.1).isSome=true):=λ⟨n,v⟩ C=>by
    rcases S.par n (List.of_mem_zip C).1 with q|q
    · exact .inl q
    · exact .inr ⟨q,PySem.W.cellsFrom_some _ _ _ (.inl q)⟩
  refine codeAny_call_function l.depth (z _ _ B) rfl S.co S.gen rfl (PySem.W.codeRec_of z m) (hb _ _ _ _ ?_)
  refine wpAny_newFunctionEnv_cells S.kind c λenv L s1 x=>?_
  subst L
  refine⟨lim.keeps x.toInCall.keep,codeAny_func ?_⟩
  obtain⟨t,D,F⟩:=d A outer s H vs Q E (l.deeper _) i
  have I:Inv (cxOf CX P w K mg base N qual scope f cdv A outer s H E) [] (zds N vs) H s1:=ziL S l.hd h G r x
  refine JT (D [] s1 (zds N vs) H _ I F) (λfl s' g=>?_) λe s' g=>g
  have fin:∀ {a:St}{H':Hp}{v:V}{u:Value},Inv (cxOf CX P w K mg base N qual scope f cdv A outer s H E) [] a H' s'->RelV v u->Q v H'->CE outer P w H s Q u s' :=
    λ{a H' v u} J j q=>⟨v,H',J.os,J.bare,J.base,J.hok,j,q⟩
  cases fl with
  | ret u =>
    obtain⟨v,a,H',J,j,q⟩:=g
    exact fin J j q
  | next =>
    obtain⟨a,H',J,q⟩:=g
    exact fin (v:=V.non) (u:=Value.none) J rfl q
  | brk =>
    obtain⟨_,_,_,q⟩:=g
    exact False.elim q
  | cont =>
    obtain⟨_,_,_,q⟩:=g
    exact False.elim q
section
variable {X:Cx}{x:Str}{p pos:Pos}{e:Expr}{es:List Expr}{t:TA}{id T:String}{r:List V->Hp->VK->Prop}
def tCB (r:List V->Hp->VK->Prop) (t:TA):TE:=λσ H Q=>t σ H λvs H1=>r vs H1 Q
theorem zay (l:CallR X (.builtin id) r) (j:Gl X x) (i:X.mg x=none) (f:bootBuiltins x=some (.builtin id)) (ha:PA X (e::es) t) (g:x≠"__name__":=by decide) (b:(x == ("__debug__":Str))=false:=by decide)
    (k:starEach (e::es) X.env=(false,eval e X.env)::starEach es X.env:=by rfl) (a:(backTo pos (starEach es X.env)).any (·.1)=false:=by rfl):PE X (.Call (.Name x p) (e::es) [] pos) (tCB r t):=by
  intro pins s σ H Q I h
  refine Zf (zb0 I j i f ?_ g b)
  exact PyProof.Rows.callWith_builtin1 (thn (ha pos pins s σ H _ I h) λus s1 ⟨vs,H1,m,c,d⟩=>l pins s1 σ H1 vs us Q m c d) k a
theorem zar (l:CallR X (.type T) r) (j:Gl X x) (i:X.mg x=none) (f:bootBuiltins x=some (.type T)) (ha:PA X (e::es) t) (g:x≠"__name__":=by decide) (b:(x == ("__debug__":Str))=false:=by decide)
    (k:starEach (e::es) X.env=(false,eval e X.env)::starEach es X.env:=by rfl) (a:(backTo pos (starEach es X.env)).any (·.1)=false:=by rfl):PE X (.Call (.Name x p) (e::es) [] pos) (tCB r t):=by
  intro pins s σ H Q I h
  refine Zf (zb0 I j i f ?_ g b)
  exact Yj (thn (ha pos pins s σ H _ I h) λus s1 ⟨vs,H1,m,c,d⟩=>l pins s1 σ H1 vs us Q m c d) k a
end
end L2
namespace HT
open PySem PyProof.Rows
section
variable {prog:Program}{w:World}{A:Around}{E:Value->Shared->Prop}{s:Shared}
theorem cat_tup {t b:Addr}{vs ws:List Value}{Q:Value->Shared->Prop}(o:IsTup s.heap t vs.toArray) (hb:IsTup s.heap b ws.toArray) (j:vs≠[])
    (h1:ws=[]->Q (.ref t) s) (p:ws≠[]->Q (.ref s.heap.objs.size) { s with heap:=s.heap.push { cls:=.type "tuple",data:=.seq (vs++ws).toArray } })
    (hsz:vs.length+ws.length<=sizeLine):wpAny (model prog w) A (binaryOp .Add (.ref t) (.ref b)) Q E s:=by
  obtain⟨⟨cls,l,data,sl⟩,i,k,n,hd⟩:=id o
  obtain⟨⟨m,g,data2,c⟩,a,f,n2,d⟩:=id hb
  simp only at k hd f d
  subst k hd f d
  have e:vs.toArray++ws.toArray=(vs++ws).toArray:=by simp
  by_cases h:ws=[]
  · exact concat_meets ⟨_,i,rfl⟩ ⟨_,a,rfl⟩ noFill_tuple_add seq_tuple_add PySem.F.slot_tuple_add PySem.F.entry_tuple_add (PySem.F.args_tuple_add_2 _ _)
      (tuple_addW1 t b vs.toArray ws.toArray n n2 l g sl c (by simpa using j) (by simp[h])) ⟨i,a,h1 h⟩
  · refine concat_meets ⟨_,i,rfl⟩ ⟨_,a,rfl⟩ noFill_tuple_add seq_tuple_add PySem.F.slot_tuple_add PySem.F.entry_tuple_add (PySem.F.args_tuple_add_2 _ _)
      (tuple_addW2 t b vs.toArray ws.toArray n n2 l g sl c (by simpa using j) (by simpa using h) (by rw[Jm,Jm];exact hsz)) ⟨i,a,?_⟩
    rw[e]
    exact p h
def sIx (n d:Nat):Option Int->Nat
  | none=>d
  | some v=>if v<0 then (v+(n:Int)).toNat else min v.toNat n
theorem sIx_none (n d:Nat):sIx n d none=d:=rfl
theorem sIx_nat (n d k:Nat):sIx n d (some (k:Int))=min k n:=by
  show (if (k:Int)<0 then ((k:Int)+(n:Int)).toNat else min (k:Int).toNat n)=min k n
  rw[Jb (by omega),Ya]
theorem zml (n d:Nat) (hd:d<=n) (o:Option Int):sIx n d o<=n:=by
  cases o with
  | none=>exact hd
  | some v =>
    show (if v<0 then (v+(n:Int)).toNat else min v.toNat n)<=n
    by_cases a:v<0
    · rw[Jf a];omega
    · rw[Jb a];exact Nat.min_le_right _ _
theorem zja (v:Int) (n d:Nat):(if v<0 then max (v+(n:Int)) 0 else min v (n:Int))=((sIx n d (some v):Nat):Int):=by
  show (if v<0 then max (v+(n:Int)) 0 else min v (n:Int))=(((if v<0 then (v+(n:Int)).toNat else min v.toNat n):Nat):Int)
  by_cases a:v<0
  · simp only[Jf a];omega
  · simp only[Jb a];omega
theorem zhe (lo hi:Option Int) (n:Nat):Builtin.Slice.sliceAdjust lo hi 1 (n:Int)=(((sIx n 0 lo:Nat):Int),((sIx n n hi:Nat):Int)):=by
  have h1:¬((1:Int)<0):=by omega
  unfold Builtin.Slice.sliceAdjust
  simp only[h1,YV]
  refine Prod.ext ?_ ?_
  · cases lo with
    | none=>rfl
    | some v=>exact zja v n 0
  · cases hi with
    | none=>rfl
    | some v=>exact zja v n n
theorem zgR (i j:Nat):Builtin.Slice.slicePlaces (i:Int) (j:Int) 1=j-i:=by
  unfold Builtin.Slice.slicePlaces
  have h1:(1:Int) > 0:=by omega
  simp only[h1,Yk,Int.ediv_one]
  split<;>omega
theorem zdw {v:Value}{o:Option Int}{Q:Option Int->Shared->Prop}(p:IsPart v o) (h:Q o s):wpAny (model prog w) A (Builtin.Slice.slicePartIndex v) Q E s:=by
  cases p with
  | none=>exact slicePart_none h
  | int i t=>exact slicePart_int h
theorem sliceApplied_gen {sl:Addr}{d c:Value}{lo hi:Option Int}{n:Nat}{Q:Int × Int × Nat->Shared->Prop}(f:s.heap.IsSliceOf sl d c .none) (e:IsPart d lo) (pu:IsPart c hi)
    (h:Q (((sIx n 0 lo:Nat):Int),1,sIx n n hi-sIx n 0 lo) s):wpAny (model prog w) A (Builtin.Slice.sliceApplied (.ref sl) (pure (n:Int))) Q E s:=by
  obtain⟨os,a,g,b⟩:=id f
  unfold Builtin.Slice.sliceApplied Builtin.Slice.sliceFields
  refine J0 (J0 (W6 a b (x:=d) rfl (J0 (W6 a b (x:=c) rfl (J0 (W6 a b (x:=.none) rfl (J9 ?_)))))))
  refine J0 (slicePart_none ?_)
  show wpAny _ _ (if ((1:Int) == 0)=true then _ else _) _ _ s
  rw[Jb (by decide)]
  refine J0 (zdw e (J0 (zdw pu (J0 (J9 ?_)))))
  show wpAny _ _ (match Builtin.Slice.sliceAdjust lo hi 1 (n:Int) with|(lo,hi)=>pure (lo,(1:Int),Builtin.Slice.slicePlaces lo hi 1)) _ _ s
  rw[zhe lo hi n]
  show wpAny _ _ (pure (((sIx n 0 lo:Nat):Int),(1:Int),Builtin.Slice.slicePlaces ((sIx n 0 lo:Nat):Int) ((sIx n n hi:Nat):Int) 1)) _ _ s
  rw[zgR]
  exact J9 h
theorem zjI (xs:Array Value) (i k:Nat):((List.range k).filterMap λ(m:Nat)=>xs[((i:Int)+(m:Int)*1).toNat]?).toArray=((xs.toList.drop i).take k).toArray:=by
  have e:(λ(m:Nat)=>xs[((i:Int)+(m:Int)*1).toNat]?)=λm=>xs[i+m]?:=by
    funext m
    have:((i:Int)+(m:Int)*1).toNat=i+m:=by omega
    rw[this]
  rw[e]
  have:=pick_run xs i k
  rw[ZN]at this
  have e2:((λx=>xs[x]?)∘λx=>i+x)=λm=>xs[i+m]?:=rfl
  rw[e2]at this
  rw[this]
theorem getItem_tuple_cut {t sl:Addr}{items:Array Value}{i g:Value}{lo hi:Option Int}{Q:Value->Shared->Prop}(b:IsTup s.heap t items) (j:s.heap.IsSliceOf sl i g .none) (k:IsPart i lo) (pu:IsPart g hi)
    (l:¬(sIx items.size 0 lo=0/\sIx items.size items.size hi=items.size))
    (h:Q (.ref s.heap.objs.size) { s with heap:=s.heap.push { cls:=.type "tuple",data:=.seq ((items.toList.drop (sIx items.size 0 lo)).take (sIx items.size items.size hi-sIx items.size 0 lo)).toArray } })
    (hsz:items.size<=sizeLine):wpAny (model prog w) A (getItem (.ref t) (.ref sl)) Q E s:=by
  have a:sizeOk (.seq ((items.toList.drop (sIx items.size 0 lo)).take (sIx items.size items.size hi-sIx items.size 0 lo)).toArray):=by
    show ((items.toList.drop (sIx items.size 0 lo)).take (sIx items.size items.size hi-sIx items.size 0 lo)).toArray.size<=sizeLine
    rw[Jm,Jy,Y9,JA]
    omega
  have r:sIx items.size items.size hi<=items.size:=zml _ _ (Jg _) hi
  obtain⟨os,c,e,n⟩:=id j
  have f:s.TypeIs (.ref sl) "slice":=⟨os,c,e⟩
  unfold getItem
  try with_reducible refine Yi ?_
  first|refine J0 (J9 ?_)|skip
  refine J0 (wpAny_sequenceKey b.typeIs (by decide) ?_)
  refine J0 (wpAny_callSpecial?_slot (name:=Str.ofString "__getitem__") b.typeIs ZW
    (Y4 ZW b.typeIs entry_tuple_getitem ?_ (args_tuple_getitem _ _)))
  show wpAny _ _ (Builtin.Tuple.tupleItemsOf (.ref t) >>= _) _ _ s
  refine J0 (tupleItemsOf_ b ?_)
  refine J0 (Zg f ?_)
  rw[Jf (by decide)]
  refine J0 (sliceApplied_gen j k pu ?_)
  have d:¬((((sIx items.size 0 lo:Nat):Int) == 0 && (1:Int) == 1 && (sIx items.size items.size hi-sIx items.size 0 lo) == items.size)=true):=by
    intro q
    rw[YN,YN]at q
    have p:((sIx items.size 0 lo:Nat):Int)=0:=eq_of_beq q.1.1
    have o:sIx items.size items.size hi-sIx items.size 0 lo=items.size:=eq_of_beq q.2
    exact l ⟨by omega,by omega⟩
  show wpAny _ _ (if (((sIx items.size 0 lo:Nat):Int) == 0 && (1:Int) == 1 && (sIx items.size items.size hi-sIx items.size 0 lo) == items.size)=true then _ else _) _ _ s
  rw[Jb d,zjI]
  first
    | exact J0 (m:=Builtin.Tuple.tupleExact _) (JM (J9 ⟨_,rfl,J9 h⟩) a)
    | exact J0 (m:=Builtin.Tuple.tupleExact _) (JM (J0 (J9 (J9 ⟨_,rfl,J9 h⟩))) a)
    | exact J0 (J0 (m:=Builtin.Tuple.tupleExact _) (JM (J9 (J9 ⟨_,rfl,J9 h⟩)) a))
    | exact J0 (J0 (m:=Builtin.Tuple.tupleExact _) (JM (J9 ⟨_,rfl,J9 h⟩) a))
end
end HT
namespace L2
open PySem PySem.Spec PyProof.Rows
abbrev TO:=St->Hp->(Option Int->Hp->Prop)->Prop
def PO (X:Cx) (e:Option Expr) (t:TO):Prop :=
  ∀ (pins:List (Addr × Obj)) (s:Shared) (σ:St) (H:Hp) (Q:Option Int->Hp->Prop),Inv X pins σ H s->t σ H Q ->
    wpAny (model X.prog X.w) X.A (evalPart e X.env) (λu s'=>∃ o H',Inv X pins σ H' s'/\IsPart u o/\Q o H') X.xe s
def zk6:TO:=λ_ H Q=>Q none H
def zna (t:TE):TO:=λσ H Q=>t σ H λx H1=>∃ i,x=.int i/\Q (some i) H1
section
variable {X:Cx}{e:Expr}{te:TE}{lo hi:Option Expr}{tl th:TO}{pos p2:Pos}
theorem zaR:PO X none zk6:=by
  intro pins s σ H Q I h
  rw[evalPart_none]
  exact J9 ⟨none,H,I,.none,h⟩
theorem zaB (h:PE X e te):PO X (some e) (zna te):=by
  intro pins s σ H Q I c
  rw[evalPart_some]
  refine thn (h pins s σ H _ I c) λu s1 ⟨x,H1,d,a,b⟩=>?_
  obtain⟨i,rfl,q⟩:=b
  obtain⟨t,rfl⟩:=a
  exact⟨some i,H1,d,.int i t,q⟩
def SlR (X:Cx) (r:V->Option Int->Option Int->Hp->VK->Prop):Prop :=
  ∀ (pins:List (Addr × Obj)) (s:Shared) (σ:St) (H:Hp) (x:V) (v b a:Value) (lo hi:Option Int) (sl:Addr) (Q:VK),Inv X pins σ H s->RelV x v->s.heap.IsSliceOf sl b a .none->IsPart b lo->IsPart a hi->r x lo hi H Q ->
    ∃ T id,typeLookup (.type T) "__getitem__" = pure (some (.builtin id))/\s.TypeIs v T/\wpAny (model X.prog X.w) X.A (getItem v (.ref sl)) (EP X pins σ Q) X.xe s
def tSl (r:V->Option Int->Option Int->Hp->VK->Prop) (te:TE) (tl th:TO):TE:=λσ H Q=>te σ H λx H1=>tl σ H1 λl b=>th σ b λu a=>r x l u a Q
theorem zaH {r:V->Option Int->Option Int->Hp->VK->Prop}(p:SlR X r) (y:PE X e te) (t:PO X lo tl) (n:PO X hi th):PE X (.Subscript e (.Slice lo hi none p2) pos) (tSl r te tl th):=by
  intro pins s σ H Q I h
  refine Subscript_ (thn (y pins s σ H _ I h) λv s1 ⟨x,H1,D,g,k⟩=>?_)
  refine wpAny_Slice (thn (t pins s1 σ H1 _ D k) λd s2 ⟨l,E,C,m,j⟩=>thn (n pins s2 σ E _ C j) λc a ⟨u,f,B,pu,i⟩=>?_)
  rw[evalPart_none]
  refine J9 ?_
  have A:Inv X pins σ f { a with heap:=a.heap.push { cls:=.type "slice",data:=.fields #[d,c,.none] } }:=B.kept (t':=a.toks) λb ob q=>J8 _ q
  obtain⟨T,id,z,o,w⟩:=p pins { a with heap:=a.heap.push { cls:=.type "slice",data:=.fields #[d,c,.none] } } σ f x v d c l u a.heap.objs.size Q A g (Heap.IsSliceOf.new ..) m pu i
  show wpAny (model X.prog X.w) X.A (subscriptTail e (.Slice lo hi none p2) v (.ref a.heap.objs.size)) (EP X pins σ Q) X.xe { a with heap:=a.heap.push { cls:=.type "slice",data:=.fields #[d,c,.none] } }
  exact tail_any (ops:=[.ref a.heap.objs.size,v]) o z w (by with_unfolding_all rfl)
def cutV (xs:List V) (lo hi:Option Int):List V:=(xs.drop (HT.sIx xs.length 0 lo)).take (HT.sIx xs.length xs.length hi-HT.sIx xs.length 0 lo)
theorem zdl (xs:List V) (lo hi:Option Int):(cutV xs lo hi).length<=xs.length:=by
  unfold cutV
  rw[Jy,Y9]
  omega
def rSlT (K:PySem.W.Frag):V->Option Int->Option Int->Hp->VK->Prop:=λx lo hi H Q=>∃ a xs,x=.ref a/\SqT K H a xs /\
  ¬(HT.sIx xs.length 0 lo=0/\HT.sIx xs.length xs.length hi=xs.length)/\∀ p,H p=none->Q (.ref p) (upd H p (.tup (cutV xs lo hi)))
theorem zmj:SlR X (rSlT X.K):=by
  intro pins s σ H x v l k lo hi sl Q I e j f pu h
  obtain⟨a,xs,rfl,g,i,q⟩:=h
  cases e
  obtain⟨its,r,d,c⟩:=I.tuple g
  have hlen:its.toArray.size=xs.length:=by rw[Jm];exact r.length.symm
  refine⟨"tuple",_,PyProof.Rows.slot_tuple_getitem.lookup,d.typeIs,?_⟩
  refine HT.getItem_tuple_cut d j f pu (by rw[hlen];exact i) ?_ (by rw[hlen];exact c)
  rw[hlen]
  refine⟨.ref s.heap.objs.size,_,I.laid (t':=s.toks) (o:=.tup (cutV xs lo hi)) (λb ob q=>J8 _ q) (Jg _) ?_,rfl,q _ (I.hok.fresh (Jg _))⟩
  exact⟨Y3 (zdl xs lo hi) c,_,(r.drop (HT.sIx xs.length 0 lo)).take (HT.sIx xs.length xs.length hi-HT.sIx xs.length 0 lo),TupX.new _ _⟩
def znn (K:PySem.W.Frag):R2:=λx y H Q=>∃ a b xs ys,x=.ref a/\y=.ref b/\SqT K H a xs/\SqT K H b ys/\xs≠[]/\xs.length+ys.length<=sizeLine /\
  (ys=[]->Q (.ref a) H)/\(ys≠[]->∀ p,H p=none->Q (.ref p) (upd H p (.tup (xs++ys))))
theorem Vals.nil_iff {xs:List V}{us:List Value}(r:Vals xs us):us=[]↔xs=[]:=by
  cases r with
  | nil=>simp
  | cons _ _=>simp
theorem zly:OpR X (binaryOp .Add) (znn X.K):=by
  intro pins s σ H x y v u Q I i g h
  obtain⟨a,b,xs,ys,rfl,rfl,ha,hb,l,e,k,j⟩:=h
  cases i
  cases g
  obtain⟨its,d,p1,_⟩:=I.tuple ha
  obtain⟨f,c,p2,_⟩:=I.tuple hb
  refine HT.cat_tup p1 p2 (λz=>l (d.nil_iff.mp z)) (λz=>⟨.ref a,H,I,rfl,k (c.nil_iff.mp z)⟩) (λz=>?_) (by rw[<- d.length,<- c.length];exact e)
  refine⟨.ref s.heap.objs.size,_,I.laid (t':=s.toks) (o:=.tup (xs++ys)) (λb ob q=>J8 _ q) (Jg _) ?_,rfl,j (λw=>z (c.nil_iff.mpr w)) _ (I.hok.fresh (Jg _))⟩
  exact⟨by rw[Jd];exact e,_,d.append c,TupX.new _ _⟩
end
def ixN (n:Nat) (i:Int):Option Nat:=if 0<=i then (if i<n then some i.toNat else none) else if -(n:Int)<=i then some (i+n).toNat else none
def atI {α:Type}(xs:List α) (i:Int):Option α:=(ixN xs.length i).bind λj=>xs[j]?
theorem zfD {n:Nat}{i:Int}{j:Nat}(h:ixN n i=some j):seqIndex? i n=some j/\j<n/\-(n:Int)<=i/\i<n:=by
  unfold ixN at h
  by_cases a:0<=i
  · rw[Jf a]at h
    by_cases h1:i<n
    · rw[Jf h1]at h
      have e:i.toNat=j:=Jn h
      exact⟨by rw[seqIndex_of a h1,e],by omega,by omega,h1⟩
    · rw[Jb h1]at h;cases h
  · rw[Jb a]at h
    by_cases h1:-(n:Int)<=i
    · rw[Jf h1]at h
      have e:(i+n).toNat=j:=Jn h
      exact⟨by rw[seqIndex_neg (by omega) h1,e],by omega,h1,by omega⟩
    · rw[Jb h1]at h;cases h
theorem zjn {α:Type}{xs:List α}{i:Int}{v:α}(h:atI xs i=some v):∃ j,seqIndex? i xs.length=some j/\xs[j]?=some v/\j<xs.length/\-(xs.length:Int)<=i/\i<xs.length:=by
  unfold atI at h
  cases e:ixN xs.length i with
  | none=>rw[e]at h;cases h
  | some j =>
    rw[e]at h
    obtain⟨h1,c,b,a⟩:=zfD e
    exact⟨j,h1,h,c,b,a⟩
theorem zaP {α:Type}{xs:List α}{j:Nat}{v:α}(h:xs[j]?=some v):atI xs (j:Int)=some v:=by
  have a:j<xs.length:=(Jc.mp h).1
  have e:ixN xs.length (j:Int)=some j:=by
    unfold ixN
    rw[Jf (by omega),Jf (by omega)];simp
  unfold atI;rw[e];exact h
theorem zkE {α:Type}(xs:List α) (v:α):atI (xs++[v]) (-1)=some v:=by
  have a:(xs++[v]).length=xs.length+1:=by simp
  have e:ixN (xs++[v]).length (-1)=some xs.length:=by
    unfold ixN
    rw[a,Jb (by decide),Jf (by omega)]
    congr 1
    omega
  unfold atI
  rw[e]
  show (xs++[v])[xs.length]?=some v
  simp
def PlainIx (b:Expr):Prop:=∀ o i,subscripted b false o i=operate [o,i] (getItem o i)
def IxR (X:Cx) (r:R2):Prop :=
  ∀ (value slice:Expr) (pins:List (Addr × Obj)) (s:Shared) (σ:St) (H:Hp) (x y:V) (v u:Value) (Q:VK),Inv X pins σ H s->RelV x v->RelV y u->r x y H Q ->
    subscripted slice false v u=operate [v,u] (getItem v u)->wpAny (model X.prog X.w) X.A (subscriptTail value slice v u) (EP X pins σ Q) X.xe s
def MtR (X:Cx) (id:String) (r:V->List V->Hp->VK->Prop):Prop :=
  ∀ (pins:List (Addr × Obj)) (s:Shared) (σ:St) (H:Hp) (x:V) (xs:List V) (v:Value) (us:List Value) (Q:VK),Inv X pins σ H s->RelV x v->Vals xs us->r x xs H Q ->
    wpAny (model X.prog X.w) X.A (call (.builtin id) (v::us)) (EP X pins σ Q) X.xe s
section
variable {X:Cx}{a b:Expr}{ta tb:TE}{pos:Pos}
theorem zaA {r:R2}(f:IxR X r) (ha:PE X a ta) (hb:PE X b tb) (e:PlainIx b):PE X (.Subscript a b pos) (tOp r ta tb):=by
  intro pins s σ H Q I h
  exact Subscript_ (binT ha hb I h λv u s2 x y i g d c q=>f a b pins s2 σ i x y v u Q g d c q (e _ _))
def rIxL (K:PySem.W.Frag):R2:=λx y H Q=>∃ p xs i v,x=.ref p/\y=.int i/\SqL K H p xs/\atI xs i=some v/\Q v H
def rIxT (K:PySem.W.Frag):R2:=λx y H Q=>∃ p xs i v,x=.ref p/\y=.int i/\SqT K H p xs/\atI xs i=some v/\Q v H
theorem zat:IxR X (rIxL X.K):=by
  intro value slice pins s σ H x y v u Q I k g h d
  obtain⟨p,xs,i,z,rfl,rfl,l,n,q⟩:=h
  cases k
  obtain⟨t,rfl⟩:=g
  obtain⟨its,r,a,C⟩:=I.list l
  obtain⟨j,h1,B,E,A,o⟩:=zjn n
  obtain⟨w,f,c⟩:=r.get B
  have m:=r.length
  have D:=zeL
  have fin:EP X pins σ Q w s:=⟨z,H,I,c,q⟩
  by_cases e:0<=i
  · have b:i.toNat=j:=by
      rw[seqIndex_of e o]at h1
      exact Jn h1
    exact item_listR a.isList e (by omega) (by rw[b];simpa using f) fin d
  · have b:(i+(its.toArray.size:Int)).toNat=j:=by
      rw[seqIndex_neg (by omega) A]at h1
      rw[Jm,<- m]
      exact Jn h1
    exact subscriptTail_builtinR (x:=w) a.isList.typeIs slot_list_getitem.lookup
      (wpAny_getItem_list_neg (Q:=λr s'=>r=w/\EP X pins σ Q r s') a.isList (by omega) (by rw[Jm]<;>omega) (by omega) (by rw[b];simpa using f) ⟨rfl,fin⟩) d
theorem zaS:IxR X (rIxT X.K):=by
  intro value slice pins s σ H x y v u Q I d c h e
  obtain⟨p,xs,i,z,rfl,rfl,f,k,q⟩:=h
  cases d
  obtain⟨t,rfl⟩:=c
  obtain⟨its,r,b,n⟩:=I.tuple f
  obtain⟨j,h1,l,C,B,A⟩:=zjn k
  obtain⟨w,m,a⟩:=r.get l
  have g:=r.length
  have o:=zeL
  have fin:EP X pins σ Q w s:=⟨z,H,I,a,q⟩
  exact subscriptTail_builtinR (x:=w) b.typeIs slot_tuple_getitem.lookup
    (getItem_tuple (j:=j) (Q:=λr s'=>r=w/\EP X pins σ Q r s') b (by omega) (by omega) (by rw[Jm,<- g];exact h1) (by simpa using m) ⟨rfl,fin⟩) e
theorem zg3 (its:List Value) (n j:Nat) (u:Value):Obj.mapSeq (·.setIfInBounds j u) { cls:=.type "list",data:=.seq its.toArray n }={ cls:=.type "list",data:=.seq (its.set j u).toArray n }:=by
  simp[Obj.mapSeq]
theorem Inv.lst {pins:List (Addr × Obj)}{σ:St}{H:Hp}{s:Shared}{p:Addr}{xs:List V}(I:Inv X pins σ H s) (h:H p=some (.lst xs)) :
    ∃ (its:List Value) (n:Nat),Vals xs its/\s.heap.get? p=some { cls:=.type "list",data:=.seq its.toArray n }/\xs.length<=sizeLine:=by
  obtain⟨z,its,n,r,e⟩:=I.hok p _ h
  exact⟨its,n,r,e,z⟩
theorem Inv.lstUpd {pins:List (Addr × Obj)}{σ:St}{H:Hp}{s:Shared}{p:Addr}{xs ys:List V}{its its':List Value}{n a:Nat}{f:Obj->Obj}(I:Inv X pins σ H s) (h:H p=some (.lst xs))
    (g:s.heap.get? p=some { cls:=.type "list",data:=.seq its.toArray n }) (c:f { cls:=.type "list",data:=.seq its.toArray n }={ cls:=.type "list",data:=.seq its'.toArray a }) (r:Vals ys its') (d:ys.length<=sizeLine) (t:Nat) :
    Inv X pins σ (upd H p (.lst ys)) { s with heap:=s.heap.update p f,toks:=t }:=by
  have e:(s.heap.update p f).get? p=some { cls:=.type "list",data:=.seq its'.toArray a }:=by
    rw[YM f g (by rw[c]<;>rfl),c]
  refine I.write (x:=p) (e:=p) (by rw[h];trivial) (.inl rfl) (λb u hb q=>(Yr _ _ (Ne.symm hb)).trans q) ⟨_,e⟩ ?_
  exact⟨d,its',a,r,e⟩
def znm:V->V->V->Hp->(Hp->Prop)->Prop:=λo i v H Q=>∃ p xs k j,o=.ref p/\i=.int k/\H p=some (.lst xs)/\ixN xs.length k=some j/\Q (upd H p (.lst (xs.set j v)))
theorem zbo:PSet X znm:=by
  intro pins s σ H o i v A B u Q I w x m h
  obtain⟨p,xs,k,j,rfl,rfl,d,z,q⟩:=h
  cases w
  obtain⟨t,rfl⟩:=x
  obtain⟨its,n,r,a,y⟩:=I.lst d
  obtain⟨h1,D,f,e⟩:=zfD z
  have b:=r.length
  have C:=zeL
  have l:Inv X pins σ (upd H p (.lst (xs.set j v))) { s with heap:=s.heap.update p (Obj.mapSeq (·.setIfInBounds j u)) } :=
    I.lstUpd d a (zg3 its n j u) (r.set m j) (by rw[YZ];exact y) s.toks
  by_cases g:0<=k
  · have c:k.toNat=j:=by
      rw[seqIndex_of g e]at h1
      exact Jn h1
    exact PySem.W.ki_setAt a g (by omega) (by rw[Jm,<- b];exact e) (by rw[c];exact⟨_,l,q⟩)
  · have c:(k+(its.toArray.size:Int)).toNat=j:=by
      rw[seqIndex_neg (by omega) f]at h1
      rw[Jm,<- b]
      exact Jn h1
    exact PySem.W.ki_setBack a (by omega) (by rw[Jm,<- b];exact f) (by omega) (by rw[c];exact⟨_,l,q⟩)
theorem zeu (lo hi:Option Int) (n:Nat):(sliceBounds lo hi none n).1=((HT.sIx n 0 lo:Nat):Int)/\(sliceBounds lo hi none n).2.1=((HT.sIx n n hi:Nat):Int)/\(sliceBounds lo hi none n).2.2=1:=by
  refine⟨?_,?_,rfl⟩
  · cases lo with
    | none=>simp[sliceBounds,HT.sIx]
    | some i =>
      simp only[sliceBounds,HT.sIx,Option.getD_none,show (1:Int) > 0 by decide,Yk]
      by_cases h:i<0
      · simp only[h,Yk]<;>omega
      · simp only[h,YV]<;>omega
  · cases hi with
    | none=>simp[sliceBounds,HT.sIx]
    | some i =>
      simp only[sliceBounds,HT.sIx,Option.getD_none,show (1:Int) > 0 by decide,Yk]
      by_cases h:i<0
      · simp only[h,Yk]<;>omega
      · simp only[h,YV]<;>omega
theorem zdT (its:List Value) (lo hi:Option Int):slicePick its.toArray lo hi none=((its.drop (HT.sIx its.length 0 lo)).take (HT.sIx its.length its.length hi-HT.sIx its.length 0 lo)).toArray:=by
  obtain⟨h1,b,a⟩:=zeu lo hi its.toArray.size
  unfold slicePick
  rw[h1,b,a]
  simp only[sliceRange_one,pick_run,Jm]<;>rfl
def rSlL (K:PySem.W.Frag):V->Option Int->Option Int->Hp->VK->Prop:=λx lo hi H Q=>∃ a xs,x=.ref a/\SqL K H a xs/\∀ p,H p=none->Q (.ref p) (upd H p (.lst (cutV xs lo hi)))
theorem zcy:SlR X (rSlL X.K):=by
  intro pins s σ H x v k j lo hi sl Q I d i e pu h
  obtain⟨a,xs,rfl,g,q⟩:=h
  cases d
  obtain⟨its,r,c,f⟩:=I.list g
  have hlen:=r.length
  refine⟨"list",_,slot_list_getitem.lookup,c.isList.typeIs,?_⟩
  refine wpAny_getItem_list_slice c.isList i e pu .none (by simp) ?_ (by rw[Jm]<;>omega)
  rw[zdT,<- hlen]
  refine⟨.ref s.heap.objs.size,_,I.laid (t':=s.toks) (o:=.lst (cutV xs lo hi)) (λb ob q=>J8 _ q) (Jg _) ?_,rfl,q _ (I.hok.fresh (Jg _))⟩
  exact⟨Y3 (zdl xs lo hi) f,_,0,(r.drop (HT.sIx xs.length 0 lo)).take (HT.sIx xs.length xs.length hi-HT.sIx xs.length 0 lo),Js _ rfl⟩
def zd8:V->Bool
  | .non=>true
  | .bl _=>true
  | .int _=>true
  | .str _=>true
  | _=>false
def eqV:V->V->Bool
  | .non,.non=>true
  | .bl a,.bl b=>a == b
  | .bl a,.int b=>(if a then 1 else 0) == b
  | .int a,.bl b=>a == (if b then 1 else 0)
  | .int a,.int b=>a == b
  | .str a,.str b=>a == b
  | _,_=>false
theorem zkU {A:Around}{s:Shared}{y x:V}{u v:Value}(d:RelV y u) (c:RelV x v) (f:zd8 y=true) (e:zd8 x=true):SeqAt.EqAt A s u v (eqV y x):=by
  cases y with
  | non =>
    cases d
    cases x with
    | non=>cases c;exact SeqAt.EqAt.same _
    | bl b=>cases c;exact SeqAt.EqAt.none_bool b
    | int b=>obtain⟨t,rfl⟩:=c;exact SeqAt.EqAt.none_int b t
    | str b=>obtain⟨t,rfl⟩:=c;exact SeqAt.EqAt.none_str b t
    | _=>exact absurd (show false=true from e) Jp
  | bl a =>
    cases d
    cases x with
    | non=>cases c;exact SeqAt.EqAt.bool_none a
    | bl b=>cases c;exact SeqAt.EqAt.bool_bool a b
    | int b=>obtain⟨t,rfl⟩:=c;exact SeqAt.EqAt.bool_int a b t
    | str b=>obtain⟨t,rfl⟩:=c;exact SeqAt.EqAt.bool_str a b t
    | _=>exact absurd (show false=true from e) Jp
  | int a =>
    obtain⟨t',rfl⟩:=d
    cases x with
    | non=>cases c;exact SeqAt.EqAt.int_none a t'
    | bl b=>cases c;exact SeqAt.EqAt.int_bool a t' b
    | int b=>obtain⟨t,rfl⟩:=c;exact SeqAt.EqAt.int_int a t' b t
    | str b=>obtain⟨t,rfl⟩:=c;exact SeqAt.EqAt.int_str a t' b t
    | _=>exact absurd (show false=true from e) Jp
  | str a =>
    obtain⟨t',rfl⟩:=d
    cases x with
    | non=>cases c;exact SeqAt.EqAt.str_none a t'
    | bl b=>cases c;exact SeqAt.EqAt.str_bool a t' b
    | int b=>obtain⟨t,rfl⟩:=c;exact SeqAt.EqAt.str_int a t' b t
    | str b=>obtain⟨t,rfl⟩:=c;exact SeqAt.EqAt.str_str a t' b t
    | _=>exact absurd (show false=true from e) Jp
  | _=>exact absurd (show false=true from f) Jp
def eqU (x:V) (u:Value):Bool:=match u with
  | .none=>eqV .non x
  | .bool b=>eqV (.bl b) x
  | .int i _=>eqV (.int i) x
  | .str z _=>eqV (.str z) x
  | _=>false
theorem zkT {x y:V}{u:Value}(r:RelV y u) (f:zd8 y=true):eqU x u=eqV y x:=by
  cases y with
  | non=>cases r;rfl
  | bl b=>cases r;rfl
  | int i=>obtain⟨t,rfl⟩:=r;rfl
  | str z=>obtain⟨t,rfl⟩:=r;rfl
  | _=>exact absurd (show false=true from f) Jp
theorem zfU {x:V}:∀ {xs:List V}{us:List Value},Vals xs us->xs.all zd8=true->us.any (eqU x)=xs.any λy=>eqV y x
  | _,_,.nil,_=>rfl
  | y::xs,u::us,.cons r t,f=>by
    rw[List.all_cons,YN]at f
    rw[List.any_cons,List.any_cons,zkT r f.1,zfU t f.2]
theorem zd3 {A:Around}{s:Shared}{x:V}{v:Value}(b:RelV x v) (c:zd8 x=true):∀ {xs:List V}{us:List Value},Vals xs us->xs.all zd8=true->∀ u∈us,SeqAt.EqAt A s u v (eqU x u)
  | _,_,.nil,_=>λu a=>by cases a
  | y::xs,u::us,.cons r t,f=>λd a=>by
    rw[List.all_cons,YN]at f
    rcases Jt.mp a with rfl|a
    · rw[zkT r f.1];exact zkU r b f.1 c
    · exact zd3 b c t f.2 d a
def inV (x:V) (xs:List V):Bool:=xs.any λy=>eqV y x
def rIn (K:PySem.W.Frag) (neg:Bool):R2:=λx y H Q=>∃ p xs,y=.ref p/\(SqL K H p xs\/SqT K H p xs)/\zd8 x=true/\xs.all zd8=true/\Q (.bl (if neg then !inV x xs else inV x xs)) H
theorem zeC:OpR X (compareOp .In) (rIn X.K false):=by
  intro pins s σ H x y v u Q I d f h
  obtain⟨p,xs,rfl,a,e,fs,q⟩:=h
  cases f
  rcases a with a|a
  · obtain⟨its,r,b,g⟩:=I.list a
    refine SeqAt.in_listAt (eqU x) b.isList (λw c=>zd3 d e r fs w (by simpa using c)) ⟨.bl _,H,I,rfl,?_⟩
    rw[show its.toArray.any (eqU x)=its.any (eqU x) by simp,zfU r fs]
    exact q
  · obtain⟨its,r,b,g⟩:=I.tuple a
    refine SeqAt.in_tupleAt (eqU x) b (λw c=>zd3 d e r fs w (by simpa using c)) ⟨.bl _,H,I,rfl,?_⟩
    rw[show its.toArray.any (eqU x)=its.any (eqU x) by simp,zfU r fs]
    exact q
theorem zas:CallR X (.builtin "len") (λxs H Q=>∃ p ys,xs=[.ref p]/\(SqL X.K H p ys\/SqT X.K H p ys)/\Q (.int ys.length) H):=by
  intro pins s σ H xs us Q I r h
  obtain⟨p,ys,rfl,a,q⟩:=h
  obtain⟨u,rfl,d⟩:=zgC r
  cases d
  have f:=zeL
  rcases a with a|a
  · obtain⟨its,b,c,e⟩:=I.list a
    have hlen:=b.length
    exact Calls.call_len_list c.isList (by simp only[Jm]<;>omega) ⟨.int ys.length,H,I.tok _,⟨s.toks+1,by rw[Jm,hlen]⟩,q⟩
  · obtain⟨its,b,c,e⟩:=I.tuple a
    have hlen:=b.length
    exact len_tuple c (by simp only[Jm]<;>omega) ⟨.int ys.length,H,I.tok _,⟨s.toks+1,by rw[Jm,hlen]⟩,q⟩
theorem za5:CallR X (.type "list") (λxs H Q=>∃ p ys,xs=[.ref p]/\(SqL X.K H p ys\/SqT X.K H p ys)/\∀ l,H l=none->Q (.ref l) (upd H l (.lst ys))):=by
  intro pins s σ H xs us Q I r h
  obtain⟨p,ys,rfl,f,q⟩:=h
  obtain⟨u,rfl,k⟩:=zgC r
  cases k
  have fin:∀ (its:List Value),Vals ys its->ys.length<=sizeLine->∀ (h':Heap) (c:Nat),(∀ b o',s.heap.get? b=some o'->h'.get? b=some o') ->
      h'.get? s.heap.objs.size=some { cls:=.type "list",dict:=none,data:=.seq its.toArray c,slots:=#[] }->EP X pins σ Q (.ref s.heap.objs.size) { s with heap:=h' }:=λits a d h' c kp e =>
    ⟨.ref s.heap.objs.size,_,I.laid (t':=s.toks) kp (Jg _) (show ObjOk X.prog X.w _ h' _ (.lst ys) from⟨d,its,c,a,e⟩),rfl,q _ (I.hok.fresh (Jg _))⟩
  rcases f with f|f
  · obtain⟨its,a,g,d⟩:=I.list f
    have hlen:=a.length
    obtain⟨o,i,j,n,hd⟩:=g.isList
    exact call_list_seq p (.inl rfl) i j hd (λh' c kp e=>fin its a d h' c kp e) (by simp only[Jm]<;>omega)
  · obtain⟨its,a,g,d⟩:=I.tuple f
    have hlen:=a.length
    obtain⟨o,i,j,n,hd⟩:=g
    exact call_list_seq p (.inr rfl) i j hd (λh' c kp e=>fin its a d h' c kp e) (by simp only[Jm]<;>omega)
theorem zau:CallR X (.type "tuple") (λxs H Q=>∃ p ys,xs=[.ref p]/\((SqL X.K H p ys/\∀ l,H l=none->Q (.ref l) (upd H l (.tup ys)))\/(SqT X.K H p ys/\Q (.ref p) H))):=by
  intro pins s σ H xs us Q I r h
  obtain⟨p,ys,rfl,h⟩:=h
  obtain⟨u,rfl,i⟩:=zgC r
  cases i
  rcases h with ⟨d,q⟩|⟨d,q⟩
  · obtain⟨its,a,c,f⟩:=I.list d
    have hlen:=a.length
    refine call_tuple_list c.isList (λh' kp=>?_) (by simp only[Jm]<;>omega)
    have g:Inv X pins σ H { s with heap:=h' }:=I.kept (t':=s.toks) kp
    have j:Inv X pins σ (upd H h'.objs.size (.tup ys)) { s with heap:=h'.push { cls:=.type "tuple",data:=.seq its.toArray } } :=
      g.laid (t':=s.toks) (λb o e=>J8 _ e) (Jg _) (show ObjOk X.prog X.w _ _ _ (.tup ys) from⟨f,its,a,TupX.new _ _⟩)
    exact⟨.ref h'.objs.size,_,j,rfl,q _ (g.hok.fresh (Jg _))⟩
  · obtain⟨its,a,c,f⟩:=I.tuple d
    exact call_tuple_same c ⟨.ref p,H,I,rfl,q⟩
def tyV (K:PySem.W.Frag) (T:String) (x:V) (H:Hp):Prop:=match x with
  | .str _=>T = "str"
  | .int _=>T = "int"
  | .ref p=>(T = "list"/\∃ xs,SqL K H p xs)\/(T = "tuple"/\∃ o,K.lookup p=some o/\o.cls=.type "tuple"/\o.dict=none) \/
      (T = "dict"/\((∃ kvs,H p=some (.dK kvs))\/∃ kvs,H p=some (.dT kvs)))\/(T = "set"/\∃ S n,H p=some (.set S n))
  | _=>False
theorem zmd {pins:List (Addr × Obj)}{σ:St}{H:Hp}{s:Shared}{T:String}{x:V}{v:Value}(I:Inv X pins σ H s) (r:RelV x v) (ty:tyV X.K T x H) :
    s.TypeIs v T/\∀ a,v=.ref a->∃ ob,s.heap.get? a=some ob/\ob.dict=none:=by
  cases x with
  | str z =>
    obtain⟨t,rfl⟩:=r
    cases (show T = "str" from ty)
    exact⟨typeIs_str s z t,λ_ e=>nomatch e⟩
  | int i =>
    obtain⟨t,rfl⟩:=r
    cases (show T = "int" from ty)
    exact⟨typeIs_int s i t,λ_ e=>nomatch e⟩
  | ref p =>
    cases r
    rcases ty with ⟨rfl,xs,f⟩|⟨rfl,o,b,g,hd⟩|⟨rfl,b⟩|⟨rfl,S,n,b⟩
    · obtain⟨its,_,d,_⟩:=I.list f
      refine⟨d.isList.typeIs,λa e=>?_⟩
      cases e
      obtain⟨o,n,e,c,hd,_⟩:=d
      exact⟨o,e,hd⟩
    · refine⟨⟨o,I.kIn p o b,g⟩,λa e=>?_⟩
      cases e
      exact⟨o,I.kIn _ o b,hd⟩
    · have z:∃ o,s.heap.get? p=some o/\o.ExactDict:=by
        rcases b with ⟨kvs,b⟩|⟨kvs,b⟩
        · obtain⟨_,_,_,_,o,_,_,e,ex,_⟩:=I.hok p _ b
          exact⟨o,e,ex⟩
        · obtain⟨_,_,_,_,o,_,_,e,ex,_⟩:=I.hok p _ b
          exact⟨o,e,ex⟩
      obtain⟨o,e,ex⟩:=z
      refine⟨⟨o,e,ex.1⟩,λa e2=>?_⟩
      cases e2
      exact⟨o,e,ex.2.1⟩
    · obtain⟨o,_,_,_,e,ex,_⟩:=I.hok p _ b
      refine⟨⟨o,e,ex.1⟩,λa e2=>?_⟩
      cases e2
      exact⟨o,e,ex.2.1⟩
  | _=>exact False.elim ty
def tBM (K:PySem.W.Frag) (T:String) (r:V->List V->Hp->VK->Prop) (to:TE) (t:TA):TE:=λσ H Q=>to σ H λx H1=>tyV K T x H1/\t σ H1 λxs a=>r x xs a Q
variable {o e:Expr}{es:List Expr}{to:TE}{t:TA}{name:Str}{apos cpos:Pos}{T id:String}{r:V->List V->Hp->VK->Prop}
theorem zdZ (n:PlainAttrs T) (slot:Slot T name id) (f:typeOf (.builtin id)=pure (.type "method_descriptor")) (u:MtR X id r) (q:PE X o to) (ha:PA X (e::es) t)
    (c:attributeBase o name X.env (eval o X.env)=eval o X.env:=by rfl)
    (d:((backTo cpos (starEach (e::es) X.env)).all (λx=>!x.1) && (backToKw cpos (keywordEach [] X.env)).all (λx=>x.1.isSome)
      && decide ((e::es).length+([]:List Keyword).length+(if ([]:List Keyword).isEmpty then 0 else 1)<30))=true:=by rfl)
    (b:(apos.endLine == cpos.line)=true:=by rfl) (p:starEach (e::es) X.env=(false,eval e X.env)::starEach es X.env:=by rfl) (a:(backTo cpos (starEach es X.env)).any (·.1)=false:=by rfl) :
    PE X (.Call (.Attribute o name apos) (e::es) [] cpos) (tBM X.K T r to t):=by
  intro pins s σ H Q I h
  refine wpAny_Call_method_late c d b rfl (thn (q pins s σ H _ I h) λv s1 ⟨x,H1,j,g,ty,m⟩=>?_)
  obtain⟨h1,w⟩:=zmd j g ty
  refine⟨T,id,n,slot,f,h1,w,?_⟩
  have i:=ha cpos pins s1 σ H1 _ j m
  rw[p]at i ⊢
  refine ZS (by show (false || (backTo cpos (starEach es X.env)).any (·.1))=false;rw[a]<;>rfl) (Calls.evalArgs_plain ?_)
  exact thn i λus s2 ⟨vs,z,y,k,l⟩=>u pins s2 σ z x vs v us Q y g k l
end
def MtM (X:Cx) (id:String) (r:V->List V->Hp->VK->Prop):Prop :=
  ∀ (pins:List (Addr × Obj)) (s:Shared) (σ:St) (H:Hp) (x:V) (xs:List V) (v:Value) (us:List Value) (Q:VK),Inv X pins σ H s->RelV x v->Vals xs us->r x xs H Q ->
    wpAny (model X.prog X.w) X.A (call (.builtin id) (v::us)) (EP X pins σ Q) X.xe s
theorem Vals.one:∀ {x:V}{us:List Value},Vals [x] us->∃ u,us=[u]/\RelV x u
  | _,_,.cons r .nil=>⟨_,rfl,r⟩
theorem Vals.two:∀ {x y:V}{us:List Value},Vals [x,y] us->∃ u v,us=[u,v]/\RelV x u/\RelV y v
  | _,_,_,.cons r (.cons q .nil)=>⟨_,_,rfl,r,q⟩
theorem Vals.eraseIdx:∀ {xs:List V}{us:List Value}(i:Nat),Vals xs us->Vals (xs.eraseIdx i) (us.eraseIdx i)
  | _,_,_,.nil=>.nil
  | _,_,0,.cons _ t=>t
  | _,_,i+1,.cons r t=>.cons r (Vals.eraseIdx i t)
theorem Vals.rep {xs:List V}{us:List Value}(h:Vals xs us):∀ k:Nat,Vals (List.replicate k xs).flatten (List.replicate k us).flatten
  | 0=>.nil
  | k+1=>by
    rw[Ym,Ym,ZT,ZT]
    exact Vals.append h (Vals.rep h k)
theorem zeM {α:Type}:∀ (l:List α) (i:Nat),(l.eraseIdx i).length<=l.length
  | [],_=>Jg _
  | _::_,0=>Nat.le_succ _
  | _::r,i+1=>Nat.succ_le_succ (zeM r i)
theorem zeQ (its:List Value):∀ (k:Nat) (acc:List Value),
    List.foldl (λb a=>b++a) acc.toArray (List.replicate k its.toArray)=(acc++(List.replicate k its).flatten).toArray
  | 0,acc=>by simp
  | k+1,acc=>by
    have e:acc.toArray++its.toArray=(acc++its).toArray:=by simp
    have e2:(acc++its)++(List.replicate k its).flatten=acc++(List.replicate (k+1) its).flatten:=by
      rw[Ym,ZT,JU]
    rw[<- e2,<- zeQ its k (acc++its),<- e,Ym,List.foldl_cons]
section
variable {X:Cx}{pins:List (Addr × Obj)}{σ:St}{H:Hp}{s:Shared}{l:Addr}{xs ys:List V}
theorem Inv.lset {its its':List Value}{n:Nat}{f:Array Value->Array Value}{t':Nat}(I:Inv X pins σ H s) (g:H l=some (.lst xs))
    (e:s.heap.get? l=some { cls:=.type "list",data:=.seq its.toArray n }) (d:f its.toArray=its'.toArray) (b:Vals ys its') (a:ys.length<=sizeLine) :
    Inv X pins σ (upd H l (.lst ys)) { s with heap:=s.heap.update l (Obj.mapSeq f),toks:=t' }:=by
  have q:=PySem.IsL.update e f
  rw[d]at q
  refine I.write (x:=l) (e:=l) (by rw[g];exact trivial) (.inl rfl) (λh u hb c=>(Yr s.heap (Obj.mapSeq f) (Ne.symm hb)).trans c) ⟨_,q⟩ ?_
  exact⟨a,its',_,b,q⟩
theorem Inv.lnew {its:List Value}{t':Nat}(I:Inv X pins σ H s) (b:Vals ys its) (a:ys.length<=sizeLine) :
    Inv X pins σ (upd H s.heap.objs.size (.lst ys)) { s with heap:=s.heap.push { cls:=.type "list",data:=.seq its.toArray },toks:=t' } :=
  I.laid (λ_ _ q=>J8 _ q) (Jg _) ⟨a,its,0,b,Js _ rfl⟩
theorem Inv.fresh (I:Inv X pins σ H s):H s.heap.objs.size=none:=I.hok.fresh (Jg _)
theorem Inv.lstM (I:Inv X pins σ H s) (a:H l=some (.lst xs)):xs.length<=sizeLine/\∃ (its:List Value) (n:Nat),Vals xs its/\xs.length=its.length/\s.heap.get? l=some { cls:=.type "list",data:=.seq its.toArray n }:=by
  obtain⟨z,its,n,r,e⟩:=I.hok l _ a
  exact⟨z,its,n,r,r.length,e⟩
theorem zgi {n:Nat}(h:n<=sizeLine):Builtin.List.listTooLong n=false:=by
  unfold Builtin.List.listTooLong
  exact Jv (by omega)
end
section
variable {X:Cx}
def rAppend:V->List V->Hp->VK->Prop:=λx vs H Q=>∃ l xs y,x=.ref l/\vs=[y]/\H l=some (.lst xs)/\xs.length<sizeLine/\Q .non (upd H l (.lst (xs++[y])))
theorem zbd:MtM X "list.append" rAppend:=by
  intro pins s σ H x vs v us Q I b c h
  obtain⟨l,xs,y,rfl,rfl,a,f,q⟩:=h
  cases b
  obtain⟨u,rfl,d⟩:=c.one
  obtain⟨z,its,n,r,g,e⟩:=I.lstM a
  refine Wh F.slot_list_append ⟨_,e,rfl⟩ F.entry_list_append (F.args_list_append_2 _ _) (PySem.list_append l its.toArray n u (by rw[Jm];omega)) ⟨e,?_⟩
  refine⟨.non,_,I.lset (its':=its++[u]) a e (by simp) (r.append (.cons d .nil)) ?_,rfl,q⟩
  rw[Jd,List.length_singleton]
  omega
def rExtend:V->List V->Hp->VK->Prop:=λx vs H Q=>∃ l b xs zs,x=.ref l/\vs=[.ref b]/\H l=some (.lst xs)/\H b=some (.lst zs)/\xs.length+zs.length<=sizeLine/\Q .non (upd H l (.lst (xs++zs)))
theorem zeG:MtM X "list.extend" rExtend:=by
  intro pins s σ H x vs v us Q I f g h
  obtain⟨l,b,xs,zs,rfl,rfl,d,k,o,q⟩:=h
  cases f
  obtain⟨u,rfl,i⟩:=g.one
  cases i
  obtain⟨z,its,n,r,p,e⟩:=I.lstM d
  obtain⟨z2,a,n2,j,m,e2⟩:=I.lstM k
  have hsz:its.toArray.size+a.toArray.size<=sizeLine:=by rw[Jm,Jm];omega
  have c:¬(!its.toArray.isEmpty && Builtin.List.listTooLong (its.toArray.size+a.toArray.size))=true:=by
    rw[zgi hsz,Bool.and_false]
    exact Jp
  refine Wh F.slot_list_extend ⟨_,e,rfl⟩ F.entry_list_extend (F.args_list_extend_2 _ _)
    (AutoSeq1.list_extend_list_list_0 l its.toArray n b a.toArray n2 c (by rw[Jm];omega) (by omega)) ⟨e,e2,?_⟩
  refine⟨.non,_,I.lset (its':=its++a) d e (by simp) (r.append j) ?_,rfl,q⟩
  rw[Jd]
  omega
def rPopAt:V->List V->Hp->VK->Prop:=λx vs H Q=>∃ l xs i k y,x=.ref l/\vs=[.int i]/\H l=some (.lst xs)/\-(2 ^ 63)<=i/\i<2 ^ 63/\seqIndex? i xs.length=some k/\xs[k]?=some y/\Q y (upd H l (.lst (xs.eraseIdx k)))
theorem zj5:MtM X "list.pop" rPopAt:=by
  intro pins s σ H x vs v us Q I c d h
  obtain⟨l,xs,i,k,y,rfl,rfl,b,h1,p,o,g,q⟩:=h
  cases c
  obtain⟨u,rfl,f⟩:=d.one
  obtain⟨t,rfl⟩:=f
  obtain⟨z,its,n,r,m,e⟩:=I.lstM b
  obtain⟨w,j,a⟩:=r.get g
  refine Wh F.slot_list_pop ⟨_,e,rfl⟩ F.entry_list_pop (F.args_list_pop_2 _ _)
    (MeetsSeq.list_pop_at l its.toArray n i t k w (fitsIndex_both h1 p) (by rw[Jm,<- m];exact o) (by rw[<- Y6];exact j) (by rw[Jm];omega)) ⟨e,?_⟩
  refine⟨y,_,I.lset (its':=its.eraseIdx k) b e ?_ (r.eraseIdx k) ?_,a,q⟩
  · show its.toArray.eraseIdxIfInBounds k=(its.eraseIdx k).toArray
    rw[List.eraseIdxIfInBounds_toArray]
  · have:=zeM xs k
    omega
def rCat:R2:=λx y H Q=>∃ l b xs zs,x=.ref l/\y=.ref b/\H l=some (.lst xs)/\H b=some (.lst zs)/\xs.length+zs.length<=sizeLine/\∀ p,H p=none->Q (.ref p) (upd H p (.lst (xs++zs)))
theorem zcO:OpR X (binaryOp .Add) rCat:=by
  intro pins s σ H x y v u Q I d c h
  obtain⟨l,b,xs,zs,rfl,rfl,g,i,m,q⟩:=h
  cases d
  cases c
  obtain⟨z,its,n,r,o,e⟩:=I.lstM g
  obtain⟨z2,a,n2,f,k,e2⟩:=I.lstM i
  refine PySem.P.add_list e e2 ?_ (by rw[Jm,Jm];omega)
  have j:its.toArray++a.toArray=(its++a).toArray:=by simp
  rw[j]
  exact⟨.ref _,_,I.lnew (t':=s.toks) (r.append f) (by rw[Jd];omega),rfl,q _ I.fresh⟩
def rRep:R2:=λx y H Q=>∃ l k xs,x=.ref l/\y=.int k/\H l=some (.lst xs)/\-(2 ^ 63)<=k/\k<2 ^ 63/\xs.length*k.toNat<=sizeLine /\
  ∀ p,H p=none->Q (.ref p) (upd H p (.lst (List.replicate k.toNat xs).flatten))
theorem zlT {α:Type}(xs:List α) (k:Nat):(List.replicate k xs).flatten.length=k*xs.length:=by
  induction k with
  | zero=>simp
  | succ k ih=>rw[Ym,ZT,Jd,ih,Nat.succ_mul,Nat.add_comm]
theorem zmz:OpR X (binaryOp .Mult) rRep:=by
  intro pins s σ H x y v u Q I p o h
  obtain⟨l,k,xs,rfl,rfl,A,h1,B,j,q⟩:=h
  cases p
  obtain⟨t,rfl⟩:=o
  obtain⟨z,its,n,r,w,e⟩:=I.lstM A
  have hlen:its.toArray.size*k.toNat<=sizeLine:=by rw[Jm,<- w];exact j
  have f:¬ its.toArray.size*k.toNat > (2 ^ 63-1) / 8:=by
    have:(sizeLine:Nat)<=(2 ^ 63-1) / 8:=by decide
    omega
  have d:¬(!Builtin.List.listFitsIndex k)=true:=by
    rw[fitsIndex_both h1 B]
    exact Jp
  have b:¬ Builtin.List.listTooLong (its.toArray.size*k.toNat)=true:=by
    rw[zgi hlen]
    exact Jp
  have c:List.foldl (λi g=>i++g) #[] (List.replicate (if its.toArray.isEmpty=true then 0 else k.toNat) its.toArray)=(List.replicate k.toNat its).flatten.toArray:=by
    have C:∀ m:Nat,List.foldl (λi g=>i++g) #[] (List.replicate m its.toArray)=(List.replicate m its).flatten.toArray:=λm=>by
      have:=zeQ its m []
      rw[W9]at this
      exact this
    rw[C]
    cases its with
    | nil=>simp
    | cons a D=>rw[Jb (by simp)]
  refine wpAny_binaryOp_repeat_ref (T:="list") (U:="int") (by decide) ⟨_,e,rfl⟩ (λs'=>typeIs_int s' k t) noFill_list_mul F.fills_int_mul F.slot_int_rmul repeat_list F.slot_int_index.lookup
    (Wh F.slot_int_rmul (typeIs_int s k t) F.entry_int_rmul (F.args_int_rmul_2 _ _) (int___rmul___int_list k t l its.toArray n)
      ⟨e,rfl,⟨_,e,rfl⟩,Wh F.slot_list_mul ⟨_,e,rfl⟩ F.entry_list_mul (F.args_list_mul_2 _ _) (AutoListH.list___mul___list_int_3 l its.toArray n k t d f b) ⟨e,?_⟩⟩)
  rw[c]
  exact⟨.ref _,_,I.lnew (t':=s.toks) (r.rep k.toNat) (by rw[zlT,Nat.mul_comm];exact j),rfl,q _ I.fresh⟩
end
end L2
namespace Att
open PySem PySem.W PySem.Calls PyProof.Rows
theorem zdd {P:Params}{h:Heap}:∀ (ns:List Int) (vs:List Value),WellAll P h vs (ns.map WData.int)->IntsAre vs ns:=by
  intro ns
  induction ns with
  | nil =>
    intro vs w
    rw[List.map_nil]at w
    cases w
    exact .nil
  | cons n ns ih =>
    intro vs w
    rw[JZ]at w
    cases w with
    | cons a b =>
      cases a
      exact .cons _ _ (ih _ b)
theorem zhG {l:OpenLaw}{n:Nat}(s:l.most=some n) {P:Params}{h:Heap}{args:List WData}{vals:List Value}
    (b:l.row.toRowW.claim.pre args=true) (g:WellAll P h vals args) :
    ∃ a vs ns,vals=[Value.ref a]/\args=[WData.list (ns.map WData.int)]/\h.get? a=some { cls:=.type "list",data:=.seq vs.toArray }/\IntsAre vs ns/\ns.length<=n:=by
  have i:WShape.hasAll [] args [.list .int]=true:=(pre_splitW b).1
  have j:l.pre.holds [] { args:=args }=true:=(pre_splitW b).2
  obtain⟨d,r,rfl,h1,u⟩:=hasAllW_cons i
  obtain rfl:=hasAllW_nil u
  obtain⟨xs,rfl,t⟩:=hasW_list h1
  obtain⟨ns,rfl⟩:=items_int t
  have hlen:ns.length<=n:=by
    unfold OpenLaw.pre at j
    have f:(WTm.not (.lt (.lit (.int (n:Int))) (.len (.arg 0)))).holds [] { args:=[.list (ns.map .int)] }=true:=by
      have f:=(holds_andW j).1
      rw[s]at f
      exact f
    have e:=condW_of f (w_not (w_lt w_lit (w_len_list (w_arg rfl))))
    rw[Jq]at e
    refine Nat.le_of_not_lt λq=>?_
    have o:(n:Int)<((ns.length:Nat):Int):=by omega
    first
      | (rw[JE o]at e;exact absurd e (by decide))
      | (simp at e;omega)
  cases g with
  | cons m k =>
    cases k
    cases m with
    | list p c=>exact⟨_,_,ns,rfl,rfl,p,zdd ns _ c,hlen⟩
theorem zhW (l:OpenLaw) (args:List WData):l.row.toRowW.claim.post args (.bool true) args=true :=
  postW_of (r:=l.row.toRowW) (X:=(true == true))
    (show WShape.has [] (.bool true) .bool=true by first|rfl|decide|simp[WShape.has,WShape.arms,WShape.armsAll])
    (show (WTm.eq .res (.lit (.bool true))).value [] { args:=args,res:=some (.bool true),after:=args }=some (.bool (true == true)) from w_eq_bool (w_res rfl) w_lit) rfl
theorem attach_call {l:OpenLaw}{n:Nat}{q:Program}{loose:List Str}{s:(Str->Option Value)->Heap->Prop}{p:World->Heap->Prop}{d:DefRec}
    (x:l.most=some n) (j:d.params.defaults=[])
    (call:∀ (w:World) (s₀ b:Shared) (mg mb:Str->Option Value) (c:Addr) (o:Obj) (pm cd doc:Value) (a:Addr) (vs:List Value) (ns:List Int),
      Ground q loose [] s w s₀ mg mb b.heap->p w b.heap ->
      b.heap.get? c=some o->o.data=.func (docDef d.name d.params d.body d.scope pm cd doc)->b.heap.CodeRec cd d.name->mg d.name=some (.ref c) ->
      b.heap.get? a=some { cls:=.type "list",data:=.seq vs.toArray }->IntsAre vs ns->ns.length<=n->b.gens = #[] ->
      codeAny (model l.prog w) callerA (.call (.ref c) ⟨[.ref a],[]⟩) (λr s'=>r=.ok (.ret (.bool true))/\OldK b.heap s'.heap/\s'.os=b.os/\AllBare s'.gens) b) :
    WalkO q loose s p l.row.toRowW d [] (λf vs=>PySem.call f vs):=by
  intro w s₀ b mg mb G Y c o pm cd doc D kV v hd k m i z args vals as e t E h F
  obtain rfl:D=.none:=Dflts.none m j
  obtain rfl:kV=.none:=Dflts.noKw m
  obtain⟨a,vs,ns,rfl,rfl,g,hints,hlen⟩:=zhG x e h
  refine enter_call (codeAny_mono (call w s₀ b mg mb c o pm cd doc a vs ns G Y v (fd_plain hd) k i g hints hlen z) λr s' u=>?_)
  obtain⟨rfl,C,B,A⟩:=u
  exact⟨.inl ⟨.bool true,.bool true,[],rfl,λ_=>rfl,.bool true,zhW l _,λ_=>⟨List.Pairwise.nil,λ_ y=>(nomatch y)⟩⟩,C,B,A⟩
section
def znE (h:Heap) (L d:Addr):List (Addr × Obj):=(List.range h.objs.size).filterMap λa=>if a=L\/a=d then none else (h.get? a).map λo=>(a,o)
end
end Att
namespace L2
open PySem PySem.Spec PyProof.Rows
theorem zek:∀ {vs:List Value}{ns:List Int},IntsAre vs ns->Vals (ns.map V.int) vs
  | _,_,.nil=>.nil
  | _,_,.cons n t h=>.cons ⟨t,rfl⟩ (zek h)
abbrev KOf {K:PySem.W.Frag}{h:Heap}(_:K.In h):PySem.W.Frag:=K
def zbL (s:Stmt):Arguments:=match s with
  | .FunctionDef _ a _ _ _ _ _ _ _ _=>a
  | _=>{ posonlyargs:=[],args:=[],vararg:=none,kwonlyargs:=[],kw_defaults:=[],kwarg:=none,defaults:=[] }
def zbf (s:Stmt):List Stmt:=match s with
  | .FunctionDef _ _ b _ _ _ _ _ _ _=>b
  | _=>[]
def zam (s:Stmt):Scope:=match s with
  | .FunctionDef _ _ _ _ _ _ sc _ _ _=>sc
  | _=>{ kind:=.function,names:=[],isGenerator:=false,isCoroutine:=false }
abbrev CX0:CXT:=λ_ _ _ _ _ _=>False
abbrev E0:XK:=λ_ _ _=>False
theorem zax {X:Cx}:Passes CX0 X E0:=λ_ _ _ _ _ _ _ h=>h.elim
structure Fun (K:PySem.W.Frag) (x qual:Str) (st:Stmt) (f:Addr) (fd:FuncData):Prop where
  ex:∃ (oc:Value) (od:Option Addr) (kV doc pm:Value) (an:Option Addr) (cdv ct:Value) (osl:Array (Option Value)),
    fd=PySem.W.fnOf x qual (zbL st) (zbf st) (zam st) .none kV doc pm an cdv ct/\K.lookup f=some ⟨oc,od,.func fd,osl⟩/\PySem.W.codeIn K cdv qual=true
  kp:PySem.W.keepIn K (.ref f)=true
section
variable {P:Program}{w:World}{K:PySem.W.Frag}{mg:Str->Option Value}{base:Heap}
theorem Fun.ok {x qual:Str}{st:Stmt}{f:Addr}{fd:FuncData}{N ps:List Str}{k:Nat}{sp:Sp}(F:Fun K x qual st f fd) (S:FnScope N ps (zam st)) (len:∀ vs H Q E,sp vs H Q E->vs.length=ps.length)
    (a:∀ (cdv:Value) (A:Around) (outer:List Env) (s:Shared) (H:Hp) (vs:List V) (Q:VK) (E:XK),Room k (A.deeper (envOfC qual (zam st) s.heap.objs.size f cdv))->sp vs H Q E ->
      ∃ t,PSs (cxOf CX0 P w K mg base N qual (zam st) f cdv A outer s H E).nox (zbf st) t/\t { nx:=λ_ H'=>Q .non H',rt:=Q } (zds N vs) H):FnOk P w K mg base CX0 (k+1) f fd ps sp:=by
  obtain⟨oc,od,kV,doc,pm,an,cdv,ct,osl,rfl,d,c⟩:=F.ex
  refine zmY d c S len λA outer s H vs Q E e b=>?_
  obtain⟨t,h,q⟩:=a cdv A outer s H vs Q E e b
  exact⟨t,h.nox,q⟩
theorem Fun.binds {x qual:Str}{st:Stmt}{f:Addr}{fd:FuncData}{ps:List Str}(F:Fun K x qual st f fd)
    (h:∀ (kV doc pm:Value) (an:Option Addr) (cdv ct:Value) (us:List Value),us.length=ps.length->bindArgs (PySem.W.fnOf x qual (zbL st) (zbf st) (zam st) .none kV doc pm an cdv ct) ⟨us,[]⟩=pure (ps.zip us)):Binds K fd ps []:=by
  obtain⟨oc,od,kV,doc,pm,an,cdv,ct,osl,rfl,b,a⟩:=F.ex
  exact .all (h kV doc pm an cdv ct)
theorem zmX {x qual:Str}{st:Stmt}{f:Addr}{oc:Value}{od an:Option Addr}{osl:Array (Option Value)}{kV doc pm cdv ct:Value}(l:K.lookup f=some ⟨oc,od,.func (PySem.W.fnOf x qual (zbL st) (zbf st) (zam st) .none kV doc pm an cdv ct),osl⟩)
    (c:PySem.W.codeIn K cdv qual=true) (k:PySem.W.keepIn K (.ref f)=true):Fun K x qual st f (PySem.W.fnOf x qual (zbL st) (zbf st) (zam st) .none kV doc pm an cdv ct):=⟨⟨oc,od,kV,doc,pm,an,cdv,ct,osl,rfl,l,c⟩,k⟩
end
section
variable {X:Cx}
theorem pv (i:Nat) {x:Str}{pos:Pos}(c:X.N[i]?=some x:=by rfl) (b:Vis X.env.scope x:=by first|exact Or.inl rfl|exact Or.inr (.inl rfl)|exact Or.inr (.inr rfl)) (hd:(x == ("__debug__":Str))=false:=by decide)
    (a:(x == ("__classdict__":Str))=false:=by decide):PE X (.Name x pos) (tVar i):=zmt c b hd a
theorem qv (i:Nat) {x:Str}{pos:Pos}(h:X.N[i]?=some x/\Vis X.env.scope x/\(x == ("__debug__":Str))=false/\(x == ("__classdict__":Str))=false):PE X (.Name x pos) (tVar i):=zmt h.1 h.2.1 h.2.2.1 h.2.2.2
end
theorem iteF {A B:Prop}(h:B):if false=true then A else B:=by
  rw[Jb Jp]
  exact h
theorem iteT {A B:Prop}(h:A):if true=true then A else B:=by
  rw[Jf rfl]
  exact h
theorem ite2 {c A B:Prop} [Decidable c] (h1:c->A) (a:¬ c->B):if c then A else B:=by
  by_cases h:c
  · rw[Jf h]
    exact h1 h
  · rw[Jb h]
    exact a h
def Same (H H':Hp):Prop:=∀ b o,H b=some o->H' b=some o
theorem Same.refl (H:Hp):Same H H:=λ_ _ h=>h
theorem Same.trans {H H1 d:Hp}(a:Same H H1) (b:Same H1 d):Same H d:=λc o h=>b c o (a c o h)
end L2
set_option maxHeartbeats 4000001
namespace L2
open PySem PySem.Spec PyProof.Rows
def clOf (cells:List (Str × Addr)):List (Str × NameKind)->List (Str × Addr)->List (Str × Addr)
 | [],cs=>cs
 | (n,k)::r,cs=>if k == .free then clOf cells r ((n,(cells.lookup n).getD 0)::cs) else clOf cells r cs
theorem zeh {env:Env}:∀ (names:List (Str × NameKind)) (cs:List (Str × Addr)),(∀ y∈names,y.2=.free->∃ c,env.cells.lookup y.1=some c) ->
  (forIn names cs λx r=>match x with|(name,kind)=>if (kind == NameKind.free)=true then (do let a <- cellOf env name;pure (ForInStep.yield ((name,a)::r))) else pure (ForInStep.yield r):Sem (List (Str × Addr)))=pure (clOf env.cells names cs)
 | [],cs,_=>rfl
 | (n,k)::r,cs,h=>by
  rw[YU]
  by_cases e:(k == NameKind.free)=true
  ·obtain⟨c,g⟩:=h (n,k) JH (by simpa using e)
   have d:cellOf env n=pure c:=by
    have b:env.cells.lookup n=some c:=g
    unfold cellOf;rw[b]
   simp only[e,Yk,d,pure_bind]
   rw[zeh r _ λy f=>h y (JG _ f)]
   have b:env.cells.lookup n=some c:=g
   show _=pure (if (k == NameKind.free)=true then _ else _)
   rw[Jf e,b]
   rfl
  ·have i:(k == NameKind.free)=false:=by simpa using e
   simp only[i,Y7,YV,pure_bind]
   rw[zeh r _ λy f=>h y (JG _ f)]
   show _=pure (if (k == NameKind.free)=true then _ else _)
   rw[Jb e]
theorem zdH {scope:Scope}{env:Env}(h:∀ y∈scope.names,y.2=.free->∃ c,env.cells.lookup y.1=some c):closureFor scope env=pure (clOf env.cells scope.names []):=by
 unfold closureFor
 show (forIn scope.names [] _ >>= λr=>pure r)=_
 rw[bind_pure]
 exact zeh _ _ h
theorem zcZ {cells:List (Str × Addr)}:∀ (names:List (Str × NameKind)) (cs:List (Str × Addr)) (x:Str) (c:Addr),(∀ y∈names,y.2=.free->∃ c,cells.lookup y.1=some c) ->
  (∀ x c,cs.lookup x=some c->cells.lookup x=some c)->(clOf cells names cs).lookup x=some c->cells.lookup x=some c
 | [],cs,x,c,_,f,e=>f x c e
 | (n,k)::r,cs,x,c,h,f,e=>by
  unfold clOf at e
  by_cases q:(k == NameKind.free)=true
  ·rw[Jf q]at e
   obtain⟨c0,l⟩:=h (n,k) JH (by simpa using q)
   refine zcZ r _ x c (λy g=>h y (JG _ g)) (λd m a=>?_) e
   rw[Yz]at a
   cases i:d == n with
   | true =>
    rw[i]at a
    have j:d=n:=by simpa using i
    subst j
    have b:cells.lookup d=some c0:=l
    rw[b]at a ⊢
    exact a
   | false =>
    rw[i]at a
    exact f d m a
  ·rw[Jb q]at e
   exact zcZ r _ x c (λy g=>h y (JG _ g)) f e
theorem zdr {cells:List (Str × Addr)}:∀ (names:List (Str × NameKind)) (cs:List (Str × Addr)) (x:Str),(∃ c,cs.lookup x=some c)->∃ c,(clOf cells names cs).lookup x=some c
 | [],cs,x,e=>e
 | (n,k)::r,cs,x,e=>by
  unfold clOf
  by_cases q:(k == NameKind.free)=true
  ·rw[Jf q]
   refine zdr r _ x ?_
   rw[Yz]
   cases a:x == n with
   | true=>exact⟨_,rfl⟩
   | false=>exact e
  ·rw[Jb q]
   exact zdr r _ x e
theorem zbY {cells:List (Str × Addr)}:∀ (names:List (Str × NameKind)) (cs:List (Str × Addr)) (x:Str),names.lookup x=some .free->∃ c,(clOf cells names cs).lookup x=some c
 | [],cs,x,e=>by simp at e
 | (n,k)::r,cs,x,e=>by
  rw[Yz]at e
  unfold clOf
  cases a:x == n with
  | true =>
   rw[a]at e
   have b:k=.free:=Jn e
   subst b
   rw[Jf (by decide)]
   refine zdr r _ x ?_
   rw[Yz,a]
   exact⟨_,rfl⟩
  | false =>
   rw[a]at e
   by_cases q:(k == NameKind.free)=true
   ·rw[Jf q];exact zbY r _ x e
   ·rw[Jb q];exact zbY r _ x e
def zkX (env:Env) (p:Str × NameKind):Bool:=p.2 == .free && env.scope.kind == .function && env.kindOf p.1 == some .cell
def zcJ (env:Env) (p:Str × NameKind):Str × NameKind:=if zkX env p=true then (p.1,.cell) else p
theorem zdf (env:Env) (p:Str × NameKind):(zcJ env p).1=p.1:=by unfold zcJ;split<;>rfl
theorem zde (env:Env) (p:Str × NameKind):(zcJ env p).2=p.2\/((zcJ env p).2=.cell/\p.2=.free):=by
 unfold zcJ
 split
 ·rename_i h
  refine .inr ⟨rfl,?_⟩
  unfold zkX at h
  cases e:p.2<;>simp[e]at h<;>rfl
 ·exact .inl rfl
theorem zcf (scope:Scope) (env:Env):(relabel scope env).names=scope.names.map (zcJ env):=rfl
theorem zd6 {f:Str × NameKind->Str × NameKind}(a:∀ p,(f p).1=p.1):∀ (l:List (Str × NameKind)) (x:Str),(l.map f).lookup x=none/\l.lookup x=none\/∃ p∈l,(l.map f).lookup x=some (f p).2/\l.lookup x=some p.2
 | [],_=>.inl ⟨rfl,rfl⟩
 | p::r,x=>by
  have c:((p::r).map f).lookup x=if x == p.1 then some (f p).2 else (r.map f).lookup x:=by
   show List.lookup x (((f p).1,(f p).2)::r.map f)=_
   rw[Yz,a p];cases x == p.1<;>rfl
  have e2:(p::r).lookup x=if x == p.1 then some p.2 else r.lookup x:=by
   show List.lookup x ((p.1,p.2)::r)=_
   rw[Yz];cases x == p.1<;>rfl
  rw[c,e2]
  cases x == p.1
  ·rcases zd6 a r x with z|⟨q,b,z⟩
   ·exact .inl z
   ·exact .inr ⟨q,JG _ b,z⟩
  ·exact .inr ⟨p,JH,rfl,rfl⟩
theorem zbp {scope:Scope}{env:Env}{x:Str}{a:NameKind}(h:(relabel scope env).names.lookup x=some a):scope.names.lookup x=some a\/(a=.cell/\scope.names.lookup x=some .free):=by
 rw[zcf]at h
 rcases zd6 (zdf env) scope.names x with ⟨z,_⟩|⟨p,_,z,e⟩
 ·rw[z]at h;cases h
 ·rw[z]at h
  obtain rfl:=Jn h
  rcases zde env p with q|⟨q,b⟩
  ·rw[q];exact .inl e
  ·exact .inr ⟨q,by rw[e,b]⟩
theorem zcL {scope:Scope}{env:Env}{x:Str}(h:scope.names.lookup x=some .free):(relabel scope env).names.lookup x=some .cell\/(relabel scope env).names.lookup x=some .free:=by
 rw[zcf]
 rcases zd6 (zdf env) scope.names x with ⟨_,z⟩|⟨p,_,z,e⟩
 ·rw[z]at h;cases h
 ·rw[e]at h
  rcases zde env p with q|⟨q,_⟩
  ·rw[z,q,h];exact .inr rfl
  ·rw[z,q];exact .inl rfl
def zaY (X:Cx) (N':List Str) (scope:Scope) (C:Addr) (s₀:Shared) (H₀:Hp) (fp:List Addr) (pins:List (Addr × Obj)):Cx :=
 { X with N:=N',s₀:=s₀,H₀:=H₀,env:=compEnvC scope (clOf X.env.cells scope.names []) C X.env,outer:=X.stack,stack:=X.stack,ex:=fp,fn:=λ_=>false,pn:=X.pn++pins,xe:=λ_ _=>False }
def capσ (cap:List (Option Nat)) (σ:St):St:=cap.map λo=>match o with|some i=>(match σ[i]? with|some v=>v|none=>none)|none=>none
def tst (M:Model) (A:Around) (env:Env) (E:Value->Shared->Prop) (o:Option Expr) (Q:Bool->Shared->Prop) (s:Shared):Prop:=match o with
 | none=>Q true s
 | some c=>wpAny M A (isTrue c env (eval c env)) Q E s
theorem zf0 {M:Model}{A:Around}{env:Env}{E:Value->Shared->Prop}{o:Option Expr}{Q a:Bool->Shared->Prop}{s:Shared}(h:tst M A env E o Q s) (k:∀ b z,Q b z->a b z):tst M A env E o a s:=by
 cases o with
 | none=>exact k _ _ h
 | some c=>exact thn h k
def PTo (X:Cx) (o:Option Expr) (t:TT):Prop :=
 ∀ (pins:List (Addr × Obj)) (s:Shared) (σ:St) (H:Hp) (Q:Bool->Hp->Prop),Inv X pins σ H s->t σ H Q->tst (model X.prog X.w) X.A X.env X.xe o (TP X pins σ Q) s
def tYes:TT:=λ_ H Q=>Q true H
theorem zb3 {X:Cx}:PTo X none tYes:=λ_ _ _ H _ I h=>⟨H,I,h⟩
theorem zlp {X:Cx}{c:Expr}{t:TT}(h:PT X c t):PTo X (some c) t:=λpins s σ H Q I a=>h pins s σ H Q I a
abbrev NoX:Value->Shared->Prop:=λ_ _=>False
def Go (M:Model) (A:Around) (tg elt:Expr) (o:Option Expr) (it acc:Value) (env:Env) (R:Result->Shared->Prop) (g:Shared->Prop) (s:Shared):Prop :=
 wpAny M A (pyNext it) (λr a=>match r with
  | none=>R (.ok .next) a
  | some v=>wpAny M A (letOwnedTupleGo tg it v) (λ_ b=>wpAny M A (assign tg env v) (λ_ c=>tst M A env NoX o (λyes d =>
    if yes=true then wpAny M A (eval elt env) (λx e=>wpAny M A (call (.builtin "list.append") [acc,x]) (λ_ f=>g f) NoX e) NoX d else g d) c) NoX b) NoX a) NoX s
theorem zi6 {prog:Program}{w:World}{A:Around}{R:Result->Shared->Prop}{s:Shared}{elt tg iter:Expr}{o:Option Expr}{scope:Scope}{pos:Pos}{it acc:Value}{env:Env}(J:Nat->Shared->Prop)
  (turn:∀ n s,J n s->Go (model prog w) A tg elt o it acc env R (λz=>∃ m,m<n/\J m z) s) (n:Nat) (h:J n s) :
  codeAny (model prog w) A (.compLoop (.ListComp elt [⟨tg,iter,o.toList,0⟩] scope pos) 0 it acc env) R s:=by
 cases o with
 | none =>
  refine PySem.W.kcp_loop J (λn a ha=>JT (turn n a ha) (λr b hb=>?_) λ_ _ z=>z.elim) n h
  cases r with
  | none=>exact hb
  | some v=>exact JT hb (λ_ c i=>JT i (λ_ d hd=>JT (show wpAny _ _ _ _ _ d from hd) (λx e g=>JT g (λ_ _ q=>q) λ_ _ z=>z.elim) λ_ _ z=>z.elim) λ_ _ z=>z.elim) λ_ _ z=>z.elim
 | some t =>
  refine PySem.W.kct_loop J (λn a ha=>JT (turn n a ha) (λr b hb=>?_) λ_ _ z=>z.elim) n h
  cases r with
  | none=>exact hb
  | some v =>
   refine JT hb (λ_ c i=>JT i (λ_ d hd=>JT (show wpAny _ _ _ _ _ d from hd) (λyes e g=>?_) λ_ _ z=>z.elim) λ_ _ z=>z.elim) λ_ _ z=>z.elim
   cases yes
   ·exact g
   ·exact JT (show wpAny _ _ _ _ _ e from g) (λx f j=>JT j (λ_ _ q=>q) λ_ _ z=>z.elim) λ_ _ z=>z.elim
structure CapOk (N N':List Str) (sc scope:Scope) (cap:List (Option Nat)):Prop where
 kind:scope.kind=.function
 nocell:∀ y∈scope.names,y.2≠.cell
 names:∀ y∈scope.names,y.2=.local -> scope.names.lookup y.1=some .local
 free:∀ y∈scope.names,y.2=.free->sc.names.lookup y.1=some .cell\/sc.names.lookup y.1=some .free
 len:cap.length=N'.length
 cap:∀ p∈N'.zip cap,∀ i,p.2=some i->N[i]?=some p.1/\scope.names.lookup p.1=some .free/\(sc.names.lookup p.1=some .cell\/sc.names.lookup p.1=some .free)
theorem zcH {α:Type}:∀ {l:List (Str × α)}{x:Str}{a:α},l.lookup x=some a->(x,a)∈l
 | [],_,_,h=>by simp at h
 | (n,k)::r,x,a,h=>by
  rw[Yz]at h
  cases b:x == n with
  | true =>
   rw[b]at h
   have e:k=a:=Jn h
   have e2:x=n:=by simpa using b
   subst e e2
   exact JH
  | false=>rw[b]at h;exact JG _ (zcH h)
def LCW (J:It) (g:TG) (tt:TT) (te:TE) (l:Addr) (Q:VK) (W:Nat->Nat->List V->St->Hp->Prop):Prop :=
 ∀ i m acc d H',W i m acc d H'->H' l=some (.lst acc) /\
  ((J.stop i H'/\Q (.ref l) H')\/(J.go i H'/\∀ x h,J.yld i H' x h->g x d h λa j=>tt a j λb f =>
   if b=true then te a f λy e=>e l=some (.lst acc)/\acc.length<sizeLine/\∃ c,c<m/\W (i+1) c (acc++[y]) a (upd e l (.lst (acc++[y])))
   else ∃ c,c<m/\W (i+1) c acc a f))
def tLC (cap:List (Option Nat)) (a:TI) (g:TG) (tt:TT) (te:TE):TE:=λσ H Q=>a σ H λJ H1=>∀ l,H1 l=none ->
 ∃ W:Nat->Nat->List V->St->Hp->Prop,(∃ m,W 0 m [] (capσ cap σ) (upd H1 l (.lst [])))/\LCW J g tt te l Q W
theorem ziD {X:Cx}{elt tg iter:Expr}{o:Option Expr}{scope:Scope}{pos aa:Pos}{wi:TI}{g:TG}{tt:TT}{te:TE}{N':List Str}{cap:List (Option Nat)}{use:Option (Value->Sem Unit)}{Q0:Value->Shared->Prop}
  (hc:X.calm=true) (hi:PI X tg iter wi) (K:CapOk X.N N' X.env.scope scope cap)
  (hg:∀ C s₀ H₀ fp pins,PG (zaY X N' scope C s₀ H₀ fp pins) tg g)
  (ht:∀ C s₀ H₀ fp pins,PTo (zaY X N' scope C s₀ H₀ fp pins) o tt)
  (he:∀ C s₀ H₀ fp pins,PE (zaY X N' scope C s₀ H₀ fp pins) elt te)
  (hs:∀ x,foldedSetIterable iter X.env x=pure x) {pins:List (Addr × Obj)}{s:Shared}{σ:St}{H:Hp}{Q:VK}(I:Inv X pins σ H s) (h:tLC cap wi g tt te σ H Q)
  (fin:∀ (l C:Addr) (G:Hp) (N:Shared) (m:Str->Option Value),Inv X pins σ G N->Q (.ref l) G->N.heap.Ns C m->FpOk X pins G C->compPost (model X.prog X.w) X.A X.xe use Q0 (.ref l) C (.ok .next) N) :
  wpAny (model X.prog X.w) X.A (comprehension (.ListComp elt [⟨tg,iter,o.toList,0⟩] scope pos) scope X.env aa (newList []) false (eval iter X.env) use) Q0 X.xe s:=by
 have B:∀ y∈scope.names,y.2=.free->∃ c,X.env.cells.lookup y.1=some c:=λy hy hf=>I.ok.has y.1 (K.free y hy hf)
 refine wpAny_comprehension_free (use:=use) rfl hs (zdH B) K.kind K.names (thn (hi pins s σ H _ I h) λv s1 h1=>thn h1 λaG s2 h2=>?_)
 obtain⟨it,fp,tn,J,H2,e,I2,T,st2,f2,body⟩:=h2
 subst e
 have ad:H2 s2.heap.objs.size=none:=I2.hok.fresh (Jg _)
 obtain⟨W,⟨m0,w0⟩,turn⟩:=body s2.heap.objs.size ad
 have f:Inv X pins σ (upd H2 s2.heap.objs.size (.lst [])) { s2 with heap:=s2.heap.push { cls:=.type "list",data:=.seq ([]:List Value).toArray },toks:=s2.toks }:=I2.lnew (its:=[]) (t':=s2.toks) .nil (JN _)
 refine JM (wpAny_newFunctionEnv K.nocell (by intro y hy;simp at hy) (λh₁ A w=>?_) K.kind)
 dsimp only at A w ⊢
 generalize hl:s2.heap.objs.size=l at *
 generalize hP:s2.heap.push { cls:=.type "list",dict:=none,data:=.seq ([]:List Value).toArray }=P2 at *
 generalize aw:upd H2 l (.lst [])=H3 at *
 have old:∀ b o,P2.get? b=some o->h₁.get? b=some o:=λb o e=>w.extBut b o (JF (Jr e)) (J8 _ e)
 have ab:∀ b o,s2.heap.get? b=some o->P2.get? b=some o:=λb o e=>hP ▸ J8 _ e
 have aj:∀ b∈fp,b<l:=λb hb=>by
  obtain⟨o,e,_⟩:=T.obj _ _ st2 b hb
  rw[<- hl];exact Jr e
 have ay:∀ b∈fp,H3 b=none:=λb hb=>by
  rw[<- aw,zah (JF (aj b hb))];exact(f2 b hb).1
 have av:P2.objs.size=l+1:=by rw[<- hP,YW,hl]
 have k:∀ x c,(clOf X.env.cells scope.names []).lookup x=some c->X.env.cells.lookup x=some c:=λx c e=>zcZ _ _ x c B (λ_ _ z=>by simp at z) e
 generalize ag:({ s2 with heap:=P2,toks:=s2.toks }:Shared)=s3 at *
 have a:s3.heap=P2:=by rw[<- ag]
 let Y:=zaY X N' scope P2.objs.size s3 H3 fp pins
 have t:Y.Ok:=by
  refine⟨f.ok.mod,K.kind,f.ok.glob,f.ok.blt,by show s3.heap.objs.size<=P2.objs.size;rw[a];exact Jg _,λx y c e1 e2=>f.ok.inj x y c (k x c e1) (k y c e2),λx O=>?_,λx c O=>absurd (show false=true from O) Jp,f.ok.hd,f.ok.frames,.inl rfl,λb hb=>⟨?_,λx c e=>?_⟩,f.bs,
   Y3 f.ok.bsz f.sz,λb o e hb=>?_,λb hb hz=>?_,f.stack,f.stkFree⟩
  ·have ao:scope.names.lookup x=some .free:=by
    rcases O with O|O
    ·rcases zbp O with z|z
     ·exact absurd rfl (K.nocell _ (zcH z))
     ·exact z.2
    ·rcases zbp O with z|z
     ·exact z
     ·exact z.2
   exact zbY _ _ x ao
  ·exact JF (by show b<P2.objs.size;rw[av];exact Wq (aj b hb))
  ·exact(f2 b hb).2.2.2.2.1 x c (k x c e)
  ·rcases (f2 b hb).2.2.2.1 with z|z
   ·exact f.ok.noex b o e z
   ·exact absurd (JJ (Jr e) (Y3 f.ok.bsz z)) (YG _)
  ·rcases Jt.mp (f.stkSub b hz) with z|z
   ·exact(f2 b hb).2.1 z
   ·exact(f2 b hb).2.2.1 z
 have au:Inv Y [] (capσ cap σ) H3 { s2 with heap:=h₁,toks:=s2.toks }:=by
  refine⟨t,by show s2.os=s3.os;rw[<- ag],I2.bare,by show Un _ _ _ _ s3.heap h₁;rw[a];exact Un.kept old,⟨_,A,λj x v e1 e2 e3=>?_⟩,λx c e=>?_,?_,λx c e=>f.freeC x c (k x c e),λp hp=>?_,λb o e=>?_,?_⟩
  ·have aB:N'[j]?=some x:=e1
   unfold capσ at e2
   rw[JK]at e2
   cases ec:cap[j]? with
   | none=>rw[ec]at e2;cases e2
   | some oc =>
    rw[ec]at e2
    cases oc with
    | none=>cases e2
    | some i =>
     have az:σ[i]?=some (some v):=by
      cases ei:σ[i]? with
      | none=>simp[ei]at e2
      | some v' =>
       simp[ei]at e2
       rw[e2]
     have hz:(x,some i)∈N'.zip cap:=by
      refine JP (i:=j) ?_
      rw[Wn]
      exact⟨aB,ec⟩
     obtain⟨hN,hf,hk⟩:=K.cap _ hz i rfl
     obtain⟨m,hn,ap⟩:=f.loc
     obtain⟨u,r,lk⟩:=ap i x v hN az (by rcases hk with z|z;exact .inr (.inl z);exact .inr (.inr z))
     refine⟨u,r,.inr ⟨?_,?_⟩⟩
     ·exact zcL hf
     ·rcases lk with ⟨z,_⟩|⟨_,c,ar,Z⟩
      ·have z':X.env.scope.names.lookup x=some .local:=z
       rcases hk with q|q
       ·rw[q]at z';cases z'
       ·rw[q]at z';cases z'
      ·obtain⟨c',ah⟩:=zbY (cells:=X.env.cells) scope.names [] x hf
       have:=k x c' ah
       rw[ar]at this;cases this
       obtain⟨ob,e,d⟩:=Z
       rw[a]at e
       exact⟨c,ah,ob,old c ob e,d⟩
  ·obtain⟨v,ob,e',d⟩:=f.cell x c (k x c e)
   rw[a]at e'
   exact⟨v,ob,old c ob e',d⟩
  ·refine f.hok.fresh ?_
   rw[a];exact Jg _
  ·have U:p∈X.pn++pins:=(JB.mp hp).elim (λz=>z) (λz=>nomatch z)
   obtain⟨e,n,ne,nf,d⟩:=f.pin p U
   rw[a]at e
   refine⟨old _ _ e,n,JF (Jr e),λz=>?_,d⟩
   rcases Jt.mp (f.stkSub _ z) with q|q
   ·exact ne q
   ·exact nf q
  ·have:=f.hok.kept (h':=h₁) (λb u q=>old b u (by rw[<- a];exact q))
   exact this b o e
  ·show (cap.map _).length=N'.length
   rw[Jq,K.len]
 have E:∀ {H':Hp},(∀ b∈fp,H' b=none)->∀ b∈fp,FpOk Y [] H' b:=λ{H'} hn b hb=>by
  refine⟨hn b hb,(t.exf b hb).1,t.exfs b hb,.inl hb,(t.exf b hb).2,λp hp=>?_⟩
  have U:p∈X.pn++pins:=(JB.mp hp).elim (λz=>z) (λz=>nomatch z)
  exact(f2 b hb).2.2.2.2.2 p U
 have af:tn 0 h₁:=T.keep 0 _ _ st2 λb hb o e=>old b o (ab b o e)
 have loop:codeAny (model X.prog X.w) X.A (.compLoop (.ListComp elt [⟨tg,iter,o.toList,0⟩] scope pos) 0 (.ref it) (.ref l) Y.env) (compPost (model X.prog X.w) X.A X.xe use Q0 (.ref l) P2.objs.size) { s2 with heap:=h₁,toks:=s2.toks }:=by
  refine zi6 (λn s'=>∃ i acc D H',Inv Y [] D H' s'/\tn i s'.heap/\(∀ b∈fp,H' b=none)/\W i n acc D H') ?_ m0 ⟨0,[],_,H3,au,af,ay,w0⟩
  rintro n s4 ⟨i,acc,M,G,I4,ae,ai,w4⟩
  obtain⟨aE,q4⟩:=turn i n acc M G w4
  rcases q4 with ⟨stop,qn⟩|⟨go,step⟩
  ·refine thn (T.done Y rfl rfl rfl hc i [] s4 M G Y.xe I4 (E ai) ae stop) λr N ⟨hr,I5⟩=>?_
   subst hr
   obtain⟨m,hn,_⟩:=id I5.loc
   have un:Un (frs X.stack) fp H3 G s3.heap N.heap:=I5.base
   have ak:s3.heap.objs.size<=P2.objs.size:=by rw[a];exact Jg _
   have IX:Inv X pins σ G N:=f.call' (ch:=fp) I5.os un I5.hok I5.bare λb hb=>⟨(f2 b hb).2.2.2.1,(f2 b hb).2.1,(f2 b hb).2.2.2.2.1,(f2 b hb).2.2.2.2.2⟩
   exact fin l P2.objs.size G N m IX qn hn (f.fpOk ak I5.free)
  ·refine thn (T.item Y rfl rfl rfl hc i [] s4 M G Y.xe I4 (E ai) ae go) λr N ⟨u,hr,h5⟩=>?_
   subst hr
   refine thn h5 λ_ s6 ⟨x,H6,I6,r6,y6,S,ax⟩=>?_
   have aC:=I6.pinned (E ax) (T.obj _ _ S)
   refine thn (hg _ _ _ _ _ _ s6 M H6 x u _ aC r6 (step x H6 y6)) λ_ s7 ⟨R,H7,I7,q7⟩=>?_
   refine zf0 (ht _ _ _ _ _ _ s7 R H7 _ I7 q7) λb s8 ⟨H8,I8,q8⟩=>?_
   have again:∀ {L:St}{P:Hp}{s9:Shared}{F:List V},Inv Y ([]++zcM fp s6.heap) L P s9->(∃ m',m'<n/\W (i+1) m' F L P)->∃ m,m<n/\∃ i acc D H',Inv Y [] D H' s9/\tn i s9.heap/\(∀ b∈fp,H' b=none)/\W i m acc D H':=λ{L P s9 F} I9 ⟨m',hm,w9⟩=>by
    refine⟨m',hm,i+1,F,L,P,I9.unpinned,T.keep _ _ _ S λb hb o e=>(I9.pin (b,o) (Jz _ (Jz _ (za4 hb e)))).1,λb hb=>?_,w9⟩
    obtain⟨o,e,d⟩:=T.obj _ _ S b hb
    exact(I9.pin (b,o) (Jz _ (Jz _ (za4 hb e)))).2.1
   cases b with
   | false =>
    rw[Jb Jp]at q8 ⊢
    exact again I8 q8
   | true =>
    rw[Jf rfl]at q8 ⊢
    refine thn (he _ _ _ _ _ _ s8 R H8 _ I8 q8) λyv s9 ⟨y,P,I9,r9,aq,am,q9⟩=>?_
    refine thn (zbd (X:=Y) _ s9 R P (.ref l) [y] (.ref l) [yv] (λ_ H'=>H'=upd P l (.lst (acc++[y]))) I9 rfl (.cons r9 .nil) ⟨l,acc,y,rfl,rfl,aq,am,rfl⟩) λ_ aF ⟨_,aH,aD,_,aA⟩=>?_
    subst aA
    exact again aD q9
 exact codeAny_compStart_list loop (T.self X.A 0 _ _ _ af loop)
theorem Inv.gone {X:Cx}{pins:List (Addr × Obj)}{σ:St}{H:Hp}{s:Shared}{C:Addr}{h':Heap}(I:Inv X pins σ H s) (f:FpOk X pins H C) (sb:Heap.SameBut C s.heap h'):Inv X pins σ H { s with heap:=h' } :=
 I.turned (t':=s.toks) (λb o hb e=>(sb.2 b hb).trans e) f.1 f.2.1 f.2.2.2.1 f.2.2.2.2.1 f.2.2.2.2.2
theorem zh3 {X:Cx}{elt tg iter:Expr}{o:Option Expr}{scope:Scope}{pos:Pos}{a:TI}{g:TG}{tt:TT}{te:TE}{N':List Str}{cap:List (Option Nat)}
  (j:X.calm=true) (hi:PI X tg iter a) (k:CapOk X.N N' X.env.scope scope cap)
  (e:∀ C s₀ H₀ fp pins,PG (zaY X N' scope C s₀ H₀ fp pins) tg g)
  (b:∀ C s₀ H₀ fp pins,PTo (zaY X N' scope C s₀ H₀ fp pins) o tt)
  (i:∀ C s₀ H₀ fp pins,PE (zaY X N' scope C s₀ H₀ fp pins) elt te)
  (c:∀ x,foldedSetIterable iter X.env x=pure x:=by intro _;rfl) :
  PE X (.ListComp elt [⟨tg,iter,o.toList,0⟩] scope pos) (tLC cap a g tt te):=by
 intro pins s σ H Q I h
 rw[eval_ListComp]
 exact ziD (use:=none) j hi k e b i c I h λl C p r m n q d f=>⟨m,d,λh' sb=>⟨.ref l,p,n.gone f sb,rfl,q⟩⟩
theorem zga {X:Cx}{i:Nat}{y:Str}{elt tg iter:Expr}{o:Option Expr}{scope:Scope}{pos b py:Pos}{k:TI}{g:TG}{tt:TT}{te:TE}{N':List Str}{cap:List (Option Nat)}
  (J:X.N.Nodup) (j:X.N[i]?=some y) (n:X.env.scope.names.lookup y=some .local) (G:X.calm=true) (hi:PI X tg iter k) (K:CapOk X.N N' X.env.scope scope cap)
  (E:∀ C s₀ H₀ fp pins,PG (zaY X N' scope C s₀ H₀ fp pins) tg g)
  (u:∀ C s₀ H₀ fp pins,PTo (zaY X N' scope C s₀ H₀ fp pins) o tt)
  (F:∀ C s₀ H₀ fp pins,PE (zaY X N' scope C s₀ H₀ fp pins) elt te)
  (A:∀ x,foldedSetIterable iter X.env x=pure x:=by intro _;rfl)
  (d:swapsWith (.ListComp elt [⟨tg,iter,o.toList,0⟩] scope pos) (some (.Name y py)) b.line X.env=pure true:=by with_unfolding_all rfl) :
  PS X (.Assign [.Name y py] (.ListComp elt [⟨tg,iter,o.toList,0⟩] scope pos) b) (tAsg (tLC cap k g tt te) (zcQ i)):=by
 intro pins s σ H D I h
 rw[exec_Assign_Name_used y py _ b d]
 refine J0 (Z5 (J0 (J0 (thn (ziD (use:=some (assign (.Name y py) X.env)) (Q0:=λ_ z=>SP X pins D .next z) G hi K E u F A I h λl C N O m M q B f=>?_) λ_ z t=>J9 (J9 t)))))
 refine wpAny_assign_Name (zeo (v:=.ref l) M J j (.inl n) rfl (λp L ⟨a,sb,ha⟩=>?_) (.inr n))
 have r:C≠a:=by
  rcases ha with z|z
  ·rw[z];exact f.2.1
  ·exact λw=>f.2.2.2.2.1 y a z w.symm
 have e:p.heap.Ns C m:=B.sameBut sb r
 exact⟨m,e,λh' c=>⟨_,N,L.gone f c,q⟩⟩
end L2
namespace Own
open PySem PySem.Spec PyProof.Rows
section
variable {M:Model}{prog:Program}{w:World}{A:Around}{E:Value->Shared->Prop}{s:Shared}{α:Type}{Q:α->Shared->Prop}
theorem rf {a:Addr}{o:Obj}{vs:Array Value}{x:Value}{f:Value->Sem α}(k:Nat) (c:s.heap.get? a=some o) (hd:o.data=.fields vs) (b:vs[k]?=some x) (h:wpAny M A (f x) Q E s) :
  wpAny M A (field (.ref a) k >>= f) Q E s:=J0 (W6 c hd b h)
theorem nx {T id:String}{B:Builtin}{it:Addr}{P:Value->Shared->Prop}(slot:Slot T "__next__" id) (ty:s.TypeIs (.ref it) T) (en:entryFor table id=some B) (ok:argsOk id ⟨[.ref it],[]⟩)
  (h:wpAny (model prog w) A.in1 (B ⟨[.ref it],[]⟩) (λr s'=>∃ v,r=.done (.ret v)/\P v s') E s):wpAny (model prog w) A (Builtin.SmallTypes.nextOf (.ref it)) P E s:=by
 unfold Builtin.SmallTypes.nextOf;refine J0 (wpAny_callSpecial?_slot (name:="__next__") ty slot (Y4 slot ty en (thn2 h) ok))
where
 thn2 {a:Sem Fin}{P:Value->Shared->Prop}{b:Around}(h:wpAny (model prog w) b a (λr s'=>∃ v,r=.done (.ret v)/\P v s') E s) :
   wpAny (model prog w) b a (λr s'=>∃ v,r=.done (.ret v)/\wpAny (model prog w) A (pure v) P E s') E s :=
  JT h (λ_ _ ⟨v,e,q⟩=>⟨v,e,J9 q⟩) λ_ _ z=>z
end
theorem ends {A:Around}{E:Value->Shared->Prop}{prog:Program}{w:World}{s:Shared}{α:Type}{Q:α->Shared->Prop}(c:A.handled=none)
  (h:∀ h' x,(∀ b o,s.heap.get? b=some o->h'.get? b=some o)->(∃ o,h'.get? x=some o/\o.cls=.type "StopIteration")->E (.ref x) { s with heap:=h' }) :
  wpAny (model prog w) A (Builtin.SmallTypes.stopIteration:Sem α) Q E s:=by
 unfold Builtin.SmallTypes.stopIteration newExc newTuple
 refine J0 (J0 (JM ?_ (by size_fits)))
 refine J0 (wpAny_of_eq (a:=Value.none) (by rfl) (JM (wpAny_raiseNew_none c (h _ _ (λb o e=>?_) ⟨_,Js _ rfl,rfl⟩)) (by size_fits)))
 exact J8 _ (J8 _ e)
def cN:Bool->String
 | true=>"list_iterator"
 | false=>"tuple_iterator"
abbrev RIt (b:Bool) (h:Heap) (it a:Addr) (i:Int):Prop:=h.get? it=some { cls:=.type (cN b),dict:=none,data:=.fields #[.ref a,.int i 0],slots:=#[] }
def SqO:Bool->Heap->Addr->Array Value->Prop
 | true,h,a,xs=>h.IsList a xs
 | false,h,a,xs=>h.IsTuple a xs
theorem SqO.ob {b:Bool}{h:Heap}{a:Addr}{xs:Array Value}(x:SqO b h a xs):∃ o n,h.get? a=some o/\o.data=.seq xs n:=by
 cases b<;>(obtain⟨o,e,_,n,d⟩:=x;exact⟨o,n,e,d⟩)
theorem SqO.mv {b:Bool}{h h':Heap}{a:Addr}{xs:Array Value}(x:SqO b h a xs) (k:∀ o,h.get? a=some o->h'.get? a=some o):SqO b h' a xs:=by
 cases b<;>(obtain⟨o,e,r⟩:=x;exact⟨o,k o e,r⟩)
theorem SqO.ne {b c:Bool}{h:Heap}{a it f:Addr}{i:Int}{xs:Array Value}(x:SqO b h a xs) (y:RIt c h it f i):a≠it:=λz=>by
 obtain⟨o,n,e,d⟩:=x.ob
 rw[z,y]at e;cases e;cases d
section
variable {prog:Program}{w:World}{A:Around}{E:Value->Shared->Prop}{s:Shared}
theorem ty {b:Bool}{it a:Addr}{i:Int}(y:RIt b s.heap it a i):s.TypeIs (.ref it) (cN b):=⟨_,y,rfl⟩
theorem zfm {b:Bool}{it a:Addr}{i:Nat}{xs:Array Value}{x:Value}{P:Value->Shared->Prop}{B:Builtin}(k:B=match b with|true=>Builtin.«list_iterator.__next__»|false=>Builtin.«tuple_iterator.__next__»)
  (y:RIt b s.heap it a i) (sq:SqO b s.heap a xs) (f:xs[i]?=some x) (h:∀ h',RIt b h' it a (i+1)->Heap.SameBut it s.heap h'->P x { s with heap:=h' }) :
  wpAny (model prog w) A (B ⟨[.ref it],[]⟩) (λr s'=>∃ v,r=.done (.ret v)/\P v s') E s:=by
 obtain⟨o,n,e,d⟩:=sq.ob
 have fin:wpAny (model prog w) A (match xs[(i:Int).toNat]? with
   | some x=>(do setField (.ref it) 1 (rawInt ((i:Int)+1));ret x:Sem Fin)
   | none=>Builtin.SmallTypes.stopIteration) (λr s'=>∃ v,r=.done (.ret v)/\P v s') E s:=by
  rw[Ya,f]
  exact J0 (Yd y (show 1<2 by decide) λh' g sb=>J9 ⟨x,rfl,h h' g sb⟩)
 rw[Ya,f]at fin
 subst k
 cases b <;>
 ·refine rf 0 y rfl rfl (PyIte (show ¬((Value.ref a == Value.none)=true) from Jp) (rf 1 y rfl rfl (J0 (Yf e d ?_))))
  simp only[Ya,f];exact fin
where
 PyIte {c:Prop} [Decidable c] {α:Type}{a b:Sem α}{M:Model}{A:Around}{Q:α->Shared->Prop}{E:Value->Shared->Prop}{s:Shared}(j:¬ c) (h:wpAny M A b Q E s):wpAny M A (if c then a else b) Q E s:=by
  rw[Jb j];exact h
theorem zew {b:Bool}{it a:Addr}{i:Nat}{xs:Array Value}{Q:Fin->Shared->Prop}{B:Builtin}(l:B=match b with|true=>Builtin.«list_iterator.__next__»|false=>Builtin.«tuple_iterator.__next__»)
  (g:A.handled=none) (y:RIt b s.heap it a i) (sq:SqO b s.heap a xs) (f:xs[i]?=none)
  (h:∀ h' x,(∀ c o,c≠it->s.heap.get? c=some o->h'.get? c=some o)->(∃ o,h'.get? x=some o/\o.cls=.type "StopIteration")->E (.ref x) { s with heap:=h' }) :
  wpAny (model prog w) A (B ⟨[.ref it],[]⟩) Q E s:=by
 obtain⟨o,n,e,d⟩:=sq.ob
 subst l
 cases b <;>
 ·refine rf 0 y rfl rfl (zfm.PyIte (show ¬((Value.ref a == Value.none)=true) from Jp) (rf 1 y rfl rfl (J0 (Yf e d ?_))))
  simp only[Ya,f];refine J0 (YT (J0 (Yd y (show 0<2 by decide) λh1 _ sb=>?_)))
  exact ends g λm x k z=>h m x (λc o j q=>k c o ((sb.2 c j).trans q)) z
theorem zlM {b:Bool}{it a:Addr}{i:Nat}{xs:Array Value}{x:Value}{P:Value->Shared->Prop}(y:RIt b s.heap it a i) (sq:SqO b s.heap a xs) (c:xs[i]?=some x)
  (h:∀ h',RIt b h' it a (i+1)->Heap.SameBut it s.heap h'->P x { s with heap:=h' }):wpAny (model prog w) A (Builtin.SmallTypes.nextOf (.ref it)) P E s:=by
 cases b
 ·exact nx F.slot_tuple_iterator_next (ty y) F.entry_tuple_iterator_next (F.args_tuple_iterator_next_1 _) (zfm (b:=false) rfl y sq c h)
 ·exact nx slot_listiter_next (ty y) entry_listiter_next (args_listiter_next _) (zfm (b:=true) rfl y sq c h)
theorem zin {b:Bool}{it a:Addr}{i:Nat}{xs:Array Value}{P:Value->Shared->Prop}(e:A.handled=none) (y:RIt b s.heap it a i) (sq:SqO b s.heap a xs) (d:xs[i]?=none)
  (h:∀ h' x,(∀ c o,c≠it->s.heap.get? c=some o->h'.get? c=some o)->(∃ o,h'.get? x=some o/\o.cls=.type "StopIteration")->E (.ref x) { s with heap:=h' }) :
  wpAny (model prog w) A (Builtin.SmallTypes.nextOf (.ref it)) P E s:=by
 have inner:A.in1.handled=none:=e
 cases b
 ·exact nx F.slot_tuple_iterator_next (ty y) F.entry_tuple_iterator_next (F.args_tuple_iterator_next_1 _) (zew (b:=false) rfl inner y sq d h)
 ·exact nx slot_listiter_next (ty y) entry_listiter_next (args_listiter_next _) (zew (b:=true) rfl inner y sq d h)
theorem zcI {b:Bool}{a:Addr}{xs:Array Value}{P:Value->Shared->Prop}(sq:SqO b s.heap a xs)
  (h:P (.ref s.heap.objs.size) { s with heap:=s.heap.push { cls:=.type (cN b),data:=.fields #[.ref a,.int 0 0] } }):wpAny (model prog w) A (pyIter (.ref a)) P E s:=by
 cases b
 ·exact wpAny_pyIter_tuple sq h
 ·exact wpAny_pyIter_list sq h
end
theorem draws {prog:Program}{w:World}{A:Around}(g:A.handled=none) (b:Bool) (it a:Addr) (xs:Array Value) (d:a≠it) :
  Draws prog w A it [it,a] xs.size (λi v=>xs[i]?=some v) (λi h=>RIt b h it a i/\SqO b h a xs) :=
 ⟨λ_ _ st=>⟨_,st.1⟩,λ_ _ _ st k=>⟨k it JH _ st.1,st.2.mv λo e=>k a (JG _ JH) o e⟩,
  λi s Q E hi st k=>zlM st.1 st.2 (Zz hi) λh' y sb=>k _ h' s.toks (Zz hi) ⟨y,st.2.mv λo e=>(sb.2 a d).trans e⟩ sb,
  λs Q E st k=>zin g st.1 st.2 (by simp) λh' x f z=>k h' x (λc o j q=>f c o j q) z⟩
theorem zkt (b:Bool) (a:Addr) (o:Obj) (xs:Array Value) :
  Meets (Builtin.«enumerate.__new__» ⟨[.type "enumerate",.ref a],[]⟩) (λ_ R s=>s.heap.get? a=some o/\SqO b s.heap a xs /\
   R (.ok (.ret (.ref (s.heap.push { cls:=.type (cN b),data:=.fields #[.ref a,.int 0 0] }).objs.size)))
    { s with heap:=(s.heap.push { cls:=.type (cN b),data:=.fields #[.ref a,.int 0 0] }).push { cls:=.type "enumerate",data:=.fields #[.none,.bool false,.ref s.heap.objs.size,rawInt 0,.none,.none] } }) :=
 .of_wp λprog w A R s h=>by
  obtain⟨i,g,d,tk,os⟩:=s;obtain⟨f,sq,h⟩:=h
  have sub:=sub_enumerate
  have e:SqO b (Shared.heap ⟨i,g,d,tk,os⟩) a xs:=sq
  wp_walk using Wr f;refine wpAny_stack_any λst=>J9 ?_
  split
  case h_1 c _ _ _ _ _ =>
   cases (c == Value.type "enumerate")<;>(wp_walk using Wr f,zcI e;exact⟨_,rfl,h⟩)
  all_goals (wp_walk using Wr f,zcI e;exact⟨_,rfl,h⟩)
theorem zjh {prog:Program}{w:World}{A:Around}{E:Value->Shared->Prop}{s:Shared}{b:Bool}{a:Addr}{xs:Array Value}{P:Value->Shared->Prop}(sq:SqO b s.heap a xs)
  (h:∀ h' e it,s.heap.objs.size<=e->s.heap.objs.size<=it->e≠it->IsEnum h' e it 0 .none->RIt b h' it a 0->(∀ c o,s.heap.get? c=some o->h'.get? c=some o)->P (.ref e) { s with heap:=h' }) :
  wpAny (model prog w) A (call (.type "enumerate") [.ref a]) P E s:=by
 obtain⟨o,n,d,_⟩:=sq.ob
 refine callType_new F.called_enumerate (by decide) (F.typeCall_enumerate_1 _) (F.newCall_enumerate_1 _) (λobj=>F.args_object_init_2 obj _) F.entry_enumerate_new (zkt b a o xs) ⟨d,sq,⟨_,Js _ rfl,rfl⟩,?_⟩
 refine h _ _ _ ?_ (Jg _) ?_ (Js _ rfl) (J8 _ (Js _ rfl)) λc o e=>J8 _ (J8 _ e)
 ·rw[YW];exact Nat.le_succ _
 ·rw[YW];exact Nat.succ_ne_self _
structure Sep (z TI TO i1 i2:Addr) (f1 f2:List Addr):Prop where
 all:[z,TI,TO,i1,i2].Nodup
 z1:z∉f1
 t1:TO∉f1
 o1:i2∉f1
 z2:z∉f2
 t2:TO∉f2
 o2:i1∉f2
section
variable {prog:Program}{w:World}{A:Around}{E:Value->Shared->Prop}{s:Shared}{z TI TO i1 i2:Addr}{f1 f2:List Addr}{n1 n2 k:Nat}{P1 P2:Nat->Value->Prop}{S1 S2:Nat->Heap->Prop}{a b:Value}
theorem zjq (S:Sep z TI TO i1 i2 f1 f2) (B:Draws prog w A i1 f1 n1 P1 S1) (u:Draws prog w A i2 f2 n2 P2 S2) {Q:Value->Shared->Prop}
  (l:IsZip s.heap z TI TO .none) (T:IsPair s.heap TI (.ref i1) (.ref i2)) (R:IsPair s.heap TO a b) (W:S1 k s.heap) (V:S2 k s.heap) (l1:k<n1) (l2:k<n2)
  (h:∀ x y h' tk,P1 k x->P2 k y->IsZip h' z TI TO (rawInt s.heap.objs.size)->IsPair h' TO x y->S1 (k+1) h'->S2 (k+1) h'->IsPair h' s.heap.objs.size x y ->
   (∀ c o,c∉[z,TO,i1,i2]->s.heap.get? c=some o->h'.get? c=some o)->Q (.ref s.heap.objs.size) { s with heap:=h',toks:=tk }) :
  wpAny (model prog w) A (Builtin.«zip.__next__» ⟨[.ref z],[]⟩) (λr s'=>∃ v,r=.done (.ret v)/\Q v s') E s:=by
 have nd:=S.all
 simp only[JR,Jt,Jw,Za,Ws]at nd
 obtain⟨⟨zI,p,z1,z2⟩,⟨IO,I1,I2⟩,⟨O1,O2⟩,aa,_⟩:=nd
 refine rf 2 l rfl rfl (rf 3 l rfl rfl (J0 (Yf T rfl (J0 (rf 0 l rfl rfl (J9 ?_))))))
 simp only[Yk]
 refine J0 (YT (rf 4 l rfl rfl (J0 (Yd l (show 0<5 by decide) λha O sa=>J0 ?_))))
 have C:IsZip ha z TI TO .ellipsis:=O;simp only[List.zipIdx_cons,List.zipIdx_nil,YU,Zq]
 refine J0 (J0 (wpAny_onRaise (J0 (B.item k _ _ _ l1 (B.frame _ _ _ W λc g o e=>(sa.2 c λq=>S.z1 (q ▸ g)).trans e) λx hb tb P db sb=>J9 ?_))))
 have L:IsPair hb TO a b:=(sb.2 TO O1).trans ((sa.2 TO (Ne.symm p)).trans R)
 refine J0 (Yf L rfl (J0 (wpAny_updateSeq_pair L λg Oc sc=>J0 (ZQ (J9 ?_)))))
 have D:IsPair g TO x b:=Oc
 have st2:S2 k g:=u.frame _ _ _ V λc d o e=>(sc.2 c λq=>S.t2 (q ▸ d)).trans ((sb.2 c λq=>S.o2 (q ▸ d)).trans ((sa.2 c λq=>S.z2 (q ▸ d)).trans e))
 refine J0 (J0 (wpAny_onRaise (J0 (u.item k _ _ _ l2 st2 λy hd td py U j=>J9 ?_))))
 have K:IsPair hd TO x b:=(j.2 TO O2).trans D
 refine J0 (Yf K rfl (J0 (wpAny_updateSeq_pair K λf Z i=>J0 (ZQ (J9 (J9 ?_))))))
 have n:IsPair f TO x y:=Z
 refine J0 (Yf n rfl (J0 (wpAny_newTuple (J0 ?_))))
 have sz:f.objs.size=s.heap.objs.size:=by rw[i.1,j.1,sc.1,sb.1,sa.1]
 have F:IsZip f z TI TO .ellipsis:=(i.2 z p).trans ((j.2 z z2).trans ((sc.2 z p).trans ((sb.2 z z1).trans C)))
 have zn:f.objs.size≠z:=Z1 (Jr F)
 unfold Builtin.SmallTypes.ownedTupleHandOut;refine J0 (Yd (J8 _ F) (show 0<5 by decide) λhf N H=>Yd N (show 1<5 by decide) λt M G=>J9 ⟨_,rfl,?_⟩)
 have up:∀ c o,c≠z->f.get? c=some o->t.get? c=some o:=λc o q e=>(G.2 c q).trans ((H.2 c q).trans (J8 _ e))
 have new:IsPair t f.objs.size x y:=(G.2 _ zn).trans ((H.2 _ zn).trans (Js _ rfl))
 have m:IsZip t z TI TO (rawInt f.objs.size):=M
 rw[sz]at new m
 show Q (.ref f.objs.size) _
 rw[sz]
 refine h x y t td P py m (up _ _ (Ne.symm p) n) ?_ ?_ new λc o g e=>?_
 ·exact B.frame _ _ _ db λc d o e=>up c o (λq=>S.z1 (q ▸ d)) ((i.2 c λq=>S.t1 (q ▸ d)).trans ((j.2 c λq=>S.o1 (q ▸ d)).trans ((sc.2 c λq=>S.t1 (q ▸ d)).trans e)))
 ·exact u.frame _ _ _ U λc d o e=>up c o (λq=>S.z2 (q ▸ d)) ((i.2 c λq=>S.t2 (q ▸ d)).trans e)
 ·simp only[Jt,Jw,Za,Ws]at g
  obtain⟨J,I,Y,X⟩:=g
  exact up c o J ((i.2 c I).trans ((j.2 c X).trans ((sc.2 c I).trans ((sb.2 c Y).trans ((sa.2 c J).trans e)))))
end
section
variable {prog:Program}{w:World}{A:Around}{E:Value->Shared->Prop}{s:Shared}{z TI TO i1 i2:Addr}{f1 f2:List Addr}{n1:Nat}{P1:Nat->Value->Prop}{S1:Nat->Heap->Prop}
theorem zjp (S:Sep z TI TO i1 i2 f1 f2) (k:Draws prog w A i1 f1 n1 P1 S1) {Q:Fin->Shared->Prop}(a:IsZip s.heap z TI TO .none) (n:IsPair s.heap TI (.ref i1) (.ref i2)) (p:S1 n1 s.heap)
  (h:∀ h' x,(∀ c o,c∉[z,TO,i1,i2]->s.heap.get? c=some o->h'.get? c=some o)->(∃ o,h'.get? x=some o/\o.cls=.type "StopIteration")->E (.ref x) { s with heap:=h' }):wpAny (model prog w) A (Builtin.«zip.__next__» ⟨[.ref z],[]⟩) Q E s:=by
 have nd:=S.all
 simp only[JR,Jt,Jw,Za,Ws]at nd
 obtain⟨⟨u,t,z1,z2⟩,⟨IO,C,B⟩,⟨y,v⟩,r,_⟩:=nd
 refine rf 2 a rfl rfl (rf 3 a rfl rfl (J0 (Yf n rfl (J0 (rf 0 a rfl rfl (J9 ?_))))))
 simp only[Yk]
 refine J0 (YT (rf 4 a rfl rfl (J0 (Yd a (show 0<5 by decide) λha l sa=>J0 ?_))))
 have f:IsZip ha z TI TO .ellipsis:=l;simp only[List.zipIdx_cons,List.zipIdx_nil,YU,Zq]
 refine J0 (J0 (wpAny_onRaise (J0 (k.done _ _ _ (k.frame _ _ _ p λc d o e=>(sa.2 c λq=>S.z1 (q ▸ d)).trans e) λhb x i ⟨m,ex,j⟩=>?_))))
 have g:IsZip hb z TI TO .ellipsis:=i z _ z1 f
 have xz:x≠z:=λq=>by rw[q,g]at ex;cases ex;exact absurd (show Value.type "zip" = Value.type "StopIteration" from j) (by decide)
 refine Yd g (show 0<5 by decide) λd _ sc=>h d x (λc o b e=>?_) ⟨m,(sc.2 x xz).trans ex,j⟩
 simp only[Jt,Jw,Za,Ws]at b
 exact(sc.2 c b.1).trans (i c o b.2.2.1 ((sa.2 c b.1).trans e))
end
theorem zhg (b1 b2:Bool) (a1 a2:Addr) (xs ys:Array Value):Meets (Builtin.«zip.__new__» ⟨[.type "zip",.ref a1,.ref a2],[]⟩) (λ_ R s=>SqO b1 s.heap a1 xs/\SqO b2 s.heap a2 ys /\
  ∀ h' z,(∃ TI TO i1 i2,[z,TI,TO,i1,i2].Nodup/\(∀ c∈[z,TI,TO,i1,i2],s.heap.objs.size<=c)/\IsZip h' z TI TO .none/\IsPair h' TI (.ref i1) (.ref i2)/\IsPair h' TO .none .none/\RIt b1 h' i1 a1 0/\RIt b2 h' i2 a2 0) ->
   (∀ c o,s.heap.get? c=some o->h'.get? c=some o)->R (.ok (.ret (.ref z))) { s with heap:=h' }) :=
 .of_wp λprog w A R s h=>by
  obtain⟨a,g,d,tk,os⟩:=s;obtain⟨j,i,h⟩:=h
  have sub:=sub_zip
  have f:SqO b1 (Shared.heap ⟨a,g,d,tk,os⟩) a1 xs:=j
  have b:SqO b2 (Shared.heap ⟨a.push { cls:=.type (cN b1),data:=.fields #[.ref a1,.int 0 0] },g,d,tk,os⟩) a2 ys:=i.mv λo e=>J8 _ e
  wp_walk using zcI f,zcI b
  refine⟨_,rfl,h _ _ ⟨_,_,_,_,?_,?_,Js _ rfl,J8 _ (J8 _ (Js _ rfl)),J8 _ (Js _ rfl),
   J8 _ (J8 _ (J8 _ (J8 _ (Js _ rfl)))),J8 _ (J8 _ (J8 _ (Js _ rfl)))⟩ λc o e=>?_⟩
  ·simp only[YW,JR,Jt,Jw,Za,Ws]
   simp<;>lia
  ·simp only[YW,Jt,Jw,Za]
   intro c k
   have:a.objs.size<=c:=by lia
   exact this
  ·exact J8 _ (J8 _ (J8 _ (J8 _ (J8 _ e))))
end Own
namespace L2
open PySem PySem.Spec PyProof.Rows Own
section
variable {X:Cx}{pins:List (Addr × Obj)}{σ:St}{H:Hp}{s:Shared}{h':Heap}
theorem Inv.spunN {fp:List Addr}{T:Addr}{o:HO}{t':Nat}(I:Inv X pins σ H s) (k:∀ b o,b∉fp->s.heap.get? b=some o->h'.get? b=some o) (g:∀ b∈fp,FpOk X pins H b) (h:s.heap.objs.size<=T)
  (new:ObjOk X.prog X.w (upd H T o) h' T o):Inv X pins σ (upd H T o) { s with heap:=h',toks:=t' }:=by
 have d:H T=none:=I.hok.fresh h
 have neT:∀ b u,s.heap.get? b=some u->b≠T:=λb u e=>JF (JJ (Jr e) h)
 have f:∀ b u,H b=some u->b∉fp:=λb u e hb=>by rw[(g b hb).1]at e;cases e
 refine I.step (g':=s.gens) (d':=s.drawn) (ch:=fp) (λb hb=>?_) (λb o _ _ a e _=>k b o a e) (λb o _ _ a e _=>⟨o.slots,k b o a e⟩) (λb o _ e n=>by rw[zah (neT b o e)];exact n)
  (λb o a e=>⟨o,k b o a e⟩) (λb xs e=>by rw[zah (zaf e d)];exact e) (λb o u e=>by rw[zah (zaf e d)];exact e) (λb ps e=>⟨#[],by rw[zah (zaf e d),e];simp⟩) (λm j=>?_) (λb u e=>?_) I.bare
 ·obtain⟨w,f1,f2,t,p,l⟩:=g b hb
  exact⟨t,f1,p,l⟩
 ·obtain⟨o,es,ep,i,r⟩:=j
  exact⟨o,es,ep,k _ o (λhb=>(g _ hb).2.1 rfl) i,r⟩
 ·by_cases hb:b=T
  ·subst hb;rw[zag]at e;cases e;exact new
  ·rw[zah hb]at e
   refine(I.hok b u e).stay (λc v a q=>k c v ?_ q) (λc q=>by rw[zah (zaf q d)];exact q) λc xs q=>by rw[zah (zaf q d)];exact q
   rcases a with z|z
   ·rw[z];exact f b u e
   ·exact f c _ z
theorem Inv.spun {fp:List Addr}{t':Nat}(I:Inv X pins σ H s) (k:∀ b o,b∉fp->s.heap.get? b=some o->h'.get? b=some o) (f:∀ b∈fp,FpOk X pins H b):Inv X pins σ H { s with heap:=h',toks:=t' }:=by
 have d:∀ b u,H b=some u->b∉fp:=λb u e hb=>by rw[(f b hb).1]at e;cases e
 refine I.step (g':=s.gens) (d':=s.drawn) (ch:=fp) (λb hb=>?_) (λb o _ _ a e _=>k b o a e) (λb o _ _ a e _=>⟨o.slots,k b o a e⟩) (λb o _ e n=>n)
  (λb o a e=>⟨o,k b o a e⟩) (λb xs e=>e) (λb o u e=>e) (λb ps e=>⟨#[],by rw[e];simp⟩) (λm h=>?_) (λb u e=>?_) I.bare
 ·obtain⟨p,f1,f2,l,j,i⟩:=f b hb
  exact⟨l,f1,j,i⟩
 ·obtain⟨o,es,ep,g,r⟩:=h
  exact⟨o,es,ep,k _ o (λhb=>(f _ hb).2.1 rfl) g,r⟩
 ·refine(I.hok b u e).stay (λc v a q=>k c v ?_ q) (λc q=>q) λc xs q=>q
  rcases a with z|z
  ·rw[z];exact d b u e
  ·exact d c _ z
end
def SqB:Bool->PySem.W.Frag->Hp->Addr->List V->Prop
 | true,K,H,a,xs=>SqL K H a xs
 | false,K,H,a,xs=>SqT K H a xs
section
variable {X:Cx}{pins:List (Addr × Obj)}{σ:St}{H:Hp}{s:Shared}{a c:Addr}{xs ys:List V}{b:Bool}
theorem Inv.sq (I:Inv X pins σ H s) (h:SqB b X.K H a xs):∃ its:List Value,Vals xs its/\SqO b s.heap a its.toArray:=by
 cases b
 ·obtain⟨its,r,p,z⟩:=I.tuple h
  exact⟨its,r,p⟩
 ·obtain⟨its,r,p,z⟩:=I.list h
  exact⟨its,r,p.isList⟩
theorem Inv.sq_inj (I:Inv X pins σ H s) (h:SqB b X.K H a xs) (h':SqB b X.K H a ys):xs=ys:=by
 cases b
 ·exact I.tuple_inj h h'
 ·exact I.list_inj h h'
theorem Inv.sq_ne (I:Inv X pins σ H s) (h:SqB b X.K H a xs) (f:FpOk X pins H c):c≠a:=by
 rintro rfl
 have d:∀ o,X.K.lookup c=some o->False:=λo e=>by
  have g:=I.ok.mod.kin c o e
  rcases f.2.2.2.1 with z|z
  ·exact I.ok.noex c o g z
  ·exact absurd (JJ (Jr g) (Y3 I.ok.bsz z)) (YG _)
 cases b <;>
 ·rcases h with (h|⟨o,h⟩)|⟨o,_,_,e,_⟩
  ·rw[f.1]at h;cases h
  ·rw[f.1]at h;cases h
  ·exact d o e
end
def Pr (v u:V) (H:Hp) (x:V) (H':Hp):Prop:=∃ T,H T=none/\x=.ref T/\H'=upd H T (.tup [v,u])
theorem zfp {P:Program}{w:World}{H:Hp}{h:Heap}{T:Addr}{v u:V}{a b:Value}(e:IsPair h T a b) (c:RelV v a) (d:RelV u b):ObjOk P w (upd H T (.tup [v,u])) h T (.tup [v,u]) :=
 ⟨show 2<=sizeLine by decide,[a,b],.cons c (.cons d .nil),⟨_,e,rfl,_,rfl,rfl⟩⟩
def Ite (K:PySem.W.Frag) (b:Bool) (a:Addr):It :=
 ⟨λi H=>∃ xs x,SqB b K H a xs/\xs[i]?=some x,λi H x H'=>∃ y,(∀ xs,SqB b K H a xs->xs[i]?=some y)/\Pr (.int i) y H x H',λi H=>∃ xs,SqB b K H a xs/\xs.length=i⟩
theorem zhp {P:Program}{w:World}{K:PySem.W.Frag}{es:List Expr}{k1} {p1:Pos}(b:Bool) (a e it:Addr) (g:e≠it):Turn P w K (.Tuple es k1 p1) (Ite K b a) [e,it] e (λi h=>(∃ old,IsEnum h e it i old)/\RIt b h it a i) where
 mem:=JH
 obj:=λi h ⟨⟨old,d⟩,hi⟩ c l=>by
  rcases Jt.mp l with q|q
  ·rw[q];exact⟨_,d,λv z=>by cases z⟩
  ·rw[Je.mp q];exact⟨_,hi,λv z=>by cases z⟩
 keep:=λi h h' ⟨⟨old,d⟩,hi⟩ F=>⟨⟨old,F e (by simp) _ d⟩,F it (by simp) _ hi⟩
 item:=by
  intro X t r y l i pins s σ H E I k ⟨⟨old,d⟩,hi⟩ ⟨xs,x,j,m⟩
  subst t r y
  obtain⟨its,n,p⟩:=I.sq j
  obtain⟨u,G,L⟩:=n.get m
  have B:i<its.toArray.size:=by simpa using (Jc.mp G).1
  refine wpAny_pyNext_enum_itemD (draws (prog:=X.prog) (w:=X.w) (A:=X.A.in1) (I.ok.hd l) b it a its.toArray (p.ne hi)) d ⟨hi,p⟩ B g (by simp[g,I.sq_ne j (k e (by simp))]) λv h1 tk Q S R U _ T=>?_
  obtain rfl:u=v:=Jn (G.symm.trans (by simpa using Q))
  refine⟨_,rfl,wpAny_letOwnedTupleGo_enum S λW C s2=>?_⟩
  have D:s.heap.objs.size≠e:=Z1 (Jr d)
  have M:s.heap.objs.size≠it:=Z1 (Jr hi)
  refine⟨.ref s.heap.objs.size,_,I.spunN (fp:=[e,it]) (λc o f q=>?_) k (Jg _) (zfp (v:=.int i) (u:=x) ((s2.2 _ D).trans U) ⟨tk,rfl⟩ L),rfl,⟨x,λys O=>by rw[I.sq_inj O j];exact m,_,I.fresh,rfl,rfl⟩,⟨⟨_,C⟩,(s2.2 it (Ne.symm g)).trans R.1⟩,λc f=>?_⟩
  ·have J:c≠e:=λz=>f (by simp[z])
   exact(s2.2 c J).trans (T c o J (λz=>f (by simp[z])) q)
  ·rw[zah,(k c f).1]
   rintro rfl
   rcases Jt.mp f with z|z
   ·exact D z
   ·exact M (Je.mp z)
 done:=by
  intro X t r y l i pins s σ H E I k ⟨⟨old,d⟩,hi⟩ ⟨xs,j,m⟩
  subst t r y
  obtain⟨its,n,p⟩:=I.sq j
  have N:i=its.toArray.size:=by rw[Jm,<- n.length,m]
  refine wpAny_pyNext_enum_endD (draws (prog:=X.prog) (w:=X.w) (A:=X.A.in1) (I.ok.hd l) b it a its.toArray (p.ne hi)) d ⟨by rw[<- N];exact hi,p⟩ λh' V=>⟨rfl,I.spun (t':=s.toks) (fp:=[e,it]) (λc o f q=>V c o (λz=>f (by simp[z])) q) k⟩
 self:=λ_ _ _ _ _ ⟨⟨_,d⟩,_⟩ h=>wpAny_pyIter_enum d h
def zny (K:PySem.W.Frag) (b:Bool) (ta:TA):TI:=λσ H R=>ta σ H λvs H1=>∃ a xs,vs=[.ref a]/\SqB b K H1 a xs/\R (Ite K b a) H1
theorem zlu {X:Cx}{a:Expr}{ta:TA}{p pos p1:Pos}{es:List Expr}{k1} (b:Bool) (t:Gl X "enumerate") (o:X.mg "enumerate" = none) (ha:PA X [a] ta) (m:starEach [a] X.env=[(false,eval a X.env)]:=by rfl) :
  PI X (.Tuple es k1 p1) (.Call (.Name "enumerate" p) [a] [] pos) (zny X.K b ta):=by
 intro pins s σ H R I h
 refine Call_ (zb0 I t o (u:=.type "enumerate") (by rfl) (Yj (thn (ha pos pins s σ H _ I h) λus s1 ⟨vs,H1,f,j,k⟩=>?_) m rfl))
 obtain⟨w,xs,rfl,n,q⟩:=k
 obtain⟨u,rfl,i⟩:=j.one
 cases i
 obtain⟨its,x,l⟩:=f.sq n
 refine zjh l λh' e it l1 l2 ne g hi r=>wpAny_pyIter_enum g ⟨_,[e,it],_,_,H1,rfl,f.kept (t':=s1.toks) r,zhp b w e it ne,⟨⟨_,g⟩,hi⟩,λc v=>?_,q⟩
 have d:s1.heap.objs.size<=c:=by
  rcases Jt.mp v with z|z
  ·rw[z];exact l1
  ·rw[Je.mp z];exact l2
 exact f.fpOk d (f.hok.fresh d)
def Itz (K:PySem.W.Frag) (b1 b2:Bool) (a1 a2:Addr):It :=
 ⟨λi H=>∃ xs ys x y,SqB b1 K H a1 xs/\SqB b2 K H a2 ys/\xs[i]?=some x/\ys[i]?=some y,λi H v H'=>∃ x y,(∀ xs,SqB b1 K H a1 xs->xs[i]?=some x)/\(∀ ys,SqB b2 K H a2 ys->ys[i]?=some y)/\Pr x y H v H',
  λi H=>∃ xs,SqB b1 K H a1 xs/\xs.length=i⟩
theorem zbC {P:Program}{w:World}{K:PySem.W.Frag}{es:List Expr}{k1} {p1:Pos}(b1 b2:Bool) (a1 a2 z TI TO i1 i2:Addr) (nd:[z,TI,TO,i1,i2].Nodup) :
  Turn P w K (.Tuple es k1 p1) (Itz K b1 b2 a1 a2) [z,TI,TO,i1,i2] z (λi h=>IsZip h z TI TO .none/\IsPair h TI (.ref i1) (.ref i2)/\(∃ a b,IsPair h TO a b)/\RIt b1 h i1 a1 i/\RIt b2 h i2 a2 i) where
 mem:=JH
 obj:=λi h ⟨f,m,⟨a,b,r⟩,h1,n⟩ c C=>by
  simp only[Jt,Jw,Za]at C
  rcases C with rfl|rfl|rfl|rfl|rfl
  ·exact⟨_,f,λv q=>by cases q⟩
  ·exact⟨_,m,λv q=>by cases q⟩
  ·exact⟨_,r,λv q=>by cases q⟩
  ·exact⟨_,h1,λv q=>by cases q⟩
  ·exact⟨_,n,λv q=>by cases q⟩
 keep:=λi h h' ⟨f,m,⟨a,b,r⟩,h1,n⟩ D=>⟨D z (by simp) _ f,D TI (by simp) _ m,⟨a,b,D TO (by simp) _ r⟩,D i1 (by simp) _ h1,D i2 (by simp) _ n⟩
 item:=by
  intro X U Q V C i pins s σ H E I p ⟨f,m,⟨a,b,r⟩,h1,n⟩ ⟨xs,ys,x,y,B,O,J,hy⟩
  subst U Q V
  obtain⟨G,N,p1⟩:=I.sq B
  obtain⟨u2,r2,p2⟩:=I.sq O
  obtain⟨v1,e1,rx⟩:=N.get J
  obtain⟨v2,e2,ry⟩:=r2.get hy
  have j:=nd
  simp only[JR,Jt,Jw,Za,Ws]at j
  obtain⟨⟨M,zO,z1,z2⟩,⟨IO,I1,I2⟩,⟨Y,W⟩,k,_⟩:=j
  have e:∀ c∈[z,TI,TO,i1,i2],c≠a1:=λc d=>I.sq_ne B (p c d)
  have t:∀ c∈[z,TI,TO,i1,i2],c≠a2:=λc d=>I.sq_ne O (p c d)
  have S:Sep z TI TO i1 i2 [i1,a1] [i2,a2]:=⟨nd,by simp[z1,e z (by simp)],by simp[Y,e TO (by simp)],by simp[Ne.symm k,e i2 (by simp)],by simp[z2,t z (by simp)],by simp[W,t TO (by simp)],by simp[k,t i1 (by simp)]⟩
  have hd:=I.ok.hd C
  have D1:=draws (prog:=X.prog) (w:=X.w) (A:=X.A.in1) hd b1 i1 a1 G.toArray (p1.ne h1)
  have D2:=draws (prog:=X.prog) (w:=X.w) (A:=X.A.in1) hd b2 i2 a2 u2.toArray (p2.ne n)
  have g:s.TypeIs (.ref z) "zip":=⟨_,f,rfl⟩
  unfold pyNext
  refine J0 (ZE (wpAny_callSpecial?_slot (name:="__next__") g Wa (Y4 Wa g F.entry_zip_next (zjq S D1 D2 f m r ⟨h1,p1⟩ ⟨n,p2⟩ (by simpa using (Jc.mp e1).1) (by simpa using (Jc.mp e2).1)
   λw1 w2 h' tk aa Z zh Oh d1 d2 new L=>J9 ?_) (F.args_zip_next_1 _))))
  obtain rfl:v1=w1:=Jn (e1.symm.trans (by simpa using aa))
  obtain rfl:v2=w2:=Jn (e2.symm.trans (by simpa using Z))
  refine⟨_,rfl,wpAny_letOwnedTupleGo_zip zh λh3 z3 u=>?_⟩
  have nz:s.heap.objs.size≠z:=Z1 (Jr f)
  have ab:∀ c∈[z,TI,TO,i1,i2],c≠s.heap.objs.size:=λc d=>by
   simp only[Jt,Za,Jw]at d
   rcases d with rfl|rfl|rfl|rfl|rfl
   ·exact JF (Jr f)
   ·exact JF (Jr m)
   ·exact JF (Jr r)
   ·exact JF (Jr h1)
   ·exact JF (Jr n)
  refine⟨.ref s.heap.objs.size,_,I.spunN (fp:=[z,TI,TO,i1,i2]) (λc o d q=>?_) p (Jg _) (zfp ((u.2 _ nz).trans new) rx ry),rfl,⟨x,y,λl R=>by rw[I.sq_inj R B];exact J,λl R=>by rw[I.sq_inj R O];exact hy,_,I.fresh,rfl,rfl⟩,
   ⟨z3,(u.2 _ (Ne.symm M)).trans (L TI _ (by simp[Ne.symm M,IO,I1,I2]) m),⟨_,_,(u.2 _ (Ne.symm zO)).trans Oh⟩,(u.2 _ (Ne.symm z1)).trans d1.1,(u.2 _ (Ne.symm z2)).trans d2.1⟩,λc d=>by rw[zah (ab c d),(p c d).1]⟩
  simp only[Jt,Jw,Za,Ws]at d
  exact(u.2 c d.1).trans (L c o (by simp[d]) q)
 done:=by
  intro X U Q V C i pins s σ H E I p ⟨f,m,⟨a,b,r⟩,h1,n⟩ ⟨xs,B,J⟩
  subst U Q V
  obtain⟨G,N,p1⟩:=I.sq B
  have j:=nd
  simp only[JR,Jt,Jw,Za,Ws]at j
  obtain⟨⟨M,zO,z1,z2⟩,⟨IO,I1,I2⟩,⟨Y,W⟩,k,_⟩:=j
  have e:∀ c∈[z,TI,TO,i1,i2],c≠a1:=λc d=>I.sq_ne B (p c d)
  have S:Sep z TI TO i1 i2 [i1,a1] [i2]:=⟨nd,by simp[z1,e z (by simp)],by simp[Y,e TO (by simp)],by simp[Ne.symm k,e i2 (by simp)],by simp[z2],by simp[W],by simp[k]⟩
  have hsz:i=G.toArray.size:=by rw[Jm,<- N.length,J]
  have g:s.TypeIs (.ref z) "zip":=⟨_,f,rfl⟩
  unfold pyNext
  refine J0 (ZE (wpAny_callSpecial?_slot (name:="__next__") g Wa (Y4 Wa g F.entry_zip_next
   (zjp S (draws (prog:=X.prog) (w:=X.w) (A:=X.A.in1) (I.ok.hd C) b1 i1 a1 G.toArray (p1.ne h1)) f m ⟨by rw[<- hsz];exact h1,p1⟩ λh' x L ⟨o,eo,co⟩=>?_) (F.args_zip_next_1 _))))
  refine J0 (Zu (T:="StopIteration") (b:=true) ⟨o,eo,co⟩ isSubtype_stop (J9 ⟨rfl,I.spun (t':=s.toks) (fp:=[z,TI,TO,i1,i2]) (λc o d q=>L c o ?_ q) p⟩))
  simp only[Jt,Jw,Za,Ws]at d ⊢
  exact⟨d.1,d.2.2.1,d.2.2.2.1,d.2.2.2.2⟩
 self:=λ_ _ _ _ _ st h=>wpAny_pyIter_zip st.1 h
def iZip (K:PySem.W.Frag) (b1 b2:Bool) (ta:TA):TI:=λσ H R=>ta σ H λvs H1=>∃ a1 a2 xs ys,vs=[.ref a1,.ref a2]/\SqB b1 K H1 a1 xs/\SqB b2 K H1 a2 ys/\R (Itz K b1 b2 a1 a2) H1
theorem zkN {X:Cx}{a b:Expr}{ta:TA}{p pos p1:Pos}{es:List Expr}{k1} (b1 b2:Bool) (B:Gl X "zip") (y:X.mg "zip" = none) (ha:PA X [a,b] ta) (x:starEach [a,b] X.env=[(false,eval a X.env),(false,eval b X.env)]:=by rfl) (e:starEach [b] X.env=[(false,eval b X.env)]:=by rfl) :
  PI X (.Tuple es k1 p1) (.Call (.Name "zip" p) [a,b] [] pos) (iZip X.K b1 b2 ta):=by
 intro pins s σ H R I h
 refine Call_ (zb0 I B y (u:=.type "zip") (by rfl) (Yj (thn (ha pos pins s σ H _ I h) λus s1 ⟨vs,H1,d,t,w⟩=>?_) (by rw[x,e]) (by rw[e];rfl)))
 obtain⟨a1,a2,xs,ys,rfl,m,l,q⟩:=w
 obtain⟨u,v,rfl,r,o⟩:=t.two
 cases r
 cases o
 obtain⟨its,_,j⟩:=d.sq m
 obtain⟨k,_,i⟩:=d.sq l
 refine callType_new F.called_zip (by decide) (F.typeCall_zip_2 _ _) (F.newCall_zip_2 _ _) (λobj=>F.args_object_init_3 obj _ _) F.entry_zip_new (zhg b1 b2 a1 a2 its.toArray k.toArray) ⟨j,i,λh' z ⟨TI,TO,i1,i2,nd,f,g,D,C,h1,E⟩ A=>⟨⟨_,g,rfl⟩,?_⟩⟩
 exact wpAny_pyIter_zip g ⟨_,[z,TI,TO,i1,i2],_,_,H1,rfl,d.kept (t':=s1.toks) A,zbC b1 b2 a1 a2 z TI TO i1 i2 nd,⟨g,D,⟨_,_,C⟩,h1,E⟩,λc n=>d.fpOk (f c n) (d.hok.fresh (f c n)),q⟩
section
variable {X:Cx}
theorem zmc {prog:Program}{w:World}{A:Around}(d:A.handled=none) (b:Bool) (I a:Addr) (c:a≠I) (xs:Array Value) :
  Walks prog w A I [I,a] [I] xs.size (λi v=>xs[i]?=some v) (λi h=>(match b with|true=>h.IsListIter I a i|false=>h.IsTupleIter I a i)/\SqO b h a xs):=by
 cases b
 ·exact Walks.tuple d I a c xs
 ·exact Walks.list d I a c xs
theorem zji (D:X.calm=true) (b:Bool):CallR X (.builtin "all") (λvs H Q=>∃ a bs,vs=[.ref a]/\SqB b X.K H a (List.map V.bl bs)/\Q (.bl (bs.all id)) H):=by
 intro pins s σ H vs us Q I t h
 obtain⟨a,bs,rfl,A,q⟩:=h
 obtain⟨u,rfl,k⟩:=t.one
 cases k
 obtain⟨its,r,p⟩:=I.sq A
 have l:a≠s.heap.objs.size:=by
  obtain⟨o,n,e,_⟩:=p.ob
  exact JF (Jr e)
 have B:its.length=bs.length:=by rw[<- r.length,Jq]
 refine call_all_walk (zcI p ⟨s.heap.objs.size,[s.heap.objs.size,a],[s.heap.objs.size],_,_,_,λi=>bs.getD i true,rfl,zmc (show X.A.in1.handled=none from I.ok.hd D) b _ a l its.toArray,?_,?_,?_⟩)
 ·refine⟨?_,p.mv λo e=>J8 _ e⟩
  cases b<;>exact⟨_,Js _ rfl,rfl,rfl⟩
 ·intro i v s' G J y E
  have f:its[i]?=some v:=by simpa using y
  have hi:=(Jc.mp f).1
  have e:(List.map V.bl bs)[i]?=some (V.bl (bs.getD i true)):=by
   rw[JK,Ja,J7 (by lia)]
   rfl
  obtain⟨F,m,k⟩:=r.get e
  rw[f]at m
  obtain rfl:=Jn m
  obtain rfl:v=Value.bool (bs.getD i true):=k
  exact Z0 E
 ·intro h' tk C
  refine⟨.bl (bs.all id),H,I.kept (t':=tk) λc o e=>C c o ?_ (J8 _ e),?_,q⟩
  ·exact λz=>JF (Jr e) (Je.mp z)
  ·show Value.bool _=Value.bool _
   congr 1
   rw[Jm,B,Ys,Zb,Zb]
   constructor
   ·intro h x w
    obtain⟨j,g,e⟩:=List.getElem_of_mem w
    have d:=h j (Yx.mpr g)
    rw[Ja,J7 g]at d
    rw[<- e];exact d
   ·intro h j g
    rw[Ja,J7 (Yx.mp g)]
    exact h _ (Y5 _)
end
example (K:PySem.W.Frag):PySem.W.kitOne K (.type "int") (.type "tuple")=some false:=by rfl
example (K:PySem.W.Frag):PySem.W.kitOne K (.type "int") (.type "bool")=some false:=by first|rfl|decide|(with_unfolding_all rfl)
theorem zab {H:Hp}{p:Addr}(h:H p=none) (o:HO):Same H (upd H p o):=λb u q=>by rw[zah (zaf q h)];exact q
def capB (N N':List Str) (sc scope:Scope) (cap:List (Option Nat)):Bool :=
 decide (scope.kind=.function) && (scope.names.all λy=>decide (y.2≠.cell) && (decide (y.2≠.local) || decide (scope.names.lookup y.1=some .local)) &&
  (decide (y.2≠.free) || (decide (sc.names.lookup y.1=some .cell) || decide (sc.names.lookup y.1=some .free)))) && decide (cap.length=N'.length) &&
 ((N'.zip cap).all λp=>match p.2 with
  | none=>true
  | some i=>decide (N[i]?=some p.1) && (decide (scope.names.lookup p.1=some .free) && (decide (sc.names.lookup p.1=some .cell) || decide (sc.names.lookup p.1=some .free))))
theorem CapOk.of {N N':List Str}{sc scope:Scope}{cap:List (Option Nat)}(h:capB N N' sc scope cap=true):CapOk N N' sc scope cap:=by
 unfold capB at h
 simp only[YN,Zb,Wb,Y0]at h
 obtain⟨⟨⟨h1,b⟩,f⟩,d⟩:=h;refine⟨h1,λy a=>(b y a).1.1,λy a e=>?_,λy a e=>?_,f,λp c i e=>?_⟩
 ·rcases (b y a).1.2 with z|z
  ·exact absurd e z
  ·exact z
 ·rcases (b y a).2 with z|z
  ·exact absurd e z
  ·exact z
 ·have q:=d p c
  rw[e]at q
  simp only[YN,Wb,Y0]at q
  exact q
def Nx (n i:Nat) (p:Prop):Prop:=∃ a,a<n-i/\a=n-(i+1)/\i+1<=n/\p
theorem nx {n i:Nat}{p:Prop}(h:i<n) (q:p):Nx n i p:=⟨n-(i+1),by lia,rfl,h,q⟩
theorem zke {lo:Int}{n:Nat}{g:TG}{te:TE}{l:Addr}{σ:St}{H:Hp}{Q:VK}(a:Nat->List V->St->Hp->Prop) (j:a 0 [] σ H) (h:∀ i acc σ H,a i acc σ H->H l=some (.lst acc))
  (f:∀ i acc σ H,i<n->a i acc σ H->g (.int (lo+i)) σ H λb k=>te b k λy d=>d l=some (.lst acc)/\acc.length<sizeLine/\Nx n i (a (i+1) (acc++[y]) b (upd d l (.lst (acc++[y])))))
  (hd:∀ acc σ H,a n acc σ H->Q (.ref l) H):∃ W:Nat->Nat->List V->St->Hp->Prop,(∃ m,W 0 m [] σ H)/\LCW (Itr lo n) g tYes te l Q W:=by
 refine⟨λi m acc σ H=>m=n-i/\i<=n/\a i acc σ H,⟨n,by simp,JN _,j⟩,?_⟩
 rintro i m acc σ H ⟨rfl,hi,p⟩
 refine⟨h i acc σ H p,?_⟩
 by_cases c:i<n
 ·refine .inr ⟨c,λx o ⟨e,y⟩=>?_⟩
  subst e y
  exact f i acc σ _ c p
 ·have e:i=n:=by lia
  subst e
  exact .inl ⟨Jg _,hd acc σ H p⟩
theorem zkq {K:PySem.W.Frag}{b:Bool}{a:Addr}{xs:List V}{g:TG}{tb:TS}{D:Ends}{σ:St}{H:Hp}(c:Nat->St->Hp->Prop) (s:c 0 σ H) (o:∀ i σ H,i<=xs.length->c i σ H->SqB b K H a xs)
  (n:∀ i x σ H T,xs[i]?=some x->H T=none->c i σ H->g (.ref T) σ (upd H T (.tup [.int i,x])) λd j=>tb { D with nx:=c (i+1),ct:=c (i+1),bk:=D.nx } d j) (hd:∀ σ H,c xs.length σ H->D.nx σ H) :
  ∃ W:Nat->Nat->St->Hp->Prop,(∃ m,W 0 m σ H)/\∀ i m σ H,W i m σ H ->
   ((Ite K b a).stop i H/\D.nx σ H)\/((Ite K b a).go i H/\∃ N:St->Hp->Prop,(∀ f H',N f H'->∃ k,k<m/\W (i+1) k f H')/\∀ x H',(Ite K b a).yld i H x H'->g x σ H' λd j=>tb { D with nx:=N,ct:=N,bk:=D.nx } d j):=by
 refine⟨λi m σ H=>m=xs.length-i/\i<=xs.length/\c i σ H,⟨xs.length,by simp,JN _,s⟩,?_⟩
 rintro i m σ H ⟨rfl,hi,p⟩
 have q:=o i σ H hi p
 by_cases h:i<xs.length
 ·refine .inr ⟨⟨xs,xs[i],q,J7 h⟩,c (i+1),λf H' l=>⟨xs.length-(i+1),by lia,rfl,h,l⟩,λx H' ⟨y,t,T,r,u,e2⟩=>?_⟩
  subst u e2
  exact n i y σ H T (t xs q) r p
 ·have e:i=xs.length:=by lia
  subst e
  exact .inl ⟨⟨xs,q,rfl⟩,hd σ H p⟩
section
theorem zgt {ns:List Int}{i:Nat}(h:i<ns.length):ns.getD i 0∈ns:=by
 rw[Ja,J7 h];exact Y5 h
end
end L2
namespace L2
open PySem PySem.Spec PyProof.Rows Own
theorem zgq {K:PySem.W.Frag}{a:Addr}{xs:List V}{g:TG}{te:TE}{l:Addr}{σ:St}{H:Hp}{Q:VK}(b:Nat->List V->St->Hp->Prop) (o:b 0 [] σ H) (n:∀ i acc σ H,b i acc σ H->H l=some (.lst acc)/\SqT K H a xs)
  (k:∀ i x acc σ H,xs[i]?=some x->b i acc σ H->g x σ H λc q=>te c q λy h=>h l=some (.lst acc)/\acc.length<sizeLine/\Nx xs.length i (b (i+1) (acc++[y]) c (upd h l (.lst (acc++[y])))))
  (hd:∀ acc σ H,b xs.length acc σ H->Q (.ref l) H):∃ W:Nat->Nat->List V->St->Hp->Prop,(∃ m,W 0 m [] σ H)/\LCW (Itt K a) g tYes te l Q W:=by
 refine⟨λi m acc σ H=>m=xs.length-i/\i<=xs.length/\b i acc σ H,⟨_,rfl,JN _,o⟩,?_⟩
 rintro i m acc σ H ⟨rfl,hi,p⟩
 obtain⟨j,d⟩:=n i acc σ H p
 refine⟨j,?_⟩
 by_cases f:i<xs.length
 ·refine .inr ⟨⟨xs,xs[i],d,J7 f⟩,λx r ⟨e,y⟩=>?_⟩
  subst e
  exact k i x acc σ _ (y xs d) p
 ·obtain rfl:i=xs.length:=by lia
  exact .inl ⟨⟨xs,d,Jg _⟩,hd acc σ H p⟩
theorem ziC {lo:Int}{n:Nat}{g:TG}{tt:TT}{te:TE}{l:Addr}{σ:St}{H:Hp}{Q:VK}(c:Nat->List V->St->Hp->Prop) (o:c 0 [] σ H) (k:∀ i acc σ H,c i acc σ H->H l=some (.lst acc))
  (j:∀ i acc σ H,i<n->c i acc σ H->g (.int (lo+i)) σ H λa q=>tt a q λb h=>if b=true then te a h λy f=>f l=some (.lst acc)/\acc.length<sizeLine/\Nx n i (c (i+1) (acc++[y]) a (upd f l (.lst (acc++[y])))) else Nx n i (c (i+1) acc a h))
  (hd:∀ acc σ H,c n acc σ H->Q (.ref l) H):∃ W:Nat->Nat->List V->St->Hp->Prop,(∃ m,W 0 m [] σ H)/\LCW (Itr lo n) g tt te l Q W:=by
 refine⟨λi m acc σ H=>m=n-i/\i<=n/\c i acc σ H,⟨_,rfl,JN _,o⟩,?_⟩
 rintro i m acc σ H ⟨rfl,hi,p⟩
 refine⟨k i acc σ H p,?_⟩
 by_cases d:i<n
 ·refine .inr ⟨d,λx r ⟨e,y⟩=>?_⟩
  subst e y
  exact j i acc σ _ d p
 ·obtain rfl:i=n:=by lia
  exact .inl ⟨Jg _,hd acc σ H p⟩
end L2
namespace L2
open PySem PySem.Spec PyProof.Rows Own
section
variable {prog:Program}{w:World}{A:Around}{E:Value->Shared->Prop}{s:Shared}
theorem zfO {Q:List Value->Shared->Prop}{r:Addr}{a b c:Int}{t u v:Tok}{n:Nat}(x:A.handled=none) (l:IsRange s.heap r a b c t u v) (k:Builtin.Range.small a b c=true) (p:Builtin.Range.rangeSize a b c=n) (hlen:n<=2 ^ 24)
  (q:∀ (h':Heap) (tk:Nat) (acc:Array Value),(∀ b o,s.heap.get? b=some o->h'.get? b=some o)->ItemsOf (λi v=>∃ t,v=.int (a+i*c) t) acc n->Q acc.toList { s with heap:=h',toks:=tk }):wpAny (model prog w) A (collect (.ref r)) Q E s:=by
 have key:∀ R:Result->Shared->Prop,(∀ (h':Heap) (tk:Nat) (acc:Array Value) (f:Nat),(∀ b o,s.heap.get? b=some o->h'.get? b=some o)->h'.get? s.heap.objs.size=some { cls:=.type "list",data:=.seq acc f }->ItemsOf (λi v=>∃ t,v=.int (a+i*c) t) acc n->R (.ok (.ret (.ref s.heap.objs.size))) { s with heap:=h',toks:=tk }) ->
   codeAny (model prog w) A (.builtin "proto.collect" ⟨[.ref r],[]⟩) R s:=by
  intro R y
  have j:=λz=>Zr (A:=A) F.plain_proto_collect z
  have h:=λz=>Zr (A:=A) F.plain_list_iadd z
  refine ZG F.entry_proto_collect ?_
  rw[j]
  refine J0 (m:=newList []) (JM (J9 ⟨W5 F.plain_list_iadd _,ZG F.entry_list_iadd ?_⟩))
  rw[h]
  have B:(s.heap.push { cls:=.type "list",data:=.seq ([]:List Value).toArray }).get? s.heap.objs.size=some { cls:=.type "list",data:=.seq #[] 0 }:=Js _ rfl
  exact wpAny_extend_range (s:={ s with heap:=s.heap.push { cls:=.type "list",data:=.seq ([]:List Value).toArray } }) x (J8 _ l) k p hlen s.heap.objs.size (.ref s.heap.objs.size) _ B λh' tk d f g e it=>y h' tk d f (λb o z=>g b o (JF (Jr z)) (J8 _ z)) e it
 unfold collect
 exact J0 (wpAny_runValue (key _ λh' tk acc f g e it=>J0 (m:=load s.heap.objs.size) (wpAny_load e (J9 (q h' tk acc g it)))))
theorem zd4 (r:Addr) (a b c:Int) (t u v:Tok) (n:Nat) (e:Builtin.Range.small a b c=true) (g:Builtin.Range.rangeSize a b c=n) (hlen:n<=2 ^ 24) :
  Meets (Builtin.«tuple.__new__» ⟨[.type "tuple",.ref r],[]⟩) (λA R s=>A.handled=none/\IsRange s.heap r a b c t u v/\∀ (h':Heap) (tk:Nat) (acc:Array Value),(∀ b o,s.heap.get? b=some o->h'.get? b=some o)->ItemsOf (λi v=>∃ t,v=.int (a+i*c) t) acc n ->
   R (.ok (.ret (.ref h'.objs.size))) { s with heap:=h'.push { cls:=.type "tuple",data:=.seq acc },toks:=tk }) :=
 .of_wp λprog w A R s h=>by
  obtain⟨j,d,h⟩:=h
  have x:=sub_tuple_self
  have q:=init_tuple_lookup
  have p:=madeHere_tuple
  have l:s.TypeIs (.ref r) "range":=⟨_,d,rfl⟩
  have k:A.in1.handled=none:=j
  wp_walk using Zg l,zfO k d e g hlen
  intro h' tk acc f it
  rw[show acc.toList.toArray=acc by simp]
  exact J0 (m:=Builtin.Tuple.tupleExact acc) (JM (J9 ⟨_,rfl,h h' tk acc f it⟩) (by show acc.size<=sizeLine;rw[it.1,JC];exact hlen))
theorem zeX {Q:Value->Shared->Prop}{r:Addr}{a b c:Int}{t u v:Tok}{n:Nat}(h:A.handled=none) (f:IsRange s.heap r a b c t u v) (d:Builtin.Range.small a b c=true) (g:Builtin.Range.rangeSize a b c=n) (hlen:n<=2 ^ 24)
  (q:∀ (h':Heap) (tk:Nat) (acc:Array Value),(∀ b o,s.heap.get? b=some o->h'.get? b=some o)->ItemsOf (λi v=>∃ t,v=.int (a+i*c) t) acc n->Q (.ref h'.objs.size) { s with heap:=h'.push { cls:=.type "tuple",data:=.seq acc },toks:=tk }) :
  wpAny (model prog w) A (call (.type "tuple") [.ref r]) Q E s :=
 callType_new F.called_tuple (by decide) (F.typeCall_tuple_1 _) (F.newCall_tuple_1 _) (λobj=>F.args_object_init_2 obj _) F.entry_tuple_new (zd4 r a b c t u v n d g hlen) ⟨h,f,λh' tk acc e it=>⟨⟨_,Js _ rfl,rfl⟩,q h' tk acc e it⟩⟩
end
def upTo (n:Nat):List V:=(List.range n).map λ(i:Nat)=>V.int i
theorem zb7 {acc:Array Value}{n:Nat}(h:ItemsOf (λi v=>∃ t,v=Value.int (0+i*1) t) acc n):Vals (upTo n) acc.toList:=by
 obtain⟨h1,c⟩:=h
 have go:∀ (l:List Value) (k:Nat),(∀ (j:Nat) (v:Value),l[j]?=some v->∃ t,v=Value.int ((k+j:Nat):Int) t)->Vals ((List.range l.length).map λ(i:Nat)=>V.int ((k+i:Nat):Int)) l:=by
  intro l
  induction l with
  | nil=>intro k _;exact .nil
  | cons x l ih =>
   intro k b
   rw[JL,List.range_succ_eq_map,JZ,Zv]
   refine .cons (by obtain⟨t,e⟩:=b 0 x rfl;exact⟨t,e⟩) ?_
   have:=ih (k+1) λj v a=>by
    obtain⟨t,e⟩:=b (j+1) v (by simpa using a)
    exact⟨t,by rw[e];congr 1;lia⟩
   refine cast (JX (λz=>Vals z l) (We λi _=>?_)) this
   show V.int ((k+1+i:Nat):Int)=V.int ((k+(i+1):Nat):Int)
   congr 2;lia
 have:=go acc.toList 0 λj v a=>by
  obtain⟨t,e⟩:=c j v (by simpa using a)
  exact⟨t,by rw[e];congr 1;lia⟩
 rw[JA,h1]at this
 unfold upTo
 refine cast (JX (λz=>Vals z acc.toList) (We λi _=>?_)) this
 show V.int ((0+i:Nat):Int)=V.int (i:Int)
 rw[Yu]
theorem zfZ (n:Nat):(upTo n).length=n:=by simp[upTo]
section
variable {X:Cx}
def zkI (b:Bool) (ta:TA):TE:=λσ H Q=>ta σ H λvs H1=>∃ j:Nat,vs=[.int j]/\j<=100000/\∀ l,H1 l=none->Q (.ref l) (upd H1 l (if b=true then .lst (upTo j) else .tup (upTo j)))
theorem zf4 {j:Nat}(h:j<=100000):Builtin.Range.small 0 (j:Int) 1=true:=small_one (by lia) (by lia) (by lia) (by lia)
theorem zhE {j:Nat}:Builtin.Range.rangeSize 0 (j:Int) 1=((j:Nat):Int):=by rw[rangeSize_one];split<;>lia
theorem zeA {a:Expr}{ta:TA}{p p2 pos c:Pos}(B:X.calm=true) (r:Gl X "list") (l:X.mg "list" = none) (m:Gl X "range") (k:X.mg "range" = none) (ha:PA X [a] ta) (A:starEach [a] X.env=[(false,eval a X.env)]:=by rfl)
  (d:starEach [.Call (.Name "range" p2) [a] [] c] X.env=[(false,eval (.Call (.Name "range" p2) [a] [] c) X.env)]:=by rfl):PE X (.Call (.Name "list" p) [.Call (.Name "range" p2) [a] [] c] [] pos) (zkI true ta):=by
 intro pins s σ H Q I h
 refine Zf (zb0 I r l (u:=.type "list") (by rfl) (Yj ?_ d rfl))
 rw[d]
 refine ZM (Call_ (zb0 I m k boot_range (Yj (thn (ha c pins s σ H _ I h) λus s1 ⟨vs,H1,i,v,w⟩=>?_) A rfl)))
 obtain⟨j,rfl,g,q⟩:=w
 obtain⟨u,rfl,t,rfl⟩:=v.one
 refine call_range_1 (Wp ?_)
 refine call_list_range (n:=j) (i.ok.hd B) (IsRange.new ..) (zf4 g) zhE (Y3 g (by decide)) λh' tk f C x e it=>?_
 have y:∀ b o,s1.heap.get? b=some o->h'.get? b=some o:=λb o z=>x b o (J8 _ z)
 refine⟨.ref _,_,i.laid (t':=tk) (o:=.lst (upTo j)) y ?_ ⟨by rw[zfZ];exact Y3 g (by decide),f.toList,C,zb7 it,by simpa using e⟩,rfl,q _ (i.hok.fresh ?_)⟩
 all_goals (show s1.heap.objs.size<=(s1.heap.push _).objs.size;rw[YW];exact Nat.le_succ _)
theorem zc7 {a:Expr}{ta:TA}{p p2 pos c:Pos}(B:X.calm=true) (l:Gl X "tuple") (i:X.mg "tuple" = none) (k:Gl X "range") (g:X.mg "range" = none) (ha:PA X [a] ta) (A:starEach [a] X.env=[(false,eval a X.env)]:=by rfl)
  (d:starEach [.Call (.Name "range" p2) [a] [] c] X.env=[(false,eval (.Call (.Name "range" p2) [a] [] c) X.env)]:=by rfl):PE X (.Call (.Name "tuple" p) [.Call (.Name "range" p2) [a] [] c] [] pos) (zkI false ta):=by
 intro pins s σ H Q I h
 refine Zf (zb0 I l i (u:=.type "tuple") (by rfl) (Yj ?_ d rfl))
 rw[d]
 refine ZM (Call_ (zb0 I k g boot_range (Yj (thn (ha c pins s σ H _ I h) λus s1 ⟨vs,H1,r,v,w⟩=>?_) A rfl)))
 obtain⟨j,rfl,f,q⟩:=w
 obtain⟨u,rfl,t,rfl⟩:=v.one
 refine call_range_1 (Wp ?_)
 refine zeX (n:=j) (r.ok.hd B) (IsRange.new ..) (zf4 f) zhE (Y3 f (by decide)) λh' tk acc x it=>?_
 have y:∀ b o,s1.heap.get? b=some o->h'.get? b=some o:=λb o z=>x b o (J8 _ z)
 have m:Inv X pins σ H1 { s1 with heap:=h',toks:=tk }:=r.kept y
 refine⟨.ref h'.objs.size,_,m.laid (t':=tk) (o:=.tup (upTo j)) (λb o e=>J8 _ e) (Jg _) ⟨by rw[zfZ];exact Y3 f (by decide),acc.toList,zb7 it,?_⟩,rfl,q _ (m.hok.fresh (Jg _))⟩
 exact⟨_,Js _ rfl,rfl,0,by simp,rfl⟩
theorem zkO (d:X.A.units<cLine):OpR X (compareOp .NotEq) (λx y H Q=>∃ a b xs,x=.ref a/\y=.ref b/\SqL X.K H a xs/\SqL X.K H b []/\Q (.bl (!xs.isEmpty)) H):=by
 intro pins s σ H x y v u Q I g f h
 obtain⟨a,b,xs,rfl,rfl,ha,hb,q⟩:=h
 cases g;cases f
 obtain⟨its,c,p1,_⟩:=I.list ha
 obtain⟨k,i,p2,_⟩:=I.list hb
 cases i
 have l1:=c.length
 cases xs with
 | nil =>
  cases c
  exact SeqAt.RcNeAt.lists (e:=λ_=>true) p1.isList p2.isList rfl d (λj h=>absurd h (Nat.not_lt_zero _)) X.prog X.w _ _ ⟨.bl _,H,I,rfl,q⟩
 | cons z zs =>
  exact SeqAt.RcNeAt.lists_lengths p1.isList p2.isList (by rw[Jm,<- l1];simp) d X.prog X.w _ _ ⟨.bl _,H,I,rfl,q⟩
end
theorem zg2 (l:Addr) (o:Obj) (items:Array Value) (n:Nat) (x:Value) (j:Nat) (z:o.cls=.type "tuple") (hd:o.data=.seq items n) (e:Nat->Bool) (r:∀ i,i<j->e i=false) (h1:e j=true) (y:j<items.size) :
  Meets (Builtin.«tuple.index» ⟨[.ref l,x],[]⟩) (λA R s=>s.heap.get? l=some o/\(∀ i (h:i<items.size),SeqAt.EqAt A.in1 s items[i] x (e i))/\R (.ok (.ret (.int j s.toks))) { s with toks:=s.toks+1 }) :=
 .of_wp λprog w A R s h=>by
  cases s with
  | mk g t v tk os =>
  obtain⟨k,p,h⟩:=h
  unfold Builtin.«tuple.index»
  simp only[Std.Legacy.Range.forIn_eq_forIn_range']
  wp_walk using Yf k hd,wpAny_forIn_list _ (λrest b s'=>s'=⟨g,t,v,tk,os⟩/\b.1=none/\∃ i,i<=j/\rest=List.range' i (items.size-i)) _
  case turn =>
   rintro i rest b s' ⟨rfl,hb,c,hi,a⟩
   have f:items.size-c=(items.size-(c+1))+1:=by lia
   rw[f,List.range'_succ]at a
   injection a with u e2
   subst u
   have d:i<items.size:=by lia
   have m:items[i]?=some items[i]:=by simp[d]
   simp only[m]
   refine J0 (p i d prog w _ _ ?_)
   by_cases q:i=j
   ·subst q;rw[h1];wp_walk;exact⟨_,rfl,h⟩
   ·rw[r i (by lia)];wp_walk;exact⟨rfl,rfl,i+1,by lia,e2⟩
  case fin =>
   rintro b s' ⟨rfl,hb,c,hi,a⟩
   have:=JX List.length a
   simp at this
   lia
  case h=>exact⟨rfl,rfl,0,JN _,by simp[Std.Legacy.Range.size]⟩
section
variable {X:Cx}
theorem zdD:∀ {ns:List Int}{k:Int}{i:Nat},i<ns.idxOf k->(ns.getD i 0 == k)=false
 | [],k,i,h=>by simp at h
 | n::ns,k,i,h=>by
  rw[List.idxOf_cons]at h
  cases e:n == k with
  | true=>rw[e]at h;simp at h
  | false =>
   rw[e]at h
   simp only[cond_false]at h
   cases i with
   | zero=>exact e
   | succ i=>exact zdD (ns:=ns) (i:=i) (by lia)
def zm8 (to:TE) (t:TA):TE:=λσ H Q=>to σ H λx H1=>∃ a ns,x=.ref a/\H1 a=some (.tup (List.map V.int ns))/\t σ H1 λvs b=>∃ k:Int,vs=[.int k]/\b a=some (.tup (List.map V.int ns))/\k∈ns/\Q (.int (ns.idxOf k:Nat)) b
theorem zlv {o e:Expr}{to:TE}{t:TA}{apos cpos:Pos}(S:X.A.units+64<cLine) (K:PE X o to) (ha:PA X [e] t)
  (d:attributeBase o "index" X.env (eval o X.env)=eval o X.env:=by rfl)
  (j:((backTo cpos (starEach [e] X.env)).all (λx=>!x.1) && (backToKw cpos (keywordEach [] X.env)).all (λx=>x.1.isSome) && decide ([e].length+([]:List Keyword).length+(if ([]:List Keyword).isEmpty then 0 else 1)<30))=true:=by rfl)
  (c:(apos.endLine == cpos.line)=true:=by rfl) (J:starEach [e] X.env=(false,eval e X.env)::starEach [] X.env:=by rfl):PE X (.Call (.Attribute o "index" apos) [e] [] cpos) (zm8 to t):=by
 intro pins s σ H Q I h
 refine wpAny_Call_method_late d j c rfl (thn (K pins s σ H _ I h) λv s1 ⟨x,H1,A,D,a,ns,ex,G,E⟩=>?_)
 subst ex
 cases D
 obtain⟨_,its,_,⟨ob,w,P,n1,T,nd⟩⟩:=(show ObjOk X.prog X.w H1 s1.heap a (.tup (List.map V.int ns)) from A.hok a _ G)
 refine⟨"tuple","tuple.index",PySem.F.plainAttrs_tuple,PySem.F.slot_tuple_index,PySem.F.type_tuple_index,⟨ob,w,P⟩,λU N=>by cases N;exact⟨ob,w,nd⟩,?_⟩
 have r:=ha cpos pins s1 σ H1 _ A E
 rw[J]at r ⊢
 refine ZS rfl (Calls.evalArgs_plain ?_)
 refine thn r λus s2 ⟨vs,B,z,C,k,ev,l,F,q⟩=>?_
 subst ev
 obtain⟨u,rfl,tk,rfl⟩:=C.one
 obtain⟨_,b,n,⟨f,g,y,n2,O,nd2⟩⟩:=(show ObjOk X.prog X.w B s2.heap a (.tup (List.map V.int ns)) from z.hok a _ l)
 have hlen:b.toArray.size=ns.length:=by rw[Jm,<- n.length,Jq]
 have p:=List.idxOf_lt_length_of_mem F
 refine Wh PySem.F.slot_tuple_index ⟨f,g,y⟩ PySem.F.entry_tuple_index (PySem.F.args_tuple_index_2 _ _)
  (zg2 a f b.toArray n2 (.int k tk) (ns.idxOf k) y O (λi=>ns.getD i 0 == k) (λi hi=>?_) ?_ (by rw[hlen];exact p)) ⟨g,λi hi=>?_,?_⟩
 ·exact zdD hi
 ·rw[Ja,J7 p]
  simp
 ·have m:i<ns.length:=by rw[<- hlen];exact hi
  obtain⟨R,M,t1,rfl⟩:=n.get (show (List.map V.int ns)[i]?=some (V.int (ns.getD i 0)) by rw[JK,Ja,J7 m];rfl)
  have L:b.toArray[i]=.int (ns.getD i 0) t1:=by simpa using (Jc.mp M).2
  rw[L]
  exact(MeetsSeq.EqGives.int _ _ _ _).at _ _
 ·exact⟨.int _,B,z.tok _,⟨_,rfl⟩,q⟩
end
theorem zfr:fillsNumberSlot (.type "tuple") "mul" = pure false :=
 PySem.fillsNumberSlot_seq (id:="tuple.__mul__") (r:=some (.builtin "tuple.__rmul__")) F.slot_tuple_mul.lookup (by decide +kernel) F.slot_tuple_rmul.lookup (by decide +kernel)
theorem zgO:seqRepeat? (.type "tuple")=pure (some (.builtin "tuple.__mul__")):=by
 unfold seqRepeat?;rw[PySem.seqSlot_of (T:="tuple") (name:="__mul__") (id:="tuple.__mul__") F.slot_tuple_mul.lookup (by decide +kernel),PySem.seqSlot_of (T:="tuple") (name:="__rmul__") (id:="tuple.__rmul__") F.slot_tuple_rmul.lookup (by decide +kernel)];rfl
theorem zku (a:Int) (t:Tok) (l:Addr) (c:Option Addr) (sl:Array (Option Value)) (items:Array Value) (n:Nat) :
  Meets (Builtin.«int.__rmul__» ⟨[.int a t,.ref l],[]⟩) (λ_ R s=>s.heap.get? l=some { cls:=.type "tuple",dict:=c,data:=.seq items n,slots:=sl }/\R (.ok (.ret Value.notImplemented)) s) :=
 .of_wp λprog w A R s h=>by
  cases s;obtain⟨b,h⟩:=h
  wp_walk using Wr b
  exact⟨_,rfl,h⟩
theorem zg1 (l:Addr) (o:Obj) (x:Value) (n k:Nat) (t:Tok) (j:o.cls=.type "tuple") (hd:o.data=.seq #[x] n) (z:k<=100000) :
  Meets (Builtin.«tuple.__mul__» ⟨[.ref l,.int k t],[]⟩) (λ_ R s=>s.heap.get? l=some o /\
   (k=1->R (.ok (.ret (.ref l))) s)/\(k≠1->R (.ok (.ret (.ref s.heap.objs.size))) { s with heap:=s.heap.push { cls:=.type "tuple",data:=.seq (List.replicate k x).toArray } })) :=
 .of_wp λprog w A R s h=>by
  cases s with
  | mk i p r tk os =>
  obtain⟨a,q,d⟩:=h
  have ty:Shared.TypeIs ⟨i,p,r,tk,os⟩ (.ref l) "tuple":=⟨o,a,j⟩
  wp_walk using Yf a hd,Zg ty
  have y:¬(decide ((k:Int) < -2 ^ 63) || decide ((k:Int)>=2 ^ 63))=true:=by
   rw[Jv (by lia),Jv (by lia)];exact Jp
  rw[Jb y]
  wp_walk using Yf a hd,Zg ty
  by_cases k1:k=1
  ·have c:((#[x]:Array Value).isEmpty || (k:Int) == 1)=true:=by subst k1;rfl
   rw[Jf c]
   wp_walk using Zg ty
   exact⟨_,rfl,q k1⟩
  ·have c:¬((#[x]:Array Value).isEmpty || (k:Int) == 1)=true:=by
    have:((k:Int) == 1)=false:=by rw[ZA];lia
    rw[this];exact Jp
   rw[Jb c]
   have fl:∀ (m:Nat) (acc:Array Value),(List.foldl (λg f=>g++f) acc (List.replicate m #[x]))=acc++(List.replicate m x).toArray:=λm=>by
    induction m with
    | zero=>intro acc;simp
    | succ m ih=>intro acc;rw[Ym,List.foldl_cons,ih,Ym];apply Array.ext';simp
   by_cases k0:k=0
   ·subst k0
    have b:(decide (((0:Nat):Int)<=0) || (#[x]:Array Value).isEmpty)=true:=rfl
    rw[Jf b]
    wp_walk
    exact⟨_,rfl,d (by decide)⟩
   ·have b:¬(decide ((k:Int)<=0) || (#[x]:Array Value).isEmpty)=true:=by
     rw[Jv (by lia)];exact Jp
    have v:¬(((#[x]:Array Value).size:Int)*(k:Int) > (2 ^ 63-1) / 8):=by
     show ¬((1:Int)*(k:Int) > (2 ^ 63-1) / 8)
     lia
    have u:¬ Builtin.Tuple.tupleTooMany (((#[x]:Array Value).size:Int)*(k:Int))=true:=by
     unfold Builtin.Tuple.tupleTooMany
     show ¬ decide ((1:Int)*(k:Int) > (sizeLine:Int))=true
     rw[Jv (by rw[JC];lia)];exact Jp
    rw[Jb b,Jb v,Jb u,Ya,fl]
    refine J0 (m:=Builtin.Tuple.tupleExact _) (JM (J9 ⟨_,rfl,?_⟩) ?_)
    ·have e:(#[]++(List.replicate k x).toArray:Array Value)=(List.replicate k x).toArray:=by simp
     rw[e];exact d k1
    ·show (#[]++(List.replicate k x).toArray:Array Value).size<=sizeLine
     rw[JC];simp;lia
section
variable {X:Cx}
theorem Vals.same {v:V}{u:Value}(r:RelV v u):∀ k:Nat,Vals (List.replicate k v) (List.replicate k u)
 | 0=>.nil
 | k+1=>by rw[Ym,Ym];exact .cons r (Vals.same r k)
theorem zh6:OpR X (binaryOp .Mult) (λx y H Q=>∃ a v,∃ k:Nat,x=.ref a/\y=.int k/\H a=some (.tup [v])/\k<=100000/\∀ r H',Same H H'->H' r=some (.tup (List.replicate k v))->Q (.ref r) H'):=by
 intro pins s σ H x y A w Q I l j h
 obtain⟨a,v,k,rfl,rfl,ha,p,q⟩:=h
 cases l
 obtain⟨t,rfl⟩:=j
 obtain⟨_,its,r,⟨⟨c,B,d,sl⟩,f,i,n1,g,nd⟩⟩:=(show ObjOk X.prog X.w H s.heap a (.tup [v]) from I.hok a _ ha)
 simp only at i g nd
 subst i g nd
 obtain⟨u,rfl,m⟩:=r.one
 refine wpAny_binaryOp_repeat_ref (T:="tuple") (U:="int") (by decide) ⟨_,f,rfl⟩ (λs'=>typeIs_int s' k t) zfr F.fills_int_mul F.slot_int_rmul zgO F.slot_int_index.lookup
  (Wh F.slot_int_rmul (typeIs_int s k t) F.entry_int_rmul (F.args_int_rmul_2 _ _) (zku k t a none sl _ n1)
   ⟨f,rfl,⟨_,f,rfl⟩,Wh F.slot_tuple_mul ⟨_,f,rfl⟩ F.entry_tuple_mul (F.args_tuple_mul_2 _ _) (zg1 a _ u n1 k t rfl rfl p) ⟨f,λe=>?_,λe=>?_⟩⟩)
 ·subst e
  exact⟨.ref a,H,I,rfl,q a H (Same.refl H) ha⟩
 ·have n:(List.replicate k v).length<=sizeLine:=by rw[YE,JC];lia
  exact⟨.ref s.heap.objs.size,_,I.laid (t':=s.toks) (o:=.tup (List.replicate k v)) (λb ob z=>J8 _ z) (Jg _) ⟨n,_,Vals.same m k,TupX.new _ _⟩,rfl,q _ _ (zab (I.hok.fresh (Jg _)) _) zag⟩
end
end L2
namespace Bn
open PySem L2 Own
def Tups (H H':Hp):Prop:=∀ a xs,H a=some (.tup xs)->H' a=some (.tup xs)
theorem Tups.trans {H H1 b:Hp}(x:Tups H H1) (y:Tups H1 b):Tups H b:=λa xs e=>y a xs (x a xs e)
theorem Tups.of {H H':Hp}(s:Same H H'):Tups H H':=λa _ e=>s a _ e
theorem Tups.lst {H:Hp}{l:Addr}{xs ys:List V}(h:H l=some (.lst xs)):Tups H (upd H l (.lst ys)):=λa zs e=>by
 rw[zah (by rintro rfl;rw[h]at e;cases e)];exact e
def But (l:Addr) (H H':Hp):Prop:=∀ b o,H b=some o->b≠l->H' b=some o
theorem But.trans {l:Addr}{H H1 a:Hp}(x:But l H H1) (y:But l H1 a):But l H a:=λb o e n=>y b o (x b o e n) n
theorem But.of {l:Addr}{H H1:Hp}(x:Same H H1):But l H H1:=λb o e _=>x b o e
def Prs (H:Hp):List V->List (Nat × Nat)->Prop
 | [],[]=>True
 | p::ps,f::fs=>(∃ a,p=.ref a/\H a=some (.tup [.int f.1,.int f.2]))/\Prs H ps fs
 | _,_=>False
theorem Prs.tups {H H':Hp}(t:Tups H H'):∀ {ps:List V}{fs:List (Nat × Nat)},Prs H ps fs->Prs H' ps fs
 | [],[],_=>trivial
 | _::_,_::_,⟨⟨a,e,h⟩,r⟩=>⟨⟨a,e,t _ _ h⟩,r.tups t⟩
theorem Prs.len {H:Hp}:∀ {ps:List V}{fs:List (Nat × Nat)},Prs H ps fs->ps.length=fs.length
 | [],[],_=>rfl
 | _::_,_::_,⟨_,r⟩=>JX (· + 1) r.len
theorem Prs.add {H:Hp}{a:Addr}{f:Nat × Nat}(h:H a=some (.tup [.int f.1,.int f.2])):∀ {ps:List V}{fs:List (Nat × Nat)},Prs H ps fs->Prs H (ps++[.ref a]) (fs++[f])
 | [],[],_=>⟨⟨a,rfl,h⟩,trivial⟩
 | _::_,_::_,⟨x,r⟩=>⟨x,r.add h⟩
theorem Prs.get {H:Hp}:∀ {ps:List V}{fs:List (Nat × Nat)}{i:Nat}{p:V},Prs H ps fs->ps[i]?=some p->∃ a f,p=.ref a/\fs[i]?=some f/\H a=some (.tup [.int f.1,.int f.2])
 | [],[],_,_,_,e=>by simp at e
 | _::_,f::_,0,p,⟨⟨a,b,h⟩,_⟩,e=>by
  have:_=p:=Jn e
  subst this
  exact⟨a,f,b,rfl,h⟩
 | _::_,_::_,i+1,p,⟨_,r⟩,e=>r.get (i:=i) (by simpa using e)
structure Nt where
 lanes:Nat
 forks:List (Nat × Nat)
 ends:List Nat
structure Nt.Ok (N:Nt):Prop where
 l1:1<=N.lanes
 l16:N.lanes<=16
 fm:N.forks.length<=128
 fk:∀ f∈N.forks,f.1<N.lanes/\f.2<N.lanes/\f.1≠f.2
 en:N.ends.Perm (List.range N.lanes)
def nums (es:List Nat):List V:=es.map λ(e:Nat)=>V.int e
structure NetAt (H:Hp) (r fr er:Addr) (ps:List V) (N:Nt):Prop where
 net:H r=some (.tup [.int N.lanes,.ref fr,.ref er])
 forks:H fr=some (.tup ps)
 prs:Prs H ps N.forks
 ends:H er=some (.tup (nums N.ends))
theorem NetAt.tups {H H':Hp}{r fr er:Addr}{ps:List V}{N:Nt}(t:Tups H H') (h:NetAt H r fr er ps N):NetAt H' r fr er ps N:=⟨t _ _ h.net,t _ _ h.forks,h.prs.tups t,t _ _ h.ends⟩
def zaK (st:List Int × List Int) (f:Nat × Nat):List Int × List Int :=
 ((st.1.set f.1 ((st.1.getD f.1 0+st.1.getD f.2 0+1) / 2)).set f.2 ((st.1.getD f.1 0+st.1.getD f.2 0) / 2),st.2++[(st.1.getD f.1 0+st.1.getD f.2 0)%2])
def zaC (st:List Int × List Int) (fs:List (Nat × Nat)):List Int × List Int:=fs.foldl zaK st
def flow (fs:List (Nat × Nat)) (cs:List Int):List Int × List Int:=zaC (cs,[]) fs
def zaO (N:Nt) (cs:List Int):List Int:=N.ends.map λe=>(flow N.forks cs).1.getD e 0
def zbi (N:Nt) (cs:List Int):List Int:=(flow N.forks cs).2
theorem ziU (fs:List (Nat × Nat)) (f:Nat × Nat) (cs:List Int):flow (fs++[f]) cs=zaK (flow fs cs) f:=by
 unfold flow zaC;rw[Zm];rfl
theorem zaV (st:List Int × List Int) (f:Nat × Nat):(zaK st f).1.length=st.1.length:=by simp[zaK]
theorem zbt:∀ (fs:List (Nat × Nat)) (st:List Int × List Int),(zaC st fs).1.length=st.1.length/\(zaC st fs).2.length=st.2.length+fs.length
 | [],st=>⟨rfl,rfl⟩
 | f::fs,st=>by
  have h:=zbt fs (zaK st f)
  refine⟨h.1.trans (zaV st f),h.2.trans ?_⟩
  simp[zaK];lia
theorem zcX (fs:List (Nat × Nat)) (cs:List Int):(flow fs cs).1.length=cs.length:=(zbt fs (cs,[])).1
theorem zbh (fs:List (Nat × Nat)) (cs:List Int):(flow fs cs).2.length=fs.length:=by
 have:=(zbt fs (cs,[])).2
 simpa [flow] using this
theorem zcp {fs:List (Nat × Nat)}{i:Nat}{f:Nat × Nat}(h:fs[i]?=some f) (cs:List Int):flow (fs.take (i+1)) cs=zaK (flow (fs.take i) cs) f:=by
 have w:=Jc.mp h;obtain⟨hi,e⟩:=w
 rw[Yg hi,ziU,e]
theorem za0 {xs:List Int}{i p:Nat}{a:Int}(h:p<xs.length):(xs.set i a).getD p 0=if i=p then a else xs.getD p 0:=by
 rw[Ja,List.getElem?_set]
 by_cases e:i=p
 ·subst e;simp[h]
 ·simp[e]
theorem zfJ {N:Nt}(ok:N.Ok) {e:Nat}(h:e∈N.ends):e<N.lanes:=Yx.mp (ok.en.mem_iff.mp h)
theorem zct {N:Nt}(ok:N.Ok):N.ends.length=N.lanes:=by rw[ok.en.length_eq,Yb]
theorem zdI {cs:List Int}{i:Nat}(h:i<cs.length):atI (cs.map V.int) ((i:Nat):Int)=some (.int (cs.getD i 0)):=by
 refine zaP ?_
 rw[JK,Ja,J7 h];rfl
theorem zg6 {α:Type}{xs:List α}{i:Nat}(h:i<xs.length):ixN xs.length ((i:Nat):Int)=some i:=by
 unfold ixN
 rw[Jf (by lia),Jf (by lia)];simp
theorem zdU (cs:List Int) (i:Nat) (a:Int):(cs.map V.int).set i (.int a)=(cs.set i a).map V.int:=by rw[List.map_set]
structure Mgs (mg:Str->Option Value):Prop where
 len:mg "len" = none
 range:mg "range" = none
 tuple:mg "tuple" = none
 enum:mg "enumerate" = none
 abs:mg "abs" = none
 zip:mg "zip" = none
 isi:mg "isinstance" = none
 all:mg "all" = none
 sum:mg "sum" = none
 bool:mg "bool" = none
 int:mg "int" = none
 str:mg "str" = none
 max:mg "max" = none
 min:mg "min" = none
 sorted:mg "sorted" = none
 list:mg "list" = none
structure Use (P:Program) (w:World) (K:PySem.W.Frag) (mg:Str->Option Value) (base:Heap) (x:Str) (ps:List Str) (k:Nat) (sp:Sp) (f:Addr) (fd:FuncData):Prop where
 ok:FnOk P w K mg base CX0 k f fd ps sp
 b:Binds K fd ps []
 kp:PySem.W.keepIn K (.ref f)=true
 m:mg x=some (.ref f)
def zhz:Sp:=λvs H Q _=>∃ r fr er ps N c cs,vs=[.ref r,.ref c]/\Nt.Ok N/\NetAt H r fr er ps N/\H c=some (.tup (List.map V.int cs))/\cs.length=N.lanes /\
 ∀ p H',Same H H'->H' p=some (.tup ((zaO N cs).map V.int))->Q (.ref p) H'
def Frs (l:Addr) (H:Hp) (x:Addr):Prop:=∀ b o,H b=some o->b≠l->b≠x
theorem But.frs {l x:Addr}{H H1:Hp}(B:But l H H1) (h:H1 x=none):Frs l H x:=λb o e n=>zaf (B b o e n) h
theorem But.upd {l x:Addr}{H H1:Hp}{o:HO}(B:But l H H1) (f:Frs l H x):But l H (upd H1 x o):=λb u e n=>by rw[zah (f b u e n)];exact B b u e n
theorem zdX {xs:List Nat}{v:Nat}(h:v<xs.length):∃ n,n∈xs/\atI (nums xs) ((v:Nat):Int)=some (.int n):=by
 refine⟨xs[v],Y5 h,zaP ?_⟩
 unfold nums
 rw[JK,J7 h];rfl
theorem zaq (es:List Nat):(nums es).length=es.length:=by simp[nums]
theorem zjN {one d lanes:Nat}(h1:one<lanes) (a:d+1<lanes):(one+1+d)%lanes<lanes/\one≠(one+1+d)%lanes:=by
 refine⟨Nat.mod_lt _ (by lia),λe=>?_⟩
 by_cases z:one+1+d<lanes
 ·rw[Nat.mod_eq_of_lt z]at e;lia
 ·rw[Nat.mod_eq_sub_mod (by lia),Nat.mod_eq_of_lt (by lia)]at e;lia
def nm (ns:List Nat) (i:Nat):Nat:=ns.getD i 0
section
variable {ns:List Nat}{n:Nat}(pm:ns.Perm (List.range n))
include pm
end
def Nt.again (N:Nt) (f:Nat × Nat):Nt:=⟨N.lanes,N.forks++[f],N.ends⟩
end Bn
namespace L2
open PySem PySem.Spec PyProof.Rows Own
section
variable {prog:Program}{w:World}{A:Around}{E:Value->Shared->Prop}{s:Shared}
theorem zfG {t sl:Addr}{items:Array Value}{f e:Value}{lo hi:Option Int}{Q:Value->Shared->Prop}(a:IsTup s.heap t items) (g:s.heap.IsSliceOf sl f e .none) (i:IsPart f lo) (pu:IsPart e hi)
  (k:HT.sIx items.size 0 lo=0) (j:HT.sIx items.size items.size hi=items.size) (h:Q (.ref t) s):wpAny (model prog w) A (getItem (.ref t) (.ref sl)) Q E s:=by
 obtain⟨os,b,c,l⟩:=id g
 have d:s.TypeIs (.ref sl) "slice":=⟨os,b,c⟩
 unfold getItem
 try with_reducible refine Yi ?_
 first|refine J0 (J9 ?_)|skip
 refine J0 (wpAny_sequenceKey a.typeIs (by decide) (J0 (wpAny_callSpecial?_slot (name:=Str.ofString "__getitem__") a.typeIs ZW (Y4 ZW a.typeIs PyProof.Rows.entry_tuple_getitem ?_ (PyProof.Rows.args_tuple_getitem _ _)))))
 show wpAny _ _ (Builtin.Tuple.tupleItemsOf (.ref t) >>= _) _ _ s
 refine J0 (tupleItemsOf_ a (J0 (Zg d ?_)))
 rw[Jf (by decide)]
 refine J0 (HT.sliceApplied_gen g i pu ?_)
 rw[k,j]
 show wpAny _ _ (if (((0:Nat):Int) == 0 && (1:Int) == 1 && (items.size-0) == items.size)=true then _ else _) _ _ s
 rw[Jf (by simp)]
 refine J0 ?_
 unfold Builtin.Tuple.tupleIsExact
 refine J0 (Zg a.typeIs (J9 ?_))
 rw[Jf (by decide)]
 exact J0 (YT (J9 ⟨_,rfl,J9 h⟩))
end
end L2
namespace K35
open PySem L2 Own Bn
def top (i:Nat):Stmt:=PySem.Challenge.pw_stairlanes_k35_books_hold_for_all_counts.main.body.getD i (.Pass ⟨0,0,0,0⟩)
end K35
namespace L2
open PySem PySem.Spec PyProof.Rows Own
section
variable {X:Cx}
theorem zbl:OpR X (binaryOp .Add) (λx y H Q=>∃ a b xs ys,x=.ref a/\y=.ref b/\H a=some (.tup xs)/\H b=some (.tup ys)/\xs.length+ys.length<=sizeLine/\∀ r H',Same H H'->H' r=some (.tup (xs++ys))->Q (.ref r) H'):=by
 intro pins s σ H x y v u Q I m l h
 obtain⟨a,b,xs,ys,rfl,rfl,ha,hb,t,q⟩:=h
 by_cases n:xs=[]
 ·subst n
  cases m;cases l
  obtain⟨its,o,p1,_⟩:=I.tuple (SqT.of ha)
  obtain⟨k,B,p2,_⟩:=I.tuple (SqT.of hb)
  cases o
  obtain⟨⟨E,A,C,j⟩,o1,g,n1,d⟩:=p1
  obtain⟨⟨D,z,e2,i⟩,o2,f,n2,c⟩:=p2
  simp only at g d f c
  subst g d f c
  refine concat_meets ⟨_,o1,rfl⟩ ⟨_,o2,rfl⟩ noFill_tuple_add seq_tuple_add PySem.F.slot_tuple_add PySem.F.entry_tuple_add (PySem.F.args_tuple_add_2 _ _) (tuple_addW0 a b #[] k.toArray n1 n2 A z j i rfl) ⟨o1,o2,?_⟩
  exact⟨.ref b,H,I,rfl,q b H (Same.refl H) (by rw[W9];exact hb)⟩
 ·exact zly pins s σ H _ _ v u Q I m l ⟨a,b,xs,ys,rfl,rfl,SqT.of ha,SqT.of hb,n,t,λe=>q a H (Same.refl H) (by rw[e,Y2];exact ha),λ_ p w=>q p _ (zab w _) zag⟩
theorem za9:SlR X (λx lo hi H Q=>∃ a xs,x=.ref a/\H a=some (.tup xs)/\∀ p H',Same H H'->H' p=some (.tup (cutV xs lo hi))->Q (.ref p) H'):=by
 intro pins s σ H x v j i lo hi sl Q I d g e pu h
 obtain⟨a,xs,rfl,c,q⟩:=h
 by_cases b:HT.sIx xs.length 0 lo=0/\HT.sIx xs.length xs.length hi=xs.length
 ·cases d
  obtain⟨its,r,f,l⟩:=I.tuple (SqT.of c)
  have hlen:its.toArray.size=xs.length:=by rw[Jm];exact r.length.symm
  refine⟨"tuple",_,PyProof.Rows.slot_tuple_getitem.lookup,f.typeIs,zfG f g e pu (by rw[hlen];exact b.1) (by rw[hlen];exact b.2) ⟨.ref a,H,I,rfl,q a H (Same.refl H) ?_⟩⟩
  unfold cutV
  rw[b.1,b.2,ZU,Nat.sub_zero,YA]
  exact c
 ·exact zmj pins s σ H _ v j i lo hi sl Q I d g e pu ⟨a,xs,rfl,SqT.of c,b,λp k=>q p _ (zab k _) zag⟩
end
theorem zgy (xs:List V) (i:Nat) (h:i<=xs.length):cutV xs none (some (i:Int))=xs.take i:=by
 unfold cutV
 rw[HT.sIx_none,HT.sIx_nat,ZU,Nat.sub_zero,Zi h]
theorem zeb (xs:List V) (i:Nat) (h:i<=xs.length):cutV xs (some (i:Int)) none=xs.drop i:=by
 unfold cutV
 rw[HT.sIx_none,HT.sIx_nat,Zi h]
 exact JQ (by rw[Y9];exact Jg _)
theorem zex {h:Heap}:∀ (vs:List Value) (ds:List PyData),vs.length=ds.length->(∀ (j:Nat) (v:Value) (d:PyData),vs[j]?=some v->ds[j]?=some d->∃ as,Reads h v d as)->∃ as,ReadsAll h vs ds as
 | [],[],_,_=>⟨_,.nil⟩
 | v::vs,d::ds,c,q=>by
  obtain⟨as,r⟩:=q 0 v d rfl rfl
  obtain⟨bs,b⟩:=zex vs ds (by simpa using c) λj a d' e e2=>q (j+1) a d' (by simpa using e) (by simpa using e2)
  exact⟨_,.cons r b⟩
end L2
namespace L2
open PySem PySem.Spec PyProof.Rows Own
def rowOf (H:Hp):V->Option (List V)
 | .ref a=>match H a with
  | some (.tup xs)=>some xs
  | _=>none
 | _=>none
end L2
namespace Bn
open PySem L2 Own
structure Grp where
 many:Int
 lane:Nat
 fork:Nat
def zaD (back:Bool) (st:List Int × Nat) (k:Nat) (f:Nat × Nat):List Int × Nat :=
 if st.2=f.1\/st.2=f.2 then (st.1.set k (1-st.1.getD k 0),if (if back then 1-st.1.getD k 0 else st.1.getD k 0)=0 then f.1 else f.2) else st
def zaL (back:Bool) (fs:List (Nat × Nat)) (ts:List Int) (lane:Nat):Nat->List Int × Nat
 | 0=>(ts,lane)
 | i+1=>zaD back (zaL back fs ts lane i) i (fs.getD i (0,0))
def zaU (xs:List Int) (i:Nat) (d:Int):List Int:=xs.set i (xs.getD i 0+d)
theorem zaZ (xs:List Int) (i:Nat) (d:Int):(zaU xs i d).length=xs.length:=by simp[zaU]
theorem zaW {xs:List Int}{i p:Nat}{d:Int}(h:p<xs.length):(zaU xs i d).getD p 0=xs.getD p 0+if i=p then d else 0:=by
 unfold zaU
 rw[za0 h]
 by_cases e:i=p
 ·subst e;rw[Jf rfl,Jf rfl]
 ·rw[Jb e,Jb e,Int.add_zero]
theorem zcs {xs ys:List Int}(a:xs.length=ys.length) (h:∀ p,p<xs.length->xs.getD p 0=ys.getD p 0):xs=ys:=by
 refine ZZ a λp h1 b=>?_
 have:=h p h1
 rwa [Ja,Ja,J7 h1,J7 b]at this
theorem zca {L T:List Int}{f:Nat × Nat}{p:Nat}(a:p<L.length):(zaK (L,T) f).1.getD p 0=if f.2=p then (L.getD f.1 0+L.getD f.2 0) / 2 else if f.1=p then (L.getD f.1 0+L.getD f.2 0+1) / 2 else L.getD p 0:=by
 unfold zaK
 simp only
 rw[za0 (by rw[YZ];exact a),za0 a]
theorem zjR (back:Bool) (L T:List Int) (f:Nat × Nat) (here k:Nat) (ts:List Int) (h1:f.1<L.length) (q:f.2<L.length) (ne:f.1≠f.2) (s:here<L.length) (o:ts.getD k 0=(L.getD f.1 0+L.getD f.2 0)%2) :
  let d:Int:=if back then -1 else 1
  let r:=zaD back (ts,here) k f
  (zaK (zaU L here d,T) f).1=zaU (zaK (L,T) f).1 r.2 d/\r.2<L.length /\
   ((here=f.1\/here=f.2)->((zaU L here d).getD f.1 0+(zaU L here d).getD f.2 0)%2=1-ts.getD k 0)/\(¬(here=f.1\/here=f.2)->((zaU L here d).getD f.1 0+(zaU L here d).getD f.2 0)%2=ts.getD k 0):=by
 intro d r
 have hd:d=if back then -1 else 1:=rfl
 have a1:=zaW (xs:=L) (i:=here) (d:=d) h1
 have a2:=zaW (xs:=L) (i:=here) (d:=d) q
 generalize l:L.getD f.1 0+L.getD f.2 0=c at *
 have g:r=zaD back (ts,here) k f:=rfl
 unfold zaD at g
 simp only at g
 by_cases on:here=f.1\/here=f.2
 ·rw[Jf on]at g
  have j:(zaU L here d).getD f.1 0+(zaU L here d).getD f.2 0=c+d:=by
   rw[a1,a2,<- l]
   rcases on with e|e
   ·subst e;rw[Jf rfl,Jb ne];lia
   ·subst e;rw[Jb (Ne.symm ne),Jf rfl];lia
  have b:r.2=if (if back then 1-c%2 else c%2)=0 then f.1 else f.2:=by rw[g,o]
  refine⟨zcs (by rw[zaV,zaZ,zaZ,zaV]) λp h=>?_,?_,λ_=>?_,λz=>absurd on z⟩
  ·rw[zaV,zaZ]at h
   have a:p<L.length:=h
   rw[zca (by rw[zaZ];exact a),j,zaW (xs:=(zaK (L,T) f).1) (by rw[zaV];exact a),zca a,l,zaW (xs:=L) a,b]
   cases back
   ·simp only[Y7,YV]at hd ⊢
    rw[hd]
    by_cases p2:f.2=p
    ·subst p2
     simp only[Yk]
     by_cases z:c%2=0
     ·rw[Jf z,Jb ne];lia
     ·rw[Jb z,Jf rfl];lia
    ·rw[Jb p2,Jb p2]
     by_cases p1:f.1=p
     ·subst p1
      simp only[Yk]
      by_cases z:c%2=0
      ·rw[Jf z,Jf rfl];lia
      ·rw[Jb z,Jb (Ne.symm ne)];lia
     ·rw[Jb p1,Jb p1]
      have n:¬ here=p:=by rcases on with e|e<;>lia
      have m:¬(if c%2=0 then f.1 else f.2)=p:=by split<;>assumption
      rw[Jb n,Jb m]
   ·simp only[Yk]at hd ⊢
    rw[hd]
    by_cases p2:f.2=p
    ·subst p2
     simp only[Yk]
     by_cases z:1-c%2=0
     ·rw[Jf z,Jb ne];lia
     ·rw[Jb z,Jf rfl];lia
    ·rw[Jb p2,Jb p2]
     by_cases p1:f.1=p
     ·subst p1
      simp only[Yk]
      by_cases z:1-c%2=0
      ·rw[Jf z,Jf rfl];lia
      ·rw[Jb z,Jb (Ne.symm ne)];lia
     ·rw[Jb p1,Jb p1]
      have n:¬ here=p:=by rcases on with e|e<;>lia
      have m:¬(if 1-c%2=0 then f.1 else f.2)=p:=by split<;>assumption
      rw[Jb n,Jb m]
  ·rw[b]
   by_cases z:(if back=true then 1-c%2 else c%2)=0
   ·rw[Jf z];exact h1
   ·rw[Jb z];exact q
  ·rw[j,o]
   cases back<;>simp at hd<;>lia
 ·rw[Jb on]at g
  have n1:¬ here=f.1:=λz=>on (.inl z)
  have n2:¬ here=f.2:=λz=>on (.inr z)
  rw[Jb n1]at a1
  rw[Jb n2]at a2
  have j:(zaU L here d).getD f.1 0+(zaU L here d).getD f.2 0=c:=by rw[a1,a2,<- l];lia
  have b:r.2=here:=by rw[g]
  refine⟨zcs (by rw[zaV,zaZ,zaZ,zaV]) λp h=>?_,by rw[b];exact s,λz=>absurd z on,λ_=>by rw[j,o]⟩
  rw[zaV,zaZ]at h
  have a:p<L.length:=h
  rw[zca (by rw[zaZ];exact a),j,zaW (xs:=(zaK (L,T) f).1) (by rw[zaV];exact a),zca a,l,zaW (xs:=L) a,b]
  by_cases p2:f.2=p
  ·rw[Jf p2,Jf p2,Jb (by lia)];lia
  ·rw[Jb p2,Jb p2]
   by_cases p1:f.1=p
   ·rw[Jf p1,Jf p1,Jb (by lia)];lia
   ·rw[Jb p1,Jb p1]
structure Ran (back:Bool) (fs:List (Nat × Nat)) (cs ts:List Int) (lane i:Nat):Prop where
 flows:(flow (fs.take i) (zaU cs lane (if back then -1 else 1))).1=zaU (flow (fs.take i) cs).1 (zaL back fs ts lane i).2 (if back then -1 else 1)
 turns:∀ k,k<i->(flow (fs.take i) (zaU cs lane (if back then -1 else 1))).2.getD k 0=(zaL back fs ts lane i).1.getD k 0
 rest:∀ k,i<=k->(zaL back fs ts lane i).1.getD k 0=ts.getD k 0
 len:(zaL back fs ts lane i).1.length=ts.length
 here:(zaL back fs ts lane i).2<cs.length
 bits:∀ t∈(zaL back fs ts lane i).1,t=0\/t=1
theorem zdh (cs:List Int) (T:List Int):∀ (a:List (Nat × Nat)) (L:List Int) (k:Nat),k<T.length->(zaC (L,T) a).2.getD k 0=T.getD k 0
 | [],_,_,_=>rfl
 | g::a,L,k,h=>by
  have:=zdh cs (zaK (L,T) g).2 a (zaK (L,T) g).1 k (by simp[zaK];lia)
  rw[show zaC (L,T) (g::a)=zaC ((zaK (L,T) g).1,(zaK (L,T) g).2) a from rfl,this]
  show (T++[_]).getD k 0=T.getD k 0
  rw[Ja,YB h,<- Ja]
theorem zk3 {fs:List (Nat × Nat)}{i:Nat}{f:Nat × Nat}(h:fs[i]?=some f) (cs:List Int):(flow fs cs).2.getD i 0=((flow (fs.take i) cs).1.getD f.1 0+(flow (fs.take i) cs).1.getD f.2 0)%2:=by
 have sp:fs=fs.take (i+1)++fs.drop (i+1):=(ZX _ _).symm
 have e:flow fs cs=zaC (flow (fs.take (i+1)) cs) (fs.drop (i+1)):=by
  conv=>lhs;rw[sp]
  unfold flow zaC;rw[Zm]
 have hi:i<fs.length:=(Jc.mp h).1
 have tl:(flow (fs.take i) cs).2.length=i:=by rw[zbh,Jy];lia
 rw[e,zcp h]
 have:=zdh cs (zaK (flow (fs.take i) cs) f).2 (fs.drop (i+1)) (zaK (flow (fs.take i) cs) f).1 i (by simp[zaK,tl])
 rw[this]
 unfold zaK
 simp only
 rw[Ja,Yy (by lia),tl]
 simp
theorem zf5 {ts:List Int}{k:Nat}(h:∀ t∈ts,t=0\/t=1):∀ t∈ts.set k (1-ts.getD k 0),t=0\/t=1:=λt a=>by
 rcases List.mem_or_eq_of_mem_set a with z|z
 ·exact h t z
 ·by_cases b:k<ts.length
  ·have:=h _ (L2.zgt b);lia
  ·rw[List.set_eq_of_length_le (by lia)]at a;exact h t a
theorem ran {back:Bool}{fs:List (Nat × Nat)}{cs:List Int}{lane:Nat}(ok:∀ f∈fs,f.1<cs.length/\f.2<cs.length/\f.1≠f.2) (g:lane<cs.length) (hb:∀ t∈(flow fs cs).2,t=0\/t=1):∀ i,i<=fs.length->Ran back fs cs (flow fs cs).2 lane i
 | 0,_=>⟨rfl,λk b=>absurd b (Nat.not_lt_zero _),λ_ _=>rfl,rfl,g,hb⟩
 | i+1,hi=>by
  have ih:=ran (back:=back) ok g hb i (by lia)
  have c:fs[i]?=some fs[i]:=J7 (by lia)
  have gd:fs.getD i (0,0)=fs[i]:=by rw[Ja,c];rfl
  have d:=ok _ (Y5 (show i<fs.length by lia))
  have h:=zcp c (zaU cs lane (if back then -1 else 1))
  have e2:=zcp c cs
  have tt:=zk3 c cs
  generalize fs[i]=f at *
  have l1:(flow (fs.take i) cs).1.length=cs.length:=zcX _ _
  have tl:(flow (fs.take i) (zaU cs lane (if back then -1 else 1))).2.length=i:=by rw[zbh,Jy];lia
  have j:(flow fs cs).2.length=fs.length:=zbh _ _
  have of:=zjR back (flow (fs.take i) cs).1 (flow (fs.take i) (zaU cs lane (if back then -1 else 1))).2 f (zaL back fs (flow fs cs).2 lane i).2 i (zaL back fs (flow fs cs).2 lane i).1 (by lia) (by lia) d.2.2 (by rw[l1];exact ih.here) (by rw[ih.rest i (Jg _)];exact tt)
  obtain⟨o1,o2,n,m⟩:=of
  have rs:zaL back fs (flow fs cs).2 lane (i+1)=zaD back ((zaL back fs (flow fs cs).2 lane i).1,(zaL back fs (flow fs cs).2 lane i).2) i f:=by show zaD _ _ _ _=_;rw[gd]
  have st:flow (fs.take i) (zaU cs lane (if back then -1 else 1))=(zaU (flow (fs.take i) cs).1 (zaL back fs (flow fs cs).2 lane i).2 (if back then -1 else 1),(flow (fs.take i) (zaU cs lane (if back then -1 else 1))).2):=by rw[<- ih.flows]
  generalize a:zaL back fs (flow fs cs).2 lane i=r at *
  generalize o:(flow (fs.take i) (zaU cs lane (if back then -1 else 1))).2=T at *
  have tn:(zaD back (r.1,r.2) i f).1.getD i 0=(zaK (zaU (flow (fs.take i) cs).1 r.2 (if back then -1 else 1),T) f).2.getD i 0:=by
   unfold zaK
   simp only
   rw[Ja (l:=T++_),Yy (by lia),tl]
   simp only[Nat.sub_self,List.getElem?_cons_zero,Zw]
   unfold zaD
   by_cases on:r.2=f.1\/r.2=f.2
   ·rw[Jf on,n on]
    simp only
    rw[za0 (by have z:=ih.len;rw[a,j]at z;lia),Jf rfl]
   ·rw[Jb on,m on]
  have keep:∀ k,k≠i->(zaD back (r.1,r.2) i f).1.getD k 0=r.1.getD k 0:=λk b=>by
   unfold zaD
   split
   ·simp only
    rw[Ja,List.getElem?_set_ne (Ne.symm b),<- Ja]
   ·rfl
  refine⟨?_,λk b=>?_,λk b=>?_,?_,?_,?_⟩
  ·rw[h,st,o1,rs,e2,show flow (fs.take i) cs=((flow (fs.take i) cs).1,(flow (fs.take i) cs).2) from rfl];rfl
  ·rw[h,st,rs]
   by_cases e:k=i
   ·subst e;exact tn.symm
   ·have z:=ih.turns k (by lia)
    rw[a,o]at z
    rw[keep k e,<- z]
    unfold zaK
    simp only
    rw[Ja,YB (by lia),<- Ja]
  ·have z:=ih.rest k (by lia)
   rw[a]at z
   rw[rs,keep k (by lia),z]
  ·rw[rs]
   unfold zaD
   split
   ·simp only;rw[YZ,<- ih.len,a]
   ·rw[<- ih.len,a]
  ·rw[rs,<- l1];exact o2
  ·rw[rs]
   unfold zaD
   split
   ·exact zf5 (by have z:=ih.bits;rw[a]at z;exact z)
   ·have z:=ih.bits;rw[a]at z;exact z
theorem zcA {back:Bool}{fs:List (Nat × Nat)}{ts:List Int}{lane:Nat}(h:∀ t∈ts,t=0\/t=1):∀ i,∀ t∈(zaL back fs ts lane i).1,t=0\/t=1
 | 0=>h
 | i+1=>by
  have ih:=zcA (back:=back) (fs:=fs) (lane:=lane) h i
  show ∀ t∈(zaD back (zaL back fs ts lane i) i (fs.getD i (0,0))).1,t=0\/t=1
  unfold zaD
  split
  ·exact zf5 ih
  ·exact ih
theorem zc3 {back:Bool}{fs:List (Nat × Nat)}{ts:List Int}{lane:Nat}:∀ i,(zaL back fs ts lane i).1.length=ts.length
 | 0=>rfl
 | i+1=>by
  have ih:=zc3 (back:=back) (fs:=fs) (ts:=ts) (lane:=lane) i
  show (zaD back (zaL back fs ts lane i) i (fs.getD i (0,0))).1.length=_
  unfold zaD
  split
  ·simp only;rw[YZ];exact ih
  ·exact ih
theorem zdy {back:Bool}{fs:List (Nat × Nat)}{ts:List Int}{lane n:Nat}(ok:∀ f∈fs,f.1<n/\f.2<n/\f.1≠f.2) (b:lane<n):∀ i,i<=fs.length->(zaL back fs ts lane i).2<n
 | 0,_=>b
 | i+1,hi=>by
  have ih:=zdy (back:=back) (ts:=ts) ok b i (by lia)
  have a:=ok _ (Y5 (show i<fs.length by lia))
  have gd:fs.getD i (0,0)=fs[i]:=by rw[Ja,J7 (show i<fs.length by lia)];rfl
  show (zaD back (zaL back fs ts lane i) i (fs.getD i (0,0))).2<n
  rw[gd]
  generalize fs[i]=f at *
  unfold zaD
  split
  ·simp only
   by_cases z:(if back=true then 1-(zaL back fs ts lane i).1.getD i 0 else (zaL back fs ts lane i).1.getD i 0)=0
   ·rw[Jf z];exact a.1
   ·rw[Jb z];exact a.2.1
  ·exact ih
theorem zgs (k:Nat):∀ es:List Nat,(es.map λ(e:Nat)=>(e:Int)).idxOf (k:Int)=es.idxOf k
 | []=>rfl
 | e::es=>by
  rw[JZ,List.idxOf_cons,List.idxOf_cons,zgs k es]
  have:((e:Int) == (k:Int))=(e == k):=by
   rw[Ys,beq_iff_eq];rw[beq_iff_eq];lia
  rw[this]
theorem zjY (es:List Nat):nums es=(es.map λ(e:Nat)=>(e:Int)).map V.int:=by unfold nums;rw[Zv];rfl
def zk9:Sp:=λvs H Q _=>∃ r fr er ps N,∃ lane:Nat,vs=[.ref r,.int lane]/\Nt.Ok N/\NetAt H r fr er ps N/\lane<N.lanes/\Q (.int (N.ends.idxOf lane:Nat)) H
def RunQ (back:Bool) (vs:List V) (H:Hp) (Q:VK):Prop:=∃ r fr er ps N b ts,∃ lane:Nat,vs=[.ref r,.ref b,.int lane]/\Nt.Ok N/\NetAt H r fr er ps N/\H b=some (.tup (List.map V.int ts))/\ts.length=N.forks.length/\(∀ t∈ts,t=0\/t=1)/\lane<N.lanes /\
 ∀ p a H',Same H H'->H' p=some (.tup [.ref a,.int (N.ends.idxOf (zaL back N.forks ts lane N.forks.length).2:Nat)])->H' a=some (.tup ((zaL back N.forks ts lane N.forks.length).1.map V.int))->Q (.ref p) H'
def zhw (back:Bool):Sp:=λvs H Q _=>RunQ back vs H Q
def zk8:Sp:=λvs H Q _=>∃ (us:List V) (back:Bool),vs=us++[.bl back]/\RunQ back us H Q
theorem zlc (xs:List Int) (i:Nat) (v:Int) (h:i<xs.length):(xs.map V.int).take i++[V.int v]++(xs.map V.int).drop (i+1)=(xs.set i v).map V.int:=by
 rw[List.set_eq_take_append_cons_drop,Jf h,JY,JZ,List.map_take,List.map_drop,JU];rfl
def part (m:Int) (lane k:Nat):List Grp:=if m=0 then [] else [⟨m,lane,k⟩]
end Bn
namespace L2
open PySem PySem.Spec PyProof.Rows Own
section
variable {X:Cx}
theorem Inv.big {pins:List (Addr × Obj)}{σ:St}{H:Hp}{s:Shared}(I:Inv X pins σ H s):sysModules<s.heap.objs.size:=by
 have h:mainGlobals<s.heap.objs.size:=(I.mod.glob.keeps I.bk).lt
 exact Nat.lt_trans (by decide) h
end
end L2
namespace L2
open PySem PySem.Spec PyProof.Rows Own
def LtAt (A:Around) (s:Shared) (y x:Value) (b:Bool):Prop:=∀ (prog:Program) (w:World) (E:Value->Shared->Prop) (Q:Value->Shared->Prop),Q (.bool b) s->wpAny (model prog w) A (richCompare .Lt y x) Q E s
theorem LtAt.ints {A:Around}{s:Shared}(a b:Int) (t u:Tok):LtAt A s (.int a t) (.int b u) (decide (a<b)):=λ_ _ _ _ h=>lt_int h
theorem zfA (l b:Addr) (xs ys:Array Value) (n m:Nat) (G F:Option Addr) (o f:Array (Option Value)) (k:Nat) (k1:k<xs.size) (H:k<ys.size) (c:Bool) :
  Meets (Builtin.«tuple.__lt__» ⟨[.ref l,.ref b],[]⟩)
   (λA R s=>s.heap.get? l=some { cls:=.type "tuple",dict:=G,data:=.seq xs n,slots:=o }/\s.heap.get? b=some { cls:=.type "tuple",dict:=F,data:=.seq ys m,slots:=f } /\
    (∀ j (h1:j<xs.size) (I:j<ys.size),j<k->SeqAt.EqAt A.in1 s xs[j] ys[j] true)/\SeqAt.EqAt A.in1 s xs[k] ys[k] false/\LtAt A.in1 s xs[k] ys[k] c/\R (.ok (.ret (.bool c))) s) :=
 .of_wp λprog w A R s h=>by
  obtain⟨u,g,d,tk,os⟩:=s;obtain⟨v,hb,C,B,D,h⟩:=h
  have kinds:=AutoSeq1.sub_tuple_tuple
  have q:(xs.toList.zip ys.toList).length=min xs.size ys.size:=by simp
  wp_walk using wpAny_loadPart' v,wpAny_loadPart' hb,wpAny_forIn_list _ (λrest b s'=>b.1=none/\s'=⟨u,g,d,tk,os⟩/\∃ i,i<=k/\rest=(xs.toList.zip ys.toList).drop i) _
  case turn =>
   rintro⟨y,x⟩ rest b s' ⟨p,rfl,i,t,a⟩
   have i1:i<xs.size:=by lia
   have i2:i<ys.size:=by lia
   have e:i<(xs.toList.zip ys.toList).length:=by rw[q];lia
   rw[YL e]at a
   obtain⟨r,e2⟩:=List.cons.inj a
   have E:y=xs[i]:=by simpa using JX Prod.fst r
   have ex:x=ys[i]:=by simpa using JX Prod.snd r
   subst E ex
   by_cases z:i=k
   ·subst z
    refine J0 (B prog w _ _ ?_)
    simp only[Yk,Bool.not_false]
    refine J0 (YT (J0 (D prog w _ _ ?_)))
    wp_walk
    exact⟨_,rfl,h⟩
   ·refine J0 (C i i1 i2 (by lia) prog w _ _ ?_)
    wp_walk
    exact⟨rfl,rfl,i+1,by lia,e2⟩
  case fin =>
   rintro⟨b1,b2⟩ s' ⟨p,rfl,i,t,a⟩
   have e:i<(xs.toList.zip ys.toList).length:=by rw[q];lia
   rw[YL e]at a;cases a
  case h =>
   exact⟨rfl,rfl,0,JN _,rfl⟩
theorem LtAt.tuples {A:Around}{s:Shared}{l b:Addr}{xs ys:Array Value}{k:Nat}{c:Bool}(r:IsTup s.heap l xs) (hb:IsTup s.heap b ys) (q:A.units<cLine) (k1:k<xs.size) (p:k<ys.size)
  (u:∀ j (h1:j<xs.size) (D:j<ys.size),j<k->SeqAt.EqAt A.in1 s xs[j] ys[j] true) (t:SeqAt.EqAt A.in1 s xs[k] ys[k] false) (v:LtAt A.in1 s xs[k] ys[k] c):LtAt A s (.ref l) (.ref b) c:=λprog w E Q h=>by
 obtain⟨⟨C,f,z,d⟩,o1,o,n,g⟩:=r
 obtain⟨⟨B,e,y,a⟩,o2,i,m,e2⟩:=hb
 simp only at o g i e2;subst o g i e2
 exact richCompare_meets_room (op:=.Lt) ⟨_,o1,rfl⟩ ⟨_,o2,rfl⟩ F.slot_tuple_lt F.entry_tuple_lt (F.args_tuple_lt_2 _ _) (zfA l b xs ys n m f e d a k k1 p c) ⟨o1,o2,u,t,v,show Value.bool c≠Value.notImplemented/\Q (.bool c) s from⟨(λx=>nomatch x),h⟩⟩ q
end L2
namespace K35
open PySem L2 Own Bn
abbrev zhP:Stmt:=top 6
abbrev zhR:Stmt:=top 7
def zff:Sp:=λvs H Q _=>∃ a xs,∃ (place:Nat) (v:Int),vs=[.ref a,.int place,.int v]/\H a=some (.tup (List.map V.int xs))/\place<xs.length/\xs.length<=1000/\∀ p H',Same H H'->H' p=some (.tup ((xs.set place v).map V.int))->Q (.ref p) H'
def zfh:Sp:=λvs H Q _=>∃ a xs,∃ (place:Nat) (v:Int),vs=[.ref a,.int place,.int v]/\H a=some (.tup (List.map V.int xs))/\place<xs.length/\xs.length<=1000/\∀ p H',Same H H'->H' p=some (.tup ((xs.set place (xs.getD place 0+v)).map V.int))->Q (.ref p) H'
section
variable {P:Program}{w:World}{K:PySem.W.Frag}{mg:Str->Option Value}{base:Heap}
theorem scGi:FnScope ["row","place","value"] ["row","place","value"] (zam zhP):=by trivial
theorem zjW {f:Addr}{fd:FuncData}(F:Fun K "given_at" "given_at" zhP f fd) (G:Mgs mg):FnOk P w K mg base CX0 1 f fd ["row","place","value"] zff:=by
 refine F.ok scGi (λvs H Q E h=>?_) (λcdv A outer s H vs Q E t h=>?_)
 ·obtain⟨a,xs,place,v,rfl,_⟩:=h
  rfl
 obtain⟨a,xs,place,v,rfl,ha,i,q,k⟩:=h
 refine⟨_,(@zai _ _ _ (@zav _ _ _ _ (@zap _ _ _ _ _ _ _ _ zbl (@zap _ _ _ _ _ _ _ _ zbl (@zaH _ _ _ _ _ _ _ _ _ _ za9 (@qv _ 0 _ _ (by trivial)) zaR (@zaB _ _ _ (@qv _ 1 _ _ (by trivial)))) (@zaz _ _ _ _ _ (@zaa _ _ _ _ _ (@qv _ 2 _ _ (by trivial)) zac (by rfl)))) (@zaH _ _ _ _ _ _ _ _ _ _ za9 (@qv _ 0 _ _ (by trivial)) (@zaB _ _ _ (@zap _ _ _ _ _ _ _ _ za6 (@qv _ 1 _ _ (by trivial)) zad)) zaR)))),?_⟩
 have r:(xs.map V.int).length=xs.length:=Jq _
 refine⟨_,rfl,_,rfl,_,rfl,a,_,rfl,ha,λp1 H1 s1 h1=>?_⟩
 rw[zgy _ place (by lia)]at h1
 refine⟨_,rfl,(by show 1<=sizeLine;decide),λp2 b=>?_⟩
 have s2:=zab b (.tup [.int v])
 refine⟨p1,p2,_,_,rfl,rfl,s2 _ _ h1,zag,?_,λm x g o=>?_⟩
 ·rw[Jy,JC];show _+1<=_;lia
 have u3:=(s1.trans s2).trans g
 refine⟨_,rfl,_,rfl,_,_,rfl,rfl,_,rfl,a,_,rfl,u3 _ _ ha,λl u c d=>?_⟩
 rw[show ((place:Int)+1)=((place+1:Nat):Int) from rfl,zeb _ (place+1) (by lia)]at d
 refine⟨m,l,_,_,rfl,rfl,c _ _ o,d,?_,λj p e n=>?_⟩
 ·rw[Jd,Jy,Y9,JC];show _+1+_<=_;lia
 exact k j p ((u3.trans c).trans e) (by rw[n,zlc xs place v i])
theorem scAd:FnScope ["counts","place","many"] ["counts","place","many"] (zam zhR):=by trivial
theorem zjX {f g:Addr}{fd i:FuncData}(F:Fun K "added" "added" zhR f fd) (G:Mgs mg) (b:Use P w K mg base "given_at" ["row","place","value"] 1 zff g i):FnOk P w K mg base CX0 2 f fd ["counts","place","many"] zfh:=by
 refine F.ok scAd (λvs H Q E h=>?_) (λcdv A outer s H vs Q E e h=>?_)
 ·obtain⟨a,xs,place,v,rfl,_⟩:=h
  rfl
 obtain⟨a,xs,place,v,rfl,ha,c,d,k⟩:=h
 refine⟨_,(@zai _ _ _ (@zav _ _ _ _ (@zaj _ _ _ _ _ _ _ _ _ _ _ _ _ _ _ _ b.ok e (by rfl) b.m b.kp b.b .nil zax (@zaa _ _ _ _ _ (@qv _ 0 _ _ (by trivial)) (@zaa _ _ _ _ _ (@qv _ 1 _ _ (by trivial)) (@zaa _ _ _ _ _ (@zap _ _ _ _ _ _ _ _ za6 (@zaA _ _ _ _ _ _ _ zaS (@qv _ 0 _ _ (by trivial)) (@qv _ 1 _ _ (by trivial)) (λ_ _=>rfl)) (@qv _ 2 _ _ (by trivial))) zac (by rfl)) (by rfl)) (by rfl)) (by decide) (by rfl) (by rfl)))),?_⟩
 exact⟨_,rfl,_,rfl,_,rfl,_,rfl,a,_,_,_,rfl,rfl,SqT.of ha,zdI c,_,rfl,_,_,rfl,rfl,a,xs,place,_,rfl,ha,c,d,k⟩
end
end K35
namespace L2
open PySem PySem.Spec PyProof.Rows
section
variable [DecidableEq κ]
theorem RelO.isSome_eq {o:Option V}{u:Option Value}(r:RelO o u):o.isSome=u.isSome:=by
 cases o with
 | none=>cases u with
  | none=>rfl
  | some _=>exact(show False from r).elim
 | some _=>cases u with
  | none=>exact(show False from r).elim
  | some _=>rfl
theorem RelO.getD {o:Option V}{u:Option Value}{d:V}{d':Value}(r:RelO o u) (a:RelV d d'):RelV (o.getD d) (u.getD d'):=by
 cases o with
 | none=>cases u with
  | none=>exact a
  | some _=>exact(show False from r).elim
 | some _=>cases u with
  | none=>exact(show False from r).elim
  | some _=>exact r
end
theorem znv {P:Program}{w:World}{k:Key}{u:Value}(r:RelV (kV k) u):(za1 P w).is k u=true:=by
 cases k with
 | inl i=>obtain⟨t,e⟩:=(show ∃ t,u=Value.int i t from r);subst e;exact zft P w i t
 | inr x=>obtain⟨t,e⟩:=(show ∃ t,u=Value.str x t from r);subst e;exact zfs P w x t
theorem zeN {P:Program}{w:World}:∀ {ks:List Key}{us:List Value},Vals (ks.map kV) us->ItemsAre (za1 P w) ks us
 | [],_,r=>by rw[List.map_nil]at r;cases r;exact .nil
 | k::ks,_,r=>by
  rw[JZ]at r
  cases r with
  | cons h t=>exact .cons (znv h) (zeN t)
section
variable {P:Program}{w:World}{H:Hp}{h:Heap}{a:Addr}
theorem zmo {u:HO}(ok:HOk P w H h) (e:Rd H a u):ObjOk P w H h a u:=e.ok ok
theorem zmR {ks:List Key}(ok:HOk P w H h) (e:H a=some (.tup (ks.map kV))):(tupleKind (za1 P w)).is h ks a:=by
 obtain⟨_,its,r,o,h1,c,n,b⟩:=(show ObjOk P w H h a (.tup (ks.map kV)) from ok a _ e)
 exact⟨o,its.toArray,n,h1,c,b.1,by simpa using zeN r⟩
end
section
variable {X:Cx}{pins:List (Addr × Obj)}{σ:St}{H:Hp}{s:Shared}{a:Addr}
theorem zfM {h':Heap}{t':Nat}{ob:HO}(I:Inv X pins σ H s) (c:Mut (H a)) (d:Heap.SameBut a s.heap h') (f:∃ q,h'.get? a=some q) (new:ObjOk X.prog X.w (upd H a ob) h' a ob) :
  Inv X pins σ (upd H a ob) { s with heap:=h',toks:=t' } :=
 I.write (x:=a) (e:=a) c (.inl rfl) (λb q hb z=>(d.2 b hb).trans z) f new
end
def zkJ:List (TE × TE)->St->Hp->(List (V × V)->Hp->Prop)->Prop
 | [],_,H,Q=>Q [] H
 | (tk,tv)::r,σ,H,Q=>tk σ H λx H1=>tv σ H1 λy b=>zkJ r σ b λps a=>Q ((x,y)::ps) a
abbrev VV:List (V × V)->List (Value × Value)->Prop:=Paired λp q=>RelV p.1 q.1/\RelV p.2 q.2
def PPs (X:Cx) (pos:Pos) (keys:List (Option Expr)) (values:List Expr) (a:List (TE × TE)):Prop :=
 ∀ (pins:List (Addr × Obj)) (s:Shared) (σ:St) (H:Hp) (Q:List (V × V)->Hp->Prop),Inv X pins σ H s->zkJ a σ H Q ->
  wpAny (model X.prog X.w) X.A (evalPairs (pairTrees keys values X.env pos)) (λvs s'=>∃ ps H',Inv X pins σ H' s'/\VV ps vs/\Q ps H') X.xe s
theorem zls {X:Cx}{pos:Pos}:PPs X pos [] [] []:=λpins s σ H Q I h=>pairTrees_nil_walk ⟨[],H,I,.nil,h⟩
theorem zjG {X:Cx}{pos:Pos}{k v:Expr}{ks:List (Option Expr)}{vs:List Expr}{tk tv:TE}{a:List (TE × TE)}(j:PE X k tk) (g:PE X v tv) (i:PPs X pos ks vs a) :
  PPs X pos (some k::ks) (v::vs) ((tk,tv)::a):=λpins s σ H Q I h =>
 pairTrees_cons_walk (thn (j pins s σ H _ I h) λu s1 ⟨x,H1,n,c,f⟩=>thn (g pins s1 σ H1 _ n f) λq s2 ⟨y,p,m,b,e⟩ =>
  thn (i pins s2 σ p _ m e) λws r ⟨ps,o,l,rel,d⟩=>⟨(x,y)::ps,o,l,.cons ⟨c,b⟩ rel,d⟩)
structure M1 (X:Cx) (o:Expr) (m:Str) (apos:Pos) (e:Expr) (cpos:Pos):Prop where
 base:attributeBase o m X.env (eval o X.env)=eval o X.env
 few:((backTo cpos (starEach [e] X.env)).all (λx=>!x.1) && (backToKw cpos (keywordEach [] X.env)).all (λx=>x.1.isSome)
  && decide (([e]:List Expr).length+([]:List Keyword).length+(if ([]:List Keyword).isEmpty then 0 else 1)<30))=true
 line:(apos.endLine == cpos.line)=true
 trees:backTo cpos (starEach [e] X.env)=[(false,eval e X.env)]
structure M2 (X:Cx) (o:Expr) (m:Str) (apos:Pos) (e f:Expr) (cpos:Pos):Prop where
 base:attributeBase o m X.env (eval o X.env)=eval o X.env
 few:((backTo cpos (starEach [e,f] X.env)).all (λx=>!x.1) && (backToKw cpos (keywordEach [] X.env)).all (λx=>x.1.isSome)
  && decide (([e,f]:List Expr).length+([]:List Keyword).length+(if ([]:List Keyword).isEmpty then 0 else 1)<30))=true
 line:(apos.endLine == cpos.line)=true
 trees:backTo cpos (starEach [e,f] X.env)=[(false,eval e X.env),(false,eval f X.env)]
end L2
namespace L2
open PySem PySem.Spec PyProof.Rows Own
def FlD (x:V) (d:PyData):Prop:=(∃ i,x=.int i/\d=.int i)\/(∃ z,x=.str z/\d=.str z/\(PyData.str z).canLay0=true)\/(∃ b,x=.bl b/\d=.bool b)\/(x=.non/\d=.none)
def DD (H:Hp):Nat->V->PyData->Prop
 | 0,x,d=>FlD x d
 | n+1,x,d=>FlD x d\/∃ a xs ds,x=.ref a/\xs.length=ds.length/\((d=.tuple ds/\H a=some (.tup xs))\/(d=.list ds/\H a=some (.lst xs)))/\∀ (j:Nat) (u:V) (e:PyData),xs[j]?=some u->ds[j]?=some e->DD H n u e
theorem DD.same {H H':Hp}(s:Same H H'):∀ {n:Nat}{x:V}{d:PyData},DD H n x d->DD H' n x d
 | 0,_,_,h=>h
 | n+1,_,_,h=>by
  rcases h with h|⟨a,xs,ds,c,e2,h1,b⟩
  ·exact .inl h
  ·refine .inr ⟨a,xs,ds,c,e2,?_,λj u e p q=>DD.same s (b j u e p q)⟩
   rcases h1 with ⟨y,z⟩|⟨y,z⟩
   ·exact .inl ⟨y,s _ _ z⟩
   ·exact .inr ⟨y,s _ _ z⟩
theorem DD.fl {H:Hp}{n:Nat}{x:V}{d:PyData}(h:FlD x d):DD H n x d:=by
 cases n
 ·exact h
 ·exact .inl h
theorem DD.i {H:Hp}{n:Nat}(i:Int):DD H n (.int i) (.int i):=DD.fl (.inl ⟨i,rfl,rfl⟩)
theorem DD.tup {H:Hp}{n:Nat}{a:Addr}{xs:List V}{ds:List PyData}(h:H a=some (.tup xs)) (l:xs.length=ds.length) (f:∀ (j:Nat) (u:V) (e:PyData),xs[j]?=some u->ds[j]?=some e->DD H n u e):DD H (n+1) (.ref a) (.tuple ds):=.inr ⟨a,xs,ds,rfl,l,.inl ⟨rfl,h⟩,f⟩
theorem zm1 {H:Hp}{n:Nat}{α:Type}{f:α->V}{g:α->PyData}{l:List α}(h:∀ x∈l,DD H n (f x) (g x)):(l.map f).length=(l.map g).length/\∀ (j:Nat) (u:V) (e:PyData),(l.map f)[j]?=some u->(l.map g)[j]?=some e->DD H n u e:=by
 refine⟨by rw[Jq,Jq],λj u e p q=>?_⟩
 rw[JK]at p q
 cases z:l[j]? with
 | none=>rw[z]at p;cases p
 | some x =>
  rw[z]at p q
  obtain rfl:=Jn p
  obtain rfl:=Jn q
  exact h x (JP z)
theorem zfV:∀ {ds:List PyData}{n:Nat},(∀ e∈ds,e.canLay0=true/\e.depth<=n)->PyData.canLayAll0 ds=true/\PyData.depthAll ds<=n
 | [],_,_=>⟨rfl,JN _⟩
 | d::ds,n,h=>by
  obtain⟨a1,a2⟩:=h d JH
  obtain⟨b1,b2⟩:=zfV (ds:=ds) λe a=>h e (JG _ a)
  refine⟨?_,?_⟩
  ·show (d.canLay0 && PyData.canLayAll0 ds)=true
   rw[a1,b1];rfl
  ·show max d.depth (PyData.depthAll ds)<=n
   lia
theorem FlD.ok {x:V}{d:PyData}(h:FlD x d):d.canLay0=true/\d.depth<=0:=by
 rcases h with ⟨i,_,rfl⟩|⟨z,_,rfl,e⟩|⟨b,_,rfl⟩|⟨_,rfl⟩
 ·exact⟨rfl,Jg _⟩
 ·exact⟨e,Jg _⟩
 ·exact⟨rfl,Jg _⟩
 ·exact⟨rfl,Jg _⟩
theorem DD.ok {H:Hp}:∀ {n:Nat}{x:V}{d:PyData},DD H n x d->d.canLay0=true/\d.depth<=n
 | 0,_,_,h=>FlD.ok h
 | n+1,_,_,h=>by
  rcases h with h|⟨a,xs,ds,i,e2,h1,f⟩
  ·have:=FlD.ok h
   exact⟨this.1,by lia⟩
  ·obtain⟨p,q⟩:=zfV (n:=n) (ds:=ds) λe c=>by
    obtain⟨j,b,g⟩:=List.getElem_of_mem c
    exact(f j _ e (J7 (by lia)) (by rw[J7 b,g])).ok
   rcases h1 with ⟨rfl,_⟩|⟨rfl,_⟩
   ·exact⟨p,Nat.succ_le_succ q⟩
   ·exact⟨p,Nat.succ_le_succ q⟩
section
variable {X:Cx}
theorem FlD.reads {h:Heap}{x:V}{d:PyData}{v:Value}(f:FlD x d) (r:RelV x v):∃ as,Reads h v d as:=by
 rcases f with ⟨i,rfl,rfl⟩|⟨z,rfl,rfl,e⟩|⟨b,rfl,rfl⟩|⟨rfl,rfl⟩
 ·obtain⟨t,rfl⟩:=r
  exact⟨_,.int i t⟩
 ·obtain⟨t,rfl⟩:=r
  exact⟨_,.str z t⟩
 ·cases r
  exact⟨_,.bool b⟩
 ·cases r
  exact⟨_,.none⟩
theorem DD.reads {pins:List (Addr × Obj)}{σ:St}{H:Hp}{s:Shared}(I:Inv X pins σ H s):∀ (n:Nat) (x:V) (d:PyData) (v:Value),DD H n x d->RelV x v->∃ as,Reads s.heap v d as
 | 0,x,d,v,h,r=>FlD.reads h r
 | n+1,x,d,v,h,r=>by
  rcases h with h|⟨a,xs,ds,rfl,t,h1,k⟩
  ·exact FlD.reads h r
  ·cases r
   have key:∀ its:List Value,Vals xs its->∃ as,ReadsAll s.heap its ds as:=λits g=>by
    have gl:=g.length
    exact zex (h:=s.heap) its ds (by lia) λj q d' i e2=>by
     have f:j<xs.length:=by have:=(Jc.mp i).1;lia
     obtain⟨l,f1,f2⟩:=g.get (J7 f)
     obtain rfl:=Jn (i.symm.trans f1)
     exact DD.reads I n _ _ _ (k j _ _ (J7 f) e2) f2
   rcases h1 with ⟨rfl,ha⟩|⟨rfl,ha⟩
   ·obtain⟨its,g,⟨o,c,co,m,e⟩,_⟩:=I.tuple (SqT.of ha)
    obtain⟨as,b⟩:=key its g
    exact⟨as,.tuple c co e (by simpa using b)⟩
   ·obtain⟨its,g,p,_⟩:=I.list (SqL.of ha)
    obtain⟨as,b⟩:=key its g
    obtain⟨o,c,co,m,e⟩:=p.isList
    exact⟨_,.list c co e (by simpa using b)⟩
def rDat (c:Bool):R2:=λx y H Q=>∃ n d d',n<=20/\DD H n x d/\DD H n y d'/\Q (.bl (if c then PyData.eqv d d' else !PyData.eqv d d')) H
theorem zmE (j:X.A.units+64<cLine):OpR X (compareOp .Eq) (rDat true):=by
 intro pins s σ H x y i h Q I c b ⟨n,d,d',k,h1,a,q⟩
 obtain⟨as,f⟩:=h1.reads I _ _ _ _ c
 obtain⟨bs,e⟩:=a.reads I _ _ _ _ b
 have k1:=h1.ok
 have g:=a.ok
 exact PySem.SeqAt.compareEq_reads f e k1.1 g.1 (by have:=k1.2;lia) ⟨.bl _,H,I,rfl,q⟩
end
abbrev KI:=Int ⊕ List Int
abbrev KN:=List KI
section
variable (prog:Program)(w:World)
def NIt (h:Heap):KI->Value->Prop
 | .inl i,v=>∃ t,v=.int i t
 | .inr xs,v=>∃ b,v=.ref b/\IsTupleKey (za1 prog w) h (xs.map Sum.inl) b
def NIts (h:Heap):KN->List Value->Prop
 | [],vs=>vs=[]
 | k::ks,vs=>∃ v r,vs=v::r/\NIt prog w h k v/\NIts h ks r
def NIs (h:Heap) (ks:KN) (a:Addr):Prop:=∃ o items n,h.get? a=some o/\o.cls=.type "tuple"/\o.data=.seq items n/\NIts prog w h ks items.toList
def nh1:KI->Int
 | .inl i=>hashInt i
 | .inr xs=>tupleKeyHash (za1 prog w) (xs.map Sum.inl)
def nd1:KI->Nat
 | .inl _=>1
 | .inr xs=>xs.length+1
def nds (ks:KN):Nat:=(ks.map nd1).sum
end
variable {prog:Program}{w:World}{A:Around}{E:Value->Shared->Prop}
theorem zlY {a b:List Int}(h:a.map (Sum.inl:Int->Key)=b.map Sum.inl):a=b :=
 List.map_inj_right (λx y e=>Sum.inl.inj e) |>.mp h
theorem NIt.inj {h:Heap}{x y:KI}{v:Value}(a:NIt prog w h x v) (b:NIt prog w h y v):x=y:=by
 cases x with
 | inl i =>
  obtain⟨t,rfl⟩:=a
  cases y with
  | inl j=>obtain⟨u,e⟩:=b;cases e;rfl
  | inr ys=>obtain⟨b,e,_⟩:=b;cases e
 | inr xs =>
  obtain⟨c,rfl,f⟩:=a
  cases y with
  | inl j=>obtain⟨u,e⟩:=b;cases e
  | inr ys =>
   obtain⟨d,e,hd⟩:=b
   cases e
   rw[zlY (f.inj hd)]
theorem NIts.inj {h:Heap}:∀ {x y:KN}{vs:List Value},NIts prog w h x vs->NIts prog w h y vs->x=y
 | [],[],_,_,_=>rfl
 | [],_::_,_,a,b=>by obtain⟨v,r,e,_⟩:=b;rw[show _=[] from a]at e;cases e
 | _::_,[],_,a,b=>by obtain⟨v,r,e,_⟩:=a;rw[show _=[] from b]at e;cases e
 | x::xs,y::ys,_,a,b=>by
  obtain⟨v,r,rfl,a1,a2⟩:=a
  obtain⟨c,d,e,b1,b2⟩:=b
  cases e
  rw[a1.inj b1,NIts.inj a2 b2]
theorem NIs.inj {h:Heap}{x y:KN}{a:Addr}(p:NIs prog w h x a) (q:NIs prog w h y a):x=y:=by
 obtain⟨o,its,n,h1,_,e,d⟩:=p
 obtain⟨o',its',g,c,_,b,f⟩:=q
 rw[h1]at c
 cases c
 rw[e]at b
 cases b
 exact d.inj f
theorem NIt.keeps {h h':Heap}{d:Addr}{o:Obj}{es ep} (hd:h.get? d=some o) (c:o.data=.dict es ep) (s:Heap.SameBut d h h') {k:KI}{v:Value}(a:NIt prog w h k v):NIt prog w h' k v:=by
 cases k with
 | inl i=>exact a
 | inr xs =>
  obtain⟨b,e,hb⟩:=a
  exact⟨b,e,hb.keeps hd c s⟩
theorem NIts.keeps {h h':Heap}{d:Addr}{o:Obj}{es ep} (hd:h.get? d=some o) (b:o.data=.dict es ep) (s:Heap.SameBut d h h'):∀ {ks:KN}{vs:List Value},NIts prog w h ks vs->NIts prog w h' ks vs
 | [],_,a=>a
 | k::ks,_,a=>by
  obtain⟨v,r,e,a1,a2⟩:=a
  exact⟨v,r,e,a1.keeps hd b s,NIts.keeps hd b s a2⟩
theorem NIs.keeps {h h':Heap}{ks:KN}{a d:Addr}{o:Obj}{es ep} (p:NIs prog w h ks a) (hd:h.get? d=some o) (c:o.data=.dict es ep) (s:Heap.SameBut d h h'):NIs prog w h' ks a:=by
 obtain⟨o',its,n,h1,f,b,e⟩:=p
 refine⟨o',its,n,?_,f,b,e.keeps hd c s⟩
 rw[s.2 a (by rintro rfl;rw[hd]at h1;cases h1;rw[c]at b;cases b)]
 exact h1
theorem zdE:∀ (ks:KN) (vs:List Value) (c:Array Int) (s:Shared) (Q:Array Int->Shared->Prop),A.units<cLine->NIts prog w s.heap ks vs->Q (c++(ks.map (nh1 prog w)).toArray) { s with toks:=s.toks+nds ks } ->
  wpAny (model prog w) A (forIn vs c λx c=>(do let r <- pyHash x;pure (ForInStep.yield (c.push r)))) Q E s
 | [],vs,c,s,Q,d,a,q=>by
  rw[show vs=[] from a,Zq]
  refine J9 ?_
  simpa [nds] using q
 | k::ks,vs,c,s,Q,d,a,q=>by
  obtain⟨v,r,rfl,a1,a2⟩:=a
  rw[YU]
  have f:∀ (m:Nat),m=nd1 k->({ s with toks:=s.toks+m+nds ks }:Shared)={ s with toks:=s.toks+nds (k::ks) }:=λm e=>by
   subst e
   unfold nds
   rw[JZ,List.sum_cons,Zj]
  have e2:c.push (nh1 prog w k)++(ks.map (nh1 prog w)).toArray=c++((k::ks).map (nh1 prog w)).toArray:=by simp
  have go:∀ (m:Nat),m=nd1 k->wpAny (model prog w) A (forIn r (c.push (nh1 prog w k)) λx c=>(do let r <- pyHash x;pure (ForInStep.yield (c.push r)))) Q E { s with toks:=s.toks+m }:=λm e =>
   zdE ks r (c.push (nh1 prog w k)) { s with toks:=s.toks+m } Q d a2 (by rw[e2];have:=f m e;simp only at this ⊢;rw[this];exact q)
  cases k with
  | inl i =>
   obtain⟨t,rfl⟩:=a1
   exact J0 (J0 (wpAny_pyHash_int (J9 (go 1 rfl))))
  | inr xs =>
   obtain⟨b,rfl,hb⟩:=a1
   exact J0 (J0 (wpAny_pyHash_tuple d hb (J9 (go _ (by rw[Jq];rfl)))))
theorem ziP {s:Shared}{a:Addr}{ks:KN}{Q:Int->Shared->Prop}(c:A.units+1<cLine) (d:NIs prog w s.heap ks a)
  (q:Q (reduceHash (Builtin.Tuple.tupleHashOf (ks.map (nh1 prog w)))) { s with toks:=s.toks+(nds ks+1) }):wpAny (model prog w) A (pyHash (.ref a)) Q E s:=by
 obtain⟨o,its,n,b,e,hd,hi⟩:=d
 show wpAny (model prog w) A (pyHashByItsType (.ref a)) Q E s
 refine W.pyHash_slot (T:="tuple") (id:="tuple.__hash__") (B:=Builtin.«tuple.__hash__») ⟨o,b,e⟩ F.slot_tuple_hash F.entry_tuple_hash (F.args_tuple_hash_1 _) (by decide) (.inr (by lia)) ?_
 unfold Builtin.«tuple.__hash__»
 refine J0 ?_
 show wpAny _ _ (pure _) _ _ _
 refine J9 (J0 (wpAny_tupleItemsOf b hd ?_))
 rw[<- Array.forIn_toList]
 refine J0 (zdE ks _ _ s _ c hi ?_)
 simp only[Array.empty_append]
 unfold retInt
 exact J0 (wpAny_mkInt (J9 ⟨_,_,rfl,q⟩))
theorem zez {i:Int}{t:Tok}{n:Nat}{s:Shared}{Q:Bool->Shared->Prop}(q:Q true s):wpAny (model prog w) A (eqIsQuiet n (.int i t)) Q E s:=by
 cases n<;>exact J9 q
theorem zc5 {n:Nat}{s:Shared}:∀ (vs:List Value) (Q:Option Bool × Unit->Shared->Prop),(∀ v∈vs,∀ R:Bool->Shared->Prop,R true s->wpAny (model prog w) A (eqIsQuiet n v) R E s)->Q (none,()) s ->
  wpAny (model prog w) A (forIn vs ((none,()):Option Bool × Unit) λy _=>(do
   let b <- eqIsQuiet n y
   if (!b)=true then pure (ForInStep.done (some false,())) else pure (ForInStep.yield (none,())))) Q E s
 | [],Q,_,q=>by rw[Zq];exact J9 q
 | v::vs,Q,h,q=>by
  rw[YU]
  exact J0 (J0 (h v JH _ (J9 (zc5 vs Q (λu a=>h u (JG _ a)) q))))
theorem zey {s:Shared}{a:Addr}{o:Obj}{its:Array Value}{m n:Nat}{Q:Bool->Shared->Prop}(c:s.heap.get? a=some o) (d:o.cls=.type "tuple") (hd:o.data=.seq its m)
  (h:∀ v∈its.toList,∀ R:Bool->Shared->Prop,R true s->wpAny (model prog w) A (eqIsQuiet n v) R E s) (q:Q true s):wpAny (model prog w) A (eqIsQuiet (n+1) (.ref a)) Q E s:=by
 have ty:s.TypeIs (.ref a) "tuple":=⟨o,c,d⟩
 unfold eqIsQuiet
 refine J0 (wpAny_specialOf (T:="tuple") ty F.slot_tuple_eq.lookup (J0 (Zu (T:="tuple") (b:=true) ty rfl ?_)))
 show wpAny _ _ (do let _ <- seqItems? _;_) _ _ _
 refine J0 (Yf c hd (J0 ?_))
 rw[Zw,<- Array.forIn_toList]
 exact zc5 _ _ h (J9 q)
theorem NIts.mem {h:Heap}:∀ {ks:KN}{vs:List Value},NIts prog w h ks vs->∀ v∈vs,∃ k,NIt prog w h k v
 | [],_,a,v,b=>by rw[show _=[] from a]at b;cases b
 | k::ks,_,a,v,b=>by
  obtain⟨x,r,rfl,a1,a2⟩:=a
  rcases Jt.mp b with rfl|z
  ·exact⟨k,a1⟩
  ·exact NIts.mem a2 v z
theorem zgl {i:Int}{v:Value}(h:(za1 prog w).is (.inl i) v=true):∃ t,v=.int i t:=by
 rw[zgZ]at h
 rcases zaN h with ⟨j,t,e,rfl⟩|⟨x,t,e,_⟩
 ·cases e;exact⟨t,rfl⟩
 ·cases e
theorem zg8 {ks:List Key}{vs:List Value}(h:ItemsAre (za1 prog w) ks vs):∀ xs:List Int,ks=xs.map Sum.inl->∀ v∈vs,∃ i t,v=.int i t:=by
 induction h with
 | nil=>intro xs _ v a;cases a
 | cons b _ ih =>
  intro xs e v a
  cases xs with
  | nil=>cases e
  | cons x xs =>
   rw[JZ]at e
   injection e with c e2
   subst c
   rcases Jt.mp a with rfl|z
   ·obtain⟨t,e⟩:=zgl b
    exact⟨x,t,e⟩
   ·exact ih xs e2 v z
theorem items_int {ks:List Int}{vs:List Value}(h:ItemsAre (za1 prog w) (ks.map Sum.inl) vs):∀ v∈vs,∃ i t,v=.int i t:=zg8 h ks rfl
theorem zdA {s:Shared}{a:Addr}{ks:KN}{Q:Bool->Shared->Prop}(c:NIs prog w s.heap ks a) (q:Q true s):wpAny (model prog w) A (eqIsQuiet 8 (.ref a)) Q E s:=by
 obtain⟨o,its,n,l,m,hd,hi⟩:=c
 refine zey l m hd (λv h R r=>?_) q
 obtain⟨k,c⟩:=hi.mem v h
 cases k with
 | inl i=>obtain⟨t,rfl⟩:=c;exact zez r
 | inr xs =>
  obtain⟨b,rfl,o2,p,n2,d,g,f,e⟩:=c
  refine zey d g f (λu j R r=>?_) r
  obtain⟨i,t,rfl⟩:=items_int e u j
  exact zez r
def dI:KI->PyData
 | .inl i=>.int i
 | .inr xs=>.tuple (xs.map PyData.int)
def dN (ks:KN):PyData:=.tuple (ks.map dI)
theorem zgP {h:Heap}{ks:List Key}{vs:List Value}(a:ItemsAre (za1 prog w) ks vs):∀ xs:List Int,ks=xs.map Sum.inl->∃ as,ReadsAll h vs (xs.map PyData.int) as:=by
 induction a with
 | nil =>
  intro xs e
  cases xs with
  | nil=>exact⟨_,.nil⟩
  | cons x xs=>cases e
 | cons b _ ih =>
  intro xs e
  cases xs with
  | nil=>cases e
  | cons x xs =>
   rw[JZ]at e
   injection e with c e2
   subst c
   obtain⟨t,rfl⟩:=zgl b
   obtain⟨as,r⟩:=ih xs e2
   exact⟨_,.cons (.int x t) r⟩
theorem NIt.reads {h:Heap}{k:KI}{v:Value}(a:NIt prog w h k v):∃ as,Reads h v (dI k) as:=by
 cases k with
 | inl i=>obtain⟨t,rfl⟩:=a;exact⟨_,.int i t⟩
 | inr xs =>
  obtain⟨b,rfl,o,its,n,h1,e,d,c⟩:=a
  obtain⟨as,r⟩:=zgP (h:=h) c xs rfl
  exact⟨_,.tuple h1 e d r⟩
theorem NIts.reads {h:Heap}:∀ {ks:KN}{vs:List Value},NIts prog w h ks vs->∃ as,ReadsAll h vs (ks.map dI) as
 | [],_,a=>by rw[show _=[] from a];exact⟨_,.nil⟩
 | k::ks,_,a=>by
  obtain⟨v,r,rfl,a1,a2⟩:=a
  obtain⟨as,p⟩:=a1.reads
  obtain⟨bs,q⟩:=NIts.reads a2
  exact⟨_,.cons p q⟩
theorem NIs.reads {h:Heap}{ks:KN}{a:Addr}(p:NIs prog w h ks a):∃ as,Reads h (.ref a) (dN ks) as:=by
 obtain⟨o,its,n,h1,d,c,b⟩:=p
 obtain⟨as,r⟩:=b.reads
 exact⟨_,.tuple h1 d c r⟩
theorem zgv:∀ (x y:List Int),PyData.eqvAll (x.map PyData.int) (y.map PyData.int)=decide (x=y)
 | [],[]=>rfl
 | [],_::_=>rfl
 | _::_,[]=>rfl
 | a::x,b::y=>by
  show (PyData.eqv (.int a) (.int b) && PyData.eqvAll (x.map PyData.int) (y.map PyData.int))=_
  rw[zgv x y,show PyData.eqv (.int a) (.int b)=(a == b) from rfl,Ys]
  simp
theorem zm0 (x y:KI):PyData.eqv (dI x) (dI y)=decide (x=y):=by
 cases x<;>cases y
 ·rw[show PyData.eqv (dI (.inl _)) (dI (.inl _))=(_ == _) from rfl,Ys];simp
 ·rfl
 ·rfl
 ·show PyData.eqvAll _ _=_
  rw[zgv,Ys];simp
theorem ziY:∀ (x y:KN),PyData.eqvAll (x.map dI) (y.map dI)=decide (x=y)
 | [],[]=>rfl
 | [],_::_=>rfl
 | _::_,[]=>rfl
 | a::x,b::y=>by
  show (PyData.eqv (dI a) (dI b) && PyData.eqvAll (x.map dI) (y.map dI))=_
  rw[ziY x y,zm0,Ys]
  simp
theorem zgr:∀ x:List Int,PyData.canLayAll0 (x.map PyData.int)=true/\PyData.depthAll (x.map PyData.int)<=0
 | []=>⟨rfl,Jg _⟩
 | a::x=>by
  obtain⟨p,q⟩:=zgr x
  refine⟨?_,?_⟩
  ·show (PyData.canLay0 (.int a) && PyData.canLayAll0 (x.map PyData.int))=true
   rw[p];rfl
  ·show max 0 (PyData.depthAll (x.map PyData.int))<=0
   lia
theorem ziE (ks:KN):(dN ks).canLay0=true/\(dN ks).depth<=2:=by
 have key:∀ e∈ks.map dI,e.canLay0=true/\e.depth<=1:=λe a=>by
  obtain⟨k,_,rfl⟩:=JD.mp a
  cases k with
  | inl i=>exact⟨rfl,by show 0<=1;lia⟩
  | inr xs =>
   obtain⟨p,q⟩:=zgr xs
   refine⟨p,?_⟩
   show PyData.depthAll (xs.map PyData.int)+1<=1
   lia
 obtain⟨p,q⟩:=zfV key
 refine⟨p,?_⟩
 show PyData.depthAll (ks.map dI)+1<=2
 lia
theorem zl4 {s:Shared}{x y:KN}{a b:Addr}{Q:Bool->Shared->Prop}(i:A.units+2<cLine) (g:NIs prog w s.heap x a) (f:NIs prog w s.heap y b) (q:Q (decide (x=y)) s):wpAny (model prog w) A (eqBool (.ref a) (.ref b)) Q E s:=by
 obtain⟨as,d⟩:=g.reads
 obtain⟨bs,c⟩:=f.reads
 obtain⟨p1,p2⟩:=ziE x
 obtain⟨e,h⟩:=ziE y
 refine PySem.SeqAt.eqBoolOverData prog w A E s _ _ _ _ as bs Q d c p1 e (by lia) ?_
 rw[show PyData.eqv (dN x) (dN y)=PyData.eqvAll (x.map dI) (y.map dI) from rfl,ziY]
 exact q
variable (prog w)
def zbq:HeapKind prog w KN where
 is:=NIs prog w
 hash:=λks=>reduceHash (Builtin.Tuple.tupleHashOf (ks.map (nh1 prog w)))
 draws:=λks=>nds ks+1
 room:=λA=>A.units+2<cLine
 inj:=λb a=>NIs.inj b a
 keeps:=λx f hd e=>NIs.keeps x f hd e
 pyHash:=λd c h=>ziP (by lia) c h
 eqBool:=λd b a h=>zl4 d b a h
 quiet:=λc h=>zdA c h
end L2
namespace Ts
open PySem PyProof.Rows
structure Cmp (prog:Program) (w:World) (A:Around) (s:Shared) (κ:SortKind) (P:Keyed->Prop) (rk:Keyed->Int):Prop where
 ask:∀ (x y:Keyed),P x->P y->∀ {Q:Bool->Shared->Prop}{E:Value->Shared->Prop},Q (decide (rk x<rk y)) s->wpAny (model prog w) A (keyLt' κ x.1 y.1) Q E s
def R (rk:Keyed->Int) (xs:Array Keyed) (i:Nat):Int:=match xs[i]? with
 | some p=>rk p
 | none=>0
theorem R_congr {rk:Keyed->Int}{xs ys:Array Keyed}{i j:Nat}(h:xs[i]?=ys[j]?):R rk xs i=R rk ys j:=by unfold R;rw[h]
def Up (rk:Keyed->Int) (xs:Array Keyed) (lo n:Nat):Prop:=∀ i j,lo<=i->i<=j->j<lo+n->R rk xs i<=R rk xs j
def Dn (rk:Keyed->Int) (xs:Array Keyed) (lo n:Nat):Prop:=∀ i j,lo<=i->i<=j->j<lo+n->R rk xs j<=R rk xs i
structure Bs (κ:SortKind) (P:Keyed->Prop) (a₀:Array Keyed) (st:SortSt):Prop where
 kind:kindOf st=κ
 fail:failedOf st=none
 perm:(arrOf st).Perm a₀
 all:∀ p∈a₀.toList,P p
theorem Bs.size {κ:SortKind}{P:Keyed->Prop}{a₀:Array Keyed}{st:SortSt}(h:Bs κ P a₀ st):(arrOf st).size=a₀.size:=h.perm.size_eq
theorem Bs.at {κ:SortKind}{P:Keyed->Prop}{a₀:Array Keyed}{st:SortSt}(h:Bs κ P a₀ st) {i:Nat}(hi:i<a₀.size) (rk:Keyed->Int):∃ p,(arrOf st)[i]?=some p/\P p/\R rk (arrOf st) i=rk p:=by
 have e:(arrOf st)[i]?=some ((arrOf st)[i]'(by rw[h.size];exact hi)):=getElem?_pos (arrOf st) i (by rw[h.size];exact hi)
 refine⟨_,e,h.all _ ((Array.perm_iff_toList_perm.mp h.perm).mem_iff.mp (by simp)),?_⟩
 unfold R;rw[e]
theorem Bs.arr {κ:SortKind}{P:Keyed->Prop}{a₀:Array Keyed}{st:SortSt}(h:Bs κ P a₀ st) {xs:Array Keyed}(a:xs.Perm (arrOf st)):Bs κ P a₀ (setArr st xs):=⟨h.kind,h.fail,a.trans h.perm,h.all⟩
section
variable {prog:Program}{w:World}{A:Around}{E:Value->Shared->Prop}{s:Shared}{κ:SortKind}{P:Keyed->Prop}{rk:Keyed->Int}{a₀:Array Keyed}
theorem zix (C:Cmp prog w A s κ P rk) {st:SortSt}{x y:Keyed}{Q:Option Bool->SortSt->Prop}(b:kindOf st=κ) (a:P x) (py:P y) (h:Q (some (decide (rk x<rk y))) st):wpS (model prog w) A E s (lt' x y) Q st:=by
 rw[lt'_eq]
 refine Jj (Wg (Jj (wpS_lift (ZE ?_))))
 rw[b]
 exact C.ask x y a py ⟨rfl,Jh h⟩
theorem zcB {r:String}{st:SortSt}{Q:Unit->SortSt->Prop}(h:Q () st):wpS (model prog w) A E s (liftM (rule r):StateT SortSt Sem Unit) Q st:=wpS_lift (YT ⟨rfl,h⟩)
theorem zan {st:SortSt}{arr:Array Keyed}{i:Nat}{p:Keyed}{Q:Keyed->SortSt->Prop}(e:arr[i]?=some p) (h:Q p st):wpS (model prog w) A E s (elem' arr i) Q st:=by
 rw[elem'_eq,e];exact Jh h
theorem ziy (C:Cmp prog w A s κ P rk) {st:SortSt}{i j:Nat}{Q:Option Bool->SortSt->Prop}(a:Bs κ P a₀ st) (hi:i<a₀.size) (e:j<a₀.size) (h:Q (some (decide (R rk (arrOf st) i<R rk (arrOf st) j))) st):wpS (model prog w) A E s (ltAt' i j) Q st:=by
 obtain⟨p,f,pp,c⟩:=a.at hi rk
 obtain⟨q,e2,d,b⟩:=a.at e rk
 rw[c,b]at h
 rw[ltAt'_eq]
 exact Jj (Wg (Jj (zan f (Jj (zan e2 (zix C a.kind pp d h))))))
structure Keep (κ:SortKind) (P:Keyed->Prop) (rk:Keyed->Int) (a₀:Array Keyed) (lo:Nat) (st st':SortSt):Prop where
 b:Bs κ P a₀ st'
 pend:pendingOf st'=pendingOf st
 low:∀ k,k<lo->R rk (arrOf st') k=R rk (arrOf st) k
theorem Keep.refl {lo:Nat}{st:SortSt}(h:Bs κ P a₀ st):Keep κ P rk a₀ lo st st:=⟨h,rfl,λ_ _=>rfl⟩
theorem Keep.trans {lo:Nat}{st a st2:SortSt}(h:Keep κ P rk a₀ lo st a) (g:Keep κ P rk a₀ lo a st2):Keep κ P rk a₀ lo st st2:=⟨g.b,g.pend.trans h.pend,λk b=>(g.low k b).trans (h.low k b)⟩
theorem R_mirror {xs:Array Keyed}{i j:Nat}(a:j<=xs.size) (k:Nat):R rk (mirror xs i j ((j-i) / 2)) k=if i<=k/\k<j then R rk xs (i+j-1-k) else R rk xs k:=by
 have e:=getElem?_mirror_all (xs:=xs) (i:=i) a k
 split at e
 ·next h=>rw[Jf h];exact R_congr e
 ·next h=>rw[Jb h];exact R_congr e
theorem zf6 {lo i j:Nat}{st:SortSt}{Q:Unit->SortSt->Prop}(a:Bs κ P a₀ st) (c:lo<=i) (b:j<=a₀.size)
  (h:∀ st',Keep κ P rk a₀ lo st st'->(∀ k,R rk (arrOf st') k=if i<=k/\k<j then R rk (arrOf st) (i+j-1-k) else R rk (arrOf st) k)->Q () st'):wpS (model prog w) A E s (reverseSlice' i j) Q st:=by
 rw[reverseSlice'_eq]
 refine Wi (h _ ⟨a.arr (mirror_perm _ _ _ _),rfl,λk d=>?_⟩ λk=>?_)
 ·show R rk (mirror (arrOf st) i j ((j-i) / 2)) k=_
  rw[R_mirror (by rw[a.size];exact b),Jb (by lia)]
 ·exact R_mirror (by rw[a.size];exact b) k
theorem zkx (C:Cmp prog w A s κ P rk) {st:SortSt}{lo g:Nat}{Q:Option Nat->SortSt->Prop}(v:Bs κ P a₀ st) (h1:1<=g) (hn:lo+g<=a₀.size)
  (h:∀ st' m,Keep κ P rk a₀ lo st st'->1<=m->m<=g->Up rk (arrOf st') lo m->Q (some m) st'):wpS (model prog w) A E s (countRun' lo g) Q st:=by
 have asc:∀ (st:SortSt) (u:Nat) {S:Option (Option Nat) × Nat->SortSt->Prop},Bs κ P a₀ st->1<=u->Up rk (arrOf st) lo u ->
   (∀ n,u<=n->n<=max u g->Up rk (arrOf st) lo n->(n<g->R rk (arrOf st) (lo+n)<R rk (arrOf st) (lo+n-1))->S (none,n) st)->
   ∀ f:Nat->Option (Option Nat) × Nat->StateT SortSt Sem (ForInStep (Option (Option Nat) × Nat)),(∀ i n,f i (none,n)=(do
    let some t <- ltAt' (lo+n) (lo+n-1)|pure (.done (some none,n))
    if t then pure (.done (none,n)) else pure (.yield (none,n+1))))->wpS (model prog w) A E s (forIn [u:g] (none,u) f) S st:=by
  intro st u S v h0 y B f hf
  refine Yv (I:=λi c st'=>st'=st/\c=(none,i)/\u<=i/\Up rk (arrOf st) lo i) ?_ ?_ ⟨rfl,rfl,Jg _,y⟩
  ·rintro i c st' hi W ⟨rfl,rfl,K,o⟩
   rw[hf]
   refine Jj (ziy C v (by lia) (by lia) ?_)
   by_cases z:R rk (arrOf st') (lo+i)<R rk (arrOf st') (lo+i-1)
   ·rw[JE z]
    exact Jh (B i K (by lia) o λ_=>z)
   ·rw[Jv z]
    refine Jh ⟨rfl,rfl,by lia,λa b ha j hb=>?_⟩
    by_cases q:b<lo+i
    ·exact o a b ha j q
    ·obtain rfl:b=lo+i:=by lia
     by_cases G:a=lo+i
     ·rw[G];exact Ze _
     ·have:=o a (lo+i-1) ha (by lia) (by lia)
      lia
  ·rintro c st' ⟨rfl,rfl,K,o⟩
   exact B _ K (Jg _) o λq=>by lia
 rw[countRun'_eq]
 refine Jj (asc st 1 v (Jg _) (λa b h1 h2 K=>by rw[show a=b by lia];exact Ze _) (λn n1 n2 y O=>?_) _ (λi n=>rfl))
 dsimp only
 by_cases z:n=g
 ·subst z
  rw[Jf (Zx _)]
  exact Jh (h _ _ (Keep.refl v) n1 (Jg _) y)
 rw[Jb (by simpa using z)]
 have nl:n<g:=by lia
 have O:=O nl
 generalize hT:(bind (liftM (rule "list.sort.descending-run")) _:StateT SortSt Sem (Option Nat))=T
 have tail:∀ l,Keep κ P rk a₀ lo st l->Dn rk (arrOf l) lo n->R rk (arrOf l) (lo+n)<R rk (arrOf l) (lo+n-1)->wpS (model prog w) A E s T Q l:=by
  intro l V d1 l1
  rw[<- hT]
  refine Jj (zcB ?_)
  have last:∀ st2 m,Keep κ P rk a₀ lo st st2->1<=m->m<=g->Dn rk (arrOf st2) lo m->∀ d,Keep κ P rk a₀ lo st2 d->(∀ k,R rk (arrOf d) k=if lo<=k/\k<lo+m then R rk (arrOf st2) (lo+(lo+m)-1-k) else R rk (arrOf st2) k)->Up rk (arrOf d) lo m:=by
   intro st2 m p M Z r d x D a b ha j hb
   rw[D,D,Jf ⟨by lia,by lia⟩,Jf ⟨by lia,by lia⟩]
   exact r _ _ (by lia) (by lia) (by lia)
  refine Jj (YX (Yv (I:=λi c st2=>∃ m q,c=(none,m,q)/\m=i/\q+1<=m/\Keep κ P rk a₀ lo st st2/\(i<=g->Dn rk (arrOf st2) lo m/\∀ k,lo+m-(q+1)<=k->k<lo+m->R rk (arrOf st2) k=R rk (arrOf st2) (lo+m-1)))
   (Q:=λc st2=>∃ m q,c=(none,m,q)/\1<=m/\m<=g/\q+1<=m/\Keep κ P rk a₀ lo st st2/\Dn rk (arrOf st2) lo m/\∀ k,lo+m-(q+1)<=k->k<lo+m->R rk (arrOf st2) k=R rk (arrOf st2) (lo+m-1)) ?step ?fin ?init) ?post)
  case init =>
   refine⟨n+1,0,rfl,rfl,by lia,V,λ_=>⟨λa b ha j hb=>?_,λk k1 N=>by rw[show k=lo+(n+1)-1 by lia]⟩⟩
   by_cases q:b<lo+n
   ·exact d1 a b ha j q
   ·obtain rfl:b=lo+n:=by lia
    by_cases G:a=lo+n
    ·rw[G];exact Ze _
    ·have:=d1 a (lo+n-1) ha (by lia) (by lia)
     lia
  case fin =>
   rintro c st2 ⟨m,q,rfl,e,B,p,hd⟩
   obtain⟨r,eq2⟩:=hd (by lia)
   exact⟨m,q,rfl,by lia,by lia,B,p,r,eq2⟩
  case step =>
   rintro i c st2 hi W ⟨m,q,rfl,rfl,B,p,hd⟩
   obtain⟨r,eq2⟩:=hd (by lia)
   dsimp only
   refine Jj (ziy C p.b (by lia) (by lia) ?_)
   have more:∀ d,Dn rk (arrOf d) lo m->R rk (arrOf d) (lo+m)<=R rk (arrOf d) (lo+m-1)->Dn rk (arrOf d) lo (m+1):=by
    intro d L le a b ha j hb
    by_cases q:b<lo+m
    ·exact L a b ha j q
    ·obtain rfl:b=lo+m:=by lia
     by_cases G:a=lo+m
     ·rw[G];exact Ze _
     ·have:=L a (lo+m-1) ha (by lia) (by lia)
      lia
   by_cases z1:R rk (arrOf st2) (lo+m)<R rk (arrOf st2) (lo+m-1)
   ·rw[JE z1]
    dsimp only
    rw[Jf rfl]
    by_cases F:q > 0
    ·rw[Jf F]
     refine Jj (zf6 (rk:=rk) (lo:=lo) p.b (by lia) (by lia) λd x D=>Jh ?_)
     have same:∀ k,R rk (arrOf d) k=R rk (arrOf st2) k:=λk=>by
      rw[D]
      split
      ·rw[eq2 _ (by lia) (by lia),eq2 k (by lia) (by lia)]
      ·rfl
     refine⟨m+1,0,rfl,rfl,by lia,p.trans x,λ_=>⟨more d (λa b ha j hb=>by rw[same,same];exact r a b ha j hb) (by rw[same,same];lia),λk k1 N=>by rw[show k=lo+(m+1)-1 by lia]⟩⟩
    ·rw[Jb F]
     exact Jh ⟨m+1,0,rfl,rfl,by lia,p,λ_=>⟨more st2 r (by lia),λk k1 N=>by rw[show k=lo+(m+1)-1 by lia]⟩⟩
   ·rw[Jv z1]
    dsimp only
    rw[Jb Jp]
    refine Jj (ziy C p.b (by lia) (by lia) ?_)
    by_cases z2:R rk (arrOf st2) (lo+m-1)<R rk (arrOf st2) (lo+m)
    ·rw[JE z2]
     dsimp only
     rw[Jf rfl]
     exact Jh ⟨m,q,rfl,by lia,by lia,B,p,r,eq2⟩
    ·rw[Jv z2]
     dsimp only
     rw[Jb Jp]
     have e:R rk (arrOf st2) (lo+m)=R rk (arrOf st2) (lo+m-1):=by lia
     refine Jh ⟨m+1,q+1,rfl,rfl,by lia,p,λ_=>⟨more st2 r (by lia),λk k1 N=>?_⟩⟩
     rw[show lo+(m+1)-1=lo+m by lia]
     by_cases q3:k=lo+m
     ·rw[q3]
     ·rw[eq2 k (by lia) (by lia),e]
  case post =>
   rintro c st2 ⟨m,q,rfl,M,Z,B,p,r,eq2⟩
   dsimp only
   generalize X:(bind (reverseSlice' lo (lo+m)) _:StateT SortSt Sem (Option Nat))=T2
   have on:∀ d,Keep κ P rk a₀ lo st d->Dn rk (arrOf d) lo m->wpS (model prog w) A E s T2 Q d:=by
    intro d x L
    rw[<- X]
    refine Jj (zf6 (rk:=rk) (lo:=lo) x.b (by lia) (by lia) λH U r4=>?_)
    refine Jj (asc H m U.b M (last d m x M Z L H U r4) (λn' a1 a2 o _=>?_) _ (λi n=>rfl))
    exact Jh (h _ _ (x.trans U) (by lia) (by lia) o)
   by_cases F:q > 0
   ·rw[Jf F]
    refine Jj (zf6 (rk:=rk) (lo:=lo) p.b (by lia) (by lia) λd x D=>?_)
    have same:∀ k,R rk (arrOf d) k=R rk (arrOf st2) k:=λk=>by
     rw[D]
     split
     ·rw[eq2 _ (by lia) (by lia),eq2 k (by lia) (by lia)]
     ·rfl
    exact on d (p.trans x) (λa b ha j hb=>by rw[same,same];exact r a b ha j hb)
   ·rw[Jb F]
    exact on st2 p r
 by_cases z2:n > 1
 ·rw[Jf z2]
  refine Jj (ziy C v (by lia) (by lia) ?_)
  by_cases Y:R rk (arrOf st) lo<R rk (arrOf st) (lo+n-1)
  ·rw[JE Y]
   exact Jh (h _ _ (Keep.refl v) n1 (by lia) y)
  ·rw[Jv Y]
   dsimp only
   rw[Jb Jp]
   refine Jj (zf6 (rk:=rk) (lo:=lo) v (by lia) (by lia) λl V J=>tail l V (λa b ha j hb=>?_) ?_)
   ·rw[J,J,Jf ⟨by lia,by lia⟩,Jf ⟨by lia,by lia⟩]
    exact y _ _ (by lia) (by lia) (by lia)
   ·rw[J,J,Jb (by lia),Jf ⟨by lia,by lia⟩]
    have:=y (lo+(lo+n)-1-(lo+n-1)) (lo+n-1) (by lia) (by lia) (by lia)
    have e:lo+(lo+n)-1-(lo+n-1)=lo:=by lia
    rw[e]at this ⊢
    have:=y lo (lo+n-1) (by lia) (by lia) (by lia)
    lia
 ·rw[Jb z2]
  exact tail st (Keep.refl v) (λa b ha j hb=>by rw[show a=b by lia];exact Ze _) O
end
section
variable {prog:Program}{w:World}{A:Around}{E:Value->Shared->Prop}{s:Shared}{κ:SortKind}{P:Keyed->Prop}{rk:Keyed->Int}{a₀:Array Keyed}
theorem R_bubble {xs:Array Keyed}{src d:Nat}(b:src<xs.size) (hd:d<=src) (k:Nat):R rk (bubble xs src d) k=if k=src-d then R rk xs src else if src-d<k/\k<=src then R rk xs (k-1) else R rk xs k:=by
 have e:=getElem?_bubble (xs:=xs) b d hd k
 by_cases h1:k=src-d
 ·rw[Jf h1]at e ⊢;exact R_congr e
 ·rw[Jb h1]at e ⊢
  by_cases a:(src-d<k/\k<=src)
  ·rw[Jf a]at e ⊢;exact R_congr e
  ·rw[Jb a]at e ⊢;exact R_congr e
theorem zm3 (C:Cmp prog w A s κ P rk) {st:SortSt}{lo n ok:Nat}{Q:Bool->SortSt->Prop}(v:Bs κ P a₀ st) (h1:1<=ok) (hok:ok<=n) (H:lo+n<=a₀.size) (G:Up rk (arrOf st) lo ok)
  (h:∀ st',Keep κ P rk a₀ lo st st'->Up rk (arrOf st') lo n->Q true st'):wpS (model prog w) A E s (binarySort' lo n ok) Q st:=by
 rw[binarySort'_eq]
 rw[show max ok 1=ok by lia]
 refine Jj (YX (Yv (I:=λk c a=>c=(none,())/\Keep κ P rk a₀ lo st a/\Up rk (arrOf a) lo (min k n)) (Q:=λc a=>c=(none,())/\Keep κ P rk a₀ lo st a/\Up rk (arrOf a) lo n) ?step ?fin ?init) ?post)
 case init=>exact⟨rfl,Keep.refl v,by rwa [Zi hok]⟩
 case fin =>
  rintro c a ⟨rfl,e,b⟩
  rw[show min (max ok n) n=n by lia]at b
  exact⟨rfl,e,b⟩
 case post =>
  rintro c a ⟨rfl,e,b⟩
  exact Jh (h a e b)
 case step =>
  rintro k c a B y ⟨rfl,e,b⟩
  rw[show min k n=k by lia]at b
  refine Jj (YX (Yv (I:=λx c st2=>st2=a/\∃ l r,c=(none,l,r)/\l<=r/\r<=k/\r-l<=k-x/\(∀ i,lo<=i->i<lo+l->R rk (arrOf a) i<=R rk (arrOf a) (lo+k))/\(∀ i,lo+r<=i->i<lo+k->R rk (arrOf a) (lo+k)<=R rk (arrOf a) i))
   (Q:=λc st2=>st2=a/\∃ l r,c=(none,l,r)/\l<=k/\(∀ i,lo<=i->i<lo+l->R rk (arrOf a) i<=R rk (arrOf a) (lo+k))/\(∀ i,lo+l<=i->i<lo+k->R rk (arrOf a) (lo+k)<=R rk (arrOf a) i)) ?istep ?ifin ?iinit) ?ipost)
  case iinit=>exact⟨rfl,0,k,rfl,by lia,by lia,by lia,λi _ _=>by lia,λi _ _=>by lia⟩
  case ifin =>
   rintro c st2 ⟨rfl,l,r,rfl,u,f,m,o,g⟩
   obtain rfl:l=r:=by lia
   exact⟨rfl,l,l,rfl,f,o,g⟩
  case istep =>
   rintro x c st2 _ F ⟨rfl,l,r,rfl,u,f,m,o,g⟩
   dsimp only
   by_cases ge:l>=r
   ·rw[Jf ge]
    obtain rfl:l=r:=by lia
    exact Jh ⟨rfl,l,l,rfl,f,o,g⟩
   ·rw[Jb ge]
    refine Jj (ziy C e.b (by lia) (by lia) ?_)
    by_cases z:R rk (arrOf st2) (lo+k)<R rk (arrOf st2) (lo+(l+r) / 2)
    ·rw[JE z]
     refine Jh ⟨rfl,l,(l+r) / 2,rfl,by lia,by lia,by lia,o,λi i1 i2=>?_⟩
     have:=b (lo+(l+r) / 2) i (by lia) i1 (by lia)
     lia
    ·rw[Jv z]
     refine Jh ⟨rfl,(l+r) / 2+1,r,rfl,by lia,by lia,by lia,λi i1 i2=>?_,g⟩
     have:=b i (lo+(l+r) / 2) i1 (by lia) (by lia)
     lia
  case ipost =>
   rintro c st2 ⟨rfl,l,r,rfl,D,o,g⟩
   dsimp only
   rw[moveDown'_eq]
   have sz:=e.b.size
   have p:∀ j,R rk (arrOf (setArr st2 (bubble (arrOf st2) (lo+k) (lo+k-(lo+l))))) j=if j=lo+l then R rk (arrOf st2) (lo+k) else if lo+l<j/\j<=lo+k then R rk (arrOf st2) (j-1) else R rk (arrOf st2) j:=λj=>by
    have:=R_bubble (rk:=rk) (xs:=arrOf st2) (src:=lo+k) (d:=lo+k-(lo+l)) (by rw[sz];lia) (by lia) j
    rw[show lo+k-(lo+k-(lo+l))=lo+l by lia]at this
    exact this
   refine Jj (Wi (Jh ⟨rfl,e.trans ⟨e.b.arr (bubble_perm _ _ _),rfl,λj t=>?_⟩,λi j hi q t=>?_⟩))
   ·rw[p,Jb (by lia),Jb (by lia)]
   ·rw[show min (k+1) n=k+1 by lia]at t
    rw[p,p]
    by_cases a1:i=lo+l
    ·rw[Jf a1]
     by_cases b1:j=lo+l
     ·rw[Jf b1];exact Ze _
     ·rw[Jb b1,Jf ⟨by lia,by lia⟩]
      exact g _ (by lia) (by lia)
    ·rw[Jb a1]
     by_cases a2:lo+l<i/\i<=lo+k
     ·rw[Jf a2,Jb (by lia),Jf ⟨by lia,by lia⟩]
      exact b _ _ (by lia) (by lia) (by lia)
     ·rw[Jb a2]
      by_cases b1:j=lo+l
      ·rw[Jf b1];exact o _ hi (by lia)
      ·rw[Jb b1]
       by_cases b2:lo+l<j/\j<=lo+k
       ·rw[Jf b2];exact b _ _ hi (by lia) (by lia)
       ·rw[Jb b2];exact b _ _ hi q (by lia)
end
def zl1:Bool->Keyed->Array Keyed->Nat->Nat->Nat->StateT SortSt Sem (Option Nat):=sortPriv% PySem.Builtin.gallop
def bd (left:Bool) (k r:Int):Bool:=if left=true then decide (r<k) else !decide (k<r)
theorem zma {left:Bool}{k r a:Int}(h:r<=a) (b:bd left k a=true):bd left k r=true:=by
 unfold bd at *
 cases left
 ·simp only[Y7,YV,ZV,JV]at *;omega
 ·simp only[Yk,Y0]at *;omega
section
variable {prog:Program}{w:World}{A:Around}{E:Value->Shared->Prop}{s:Shared}{κ:SortKind}{P:Keyed->Prop}{rk:Keyed->Int}
theorem zjj (C:Cmp prog w A s κ P rk) {st:SortSt}{left:Bool}{key:Keyed}{arr:Array Keyed}{j:Nat}{Q:Option Bool->SortSt->Prop}(d:kindOf st=κ) (c:P key) (a:∃ p,arr[j]?=some p/\P p) (h:Q (some (bd left (rk key) (R rk arr j))) st) :
  wpS (model prog w) A E s (elem' arr j >>= λx=>if left=true then lt' x key else (lt' key x >>= λr=>pure (r.map λb=>!b))) Q st:=by
 obtain⟨p,e,pp⟩:=a
 have r:R rk arr j=rk p:=by unfold R;rw[e]
 rw[r]at h
 refine Jj (zan e ?_)
 unfold bd at h
 cases left
 ·rw[Jb Jp]at h ⊢
  exact Jj (zix C d c pp (Jh h))
 ·rw[Jf rfl]at h ⊢
  exact zix C d pp c h
theorem zbs (C:Cmp prog w A s κ P rk) {st:SortSt}{left:Bool}{key:Keyed}{arr:Array Keyed}{base n hint:Nat}{Q:Option Nat->SortSt->Prop}(y:kindOf st=κ) (v:P key) (e:∀ i,i<n->∃ p,arr[base+i]?=some p/\P p) (O:Up rk arr base n) (S:hint<n)
  (h:∀ k,k<=n->(∀ i,i<k->bd left (rk key) (R rk arr (base+i))=true)->(∀ i,k<=i->i<n->bd left (rk key) (R rk arr (base+i))=false)->Q (some k) st):wpS (model prog w) A E s (zl1 left key arr base n hint) Q st:=by
 have F:∀ i j,i<=j->j<n->bd left (rk key) (R rk arr (base+j))=true->bd left (rk key) (R rk arr (base+i))=true:=λi j h1 D b=>zma (O _ _ (by omega) (by omega) (by omega)) b
 have up:∀ i j,i<=j->j<n->bd left (rk key) (R rk arr (base+i))=false->bd left (rk key) (R rk arr (base+j))=false:=λi j h1 D b=>by
  cases q:bd left (rk key) (R rk arr (base+j)) with
  | false=>rfl
  | true=>rw[F i j h1 D q]at b;cases b
 refine Jj (zjj C y v (e hint S) ?_)
 dsimp only
 have half:∀ (lo hi:Nat) (f:Nat->Option (Option Nat) × Nat × Nat->StateT SortSt Sem (ForInStep (Option (Option Nat) × Nat × Nat))),lo<=hi->hi<=n ->
   (∀ i,i<lo->bd left (rk key) (R rk arr (base+i))=true)->(∀ i,hi<=i->i<n->bd left (rk key) (R rk arr (base+i))=false) ->
   (∀ x l r (t:ForInStep (Option (Option Nat) × Nat × Nat)->SortSt->Prop),(r<=l->t (.done (none,l,r)) st)->(l<r->r<=n->bd left (rk key) (R rk arr (base+(l+(r-l) / 2)))=true->t (.yield (none,l+(r-l) / 2+1,r)) st) ->
    (l<r->r<=n->bd left (rk key) (R rk arr (base+(l+(r-l) / 2)))=false->t (.yield (none,l,l+(r-l) / 2)) st)->r<=n->wpS (model prog w) A E s (f x (none,l,r)) t st) ->
   wpS (model prog w) A E s (forIn [:n] (none,lo,hi) f) (λc st'=>st'=st/\∃ k,c=(none,k,k)/\Q (some k) st) st:=by
  intro lo hi f h1 D V U T
  refine Yv (I:=λx c st'=>st'=st/\∃ l r,c=(none,l,r)/\l<=r/\r<=n/\r-l<=n-x/\(∀ i,i<l->bd left (rk key) (R rk arr (base+i))=true)/\(∀ i,r<=i->i<n->bd left (rk key) (R rk arr (base+i))=false)) ?_ ?_ ⟨rfl,lo,hi,rfl,h1,D,by omega,V,U⟩
  ·rintro x c st' _ M ⟨rfl,l,r,rfl,N,d,m,a1,a2⟩
   refine T x l r _ (λz=>?_) (λz1 z2 b=>?_) (λz1 z2 b=>?_) d
   ·obtain rfl:l=r:=by omega
    exact⟨rfl,l,rfl,h l d a1 a2⟩
   ·exact⟨rfl,_,r,rfl,by omega,d,by omega,λi B=>F i _ (by omega) (by omega) b,a2⟩
   ·exact⟨rfl,l,_,rfl,by omega,by omega,by omega,a1,λi i1 i2=>up _ i i1 i2 b⟩
  ·rintro c st' ⟨rfl,l,r,rfl,N,d,m,a1,a2⟩
   obtain rfl:l=r:=by omega
   exact⟨rfl,l,rfl,h l d a1 a2⟩
 cases hb:bd left (rk key) (R rk arr (base+hint)) with
 | true =>
  rw[Jf rfl]
  refine Jj (YX (Yv (I:=λx c st'=>st'=st/\∃ l o,c=(none,l,o)/\x+1<=o/\l<o/\hint+l<n/\bd left (rk key) (R rk arr (base+(hint+l)))=true)
   (Q:=λc st'=>st'=st/\∃ l o,c=(none,l,o)/\l<o/\hint+l<n/\bd left (rk key) (R rk arr (base+(hint+l)))=true/\(o<n-hint->bd left (rk key) (R rk arr (base+(hint+o)))=false)) ?_ ?_ ⟨rfl,0,1,rfl,by omega,by omega,by omega,hb⟩) ?_)
  ·rintro x c st' _ M ⟨rfl,l,o,rfl,G,a,ln,b⟩
   dsimp only
   by_cases z:o>=n-hint
   ·rw[Jf z]
    exact Jh ⟨rfl,l,o,rfl,a,ln,b,λq=>by omega⟩
   ·rw[Jb z]
    refine Jj (zjj C y v (e (hint+o) (by omega)) ?_)
    cases q:bd left (rk key) (R rk arr (base+(hint+o))) with
    | true=>exact Jh ⟨rfl,o,2*o+1,rfl,by omega,by omega,by omega,q⟩
    | false=>exact Jh ⟨rfl,l,o,rfl,a,ln,b,λ_=>q⟩
  ·rintro c st' ⟨rfl,l,o,rfl,G,a,ln,b⟩
   exact⟨rfl,l,o,rfl,a,ln,b,λq=>by omega⟩
  ·rintro c st' ⟨rfl,l,o,rfl,a,ln,b,nb⟩
   dsimp only
   refine Jj (YX (half _ _ _ (by omega) (by omega) (λi B=>F i _ (by omega) ln b) (λi i1 i2=>?_) ?_) ?_)
   ·have q:o<n-hint:=by omega
    exact up _ i (by omega) i2 (nb q)
   ·intro x g u t K J H d
    dsimp only
    by_cases z:g>=u
    ·rw[Jf z];exact Jh (K z)
    ·rw[Jb z]
     refine Jj (zjj C y v (e _ (by omega)) ?_)
     cases q:bd left (rk key) (R rk arr (base+(g+(u-g) / 2))) with
     | true=>exact Jh (J (by omega) d q)
     | false=>exact Jh (H (by omega) d q)
   ·rintro c st' ⟨rfl,k,rfl,L⟩
    exact Jh L
 | false =>
  rw[Jb Jp]
  refine Jj (YX (Yv (I:=λx c st'=>st'=st/\∃ l o,c=(none,l,o)/\x+1<=o/\l<o/\l<=hint/\bd left (rk key) (R rk arr (base+(hint-l)))=false)
   (Q:=λc st'=>st'=st/\∃ l o,c=(none,l,o)/\l<o/\l<=hint/\bd left (rk key) (R rk arr (base+(hint-l)))=false/\(o<hint+1->bd left (rk key) (R rk arr (base+(hint-o)))=true)) ?_ ?_ ⟨rfl,0,1,rfl,by omega,by omega,by omega,hb⟩) ?_)
  ·rintro x c st' _ M ⟨rfl,l,o,rfl,G,a,ln,b⟩
   dsimp only
   by_cases z:o>=hint+1
   ·rw[Jf z]
    exact Jh ⟨rfl,l,o,rfl,a,ln,b,λq=>by omega⟩
   ·rw[Jb z]
    refine Jj (zjj C y v (e (hint-o) (by omega)) ?_)
    cases q:bd left (rk key) (R rk arr (base+(hint-o))) with
    | true=>exact Jh ⟨rfl,l,o,rfl,a,ln,b,λ_=>q⟩
    | false=>exact Jh ⟨rfl,o,2*o+1,rfl,by omega,by omega,by omega,q⟩
  ·rintro c st' ⟨rfl,l,o,rfl,G,a,ln,b⟩
   exact⟨rfl,l,o,rfl,a,ln,b,λq=>by omega⟩
  ·rintro c st' ⟨rfl,l,o,rfl,a,ln,b,nb⟩
   dsimp only
   refine Jj (YX (half _ _ _ (by omega) (by omega) (λi B=>?_) (λi i1 i2=>up _ i i1 i2 b) ?_) ?_)
   ·have q:o<hint+1:=by omega
    exact F i _ (by omega) (by omega) (nb q)
   ·intro x g u t K J H d
    dsimp only
    by_cases z:g>=u
    ·rw[Jf z];exact Jh (K z)
    ·rw[Jb z]
     refine Jj (zjj C y v (e _ (by omega)) ?_)
     cases q:bd left (rk key) (R rk arr (base+(g+(u-g) / 2))) with
     | true=>exact Jh (J (by omega) d q)
     | false=>exact Jh (H (by omega) d q)
   ·rintro c st' ⟨rfl,k,rfl,L⟩
    exact Jh L
end
def Srt (rk:Keyed->Int) (l:List Keyed):Prop:=l.Pairwise λx y=>rk x<=rk y
structure Lo (rk:Keyed->Int) (T out a b:List Keyed):Prop where
 so:Srt rk out
 sa:Srt rk a
 sb:Srt rk b
 oa:∀ x∈out,∀ y∈a,rk x<=rk y
 ob:∀ x∈out,∀ y∈b,rk x<=rk y
 pm:(out++(a++b)).Perm T
section
variable {rk:Keyed->Int}{T out a b c:List Keyed}
theorem Lo.swap (h:Lo rk T out a b):Lo rk T out b a:=⟨h.so,h.sb,h.sa,h.ob,h.oa,((ZY (l₁:=b) (l₂:=a)).append_left out).trans h.pm⟩
theorem Lo.take (h:Lo rk T out (c++a) b) (le:∀ x∈c,∀ y∈b,rk x<=rk y):Lo rk T (out++c) a b:=by
 obtain⟨s1,s2,f⟩:=Yq.mp h.sa
 refine⟨Yq.mpr ⟨h.so,s1,λx e y d=>h.oa x e y (Yp _ d)⟩,s2,h.sb,λx e y d=>?_,λx e y d=>?_,?_⟩
 ·rcases JB.mp e with q|q
  ·exact h.oa x q y (Jz _ d)
  ·exact f x q y d
 ·rcases JB.mp e with q|q
  ·exact h.ob x q y d
  ·exact le x q y d
 ·have:=h.pm
  rw[JU]at this ⊢
  exact this
theorem Lo.end (h:Lo rk T out a []):(out++a).Perm T/\Srt rk (out++a):=by
 have:=h.pm
 rw[Y2]at this
 exact⟨this,Yq.mpr ⟨h.so,h.sa,h.oa⟩⟩
theorem Lo.lone (h:Lo rk T out a b) (le:∀ x∈b,∀ y∈a,rk x<=rk y):(out++b++a).Perm T/\Srt rk (out++b++a):=by
 refine⟨?_,Yq.mpr ⟨Yq.mpr ⟨h.so,h.sb,h.ob⟩,h.sa,λx d y c=>?_⟩⟩
 ·rw[JU]
  exact((ZY (l₁:=b) (l₂:=a)).append_left out).trans h.pm
 ·rcases JB.mp d with q|q
  ·exact h.oa x q y c
  ·exact le x q y c
theorem zfK {arr:Array Keyed}{i:Nat}{p:Keyed}(e:arr[i]?=some p):arr.toList.drop i=p::arr.toList.drop (i+1):=by
 obtain⟨hi,e⟩:=JW.mp e
 have a:i<arr.toList.length:=by rw[JA];exact hi
 rw[YL a,Array.getElem_toList,e]
theorem zea (arr:Array Keyed) (i k:Nat):arr.toList.drop i=(arr.extract i (i+k)).toList++arr.toList.drop (i+k):=by
 rw[Zs,YY,Nat.add_sub_cancel_left,<- List.drop_drop,ZX]
theorem zdG (arr:Array Keyed) (i:Nat):(arr.extract i).toList=arr.toList.drop i:=by
 rw[Zs,YY]
 exact JQ (by rw[Y9,JA];exact Jg _)
theorem zl7 {arr:Array Keyed}{i k:Nat}{x:Keyed}(h:x∈(arr.extract i (i+k)).toList):∃ j,j<k/\arr[i+j]?=some x:=by
 rw[Zs,YY,Nat.add_sub_cancel_left]at h
 obtain⟨j,a⟩:=Zk.mp h
 have b:j<k:=by
  have:=(Jc.mp a).1
  rw[Jy]at this;lia
 rw[Z6 b,Wj]at a
 exact⟨j,b,by rw[<- Y6];exact a⟩
theorem zbK {arr:Array Keyed}{i:Nat}{x:Keyed}(h:x∈arr.toList.drop i):∃ j,arr[i+j]?=some x:=by
 obtain⟨j,a⟩:=Zk.mp h
 rw[Wj]at a
 exact⟨j,by rw[<- Y6];exact a⟩
theorem R_at {arr:Array Keyed}{i:Nat}{p:Keyed}(e:arr[i]?=some p):R rk arr i=rk p:=by unfold R;rw[e]
theorem zb8 {arr:Array Keyed}(h:Srt rk arr.toList) {base n:Nat}(c:base+n<=arr.size):Up rk arr base n:=by
 intro i j hi b d
 have h1:arr[i]?=some arr[i]:=getElem?_pos arr i (by lia)
 have a:arr[j]?=some arr[j]:=getElem?_pos arr j (by lia)
 rw[R_at h1,R_at a]
 by_cases z:i=j
 ·subst z;exact Ze _
 ·have:=List.pairwise_iff_getElem.mp h i j (by rw[JA];lia) (by rw[JA];lia) (by lia)
  simpa using this
theorem zbP {arr:Array Keyed}{i:Nat}{p:Keyed}(h:Srt rk arr.toList) (e:arr[i]?=some p):∀ y∈arr.toList.drop i,rk p<=rk y:=by
 have a:Srt rk (arr.toList.drop i):=List.Pairwise.drop h
 rw[zfK e]at a ⊢
 obtain⟨h1,_⟩:=List.pairwise_cons.mp a
 intro y b
 rcases Jt.mp b with rfl|q
 ·exact Ze _
 ·exact h1 y q
end
section
variable {rk:Keyed->Int}{T:List Keyed}{out a b:Array Keyed}{ia ib k:Nat}{p:Keyed}
abbrev At (rk:Keyed->Int) (T:List Keyed) (out a b:Array Keyed) (ia ib:Nat):Prop:=Lo rk T out.toList (a.toList.drop ia) (b.toList.drop ib)
theorem At.pushA (h:At rk T out a b ia ib) (e:a[ia]?=some p) (le:∀ y∈b.toList.drop ib,rk p<=rk y):At rk T (out.push p) a b (ia+1) ib:=by
 have h':=h
 unfold At at h' ⊢
 rw[zfK e]at h'
 rw[Zn]
 exact Lo.take (c:=[p]) h' λx f y d=>by rw[Je.mp f];exact le y d
theorem At.pushB (h:At rk T out a b ia ib) (e:b[ib]?=some p) (le:∀ y∈a.toList.drop ia,rk p<=rk y):At rk T (out.push p) a b ia (ib+1):=(At.pushA (a:=b) (b:=a) h.swap e le).swap
theorem At.cutA (h:At rk T out a b ia ib) (le:∀ j x,j<k->a[ia+j]?=some x->∀ y∈b.toList.drop ib,rk x<=rk y):At rk T (out++a.extract ia (ia+k)) a b (ia+k) ib:=by
 have h':=h
 unfold At at h' ⊢
 rw[zea a ia k]at h'
 rw[Y8]
 exact Lo.take h' λx f y d=>by
  obtain⟨j,c,e⟩:=zl7 f
  exact le j x c e y d
theorem At.cutB (h:At rk T out a b ia ib) (le:∀ j x,j<k->b[ib+j]?=some x->∀ y∈a.toList.drop ia,rk x<=rk y):At rk T (out++b.extract ib (ib+k)) a b ia (ib+k):=(At.cutA (a:=b) (b:=a) h.swap le).swap
theorem At.endB (h:At rk T out a b ia ib) (z:b.size<=ib):(out++a.extract ia++b.extract ib).toList.Perm T/\Srt rk (out++a.extract ia++b.extract ib).toList:=by
 have h':=h
 unfold At at h'
 have e:b.toList.drop ib=[]:=List.drop_eq_nil_iff.mpr (by rw[JA];exact z)
 rw[e]at h'
 rw[Y8,Y8,zdG,zdG,e,Y2]
 exact h'.end
theorem At.endA (h:At rk T out a b ia ib) (z:a.size<=ia):(out++a.extract ia++b.extract ib).toList.Perm T/\Srt rk (out++a.extract ia++b.extract ib).toList:=by
 have h':=h.swap
 have e:a.toList.drop ia=[]:=List.drop_eq_nil_iff.mpr (by rw[JA];exact z)
 rw[e]at h'
 rw[Y8,Y8,zdG,zdG,e,Y2]
 exact h'.end
theorem At.lastA (h:At rk T out a b ia ib) (le:∀ x∈b.toList.drop ib,∀ y∈a.toList.drop ia,rk x<=rk y):(out++b.extract ib++a.extract ia).toList.Perm T/\Srt rk (out++b.extract ib++a.extract ia).toList:=by
 rw[Y8,Y8,zdG,zdG]
 exact Lo.lone h le
end
def zj8:Array Keyed->Array Keyed->StateT SortSt Sem (Array Keyed):=sortPriv% PySem.Builtin.mergeLo
def zld:Nat->StateT SortSt Sem Unit:=sortPriv% PySem.Builtin.setMinGallop
structure Sm (st st':SortSt):Prop where
 kind:kindOf st'=kindOf st
 arr:arrOf st'=arrOf st
 pend:pendingOf st'=pendingOf st
 fail:failedOf st'=failedOf st
theorem Sm.refl (st:SortSt):Sm st st:=⟨rfl,rfl,rfl,rfl⟩
theorem Sm.trans {a b c:SortSt}(h:Sm a b) (g:Sm b c):Sm a c:=⟨g.kind.trans h.kind,g.arr.trans h.arr,g.pend.trans h.pend,g.fail.trans h.fail⟩
section
variable {prog:Program}{w:World}{A:Around}{E:Value->Shared->Prop}{s:Shared}{κ:SortKind}{P:Keyed->Prop}{rk:Keyed->Int}
theorem zdB {st:SortSt}{g:Nat}{Q:Unit->SortSt->Prop}(h:∀ st',Sm st st'->Q () st'):wpS (model prog w) A E s (zld g) Q st :=
 Wi (h _ ⟨rfl,rfl,rfl,rfl⟩)
theorem znt (C:Cmp prog w A s κ P rk) {st:SortSt}{a b:Array Keyed}{Q:Array Keyed->SortSt->Prop}(hk:kindOf st=κ) (pa:∀ x∈a.toList,P x) (pb:∀ x∈b.toList,P x) (sa:Srt rk a.toList) (sb:Srt rk b.toList) (a1:1<=a.size) (b1:1<=b.size)
  (first:∀ x,b[0]?=some x->∀ y∈a.toList,rk x<=rk y) (last:∀ x,a[a.size-1]?=some x->∀ y∈b.toList,rk y<=rk x)
  (h:∀ r st',Sm st st'->r.toList.Perm (a.toList++b.toList)->Srt rk r.toList->Q r st'):wpS (model prog w) A E s (zj8 a b) Q st:=by
 have U:∀ i,i<a.size->∃ x,a[i]?=some x/\P x:=λi hi=>⟨_,getElem?_pos a i hi,pa _ (by simp)⟩
 have T:∀ i,i<b.size->∃ x,b[i]?=some x/\P x:=λi hi=>⟨_,getElem?_pos b i hi,pb _ (by simp)⟩
 obtain⟨b0,e0,_⟩:=T 0 b1
 have lone:∀ {out:Array Keyed}{ia ib:Nat},At rk (a.toList++b.toList) out a b ia ib->ia+1=a.size->(out++b.extract ib++a.extract ia).toList.Perm (a.toList++b.toList)/\Srt rk (out++b.extract ib++a.extract ia).toList:=λ{out ia ib} L z=>L.lastA λx hx y hy=>by
  obtain⟨j,ej⟩:=zbK hy
  have:=(JW.mp ej).1
  exact last y (by rw[show a.size-1=ia+j by lia];exact ej) x (List.mem_of_mem_drop hx)
 have L0:At rk (a.toList++b.toList) #[b0] a b 0 1:=by
  have e:=zfK e0
  rw[ZU]at e
  have hb:=sb
  unfold Srt at hb
  rw[e]at hb
  obtain⟨h1,h2⟩:=List.pairwise_cons.mp hb
  refine⟨ZR _ _,by rw[ZU];exact sa,h2,λx hx y hy=>?_,λx hx y hy=>?_,?_⟩
  ·rw[Je.mp hx];exact first b0 e0 y (List.mem_of_mem_drop hy)
  ·rw[Je.mp hx];exact h1 y hy
  ·rw[ZU]
   conv=>rhs;rw[e]
   show (b0::(a.toList++b.toList.drop 1)).Perm (a.toList++b0::b.toList.drop 1)
   exact List.perm_middle.symm
 have size:∀ {out:Array Keyed}{ia ib:Nat},At rk (a.toList++b.toList) out a b ia ib->out.size<=a.size+b.size:=λ{out ia ib} L=>by
  have:=L.pm.length_eq
  simp only[Jd,JA]at this
  lia
 refine Jj (zcB ?_)
 refine Jj (zan e0 ?_)
 dsimp only
 by_cases z1:1=b.size
 ·rw[Jf (by simpa using z1)]
  obtain⟨l,f⟩:=L0.endB (by lia)
  exact Jh (h _ _ (Sm.refl _) l f)
 rw[Jb (by simpa using z1)]
 by_cases z2:0+1=a.size
 ·rw[Jf (by simpa using z2)]
  obtain⟨l,f⟩:=lone L0 z2
  exact Jh (h _ _ (Sm.refl _) l f)
 rw[Jb (by simpa using z2)]
 refine Jj (Wg ?_)
 refine Jj (YX (Yv (I:=λi c M=>Sm st M/\∃ out ia ib g,c=(none,out,ia,ib,g)/\At rk (a.toList++b.toList) out a b ia ib/\ia+1<a.size/\ib<b.size/\i+1<=out.size)
  (Q:=λc M=>Sm st M/\∃ r x,c=(some r,x)/\r.toList.Perm (a.toList++b.toList)/\Srt rk r.toList) ?step ?fin ⟨Sm.refl _,_,_,_,_,rfl,L0,by lia,by lia,by simp⟩) ?post)
 case post =>
  rintro c M ⟨S1,r,x,rfl,l,f⟩
  exact Jh (h _ _ S1 l f)
 case fin =>
  rintro c M ⟨S1,out,ia,ib,g,rfl,L,_,_,sz⟩
  have:=size L
  lia
 case step =>
  rintro i c M _ hi ⟨S1,out,ia,ib,g,rfl,L,la,V,sz⟩
  dsimp only
  refine Jj (YX (Yv (I:=λj c st2=>st2=M/\∃ out ia ib ca W,c=(none,out,ia,ib,ca,W)/\At rk (a.toList++b.toList) out a b ia ib/\ia+1<a.size/\ib<b.size/\i+1+j<=out.size)
   (Q:=λc st2=>st2=M/\((∃ r x,c=(some r,x)/\r.toList.Perm (a.toList++b.toList)/\Srt rk r.toList)\/∃ out ia ib ca W,c=(none,out,ia,ib,ca,W)/\At rk (a.toList++b.toList) out a b ia ib/\ia+1<a.size/\ib<b.size/\i+2<=out.size)) ?_ ?_ ⟨rfl,_,_,_,_,_,rfl,L,la,V,by lia⟩) ?_)
  ·rintro j c st2 _ hj ⟨rfl,out,ia,ib,ca,W,rfl,L,la,V,sz⟩
   dsimp only
   obtain⟨x,ex,px⟩:=U ia (by lia)
   obtain⟨y,J,py⟩:=T ib V
   refine Jj (zan J (Jj (zan ex (Jj (zix C (S1.kind.trans hk) py px ?_)))))
   by_cases z:rk y<rk x
   ·rw[JE z]
    dsimp only
    rw[Jf rfl]
    have L':=L.pushB J λu N=>Zy (Int.le_of_lt z) (zbP sa ex u N)
    refine Jj (zan J ?_)
    by_cases H:ib+1=b.size
    ·rw[Jf (by simpa using H)]
     obtain⟨l,f⟩:=L'.endB (by lia)
     exact Jh ⟨rfl,.inl ⟨_,_,rfl,l,f⟩⟩
    ·rw[Jb (by simpa using H)]
     by_cases zg:W+1>=g
     ·rw[Jf zg]
      exact Jh ⟨rfl,.inr ⟨_,_,_,_,_,rfl,L',la,by lia,by rw[Jx];lia⟩⟩
     ·rw[Jb zg]
      exact Jh ⟨rfl,_,_,_,_,_,rfl,L',la,by lia,by rw[Jx];lia⟩
   ·rw[Jv z]
    dsimp only
    rw[Jb Jp]
    have L':=L.pushA ex λu N=>Zy (by lia) (zbP sb J u N)
    refine Jj (zan ex ?_)
    by_cases H:ia+1+1=a.size
    ·rw[Jf (by simpa using H)]
     obtain⟨l,f⟩:=lone L' H
     exact Jh ⟨rfl,.inl ⟨_,_,rfl,l,f⟩⟩
    ·rw[Jb (by simpa using H)]
     by_cases zg:ca+1>=g
     ·rw[Jf zg]
      exact Jh ⟨rfl,.inr ⟨_,_,_,_,_,rfl,L',by lia,V,by rw[Jx];lia⟩⟩
     ·rw[Jb zg]
      exact Jh ⟨rfl,_,_,_,_,_,rfl,L',by lia,V,by rw[Jx];lia⟩
  ·rintro c st2 ⟨rfl,out,ia,ib,ca,W,rfl,L,la,V,sz⟩
   have:=size L
   lia
  ·rintro c st2 ⟨rfl,⟨r,x,rfl,l,f⟩|⟨out,ia,ib,ca,W,rfl,L,la,V,sz⟩⟩
   ·exact Jh ⟨S1,r,_,rfl,l,f⟩
   dsimp only
   refine Jj (zcB ?_)
   refine Jj (YX (Yv (I:=λj c X=>Sm st X/\∃ out ia ib g ca W,c=(none,out,ia,ib,g,ca,W)/\At rk (a.toList++b.toList) out a b ia ib/\ia+1<a.size/\ib<b.size/\i+2<=out.size)
    (Q:=λc X=>Sm st X/\((∃ r x,c=(some r,x)/\r.toList.Perm (a.toList++b.toList)/\Srt rk r.toList)\/∃ out ia ib g ca W,c=(none,out,ia,ib,g,ca,W)/\At rk (a.toList++b.toList) out a b ia ib/\ia+1<a.size/\ib<b.size/\i+2<=out.size)) ?_ ?_ ⟨S1,_,_,_,_,_,_,rfl,L,la,V,sz⟩) ?_)
   ·rintro j c X _ hj ⟨S3,out,ia,ib,g,ca,W,rfl,L,la,V,sz⟩
    dsimp only
    obtain⟨y,J,py⟩:=T ib V
    by_cases zg:g > 1
    ·rw[Jf zg]
     refine Jj (zdB λad m=>?_)
     have m:=S3.trans m
     refine Jj (zan J (Jj (zbs C (m.kind.trans hk) py (λt ht=>U (ia+t) (by lia)) (zb8 sa (by lia)) (by lia) λk ae g1 g2=>?_)))
     dsimp only
     have O:=L.cutA (k:=k) λt u tk eu v Z=>by
      have:=g1 t tk
      rw[R_at eu]at this
      unfold bd at this
      simp only[Y7,YV,ZV,JV]at this
      have:=zbP sb J v Z
      lia
     have hle:∀ u∈a.toList.drop (ia+k),rk y<=rk u:=λu N=>by
      obtain⟨t,K⟩:=zbK N
      have tl:=(JW.mp K).1
      have:=g2 (k+t) (by lia) (by lia)
      rw[<- Zj,R_at K]at this
      unfold bd at this
      simp only[Y7,YV,Wk,Y0]at this
      lia
     have D:i+2<=(out++a.extract ia (ia+k)).size:=by rw[Ju];lia
     by_cases zk:k > 0
     ·rw[Jf zk]
      by_cases za:ia+k+1=a.size
      ·rw[Jf (by simpa using za)]
       obtain⟨l,f⟩:=lone O za
       exact Jh ⟨m,.inl ⟨_,_,rfl,l,f⟩⟩
      rw[Jb (by simpa using za)]
      by_cases zc:ia+k=a.size
      ·rw[Jf (by simpa using zc)]
       obtain⟨l,f⟩:=O.endA (by lia)
       exact Jh ⟨m,.inl ⟨_,_,rfl,l,f⟩⟩
      rw[Jb (by simpa using zc)]
      have G:ia+k+1<a.size:=by lia
      generalize ia+k=S at O hle G D ⊢
      generalize out++a.extract ia S=out1 at O D ⊢
      refine Jj (zan J ?_)
      have L2:=O.pushB J hle
      by_cases H:ib+1=b.size
      ·rw[Jf (by simpa using H)]
       obtain⟨l,f⟩:=L2.endB (by lia)
       exact Jh ⟨m,.inl ⟨_,_,rfl,l,f⟩⟩
      rw[Jb (by simpa using H)]
      obtain⟨x1,d,R⟩:=U _ (Nat.lt_of_succ_lt G)
      refine Jj (zan d (Jj (zbs C (m.kind.trans hk) R (λt ht=>T (ib+1+t) (by lia)) (zb8 sb (by lia)) (by lia) λp ab c1 c2=>?_)))
      dsimp only
      have L3:=L2.cutB (k:=p) λt u tk eu v Z=>by
       have:=c1 t tk
       rw[R_at eu]at this
       unfold bd at this
       simp only[Yk,Y0]at this
       have:=zbP sa d v Z
       lia
      have n:∀ u∈b.toList.drop (ib+1+p),rk x1<=rk u:=λu N=>by
       obtain⟨t,K⟩:=zbK N
       have tl:=(JW.mp K).1
       have:=c2 (p+t) (by lia) (by lia)
       rw[<- Zj,R_at K]at this
       unfold bd at this
       simp only[Yk,JV]at this
       lia
      have aa:=D
      by_cases B:p > 0
      ·rw[Jf B]
       by_cases Y:ib+1+p=b.size
       ·rw[Jf (by simpa using Y)]
        obtain⟨l,f⟩:=L3.endB (by lia)
        exact Jh ⟨m,.inl ⟨_,_,rfl,l,f⟩⟩
       rw[Jb (by simpa using Y)]
       have F:ib+1+p<b.size:=by lia
       refine Jj (zan d ?_)
       have q:=L3.pushA d n
       by_cases o:S+1+1=a.size
       ·rw[Jf (by simpa using o)]
        obtain⟨l,f⟩:=lone q o
        exact Jh ⟨m,.inl ⟨_,_,rfl,l,f⟩⟩
       rw[Jb (by simpa using o)]
       split
       ·exact Jh ⟨m,.inr ⟨_,_,_,_,_,_,rfl,q,by lia,F,by simp only[Jx,Ju];lia⟩⟩
       ·exact Jh ⟨m,_,_,_,_,_,_,rfl,q,by lia,F,by simp only[Jx,Ju];lia⟩
      ·rw[Jb B]
       obtain rfl:p=0:=by lia
       rw[YH]at n
       refine Jj (zan d ?_)
       have q:=L2.pushA d n
       by_cases o:S+1+1=a.size
       ·rw[Jf (by simpa using o)]
        obtain⟨l,f⟩:=lone q o
        exact Jh ⟨m,.inl ⟨_,_,rfl,l,f⟩⟩
       rw[Jb (by simpa using o)]
       split
       ·exact Jh ⟨m,.inr ⟨_,_,_,_,_,_,rfl,q,by lia,by lia,by simp only[Jx,Ju];lia⟩⟩
       ·exact Jh ⟨m,_,_,_,_,_,_,rfl,q,by lia,by lia,by simp only[Jx,Ju];lia⟩
     ·rw[Jb zk]
      obtain rfl:k=0:=by lia
      have O:=L
      have G:=la
      have D:=sz
      rw[YH]at hle
      refine Jj (zan J ?_)
      have L2:=O.pushB J hle
      by_cases H:ib+1=b.size
      ·rw[Jf (by simpa using H)]
       obtain⟨l,f⟩:=L2.endB (by lia)
       exact Jh ⟨m,.inl ⟨_,_,rfl,l,f⟩⟩
      rw[Jb (by simpa using H)]
      obtain⟨x1,d,R⟩:=U _ (Nat.lt_of_succ_lt G)
      refine Jj (zan d (Jj (zbs C (m.kind.trans hk) R (λt ht=>T (ib+1+t) (by lia)) (zb8 sb (by lia)) (by lia) λp ab c1 c2=>?_)))
      dsimp only
      have L3:=L2.cutB (k:=p) λt u tk eu v Z=>by
       have:=c1 t tk
       rw[R_at eu]at this
       unfold bd at this
       simp only[Yk,Y0]at this
       have:=zbP sa d v Z
       lia
      have n:∀ u∈b.toList.drop (ib+1+p),rk x1<=rk u:=λu N=>by
       obtain⟨t,K⟩:=zbK N
       have tl:=(JW.mp K).1
       have:=c2 (p+t) (by lia) (by lia)
       rw[<- Zj,R_at K]at this
       unfold bd at this
       simp only[Yk,JV]at this
       lia
      have aa:=D
      by_cases B:p > 0
      ·rw[Jf B]
       by_cases Y:ib+1+p=b.size
       ·rw[Jf (by simpa using Y)]
        obtain⟨l,f⟩:=L3.endB (by lia)
        exact Jh ⟨m,.inl ⟨_,_,rfl,l,f⟩⟩
       rw[Jb (by simpa using Y)]
       have F:ib+1+p<b.size:=by lia
       refine Jj (zan d ?_)
       have q:=L3.pushA d n
       by_cases o:ia+1+1=a.size
       ·rw[Jf (by simpa using o)]
        obtain⟨l,f⟩:=lone q o
        exact Jh ⟨m,.inl ⟨_,_,rfl,l,f⟩⟩
       rw[Jb (by simpa using o)]
       split
       ·exact Jh ⟨m,.inr ⟨_,_,_,_,_,_,rfl,q,by lia,F,by simp only[Jx,Ju];lia⟩⟩
       ·exact Jh ⟨m,_,_,_,_,_,_,rfl,q,by lia,F,by simp only[Jx,Ju];lia⟩
      ·rw[Jb B]
       obtain rfl:p=0:=by lia
       rw[YH]at n
       refine Jj (zan d ?_)
       have q:=L2.pushA d n
       by_cases o:ia+1+1=a.size
       ·rw[Jf (by simpa using o)]
        obtain⟨l,f⟩:=lone q o
        exact Jh ⟨m,.inl ⟨_,_,rfl,l,f⟩⟩
       rw[Jb (by simpa using o)]
       split
       ·exact Jh ⟨m,.inr ⟨_,_,_,_,_,_,rfl,q,by lia,by lia,by simp only[Jx,Ju];lia⟩⟩
       ·exact Jh ⟨m,_,_,_,_,_,_,rfl,q,by lia,by lia,by simp only[Jx,Ju];lia⟩
    ·rw[Jb zg]
     refine Jj (zdB λad m=>?_)
     have m:=S3.trans m
     refine Jj (zan J (Jj (zbs C (m.kind.trans hk) py (λt ht=>U (ia+t) (by lia)) (zb8 sa (by lia)) (by lia) λk ae g1 g2=>?_)))
     dsimp only
     have O:=L.cutA (k:=k) λt u tk eu v Z=>by
      have:=g1 t tk
      rw[R_at eu]at this
      unfold bd at this
      simp only[Y7,YV,ZV,JV]at this
      have:=zbP sb J v Z
      lia
     have hle:∀ u∈a.toList.drop (ia+k),rk y<=rk u:=λu N=>by
      obtain⟨t,K⟩:=zbK N
      have tl:=(JW.mp K).1
      have:=g2 (k+t) (by lia) (by lia)
      rw[<- Zj,R_at K]at this
      unfold bd at this
      simp only[Y7,YV,Wk,Y0]at this
      lia
     have D:i+2<=(out++a.extract ia (ia+k)).size:=by rw[Ju];lia
     by_cases zk:k > 0
     ·rw[Jf zk]
      by_cases za:ia+k+1=a.size
      ·rw[Jf (by simpa using za)]
       obtain⟨l,f⟩:=lone O za
       exact Jh ⟨m,.inl ⟨_,_,rfl,l,f⟩⟩
      rw[Jb (by simpa using za)]
      by_cases zc:ia+k=a.size
      ·rw[Jf (by simpa using zc)]
       obtain⟨l,f⟩:=O.endA (by lia)
       exact Jh ⟨m,.inl ⟨_,_,rfl,l,f⟩⟩
      rw[Jb (by simpa using zc)]
      have G:ia+k+1<a.size:=by lia
      generalize ia+k=S at O hle G D ⊢
      generalize out++a.extract ia S=out1 at O D ⊢
      refine Jj (zan J ?_)
      have L2:=O.pushB J hle
      by_cases H:ib+1=b.size
      ·rw[Jf (by simpa using H)]
       obtain⟨l,f⟩:=L2.endB (by lia)
       exact Jh ⟨m,.inl ⟨_,_,rfl,l,f⟩⟩
      rw[Jb (by simpa using H)]
      obtain⟨x1,d,R⟩:=U _ (Nat.lt_of_succ_lt G)
      refine Jj (zan d (Jj (zbs C (m.kind.trans hk) R (λt ht=>T (ib+1+t) (by lia)) (zb8 sb (by lia)) (by lia) λp ab c1 c2=>?_)))
      dsimp only
      have L3:=L2.cutB (k:=p) λt u tk eu v Z=>by
       have:=c1 t tk
       rw[R_at eu]at this
       unfold bd at this
       simp only[Yk,Y0]at this
       have:=zbP sa d v Z
       lia
      have n:∀ u∈b.toList.drop (ib+1+p),rk x1<=rk u:=λu N=>by
       obtain⟨t,K⟩:=zbK N
       have tl:=(JW.mp K).1
       have:=c2 (p+t) (by lia) (by lia)
       rw[<- Zj,R_at K]at this
       unfold bd at this
       simp only[Yk,JV]at this
       lia
      have aa:=D
      by_cases B:p > 0
      ·rw[Jf B]
       by_cases Y:ib+1+p=b.size
       ·rw[Jf (by simpa using Y)]
        obtain⟨l,f⟩:=L3.endB (by lia)
        exact Jh ⟨m,.inl ⟨_,_,rfl,l,f⟩⟩
       rw[Jb (by simpa using Y)]
       have F:ib+1+p<b.size:=by lia
       refine Jj (zan d ?_)
       have q:=L3.pushA d n
       by_cases o:S+1+1=a.size
       ·rw[Jf (by simpa using o)]
        obtain⟨l,f⟩:=lone q o
        exact Jh ⟨m,.inl ⟨_,_,rfl,l,f⟩⟩
       rw[Jb (by simpa using o)]
       split
       ·exact Jh ⟨m,.inr ⟨_,_,_,_,_,_,rfl,q,by lia,F,by simp only[Jx,Ju];lia⟩⟩
       ·exact Jh ⟨m,_,_,_,_,_,_,rfl,q,by lia,F,by simp only[Jx,Ju];lia⟩
      ·rw[Jb B]
       obtain rfl:p=0:=by lia
       rw[YH]at n
       refine Jj (zan d ?_)
       have q:=L2.pushA d n
       by_cases o:S+1+1=a.size
       ·rw[Jf (by simpa using o)]
        obtain⟨l,f⟩:=lone q o
        exact Jh ⟨m,.inl ⟨_,_,rfl,l,f⟩⟩
       rw[Jb (by simpa using o)]
       split
       ·exact Jh ⟨m,.inr ⟨_,_,_,_,_,_,rfl,q,by lia,by lia,by simp only[Jx,Ju];lia⟩⟩
       ·exact Jh ⟨m,_,_,_,_,_,_,rfl,q,by lia,by lia,by simp only[Jx,Ju];lia⟩
     ·rw[Jb zk]
      obtain rfl:k=0:=by lia
      have O:=L
      have G:=la
      have D:=sz
      rw[YH]at hle
      refine Jj (zan J ?_)
      have L2:=O.pushB J hle
      by_cases H:ib+1=b.size
      ·rw[Jf (by simpa using H)]
       obtain⟨l,f⟩:=L2.endB (by lia)
       exact Jh ⟨m,.inl ⟨_,_,rfl,l,f⟩⟩
      rw[Jb (by simpa using H)]
      obtain⟨x1,d,R⟩:=U _ (Nat.lt_of_succ_lt G)
      refine Jj (zan d (Jj (zbs C (m.kind.trans hk) R (λt ht=>T (ib+1+t) (by lia)) (zb8 sb (by lia)) (by lia) λp ab c1 c2=>?_)))
      dsimp only
      have L3:=L2.cutB (k:=p) λt u tk eu v Z=>by
       have:=c1 t tk
       rw[R_at eu]at this
       unfold bd at this
       simp only[Yk,Y0]at this
       have:=zbP sa d v Z
       lia
      have n:∀ u∈b.toList.drop (ib+1+p),rk x1<=rk u:=λu N=>by
       obtain⟨t,K⟩:=zbK N
       have tl:=(JW.mp K).1
       have:=c2 (p+t) (by lia) (by lia)
       rw[<- Zj,R_at K]at this
       unfold bd at this
       simp only[Yk,JV]at this
       lia
      have aa:=D
      by_cases B:p > 0
      ·rw[Jf B]
       by_cases Y:ib+1+p=b.size
       ·rw[Jf (by simpa using Y)]
        obtain⟨l,f⟩:=L3.endB (by lia)
        exact Jh ⟨m,.inl ⟨_,_,rfl,l,f⟩⟩
       rw[Jb (by simpa using Y)]
       have F:ib+1+p<b.size:=by lia
       refine Jj (zan d ?_)
       have q:=L3.pushA d n
       by_cases o:ia+1+1=a.size
       ·rw[Jf (by simpa using o)]
        obtain⟨l,f⟩:=lone q o
        exact Jh ⟨m,.inl ⟨_,_,rfl,l,f⟩⟩
       rw[Jb (by simpa using o)]
       split
       ·exact Jh ⟨m,.inr ⟨_,_,_,_,_,_,rfl,q,by lia,F,by simp only[Jx,Ju];lia⟩⟩
       ·exact Jh ⟨m,_,_,_,_,_,_,rfl,q,by lia,F,by simp only[Jx,Ju];lia⟩
      ·rw[Jb B]
       obtain rfl:p=0:=by lia
       rw[YH]at n
       refine Jj (zan d ?_)
       have q:=L2.pushA d n
       by_cases o:ia+1+1=a.size
       ·rw[Jf (by simpa using o)]
        obtain⟨l,f⟩:=lone q o
        exact Jh ⟨m,.inl ⟨_,_,rfl,l,f⟩⟩
       rw[Jb (by simpa using o)]
       split
       ·exact Jh ⟨m,.inr ⟨_,_,_,_,_,_,rfl,q,by lia,by lia,by simp only[Jx,Ju];lia⟩⟩
       ·exact Jh ⟨m,_,_,_,_,_,_,rfl,q,by lia,by lia,by simp only[Jx,Ju];lia⟩
   ·rintro c X ⟨S3,out,ia,ib,g,ca,W,rfl,L,la,V,sz⟩
    exact⟨S3,.inr ⟨_,_,_,_,_,_,rfl,L,la,V,sz⟩⟩
   ·rintro c X ⟨S3,⟨r,x,rfl,l,f⟩|⟨out,ia,ib,g,ca,W,rfl,L,la,V,sz⟩⟩
    ·exact Jh ⟨S3,r,_,rfl,l,f⟩
    dsimp only
    refine Jj (zdB λad m=>?_)
    exact Jh ⟨S3.trans m,_,_,_,_,rfl,L,la,V,by lia⟩
end
def zj9:Array Keyed->Array Keyed->StateT SortSt Sem (Array Keyed):=sortPriv% PySem.Builtin.mergeHi
structure Hi (rk:Keyed->Int) (T a b out:List Keyed):Prop where
 sa:Srt rk a
 sb:Srt rk b
 so:Srt rk out
 ao:∀ x∈a,∀ y∈out,rk x<=rk y
 bo:∀ x∈b,∀ y∈out,rk x<=rk y
 pm:(a++b++out).Perm T
section
variable {rk:Keyed->Int}{T out a b c:List Keyed}
theorem Hi.swap (h:Hi rk T a b out):Hi rk T b a out:=⟨h.sb,h.sa,h.so,h.bo,h.ao,((ZY (l₁:=b) (l₂:=a)).append_right out).trans h.pm⟩
theorem Hi.take (h:Hi rk T (a++c) b out) (le:∀ x∈b,∀ y∈c,rk x<=rk y):Hi rk T a b (c++out):=by
 obtain⟨s1,s2,f⟩:=Yq.mp h.sa
 refine⟨s1,h.sb,Yq.mpr ⟨s2,h.so,λx d y e=>h.ao x (Jz _ d) y e⟩,λx d y e=>?_,λx d y e=>?_,?_⟩
 ·rcases JB.mp e with q|q
  ·exact f x d y q
  ·exact h.ao x (Yp _ d) y q
 ·rcases JB.mp e with q|q
  ·exact le x d y q
  ·exact h.bo x d y q
 ·refine List.Perm.trans ?_ h.pm
  rw[<- JU]
  refine List.Perm.append_right out ?_
  rw[JU,JU]
  exact List.Perm.append_left a ZY
theorem Hi.end (h:Hi rk T [] b out):(b++out).Perm T/\Srt rk (b++out):=⟨h.pm,Yq.mpr ⟨h.sb,h.so,h.bo⟩⟩
theorem Hi.lone (h:Hi rk T a b out) (le:∀ x∈b,∀ y∈a,rk x<=rk y):(b++a++out).Perm T/\Srt rk (b++a++out):=by
 refine⟨((ZY (l₁:=b) (l₂:=a)).append_right out).trans h.pm,Yq.mpr ⟨Yq.mpr ⟨h.sb,h.sa,le⟩,h.so,λx d y c=>?_⟩⟩
 rcases JB.mp d with q|q
 ·exact h.bo x q y c
 ·exact h.ao x q y c
theorem zk5 {arr:Array Keyed}{n:Nat}{p:Keyed}(h1:1<=n) (e:arr[n-1]?=some p):arr.toList.take n=arr.toList.take (n-1)++[p]:=by
 obtain⟨hi,e⟩:=JW.mp e
 have a:n-1<arr.toList.length:=by rw[JA];exact hi
 have:=Yg a
 rw[Nat.sub_add_cancel h1,Array.getElem_toList,e]at this
 exact this
theorem zju (arr:Array Keyed) {i n:Nat}(h:i<=n):arr.toList.take n=arr.toList.take i++(arr.extract i n).toList:=by
 rw[Zs,YY]
 have:=List.take_add (l:=arr.toList) (i:=i) (j:=n-i)
 rw[show i+(n-i)=n by lia]at this
 exact this
theorem zdj (arr:Array Keyed) (n:Nat):(arr.extract 0 n).toList=arr.toList.take n:=by
 rw[Zs,YY,ZU,Nat.sub_zero]
theorem zdk {arr:Array Keyed}{i n:Nat}{x:Keyed}(h:x∈(arr.extract i n).toList):∃ j,i<=j/\j<n/\arr[j]?=some x:=by
 rw[Zs,YY]at h
 obtain⟨j,a⟩:=Zk.mp h
 have b:j<n-i:=by
  have:=(Jc.mp a).1
  rw[Jy]at this;lia
 rw[Z6 b,Wj]at a
 exact⟨i+j,by lia,by lia,by rw[<- Y6];exact a⟩
theorem zbn {arr:Array Keyed}{n:Nat}{x:Keyed}(h:x∈arr.toList.take n):∃ j,j<n/\arr[j]?=some x:=by
 obtain⟨j,a⟩:=Zk.mp h
 have b:j<n:=by
  have:=(Jc.mp a).1
  rw[Jy]at this;lia
 rw[Z6 b]at a
 exact⟨j,b,by rw[<- Y6];exact a⟩
theorem zbv {arr:Array Keyed}{n:Nat}{p:Keyed}(h:Srt rk arr.toList) (h1:1<=n) (e:arr[n-1]?=some p):∀ y∈arr.toList.take n,rk y<=rk p:=by
 intro y a
 obtain⟨j,c,b⟩:=zbn a
 have d:=(JW.mp e).1
 have:=zb8 h (base:=0) (n:=n) (by lia) j (n-1) (JN _) (by lia) (by lia)
 rw[R_at b,R_at e]at this
 exact this
end
section
variable {rk:Keyed->Int}{T:List Keyed}{out a b:Array Keyed}{na nb i:Nat}{p:Keyed}
abbrev Bt (rk:Keyed->Int) (T:List Keyed) (a b out:Array Keyed) (na nb:Nat):Prop:=Hi rk T (a.toList.take na) (b.toList.take nb) out.toList.reverse
theorem Bt.pushA (h:Bt rk T a b out na nb) (h1:1<=na) (e:a[na-1]?=some p) (le:∀ x∈b.toList.take nb,rk x<=rk p):Bt rk T a b (out.push p) (na-1) nb:=by
 have h':=h
 unfold Bt at h' ⊢
 rw[zk5 h1 e]at h'
 rw[Zn,List.reverse_append]
 exact Hi.take (c:=[p]) h' λx f y d=>by rw[Je.mp d];exact le x f
theorem Bt.pushB (h:Bt rk T a b out na nb) (h1:1<=nb) (e:b[nb-1]?=some p) (le:∀ x∈a.toList.take na,rk x<=rk p):Bt rk T a b (out.push p) na (nb-1):=(Bt.pushA (a:=b) (b:=a) h.swap h1 e le).swap
theorem Bt.cutA (h:Bt rk T a b out na nb) (hi:i<=na) (le:∀ j x,i<=j->j<na->a[j]?=some x->∀ y∈b.toList.take nb,rk y<=rk x):Bt rk T a b (out++(a.extract i na).reverse) i nb:=by
 have h':=h
 unfold Bt at h' ⊢
 rw[zju a hi]at h'
 rw[Y8,List.reverse_append,Array.toList_reverse,List.reverse_reverse]
 exact Hi.take h' λy f x g=>by
  obtain⟨j,d,c,e⟩:=zdk g
  exact le j x d c e y f
theorem Bt.cutB (h:Bt rk T a b out na nb) (hi:i<=nb) (le:∀ j x,i<=j->j<nb->b[j]?=some x->∀ y∈a.toList.take na,rk y<=rk x):Bt rk T a b (out++(b.extract i nb).reverse) na i:=(Bt.cutA (a:=b) (b:=a) h.swap hi le).swap
theorem Bt.endA (h:Bt rk T a b out 0 nb):(a.extract 0 0++b.extract 0 nb++out.reverse).toList.Perm T/\Srt rk (a.extract 0 0++b.extract 0 nb++out.reverse).toList:=by
 rw[Y8,Y8,zdj,zdj,Zc,W9,Array.toList_reverse]
 exact Hi.end h
theorem Bt.endB (h:Bt rk T a b out na 0):(a.extract 0 na++b.extract 0 0++out.reverse).toList.Perm T/\Srt rk (a.extract 0 na++b.extract 0 0++out.reverse).toList:=by
 rw[Y8,Y8,zdj,zdj,Zc,Y2,Array.toList_reverse]
 exact Hi.end h.swap
theorem Bt.lone (h:Bt rk T a b out na nb) (le:∀ x∈b.toList.take nb,∀ y∈a.toList.take na,rk x<=rk y):(b.extract 0 nb++a.extract 0 na++out.reverse).toList.Perm T/\Srt rk (b.extract 0 nb++a.extract 0 na++out.reverse).toList:=by
 rw[Y8,Y8,zdj,zdj,Array.toList_reverse]
 exact Hi.lone h le
end
section
variable {prog:Program}{w:World}{A:Around}{E:Value->Shared->Prop}{s:Shared}{κ:SortKind}{P:Keyed->Prop}{rk:Keyed->Int}
theorem znz (C:Cmp prog w A s κ P rk) {st:SortSt}{a b:Array Keyed}{Q:Array Keyed->SortSt->Prop}(hk:kindOf st=κ) (pa:∀ x∈a.toList,P x) (pb:∀ x∈b.toList,P x) (sa:Srt rk a.toList) (sb:Srt rk b.toList) (a1:1<=a.size) (b1:1<=b.size)
  (first:∀ x,b[0]?=some x->∀ y∈a.toList,rk x<=rk y) (last:∀ x,a[a.size-1]?=some x->∀ y∈b.toList,rk y<=rk x)
  (h:∀ r st',Sm st st'->r.toList.Perm (a.toList++b.toList)->Srt rk r.toList->Q r st'):wpS (model prog w) A E s (zj9 a b) Q st:=by
 have J:∀ i,i<a.size->∃ x,a[i]?=some x/\P x:=λi hi=>⟨_,getElem?_pos a i hi,pa _ (by simp)⟩
 have W:∀ i,i<b.size->∃ x,b[i]?=some x/\P x:=λi hi=>⟨_,getElem?_pos b i hi,pb _ (by simp)⟩
 obtain⟨z0,e0,_⟩:=J (a.size-1) (by lia)
 have lone:∀ {out:Array Keyed}{na:Nat},Bt rk (a.toList++b.toList) a b out na 1->(b.extract 0 1++a.extract 0 na++out.reverse).toList.Perm (a.toList++b.toList)/\Srt rk (b.extract 0 1++a.extract 0 na++out.reverse).toList:=λ{out na} L=>L.lone λx hx y hy=>by
  obtain⟨j,j1,ej⟩:=zbn hx
  exact first x (by rw[show 0=j by lia];exact ej) y (Zt hy)
 have L0:Bt rk (a.toList++b.toList) a b #[z0] (a.size-1) b.size:=by
  have w0:Bt rk (a.toList++b.toList) a b #[] a.size b.size:=by
   have e1:a.toList.take a.size=a.toList:=JQ (by rw[JA];exact Jg _)
   have e2:b.toList.take b.size=b.toList:=JQ (by rw[JA];exact Jg _)
   unfold Bt
   rw[e1,e2]
   exact⟨sa,sb,List.Pairwise.nil,λx hx y hy=>by simp at hy,λx hx y hy=>by simp at hy,by simp⟩
  exact w0.pushA a1 e0 λx hx=>last z0 e0 x (Zt hx)
 have size:∀ {out:Array Keyed}{na nb:Nat},Bt rk (a.toList++b.toList) a b out na nb->out.size<=a.size+b.size:=λ{out na nb} L=>by
  have:=L.pm.length_eq
  simp only[Jd,List.length_reverse,JA]at this
  lia
 refine Jj (zcB ?_)
 refine Jj (zan e0 ?_)
 dsimp only
 by_cases z1:a.size-1=0
 ·rw[Jf (by simpa using z1)]
  rw[z1]at L0 ⊢
  obtain⟨e,d⟩:=L0.endA
  exact Jh (h _ _ (Sm.refl _) e d)
 rw[Jb (by simpa using z1)]
 by_cases z2:b.size=1
 ·rw[Jf (by simpa using z2)]
  rw[z2]at L0 ⊢
  obtain⟨e,d⟩:=lone L0
  exact Jh (h _ _ (Sm.refl _) e d)
 rw[Jb (by simpa using z2)]
 refine Jj (Wg ?_)
 refine Jj (YX (Yv (I:=λi c H=>Sm st H/\∃ na nb out g,c=(none,na,nb,out,g)/\Bt rk (a.toList++b.toList) a b out na nb/\1<=na/\na<=a.size/\2<=nb/\nb<=b.size/\i+1<=out.size)
  (Q:=λc H=>Sm st H/\∃ r x,c=(some r,x)/\r.toList.Perm (a.toList++b.toList)/\Srt rk r.toList) ?step ?fin ⟨Sm.refl _,_,_,_,_,rfl,L0,by lia,by lia,by lia,by lia,by simp⟩) ?post)
 case post =>
  rintro c H ⟨S1,r,x,rfl,e,d⟩
  exact Jh (h _ _ S1 e d)
 case fin =>
  rintro c H ⟨S1,na,nb,out,g,rfl,L,_,_,_,_,sz⟩
  have:=size L
  lia
 case step =>
  rintro i c H _ hi ⟨S1,na,nb,out,g,rfl,L,la,B,X,q,sz⟩
  dsimp only
  refine Jj (YX (Yv (I:=λj c st2=>st2=H/\∃ na nb out ca U,c=(none,na,nb,out,ca,U)/\Bt rk (a.toList++b.toList) a b out na nb/\1<=na/\na<=a.size/\2<=nb/\nb<=b.size/\i+1+j<=out.size)
   (Q:=λc st2=>st2=H/\((∃ r x,c=(some r,x)/\r.toList.Perm (a.toList++b.toList)/\Srt rk r.toList)\/∃ na nb out ca U,c=(none,na,nb,out,ca,U)/\Bt rk (a.toList++b.toList) a b out na nb/\1<=na/\na<=a.size/\2<=nb/\nb<=b.size/\i+2<=out.size)) ?_ ?_ ⟨rfl,_,_,_,_,_,rfl,L,la,B,X,q,by lia⟩) ?_)
  ·rintro j c st2 _ hj ⟨rfl,na,nb,out,ca,U,rfl,L,la,B,X,q,sz⟩
   dsimp only
   obtain⟨x,ex,px⟩:=J (na-1) (by lia)
   obtain⟨y,G,py⟩:=W (nb-1) (by lia)
   refine Jj (zan G (Jj (zan ex (Jj (zix C (S1.kind.trans hk) py px ?_)))))
   by_cases z:rk y<rk x
   ·rw[JE z]
    dsimp only
    rw[Jf rfl]
    have L':=L.pushA la ex λu O=>Zy (zbv sb (by lia) G u O) (Int.le_of_lt z)
    refine Jj (zan ex ?_)
    by_cases D:na-1=0
    ·rw[Jf (by simpa using D)]
     rw[D]at L' ⊢
     obtain⟨e,d⟩:=L'.endA
     exact Jh ⟨rfl,.inl ⟨_,_,rfl,e,d⟩⟩
    ·rw[Jb (by simpa using D)]
     by_cases zg:ca+1>=g
     ·rw[Jf zg]
      exact Jh ⟨rfl,.inr ⟨_,_,_,_,_,rfl,L',by lia,by lia,X,q,by rw[Jx];lia⟩⟩
     ·rw[Jb zg]
      exact Jh ⟨rfl,_,_,_,_,_,rfl,L',by lia,by lia,X,q,by rw[Jx];lia⟩
   ·rw[Jv z]
    dsimp only
    rw[Jb Jp]
    have L':=L.pushB (by lia) G λu O=>Zy (zbv sa la ex u O) (by lia)
    refine Jj (zan G ?_)
    by_cases D:nb-1=1
    ·rw[Jf (by simpa using D)]
     rw[D]at L' ⊢
     obtain⟨e,d⟩:=lone L'
     exact Jh ⟨rfl,.inl ⟨_,_,rfl,e,d⟩⟩
    ·rw[Jb (by simpa using D)]
     by_cases zg:U+1>=g
     ·rw[Jf zg]
      exact Jh ⟨rfl,.inr ⟨_,_,_,_,_,rfl,L',la,B,by lia,by lia,by rw[Jx];lia⟩⟩
     ·rw[Jb zg]
      exact Jh ⟨rfl,_,_,_,_,_,rfl,L',la,B,by lia,by lia,by rw[Jx];lia⟩
  ·rintro c st2 ⟨rfl,na,nb,out,ca,U,rfl,L,la,B,X,q,sz⟩
   have:=size L
   lia
  ·rintro c st2 ⟨rfl,⟨r,x,rfl,e,d⟩|⟨na,nb,out,ca,U,rfl,L,la,B,X,q,sz⟩⟩
   ·exact Jh ⟨S1,r,_,rfl,e,d⟩
   dsimp only
   refine Jj (zcB ?_)
   refine Jj (YX (Yv (I:=λj c V=>Sm st V/\∃ na nb out g ca U,c=(none,na,nb,out,g,ca,U)/\Bt rk (a.toList++b.toList) a b out na nb/\1<=na/\na<=a.size/\2<=nb/\nb<=b.size/\i+2<=out.size)
    (Q:=λc V=>Sm st V/\((∃ r x,c=(some r,x)/\r.toList.Perm (a.toList++b.toList)/\Srt rk r.toList)\/∃ na nb out g ca U,c=(none,na,nb,out,g,ca,U)/\Bt rk (a.toList++b.toList) a b out na nb/\1<=na/\na<=a.size/\2<=nb/\nb<=b.size/\i+2<=out.size)) ?_ ?_ ⟨S1,_,_,_,_,_,_,rfl,L,la,B,X,q,sz⟩) ?_)
   ·rintro j c V _ hj ⟨S3,na,nb,out,g,ca,U,rfl,L,la,B,X,q,sz⟩
    dsimp only
    obtain⟨y,G,py⟩:=W (nb-1) (by lia)
    by_cases zg:g > 1
    ·rw[Jf zg]
     refine Jj (zdB λad l=>?_)
     have l:=S3.trans l
     refine Jj (zan G (Jj (zbs C (l.kind.trans hk) py (λt ht=>J (0+t) (by lia)) (zb8 sa (by lia)) (by lia) λk ab g1 g2=>?_)))
     dsimp only
     have L1:=L.cutA (i:=k) ab λt u tk tn Z v Y=>by
      have:=g2 t tk tn
      rw[Yu,R_at Z]at this
      unfold bd at this
      simp only[Y7,YV,Wk,Y0]at this
      have:=zbv sb (by lia) G v Y
      lia
     have hle:∀ u∈a.toList.take k,rk u<=rk y:=λu O=>by
      obtain⟨t,tk,et⟩:=zbn O
      have:=g1 t tk
      rw[Yu,R_at et]at this
      unfold bd at this
      simp only[Y7,YV,ZV,JV]at this
      lia
     have aa:i+2<=(out++(a.extract k na).reverse).size:=by rw[Ju];lia
     by_cases zk:na-k > 0
     ·rw[Jf zk]
      by_cases zc:k=0
      ·rw[Jf (by simpa using zc)]
       subst zc
       obtain⟨e,d⟩:=L1.endA
       exact Jh ⟨l,.inl ⟨_,_,rfl,e,d⟩⟩
      rw[Jb (by simpa using zc)]
      have N:1<=k:=by lia
      generalize na-k=kk
      generalize out++(a.extract k na).reverse=out1 at L1 aa ⊢
      refine Jj (zan G ?_)
      have L2:=L1.pushB (by lia) G hle
      by_cases D:nb-1=1
      ·rw[Jf (by simpa using D)]
       rw[D]at L2 ⊢
       obtain⟨e,d⟩:=lone L2
       exact Jh ⟨l,.inl ⟨_,_,rfl,e,d⟩⟩
      rw[Jb (by simpa using D)]
      obtain⟨x1,f,S⟩:=J (k-1) (by lia)
      refine Jj (zan f (Jj (zbs C (l.kind.trans hk) S (λt ht=>W (0+t) (by lia)) (zb8 sb (by lia)) (by lia) λp T c1 c2=>?_)))
      dsimp only
      have R:=L2.cutB (i:=p) T λt u tk tn Z v Y=>by
       have:=c2 t tk tn
       rw[Yu,R_at Z]at this
       unfold bd at this
       simp only[Yk,JV]at this
       have:=zbv sa N f v Y
       lia
      have n:∀ u∈b.toList.take p,rk u<=rk x1:=λu O=>by
       obtain⟨t,tk,et⟩:=zbn O
       have:=c1 t tk
       rw[Yu,R_at et]at this
       unfold bd at this
       simp only[Yk,Y0]at this
       lia
      by_cases F:nb-1-p > 0
      ·rw[Jf F]
       by_cases M:p=1
       ·rw[Jf (by simpa using M)]
        subst M
        obtain⟨e,d⟩:=lone R
        exact Jh ⟨l,.inl ⟨_,_,rfl,e,d⟩⟩
       rw[Jb (by simpa using M)]
       by_cases K:p=0
       ·rw[Jf (by simpa using K)]
        subst K
        obtain⟨e,d⟩:=R.endB
        exact Jh ⟨l,.inl ⟨_,_,rfl,e,d⟩⟩
       rw[Jb (by simpa using K)]
       refine Jj (zan f ?_)
       have m:=R.pushA N f n
       by_cases o:k-1=0
       ·rw[Jf (by simpa using o)]
        rw[o]at m ⊢
        obtain⟨e,d⟩:=m.endA
        exact Jh ⟨l,.inl ⟨_,_,rfl,e,d⟩⟩
       rw[Jb (by simpa using o)]
       split
       ·exact Jh ⟨l,.inr ⟨_,_,_,_,_,_,rfl,m,by lia,by lia,by lia,by lia,by simp only[Jx,Ju];lia⟩⟩
       ·exact Jh ⟨l,_,_,_,_,_,_,rfl,m,by lia,by lia,by lia,by lia,by simp only[Jx,Ju];lia⟩
      ·rw[Jb F]
       obtain rfl:p=nb-1:=by lia
       refine Jj (zan f ?_)
       have m:=L2.pushA N f n
       by_cases o:k-1=0
       ·rw[Jf (by simpa using o)]
        rw[o]at m ⊢
        obtain⟨e,d⟩:=m.endA
        exact Jh ⟨l,.inl ⟨_,_,rfl,e,d⟩⟩
       rw[Jb (by simpa using o)]
       split
       ·exact Jh ⟨l,.inr ⟨_,_,_,_,_,_,rfl,m,by lia,by lia,by lia,by lia,by simp only[Jx,Ju];lia⟩⟩
       ·exact Jh ⟨l,_,_,_,_,_,_,rfl,m,by lia,by lia,by lia,by lia,by simp only[Jx,Ju];lia⟩
     ·rw[Jb zk]
      obtain rfl:k=na:=by lia
      have L1:=L
      have N:=la
      have aa:=sz
      generalize k-k=kk
      refine Jj (zan G ?_)
      have L2:=L1.pushB (by lia) G hle
      by_cases D:nb-1=1
      ·rw[Jf (by simpa using D)]
       rw[D]at L2 ⊢
       obtain⟨e,d⟩:=lone L2
       exact Jh ⟨l,.inl ⟨_,_,rfl,e,d⟩⟩
      rw[Jb (by simpa using D)]
      obtain⟨x1,f,S⟩:=J (k-1) (by lia)
      refine Jj (zan f (Jj (zbs C (l.kind.trans hk) S (λt ht=>W (0+t) (by lia)) (zb8 sb (by lia)) (by lia) λp T c1 c2=>?_)))
      dsimp only
      have R:=L2.cutB (i:=p) T λt u tk tn Z v Y=>by
       have:=c2 t tk tn
       rw[Yu,R_at Z]at this
       unfold bd at this
       simp only[Yk,JV]at this
       have:=zbv sa N f v Y
       lia
      have n:∀ u∈b.toList.take p,rk u<=rk x1:=λu O=>by
       obtain⟨t,tk,et⟩:=zbn O
       have:=c1 t tk
       rw[Yu,R_at et]at this
       unfold bd at this
       simp only[Yk,Y0]at this
       lia
      by_cases F:nb-1-p > 0
      ·rw[Jf F]
       by_cases M:p=1
       ·rw[Jf (by simpa using M)]
        subst M
        obtain⟨e,d⟩:=lone R
        exact Jh ⟨l,.inl ⟨_,_,rfl,e,d⟩⟩
       rw[Jb (by simpa using M)]
       by_cases K:p=0
       ·rw[Jf (by simpa using K)]
        subst K
        obtain⟨e,d⟩:=R.endB
        exact Jh ⟨l,.inl ⟨_,_,rfl,e,d⟩⟩
       rw[Jb (by simpa using K)]
       refine Jj (zan f ?_)
       have m:=R.pushA N f n
       by_cases o:k-1=0
       ·rw[Jf (by simpa using o)]
        rw[o]at m ⊢
        obtain⟨e,d⟩:=m.endA
        exact Jh ⟨l,.inl ⟨_,_,rfl,e,d⟩⟩
       rw[Jb (by simpa using o)]
       split
       ·exact Jh ⟨l,.inr ⟨_,_,_,_,_,_,rfl,m,by lia,by lia,by lia,by lia,by simp only[Jx,Ju];lia⟩⟩
       ·exact Jh ⟨l,_,_,_,_,_,_,rfl,m,by lia,by lia,by lia,by lia,by simp only[Jx,Ju];lia⟩
      ·rw[Jb F]
       obtain rfl:p=nb-1:=by lia
       refine Jj (zan f ?_)
       have m:=L2.pushA N f n
       by_cases o:k-1=0
       ·rw[Jf (by simpa using o)]
        rw[o]at m ⊢
        obtain⟨e,d⟩:=m.endA
        exact Jh ⟨l,.inl ⟨_,_,rfl,e,d⟩⟩
       rw[Jb (by simpa using o)]
       split
       ·exact Jh ⟨l,.inr ⟨_,_,_,_,_,_,rfl,m,by lia,by lia,by lia,by lia,by simp only[Jx,Ju];lia⟩⟩
       ·exact Jh ⟨l,_,_,_,_,_,_,rfl,m,by lia,by lia,by lia,by lia,by simp only[Jx,Ju];lia⟩
    ·rw[Jb zg]
     refine Jj (zdB λad l=>?_)
     have l:=S3.trans l
     refine Jj (zan G (Jj (zbs C (l.kind.trans hk) py (λt ht=>J (0+t) (by lia)) (zb8 sa (by lia)) (by lia) λk ab g1 g2=>?_)))
     dsimp only
     have L1:=L.cutA (i:=k) ab λt u tk tn Z v Y=>by
      have:=g2 t tk tn
      rw[Yu,R_at Z]at this
      unfold bd at this
      simp only[Y7,YV,Wk,Y0]at this
      have:=zbv sb (by lia) G v Y
      lia
     have hle:∀ u∈a.toList.take k,rk u<=rk y:=λu O=>by
      obtain⟨t,tk,et⟩:=zbn O
      have:=g1 t tk
      rw[Yu,R_at et]at this
      unfold bd at this
      simp only[Y7,YV,ZV,JV]at this
      lia
     have aa:i+2<=(out++(a.extract k na).reverse).size:=by rw[Ju];lia
     by_cases zk:na-k > 0
     ·rw[Jf zk]
      by_cases zc:k=0
      ·rw[Jf (by simpa using zc)]
       subst zc
       obtain⟨e,d⟩:=L1.endA
       exact Jh ⟨l,.inl ⟨_,_,rfl,e,d⟩⟩
      rw[Jb (by simpa using zc)]
      have N:1<=k:=by lia
      generalize na-k=kk
      generalize out++(a.extract k na).reverse=out1 at L1 aa ⊢
      refine Jj (zan G ?_)
      have L2:=L1.pushB (by lia) G hle
      by_cases D:nb-1=1
      ·rw[Jf (by simpa using D)]
       rw[D]at L2 ⊢
       obtain⟨e,d⟩:=lone L2
       exact Jh ⟨l,.inl ⟨_,_,rfl,e,d⟩⟩
      rw[Jb (by simpa using D)]
      obtain⟨x1,f,S⟩:=J (k-1) (by lia)
      refine Jj (zan f (Jj (zbs C (l.kind.trans hk) S (λt ht=>W (0+t) (by lia)) (zb8 sb (by lia)) (by lia) λp T c1 c2=>?_)))
      dsimp only
      have R:=L2.cutB (i:=p) T λt u tk tn Z v Y=>by
       have:=c2 t tk tn
       rw[Yu,R_at Z]at this
       unfold bd at this
       simp only[Yk,JV]at this
       have:=zbv sa N f v Y
       lia
      have n:∀ u∈b.toList.take p,rk u<=rk x1:=λu O=>by
       obtain⟨t,tk,et⟩:=zbn O
       have:=c1 t tk
       rw[Yu,R_at et]at this
       unfold bd at this
       simp only[Yk,Y0]at this
       lia
      by_cases F:nb-1-p > 0
      ·rw[Jf F]
       by_cases M:p=1
       ·rw[Jf (by simpa using M)]
        subst M
        obtain⟨e,d⟩:=lone R
        exact Jh ⟨l,.inl ⟨_,_,rfl,e,d⟩⟩
       rw[Jb (by simpa using M)]
       by_cases K:p=0
       ·rw[Jf (by simpa using K)]
        subst K
        obtain⟨e,d⟩:=R.endB
        exact Jh ⟨l,.inl ⟨_,_,rfl,e,d⟩⟩
       rw[Jb (by simpa using K)]
       refine Jj (zan f ?_)
       have m:=R.pushA N f n
       by_cases o:k-1=0
       ·rw[Jf (by simpa using o)]
        rw[o]at m ⊢
        obtain⟨e,d⟩:=m.endA
        exact Jh ⟨l,.inl ⟨_,_,rfl,e,d⟩⟩
       rw[Jb (by simpa using o)]
       split
       ·exact Jh ⟨l,.inr ⟨_,_,_,_,_,_,rfl,m,by lia,by lia,by lia,by lia,by simp only[Jx,Ju];lia⟩⟩
       ·exact Jh ⟨l,_,_,_,_,_,_,rfl,m,by lia,by lia,by lia,by lia,by simp only[Jx,Ju];lia⟩
      ·rw[Jb F]
       obtain rfl:p=nb-1:=by lia
       refine Jj (zan f ?_)
       have m:=L2.pushA N f n
       by_cases o:k-1=0
       ·rw[Jf (by simpa using o)]
        rw[o]at m ⊢
        obtain⟨e,d⟩:=m.endA
        exact Jh ⟨l,.inl ⟨_,_,rfl,e,d⟩⟩
       rw[Jb (by simpa using o)]
       split
       ·exact Jh ⟨l,.inr ⟨_,_,_,_,_,_,rfl,m,by lia,by lia,by lia,by lia,by simp only[Jx,Ju];lia⟩⟩
       ·exact Jh ⟨l,_,_,_,_,_,_,rfl,m,by lia,by lia,by lia,by lia,by simp only[Jx,Ju];lia⟩
     ·rw[Jb zk]
      obtain rfl:k=na:=by lia
      have L1:=L
      have N:=la
      have aa:=sz
      generalize k-k=kk
      refine Jj (zan G ?_)
      have L2:=L1.pushB (by lia) G hle
      by_cases D:nb-1=1
      ·rw[Jf (by simpa using D)]
       rw[D]at L2 ⊢
       obtain⟨e,d⟩:=lone L2
       exact Jh ⟨l,.inl ⟨_,_,rfl,e,d⟩⟩
      rw[Jb (by simpa using D)]
      obtain⟨x1,f,S⟩:=J (k-1) (by lia)
      refine Jj (zan f (Jj (zbs C (l.kind.trans hk) S (λt ht=>W (0+t) (by lia)) (zb8 sb (by lia)) (by lia) λp T c1 c2=>?_)))
      dsimp only
      have R:=L2.cutB (i:=p) T λt u tk tn Z v Y=>by
       have:=c2 t tk tn
       rw[Yu,R_at Z]at this
       unfold bd at this
       simp only[Yk,JV]at this
       have:=zbv sa N f v Y
       lia
      have n:∀ u∈b.toList.take p,rk u<=rk x1:=λu O=>by
       obtain⟨t,tk,et⟩:=zbn O
       have:=c1 t tk
       rw[Yu,R_at et]at this
       unfold bd at this
       simp only[Yk,Y0]at this
       lia
      by_cases F:nb-1-p > 0
      ·rw[Jf F]
       by_cases M:p=1
       ·rw[Jf (by simpa using M)]
        subst M
        obtain⟨e,d⟩:=lone R
        exact Jh ⟨l,.inl ⟨_,_,rfl,e,d⟩⟩
       rw[Jb (by simpa using M)]
       by_cases K:p=0
       ·rw[Jf (by simpa using K)]
        subst K
        obtain⟨e,d⟩:=R.endB
        exact Jh ⟨l,.inl ⟨_,_,rfl,e,d⟩⟩
       rw[Jb (by simpa using K)]
       refine Jj (zan f ?_)
       have m:=R.pushA N f n
       by_cases o:k-1=0
       ·rw[Jf (by simpa using o)]
        rw[o]at m ⊢
        obtain⟨e,d⟩:=m.endA
        exact Jh ⟨l,.inl ⟨_,_,rfl,e,d⟩⟩
       rw[Jb (by simpa using o)]
       split
       ·exact Jh ⟨l,.inr ⟨_,_,_,_,_,_,rfl,m,by lia,by lia,by lia,by lia,by simp only[Jx,Ju];lia⟩⟩
       ·exact Jh ⟨l,_,_,_,_,_,_,rfl,m,by lia,by lia,by lia,by lia,by simp only[Jx,Ju];lia⟩
      ·rw[Jb F]
       obtain rfl:p=nb-1:=by lia
       refine Jj (zan f ?_)
       have m:=L2.pushA N f n
       by_cases o:k-1=0
       ·rw[Jf (by simpa using o)]
        rw[o]at m ⊢
        obtain⟨e,d⟩:=m.endA
        exact Jh ⟨l,.inl ⟨_,_,rfl,e,d⟩⟩
       rw[Jb (by simpa using o)]
       split
       ·exact Jh ⟨l,.inr ⟨_,_,_,_,_,_,rfl,m,by lia,by lia,by lia,by lia,by simp only[Jx,Ju];lia⟩⟩
       ·exact Jh ⟨l,_,_,_,_,_,_,rfl,m,by lia,by lia,by lia,by lia,by simp only[Jx,Ju];lia⟩
   ·rintro c V ⟨S3,na,nb,out,g,ca,U,rfl,L,la,B,X,q,sz⟩
    exact⟨S3,.inr ⟨_,_,_,_,_,_,rfl,L,la,B,X,q,sz⟩⟩
   ·rintro c V ⟨S3,⟨r,x,rfl,e,d⟩|⟨na,nb,out,g,ca,U,rfl,L,la,B,X,q,sz⟩⟩
    ·exact Jh ⟨S3,r,_,rfl,e,d⟩
    dsimp only
    refine Jj (zdB λad l=>?_)
    exact Jh ⟨S3.trans l,_,_,_,_,rfl,L,la,B,X,q,by lia⟩
end
section
variable {rk:Keyed->Int}
theorem zdt (b:Nat):∀ (l:List Keyed) (o:Nat) (arr:Array Keyed),b+o+l.length<=arr.size->(List.foldl (λ(a:Array Keyed) (x:Keyed × Nat)=>a.setIfInBounds (b+x.2) x.1) arr (l.zipIdx o)).toList=arr.toList.take (b+o)++l++arr.toList.drop (b+o+l.length)
 | [],o,arr,_=>by
  show arr.toList=_
  rw[Y2,ZH,YH,ZX]
 | x::l,o,arr,h=>by
  rw[JL]at h
  rw[List.zipIdx_cons,List.foldl_cons,zdt b l (o+1) _ (by rw[Array.size_setIfInBounds];lia)]
  have c:b+o<arr.toList.length:=by rw[JA];lia
  rw[Array.toList_setIfInBounds,<- Zj,List.drop_set_of_lt (by lia),JL,show b+o+1+l.length=b+o+(l.length+1) by lia]
  have e:(arr.toList.set (b+o) x).take (b+o+1)=arr.toList.take (b+o)++[x]:=by
   rw[Yg (by rw[YZ];exact c),List.getElem_set_self,List.take_set_of_le (Jg _)]
  rw[e,JU (arr.toList.take (b+o)) [x] l]
  rfl
theorem zi5 {arr:Array Keyed}{i n j:Nat}(h:i+j<n) (a:n<=arr.size):(arr.extract i n)[j]?=arr[i+j]?:=by
 rw[Array.getElem?_extract_of_lt (by lia)]
 exact(getElem?_pos arr (i+j) (by lia)).symm
theorem zhv {arr:Array Keyed}{lo n:Nat}(h:Up rk arr lo n) (d:lo+n<=arr.size):Srt rk (arr.extract lo (lo+n)).toList:=by
 refine List.pairwise_iff_getElem.mpr λi j hi b c=>?_
 have a:(arr.extract lo (lo+n)).size=n:=by rw[Array.size_extract];lia
 rw[JA,a]at hi b
 have:=h (lo+i) (lo+j) (by lia) (by lia) (by lia)
 rw[R_at (getElem?_pos arr (lo+i) (by lia)),R_at (getElem?_pos arr (lo+j) (by lia))]at this
 simpa using this
end
section
variable {prog:Program}{w:World}{A:Around}{E:Value->Shared->Prop}{s:Shared}{κ:SortKind}{P:Keyed->Prop}{rk:Keyed->Int}{a₀:Array Keyed}
theorem znB (C:Cmp prog w A s κ P rk) {st:SortSt}{Q:Bool->SortSt->Prop}{i sa na p sb nb q:Nat}(D:Bs κ P a₀ st) (e1:(pendingOf st)[i]?=some (sa,na,p)) (e2:(pendingOf st)[i+1]?=some (sb,nb,q)) (hs:sb=sa+na) (n1:1<=na) (n2:1<=nb) (hz:sb+nb<=a₀.size)
  (H:Up rk (arrOf st) sa na) (G:Up rk (arrOf st) sb nb)
  (h:∀ st',Bs κ P a₀ st'->pendingOf st'=((pendingOf st).setIfInBounds i (sa,na+nb,p)).eraseIdxIfInBounds (i+1)->(∀ k,k<sa\/sb+nb<=k->R rk (arrOf st') k=R rk (arrOf st) k)->Up rk (arrOf st') sa (na+nb)->Q true st'):wpS (model prog w) A E s (mergeAt' i) Q st:=by
 refine Jj (Wg ?_)
 dsimp only
 rw[e1,e2]
 dsimp only
 obtain⟨b0,T,ae,ab⟩:=D.at (i:=sb) (by lia) rk
 have sz:=D.size
 have V:∀ {c st2:SortSt}{Q':PUnit->SortSt->Prop},Q' ⟨⟩ st2->wpS (model prog w) A E s (set st2:StateT SortSt Sem PUnit) Q' c:=λ{c st2 Q'} hq=>by
  unfold wpS;rw[StateT.run_set];exact J9 ⟨rfl,hq⟩
 refine Jj (V (st2:=SortSt.mk' (kindOf st) (arrOf st) (((pendingOf st).setIfInBounds i (sa,na+nb,p)).eraseIdxIfInBounds (i+1)) (gallopOf st) (failedOf st)) ?_)
 generalize J:SortSt.mk' (kindOf st) (arrOf st) (((pendingOf st).setIfInBounds i (sa,na+nb,p)).eraseIdxIfInBounds (i+1)) (gallopOf st) (failedOf st)=c
 have d:Bs κ P a₀ c:=by rw[<- J];exact⟨D.kind,D.fail,D.perm,D.all⟩
 have O:arrOf c=arrOf st:=by rw[<- J]
 have ep:pendingOf c=((pendingOf st).setIfInBounds i (sa,na+nb,p)).eraseIdxIfInBounds (i+1):=by rw[<- J]
 have pat:∀ j,j<a₀.size->∃ x,(arrOf st)[j]?=some x/\P x:=λj B=>by
  obtain⟨x,ex,Z,_⟩:=D.at B rk
  exact⟨x,ex,Z⟩
 refine Jj (zan T (Jj (zbs (arr:=arrOf st) C d.kind ae (λt M=>pat (sa+t) (by lia)) H (by lia) λk ah g1 g2=>?_)))
 dsimp only
 have f1:∀ j,sa<=j->j<sa+k->R rk (arrOf st) j<=rk b0:=λj l o=>by
  have:=g1 (j-sa) (by lia)
  rw[show sa+(j-sa)=j by lia]at this
  unfold bd at this
  simp only[Y7,YV,ZV,JV]at this
  lia
 have f2:∀ j,sa+k<=j->j<sb->rk b0<=R rk (arrOf st) j:=λj l o=>by
  have:=g2 (j-sa) (by lia) (by lia)
  rw[show sa+(j-sa)=j by lia]at this
  unfold bd at this
  simp only[Y7,YV,Wk,Y0]at this
  lia
 have f0:∀ j,sb<=j->j<sb+nb->rk b0<=R rk (arrOf st) j:=λj l o=>by rw[<- ab];exact G _ _ (Jg _) l o
 by_cases zk:na-k=0
 ·rw[Jf (by simpa using zk)]
  refine Jh (h c d ep (λj _=>by rw[O]) λx y g b F=>?_)
  rw[O]
  by_cases q1:y<sb
  ·exact H _ _ g b (by lia)
  ·by_cases q2:sb<=x
   ·exact G _ _ q2 b (by lia)
   ·exact Zy (f1 x g (by lia)) (f0 y (by lia) (by lia))
 rw[Jb (by simpa using zk)]
 have ka:sa+k+(na-k)-1=sb-1:=by lia
 rw[ka]
 obtain⟨l0,S,ad,aa⟩:=D.at (i:=sb-1) (by lia) rk
 refine Jj (zan S (Jj (zbs (arr:=arrOf st) C d.kind ad (λt M=>pat (sb+t) (by lia)) G (by lia) λn ag c1 c2=>?_)))
 dsimp only
 have f3:∀ j,sb<=j->j<sb+n->R rk (arrOf st) j<=rk l0:=λj l o=>by
  have:=c1 (j-sb) (by lia)
  rw[show sb+(j-sb)=j by lia]at this
  unfold bd at this
  simp only[Yk,Y0]at this
  lia
 have f4:∀ j,sb+n<=j->j<sb+nb->rk l0<=R rk (arrOf st) j:=λj l o=>by
  have:=c2 (j-sb) (by lia) (by lia)
  rw[show sb+(j-sb)=j by lia]at this
  unfold bd at this
  simp only[Yk,JV]at this
  lia
 have f5:∀ j,sa<=j->j<sb->R rk (arrOf st) j<=rk l0:=λj l o=>by rw[<- aa];exact H _ _ l (by lia) (by lia)
 by_cases zn:n=0
 ·rw[Jf (by simpa using zn)]
  refine Jh (h c d ep (λj _=>by rw[O]) λx y g b F=>?_)
  rw[O]
  by_cases q1:y<sb
  ·exact H _ _ g b (by lia)
  ·by_cases q2:sb<=x
   ·exact G _ _ q2 b (by lia)
   ·exact Zy (f5 x g (by lia)) (f4 y (by lia) (by lia))
 rw[Jb (by simpa using zn)]
 have Y:((arrOf st).extract (sa+k) sb).size=na-k:=by rw[Array.size_extract];lia
 have sy:((arrOf st).extract sb (sb+n)).size=n:=by rw[Array.size_extract];lia
 have Z:∀ x∈((arrOf st).extract (sa+k) sb).toList,P x:=λx g=>by
  obtain⟨j,l,o,I⟩:=zdk g
  obtain⟨y,N,py⟩:=pat j (by lia)
  rw[I]at N;cases N;exact py
 have py:∀ x∈((arrOf st).extract sb (sb+n)).toList,P x:=λx g=>by
  obtain⟨j,l,o,I⟩:=zdk g
  obtain⟨y,N,py⟩:=pat j (by lia)
  rw[I]at N;cases N;exact py
 have ox:Srt rk ((arrOf st).extract (sa+k) sb).toList:=by
  have:=zhv (rk:=rk) (arr:=arrOf st) (lo:=sa+k) (n:=na-k) (λx y g b F=>H x y (by lia) b (by lia)) (by lia)
  rwa [show sa+k+(na-k)=sb by lia]at this
 have oy:Srt rk ((arrOf st).extract sb (sb+n)).toList:=zhv (λx y g b F=>G x y (by lia) b (by lia)) (by lia)
 have first:∀ x,((arrOf st).extract sb (sb+n))[0]?=some x->∀ y∈((arrOf st).extract (sa+k) sb).toList,rk x<=rk y:=λx ex y F=>by
  rw[zi5 (by lia) (by lia),YH,T]at ex
  obtain⟨j,l,o,I⟩:=zdk F
  have:=f2 j l o
  rw[R_at I]at this
  cases ex;exact this
 have last:∀ x,((arrOf st).extract (sa+k) sb)[((arrOf st).extract (sa+k) sb).size-1]?=some x->∀ y∈((arrOf st).extract sb (sb+n)).toList,rk y<=rk x:=λx ex y F=>by
  rw[Y,zi5 (by lia) (by lia),show sa+k+(na-k-1)=sb-1 by lia,S]at ex
  obtain⟨j,l,o,I⟩:=zdk F
  have:=f3 j l (by lia)
  rw[R_at I]at this
  cases ex;exact this
 have fin:∀ (m:Array Keyed) (st2:SortSt),Sm c st2->m.toList.Perm (((arrOf st).extract (sa+k) sb).toList++((arrOf st).extract sb (sb+n)).toList)->Srt rk m.toList ->
   wpS (model prog w) A E s (do
    modify λs=>setArr s (m.toList.zipIdx.foldl (λ(a:Array Keyed) (x:Keyed × Nat)=>a.setIfInBounds (sa+k+x.2) x.1) (arrOf s))
    let s' <- get
    pure (failedOf s').isNone) Q st2:=by
  intro m st2 S2 pm L
  have U:arrOf st2=arrOf st:=S2.arr.trans O
  have K:m.toList.length=na-k+n:=by rw[pm.length_eq,Jd,JA,JA,Y,sy]
  have wl:=zdt (sa+k) m.toList 0 (arrOf st2) (by rw[U,sz,K];lia)
  generalize hW:List.foldl (λ(a:Array Keyed) (x:Keyed × Nat)=>a.setIfInBounds (sa+k+x.2) x.1) (arrOf st2) m.toList.zipIdx=W at wl
  rw[YH,K,U,show sa+k+(na-k+n)=sb+n by lia]at wl
  have X:(arrOf st).toList=(arrOf st).toList.take (sa+k)++(((arrOf st).extract (sa+k) sb).toList++((arrOf st).extract sb (sb+n)).toList)++(arrOf st).toList.drop (sb+n):=by
   have d1:=zea (arrOf st) (sa+k) (na-k)
   rw[show sa+k+(na-k)=sb by lia]at d1
   have d2:=zea (arrOf st) sb n
   rw[JU,JU,<- d2,<- d1,ZX]
  have pw:W.Perm (arrOf st):=by
   rw[Array.perm_iff_toList_perm,wl]
   conv=>rhs;rw[X]
   exact((pm.append_left _).append_right _)
  have r:((arrOf st).toList.take (sa+k)).length=sa+k:=by rw[Jy,JA,sz];lia
  have af:W.size=a₀.size:=by rw[pw.size_eq,sz]
  have z:∀ j,j<sa+k->R rk W j=R rk (arrOf st) j:=λj B=>R_congr (by
   rw[<- Y6,<- Y6,wl,JU,YB (by rw[r];exact B),Z6 B])
  have f:∀ j,sb+n<=j->R rk W j=R rk (arrOf st) j:=λj B=>R_congr (by
   rw[<- Y6,<- Y6,wl,Yy (by rw[Jd,r,K];lia),Jd,r,K,Wj]
   congr 1;lia)
  have mid:∀ j,sa+k<=j->j<sb+n->∃ x,m[j-(sa+k)]?=some x/\R rk W j=rk x:=λj l o=>by
   have jl:j-(sa+k)<m.size:=by rw[<- JA,K];lia
   refine⟨_,getElem?_pos m _ jl,R_at ?_⟩
   rw[<- Y6,wl,JU,Yy (by rw[r];exact l),r,YB (by rw[K];lia),Y6]
   exact getElem?_pos m _ jl
  have kids:∀ j x,m[j]?=some x->∃ t,((sa+k<=t/\t<sb)\/(sb<=t/\t<sb+n))/\R rk (arrOf st) t=rk x:=λj x ex=>by
   have hm:x∈m.toList:=by
    obtain⟨B,e⟩:=JW.mp ex
    rw[<- e];simp
   rcases JB.mp (pm.mem_iff.mp hm) with u|u
   ·obtain⟨t,t1,t2,et⟩:=zdk u
    exact⟨t,.inl ⟨t1,t2⟩,R_at et⟩
   ·obtain⟨t,t1,t2,et⟩:=zdk u
    exact⟨t,.inr ⟨t1,t2⟩,R_at et⟩
  refine Jj (Wi (Jj (Wg (Jh ?_))))
  rw[hW]
  have ff:(failedOf (setArr st2 W)).isNone=true:=by
   show (failedOf st2).isNone=true
   rw[S2.fail,d.fail];rfl
  rw[ff]
  refine h _ ⟨S2.kind.trans d.kind,S2.fail.trans d.fail,pw.trans D.perm,D.all⟩ (S2.pend.trans ep) (λj B=>?_) λx y g b F=>?_
  ·rcases B with B|B
   ·exact z j (by lia)
   ·exact f j (by lia)
  ·show R rk W x<=R rk W y
   by_cases x1:x<sa+k
   ·rw[z x x1]
    by_cases y1:y<sa+k
    ·rw[z y y1];exact H _ _ g b (by lia)
    ·by_cases y2:y<sb+n
     ·obtain⟨v,ev,rv⟩:=mid y (by lia) y2
      obtain⟨t,M,rt⟩:=kids _ v ev
      rw[rv,<- rt]
      rcases M with ⟨t1,t2⟩|⟨t1,t2⟩
      ·exact H _ _ g (by lia) (by lia)
      ·exact Zy (f1 x g x1) (f0 t t1 (by lia))
     ·rw[f y (by lia)]
      exact Zy (f1 x g x1) (f0 y (by lia) (by lia))
   ·by_cases x2:x<sb+n
    ·obtain⟨u,eu,ru⟩:=mid x (by lia) x2
     rw[ru]
     by_cases y2:y<sb+n
     ·obtain⟨v,ev,rv⟩:=mid y (by lia) y2
      rw[rv]
      have:=zb8 L (base:=0) (n:=m.size) (by lia) (x-(sa+k)) (y-(sa+k)) (JN _) (by lia) (by
       have:=(JW.mp ev).1
       lia)
      rwa [R_at eu,R_at ev]at this
     ·rw[f y (by lia)]
      obtain⟨t,M,rt⟩:=kids _ u eu
      rw[<- rt]
      rcases M with ⟨t1,t2⟩|⟨t1,t2⟩
      ·exact Zy (f5 t (by lia) t2) (f4 y (by lia) (by lia))
      ·exact G _ _ t1 (by lia) (by lia)
    ·rw[f x (by lia),f y (by lia)]
     exact G _ _ (by lia) b (by lia)
 split
 ·exact Jj (znt C d.kind Z py ox oy (by rw[Y];lia) (by rw[sy];lia) first last λm st2 S2 pm L=>fin m st2 S2 pm L)
 ·exact Jj (znz C d.kind Z py ox oy (by rw[Y];lia) (by rw[sy];lia) first last λm st2 S2 pm L=>fin m st2 S2 pm L)
end
abbrev Run:=Nat × Nat × Nat
def Runs:List Run->Nat->Nat->Prop
 | [],u,v=>u=v
 | x::r,u,v=>x.1=u/\1<=x.2.1/\Runs r (u+x.2.1) v
theorem Runs.cut:∀ {l r:List Run}{u v:Nat},Runs (l++r) u v->∃ m,Runs l u m/\Runs r m v
 | [],_,u,_,h=>⟨u,rfl,h⟩
 | x::l,r,u,v,⟨h1,d,c⟩=>by
  obtain⟨m,a,b⟩:=Runs.cut (l:=l) (r:=r) c
  exact⟨m,⟨h1,d,a⟩,b⟩
theorem Runs.app:∀ {l r:List Run}{u m v:Nat},Runs l u m->Runs r m v->Runs (l++r) u v
 | [],_,_,_,_,h,g=>by cases h;exact g
 | x::l,r,u,m,v,⟨h1,b,a⟩,g=>⟨h1,b,Runs.app a g⟩
theorem Runs.len:∀ {l:List Run}{u v:Nat},Runs l u v->u+l.length<=v
 | [],_,_,h=>by cases h;exact Jg _
 | x::l,u,v,⟨h1,b,a⟩=>by
  have:=Runs.len a
  rw[JL];lia
theorem Runs.mem:∀ {l:List Run}{u v:Nat}{x:Run},Runs l u v->x∈l->u<=x.1/\1<=x.2.1/\x.1+x.2.1<=v
 | y::l,u,v,x,⟨h1,d,b⟩,c=>by
  rcases Jt.mp c with rfl|a
  ·have:=Runs.len b;lia
  ·have:=Runs.mem b a;lia
theorem Runs.modify {f:Run->Run}(a:∀ x,(f x).1=x.1/\(f x).2.1=x.2.1):∀ {l:List Run}{i u v:Nat},Runs l u v->Runs (l.modify i f) u v
 | [],i,_,_,h=>by cases i<;>exact h
 | x::l,0,u,v,⟨h1,c,b⟩=>by
  rw[List.modify_zero_cons]
  refine⟨(a x).1.trans h1,by rw[(a x).2];exact c,by rw[(a x).2];exact b⟩
 | x::l,i+1,u,v,⟨h1,c,b⟩=>by
  rw[List.modify_succ_cons]
  exact⟨h1,c,Runs.modify a b⟩
theorem zcF {f:Run->Run}(a:∀ x,(f x).1=x.1/\(f x).2.1=x.2.1):∀ {l:List Run}{i:Nat}{x:Run},x∈l.modify i f->∃ y∈l,x.1=y.1/\x.2.1=y.2.1
 | [],i,x,h=>by cases i<;>simp at h
 | y::l,0,x,h=>by
  rw[List.modify_zero_cons]at h
  rcases Jt.mp h with rfl|b
  ·exact⟨y,JH,(a y).1,(a y).2⟩
  ·exact⟨x,JG _ b,rfl,rfl⟩
 | y::l,i+1,x,h=>by
  rw[List.modify_succ_cons]at h
  rcases Jt.mp h with rfl|b
  ·exact⟨x,JH,rfl,rfl⟩
  ·obtain⟨z,c,e⟩:=zcF a b
   exact⟨z,JG _ c,e⟩
section
variable {prog:Program}{w:World}{A:Around}{E:Value->Shared->Prop}{s:Shared}{κ:SortKind}{P:Keyed->Prop}{rk:Keyed->Int}{a₀:Array Keyed}
structure Ji (κ:SortKind) (P:Keyed->Prop) (rk:Keyed->Int) (a₀:Array Keyed) (lo:Nat) (st:SortSt):Prop where
 b:Bs κ P a₀ st
 runs:Runs (pendingOf st).toList 0 lo
 up:∀ x∈(pendingOf st).toList,Up rk (arrOf st) x.1 x.2.1
theorem zlP (C:Cmp prog w A s κ P rk) {st:SortSt}{lo i:Nat}{Q:Bool->SortSt->Prop}(J:Ji κ P rk a₀ lo st) (L:lo<=a₀.size) (hi:i+1<(pendingOf st).size)
  (h:∀ st',Ji κ P rk a₀ lo st'->(∀ k,lo<=k->R rk (arrOf st') k=R rk (arrOf st) k)->(pendingOf st').size+1=(pendingOf st).size->Q true st'):wpS (model prog w) A E s (mergeAt' i) Q st:=by
 obtain⟨x,ex⟩:∃ x,(pendingOf st)[i]?=some x:=⟨_,getElem?_pos _ i (by lia)⟩
 obtain⟨y,B⟩:∃ y,(pendingOf st)[i+1]?=some y:=⟨_,getElem?_pos _ (i+1) hi⟩
 have r:(pendingOf st).toList[i]?=some x:=by rw[Y6];exact ex
 have o:(pendingOf st).toList[i+1]?=some y:=by rw[Y6];exact B
 obtain⟨n,I⟩:=Jc.mp r
 obtain⟨l,H⟩:=Jc.mp o
 have sp:(pendingOf st).toList=(pendingOf st).toList.take i++x::y::(pendingOf st).toList.drop (i+1+1):=by
  rw[<- I,<- H,<- YL l,<- YL n,ZX]
 have u:=J.runs
 have up:=J.up
 generalize e:(pendingOf st).toList.take i=pre at sp
 generalize t:(pendingOf st).toList.drop (i+1+1)=post at sp
 have G:pre.length=i:=by rw[<- e,Jy];lia
 rw[sp]at u up
 obtain⟨m,v,F⟩:=u.cut
 obtain⟨s1,n1,s2,n2,f⟩:=F
 obtain⟨sa,na,p⟩:=x
 obtain⟨sb,nb,q⟩:=y
 simp only at s1 n1 s2 n2 f
 have M:=f.len
 refine znB C J.b ex B (by lia) n1 n2 (by lia) (up (sa,na,p) (by simp)) (up (sb,nb,q) (by simp)) λst' K ep low D=>?_
 have j:(pendingOf st').toList=pre++(sa,na+nb,p)::post:=by
  rw[ep,Array.toList_eraseIdxIfInBounds,Array.toList_setIfInBounds,sp,List.set_append_right _ _ (by lia),List.eraseIdx_append_of_length_le (by lia),G,Nat.sub_self,Nat.add_sub_cancel_left]
  rfl
 refine h st' ⟨K,?_,?_⟩ (λk N=>low k (.inr (by lia))) ?_
 ·rw[j]
  refine v.app ⟨s1,by show 1<=na+nb;lia,?_⟩
  show Runs post (m+(na+nb)) lo
  rw[<- Zj];exact f
 ·rw[j]
  intro z a
  rcases JB.mp a with a|a
  ·have b1:=v.mem a
   intro c d g b hd
   rw[low c (.inl (by lia)),low d (.inl (by lia))]
   exact up z (Yp _ a) c d g b hd
  ·rcases Jt.mp a with rfl|a
   ·exact D
   ·have b1:=f.mem a
    intro c d g b hd
    rw[low c (.inr (by lia)),low d (.inr (by lia))]
    exact up z (Jz _ (by simp[a])) c d g b hd
 ·rw[<- JA,<- JA,j,sp]
  simp only[Jd,JL];lia
theorem zln (C:Cmp prog w A s κ P rk) {st:SortSt}{Q:Unit->SortSt->Prop}(Z:Bs κ P a₀ st) (Y:pendingOf st = #[])
  (h:∀ st',Bs κ P a₀ st'->Up rk (arrOf st') 0 a₀.size->Q () st'):wpS (model prog w) A E s sortRuns' Q st:=by
 rw[sortRuns'_eq]
 refine Jj (Wg ?_)
 dsimp only
 rw[Z.size]
 generalize minRun' a₀.size a₀.size 0=N
 refine Jj (YX (Yv (I:=λi c m=>∃ lo,c=(none,lo)/\i<=lo/\lo<=a₀.size/\Ji κ P rk a₀ lo m)
  (Q:=λc m=>∃ lo,c=(none,lo)/\lo=a₀.size/\Ji κ P rk a₀ lo m) ?step ?fin ?init) ?post)
 case init=>exact⟨0,rfl,Jg _,JN _,Z,by rw[Y];rfl,λx p=>by rw[Y]at p;simp at p⟩
 case fin =>
  rintro c m ⟨lo,rfl,h1,S,J⟩
  exact⟨lo,rfl,by lia,J⟩
 case step =>
  rintro i c m _ hi ⟨lo,rfl,h1,S,J⟩
  dsimp only
  by_cases z:lo>=a₀.size
  ·rw[Jf z]
   exact Jh ⟨lo,rfl,by lia,J⟩
  rw[Jb z]
  refine Jj (zkx C J.b (by lia) (by lia) λst2 n U n1 n2 X=>?_)
  dsimp only
  have Jk:∀ f,Keep κ P rk a₀ lo m f->Ji κ P rk a₀ lo f:=λf G=>⟨G.b,by rw[G.pend];exact J.runs,λx p=>by
   rw[G.pend]at p
   have:=J.runs.mem p
   intro c d B u hd
   rw[G.low c (by lia),G.low d (by lia)]
   exact J.up x p c d B u hd⟩
  by_cases W:n<N
  ·rw[Jf W]
   refine Jj (zcB ?_)
   refine Jj (zm3 C U.b n1 (by lia) (by lia) X λf G u3=>?_)
   have n1:1<=min (a₀.size-lo) N:=by lia
   have n2:min (a₀.size-lo) N<=a₀.size-lo:=by lia
   have v:=Jk f (U.trans G)
   generalize min (a₀.size-lo) N=n at n1 n2 u3 ⊢
   rw[Jb (show ¬(!true)=true by decide)]
   refine Jj (Wg ?_)
   have last:∀ a,Ji κ P rk a₀ lo a->Up rk (arrOf a) lo n->wpS (model prog w) A E s (do
     modify λl=>setPending l ((pendingOf l).push (lo,n,0))
     pure (ForInStep.yield ((none:Option Unit),lo+n))) (λr st'=>match r with|.done F=>∃ lo,F=(none,lo)/\lo=a₀.size/\Ji κ P rk a₀ lo st'|.yield F=>∃ lo,F=(none,lo)/\i+1<=lo/\lo<=a₀.size/\Ji κ P rk a₀ lo st') a:=by
    intro a e k
    refine Jj (Wi (Jh ⟨lo+n,rfl,by lia,by lia,⟨e.b.kind,e.b.fail,e.b.perm,e.b.all⟩,?_,?_⟩))
    ·show Runs ((pendingOf a).push (lo,n,0)).toList 0 (lo+n)
     rw[Zn]
     exact e.runs.app ⟨rfl,n1,rfl⟩
    ·show ∀ x∈((pendingOf a).push (lo,n,0)).toList,Up rk (arrOf a) x.1 x.2.1
     rw[Zn]
     intro x p
     rcases JB.mp p with o|o
     ·exact e.up x o
     ·rw[Je.mp o];exact k
   split
   ·rename_i s1 m1 w1 hb
    refine Jj (YX (Yv (I:=λj c a=>c=(none,())/\Ji κ P rk a₀ lo a/\Up rk (arrOf a) lo n) (Q:=λc a=>c=(none,())/\Ji κ P rk a₀ lo a/\Up rk (arrOf a) lo n) ?_ (λc a R=>R) ⟨rfl,v,u3⟩) ?_)
    ·rintro j c a _ hj ⟨rfl,e,k⟩
     refine Jj (Wg ?_)
     split
     ·rename_i a1 a2 H K
      split
      ·exact Jh ⟨rfl,e,k⟩
      ·have sz:(pendingOf a).size > 1:=by
        by_cases q:(pendingOf a).size > 1
        ·exact q
        ·rw[Jb q]at K;cases K
       refine Jj (zlP C e S (by lia) λl V g _=>?_)
       rw[Jb (show ¬(!true)=true by decide)]
       exact Jh ⟨rfl,V,λc d B u hd=>by rw[g c B,g d (by lia)];exact k c d B u hd⟩
     ·exact Jh ⟨rfl,e,k⟩
    ·rintro c a ⟨rfl,e,k⟩
     dsimp only
     refine Jj (Wi ?_)
     refine last _ ⟨⟨e.b.kind,e.b.fail,e.b.perm,e.b.all⟩,?_,?_⟩ k
     ·show Runs ((pendingOf a).modify _ _).toList 0 lo
      rw[Wf]
      refine Runs.modify ?_ e.runs
      exact λx=>⟨rfl,rfl⟩
     ·show ∀ x∈((pendingOf a).modify _ _).toList,Up rk (arrOf a) x.1 x.2.1
      rw[Wf]
      intro x p
      obtain⟨y,O,T,e2⟩:=zcF (by exact λx=>⟨rfl,rfl⟩) p
      rw[T,e2];exact e.up y O
   ·exact last _ v u3
  ·rw[Jb W]
   have v:=Jk st2 U
   have u3:=X
   generalize st2=f at v u3 ⊢
   refine Jj (Wg ?_)
   have last:∀ a,Ji κ P rk a₀ lo a->Up rk (arrOf a) lo n->wpS (model prog w) A E s (do
     modify λl=>setPending l ((pendingOf l).push (lo,n,0))
     pure (ForInStep.yield ((none:Option Unit),lo+n))) (λr st'=>match r with|.done F=>∃ lo,F=(none,lo)/\lo=a₀.size/\Ji κ P rk a₀ lo st'|.yield F=>∃ lo,F=(none,lo)/\i+1<=lo/\lo<=a₀.size/\Ji κ P rk a₀ lo st') a:=by
    intro a e k
    refine Jj (Wi (Jh ⟨lo+n,rfl,by lia,by lia,⟨e.b.kind,e.b.fail,e.b.perm,e.b.all⟩,?_,?_⟩))
    ·show Runs ((pendingOf a).push (lo,n,0)).toList 0 (lo+n)
     rw[Zn]
     exact e.runs.app ⟨rfl,n1,rfl⟩
    ·show ∀ x∈((pendingOf a).push (lo,n,0)).toList,Up rk (arrOf a) x.1 x.2.1
     rw[Zn]
     intro x p
     rcases JB.mp p with o|o
     ·exact e.up x o
     ·rw[Je.mp o];exact k
   split
   ·rename_i s1 m1 w1 hb
    refine Jj (YX (Yv (I:=λj c a=>c=(none,())/\Ji κ P rk a₀ lo a/\Up rk (arrOf a) lo n) (Q:=λc a=>c=(none,())/\Ji κ P rk a₀ lo a/\Up rk (arrOf a) lo n) ?_ (λc a R=>R) ⟨rfl,v,u3⟩) ?_)
    ·rintro j c a _ hj ⟨rfl,e,k⟩
     refine Jj (Wg ?_)
     split
     ·rename_i a1 a2 H K
      split
      ·exact Jh ⟨rfl,e,k⟩
      ·have sz:(pendingOf a).size > 1:=by
        by_cases q:(pendingOf a).size > 1
        ·exact q
        ·rw[Jb q]at K;cases K
       refine Jj (zlP C e S (by lia) λl V g _=>?_)
       rw[Jb (show ¬(!true)=true by decide)]
       exact Jh ⟨rfl,V,λc d B u hd=>by rw[g c B,g d (by lia)];exact k c d B u hd⟩
     ·exact Jh ⟨rfl,e,k⟩
    ·rintro c a ⟨rfl,e,k⟩
     dsimp only
     refine Jj (Wi ?_)
     refine last _ ⟨⟨e.b.kind,e.b.fail,e.b.perm,e.b.all⟩,?_,?_⟩ k
     ·show Runs ((pendingOf a).modify _ _).toList 0 lo
      rw[Wf]
      refine Runs.modify ?_ e.runs
      exact λx=>⟨rfl,rfl⟩
     ·show ∀ x∈((pendingOf a).modify _ _).toList,Up rk (arrOf a) x.1 x.2.1
      rw[Wf]
      intro x p
      obtain⟨y,O,T,e2⟩:=zcF (by exact λx=>⟨rfl,rfl⟩) p
      rw[T,e2];exact e.up y O
   ·exact last _ v u3
 case post =>
  rintro c m ⟨lo,rfl,rfl,J⟩
  dsimp only
  refine Jj (YX (Yv (I:=λi c st2=>c=(none,())/\Ji κ P rk a₀ a₀.size st2/\(pendingOf st2).size<=a₀.size-i+1)
   (Q:=λc st2=>c=(none,())/\Ji κ P rk a₀ a₀.size st2/\(pendingOf st2).size<=1) ?_ ?_ ⟨rfl,J,?_⟩) ?_)
  ·rintro i c st2 _ hi ⟨rfl,D,sz⟩
   refine Jj (Wg ?_)
   by_cases z:(pendingOf st2).size<=1
   ·rw[Jf z]
    exact Jh ⟨rfl,D,z⟩
   rw[Jb z]
   have go:∀ t,t+1<(pendingOf st2).size->wpS (model prog w) A E s (mergeAt' t) (λb f=>b=true/\Ji κ P rk a₀ a₀.size f/\(pendingOf f).size<=a₀.size-(i+1)+1) st2:=λt ht =>
    zlP C D (Jg _) ht λf v _ L=>⟨rfl,v,by lia⟩
   refine Jj (YX (go _ ?_) ?_)
   ·repeat' split
    all_goals lia
   ·rintro b f ⟨rfl,v,L⟩
    exact Jh ⟨rfl,v,L⟩
  ·rintro c st2 ⟨rfl,D,sz⟩
   exact⟨rfl,D,by lia⟩
  ·have:=J.runs.len
   rw[JA]at this
   lia
  ·rintro c st2 ⟨rfl,D,sz⟩
   refine Jh (h st2 D.b ?_)
   have M:=D.runs
   have up:=D.up
   have ln:(pendingOf st2).toList.length<=1:=by rw[JA];exact sz
   match hq:(pendingOf st2).toList,ln with
   | [],_ =>
    rw[hq]at M
    intro c d B u hd
    have:0=a₀.size:=M
    lia
   | [x],_ =>
    rw[hq]at M up
    obtain⟨r1,r2,r3⟩:=M
    have:0+x.2.1=a₀.size:=r3
    have:=up x (by simp)
    rw[r1,show x.2.1=a₀.size by lia]at this
    exact this
end
section
variable {prog:Program}{w:World}{A:Around}{E:Value->Shared->Prop}{s:Shared}
theorem zhD {a:Addr}{vs:List Value}{n:Nat}{r:Fin->Shared->Prop}(m:s.heap.get? a=some (seqObj "list" vs.toArray n)) (D:vs.length<=10000) (κ:SortKind) (d:Value->Int)
  (f:∀ h',(∀ c o,c≠a->s.heap.get? c=some o->h'.get? c=some o)->2<=vs.length->∀ {Q:SortKind->Shared->Prop}{E:Value->Shared->Prop},Q κ { s with heap:=h' }->wpAny (model prog w) A (keyKind' vs.toArray) Q E { s with heap:=h' })
  (j:∀ h',(∀ c o,c≠a->s.heap.get? c=some o->h'.get? c=some o)->Cmp prog w A { s with heap:=h' } κ (λp=>p.1∈vs) (λp=>d p.1))
  (h:∀ out:List Value,out.Perm vs->out.Pairwise (λx y=>d x<=d y)->r (.done (.ret .none)) { s with heap:=sortedHeap s.heap a vs out.toArray }) :
  wpAny (model prog w) A (Builtin.«list.sort» ⟨[.ref a],[]⟩) r E s:=by
 have al:a<s.heap.objs.size:=Jr m
 have ln:vs.toArray.size=vs.length:=Jm ..
 have sl:vs.length<=sizeLine:=Y3 D (by decide)
 rw[list_sort_plain]
 refine J0 (listItems_at m rfl (J0 (listUpdate_at m rfl ?_ (hsz:=by rw[ln];exact sl))))
 obtain⟨ep,v⟩:∃ ep,(s.heap.update a (Obj.mapSeq λ_=>#[])).get? a=some (seqObj "list" #[] ep):=⟨_,get?_update_seq m λ_=>#[]⟩
 refine J0 (seqEpoch_at v rfl (J0 (wpAny_newTuple (J0 (wpAny_newList (Yi ?_))))))
 have g:(((s.heap.update a (Obj.mapSeq λ_=>#[])).push (seqObj "tuple" vs.toArray 0)).push (seqObj "list" #[] 0)).get? a=some (seqObj "list" #[] ep) :=
  J8 _ (J8 _ v)
 have old:∀ c o,c≠a->s.heap.get? c=some o->(((s.heap.update a (Obj.mapSeq λ_=>#[])).push (seqObj "tuple" vs.toArray 0)).push (seqObj "list" #[] 0)).get? c=some o:=λc o B q =>
  J8 _ (J8 _ ((Yr _ _ (Ne.symm B)).trans q))
 show wpAny (model prog w) A _ r E { s with heap:=((s.heap.update a (Obj.mapSeq λ_=>#[])).push (seqObj "tuple" vs.toArray 0)).push (seqObj "list" #[] 0) }
 have lo:∀ out:List Value,out.Perm vs->out.toArray.size<=sizeLine+1:=λout p1=>by rw[Jm,p1.length_eq];lia
 generalize H:((s.heap.update a (Obj.mapSeq λ_=>#[])).push (seqObj "tuple" vs.toArray 0)).push (seqObj "list" #[] 0)=h6 at g old ⊢
 have back:∀ out:Array Value,sortedHeap s.heap a vs out=h6.update a (Obj.mapSeq λ_=>out):=λout=>by rw[<- H];rfl
 by_cases few:vs.toArray.size<2
 ·rw[Jf few,Jf few]
  refine J0 (J9 (?_:wpAny _ _ _ _ _ _))
  refine J0 (J9 ?_)
  have em:(vs.toArray.zip vs.toArray).map (·.2)=vs.toArray:=by
   apply Array.ext'
   rw[Array.toList_map,Array.toList_zip]
   exact List.map_snd_zip (Jg _)
  have one:vs.Pairwise (λx y=>d x<=d y):=by
   match vs,few with
   | [],_=>exact List.Pairwise.nil
   | [x],_=>exact ZR _ _
   | _::_::_,z=>simp at z;lia
  have k:=h vs (List.Perm.refl _) one
  rw[back]at k
  dsimp only
  rw[em]
  refine J0 (seqEpoch_at g rfl (J0 (listUpdate_at g rfl ?_ (hsz:=JN _) (hsz2:=lo vs (List.Perm.refl _)))))
  simp only[YV,bne_self_eq_false,Y7]
  exact J9 k
 rw[Jb few,Jb few]
 refine J0 (f h6 old (by lia) ?_)
 have C:=j h6 old
 refine J0 (JT (zln C (a₀:=vs.toArray.zip vs.toArray) (st:=SortSt.mk' κ (vs.toArray.zip vs.toArray) #[] 7 none)
  (Q:=λ_ st'=>Bs κ (λp=>p.1∈vs) (vs.toArray.zip vs.toArray) st'/\Up (λp=>d p.1) (arrOf st') 0 (vs.toArray.zip vs.toArray).size) ⟨rfl,rfl,Array.Perm.refl _,λp l=>?_⟩ rfl λst' b u=>⟨b,u⟩) ?_ λ_ _ e=>e)
 ·have:(vs.toArray.zip vs.toArray).toList=vs.zip vs:=by simp
  rw[this]at l
  exact(List.of_mem_zip l).1
 rintro⟨⟨⟩,st'⟩ s' ⟨rfl,b,u⟩
 have t:(arrOf st').toList.Perm (vs.zip vs):=by
  have:=Array.perm_iff_toList_perm.mp b.perm
  simpa using this
 have same:∀ p∈(arrOf st').toList,p.1=p.2:=λp l=>by
  have h1:=t.mem_iff.mp l
  obtain⟨i,hi⟩:=Zk.mp h1
  rw[Wn]at hi
  have:=hi.1.symm.trans hi.2
  exact Jn this
 have so:Srt (λp=>d p.1) (arrOf st').toList:=by
  have:=zhv (arr:=arrOf st') (lo:=0) (n:=(arrOf st').size) (by rw[b.size];exact u) (by lia)
  rw[Yu,zdj,<- JA,YA]at this
  exact this
 have pm:((arrOf st').toList.map (·.2)).Perm vs:=by
  have:=t.map (·.2)
  rwa [List.map_snd_zip (Jg _)]at this
 have em:(arrOf st').map (·.2)=((arrOf st').toList.map (·.2)).toArray:=by
  apply Array.ext';simp
 have k:=h _ pm (by
  refine List.pairwise_map.mpr (List.Pairwise.imp_of_mem ?_ so)
  intro x y G F le
  rw[<- same x G,<- same y F];exact le)
 rw[back]at k
 dsimp only
 rw[em,b.fail]
 refine J0 (seqEpoch_at g rfl (J0 (listUpdate_at g rfl ?_ (hsz:=JN _) (hsz2:=lo _ pm))))
 simp only[YV,bne_self_eq_false,Y7]
 exact J9 k
end
end Ts
namespace Own
open PySem PySem.Spec PyProof.Rows Ts
section
variable {prog:Program}{w:World}{A:Around}{E:Value->Shared->Prop}{s:Shared}
theorem zlb {x:Value}{Q:Value->Shared->Prop}
  (h:wpAny (model prog w) A.in1 (collect x) (λvs s1=>∃ (κ:SortKind) (a:Value->Int),vs.length<=10000 /\
   (∀ h':Heap,(∀ c o,s1.heap.get? c=some o->h'.get? c=some o)->2<=vs.length->∀ (b:Around) {Q:SortKind->Shared->Prop}{E:Value->Shared->Prop},Q κ { s1 with heap:=h' }->wpAny (model prog w) b (keyKind' vs.toArray) Q E { s1 with heap:=h' }) /\
   (∀ h':Heap,(∀ c o,s1.heap.get? c=some o->h'.get? c=some o)->∀ (b:Around),b.units<=A.units+8->Cmp prog w b { s1 with heap:=h' } κ (λp=>p.1∈vs) (λp=>a p.1)) /\
   ∀ (h':Heap) (l:Addr) (e:Nat) (out:List Value),s1.heap.objs.size<=l->h'.get? l=some (seqObj "list" out.toArray e)->out.Perm vs->out.Pairwise (λx y=>a x<=a y)->(∀ c o,s1.heap.get? c=some o->h'.get? c=some o)->Q (.ref l) { s1 with heap:=h' }) E s) :
  wpAny (model prog w) A (call (.builtin "sorted") [x]) Q E s:=by
 refine Calls.call_function_entry kind_sorted plain_sorted entry_sorted (args_sorted1 _) ?_;unfold Builtin.«sorted»
 refine J0 (m:=checkCount "sorted" 1 1 _) (J9 (J0 (JT h (λvs s1 z=>?_) λ_ _ e=>e)))
 obtain⟨κ,a,d,f,i,fin⟩:=z
 have sl:vs.length<=sizeLine:=Y3 d (by decide)
 refine J0 (wpAny_newList ?_ (hsz:=sl))
 have new:(s1.heap.push (seqObj "list" vs.toArray 0)).get? s1.heap.objs.size=some (seqObj "list" vs.toArray 0):=Js _ rfl
 have up:∀ h':Heap,(∀ c o,c≠s1.heap.objs.size->(s1.heap.push (seqObj "list" vs.toArray 0)).get? c=some o->h'.get? c=some o)->∀ c o,s1.heap.get? c=some o->h'.get? c=some o:=λh' k c o e=>k c o (JF (Jr e)) (J8 _ e)
 refine J0 (Yi (Y4 slot_list_sort ⟨_,new,rfl⟩ entry_list_sort (zhD new d κ a (λh' k l2=>f h' (up h' k) l2 _) (λh' k=>i h' (up h' k) _ ?_) λout p1 p2=>⟨_,rfl,?_⟩) (args_list_sort _)))
 ·show A.units+1+1<=A.units+8
  lia
 obtain⟨e,g⟩:=sortedHeap_at (out:=out.toArray) new
 refine J9 ⟨_,rfl,fin _ _ e out (Jg _) g p1 p2 λc o q=>?_⟩
 have lt:=Jr q
 rw[sortedHeap_old (JF lt) (by rw[size_push'];exact Wq lt)]
 exact J8 _ q
end
end Own
namespace L2
open PySem PySem.Spec PyProof.Rows Own Ts
inductive Lx (H:Hp):Nat->V->V->Ordering->Prop where
 | int (n:Nat) (i j:Int):Lx H n (.int i) (.int j) (compare i j)
 | row {n:Nat}{a b:Addr}{xs ys:List V}{cs:List Ordering}(ha:H a=some (.tup xs)) (hb:H b=some (.tup ys)) (l1:xs.length=cs.length) (l2:ys.length=cs.length) (h:∀ (i:Nat) u v c,xs[i]?=some u->ys[i]?=some v->cs[i]?=some c->Lx H n u v c) :
   Lx H (n+1) (.ref a) (.ref b) (cs.foldr Ordering.then .eq)
theorem zc1:∀ {cs:List Ordering},cs.foldr Ordering.then .eq=.eq↔∀ c∈cs,c=.eq
 | []=>by simp
 | c::cs=>by
  rw[List.foldr_cons]
  constructor
  ·intro h
   cases c<;>simp[Ordering.then]at h
   intro d hd
   rcases Jt.mp hd with rfl|a
   ·rfl
   ·exact zc1.mp h d a
  ·intro h
   rw[h c JH]
   exact zc1.mpr λd hd=>h d (JG _ hd)
theorem ze9:∀ {cs:List Ordering},cs.foldr Ordering.then .eq≠.eq->∃ (k:Nat) (c:Ordering),cs[k]?=some c/\c≠.eq/\cs.foldr Ordering.then .eq=c/\∀ j:Nat,j<k->cs[j]?=some Ordering.eq
 | [],h=>absurd rfl h
 | c::cs,h=>by
  by_cases z:c=.eq
  ·subst z
   have e:(Ordering.eq::cs).foldr Ordering.then .eq=cs.foldr Ordering.then .eq:=rfl
   rw[e]at h ⊢
   obtain⟨k,d,h1,g,f,b⟩:=ze9 h
   refine⟨k+1,d,by simpa using h1,g,f,λj a=>?_⟩
   cases j with
   | zero=>rfl
   | succ j=>simpa using b j (by lia)
  ·refine⟨0,c,rfl,z,?_,λj a=>by lia⟩
   rw[List.foldr_cons]
   cases c<;>first|rfl|exact absurd rfl z
section
variable {X:Cx}
theorem zda (i j:Int):(compare i j == .eq)=decide (i=j)/\(compare i j == .lt)=decide (i<j):=by
 rw[show compare i j=compareOfLessAndEq i j from rfl]
 unfold compareOfLessAndEq
 by_cases h1:i<j
 ·rw[Jf h1,JE h1,Jv (by lia)];exact⟨rfl,rfl⟩
 ·rw[Jb h1,Jv h1]
  by_cases a:i=j
  ·rw[Jf a,JE a];exact⟨rfl,rfl⟩
  ·rw[Jb a,Jv a];exact⟨rfl,rfl⟩
theorem Lx.refl {H:Hp}{n:Nat}{x y:V}{c:Ordering}(h:Lx H n x y c):x=y->c=.eq:=by
 induction h with
 | int n i j =>
  intro e
  cases e
  have:=(zda i i).1
  rw[JE rfl]at this
  simpa using this
 | @row n a b xs ys cs ha hb l1 l2 h ih =>
  intro e
  cases e
  rw[ha]at hb
  cases hb
  refine zc1.mpr λc d=>?_
  obtain⟨i,hi⟩:=Zk.mp d
  have f:=(Jc.mp hi).1
  exact ih i _ _ c (J7 (by lia)) (J7 (by lia)) hi rfl
theorem zkc {pins:List (Addr × Obj)}{σ:St}{H:Hp}{s:Shared}(I:Inv X pins σ H s) {n:Nat}{x y:V}{c:Ordering}(h:Lx H n x y c):∀ (A:Around) (u v:Value),A.units+n<cLine->RelV x u->RelV y v->SeqAt.EqAt A s u v (c == .eq):=by
 induction h with
 | int n i j =>
  intro A u v _ o m
  have:=zkU (A:=A) (s:=s) (x:=.int j) (y:=.int i) o m rfl rfl
  rw[(zda i j).1]
  have e:eqV (.int i) (.int j)=decide (i=j):=by
   show (i == j)=decide (i=j)
   by_cases z:i=j<;>simp[z]
  rwa [e]at this
 | @row n a b xs ys cs ha hb l1 l2 h ih =>
  intro A u v Q o m
  cases o;cases m
  by_cases D:a=b
  ·subst D
   have:cs.foldr Ordering.then .eq=.eq:=Lx.refl (.row ha hb l1 l2 h) rfl
   rw[this];exact SeqAt.EqAt.same _
  ·obtain⟨its,C,p1,_⟩:=I.tuple (SqT.of ha)
   obtain⟨f,B,p2,_⟩:=I.tuple (SqT.of hb)
   have q:=C.length
   have p:=B.length
   refine SeqAt.EqAt.of_refs D ?_
   have e:((List.range (min its.toArray.size f.toArray.size)).all (λj=>(cs.getD j .eq) == .eq) && its.toArray.size == f.toArray.size)=(cs.foldr Ordering.then .eq == .eq):=by
    rw[Jm,Jm,<- q,<- p,l1,l2,Zx,Bool.and_true,Nat.min_self]
    by_cases z:cs.foldr Ordering.then .eq=.eq
    ·rw[z]
     refine(Zb.mpr λj M=>?_).trans rfl
     have w:=Yx.mp M
     rw[Ja,J7 w,Zw,zc1.mp z _ (Y5 w)];rfl
    ·obtain⟨k,d,h1,O,N,_⟩:=ze9 z
     have K:=(Jc.mp h1).1
     rw[N]
     have f1:(d == Ordering.eq)=false:=by simpa using O
     rw[f1]
     refine Bool.eq_false_iff.mpr λt=>?_
     have:=Zb.mp t k (Yx.mpr K)
     rw[Ja,h1,Zw,f1]at this
     cases this
   have:=SeqAt.RcAt.tuples (e:=λj=>(cs.getD j .eq) == .eq) p1 p2 (A:=A) (s:=s) (by lia) (λj k1 L=>?_)
   ·rwa [e]at this
   ·have l:j<xs.length:=by simpa [q] using k1
    have g:j<ys.length:=by simpa [p] using L
    obtain⟨F,P,J⟩:=C.get (J7 l)
    obtain⟨E,e2,G⟩:=B.get (J7 g)
    have z1:its.toArray[j]=F:=by simpa using (Jc.mp P).2
    have z2:f.toArray[j]=E:=by simpa using (Jc.mp e2).2
    have r:j<cs.length:=by lia
    rw[z1,z2,Ja,J7 r,Zw]
    exact ih j _ _ _ (J7 l) (J7 g) (J7 r) A.in1 _ _ (by show A.units+1+n<cLine;lia) J G
theorem zmM {pins:List (Addr × Obj)}{σ:St}{H:Hp}{s:Shared}(I:Inv X pins σ H s) {n:Nat}{x y:V}{c:Ordering}(h:Lx H n x y c):c≠.eq->∀ (A:Around) (u v:Value),A.units+n<cLine->RelV x u->RelV y v->LtAt A s u v (c == .lt):=by
 induction h with
 | int n i j =>
  intro _ A u v _ ⟨t1,r⟩ ⟨t2,e2⟩
  subst r e2
  rw[(zda i j).2]
  exact LtAt.ints i j t1 t2
 | @row n a b xs ys cs ha hb l1 l2 h ih =>
  intro ne A u v N g f
  cases g;cases f
  obtain⟨its,z,p1,_⟩:=I.tuple (SqT.of ha)
  obtain⟨e,w,p2,_⟩:=I.tuple (SqT.of hb)
  have G:=z.length
  have F:=w.length
  obtain⟨k,d,h1,t,L,K⟩:=ze9 ne
  have M:=(Jc.mp h1).1
  have at_:∀ j (k1:j<its.toArray.size) (q:j<e.toArray.size),∃ (m:j<xs.length) (l:j<ys.length),RelV xs[j] its.toArray[j]/\RelV ys[j] e.toArray[j]:=λj k1 q=>by
   have p:j<xs.length:=by simpa [G] using k1
   have o:j<ys.length:=by simpa [F] using q
   obtain⟨C,r,E⟩:=z.get (J7 p)
   obtain⟨B,e2,D⟩:=w.get (J7 o)
   have z1:its.toArray[j]=C:=by simpa using (Jc.mp r).2
   have z2:e.toArray[j]=B:=by simpa using (Jc.mp e2).2
   rw[z1,z2]
   exact⟨p,o,E,D⟩
  rw[L]
  have b1:k<its.toArray.size:=by rw[Jm];lia
  have b2:k<e.toArray.size:=by rw[Jm];lia
  obtain⟨m,l,g,f⟩:=at_ k b1 b2
  refine LtAt.tuples (k:=k) p1 p2 (by lia) b1 b2 (λj k1 q J=>?_) ?_ ?_
  ·obtain⟨m,l,g,f⟩:=at_ j k1 q
   exact zkc I (h j _ _ _ (J7 m) (J7 l) (K j J)) A.in1 _ _ (by show A.units+1+n<cLine;lia) g f
  ·have:=zkc I (h k _ _ _ (J7 m) (J7 l) h1) A.in1 _ _ (by show A.units+1+n<cLine;lia) g f
   rwa [show (d == Ordering.eq)=false from by simpa using t]at this
  ·exact ih k _ _ _ (J7 m) (J7 l) h1 t A.in1 _ _ (by show A.units+1+n<cLine;lia) g f
end
def vOf:Value->V
 | .int i _=>.int i
 | .ref a=>.ref a
 | _=>.non
theorem ze5:∀ {xs:List V}{us:List Value},Vals xs us->(∀ x∈xs,(∃ i,x=.int i)\/∃ a,x=.ref a)->xs=us.map vOf/\∀ u∈us,RelV (vOf u) u
 | _,_,.nil,_=>⟨rfl,λu g=>by simp at g⟩
 | x::xs,u::us,.cons r rs,h=>by
  obtain⟨e,f⟩:=ze5 rs λy c=>h y (JG _ c)
  have one:vOf u=x/\RelV (vOf u) u:=by
   rcases h x JH with ⟨i,rfl⟩|⟨a,rfl⟩
   ·obtain⟨t,rfl⟩:=r;exact⟨rfl,t,rfl⟩
   ·cases r;exact⟨rfl,rfl⟩
  refine⟨by rw[JZ,one.1,<- e],λv d=>?_⟩
  rcases Jt.mp d with rfl|b
  ·exact one.2
  ·exact f v b
theorem zel:∀ {us:List Value},(∀ u∈us,RelV (vOf u) u)->Vals (us.map vOf) us
 | [],_=>.nil
 | u::us,h=>.cons (h u JH) (zel λv a=>h v (JG _ a))
section
variable {prog:Program}{w:World}{A:Around}{E:Value->Shared->Prop}{s:Shared}
theorem zjQ {u v:Value}{b:Bool}{Q:Bool->Shared->Prop}(l:LtAt A s u v b) (h:Q b s):wpAny (model prog w) A (oneLt' false u v) Q E s:=by
 rw[oneLt'_eq,Jb Jp]
 exact J0 (l prog w _ _ (Z0 h))
end
section
variable {X:Cx}{pins:List (Addr × Obj)}{σ:St}{H:Hp}{s:Shared}
theorem Inv.adopt {T:Addr}{o:HO}(I:Inv X pins σ H s) (d:FpOk X pins H T) (new:ObjOk X.prog X.w (upd H T o) s.heap T o):Inv X pins σ (upd H T o) s:=by
 have a:=d.1
 have J:Inv X pins σ (upd H T o) { s with heap:=s.heap,gens:=s.gens,drawn:=s.drawn,toks:=s.toks }:=by
  refine I.step (ch:=[T]) (λb hb=>?_) (λb u _ _ _ e _=>e) (λb u _ _ _ e _=>⟨u.slots,e⟩) (λb u g _ n=>by rw[zah λq=>g (Je.mpr q)];exact n)
   (λb u _ e=>⟨u,e⟩) (λb xs e=>by rw[zah (zaf e a)];exact e) (λb u x e=>by rw[zah (zaf e a)];exact e) (λb ps e=>⟨#[],by rw[zah (zaf e a),e];simp⟩) (λm f=>f) (λb u e=>?_) I.bare
  ·have only:=Je.mp hb
   subst only
   exact⟨d.2.2.2.1,d.2.1,d.2.2.2.2.1,d.2.2.2.2.2⟩
  ·by_cases hb:b=T
   ·subst hb;rw[zag]at e;cases e;exact new
   ·rw[zah hb]at e
    exact(I.hok b u e).stay (λc v _ q=>q) (λc q=>by rw[zah (zaf q a)];exact q) λc xs q=>by rw[zah (zaf q a)];exact q
 exact J
end
end L2
namespace L2
open PySem PySem.Spec PyProof.Rows Own
section
variable {X:Cx}{pins:List (Addr × Obj)}{σ:St}{H:Hp}{s:Shared}{d:Addr}
theorem Inv.reword {u v:HO}(I:Inv X pins σ H s) (hd:H d=some u) (f:∀ xs,u≠.tup xs) (nb:∀ ps,u≠.tbl ps) (no:∀ a,u≠.own a) (i:∀ o' g,X.H₀ d≠some (.frz o' g)) (new:ObjOk X.prog X.w (upd H d v) s.heap d v):Inv X pins σ (upd H d v) s:=by
 have ne:∀ {b},H b=none->b≠d:=λe z=>by rw[z,hd]at e;cases e
 have oth:∀ {b} {q:HO},H b=some q->q≠u->upd H d v b=some q:=λ{b q} e n=>by
  rw[zah];· exact e
  ·intro z
   rw[z,hd]at e
   exact n (Jn e).symm
 refine⟨I.ok,I.os,I.bare,⟨I.base.keep,I.base.slot,λb q e n j=>?_,I.base.there,λb xs e=>oth (I.base.tups b xs e) λz=>f xs z.symm,λb q w e=>?_,λb ps e=>?_⟩,I.loc,I.cell,?_,λx c e=>?_,λp k=>?_,λb q e=>?_,I.len⟩
 ·have z:=I.base.free b q e n j
  rw[zah (ne z)];exact z
 ·rw[zah]
  ·exact I.base.frzs b q w e
  ·rintro rfl;exact i q w e
 ·obtain⟨more,z⟩:=I.base.tbls b ps e
  exact⟨more,oth z λq=>nb _ q.symm⟩
 ·rw[zah (ne I.free)];exact I.free
 ·have z:=I.freeC x c e
  rw[zah (ne z)];exact z
 ·obtain⟨p1,p2,h⟩:=I.pin p k
  exact⟨p1,by rw[zah (ne p2)];exact p2,h⟩
 ·by_cases z:b=d
  ·subst z
   rw[zag]at e
   cases e;exact new
  ·rw[zah z]at e
   exact(I.hok b q e).stay (λc w _ r=>r) (λc r=>oth r λz=>no _ z.symm) λc xs r=>oth r λz=>f _ z.symm
end
def NIv (H:Hp):KI->V->Prop
 | .inl i,v=>v=.int i
 | .inr xs,v=>∃ b,v=.ref b/\H b=some (.tup (xs.map V.int))
def NIvs (H:Hp):KN->List V->Prop
 | [],vs=>vs=[]
 | k::ks,vs=>∃ v r,vs=v::r/\NIv H k v/\NIvs H ks r
def NKey (H:Hp) (k:KN) (b:Addr):Prop:=∃ ys,H b=some (.tup ys)/\NIvs H k ys
theorem NIvs.tups {H H':Hp}(t:∀ b ys,H b=some (.tup ys)->H' b=some (.tup ys)):∀ {k:KN}{ys:List V},NIvs H k ys->NIvs H' k ys
 | [],_,h=>h
 | .inl i::k,_,h=>by
  obtain⟨v,r,e,h1,a⟩:=h
  exact⟨v,r,e,h1,NIvs.tups t a⟩
 | .inr xs::k,_,h=>by
  obtain⟨v,r,e,⟨b,h1,c⟩,a⟩:=h
  exact⟨v,r,e,⟨b,h1,t _ _ c⟩,NIvs.tups t a⟩
theorem NKey.tups {H H':Hp}(t:∀ b ys,H b=some (.tup ys)->H' b=some (.tup ys)) {k:KN}{b:Addr}(h:NKey H k b):NKey H' k b:=by
 obtain⟨ys,h1,a⟩:=h
 exact⟨ys,t _ _ h1,a.tups t⟩
section
variable {P:Program}{w:World}{H:Hp}{h:Heap}
theorem zgk (ok:HOk P w H h):∀ {k:KN}{ys:List V}{its:List Value},NIvs H k ys->Vals ys its->NIts P w h k its
 | [],_,its,a,r=>by
  rw[show _=[] from a]at r
  cases r;rfl
 | k::ks,_,its,a,r=>by
  obtain⟨v,q,rfl,a1,a2⟩:=a
  cases r with
  | @cons _ u _ us c r =>
   refine⟨u,us,rfl,?_,zgk ok a2 r⟩
   cases k with
   | inl i=>rw[show v=.int i from a1]at c;exact c
   | inr xs =>
    obtain⟨b,rfl,hb⟩:=a1
    refine⟨b,c,?_⟩
    have e:xs.map V.int=(xs.map (Sum.inl:Int->Key)).map kV:=by rw[Zv];rfl
    rw[e]at hb
    exact zmR ok hb
theorem zdc (ok:HOk P w H h) {k:KN}{b:Addr}(a:NKey H k b):NIs P w h k b:=by
 obtain⟨ys,hb,a⟩:=a
 obtain⟨_,its,r,o,h1,d,n,c⟩:=(show ObjOk P w H h b (.tup ys) from ok b _ hb)
 exact⟨o,its.toArray,n,h1,d,c.1,by simpa using zgk ok a r⟩
end
abbrev KVN:=List (KN × Addr × V)
def PrN:KN × Addr × V->KN × Addr × Value->Prop:=λp q=>p.1=q.1/\p.2.1=q.2.1/\RelV p.2.2 q.2.2
def valN (xs:KVN) (k:KN):Option V:=(xs.find? λx=>decide (x.1=k)).map (·.2.2)
def putN (xs:KVN) (k:KN) (b:Addr) (v:V):KVN:=if (valN xs k).isSome then xs.map λx=>if x.1=k then (x.1,x.2.1,v) else x else xs++[(k,b,v)]
theorem zdK {xs:KVN}{vs:List (KN × Addr × Value)}(r:Paired PrN xs vs) (k:KN):RelO (valN xs k) ((atKey vs k).map (·.2)):=by
 induction r with
 | nil=>exact True.intro
 | @cons p q ps a h t ih =>
  unfold valN atKey at ih ⊢
  rw[YK,YK,h.1]
  by_cases c:q.1=k
  ·rw[JE c];exact h.2.2
  ·rw[Jv c];exact ih
theorem zjD {xs:KVN}{vs:List (KN × Addr × Value)}(r:Paired PrN xs vs) (k:KN) {v:V}{u:Value}(a:RelV v u):Paired PrN (xs.map λx=>if x.1=k then (x.1,x.2.1,v) else x) (vs.map (putAt k u)):=by
 induction r with
 | nil=>exact .nil
 | @cons p q ps b h t ih =>
  refine .cons ?_ ih
  unfold putAt
  dsimp only
  by_cases c:q.1=k
  ·rw[Jf (h.1.trans c),Jf c];exact⟨h.1,h.2.1,a⟩
  ·rw[Jb (λz=>c (h.1.symm.trans z)),Jb c];exact h
theorem putN_rel {xs:KVN}{vs:List (KN × Addr × Value)}(r:Paired PrN xs vs) (k:KN) (b:Addr) {v:V}{u:Value}(a:RelV v u):Paired PrN (putN xs k b v) (storedH vs k b u):=by
 have e:=(zdK r k).isSome_eq
 rw[Option.isSome_map]at e
 unfold putN storedH
 rw[<- e]
 by_cases c:(valN xs k).isSome=true
 ·rw[Jf c,Jf c];exact zjD r k a
 ·rw[Jb c,Jb c];exact Paired.snoc r ⟨rfl,rfl,a⟩
theorem zf7 (xs:KVN) (k:KN) (b:Addr) (v:V):(putN xs k b v).length<=xs.length+1:=by
 unfold putN
 split
 ·rw[Jq];lia
 ·rw[Jd];exact Jg _
def PhN (P:Program) (w:World) (a:Addr) (xs:KVN):Heap->Prop:=λh=>xs.length<=sizeLine/\(a == sysModules)=false/\∃ vs,Paired PrN xs vs /\
 ∃ o es ep,h.get? a=some o/\o.ExactDict/\o.data=.dict es ep/\es.toList=vs.map (entryOfKey (zbq P w))/\(vs.map (·.1)).Nodup
def DN (P:Program) (w:World) (a:Addr) (xs:KVN):HO:=.ext (PhN P w a xs)
def KsIn (H:Hp) (xs:KVN):Prop:=∀ x∈xs,NKey H x.1 x.2.1
theorem KsIn.tups {H H':Hp}{xs:KVN}(t:∀ b ys,H b=some (.tup ys)->H' b=some (.tup ys)) (h:KsIn H xs):KsIn H' xs:=λx a=>(h x a).tups t
section
variable {P:Program}{w:World}{H H':Hp}{h h':Heap}{a:Addr}{xs:KVN}
theorem dn_new (z:xs.length<=sizeLine) (hd:(a == sysModules)=false) {vs:List (KN × Addr × Value)}(r:Paired PrN xs vs) (d:h'.DictOfH (zbq P w) a vs):ObjOk P w H' h' a (DN P w a xs):=by
 obtain⟨o,es,ep,h1,f,e,c,_,b⟩:=d
 refine⟨⟨z,hd,vs,r,o,es,ep,h1,f,e,c,b⟩,⟨o,h1⟩,λk1 g ⟨z,hd,vs,r,o,es,ep,h1,f,e,c,b⟩ s=>⟨z,hd,vs,r,o,es,ep,s o h1,f,e,c,b⟩⟩
theorem zfL (ok:HOk P w H h) (e:Rd H a (DN P w a xs)) (ks:KsIn H xs):xs.length<=sizeLine/\(a == sysModules)=false/\∃ vs,Paired PrN xs vs/\h.DictOfH (zbq P w) a vs:=by
 obtain⟨⟨z,hd,vs,r,o,es,ep,h1,j,i,f,d⟩,l,k⟩:=(show ObjOk P w H h a (DN P w a xs) from zmo ok e)
 refine⟨z,hd,vs,r,o,es,ep,h1,j,i,f,?_,d⟩
 clear f d e z l k
 induction r with
 | nil=>intro x b;exact nomatch b
 | @cons p q ps m c t ih =>
  intro x b
  rcases Jt.mp b with here|there
  ·have:=zdc ok (ks p JH)
   rw[c.1,c.2.1,<- here]at this
   exact this
  ·exact ih (λy g=>ks y (JG _ g)) x there
end
section
variable {X:Cx}{pins:List (Addr × Obj)}{σ:St}{H:Hp}{s:Shared}{a b:Addr}{xs:KVN}{k:KN}{v d:V}{r:Value}{A:Around}{E:Value->Shared->Prop}
theorem zjZ (a:A.units+3<cLine):(zbq X.prog X.w).room A.in1:=by show A.in1.units+2<cLine;rw[Around.in1_units];lia
theorem n_in {Q:Value->Shared->Prop}(d:A.units+3<cLine) (I:Inv X pins σ H s) (e:Rd H a (DN X.prog X.w a xs)) (ks:KsIn H xs) (c:NKey H k b) (h:∀ s',Inv X pins σ H s'->Q (.bool (valN xs k).isSome) s') :
  wpAny (model X.prog X.w) A (compareOp .In (.ref b) (.ref a)) Q E s:=by
 obtain⟨z,hd,vs,rel,f⟩:=zfL I.hok e ks
 refine wpAny_in_heap (zjZ d) (zdc I.hok c) hd f ?_
 have q:=(zdK rel k).isSome_eq
 rw[Option.isSome_map]at q
 rw[<- q]
 exact h _ (I.tok _)
theorem zmL {Q:Value->Shared->Prop}(j:A.units+3<cLine) (I:Inv X pins σ H s) (e:Rd H a (DN X.prog X.w a xs)) (ks:KsIn H xs) (i:NKey H k b) (g:RelV d r) (h:∀ c s',Inv X pins σ H s'->RelV ((valN xs k).getD d) c->Q c s') :
  wpAny (model X.prog X.w) A (call (.builtin "dict.get") [.ref a,.ref b,r]) Q E s:=by
 obtain⟨z,hd,vs,rel,f⟩:=zfL I.hok e ks
 exact call_meetsIn PySem.F.slot_dict_get f.typeIs PySem.F.entry_dict_get (PySem.F.args_dict_get_3 _ _ _) (meetsH_dict_get_default (zbq X.prog X.w) a b hd r) ⟨zjZ j,k,vs,zdc I.hok i,f,h _ _ (I.tok _) ((zdK rel k).getD g)⟩
theorem zir {Q:Unit->Shared->Prop}(i:A.units+3<cLine) (I:Inv X pins σ H s) (e:H a=some (DN X.prog X.w a xs)) (ks:KsIn H xs) (f:NKey H k b) (d:RelV v r) (l:xs.length<sizeLine) (h:∀ s',Inv X pins σ (upd H a (DN X.prog X.w a (putN xs k b v))) s'->Q () s') :
  wpAny (model X.prog X.w) A (setItem (.ref a) (.ref b) r) Q E s:=by
 obtain⟨z,hd,vs,rel,p⟩:=zfL I.hok (.inl e) ks
 have g:vs.length<=sizeLine:=by rw[<- YR rel];exact z
 have n:(putN xs k b v).length<=sizeLine:=by have:=zf7 xs k b v;lia
 refine wpAny_setItem_heap (hsz:=g) (zjZ i) (zdc I.hok f) p λh' c j=>h _ ?_
 have o:∃ q,h'.get? a=some q:=let ⟨q,_,_,m,_⟩:=c;⟨q,m⟩
 exact zfM I (by rw[e];exact True.intro) j o (dn_new n hd (putN_rel rel k b d) c)
end
section
variable {prog:Program}{w:World}{A:Around}{E:Value->Shared->Prop}{s:Shared}{d:Addr}
theorem zi1 {o:Obj}{es:Array DictEntry}{ep:Nat}{Q:Value->Shared->Prop}(a:s.heap.get? d=some o) (b:o.ExactDict) (hd:o.data=.dict es ep) (c:(d == sysModules)=false) (h:Q (.int es.size s.toks) { s with toks:=s.toks+1 }) :
  wpAny (model prog w) A (Builtin.«dict.__len__» ⟨[.ref d],[]⟩) (λfin s'=>∃ r,fin=.done (.ret r)/\Q r s') E s:=by
 have ty:s.TypeIs (.ref d) "dict":=⟨o,a,b.1⟩
 unfold Builtin.«dict.__len__» Builtin.Dict.dictSlotNone
 refine J0 (J0 (wpAny_notOrdered_dict ty ?_))
 refine J0 ?_
 show wpAny _ _ (pure ((.ref d,[]):Value × List Value)) _ _ _
 refine J9 (J9 (J0 ?_))
 show wpAny _ _ (pure d) _ _ _
 unfold dictSize
 refine J9 (J0 (J0 (Yc a hd (J9 (J0 (wpAny_pendingCount_other c ?_))))))
 unfold retInt
 have g:Q (.int ((es.size:Int)+((0:Nat):Int)) s.toks) { s with toks:=s.toks+1 }:=by
  rw[show ((es.size:Int)+((0:Nat):Int))=es.size from Int.add_zero _]
  exact h
 exact J0 (wpAny_mkInt (J9 ⟨_,rfl,g⟩))
theorem zgp {o:Obj}{es:Array DictEntry}{ep:Nat}{Q:Value->Shared->Prop}(b:s.heap.get? d=some o) (a:o.ExactDict) (hd:o.data=.dict es ep) (c:(d == sysModules)=false) (e:(es.size:Int)<2 ^ 63) (h:∀ t,Q (.int es.size t) { s with toks:=s.toks+1+1 }) :
  wpAny (model prog w) A (Builtin.«len» ⟨[.ref d],[]⟩) (λfin s'=>∃ r,fin=.done (.ret r)/\Q r s') E s:=by
 have ty:s.TypeIs (.ref d) "dict":=⟨o,b,a.1⟩
 unfold Builtin.«len»
 refine J0 ?_
 show wpAny _ _ (pure (Value.ref d)) _ _ _
 refine J9 (J0 (wpAny_callSpecial?_slot ty PySem.F.slot_dict_len (Y4 PySem.F.slot_dict_len ty PySem.F.entry_dict_len (zi1 b a hd c ?_) (PySem.F.args_dict_len_1 _))))
 show wpAny _ _ (holding [Value.int (es.size:Int) s.toks] (asIndex (.int (es.size:Int) s.toks)) >>= _) _ _ _
 refine J0 (Yi (show wpAny _ _ (pure (es.size:Int)) _ _ _ from J9 (J0 (ZQ ?_))))
 dsimp only
 rw[Jb (by lia),Jb (by lia)]
 unfold retInt
 exact J0 (wpAny_mkInt (J9 ⟨_,rfl,h _⟩))
end
section
variable {X:Cx}{pins:List (Addr × Obj)}{σ:St}{H:Hp}{s:Shared}{a:Addr}{xs:KVN}{A:Around}{E:Value->Shared->Prop}
theorem zj3 {P:Program}{w:World}{h:Heap}(ok:HOk P w H h) (e:Rd H a (DN P w a xs)):(a == sysModules)=false/\∃ o es ep,h.get? a=some o/\o.ExactDict/\o.data=.dict es ep/\es.size=xs.length/\(es.size:Int)<2 ^ 63:=by
 obtain⟨⟨z,hd,vs,r,o,es,ep,h1,d,c,b,f⟩,_,_⟩:=(show ObjOk P w H h a (DN P w a xs) from zmo ok e)
 have l:es.size=xs.length:=by rw[ZJ b,<- YR r]
 refine⟨hd,o,es,ep,h1,d,c,l,?_⟩
 rw[JC]at z
 lia
theorem znq {Q:Value->Shared->Prop}(I:Inv X pins σ H s) (e:Rd H a (DN X.prog X.w a xs)) (h:∀ t s',Inv X pins σ H s'->Q (.int xs.length t) s'):wpAny (model X.prog X.w) A (call (.builtin "len") [.ref a]) Q E s:=by
 obtain⟨hd,o,es,ep,h1,c,b,l,f⟩:=zj3 I.hok e
 refine Calls.call_function_entry kind_len plain_len entry_len (args_len1 _) (zgp h1 c b hd f λt=>?_)
 rw[l]
 exact h _ _ (I.tok _)
theorem zlN {Q:Bool->Shared->Prop}(I:Inv X pins σ H s) (e:Rd H a (DN X.prog X.w a xs)) (h:∀ s',Inv X pins σ H s'->Q (!xs.isEmpty) s'):wpAny (model X.prog X.w) A (truthy (.ref a)) Q E s:=by
 obtain⟨hd,o,es,ep,h1,c,d,l,f⟩:=zj3 I.hok e
 have ty:s.TypeIs (.ref a) "dict":=⟨o,h1,c.1⟩
 have q:∀ (n:Nat) (b:Bool),n=xs.length->b=((n:Int) != 0)->b = !xs.isEmpty:=λn b g e2=>by
  subst g e2
  cases xs with
  | nil=>rfl
  | cons x r=>rw[Ys];simp;lia
 unfold truthy
 show wpAny _ _ (callSpecial? (Value.ref a) (Str.ofString "__bool__") >>= _) _ _ _
 refine J0 (wpAny_callSpecial?_none (T:="dict") ty noBool_dict ?_)
 show wpAny _ _ (specialOf (Value.ref a) (Str.ofString "__len__") >>= _) _ _ _
 refine J0 (wpAny_specialOf (T:="dict") ty PySem.F.slot_dict_len.lookup ?_)
 show wpAny _ _ (runValue (Code.builtin "len" { pos:=[Value.ref a] }) >>= _) _ _ _
 refine J0 (wpAny_runValue (ZG entry_len ?_))
 refine JT (zgp (Q:=λr s'=>(∃ t,r=.int es.size t)/\Inv X pins σ H s') h1 c d hd f λt=>⟨⟨t,rfl⟩,I.tok _⟩) ?_ λ_ _ z=>z
 rintro fin s' ⟨r,rfl,⟨t,rfl⟩,i⟩
 refine J9 ?_
 rw[q es.size _ l rfl]
 exact h s' i
end
def NAt (P:Program) (w:World) (H:Hp) (a:Addr) (xs:KVN):Prop:=Rd H a (DN P w a xs)/\KsIn H xs
def zmh (P:Program) (w:World) (td ty tx:TE):TE:=λσ H Q=>td σ H λx H1=>∃ a,x=.ref a/\(∃ xs,Rd H1 a (DN P w a xs))/\ty σ H1 λy d=>tx σ d λz c=>∃ b xs k,y=.ref b/\NAt P w c a xs/\NKey c k b/\Q ((valN xs k).getD z) c
def znl (P:Program) (w:World) (td ty tv:TE):TS:=λD σ H=>tv σ H λv H1=>td σ H1 λx d=>ty σ d λy c=>∃ a b xs k,x=.ref a/\y=.ref b/\c a=some (DN P w a xs)/\KsIn c xs/\NKey c k b/\xs.length<sizeLine/\D.nx σ (upd c a (DN P w a (putN xs k b v)))
section
variable {X:Cx}{o i e f value:Expr}{pos pos' apos cpos:Pos}{td ty tv tx:TE}
theorem ziq {pins:List (Addr × Obj)}{σ:St}{H:Hp}{s:Shared}{a:Addr}{xs:KVN}(I:Inv X pins σ H s) (d:Rd H a (DN X.prog X.w a xs)) :
  s.TypeIs (.ref a) "dict"/\∀ b,Value.ref a=.ref b->∃ ob,s.heap.get? b=some ob/\ob.dict=none:=by
 obtain⟨_,q,es,ep,h1,c,_⟩:=zj3 I.hok d
 refine⟨⟨q,h1,c.1⟩,λb z=>?_⟩
 cases z
 exact⟨q,h1,c.2.1⟩
theorem zjK (w:X.A.units+3<cLine) (A:PE X o td) (C:PE X e ty) (B:PE X f tx) (m:M2 X o "get" apos e f cpos):PE X (.Call (.Attribute o "get" apos) [e,f] [] cpos) (zmh X.prog X.w td ty tx):=by
 intro pins s σ H Q I h
 refine wpAny_Call_method m.base m.few m.line PySem.F.plainAttrs_dict PySem.F.slot_dict_get PySem.F.type_dict_get (thn (A pins s σ H _ I h) λu s1 ⟨x,H1,g,l,a,ex,⟨ys,d⟩,r⟩=>?_)
 subst ex
 cases (show u=Value.ref a from l)
 obtain⟨t1,t2⟩:=ziq g d
 refine⟨t1,t2,?_⟩
 rw[m.trees]
 refine ZS rfl (Calls.evalArgs_plain (ZM (thn (C pins s1 σ H1 _ g r) λv s2 ⟨y,K,G,j,q⟩ =>
  ZM (thn (B pins s2 σ K _ G q) λO N ⟨z,J,F,i,b,xs,k,D,n,t,p⟩=>Wp ?_))))
 subst D
 cases (show v=Value.ref b from j)
 exact zmL w F n.1 n.2 t i λL M E c=>⟨_,J,E,c,p⟩
theorem zlr (q:X.A.units+3<cLine) (w:PE X o td) (hi:PE X i ty) (p:PE X value tv) (t:swapsWith value (some (.Subscript o i pos')) pos.line X.env=pure false) :
  PS X (.Assign [.Subscript o i pos'] value pos) (znl X.prog X.w td ty tv):=by
 intro pins s σ H D I h
 refine wpAny_Assign_Subscript (thn (p pins s σ H _ I h) λr s1 ⟨v,H1,E,e,j⟩=>thn (w pins s1 σ H1 _ E j) λu s2 ⟨x,F,C,d,g⟩=>thn (hi pins s2 σ F _ C g) λn J ⟨y,K,B,c,a,b,xs,k,ex,z,hd,ks,m,l,f⟩=>?_) t
 subst ex z
 cases (show u=Value.ref a from d)
 cases (show n=Value.ref b from c)
 exact zir q B hd ks m e l λG A=>⟨σ,_,A,f⟩
theorem zjc:CallR X (.builtin "len") (λvs H Q=>∃ a xs,vs=[.ref a]/\Rd H a (DN X.prog X.w a xs)/\Q (.int xs.length) H):=by
 intro pins s σ H vs us Q I b ⟨a,xs,e,d,q⟩
 subst e
 obtain⟨u,rfl,c⟩:=b.one
 cases (show u=Value.ref a from c)
 exact znq I d λt s' f=>⟨.int xs.length,H,f,⟨t,rfl⟩,q⟩
theorem zm7:TruR X (λx H Q=>∃ a xs,x=.ref a/\Rd H a (DN X.prog X.w a xs)/\Q (!xs.isEmpty) H):=by
 intro pins s σ H x v Q I b ⟨a,xs,e,d,q⟩
 subst e
 cases (show v=Value.ref a from b)
 exact zlN I d λs' c=>⟨H,c,q⟩
theorem pt_n (ha:PE X o td) (d:∀ whole,isTrue o X.env whole=(do let v <- whole;standAt o.pos;holding [v] (truthy v))) :
  PT X o (λσ H Q=>td σ H λx H'=>∃ a xs,x=.ref a/\Rd H' a (DN X.prog X.w a xs)/\Q (!xs.isEmpty) H'):=by
 intro pins s σ H Q I h
 exact isTrue_plain (thn (ha pins s σ H _ I h) λv s1 ⟨x,H1,e,b,c⟩=>zm7 pins s1 σ H1 x v Q e b c) (d _)
def znf (P:Program) (w:World):TE:=λ_ H Q=>∀ p,H p=none->Q (.ref p) (upd H p (DN P w p []))
theorem zh2:PE X (.Dict [] [] pos) (znf X.prog X.w):=λpins s σ H Q I h =>
 wpAny_Dict_empty ⟨.ref s.heap.objs.size,_,I.laid (a:=s.heap.objs.size) (o:=DN X.prog X.w s.heap.objs.size []) (t':=s.toks) (λ_ _ q=>J8 _ q) (Jg _)
  (dn_new (vs:=[]) (JN _) (ZA.mpr (Z1 I.big)) .nil (Heap.DictOfH.new _)),rfl,h _ (I.hok.fresh (Jg _))⟩
end
def rOne (P:Program) (w:World) (p:Addr) (Q:VK):List (V × V)->Hp->Prop
 | [(y,v)],a=>∃ b k,y=.ref b/\a p=some (DN P w p [])/\NKey a k b/\Q (.ref p) (upd a p (DN P w p [(k,b,v)]))
 | _,_=>False
def zne (P:Program) (w:World) (ty tv:TE):TE:=λσ H Q=>∀ p,H p=none->ty σ (upd H p (DN P w p [])) λy H1=>tv σ H1 λv a=>∃ b k,y=.ref b/\a p=some (DN P w p [])/\NKey a k b/\Q (.ref p) (upd a p (DN P w p [(k,b,v)]))
section
variable {X:Cx}{e f:Expr}{pos:Pos}{ty tv:TE}
theorem zjJ (J:X.A.units+3<cLine) (C:PE X e ty) (u:PE X f tv):PE X (.Dict [some e] [f] pos) (zne X.prog X.w ty tv):=by
 intro pins s σ H Q I q
 have B:=I.hok.fresh (Jg s.heap.objs.size)
 have F:=I.laid (a:=s.heap.objs.size) (o:=DN X.prog X.w s.heap.objs.size []) (h':=s.heap.push { cls:=.type "dict",data:=.dict #[] }) (t':=s.toks) (λ_ _ q=>J8 _ q) (Jg _)
  (dn_new (vs:=[]) (JN _) (ZA.mpr (Z1 I.big)) .nil (Heap.DictOfH.new _))
 refine wpAny_Dict_any rfl rfl (by simp) (by show 1<=15;lia) (thn ((zjG C u zls) pins _ σ _ (rOne X.prog X.w s.heap.objs.size Q) F (q _ B)) ?_)
 rintro vs s2 ⟨ps,K,d,rel,r⟩
 match ps,rel,r with
 | [(y,v)],rel,r =>
  obtain⟨b,k,rfl,g,n,m⟩:=r
  cases rel with
  | @cons _ i _ us h t =>
   cases t
   obtain⟨j,G⟩:=i
   cases (show j=Value.ref b from h.1)
   obtain⟨z,hd,vs,l,E⟩:=zfL d.hok (.inl g) (λx p=>nomatch p)
   cases l
   unfold storeAll
   rw[YU]
   refine J0 (J0 (wpAny_dictSet_heap (knd:=zbq X.prog X.w) (k:=k) (hsz:=JN _) (show X.A.units+2<cLine by lia) (zdc d.hok n) E λh' c w=>J9 ?_))
   dsimp only
   rw[Zq]
   refine J9 ⟨.ref s.heap.objs.size,_,?_,rfl,m⟩
   have D:∃ q,h'.get? s.heap.objs.size=some q:=let ⟨q,_,_,A,_⟩:=c;⟨q,A⟩
   exact zfM d (by rw[g];exact True.intro) w D (dn_new (by show 1<=sizeLine;decide) hd (.cons ⟨rfl,rfl,h.2⟩ .nil) c)
 | [],_,r=>exact r.elim
 | _::_::_,_,r=>exact r.elim
end
section
variable {prog:Program}{w:World}{A:Around}{E:Value->Shared->Prop}{s:Shared}{d:Addr}
theorem ziO {Q:Int->Shared->Prop}(q:Q (reduceHash 0xFCA86420) { s with toks:=s.toks+1 }):wpAny (model prog w) A (pyHash .none) Q E s:=by
 show wpAny (model prog w) A (pyHashByItsType .none) Q E s
 refine W.pyHash_slot (T:="NoneType") (id:="NoneType.__hash__") (B:=Builtin.«NoneType.__hash__») rfl F.slot_NoneType_hash F.entry_NoneType_hash (F.args_NoneType_hash_1 _) (by decide) (.inl rfl) ?_
 unfold Builtin.«NoneType.__hash__»
 refine J0 ?_
 show wpAny _ _ (pure _) _ _ _
 unfold retInt
 exact J9 (J0 (wpAny_mkInt (J9 ⟨_,_,rfl,q⟩)))
theorem zdi {a:Addr}{k:KN}{Q:Bool->Shared->Prop}(d:A.units<cLine) (c:NIs prog w s.heap k a) (q:Q false s):wpAny (model prog w) A (eqBool (.ref a) .none) Q E s:=by
 obtain⟨as,b⟩:=c.reads
 exact PySem.SeqAt.eqBoolOverData prog w A E s _ _ _ .none as [] Q b .none (ziE k).1 rfl (by show A.units+min _ 0<cLine;lia) q
theorem zgQ {n:Nat}{Q:Bool->Shared->Prop}(q:Q true s):wpAny (model prog w) A (eqIsQuiet n .none) Q E s:=by
 cases n<;>exact J9 q
theorem zgL {α β:Type}{f:α->β->Sem (ForInStep β)}{b:β}:∀ (l:List α) {Q:β->Shared->Prop},(∀ i∈l,∀ R:ForInStep β->Shared->Prop,R (.yield b) s->wpAny (model prog w) A (f i b) R E s)->Q b s->wpAny (model prog w) A (forIn l b f) Q E s
 | [],Q,_,q=>by rw[Zq];exact J9 q
 | i::l,Q,h,q=>by
  rw[YU]
  exact J0 (h i JH _ (zgL l (λj a=>h j (JG _ a)) q))
theorem zhr {stored:List Value}{Q:Bool->Shared->Prop}(h:∀ v∈stored,∃ a k,v=.ref a/\NIs prog w s.heap k a) (q:Q false s):wpAny (model prog w) A (tableMayTell .none stored) Q E s:=by
 unfold tableMayTell
 by_cases c:stored.isEmpty=true
 ·rw[Jf c];exact J9 q
 rw[Jb c]
 refine J0 (zgQ (J0 (zgL stored (λv b R r=>?_) (J9 q))))
 obtain⟨a,k,rfl,d⟩:=h v b
 exact J0 (zdA d (J9 r))
theorem ziX {o:Obj}{es:Array DictEntry}{ep:Nat}{h:Int}{Q:Option Nat->Shared->Prop}(n:A.units<cLine) (f:s.heap.get? d=some o) (hd:o.data=.dict es ep) (B:∀ e∈es.toList,∃ a k,e.key=.ref a/\NIs prog w s.heap k a) (q:Q none s) :
  wpAny (model prog w) A (dictFind d .none h) Q E s:=by
 have key:∀ (i:Nat) (e:DictEntry),es[i]?=some e->∃ a k,e.key=.ref a/\NIs prog w s.heap k a:=λi e b=>B e (by
  obtain⟨l,z⟩:=JW.mp b
  rw[<- z];exact Array.getElem_mem_toList l)
 unfold dictFind
 refine Yi (J0 (Yc f hd ?_))
 by_cases c:(Value.none::List.filterMap (λi=>Option.map (λx=>x.key) es[i]?) (placesWithHash es.size (λi=>Option.map (λx=>x.hash) es[i]?) h)).all carriedByValue=true
 ·refine(JX (λm=>wpAny (model prog w) A m Q E s) (Jf c)).mpr ?_
  unfold dictWalkPlain
  refine J0 (zgL _ (λi hi R r=>?_) (J9 q))
  cases b:es[i]? with
  | none=>exact J9 r
  | some e =>
   obtain⟨a,k,j,g⟩:=key i e b
   by_cases ch:(e.hash == h)=true
   ·refine(JX (λm=>wpAny (model prog w) A m R E s) (Jf ch)).mpr (J0 (Ye f hd (J0 ?_)))
    rw[j]
    refine zdi n g (J0 (Ye f hd ?_))
    dsimp only
    rw[Jb (c:=(ep != ep)=true) (by simp),Jb Jp]
    exact J0 (YT (J9 r))
   ·exact(JX (λm=>wpAny (model prog w) A m R E s) (Jb ch)).mpr (J9 r)
 ·refine(JX (λm=>wpAny (model prog w) A m Q E s) (Jb c)).mpr ?_
  have t:∀ v∈List.filterMap (λi=>Option.map (λx=>x.key) es[i]?) (placesWithHash es.size (λi=>Option.map (λx=>x.hash) es[i]?) h),∃ a k,v=.ref a/\NIs prog w s.heap k a:=λv y=>by
   obtain⟨i,-,e,b,rfl⟩:∃ i:Nat,True/\∃ e:DictEntry,es[i]?=some e/\e.key=v:=by
    obtain⟨i,p⟩:=List.mem_filterMap.mp y
    exact⟨i,True.intro,Yh.mp p.2⟩
   exact key i e b
  by_cases u:(List.filterMap (λi=>Option.map (λx=>x.key) es[i]?) (placesWithHash es.size (λi=>Option.map (λx=>x.hash) es[i]?) h) == [Value.none])=true
  ·refine(JX (λm=>wpAny (model prog w) A m Q E s) (Jf u)).mpr (J0 (J9 ?_))
   dsimp only
   rw[Jb (by simp)]
   refine J0 (zgL _ (λi hi R r=>?_) (J9 q))
   cases b:es[i]? with
   | none=>exact J9 r
   | some e =>
    obtain⟨a,k,j,g⟩:=key i e b
    by_cases ch:(e.hash == h)=true
    ·refine(JX (λm=>wpAny (model prog w) A m R E s) (Jf ch)).mpr (J0 (Ye f hd (J0 ?_)))
     rw[j]
     refine zdi n g (J0 (Ye f hd ?_))
     rw[Jb (c:=(ep != ep)=true) (by simp),Jb Jp]
     refine J0 (YT ?_)
     rw[Jb (by simp)]
     exact J9 r
    ·exact(JX (λm=>wpAny (model prog w) A m R E s) (Jb ch)).mpr (J9 r)
  ·refine(JX (λm=>wpAny (model prog w) A m Q E s) (Jb u)).mpr (J0 (zhr t ?_))
   dsimp only
   rw[Jb (by simp)]
   refine J0 (zgL _ (λi hi R r=>?_) (J9 q))
   cases b:es[i]? with
   | none=>exact J9 r
   | some e =>
    obtain⟨a,k,j,g⟩:=key i e b
    by_cases ch:(e.hash == h)=true
    ·refine(JX (λm=>wpAny (model prog w) A m R E s) (Jf ch)).mpr (J0 (Ye f hd (J0 ?_)))
     rw[j]
     refine zdi n g (J0 (Ye f hd ?_))
     rw[Jb (c:=(ep != ep)=true) (by simp),Jb Jp]
     refine J0 (YT ?_)
     rw[Jb (by simp)]
     exact J9 r
    ·exact(JX (λm=>wpAny (model prog w) A m R E s) (Jb ch)).mpr (J9 r)
theorem zko {o:Obj}{es:Array DictEntry}{ep:Nat}{Q:Option Value->Shared->Prop}(b:A.units<cLine) (c:s.heap.get? d=some o) (hd:o.data=.dict es ep) (f:∀ e∈es.toList,∃ a k,e.key=.ref a/\NIs prog w s.heap k a) (q:Q none { s with toks:=s.toks+1 }) :
  wpAny (model prog w) A (dictGet d .none) Q E s:=by
 unfold dictGet
 exact Yi (J0 (ziO (J0 (ziX (s:={ s with toks:=s.toks+1 }) b c hd f (J9 q)))))
theorem zec {o:Obj}{es:Array DictEntry}{ep:Nat}{Q:Value->Shared->Prop}(b:A.units<cLine) (f:s.heap.get? d=some o) (h:o.ExactDict) (hd:o.data=.dict es ep) (c:(d == sysModules)=false) (g:∀ e∈es.toList,∃ a k,e.key=.ref a/\NIs prog w s.heap k a) (q:Q (.bool false) { s with toks:=s.toks+1 }) :
  wpAny (model prog w) A (Builtin.«dict.__contains__» ⟨[.ref d,.none],[]⟩) (λfin s'=>∃ r,fin=.done (.ret r)/\Q r s') E s:=by
 unfold Builtin.«dict.__contains__»
 refine J0 ?_
 show wpAny _ _ (pure (d,Value.none)) _ _ _
 refine J9 (J0 (zko b f hd g ?_))
 show wpAny _ _ (Builtin.Dict.pendingKey? d .none >>= _) _ _ _
 exact J0 (wpAny_pendingKey_other c (J9 ⟨_,rfl,q⟩))
section
variable {X:Cx}{pins:List (Addr × Obj)}{σ:St}{H:Hp}{a:Addr}{xs:KVN}
theorem zj4 {Q:Value->Shared->Prop}(l:A.units+3<cLine) (I:Inv X pins σ H s) (e:Rd H a (DN X.prog X.w a xs)) (ks:KsIn H xs) (h:∀ s',Inv X pins σ H s'->Q (.bool false) s') :
  wpAny (model X.prog X.w) A (compareOp .In .none (.ref a)) Q E s:=by
 obtain⟨z,hd,vs,rel,o,es,ep,h1,c,j,i,g,m⟩:=zfL I.hok e ks
 have f:∀ e∈es.toList,∃ a k,e.key=.ref a/\NIs X.prog X.w s.heap k a:=λe b=>by
  rw[i]at b
  obtain⟨x,d,rfl⟩:=JD.mp b
  exact⟨x.2.1,x.1,rfl,g x d⟩
 have ty:s.TypeIs (.ref a) "dict":=⟨o,h1,c.1⟩
 show wpAny _ _ (contains (.ref a) .none >>= _) _ _ _
 exact J0 (wpAny_contains_slot ty slot_dict_contains (Y4 slot_dict_contains ty entry_dict_contains
  (zec (by rw[Around.in1_units];lia) h1 c j hd f (Z0 (J9 (h _ (I.tok _))))) (args_dict_contains _ _)))
end
def rInN (P:Program) (w:World):V->V->Hp->VK->Prop:=λx y H Q=>∃ a xs,y=.ref a/\NAt P w H a xs/\((∃ b k,x=.ref b/\NKey H k b/\Q (.bl (valN xs k).isSome) H)\/(x=.non/\Q (.bl false) H))
theorem zmC {X:Cx}(e:X.A.units+3<cLine):OpR X (compareOp .In) (rInN X.prog X.w):=by
 intro pins s σ H x y v u Q I d g ⟨a,xs,i,n,q⟩
 subst i
 cases (show u=Value.ref a from g)
 rcases q with ⟨b,k,ex,h,q⟩|⟨ex,q⟩
 ·subst ex
  cases (show v=Value.ref b from d)
  exact n_in e I n.1 n.2 h λf c=>⟨.bl (valN xs k).isSome,H,c,rfl,q⟩
 ·subst ex
  cases (show v=Value.none from d)
  exact zj4 e I n.1 n.2 λf c=>⟨.bl false,H,c,rfl,q⟩
end
section
variable {prog:Program}{w:World}{A:Around}{E:Value->Shared->Prop}{s:Shared}{d b:Addr}{K:Type}[DecidableEq K]{knd:HeapKind prog w K}{xs:List (K × Addr × Value)}{k:K}{v:Value}
theorem zdx {Q:Unit->Shared->Prop}(F:knd.room A) (t:knd.is s.heap k b) (G:s.heap.DictOfH knd d xs) (C:xs.length<=sizeLine)
  (q:∀ h',h'.DictOfH knd d (storedH xs k b v)->Heap.SameBut d s.heap h'->Q () { s with heap:=h' }):wpAny (model prog w) A (dictSetHashed d (.ref b) (knd.hash k) v) Q E s:=by
 obtain⟨o,es,ep,f,r,hd,n,i,g⟩:=G
 unfold dictSetHashed
 refine Yi (J0 (wpAny_dictFind_heap F t f hd n i g (λno=>?_) (λj p m=>?_)))
 ·refine J0 (YT (wpAny_updateDictKeys f hd (q _ ?_ (YJ _ _ _)) (by rw[ZJ n];exact C) (by simp)))
  have l:=YJ s.heap d (Obj.mapDictKeys λx=>x.push ⟨knd.hash k,.ref b,v⟩)
  refine⟨_,_,_,YM _ f (Obj.isFreed_of_dict (Obj.data_mapDictKeys hd _)),r.mapDictKeys _,Obj.data_mapDictKeys hd _,?_,?_,?_⟩
  ·rw[storedH_new (atKey_none_of_get no),JY,Zn,n];rfl
  ·rw[storedH_new (atKey_none_of_get no)]
   intro x h
   rcases JB.mp h with z|z
   ·exact knd.keeps (i x z) f hd l
   ·rw[Je.mp z];exact knd.keeps t f hd l
  ·rw[storedH_new (atKey_none_of_get no),JY,List.nodup_append]
   refine⟨g,by simp,λa ha c u=>?_⟩
   rw[List.map_singleton,Je]at u
   rintro rfl
   rw[u]at ha
   exact not_mem_keys_of_get no ha
 ·refine J0 (YT (J0 (wpAny_updateDict f hd (wpAny_point (q _ ?_ (YJ _ _ _))) (by simp))))
  have l:=YJ s.heap d (Obj.mapDict λx=>x.modify j λe=>{ e with val:=v })
  refine⟨_,_,_,YM _ f (Obj.isFreed_of_dict (Obj.data_mapDict hd _)),r.mapDict _,Obj.data_mapDict hd _,?_,?_,?_⟩
  ·rw[storedH_old (atKey_of_get g m),Wf,n]
   exact modify_map_putAt _ _ k v (λa B=>rfl) g m
  ·have so:=storedH_old (atKey_of_get g m) b v
   rw[so]
   intro x h
   obtain⟨y,D,rfl⟩:=JD.mp h
   have:=knd.keeps (i y D) f hd l
   unfold putAt
   split
   ·exact this
   ·exact this
  ·rw[storedH_old (atKey_of_get g m),keys_map_putAt];exact g
def mergeN (xs ys:List (K × Addr × Value)):List (K × Addr × Value):=ys.foldl (λacc y=>storedH acc y.1 y.2.1 y.2.2) xs
theorem zhs (acc:List (K × Addr × Value)) (y:K × Addr × Value):(storedH acc y.1 y.2.1 y.2.2).length<=acc.length+1:=by
 unfold storedH
 split
 ·rw[Jq];lia
 ·rw[Jd];exact Jg _
theorem zcE {o:Addr}{ob:Obj}{ys:List (K × Addr × Value)}{Q:PUnit->Shared->Prop}{f:Nat->PUnit->Sem (ForInStep PUnit)}(ne:d≠o)
  (step:∀ (i:Nat) (a:i<ys.length) (s:Shared) (acc:List (K × Addr × Value)) (R:ForInStep PUnit->Shared->Prop),s.heap.get? o=some ob->s.heap.DictOfH knd d acc->knd.is s.heap ys[i].1 ys[i].2.1->acc.length<=sizeLine ->
   (∀ h',h'.DictOfH knd d (storedH acc ys[i].1 ys[i].2.1 ys[i].2.2)->Heap.SameBut d s.heap h'->R (.yield PUnit.unit) { s with heap:=h' })->wpAny (model prog w) A (f i PUnit.unit) R E s) :
  ∀ (m i:Nat) (s:Shared) (acc:List (K × Addr × Value)),i+m=ys.length->s.heap.get? o=some ob->s.heap.DictOfH knd d acc->(∀ x∈ys,knd.is s.heap x.1 x.2.1)->acc.length+m<=sizeLine ->
  (∀ h',h'.DictOfH knd d (mergeN acc (ys.drop i))->Heap.SameBut d s.heap h'->Q PUnit.unit { s with heap:=h' })->wpAny (model prog w) A (forIn (List.range' i m) PUnit.unit f) Q E s
 | 0,i,s,acc,hi,h1,b,e,l,q=>by
  rw[List.range'_zero,Zq]
  refine J9 (q s.heap ?_ (Heap.SameBut.refl _ _))
  rw[List.drop_eq_nil_of_le (by lia)]
  exact b
 | m+1,i,s,acc,hi,h1,b,e,l,q=>by
  have a:i<ys.length:=by lia
  rw[show List.range' i (m+1)=i::List.range' (i+1) m from rfl,YU]
  refine J0 (step i a s acc _ h1 b (e _ (Y5 a)) (by lia) λh' j c=>?_)
  obtain⟨o2,u,v,t,D,r,C,B,y⟩:=b
  have k:h'.get? o=some ob:=by rw[c.2 o (λz=>ne z.symm)];exact h1
  refine zcE ne step m (i+1) { s with heap:=h' } _ (by lia) k j (λx n=>knd.keeps (e x n) t r c) ?_ λp h g=>q p ?_ (c.trans g)
  ·have:=zhs acc ys[i]
   lia
  ·rw[YL a]
   exact h
end
section
variable {prog:Program}{w:World}{A:Around}{E:Value->Shared->Prop}{s:Shared}{d:Addr}{K:Type}[DecidableEq K]{knd:HeapKind prog w K}{xs ys:List (K × Addr × Value)}
theorem zjP {o:Addr}{ob:Obj}{es:Array DictEntry}{ep:Nat}{nm:String}{Q:Array DictEntry->Shared->Prop}(h1:s.heap.get? o=some ob) (h:ob.data=.dict es ep) (d:es.toList=ys.map (entryOfKey knd)) (i:ys.length<=1)
  (g:∀ x∈ys,∀ R:Bool->Shared->Prop,R false s->wpAny (model prog w) A (Builtin.Dict.quietEq (.ref x.2.1)) R E s) (q:Q es s):wpAny (model prog w) A (Builtin.Dict.entriesForEmpty nm o) Q E s:=by
 show wpAny _ _ (dictEntries o >>= _) _ _ _
 refine J0 (Yc h1 h (J0 ?_))
 rw[<- Array.forIn_toList]
 refine zgL _ (λe b R r=>?_) (J9 q)
 rw[d]at b
 obtain⟨x,f,rfl⟩:=JD.mp b
 refine J0 (g x f _ ?_)
 have a:¬(Array.filter (λz=>z.hash == (entryOfKey knd x).hash) es).size > 1:=by
  have l1:=Array.size_filter_le (p:=λz:DictEntry=>z.hash == (entryOfKey knd x).hash) (xs:=es)
  have l2:=ZJ d
  lia
 rw[Jf (c:=(!false)=true) rfl,Jb a]
 exact J9 r
theorem zmF {o2:Obj}{es b:Array DictEntry}{c:Nat}{y:K × Addr × Value}(e:s.heap.get? d=some o2) (j:o2.ExactDict) (a:o2.data=.dict b c) (i:es.toList=[y].map (entryOfKey knd)) (h:knd.is s.heap y.1 y.2.1) :
  (s.heap.update d (Obj.mapDictKeys λ_=>es)).DictOfH knd d [y]:=by
 have f:=YJ s.heap d (Obj.mapDictKeys λ_=>es)
 refine⟨_,_,_,YM _ e (Obj.isFreed_of_dict (Obj.data_mapDictKeys a _)),j.mapDictKeys _,Obj.data_mapDictKeys a _,i,?_,by simp⟩
 intro x g
 rw[Je.mp g]
 exact knd.keeps h e a f
theorem zg0 {o:Addr}{nm:String}{Q:Unit->Shared->Prop}(H:knd.room A) (ne:d≠o) (L:(o == sysModules)=false) (u:s.heap.DictOfH knd d xs) (J:s.heap.DictOfH knd o ys) (G:xs.length+ys.length<=sizeLine) (K:xs≠[]\/ys.length=1)
  (I:∀ x∈ys,∀ R:Bool->Shared->Prop,R false s->wpAny (model prog w) A (Builtin.Dict.quietEq (.ref x.2.1)) R E s)
  (q:∀ h',h'.DictOfH knd d (mergeN xs ys)->Heap.SameBut d s.heap h'->Q () { s with heap:=h' }):wpAny (model prog w) A (Builtin.Dict.mergeDict nm d o) Q E s:=by
 obtain⟨ob,es,ep,h1,S,b,h,v,P⟩:=id J
 obtain⟨o2,j,O,C,N,B,M,U,T⟩:=id u
 have sz:([:es.size]:Std.Legacy.Range).size=ys.length:=by
  rw[<- ZJ h]
  simp[Std.Legacy.Range.size]
 unfold Builtin.Dict.mergeDict
 rw[Jb (by simpa using ne)]
 refine J0 ?_
 unfold Builtin.Dict.showsAll
 rw[Jb (by rw[L];simp)]
 refine J9 (J0 (Yc h1 b ?_))
 dsimp only
 by_cases few:(!(decide (es.size<=8) && es.all λe=>(keyPart e.key).isSome))=true
 ·rw[Jf few]
  refine J0 (Yc C B ?_)
  by_cases em:j.isEmpty=true
  ·rw[Jf em]
   have e2:j.size=0:=by simpa using em
   have x0:xs=[]:=by
    rw[ZJ M]at e2
    exact List.eq_nil_of_length_eq_zero e2
   have F:ys.length=1:=K.resolve_left λz=>z x0
   have l2:es.size=1:=(ZJ h).trans F
   refine J0 (zjP h1 b h (by lia) I ?_)
   rw[Jf (c:=(!es.isEmpty)=true) (by simp;intro z;rw[z]at l2;cases l2)]
   refine J0 (wpAny_updateDictKeys C B (J9 (q _ ?_ (YJ _ _ _))) (by rw[e2];exact JN _) (by rw[l2];lia))
   obtain⟨y,rfl⟩:=List.length_eq_one_iff.mp F
   subst x0
   exact zmF C N B h (v y JH)
  ·rw[Jb em]
   refine J0 (Ye h1 b (J0 (Yc h1 b (J0 ?_))))
   refine(JX (λm=>wpAny (model prog w) A m _ E s) (Std.Legacy.Range.forIn_eq_forIn_range' _ _ _)).mpr ?_
   rw[sz]
   refine zcE (ob:=ob) (ys:=ys) ne (λi t s acc R k1 p r l n=>?_) ys.length 0 s xs (by lia) h1 u v G λh' a f=>J9 (q h' a f)
   have D:es[i]?=some (entryOfKey knd ys[i]):=by rw[entry_at h,J7 t];rfl
   refine J0 (Yc k1 b ?_)
   rw[D]
   refine J0 (Yi (zdx (k:=ys[i].1) H r p l λh' a f=>?_))
   have g:h'.get? o=some ob:=by rw[f.2 o (λz=>ne z.symm)];exact k1
   refine J0 (Ye (s:={ s with heap:=h' }) g b ?_)
   rw[Jb (c:=(ep != ep)=true) (by simp)]
   exact J9 (n h' a f)
 ·rw[Jb few]
  refine J0 (Ye h1 b (J0 (Yc h1 b (J0 ?_))))
  refine(JX (λm=>wpAny (model prog w) A m _ E s) (Std.Legacy.Range.forIn_eq_forIn_range' _ _ _)).mpr ?_
  rw[sz]
  refine zcE (ob:=ob) (ys:=ys) ne (λi t s acc R k1 p r l n=>?_) ys.length 0 s xs (by lia) h1 u v G λh' a f=>J9 (q h' a f)
  have D:es[i]?=some (entryOfKey knd ys[i]):=by rw[entry_at h,J7 t];rfl
  refine J0 (Yc k1 b ?_)
  rw[D]
  refine J0 (Yi (zdx (k:=ys[i].1) H r p l λh' a f=>?_))
  have g:h'.get? o=some ob:=by rw[f.2 o (λz=>ne z.symm)];exact k1
  refine J0 (Ye (s:={ s with heap:=h' }) g b ?_)
  rw[Jb (c:=(ep != ep)=true) (by simp)]
  exact J9 (n h' a f)
theorem zjC {a:Addr}{k:KN}{R:Bool->Shared->Prop}(h:NIs prog w s.heap k a) (r:R false s):wpAny (model prog w) A (Builtin.Dict.quietEq (.ref a)) R E s:=by
 obtain⟨o,its,n,h1,b,d,c⟩:=h
 exact J0 (wpAny_specialOf (T:="tuple") ⟨o,h1,b⟩ F.slot_tuple_eq.lookup (J9 r))
theorem ze6 {o:Addr}{Q:Value->Shared->Prop}(h:knd.room A) (ne:d≠o) (k:(o == sysModules)=false) (e:s.heap.DictOfH knd d xs) (c:s.heap.DictOfH knd o ys) (g:xs.length+ys.length<=sizeLine) (j:xs≠[]\/ys.length=1)
  (i:∀ x∈ys,∀ R:Bool->Shared->Prop,R false s->wpAny (model prog w) A (Builtin.Dict.quietEq (.ref x.2.1)) R E s)
  (q:∀ h',h'.DictOfH knd d (mergeN xs ys)->Heap.SameBut d s.heap h'->Q .none { s with heap:=h' }):wpAny (model prog w) A (Builtin.«dict.update» ⟨[.ref d,.ref o],[]⟩) (λfin s'=>∃ r,fin=.done (.ret r)/\Q r s') E s:=by
 have ty:=c.typeIs
 unfold Builtin.«dict.update»
 refine J0 ?_
 show wpAny _ _ (Builtin.Dict.notOrdered "update" ⟨[Value.ref d,Value.ref o],[]⟩ >>= _) _ _ _
 refine J0 (wpAny_notOrdered_dict (s:=s) e.typeIs ?_)
 show wpAny _ _ (pure (d,[Value.ref o])) _ _ _
 refine J9 ?_
 show wpAny _ _ (Builtin.Dict.updateFrom "dict.update" d (.ref o) [] .none) _ _ _
 show wpAny _ _ (typeOf (Value.ref o) >>= _) _ _ _
 refine J0 (Zg ty ?_)
 rw[Jb (by simp)]
 refine J0 ?_
 unfold Builtin.Dict.merge Builtin.Dict.readDirectly
 refine J0 (J0 (Zu (T:="dict") (b:=true) ty rfl ?_))
 rw[Jb (by simp)]
 refine J0 (wpAny_specialOf (T:="dict") ty F.slot_dict_iter.lookup (J9 ?_))
 rw[Jf (by decide)]
 refine J0 ?_
 show wpAny _ _ (pure o) _ _ _
 refine J9 (zg0 h ne k e c g j i λh' a f=>?_)
 refine J0 ?_
 show wpAny _ _ (pure ()) _ _ _
 exact J9 (J9 ⟨_,rfl,q h' a f⟩)
end
def zcP (xs ys:KVN):KVN:=ys.foldl (λacc y=>putN acc y.1 y.2.1 y.2.2) xs
theorem mergeV_rel:∀ {ys:KVN}{us:List (KN × Addr × Value)}{xs:KVN}{vs:List (KN × Addr × Value)},Paired PrN ys us->Paired PrN xs vs->Paired PrN (zcP xs ys) (mergeN vs us):=by
 intro ys us xs vs r
 induction r generalizing xs vs with
 | nil=>intro q;exact q
 | @cons p u ps us h t ih =>
  intro q
  have e:=putN_rel q p.1 p.2.1 h.2.2
  rw[show storedH vs p.1 p.2.1 u.2.2=storedH vs u.1 u.2.1 u.2.2 by rw[h.1,h.2.1]]at e
  exact ih e
theorem mergeV_len:∀ (ys xs:KVN),(zcP xs ys).length<=xs.length+ys.length
 | [],xs=>Jg _
 | y::ys,xs=>by
  have h1:=mergeV_len ys (putN xs y.1 y.2.1 y.2.2)
  have a:=zf7 xs y.1 y.2.1 y.2.2
  show (zcP (putN xs y.1 y.2.1 y.2.2) ys).length<=_
  rw[JL];lia
section
variable {X:Cx}{pins:List (Addr × Obj)}{σ:St}{H:Hp}{s:Shared}{a b:Addr}{xs ys:KVN}{A:Around}{E:Value->Shared->Prop}
theorem zj2 {Q:Value->Shared->Prop}(p:A.units+3<cLine) (ne:a≠b) (I:Inv X pins σ H s) (j:H a=some (DN X.prog X.w a xs)) (m:KsIn H xs) (B:Rd H b (DN X.prog X.w b ys)) (l:KsIn H ys) (i:xs.length+ys.length<=sizeLine) (v:xs≠[]\/ys.length=1)
  (h:∀ s',Inv X pins σ (upd H a (DN X.prog X.w a (zcP xs ys))) s'->Q .none s'):wpAny (model X.prog X.w) A (call (.builtin "dict.update") [.ref a,.ref b]) Q E s:=by
 obtain⟨z,hd,vs,rel,k⟩:=zfL I.hok (.inl j) m
 obtain⟨z2,g,us,c,d⟩:=zfL I.hok B l
 refine Y4 PySem.F.slot_dict_update k.typeIs PySem.F.entry_dict_update (ze6 (zjZ p) ne g k d (by rw[<- YR rel,<- YR c];exact i) ?_ ?_ λh' f t=>h _ ?_) (PySem.F.args_dict_update_2 _ _)
 ·rcases v with z|z
  ·refine .inl λe=>z ?_
   subst e
   cases rel;rfl
  ·exact .inr (by rw[<- YR c];exact z)
 ·intro x n R r
  obtain⟨o,es,ep,h1,G,F,D,y,C⟩:=d
  exact zjC (y x n) r
 ·have w:∃ q,h'.get? a=some q:=let ⟨q,_,_,u,_⟩:=f;⟨q,u⟩
  exact zfM I (by rw[j];exact True.intro) t w (dn_new (Y3 (mergeV_len _ _) i) hd (mergeV_rel c rel) f)
end
def znd (P:Program) (w:World) (td ty:TE):TE:=λσ H Q=>td σ H λx H1=>∃ a,x=.ref a/\(∃ xs,Rd H1 a (DN P w a xs))/\ty σ H1 λy c=>∃ b xs ys,y=.ref b/\a≠b/\c a=some (DN P w a xs)/\KsIn c xs/\NAt P w c b ys/\xs.length+ys.length<=sizeLine/\(xs≠[]\/ys.length=1)/\Q .non (upd c a (DN P w a (zcP xs ys)))
theorem zlw {X:Cx}{o e:Expr}{apos cpos:Pos}{td ty:TE}(q:X.A.units+3<cLine) (r:PE X o td) (v:PE X e ty) (m:M1 X o "update" apos e cpos):PE X (.Call (.Attribute o "update" apos) [e] [] cpos) (znd X.prog X.w td ty):=by
 intro pins s σ H Q I h
 refine wpAny_Call_method m.base m.few m.line PySem.F.plainAttrs_dict PySem.F.slot_dict_update PySem.F.type_dict_update (thn (r pins s σ H _ I h) λu s1 ⟨x,H1,c,g,a,ex,⟨zs,d⟩,j⟩=>?_)
 subst ex
 cases (show u=Value.ref a from g)
 obtain⟨t1,t2⟩:=ziq c d
 refine⟨t1,t2,?_⟩
 rw[m.trees]
 refine ZS rfl (Calls.evalArgs_plain (ZM (thn (v pins s1 σ H1 _ c j) λl s2 ⟨y,D,B,f,b,xs,ys,w,ne,z,k,n,p,t,i⟩=>Wp ?_)))
 subst w
 cases (show l=Value.ref b from f)
 exact zj2 q ne B z k n.1 n.2 p t λC A=>⟨.non,_,A,rfl,i⟩
section
variable {prog:Program}{w:World}{A:Around}{E:Value->Shared->Prop}{s:Shared}{d:Addr}{o:Obj}{es:Array DictEntry}{ep:Nat}
theorem ziK {Q:Value->Shared->Prop}(a:s.heap.get? d=some o) (c:o.ExactDict) (hd:o.data=.dict es ep) (e:(d == sysModules)=false)
  (q:Q (.ref s.heap.objs.size) { s with heap:=s.heap.push { cls:=.type "dict_keyiterator",data:=.fields #[.ref d,.int 0 0,.int es.size 0,.int ep 0] } }):wpAny (model prog w) A (pyIter (.ref d)) Q E s:=by
 have ty:s.TypeIs (.ref d) "dict":=⟨o,a,c.1⟩
 have nx:=F.slot_dict_keyiterator_next.lookup
 have body:wpAny (model prog w) A.in1 (Builtin.«dict.__iter__» ⟨[.ref d],[]⟩) (λfin s'=>∃ v,fin=.done (.ret v)/\∃ b r,s'.TypeIs v b/\typeLookup (Value.type b) (Str.ofString "__next__")=pure (some r)/\Q v s') E s:=by
  unfold Builtin.«dict.__iter__» Builtin.Dict.dictSlotNone
  refine J0 (J0 (wpAny_notOrdered_dict ty (J0 ?_)))
  show wpAny _ _ (pure ((.ref d,[]):Value × List Value)) _ _ _
  refine J9 (J9 (J0 ?_))
  refine(show wpAny _ _ (pure d) _ _ _ from J9 (J0 ?_))
  unfold Builtin.Dict.showsAll
  rw[Jb (by rw[e];simp)]
  refine J9 (J0 (Yc a hd (J0 (Ye a hd (J0 ?_)))))
  exact JM (J9 ⟨_,rfl,_,_,⟨_,Js _ rfl,rfl⟩,nx,q⟩)
 exact wpAny_pyIter_slot ty F.slot_dict_iter (Y4 F.slot_dict_iter ty F.entry_dict_iter body (F.args_dict_iter_1 _))
end
section
variable {prog:Program}{w:World}{A:Around}{E:Value->Shared->Prop}{s:Shared}{d it:Addr}{o:Obj}{es:Array DictEntry}{ep i:Nat}{e:DictEntry}
theorem zio {Q:Value->Shared->Prop}(l:s.heap.get? d=some o) (hd:o.data=.dict es ep) (hi:s.heap.IsKeyIter it d i es.size ep) (n:es[i]?=some e)
  (q:∀ h',h'.IsKeyIter it d (i+1) es.size ep->(∀ b u,b≠it->s.heap.get? b=some u->h'.get? b=some u)->Q e.key { s with heap:=h' }) :
  wpAny (model prog w) A (Builtin.«dict_keyiterator.__next__» ⟨[.ref it],[]⟩) (λfin s'=>∃ v,fin=.done (.ret v)/\Q v s') E s:=by
 obtain⟨k,f,h,g⟩:=id hi
 have ty:s.TypeIs (.ref it) "dict_keyiterator":=⟨k,f,h⟩
 unfold Builtin.«dict_keyiterator.__next__»
 refine J0 ?_
 show wpAny _ _ (pure (Value.ref it)) _ _ _
 refine J9 (J0 (J0 (J0 (W7 ty (J9 (J0 (wpAny_fieldsOf f g ?_)))))))
 show wpAny _ _ (Builtin.Dict_items.addrOf (Value.ref d) >>= _) _ _ _
 refine J0 (show wpAny _ _ (pure d) _ _ _ from J9 (J0 (Yc l hd ?_)))
 dsimp only
 rw[Jb (c:=((es.size:Int) != (es.size:Int))=true) (by simp)]
 refine J0 (show wpAny _ _ (pure d) _ _ _ from J9 (J0 (Ye l hd ?_)))
 rw[Jb (c:=((ep:Int) != (ep:Int))=true) (by simp)]
 refine J9 ?_
 dsimp only
 rw[Jb (c:=(i:Int)<0) (by lia),Ya,n]
 refine J0 (J0 (W7 ty (J9 (J0 (wpAny_isOneOf_keyiter ty ?_)))))
 show wpAny _ _ (setField (.ref it) 1 (rawInt ((i:Int)+1)) >>= _) _ _ _
 refine J0 (wpAny_setField f g (by show 1<4;lia) ?_)
 have nd:(k.mapFields (·.setIfInBounds 1 (rawInt ((i:Int)+1)))).data=.fields #[.ref d,.int ((i+1:Nat):Int) 0,.int es.size 0,.int ep 0]:=Obj.data_mapFields g _
 have m:=YJ s.heap it (Obj.mapFields (·.setIfInBounds 1 (rawInt ((i:Int)+1))))
 have a:=YM (Obj.mapFields (·.setIfInBounds 1 (rawInt ((i:Int)+1)))) f (Obj.isFreed_of_fields nd)
 have j:(s.heap.update it (Obj.mapFields (·.setIfInBounds 1 (rawInt ((i:Int)+1))))).IsKeyIter it d (i+1) es.size ep:=⟨_,a,(Obj.cls_mapFields ..).trans h,nd⟩
 refine J0 (Yi (J0 (wpAny_isOneOf_keyiter ⟨_,a,(Obj.cls_mapFields ..).trans h⟩ ?_)))
 exact J9 (J9 ⟨_,rfl,q _ j λb u nb hb=>(m.2 b nb).trans hb⟩)
theorem zj0 {Q:Option Value->Shared->Prop}(f:s.heap.get? d=some o) (hd:o.data=.dict es ep) (hi:s.heap.IsKeyIter it d i es.size ep) (g:es[i]?=some e)
  (q:∀ h',h'.IsKeyIter it d (i+1) es.size ep->(∀ b u,b≠it->s.heap.get? b=some u->h'.get? b=some u)->Q (some e.key) { s with heap:=h' }):wpAny (model prog w) A (pyNext (.ref it)) Q E s:=by
 obtain⟨c,j,h,l⟩:=id hi
 have ty:s.TypeIs (.ref it) "dict_keyiterator":=⟨c,j,h⟩
 unfold pyNext
 exact J0 (ZE (wpAny_callSpecial?_slot ty Wc (Y4 Wc ty F.entry_dict_keyiterator_next (zio f hd hi g λh' a k=>J9 (q h' a k)) (F.args_dict_keyiterator_next_1 _))))
theorem ziG {Q:Fin->Shared->Prop}(h:A.handled=none) (e:s.heap.get? d=some o) (hd:o.data=.dict es ep) (hi:s.heap.IsKeyIter it d i es.size ep) (j:es[i]?=none)
  (q:∀ h' ev,Heap.ExtBut it s.heap h'->({ s with heap:=h' }:Shared).TypeIs ev "StopIteration"->E ev { s with heap:=h' }) :
  wpAny (model prog w) A (Builtin.«dict_keyiterator.__next__» ⟨[.ref it],[]⟩) Q E s:=by
 obtain⟨g,a,k,f⟩:=id hi
 have ty:s.TypeIs (.ref it) "dict_keyiterator":=⟨g,a,k⟩
 unfold Builtin.«dict_keyiterator.__next__»
 refine J0 ?_
 show wpAny _ _ (pure (Value.ref it)) _ _ _
 refine J9 (J0 (J0 (J0 (W7 ty (J9 (J0 (wpAny_fieldsOf a f ?_)))))))
 show wpAny _ _ (Builtin.Dict_items.addrOf (Value.ref d) >>= _) _ _ _
 refine J0 (show wpAny _ _ (pure d) _ _ _ from J9 (J0 (Yc e hd ?_)))
 dsimp only
 rw[Jb (c:=((es.size:Int) != (es.size:Int))=true) (by simp)]
 refine J0 (show wpAny _ _ (pure d) _ _ _ from J9 (J0 (Ye e hd ?_)))
 rw[Jb (c:=((ep:Int) != (ep:Int))=true) (by simp)]
 refine J9 ?_
 dsimp only
 rw[Jb (c:=(i:Int)<0) (by lia),Ya,j]
 refine J0 (J0 (W7 ty (J9 (J0 ?_))))
 show wpAny _ _ (setField (.ref it) 0 .none) _ _ _
 refine wpAny_setField a f (by show 0<4;lia) (J0 ?_)
 unfold newExc newTuple
 refine J0 (JM ?_ (by show 0<=sizeLine;exact JN _))
 unfold firstArgMember
 refine J0 (J0 (J9 (J9 (JM (wpAny_raiseNew_none h ?_) ?_))))
 rotate_left
 ·show (_++_:Array Value).size<=sizeLine+2
  rw[Ju]
  show 6+0<=sizeLine+2
  rw[JC];lia
 refine q _ _ (λb u nb hb=>?_) ⟨_,Js _ rfl,rfl⟩
 exact J8 _ (J8 _ (((YJ s.heap it _).2 b nb).trans hb))
theorem zj1 {Q:Option Value->Shared->Prop}(c:A.handled=none) (b:s.heap.get? d=some o) (hd:o.data=.dict es ep) (hi:s.heap.IsKeyIter it d i es.size ep) (e:es[i]?=none)
  (q:∀ h',Heap.ExtBut it s.heap h'->Q none { s with heap:=h' }):wpAny (model prog w) A (pyNext (.ref it)) Q E s:=by
 obtain⟨a,g,f,h⟩:=id hi
 have ty:s.TypeIs (.ref it) "dict_keyiterator":=⟨a,g,f⟩
 unfold pyNext
 refine J0 (ZE (wpAny_callSpecial?_slot ty Wc (Y4 Wc ty F.entry_dict_keyiterator_next (ziG c b hd hi e λh' ev k te=>?_) (F.args_dict_keyiterator_next_1 _))))
 exact J0 (Zu te isSubtype_stop (J9 (q h' k)))
end
section
variable {X:Cx}{pins:List (Addr × Obj)}{σ:St}{H:Hp}{s:Shared}{d:Addr}{o:Obj}{xs:KVN}
theorem Inv.freezeN (I:Inv X pins σ H s) (hd:H d=some (DN X.prog X.w d xs)):∃ o es ep,s.heap.get? d=some o/\o.ExactDict/\o.data=.dict es ep/\es.size=xs.length/\(d == sysModules)=false/\Inv X pins σ (upd H d (.frz o (DN X.prog X.w d xs))) s:=by
 obtain⟨b,o,es,ep,h1,e,c,l,_⟩:=zj3 I.hok (.inl hd)
 refine⟨o,es,ep,h1,e,c,l,b,I.reword hd (λxs q=>by cases q) (λxs q=>by cases q) (λxs q=>by cases q) (λo' a q=>?_) ⟨h1,(show ObjOk X.prog X.w H s.heap d (DN X.prog X.w d xs) from I.hok d _ hd)⟩⟩
 have:=I.base.frzs d o' a q
 rw[hd]at this;cases this
theorem Inv.thawN (I:Inv X pins σ H s) (hd:H d=some (.frz o (DN X.prog X.w d xs))) (b:∀ o' a,X.H₀ d≠some (.frz o' a)):Inv X pins σ (upd H d (DN X.prog X.w d xs)) s:=by
 obtain⟨_,r⟩:=(show ObjOk X.prog X.w H s.heap d (.frz o (DN X.prog X.w d xs)) from I.hok d _ hd)
 exact I.reword hd (λxs q=>by cases q) (λxs q=>by cases q) (λxs q=>by cases q) b r
theorem Inv.meltedN (I:Inv X pins σ H s) {ys:KVN}(hd:H d=some (DN X.prog X.w d ys)):∀ o' a,X.H₀ d≠some (.frz o' a):=λo' a q=>by
 have:=I.base.frzs d o' a q
 rw[hd]at this;cases this
theorem Inv.walkedN {es:Array DictEntry}{ep:Nat}(I:Inv X pins σ H s) (hd:H d=some (.frz o (DN X.prog X.w d xs))) (b:o.data=.dict es ep):s.heap.get? d=some o/\∃ vs,Paired PrN xs vs/\es.toList=vs.map (entryOfKey (zbq X.prog X.w)):=by
 obtain⟨g,⟨z,h,vs,r,o2,e,f,h1,j,a,c,i⟩,_,_⟩:=(show ObjOk X.prog X.w H s.heap d (.frz o (DN X.prog X.w d xs)) from I.hok d _ hd)
 rw[g]at h1
 obtain rfl:=Jn h1
 rw[b]at a
 cases a
 exact⟨g,vs,r,c⟩
end
theorem zno {xs:KVN}{vs:List (KN × Addr × Value)}(r:Paired PrN xs vs):∀ {i:Nat}{p:KN × Addr × V},xs[i]?=some p->∃ q,vs[i]?=some q/\PrN p q:=by
 induction r with
 | nil=>intro i p h;cases h
 | cons q t ih =>
  intro i p h
  cases i with
  | zero=>cases Jn h;exact⟨_,rfl,q⟩
  | succ i=>exact ih h
section
variable {prog:Program}{w:World}{A:Around}{E:Value->Shared->Prop}{s:Shared}{d it:Addr}{o:Obj}{es:Array DictEntry}{ep i:Nat}{e:DictEntry}{k0 v0:Value}
theorem zgY {Q:Value->Shared->Prop}(t:s.heap.get? d=some o) (hd:o.data=.dict es ep) (hi:IsItemIter s.heap it d i es.size ep k0 v0) (y:es[i]?=some e)
  (q:∀ h',IsItemIterOut h' it d (i+1) es.size ep e.key e.val s.heap.objs.size->h'.get? s.heap.objs.size=some { cls:=.type "tuple",data:=.seq #[e.key,e.val] }->(∀ b u,b≠it->s.heap.get? b=some u->h'.get? b=some u)->Q (.ref s.heap.objs.size) { s with heap:=h' }) :
  wpAny (model prog w) A (Builtin.«dict_itemiterator.__next__» ⟨[.ref it],[]⟩) (λfin s'=>∃ v,fin=.done (.ret v)/\Q v s') E s:=by
 have ty:s.TypeIs (.ref it) "dict_itemiterator":=⟨_,hi,rfl⟩
 unfold Builtin.«dict_itemiterator.__next__»
 refine J0 ?_
 show wpAny _ _ (pure (Value.ref it)) _ _ _
 refine J9 (J0 (J0 (J0 (W0 ty (J9 (J0 (wpAny_fieldsOf hi rfl ?_)))))))
 show wpAny _ _ (Builtin.Dict_items.addrOf (Value.ref d) >>= _) _ _ _
 refine J0 (show wpAny _ _ (pure d) _ _ _ from J9 (J0 (Yc t hd ?_)))
 dsimp only
 rw[Jb (c:=((es.size:Int) != (es.size:Int))=true) (by simp)]
 refine J0 (show wpAny _ _ (pure d) _ _ _ from J9 (J0 (Ye t hd ?_)))
 rw[Jb (c:=((ep:Int) != (ep:Int))=true) (by simp)]
 refine J9 ?_
 dsimp only
 rw[Jb (c:=(i:Int)<0) (by lia),Ya,y]
 refine J0 (J0 (W0 ty (J9 (J0 (wpAny_isOneOf_itemiter ty ?_)))))
 show wpAny _ _ (setField (.ref it) 3 (rawInt ((i:Int)+1)) >>= _) _ _ _
 refine J0 (Yd hi (by show 3<8;lia) λh1 g f=>J0 (Yi (J0 (wpAny_isOneOf_itemiter ⟨_,g,rfl⟩ ?_))))
 show wpAny _ _ (Builtin.Dict_items.isOneOf _ _ >>= _) _ _ _
 refine J0 (wpAny_isOneOf_itemiter ⟨_,g,rfl⟩ ?_)
 show wpAny _ _ (Builtin.Dict_items.pairFromOwner (.ref it) 6 e.key e.val) _ _ _
 unfold Builtin.Dict_items.pairFromOwner newTuple
 refine J0 (JM ?_ (by show 2<=sizeLine;decide))
 have a:=J8 { cls:=Value.type "tuple",data:=Data.seq #[e.key,e.val] } g
 have h:=Js h1 (o:={ cls:=Value.type "tuple",data:=Data.seq #[e.key,e.val] }) rfl
 have p:h1.objs.size≠it:=Z1 (Jr g)
 have sz:h1.objs.size=s.heap.objs.size:=f.1
 have r:∀ b u,b≠it->s.heap.get? b=some u->(h1.push { cls:=Value.type "tuple",data:=Data.seq #[e.key,e.val] }).get? b=some u:=λb u nb hb=>J8 _ ((f.2 b nb).trans hb)
 show wpAny (model prog w) A _ _ E { s with heap:=h1.push { cls:=Value.type "tuple",data:=Data.seq #[e.key,e.val] } }
 generalize h1.push { cls:=Value.type "tuple",data:=Data.seq #[e.key,e.val] }=h2 at a h r
 show wpAny _ _ ((field (.ref it) 0 >>= _) >>= _) _ _ _
 refine J0 (J0 (W6 a rfl rfl ?_))
 show wpAny _ _ (pure true) _ _ _
 refine J9 ?_
 show wpAny _ _ (field (.ref it) 6 >>= _) _ _ _
 refine J0 (W6 a rfl rfl (J0 (W6 a rfl rfl ?_)))
 refine J0 (Yd a (by show 6<8;lia) λH D m=>J0 (Yd D (by show 7<8;lia) λG C l=>J0 (Yd C (by show 0<8;lia) λF B k=>J0 (Yd B (by show 1<8;lia) λz x j=>J0 (ZQ ?_)))))
 have n:=((m.trans l).trans k).trans j
 refine J9 (J9 ⟨_,rfl,?_⟩)
 show Q (.ref h1.objs.size) _
 rw[sz]at h x p ⊢
 exact q z x ((n.2 _ p).trans h) λb u nb hb=>(n.2 b nb).trans (r b u nb hb)
theorem zil {Q:Option Value->Shared->Prop}(a:s.heap.get? d=some o) (hd:o.data=.dict es ep) (hi:IsItemIter s.heap it d i es.size ep k0 v0) (c:es[i]?=some e)
  (q:∀ h',IsItemIterOut h' it d (i+1) es.size ep e.key e.val s.heap.objs.size->h'.get? s.heap.objs.size=some { cls:=.type "tuple",data:=.seq #[e.key,e.val] }->(∀ b u,b≠it->s.heap.get? b=some u->h'.get? b=some u)->Q (some (.ref s.heap.objs.size)) { s with heap:=h' }):wpAny (model prog w) A (pyNext (.ref it)) Q E s:=by
 have ty:s.TypeIs (.ref it) "dict_itemiterator":=⟨_,hi,rfl⟩
 unfold pyNext
 exact J0 (ZE (wpAny_callSpecial?_slot ty W8 (Y4 W8 ty F.entry_dict_itemiterator_next (zgY a hd hi c λh' a1 a2 f=>J9 (q h' a1 a2 f)) (F.args_dict_itemiterator_next_1 _))))
theorem zg5 {Q:Fin->Shared->Prop}(e:A.handled=none) (a:s.heap.get? d=some o) (hd:o.data=.dict es ep) (hi:IsItemIter s.heap it d i es.size ep k0 v0) (f:es[i]?=none)
  (q:∀ h' ev,Heap.ExtBut it s.heap h'->({ s with heap:=h' }:Shared).TypeIs ev "StopIteration"->E ev { s with heap:=h' }) :
  wpAny (model prog w) A (Builtin.«dict_itemiterator.__next__» ⟨[.ref it],[]⟩) Q E s:=by
 have ty:s.TypeIs (.ref it) "dict_itemiterator":=⟨_,hi,rfl⟩
 unfold Builtin.«dict_itemiterator.__next__»
 refine J0 ?_
 show wpAny _ _ (pure (Value.ref it)) _ _ _
 refine J9 (J0 (J0 (J0 (W0 ty (J9 (J0 (wpAny_fieldsOf hi rfl ?_)))))))
 show wpAny _ _ (Builtin.Dict_items.addrOf (Value.ref d) >>= _) _ _ _
 refine J0 (show wpAny _ _ (pure d) _ _ _ from J9 (J0 (Yc a hd ?_)))
 dsimp only
 rw[Jb (c:=((es.size:Int) != (es.size:Int))=true) (by simp)]
 refine J0 (show wpAny _ _ (pure d) _ _ _ from J9 (J0 (Ye a hd ?_)))
 rw[Jb (c:=((ep:Int) != (ep:Int))=true) (by simp)]
 refine J9 ?_
 dsimp only
 rw[Jb (c:=(i:Int)<0) (by lia),Ya,f]
 refine J0 (J0 (W0 ty (J9 (J0 ?_))))
 show wpAny _ _ (setField (.ref it) 2 .none) _ _ _
 refine wpAny_setField hi rfl (by show 2<8;lia) (J0 ?_)
 unfold newExc newTuple
 refine J0 (JM ?_ (by show 0<=sizeLine;exact JN _))
 unfold firstArgMember
 refine J0 (J0 (J9 (J9 (JM (wpAny_raiseNew_none e ?_) ?_))))
 rotate_left
 ·show (_++_:Array Value).size<=sizeLine+2
  rw[Ju]
  show 6+0<=sizeLine+2
  rw[JC];lia
 refine q _ _ (λb u nb hb=>?_) ⟨_,Js _ rfl,rfl⟩
 exact J8 _ (J8 _ (((YJ s.heap it _).2 b nb).trans hb))
theorem zim {Q:Option Value->Shared->Prop}(b:A.handled=none) (a:s.heap.get? d=some o) (hd:o.data=.dict es ep) (hi:IsItemIter s.heap it d i es.size ep k0 v0) (c:es[i]?=none)
  (q:∀ h',Heap.ExtBut it s.heap h'->Q none { s with heap:=h' }):wpAny (model prog w) A (pyNext (.ref it)) Q E s:=by
 have ty:s.TypeIs (.ref it) "dict_itemiterator":=⟨_,hi,rfl⟩
 unfold pyNext
 refine J0 (ZE (wpAny_callSpecial?_slot ty W8 (Y4 W8 ty F.entry_dict_itemiterator_next (zg5 b a hd hi c λh' ev k te=>?_) (F.args_dict_itemiterator_next_1 _))))
 exact J0 (Zu te isSubtype_stop (J9 (q h' k)))
theorem zg7 {v:Addr}{Q:Value->Shared->Prop}(a:s.heap.IsItemsView v d) (b:s.heap.get? d=some o) (hd:o.data=.dict es ep)
  (q:Q (.ref s.heap.objs.size) { s with heap:=s.heap.push { cls:=.type "dict_itemiterator",data:=.fields #[.none,.bool false,.ref d,.int 0 0,.int es.size 0,.int ep 0,.none,.none] } }):wpAny (model prog w) A (pyIter (.ref v)) Q E s:=by
 obtain⟨h,f,g,e⟩:=id a
 have ty:=a.typeIs
 have nx:=F.slot_dict_itemiterator_next.lookup
 have body:wpAny (model prog w) A.in1 (Builtin.«dict_items.__iter__» ⟨[.ref v],[]⟩) (λfin s'=>∃ v,fin=.done (.ret v)/\∃ c r,s'.TypeIs v c/\typeLookup (Value.type c) (Str.ofString "__next__")=pure (some r)/\Q v s') E s:=by
  unfold Builtin.«dict_items.__iter__» Builtin.Dict_items.newIterator
  refine J0 (show wpAny _ _ (pure (Value.ref v)) _ _ _ from J9 (J0 (J0 (W6 f e rfl ?_))))
  refine(show wpAny _ _ (pure d) _ _ _ from J9 (J0 ?_))
  refine J0 (Yc b hd (J0 (Ye b hd ?_)))
  refine JM (J9 ⟨_,rfl,_,_,⟨_,Js _ rfl,rfl⟩,nx,q⟩) ?_
  show 8<=sizeLine+2
  rw[JC];lia
 exact wpAny_pyIter_slot ty F.slot_dict_items_iter (Y4 F.slot_dict_items_iter ty F.entry_dict_items_iter body (F.args_dict_items_iter_1 _))
end
def Itni (P:Program) (w:World) (d:Addr) (o:Obj) (xs:KVN):It:=⟨λi H=>H d=some (.frz o (DN P w d xs))/\i<xs.length,λi H x H'=>∃ p T,xs[i]?=some p/\H T=none/\x=.ref T/\H'=upd H T (.tup [.ref p.2.1,p.2.2]),λi H=>H d=some (.frz o (DN P w d xs))/\i=xs.length⟩
theorem ze7 {P:Program}{w:World}{K:PySem.W.Frag}{C:List Expr}{k1} {p1:Pos}(d it:Addr) (o:Obj) (xs:KVN) {es:Array DictEntry}{ep:Nat}(j:o.data=.dict es ep) (V:es.size=xs.length):Turn P w K (.Tuple C k1 p1) (Itni P w d o xs) [it] it (λi h=>∃ a b,IsItemIter h it d i es.size ep a b) where
 mem:=Je.mpr rfl
 obj:=λi h ⟨a,b,st⟩ c m=>by
  cases Je.mp m
  exact⟨_,st,λv z=>by cases z⟩
 keep:=λi h h' ⟨a,b,st⟩ k=>⟨a,b,k it (Je.mpr rfl) _ st⟩
 item:=by
  intro X y t A m i pins s σ H E I l ⟨a,b,st⟩ ⟨hd,G⟩
  subst y t A
  obtain⟨g,vs,r,L⟩:=I.walkedN hd j
  have f:=l it (Je.mpr rfl)
  obtain⟨p,J⟩:∃ p,xs[i]?=some p:=⟨_,J7 G⟩
  obtain⟨q,N,D⟩:=zno r J
  have U:es[i]?=some (entryOfKey (zbq X.prog X.w) q):=by rw[entry_at L,N];rfl
  have F:s.heap.objs.size≠it:=Z1 (Jr st)
  refine zil g j st U λh1 M O n=>⟨_,rfl,wpAny_letOwnedTupleGo_items M λW B s2=>?_⟩
  have rk:RelV (.ref p.2.1) (Value.ref q.2.1):=by show Value.ref q.2.1=Value.ref p.2.1;rw[D.2.1]
  refine⟨.ref s.heap.objs.size,upd H s.heap.objs.size (.tup [.ref p.2.1,p.2.2]),I.spunN (t':=s.toks) (fp:=[it]) (λc u x e=>?_) l (Jg _) (zfp ((s2.2 _ F).trans O) rk D.2.2),rfl,⟨p,_,J,I.fresh,rfl,rfl⟩,⟨_,_,B⟩,λc x=>?_⟩
  ·have ne:c≠it:=λz=>x (Je.mpr z)
   exact(s2.2 c ne).trans (n c u ne e)
  ·cases Je.mp x
   rw[zah F.symm];exact f.1
 done:=by
  intro X y t A m i pins s σ H E I l ⟨a,b,st⟩ ⟨hd,G⟩
  subst y t A
  obtain⟨g,vs,r,L⟩:=I.walkedN hd j
  obtain⟨T,f1,f2,S,R,Q⟩:=l it (Je.mpr rfl)
  exact zim (I.ok.hd m) g j st (Array.getElem?_eq_none (by lia)) λh' n=>⟨rfl,I.turned (t':=s.toks) (λc u hb e=>n c u hb e) T f1 S R Q⟩
 self:=λ_ _ _ _ _ ⟨_,_,st⟩ h=>PySem.W.kcp_self st h
section
variable {X:Cx}
def zlZ (P:Program) (w:World) (te:TE):TI:=λσ H R=>te σ H λx H1=>∃ d xs,x=.ref d/\H1 d=some (DN P w d xs)/\∀ o,R (Itni P w d o xs) (upd H1 d (.frz o (DN P w d xs)))
theorem zg9 {prog:Program}{w:World}{A:Around}{E:Value->Shared->Prop}{s:Shared}{d:Addr}{o:Obj}{Q:Value->Shared->Prop}(c:s.heap.get? d=some o) (a:o.ExactDict) (b:(d == sysModules)=false)
  (q:Q (.ref s.heap.objs.size) { s with heap:=s.heap.push { cls:=.type "dict_items",data:=.fields #[.ref d] } }):wpAny (model prog w) A (call (.builtin "dict.items") [.ref d]) Q E s:=by
 have ty:s.TypeIs (.ref d) "dict":=⟨o,c,a.1⟩
 refine Y4 F.slot_dict_items ty F.entry_dict_items ?_ (F.args_dict_items_1 _)
 unfold Builtin.«dict.items» Builtin.Dict.showsAll
 refine J0 ?_
 show wpAny _ _ (Builtin.Dict.notOrdered "items" ⟨[Value.ref d],[]⟩ >>= _) _ _ _
 refine J0 (wpAny_notOrdered_dict (s:=s) ty ?_)
 refine(show wpAny _ _ (pure d) _ _ _ from J9 ?_)
 rw[Jb (by rw[b];simp)]
 refine J0 (J9 (J0 (JM (J9 ⟨_,rfl,q⟩) ?_)))
 show 1<=sizeLine+2
 rw[JC];lia
theorem zhY {l:Expr}{tl:TE}{apos cpos p1:Pos}{i:List Expr}{k1} (r:PE X l tl) (c:attributeBase l "items" X.env (eval l X.env)=eval l X.env:=by rfl) (a:(apos.endLine == cpos.line)=true:=by rfl):PI X (.Tuple i k1 p1) (.Call (.Attribute l "items" apos) [] [] cpos) (zlZ X.prog X.w tl):=by
 intro pins s σ H R I h
 refine wpAny_Call_method0_late c a (thn (r pins s σ H _ I h) λv s1 ⟨x,H1,k,m,d,xs,ex,hd,q⟩=>?_)
 subst ex
 cases m
 obtain⟨t1,t2⟩:=ziq k (.inl hd)
 obtain⟨o,es,ep,g,n,j,le,p,w⟩:=k.freezeN hd
 refine⟨"dict","dict.items",PySem.F.plainAttrs_dict,PySem.F.slot_dict_items,PySem.F.type_dict_items,t1,t2,ZS rfl (PySem.evalArgs_none ?_)⟩
 refine zg9 g n p ?_
 have f:=w.kept (t':=s1.toks) (h':=s1.heap.push { cls:=.type "dict_items",data:=.fields #[.ref d] }) λb u e=>J8 _ e
 have t:=J8 { cls:=.type "dict_items",data:=.fields #[.ref d] } g
 refine zg7 (s:={ s1 with heap:=s1.heap.push { cls:=.type "dict_items",data:=.fields #[.ref d] } }) ⟨_,Js _ rfl,rfl,rfl⟩ t j ?_
 refine⟨_,[_],_,_,_,rfl,f.kept (t':=s1.toks) λb u e=>J8 _ e,ze7 d _ o xs j le,⟨_,_,Js _ rfl⟩,λb hb=>?_,q o⟩
 cases Je.mp hb
 exact f.fpOk (Jg _) (f.hok.fresh (Jg _))
end
end L2
namespace L2
open PySem PySem.Spec PyProof.Rows Own PySem.W
section
variable {prog:Program}{w:World}{d:Addr}{o:Obj}{es:Array DictEntry}{ep:Nat}
theorem zjw (c:o.ExactDict) (hd:o.data=.dict es ep) (j:(d == sysModules)=false):KdlSrc prog w "dict" d d es.size (λi v=>∃ e,es[i]?=some e/\v=e.key) (λh=>h.get? d=some o) where
 type:=λs a=>⟨o,a,c.1⟩
 there:=λh a=>⟨Jr a,Jr a⟩
 keep:=λh h' a k=>k d (.inl rfl) _ a
 notList:=by decide
 notTuple:=by decide
 hint:=λA E s Q a q=>by
  have ty:s.TypeIs (.ref d) "dict":=⟨o,a,c.1⟩
  show wpAny _ _ (specialOf (.ref d) _ >>= _) _ _ _
  refine J0 (wpAny_specialOf (T:="dict") ty F.slot_dict_len.lookup ?_)
  show wpAny _ _ (isInstance (.ref d) (.type "dict") >>= _) _ _ _
  refine J0 (Zu (T:="dict") (b:=true) ty rfl ?_)
  show wpAny _ _ (typeOf (.ref d) >>= _) _ _ _
  exact J0 (Zg ty (J9 q))
 iter:=λA s l a=>by
  refine⟨{ cls:=.type "dict_keyiterator",data:=.fields #[.ref d,.int 0 0,.int es.size 0,.int ep 0] },λi h=>h.IsKeyIter s.heap.objs.size d i es.size ep/\h.get? d=some o,λE Q q=>ziK a c hd j q,?_,⟨_,Js _ rfl,rfl,rfl⟩,J8 _ a⟩
  have nd:d≠s.heap.objs.size:=JF (Jr a)
  refine⟨λb hb=>Jt.mpr (.inl (Je.mp hb)),λi h h' st k=>⟨st.1.at (k _ JH),k d (JG _ JH) _ st.2⟩,λi s1 Q E g st q=>?_,λs1 Q E st q=>?_,λi s1 Q E st q=>wpAny_pyIter_keyiter st.1 q⟩
  ·have f:es[i]?=some es[i]:=Zz g
   exact zj0 st.2 hd st.1 f λh' st' k=>q _ h' s1.toks ⟨_,f,rfl⟩ ⟨st',k d o nd st.2⟩ λb u nb hb=>k b u (λz=>nb (Je.mpr z)) hb
  ·exact zj1 l st.2 hd st.1 (Array.getElem?_eq_none (Jg _)) λh' k=>q h' s1.toks λb u nb hb=>k b u (λz=>nb (Je.mpr z)) hb
end
end L2
namespace L2
open PySem PySem.Spec PyProof.Rows Own Ts PySem.W
section
variable {prog:Program}{w:World}{A:Around}{s:Shared}
theorem zkk {Q:Bool->Shared->Prop}(cs:List Ordering):∀ (us vs:List Value) (i:Nat),us.length=cs.length->vs.length=cs.length->(∀ (j:Nat) u v c,us[j]?=some u->vs[j]?=some v->cs[j]?=some c->SeqAt.EqAt A s u v (c == .eq)/\(c≠.eq->LtAt A s u v (c == .lt))) ->
  Q (cs.foldr Ordering.then .eq == .lt) s->PySem.W.KatLex prog w A false false Q (us.zip vs) i s:=by
 induction cs with
 | nil =>
  intro us vs i l1 l2 _ q
  rw[List.length_eq_zero_iff.mp l1]
  exact PySem.W.kat_nil q
 | cons c cs ih =>
  intro us vs i l1 l2 h q
  obtain⟨u,us,rfl⟩:∃ u b,us=u::b:=by
   cases us with
   | nil=>simp at l1
   | cons u us=>exact⟨u,us,rfl⟩
  obtain⟨v,vs,rfl⟩:∃ v a,vs=v::a:=by
   cases vs with
   | nil=>simp at l2
   | cons v vs=>exact⟨v,vs,rfl⟩
  have d:=h 0 u v c rfl rfl rfl
  refine PySem.W.kat_cons (d.1 prog w _ _ ?_)
  by_cases z:c=.eq
  ·subst z
   refine PySem.W.kat_yes (ih us vs (i+1) (by simpa using l1) (by simpa using l2) (λj u v c a1 a2 f=>h (j+1) u v c (by simpa using a1) (by simpa using a2) (by simpa using f)) q)
  ·have e:(c == Ordering.eq)=false:=by simpa using z
   have e2:(c::cs).foldr Ordering.then .eq=c:=by
    rw[List.foldr_cons]
    cases c<;>first|rfl|exact absurd rfl z
   rw[e2]at q
   rw[e]
   refine PySem.W.kat_no ?_
   rw[Bool.false_and]
   exact zjQ (d.2 z) q
end
def RkN (H:Hp) (xs:List V) (rk:V->Int):Prop:=∃ n,n<=20/\∀ x∈xs,(∃ a b r ys,x=.ref a/\H a=some (.tup (.ref b::r))/\H b=some (.tup ys))/\∀ y∈xs,Lx H n x y (compare (rk x) (rk y))
section
variable {X:Cx}
theorem znC {pins:List (Addr × Obj)}{σ:St}{H:Hp}{s1:Shared}(I:Inv X pins σ H s1) (t:X.A.units+64<cLine) {xs:List V}{vs:List Value}{rk:V->Int}(r:Vals xs vs) (R:RkN H xs rk) :
  ∃ κ:SortKind,(∀ h':Heap,(∀ c o,s1.heap.get? c=some o->h'.get? c=some o)->2<=vs.length->∀ (d:Around) {Q:SortKind->Shared->Prop}{E:Value->Shared->Prop},Q κ { s1 with heap:=h' }->wpAny (model X.prog X.w) d (keyKind' vs.toArray) Q E { s1 with heap:=h' }) /\
   (∀ h':Heap,(∀ c o,s1.heap.get? c=some o->h'.get? c=some o)->∀ (d:Around),d.units<=X.A.units+8->Cmp X.prog X.w d { s1 with heap:=h' } κ (λp=>p.1∈vs) (λp=>rk (vOf p.1))):=by
 obtain⟨n,hn,R⟩:=R
 obtain⟨ex,rel⟩:=ze5 r λx F=>by
  obtain⟨⟨a,b,r,ys,e,_⟩,_⟩:=R x F
  exact .inr ⟨a,e⟩
 have mem:∀ u∈vs,vOf u∈xs:=λu t=>by rw[ex];exact JD.mpr ⟨u,t,rfl⟩
 refine⟨tuples' (Value.type "tuple" != Value.type "tuple"),λh' k l2 d Q E q=>?_,λh' k d hA=>⟨λx y F K Q E q=>?_⟩⟩
 ·have l:Inv X pins σ H { s1 with heap:=h',toks:=s1.toks }:=I.kept k
  have kt:∀ us:List Value,(∀ u∈us,vOf u∈xs/\RelV (vOf u) u)->∃ fs,PySem.W.KatTups h' us fs/\fs.length=us.length/\∀ f∈fs,∃ b ys,f=Value.ref b/\H b=some (.tup ys):=by
   intro us
   induction us with
   | nil=>intro _;exact⟨[],PySem.W.KatTups.nil,rfl,λf w=>by simp at w⟩
   | cons u us ih =>
    intro h
    obtain⟨fs,k1,k2,J⟩:=ih λv m=>h v (JG _ m)
    obtain⟨m1,r1⟩:=h u JH
    obtain⟨⟨a,b,rr,ys,e,ha,hb⟩,_⟩:=R _ m1
    rw[e]at r1
    cases r1
    obtain⟨its,g,⟨o,M,co,no,dt⟩,_⟩:=l.tuple (SqT.of ha)
    obtain⟨f0,ef,rf⟩:=g.get (i:=0) (x:=.ref b) rfl
    cases rf
    exact⟨_,PySem.W.KatTups.cons M co dt (by simpa using ef) k1,by rw[JL,JL,k2],λf' w=>by
     rcases Jt.mp w with here|w
     ·exact⟨b,ys,here,hb⟩
     ·exact J f' w⟩
  obtain⟨fs,k1,k2,J⟩:=kt vs λu t=>⟨mem u t,rel u t⟩
  refine PySem.W.kat_kind (T:=.type "tuple") k1 (by lia) (λv m=>?_) (by decide) q
  obtain⟨b,ys,rfl,hb⟩:=J v m
  obtain⟨its,g,⟨o,M,co,no,dt⟩,_⟩:=l.tuple (SqT.of hb)
  exact λA Q E s ks q=>Zg ⟨o,ks _ _ M,co⟩ q
 ·have l:Inv X pins σ H { s1 with heap:=h',toks:=s1.toks }:=I.kept k
  obtain⟨W,x2⟩:=x
  obtain⟨G,y2⟩:=y
  have Z:=rel W F
  have Y:=rel G K
  obtain⟨⟨a,a2,xr,_,ea,ha,_⟩,lx⟩:=R _ (mem W F)
  obtain⟨⟨b,b2,yr,_,eb,hb,_⟩,_⟩:=R _ (mem G K)
  have L:=lx _ (mem G K)
  simp only at q
  rw[ea]at Z L q
  rw[eb]at Y L q
  cases Z;cases Y
  generalize hc:compare (rk (V.ref a)) (rk (V.ref b))=c at L
  rw[<- (zda (rk (V.ref a)) (rk (V.ref b))).2,hc]at q
  cases L with
  | @row n _ _ ab aa cs D C l1 l2 hL =>
   rw[ha]at D;cases D
   rw[hb]at C;cases C
   obtain⟨its,g1,⟨o1,P,ag,ae,U⟩,_⟩:=l.tuple (SqT.of ha)
   obtain⟨z,g2,⟨o2,O,af,ad,S⟩,_⟩:=l.tuple (SqT.of hb)
   have m1:=g1.length
   have m2:=g2.length
   show wpAny _ _ (keyLt' (tuples' false) (.ref a) (.ref b)) _ _ _
   refine PySem.W.kat_lt P U O S ?_
   have ds:decide (its.toArray.size<z.toArray.size)=false:=Jv (by rw[Jm,Jm];lia)
   rw[ds]
   refine zkk cs its z 0 (by lia) (by lia) (λj u v c B m N=>?_) q
   have j1:j<(V.ref a2::xr).length:=by have:=(Jc.mp B).1;lia
   have j2:j<(V.ref b2::yr).length:=by have:=(Jc.mp m).1;lia
   obtain⟨u',e1,q1⟩:=g1.get (J7 j1)
   obtain⟨v',e2,q2⟩:=g2.get (J7 j2)
   rw[B]at e1;obtain rfl:=Jn e1
   rw[m]at e2;obtain rfl:=Jn e2
   have LL:=hL j _ _ c (J7 j1) (J7 j2) N
   exact⟨zkc l LL d _ _ (by lia) q1 q2,λne=>zmM l LL ne d _ _ (by lia) q1 q2⟩
theorem zkZ {xs:KVN}{ws:List (KN × Addr × Value)}(r:Paired PrN xs ws):Vals (xs.map λp=>V.ref p.2.1) (ws.map λq=>Value.ref q.2.1):=by
 induction r with
 | nil=>exact .nil
 | @cons p q ps a h t ih=>exact .cons (by show Value.ref q.2.1=Value.ref p.2.1;rw[h.2.1]) ih
theorem zkF {es:Array DictEntry}{acc:Array Value}(a1:acc.size=es.size) (a2:∀ (j:Nat) (v:Value),acc[j]?=some v->∃ e,es[j]?=some e/\v=e.key):acc.toList=es.toList.map (·.key):=by
 refine ZZ (by rw[Jq,JA,JA,a1]) λj a c=>?_
 obtain⟨e,h1,b⟩:=a2 j acc[j] (Zz _)
 rw[List.getElem_map,Array.getElem_toList,Array.getElem_toList,b]
 rw[Zz (by rw[<- a1];exact a)]at h1
 rw[Jn h1]
theorem zeY (A:X.calm=true) (d:X.A.units+64<cLine):CallR X (.builtin "sorted") (λvs H Q=>∃ a xs rk,vs=[.ref a]/\H a=some (DN X.prog X.w a xs)/\xs.length<=10000/\RkN H (xs.map λp=>.ref p.2.1) rk/\∀ (l:Addr) (ys:List V),H l=none->ys.Perm (xs.map λp=>.ref p.2.1)->ys.Pairwise (λx y=>rk x<=rk y)->Q (.ref l) (upd H l (.lst ys))):=by
 intro pins s σ H vs us Q I m h
 obtain⟨a,xs,rk,rfl,hd,F,R,q⟩:=h
 obtain⟨u,rfl,n⟩:=m.one
 cases n
 obtain⟨⟨z,B,ws,r,o,es,ep,h1,D,C,j,G⟩,_,_⟩:=(show ObjOk X.prog X.w H s.heap a (DN X.prog X.w a xs) from I.hok a _ hd)
 have wl:es.size=xs.length:=by rw[ZJ j,<- YR r]
 refine zlb (kdu_collect (zjw D C B) (I.ok.hd A) h1 (by rw[wl];exact z) λh1 tk acc k1 b=>?_)
 obtain⟨a1,a2⟩:=b
 have al:acc.toList=ws.map λq=>Value.ref q.2.1:=by
  rw[zkF a1 a2,j,Zv];rfl
 have vs:Vals (xs.map λp=>V.ref p.2.1) acc.toList:=by rw[al];exact zkZ r
 have t:acc.toList.length=xs.length:=by rw[JA,a1,wl]
 have f:Inv X pins σ H { s with heap:=h1,toks:=tk }:=I.kept k1
 obtain⟨κ,g,i⟩:=znC f d vs R
 obtain⟨ex,rel⟩:=ze5 vs λx w=>by
  obtain⟨p,_,rfl⟩:=JD.mp w
  exact .inr ⟨_,rfl⟩
 refine⟨κ,λu=>rk (vOf u),by lia,g,i,λh' l e out lo E pm so v=>?_⟩
 have k:Vals (out.map vOf) out:=zel λu d=>rel u (pm.mem_iff.mp d)
 have pv:(out.map vOf).Perm (xs.map λp=>V.ref p.2.1):=by rw[ex];exact pm.map vOf
 refine⟨.ref l,_,f.laid (t':=tk) (o:=.lst (out.map vOf)) (λc o q=>v c o q) lo ⟨?_,out,e,k,E⟩,rfl,?_⟩
 ·rw[Jq,pm.length_eq,t];exact z
 ·exact q l _ (f.hok.fresh lo) pv (List.pairwise_map.mpr so)
end
end L2
namespace L2
open PySem PySem.Spec PyProof.Rows Own
section
def le2 (p q a b:Int):Prop:=p<a\/p=a/\q<=b
end
theorem zg4 (l b:Addr) (xs ys:Array Value) (n m:Nat) (C B:Option Addr) (f e:Array (Option Value)) (sz:xs.size=ys.size) :
  Meets (Builtin.«tuple.__lt__» ⟨[.ref l,.ref b],[]⟩)
   (λA R s=>s.heap.get? l=some { cls:=.type "tuple",dict:=C,data:=.seq xs n,slots:=f }/\s.heap.get? b=some { cls:=.type "tuple",dict:=B,data:=.seq ys m,slots:=e } /\
    (∀ j (h1:j<xs.size) (E:j<ys.size),SeqAt.EqAt A.in1 s xs[j] ys[j] true)/\R (.ok (.ret (.bool false))) s) :=
 .of_wp λprog w A R s h=>by
  rcases h with ⟨t,hb,u,h⟩
  rcases s with ⟨r,g,d,tk,os⟩
  have kinds:=AutoSeq1.sub_tuple_tuple
  have D:(xs.toList.zip ys.toList).length=min xs.size ys.size:=by simp
  wp_walk using wpAny_loadPart' t,wpAny_loadPart' hb,wpAny_forIn_list _ (λrest b s'=>b.1=none/\s'=⟨r,g,d,tk,os⟩/\∃ i,i<=(xs.toList.zip ys.toList).length/\rest=(xs.toList.zip ys.toList).drop i) _
  case turn =>
   rintro⟨y,x⟩ rest b s' ⟨c,rfl,i,q,a⟩
   have p:i<(xs.toList.zip ys.toList).length:=by
    rcases Nat.lt_or_ge i (xs.toList.zip ys.toList).length with z|z
    ·exact z
    ·rw[List.drop_eq_nil_of_le z]at a;cases a
   have i1:i<xs.size:=by lia
   have i2:i<ys.size:=by lia
   rw[YL p]at a
   obtain⟨o,e2⟩:=List.cons.inj a
   have v:y=xs[i]:=by simpa using JX Prod.fst o
   have ex:x=ys[i]:=by simpa using JX Prod.snd o
   subst v ex
   refine J0 (u i i1 i2 prog w _ _ ?_)
   wp_walk
   exact⟨rfl,rfl,i+1,by lia,e2⟩
  case fin =>
   rintro⟨b1,b2⟩ s' ⟨c,rfl,i,q,a⟩
   have k:b1=none:=c
   subst k
   have fl:Builtin.Tuple.tupleCompareSizes CmpOp.Lt xs.size ys.size=.bool false:=by rw[sz];simp[Builtin.Tuple.tupleCompareSizes]
   show wpAny _ _ (ret (Builtin.Tuple.tupleCompareSizes CmpOp.Lt xs.size ys.size)) _ _ _
   rw[fl]
   exact J9 ⟨_,rfl,h⟩
  case h =>
   exact⟨rfl,rfl,0,JN _,rfl⟩
theorem LtAt.tuplesS {A:Around}{s:Shared}{l b:Addr}{xs ys:Array Value}(o:IsTup s.heap l xs) (hb:IsTup s.heap b ys) (k:A.units<cLine) (sz:xs.size=ys.size)
  (p:∀ j (h1:j<xs.size) (v:j<ys.size),SeqAt.EqAt A.in1 s xs[j] ys[j] true):LtAt A s (.ref l) (.ref b) false:=λprog w E Q h=>by
 obtain⟨⟨u,e,r,c⟩,o1,i,n,f⟩:=o
 obtain⟨⟨t,d,q,a⟩,o2,g,m,e2⟩:=hb
 simp only at i f g e2;subst i f g e2
 exact richCompare_meets_room (op:=.Lt) ⟨_,o1,rfl⟩ ⟨_,o2,rfl⟩ F.slot_tuple_lt F.entry_tuple_lt (F.args_tuple_lt_2 _ _) (zg4 l b xs ys n m e d c a sz) ⟨o1,o2,p,show Value.bool false≠Value.notImplemented/\Q (.bool false) s from⟨(λx=>nomatch x),h⟩⟩ k
section
variable {X:Cx}
theorem zlR {pins:List (Addr × Obj)}{σ:St}{H:Hp}{s:Shared}(I:Inv X pins σ H s) {n:Nat}{x y:V}{c:Ordering}(h:Lx H n x y c) (A:Around) (u v:Value) (D:A.units+n<cLine) (g:RelV x u) (f:RelV y v):LtAt A s u v (c == .lt):=by
 by_cases z:c=.eq
 ·cases h with
  | int n i j =>
   obtain⟨t1,rfl⟩:=g
   obtain⟨t2,rfl⟩:=f
   rw[(zda i j).2]
   exact LtAt.ints i j t1 t2
  | @row n a b xs ys cs ha hb l1 l2 h =>
   cases g;cases f
   obtain⟨its,o,p1,_⟩:=I.tuple (SqT.of ha)
   obtain⟨k,m,p2,_⟩:=I.tuple (SqT.of hb)
   have B:=o.length
   have w:=m.length
   rw[z]
   refine LtAt.tuplesS p1 p2 (by lia) (by rw[Jm,Jm];lia) λj k1 C=>?_
   have e:j<xs.length:=by simpa [B] using k1
   have d:j<ys.length:=by simpa [w] using C
   have l:j<cs.length:=by lia
   obtain⟨q,E,t⟩:=o.get (J7 e)
   obtain⟨p,e2,r⟩:=m.get (J7 d)
   have z1:its.toArray[j]=q:=by simpa using (Jc.mp E).2
   have z2:k.toArray[j]=p:=by simpa using (Jc.mp e2).2
   have ce:cs[j]=.eq:=zc1.mp z _ (Y5 l)
   have:=zkc I (h j _ _ _ (J7 e) (J7 d) (J7 l)) A.in1 _ _ (by show A.units+1+n<cLine;lia) t r
   rw[ce]at this
   rw[z1,z2]
   exact this
 ·exact zmM I h z A u v D g f
end
section
variable {prog:Program}{w:World}{A:Around}{R:Result->Shared->Prop}{I S:Addr}{fp wr:List Addr}{n:Nat}{P:Nat->Value->Prop}{St:Nat->Heap->Prop}
def AskM (prog:Program) (w:World) (A:Around) (a:Shared) (wr:List Addr) (S:Addr) (v d:Value) (c:Bool):Prop :=
 ∀ (h:Heap) (tk:Nat) (Q:Value->Shared->Prop) (E:Value->Shared->Prop),(∀ b o,b∉wr->b≠S->a.heap.get? b=some o->h.get? b=some o)->Q (.bool c) { a with heap:=h,toks:=tk }->wpAny (model prog w) A.in1 (richCompare .Lt v d) Q E { a with heap:=h,toks:=tk }
theorem zeH (W:Walks prog w A.in1 I fp wr n P St) (away:S∉fp) (l:Shared) (i:Nat->Value->Prop)
  (more:∀ j v a,0<j->P j v->i j a->∃ c:Bool,i (j+1) (if c=true then v else a)/\AskM prog w A l wr S v a c) :
  ∀ (m j:Nat) (h:Heap) (tk:Nat) (c:Nat) (a:Value),j+m=n->0<j->i j a->St j h->h.get? S=some { cls:=.type "list",dict:=none,data:=.seq #[a,a] c,slots:=#[] }->(∀ b o,b∉wr->b≠S->l.heap.get? b=some o->h.get? b=some o) ->
   (∀ u h' t,i n u->(∀ b o,b∉wr->b≠S->l.heap.get? b=some o->h'.get? b=some o)->R (.ok (.ret u)) { l with heap:=h',toks:=t })->codeAny (model prog w) A (.builtin "min.loop" ⟨[.ref I,.none,.ref S],[]⟩) R { l with heap:=h,toks:=tk }:=by
 have out:S∉wr:=λz=>away (W.sub _ z)
 have nm:(toString "min"++toString ".loop":String) = "min.loop":=by decide
 intro m
 induction m with
 | zero =>
  intro j h tk c a x jp bs st r old k
  have y:j=n:=by lia
  subst y
  refine ZG F.entry_min_loop (by
   refine Zr YQ _ ▸ (show wpAny _ A.in1 (seqItems? (.ref S) >>= _) _ _ _ from ?_)
   refine J0 (Yf r rfl (show wpAny _ A.in1 (tryCatch (pyNext (.ref I)) _ >>= _) _ _ _ from J0 (wpAny_tryCatch (W.done { l with heap:=h,toks:=tk } _ _ st λh1 q keep=>?_))))
   have d:=keep S _ out r
   show wpAny _ A.in1 (updateSeq S (λ_=>#[]) >>= _) _ _ _;exact J0 (wpAny_updateSeq d rfl (J0 (ZQ (J9 (k _ _ q bs λb o hb p e=>(Yr _ _ (Ne.symm p)).trans (keep b o hb (old b o hb p e))))))))
 | succ m ih =>
  intro j h tk c a x jp bs st r old k
  refine ZG F.entry_min_loop (by
   refine Zr YQ _ ▸ (show wpAny _ A.in1 (seqItems? (.ref S) >>= _) _ _ _ from ?_)
   refine J0 (Yf r rfl (show wpAny _ A.in1 (tryCatch (pyNext (.ref I)) _ >>= _) _ _ _ from J0 (wpAny_tryCatch (W.item j { l with heap:=h,toks:=tk } _ _ (by lia) st λv h1 q pv s keep=>?_))))
   have d:=keep S _ out r
   have f:∀ b o,b∉wr->b≠S->l.heap.get? b=some o->h1.get? b=some o:=λb o hb p e=>keep b o hb (old b o hb p e)
   obtain⟨B,g,ask⟩:=more j v a jp pv bs
   show wpAny _ A.in1 (tryCatch (holding [v,v] (richCompare .Lt v a >>= _)) _ >>= _) _ _ _;refine J0 (wpAny_tryCatch (Yi (J0 (ask h1 q _ _ f (J0 (Yi (Z0 (J0 (ZQ (J9 ?_))))))))))
   cases B with
   | false =>
    rw[Jb Jp]at g
    rw[Jb Jp]
    refine J0 (ZQ ?_)
    rw[nm]
    exact J9 ⟨W5 YQ _,ih (j+1) _ _ _ a (by lia) (by lia) g s d f k⟩
   | true =>
    rw[Jf rfl]at g
    rw[Jf rfl]
    refine J0 (wpAny_updateSeq d rfl (J0 (ZQ ?_)))
    rw[nm]
    exact J9 ⟨W5 YQ _,ih (j+1) _ _ _ v (by lia) (by lia) g (W.frame _ _ _ s λb hb o e=>(Yr _ _ (λz=>away (by rw[z];exact hb))).trans e) (YM _ d rfl) (λb o hb p e=>(Yr _ _ (Ne.symm p)).trans (f b o hb p e)) k⟩)
end
section
variable {prog:Program}{w:World}{A:Around}{E:Value->Shared->Prop}{s:Shared}
def WalkM (prog:Program) (w:World) (A:Around) (Q:Value->Shared->Prop) (it:Value) (s2:Shared):Prop :=
 ∃ (I:Addr) (fp wr:List Addr) (n:Nat) (P:Nat->Value->Prop) (St:Nat->Heap->Prop),it=.ref I/\Walks prog w A.in1 I fp wr n P St/\St 0 s2.heap/\(∀ b∈fp,b<s2.heap.objs.size)/\0<n /\
   ∃ a:Nat->Value->Prop,(∀ v,P 0 v->a 1 v)/\(∀ j v d,0<j->P j v->a j d->∃ c:Bool,a (j+1) (if c=true then v else d)/\AskM prog w A s2 wr s2.heap.objs.size v d c) /\
   ∀ u h' tk,a n u->(∀ b o,b∉wr->s2.heap.get? b=some o->h'.get? b=some o)->Q u { s2 with heap:=h',toks:=tk }
theorem zit {x:Value}{Q:Value->Shared->Prop}(h:wpAny (model prog w) A.in1 (pyIter x) (WalkM prog w A Q) E s):wpAny (model prog w) A (call (.builtin "min") [x]) Q E s:=by
 have nm:(toString "min"++toString ".loop":String) = "min.loop":=by decide
 refine call_function_tree F.kind_min F.plain_min F.entry_min (F.args_min1 _) ?_;show wpAny _ A.in1 (Builtin.Builtins.bindParams "min" ["key","default"] 0 ⟨[],[]⟩ >>= _) _ _ s
 refine J0 (wpAny_of_eq (show Builtin.Builtins.bindParams "min" ["key","default"] 0 ⟨[],[]⟩=pure [none,none] from rfl) (J0 (J9 (J0 (JT h (λit s2 z=>?_) λ_ _ e=>e)))))
 obtain⟨I,fp,wr,n,P,St,rfl,W,st,low,pos,g,first,more,k⟩:=z
 have away:s2.heap.objs.size∉fp:=λz=>YG _ (low _ z)
 have out:s2.heap.objs.size∉wr:=λz=>away (W.sub _ z)
 refine J0 (JM ?_);rw[nm]
 refine J9 ⟨W5 YQ _,ZG F.entry_min_loop ?_⟩
 have new:(s2.heap.push { cls:=.type "list",data:=.seq #[] }).get? s2.heap.objs.size=some { cls:=.type "list",dict:=none,data:=.seq #[] 0,slots:=#[] }:=Js _ rfl
 have st':St 0 (s2.heap.push { cls:=.type "list",data:=.seq #[] }):=W.frame _ _ _ st λb _ o e=>J8 _ e
 refine Zr YQ _ ▸ (show wpAny _ A.in1 (seqItems? (.ref s2.heap.objs.size) >>= _) _ _ _ from ?_)
 refine J0 (Yf new rfl (show wpAny _ A.in1 (tryCatch (pyNext (.ref I)) _ >>= _) _ _ _ from J0 (wpAny_tryCatch (W.item 0 _ _ _ pos st' λv h1 m pv f keep=>?_))))
 have b1:=first v pv
 have a:=keep _ _ out new
 show wpAny _ A.in1 (updateSeq s2.heap.objs.size (λ_=>#[v,v]) >>= _) _ _ _
 refine J0 (wpAny_updateSeq a rfl ?_)
 rw[nm]
 have up:∀ b o,b∉wr->b≠s2.heap.objs.size->s2.heap.get? b=some o->(h1.update s2.heap.objs.size (Obj.mapSeq λ_=>#[v,v])).get? b=some o:=λb o hb l e=>(Yr _ _ (Ne.symm l)).trans (keep b o hb (J8 _ e))
 exact J9 ⟨W5 YQ _,zeH W away s2 g more (n-1) 1 _ _ _ v (by lia) (by lia) b1 (W.frame _ _ _ f λb hb o e=>(Yr _ _ (λz=>away (by rw[z];exact hb))).trans e) (YM _ a rfl) up λu i d j c=>k u i d j λb o hb e=>c b o hb (JF (Jr e)) e⟩
theorem zj6 {x y:Value}{Q:Value->Shared->Prop}(h:wpAny (model prog w) A.in1 (pyIter (.ref s.heap.objs.size)) (WalkM prog w A Q) E { s with heap:=s.heap.push { cls:=.type "tuple",data:=.seq #[x,y] } }):wpAny (model prog w) A (call (.builtin "min") [x,y]) Q E s:=by
 have nm:(toString "min"++toString ".loop":String) = "min.loop":=by decide
 refine call_function_tree F.kind_min F.plain_min F.entry_min (F.args_min2 _ _) ?_;show wpAny _ A.in1 (Builtin.Builtins.bindParams "min" ["key","default"] 0 ⟨[],[]⟩ >>= _) _ _ s
 refine J0 (wpAny_of_eq (show Builtin.Builtins.bindParams "min" ["key","default"] 0 ⟨[],[]⟩=pure [none,none] from rfl) (J0 ?_))
 refine wpAny_newTuple (J0 (JT h (λit s2 z=>?_) λ_ _ e=>e))
 obtain⟨I,fp,wr,n,P,St,rfl,W,st,low,pos,g,first,more,k⟩:=z
 have away:s2.heap.objs.size∉fp:=λz=>YG _ (low _ z)
 have out:s2.heap.objs.size∉wr:=λz=>away (W.sub _ z)
 refine J0 (JM ?_);rw[nm]
 refine J9 ⟨W5 YQ _,ZG F.entry_min_loop ?_⟩
 have new:(s2.heap.push { cls:=.type "list",data:=.seq #[] }).get? s2.heap.objs.size=some { cls:=.type "list",dict:=none,data:=.seq #[] 0,slots:=#[] }:=Js _ rfl
 have st':St 0 (s2.heap.push { cls:=.type "list",data:=.seq #[] }):=W.frame _ _ _ st λb _ o e=>J8 _ e
 refine Zr YQ _ ▸ (show wpAny _ A.in1 (seqItems? (.ref s2.heap.objs.size) >>= _) _ _ _ from ?_)
 refine J0 (Yf new rfl (show wpAny _ A.in1 (tryCatch (pyNext (.ref I)) _ >>= _) _ _ _ from J0 (wpAny_tryCatch (W.item 0 _ _ _ pos st' λv h1 m pv f keep=>?_))))
 have b1:=first v pv
 have a:=keep _ _ out new
 show wpAny _ A.in1 (updateSeq s2.heap.objs.size (λ_=>#[v,v]) >>= _) _ _ _
 refine J0 (wpAny_updateSeq a rfl ?_)
 rw[nm]
 have up:∀ b o,b∉wr->b≠s2.heap.objs.size->s2.heap.get? b=some o->(h1.update s2.heap.objs.size (Obj.mapSeq λ_=>#[v,v])).get? b=some o:=λb o hb l e=>(Yr _ _ (Ne.symm l)).trans (keep b o hb (J8 _ e))
 exact J9 ⟨W5 YQ _,zeH W away s2 g more (n-1) 1 _ _ _ v (by lia) (by lia) b1 (W.frame _ _ _ f λb hb o e=>(Yr _ _ (λz=>away (by rw[z];exact hb))).trans e) (YM _ a rfl) up λu i d j c=>k u i d j λb o hb e=>c b o hb (JF (Jr e)) e⟩
end
def zb4 (cmp:V->V->Ordering) (b y:V):V:=if cmp y b=.lt then y else b
def zbU (cmp:V->V->Ordering):List V->V
 | []=>.non
 | x::r=>r.foldl (zb4 cmp) x
theorem zjl (cmp:V->V->Ordering) {l:List V}(h:l≠[]) (y:V):zbU cmp (l++[y])=zb4 cmp (zbU cmp l) y:=by
 cases l with
 | nil=>exact absurd rfl h
 | cons x r=>show List.foldl _ _ (r++[y])=_;rw[Zm];rfl
theorem zgu (cmp:V->V->Ordering):∀ (r:List V) (x:V),r.foldl (zb4 cmp) x∈x::r
 | [],x=>.head _
 | y::r,x=>by
  have:=zgu cmp r (zb4 cmp x y)
  show List.foldl (zb4 cmp) (zb4 cmp x y) r∈x::y::r
  rcases Jt.mp this with z|z
  ·rw[z]
   unfold zb4
   split
   ·exact .tail _ (.head _)
   ·exact .head _
  ·exact .tail _ (.tail _ z)
theorem zkD (cmp:V->V->Ordering) {l:List V}(h:l≠[]):zbU cmp l∈l:=by
 cases l with
 | nil=>exact absurd rfl h
 | cons x r=>exact zgu cmp r x
section
variable {X:Cx}{pins:List (Addr × Obj)}{σ:St}{H:Hp}{s:Shared}
theorem zfY {b:Bool}{a:Addr}{xs:List V}{its:List Value}{n:Nat}{cmp:V->V->Ordering}{Q:VK}(G:X.calm=true) (R:X.A.units+64<cLine) (I:Inv X pins σ H s) (l:Vals xs its) (pp:SqO b s.heap a its.toArray) (al:a<s.heap.objs.size) (k:0<xs.length) (O:n<=20) (J:∀ x∈xs,∀ y∈xs,Lx H n x y (cmp x y)) (q:Q (zbU cmp xs) H) :
  wpAny (model X.prog X.w) X.A.in1 (pyIter (.ref a)) (WalkM X.prog X.w X.A (EP X pins σ Q)) X.xe s:=by
 have S:its.length=xs.length:=l.length.symm
 refine zcI pp ⟨s.heap.objs.size,[s.heap.objs.size,a],[s.heap.objs.size],its.toArray.size,(λi v=>its.toArray[i]?=some v),_,rfl,zmc (show X.A.in1.handled=none from I.ok.hd G) b _ a (JF al) its.toArray,⟨?_,pp.mv λo e=>J8 _ e⟩,λc E=>?_,by rw[Jm];lia,(λj v=>0<j/\j<=xs.length/\RelV (zbU cmp (xs.take j)) v),λv p=>?_,λj v A jp p ⟨_,P,t⟩=>?_,λu h' tk ⟨_,_,f⟩ F=>?_⟩
 ·cases b<;>exact⟨_,Js _ rfl,rfl,rfl⟩
 ·show c<(s.heap.push _).objs.size
  rw[YW]
  rcases Jt.mp E with z|z
  ·exact z ▸ Nat.lt_succ_self _
  ·exact Je.mp z ▸ Wq al
 ·have D:xs[0]?=some xs[0]:=J7 k
  obtain⟨B,g,f⟩:=l.get D
  have d:its[0]?=some v:=by simpa using p
  rw[d]at g
  cases g
  refine⟨by lia,k,?_⟩
  cases xs with
  | nil=>cases k
  | cons x r=>exact f
 ·have d:its[j]?=some v:=by simpa using p
  have m:j<xs.length:=by
   have:=(Jc.mp d).1
   lia
  obtain⟨B,g,f⟩:=l.get (J7 m)
  rw[d]at g
  cases g
  have ne:xs.take j≠[]:=λz=>by
   have:=JX List.length z
   rw[Jy,ZH]at this
   lia
  have bm:zbU cmp (xs.take j)∈xs:=Zt (zkD cmp ne)
  have L:=J _ (Y5 m) _ bm
  refine⟨cmp xs[j] (zbU cmp (xs.take j)) == .lt,⟨by lia,by lia,?_⟩,λh tk K N old C=>?_⟩
  ·rw[<- YF m,zjl cmp ne]
   unfold zb4
   by_cases z:cmp xs[j] (zbU cmp (xs.take j))=.lt
   ·rw[Jf z,Jf (by rw[z];rfl)];exact f
   ·rw[Jb z,Jb (λy=>z (by simpa using y))];exact t
  ·have M:Inv X pins σ H { s with heap:=h,toks:=tk }:=I.kept λc o e=>old c o (λz=>JF (Jr e) (Je.mp z)) (λz=>by
    have h1:=Jr e
    have w:c=(s.heap.push { cls:=.type (cN b),data:=.fields #[.ref a,.int 0 0] }).objs.size:=z
    rw[YW]at w
    exact absurd w (JF (Wq h1))) (J8 _ e)
   exact zlR M L X.A.in1 v A (by show X.A.units+1+n<cLine;lia) f t X.prog X.w N K C
 ·refine⟨zbU cmp xs,H,I.kept (t':=tk) λc o e=>F c o (λz=>JF (Jr e) (Je.mp z)) (J8 _ e),?_,q⟩
  have:xs.take its.toArray.size=xs:=JQ (by rw[Jm];lia)
  rw[this]at f
  exact f
theorem zjd (j:X.calm=true) (b:Bool) (h:X.A.units+64<cLine):CallR X (.builtin "min") (λvs H Q=>∃ a xs n cmp,vs=[.ref a]/\SqB b X.K H a xs/\0<xs.length/\n<=20/\(∀ x∈xs,∀ y∈xs,Lx H n x y (cmp x y))/\Q (zbU cmp xs) H):=by
 rintro pins s σ H vs us Q I e ⟨a,xs,n,cmp,rfl,i,d,c,k,q⟩
 obtain⟨u,rfl,f⟩:=e.one
 cases f
 obtain⟨its,g,pp⟩:=I.sq (b:=b) i
 obtain⟨o,m,l,_⟩:=pp.ob
 exact zit (zfY j h I g pp (Jr l) d c k q)
theorem zhd (i:X.calm=true) (h:X.A.units+64<cLine):CallR X (.builtin "min") (λvs H Q=>∃ x y n cmp,vs=[x,y]/\n<=20/\(∀ u∈[x,y],∀ v∈[x,y],Lx H n u v (cmp u v))/\Q (zb4 cmp x y) H):=by
 rintro pins s σ H vs us Q I d ⟨x,y,n,cmp,rfl,c,j,q⟩
 obtain⟨u,a,rfl,g,f⟩:=zk0 d
 refine zj6 ?_
 have k:=I.kept (t':=s.toks) (h':=s.heap.push { cls:=.type "tuple",data:=.seq #[u,a] }) λb u e=>J8 _ e
 refine zfY (s:={ s with heap:=s.heap.push { cls:=.type "tuple",data:=.seq #[u,a] } }) (b:=false) (xs:=[x,y]) (its:=[u,a]) i h k (.cons g (.cons f .nil)) ⟨_,Js _ rfl,rfl,_,rfl⟩ ?_ (by show 0<2;lia) c j q
 show s.heap.objs.size<(s.heap.push _).objs.size
 rw[YW];lia
end
def cmpR:List Int->List Int->Ordering
 | [],[]=>.eq
 | [],_::_=>.lt
 | _::_,[]=>.gt
 | a::x,b::y=>(compare a b).then (cmpR x y)
theorem zdm:∀ {x y:List Int},x.length=y.length->(List.zipWith compare x y).foldr Ordering.then .eq=cmpR x y
 | [],[],_=>rfl
 | a::x,b::y,h=>by
  show (compare a b).then _=(compare a b).then _
  rw[zdm (x:=x) (y:=y) (by simpa using h)]
theorem zfy {H:Hp}{a b:Addr}{x y:List Int}(ha:H a=some (.tup (x.map V.int))) (hb:H b=some (.tup (y.map V.int))) (l:x.length=y.length):Lx H 1 (.ref a) (.ref b) (cmpR x y):=by
 rw[<- zdm l]
 refine .row ha hb (by rw[Jq,ZB];lia) (by rw[Jq,ZB];lia) λi u v c e d f=>?_
 rw[JK]at e d
 obtain⟨p,h,rfl⟩:=Yh.mp e
 obtain⟨q,g,rfl⟩:=Yh.mp d
 rw[List.getElem?_zipWith,h,g]at f
 cases f
 exact .int 0 p q
def minR (x y:List Int):List Int:=if cmpR y x=.lt then y else x
def minL:List (List Int)->List Int
 | []=>[]
 | x::r=>r.foldl minR x
def zmk (P:Program) (w:World) (t:TS):TS:=λD σ H=>t { D with nx:=λa H'=>∃ d o xs b,H d=some (DN P w d b)/\H' d=some (.frz o (DN P w d xs))/\D.nx a (upd H' d (DN P w d xs)) } σ H
section
variable {X:Cx}
theorem zjF {st:Stmt}{t:TS}(h:PS X st t):PS X st (zmk X.prog X.w t):=by
 intro pins s σ H D I c
 refine thn (h pins s σ H _ I c) λf s1 q=>?_
 cases f with
 | next =>
  obtain⟨a,H',e,d,o,xs,g,hd,b,q⟩:=q
  exact⟨a,_,e.thawN b (I.meltedN hd),q⟩
 | brk=>exact q
 | cont=>exact q
 | ret u=>exact q
end
theorem zhc {P:Program}{w:World}{d:Addr}{o:Obj}{xs:KVN}{g:TG}{tb:TS}{D:Ends}{σ:St}{H:Hp}(a:Nat->St->Hp->Prop) (r:a 0 σ H) (l:∀ i σ H,i<=xs.length->a i σ H->H d=some (.frz o (DN P w d xs)))
  (k:∀ i p σ H T,xs[i]?=some p->H T=none->a i σ H->g (.ref T) σ (upd H T (.tup [.ref p.2.1,p.2.2])) λb f=>tb { D with nx:=a (i+1),ct:=a (i+1),bk:=D.nx } b f) (hd:∀ σ H,a xs.length σ H->D.nx σ H) :
  ∃ W:Nat->Nat->St->Hp->Prop,(∃ m,W 0 m σ H)/\∀ i m σ H,W i m σ H ->
   ((Itni P w d o xs).stop i H/\D.nx σ H)\/((Itni P w d o xs).go i H/\∃ N:St->Hp->Prop,(∀ c H',N c H'->∃ h,h<m/\W (i+1) h c H')/\∀ x H',(Itni P w d o xs).yld i H x H'->g x σ H' λb f=>tb { D with nx:=N,ct:=N,bk:=D.nx } b f):=by
 refine⟨λi m σ H=>m=xs.length-i/\i<=xs.length/\a i σ H,⟨xs.length,by simp,JN _,r⟩,λi m σ H ⟨em,hi,p⟩=>?_⟩
 subst em
 have q:=l i σ H hi p
 by_cases lt:i<xs.length
 ·refine .inr ⟨⟨q,lt⟩,a (i+1),λc H' j=>⟨xs.length-(i+1),by lia,rfl,lt,j⟩,λx H' ⟨y,T,s,n,t,e2⟩=>?_⟩
  subst t e2
  exact k i y σ H T s n p
 ·have e:i=xs.length:=by lia
  subst e
  exact .inl ⟨⟨q,rfl⟩,hd σ H p⟩
end L2
namespace Bn
open PySem L2 Own
theorem zcr:∀ (fs:List (Nat × Nat)) (st:List Int × List Int),(∀ t∈st.2,t=0\/t=1)->∀ t∈(zaC st fs).2,t=0\/t=1
 | [],_,h=>h
 | f::fs,st,h=>zcr fs (zaK st f) λt a=>by
  unfold zaK at a
  simp only at a
  rcases JB.mp a with z|z
  ·exact h t z
  ·rw[Je.mp z];lia
theorem ziV (fs:List (Nat × Nat)) (cs:List Int):∀ t∈(flow fs cs).2,t=0\/t=1:=zcr fs (cs,[]) λt a=>by simp at a
theorem zbO (n p:Nat):(List.replicate n (0:Int)).getD p 0=0:=by
 rw[Ja,List.getElem?_replicate];split<;>rfl
theorem zfX (n p:Nat):(List.replicate n (0:Int)).set p 0=List.replicate n 0:=by
 refine ZZ (by simp) λi h1 a=>?_
 rw[List.getElem_set]
 split<;>simp
theorem zcq (n:Nat):∀ (fs:List (Nat × Nat)) (T:List Int),zaC (List.replicate n 0,T) fs=(List.replicate n 0,T++List.replicate fs.length 0)
 | [],T=>by simp[zaC]
 | f::fs,T=>by
  have e:zaK (List.replicate n 0,T) f=(List.replicate n 0,T++[0]):=by
   unfold zaK
   simp only[zbO]
   rw[show ((0:Int)+0+1) / 2=0 by decide,show ((0:Int)+0) / 2=0 by decide,show ((0:Int)+0)%2=0 by decide,zfX,zfX]
  show zaC (zaK (List.replicate n 0,T) f) fs=_
  rw[e,zcq n fs (T++[0]),JL,Ym,JU];rfl
theorem zeR (n:Nat) (fs:List (Nat × Nat)):flow fs (List.replicate n 0)=(List.replicate n 0,List.replicate fs.length 0):=by
 unfold flow;rw[zcq,W9]
theorem zeS (N:Nt) (ok:N.Ok):zaO N (List.replicate N.lanes 0)=List.replicate N.lanes 0:=by
 unfold zaO
 rw[zeR]
 refine ZZ (by rw[Jq,YE,zct ok]) λi h1 a=>?_
 rw[List.getElem_map,List.getElem_replicate];exact zbO _ _
theorem zgD (N:Nt):zbi N (List.replicate N.lanes 0)=List.replicate N.forks.length 0:=by unfold zbi;rw[zeR]
theorem ball {N:Nt}(ok:N.Ok) (back:Bool) {cs:List Int}(cl:cs.length=N.lanes) {lane:Nat}(i:lane<N.lanes) :
  zbi N (zaU cs lane (if back then -1 else 1))=(zaL back N.forks (zbi N cs) lane N.forks.length).1 /\
  zaO N (zaU cs lane (if back then -1 else 1))=zaU (zaO N cs) (N.ends.idxOf (zaL back N.forks (zbi N cs) lane N.forks.length).2) (if back then -1 else 1) /\
  (zaL back N.forks (zbi N cs) lane N.forks.length).2<N.lanes:=by
 have R:=ran (back:=back) (fs:=N.forks) (cs:=cs) (lane:=lane) (λf d=>by rw[cl];exact ok.fk f d) (by lia) (ziV _ _) N.forks.length (Jg _)
 have tk:N.forks.take N.forks.length=N.forks:=YA
 have f1:=R.flows
 have t1:=R.turns
 rw[tk]at f1 t1
 have c:=R.here
 rw[cl]at c
 refine⟨?_,?_,c⟩
 ·refine zcs ?_ λp b=>?_
  ·unfold zbi;rw[zbh,R.len,zbh]
  ·unfold zbi at b;rw[zbh]at b;exact t1 p b
 ·have ne:(zaL back N.forks (zbi N cs) lane N.forks.length).2∈N.ends:=ok.en.mem_iff.mpr (Yx.mpr c)
  have nd:N.ends.Nodup:=ok.en.nodup_iff.mpr List.nodup_range
  have h:(zaO N cs).length=N.ends.length:=by unfold zaO;rw[Jq]
  refine zcs (by rw[zaZ];unfold zaO;rw[Jq,Jq]) λp b=>?_
  have a:p<N.ends.length:=by unfold zaO at b;rwa [Jq]at b
  rw[zaW (by rw[h];exact a)]
  have g:∀ xs:List Int,(N.ends.map λe=>xs.getD e 0).getD p 0=xs.getD N.ends[p] 0:=λxs=>by
   rw[Ja (l:=List.map _ _),JK,J7 a];rfl
  unfold zaO
  rw[g,g,f1]
  have lt':N.ends[p]<(flow N.forks cs).1.length:=by rw[zcX,cl];exact zfJ ok (Y5 a)
  rw[zaW lt']
  congr 1
  show (if (zaL back N.forks (zbi N cs) lane N.forks.length).2=N.ends[p] then _ else _)=_
  have iff:(zaL back N.forks (zbi N cs) lane N.forks.length).2=N.ends[p]↔N.ends.idxOf (zaL back N.forks (zbi N cs) lane N.forks.length).2=p:=by
   constructor
   ·intro e;rw[e];exact nd.idxOf_getElem p a
   ·intro e
    have:=List.getElem_idxOf (List.idxOf_lt_length_of_mem ne)
    subst e
    exact this.symm
  by_cases e:(zaL back N.forks (zbi N cs) lane N.forks.length).2=N.ends[p]
  ·rw[Jf e,Jf (iff.mp e)]
  ·rw[Jb e,Jb λz=>e (iff.mpr z)]
end Bn
namespace Bn
open PySem L2 Own
def big (x y:Int):Int:=if y > x then y else x
def zlV (st:List Int × List Int) (f:Nat × Nat):List Int × List Int :=
 ((st.1.set f.1 (1+big (st.1.getD f.1 0) (st.1.getD f.2 0))).set f.2 (1+big (st.1.getD f.1 0) (st.1.getD f.2 0)),st.2++[1+big (st.1.getD f.1 0) (st.1.getD f.2 0)])
def lay (n:Nat) (fs:List (Nat × Nat)):List Int × List Int:=fs.foldl zlV (List.replicate n 0,[])
def znr (g f:Nat × Nat):Bool:=decide (g.1=f.1\/g.1=f.2) || decide (g.2=f.1\/g.2=f.2)
def ahead (fs:List (Nat × Nat)) (a:List Int) (f:Nat × Nat) (i:Nat):List Int:=((List.range i).filter λj=>znr (fs.getD j (0,0)) f).map λj=>a.getD j 0
def znF (N:Nt):List Int:=(lay N.lanes N.forks).2
abbrev Fk:=Nat × Nat
def rnk (x:Int × Fk):Int:=x.1*1024+x.2.1*32+x.2.2
def ins (x:Int × Fk):List (Int × Fk)->List (Int × Fk)
 | []=>[x]
 | y::l=>if rnk x<=rnk y then x::y::l else y::ins x l
def nmq (p:List Nat) (i:Nat):Nat:=p.getD i 0
def zej (p:List Nat) (f:Fk):Fk:=(nmq p f.1,nmq p f.2)
theorem zlK {p:List Nat}(nd:p.Nodup) {i j:Nat}(hi:i<p.length) (a:j<p.length) (e:nmq p i=nmq p j):i=j:=by
 unfold nmq at e
 rw[Ja,Ja,J7 hi,J7 a]at e
 have ne:=List.pairwise_iff_getElem.mp (List.nodup_iff_pairwise_ne.mp nd)
 have e:p[i]=p[j]:=e
 by_cases h1:i<j
 ·exact absurd e (ne i j hi a h1)
 ·by_cases b:j<i
  ·exact absurd e.symm (ne j i a hi b)
  ·lia
theorem zlJ {p:List Nat}{i:Nat}(inside:i<p.length):nmq p i∈p:=by
 unfold nmq
 rw[Ja,J7 inside]
 exact Y5 inside
theorem zgT {p:List Nat}{n:Nat}(h:p.Perm (List.range n)):p.Nodup:=h.nodup_iff.mpr List.nodup_range
theorem zcV {p:List Nat}{n:Nat}(h:p.Perm (List.range n)):p.length=n:=by rw[h.length_eq,Yb]
theorem zkQ {p:List Nat}{n:Nat}(h:p.Perm (List.range n)) {i:Nat}(hi:i<n):nmq p i<n:=Yx.mp (h.mem_iff.mp (zlJ (by rw[zcV h];exact hi)))
theorem zeJ {p:List Nat}{n:Nat}(h:p.length=n):(List.range n).map (nmq p)=p:=by
 subst h
 apply ZZ (by simp)
 intro i h1 a
 simp only[List.getElem_map,List.getElem_range]
 unfold nmq
 rw[Ja,J7 a];rfl
theorem zfv {p q:List Nat}{n:Nat}(a:p.Perm (List.range n)) (b:q.Perm (List.range n)):(q.map (nmq p)).Perm (List.range n):=by
 have:=b.map (nmq p)
 rw[zeJ (zcV a)]at this
 exact this.trans a
def zfS (a b:Nt):Nt:=⟨a.lanes,a.forks++b.forks.map (zej a.ends),b.ends.map (nmq a.ends)⟩
theorem zkA {p:List Nat}{n:Nat}(a:p.Perm (List.range n)) {f:Fk}(h:f.1<n/\f.2<n/\f.1≠f.2):(zej p f).1<n/\(zej p f).2<n/\(zej p f).1≠(zej p f).2 :=
 ⟨zkQ a h.1,zkQ a h.2.1,λe=>h.2.2 (zlK (zgT a) (by rw[zcV a];exact h.1) (by rw[zcV a];exact h.2.1) e)⟩
theorem zjm {a b:Nt}(c:a.Ok) (d:b.Ok) (i:b.lanes=a.lanes) (fm:a.forks.length+b.forks.length<=128):(zfS a b).Ok:=⟨c.l1,c.l16,by
 show (a.forks++b.forks.map (zej a.ends)).length<=128
 rw[Jd,Jq];exact fm,λf k=>by
 rcases JB.mp k with h|h
 ·exact c.fk f h
 ·obtain⟨g,j,rfl⟩:=JD.mp h
  have:=d.fk g j
  rw[i]at this
  exact zkA c.en this,by
 have e:=d.en
 rw[i]at e
 exact zfv c.en e⟩
theorem zao {H:Hp}{a:Addr}(_:H a=none) (o:HO):L2.upd H a o a=some o:=zag
theorem Prs.app {H:Hp}:∀ {ps a:List V}{fs b:List Fk},Prs H ps fs->Prs H a b->Prs H (ps++a) (fs++b)
 | [],_,[],_,_,h=>h
 | _::_,_,_::_,_,⟨x,r⟩,h=>⟨x,Prs.app r h⟩
def zd7 (f:Nat × Nat):PyData:=.tuple [.int f.1,.int f.2]
def netD (N:Nt):PyData:=.tuple [.int N.lanes,.tuple (N.forks.map zd7),.tuple (N.ends.map λe=>.int ((e:Nat):Int))]
theorem zlL {q:List Nat}{j:Nat}(h:j<q.length):atI (nums q) ((j:Nat):Int)=some (.int (nmq q j:Nat)):=zaP (by
 unfold nums nmq
 rw[JK,J7 h,Ja,J7 h];rfl)
end Bn
namespace L2
open PySem Own PyProof.Rows PySem.Spec
section
variable {X:Cx}
def znb (i j k:Nat) (ta:TA):TS:=λD σ H=>ta σ H λvs H1=>∃ u v w,vs=[u,v,w]/\D.nx (((σ.set i (some u)).set j (some v)).set k (some w)) H1
theorem zgH {u v w:V}{us:List Value}(r:Vals [u,v,w] us):∃ a b c,us=[a,b,c]/\RelV u a/\RelV v b/\RelV w c:=by
 cases r with
 | cons p r =>
  obtain⟨b,c,rfl,q,t⟩:=Vals.two r
  exact⟨_,b,c,rfl,p,q,t⟩
theorem zlq {i j k:Nat}{x y z:Str}{a b c:Expr}{ta:TA}{pos l py f pt:Pos}{kt k2 pt2} (T:X.calm=true) (m:X.N.Nodup) (hi:X.N[i]?=some x) (S:X.N[j]?=some y) (R:X.N[k]?=some z) (M:i≠j) (L:i≠k) (K:j≠k)
  (t:X.env.scope.names.lookup x=some .local) (r:X.env.scope.names.lookup y=some .local) (p:X.env.scope.names.lookup z=some .local) (ha:PA X [a,b,c] ta)
  (N:swappedStores [.Tuple [.Name x l,.Name y py,.Name z f] kt pt] (.Tuple [a,b,c] k2 pt2) X.env=pure (some [x,y,z]))
  (O:swapsWithSole [.Tuple [.Name x l,.Name y py,.Name z f] kt pt] (.Tuple [a,b,c] k2 pt2) pos.line X.env=pure false:=by rfl) :
  PS X (.Assign [.Tuple [.Name x l,.Name y py,.Name z f] kt pt] (.Tuple [a,b,c] k2 pt2) pos) (znb i j k ta):=λpins s σ H D I h=>by
 rw[exec_Assign_arm];refine J0 (Z5 ?_);rw[O];refine J0 (J9 ?_);rw[Jb Jp]
 refine J0 (PyProof.Rows.Tuple_ (thn (ha _ pins s σ H _ I h) λus s1 q=>?_))
 obtain⟨vs,H1,Y,F,u,v,w,rfl,G⟩:=q
 obtain⟨e,d,u3,rfl,E,C,B⟩:=zgH F
 refine JM ?_ (by show 3<=sizeLine;decide)
 have J:Inv X pins σ H1 { s1 with heap:=s1.heap.push { cls:=.type "tuple",data:=.seq [e,d,u3].toArray } }:=Y.kept (t':=s1.toks) λ_ _ g=>J8 _ g
 rw[N];refine J0 (J9 ?_)
 show wpAny (model X.prog X.w) X.A (do rule "assign.swapped-stores";let items <- unpackItems (.ref s1.heap.objs.size) 3 none;assignInOrder [λv=>bindName X.env z v,λv=>bindName X.env y v,λv=>bindName X.env x v] items.reverse;pure Flow.next) _ _ _
 refine J0 (YT (J0 (PyProof.Rows.unpackItems_tuple (items:=#[e,d,u3]) (I.ok.hd T) (IsTup.new s1.heap _) λQ P=>?_)))
 have W:=J.kept (h':=Q) (t':=s1.toks) λb o g=>P b o (JF (Jr g)) g
 show wpAny _ _ (assignInOrder [λv=>bindName X.env z v,λv=>bindName X.env y v,λv=>bindName X.env x v] [u3,d,e] >>= λ_=>pure Flow.next) _ _ _
 refine J0 (ZL (wpAny_bindName (zbD W m R (.inl p) B (λs2 V=>?_) (.inr p))))
 refine ZL (wpAny_bindName (zbD V m S (.inl r) C (λs3 U=>?_) (.inr r)))
 refine ZL (wpAny_bindName (zbD U m hi (.inl t) E (λZ A=>assignInOrder_nil (J9 ?_)) (.inr t)))
 have n:((σ.set k (some w)).set j (some v)).set i (some u)=((σ.set i (some u)).set j (some v)).set k (some w):=by
  rw[List.set_comm _ _ (Ne.symm M),List.set_comm _ _ (Ne.symm L),List.set_comm _ _ (Ne.symm K)]
 rw[n]at A
 exact⟨_,H1,A,G⟩
end
end L2
namespace Bn
open PySem L2 Own
abbrev Sn:=List Int × List Grp × List Int
abbrev Sn.none (N:Nt):Sn:=(List.replicate N.forks.length 0,[],List.replicate N.lanes 0)
end Bn
namespace L2
open PySem PySem.Spec PyProof.Rows Own
abbrev FZ (o:Obj):HO:=.frz o (.ext λ_=>True)
theorem ziR {P:Program}{w:World}{H:Hp}{h:Heap}{a:Addr}{o:Obj}(e:h.get? a=some o):ObjOk P w H h a (FZ o):=⟨e,trivial,⟨o,e⟩,λ_ _ _ _=>trivial⟩
structure Lam where
 params:Arguments
 body:Expr
 scope:Scope
 qual:Str
def lamO (L:Lam) (cl:List (Str × Addr)) (pm:Value) (c:Addr) (ct:Value):Obj:=PySem.W.kla_obj "<lambda>" L.qual L.params L.body L.scope cl pm c ct
structure LamAt (H:Hp) (f:Addr) (L:Lam) (cl:List (Str × Addr)) (vs:List V):Prop where
 ex:∃ (pm:Value) (c:Addr) (ct:Value) (oc:Obj) (fs:Array Value) (t:Tok),H f=some (FZ (lamO L cl pm c ct))/\H c=some (FZ oc)/\oc.data=.fields fs/\fs[1]?=some (.str L.qual t)
 len:cl.length=vs.length
 cell:∀ (i:Nat) x c v,cl[i]?=some (x,c)->vs[i]?=some v->∃ o u,H c=some (FZ o)/\o.data=.cell (some u)/\RelV v u
 nd1:(cl.map (·.1)).Nodup
 nd2:(cl.map (·.2)).Nodup
theorem LamAt.frz {H H':Hp}{f:Addr}{L:Lam}{cl:List (Str × Addr)}{vs:List V}(h:LamAt H f L cl vs) (z:∀ b o u,H b=some (.frz o u)->H' b=some (.frz o u)):LamAt H' f L cl vs:=by
 obtain⟨pm,c,ct,oc,fs,t,h1,l,k,j⟩:=h.ex
 refine⟨⟨pm,c,ct,oc,fs,t,z _ _ _ h1,z _ _ _ l,k,j⟩,h.len,λi x c v a b=>?_,h.nd1,h.nd2⟩
 obtain⟨o,u,g,e,d⟩:=h.cell i x c v a b
 exact⟨o,u,z _ _ _ g,e,d⟩
def za7 (cl:List (Str × Addr)) (H:Hp):Hp:=λb=>if b∈cl.map (·.2) then none else H b
def back (cl:List (Str × Addr)) (H H':Hp):Hp:=λb=>if b∈cl.map (·.2) then H b else H' b
theorem zb9 {cl:List (Str × Addr)}{H:Hp}{b:Addr}(h:b∈cl.map (·.2)):za7 cl H b=none:=Jf h
theorem zaF {cl:List (Str × Addr)}{H:Hp}{b:Addr}(h:b∉cl.map (·.2)):za7 cl H b=H b:=Jb h
theorem zfT {cl:List (Str × Addr)}{H H':Hp}{b:Addr}(h:b∈cl.map (·.2)):back cl H H' b=H b:=Jf h
theorem zbu {cl:List (Str × Addr)}{H H':Hp}{b:Addr}(h:b∉cl.map (·.2)):back cl H H' b=H' b:=Jb h
theorem zgJ {cl:List (Str × Addr)}{H:Hp}{b:Addr}{o:HO}(h:za7 cl H b=some o):b∉cl.map (·.2)/\H b=some o:=by
 by_cases c:b∈cl.map (·.2)
 ·rw[zb9 c]at h;cases h
 ·rw[zaF c]at h;exact⟨c,h⟩
def CellsFz (cl:List (Str × Addr)) (H:Hp):Prop:=∀ b∈cl.map (·.2),∃ o,H b=some (FZ o)
theorem LamAt.fz {H:Hp}{f:Addr}{L:Lam}{cl:List (Str × Addr)}{vs:List V}(h:LamAt H f L cl vs):CellsFz cl H:=λb hb=>by
 obtain⟨⟨x,c⟩,j,rfl⟩:=JD.mp hb
 obtain⟨i,a,e⟩:=Z2.mp j
 have g:i<vs.length:=by rw[<- h.len];exact a
 obtain⟨o,u,d,_⟩:=h.cell i x c vs[i] (by rw[J7 a,e]) (J7 g)
 exact⟨o,d⟩
section
variable {P:Program}{w:World}{H H':Hp}{h h':Heap}{cl:List (Str × Addr)}
theorem zeO (x:HOk P w H h) (fz:CellsFz cl H):HOk P w (za7 cl H) h:=λb u e=>by
 obtain⟨nb,f⟩:=zgJ e
 have keep:∀ {c:Addr}{o:HO},H c=some o->(∀ q,o≠FZ q)->za7 cl H c=some o:=λ{c o} z n=>by
  rw[zaF];· exact z
  ·intro d
   obtain⟨q,a⟩:=fz c d
   rw[z]at a
   exact n q (Jn a)
 exact(x b u f).stay (λc v _ q=>q) (λc q=>keep q λz y=>by cases y) λc xs q=>keep q λz y=>by cases y
theorem zk1 {fs:List Addr}(un:Un fs [] (za7 cl H) H' h h') (fz:CellsFz cl H) (f:∀ b∈fs,H b=none) (there:∀ b o,H b=some (FZ o)->h.get? b=some o) (low:∀ b∈cl.map (·.2),H' b=none) (ok:HOk P w H' h'):Un fs [] H (back cl H H') h h'/\HOk P w (back cl H H') h':=by
 have a:∀ {b:Addr},H b=none->b∉cl.map (·.2):=λe hb=>by
  obtain⟨o,q⟩:=fz _ hb
  rw[e]at q;cases q
 have kept:∀ b∈cl.map (·.2),∀ o,h.get? b=some o->h'.get? b=some o:=λb hb o e=>un.keep b o e (zb9 hb) (λz=>a (f b z) hb) (by simp)
 have oth:∀ {b:Addr}{o:HO},H b=some o->(∀ q,o≠FZ q)->b∉cl.map (·.2):=λz n hb=>by
  obtain⟨q,d⟩:=fz _ hb
  rw[z]at d
  exact n q (Jn d)
 refine⟨⟨λb o e n x y=>un.keep b o e (by rw[zaF (a n)];exact n) x y,λb o e n x y=>un.slot b o e (by rw[zaF (a n)];exact n) x y,λb o e n y=>?_,un.there,λb xs e=>?_,λb o u e=>?_,λb ps e=>?_⟩,λb u e=>?_⟩
 ·rw[zbu (a n)]
  exact un.free b o e (by rw[zaF (a n)];exact n) y
 ·have nb:=oth e λq z=>by cases z
  rw[zbu nb];exact un.tups b xs (by rw[zaF nb];exact e)
 ·by_cases c:b∈cl.map (·.2)
  ·rw[zfT c];exact e
  ·rw[zbu c];exact un.frzs b o u (by rw[zaF c];exact e)
 ·have nb:=oth e λq z=>by cases z
  rw[zbu nb];exact un.tbls b ps (by rw[zaF nb];exact e)
 ·by_cases c:b∈cl.map (·.2)
  ·rw[zfT c]at e
   obtain⟨o,q⟩:=fz b c
   rw[q]at e
   cases e
   exact ziR (kept b c o (there b o q))
  ·rw[zbu c]at e
   have old:∀ {x:Addr}{o:HO},H' x=some o->back cl H H' x=some o:=λ{x o} z=>by
    rw[zbu];· exact z
    ·intro g
     rw[low x g]at z;cases z
   exact(ok b u e).stay (λx v _ q=>q) (λx q=>old q) λx xs q=>old q
end
def envL (L:Lam) (cl:List (Str × Addr)) (a f c:Addr):Env:={ scope:=L.scope,locals:=a,globals:=mainGlobals,cells:=cl,qual:=L.qual++".<locals>.",func:=some f,code:=.ref c,frame:=some a,builtins:=builtinsNs }
def zl6 (CX:CXT) (P:Program) (w:World) (K:PySem.W.Frag) (mg:Str->Option Value) (base:Heap) (N:List Str) (L:Lam) (cl:List (Str × Addr)) (f c:Addr) (A:Around) (outer:List Env) (s:Shared) (H:Hp) (E:XK):Cx where
 prog:=P
 w:=w
 K:=K
 mg:=mg
 base:=base
 A:=A.deeper (envL L cl s.heap.objs.size f c)
 N:=N
 s₀:=s
 H₀:=za7 cl H
 env:=envL L cl s.heap.objs.size f c
 outer:=outer
 stack:=envL L cl s.heap.objs.size f c::outer
 ex:=[]
 calm:=true
 fn:=λ_=>false
 pn:=[]
 xe:=λe s'=>wpAny (model P w) (A.deeper (envL L cl s.heap.objs.size f c)) (leaving (envL L cl s.heap.objs.size f c) e) (λ_ a=>CX outer H s E e a) (λb a=>CX outer H s E b a) s'
structure LamScope (ps fr:List Str) (sc:Scope):Prop where
 kind:sc.kind=.function
 co:sc.isCoroutine=false
 gen:sc.isGenerator=false
 nd:(ps++fr).Nodup
 par:∀ x∈ps,sc.names.lookup x=some .local
 fre:∀ x∈fr,sc.names.lookup x=some .free
 noc:∀ y∈sc.names,y.2≠.cell
 all:∀ x,sc.names.lookup x=some .free->x∈fr
section
variable {CX:CXT}{P:Program}{w:World}{K:PySem.W.Frag}{mg:Str->Option Value}{base:Heap}{L:Lam}{cl:List (Str × Addr)}{vals vs:List V}{ps:List Str}{f c:Addr}{A:Around}{outer:List Env}{s:Shared}{H:Hp}{us:List Value}{E:XK}
theorem ziz {cl:List (Str × Addr)}(nd:(cl.map (·.1)).Nodup):∀ {i:Nat}{x:Str}{c:Addr},cl[i]?=some (x,c)->cl.lookup x=some c:=by
 induction cl with
 | nil=>intro i x c h;cases h
 | cons p r ih =>
  intro i x c h
  rw[JZ,JR]at nd
  cases i with
  | zero =>
   cases Jn h
   rw[Yz,Zx]
  | succ i =>
   have m:=JP (show r[i]?=some (x,c) from h)
   rw[Yz,show (x == p.1)=false from ZA.mpr λz=>nd.1 (JD.mpr ⟨_,m,z⟩)]
   exact ih nd.2 (show r[i]?=some (x,c) from h)
theorem zgN {ps:List Str}{us:List Value}(nd:ps.Nodup) (d:us.length=ps.length) {i:Nat}{x:Str}{u:Value}(b:ps[i]?=some x) (c:us[i]?=some u):(ps.zip us).reverse.lookup x=some u:=by
 have a:((ps.zip us).reverse.map (·.1)).Nodup:=by
  rw[List.map_reverse,List.map_fst_zip (by lia)]
  exact List.pairwise_reverse.mpr (nd.imp λh=>h.symm)
 have m:(x,u)∈(ps.zip us).reverse:=List.mem_reverse.mpr (JP (i:=i) (by rw[Wn];exact⟨b,c⟩))
 generalize (ps.zip us).reverse=l at a m
 induction l with
 | nil=>cases m
 | cons p r ih =>
  rw[JZ,JR]at a
  rcases Jt.mp m with e|z
  ·rw[<- e,Yz,Zx]
  ·rw[Yz,show (x == p.1)=false from ZA.mpr λy=>a.1 (JD.mpr ⟨_,z,y⟩)]
   exact ih a.2 z
theorem zlX {h':Heap}{tk:Nat}(S:LamScope ps (cl.map (·.1)) L.scope) (hd:A.handled=none) (g:Env0 P w K mg base A outer s H) (la:LamAt H f L cl vals) (r:Vals vs us) (I:vs.length=ps.length)
  (ns:h'.Ns s.heap.objs.size (λx=>(ps.zip us).reverse.lookup x)) (kp:∀ b o,s.heap.get? b=some o->h'.get? b=some o) :
  Inv (zl6 CX P w K mg base (ps++cl.map (·.1)) L cl f c A outer s H E) [] ((vs++vals).map some) (za7 cl H) { s with heap:=h',toks:=tk }:=by
 have fz:=la.fz
 have N:=List.nodup_append.mp S.nd
 have ul:us.length=ps.length:=by rw[<- r.length];exact I
 have d:∀ {x:Str}{a:Addr},cl.lookup x=some a->(x,a)∈cl:=λh=>Z9 h
 have cellOf:∀ {x:Str}{a:Addr},(x,a)∈cl->∃ (i:Nat) (v:V) (o:Obj) (u:Value),cl[i]?=some (x,a)/\vals[i]?=some v/\H a=some (FZ o)/\o.data=.cell (some u)/\RelV v u/\s.heap.get? a=some o:=λ{x a} m=>by
  obtain⟨i,n,e⟩:=Z2.mp m
  have Q:cl[i]?=some (x,a):=by rw[J7 n,e]
  have O:i<vals.length:=by rw[<- la.len];exact n
  obtain⟨o,u,B,t,D⟩:=la.cell i x a vals[i] Q (J7 O)
  exact⟨i,_,o,u,Q,J7 O,B,t,D,(g.hok a _ B).1⟩
 refine⟨⟨g.mod,S.kind,rfl,rfl,Jg _,λy z a h1 l=>?_,λy F=>?_,λy a q=>(by cases q),λ_=>hd,Around.frames_deeper g.frames,.inr ⟨rfl,rfl⟩,λb z=>(Jw z).elim,λb o e=>⟨(g.bs b o e).1,?_⟩,g.bsz,λb _ _=>Jw,λb z=>(Jw z).elim,g.funs,λb hb=>?_⟩,
  rfl,g.bare,Un.kept kp,⟨_,ns,λi y v h1 l Z=>?_⟩,λy a h=>?_,?_,λy a h=>zb9 (JD.mpr ⟨_,d h,rfl⟩),λp G=>(Jw G).elim,(zeO g.hok fz).kept kp,?_⟩
 ·-- one cell,one name
  have W:=d h1
  have U:=d l
  obtain⟨i,n,C⟩:=Z2.mp W
  obtain⟨j,X,J⟩:=Z2.mp U
  have:i=j:=(List.getElem_inj (h₀:=by rw[Jq];exact n) (h₁:=by rw[Jq];exact X) la.nd2).mp (by rw[List.getElem_map,List.getElem_map,C,J])
  subst this
  rw[C]at J
  exact JX Prod.fst J
 ·have F:L.scope.names.lookup y=some .cell\/L.scope.names.lookup y=some .free:=F
  rcases F with q|q
  ·exact absurd rfl (S.noc _ (Z9 q))
  ·obtain⟨p,G,e⟩:=JD.mp (S.all y q)
   obtain⟨i,n,C⟩:=Z2.mp G
   exact⟨p.2,ziz la.nd1 (i:=i) (by rw[J7 n,C,<- e])⟩
 ·show za7 cl H b=none
  unfold za7
  split
  ·rfl
  ·exact(g.bs b o e).2
 ·show za7 cl H b=none
  unfold za7
  split
  ·rfl
  ·exact g.frf b hb
 ·have k:(vs++vals)[i]?=some v:=by
   rw[JK]at l
   cases e:(vs++vals)[i]? with
   | none=>rw[e]at l;cases l
   | some z=>rw[e]at l;cases l;rfl
  replace h1:(ps++cl.map (·.1))[i]?=some y:=h1
  by_cases ci:i<vs.length
  ·rw[YB ci]at k
   rw[YB (by lia)]at h1
   obtain⟨u,Y,R⟩:=r.get k
   exact⟨u,R,.inl ⟨S.par y (JP h1),zgN N.1 ul h1 Y⟩⟩
  ·rw[Yy (by lia)]at k
   rw[Yy (by lia),JK,<- I]at h1
   obtain⟨⟨x,a⟩,M,rfl⟩:=Yh.mp h1
   obtain⟨o,u,B,t,D⟩:=la.cell _ x a v M k
   exact⟨u,D,.inr ⟨.inr (S.fre x (JD.mpr ⟨_,JP M,rfl⟩)),a,ziz la.nd1 M,o,kp _ _ (g.hok a _ B).1,t⟩⟩
 ·obtain⟨i,v,o,u,_,_,_,t,_,T⟩:=cellOf (d h)
  exact⟨some u,o,kp _ _ T,t⟩
 ·show za7 cl H s.heap.objs.size=none
  unfold za7
  split
  ·rfl
  ·exact g.hok.fresh (Jg _)
 ·show ((vs++vals).map some).length=(ps++cl.map (·.1)).length
  rw[Jq,Jd,Jd,Jq,I,la.len]
end
theorem zfQ {sc:Scope}{env:Env}(h:∀ x,(x,NameKind.free)∈sc.names->∃ c,env.cells.lookup x=some c) :
  ∃ cl,closureFor sc env=pure cl/\cl.map (·.1)=((sc.names.filter λy=>y.2 == .free).map (·.1)).reverse/\∀ p∈cl,env.cells.lookup p.1=some p.2:=by
 unfold closureFor
 have key:∀ (l:List (Str × NameKind)) (acc:List (Str × Addr)),(∀ x,(x,NameKind.free)∈l->∃ c,env.cells.lookup x=some c)->(∀ p∈acc,env.cells.lookup p.1=some p.2) ->
   ∃ cl,(forIn l acc λ(y:Str × NameKind) (r:List (Str × Addr))=>(match y with|(name,kind)=>if (kind == NameKind.free)=true then do let a <- cellOf env name;pure (ForInStep.yield ((name,a)::r)) else pure (ForInStep.yield r):Sem (ForInStep (List (Str × Addr)))))=pure cl/\cl.map (·.1)=((l.filter λy=>y.2 == .free).map (·.1)).reverse++acc.map (·.1)/\∀ p∈cl,env.cells.lookup p.1=some p.2:=by
  intro l
  induction l with
  | nil=>intro acc _ ha;exact⟨acc,rfl,rfl,ha⟩
  | cons y l ih =>
   intro acc i ha
   obtain⟨x,e⟩:=y
   rw[YU]
   by_cases c:(e == NameKind.free)=true
   ·have k:e=.free:=by
     cases e<;>first|rfl|cases c
    subst k
    obtain⟨a,j⟩:=i x (.head _)
    obtain⟨cl,d,e2,b⟩:=ih ((x,a)::acc) (λz f=>i z (.tail _ f)) (λp g=>by
     rcases Jt.mp g with rfl|q
     ·exact j
     ·exact ha p q)
    refine⟨cl,?_,?_,b⟩
    ·have n:cellOf env x=pure a:=by unfold cellOf;rw[j]
     simp only[n,pure_bind]
     exact d
    ·rw[e2,List.filter_cons,Jf (show ((x,NameKind.free).2 == NameKind.free)=true from rfl),JZ (l:=List.filter _ l),List.reverse_cons,JU];rfl
   ·obtain⟨cl,d,e2,b⟩:=ih acc (λz f=>i z (.tail _ f)) ha
    refine⟨cl,?_,?_,b⟩
    ·simp only[c,pure_bind]
     exact d
    ·rw[e2,List.filter_cons,Jb c]
 obtain⟨cl,d,e2,b⟩:=key sc.names [] h (λp g=>(Jw g).elim)
 refine⟨cl,?_,by rw[e2,List.map_nil,Y2],b⟩
 have o:=JX (λ(m:Sem (List (Str × Addr)))=>m >>= λr=>pure r) d
 exact o.trans (pure_bind _ _)
def TabOk (H:Hp) (qual:Str) (l:List (Pos × Addr)):Prop:=∀ p∈l,∃ (oc:Obj) (fs:Array Value) (t:Tok),H p.2=some (FZ oc)/\oc.data=.fields fs/\fs[1]?=some (.str qual t)
theorem TabOk.frz {H H':Hp}{qual:Str}{l:List (Pos × Addr)}(h:TabOk H qual l) (z:∀ b o u,H b=some (.frz o u)->H' b=some (.frz o u)):TabOk H' qual l:=λp a=>by
 obtain⟨oc,fs,t,h1,c⟩:=h p a
 exact⟨oc,fs,t,z _ _ _ h1,c⟩
theorem zdJ (pos:Pos):∀ l:List (Pos × Addr),codeAmong pos (triples l)=none\/∃ p∈l,codeAmong pos (triples l)=some (.ref p.2)
 | []=>.inl rfl
 | (q,a)::l=>by
  show (if (((q.line:Int) == pos.line && (q.col:Int) == pos.col)=true) then some (Value.ref a) else codeAmong pos (triples l))=none\/∃ p∈(q,a)::l,(if (((q.line:Int) == pos.line && (q.col:Int) == pos.col)=true) then some (Value.ref a) else codeAmong pos (triples l))=some (.ref p.2)
  split
  ·exact .inr ⟨_,.head _,rfl⟩
  ·rcases zdJ pos l with h|⟨p,b,h⟩
   ·exact .inl h
   ·exact .inr ⟨p,.tail _ b,h⟩
theorem zcx:∀ l:List (Pos × Addr),TriplesOk (triples l)
 | []=>trivial
 | (q,a)::l=>zcx l
structure CodeK (K:PySem.W.Frag) (mg:Str->Option Value) (base:Heap) (c P:Addr):Prop where
 hd:PySem.W.codeHdIn K c P=true
 blt:base.BuiltinsAt mg P
 gP:mainGlobals≠P
structure LamRaw (H:Hp) (f:Addr) (L:Lam) (cl:List (Str × Addr)):Prop where
 ex:∃ (pm:Value) (c:Addr) (ct:Value) (oc:Obj) (fs:Array Value) (t:Tok),H f=some (FZ (lamO L cl pm c ct))/\H c=some (FZ oc)/\oc.data=.fields fs/\fs[1]?=some (.str L.qual t)
def CellsOf (env:Env) (cl:List (Str × Addr)):Prop:=∀ p∈cl,env.cells.lookup p.1=some p.2
def tLam (env:Env) (P:Addr) (L:Lam) (fr:List Str):TE:=λ_ H Q=>∃ l,H P=some (.tbl (triples l).toArray)/\TabOk H L.qual l /\
 ∀ f cl a H',cl.map (·.1)=fr->CellsOf env cl->H f=none->LamRaw H' f L cl->H' P=some (.tbl (triples a).toArray)->TabOk H' L.qual a->(∀ b o,H b=some o->b≠P->H' b=some o)->Q (.ref f) H'
section
variable {X:Cx}{pins:List (Addr × Obj)}{σ:St}{H:Hp}{s:Shared}{h':Heap}
theorem Inv.tab {P:Addr}{ps more:Array Value}{tk:Nat}(I:Inv X pins σ H s) (a:H P=some (.tbl ps)) (k:Heap.ExtBut P s.heap h') (new:h'.get? P=some (PySem.W.tabObj (ps++more))):Inv X pins σ (upd H P (.tbl (ps++more))) { s with heap:=h',toks:=tk }:=by
 have ne:∀ {b:Addr},H b=none->b≠P:=λe z=>by rw[z,a]at e;cases e
 have oth:∀ {b:Addr}{o:HO},H b=some o->(∀ q,o≠.tbl q)->upd H P (.tbl (ps++more)) b=some o:=λ{b o} e n=>by
  rw[zah];· exact e
  ·intro z
   rw[z,a]at e
   exact n ps (Jn e).symm
 refine I.step (g':=s.gens) (d':=s.drawn) (ch:=[]) (λb hb=>(Jw hb).elim) (λb o _ _ _ e n=>k b o (ne n) e) (λb o _ _ _ e n=>⟨o.slots,k b o (ne n) e⟩) (λb o _ e n=>by rw[zah (ne n)];exact n) (λb o _ e=>?_) (λb xs e=>oth e λq z=>by cases z) (λb o u e=>oth e λq z=>by cases z) (λb h e=>?_) (λm g=>?_) (λb u e=>?_) I.bare
 ·by_cases c:b=P
  ·subst c;exact⟨_,new⟩
  ·exact⟨o,k b o c e⟩
 ·by_cases c:b=P
  ·subst c
   rw[a]at e
   cases e
   exact⟨more,zag⟩
  ·exact⟨#[],by rw[zah c,e];simp⟩
 ·obtain⟨o,es,ep,f,r⟩:=g
  exact⟨o,es,ep,k _ o (ne I.free) f,r⟩
 ·by_cases c:b=P
  ·subst c
   rw[zag]at e
   cases e
   exact new
  ·rw[zah c]at e
   refine(I.hok b u e).stay (λx v d q=>k x v ?_ q) (λx q=>oth q λz y=>by cases y) λx xs q=>oth q λz y=>by cases y
   rcases d with z|z
   ·rw[z];exact c
   ·rintro rfl
    rw[a]at z;cases z
theorem zmx {params:Arguments}{body:Expr}{scope:Scope}{pos:Pos}{c P:Addr}{fr:List Str}(J:CodeK X.K X.mg X.base c P) (i:X.env.code=.ref c) (z:defaultsOf params X.env=([],[])) (m:∀ x,(x,NameKind.free)∈scope.names->X.env.kindOf x=some .cell\/X.env.kindOf x=some .free) (M:((scope.names.filter λy=>y.2 == .free).map (·.1)).reverse=fr) :
  PE X (.Lambda params body scope pos) (tLam X.env P ⟨params,body,scope,X.env.qual++"<lambda>"⟩ fr):=by
 intro pins s σ H Q I h
 obtain⟨l,r,tok,q⟩:=h
 obtain⟨cl,w,j,v⟩:=zfQ (sc:=scope) (env:=X.env) λx hx=>I.ok.has x (m x hx)
 rw[M]at j
 have S:s.heap.Ns mainGlobals X.mg:=I.mod.glob.keeps I.bk
 have hb:s.heap.BuiltinsAt X.mg P:=J.blt.keeps I.bk
 have C:=PySem.W.codeHd_of_K I.kIn J.hd
 have B:s.heap.get? P=some (PySem.W.tabObj (triples l).toArray):=I.hok P _ r
 refine PySem.W.kla_eval z ?_
 rcases zdJ pos l with hn|⟨p,E,hy⟩
 ·refine PySem.W.kla_makeFunction w I.ok.glob S i C B (by rw[List.toList_toArray];exact zcx l) (by rw[List.toList_toArray];exact hn) J.gP hb λd f h' tk ex lo hi cr O=>?_
  obtain⟨c2,oc,fs,t,ec,g1,U,T⟩:=cr
  cases ec
  have R:P<s.heap.objs.size:=Jr B
  have sz:s.heap.objs.size<=h'.objs.size:=Y3 lo (Nat.le_of_lt hi)
  have W:d≠P:=Z1 (JJ R lo)
  have V:h'.objs.size≠P:=Z1 (JJ R sz)
  have G:d≠h'.objs.size:=JF hi
  have F:(triples l).toArray++#[rawInt pos.line,rawInt pos.col,.ref d]=(triples (l++[(pos,d)])).toArray:=by
   rw[triples_append];simp
  rw[F]at O
  have A:=I.tab (tk:=tk) (h':=h'.push (lamO ⟨params,body,scope,X.env.qual++"<lambda>"⟩ cl ((X.mg "__name__").getD .none) d f)) (more:=#[rawInt pos.line,rawInt pos.col,.ref d]) r (λb o n e=>J8 _ (ex b o n e)) (by rw[F];exact J8 _ O)
  rw[F]at A
  have n1:H d=none:=I.hok.fresh lo
  have n2:H h'.objs.size=none:=I.hok.fresh sz
  have Z:upd H P (.tbl (triples (l++[(pos,d)])).toArray) d=none:=by rw[zah W];exact n1
  have I2:=A.adopt (o:=FZ oc) (I.fpOk lo Z) (ziR (J8 _ g1))
  have Y:upd (upd H P (.tbl (triples (l++[(pos,d)])).toArray)) d (FZ oc) h'.objs.size=none:=by rw[zah G.symm,zah V];exact n2
  have I3:=I2.adopt (o:=FZ (lamO ⟨params,body,scope,X.env.qual++"<lambda>"⟩ cl ((X.mg "__name__").getD .none) d f)) (I.fpOk sz Y) (ziR (Js _ rfl))
  have keep:∀ b o,H b=some o->b≠P->upd (upd (upd H P (.tbl (triples (l++[(pos,d)])).toArray)) d (FZ oc)) h'.objs.size (FZ (lamO ⟨params,body,scope,X.env.qual++"<lambda>"⟩ cl ((X.mg "__name__").getD .none) d f)) b=some o:=λb o e n=>by
   rw[zah (zaf e n2),zah (zaf e n1),zah n];exact e
  refine⟨.ref h'.objs.size,_,I3,rfl,q _ cl (l++[(pos,d)]) _ j v n2 ⟨_,d,f,oc,fs,t,zag,by rw[zah G];exact zag,U,T⟩ (by rw[zah V.symm,zah W.symm];exact zag) (λp E=>?_) keep⟩
  rcases JB.mp E with K|is
  ·obtain⟨L,N,t',o1,o2,D⟩:=tok p K
   exact⟨L,N,t',keep _ _ o1 (zcD o1 r (λy=>by cases y)),o2,D⟩
  ·rw[Je.mp is]
   exact⟨oc,fs,t,by rw[zah G];exact zag,U,T⟩
 ·obtain⟨oc,fs,t,o1,o2,D⟩:=tok p E
  refine PySem.W.kla_makeFunctionHit w I.ok.glob S i C B (by rw[List.toList_toArray];exact zcx l) (by rw[List.toList_toArray];exact hy) hb λf h' tk k sz=>?_
  have kk:∀ b o,s.heap.get? b=some o->(h'.push (lamO ⟨params,body,scope,X.env.qual++"<lambda>"⟩ cl ((X.mg "__name__").getD .none) p.2 f)).get? b=some o:=λb o e=>J8 _ (k b o e)
  have g:=I.hok.fresh (a:=h'.objs.size) sz
  have A:=I.laid (a:=h'.objs.size) (o:=FZ (lamO ⟨params,body,scope,X.env.qual++"<lambda>"⟩ cl ((X.mg "__name__").getD .none) p.2 f)) (t':=tk) kk sz (ziR (Js _ rfl))
  refine⟨.ref h'.objs.size,_,A,rfl,q _ cl l _ j v g ⟨_,p.2,f,oc,fs,t,zag,by rw[zah (zaf o1 g)];exact o1,o2,D⟩ (by rw[zah (zaf r g)];exact r) (tok.frz λb o u e=>by rw[zah (zaf e g)];exact e) λb o e _=>by rw[zah (zaf e g)];exact e⟩
end
def CellsAt (H:Hp) (cs:List (Str × Addr)) (vals:List V):Prop:=cs.length=vals.length/\∀ (i:Nat) x c v,cs[i]?=some (x,c)->vals[i]?=some v->∃ o u,H c=some (FZ o)/\o.data=.cell (some u)/\RelV v u
theorem CellsAt.fz {H:Hp}{cs:List (Str × Addr)}{vals:List V}(h:CellsAt H cs vals):CellsFz cs H:=λb hb=>by
 obtain⟨⟨x,c⟩,g,rfl⟩:=JD.mp hb
 obtain⟨i,a,e⟩:=Z2.mp g
 have f:i<vals.length:=by rw[<- h.1];exact a
 obtain⟨o,u,d,_⟩:=h.2 i x c vals[i] (by rw[J7 a,e]) (J7 f)
 exact⟨o,d⟩
theorem LamRaw.at_ {H:Hp}{f:Addr}{L:Lam}{cl cs:List (Str × Addr)}{vals ws:List V}(r:LamRaw H f L cl) (h:CellsAt H cs vals) (n1:(cl.map (·.1)).Nodup) (n2:(cl.map (·.2)).Nodup) (len:cl.length=ws.length)
  (sub:∀ (i:Nat) x c v,cl[i]?=some (x,c)->ws[i]?=some v->∃ j:Nat,cs[j]?=some (x,c)/\vals[j]?=some v):LamAt H f L cl ws:=by
 refine⟨r.ex,len,λi x c v a b=>?_,n1,n2⟩
 obtain⟨j,d,e2⟩:=sub i x c v a b
 exact h.2 j x c v d e2
def zmi (env:Env) (xs:List (Str × Nat)) (sp:Sp) (E:XK) (t:TA):TE:=λσ H Q=>t σ H λvs H1=>∃ vals:List V,vals.length=xs.length/\(∀ (j:Nat) x i v,xs[j]?=some (x,i)->vals[j]?=some v->σ[i]?=some (some v)) /\
 ∀ cs a,cs.map (·.1)=xs.map (·.1)->CellsOf env cs->(cs.map (·.2)).Nodup->CellsAt a cs vals->(∀ b,b∉cs.map (·.2)->a b=H1 b)->(∀ b∈cs.map (·.2),H1 b=none)->sp vs a (λv c=>Q v (za7 cs c)) E
section
variable {X:Cx}{pins:List (Addr × Obj)}{σ:St}{H:Hp}{s:Shared}
theorem Inv.cells {xs:List (Str × Nat)}{vals:List V}(I:Inv X pins σ H s) (nd:(xs.map (·.1)).Nodup) (t:∀ p∈xs,X.N[p.2]?=some p.1/\X.env.scope.names.lookup p.1=some .cell/\X.fn p.1=true) (l:vals.length=xs.length)
  (g:∀ (j:Nat) x i v,xs[j]?=some (x,i)->vals[j]?=some v->σ[i]?=some (some v)):∃ cs:List (Str × Addr),cs.map (·.1)=xs.map (·.1)/\CellsOf X.env cs/\(cs.map (·.2)).Nodup/\cs.length=vals.length /\
   ∀ (j:Nat) x c v,cs[j]?=some (x,c)->vals[j]?=some v->∃ o u,s.heap.get? c=some o/\o.data=.cell (some u)/\RelV v u/\X.s₀.heap.objs.size<=c:=by
 induction xs generalizing vals with
 | nil =>
  cases vals with
  | nil=>exact⟨[],rfl,λp F=>(Jw F).elim,Zd,rfl,λj x c v h=>by cases h⟩
  | cons a b=>cases l
 | cons p xs ih =>
  cases vals with
  | nil=>cases l
  | cons v0 vals =>
   rw[JZ,JR]at nd
   obtain⟨cs,y,w,M,L,K⟩:=ih (vals:=vals) nd.2 (λq d=>t q (.tail _ d)) (by simpa using l) (λj x i v a b=>g (j+1) x i v a b)
   obtain⟨x0,k⟩:=p
   obtain⟨k1,r,D⟩:=t (x0,k) (.head _)
   have E:=g 0 x0 k v0 rfl rfl
   obtain⟨m,O,lo⟩:=I.loc
   obtain⟨u,A,B⟩:=lo k x0 v0 k1 E (.inr (.inl r))
   rcases B with ⟨C,_⟩|⟨_,c,n,o,G,hd⟩
   ·have f:X.env.scope.names.lookup x0=some .local:=C
    rw[r]at f;cases f
   refine⟨(x0,c)::cs,by rw[JZ,JZ,y],λq d=>?_,?_,by rw[JL,JL,L],λj x N v a b=>?_⟩
   ·rcases Jt.mp d with rfl|z
    ·exact n
    ·exact w q z
   ·rw[JZ,JR]
    refine⟨λJ=>?_,M⟩
    obtain⟨q,d,e⟩:=JD.mp J
    have:=I.ok.inj q.1 x0 c (by rw[w q d];exact JX some e) n
    exact nd.1 (by rw[<- y,<- this];exact JD.mpr ⟨q,d,rfl⟩)
   ·cases j with
    | zero =>
     cases Jn a
     cases Jn b
     exact⟨o,u,G,hd,A,I.ok.cab x0 c D n⟩
    | succ j=>exact K j x N v a b
variable {k:Nat}{f:Addr}{fd:FuncData}{ps:List Str}{sp:Sp}{x:Str}{p pos:Pos}{e:Expr}{es:List Expr}{t:TA}{E:XK}
theorem zjL (F:FnOk X.prog X.w X.K X.mg X.base CX0 k f fd ps sp) (hr:Room k X.A) (hg:Gl X x) (hm:X.mg x=some (.ref f)) (O:PySem.W.keepIn X.K (.ref f)=true) (hb:Binds X.K fd ps []) (xs:List (Str × Nat)) (nd:(xs.map (·.1)).Nodup)
  (hk:∀ p∈xs,X.N[p.2]?=some p.1/\X.env.scope.names.lookup p.1=some .cell/\X.fn p.1=true) (ha:PA X (e::es) t) (P:(x == ("__debug__":Str))=false:=by decide) (he:starEach (e::es) X.env=(false,eval e X.env)::starEach es X.env:=by rfl) (N:(backTo pos (starEach es X.env)).any (·.1)=false:=by rfl) :
  PE X (.Call (.Name x p) (e::es) [] pos) (zmi X.env xs sp E t):=by
 intro pins s σ H Q I h
 refine Zf (ziB I hg hm ?_ P)
 refine PySem.W.callWith_K (h₀:=X.base) I.ok.mod.kin O (thn (ha pos pins s σ H _ I h) λus s1 ⟨vs,H1,l,r,vals,Y,M,q⟩=>⟨l.kIn,?_⟩) he N
 obtain⟨cs,c1,V,c3,U,T⟩:=l.cells nd hk Y M
 have cell:∀ b∈cs.map (·.2),∃ y o u,X.env.cells.lookup y=some b/\s1.heap.get? b=some o/\o.data=.cell (some u)/\X.s₀.heap.objs.size<=b:=λb hb=>by
  obtain⟨⟨y,c⟩,C,rfl⟩:=JD.mp hb
  obtain⟨j,S,ej⟩:=Z2.mp C
  have jv:j<vals.length:=by rw[<- U];exact S
  obtain⟨o,u,D,J,_,g4⟩:=T j y c vals[j] (by rw[J7 S,ej]) (J7 jv)
  exact⟨y,o,u,V (y,c) C,D,J,g4⟩
 have free:∀ b∈cs.map (·.2),H1 b=none:=λb hb=>by
  obtain⟨y,o,u,K,_⟩:=cell b hb
  exact l.freeC y b K
 have nofr:∀ b∈cs.map (·.2),b∉frs X.stack:=λb hb hf=>by
  obtain⟨y,o,u,K,_,_,lo⟩:=cell b hb
  rcases Jt.mp (l.stkSub b hf) with z|z
  ·exact l.cne y b K z
  ·obtain⟨_,o',ho,_⟩:=l.ok.funs.mem z
   exact absurd (JJ (Jr ho) lo) (YG _)
 let A:Hp:=λb=>if b∈cs.map (·.2) then (s1.heap.get? b).map FZ else H1 b
 have B:∀ {b:Addr}{o:Obj},b∈cs.map (·.2)->s1.heap.get? b=some o->A b=some (FZ o):=λ{b o} hb e=>by
  show (if b∈cs.map (·.2) then (s1.heap.get? b).map FZ else H1 b)=_
  rw[Jf hb,e];rfl
 have d:∀ b,b∉cs.map (·.2)->A b=H1 b:=λb hb=>Jb hb
 have g:∀ {b:Addr}{o:HO},H1 b=some o->A b=some o:=λ{b o} e=>by
  rw[d b λhb=>by rw[free b hb]at e;cases e];exact e
 have ca:CellsAt A cs vals:=⟨U,λi y c v a b=>by
  obtain⟨o,u,D,J,g3,_⟩:=T i y c v a b
  exact⟨o,u,B (JD.mpr ⟨_,JP a,rfl⟩) D,J,g3⟩⟩
 have L:HOk X.prog X.w A s1.heap:=λb u e2=>by
  by_cases hb:b∈cs.map (·.2)
  ·obtain⟨y,o,u',_,D,_⟩:=cell b hb
   rw[B hb D]at e2
   cases e2
   exact ziR D
  ·rw[d b hb]at e2
   exact(l.hok b u e2).stay (λ_ _ _ z=>z) (λ_ z=>g z) λ_ _ z=>g z
 have m:=l.env0
 have e2:Env0 X.prog X.w X.K X.mg X.base X.A X.stack s1 A:=⟨m.frames,m.mod,λb o z=>⟨(m.bs b o z).1,?_⟩,m.bsz,m.funs,λb hb=>?_,L,m.bare⟩
 rotate_left
 ·rw[d b λC=>?_];· exact(m.bs b o z).2
  ·obtain⟨y,o',u,_,_,_,lo⟩:=cell b C
   exact absurd (JJ (Jr z) (Y3 l.ok.bsz lo)) (YG _)
 ·rw[d b λC=>nofr b C hb];exact m.frf b hb
 have z:=q cs A c1 V c3 ca d free
 have ul:us.length=ps.length:=by rw[<- r.length];exact F.len _ _ _ _ z
 refine wpAny_call (codeAny_mono (F.run X.A X.stack s1 A ⟨us,[]⟩ us vs _ E hr e2 (by have:=hb s1 us l.kIn (by rw[Y2];exact ul);rwa [Y2]at this) r z) λrs s' G=>?_)
 cases rs with
 | error e=>exact G.elim
 | ok fl =>
  cases fl with
  | next=>exact False.elim G
  | brk=>exact False.elim G
  | cont=>exact False.elim G
  | ret u =>
   obtain⟨v,W,os,bare,un,hok,Z,qq⟩:=G
   have R:CellsFz cs W:=λb hb=>by
    obtain⟨o,w⟩:=ca.fz b hb
    exact⟨o,un.frzs b o _ w⟩
   have same:∀ b∈cs.map (·.2),∀ o,s1.heap.get? b=some o->s'.heap.get? b=some o:=λb hb o e=>by
    have:=un.frzs b o _ (B hb e)
    exact(hok b _ this).1
   refine l.after ⟨v,za7 cs W,os,bare,⟨λb o e n x y=>?_,λb o e n x y=>?_,λb o e n y=>?_,un.there,λb ys e=>?_,λb o w e=>?_,λb qs e=>?_⟩,zeO hok R,Z,qq⟩
   ·by_cases hb:b∈cs.map (·.2)
    ·exact same b hb o e
    ·exact un.keep b o e (by rw[d b hb];exact n) x y
   ·by_cases hb:b∈cs.map (·.2)
    ·exact⟨o.slots,same b hb o e⟩
    ·exact un.slot b o e (by rw[d b hb];exact n) x y
   ·by_cases hb:b∈cs.map (·.2)
    ·exact zb9 hb
    ·rw[zaF hb];exact un.free b o e (by rw[d b hb];exact n) y
   ·have hb:b∉cs.map (·.2):=λhb=>by rw[free b hb]at e;cases e
    rw[zaF hb];exact un.tups b ys (g e)
   ·have hb:b∉cs.map (·.2):=λhb=>by rw[free b hb]at e;cases e
    rw[zaF hb];exact un.frzs b o w (g e)
   ·have hb:b∉cs.map (·.2):=λhb=>by rw[free b hb]at e;cases e
    rw[zaF hb];exact un.tbls b qs (g e)
end
def lowQ (cl:List (Str × Addr)) (H:Hp) (Q:VK):VK:=λv H1=>(∀ b∈cl.map (·.2),H1 b=none)->Q v (back cl H H1)
section
variable {CX:CXT}{P:Program}{w:World}{K:PySem.W.Frag}{mg:Str->Option Value}{base:Heap}{L:Lam}{cl:List (Str × Addr)}{vals vs:List V}{ps:List Str}{f c:Addr}{A:Around}{outer:List Env}{s:Shared}{H:Hp}{us:List Value}{Q:VK}{E:XK}
theorem zki {k:Nat}(S:LamScope ps (cl.map (·.1)) L.scope) (i:Room (k+1) A) (a:Env0 P w K mg base A outer s H) (la:LamAt H f L cl vals) (r:Vals vs us) (j:vs.length=ps.length)
  (hb:∀ pm cdv ct,bindArgs (PySem.W.kla_fn "<lambda>" L.qual L.params L.body L.scope cl pm cdv ct) ⟨us,[]⟩=pure (ps.zip us))
  (d:∀ c,Room k (A.deeper (envL L cl s.heap.objs.size f c))->∃ t,PE (zl6 CX P w K mg base (ps++cl.map (·.1)) L cl f c A outer s H E) L.body t/\t ((vs++vals).map some) (za7 cl H) (lowQ cl H Q)) :
  codeAny (model P w) A (.call (.ref f) ⟨us,[]⟩) (CR CX outer P w H s Q E) s:=by
 obtain⟨pm,c,ct,oc,fs,l,h1,D,C,B⟩:=la.ex
 have lim:s.heap.NoLimit:=a.mod.nolimit.keeps λb o e=>(a.bs b o e).1
 have ul:us.length=ps.length:=by rw[<- r.length];exact j
 refine PySem.W.kla_callFunE i.depth (a.hok f _ h1).1 rfl S.co S.gen rfl ⟨c,oc,fs,l,rfl,(a.hok c _ D).1,C,B⟩ ?_
 rw[show bindArgs _ _=_ from hb pm (.ref c) ct]
 refine J9 (wpAny_newFunctionEnv S.noc (λy n=>S.par y.1 (List.of_mem_zip n).1) (λh' ns sb=>?_) S.kind)
 have kp:∀ b o,s.heap.get? b=some o->h'.get? b=some o:=λb o e=>(sb.2 b (JF (Jr e))).trans (J8 _ e)
 refine⟨lim.keeps kp,PySem.W.kla_codeExpr ?_⟩
 obtain⟨t,p,x⟩:=d c (i.deeper _)
 have I:=zlX (CX:=CX) (E:=E) (c:=c) (tk:=s.toks+(ps.zip us).length) S i.hd a la r j ns kp
 refine JT (p [] _ _ _ _ I x) (λu s' h=>?_) λe s' h=>h
 obtain⟨v,H1,J,m,q⟩:=h
 have g:=la.fz
 have low:∀ b∈cl.map (·.2),H1 b=none:=λb hb=>by
  obtain⟨o,z⟩:=g b hb
  exact J.base.free b o (a.hok b _ z).1 (zb9 hb) Jw
 obtain⟨un,ok⟩:=zk1 (H':=H1) J.base g a.frf (λb o z=>(a.hok b _ z).1) low J.hok
 exact⟨v,_,J.os,J.bare,un,ok,m,q low⟩
end
abbrev LSpc:=List V->List V->Hp->VK->XK->Prop
structure LamQ (CX:CXT) (P:Program) (w:World) (K:PySem.W.Frag) (mg:Str->Option Value) (base:Heap) (k:Nat) (L:Lam) (fr ps:List Str) (sp:LSpc):Prop where
 S:LamScope ps fr L.scope
 len:∀ vals vs H Q E,sp vals vs H Q E->vs.length=ps.length
 bind:∀ (cl:List (Str × Addr)) (us:List Value),us.length=ps.length->∀ pm cdv ct,bindArgs (PySem.W.kla_fn "<lambda>" L.qual L.params L.body L.scope cl pm cdv ct) ⟨us,[]⟩=pure (ps.zip us)
 body:∀ (cl:List (Str × Addr)) (f c:Addr) (A:Around) (outer:List Env) (s:Shared) (H:Hp) (vals vs:List V) (Q:VK) (E:XK),cl.map (·.1)=fr->Room k (A.deeper (envL L cl s.heap.objs.size f c))->CellsFz cl H->sp vals vs (za7 cl H) Q E ->
  ∃ t,PE (zl6 CX P w K mg base (ps++fr) L cl f c A outer s H E) L.body t/\t ((vs++vals).map some) (za7 cl H) Q
def zng (L:Lam) (fr:List Str) (sp:LSpc) (E:XK) (i:Nat) (t:TA):TE:=λσ H Q=>∃ f,σ[i]?=some (some (.ref f))/\(∃ cl pm c ct,H f=some (FZ (lamO L cl pm c ct)))/\t σ H λvs H1=>∃ cl vals,cl.map (·.1)=fr/\LamAt H1 f L cl vals/\sp vals vs (za7 cl H1) (lowQ cl H1 Q) E
section
variable {X:Cx}{CX:CXT}{k:Nat}{L:Lam}{fr ps:List Str}{sp:LSpc}{E:XK}{x:Str}{i:Nat}{p pos:Pos}{e:Expr}{es:List Expr}{t:TA}
theorem zlx (F:LamQ CX X.prog X.w X.K X.mg X.base k L fr ps sp) (C:Room (k+1) X.A) (J:PE X (.Name x p) (tVar i)) (A:Passes CX X E) (ha:PA X (e::es) t) (G:starEach (e::es) X.env=(false,eval e X.env)::starEach es X.env:=by rfl) (l:(backTo pos (starEach es X.env)).any (·.1)=false:=by rfl) :
  PE X (.Call (.Name x p) (e::es) [] pos) (zng L fr sp E i t):=by
 intro pins s σ H Q I h
 obtain⟨f,D,⟨S,P,c0,R,m⟩,q⟩:=h
 refine Zf (thn (J pins s σ H (λv H'=>v=.ref f/\H'=H) I ⟨_,D,rfl,rfl⟩) λg w ⟨v,O,o,y,ev,K⟩=>?_)
 subst ev K
 obtain rfl:g=.ref f:=y
 refine PySem.W.callWith_F ⟨_,_,_,_,(o.hok f _ m).1⟩ ?_ G l
 refine thn (ha pos pins w σ O _ o q) λus s1 ⟨vs,H1,b,r,cl,vals,d,la,z⟩=>?_
 obtain⟨pm,c,ct,oc,fs,T,h1,W,V,U⟩:=la.ex
 have n:=F.len _ _ _ _ _ z
 have ul:us.length=ps.length:=by rw[<- r.length];exact n
 have N:LamScope ps (cl.map (·.1)) L.scope:=by rw[d];exact F.S
 refine⟨⟨_,_,_,_,(b.hok f _ h1).1⟩,?_⟩
 refine wpAny_call (codeAny_mono (zki (CX:=CX) (E:=E) (Q:=Q) N C b.env0 la r n (F.bind cl us ul) λM j=>?_) λrs s' a=>?_)
 ·obtain⟨t',B,a⟩:=F.body cl f M X.A X.stack s1 H1 vals vs _ E d j la.fz z
  exact⟨t',by rw[d];exact B,a⟩
 ·cases rs with
  | error e=>exact A pins σ H1 s1 e s' b a
  | ok fl =>
   cases fl with
   | ret u=>exact b.after a
   | next=>exact False.elim a
   | brk=>exact False.elim a
   | cont=>exact False.elim a
end
abbrev LvL:=List (KN × List Int)
def getL (ps:LvL) (k:KN):Option (List Int):=(ps.find? λx=>decide (x.1=k)).map (·.2)
def putL (ps:LvL) (k:KN) (c:List Int):LvL:=if (getL ps k).isSome then ps.map λx=>if x.1=k then (x.1,c) else x else ps++[(k,c)]
def oneM (c:List Int) (m:Nat):List Int:=Bn.zaU c m 1
structure LAcc where
 on:LvL
 fl:List (List Int)
section
variable (step:KN->Nat->Option KN)(seen:LvL)
def go1 (s:KN) (c:List Int) (a:LAcc) (m:Nat):LAcc :=
 match step s m with
 | none=>⟨a.on,a.fl++[oneM c m]⟩
 | some t=>if (getL seen t).isSome then a else ⟨putL a.on t (minR (oneM c m) ((getL a.on t).getD (oneM c m))),a.fl⟩
def goS (moves:List Nat) (a:LAcc) (p:KN × List Int):LAcc:=moves.foldl (go1 step seen p.1 p.2) a
def zbm (moves:List Nat) (level:LvL):LAcc:=level.foldl (goS step seen moves) ⟨[],[]⟩
end
inductive LRes
 | opn
 | brk (c:List Int)
 | whl (ls:List LvL)
def zbe (step:KN->Nat->Option KN) (moves:List Nat) (most:Nat):Nat->LvL->LvL->List LvL->LRes
 | 0,_,_,_=>.opn
 | n+1,level,seen,ls =>
  if level=[] then .whl ls else
  if most<seen.length+level.length then .opn else
  if (zbm step (seen++level) moves level).fl≠[] then .brk (minL (zbm step (seen++level) moves level).fl) else
  zbe step moves most n (zbm step (seen++level) moves level).on (seen++level) (ls++[level])
def LvX (H:Hp) (x:KN × Addr × V) (p:KN × List Int):Prop:=x.1=p.1/\∃ c,x.2.2=.ref c/\H c=some (.tup (p.2.map V.int))
structure LvE (H:Hp) (xs:KVN) (ps:LvL):Prop where
 ks:KsIn H xs
 pr:Paired (LvX H) xs ps
theorem zc9 {α β:Type}{F G:α->β->Prop}(h:∀ a b,F a b->G a b) {l1:List α}{l2:List β}(p:Paired F l1 l2):Paired G l1 l2:=by
 induction p with
 | nil=>exact .nil
 | cons a _ ih=>exact .cons (h _ _ a) ih
theorem LvX.tups {H H':Hp}(t:∀ b ys,H b=some (.tup ys)->H' b=some (.tup ys)) {x:KN × Addr × V}{p:KN × List Int}(h:LvX H x p):LvX H' x p:=by
 obtain⟨e,c,e2,a⟩:=h
 exact⟨e,c,e2,t _ _ a⟩
theorem LvE.tups {H H':Hp}(t:∀ b ys,H b=some (.tup ys)->H' b=some (.tup ys)) {xs:KVN}{ps:LvL}(h:LvE H xs ps):LvE H' xs ps:=⟨h.ks.tups t,zc9 (λ_ _ z=>z.tups t) h.pr⟩
theorem LvE.keep {H H':Hp}(s:Same H H') {xs:KVN}{ps:LvL}(h:LvE H xs ps):LvE H' xs ps:=h.tups λb ys e=>s _ _ e
theorem LvE.nil {H:Hp}:LvE H [] []:=⟨λx a=>(nomatch a),.nil⟩
theorem LvE.len {H:Hp}{xs:KVN}{ps:LvL}(h:LvE H xs ps):xs.length=ps.length:=YR h.pr
theorem zkR {H:Hp}{xs:KVN}{ps:LvL}(h:Paired (LvX H) xs ps) (k:KN):(valN xs k=none/\getL ps k=none)\/∃ c r,valN xs k=some (.ref c)/\getL ps k=some r/\H c=some (.tup (r.map V.int)):=by
 induction h with
 | nil=>exact Or.inl (And.intro rfl rfl)
 | @cons x p xs ps a t ih =>
  obtain⟨e,c,e2,b⟩:=a
  unfold valN getL at ih ⊢
  rw[YK,YK,e]
  by_cases z:p.1=k
  ·rw[JE z]
   exact .inr ⟨c,p.2,JX some e2,rfl,b⟩
  ·rw[Jv z]
   exact ih
theorem zeK {H:Hp}{xs:KVN}{ps:LvL}(h:Paired (LvX H) xs ps) (k:KN):(valN xs k).isSome=(getL ps k).isSome:=by
 rcases zkR h k with ⟨a,b⟩|⟨c,r,a,b,_⟩<;>rw[a,b]<;>rfl
theorem zmO {H:Hp}{xs:KVN}{ps:LvL}(h:Paired (LvX H) xs ps) (k:KN) {c:Addr}{r:List Int}(b:H c=some (.tup (r.map V.int))):Paired (LvX H) (xs.map λx=>if x.1=k then (x.1,x.2.1,.ref c) else x) (ps.map λx=>if x.1=k then (x.1,r) else x):=by
 induction h with
 | nil=>exact .nil
 | @cons x p xs ps a t ih =>
  refine .cons ?_ ih
  dsimp only
  by_cases z:p.1=k
  ·rw[Jf (a.1.trans z),Jf z];exact⟨a.1,c,rfl,b⟩
  ·rw[Jb (λy=>z (a.1.symm.trans y)),Jb z];exact a
theorem LvE.put {H:Hp}{xs:KVN}{ps:LvL}(h:LvE H xs ps) {k:KN}{b c:Addr}{r:List Int}(f:NKey H k b) (d:H c=some (.tup (r.map V.int))):LvE H (putN xs k b (.ref c)) (putL ps k r):=by
 unfold putN putL
 rw[zeK h.pr k]
 by_cases z:(getL ps k).isSome=true
 ·rw[Jf z,Jf z]
  refine⟨λx a=>?_,zmO h.pr k d⟩
  obtain⟨y,e,rfl⟩:=JD.mp a
  have:=h.ks y e
  split<;>exact this
 ·rw[Jb z,Jb z]
  refine⟨λx a=>?_,Paired.snoc h.pr ⟨rfl,c,rfl,d⟩⟩
  rcases JB.mp a with y|y
  ·exact h.ks x y
  ·rw[Je.mp y];exact f
theorem zgV {α β:Type}{F:α->β->Prop}{a1:List α}{b1:List β}(p:Paired F a1 b1) {a2:List α}{b2:List β}(q:Paired F a2 b2):Paired F (a1++a2) (b1++b2):=by
 induction p with
 | nil=>exact q
 | cons a _ ih=>exact .cons a ih
theorem LvE.app {H:Hp}{xs ys:KVN}{ps a:LvL}(h:LvE H xs ps) (g:LvE H ys a):LvE H (xs++ys) (ps++a):=⟨λx b=>by
 rcases JB.mp b with y|y
 ·exact h.ks x y
 ·exact g.ks x y,zgV h.pr g.pr⟩
theorem LvE.at_ {H:Hp}{xs:KVN}{ps:LvL}(h:LvE H xs ps) {i:Nat}{p:KN × Addr × V}(e:xs[i]?=some p):∃ r c,ps[i]?=some (p.1,r)/\NKey H p.1 p.2.1/\p.2.2=.ref c/\H c=some (.tup (r.map V.int)):=by
 have key:∀ {xs:KVN}{ps:LvL},Paired (LvX H) xs ps->∀ {i:Nat}{p:KN × Addr × V},xs[i]?=some p->∃ q,ps[i]?=some q/\LvX H p q:=by
  intro xs ps r
  induction r with
  | nil=>intro i p h;cases h
  | cons q t ih =>
   intro i p h
   cases i with
   | zero=>cases Jn h;exact⟨_,rfl,q⟩
   | succ i=>exact ih h
 obtain⟨q,e2,d,c,b,a⟩:=key h.pr e
 refine⟨q.2,c,?_,h.ks p (JP e),b,a⟩
 rw[e2,d]
theorem zeP {ps:LvL}{k:KN}:getL ps k=none↔∀ p∈ps,p.1≠k:=by
 unfold getL
 rw[Option.map_eq_none_iff,List.find?_eq_none]
 constructor
 ·intro h p a e;exact h p a (JE e)
 ·intro h p a e;exact h p a (Z3 e)
theorem zbr {ps:LvL}{k:KN}{r:List Int}(h:getL ps k=some r):(k,r)∈ps:=by
 unfold getL at h
 obtain⟨p,a,e⟩:=Yh.mp h
 have h1:=List.mem_of_find?_eq_some a
 have b:=List.find?_some (p:=λx:KN × List Int=>decide (x.1=k)) a
 have c:=Z3 b
 rw[<- c,<- e];exact h1
theorem zbR {ps:LvL}{k:KN}(h:(getL ps k).isSome=true):∃ r,(k,r)∈ps:=by
 obtain⟨r,e⟩:=ZD.mp h
 exact⟨r,zbr e⟩
theorem zbX {ps:LvL}{k:KN}{r:List Int}(h:(k,r)∈ps):(getL ps k).isSome=true:=by
 cases e:getL ps k with
 | some r=>rfl
 | none=>exact absurd rfl (zeP.mp e _ h)
theorem zbJ (a b:LvL) (k:KN):(getL (a++b) k).isSome=((getL a k).isSome || (getL b k).isSome):=by
 rw[Ys,Wb]
 constructor
 ·intro h
  obtain⟨r,c⟩:=zbR h
  rcases JB.mp c with y|y
  ·exact .inl (zbX y)
  ·exact .inr (zbX y)
 ·rintro (h|h)
  ·obtain⟨r,c⟩:=zbR h;exact zbX (Yp _ c)
  ·obtain⟨r,c⟩:=zbR h;exact zbX (Jz _ c)
def LvNd (ps:LvL):Prop:=(ps.map (·.1)).Nodup
theorem zhU (ps:LvL) (k:KN) (r:List Int):(putL ps k r).map (·.1)=if (getL ps k).isSome then ps.map (·.1) else ps.map (·.1)++[k]:=by
 unfold putL
 split
 ·rw[Zv]
  refine We λx a=>?_
  show (if x.1=k then (x.1,r) else x).1=x.1
  split<;>rfl
 ·rw[JY];rfl
theorem LvNd.put {ps:LvL}(h:LvNd ps) (k:KN) (r:List Int):LvNd (putL ps k r):=by
 unfold LvNd
 rw[zhU]
 split
 ·exact h
 ·rename_i z
  refine List.nodup_append.mpr ⟨h,JR.mpr ⟨Jw,Zd⟩,λa ha b hb e=>?_⟩
  rw[Je.mp hb]at e
  obtain⟨p,c,rfl⟩:=JD.mp ha
  exact z (zbX (k:=k) (r:=p.2) (by rw[<- e];exact c))
theorem zdW {ps:LvL}{k:KN}{r:List Int}{p:KN × List Int}(h:p∈putL ps k r):p∈ps\/p=(k,r):=by
 unfold putL at h
 split at h
 ·obtain⟨x,a,rfl⟩:=JD.mp h
  by_cases z:x.1=k
  ·rw[Jf z,z];exact .inr rfl
  ·rw[Jb z];exact .inl a
 ·rcases JB.mp h with y|y
  ·exact .inl y
  ·exact .inr (Je.mp y)
theorem zjE (ps:LvL) (k:KN) (r:List Int):(putL ps k r).length<=ps.length+1:=by
 unfold putL
 split
 ·rw[Jq];lia
 ·rw[Jd];exact Jg _
theorem zeI:∀ (ys xs:KVN),(ys.map (·.1)).Nodup->(∀ y∈ys,∀ x∈xs,x.1≠y.1)->zcP xs ys=xs++ys
 | [],xs,_,_=>by rw[Y2];rfl
 | y::ys,xs,nd,ds=>by
  rw[JZ,JR]at nd
  have e:putN xs y.1 y.2.1 y.2.2=xs++[y]:=by
   unfold putN
   have:valN xs y.1=none:=by
    unfold valN
    rw[Option.map_eq_none_iff,List.find?_eq_none]
    exact λx a z=>ds y (.head _) x a (Z3 z)
   rw[this];rfl
  show List.foldl _ (putN xs y.1 y.2.1 y.2.2) ys=_
  rw[e]
  have:=zeI ys (xs++[y]) nd.2 λz b x a=>by
   rcases JB.mp a with q|q
   ·exact ds z (.tail _ b) x q
   ·rw[Je.mp q]
    exact λe=>nd.1 (JD.mpr ⟨z,b,e.symm⟩)
  rw[show List.foldl (λacc y=>putN acc y.1 y.2.1 y.2.2) (xs++[y]) ys=zcP (xs++[y]) ys from rfl,this,JU];rfl
theorem zfz {H:Hp}{xs:KVN}{ps:LvL}(h:Paired (LvX H) xs ps):xs.map (·.1)=ps.map (·.1):=by
 induction h with
 | nil=>rfl
 | cons a _ ih=>rw[JZ,JZ,ih,a.1]
theorem LvE.merge {H:Hp}{xs ys:KVN}{ps a:LvL}(h:LvE H xs ps) (g:LvE H ys a) (nd:LvNd a) (ds:∀ q∈a,getL ps q.1=none):zcP xs ys=xs++ys:=by
 refine zeI ys xs (by rw[zfz g.pr];exact nd) λy d x f e=>?_
 have c:y.1∈a.map (·.1):=by rw[<- zfz g.pr];exact JD.mpr ⟨y,d,rfl⟩
 obtain⟨q,i,eq⟩:=JD.mp c
 have b:x.1∈ps.map (·.1):=by rw[<- zfz h.pr];exact JD.mpr ⟨x,f,rfl⟩
 obtain⟨p,j,ep⟩:=JD.mp b
 exact zeP.mp (ds q i) p j (ep.trans (e.trans eq.symm))
end L2
namespace L2
open PySem PySem.Spec PyProof.Rows Own Bn
theorem Room.u3 {k:Nat}{A:Around}(r:Room k A):A.units+3<cLine:=by have:=r.un;lia
def RowsAt (H:Hp) (as:List Addr) (rs:List (List Int)):Prop:=Paired (λa r=>H a=some (.tup (r.map V.int))) as rs
theorem RowsAt.tups {H H':Hp}(t:Tups H H') {as:List Addr}{rs:List (List Int)}(h:RowsAt H as rs):RowsAt H' as rs:=zc9 (λ_ _ e=>t _ _ e) h
structure AccOk (n m:Nat) (a:LAcc):Prop where
 on:∀ p∈a.on,p.2.length=n
 fl:∀ r∈a.fl,r.length=n
 few:a.on.length+a.fl.length<=m
theorem zcg (c:List Int) (m:Nat):(oneM c m).length=c.length:=by unfold oneM zaU;rw[YZ]
theorem zfu (x y:List Int):minR x y=x\/minR x y=y:=by unfold minR;split<;>simp
theorem AccOk.go {step:KN->Nat->Option KN}{seen:LvL}{s:KN}{c:List Int}{a:LAcc}{n m k:Nat}(h:AccOk n m a) (i:c.length=n):AccOk n (m+1) (go1 step seen s c a k):=by
 have b:(oneM c k).length=n:=by rw[zcg,i]
 have l:=h.few
 unfold go1
 split
 ·refine⟨h.on,λr d=>?_,by show a.on.length+(a.fl++[oneM c k]).length<=_;rw[Jd];show _+(_+1)<=_;lia⟩
  rcases JB.mp d with z|z
  ·exact h.fl r z
  ·rw[Je.mp z];exact b
 ·rename_i t j
  split
  ·exact⟨h.on,h.fl,by lia⟩
  ·refine⟨λp f=>?_,h.fl,by have:=zjE a.on t (minR (oneM c k) ((getL a.on t).getD (oneM c k)));show (putL a.on t _).length+a.fl.length<=_;lia⟩
   rcases zdW f with z|z
   ·exact h.on p z
   ·rw[z]
    show (minR _ _).length=n
    rcases zfu (oneM c k) ((getL a.on t).getD (oneM c k)) with e|e
    ·rw[e];exact b
    ·rw[e]
     cases g:getL a.on t with
     | none=>exact b
     | some r=>exact h.on _ (zbr g)
theorem AccOk.row {step:KN->Nat->Option KN}{seen:LvL}{s:KN}{c:List Int}{n:Nat}(b:c.length=n):∀ (moves:List Nat) {a:LAcc}{m:Nat},AccOk n m a->AccOk n (m+moves.length) (moves.foldl (go1 step seen s c) a)
 | [],a,m,h=>h
 | k::r,a,m,h=>by
  have:=AccOk.row (step:=step) (seen:=seen) (s:=s) (c:=c) b r (h.go (step:=step) (seen:=seen) (s:=s) (k:=k) b)
  rw[JL,show m+(r.length+1)=m+1+r.length by lia]
  exact this
theorem AccOk.lev {step:KN->Nat->Option KN}{seen:LvL}{n:Nat}{moves:List Nat}:∀ (level:LvL) {a:LAcc}{m:Nat},(∀ p∈level,p.2.length=n)->AccOk n m a->AccOk n (m+level.length*moves.length) (level.foldl (goS step seen moves) a)
 | [],a,m,_,h=>by rw[ZH,Nat.zero_mul];exact h
 | p::r,a,m,b,h=>by
  have:=AccOk.lev (step:=step) (seen:=seen) (moves:=moves) r (λq c=>b q (.tail _ c)) (AccOk.row (step:=step) (seen:=seen) (s:=p.1) (b p (.head _)) moves h)
  rw[JL,Nat.add_mul,Nat.one_mul,show m+(r.length*moves.length+moves.length)=m+moves.length+r.length*moves.length by lia]
  exact this
def Led (lsp:LSpc) (vals:List V) (step:KN->Nat->Option KN) (Ok:KN->Prop) (moves:List Nat) (H:Hp):Prop :=
 ∀ (H1:Hp) (s:KN) (b:Addr) (m:Nat) (Q:VK),Tups H H1->Ok s->m∈moves->NKey H1 s b->(∀ a,Same H1 a->step s m=none->Q .non a)->(∀ a c t,Same H1 a->step s m=some t->NKey a t c->Q (.ref c) a)->lsp vals [.ref b,.int (m:Nat)] H1 Q E0
theorem Led.tups {lsp:LSpc}{vals:List V}{step:KN->Nat->Option KN}{Ok:KN->Prop}{moves:List Nat}{H H':Hp}(h:Led lsp vals step Ok moves H) (t:Tups H H'):Led lsp vals step Ok moves H':=λH1 s b m Q t1=>h H1 s b m Q (t.trans t1)
theorem zdu {H:Hp}{cl:List (Str × Addr)}(fz:CellsFz cl H):Tups H (za7 cl H):=λa xs e=>by
 rw[zaF]
 ·exact e
 ·intro b
  obtain⟨o,q⟩:=fz a b
  rw[e]at q;cases q
theorem zev {H a:Hp}{cl:List (Str × Addr)}(s:Same (za7 cl H) a):Same H (back cl H a):=λb o e=>by
 by_cases c:b∈cl.map (·.2)
 ·rw[zfT c];exact e
 ·rw[zbu c];exact s b o (by rw[zaF c];exact e)
theorem zhq {H a:Hp}{cl:List (Str × Addr)}(low:∀ b∈cl.map (·.2),a b=none):Tups a (back cl H a):=λb xs e=>by
 rw[zbu]
 ·exact e
 ·intro c
  rw[low b c]at e;cases e
def MvAt (K:PySem.W.Frag) (H:Hp) (a:Addr) (xs:List V):Prop:=H a=some (.tup xs)\/∀ H',SqT K H' a xs
theorem MvAt.tups {K:PySem.W.Frag}{H H':Hp}(t:Tups H H') {a:Addr}{xs:List V}(h:MvAt K H a xs):MvAt K H' a xs:=h.imp (t _ _) id
theorem MvAt.sq {K:PySem.W.Frag}{H:Hp}{a:Addr}{xs:List V}(h:MvAt K H a xs):SqT K H a xs:=h.elim SqT.of λz=>z H
structure Way (K:PySem.W.Frag) (H:Hp) (mv f:Addr) (L:Lam) (fr:List Str) (lsp:LSpc) (cl:List (Str × Addr)) (vals:List V) (step:KN->Nat->Option KN) (Ok:KN->Prop) (moves:List Nat) (n:Nat):Prop where
 mv:MvAt K H mv (moves.map λm=>V.int (m:Nat))
 fr:cl.map (·.1)=fr
 la:LamAt H f L cl vals
 ld:Led lsp vals step Ok moves H
 lt:∀ m∈moves,m<n
 ok:∀ s m t,Ok s->m∈moves->step s m=some t->Ok t
 n1:n<=1000
theorem Way.keep {K:PySem.W.Frag}{H H':Hp}{mv f:Addr}{L:Lam}{fr:List Str}{lsp:LSpc}{cl:List (Str × Addr)}{vals:List V}{step:KN->Nat->Option KN}{Ok:KN->Prop}{moves:List Nat}{n:Nat}(h:Way K H mv f L fr lsp cl vals step Ok moves n) (t:Tups H H') (z:∀ b o u,H b=some (.frz o u)->H' b=some (.frz o u)):Way K H' mv f L fr lsp cl vals step Ok moves n :=
 ⟨h.mv.tups t,h.fr,h.la.frz z,h.ld.tups t,h.lt,h.ok,h.n1⟩
def zhx (P:Program) (w:World) (K:PySem.W.Frag) (L:Lam) (fr:List Str) (lsp:LSpc):Sp:=λvs H Q _=>∃ dl ds mv f xs ys level seen moves cl vals step Ok n,vs=[.ref dl,.ref ds,.ref mv,.ref f]/\H dl=some (DN P w dl xs)/\LvE H xs level/\H ds=some (DN P w ds ys)/\LvE H ys seen/\dl≠ds /\
 Way K H mv f L fr lsp cl vals step Ok moves n/\(∀ p∈level,Ok p.1/\p.2.length=n)/\level.length*moves.length<=10000000 /\
 ∀ p o l zs fs H',Same H H'->H o=none->H' p=some (.tup [.ref o,.ref l])->H' o=some (DN P w o zs)->LvE H' zs (zbm step seen moves level).on->H' l=some (.lst (fs.map V.ref))->RowsAt H' fs (zbm step seen moves level).fl->Q (.ref p) H'
end L2
namespace K35
open PySem L2 Own Bn
abbrev sNxl:Stmt:=top 11
theorem ziS {d:Addr}{H H':Hp}{P:Program}{w:World}{xs:KVN}(b:But d H H') (hd:H d=some (DN P w d xs)):∀ c o u,H c=some (.frz o u)->H' c=some (.frz o u):=λc o u e=>b c _ e λz=>by
 rw[z,hd]at e;cases e
theorem zbV {d:Addr}{H H':Hp}{P:Program}{w:World}{xs:KVN}(b:But d H H') (hd:H d=some (DN P w d xs)):Tups H H':=λc ys e=>b c _ e λz=>by
 rw[z,hd]at e;cases e
theorem zfw {a b:List Int}(h:a.map V.int=b.map V.int):a=b:=(List.map_inj_right λx y (e:V.int x=V.int y)=>by injection e).mp h
section
variable {P:Program}{w:World}{K:PySem.W.Frag}{mg:Str->Option Value}{base:Heap}
theorem scNx:FnScope ["level","seen","moves","led","onward","faults","state","counts","move","there","more"] ["level","seen","moves","led"] (zam sNxl):=by trivial
theorem zlA {f fA:Addr}{fd dA:FuncData}{L:Lam}{fr aK:List Str}{lsp:LSpc}(F:Fun K "next_level" "next_level" sNxl f fd) (G:Mgs mg) (UA:Use P w K mg base "added" ["counts","place","many"] 2 zfh fA dA) (LQ:LamQ CX0 P w K mg base 4 L fr aK lsp):FnOk P w K mg base CX0 6 f fd ["level","seen","moves","led"] (zhx P w K L fr lsp):=by
 refine F.ok scNx (λvs H Q E h=>?_) (λcdv A outer s H vs Q E hr h=>?_)
 ·obtain⟨dl,ds,mv,f,xs,ys,level,seen,moves,cl,vals,step,Ok,n,rfl,_⟩:=h
  rfl
 obtain⟨dl,ds,mv,f,xs,ys,level,seen,moves,cl,vals,step,Ok,n,rfl,D,lvl,aC,am,aG,W,aL,few,k⟩:=h
 refine⟨_,(@zae _ _ _ _ _ (@zaw _ _ 4 _ _ _ _ scNx.nd rfl (.inl rfl) zh2 (by rfl) (by trivial)) (@zae _ _ _ _ _ (@zaw _ _ 5 _ _ _ _ scNx.nd rfl (.inl rfl) (@zaI _ _ _ _ zac) (by rfl) (by trivial)) (@zae _ _ _ _ _ (zjF (@zbN _ _ _ _ _ _ _ _ Yt rfl (zhY (@qv _ 0 _ _ (by trivial))) (@zaT _ _ _ _ _ _ rfl (@zak _ _ _ _ _ (@zal _ _ 6 _ scNx.nd rfl (.inl rfl) (by trivial)) (@zak _ _ _ _ _ (@zal _ _ 7 _ scNx.nd rfl (.inl rfl) (by trivial)) zaG (by rfl)) (by rfl)) (by rfl) (by rfl)) (@zai _ _ _ (@zbN _ _ _ _ _ _ _ _ Yt rfl (@zc6 _ _ _ _ (@qv _ 2 _ _ (by trivial))) (@zal _ _ 8 _ scNx.nd rfl (.inl rfl) (by trivial)) (@zae _ _ _ _ _ (@zaw _ _ 9 _ _ _ _ scNx.nd rfl (.inl rfl) (zlx LQ hr (@qv _ 3 _ _ (by trivial)) zax (@zaa _ _ _ _ _ (@qv _ 6 _ _ (by trivial)) (@zaa _ _ _ _ _ (@qv _ 8 _ _ (by trivial)) zac (by rfl)) (by rfl))) (by rfl) (by trivial)) (@zae _ _ _ _ _ (@zbj _ _ _ _ _ _ _ _ (@zaE _ _ _ _ _ _ _ _ (zmC hr.u3) (@qv _ 9 _ _ (by trivial)) (@qv _ 1 _ _ (by trivial)) (by rfl)) (@zai _ _ _ zfn) zaM) (@zae _ _ _ _ _ (@zaw _ _ 10 _ _ _ _ scNx.nd rfl (.inl rfl) (@zaj _ _ _ _ _ _ _ _ _ _ _ _ _ _ _ _ UA.ok (hr.mono (by decide)) (by rfl) UA.m UA.kp UA.b .nil zax (@zaa _ _ _ _ _ (@qv _ 7 _ _ (by trivial)) (@zaa _ _ _ _ _ (@qv _ 8 _ _ (by trivial)) (@zaa _ _ _ _ _ zad zac (by rfl)) (by rfl)) (by rfl)) (by decide) (by rfl) (by rfl)) (by rfl) (by trivial)) (@zai _ _ _ (@zbj _ _ _ _ _ _ _ _ (@zaE _ _ _ _ _ _ _ _ zmB (@qv _ 9 _ _ (by trivial)) zh1 (by rfl)) (@zai _ _ _ (@zbH _ _ _ _ (@zdZ _ _ _ _ _ _ _ _ _ _ _ _ Yw Z7 Z8 zbd (@qv _ 5 _ _ (by trivial)) (@zaa _ _ _ _ _ (@qv _ 10 _ _ (by trivial)) zac (by rfl)) (by rfl) (by rfl) (by rfl) (by rfl) (by rfl)) (by rfl))) (@zai _ _ _ (zlr hr.u3 (@qv _ 4 _ _ (by trivial)) (@qv _ 9 _ _ (by trivial)) (@zay _ _ _ _ _ _ _ _ _ (zhd rfl hr.units) (by rfl) G.min (by rfl) (@zaa _ _ _ _ _ (@qv _ 10 _ _ (by trivial)) (@zaa _ _ _ _ _ (zjK hr.u3 (@qv _ 4 _ _ (by trivial)) (@qv _ 9 _ _ (by trivial)) (@qv _ 10 _ _ (by trivial)) ⟨rfl,rfl,rfl,rfl⟩) zac (by rfl)) (by rfl)) (by decide) (by decide) (by rfl) (by rfl)) (by rfl)))))))) (by intro _;rfl))) (by intro _;rfl))) (@zai _ _ _ (@zav _ _ _ _ (@zaz _ _ _ _ _ (@zaa _ _ _ _ _ (@qv _ 4 _ _ (by trivial)) (@zaa _ _ _ _ _ (@qv _ 5 _ _ (by trivial)) zac (by rfl)) (by rfl)))))))),?_⟩
 refine λo ho=>⟨by show 0<=sizeLine;decide,λl hl=>?_⟩
 have s1:=zab ho (DN P w o [])
 have s2:=zab (show L2.upd H o (DN P w o []) l=none from hl) (.lst [])
 have u2:=s1.trans s2
 have ol:o≠l:=λz=>by
  have aj:L2.upd H o (DN P w o []) l=none:=hl
  rw[<- z,zag]at aj;cases aj
 have aB:H l=none:=by
  have aj:L2.upd H o (DN P w o []) l=none:=hl
  rwa [zah ol.symm]at aj
 have aw:dl≠o:=zaf D ho
 have ax:dl≠l:=zaf D aB
 have aP:L2.upd (L2.upd H o (DN P w o [])) l (.lst []) o=some (DN P w o []):=by rw[zah ol];exact zag
 have aQ:L2.upd (L2.upd H o (DN P w o [])) l (.lst []) l=some (.lst []):=zag
 refine⟨_,rfl,dl,xs,rfl,u2 _ _ D,λob=>?_⟩
 let C:Nat->LAcc:=λi=>(level.take i).foldl (goS step seen moves) ⟨[],[]⟩
 have ll:xs.length=level.length:=lvl.len
 refine zhc (P:=P) (w:=w) (d:=dl) (o:=ob) (xs:=xs) (λi σ Y=>(∃ v6 v7 v8 v9 v10,σ=[some (.ref dl),some (.ref ds),some (.ref mv),some (.ref f),some (.ref o),some (.ref l),v6,v7,v8,v9,v10])/\But dl H Y/\Y dl=some (.frz ob (DN P w dl xs))/\∃ zs fs,Y o=some (DN P w o zs)/\LvE Y zs (C i).on/\Y l=some (.lst (fs.map V.ref))/\RowsAt Y fs (C i).fl/\AccOk n (i*moves.length) (C i)) ?_ (λi σ Y _ q=>q.2.2.1) ?_ ?_
 ·refine⟨⟨_,_,_,_,_,rfl⟩,λb u e ne=>?_,zag,[],[],?_,LvE.nil,?_,.nil,⟨λp hp=>(nomatch hp),λr hr=>(nomatch hr),by show 0+0<=_;lia⟩⟩
  ·rw[zah ne];exact u2 b u e
  ·rw[zah aw.symm];exact aP
  ·rw[zah ax.symm];exact aQ
 ·rintro i p σ Y T hp hT ⟨⟨v6,v7,v8,v9,v10,rfl⟩,bt,ak,zs,fs,ap,ah,ar,rws,aH⟩
  have il:i<level.length:=by rw[<- ll];exact(Jc.mp hp).1
  obtain⟨r,c,ep,kb,ec,hc⟩:=(lvl.tups (zbV bt D)).at_ hp
  have pin:(p.1,r)∈level:=JP ep
  obtain⟨aI,rl⟩:=aL _ pin
  rw[ec]
  have sT:=zab hT (.tup [.ref p.2.1,.ref c])
  refine⟨T,_,rfl,SqT.of zag,rfl,_,_,rfl,_,_,rfl,rfl,?_⟩
  have W2:=W.keep (zbV bt D) (ziS bt D)
  refine⟨_,rfl,mv,rfl,⟨_,(W2.mv.tups (Tups.of sT)).sq⟩,?_⟩
  have aJ:C (i+1)=goS step seen moves (C i) (p.1,r):=by
   show List.foldl _ _ (level.take (i+1))=_
   rw[<- YF il,Zm,show level[i]=(p.1,r) from (Jc.mp ep).2];rfl
  generalize hA:C i=a0 at *
  let B:Nat->LAcc:=λj=>(moves.take j).foldl (go1 step seen p.1 r) a0
  have fin:B moves.length=C (i+1):=by rw[aJ];show List.foldl _ _ (moves.take moves.length)=_;rw[YA];rfl
  have ml:(moves.map λm=>V.int (m:Nat)).length=moves.length:=Jq _
  refine zfI (K:=K) (a:=mv) (xs:=moves.map λm=>V.int (m:Nat)) (λj σ H3=>(∃ v8 v9 v10,σ=[some (.ref dl),some (.ref ds),some (.ref mv),some (.ref f),some (.ref o),some (.ref l),some (.ref p.2.1),some (.ref c),v8,v9,v10])/\But dl H H3/\H3 dl=some (.frz ob (DN P w dl xs))/\∃ zs fs,H3 o=some (DN P w o zs)/\LvE H3 zs (B j).on/\H3 l=some (.lst (fs.map V.ref))/\RowsAt H3 fs (B j).fl/\AccOk n (i*moves.length+j) (B j)) ?_ (λj σ H3 _ q=>(W.mv.tups (zbV q.2.1 D)).sq) ?_ ?_
  ·exact⟨⟨_,_,_,rfl⟩,bt.trans (But.of sT),sT _ _ ak,zs,fs,sT _ _ ap,ah.keep sT,sT _ _ ar,rws.tups (Tups.of sT),aH⟩
  ·rintro j x σ H3 hx ⟨⟨v8,v9,v10,rfl⟩,aa,af,N,X,ad,Z,ae,U,I⟩
   rw[JK]at hx
   obtain⟨m,em,rfl⟩:=Yh.mp hx
   have jl:j<moves.length:=(Jc.mp em).1
   have mm:m∈moves:=JP em
   have ag:B (j+1)=go1 step seen p.1 r (B j) m:=by
    show List.foldl _ _ (moves.take (j+1))=_
    rw[<- YF jl,Zm,show moves[j]=m from (Jc.mp em).2];rfl
   have R:=I.go (step:=step) (seen:=seen) (s:=p.1) (k:=m) rl
   rw[<- ag]at R
   have t3:=zbV aa D
   have W3:=W.keep t3 (ziS aa D)
   obtain⟨pm,cc,ct,oc,fz,tk,aO,_⟩:=W3.la.ex
   have aM:=lvl.tups t3
   obtain⟨S,c',aE,aN,aF,aD⟩:=aM.at_ hp
   have er:S=r:=by rw[ep]at aE;cases aE;rfl
   have aR:c'=c:=by rw[ec]at aF;cases aF;rfl
   subst er aR
   have tS:=t3.trans (zdu W3.la.fz)
   have aS:(B j).on.length+(B j).fl.length<=10000000:=by
    have:=I.few
    have:(i+1)*moves.length<=level.length*moves.length:=Nat.mul_le_mul_right _ il
    rw[Nat.add_mul,Nat.one_mul]at this
    lia
   refine⟨f,rfl,⟨_,_,_,_,aO⟩,_,rfl,_,rfl,cl,vals,W3.fr,W3.la,W.ld _ _ _ m _ tS aI mm (aN.tups (zdu W3.la.fz)) (λH4 s4 e4 low=>?_) λH4 b4 t s4 e4 k4 low=>?_⟩
   ·-- elsewhere
    have J:=zev s4
    generalize back cl H3 H4=H5 at J ⊢
    have O:=aa.trans (But.of (l:=dl) J)
    have ao:=am.tups (zbV O D)
    have au:H5 ds=some (DN P w ds ys):=O _ _ aC aG.symm
    have av:=J _ _ aD
    have e1:B (j+1)=⟨(B j).on,(B j).fl++[oneM S m]⟩:=by rw[ag];unfold go1;rw[e4]
    refine⟨_,rfl,_,rfl,ds,ys,rfl,⟨.inl au,ao.ks⟩,.inr ⟨rfl,false,rfl,iteF ?_⟩⟩
    refine⟨_,rfl,_,rfl,c',S,m,1,rfl,av,by rw[rl];exact W.lt m mm,by rw[rl];exact W.n1,λq H6 M h6=>?_⟩
    have aq:=M _ _ (J _ _ ae)
    refine⟨_,rfl,rfl,true,JX V.bl (JE rfl),iteT ?_⟩
    refine⟨_,rfl,.inl ⟨rfl,_,SqL.of aq⟩,_,rfl,l,_,_,rfl,rfl,aq,?_,?_⟩
    ·rw[Jq,YR U,JC];lia
    have lq:∀ {b:Addr}{u:HO},H6 b=some u->b≠l->L2.upd H6 l (.lst (X.map V.ref++[.ref q])) b=some u:=λe ne=>by rw[zah ne];exact e
    have tq:Tups H6 (L2.upd H6 l (.lst (X.map V.ref++[.ref q]))):=λb xs e=>lq e (zcD e aq (λz=>by cases z))
    have ay:=O.trans (But.of (l:=dl) M)
    refine⟨⟨_,_,_,rfl⟩,λb u e ne=>lq (ay b u e ne) (zaf e aB),lq (M _ _ (J _ _ af)) ax,N,X++[q],lq (M _ _ (J _ _ ad)) ol,?_,?_,?_,R⟩
    ·rw[e1];exact((Z.keep J).keep M).tups tq
    ·rw[JY];exact zag
    ·rw[e1];exact Paired.snoc ((U.tups (Tups.of J)).tups ((Tups.of M).trans tq)) (tq _ _ h6)
   ·have J:=zev s4
    have k5:=k4.tups (zhq (H:=H3) low)
    generalize back cl H3 H4=H5 at J k5 ⊢
    have O:=aa.trans (But.of (l:=dl) J)
    have ao:=am.tups (zbV O D)
    have au:H5 ds=some (DN P w ds ys):=O _ _ aC aG.symm
    have av:=J _ _ aD
    refine⟨_,rfl,_,rfl,ds,ys,rfl,⟨.inl au,ao.ks⟩,.inl ⟨b4,t,rfl,k5,_,rfl,?_⟩⟩
    rw[zeK am.pr t]
    by_cases sn:(getL seen t).isSome=true
    ·have e1:B (j+1)=B j:=by rw[ag];unfold go1;rw[e4];exact Jf sn
     rw[sn]
     refine iteT ?_
     rw[e1]
     rw[e1]at R
     exact⟨⟨_,_,_,rfl⟩,O,J _ _ af,N,X,J _ _ ad,Z.keep J,J _ _ ae,U.tups (Tups.of J),R⟩
    ·have e1:B (j+1)=⟨putL (B j).on t (minR (oneM S m) ((getL (B j).on t).getD (oneM S m))),(B j).fl⟩:=by rw[ag];unfold go1;rw[e4];exact Jb sn
     rw[show (getL seen t).isSome=false by simpa using sn]
     refine iteF ?_
     refine⟨_,rfl,_,rfl,c',S,m,1,rfl,av,by rw[rl];exact W.lt m mm,by rw[rl];exact W.n1,λq H6 M h6=>?_⟩
     have ai:=M _ _ (J _ _ ad)
     have ab:=(Z.keep J).keep M
     have k6:=k5.tups (Tups.of M)
     have ay:=O.trans (But.of (l:=dl) M)
     refine⟨_,rfl,rfl,false,JX V.bl (Jv (λz=>by cases z)),iteF ?_⟩
     refine⟨_,rfl,_,rfl,o,rfl,⟨_,.inl ai⟩,_,rfl,_,rfl,b4,N,t,rfl,⟨.inl ai,ab.ks⟩,k6,?_⟩
     have le:∃ g s,(valN N t).getD (.ref q)=.ref g/\(getL (B j).on t).getD (oneM S m)=s/\H6 g=some (.tup (s.map V.int))/\s.length=n:=by
      rcases zkR ab.pr t with ⟨a1,a2⟩|⟨g,s,a1,a2,a3⟩
      ·exact⟨q,oneM S m,by rw[a1];rfl,by rw[a2];rfl,h6,by rw[zcg];exact rl⟩
      ·exact⟨g,s,by rw[a1];rfl,by rw[a2];rfl,a3,I.on _ (zbr a2)⟩
     obtain⟨g,sr,g1,g2,g3,g4⟩:=le
     rw[g1]
     rw[g2]at e1
     have aA:(oneM S m).length=n:=by rw[zcg];exact rl
     have g6:H6 q=some (.tup ((oneM S m).map V.int)):=h6
     let rowOf:V->List Int:=λv=>if v=.ref q then oneM S m else sr
     have rq:rowOf (.ref q)=oneM S m:=Jf rfl
     have rg:H6 g=some (.tup ((rowOf (.ref g)).map V.int))/\(rowOf (.ref g)).length=n/\rowOf (.ref g)=sr:=by
      by_cases z:g=q
      ·subst z
       have es:sr=oneM S m:=by
        have:=g6.symm.trans g3
        injection this with this
        injection this with this
        exact(zfw this).symm
       rw[rq];exact⟨g6,aA,es.symm⟩
      ·rw[show rowOf (.ref g)=sr from Jb (λy=>z (by cases y;rfl))];exact⟨g3,g4,rfl⟩
     refine⟨_,_,1,λu v=>cmpR (rowOf u) (rowOf v),rfl,by decide,?_,?_⟩
     ·have two:∀ u∈[V.ref q,V.ref g],∃ a,u=.ref a/\H6 a=some (.tup ((rowOf u).map V.int))/\(rowOf u).length=n:=λu hu=>by
       rcases Jt.mp hu with rfl|hu
       ·exact⟨q,rfl,by rw[rq];exact g6,by rw[rq];exact aA⟩
       ·rw[Je.mp hu];exact⟨g,rfl,rg.1,rg.2.1⟩
      intro u hu v hv
      obtain⟨a,rfl,a2,a3⟩:=two u hu
      obtain⟨b,rfl,b2,b3⟩:=two v hv
      exact zfy a2 b2 (by rw[a3,b3])
     have pk:∃ h,zb4 (λu v=>cmpR (rowOf u) (rowOf v)) (.ref q) (.ref g)=.ref h/\H6 h=some (.tup ((minR (oneM S m) sr).map V.int)):=by
      unfold zb4 minR
      have ee:cmpR (rowOf (.ref g)) (rowOf (.ref q))=cmpR sr (oneM S m):=by rw[rq,rg.2.2]
      by_cases z:cmpR sr (oneM S m)=.lt
      ·rw[Jf (ee.trans z),Jf z];exact⟨g,rfl,g3⟩
      ·rw[Jb (λy=>z (ee.symm.trans y)),Jb z];exact⟨q,rfl,g6⟩
     obtain⟨h,p1,p2⟩:=pk
     rw[p1]
     refine⟨_,rfl,_,rfl,o,b4,N,t,rfl,rfl,ai,ab.ks,k6,?_,?_⟩
     ·rw[ab.len,JC];lia
     have tq:Tups H6 (L2.upd H6 o (DN P w o (putN N t b4 (.ref h)))):=λb xs e=>by rw[zah (zcD e ai (λz=>by cases z))];exact e
     refine⟨⟨_,_,_,rfl⟩,λb u e ne=>?_,?_,_,X,zag,?_,?_,?_,R⟩
     ·rw[zah (zaf e ho)];exact ay b u e ne
     ·rw[zah aw];exact M _ _ (J _ _ af)
     ·rw[e1];exact(ab.put k6 p2).tups tq
     ·rw[zah ol.symm];exact M _ _ (J _ _ ae)
     ·rw[e1];exact(U.tups (Tups.of J)).tups ((Tups.of M).trans tq)
  ·rintro σ H3 ⟨⟨v8,v9,v10,rfl⟩,aa,af,N,X,ad,Z,ae,U,I⟩
   have az:B (moves.map λm=>V.int (m:Nat)).length=C (i+1):=by rw[ml];exact fin
   rw[az]at Z U I
   refine⟨⟨_,_,_,_,_,rfl⟩,aa,af,N,X,ad,Z,ae,U,?_⟩
   rw[ml]at I
   rw[Nat.add_mul,Nat.one_mul];exact I
 ·rintro σ Y ⟨⟨v6,v7,v8,v9,v10,rfl⟩,bt,ak,zs,fs,ap,ah,ar,rws,aH⟩
  have e:C xs.length=zbm step seen moves level:=by show List.foldl _ _ (level.take xs.length)=_;rw[ll,YA];rfl
  rw[e]at ah rws
  refine⟨dl,ob,xs,xs,u2 _ _ D,ak,?_⟩
  have sm:Same H (L2.upd Y dl (DN P w dl xs)):=λb u e=>by
   by_cases z:b=dl
   ·rw[z]at e ⊢;rw[D]at e;rw[<- e];exact zag
   ·rw[zah z];exact bt b u e z
  have tz:Tups Y (L2.upd Y dl (DN P w dl xs)):=λb ys e=>by rw[zah (zcD e ak (λz=>by cases z))];exact e
  refine⟨_,rfl,_,rfl,by show 2<=sizeLine;decide,λq hq=>?_⟩
  have M:=zab (show L2.upd Y dl (DN P w dl xs) q=none from hq) (.tup [.ref o,.ref l])
  refine k q o l zs fs _ (sm.trans M) ho zag (M _ _ ?_) ((ah.tups tz).keep M) (M _ _ ?_) ((rws.tups tz).tups (Tups.of M))
  ·rw[zah aw.symm];exact ap
  ·rw[zah ax.symm];exact ar
end
end K35
namespace L2
open PySem PySem.Spec PyProof.Rows Own Bn
def zhb:V->Int
 | .int i=>i
 | _=>0
def rowH (H:Hp):V->List Int
 | .ref a=>match H a with
  | some (.tup xs)=>xs.map zhb
  | _=>[]
 | _=>[]
theorem zc4 {H:Hp}{a:Addr}{r:List Int}(h:H a=some (.tup (r.map V.int))):rowH H (.ref a)=r:=by
 show (match H a with
  | some (.tup xs)=>xs.map zhb
  | _=>[])=r
 rw[h]
 show (r.map V.int).map zhb=r
 rw[Zv]
 exact List.map_id r
def cmpH (H:Hp):V->V->Ordering:=λu v=>cmpR (rowH H u) (rowH H v)
theorem zkB {H:Hp}:∀ {fs:List Addr}{rs:List (List Int)}{a:Addr}{r:List Int},RowsAt H fs rs->H a=some (.tup (r.map V.int))->∃ h,(fs.map V.ref).foldl (zb4 (cmpH H)) (.ref a)=.ref h/\H h=some (.tup ((rs.foldl minR r).map V.int)):=by
 intro fs rs a r h
 induction h generalizing a r with
 | nil=>intro ha;exact⟨a,rfl,ha⟩
 | @cons b q fs rs hb _ ih =>
  intro ha
  show ∃ h,(fs.map V.ref).foldl (zb4 (cmpH H)) (zb4 (cmpH H) (.ref a) (.ref b))=.ref h/\H h=some (.tup ((rs.foldl minR (minR r q)).map V.int))
  have e:cmpH H (.ref b) (.ref a)=cmpR q r:=by unfold cmpH;rw[zc4 ha,zc4 hb]
  unfold zb4 minR
  by_cases z:cmpR q r=.lt
  ·rw[Jf (e.trans z),Jf z];exact ih hb
  ·rw[Jb (λy=>z (e.symm.trans y)),Jb z];exact ih ha
theorem zkC {H:Hp}{fs:List Addr}{rs:List (List Int)}(h:RowsAt H fs rs) (ne:rs≠[]):∃ g,zbU (cmpH H) (fs.map V.ref)=.ref g/\H g=some (.tup ((minL rs).map V.int)):=by
 cases h with
 | nil=>exact absurd rfl ne
 | cons a t=>exact zkB t a
theorem zlo {H:Hp}{n:Nat}{fs:List Addr}{rs:List (List Int)}(h:RowsAt H fs rs) (d:∀ r∈rs,r.length=n):∀ x∈fs.map V.ref,∀ y∈fs.map V.ref,Lx H 1 x y (cmpH H x y):=by
 have at_:∀ {fs:List Addr}{rs:List (List Int)},RowsAt H fs rs->∀ a∈fs,∃ r∈rs,H a=some (.tup (r.map V.int)):=by
  intro fs rs h
  induction h with
  | nil=>intro a ha;cases ha
  | cons p _ ih =>
   intro a ha
   rcases Jt.mp ha with rfl|z
   ·exact⟨_,.head _,p⟩
   ·obtain⟨r,c,e⟩:=ih a z
    exact⟨r,.tail _ c,e⟩
 intro x i y g
 obtain⟨a,ha,rfl⟩:=JD.mp i
 obtain⟨b,bm,rfl⟩:=JD.mp g
 obtain⟨r,c,f⟩:=at_ h a ha
 obtain⟨q,j,e2⟩:=at_ h b bm
 unfold cmpH
 rw[zc4 f,zc4 e2]
 exact zfy f e2 (by rw[d r c,d q j])
structure NewOk (seen:LvL) (Ok:KN->Prop) (a:LAcc):Prop where
 nd:LvNd a.on
 new:∀ p∈a.on,getL seen p.1=none
 ok:∀ p∈a.on,Ok p.1
section
variable {step:KN->Nat->Option KN}{seen:LvL}{Ok:KN->Prop}{moves:List Nat}
theorem NewOk.go {s:KN}{c:List Int}{a:LAcc}{k:Nat}(h:NewOk seen Ok a) (f:∀ t,step s k=some t->Ok t):NewOk seen Ok (go1 step seen s c a k):=by
 unfold go1
 split
 ·exact⟨h.nd,h.new,h.ok⟩
 ·rename_i t d
  split
  ·exact h
  ·rename_i z
   refine⟨h.nd.put _ _,λp b=>?_,λp b=>?_⟩
   ·rcases zdW b with y|y
    ·exact h.new p y
    ·rw[y]
     cases e:getL seen t with
     | none=>rfl
     | some r=>rw[e]at z;exact absurd rfl z
   ·rcases zdW b with y|y
    ·exact h.ok p y
    ·rw[y];exact f t d
theorem NewOk.row {s:KN}{c:List Int}:∀ (ms:List Nat) {a:LAcc},NewOk seen Ok a->(∀ m∈ms,∀ t,step s m=some t->Ok t)->NewOk seen Ok (ms.foldl (go1 step seen s c) a)
 | [],a,h,_=>h
 | k::r,a,h,q=>NewOk.row r (h.go (q k (.head _))) λm b=>q m (.tail _ b)
theorem NewOk.lev:∀ (level:LvL) {a:LAcc},NewOk seen Ok a->(∀ p∈level,∀ m∈moves,∀ t,step p.1 m=some t->Ok t)->NewOk seen Ok (level.foldl (goS step seen moves) a)
 | [],a,h,_=>h
 | p::r,a,h,q=>NewOk.lev r (NewOk.row moves h (q p (.head _))) λm b=>q m (.tail _ b)
theorem zd2 (level:LvL) (q:∀ p∈level,∀ m∈moves,∀ t,step p.1 m=some t->Ok t):NewOk seen Ok (zbm step seen moves level) :=
 NewOk.lev level ⟨Zd,λp a=>(nomatch a),λp a=>(nomatch a)⟩ q
theorem zgn {n:Nat}(level:LvL) (h:∀ p∈level,p.2.length=n):AccOk n (level.length*moves.length) (zbm step seen moves level):=by
 have:=AccOk.lev (step:=step) (seen:=seen) (moves:=moves) level (a:=⟨[],[]⟩) (m:=0) h ⟨λp b=>(nomatch b),λp b=>(nomatch b),Jg _⟩
 rwa [Yu]at this
end
section
variable {step:KN->Nat->Option KN}{moves:List Nat}{most m:Nat}{level seen:LvL}{ls:List LvL}
theorem zdo:zbe step moves most (m+1) [] seen ls=.whl ls:=Jf rfl
theorem zdp (ne:level≠[]) (h:most<seen.length+level.length):zbe step moves most (m+1) level seen ls=.opn:=by
 unfold zbe
 rw[Jb ne,Jf h]
theorem zdq (ne:level≠[]) (h:¬ most<seen.length+level.length) (f:(zbm step (seen++level) moves level).fl≠[]):zbe step moves most (m+1) level seen ls=.brk (minL (zbm step (seen++level) moves level).fl):=by
 unfold zbe
 rw[Jb ne,Jb h,Jf f]
theorem zeg (ne:level≠[]) (h:¬ most<seen.length+level.length) (f:(zbm step (seen++level) moves level).fl=[]):zbe step moves most (m+1) level seen ls=zbe step moves most m (zbm step (seen++level) moves level).on (seen++level) (ls++[level]):=by
 rw[zbe,Jb ne,Jb h,Jb (not_not_intro f)]
end
def LvsAt (P:Program) (w:World) (H:Hp) (as:List Addr) (ls:List LvL):Prop:=Paired (λa lv=>∃ xs,H a=some (DN P w a xs)/\LvE H xs lv) as ls
theorem LvsAt.but {P:Program}{w:World}{H H':Hp}{as:List Addr}{ls:List LvL}(h:LvsAt P w H as ls) (t:Tups H H') (k:∀ a∈as,∀ o,H a=some o->H' a=some o):LvsAt P w H' as ls:=by
 induction h with
 | nil=>exact .nil
 | @cons a lv as ls q _ ih =>
  obtain⟨xs,e,le⟩:=q
  exact .cons ⟨xs,k a (.head _) _ e,le.tups t⟩ (ih λb hb=>k b (.tail _ hb))
theorem LvsAt.keep {P:Program}{w:World}{H H':Hp}{as:List Addr}{ls:List LvL}(h:LvsAt P w H as ls) (s:Same H H'):LvsAt P w H' as ls:=h.but (Tups.of s) λa _ o e=>s a o e
def TellR (P:Program) (w:World) (H:Hp) (p:Addr):LRes->Prop
 | .opn=>H p=some (.tup [.str "open",.non])
 | .brk c=>∃ b,H p=some (.tup [.str "breaks",.ref b])/\H b=some (.tup (c.map V.int))
 | .whl ls=>∃ l as,H p=some (.tup [.str "whole",.ref l])/\H l=some (.lst (as.map V.ref))/\LvsAt P w H as ls
def zfg (P:Program) (w:World) (K:PySem.W.Frag) (L:Lam) (fr:List Str) (lsp:LSpc):Sp:=λvs H Q _=>∃ a c0 mv f k0 c moves cl vals step Ok n,∃ most:Nat,vs=[.ref a,.ref c0,.ref mv,.ref f,.int (most:Nat)]/\NKey H k0 a/\H c0=some (.tup (List.map V.int c))/\c.length=n/\Ok k0/\Way K H mv f L fr lsp cl vals step Ok moves n/\most<=500000/\moves.length<=16/\0<most /\
 ∀ p H',Same H H'->TellR P w H' p (zbe step moves most (most+1) [(k0,c)] [] [])->Q (.ref p) H'
end L2
namespace K35
open PySem L2 Own Bn
abbrev sClm:Stmt:=top 10
theorem zik {H H':Hp}{x:Addr}(s:Same H H') (h:H' x=none):H x=none:=by
 cases e:H x with
 | none=>rfl
 | some o=>rw[s _ _ e]at h;cases h
theorem zmN {P:Program}{w:World}{H:Hp}{as:List Addr}{ls:List LvL}{a:Addr}{ys:List V}(h:LvsAt P w H as ls) (e:H a=some (.lst ys)):a∉as:=by
 induction h with
 | nil=>exact Jw
 | cons q _ ih =>
  intro z
  rcases Jt.mp z with rfl|y
  ·obtain⟨xs,e2,_⟩:=q
   rw[e]at e2;cases e2
  ·exact ih y
section
variable {P:Program}{w:World}{K:PySem.W.Frag}{mg:Str->Option Value}{base:Heap}
theorem scCl:FnScope ["first","counts","moves","led","most","level","levels","seen","faults"] ["first","counts","moves","led","most"] (zam sClm):=by trivial
theorem zgX {f fN:Addr}{fd dN:FuncData}{L:Lam}{fr:List Str}{lsp:LSpc}(F:Fun K "climbed" "climbed" sClm f fd) (G:Mgs mg) (UN:Use P w K mg base "next_level" ["level","seen","moves","led"] 6 (zhx P w K L fr lsp) fN dN):FnOk P w K mg base CX0 7 f fd ["first","counts","moves","led","most"] (zfg P w K L fr lsp):=by
 refine F.ok scCl (λvs H Q E h=>?_) (λcdv A outer s H vs Q E hr h=>?_)
 ·obtain⟨N,c0,mv,f,k0,c,moves,cl,vals,step,Ok,n,most,rfl,_⟩:=h
  rfl
 obtain⟨N,c0,mv,f,k0,c,moves,cl,vals,step,Ok,n,most,rfl,ao,aF,cn,ax,W,mb,ay,mp,k⟩:=h
 refine⟨_,(@zae _ _ _ _ _ (@zaw _ _ 5 _ _ _ _ scCl.nd rfl (.inl rfl) (zjJ hr.u3 (@qv _ 0 _ _ (by trivial)) (@qv _ 1 _ _ (by trivial))) (by rfl) (by trivial)) (@zae _ _ _ _ _ (@zaw _ _ 6 _ _ _ _ scCl.nd rfl (.inl rfl) (@zaI _ _ _ _ zac) (by rfl) (by trivial)) (@zae _ _ _ _ _ (@zaw _ _ 7 _ _ _ _ scCl.nd rfl (.inl rfl) zh2 (by rfl) (by trivial)) (@zae _ _ _ _ _ (@zf9 _ _ _ _ _ _ Yt (pt_n (@qv _ 5 _ _ (by trivial)) (λ_=>rfl)) (@zae _ _ _ _ _ (@zbH _ _ _ _ (zlw hr.u3 (@qv _ 7 _ _ (by trivial)) (@qv _ 5 _ _ (by trivial)) ⟨rfl,rfl,rfl,rfl⟩) (by rfl)) (@zae _ _ _ _ _ (@zbj _ _ _ _ _ _ _ _ (@zaE _ _ _ _ _ _ _ _ zjO (@zay _ _ _ _ _ _ _ _ _ zjc (by rfl) G.len Yn (@zaa _ _ _ _ _ (@qv _ 7 _ _ (by trivial)) zac (by rfl)) (by decide) (by decide) (by rfl) (by rfl)) (@qv _ 4 _ _ (by trivial)) (zaQ _)) (@zai _ _ _ (@zav _ _ _ _ (@zaz _ _ _ _ _ (@zaa _ _ _ _ _ zc8 (@zaa _ _ _ _ _ zh1 zac (by rfl)) (by rfl))))) zaM) (@zae _ _ _ _ _ (@zbH _ _ _ _ (@zdZ _ _ _ _ _ _ _ _ _ _ _ _ Yw Z7 Z8 zbd (@qv _ 6 _ _ (by trivial)) (@zaa _ _ _ _ _ (@qv _ 5 _ _ (by trivial)) zac (by rfl)) (by rfl) (by rfl) (by rfl) (by rfl) (by rfl)) (by rfl)) (@zae _ _ _ _ _ (@zaX _ _ _ _ _ _ (@zaj _ _ _ _ _ _ _ _ _ _ _ _ _ _ _ _ UN.ok hr (by rfl) UN.m UN.kp UN.b .nil zax (@zaa _ _ _ _ _ (@qv _ 5 _ _ (by trivial)) (@zaa _ _ _ _ _ (@qv _ 7 _ _ (by trivial)) (@zaa _ _ _ _ _ (@qv _ 2 _ _ (by trivial)) (@zaa _ _ _ _ _ (@qv _ 3 _ _ (by trivial)) zac (by rfl)) (by rfl)) (by rfl)) (by rfl)) (by decide) (by rfl) (by rfl)) (@zaT _ _ _ _ _ _ rfl (@zak _ _ _ _ _ (@zal _ _ 5 _ scCl.nd rfl (.inl rfl) (by trivial)) (@zak _ _ _ _ _ (@zal _ _ 8 _ scCl.nd rfl (.inl rfl) (by trivial)) zaG (by rfl)) (by rfl)) (by rfl) (by rfl)) (by rfl) (by rfl) (by rfl)) (@zai _ _ _ (@zbj _ _ _ _ _ _ _ _ (@zf8 _ _ _ (@qv _ 8 _ _ (by trivial)) (λ_=>rfl)) (@zai _ _ _ (@zav _ _ _ _ (@zaz _ _ _ _ _ (@zaa _ _ _ _ _ zc8 (@zaa _ _ _ _ _ (@zay _ _ _ _ _ _ _ _ _ (zjd rfl true hr.units) (by rfl) G.min (by rfl) (@zaa _ _ _ _ _ (@qv _ 8 _ _ (by trivial)) zac (by rfl)) (by decide) (by decide) (by rfl) (by rfl)) zac (by rfl)) (by rfl))))) zaM))))))) (@zai _ _ _ (@zav _ _ _ _ (@zaz _ _ _ _ _ (@zaa _ _ _ _ _ zc8 (@zaa _ _ _ _ _ (@qv _ 6 _ _ (by trivial)) zac (by rfl)) (by rfl))))))))),?_⟩
 refine λdl af=>⟨_,rfl,_,rfl,N,k0,rfl,zag,ao.tups (Tups.of (zab af _)),?_⟩
 refine⟨by show 0<=sizeLine;decide,λd I=>λds r=>?_⟩
 have sA:Same H (L2.upd (L2.upd H dl (DN P w dl [])) dl (DN P w dl [(k0,N,.ref c0)])):=λb u e=>by
  rw[zah (zaf e af),zah (zaf e af)];exact e
 have ag:L2.upd (L2.upd H dl (DN P w dl [])) dl (DN P w dl [(k0,N,.ref c0)]) dl=some (DN P w dl [(k0,N,.ref c0)]):=zag
 replace I:L2.upd (L2.upd H dl (DN P w dl [])) dl (DN P w dl [(k0,N,.ref c0)]) d=none:=I
 replace r:L2.upd (L2.upd (L2.upd H dl (DN P w dl [])) dl (DN P w dl [(k0,N,.ref c0)])) d (.lst []) ds=none:=r
 show tSeq _ _ _ _ (L2.upd (L2.upd (L2.upd (L2.upd H dl (DN P w dl [])) dl (DN P w dl [(k0,N,.ref c0)])) d (.lst [])) ds (DN P w ds []))
 generalize L2.upd (L2.upd H dl (DN P w dl [])) dl (DN P w dl [(k0,N,.ref c0)])=HA at *
 have sB:=zab I (.lst [])
 have sC:=zab r (DN P w ds [])
 have ad:L2.upd HA d (.lst []) d=some (.lst []):=zag
 have aq:=sC _ _ ad
 have ar:=sC _ _ (sB _ _ ag)
 have ap:L2.upd (L2.upd HA d (.lst [])) ds (DN P w ds []) ds=some (DN P w ds []):=zag
 have aC:d≠ds:=zaf ad r
 have av:dl≠ds:=zaf (sB _ _ ag) r
 have aB:H d=none:=zik sA I
 have aG:H ds=none:=zik (sA.trans sB) r
 have sX:Same H (L2.upd (L2.upd HA d (.lst [])) ds (DN P w ds [])):=(sA.trans sB).trans sC
 generalize L2.upd (L2.upd HA d (.lst [])) ds (DN P w ds [])=HX at *
 clear sA sB sC ad I r ag
 refine⟨λm σ i=>∃ dl xs ys level seen as ls v8,σ=[some (.ref N),some (.ref c0),some (.ref mv),some (.ref f),some (.int (most:Nat)),some (.ref dl),some (.ref d),some (.ref ds),v8]/\Same H i/\i dl=some (DN P w dl xs)/\LvE i xs level/\i ds=some (DN P w ds ys)/\LvE i ys seen/\dl≠ds/\i d=some (.lst (as.map V.ref))/\LvsAt P w i as ls/\ds∉as /\
  as.length<=seen.length/\LvNd level/\(∀ p∈level,getL seen p.1=none)/\(∀ p∈level,Ok p.1/\p.2.length=n)/\seen.length<=most/\(seen≠[]\/level.length=1)/\level.length<=16*most+1/\most+1<=m+seen.length/\zbe step moves most (most+1) [(k0,c)] [] []=zbe step moves most m level seen ls,⟨most+1,?_⟩,?_⟩
 ·exact⟨dl,_,[],[(k0,c)],[],[],[],_,rfl,sX,ar,⟨λx hx=>by rw[Je.mp hx];exact ao.tups (Tups.of sX),.cons ⟨rfl,c0,rfl,sX _ _ aF⟩ .nil⟩,ap,LvE.nil,av,aq,.nil,Jw,Jg _,JR.mpr ⟨Jw,Zd⟩,λp j=>rfl,λp j=>by rw[Je.mp j];exact⟨ax,cn⟩,JN _,.inr rfl,by show 1<=_;lia,Jg _,rfl⟩
 clear aq ar ap sX aC av
 rintro m σ i ⟨dl,xs,ys,level,seen,as,ls,v8,rfl,s2,T,v,D,C,U,S,M,aw,aJ,nd,new,Z,sm,one,aI,em,ec⟩
 have e0:(!xs.isEmpty) = !level.isEmpty:=by
  have:=v.len
  cases xs<;>cases level<;>first|rfl|cases this
 refine⟨_,rfl,dl,xs,rfl,.inl T,?_⟩
 rw[e0]
 obtain⟨m,rfl⟩:∃ m',m=m'+1:=⟨m-1,by lia⟩
 by_cases le:level=[]
 ·rw[le]
  refine iteF ?_
  refine⟨_,rfl,by show 2<=sizeLine;decide,λp j=>?_⟩
  have X:=zab j (.tup [.str "whole",.ref d])
  refine k p _ (s2.trans X) ?_
  rw[ec,le,zdo]
  exact⟨d,as,zag,X _ _ S,M.keep X⟩
 rw[show (!level.isEmpty)=true by cases level;exact absurd rfl le;rfl]
 refine iteT ⟨_,λaH H' hN=>⟨m,Nat.lt_succ_self _,hN⟩,?_⟩
 have l2:=v.len
 have l3:=C.len
 refine⟨_,rfl,ds,rfl,⟨_,.inl D⟩,_,rfl,dl,ys,xs,rfl,U.symm,D,C.ks,⟨.inl T,v.ks⟩,by rw[JC];lia,?_,?_⟩
 ·rcases one with z|z
  ·exact .inl λy=>z (by rw[y]at l3;exact List.length_eq_zero_iff.mp l3.symm)
  ·exact .inr (by rw[l2];exact z)
 rw[C.merge v nd new]
 have am:d≠ds:=zcD S D λz=>by cases z
 have ab:L2.upd i ds (DN P w ds (ys++xs)) ds=some (DN P w ds (ys++xs)):=zag
 have t3:Tups i (L2.upd i ds (DN P w ds (ys++xs))):=λb zs e=>by rw[zah (zcD e D λz=>by cases z)];exact e
 have ah:L2.upd i ds (DN P w ds (ys++xs)) dl=some (DN P w dl xs):=by rw[zah U];exact T
 have B:L2.upd i ds (DN P w ds (ys++xs)) d=some (.lst (as.map V.ref)):=by rw[zah am];exact S
 have X:Same H (L2.upd i ds (DN P w ds (ys++xs))):=λb u e=>by rw[zah (zaf e aG)];exact s2 b u e
 have J:LvsAt P w (L2.upd i ds (DN P w ds (ys++xs))) as ls:=M.but t3 λa ha o e=>by rw[zah (λ(z:a=ds)=>aw (z ▸ ha))];exact e
 have R:=v.tups t3
 have ak:=(C.tups t3).app R
 show tSeq _ _ _ _ (L2.upd i ds (DN P w ds (ys++xs)))
 generalize L2.upd i ds (DN P w ds (ys++xs))=O at *
 clear D S T M v C t3 s2
 have yl:(ys++xs).length=seen.length+level.length:=by rw[Jd];lia
 refine⟨_,rfl,ds,_,rfl,.inl ab,_,rfl,_,_,rfl,rfl,_,rfl,ite2 (λz=>?_) (λz=>?_)⟩
 ·have z1:most<seen.length+level.length:=by
   have:=Z3 z
   rw[yl]at this;lia
  refine⟨by show 2<=sizeLine;decide,λp j=>?_⟩
  have s4:=zab j (.tup [.str "open",.non])
  refine k p _ (X.trans s4) ?_
  rw[ec,zdp le z1]
  exact zag
 have z1:¬ most<seen.length+level.length:=λy=>z (JE (by rw[yl];lia))
 have lp:0<level.length:=List.length_pos_iff.mpr le
 refine⟨_,rfl,.inl ⟨rfl,_,SqL.of B⟩,_,rfl,d,_,_,rfl,rfl,B,by rw[Jq,JC];lia,?_⟩
 have aE:L2.upd O d (.lst (as.map V.ref++[.ref dl])) d=some (.lst ((as++[dl]).map V.ref)):=by rw[JY];exact zag
 have q4:∀ {b:Addr}{u:HO},O b=some u->b≠d->L2.upd O d (.lst (as.map V.ref++[.ref dl])) b=some u:=λe ne=>by rw[zah ne];exact e
 have t4:Tups O (L2.upd O d (.lst (as.map V.ref++[.ref dl]))):=λb zs e=>q4 e (zcD e B λz=>by cases z)
 have au:=q4 ah (zcD ah B λz=>by cases z)
 have aa:=q4 ab am.symm
 have s4:Same H (L2.upd O d (.lst (as.map V.ref++[.ref dl]))):=λb u e=>q4 (X b u e) (zaf e aB)
 have ai:LvsAt P w (L2.upd O d (.lst (as.map V.ref++[.ref dl]))) (as++[dl]) (ls++[level]):=Paired.snoc (J.but t4 λa ha o e=>by
  by_cases y:a=d
  ·exact absurd (y ▸ ha) (zmN J B)
  ·exact q4 e y) ⟨xs,au,R.tups t4⟩
 have az:=R.tups t4
 have aj:=ak.tups t4
 show tSeq _ _ _ _ (L2.upd O d (.lst (as.map V.ref++[.ref dl])))
 generalize L2.upd O d (.lst (as.map V.ref++[.ref dl]))=H4 at *
 clear ab B ah J R ak t4 X q4
 have W4:=W.keep (Tups.of s4) λb o u e=>s4 b _ e
 have nw:=zd2 (step:=step) (seen:=seen++level) (moves:=moves) (Ok:=Ok) level λp j m hm t e=>W.ok _ _ _ (Z p j).1 hm e
 have na:=zgn (step:=step) (seen:=seen++level) (moves:=moves) (n:=n) level λp j=>(Z p j).2
 have few:level.length*moves.length<=level.length*16:=Nat.mul_le_mul_left _ ay
 refine⟨_,rfl,_,rfl,_,rfl,_,rfl,dl,ds,mv,f,xs,ys++xs,level,seen++level,moves,cl,vals,step,Ok,n,rfl,au,az,aa,aj,U,W4,Z,by lia,λp o l zs fs H5 s5 ho j aD aA ae Y=>?_⟩
 refine⟨p,_,rfl,SqT.of j,rfl,_,_,rfl,_,_,rfl,rfl,?_⟩
 have fl:=YR Y
 by_cases fe:(zbm step (seen++level) moves level).fl=[]
 ·have f0:fs=[]:=by rw[fe]at fl;exact List.length_eq_zero_iff.mp fl
  refine⟨_,rfl,false,.inl ⟨_,SqL.of ae,by rw[f0];rfl⟩,iteF ?_⟩
  refine⟨o,zs,ys++xs,_,seen++level,as++[dl],ls++[level],_,rfl,s4.trans s5,aD,aA,s5 _ _ aa,aj.keep s5,λz=>?_,s5 _ _ aE,ai.keep s5,?_,?_,nw.nd,nw.new,λp j=>⟨nw.ok p j,na.on p j⟩,by rw[Jd];lia,.inl ?_,?_,by rw[Jd];lia,?_⟩
  ·rw[z,aa]at ho;cases ho
  ·intro z
   rcases JB.mp z with y|y
   ·exact aw y
   ·exact U (Je.mp y).symm
  ·rw[Jd,Jd];show as.length+1<=_;lia
  ·intro y
   have:=JX List.length y
   rw[Jd,ZH]at this
   lia
  ·have:=na.few;lia
  ·rw[ec,zeg le z1 fe]
 ·have fp:0<(fs.map V.ref).length:=by
   rw[Jq,fl];exact List.length_pos_iff.mpr fe
  refine⟨_,rfl,true,.inl ⟨_,SqL.of ae,?_⟩,iteT ?_⟩
  ·cases fs with
   | nil=>exact absurd fp (by simp)
   | cons a b=>rfl
  obtain⟨g,g1,g2⟩:=zkC Y fe
  refine⟨_,rfl,l,_,1,cmpH H5,rfl,SqL.of ae,fp,by decide,zlo Y na.fl,?_⟩
  rw[g1]
  refine⟨by show 2<=sizeLine;decide,λq hq=>?_⟩
  have s6:=zab hq (.tup [.str "breaks",.ref g])
  refine k q _ ((s4.trans s5).trans s6) ?_
  rw[ec,zdq le z1 fe]
  exact⟨g,zag,s6 _ _ g2⟩
end
end K35
namespace L2
open PySem PySem.Spec PyProof.Rows
abbrev e2 (elt tg iter tg1 iter1:Expr) (ifs:List Expr) (scope:Scope) (pos:Pos):Expr:=.ListComp elt [⟨tg,iter,[],0⟩,⟨tg1,iter1,ifs,0⟩] scope pos
theorem zhn (elt tg iter tg1 iter1:Expr) (ifs:List Expr) (scope:Scope) (pos:Pos) (it acc:Value) (env:Env) :
  compTurn (e2 elt tg iter tg1 iter1 ifs scope pos) 0 it acc env=(standAt iter.pos >>= λ_=>pyNext it >>= λr=>match r with
   | none=>pure (.done .next)
   | some v=>letOwnedTupleGo tg it v >>= λ_=>assign tg env v >>= λ_ =>
    (eval iter1 env >>= λx=>standAt iter1.pos >>= λ_=>foldedSetIterable iter1 env x >>= λx=>holding [x] (pyIter x) >>= λi1=>runOwn (.compStart (e2 elt tg iter tg1 iter1 ifs scope pos) 1 i1 acc env) env >>= λ_ =>
     again (.compLoop (e2 elt tg iter tg1 iter1 ifs scope pos) 0 it acc env))):=by rfl
theorem zhm (elt tg iter tg1 iter1:Expr) (scope:Scope) (pos:Pos) (it acc:Value) (env:Env) :
  compTurn (e2 elt tg iter tg1 iter1 [] scope pos) 1 it acc env=(standAt iter1.pos >>= λ_=>pyNext it >>= λr=>match r with
   | none=>pure (.done .next)
   | some v=>letOwnedTupleGo tg1 it v >>= λ_=>assign tg1 env v >>= λ_ =>
    ((eval elt env >>= λx=>call (.builtin "list.append") [acc,x] >>= λ_=>pure ()) >>= λ_ =>
     again (.compLoop (e2 elt tg iter tg1 iter1 [] scope pos) 1 it acc env))):=by rfl
theorem zgE (elt tg iter tg1 iter1 c:Expr) (scope:Scope) (pos:Pos) (it acc:Value) (env:Env) :
  compTurn (e2 elt tg iter tg1 iter1 [c] scope pos) 1 it acc env=(standAt iter1.pos >>= λ_=>pyNext it >>= λr=>match r with
   | none=>pure (.done .next)
   | some v=>letOwnedTupleGo tg1 it v >>= λ_=>assign tg1 env v >>= λ_=>(forIn [c] true λc r=>if r=true then (isTrue c env (eval c env) >>= λok=>pure (ForInStep.yield ok)) else pure (ForInStep.yield r)) >>= λok =>
    if ok=true then
    ((eval elt env >>= λx=>call (.builtin "list.append") [acc,x] >>= λ_=>pure ()) >>= λ_ =>
     again (.compLoop (e2 elt tg iter tg1 iter1 [c] scope pos) 1 it acc env)) else again (.compLoop (e2 elt tg iter tg1 iter1 [c] scope pos) 1 it acc env)):=by rfl
section
variable {prog:Program}{w:World}{A:Around}{R:Result->Shared->Prop}{s:Shared}{elt tg iter tg1 iter1:Expr}{scope:Scope}{pos:Pos}{it acc:Value}{env:Env}
theorem zfN {ifs:List Expr}
  (b:codeAny (model prog w) A (.compLoop (e2 elt tg iter tg1 iter1 ifs scope pos) 1 it acc env) R s)
  (h:wpAny (model prog w) A (pyIter it) (λi2 z=>codeAny (model prog w) A (.compLoop (e2 elt tg iter tg1 iter1 ifs scope pos) 1 i2 acc env) R z) NoX s) :
  codeAny (model prog w) A (.compStart (e2 elt tg iter tg1 iter1 ifs scope pos) 1 it acc env) R s:=by
 refine codeAny_of_tree ?_
 show wpAny _ A ((compStart (e2 elt tg iter tg1 iter1 ifs scope pos) 1 it acc env).onRaise (λx=>do noteFrame x env;standAt theWindowsPlace)) _ _ s
 refine wpAny_notedAt ?_
 unfold compStart
 refine(show wpAny _ _ (ask >>= _) _ _ s from J0 (wpAny_askSetting (wpAny_ite ?_)))
 split
 ·first
   | exact J0 (J9 (J9 ⟨rfl,b⟩))
   | exact J9 ⟨rfl,b⟩
 ·apply J0;refine YT ?_
  first
   | exact J0 (Z5 (J0 (JT h (λa s' h'=>J9 ⟨rfl,h'⟩) λ_ _ z=>z.elim)))
   | (show wpAny _ _ (standAt iter1.pos >>= _) _ _ s;exact J0 (Z5 (J0 (JT h (λa s' h'=>J9 ⟨rfl,h'⟩) λ_ _ z=>z.elim))))
theorem zhj {o:Option Expr}(J:Nat->Shared->Prop)
  (turn:∀ n s,J n s->Go (model prog w) A tg1 elt o it acc env R (λz=>∃ m,m<n/\J m z) s) (n:Nat) (h:J n s) :
  codeAny (model prog w) A (.compLoop (.ListComp elt [⟨tg,iter,[],0⟩,⟨tg1,iter1,o.toList,0⟩] scope pos) 1 it acc env) R s:=by
 cases o with
 | none =>
  refine codeAny_loop rfl J (λn s j=>?_) n h
  show wpAny _ A ((compTurn (e2 elt tg iter tg1 iter1 [] scope pos) 1 it acc env).onRaise (λx=>do noteFrame x env;theTreesLotGoes x)) _ _ s
  refine wpAny_noted ?_
  rw[zhm]
  refine J0 (Z5 (J0 (JT (turn n s j) (λr a h1=>?_) λ_ _ z=>z.elim)))
  cases r with
  | none=>exact J9 h1
  | some v =>
   refine J0 (JT h1 (λ_ b p=>?_) λ_ _ z=>z.elim)
   refine J0 (JT p (λ_ c l=>?_) λ_ _ z=>z.elim)
   have g:wpAny (model prog w) A (eval elt env) (λx e=>wpAny (model prog w) A (call (.builtin "list.append") [acc,x]) (λ_ f=>∃ m,m<n/\J m f) NoX e) NoX c:=l
   exact J0 (J0 (JT g (λx d i=>J0 (JT i (λ_ e k=>J9 (J9 ⟨rfl,k⟩)) λ_ _ z=>z.elim)) λ_ _ z=>z.elim))
 | some t =>
  refine codeAny_loop rfl J (λn s j=>?_) n h
  show wpAny _ A ((compTurn (e2 elt tg iter tg1 iter1 [t] scope pos) 1 it acc env).onRaise (λx=>do noteFrame x env;theTreesLotGoes x)) _ _ s
  refine wpAny_noted ?_
  rw[zgE]
  refine J0 (Z5 (J0 (JT (turn n s j) (λr a h1=>?_) λ_ _ z=>z.elim)))
  cases r with
  | none=>exact J9 h1
  | some v =>
   refine J0 (JT h1 (λ_ b p=>?_) λ_ _ z=>z.elim)
   refine J0 (JT p (λ_ c l=>?_) λ_ _ z=>z.elim)
   have g:wpAny (model prog w) A (isTrue t env (eval t env)) (λyes d=>if yes=true then wpAny (model prog w) A (eval elt env) (λx e=>wpAny (model prog w) A (call (.builtin "list.append") [acc,x]) (λ_ f=>∃ m,m<n/\J m f) NoX e) NoX d else ∃ m,m<n/\J m d) NoX c:=l
   refine J0 (wpAny_tests_one (JT g (λyes d i=>?_) λ_ _ z=>z.elim))
   cases yes with
   | false=>exact J9 ⟨rfl,i⟩
   | true=>exact J0 (J0 (JT i (λx e k=>J0 (JT k (λ_ f q=>J9 (J9 ⟨rfl,q⟩)) λ_ _ z=>z.elim)) λ_ _ z=>z.elim))
theorem zhk {ifs:List Expr}(J:Nat->Shared->Prop)
  (turn:∀ n s,J n s->wpAny (model prog w) A (pyNext it) (λr a=>match r with
   | none=>R (.ok .next) a
   | some v=>wpAny (model prog w) A (letOwnedTupleGo tg it v) (λ_ b=>wpAny (model prog w) A (assign tg env v) (λ_ c=>wpAny (model prog w) A (eval iter1 env) (λx d=>wpAny (model prog w) A (pyIter x) (λi1 e =>
     codeAny (model prog w) A (.compStart (e2 elt tg iter tg1 iter1 ifs scope pos) 1 i1 acc env) (λr f=>match r with|.ok _=>∃ m,m<n/\J m f|.error _=>False) e) NoX d) NoX c) NoX b) NoX a) NoX s) (n:Nat) (h:J n s)
  (i:∀ x,foldedSetIterable iter1 env x=pure x) :
  codeAny (model prog w) A (.compLoop (e2 elt tg iter tg1 iter1 ifs scope pos) 0 it acc env) R s:=by
 refine codeAny_loop rfl J (λn s j=>?_) n h
 show wpAny _ A ((compTurn (e2 elt tg iter tg1 iter1 ifs scope pos) 0 it acc env).onRaise (λx=>do noteFrame x env;theTreesLotGoes x)) _ _ s
 refine wpAny_noted ?_
 rw[zhn]
 refine J0 (Z5 (J0 (JT (turn n s j) (λr a h1=>?_) λ_ _ z=>z.elim)))
 cases r with
 | none=>exact J9 h1
 | some v =>
  refine J0 (JT h1 (λ_ b p=>?_) λ_ _ z=>z.elim)
  refine J0 (JT p (λ_ c o=>?_) λ_ _ z=>z.elim)
  refine J0 (JT o (λx d l=>?_) λ_ _ z=>z.elim)
  refine J0 (Z5 (J0 (wpAny_of_eq (i x) (J0 (Yi (JT l (λi1 e k=>?_) λ_ _ z=>z.elim))))))
  refine J0 (wpAny_runOwn (codeAny_mono k (λr f g=>?_)))
  cases r with
  | ok fl=>exact J9 ⟨rfl,g⟩
  | error x=>exact g.elim
end
def LCW1 (J:It) (g:TG) (tt:TT) (te:TE) (l:Addr) (Q:List V->St->Hp->Prop) (W:Nat->Nat->List V->St->Hp->Prop):Prop :=
 ∀ i m acc c H',W i m acc c H'->H' l=some (.lst acc) /\
  ((J.stop i H'/\Q acc c H')\/(J.go i H'/\∀ x h,J.yld i H' x h->g x c h λa j=>tt a j λb f =>
   if b=true then te a f λy e=>e l=some (.lst acc)/\acc.length<sizeLine/\∃ d,d<m/\W (i+1) d (acc++[y]) a (upd e l (.lst (acc++[y])))
   else ∃ d,d<m/\W (i+1) d acc a f))
def tLC2 (cap:List (Option Nat)) (j:TI) (g:TG) (c:TI) (n:TG) (tt:TT) (te:TE):TE:=λσ H Q=>j σ H λJ H1=>∀ l,H1 l=none ->
 ∃ W:Nat->Nat->List V->St->Hp->Prop,(∃ m,W 0 m [] (capσ cap σ) (upd H1 l (.lst []))) /\
  ∀ i m acc b H',W i m acc b H'->H' l=some (.lst acc)/\((J.stop i H'/\Q (.ref l) H')\/(J.go i H'/\∀ x f,J.yld i H' x f->g x b f λa q=>c a q λo p =>
   ∃ e:Nat->Nat->List V->St->Hp->Prop,(∃ k,e 0 k acc a p)/\LCW1 o n tt te l (λac h G=>∃ d,d<m/\W (i+1) d ac h G) e))
theorem zkf {X:Cx}{elt tg iter tg1 iter1:Expr}{o:Option Expr}{scope:Scope}{pos ak:Pos}{wi aq:TI}{g g1:TG}{tt:TT}{te:TE}{N':List Str}{cap:List (Option Nat)}{use:Option (Value->Sem Unit)}{Q0:Value->Shared->Prop}
  (hc:X.calm=true) (hi:PI X tg iter wi) (R:CapOk X.N N' X.env.scope scope cap)
  (hg:∀ C s₀ H₀ fp pins,PG (zaY X N' scope C s₀ H₀ fp pins) tg g)
  (aI:∀ C s₀ H₀ fp pins,PI (zaY X N' scope C s₀ H₀ fp pins) tg1 iter1 aq)
  (aJ:∀ C s₀ H₀ fp pins,PG (zaY X N' scope C s₀ H₀ fp pins) tg1 g1)
  (ht:∀ C s₀ H₀ fp pins,PTo (zaY X N' scope C s₀ H₀ fp pins) o tt)
  (he:∀ C s₀ H₀ fp pins,PE (zaY X N' scope C s₀ H₀ fp pins) elt te)
  (hs:∀ x,foldedSetIterable iter X.env x=pure x) (aF:∀ C x,foldedSetIterable iter1 (compEnvC scope (clOf X.env.cells scope.names []) C X.env) x=pure x) {pins:List (Addr × Obj)}{s:Shared}{σ:St}{H:Hp}{Q:VK}(I:Inv X pins σ H s) (h:tLC2 cap wi g aq g1 tt te σ H Q)
  (fin:∀ (l C:Addr) (O:Hp) (s5:Shared) (m:Str->Option Value),Inv X pins σ O s5->Q (.ref l) O->s5.heap.Ns C m->FpOk X pins O C->compPost (model X.prog X.w) X.A X.xe use Q0 (.ref l) C (.ok .next) s5) :
  wpAny (model X.prog X.w) X.A (comprehension (.ListComp elt [⟨tg,iter,[],0⟩,⟨tg1,iter1,o.toList,0⟩] scope pos) scope X.env ak (newList []) false (eval iter X.env) use) Q0 X.xe s:=by
 have F:∀ y∈scope.names,y.2=.free->∃ c,X.env.cells.lookup y.1=some c:=λy hy hf=>I.ok.has y.1 (R.free y hy hf)
 refine wpAny_comprehension_free (use:=use) rfl hs (zdH F) R.kind R.names (thn (hi pins s σ H _ I h) λv s1 h1=>thn h1 λa0 s2 h2=>?_)
 obtain⟨it,fp,tn,J,H2,e,I2,T,st2,f2,body⟩:=h2
 subst e
 have ao:H2 s2.heap.objs.size=none:=I2.hok.fresh (Jg _)
 obtain⟨W,⟨m0,w0⟩,turn⟩:=body s2.heap.objs.size ao
 have t:Inv X pins σ (upd H2 s2.heap.objs.size (.lst [])) { s2 with heap:=s2.heap.push { cls:=.type "list",data:=.seq ([]:List Value).toArray },toks:=s2.toks }:=I2.lnew (its:=[]) (t':=s2.toks) .nil (JN _)
 refine JM (wpAny_newFunctionEnv R.nocell (by intro y hy;simp at hy) (λh₁ E D=>?_) R.kind)
 dsimp only at E D ⊢
 generalize hl:s2.heap.objs.size=l at *
 generalize hP:s2.heap.push { cls:=.type "list",dict:=none,data:=.seq ([]:List Value).toArray }=P2 at *
 generalize aN:upd H2 l (.lst [])=H3 at *
 have old:∀ b o,P2.get? b=some o->h₁.get? b=some o:=λb o e=>D.extBut b o (JF (Jr e)) (J8 _ e)
 have am:∀ b o,s2.heap.get? b=some o->P2.get? b=some o:=λb o e=>hP ▸ J8 _ e
 have aA:∀ b∈fp,b<l:=λb hb=>by
  obtain⟨o,e,_⟩:=T.obj _ _ st2 b hb
  rw[<- hl];exact Jr e
 have aP:∀ b∈fp,H3 b=none:=λb hb=>by
  rw[<- aN,zah (JF (aA b hb))];exact(f2 b hb).1
 have aM:P2.objs.size=l+1:=by rw[<- hP,YW,hl]
 have w:∀ x c,(clOf X.env.cells scope.names []).lookup x=some c->X.env.cells.lookup x=some c:=λx c e=>zcZ _ _ x c F (λ_ _ z=>by simp at z) e
 generalize ax:({ s2 with heap:=P2,toks:=s2.toks }:Shared)=s3 at *
 have f:s3.heap=P2:=by rw[<- ax]
 let Y:=zaY X N' scope P2.objs.size s3 H3 fp pins
 have B:Y.Ok:=by
  refine⟨t.ok.mod,R.kind,t.ok.glob,t.ok.blt,by show s3.heap.objs.size<=P2.objs.size;rw[f];exact Jg _,λx y c e1 e2=>t.ok.inj x y c (w x c e1) (w y c e2),λx hx=>?_,λx c hx=>absurd (show false=true from hx) Jp,t.ok.hd,t.ok.frames,.inl rfl,λb hb=>⟨?_,λx c e=>?_⟩,t.bs,
   Y3 t.ok.bsz t.sz,λb o e hb=>?_,λb hb hz=>?_,t.stack,t.stkFree⟩
  ·have aE:scope.names.lookup x=some .free:=by
    rcases hx with hx|hx
    ·rcases zbp hx with z|z
     ·exact absurd rfl (R.nocell _ (zcH z))
     ·exact z.2
    ·rcases zbp hx with z|z
     ·exact z
     ·exact z.2
   exact zbY _ _ x aE
  ·exact JF (by show b<P2.objs.size;rw[aM];exact Wq (aA b hb))
  ·exact(f2 b hb).2.2.2.2.1 x c (w x c e)
  ·rcases (f2 b hb).2.2.2.1 with z|z
   ·exact t.ok.noex b o e z
   ·exact absurd (JJ (Jr e) (Y3 t.ok.bsz z)) (YG _)
  ·rcases Jt.mp (t.stkSub b hz) with z|z
   ·exact(f2 b hb).2.1 z
   ·exact(f2 b hb).2.2.1 z
 have aL:Inv Y [] (capσ cap σ) H3 { s2 with heap:=h₁,toks:=s2.toks }:=by
  refine⟨B,by show s2.os=s3.os;rw[<- ax],I2.bare,by show Un _ _ _ _ s3.heap h₁;rw[f];exact Un.kept old,⟨_,E,λj x v e1 e2 e3=>?_⟩,λx c e=>?_,?_,λx c e=>t.freeC x c (w x c e),λp hp=>?_,λb o e=>?_,?_⟩
  ·have aS:N'[j]?=some x:=e1
   unfold capσ at e2
   rw[JK]at e2
   cases ec:cap[j]? with
   | none=>rw[ec]at e2;cases e2
   | some oc =>
    rw[ec]at e2
    cases oc with
    | none=>cases e2
    | some i =>
     have aQ:σ[i]?=some (some v):=by
      cases ei:σ[i]? with
      | none=>simp[ei]at e2
      | some v' =>
       simp[ei]at e2
       rw[e2]
     have hz:(x,some i)∈N'.zip cap:=by
      refine JP (i:=j) ?_
      rw[Wn]
      exact⟨aS,ec⟩
     obtain⟨hN,hf,hk⟩:=R.cap _ hz i rfl
     obtain⟨m,hn,aG⟩:=t.loc
     obtain⟨u,r,lk⟩:=aG i x v hN aQ (by rcases hk with z|z;exact .inr (.inl z);exact .inr (.inr z))
     refine⟨u,r,.inr ⟨?_,?_⟩⟩
     ·exact zcL hf
     ·rcases lk with ⟨z,_⟩|⟨_,c,aK,ae⟩
      ·have z':X.env.scope.names.lookup x=some .local:=z
       rcases hk with q|q
       ·rw[q]at z';cases z'
       ·rw[q]at z';cases z'
      ·obtain⟨c',ay⟩:=zbY (cells:=X.env.cells) scope.names [] x hf
       have:=w x c' ay
       rw[aK]at this;cases this
       obtain⟨ob,e,d⟩:=ae
       rw[f]at e
       exact⟨c,ay,ob,old c ob e,d⟩
  ·obtain⟨v,ob,e',d⟩:=t.cell x c (w x c e)
   rw[f]at e'
   exact⟨v,ob,old c ob e',d⟩
  ·refine t.hok.fresh ?_
   rw[f];exact Jg _
  ·have ai:p∈X.pn++pins:=(JB.mp hp).elim (λz=>z) (λz=>nomatch z)
   obtain⟨e,n,ne,nf,d⟩:=t.pin p ai
   rw[f]at e
   refine⟨old _ _ e,n,JF (Jr e),λz=>?_,d⟩
   rcases Jt.mp (t.stkSub _ z) with q|q
   ·exact ne q
   ·exact nf q
  ·have:=t.hok.kept (h':=h₁) (λb u q=>old b u (by rw[<- f];exact q))
   exact this b o e
  ·show (cap.map _).length=N'.length
   rw[Jq,R.len]
 have L:∀ {H':Hp},(∀ b∈fp,H' b=none)->∀ b∈fp,FpOk Y [] H' b:=λ{H'} hn b hb=>by
  refine⟨hn b hb,(B.exf b hb).1,B.exfs b hb,.inl hb,(B.exf b hb).2,λp hp=>?_⟩
  have ai:p∈X.pn++pins:=(JB.mp hp).elim (λz=>z) (λz=>nomatch z)
  exact(f2 b hb).2.2.2.2.2 p ai
 have aw:tn 0 h₁:=T.keep 0 _ _ st2 λb hb o e=>old b o (am b o e)
 have loop:codeAny (model X.prog X.w) X.A (.compLoop (.ListComp elt [⟨tg,iter,[],0⟩,⟨tg1,iter1,o.toList,0⟩] scope pos) 0 (.ref it) (.ref l) Y.env) (compPost (model X.prog X.w) X.A X.xe use Q0 (.ref l) P2.objs.size) { s2 with heap:=h₁,toks:=s2.toks }:=by
  refine zhk (λn s'=>∃ i acc a H',Inv Y [] a H' s'/\tn i s'.heap/\(∀ b∈fp,H' b=none)/\W i n acc a H') ?_ m0 ⟨0,[],_,H3,aL,aw,aP,w0⟩ (aF _)
  rintro n s4 ⟨i,acc,af,O,I4,av,az,w4⟩
  obtain⟨aX,q4⟩:=turn i n acc af O w4
  rcases q4 with ⟨stop,qn⟩|⟨go,step⟩
  ·refine thn (T.done Y rfl rfl rfl hc i [] s4 af O Y.xe I4 (L az) av stop) λr s5 ⟨hr,I5⟩=>?_
   subst hr
   obtain⟨m,hn,_⟩:=id I5.loc
   have un:Un (frs X.stack) fp H3 O s3.heap s5.heap:=I5.base
   have aB:s3.heap.objs.size<=P2.objs.size:=by rw[f];exact Jg _
   have IX:Inv X pins σ O s5:=t.call' (ch:=fp) I5.os un I5.hok I5.bare λb hb=>⟨(f2 b hb).2.2.2.1,(f2 b hb).2.1,(f2 b hb).2.2.2.2.1,(f2 b hb).2.2.2.2.2⟩
   exact fin l P2.objs.size O s5 m IX qn hn (t.fpOk aB I5.free)
  ·refine thn (T.item Y rfl rfl rfl hc i [] s4 af O Y.xe I4 (L az) av go) λr s5 ⟨u,hr,h5⟩=>?_
   subst hr
   refine thn h5 λ_ s6 ⟨x,H6,I6,r6,y6,ah,aO⟩=>?_
   have aV:=I6.pinned (L aO) (T.obj _ _ ah)
   refine thn (hg _ _ _ _ _ _ s6 af H6 x u _ aV r6 (step x H6 y6)) λ_ s7 ⟨ap,H7,I7,q7⟩=>?_
   have again:∀ {Z:St}{H9:Hp}{s9:Shared}{M:List V},Inv Y ([]++zcM fp s6.heap) Z H9 s9->(∃ P,P<n/\W (i+1) P M Z H9)->∃ m,m<n/\∃ i acc a H',Inv Y [] a H' s9/\tn i s9.heap/\(∀ b∈fp,H' b=none)/\W i m acc a H':=λ{Z H9 s9 M} I9 ⟨P,hm,w9⟩=>by
    refine⟨P,hm,i+1,M,Z,H9,I9.unpinned,T.keep _ _ _ ah λb hb o e=>(I9.pin (b,o) (Jz _ (Jz _ (za4 hb e)))).1,λb hb=>?_,w9⟩
    obtain⟨o,e,d⟩:=T.obj _ _ ah b hb
    exact(I9.pin (b,o) (Jz _ (Jz _ (za4 hb e)))).2.1
   generalize ([]++zcM fp s6.heap:List (Addr × Obj))=pz at again I7
   refine thn (aI _ _ _ _ _ _ s7 ap H7 _ I7 q7) λv1 s8 h8=>thn h8 λaW s9 h9=>?_
   obtain⟨aC,K,ar,J1,H9,e1,I9,T1,au,f9,W1,⟨m1,w1⟩,aa⟩:=h9
   subst e1
   have A:∀ {H':Hp},(∀ b∈K,H' b=none)->∀ b∈K,FpOk Y pz H' b:=λhn b hb=>⟨hn b hb,(f9 b hb).2⟩
   have N:codeAny (model X.prog X.w) X.A (.compLoop (.ListComp elt [⟨tg,iter,[],0⟩,⟨tg1,iter1,o.toList,0⟩] scope pos) 1 (.ref aC) (.ref l) Y.env) (λr z=>match r with|.ok _=>∃ m,m<n/\∃ i acc a H',Inv Y [] a H' z/\tn i z.heap/\(∀ b∈fp,H' b=none)/\W i m acc a H'|.error _=>False) s9:=by
    refine zhj (λn s'=>∃ i acc a H',Inv Y pz a H' s'/\ar i s'.heap/\(∀ b∈K,H' b=none)/\W1 i n acc a H') ?_ m1 ⟨0,acc,ap,H9,I9,au,λb hb=>(f9 b hb).1,w1⟩
    rintro k t4 ⟨j,ac,U,G4,K4,u4,v4,z4⟩
    obtain⟨aY,p4⟩:=aa j k ac U G4 z4
    rcases p4 with ⟨ab,pn⟩|⟨go1,ad⟩
    ·refine thn (T1.done Y rfl rfl rfl hc j pz t4 U G4 Y.xe K4 (A v4) u4 ab) λr t5 ⟨hr,K5⟩=>?_
     subst hr
     exact again K5 pn
    ·refine thn (T1.item Y rfl rfl rfl hc j pz t4 U G4 Y.xe K4 (A v4) u4 go1) λr t5 ⟨u,hr,h5⟩=>?_
     subst hr
     refine thn h5 λ_ t6 ⟨y,G6,K6,e6,d6,u6,v6⟩=>?_
     have aT:=K6.pinned (A v6) (T1.obj _ _ u6)
     refine thn (aJ _ _ _ _ _ _ t6 U G6 y u _ aT e6 (ad y G6 d6)) λ_ t7 ⟨ag,G7,K7,p7⟩=>?_
     refine zf0 (ht _ _ _ _ _ _ t7 ag G7 _ K7 p7) λb t8 ⟨G8,K8,p8⟩=>?_
     have G:∀ {S:St}{G9:Hp}{t9:Shared}{aj:List V},Inv Y (pz++zcM K t6.heap) S G9 t9->(∃ P,P<k/\W1 (j+1) P aj S G9)->∃ m,m<k/\∃ i acc a H',Inv Y pz a H' t9/\ar i t9.heap/\(∀ b∈K,H' b=none)/\W1 i m acc a H':=λ{S G9 t9 aj} K9 ⟨P,hm,z9⟩=>by
      refine⟨P,hm,j+1,aj,S,G9,K9.unpinned,T1.keep _ _ _ u6 λb hb o e=>(K9.pin (b,o) (Jz _ (Jz _ (za4 hb e)))).1,λb hb=>?_,z9⟩
      obtain⟨o,e,d⟩:=T1.obj _ _ u6 b hb
      exact(K9.pin (b,o) (Jz _ (Jz _ (za4 hb e)))).2.1
     cases b with
     | false =>
      rw[Jb Jp]at p8 ⊢
      exact G K8 p8
     | true =>
      rw[Jf rfl]at p8 ⊢
      refine thn (he _ _ _ _ _ _ t8 ag G8 _ K8 p8) λyv t9 ⟨yy,G9,K9,e9,aH,aD,p9⟩=>?_
      refine thn (zbd (X:=Y) _ t9 ag G9 (.ref l) [yy] (.ref l) [yv] (λ_ H'=>H'=upd G9 l (.lst (ac++[yy]))) K9 rfl (.cons e9 .nil) ⟨l,ac,yy,rfl,rfl,aH,aD,rfl⟩) λ_ aZ ⟨_,a3,aU,_,aR⟩=>?_
      subst aR
      exact G aU p9
   exact zfN N (T1.self X.A 0 _ _ _ au N)
 exact codeAny_compStart_list loop (T.self X.A 0 _ _ _ aw loop)
theorem zmw {X:Cx}{elt tg iter tg1 iter1:Expr}{o:Option Expr}{scope:Scope}{pos:Pos}{e a:TI}{g i:TG}{tt:TT}{te:TE}{N':List Str}{cap:List (Option Nat)}
  (t:X.calm=true) (hi:PI X tg iter e) (u:CapOk X.N N' X.env.scope scope cap)
  (p:∀ C s₀ H₀ fp pins,PG (zaY X N' scope C s₀ H₀ fp pins) tg g)
  (c:∀ C s₀ H₀ fp pins,PI (zaY X N' scope C s₀ H₀ fp pins) tg1 iter1 a)
  (d:∀ C s₀ H₀ fp pins,PG (zaY X N' scope C s₀ H₀ fp pins) tg1 i)
  (j:∀ C s₀ H₀ fp pins,PTo (zaY X N' scope C s₀ H₀ fp pins) o tt)
  (r:∀ C s₀ H₀ fp pins,PE (zaY X N' scope C s₀ H₀ fp pins) elt te)
  (k:∀ x,foldedSetIterable iter X.env x=pure x:=by intro _;rfl)
  (b:∀ C x,foldedSetIterable iter1 (compEnvC scope (clOf X.env.cells scope.names []) C X.env) x=pure x:=by intro _ _;rfl) :
  PE X (.ListComp elt [⟨tg,iter,[],0⟩,⟨tg1,iter1,o.toList,0⟩] scope pos) (tLC2 cap e g a i tt te):=by
 intro pins s σ H Q I h
 rw[eval_ListComp]
 exact zkf (use:=none) t hi u p c d j r k b I h λl C w y m v q n f=>⟨m,n,λh' sb=>⟨.ref l,w,v.gone f sb,rfl,q⟩⟩
end L2
namespace Bn
open PySem L2 Own
def pw (e:Nat):Int:=((2 ^ e:Nat):Int)
theorem zhT (e:Nat):pw (e+1)=2*pw e:=by unfold pw;rw[Zh,Int.natCast_mul];lia
def more (cs xs:List Int) (k:Int):List Int:=(List.range cs.length).map λi=>cs.getD i 0+k*xs.getD i 0
theorem zbg (cs xs:List Int) (k:Int):(more cs xs k).length=cs.length:=by simp[more]
theorem zbx {cs xs:List Int}{k:Int}{i:Nat}(h:i<cs.length):(more cs xs k).getD i 0=cs.getD i 0+k*xs.getD i 0:=by
 rw[Ja,J7 (by rw[zbg];exact h)]
 simp[more]
theorem zkr {xs ys:List Int}(a:xs.length=ys.length) (h:∀ i,i<xs.length->xs.getD i 0=ys.getD i 0):xs=ys:=by
 refine ZZ a λi h1 b=>?_
 have:=h i h1
 rwa [Ja,Ja,J7 h1,J7 b]at this
theorem zis {n:Nat}{cs xs ts us:List Int}{k:Int}{f:Nat × Nat}(h1:f.1<n) (j:f.2<n) (lc:cs.length=n) (c:xs.length=n) (ev:(2:Int) ∣ xs.getD f.1 0+xs.getD f.2 0) :
  zaK (more cs xs k,ts) f=(more (zaK (cs,ts) f).1 (zaK (xs,us) f).1 k,(zaK (cs,ts) f).2):=by
 obtain⟨q,d⟩:=ev
 have g:=zbx (cs:=cs) (xs:=xs) (k:=k) (i:=f.1) (by lia)
 have e:=zbx (cs:=cs) (xs:=xs) (k:=k) (i:=f.2) (by lia)
 have sum:cs.getD f.1 0+k*xs.getD f.1 0+(cs.getD f.2 0+k*xs.getD f.2 0)=cs.getD f.1 0+cs.getD f.2 0+2*(k*q):=by
  have:k*xs.getD f.1 0+k*xs.getD f.2 0=2*(k*q):=by rw[<- Int.mul_add,d,Int.mul_left_comm]
  lia
 refine Prod.ext ?_ ?_
 ·refine zkr (by simp[zaK,zbg]) λi hi=>?_
  have a:i<n:=by simpa [zaK,zbg,lc] using hi
  rw[zbx (by simp[zaK,lc,a])]
  show (((more cs xs k).set f.1 _).set f.2 _).getD i 0=((cs.set f.1 _).set f.2 _).getD i 0+k*((xs.set f.1 _).set f.2 _).getD i 0
  rw[za0 (by simp[zbg,lc,a]),za0 (by simp[zbg,lc,a]),za0 (by simp[lc,a]),za0 (by rw[lc];exact a),za0 (by simp[c,a]),za0 (by rw[c];exact a)]
  simp only[g,e,sum,d]
  have h:(2*q) / 2=q:=by lia
  have b:(2*q+1) / 2=q:=by lia
  by_cases z2:f.2=i
  ·simp only[Jf z2,h];lia
  ·simp only[Jb z2]
   by_cases z1:f.1=i
   ·simp only[Jf z1,b];lia
   ·simp only[Jb z1];exact zbx (by lia)
 ·show ts++[_]=ts++[_]
  simp only[g,e,sum]
  congr 2;lia
def zb1:Nat->List Nat->List Fk
 | 0,_=>[]
 | m+1,row=>if row.length<2 then [] else (row.take (row.length / 2)).zip row.reverse++zb1 m (row.take (row.length / 2))++zb1 m (row.drop (row.length / 2))
def zbG (k:Nat):Nt:=⟨2 ^ k,(List.replicate k (zb1 k (List.range (2 ^ k)))).flatten,List.range (2 ^ k)⟩
theorem zgM:∀ k,k<5->(zbG k).forks.length<=128/\∀ f∈(zbG k).forks,f.1<2 ^ k/\f.2<2 ^ k/\f.1≠f.2:=by decide +kernel
theorem zhS {k:Nat}(h:k<5):(zbG k).Ok:=by
 obtain⟨a,b⟩:=zgM k h
 refine⟨ZP,?_,a,b,.refl _⟩
 show 2 ^ k<=2 ^ 4
 exact Z4 (show 0<2 by decide) (show k<=4 by lia)
theorem zbT:∀ (m:Nat) (row:List Nat),(zb1 m row).length<=m*row.length
 | 0,_=>JN _
 | m+1,row=>by
  unfold zb1
  split
  ·exact JN _
  ·rw[Jd,Jd,ZK,Jy]
   have a:=zbT m (row.take (row.length / 2))
   have b:=zbT m (row.drop (row.length / 2))
   rw[Jy]at a
   rw[Y9]at b
   have c:m*min (row.length / 2) row.length+m*(row.length-row.length / 2)=m*row.length:=by
    rw[<- Nat.mul_add];congr 1;lia
   rw[Nat.succ_mul]
   lia
end Bn
namespace L2
open PySem PySem.Spec PyProof.Rows Own
def za3 {α:Type}(xs ys:List α):List α:=(xs.zip ys).flatMap λp=>[p.1,p.2]
theorem zbw {α:Type}:∀ (xs ys:List α),xs.length=ys.length->(za3 xs ys).length=2*xs.length
 | [],[],_=>rfl
 | x::xs,y::ys,h=>by
  have h':xs.length=ys.length:=by simpa using h
  have:=zbw xs ys h'
  show (za3 xs ys).length+2=2*(xs.length+1)
  rw[this];lia
theorem zco {α β:Type}{f g:α->Option β}:∀ (l:List α),(∀ x∈l,f x=g x)->l.filterMap f=l.filterMap g
 | [],_=>rfl
 | x::l,h=>by
  have e:=zco l λy a=>h y (JG _ a)
  simp only[List.filterMap_cons,h x JH,e]
def by2 {α:Type}(off:Nat) (xs:List α):List α:=(List.range ((xs.length+1-off) / 2)).filterMap λk=>xs[off+2*k]?
theorem zfR {α:Type}(off:Nat) (a:off<=1) (xs:List α):(by2 off xs).length=(xs.length+1-off) / 2:=by
 unfold by2
 have e:(List.range ((xs.length+1-off) / 2)).filterMap (λk=>xs[off+2*k]?)=(List.range ((xs.length+1-off) / 2)).pmap (λk (h:k<(xs.length+1-off) / 2)=>xs[off+2*k]'(by lia)) (λk h=>Yx.mp h):=by
  rw[List.pmap_eq_map_attach,<- List.filterMap_eq_map]
  conv=>lhs;rw[<- List.attach_map_subtype_val (List.range ((xs.length+1-off) / 2)),ZN]
  refine zco _ λk b=>?_
  have:=Yx.mp k.2
  show xs[off+2*k.1]?=some _
  rw[J7 (by lia)]
 rw[e,List.length_pmap,Yb]
theorem zl9 {α β:Type}(f:α->β) (off:Nat) (xs:List α):by2 off (xs.map f)=(by2 off xs).map f:=by
 unfold by2
 rw[Jq,List.map_filterMap]
 refine zco _ λk _=>?_
 rw[JK]
theorem zhi {xs:List V}{us:List Value}(r:Vals xs us) (a:List Nat):Vals (a.filterMap λk=>xs[k]?) (a.filterMap λk=>us[k]?):=by
 induction a with
 | nil=>exact .nil
 | cons i a ih =>
  cases e:xs[i]? with
  | none =>
   have e2:us[i]?=none:=List.getElem?_eq_none_iff.mpr (by rw[<- r.length];exact List.getElem?_eq_none_iff.mp e)
   rw[List.filterMap_cons_none e,List.filterMap_cons_none e2];exact ih
  | some x =>
   obtain⟨u,e2,b⟩:=r.get e
   rw[List.filterMap_cons_some e,List.filterMap_cons_some e2];exact .cons b ih
theorem zjH (items:Array Value):slicePick items none none (some 2)=((List.range ((items.size+1) / 2)).filterMap λk=>items.toList[2*k]?).toArray:=by
 have b:sliceBounds none none (some 2) items.size=(0,(items.size:Int),2):=rfl
 have c:sliceRange 0 (items.size:Int) 2=(List.range ((items.size+1) / 2)).map λk=>2*k:=by
  unfold sliceRange
  have a:(2:Int) > 0:=by decide
  by_cases h:(0:Int)<items.size
  ·have e:(((items.size:Int)-0+2-1) / 2).toNat=(items.size+1) / 2:=by lia
   simp only[a,Yk,h,e]
   apply We;intro k _;lia
  ·have e:items.size=0:=by lia
   rw[e];rfl
 unfold slicePick
 rw[b]
 show ((sliceRange 0 (items.size:Int) 2).filterMap (items[·]?)).toArray=_
 rw[c,ZN]
 refine JX List.toArray (zco _ λk _=>?_)
 simp
theorem zhX (items:Array Value):slicePick items (some 1) none (some 2)=((List.range (items.size / 2)).filterMap λk=>items.toList[1+2*k]?).toArray:=by
 have b:sliceBounds (some 1) none (some 2) items.size=(max 0 (min 1 (items.size:Int)),(items.size:Int),2):=rfl
 have c:sliceRange (max 0 (min 1 (items.size:Int))) (items.size:Int) 2=(List.range (items.size / 2)).map λk=>1+2*k:=by
  unfold sliceRange
  have a:(2:Int) > 0:=by decide
  by_cases h:(1:Int)<items.size
  ·have m:max 0 (min 1 (items.size:Int))=1:=by lia
   rw[m]
   have e:(((items.size:Int)-1+2-1) / 2).toNat=items.size / 2:=by lia
   simp only[a,Yk,h,e]
   apply We;intro k _;lia
  ·have e:items.size=0\/items.size=1:=by lia
   rcases e with e|e<;>rw[e]<;>rfl
 unfold slicePick
 rw[b]
 show ((sliceRange (max 0 (min 1 (items.size:Int))) (items.size:Int) 2).filterMap (items[·]?)).toArray=_
 rw[c,ZN]
 refine JX List.toArray (zco _ λk _=>?_)
 simp
def tBy2 (K:PySem.W.Frag) (te:TE) (tl ts:TO):TE:=λσ H Q=>te σ H λx H1=>tl σ H1 λlo c=>ts σ c λo b=>o=some 2/\∃ off a xs,((lo=none/\off=0)\/(lo=some 1/\off=1))/\x=.ref a/\SqL K b a xs/\∀ p,b p=none->Q (.ref p) (upd b p (.lst (by2 off xs)))
theorem zgb {X:Cx}{e st:Expr}{lo:Option Expr}{te:TE}{tl ts:TO}{p2 pos:Pos}(C:PE X e te) (B:PO X lo tl) (z:PO X (some st) ts):PE X (.Subscript e (.Slice lo none (some st) p2) pos) (tBy2 X.K te tl ts):=by
 intro pins s σ H Q I h
 refine Subscript_ (thn (C pins s σ H _ I h) λv s1 ⟨x,H1,E,n,t⟩=>wpAny_Slice (thn (B pins s1 σ H1 _ E t) λi m ⟨ol,J,F,w,u⟩=>?_))
 rw[evalPart_none]
 refine J9 (thn (z pins m σ J _ F u) λd s2 ⟨o,G,D,po,p⟩=>?_)
 obtain⟨rfl,off,a,xs,c,rfl,A,k⟩:=p
 cases n
 have f:Inv X pins σ G { s2 with heap:=s2.heap.push { cls:=.type "slice",data:=.fields #[i,.none,d] } }:=D.kept (t':=s2.toks) λb ob q=>J8 _ q
 obtain⟨its,r,j,K⟩:=f.list A
 have hlen:=r.length
 show wpAny (model X.prog X.w) X.A (subscriptTail e (.Slice lo none (some st) p2) (.ref a) (.ref s2.heap.objs.size)) (EP X pins σ Q) X.xe { s2 with heap:=s2.heap.push { cls:=.type "slice",data:=.fields #[i,.none,d] } }
 refine tail_any (ops:=[.ref a,.ref s2.heap.objs.size]) j.isList.typeIs slot_list_getitem.lookup (wpAny_getItem_list_slice j.isList (Heap.IsSliceOf.new ..) w .none po (by simp) ?_ (by rw[Jm]<;>lia)) (by with_unfolding_all rfl)
 have y:slicePick its.toArray ol none (some 2)=((List.range ((its.length+1-off) / 2)).filterMap λk=>its[off+2*k]?).toArray:=by
  rcases c with ⟨rfl,rfl⟩|⟨rfl,rfl⟩
  ·rw[zjH];simp only[Jm,Nat.sub_zero,Yu]
  ·rw[zhX];simp only[Jm,Nat.add_sub_cancel]
 rw[y]
 have g:off<=1:=by rcases c with ⟨_,rfl⟩|⟨_,rfl⟩<;>decide
 have l:Vals (by2 off xs) ((List.range ((its.length+1-off) / 2)).filterMap λk=>its[off+2*k]?):=by
  have:=zhi r ((List.range ((its.length+1-off) / 2)).map λk=>off+2*k)
  rw[ZN,ZN]at this
  unfold by2
  rw[hlen];exact this
 refine⟨.ref _,_,f.laid (t':=s2.toks) (o:=.lst (by2 off xs)) (λb ob q=>J8 _ q) (Jg _) ⟨by rw[zfR off g];lia,_,0,l,?_⟩,rfl,k _ (f.hok.fresh (Jg _))⟩
 exact Js _ rfl
theorem zkg {K:PySem.W.Frag}{a:Addr}{xs:List V}{g v:TG}{h:TI}{tt:TT}{te:TE}{l:Addr}{σ:St}{H:Hp}{Q:VK}(c:Nat->List V->St->Hp->Prop) (B:c 0 [] σ H)
  (A:∀ i acc σ H,c i acc σ H->H l=some (.lst acc)/\SqL K H a xs)
  (z:∀ i acc σ H x,xs[i]?=some x->c i acc σ H->g x σ H λb r=>h b r λo q =>
   ∃ d:Nat->Nat->List V->St->Hp->Prop,(∃ n,d 0 n acc b q)/\LCW1 o v tt te l (λac j G=>Nx xs.length i (c (i+1) ac j G)) d)
  (hd:∀ acc σ H,c xs.length acc σ H->Q (.ref l) H):∃ W:Nat->Nat->List V->St->Hp->Prop,(∃ m,W 0 m [] σ H) /\
   ∀ i m acc f H',W i m acc f H'->H' l=some (.lst acc)/\(((Itl K a).stop i H'/\Q (.ref l) H')\/((Itl K a).go i H'/\∀ x s,(Itl K a).yld i H' x s->g x f s λb r=>h b r λo q =>
    ∃ d:Nat->Nat->List V->St->Hp->Prop,(∃ n,d 0 n acc b q)/\LCW1 o v tt te l (λac j G=>∃ u,u<m/\W (i+1) u ac j G) d)):=by
 refine⟨λi m acc σ H=>m=xs.length-i/\i<=xs.length/\c i acc σ H,⟨xs.length,by simp,JN _,B⟩,?_⟩
 rintro i m acc σ H ⟨rfl,hi,p⟩
 obtain⟨w,k⟩:=A i acc σ H p
 refine⟨w,?_⟩
 by_cases t:i<xs.length
 ·refine .inr ⟨⟨xs,xs[i],k,J7 t⟩,λx s ⟨e,y⟩=>?_⟩
  subst e
  exact z i acc σ _ x (y xs k) p
 ·obtain rfl:i=xs.length:=by lia
  exact .inl ⟨⟨xs,k,Jg _⟩,hd acc σ H p⟩
end L2
namespace L2
open PySem PySem.Spec PyProof.Rows Own Bn
def zeZ (ts:List Int):Int:=ts.foldl (λa t=>2*a+t) 0
def zeE (a:Int) (xs:List Int):Int:=xs.foldl (λa x=>1000*a+x) a
def Bits (ts:List Int):Prop:=∀ t∈ts,t=0\/t=1
def Small (xs:List Int):Prop:=∀ x∈xs,0<=x/\x<1000
theorem zi8 {a b c d m:Int}(e:0<m) (c0:0<=c) (i:c<m) (g:0<=d) (f:d<m):compare (m*a+c) (m*b+d)=(compare a b).then (compare c d):=by
 rcases Zp a b with h|h|h
 ·have:m*a+c<m*b+d:=by
   have:=Int.mul_le_mul_of_nonneg_left (show a+1<=b by lia) (Int.le_of_lt e)
   rw[Int.mul_add,Int.mul_one]at this
   lia
  rw[YC.mpr this,YC.mpr h];rfl
 ·subst h
  rw[YS.mpr (rfl:a=a)]
  show _=compare c d
  rcases Zp c d with z|z|z
  ·rw[YC.mpr z,YC.mpr (by lia)]
  ·rw[z]
   rw[YS.mpr (rfl:d=d),YS.mpr rfl]
  ·rw[YD.mpr z,YD.mpr (by lia)]
 ·have:m*b+d<m*a+c:=by
   have:=Int.mul_le_mul_of_nonneg_left (show b+1<=a by lia) (Int.le_of_lt e)
   rw[Int.mul_add,Int.mul_one]at this
   lia
  rw[YD.mpr this,YD.mpr h];rfl
theorem zef {m:Int}(d:0<m):∀ {x y:List Int}{a b:Int},x.length=y.length->(∀ t∈x,0<=t/\t<m)->(∀ t∈y,0<=t/\t<m)->compare (x.foldl (λa t=>m*a+t) a) (y.foldl (λa t=>m*a+t) b)=(compare a b).then (cmpR x y)
 | [],[],a,b,_,_,_=>by
  show compare a b=(compare a b).then .eq
  cases compare a b<;>rfl
 | s::x,t::y,a,b,l,f,e=>by
  have h1:=f s (.head _)
  have g:=e t (.head _)
  show compare (x.foldl _ (m*a+s)) (y.foldl _ (m*b+t))=(compare a b).then ((compare s t).then (cmpR x y))
  rw[zef d (by simpa using l) (λu c=>f u (.tail _ c)) λu c=>e u (.tail _ c),zi8 d h1.1 h1.2 g.1 g.2]
  cases compare a b<;>rfl
theorem zjk {x:List Int}(h:Bits x):∀ t∈x,0<=t/\t<2:=λt a=>by rcases h t a with e|e<;>lia
theorem zkz {x y:List Int}(l:x.length=y.length) (b:Bits x) (a:Bits y):compare (zeZ x) (zeZ y)=cmpR x y:=by
 unfold zeZ
 rw[zef (by decide) l (zjk b) (zjk a)];rfl
theorem zky {a b:Int}{x y:List Int}(l:x.length=y.length) (d:Small x) (c:Small y):compare (zeE a x) (zeE b y)=(compare a b).then (cmpR x y):=zef (by decide) l d c
def stK (ts is:List Int):KN:=.inr ts::is.map Sum.inl
structure StOk (F c:Nat) (k:KN):Prop where
 ex:∃ ts is,k=stK ts is/\ts.length=F/\Bits ts/\is.length=c/\Small is
def zl8:KN->Int
 | .inr ts::r=>zeE (zeZ ts) (r.map λx=>match x with|.inl i=>i|.inr _=>0)
 | _=>0
theorem zfP (ts is:List Int):zl8 (stK ts is)=zeE (zeZ ts) is:=by
 unfold stK zl8
 show zeE _ ((is.map Sum.inl).map _)=_
 rw[Zv]
 congr 1
 exact List.map_id is
def rkH (H:Hp):V->Int
 | .ref a=>match H a with
  | some (.tup (b::r))=>zeE (zeZ (rowH H b)) (r.map zhb)
  | _=>0
 | _=>0
theorem zhu {H:Hp}{ts is:List Int}{b:Addr}(h:NKey H (stK ts is) b):∃ t,H b=some (.tup (.ref t::is.map V.int))/\H t=some (.tup (ts.map V.int)):=by
 obtain⟨ys,h1,a⟩:=h
 obtain⟨v,r,e,⟨t,c,d⟩,f⟩:=(show ∃ v r,ys=v::r/\(∃ t,v=.ref t/\H t=some (.tup (ts.map V.int)))/\NIvs H (is.map Sum.inl) r from a)
 have key:∀ {is:List Int}{r:List V},NIvs H (is.map Sum.inl) r->r=is.map V.int:=by
  intro is
  induction is with
  | nil=>intro r h;exact h
  | cons i is ih =>
   intro r h
   obtain⟨v,q,e,c,a⟩:=(show ∃ v q,r=v::q/\v=.int i/\NIvs H (is.map Sum.inl) q from h)
   rw[e,c,ih a];rfl
 exact⟨t,by rw[h1,e,c,key f],d⟩
theorem zm4 {H:Hp}{ts is:List Int}{b t:Addr}(h1:H b=some (.tup (.ref t::is.map V.int))) (a:H t=some (.tup (ts.map V.int))):NKey H (stK ts is) b:=by
 have key:∀ is:List Int,NIvs H (is.map Sum.inl) (is.map V.int):=by
  intro is
  induction is with
  | nil=>exact rfl
  | cons i is ih=>exact⟨_,_,rfl,rfl,ih⟩
 exact⟨_,h1,⟨_,_,rfl,⟨t,rfl,a⟩,key is⟩⟩
theorem zkL {H:Hp}{ts is:List Int}{b:Addr}(h:NKey H (stK ts is) b):rkH H (.ref b)=zl8 (stK ts is):=by
 obtain⟨t,h1,a⟩:=zhu h
 show (match H b with
  | some (.tup (b::r))=>zeE (zeZ (rowH H b)) (r.map zhb)
  | _=>0)=_
 rw[h1]
 show zeE (zeZ (rowH H (.ref t))) ((is.map V.int).map zhb)=_
 rw[zc4 a,zfP,Zv]
 congr 1
 exact List.map_id is
theorem zns {H:Hp}{F c:Nat}{x y:KN}{a b:Addr}(m:StOk F c x) (k:StOk F c y) (ha:NKey H x a) (hb:NKey H y b):Lx H 2 (.ref a) (.ref b) (compare (rkH H (.ref a)) (rkH H (.ref b))):=by
 obtain⟨ts,is,rfl,h1,o,w,n⟩:=m.ex
 obtain⟨us,g,rfl,A,s,z,r⟩:=k.ex
 rw[zkL ha,zkL hb,zfP,zfP,zky (by lia) n r,zkz (by lia) o s]
 obtain⟨t,v,e2⟩:=zhu ha
 obtain⟨u,f1,f2⟩:=zhu hb
 have l:is.length=g.length:=by lia
 rw[show (cmpR ts us).then (cmpR is g)=(cmpR ts us::List.zipWith compare is g).foldr Ordering.then .eq by rw[List.foldr_cons,zdm l]]
 refine .row v f1 (by rw[JL,JL,Jq,ZB];lia) (by rw[JL,JL,Jq,ZB];lia) λi p q d f e hd=>?_
 cases i with
 | zero=>cases f;cases e;cases hd;exact zfy e2 f2 (by lia)
 | succ i =>
  rw[List.getElem?_cons_succ]at f e hd
  rw[JK]at f e
  obtain⟨p,j,rfl⟩:=Yh.mp f
  obtain⟨q,h,rfl⟩:=Yh.mp e
  rw[List.getElem?_zipWith,j,h]at hd
  cases hd
  exact .int 1 p q
def KeysAt (H:Hp) (bs:List Addr) (ks:List KN):Prop:=Paired (λb k=>NKey H k b) bs ks
theorem KeysAt.mem {H:Hp}{bs:List Addr}{ks:List KN}(h:KeysAt H bs ks):∀ b∈bs,∃ k∈ks,NKey H k b:=by
 induction h with
 | nil=>intro b hb;cases hb
 | cons q _ ih =>
  intro b hb
  rcases Jt.mp hb with rfl|z
  ·exact⟨_,.head _,q⟩
  ·obtain⟨k,a,e⟩:=ih b z
   exact⟨k,.tail _ a,e⟩
theorem LvE.keys {H:Hp}{xs:KVN}{ps:LvL}(h:LvE H xs ps):KeysAt H (xs.map λp=>p.2.1) (ps.map (·.1)):=by
 obtain⟨ks,pr⟩:=h
 induction pr with
 | nil=>exact .nil
 | @cons x p xs ps a t ih =>
  refine .cons ?_ (ih λy b=>ks y (.tail _ b))
  show NKey H p.1 x.2.1
  rw[<- a.1];exact ks x (.head _)
def zkM (P:Program) (w:World):List V->Hp->VK->Prop:=λvs H Q=>∃ a xs rk,vs=[.ref a]/\H a=some (DN P w a xs)/\xs.length<=10000/\RkN H (xs.map λp=>.ref p.2.1) rk/\∀ (l:Addr) (ys:List V),H l=none->ys.Perm (xs.map λp=>.ref p.2.1)->ys.Pairwise (λx y=>rk x<=rk y)->Q (.ref l) (upd H l (.lst ys))
theorem zei {X:Cx}(b:X.calm=true) (a:X.A.units+64<cLine):CallR X (.builtin "sorted") (zkM X.prog X.w):=zeY b a
theorem zjA {H:Hp}{F c:Nat}{xs:KVN}{lv:LvL}(h:LvE H xs lv) (ok:∀ p∈lv,StOk F c p.1):RkN H (xs.map λp=>.ref p.2.1) (rkH H):=by
 refine⟨2,by decide,λx a=>?_⟩
 have at_:∀ x∈xs.map λp=>V.ref p.2.1,∃ b k,x=.ref b/\NKey H k b/\StOk F c k:=λx a=>by
  obtain⟨p,o,rfl⟩:=JD.mp a
  obtain⟨k,r,e⟩:=h.keys.mem p.2.1 (JD.mpr ⟨p,o,rfl⟩)
  obtain⟨q,n,rfl⟩:=JD.mp r
  exact⟨_,_,rfl,e,ok q n⟩
 obtain⟨b,k,rfl,g,f⟩:=at_ x a
 refine⟨?_,λy m=>?_⟩
 ·obtain⟨ts,is,rfl,_⟩:=f.ex
  obtain⟨t,h1,s⟩:=zhu g
  exact⟨b,t,_,_,rfl,h1,s⟩
 ·obtain⟨d,j,rfl,l,i⟩:=at_ y m
  exact zns f i g l
theorem zkh {K:PySem.W.Frag}{a:Addr}{zs:List V}{g:TG}{te:TE}{l:Addr}{ac:List V}{σ:St}{H:Hp}{Q:List V->St->Hp->Prop}(b:Nat->List V->St->Hp->Prop) (o:b 0 ac σ H) (n:∀ i acc σ H,b i acc σ H->H l=some (.lst acc)/\SqL K H a zs)
  (k:∀ i x acc σ H,zs[i]?=some x->b i acc σ H->g x σ H λc q=>te c q λy h=>h l=some (.lst acc)/\acc.length<sizeLine/\Nx zs.length i (b (i+1) (acc++[y]) c (upd h l (.lst (acc++[y])))))
  (hd:∀ acc σ H,b zs.length acc σ H->Q acc σ H):∃ W:Nat->Nat->List V->St->Hp->Prop,(∃ m,W 0 m ac σ H)/\LCW1 (Itl K a) g tYes te l Q W:=by
 refine⟨λi m acc σ H=>m=zs.length-i/\i<=zs.length/\b i acc σ H,⟨_,rfl,JN _,o⟩,λi m acc σ H ⟨em,hi,p⟩=>?_⟩
 subst em
 obtain⟨j,d⟩:=n i acc σ H p
 refine⟨j,?_⟩
 by_cases f:i<zs.length
 ·refine .inr ⟨⟨zs,zs[i],d,J7 f⟩,λx r ⟨e,y⟩=>?_⟩
  subst e
  exact k i x acc σ _ (y zs d) p
 ·obtain rfl:i=zs.length:=by lia
  exact .inl ⟨⟨zs,d,Jg _⟩,hd acc σ H p⟩
theorem LvE.len_le {H:Hp}{xs:KVN}{ps:LvL}(h:LvE H xs ps) {n:Nat}(l:ps.length<=n):xs.length<=n:=by rw[h.len];exact l
theorem zgS {α β:Type}{f:α->β}{ys l:List β}(p:ys.Perm l):∀ {zs:List α},l=zs.map f->∃ cs:List α,ys=cs.map f/\cs.Perm zs:=by
 induction p with
 | nil=>intro zs e;cases zs with
  | nil=>exact⟨[],rfl,.refl _⟩
  | cons a b=>cases e
 | cons b _ ih =>
  intro zs e
  cases zs with
  | nil=>cases e
  | cons a zs =>
   injection e with h e2
   obtain⟨cs,h1,g⟩:=ih e2
   exact⟨a::cs,by rw[h1,h];rfl,g.cons _⟩
 | swap b c l =>
  intro zs e
  cases zs with
  | nil=>cases e
  | cons a zs=>cases zs with
   | nil=>cases e
   | cons d zs =>
    injection e with h e2
    injection e2 with e2 n
    exact⟨d::a::zs,by rw[h,e2,n];rfl,.swap _ _ _⟩
 | trans _ _ j i =>
  intro zs e
  obtain⟨cs,h1,g⟩:=i e
  obtain⟨ds,m,k⟩:=j h1
  exact⟨ds,m,k.trans g⟩
end L2
namespace K35
open PySem L2 Own Bn
abbrev zlk:Stmt:=top 12
theorem zh5 {α β:Type}{F:α->β->Prop}{xs:List α}{ys:List β}(h:Paired F xs ys):∀ {i:Nat}{a:α},xs[i]?=some a->∃ b,ys[i]?=some b/\F a b:=by
 induction h with
 | nil=>intro i a e;cases e
 | cons q _ ih =>
  intro i a e
  cases i with
  | zero=>cases Jn e;exact⟨_,rfl,q⟩
  | succ i=>exact ih e
theorem zfa (ls:List LvL) (i:Nat):((ls.take i).map List.length).sum<=(ls.map List.length).sum:=by
 induction ls generalizing i with
 | nil=>rw[Wt];exact Jg _
 | cons a ls ih =>
  cases i with
  | zero=>exact JN _
  | succ i=>show a.length+_<=a.length+_;exact Nat.add_le_add_left (ih i) _
def zhB (P:Program) (w:World) (F c:Nat):Sp:=λvs H Q _=>∃ l as ls,vs=[.ref l]/\H l=some (.lst (List.map V.ref as))/\LvsAt P w H as ls/\(∀ lv∈ls,lv.length<=10000/\∀ p∈lv,StOk F c p.1)/\(ls.map List.length).sum<=1000000/\∀ p H',Same H H'->Q (.ref p) H'
theorem zlI {H:Hp}{a:Addr}{o:HO}(_:Same H (L2.upd H a o)) (h:H a=none):H a=none:=h
section
variable {P:Program}{w:World}{K:PySem.W.Frag}{mg:Str->Option Value}{base:Heap}
theorem scBo:FnScope ["levels"] ["levels"] (zam zlk):=by trivial
theorem zlF (Z c0:Nat) {f:Addr}{fd:FuncData}(F:Fun K "book_of" "book_of" zlk f fd) (G:Mgs mg):FnOk P w K mg base CX0 1 f fd ["levels"] (zhB P w Z c0):=by
 refine F.ok scBo (λvs H Q E h=>?_) (λcdv A outer s H vs Q E W h=>?_)
 ·obtain⟨l,as,ls,rfl,_⟩:=h
  rfl
 obtain⟨l,as,ls,rfl,O,r,u,few,k⟩:=h
 refine⟨_,(@zai _ _ _ (@zav _ _ _ _ (@zar _ _ _ _ _ _ _ _ _ zau (by rfl) G.tuple (by rfl) (@zaa _ _ _ _ _ (@zmw _ _ _ _ _ _ none _ _ _ (zmV K (tCB (zkM P w) (zk7 (tVar 0) tNil))) _ _ _ _ ["level","state"] [none,none] rfl (@zhZ _ _ _ _ (@qv _ 0 _ _ (by trivial))) (CapOk.of (by kernel_rfl)) (λ_ _ _ _ _=>@zal _ _ 0 _ (show (["level","state"]:List Str).Nodup from by decide +kernel) rfl (.inl rfl) (.inr rfl)) (λ_ _ _ _ _=>@zhZ _ _ _ _ (@zay _ _ _ _ _ _ _ _ _ (zei rfl W.units) (by rfl) G.sorted (by rfl) (@zaa _ _ _ _ _ (@qv _ 0 _ _ (by trivial)) zac (by rfl)) (by decide) (by decide) (by rfl) (by rfl))) (λ_ _ _ _ _=>@zal _ _ 1 _ (show (["level","state"]:List Str).Nodup from by decide +kernel) rfl (.inl rfl) (.inr rfl)) (λ_ _ _ _ _=>zb3) (λ_ _ _ _ _=>@qv _ 1 _ _ (by trivial)) (by intro _;rfl) (by intro _ _;rfl)) zac (by rfl)) (by decide) (by decide) (by rfl) (by rfl)))),?_⟩
 refine⟨_,rfl,l,rfl,⟨_,SqL.of O⟩,λm v=>?_⟩
 have al:as.length=ls.length:=YR r
 have s1:=zab v (.lst [])
 refine zkg (K:=K) (a:=l) (xs:=as.map V.ref) (Q:=λx H1=>tNil (L2.zds ["levels"] [V.ref l]) H1 λvs c=>(∃ p ys,x::vs=[V.ref p]/\((SqL K c p ys/\∀ (l:Addr),c l=none->Q (V.ref l) (L2.upd c l (HO.tup ys)))\/SqT K c p ys/\Q (V.ref p) c))) (λi acc σ c=>(∃ v0 d,σ=[v0,d])/\Same H c/\c m=some (.lst acc)/\∃ bs:List Addr,acc=bs.map V.ref/\bs.length=((ls.take i).map List.length).sum) ⟨⟨_,_,rfl⟩,s1,zag,[],rfl,rfl⟩ (λi acc σ c z=>⟨z.2.2.1,SqL.of (z.2.1 _ _ O)⟩) ?_ ?_
 ·rintro i acc σ c x n ⟨⟨v0,d,rfl⟩,s2,B,bs,rfl,bl⟩
  rw[JK]at n
  obtain⟨a,S,rfl⟩:=Yh.mp n
  have ia:i<as.length:=(Jc.mp S).1
  have U:i<ls.length:=by lia
  obtain⟨lv,R,xs,hd,le⟩:=zh5 r S
  have t:lv∈ls:=JP R
  have tk:ls.take (i+1)=ls.take i++[lv]:=by rw[<- YF U,(Jc.mp R).2]
  have y:((ls.take (i+1)).map List.length).sum=bs.length+lv.length:=by rw[tk,JY,List.sum_append,<- bl];rfl
  have sum2:((ls.take (i+1)).map List.length).sum<=1000000:=Y3 (zfa ls (i+1)) few
  have Y:=s2 _ _ hd
  have le2:=le.keep s2
  refine⟨_,rfl,a,xs,rkH c,rfl,Y,le2.len_le (u lv t).1,zjA le2 (u lv t).2,λq ys N pm _=>?_⟩
  have D:=zab N (.lst ys)
  have T:m≠q:=zaf B N
  obtain⟨cs,rfl,pc⟩:=zgS (f:=V.ref) (zs:=xs.map λp=>p.2.1) pm (by rw[Zv];rfl)
  have cl:cs.length=lv.length:=by rw[pc.length_eq,Jq];exact le2.len
  refine⟨q,rfl,⟨_,SqL.of zag⟩,?_⟩
  refine zkh (K:=K) (a:=q) (zs:=cs.map V.ref) (λj acc σ g=>(∃ v0 d,σ=[v0,d])/\Same H g/\(∀ b o,c b=some o->b≠m->g b=some o)/\g q=some (.lst (cs.map V.ref))/\acc=bs.map V.ref++(cs.map V.ref).take j/\g m=some (.lst acc)) ?_ (λj acc σ g z=>⟨z.2.2.2.2.2,SqL.of z.2.2.2.1⟩) ?_ ?_
  ·exact⟨⟨_,_,rfl⟩,s2.trans D,λb o e _=>D b o e,zag,by rw[Zc,Y2],D _ _ B⟩
  ·rintro j x acc σ g n ⟨⟨v0,d,rfl⟩,C,M,L,rfl,J⟩
   have I:=(Jc.mp n).1
   refine⟨_,rfl,J,?_,nx I ⟨⟨_,_,rfl⟩,λb o e=>?_,λb o e ne=>?_,?_,?_,zag⟩⟩
   ·rw[Jd,Jy,Jq,Jq,JC]
    rw[Jq]at I
    lia
   ·rw[zah (zaf e (zlI s1 v))];exact C b o e
   ·rw[zah ne];exact M b o e ne
   ·rw[zah T.symm];exact L
   ·rw[JU]
    congr 1
    rw[<- YF I,(Jc.mp n).2]
  ·rintro acc σ g ⟨⟨v0,d,rfl⟩,C,M,L,rfl,J⟩
   refine nx (by rw[Jq];exact ia) ⟨⟨_,_,rfl⟩,C,J,bs++cs,?_,?_⟩
   ·rw[YA,JY]
   ·rw[y,Jd,cl]
 ·rintro acc σ c ⟨⟨v0,d,rfl⟩,s2,B,bs,rfl,bl⟩
  exact⟨m,_,rfl,.inl ⟨SqL.of B,λp X=>k p _ (s2.trans (zab X (.tup (bs.map V.ref))))⟩⟩
end
abbrev sEnd:Stmt:=top 1
abbrev zfi:Stmt:=top 3
abbrev sRun:Stmt:=top 4
theorem zmU (h a b:Nat):inV (V.int h) [V.int a,V.int b]=decide (h=a\/h=b):=by
 rw[Ys,decide_eq_true_iff]
 simp[inV,eqV]
 lia
section
variable {P:Program}{w:World}{K:PySem.W.Frag}{mg:Str->Option Value}{base:Heap}
theorem scD:FnScope ["net","lane"] ["net","lane"] (zam sEnd):=by trivial
theorem zmI {f:Addr}{fd:FuncData}(F:Fun K "end_of" "end_of" sEnd f fd):FnOk P w K mg base CX0 1 f fd ["net","lane"] zk9:=by
 refine F.ok scD (λvs H Q E h=>?_) (λcdv A outer s H vs Q E b h=>?_)
 ·obtain⟨r,fr,er,ps,N,lane,rfl,_⟩:=h
  rfl
 obtain⟨r,fr,er,ps,N,lane,rfl,ok,na,c,k⟩:=h
 refine⟨_,(@zai _ _ _ (@zav _ _ _ _ (@zlv _ _ _ _ _ _ _ b.units (@zaA _ _ _ _ _ _ _ zaS (@qv _ 0 _ _ (by trivial)) zad (λ_ _=>rfl)) (@zaa _ _ _ _ _ (@qv _ 1 _ _ (by trivial)) zac (by rfl)) (by rfl) (by rfl) (by rfl) (by rfl)))),?_⟩
 have a:=na.ends
 rw[zjY]at a
 refine⟨_,rfl,r,_,_,_,rfl,rfl,SqT.of na.net,rfl,er,_,rfl,a,_,rfl,(lane:Int),rfl,a,?_,?_⟩
 ·exact JD.mpr ⟨lane,ok.en.mem_iff.mpr (Yx.mpr c),rfl⟩
 ·rw[zgs];exact k
theorem scR:FnScope ["net","turns","lane","back","behind","here","number","fork","turn"] ["net","turns","lane","back"] (zam sRun):=by trivial
theorem zmG {f fD:Addr}{fd dD:FuncData}(F:Fun K "run_through" "run_through" sRun f fd) (G:Mgs mg) (I:Use P w K mg base "end_of" ["net","lane"] 1 zk9 fD dD):FnOk P w K mg base CX0 2 f fd ["net","turns","lane","back"] zk8:=by
 refine F.ok scR (λvs H Q E h=>?_) (λcdv A outer s H vs Q E Z h=>?_)
 ·obtain⟨us,back,rfl,r,fr,er,ps,N,C,ts,lane,rfl,_⟩:=h
  rfl
 obtain⟨us,back,rfl,r,fr,er,ps,N,C,ts,lane,rfl,ok,na,L,tl,bits,hl,k⟩:=h
 refine⟨_,(@zae _ _ _ _ _ (@zaw _ _ 4 _ _ _ _ scR.nd rfl (.inl rfl) (@zar _ _ _ _ _ _ _ _ _ za5 (by rfl) G.list (by rfl) (@zaa _ _ _ _ _ (@qv _ 1 _ _ (by trivial)) zac (by rfl)) (by decide) (by decide) (by rfl) (by rfl)) (by rfl) (by trivial)) (@zae _ _ _ _ _ (@zaw _ _ 5 _ _ _ _ scR.nd rfl (.inl rfl) (@qv _ 2 _ _ (by trivial)) (by rfl) (by trivial)) (@zae _ _ _ _ _ (@zbN _ _ _ _ _ _ _ _ Yt rfl (@zlu _ _ _ _ _ _ _ _ false rfl G.enum (@zaa _ _ _ _ _ (@zaA _ _ _ _ _ _ _ zaS (@qv _ 0 _ _ (by trivial)) zad (λ_ _=>rfl)) zac (by rfl)) (by rfl)) (@zaT _ _ _ _ _ _ rfl (@zak _ _ _ _ _ (@zal _ _ 6 _ scR.nd rfl (.inl rfl) (by trivial)) (@zak _ _ _ _ _ (@zal _ _ 7 _ scR.nd rfl (.inl rfl) (by trivial)) zaG (by rfl)) (by rfl)) (by rfl) (by rfl)) (@zai _ _ _ (@zbj _ _ _ _ _ _ _ _ (@zaE _ _ _ _ _ _ _ _ zeC (@qv _ 5 _ _ (by trivial)) (@qv _ 7 _ _ (by trivial)) (by rfl)) (@zae _ _ _ _ _ (@zaw _ _ 8 _ _ _ _ scR.nd rfl (.inl rfl) (@zaA _ _ _ _ _ _ _ zat (@qv _ 4 _ _ (by trivial)) (@qv _ 6 _ _ (by trivial)) (λ_ _=>rfl)) (by rfl) (by trivial)) (@zae _ _ _ _ _ (@zaX _ _ _ _ _ _ (@zap _ _ _ _ _ _ _ _ zdb zad (@qv _ 8 _ _ (by trivial))) (@zcN _ _ _ _ _ _ _ (@qv _ 4 _ _ (by trivial)) (@qv _ 6 _ _ (by trivial)) zbo (by intro _;rfl)) (by rfl) (by rfl) (by rfl)) (@zai _ _ _ (@zaw _ _ 5 _ _ _ _ scR.nd rfl (.inl rfl) (@zaA _ _ _ _ _ _ _ zaS (@qv _ 7 _ _ (by trivial)) (@zdY _ _ _ _ _ _ _ _ (@zmr _ _ _ (@qv _ 3 _ _ (by trivial)) (by intro _;rfl)) (@zap _ _ _ _ _ _ _ _ zdb zad (@qv _ 8 _ _ (by trivial))) (@qv _ 8 _ _ (by trivial))) (λ_ _=>rfl)) (by rfl) (by trivial))))) zaM)) (by intro _;rfl)) (@zai _ _ _ (@zav _ _ _ _ (@zaz _ _ _ _ _ (@zaa _ _ _ _ _ (@zar _ _ _ _ _ _ _ _ _ zau (by rfl) G.tuple (by rfl) (@zaa _ _ _ _ _ (@qv _ 4 _ _ (by trivial)) zac (by rfl)) (by decide) (by decide) (by rfl) (by rfl)) (@zaa _ _ _ _ _ (@zaj _ _ _ _ _ _ _ _ _ _ _ _ _ _ _ _ I.ok Z (by rfl) I.m I.kp I.b .nil zax (@zaa _ _ _ _ _ (@qv _ 0 _ _ (by trivial)) (@zaa _ _ _ _ _ (@qv _ 5 _ _ (by trivial)) zac (by rfl)) (by rfl)) (by decide) (by rfl) (by rfl)) zac (by rfl)) (by rfl)))))))),?_⟩
 refine⟨_,rfl,C,_,rfl,.inr (SqT.of L),λd D=>⟨_,rfl,?_⟩⟩
 have s1:=zab D (.lst (ts.map V.int))
 refine⟨_,rfl,r,_,_,_,rfl,rfl,SqT.of (s1 _ _ na.net),rfl,fr,ps,rfl,SqT.of (s1 _ _ na.forks),?_⟩
 refine zkq (K:=K) (b:=false) (a:=fr) (xs:=ps) (λi σ m=>(∃ B y v,σ=[some (.ref r),some (.ref C),some (.int lane),some (.bl back),some (.ref d),some (.int (zaL back N.forks ts lane i).2),B,y,v])/\Same H m/\m d=some (.lst ((zaL back N.forks ts lane i).1.map V.int)))
  ⟨⟨_,_,_,rfl⟩,s1,zag⟩ (λi σ m _ q=>SqT.of (q.2.1 _ _ na.forks)) ?_ ?_
 ·rintro i x σ m T X S ⟨⟨B,y,v,rfl⟩,s2,n⟩
  obtain⟨a,g,rfl,U,ha⟩:=(na.prs.tups (Tups.of s2)).get X
  have gi:i<N.forks.length:=(Jc.mp U).1
  have gd:N.forks.getD i (0,0)=g:=by rw[Ja,U];rfl
  have rs:zaL back N.forks ts lane (i+1)=zaD back (zaL back N.forks ts lane i) i g:=by show zaD _ _ _ _=_;rw[gd]
  have rl:=zc3 (back:=back) (fs:=N.forks) (ts:=ts) (lane:=lane) i
  have W:=zcA (back:=back) (fs:=N.forks) (lane:=lane) bits i
  generalize zaL back N.forks ts lane i=st at *
  have u:=zab S (.tup [.int i,.ref a])
  have lT:d≠T:=zaf n S
  refine⟨T,_,rfl,SqT.of zag,rfl,_,_,rfl,_,_,rfl,rfl,?_⟩
  refine⟨_,rfl,_,rfl,a,_,rfl,.inr (SqT.of (u _ _ ha)),rfl,rfl,_,rfl,?_⟩
  show if (if false=true then !inV (V.int (st.2:Nat)) [V.int (g.1:Nat),V.int (g.2:Nat)] else inV (V.int (st.2:Nat)) [V.int (g.1:Nat),V.int (g.2:Nat)])=true then _ else _
  rw[Jb Jp,zmU]
  by_cases on:st.2=g.1\/st.2=g.2
  ·rw[JE on]
   refine iteT ?_
   have c:zaD back st i g=(st.1.set i (1-st.1.getD i 0),if (if back then 1-st.1.getD i 0 else st.1.getD i 0)=0 then g.1 else g.2):=by unfold zaD;rw[Jf on]
   have J:i<st.1.length:=by lia
   have tb:=W _ (L2.zgt J)
   have hb:=u _ _ n
   refine⟨_,rfl,_,rfl,d,_,_,_,rfl,rfl,SqL.of hb,zdI J,?_⟩
   refine⟨_,rfl,_,_,rfl,rfl,_,rfl,_,rfl,d,_,_,i,rfl,rfl,hb,zg6 (by rw[Jq];exact J),?_⟩
   have l:upd (upd m T (.tup [.int i,.ref a])) d (.lst ((st.1.map V.int).set i (.int (1-st.1.getD i 0)))) a=some (.tup [.int g.1,.int g.2]):=by
    rw[zah (by rintro rfl;rw[n]at ha;cases ha)];exact u _ _ ha
   have fin:∀ nx:Nat,nx=(zaD back st i g).2->(∃ B y v,([some (.ref r),some (.ref C),some (.int lane),some (.bl back),some (.ref d),some (.int nx),some (.int i),some (.ref a),some (.int (st.1.getD i 0))]:List (Option V))=[some (.ref r),some (.ref C),some (.int lane),some (.bl back),some (.ref d),some (.int (zaL back N.forks ts lane (i+1)).2),B,y,v]) /\
     Same H (upd (upd m T (.tup [.int i,.ref a])) d (.lst ((st.1.map V.int).set i (.int (1-st.1.getD i 0)))))/\upd (upd m T (.tup [.int i,.ref a])) d (.lst ((st.1.map V.int).set i (.int (1-st.1.getD i 0)))) d=some (.lst ((zaL back N.forks ts lane (i+1)).1.map V.int)):=λnx en=>by
    refine⟨⟨_,_,_,by rw[rs,en]⟩,λb o e=>?_,?_⟩
    ·rw[zah (zaf e D)];exact u _ _ (s2 b o e)
    ·rw[zag,rs,c,zdU]
   cases back with
   | false =>
    rcases tb with z|z
    ·exact⟨_,rfl,_,rfl,_,rfl,iteF ⟨_,rfl,a,_,_,_,rfl,rfl,SqT.of l,by rw[z];exact zaP (j:=0) rfl,fin g.1 (by rw[c,z];rfl)⟩⟩
    ·exact⟨_,rfl,_,rfl,_,rfl,iteF ⟨_,rfl,a,_,_,_,rfl,rfl,SqT.of l,by rw[z];exact zaP (j:=1) rfl,fin g.2 (by rw[c,z];rfl)⟩⟩
   | true =>
    rcases tb with z|z
    ·exact⟨_,rfl,_,rfl,_,rfl,iteT ⟨_,rfl,_,_,rfl,rfl,a,_,_,_,rfl,rfl,SqT.of l,by rw[z];exact zaP (j:=1) rfl,fin g.2 (by rw[c,z];rfl)⟩⟩
    ·exact⟨_,rfl,_,rfl,_,rfl,iteT ⟨_,rfl,_,_,rfl,rfl,a,_,_,_,rfl,rfl,SqT.of l,by rw[z];exact zaP (j:=0) rfl,fin g.1 (by rw[c,z];rfl)⟩⟩
  ·rw[Jv on]
   have c:zaD back st i g=st:=by unfold zaD;rw[Jb on]
   exact iteF ⟨⟨_,_,_,by rw[rs,c];rfl⟩,s2.trans u,by rw[rs,c];exact u _ _ n⟩
 ·rintro σ m ⟨⟨B,y,v,rfl⟩,s2,n⟩
  have O:=na.prs.len
  rw[O]at n
  have hh:=zdy (back:=back) (ts:=ts) ok.fk hl N.forks.length (Jg _)
  refine⟨_,rfl,d,_,rfl,.inl ⟨SqL.of n,λt Y=>?_⟩⟩
  have M:=zab Y (.tup ((zaL back N.forks ts lane N.forks.length).1.map V.int))
  refine⟨_,rfl,_,rfl,r,fr,er,ps,N,_,by rw[O];rfl,ok,na.tups (Tups.of (s2.trans M)),hh,(by show 2<=sizeLine;decide),λp R=>?_⟩
  exact k p t _ ((s2.trans M).trans (zab R _)) zag (zab R _ _ _ zag)
theorem scP:FnScope ["net","turns","lane"] ["net","turns","lane"] (zam zfi):=by trivial
theorem zib {f d:Addr}{fd e:FuncData}(F:Fun K "passed" "passed" zfi f fd) (a:Use P w K mg base "run_through" ["net","turns","lane","back"] 2 zk8 d e):FnOk P w K mg base CX0 3 f fd ["net","turns","lane"] (zhw false):=by
 refine F.ok scP (λvs H Q E h=>?_) (λcdv A outer s H vs Q E c h=>?_)
 ·obtain⟨r,fr,er,ps,N,b,ts,lane,rfl,_⟩:=h
  rfl
 obtain⟨r,fr,er,ps,N,b,ts,lane,rfl,q⟩:=h
 refine⟨_,(@zai _ _ _ (@zav _ _ _ _ (@zaj _ _ _ _ _ _ _ _ _ _ _ _ _ _ _ _ a.ok c (by rfl) a.m a.kp a.b .nil zax (@zaa _ _ _ _ _ (@qv _ 0 _ _ (by trivial)) (@zaa _ _ _ _ _ (@qv _ 1 _ _ (by trivial)) (@zaa _ _ _ _ _ (@qv _ 2 _ _ (by trivial)) (@zaa _ _ _ _ _ zjM zac (by rfl)) (by rfl)) (by rfl)) (by rfl)) (by decide) (by rfl) (by rfl)))),?_⟩
 exact⟨_,rfl,_,rfl,_,rfl,[.ref r,.ref b,.int lane],false,rfl,r,fr,er,ps,N,b,ts,lane,rfl,q⟩
end
end K35
namespace L2
open PySem PySem.Spec PyProof.Rows Own
theorem ziF {P:Program}{w:World}{K:PySem.W.Frag}{mg mb:Str->Option Value}{CX:CXT}{k:Nat}{O a:Addr}{fd:FuncData}{x:Str}{sp:Sp}{f:Shared}{vs:List Value}{ns:List Int}(ts:List Addr)
  (Q:K.In f.heap) (E:f.heap.Ns mainGlobals mg) (hb:f.heap.Ns builtinsNs mb) (U:∀ x:Str,x≠"__name__"->mb x=bootBuiltins x) (L:f.heap.NoLimit) (hg:f.gens = #[])
  (ha:f.heap.get? a=some { cls:=.type "list",data:=.seq vs.toArray }) (hi:IntsAre vs ns) (Y:ns.length<=sizeLine) (hr:Room k callerA)
  (A:∀ p∈ts,f.heap.get? p=some (PySem.W.tabObj #[])/\K.lookup p=none/\∃ c,PySem.W.codeHdIn K c p=true)
  (T:∃ bm ob,mg "__builtins__" = some (.ref bm)/\bm≠builtinsNs/\f.heap.get? bm=some ob/\ob.cls=.type "module"/\ob.dict=some builtinsNs/\ob.data=.plain)
  (F:∀ base:Heap,K.In base->base.Ns mainGlobals mg->(∀ p∈ts,base.BuiltinsAt mg p)->FnOk P w K mg base CX k O fd [x] sp) (G:∀ (s:Shared) (u:Value),BindsTo s fd ⟨[u],[]⟩ [(x,u)])
  (S:∀ H:Hp,SqL K H a (ns.map V.int)->(∀ p∈ts,H p=some (.tbl #[]))->sp [.ref a] H (λv _=>v=.bl true) λ_ _ _=>False)
  (W:∀ H e s',CX [] H f (λ_ _ _=>False) e s'->False) :
  codeAny (model P w) callerA (.call (.ref O) ⟨[.ref a],[]⟩) (λr s'=>r=.ok (.ret (.bool true))/\OldK f.heap s'.heap/\s'.os=f.os/\AllBare s'.gens) f:=by
 have X:=zek hi
 have J:=hi.length
 have aT:a∉ts:=λh=>by
  have:=(A a h).1
  rw[ha]at this;cases this
 have core:∀ H:Hp,(∀ b,H b=none\/(b=a/\∃ o xs,H b=some (.frz o (.lst xs)))\/(b∈ts/\H b=some (.tbl #[])))->(∀ p∈ts,H p=some (.tbl #[]))->SqL K H a (ns.map V.int)->HOk P w H f.heap->(H a≠none->K.lookup a=none) ->
   codeAny (model P w) callerA (.call (.ref O) ⟨[.ref a],[]⟩) (λr s'=>r=.ok (.ret (.bool true))/\OldK f.heap s'.heap/\s'.os=f.os/\AllBare s'.gens) f:=by
  intro H M Z hS hok hK
  have g:∀ {b:Addr}{o:Obj},f.heap.get? b=some o->H b=none->(hidT f.heap H).get? b=some o:=λe n=>zkm e n
  have R:∀ {b:Addr}{o:Obj}{es:Array DictEntry}{ep:Nat},f.heap.get? b=some o->o.data=.dict es ep->H b=none:=λ{b o es ep} e d=>by
   rcases M b with z|⟨z,_⟩|⟨z,_⟩
   ·exact z
   ·rw[z,ha]at e
    cases e
    cases (show Data.seq vs.toArray _=Data.dict es ep from d)
   ·rw[(A b z).1]at e
    cases e
    cases (show Data.fields #[]=Data.dict es ep from d)
  have j:∀ {b:Addr}{m:Str->Option Value},f.heap.Ns b m->(hidT f.heap H).Ns b m:=λ{b m} ⟨o,es,ep,e,d,r⟩=>⟨o,es,ep,g e (R e d),d,r⟩
  have I:K.In (hidT f.heap H):=λb o e=>g (Q b o e) (by
   rcases M b with z|⟨z,y⟩|⟨z,_⟩
   ·exact z
   ·obtain⟨o',xs,q⟩:=y
    rw[z]at e q
    rw[hK (by rw[q];simp)]at e;cases e
   ·rw[(A b z).2.1]at e;cases e)
  have hM:Mod K mg (hidT f.heap H):=⟨I,j E,⟨mb,j hb,U⟩,let ⟨mc,h1,h2⟩:=L;⟨mc,j h1,h2⟩⟩
  have e0:Env0 P w K mg (hidT f.heap H) callerA [] f H:=⟨rfl,hM,λb o e=>zlH e,Nat.le_of_eq (ziN _ _),trivial,λb hb=>absurd (show b∈([]:List Addr) from hb) (by simp),hok,.of_eq hg⟩
  have hB:∀ p∈ts,(hidT f.heap H).BuiltinsAt mg p:=λp B=>by
   obtain⟨bm,ob,b1,b2,D,b4,b5,l⟩:=T
   refine⟨bm,ob,b1,b2,λz=>?_,λz=>?_,g D ?_,b4,b5,l⟩
   ·obtain⟨og,es,ep,e,d,_⟩:=E
    rw[<- z,D]at e
    rw[<- Jn e,l]at d;cases d
   ·have e:=(A p B).1
    rw[<- z,D]at e
    rw[Jn e]at l;cases l
   ·rcases M bm with z|⟨z,_⟩|⟨z,_⟩
    ·exact z
    ·rw[z,ha]at D
     rw[<- Jn D]at l;cases l
    ·rw[(A bm z).1]at D
     rw[<- Jn D]at l;cases l
  refine codeAny_mono ((F _ I (j E) hB).run callerA [] f H ⟨[.ref a],[]⟩ [.ref a] [.ref a] _ _ hr e0 (G f (.ref a)) (.cons rfl .nil) (S H hS Z)) λr s' h=>?_
  cases r with
  | error e=>exact(W H e s' h).elim
  | ok fl =>
   cases fl with
   | next=>exact False.elim h
   | brk=>exact False.elim h
   | cont=>exact False.elim h
   | ret u =>
    obtain⟨v,H',os,bare,un,t,r',q⟩:=h
    have q':v=.bl true:=q
    subst q'
    obtain rfl:u=Value.bool true:=r'
    have kept:∀ b o,f.heap.get? b=some o->b∉ts->s'.heap.get? b=some o:=λb o e nb=>by
     rcases M b with z|⟨_,ob,xs,z⟩|⟨z,_⟩
     ·exact un.keep b o e z (λy=>absurd (show b∈([]:List Addr) from y) (by simp)) (by simp)
     ·have z2:=un.frzs b ob _ z
      obtain⟨e1,_⟩:=hok b _ z
      obtain⟨e2,_⟩:=t b _ z2
      rw[e]at e1;cases e1
      exact e2
     ·exact absurd z nb
    have tabs:∀ b∈ts,∃ more,s'.heap.get? b=some (PySem.W.tabObj (#[]++more)):=λb hb=>by
     obtain⟨more,z⟩:=un.tbls b _ (Z b hb)
     exact⟨more,t b _ z⟩
    refine⟨rfl,⟨λb o e=>?_,λb o e=>un.there b o e (by simp)⟩,os,bare⟩
    by_cases hb:b∈ts
    ·obtain⟨t1,_,c,t3⟩:=A b hb
     rw[t1]at e
     cases e
     obtain⟨o2,ws,_,_,_,_,_,_,_,g1,g2,g3,g4,_⟩:=PySem.W.codeHd_of_K Q t3
     obtain⟨more,z⟩:=tabs b hb
     exact .inr (.inl ⟨⟨c,o2,ws,g1,g2,g3,g4⟩,rfl,#[],more,rfl,z⟩)
    ·exact .inl (kept b o e hb)
 have tab:∀ {H:Hp}{p:Addr},p∈ts->ObjOk P w H f.heap p (.tbl #[]):=λB=>(A _ B).1
 cases N:K.lookup a with
 | some o =>
  have e:=Q a o N
  rw[ha]at e
  cases e
  refine core (λb=>if b∈ts then some (.tbl #[]) else none) (λb=>?_) (λp B=>Jf B) (.inr ⟨_,vs.toArray,_,N,rfl,rfl,rfl,by rw[Jm,J];exact Y,by simpa using X⟩) (λb u z=>?_) λz=>absurd (Jb aT) z
  ·by_cases hb:b∈ts
   ·exact .inr (.inr ⟨hb,Jf hb⟩)
   ·exact .inl (Jb hb)
  ·by_cases hb:b∈ts
   ·have i:=(Jf hb).symm.trans z
    cases i
    exact tab hb
   ·have i:=(Jb hb).symm.trans z
    cases i
 | none =>
  refine core (λb=>if b∈ts then some (.tbl #[]) else if b=a then some (.frz { cls:=.type "list",data:=.seq vs.toArray } (.lst (ns.map V.int))) else none) (λb=>?_) (λp B=>Jf B) (.inl (.inr ⟨{ cls:=.type "list",data:=.seq vs.toArray },(Jb aT).trans (Jf rfl)⟩)) (λb u z=>?_) λ_=>N
  ·by_cases hb:b∈ts
   ·exact .inr (.inr ⟨hb,Jf hb⟩)
   ·by_cases C:b=a
    ·exact .inr (.inl ⟨C,_,_,(Jb hb).trans (Jf C)⟩)
    ·exact .inl ((Jb hb).trans (Jb C))
  ·by_cases hb:b∈ts
   ·have i:=(Jf hb).symm.trans z
    cases i
    exact tab hb
   ·by_cases C:b=a
    ·have i:=((Jb hb).trans (Jf C)).symm.trans z
     cases i
     subst C
     exact⟨ha,by rw[Jq];exact Y,vs,_,X,ha⟩
    ·have i:=((Jb hb).trans (Jb C)).symm.trans z
     cases i
theorem zjr {l:PySem.W.OpenLaw}{n k:Nat}{q:Program}{loose:List Str}{N:(Str->Option Value)->Heap->Prop}{A:World->Heap->Prop}{d:DefRec}{K:Params->PySem.W.Frag}{CX:CXT}{sp:PySem.W.Frag->Sp}{x:Str}(ts:List Addr)
  (D:l.most=some n) (r:n<=sizeLine) (y:d.params.defaults=[]) (C:Room k callerA)
  (I:∀ (w:World) (h:Heap),A w h->(K w.params).In h/\∀ p∈ts,h.get? p=some (PySem.W.tabObj #[]))
  (F:∀ (w:World) (mg:Str->Option Value) (i:Addr) (h:Heap),(K w.params).In h->h.Ns mainGlobals mg->mg d.name=some (.ref i)->(∀ p∈ts,(K w.params).lookup p=none/\∃ c,PySem.W.codeHdIn (K w.params) c p=true) /\
   ∃ fd:FuncData,(∀ (s:Shared) (u:Value),BindsTo s fd ⟨[u],[]⟩ [(x,u)]) /\
    ∀ base:Heap,(K w.params).In base->base.Ns mainGlobals mg->(∀ p∈ts,base.BuiltinsAt mg p)->FnOk l.prog w (K w.params) mg base CX k i fd [x] (sp (K w.params)))
  (m:∀ (K:PySem.W.Frag) (H:Hp) (a:Addr) (ns:List Int),ns.length<=n->SqL K H a (ns.map V.int)->(∀ p∈ts,H p=some (.tbl #[]))->sp K [.ref a] H (λv _=>v=.bl true) λ_ _ _=>False)
  (z:∀ (H:Hp) (s:Shared) (e:Value) (s':Shared),CX [] H s (λ_ _ _=>False) e s'->False) :
  PySem.W.WalkO q loose N A l.row.toRowW d [] (λf vs=>PySem.call f vs):=by
 refine Att.attach_call D y λw s₀ b mg mb i o pm cd doc a vs ns G Y P hd O t g hints hlen E=>?_
 obtain⟨B,tb⟩:=I w _ Y
 obtain⟨tk,fd,hb,M⟩:=F w mg i _ B G.T.g t
 exact ziF ts B G.T.g G.T.b G.T.builtins G.T.nolimit E g hints (Y3 hlen r) C (λp j=>⟨tb p j,(tk p j).1,(tk p j).2⟩) G.T.bmain M hb (λH L J=>m (K w.params) H a ns hlen L J) λH e s'=>z H b e s'
structure FunC (K:PySem.W.Frag) (x qual:Str) (st:Stmt) (f:Addr) (fd:FuncData) (c:Addr):Prop where
 ex:∃ (oc:Value) (od:Option Addr) (kV doc pm:Value) (an:Option Addr) (ct:Value) (osl:Array (Option Value)),
  fd=PySem.W.fnOf x qual (zbL st) (zbf st) (zam st) .none kV doc pm an (.ref c) ct/\K.lookup f=some ⟨oc,od,.func fd,osl⟩/\PySem.W.codeIn K (.ref c) qual=true
 kp:PySem.W.keepIn K (.ref f)=true
theorem FunC.ok {P:Program}{w:World}{K:PySem.W.Frag}{mg:Str->Option Value}{base:Heap}{x qual:Str}{st:Stmt}{f c:Addr}{fd:FuncData}{N ps:List Str}{k:Nat}{sp:Sp}(F:FunC K x qual st f fd c) (S:FnScope N ps (zam st)) (len:∀ vs H Q E,sp vs H Q E->vs.length=ps.length)
  (a:∀ (A:Around) (outer:List Env) (s:Shared) (H:Hp) (vs:List V) (Q:VK) (E:XK),Room k (A.deeper (envOfC qual (zam st) s.heap.objs.size f (.ref c)))->sp vs H Q E ->
   ∃ t,PSs (cxOf CX0 P w K mg base N qual (zam st) f (.ref c) A outer s H E).nox (zbf st) t/\t { nx:=λ_ H'=>Q .non H',rt:=Q } (zds N vs) H):FnOk P w K mg base CX0 (k+1) f fd ps sp:=by
 obtain⟨oc,od,kV,doc,pm,an,ct,osl,rfl,e,d⟩:=F.ex
 refine zmY e d S len λA outer s H vs Q E g b=>?_
 obtain⟨t,h,q⟩:=a A outer s H vs Q E g b
 exact⟨t,h.nox,q⟩
end L2
namespace L2
open PySem PySem.Spec PyProof.Rows Own Bn
def zd0 (N:Nt) (ts:List Int) (lane:Nat):List Int:=(zaL false N.forks ts lane N.forks.length).1
def passE (N:Nt) (ts:List Int) (lane:Nat):Nat:=N.ends.idxOf (zaL false N.forks ts lane N.forks.length).2
def zbE (N:Nt):KN->Nat->Option KN
 | [.inr ts,.inl r],m=>if ((passE N ts m:Nat):Int)=r then some (stK (zd0 N ts m) [(r+1)%(N.lanes:Nat)]) else none
 | _,_=>none
def OkP (N:Nt) (k:KN):Prop:=∃ (ts:List Int) (r:Nat),k=stK ts [(r:Nat)]/\ts.length=N.forks.length/\Bits ts/\r<N.lanes
theorem OkP.st {N:Nt}(ok:Nt.Ok N) {k:KN}(h:OkP N k):StOk N.forks.length 1 k:=by
 obtain⟨ts,r,rfl,h1,b,c⟩:=h
 refine⟨ts,[(r:Nat)],rfl,h1,b,rfl,λx a=>?_⟩
 rw[Je.mp a]
 have:=ok.l16
 lia
theorem zh4 (N:Nt) (ts:List Int) (lane:Nat):(zd0 N ts lane).length=ts.length:=zc3 _
theorem zgU {N:Nt}{ts:List Int}{lane:Nat}(h:Bits ts):Bits (zd0 N ts lane):=zcA h _
theorem zf2 {N:Nt}(ok:Nt.Ok N) {s t:KN}{m:Nat}(h:OkP N s) (e:zbE N s m=some t):OkP N t:=by
 obtain⟨ts,r,rfl,h1,b,c⟩:=h
 have a:(if ((passE N ts m:Nat):Int)=(r:Nat) then some (stK (zd0 N ts m) [((r:Nat)+1)%(N.lanes:Nat)]) else none)=some t:=e
 split at a
 ·cases a
  refine⟨zd0 N ts m,(r+1)%N.lanes,?_,(zh4 _ _ _).trans h1,zgU b,Nat.mod_lt _ (by have:=ok.l1;lia)⟩
  rw[Int.natCast_emod];rfl
 ·cases a
def zdP:Sp:=λvs H Q _=>∃ r fr er ps N b k,∃ lane:Nat,vs=[.ref r,.ref b,.int (lane:Nat)]/\Nt.Ok N/\NetAt H r fr er ps N/\NKey H k b/\OkP N k/\lane<N.lanes /\
 (∀ a,Same H a->zbE N k lane=none->Q .non a)/\(∀ a c t,Same H a->zbE N k lane=some t->NKey a t c->Q (.ref c) a)
def zcG:LSpc:=λvals vs H Q E=>∃ r b,∃ lane:Nat,vals=[.ref r]/\vs=[.ref b,.int (lane:Nat)]/\zdP [.ref r,.ref b,.int (lane:Nat)] H Q E
theorem zkd {H:Hp}{r fr er:Addr}{ps:List V}{N:Nt}{moves:List Nat}(ok:Nt.Ok N) (na:NetAt H r fr er ps N) (lt:∀ m∈moves,m<N.lanes):Led zcG [.ref r] (zbE N) (OkP N) moves H:=λH1 s b m Q t os d e c a =>
 ⟨r,b,m,rfl,rfl,r,fr,er,ps,N,b,s,m,rfl,ok,na.tups t,e,os,lt m d,c,a⟩
def TabQ (q:Str) (Pt:Addr) (H:Hp):Prop:=∃ l,H Pt=some (.tbl (triples l).toArray)/\TabOk H q l
theorem TabQ.keep {q:Str}{Pt:Addr}{H H':Hp}(t:TabQ q Pt H) (k:∀ b o,H b=some o->(∃ ps,o=.tbl ps)\/(∃ u v,o=.frz u v)->H' b=some o):TabQ q Pt H':=by
 obtain⟨l,h1,a⟩:=t
 exact⟨l,k _ _ h1 (.inl ⟨_,rfl⟩),a.frz λb o u e=>k _ _ e (.inr ⟨_,_,rfl⟩)⟩
theorem TabQ.same {q:Str}{Pt:Addr}{H H':Hp}(t:TabQ q Pt H) (s:Same H H'):TabQ q Pt H':=t.keep λb o e _=>s b o e
theorem TabQ.but {q:Str}{Pt l:Addr}{H H':Hp}{xs:List V}(t:TabQ q Pt H) (b:But l H H') (h:H l=some (.lst xs)):TabQ q Pt H':=t.keep λc o e z=>b c o e λy=>by
 rw[y,h]at e
 cases e
 rcases z with ⟨_,z⟩|⟨_,_,z⟩<;>cases z
def zbB (N:Nt) (moves:List Nat) (most:Nat):LRes:=zbe (zbE N) moves most (most+1) [(stK (List.replicate N.forks.length 0) [0],List.replicate N.lanes 0)] [] []
def zdQ:Sp:=λvs H Q _=>∃ r fr er ps N,vs=[.ref r]/\Nt.Ok N/\NetAt H r fr er ps N/\∀ p H',Same H H'->H' p=some (.tup ((List.replicate N.forks.length (0:Int)).map V.int))->Q (.ref p) H'
def zdR:Sp:=λvs H Q _=>∃ r fr er ps N,vs=[.ref r]/\Nt.Ok N/\NetAt H r fr er ps N/\∀ p H',Same H H'->NKey H' (stK (List.replicate N.forks.length 0) [0]) p->Q (.ref p) H'
structure Whole (Ok:KN->Prop) (most:Nat) (ls:List LvL):Prop where
 ok:∀ lv∈ls,∀ p∈lv,Ok p.1
 few:(ls.map List.length).sum<=most
theorem zdn {step:KN->Nat->Option KN}{Ok:KN->Prop}{moves:List Nat}{most:Nat}(g:∀ s m t,Ok s->m∈moves->step s m=some t->Ok t):∀ (m:Nat) (level seen:LvL) (ls a:List LvL),Whole Ok most ls->(ls.map List.length).sum=seen.length->seen.length<=most->(∀ p∈level,Ok p.1)->zbe step moves most m level seen ls=.whl a->Whole Ok most a
 | 0,_,_,_,_,_,_,_,_,e=>by cases e
 | m+1,level,seen,ls,a,d,i,le,lo,e=>by
  by_cases c:level=[]
  ·subst c;rw[zdo]at e;cases e;exact d
  by_cases h:most<seen.length+level.length
  ·rw[zdp c h]at e;cases e
  by_cases f:(zbm step (seen++level) moves level).fl=[]
  ·rw[zeg c h f]at e
   have e2:((ls++[level]).map List.length).sum=(seen++level).length:=by rw[JY,List.sum_append,i,Jd];rfl
   refine zdn g m _ (seen++level) _ a ⟨λlv j p b=>?_,?_⟩ e2 (by rw[Jd];lia) (λp b=>?_) e
   ·rcases JB.mp j with z|z
    ·exact d.ok lv z p b
    ·rw[Je.mp z]at b;exact lo p b
   ·rw[e2,Jd];lia
   ·exact(zd2 (step:=step) (seen:=seen++level) (moves:=moves) (Ok:=Ok) level λp b k l t e=>g _ _ _ (lo p b) l e).ok p b
  ·rw[zdq c h f]at e;cases e
theorem TellR.kept {P:Program}{w:World}{H H':Hp}{p:Addr}{R:LRes}(h:TellR P w H p R) (k:∀ b o,H b=some o->(∀ q,o≠FZ q)->H' b=some o):TellR P w H' p R:=by
 have t:Tups H H':=λb xs e=>k b _ e λq z=>by cases z
 cases R with
 | opn=>exact t _ _ h
 | brk c=>obtain⟨b,h1,a⟩:=h;exact⟨b,t _ _ h1,t _ _ a⟩
 | whl ls =>
  obtain⟨l,as,h1,a,d⟩:=h
  refine⟨l,as,t _ _ h1,k _ _ a (λq z=>by cases z),?_⟩
  clear h1 a
  induction d with
  | nil=>exact .nil
  | cons q _ ih =>
   obtain⟨xs,e,le⟩:=q
   exact .cons ⟨xs,k _ _ e (λq z=>by cases z),le.tups t⟩ ih
theorem zgK {cs:List (Str × Addr)}{H:Hp}(fz:CellsFz cs H):∀ b o,H b=some o->(∀ q,o≠FZ q)->za7 cs H b=some o:=λb o e n=>by
 rw[zaF];· exact e
 ·intro hb
  obtain⟨q,z⟩:=fz b hb
  rw[e]at z
  exact n q (Jn z)
theorem zeD {N:Nt}(ok:Nt.Ok N):OkP N (stK (List.replicate N.forks.length 0) [0]):=⟨_,0,rfl,YE,λt a=>.inl (List.eq_of_mem_replicate a),ok.l1⟩
end L2
namespace K35
open PySem L2 Own Bn
abbrev zfk:Stmt:=top 9
abbrev zfl:Stmt:=top 15
abbrev zhL:Stmt:=top 16
abbrev zhH:Stmt:=top 14
theorem zgo (n:Nat):List.replicate n (V.int 0)=(List.replicate n (0:Int)).map V.int:=(List.map_replicate).symm
theorem zgI {ls:List LvL}{lv:LvL}(h:lv∈ls):lv.length<=(ls.map List.length).sum:=by
 induction ls with
 | nil=>cases h
 | cons a ls ih =>
  show lv.length<=a.length+(ls.map List.length).sum
  rcases Jt.mp h with rfl|z
  ·exact Nat.le_add_right _ _
  ·exact Y3 (ih z) (Nat.le_add_left _ _)
section
variable {P:Program}{w:World}{K:PySem.W.Frag}{mg:Str->Option Value}{base:Heap}
theorem scFt:FnScope ["net"] ["net"] (zam zfk):=by trivial
theorem zif {f:Addr}{fd:FuncData}(F:Fun K "first_turns" "first_turns" zfk f fd) (G:Mgs mg):FnOk P w K mg base CX0 1 f fd ["net"] zdQ:=by
 refine F.ok scFt (λvs H Q E h=>?_) (λcdv A outer s H vs Q E c h=>?_)
 ·obtain⟨r,fr,er,ps,N,rfl,_⟩:=h
  rfl
 obtain⟨r,fr,er,ps,N,rfl,ok,na,k⟩:=h
 refine⟨_,(@zai _ _ _ (@zav _ _ _ _ (@zap _ _ _ _ _ _ _ _ zh6 (@zaz _ _ _ _ _ (@zaa _ _ _ _ _ zad zac (by rfl))) (@zay _ _ _ _ _ _ _ _ _ zas (by rfl) G.len Yn (@zaa _ _ _ _ _ (@zaA _ _ _ _ _ _ _ zaS (@qv _ 0 _ _ (by trivial)) zad (λ_ _=>rfl)) zac (by rfl)) (by decide) (by decide) (by rfl) (by rfl))))),?_⟩
 refine⟨by show 1<=sizeLine;decide,λt b=>?_⟩
 have s1:=zab b (.tup [.int 0])
 have a:=na.prs.len
 have fm:=ok.fm
 refine⟨_,rfl,r,_,_,_,rfl,rfl,SqT.of (s1 _ _ na.net),rfl,fr,ps,rfl,.inr (SqT.of (s1 _ _ na.forks)),t,_,ps.length,rfl,rfl,zag,by lia,λp H' s' h'=>k p H' (s1.trans s') ?_⟩
 rw[h',zgo,a]
theorem scFp:FnScope ["net"] ["net"] (zam zfl):=by trivial
theorem zig {f d:Addr}{fd dT:FuncData}(F:Fun K "first_pair" "first_pair" zfl f fd) (a:Use P w K mg base "first_turns" ["net"] 1 zdQ d dT):FnOk P w K mg base CX0 2 f fd ["net"] zdR:=by
 refine F.ok scFp (λvs H Q E h=>?_) (λcdv A outer s H vs Q E b h=>?_)
 ·obtain⟨r,fr,er,ps,N,rfl,_⟩:=h
  rfl
 obtain⟨r,fr,er,ps,N,rfl,ok,na,k⟩:=h
 refine⟨_,(@zai _ _ _ (@zav _ _ _ _ (@zaz _ _ _ _ _ (@zaa _ _ _ _ _ (@zaj _ _ _ _ _ _ _ _ _ _ _ _ _ _ _ _ a.ok b (by rfl) a.m a.kp a.b .nil zax (@zaa _ _ _ _ _ (@qv _ 0 _ _ (by trivial)) zac (by rfl)) (by decide) (by rfl) (by rfl)) (@zaa _ _ _ _ _ zad zac (by rfl)) (by rfl))))),?_⟩
 refine⟨_,rfl,r,fr,er,ps,N,rfl,ok,na,λt H1 s1 h1=>⟨by show 2<=sizeLine;decide,λp c=>?_⟩⟩
 have s2:=zab c (.tup [.ref t,.int 0])
 exact k p _ (s1.trans s2) (zm4 (is:=[0]) (t:=t) zag (s2 _ _ h1))
theorem scPb:FnScope ["net","pair","lane","turns","rest","onward","end"] ["net","pair","lane"] (zam zhL):=by trivial
theorem zjT {f v:Addr}{fd x:FuncData}(F:Fun K "pair_behind" "pair_behind" zhL f fd) (d:Use P w K mg base "passed" ["net","turns","lane"] 3 (zhw false) v x):FnOk P w K mg base CX0 4 f fd ["net","pair","lane"] zdP:=by
 refine F.ok scPb (λvs H Q E h=>?_) (λcdv A outer s H vs Q E n h=>?_)
 ·obtain⟨r,fr,er,ps,N,b,k,lane,rfl,_⟩:=h
  rfl
 obtain⟨r,fr,er,ps,N,b,k,lane,rfl,ok,na,l,⟨ts,rest,rfl,tl,bits,B⟩,j,i,g⟩:=h
 refine⟨_,(@zae _ _ _ _ _ (@zaX _ _ _ _ _ _ (@qv _ 1 _ _ (by trivial)) (@zaT _ _ _ _ _ _ rfl (@zak _ _ _ _ _ (@zal _ _ 3 _ scPb.nd rfl (.inl rfl) (by trivial)) (@zak _ _ _ _ _ (@zal _ _ 4 _ scPb.nd rfl (.inl rfl) (by trivial)) zaG (by rfl)) (by rfl)) (by rfl) (by rfl)) (by rfl) (by rfl) (by rfl)) (@zae _ _ _ _ _ (@zaX _ _ _ _ _ _ (@zaj _ _ _ _ _ _ _ _ _ _ _ _ _ _ _ _ d.ok n (by rfl) d.m d.kp d.b .nil zax (@zaa _ _ _ _ _ (@qv _ 0 _ _ (by trivial)) (@zaa _ _ _ _ _ (@qv _ 3 _ _ (by trivial)) (@zaa _ _ _ _ _ (@qv _ 2 _ _ (by trivial)) zac (by rfl)) (by rfl)) (by rfl)) (by decide) (by rfl) (by rfl)) (@zaT _ _ _ _ _ _ rfl (@zak _ _ _ _ _ (@zal _ _ 5 _ scPb.nd rfl (.inl rfl) (by trivial)) (@zak _ _ _ _ _ (@zal _ _ 6 _ scPb.nd rfl (.inl rfl) (by trivial)) zaG (by rfl)) (by rfl)) (by rfl) (by rfl)) (by rfl) (by rfl) (by rfl)) (@zae _ _ _ _ _ (@zbj _ _ _ _ _ _ _ _ (@zaE _ _ _ _ _ _ _ _ zmA (@qv _ 6 _ _ (by trivial)) (@qv _ 4 _ _ (by trivial)) (zaQ _)) (@zai _ _ _ (@zav _ _ _ _ zh1)) zaM) (@zai _ _ _ (@zav _ _ _ _ (@zaz _ _ _ _ _ (@zaa _ _ _ _ _ (@qv _ 5 _ _ (by trivial)) (@zaa _ _ _ _ _ (@zap _ _ _ _ _ _ _ _ zbZ (@zap _ _ _ _ _ _ _ _ za6 (@qv _ 4 _ _ (by trivial)) zad) (@zaA _ _ _ _ _ _ _ zaS (@qv _ 0 _ _ (by trivial)) zad (λ_ _=>rfl))) zac (by rfl)) (by rfl)))))))),?_⟩
 obtain⟨t,hb,m⟩:=zhu l
 refine⟨_,rfl,b,_,rfl,SqT.of hb,rfl,_,_,rfl,_,_,rfl,rfl,?_⟩
 refine⟨_,rfl,_,rfl,_,rfl,r,fr,er,ps,N,t,ts,lane,rfl,ok,na,m,tl,bits,j,λp a H1 s1 u e=>?_⟩
 refine⟨p,_,rfl,SqT.of u,rfl,_,_,rfl,_,_,rfl,rfl,?_⟩
 have st:zbE N (stK ts [(rest:Nat)]) lane=if ((passE N ts lane:Nat):Int)=(rest:Nat) then some (stK (zd0 N ts lane) [((rest:Nat)+1)%(N.lanes:Nat)]) else none:=rfl
 refine⟨_,rfl,_,rfl,rfl,_,rfl,?_⟩
 by_cases c:((passE N ts lane:Nat):Int)=(rest:Nat)
 ·rw[Jf c]at st
  have y:((List.idxOf (zaL false N.forks ts lane N.forks.length).snd N.ends:Nat):Int)=(rest:Nat):=c
  rw[show (!decide (V.int ↑(List.idxOf (zaL false N.forks ts lane N.forks.length).snd N.ends)=V.int ↑rest))=false from by rw[JE (JX V.int y)];rfl]
  refine iteF ⟨_,rfl,_,rfl,_,_,rfl,rfl,_,rfl,r,_,_,_,rfl,rfl,SqT.of (s1 _ _ na.net),rfl,_,_,rfl,rfl,by have:=ok.l1;lia,by show 2<=sizeLine;decide,λq o=>?_⟩
  have s2:=zab o (.tup [.ref a,.int (((rest:Nat)+1)%(N.lanes:Nat))])
  exact g _ q _ (s1.trans s2) st (zm4 (is:=[((rest:Nat)+1)%(N.lanes:Nat)]) (t:=a) zag (s2 _ _ e))
 ·rw[Jb c]at st
  rw[show (!decide (V.int ↑(List.idxOf (zaL false N.forks ts lane N.forks.length).snd N.ends)=V.int ↑rest))=true from by rw[Jv (λz=>c (by injection z))];rfl]
  exact iteT (i _ s1 st)
def znu (q:Str):Stmt->Lam
 | .Assign _ (.Call _ (_::_::_::.Lambda p b s _::_) _ _) _=>⟨p,b,s,q⟩
 | _=>⟨⟨[],[],none,[],[],none,[]⟩,.Name "" ⟨0,0,0,0⟩,zam zhH,q⟩
def lamV (q:Str):Lam:=znu q ((zbf zhH).getD 0 (.Pass ⟨0,0,0,0⟩))
theorem zme {us:List Value}(h:us.length=2):∃ u v,us=[u,v]:=by
 match us,h with
 | [u,v],_=>exact⟨u,v,rfl⟩
theorem zlS {l:List (Str × NameKind)}{x:Str}{k:NameKind}(h:l.lookup x=some k):(x,k)∈l:=by
 obtain⟨a,c,e,_⟩:=List.lookup_eq_some_iff.mp h
 rw[e]
 exact JB.mpr (.inr (.head _))
theorem scLV:LamScope ["pair","lane"] ["net"] (lamV "").scope:=⟨rfl,rfl,rfl,by decide +kernel,by decide +kernel,by decide +kernel,by decide +kernel,λx a=>(show ∀ y∈(lamV "").scope.names,y.2=.free->y.1∈[("net":Str)] from by decide +kernel) _ (zlS a) rfl⟩
theorem zkj (q:Str) {f:Addr}{fd:FuncData}(a:Use P w K mg base "pair_behind" ["net","pair","lane"] 4 zdP f fd):LamQ CX0 P w K mg base 4 (lamV q) ["net"] ["pair","lane"] zcG:=by
 refine⟨scLV,λvals vs H Q E h=>?_,λcl us e pm cdv ct=>by obtain⟨u,v,rfl⟩:=zme e;rfl,λcl g c A outer s H vals vs Q E i d fz h=>?_⟩
 ·obtain⟨r,b,lane,_,rfl,_⟩:=h
  rfl
 obtain⟨r,b,lane,rfl,rfl,h⟩:=h
 refine⟨_,zaj a.ok d (by rfl) a.m a.kp a.b .nil zax (zaa (pv 2) (zaa (pv 0) (zaa (pv 1) zac))),?_⟩
 exact⟨_,rfl,_,rfl,_,rfl,h⟩
theorem zkp {sc:Scope}{x0:Str}{env:Env}(h:(sc.names.filter λy=>y.2 == .free)=[(x0,.free)]) (k:env.kindOf x0=some .cell):∀ x,(x,NameKind.free)∈sc.names->env.kindOf x=some .cell\/env.kindOf x=some .free:=λx a=>by
 have z:(x,NameKind.free)∈sc.names.filter λy=>y.2 == .free:=List.mem_filter.mpr ⟨a,rfl⟩
 rw[h]at z
 obtain⟨e,_⟩:=Prod.mk.inj (Je.mp z)
 exact .inl (e ▸ k)
theorem zmW {X:Cx}{x:Str}{i:Nat}(h1:X.N[i]?=some x) (c:X.env.scope.names.lookup x=some .cell) (b:X.fn x=true):∀ p∈[(x,i)],X.N[p.2]?=some p.1/\X.env.scope.names.lookup p.1=some .cell/\X.fn p.1=true:=λp a=>by
 rw[Je.mp a]
 exact⟨h1,c,b⟩
theorem zgc {cs:List (Str × Addr)}{x:Str}(h:cs.map (·.1)=[x]):∃ c,cs=[(x,c)]:=by
 match cs,h with
 | [(y,c)],h=>exact⟨c,by rw[show y=x from (List.cons.inj h).1]⟩
def qV:Str:=("verdict":Str)++(".<locals>.":Str)++("<lambda>":Str)
def TellW (H:Hp) (p:Addr):LRes->Prop
 | .opn=>H p=some (.tup [.str "open",.non])
 | .brk c=>∃ b,H p=some (.tup [.str "breaks",.ref b])/\H b=some (.tup (c.map V.int))
 | .whl _=>∃ b,H p=some (.tup [.str "stair",.ref b])
def zfb (q:Str) (Pt:Addr):Sp:=λvs H Q _=>∃ r fr er ps N a,∃ (moves:List Nat) (most:Nat),vs=[.ref r,.ref a,.int (most:Nat)]/\Nt.Ok N/\NetAt H r fr er ps N/\H a=some (.tup (nums moves))/\(∀ m∈moves,m<N.lanes)/\moves.length<=16/\0<most/\most<=10000/\TabQ q Pt H /\
 ∀ p H',But Pt H H'->TabQ q Pt H'->TellW H' p (zbB N moves most)->Q (.ref p) H'
theorem scVd:FnScope ["net","some","most","word","found"] ["net","some","most"] (zam zhH):=by trivial
theorem zgW {f fC fF fB c Pt:Addr}{fd dC dF dB:FuncData}(F:FunC K "verdict" "verdict" zhH f fd c) (CK:CodeK K mg base c Pt) (Z:Use P w K mg base "climbed" ["first","counts","moves","led","most"] 7 (zfg P w K (lamV qV) ["net"] zcG) fC dC) (Y:Use P w K mg base "first_pair" ["net"] 2 zdR fF dF)
  (UB:∀ F0,Use P w K mg base "book_of" ["levels"] 1 (zhB P w F0 1) fB dB):FnOk P w K mg base CX0 8 f fd ["net","some","most"] (zfb qV Pt):=by
 refine F.ok scVd (λvs H Q E h=>?_) (λA outer s H vs Q E hr h=>?_)
 ·obtain⟨r,fr,er,ps,N,sm,moves,most,rfl,_⟩:=h
  rfl
 obtain⟨r,fr,er,ps,N,sm,moves,most,rfl,ok,na,ab,mlt,ml,mp,mb,tab,k⟩:=h
 refine⟨_,(@zae _ _ _ _ _ (@zaX _ _ _ _ _ _ (zjL (E:=E0) Z.ok hr (by rfl) Z.m Z.kp Z.b [("net",0)] (by decide) (zmW rfl rfl rfl) (@zaa _ _ _ _ _ (@zaj _ _ _ _ _ _ _ _ _ _ _ _ _ _ _ _ Y.ok (hr.mono (by decide)) (by rfl) Y.m Y.kp Y.b .nil zax (@zaa _ _ _ _ _ (@qv _ 0 _ _ (by trivial)) zac (by rfl)) (by decide) (by rfl) (by rfl)) (@zaa _ _ _ _ _ (@zap _ _ _ _ _ _ _ _ zh6 (@zaz _ _ _ _ _ (@zaa _ _ _ _ _ zad zac (by rfl))) (@zaA _ _ _ _ _ _ _ zaS (@qv _ 0 _ _ (by trivial)) zad (λ_ _=>rfl))) (@zaa _ _ _ _ _ (@qv _ 1 _ _ (by trivial)) (@zaa _ _ _ _ _ (zmx (fr:=["net"]) CK rfl rfl (zkp (x0:="net") rfl rfl) rfl) (@zaa _ _ _ _ _ (@qv _ 2 _ _ (by trivial)) zac (by rfl)) (by rfl)) (by rfl)) (by rfl)) (by rfl))) (@zaT _ _ _ _ _ _ rfl (@zak _ _ _ _ _ (@zal _ _ 3 _ scVd.nd rfl (.inl rfl) (by trivial)) (@zak _ _ _ _ _ (@zal _ _ 4 _ scVd.nd rfl (.inl rfl) (by trivial)) zaG (by rfl)) (by rfl)) (by rfl) (by rfl)) (by rfl) (by rfl) (by rfl)) (@zae _ _ _ _ _ (@zbj _ _ _ _ _ _ _ _ (@zaE _ _ _ _ _ _ _ _ zb6 (@qv _ 3 _ _ (by trivial)) zc8 (zaQ _)) (@zai _ _ _ (@zav _ _ _ _ (@zaz _ _ _ _ _ (@zaa _ _ _ _ _ zc8 (@zaa _ _ _ _ _ (@zaj _ _ _ _ _ _ _ _ _ _ _ _ _ _ _ _ (UB N.forks.length).ok (hr.mono (by decide)) (by rfl) (UB 0).m (UB 0).kp (UB 0).b .nil zax (@zaa _ _ _ _ _ (@qv _ 4 _ _ (by trivial)) zac (by rfl)) (by decide) (by rfl) (by rfl)) zac (by rfl)) (by rfl))))) zaM) (@zai _ _ _ (@zav _ _ _ _ (@zaz _ _ _ _ _ (@zaa _ _ _ _ _ (@qv _ 3 _ _ (by trivial)) (@zaa _ _ _ _ _ (@qv _ 4 _ _ (by trivial)) zac (by rfl)) (by rfl))))))),?_⟩
 have l16:=ok.l16
 refine⟨_,rfl,r,fr,er,ps,N,rfl,ok,na,λb0 H1 s1 k1=>⟨by show 1<=sizeLine;decide,λt ht=>?_⟩⟩
 have s2:=zab ht (.tup [.int 0])
 refine⟨_,rfl,r,_,_,_,rfl,rfl,SqT.of (s2 _ _ (s1 _ _ na.net)),rfl,t,_,N.lanes,rfl,rfl,zag,by lia,λc0 H2 s3 U=>?_⟩
 rw[zgo]at U
 have O:=(s1.trans s2).trans s3
 obtain⟨l,hP,tok⟩:=tab.same O
 refine⟨_,rfl,l,hP,tok,λX cl l' H3 ah ai hf raw ae J kp=>?_⟩
 refine⟨_,rfl,[.ref r],rfl,λj x i v S hv=>?_,λcs D ag M nd ca out fre=>?_⟩
 ·cases j with
  | zero=>cases S;cases hv;rfl
  | succ j=>cases S
 obtain⟨a,rfl⟩:=zgc ah
 obtain⟨c2,rfl⟩:=zgc ag
 have cc:a=c2:=Jn ((ai _ (.head _)).symm.trans (M _ (.head _)))
 subst cc
 have b3:But Pt H H3:=λb o e n=>kp b o (O b o e) n
 have d:Same H3 D:=λb o e=>by
  rw[out b λhb=>by rw[fre b hb]at e;cases e];exact e
 have aa:NetAt D r fr er ps N:=(na.tups (Tups.of O)).tups λb xs e=>d _ _ (kp _ _ e (zcD e hP λz=>by cases z))
 have y:Tups H2 D:=λb xs e=>d _ _ (kp _ _ e (zcD e hP λz=>by cases z))
 have L:LamRaw D X (lamV qV) [("net",a)]:=by
  obtain⟨pm,cd,ct,oc,fs,tk,r1,r2,r3,r4⟩:=raw.ex
  exact⟨pm,cd,ct,oc,fs,tk,d _ _ r1,d _ _ r2,r3,r4⟩
 have la:LamAt D X (lamV qV) [("net",a)] [.ref r]:=L.at_ ca (JR.mpr ⟨Jw,Zd⟩) (JR.mpr ⟨Jw,Zd⟩) rfl λi x c v S hv=>⟨i,S,hv⟩
 have W:Way K D sm X (lamV qV) ["net"] zcG [("net",a)] [.ref r] (zbE N) (OkP N) moves N.lanes:=⟨.inl (y _ _ (O _ _ ab)),rfl,la,zkd ok aa mlt,mlt,λs m t os _ e=>zf2 ok os e,by lia⟩
 refine⟨b0,c0,sm,X,_,List.replicate N.lanes 0,moves,[("net",a)],[.ref r],zbE N,OkP N,N.lanes,most,rfl,(k1.tups (Tups.of (s2.trans s3))).tups y,y _ _ U,YE,zeD ok,W,by lia,ml,mp,λp C s5 tell=>?_⟩
 have af:CellsFz [("net",a)] C:=λb hb=>by
  obtain⟨o,z⟩:=ca.fz b hb
  exact⟨o,s5 _ _ z⟩
 replace tell:=TellR.kept tell (zgK af)
 have I:Same H3 (za7 [("net",a)] C):=λb o e=>by
  rw[zaF λhb=>by rw[fre b hb]at e;cases e]
  exact s5 _ _ (d _ _ e)
 have b6:But Pt H (za7 [("net",a)] C):=b3.trans (But.of I)
 have g:TabQ qV Pt (za7 [("net",a)] C):=TabQ.same ⟨l',ae,J⟩ I
 show gTup _ _ _ _ _ (za7 [("net",a)] C) _
 generalize za7 [("net",a)] C=H6 at *
 have fin:∀ (q:Addr) (vs:List V) (R:LRes),H6 q=none->zbB N moves most=R->TellW (L2.upd H6 q (.tup vs)) q R->Q (.ref q) (L2.upd H6 q (.tup vs)):=λq vs R B e z=>by
  have G:=zab B (.tup vs)
  refine k q _ (b6.trans (But.of G)) (g.same G) ?_
  rw[e];exact z
 change TellR P w H6 p (zbB N moves most) at tell
 cases u:zbB N moves most with
 | opn =>
  rw[u]at tell
  refine⟨p,_,rfl,SqT.of tell,rfl,_,_,rfl,_,_,rfl,rfl,?_⟩
  refine⟨_,rfl,rfl,false,JX V.bl (Jv λz=>absurd (V.str.inj z) (by decide)),iteF ?_⟩
  exact⟨_,rfl,_,rfl,by show 2<=sizeLine;decide,λq B=>fin q _ .opn B u zag⟩
 | brk bc =>
  rw[u]at tell
  obtain⟨b,h1,h2⟩:=tell
  refine⟨p,_,rfl,SqT.of h1,rfl,_,_,rfl,_,_,rfl,rfl,?_⟩
  refine⟨_,rfl,rfl,false,JX V.bl (Jv λz=>absurd (V.str.inj z) (by decide)),iteF ?_⟩
  exact⟨_,rfl,_,rfl,by show 2<=sizeLine;decide,λq B=>fin q _ (.brk bc) B u ⟨b,zag,zab B _ _ _ h2⟩⟩
 | whl ls =>
  rw[u]at tell
  obtain⟨ll,as,h1,h2,U⟩:=tell
  refine⟨p,_,rfl,SqT.of h1,rfl,_,_,rfl,_,_,rfl,rfl,?_⟩
  refine⟨_,rfl,rfl,true,JX V.bl (JE rfl),iteT ?_⟩
  have wh:=zdn (Ok:=OkP N) (moves:=moves) (λs m t os _ e=>zf2 ok os e) _ _ [] [] ls ⟨λlv T=>absurd T Jw,JN _⟩ rfl (JN _) (λp hp=>by rw[Je.mp hp];exact zeD ok) u
  have wf:=wh.few
  refine⟨_,rfl,ll,as,ls,rfl,h2,U,λlv T=>⟨?_,λp hp=>(wh.ok lv T p hp).st ok⟩,by lia,λq H7 G=>?_⟩
  ·have:=zgI T
   lia
  refine⟨by show 2<=sizeLine;decide,λq2 ad=>?_⟩
  have s8:=zab ad (.tup [.str "stair",.ref q])
  refine k q2 _ ((b6.trans (But.of G)).trans (But.of s8)) ((g.same G).same s8) ?_
  rw[u]
  exact⟨q,zag⟩
end
end K35
namespace Bn
open PySem L2 Own
theorem zm5 {ps:List V}{x:V}(h:ps[ps.length-1]?=some x):atI ps (-1)=some x:=by
 have ne:ps≠[]:=by rintro rfl;simp at h
 have g:ps.getLast ne=x:=by rw[List.getLast_eq_getElem];exact(Jc.mp h).2
 have e:ps=ps.dropLast++[x]:=by rw[<- g];exact(List.dropLast_concat_getLast ne).symm
 rw[e];exact zkE _ _
theorem zdF {α:Type}:∀ (xs:List α) (k:Nat) (h:k<xs.length),(xs[k]::xs.eraseIdx k).Perm xs
 | x::xs,0,_=>.refl _
 | x::xs,k+1,h=>by
  have a:k<xs.length:=by simpa using h
  have ih:=zdF xs k a
  exact(List.Perm.swap x xs[k] _).trans (ih.cons x)
end Bn
namespace L2
open PySem
theorem ziM {c:TT}{ta tb u:TS}{D:Ends}{σ:St}{H:Hp}(I:St->Hp->Prop) (key:∀ σ H,I σ H->u D σ H) (h:∀ a:Ends,(∀ σ H,I σ H->a.nx σ H)->a.rt=D.rt->tIfS c ta tb a σ H):tSeq (tIfS c ta tb) u D σ H:=h { D with nx:=u D } key rfl
theorem znD {v:V}{i:Nat}{u:TS}{D:Ends}{σ:St}{H:Hp}(h:u D (σ.set i (some v)) H):tSeq (tAsg (tC v) (zcQ i)) u D σ H:=h
theorem zch {H H':Hp}{x:Addr}(s:Same H H') (h:H' x=none):H x=none:=by
 cases e:H x with
 | none=>rfl
 | some o=>rw[s _ _ e]at h;cases h
def zmp (K:PySem.W.Frag):List V->Hp->VK->Prop:=λxs H Q=>∃ p ys,xs=[V.ref p]/\(SqL K H p ys\/SqT K H p ys)/\Q (V.int ys.length) H
theorem zjg {X:Cx}:CallR X (.builtin "len") (zmp X.K):=zas
end L2
namespace Bn
open PySem L2 Own
structure Pk3 (H:Hp) (l:Addr):Prop where
 ex:∃ a b c:Int,H l=some (.lst [.int a,.int b,.int c])/\0<=a/\0<=b/\b<2 ^ 31
theorem Pk3.keep {H H':Hp}{l:Addr}(S:Pk3 H l) (s:Same H H'):Pk3 H' l:=by
 obtain⟨a,b,c,h,r⟩:=S.ex
 exact⟨a,b,c,s _ _ h,r⟩
theorem Pk3.lst {H:Hp}{l:Addr}(S:Pk3 H l):∃ xs,H l=some (.lst xs):=by
 obtain⟨a,b,c,h,_⟩:=S.ex
 exact⟨_,h⟩
theorem Pk3.ne {H:Hp}{l p:Addr}(S:Pk3 H l) (h:H p=none):l≠p:=by
 obtain⟨xs,e⟩:=S.lst
 exact zaf e h
theorem Pk3.upd {H:Hp}{l p:Addr}{o:HO}(S:Pk3 H l) (h:l≠p):Pk3 (upd H p o) l:=by
 obtain⟨a,b,c,e,r⟩:=S.ex
 exact⟨a,b,c,by rw[zah h];exact e,r⟩
theorem But.tups3 {H H':Hp}{l:Addr}(x:But l H H') (S:Pk3 H l):Tups H H':=λa xs e=>x a _ e (by
 rintro rfl
 obtain⟨_,z⟩:=S.lst
 rw[z]at e;cases e)
def zfe (K:PySem.W.Frag):Sp:=λvs H Q _=>∃ (a:Addr) (ns:List Int) (k:Int),vs=[.ref a,.int k]/\SqL K H a (ns.map V.int)/\ns.length<=63/\0<=k/\k<=1000/\∀ l H',H l=none->Same H H'->Pk3 H' l->Q (.ref l) H'
def zbF:Sp:=λvs H Q _=>∃ (l:Addr) (m:Int),vs=[.ref l,.int m]/\0<m/\m<1073741824/\Pk3 H l/\∀ (v:Nat) H',(v:Int)<m->Pk3 H' l->But l H H'->Q (.int v) H'
def zfd:Sp:=λvs H Q _=>∃ (l p:Addr) (xs:List V),vs=[.ref l,.ref p]/\H p=some (.lst xs)/\xs.length<=100000/\Pk3 H l/\∀ t ys H',ys.Perm xs->H' t=some (.tup ys)->Pk3 H' l->But l H H'->Q (.ref t) H'
theorem zh0 {ys:List V}{es:List Nat}(p:ys.Perm (nums es)):∃ ds:List Nat,ys=nums ds/\ds.Perm es:=by
 have key:∀ {ys zs:List V},ys.Perm zs->∀ {es:List Nat},zs=nums es->∃ ds:List Nat,ys=nums ds/\ds.Perm es:=by
  intro ys zs p
  induction p with
  | nil=>intro es e;cases es with
   | nil=>exact⟨[],rfl,.refl _⟩
   | cons a b=>cases e
  | cons b _ ih =>
   intro es e
   cases es with
   | nil=>cases e
   | cons a zs =>
    injection e with g e2
    obtain⟨cs,h1,f⟩:=ih e2
    exact⟨a::cs,by rw[h1,g];rfl,f.cons _⟩
  | swap b c l =>
   intro es e
   cases es with
   | nil=>cases e
   | cons a zs=>cases zs with
    | nil=>cases e
    | cons d zs =>
     injection e with g e2
     injection e2 with e2 m
     exact⟨d::a::zs,by rw[g,e2,m];rfl,.swap _ _ _⟩
  | trans _ _ i h =>
   intro es e
   obtain⟨cs,h1,f⟩:=h e
   obtain⟨ds,k,j⟩:=i h1
   exact⟨ds,k,j.trans f⟩
 exact key p rfl
end Bn
namespace K35
open PySem L2 Own Bn
abbrev zli:Stmt:=top 18
abbrev zlf:Stmt:=top 19
abbrev zhN:Stmt:=top 20
section
variable {P:Program}{w:World}{K:PySem.W.Frag}{mg:Str->Option Value}{base:Heap}
theorem scK:FnScope ["_law_left_here","_law_many","_law_digit"] ["_law_left_here","_law_many"] (zam zlf):=by trivial
theorem zlz {f:Addr}{fd:FuncData}(F:Fun K "_law_pick" "_law_pick" zlf f fd):FnOk P w K mg base CX0 1 f fd ["_law_left_here","_law_many"] zbF:=by
 refine F.ok scK (λvs H Q E h=>?_) (λcdv A outer s H vs Q E C h=>?_)
 ·obtain⟨l,m,rfl,_⟩:=h
  rfl
 obtain⟨l,m,rfl,g,r,S,k⟩:=h
 obtain⟨a,b,c,d,n,u,b1⟩:=S.ex
 refine⟨_,(@zae _ _ _ _ _ (@zbj _ _ _ _ _ _ _ _ (@zaE _ _ _ _ _ _ _ _ zjO (@zaA _ _ _ _ _ _ _ zat (@qv _ 0 _ _ (by trivial)) zad (λ_ _=>rfl)) zad (zaQ _)) (@zae _ _ _ _ _ (@zaw _ _ 2 _ _ _ _ scK.nd rfl (.inl rfl) (@zap _ _ _ _ _ _ _ _ zbZ (@zaA _ _ _ _ _ _ _ zat (@qv _ 0 _ _ (by trivial)) zad (λ_ _=>rfl)) (@qv _ 1 _ _ (by trivial))) (by rfl) (by trivial)) (@zae _ _ _ _ _ (@zaX _ _ _ _ _ _ (@zap _ _ _ _ _ _ _ _ zb5 (@zaA _ _ _ _ _ _ _ zat (@qv _ 0 _ _ (by trivial)) zad (λ_ _=>rfl)) (@qv _ 1 _ _ (by trivial))) (@zcN _ _ _ _ _ _ _ (@qv _ 0 _ _ (by trivial)) zad zbo (by intro _;rfl)) (by rfl) (by rfl) (by rfl)) (@zai _ _ _ (@zav _ _ _ _ (@qv _ 2 _ _ (by trivial)))))) zaM) (@zae _ _ _ _ _ (@zaX _ _ _ _ _ _ (@zap _ _ _ _ _ _ _ _ za6 (@zaA _ _ _ _ _ _ _ zat (@qv _ 0 _ _ (by trivial)) zad (λ_ _=>rfl)) zad) (@zcN _ _ _ _ _ _ _ (@qv _ 0 _ _ (by trivial)) zad zbo (by intro _;rfl)) (by rfl) (by rfl) (by rfl)) (@zae _ _ _ _ _ (@zaX _ _ _ _ _ _ (@zap _ _ _ _ _ _ _ _ zbZ (@zap _ _ _ _ _ _ _ _ za6 (@zap _ _ _ _ _ _ _ _ za6 (@zap _ _ _ _ _ _ _ _ zbQ (@zaA _ _ _ _ _ _ _ zat (@qv _ 0 _ _ (by trivial)) zad (λ_ _=>rfl)) zad) zad) (@zaA _ _ _ _ _ _ _ zat (@qv _ 0 _ _ (by trivial)) zad (λ_ _=>rfl))) zad) (@zcN _ _ _ _ _ _ _ (@qv _ 0 _ _ (by trivial)) zad zbo (by intro _;rfl)) (by rfl) (by rfl) (by rfl)) (@zai _ _ _ (@zav _ _ _ _ (@zap _ _ _ _ _ _ _ _ zbZ (@zap _ _ _ _ _ _ _ _ zb5 (@zap _ _ _ _ _ _ _ _ zbZ (@zap _ _ _ _ _ _ _ _ zbQ (@zaA _ _ _ _ _ _ _ zat (@qv _ 0 _ _ (by trivial)) zad (λ_ _=>rfl)) (@zaA _ _ _ _ _ _ _ zat (@qv _ 0 _ _ (by trivial)) zad (λ_ _=>rfl))) zad) zad) (@qv _ 1 _ _ (by trivial)))))))),?_⟩
 have fin:∀ (x:Int) (H':Hp),0<=x->x<m->Pk3 H' l->But l H H'->Q (.int x) H':=λx H' x0 p y B=>by
  obtain⟨v,rfl⟩:=Int.eq_ofNat_of_zero_le x0
  exact k v H' p y B
 refine⟨_,rfl,l,_,_,_,rfl,rfl,SqL.of d,rfl,_,_,rfl,rfl,_,rfl,ite2 (λq=>?_) (λq=>?_)⟩
 ·refine⟨_,rfl,l,_,_,_,rfl,rfl,SqL.of d,rfl,_,rfl,_,_,rfl,rfl,g,?_⟩
  refine⟨_,rfl,l,_,_,_,rfl,rfl,SqL.of d,rfl,_,rfl,_,_,rfl,rfl,⟨g,r⟩,_,rfl,l,_,_,0,rfl,rfl,d,rfl,_,rfl,?_⟩
  exact fin _ _ (Wd _ (by lia)) (Wm _ g) ⟨a / m,b,c,zag,Int.ediv_nonneg n (by lia),u,b1⟩ λx o e ne=>by rw[zah ne];exact e
 ·refine⟨_,rfl,l,_,_,_,rfl,rfl,SqL.of d,rfl,_,_,rfl,rfl,_,rfl,l,_,_,2,rfl,rfl,d,rfl,?_⟩
  have h1:L2.upd H l (.lst ([V.int a,V.int b,V.int c].set 2 (V.int (c+1)))) l=some (.lst [.int a,.int b,.int (c+1)]):=zag
  have z:But l H (L2.upd H l (.lst ([V.int a,V.int b,V.int c].set 2 (V.int (c+1))))):=λx o e ne=>by rw[zah ne];exact e
  show tSeq _ _ _ _ (L2.upd H l (.lst ([V.int a,V.int b,V.int c].set 2 (V.int (c+1)))))
  generalize L2.upd H l (.lst ([V.int a,V.int b,V.int c].set 2 (V.int (c+1))))=H1 at *
  refine⟨_,rfl,l,_,_,_,rfl,rfl,SqL.of h1,rfl,_,_,rfl,rfl,.inr ⟨by decide,by decide⟩,_,_,rfl,rfl,_,rfl,l,_,_,_,rfl,rfl,SqL.of h1,rfl,_,_,rfl,rfl,_,_,rfl,rfl,(by show (0:Int)<2147483647;decide),_,rfl,l,_,_,1,rfl,rfl,h1,rfl,?_⟩
  have t:0<=(b*48271+12345+(c+1))%2147483647:=Wd _ (by decide)
  have D:(b*48271+12345+(c+1))%2147483647<2147483647:=Wm _ (by decide)
  generalize j:L2.upd H1 l (HO.lst ([V.int a,V.int b,V.int (c+1)].set 1 (V.int ((b*48271+12345+(c+1))%2147483647))))=H2
  have i:H2 l=some (.lst [.int a,.int ((b*48271+12345+(c+1))%2147483647),.int (c+1)]):=by rw[<- j];exact zag
  refine⟨_,rfl,l,_,_,_,rfl,rfl,SqL.of i,rfl,_,rfl,l,_,_,_,rfl,rfl,SqL.of i,rfl,_,_,rfl,rfl,.inl ⟨by lia,by lia⟩,_,_,rfl,rfl,(by show (0:Int)<1999999973;decide),_,_,rfl,rfl,⟨by decide,by decide⟩,_,rfl,_,_,rfl,rfl,g,?_⟩
  exact fin _ _ (Wd _ (by lia)) (Wm _ g) ⟨a,_,_,i,n,t,by lia⟩ λx o e ne=>by rw[<- j,zah ne];exact z x o e ne
theorem scL:FnScope ["_law_script","_law_k","_law_cell","_law_digits"] ["_law_script","_law_k"] (zam zli):=by trivial
theorem zlD {f:Addr}{fd:FuncData}(F:Fun K "_law_left" "_law_left" zli f fd) (G:Mgs mg):FnOk P w K mg base CX0 1 f fd ["_law_script","_law_k"] (zfe K):=by
 refine F.ok scL (λvs H Q E h=>?_) (λcdv A outer s H vs Q E u h=>?_)
 ·obtain⟨a,ns,k,rfl,_⟩:=h
  rfl
 obtain⟨a,ns,k,rfl,e,t,k0,k1,q⟩:=h
 refine⟨_,(@zae _ _ _ _ _ (@zaw _ _ 2 _ _ _ _ scL.nd rfl (.inl rfl) zad (by rfl) (by trivial)) (@zae _ _ _ _ _ (@zbj _ _ _ _ _ _ _ _ (@zaE _ _ _ _ _ _ _ _ zjO (@zay _ _ _ _ _ _ _ _ _ zas (by rfl) G.len Yn (@zaa _ _ _ _ _ (@qv _ 0 _ _ (by trivial)) zac (by rfl)) (by decide) (by decide) (by rfl) (by rfl)) zad (zaQ _)) (@zai _ _ _ (@zaw _ _ 2 _ _ _ _ scL.nd rfl (.inl rfl) (@zaA _ _ _ _ _ _ _ zat (@qv _ 0 _ _ (by trivial)) (@zap _ _ _ _ _ _ _ _ zbZ (@qv _ 1 _ _ (by trivial)) (@zay _ _ _ _ _ _ _ _ _ zas (by rfl) G.len Yn (@zaa _ _ _ _ _ (@qv _ 0 _ _ (by trivial)) zac (by rfl)) (by decide) (by decide) (by rfl) (by rfl))) (λ_ _=>rfl)) (by rfl) (by trivial))) zaM) (@zae _ _ _ _ _ (@zaw _ _ 3 _ _ _ _ scL.nd rfl (.inl rfl) (@zap _ _ _ _ _ _ _ _ zbQ (@zap _ _ _ _ _ _ _ _ zbZ (@zay _ _ _ _ _ _ _ _ _ zgB (by rfl) G.abs (by rfl) (@zaa _ _ _ _ _ (@qv _ 2 _ _ (by trivial)) zac (by rfl)) (by decide) (by decide) (by rfl) (by rfl)) (@zap _ _ _ _ _ _ _ _ zeB zad zad)) (@zar _ _ _ _ _ _ _ _ _ zcv (by rfl) G.int (by rfl) (@zaa _ _ _ _ _ (@zcC _ _ _ _ _ _ _ _ zmD (@zay _ _ _ _ _ _ _ _ _ zgB (by rfl) G.abs (by rfl) (@zaa _ _ _ _ _ (@qv _ 2 _ _ (by trivial)) zac (by rfl)) (by decide) (by decide) (by rfl) (by rfl)) (@zap _ _ _ _ _ _ _ _ zeB zad zad) (zaQ _)) zac (by rfl)) (by decide) (by decide) (by rfl) (by rfl))) (by rfl) (by trivial)) (@zai _ _ _ (@zav _ _ _ _ (@zaI _ _ _ _ (@zaa _ _ _ _ _ (@qv _ 3 _ _ (by trivial)) (@zaa _ _ _ _ _ (@zap _ _ _ _ _ _ _ _ zbZ (@zap _ _ _ _ _ _ _ _ zbQ (@zap _ _ _ _ _ _ _ _ za6 (@zap _ _ _ _ _ _ _ _ za6 (@zap _ _ _ _ _ _ _ _ zbZ (@qv _ 2 _ _ (by trivial)) zad) (@zap _ _ _ _ _ _ _ _ zbQ (@zap _ _ _ _ _ _ _ _ zbQ zad (@qv _ 1 _ _ (by trivial))) (@qv _ 1 _ _ (by trivial)))) zad) zad) zad) (@zaa _ _ _ _ _ zad zac (by rfl)) (by rfl)) (by rfl)))))))),?_⟩
 have d:(ns.map V.int).length=ns.length:=Jq _
 refine znD ?_
 refine ziM (λσ H1=>H1=H/\∃ x:Int,σ=[some (.ref a),some (.int k),some (.int x),none]) ?_ λD c _=>?_
 ·rintro σ H1 ⟨rfl,x,rfl⟩
  have m:=Wd ((x%2305843009213693951+7919*k*k+11)*48271) (show (2147483647:Int)≠0 by decide)
  have v:=Wm ((x%2305843009213693951+7919*k*k+11)*48271) (show (0:Int)<2147483647 by decide)
  have r:∀ b:Bool,(0:Int)<=(if b=true then (1:Int) else 0):=by decide
  have p:∀ b:Bool,-(2 ^ 64)<(if b=true then (1:Int) else 0)/\(if b=true then (1:Int) else 0)<2 ^ 64:=by decide
  refine⟨_,rfl,_,rfl,_,_,rfl,rfl,⟨by decide,by decide,by decide⟩,_,_,rfl,rfl,(by show (0:Int)<10 ^ 60;decide),?_⟩
  refine⟨_,rfl,_,rfl,_,_,rfl,rfl,⟨by decide,by decide,by decide⟩,_,_,rfl,rfl,.inr ⟨_,rfl,_,_,rfl,rfl,.inr (p _),?_⟩⟩
  refine⟨_,rfl,_,rfl,_,_,rfl,rfl,(by show (0:Int)<2305843009213693951;decide),_,rfl,_,_,rfl,rfl,.inl ⟨by decide,by decide⟩,_,rfl,_,_,rfl,rfl,.inr ⟨by lia,by lia⟩,_,_,rfl,rfl,_,_,rfl,rfl,_,_,rfl,rfl,.inr ⟨by decide,by decide⟩,_,_,rfl,rfl,(by show (0:Int)<2147483647;decide),(by show 3<=sizeLine;decide),λl g=>?_⟩
  refine q l _ g (zab g _) ⟨_,_,_,zag,Int.mul_nonneg (Wd _ (by decide)) (r _),m,by lia⟩
 refine⟨_,rfl,a,_,rfl,.inl e,_,_,rfl,rfl,_,rfl,ite2 (λz=>?_) (λz=>?_)⟩
 ·have np:0<ns.length:=by
   have:=Z3 z
   rw[d]at this;lia
  refine⟨_,rfl,_,rfl,_,rfl,a,_,rfl,.inl e,_,_,rfl,rfl,by rw[d];lia,?_⟩
  have o:=Wd k (show ((ns.length:Nat):Int)≠0 by lia)
  have n:=Wm k (show (0:Int)<(ns.length:Nat) by lia)
  rw[d]
  obtain⟨j,i⟩:=Int.eq_ofNat_of_zero_le o
  rw[i]at n
  exact⟨a,_,k%(ns.length:Nat),_,rfl,rfl,e,(by rw[i];exact zdI (by lia)),c _ _ ⟨rfl,_,rfl⟩⟩
 ·exact c _ _ ⟨rfl,0,rfl⟩
theorem scMx:FnScope ["_law_left_here","_law_row","_law_some_here","_law_found"] ["_law_left_here","_law_row"] (zam zhN):=by trivial
theorem zjU {f W:Addr}{fd dK:FuncData}(F:Fun K "_law_mixed" "_law_mixed" zhN f fd) (G:Mgs mg) (y:Use P w K mg base "_law_pick" ["_law_left_here","_law_many"] 1 zbF W dK):FnOk P w K mg base CX0 2 f fd ["_law_left_here","_law_row"] zfd:=by
 refine F.ok scMx (λvs H Q E h=>?_) (λcdv A outer s H vs Q E M h=>?_)
 ·obtain⟨l,p,xs,rfl,_⟩:=h
  rfl
 obtain⟨l,p,xs,rfl,T,xl,S,k⟩:=h
 refine⟨_,(@zae _ _ _ _ _ (@zhV _ _ 2 3 _ _ _ _ _ _ _ _ _ _ _ rfl scMx.nd rfl rfl (by decide) rfl rfl (@zaa _ _ _ _ _ (@zar _ _ _ _ _ _ _ _ _ za5 (by rfl) G.list (by rfl) (@zaa _ _ _ _ _ (@qv _ 1 _ _ (by trivial)) zac (by rfl)) (by decide) (by decide) (by rfl) (by rfl)) (@zaa _ _ _ _ _ (@zaI _ _ _ _ zac) zac (by rfl)) (by rfl)) (by rfl) (by rfl)) (@zae _ _ _ _ _ (@zf9 _ _ _ _ _ _ Yt (@zaE _ _ _ _ _ _ _ _ (zkO M.units0) (@qv _ 2 _ _ (by trivial)) (@zaI _ _ _ _ zac) (zaQ _)) (@zai _ _ _ (@zbH _ _ _ _ (@zdZ _ _ _ _ _ _ _ _ _ _ _ _ Yw Z7 Z8 zbd (@qv _ 3 _ _ (by trivial)) (@zaa _ _ _ _ _ (@zdZ _ _ _ _ _ _ _ _ _ _ _ _ Yw PySem.F.slot_list_pop PySem.F.type_list_pop zj5 (@qv _ 2 _ _ (by trivial)) (@zaa _ _ _ _ _ (@zaj _ _ _ _ _ _ _ _ _ _ _ _ _ _ _ _ y.ok M (by rfl) y.m y.kp y.b .nil zax (@zaa _ _ _ _ _ (@qv _ 0 _ _ (by trivial)) (@zaa _ _ _ _ _ (@zay _ _ _ _ _ _ _ _ _ zas (by rfl) G.len Yn (@zaa _ _ _ _ _ (@qv _ 2 _ _ (by trivial)) zac (by rfl)) (by decide) (by decide) (by rfl) (by rfl)) zac (by rfl)) (by rfl)) (by decide) (by rfl) (by rfl)) zac (by rfl)) (by rfl) (by rfl) (by rfl) (by rfl) (by rfl)) zac (by rfl)) (by rfl) (by rfl) (by rfl) (by rfl) (by rfl)) (by rfl)))) (@zai _ _ _ (@zav _ _ _ _ (@zar _ _ _ _ _ _ _ _ _ zau (by rfl) G.tuple (by rfl) (@zaa _ _ _ _ _ (@qv _ 3 _ _ (by trivial)) zac (by rfl)) (by decide) (by decide) (by rfl) (by rfl)))))),?_⟩
 refine⟨_,rfl,p,_,rfl,.inl (SqL.of T),λlo q=>?_⟩
 have s1:=zab q (.lst xs)
 have v:=S.ne q
 refine⟨(by show 0<=sizeLine;decide),λlt c=>?_⟩
 have s2:=zab c (.lst [])
 have u:=(S.keep s1).ne c
 have not:lo≠lt:=zaf zag c
 have I:Frs l H lo:=λb o e _=>zaf e q
 have flt:Frs l H lt:=λb o e _=>zaf (s1 _ _ e) c
 refine⟨_,_,rfl,?_⟩
 refine⟨λm σ g=>σ=[some (.ref l),some (.ref p),some (.ref lo),some (.ref lt)]/\Pk3 g l/\But l H g/\∃ us ys,g lo=some (.lst us)/\us.length=m/\g lt=some (.lst ys)/\(ys++us).Perm xs,
  ⟨_,rfl,(S.keep s1).keep s2,(But.of s1).trans (But.of s2),xs,[],by rw[zah not];exact zag,rfl,zag,.refl _⟩,?_⟩
 rintro m σ g ⟨rfl,Y,B3,us,ys,J,ul,R,pm⟩
 refine⟨_,rfl,(by show 0<=sizeLine;decide),λe U=>?_⟩
 have r:=zab U (.lst [])
 refine⟨lo,e,us,rfl,rfl,SqL.of (r _ _ J),SqL.of zag,_,rfl,?_⟩
 have N:=Y.keep r
 have O:But l H (L2.upd g e (.lst [])):=B3.trans (But.of r)
 have n:=r _ _ J
 have j:=r _ _ R
 generalize L2.upd g e (.lst [])=H4 at *
 have ab:ys.length+us.length=xs.length:=by rw[<- Jd];exact pm.length_eq
 by_cases un:us=[]
 ·rw[show (!us.isEmpty)=false by rw[un];rfl]
  rw[un,Y2]at pm
  refine iteF ⟨_,rfl,lt,_,rfl,.inl ⟨SqL.of j,λt L=>k t ys _ pm zag (N.keep (zab L _)) (O.trans (But.of (zab L _)))⟩⟩
 have up:0<us.length:=List.length_pos_iff.mpr un
 rw[show (!us.isEmpty)=true by cases us with
  | nil=>exact absurd rfl un
  | cons a b=>rfl]
 refine iteT ⟨_,λaa H' V=>⟨m-1,by lia,V⟩,?_⟩
 refine⟨_,rfl,.inl ⟨rfl,_,SqL.of j⟩,_,rfl,.inl ⟨rfl,_,SqL.of n⟩,_,rfl,_,rfl,lo,_,rfl,.inl (SqL.of n),l,_,rfl,by lia,by lia,N,λd Z hk X z=>?_⟩
 have x:d<us.length:=by lia
 have D:=z lo _ n v.symm
 have C:=z lt _ j u.symm
 refine⟨lo,_,_,d,us[d],rfl,rfl,D,by lia,by lia,(zfD (zg6 (xs:=us) (i:=d) x)).1,J7 x,?_⟩
 have B:L2.upd Z lo (.lst (us.eraseIdx d)) lt=some (.lst ys):=by rw[zah not.symm];exact C
 refine⟨lt,_,_,rfl,rfl,B,by rw[JC];lia,rfl,(X.upd v).upd u,((O.trans z).upd I).upd flt,us.eraseIdx d,ys++[us[d]],by rw[zah not];exact zag,by rw[List.length_eraseIdx,Jf x];lia,zag,?_⟩
 refine List.Perm.trans ?_ pm
 rw[JU]
 refine List.Perm.append_left ys ?_
 exact zdF us d x
end
end K35
namespace L2
open PySem PySem.Spec PyProof.Rows Own
theorem FnOk.any {P:Program}{w:World}{K:PySem.W.Frag}{mg:Str->Option Value}{base:Heap}{CX:CXT}{k:Nat}{f:Addr}{fd:FuncData}{ps:List Str}{sp:Nat->Sp}(M:Nat) (F:∀ m,m<=M->FnOk P w K mg base CX k f fd ps (sp m)) :
  FnOk P w K mg base CX k f fd ps (λvs H Q E=>∃ m,m<=M/\sp m vs H Q E) :=
 ⟨λvs H Q E ⟨m,a,q⟩=>(F m a).len vs H Q E q,λA outer s H args us vs Q E c d hb b ⟨m,a,q⟩=>(F m a).run A outer s H args us vs Q E c d hb b q⟩
end L2
namespace Bn
open PySem L2 Own
def zb2:Nat->List Nat->List Fk × List Nat
 | 0,row=>([],row)
 | m+1,row=>((row.getD 0 0,row.getD (row.length / 2) 0)::((zb2 m (row.take (row.length / 2))).1++(zb2 m (row.drop (row.length / 2))).1),za3 (zb2 m (row.take (row.length / 2))).2 (zb2 m (row.drop (row.length / 2))).2)
def mergeN:Nat->List Nat->List Nat->List Fk × List Nat
 | 0,a,b=>(a.zip b,a++b)
 | m+1,a,b=>((mergeN m (by2 0 a) (by2 1 b)).1++(mergeN m (by2 1 a) (by2 0 b)).1++(mergeN m (by2 0 a) (by2 1 b)).2.zip (mergeN m (by2 1 a) (by2 0 b)).2,za3 (mergeN m (by2 0 a) (by2 1 b)).2 (mergeN m (by2 1 a) (by2 0 b)).2)
def zbM:Nat->List Nat->List Fk × List Nat
 | 0,row=>([],row)
 | m+1,row=>((zbM m (row.take (row.length / 2))).1++(zbM m (row.drop (row.length / 2))).1++(mergeN m (zbM m (row.take (row.length / 2))).2 (zbM m (row.drop (row.length / 2))).2).1,(mergeN m (zbM m (row.take (row.length / 2))).2 (zbM m (row.drop (row.length / 2))).2).2)
theorem zcR {m n:Nat}(h:n=2 ^ (m+1)):n / 2=2 ^ m/\n-n / 2=2 ^ m/\n / 2<=n:=by
 rw[Zh]at h;lia
theorem zcl {m:Nat}{row:List Nat}(h:row.length=2 ^ (m+1)):(row.take (row.length / 2)).length=2 ^ m/\(row.drop (row.length / 2)).length=2 ^ m:=by
 obtain⟨a,b,c⟩:=zcR h
 rw[Jy,Y9]
 exact⟨by rw[Zi c];exact a,b⟩
theorem zc0 {α:Type}{m:Nat}{a:List α}(h:a.length=2 ^ (m+1)):(by2 0 a).length=2 ^ m/\(by2 1 a).length=2 ^ m:=by
 rw[zfR 0 (by decide),zfR 1 (by decide),h,Zh]
 lia
theorem zcT:∀ (m:Nat) (row:List Nat),row.length=2 ^ m->(zb2 m row).2.length=2 ^ m/\(zb2 m row).1.length+1=2 ^ m
 | 0,row,h=>⟨h,rfl⟩
 | m+1,row,h=>by
  obtain⟨a,b⟩:=zcl h
  obtain⟨c,f⟩:=zcT m _ a
  obtain⟨d,e⟩:=zcT m _ b
  show (za3 _ _).length=_/\(_::(_++_)).length+1=_
  rw[zbw _ _ (c.trans d.symm),JL,Jd,c,Zh]
  exact⟨by lia,by lia⟩
theorem zby:∀ (m:Nat) (a b:List Nat),a.length=2 ^ m->b.length=2 ^ m->(mergeN m a b).2.length=2 ^ (m+1)/\(mergeN m a b).1.length=(m+1)*2 ^ m
 | 0,a,b,ha,hb=>by
  show (a++b).length=_/\(a.zip b).length=_
  rw[Jd,ZK,ha,hb];exact⟨rfl,rfl⟩
 | m+1,a,b,ha,hb=>by
  obtain⟨i,a1⟩:=zc0 ha
  obtain⟨h,b1⟩:=zc0 hb
  obtain⟨d,g⟩:=zby m _ _ i b1
  obtain⟨c,f⟩:=zby m _ _ a1 h
  show (za3 _ _).length=_/\(_++_++List.zip _ _).length=_
  rw[zbw _ _ (d.trans c.symm),Jd,Jd,ZK,d,c,g,f,Nat.min_self]
  have e:(m+1)*2 ^ m+(m+1)*2 ^ m=(m+1)*2 ^ (m+1):=by rw[<- Nat.two_mul,Zh,Nat.mul_left_comm,Nat.mul_comm 2 (2 ^ m)]
  refine⟨by rw[Zh 2 (m+1),Nat.mul_comm],?_⟩
  rw[e,<- Nat.succ_mul]
def zdv:Nat->Nat
 | 0=>0
 | m+1=>zdv m+zdv m+(m+1)*2 ^ m
theorem zcK:∀ m,m<=10->zdv m<=100000/\(m+1)*2 ^ m<=20000:=by decide +kernel
theorem zcb:∀ (m:Nat) (row:List Nat),row.length=2 ^ m->(zbM m row).2.length=2 ^ m/\(zbM m row).1.length=zdv m
 | 0,row,h=>⟨h,rfl⟩
 | m+1,row,h=>by
  obtain⟨a,b⟩:=zcl h
  obtain⟨f,e⟩:=zcb m _ a
  obtain⟨d,c⟩:=zcb m _ b
  obtain⟨z1,z2⟩:=zby m _ _ f d
  refine⟨z1,?_⟩
  show (List.append (List.append _ _) _).length=zdv m+zdv m+(m+1)*2 ^ m
  rw[List.append_eq,List.append_eq,Jd,Jd,z2,e,c]
def zdL (k:Nat):Nt:=⟨2 ^ k,(zb2 k (List.range (2 ^ k))).1,(zb2 k (List.range (2 ^ k))).2⟩
def zcc (k:Nat):Nt:=⟨2 ^ k,(zbM k (List.range (2 ^ k))).1,(zbM k (List.range (2 ^ k))).2⟩
theorem zjs:∀ k,k<5->(zdL k).forks.length<=128/\(∀ f∈(zdL k).forks,f.1<2 ^ k/\f.2<2 ^ k/\f.1≠f.2)/\(zdL k).ends.Perm (List.range (2 ^ k)):=by decide +kernel
theorem zht:∀ k,k<5->(zcc k).forks.length<=128/\(∀ f∈(zcc k).forks,f.1<2 ^ k/\f.2<2 ^ k/\f.1≠f.2)/\(zcc k).ends.Perm (List.range (2 ^ k)):=by decide +kernel
theorem zcj {k:Nat}(h:k<5):1<=2 ^ k/\2 ^ k<=16:=⟨ZP,Z4 (show 0<2 by decide) (show k<=4 by lia)⟩
theorem zk4 {k:Nat}(h:k<5):(zdL k).Ok:=let ⟨a,b,c⟩:=zjs k h;⟨(zcj h).1,(zcj h).2,a,b,c⟩
theorem zjv {k:Nat}(h:k<5):(zcc k).Ok:=let ⟨a,b,c⟩:=zht k h;⟨(zcj h).1,(zcj h).2,a,b,c⟩
end Bn
namespace L2
open PySem PySem.Spec PyProof.Rows Own
theorem ziT {K:PySem.W.Frag}{b1 b2:Bool}{a1 a2:Addr}{xs ys:List V}(s:xs.length=ys.length) {g:TG}{tb:TS}{D:Ends}{σ:St}{H:Hp}(a:Nat->St->Hp->Prop) (o:a 0 σ H) (l:∀ i σ H,i<=xs.length->a i σ H->SqB b1 K H a1 xs/\SqB b2 K H a2 ys)
  (k:∀ i x y T σ H,xs[i]?=some x->ys[i]?=some y->H T=none->a i σ H->g (.ref T) σ (upd H T (.tup [x,y])) λb e=>tb { D with nx:=a (i+1),ct:=a (i+1),bk:=D.nx } b e) (hd:∀ σ H,a xs.length σ H->D.nx σ H) :
  ∃ W:Nat->Nat->St->Hp->Prop,(∃ m,W 0 m σ H)/\∀ i m σ H,W i m σ H ->
   ((Itz K b1 b2 a1 a2).stop i H/\D.nx σ H)\/((Itz K b1 b2 a1 a2).go i H/\∃ N:St->Hp->Prop,(∀ c H',N c H'->∃ h,h<m/\W (i+1) h c H')/\∀ x H',(Itz K b1 b2 a1 a2).yld i H x H'->g x σ H' λb e=>tb { D with nx:=N,ct:=N,bk:=D.nx } b e):=by
 refine⟨λi m σ H=>m=xs.length-i/\i<=xs.length/\a i σ H,⟨_,rfl,JN _,o⟩,?_⟩
 rintro i m σ H ⟨rfl,hi,p⟩
 obtain⟨d,f⟩:=l i σ H hi p
 by_cases more:i<xs.length
 ·refine .inr ⟨⟨xs,ys,_,_,d,f,J7 more,J7 (by lia)⟩,a (i+1),λc H' j=>⟨xs.length-(i+1),by lia,rfl,more,j⟩,λv H' ⟨x,y,ex,q,T,n,r,e2⟩=>?_⟩
  subst r e2
  exact k i x y T σ H (ex xs d) (q ys f) n p
 ·obtain rfl:i=xs.length:=by lia
  exact .inl ⟨⟨xs,d,rfl⟩,hd σ H p⟩
end L2
namespace K35
open PySem L2 Own Bn
abbrev zhM:Stmt:=top 21
def zes (m:Nat):Sp:=λvs H Q _=>∃ p1 p2 a b,vs=[.ref p1,.ref p2]/\H p1=some (.lst (nums a))/\H p2=some (.lst (nums b))/\a.length=2 ^ m/\b.length=2 ^ m/\m<=8/\∀ c lf le ps H',Same H H'->H lf=none->H' c=some (.tup [.ref lf,.ref le])->H' lf=some (.lst ps)->Prs H' ps (Bn.mergeN m a b).1->H' le=some (.lst (nums (Bn.mergeN m a b).2))->Q (.ref c) H'
theorem ziv (row:List Nat) (i:Nat) (h:i<=row.length):cutV (nums row) none (some (i:Int))=nums (row.take i):=by
 rw[zgy _ _ (by rw[zaq];exact h)]
 unfold nums
 rw[List.map_take]
theorem ziw (row:List Nat) (i:Nat) (h:i<=row.length):cutV (nums row) (some (i:Int)) none=nums (row.drop i):=by
 rw[zeb _ _ (by rw[zaq];exact h)]
 unfold nums
 rw[List.map_drop]
theorem zkb (off:Nat) (a:List Nat):by2 off (nums a)=nums (by2 off a):=by unfold nums;exact zl9 _ off a
theorem zlQ (a b:List Nat):nums a++nums b=nums (a++b):=by unfold nums;exact(JY ..).symm
theorem m_at (row:List Nat) (i:Nat) (h:i<row.length):(nums row)[i]?=some (.int ((row.getD i 0:Nat):Int)):=by
 unfold nums
 rw[JK,J7 h,Ja,J7 h];rfl
theorem zcw:∀ (a b:List Nat) (j:Nat),j<a.length->j<b.length->za3 (a.take (j+1)) (b.take (j+1))=za3 (a.take j) (b.take j)++[a.getD j 0,b.getD j 0]
 | x::a,y::b,0,_,_=>by rw[ZC,ZC,Zc,Zc];rfl
 | x::a,y::b,j+1,ha,hb=>by
  rw[ZC,ZC,ZC,ZC]
  show x::y::za3 (a.take (j+1)) (b.take (j+1))=x::y::(za3 (a.take j) (b.take j)++[a.getD j 0,b.getD j 0])
  rw[zcw a b j (by simpa using ha) (by simpa using hb)]
theorem zfW {a b:List Nat}{j:Nat}(ha:j<a.length) (hb:j<b.length):(a.zip b).take (j+1)=(a.zip b).take j++[(a.getD j 0,b.getD j 0)]:=by
 rw[Yg (by rw[ZK];lia),List.getElem_zip,Ja,J7 ha,Ja,J7 hb];rfl
theorem zgh {a:List Nat}{j:Nat}{x:V}(h:(nums a)[j]?=some x):j<a.length/\x=.int ((a.getD j 0:Nat):Int):=by
 have b:j<a.length:=by rw[<- zaq a];exact(Jc.mp h).1
 rw[m_at a j b]at h
 exact⟨b,(Jn h).symm⟩
section
variable {P:Program}{w:World}{K:PySem.W.Frag}{mg:Str->Option Value}{base:Heap}
theorem scMo:FnScope ["_law_one","_law_other","_law_forks","_law_first","_law_more","_law_second","_law_ends_here","_law_x","_law_y"] ["_law_one","_law_other"] (zam zhM):=by trivial
theorem zgf {f:Addr}{fd:FuncData}(F:Fun K "_law_merger" "_law_merger" zhM f fd) (G:Mgs mg) (bS:Binds K fd ["_law_one","_law_other"] []) (mS:mg "_law_merger" = some (.ref f)) (n:Nat)
  (GS:FnOk P w K mg base CX0 n f fd ["_law_one","_law_other"] (λvs H Q E=>∃ m,n=m+1/\zes m vs H Q E)):FnOk P w K mg base CX0 (n+1) f fd ["_law_one","_law_other"] (zes n):=by
 have C:Use P w K mg base "_law_merger" ["_law_one","_law_other"] n (λvs H Q E=>∃ m,n=m+1/\zes m vs H Q E) f fd:=⟨GS,bS,F.kp,mS⟩
 refine F.ok scMo (λvs H Q E h=>?_) (λcdv A outer s H vs Q E hr h=>?_)
 ·obtain⟨p1,p2,a,b,rfl,_⟩:=h
  rfl
 obtain⟨p1,p2,a,b,rfl,h1,h2,al,bl,au,k⟩:=h
 refine⟨_,(@zae _ _ _ _ _ (@zbj _ _ _ _ _ _ _ _ (@zaE _ _ _ _ _ _ _ _ zb6 (@zay _ _ _ _ _ _ _ _ _ zas (by rfl) G.len Yn (@zaa _ _ _ _ _ (@qv _ 0 _ _ (by trivial)) zac (by rfl)) (by decide) (by decide) (by rfl) (by rfl)) zad (zaQ _)) (@zai _ _ _ (@zav _ _ _ _ (@zaz _ _ _ _ _ (@zaa _ _ _ _ _ (@zaI _ _ _ _ (@zaa _ _ _ _ _ (@zaz _ _ _ _ _ (@zaa _ _ _ _ _ (@zaA _ _ _ _ _ _ _ zat (@qv _ 0 _ _ (by trivial)) zad (λ_ _=>rfl)) (@zaa _ _ _ _ _ (@zaA _ _ _ _ _ _ _ zat (@qv _ 1 _ _ (by trivial)) zad (λ_ _=>rfl)) zac (by rfl)) (by rfl))) zac (by rfl))) (@zaa _ _ _ _ _ (@zaI _ _ _ _ (@zaa _ _ _ _ _ (@zaA _ _ _ _ _ _ _ zat (@qv _ 0 _ _ (by trivial)) zad (λ_ _=>rfl)) (@zaa _ _ _ _ _ (@zaA _ _ _ _ _ _ _ zat (@qv _ 1 _ _ (by trivial)) zad (λ_ _=>rfl)) zac (by rfl)) (by rfl))) zac (by rfl)) (by rfl))))) zaM) (@zae _ _ _ _ _ (@zaX _ _ _ _ _ _ (@zaj _ _ _ _ _ _ _ _ _ _ _ _ _ _ _ _ C.ok hr (by rfl) C.m C.kp C.b .nil zax (@zaa _ _ _ _ _ (@zgb _ _ _ _ _ _ _ _ _ (@qv _ 0 _ _ (by trivial)) zaR (@zaB _ _ _ zad)) (@zaa _ _ _ _ _ (@zgb _ _ _ _ _ _ _ _ _ (@qv _ 1 _ _ (by trivial)) (@zaB _ _ _ zad) (@zaB _ _ _ zad)) zac (by rfl)) (by rfl)) (by decide) (by rfl) (by rfl)) (@zaT _ _ _ _ _ _ rfl (@zak _ _ _ _ _ (@zal _ _ 2 _ scMo.nd rfl (.inl rfl) (by trivial)) (@zak _ _ _ _ _ (@zal _ _ 3 _ scMo.nd rfl (.inl rfl) (by trivial)) zaG (by rfl)) (by rfl)) (by rfl) (by rfl)) (by rfl) (by rfl) (by rfl)) (@zae _ _ _ _ _ (@zaX _ _ _ _ _ _ (@zaj _ _ _ _ _ _ _ _ _ _ _ _ _ _ _ _ C.ok hr (by rfl) C.m C.kp C.b .nil zax (@zaa _ _ _ _ _ (@zgb _ _ _ _ _ _ _ _ _ (@qv _ 0 _ _ (by trivial)) (@zaB _ _ _ zad) (@zaB _ _ _ zad)) (@zaa _ _ _ _ _ (@zgb _ _ _ _ _ _ _ _ _ (@qv _ 1 _ _ (by trivial)) zaR (@zaB _ _ _ zad)) zac (by rfl)) (by rfl)) (by decide) (by rfl) (by rfl)) (@zaT _ _ _ _ _ _ rfl (@zak _ _ _ _ _ (@zal _ _ 4 _ scMo.nd rfl (.inl rfl) (by trivial)) (@zak _ _ _ _ _ (@zal _ _ 5 _ scMo.nd rfl (.inl rfl) (by trivial)) zaG (by rfl)) (by rfl)) (by rfl) (by rfl)) (by rfl) (by rfl) (by rfl)) (@zae _ _ _ _ _ (@zhV _ _ 2 6 _ _ _ _ _ _ _ _ _ _ _ rfl scMo.nd rfl rfl (by decide) rfl rfl (@zaa _ _ _ _ _ (@zap _ _ _ _ _ _ _ _ zcO (@qv _ 2 _ _ (by trivial)) (@qv _ 4 _ _ (by trivial))) (@zaa _ _ _ _ _ (@zaI _ _ _ _ zac) zac (by rfl)) (by rfl)) (by rfl) (by rfl)) (@zae _ _ _ _ _ (@zbN _ _ _ _ _ _ _ _ Yt rfl (@zkN _ _ _ _ _ _ _ _ _ true true rfl G.zip (@zaa _ _ _ _ _ (@qv _ 3 _ _ (by trivial)) (@zaa _ _ _ _ _ (@qv _ 5 _ _ (by trivial)) zac (by rfl)) (by rfl)) (by rfl) (by rfl)) (@zaT _ _ _ _ _ _ rfl (@zak _ _ _ _ _ (@zal _ _ 7 _ scMo.nd rfl (.inl rfl) (by trivial)) (@zak _ _ _ _ _ (@zal _ _ 8 _ scMo.nd rfl (.inl rfl) (by trivial)) zaG (by rfl)) (by rfl)) (by rfl) (by rfl)) (@zae _ _ _ _ _ (@zbH _ _ _ _ (@zdZ _ _ _ _ _ _ _ _ _ _ _ _ Yw Z7 Z8 zbd (@qv _ 2 _ _ (by trivial)) (@zaa _ _ _ _ _ (@zaz _ _ _ _ _ (@zaa _ _ _ _ _ (@qv _ 7 _ _ (by trivial)) (@zaa _ _ _ _ _ (@qv _ 8 _ _ (by trivial)) zac (by rfl)) (by rfl))) zac (by rfl)) (by rfl) (by rfl) (by rfl) (by rfl) (by rfl)) (by rfl)) (@zai _ _ _ (@zbH _ _ _ _ (@zdZ _ _ _ _ _ _ _ _ _ _ _ _ Yw PySem.F.slot_list_extend PySem.F.type_list_extend zeG (@qv _ 6 _ _ (by trivial)) (@zaa _ _ _ _ _ (@zaI _ _ _ _ (@zaa _ _ _ _ _ (@qv _ 7 _ _ (by trivial)) (@zaa _ _ _ _ _ (@qv _ 8 _ _ (by trivial)) zac (by rfl)) (by rfl))) zac (by rfl)) (by rfl) (by rfl) (by rfl) (by rfl) (by rfl)) (by rfl)))) (by intro _;rfl)) (@zai _ _ _ (@zav _ _ _ _ (@zaz _ _ _ _ _ (@zaa _ _ _ _ _ (@qv _ 2 _ _ (by trivial)) (@zaa _ _ _ _ _ (@qv _ 6 _ _ (by trivial)) zac (by rfl)) (by rfl)))))))))),?_⟩
 have na:=zaq a
 have nb:=zaq b
 have p8:2 ^ n<=2 ^ 8:=Z4 (by decide) au
 have e8:2 ^ 8=256:=rfl
 refine⟨_,rfl,p1,_,rfl,.inl (SqL.of h1),rfl,_,rfl,?_⟩
 cases n with
 | zero =>
  have am:a.length=1:=al
  have aH:b.length=1:=bl
  rw[JE (show V.int (((nums a).length:Nat):Int)=V.int 1 by rw[na,am];rfl)]
  obtain⟨x,rfl⟩:=List.length_eq_one_iff.mp am
  obtain⟨y,rfl⟩:=List.length_eq_one_iff.mp aH
  refine iteT ⟨_,rfl,p1,_,0,_,rfl,rfl,SqL.of h1,rfl,_,rfl,p2,_,0,_,rfl,rfl,SqL.of h2,rfl,(by show 2<=sizeLine;decide),λt W=>⟨(by show 1<=sizeLine;decide),λlf hf=>?_⟩⟩
  have s1:=zab W (.tup [.int x,.int y])
  have s2:=zab hf (.lst [.ref t])
  have u2:=s1.trans s2
  refine⟨_,rfl,p1,_,0,_,rfl,rfl,SqL.of (u2 _ _ h1),rfl,_,rfl,p2,_,0,_,rfl,rfl,SqL.of (u2 _ _ h2),rfl,(by show 2<=sizeLine;decide),λle he=>⟨(by show 2<=sizeLine;decide),λc X=>?_⟩⟩
  have S:=zab he (.lst [.int x,.int y])
  have I:=zab X (.tup [.ref lf,.ref le])
  exact k c lf le [.ref t] _ ((u2.trans S).trans I) (zch s1 hf) (zao X _) (I _ _ (S _ _ (zao hf _))) ⟨⟨t,rfl,I _ _ (S _ _ (s2 _ _ (zao W _)))⟩,trivial⟩ (I _ _ (zao he _))
 | succ m =>
  obtain⟨a0,a1⟩:=zc0 al
  obtain⟨b0,b1⟩:=zc0 bl
  have pw:2 ^ (m+1)=2 ^ m*2:=Zh ..
  have p0:=ZP (n:=m)
  rw[Jv (show ¬ V.int (((nums a).length:Nat):Int)=V.int 1 by intro z;injection z with z;lia)]
  refine iteF ⟨_,rfl,2,rfl,rfl,0,p1,_,.inl ⟨rfl,rfl⟩,rfl,SqL.of h1,λq1 ai=>?_⟩
  rw[zkb]
  have s1:=zab ai (.lst (nums (by2 0 a)))
  refine⟨_,rfl,1,rfl,2,rfl,rfl,1,p2,_,.inr ⟨rfl,rfl⟩,rfl,SqL.of (s1 _ _ h2),λq2 ah=>?_⟩
  rw[zkb]
  have s2:=zab ah (.lst (nums (by2 1 b)))
  refine⟨m,rfl,q1,q2,by2 0 a,by2 1 b,rfl,s2 _ _ (zao ai _),zao ah _,a0,b1,by lia,λc3 av i L H3 S _ aC az ad aA=>?_⟩
  have u3:=(s1.trans s2).trans S
  refine⟨c3,_,rfl,SqT.of aC,rfl,_,_,rfl,_,_,rfl,rfl,?_⟩
  refine⟨_,rfl,1,rfl,2,rfl,rfl,1,p1,_,.inr ⟨rfl,rfl⟩,rfl,SqL.of (u3 _ _ h1),λq4 ag=>?_⟩
  rw[zkb]
  have I:=zab ag (.lst (nums (by2 1 a)))
  refine⟨_,rfl,2,rfl,rfl,0,p2,_,.inl ⟨rfl,rfl⟩,rfl,SqL.of (I _ _ (u3 _ _ h2)),λq5 af=>?_⟩
  rw[zkb]
  have s5:=zab af (.lst (nums (by2 0 b)))
  refine⟨m,rfl,q4,q5,by2 1 a,by2 0 b,rfl,s5 _ _ (zao ag _),zao af _,a1,b0,by lia,λc6 ae g J H6 s6 _ aB ay ab N=>?_⟩
  have u6:=(I.trans s5).trans s6
  refine⟨c6,_,rfl,SqT.of aB,rfl,_,_,rfl,_,_,rfl,rfl,?_⟩
  obtain⟨xl,xf⟩:=zby m _ _ a0 b1
  obtain⟨yl,yf⟩:=zby m _ _ a1 b0
  have bd:=(zcK m (by lia)).2
  have aJ:=ad.len
  have aI:=ab.len
  have M:=u3.trans u6
  have v:=u6 _ _ aA
  refine⟨_,rfl,_,rfl,av,ae,_,_,rfl,rfl,u6 _ _ az,ay,by rw[JC];lia,λd p=>⟨(by show 0<=sizeLine;decide),λr l=>⟨_,_,rfl,?_⟩⟩⟩
  have D:=zab p (.lst (L++J))
  have R:=zab l (.lst [])
  have ak:d≠r:=zaf (zao p (.lst (L++J))) l
  have ap:=(Prs.app (ad.tups (Tups.of u6)) ab).tups (Tups.of (D.trans R))
  have aj:H d=none:=zch M p
  have ax:H r=none:=zch (M.trans D) l
  generalize hF:(Bn.mergeN m (by2 0 a) (by2 1 b)).2=fst at *
  generalize hS:(Bn.mergeN m (by2 1 a) (by2 0 b)).2=snd at *
  have e3:=R _ _ (D _ _ v)
  have Z:=R _ _ (D _ _ N)
  have n3:i≠d:=zaf v p
  have n6:g≠d:=zaf N p
  have ar:i≠r:=zaf (D _ _ v) l
  have aq:g≠r:=zaf (D _ _ N) l
  refine⟨_,rfl,_,rfl,i,g,_,_,rfl,SqL.of e3,SqL.of Z,?_⟩
  refine ziT (K:=K) (b1:=true) (b2:=true) (a1:=i) (a2:=g) (xs:=nums fst) (ys:=nums snd) (by rw[zaq,zaq,xl,yl]) (λj σ B=>(∃ v7 v8,σ=[some (.ref p1),some (.ref p2),some (.ref d),some (.ref i),some (.ref ae),some (.ref g),some (.ref r),v7,v8])/\Same H B/\B i=some (.lst (nums fst))/\B g=some (.lst (nums snd))/\(∃ ps,B d=some (.lst ps)/\Prs B ps ((Bn.mergeN m (by2 0 a) (by2 1 b)).1++(Bn.mergeN m (by2 1 a) (by2 0 b)).1++(fst.zip snd).take j))/\B r=some (.lst (nums (za3 (fst.take j) (snd.take j))))) ?_ (λj σ B _ z=>⟨SqL.of z.2.2.1,SqL.of z.2.2.2.1⟩) ?_ ?_
  ·refine⟨⟨_,_,rfl⟩,(M.trans D).trans R,e3,Z,⟨L++J,R _ _ (zao p _),?_⟩,zao l _⟩
   rw[Zc,Y2];exact ap
  ·rintro j x y T σ B hx hy hT ⟨⟨v7,v8,rfl⟩,s9,e3,Z,⟨ps,Y,u⟩,h8⟩
   obtain⟨j1,rfl⟩:=zgh hx
   obtain⟨j2,rfl⟩:=zgh hy
   have pl:=u.len
   rw[Jd,Jd,Jy,ZK]at pl
   have sT:=zab hT (.tup [.int ((fst.getD j 0:Nat):Int),.int ((snd.getD j 0:Nat):Int)])
   refine⟨T,_,rfl,SqT.of zag,rfl,_,_,rfl,_,_,rfl,rfl,?_⟩
   refine⟨_,rfl,.inl ⟨rfl,_,SqL.of (sT _ _ Y)⟩,_,rfl,_,rfl,(by show 2<=sizeLine;decide),λt W=>?_⟩
   have st:=zab W (.tup [.int ((fst.getD j 0:Nat):Int),.int ((snd.getD j 0:Nat):Int)])
   have ut:=sT.trans st
   refine⟨d,ps,_,rfl,rfl,ut _ _ Y,by rw[JC];lia,?_⟩
   have aw:=zao W (.tup [.int ((fst.getD j 0:Nat):Int),.int ((snd.getD j 0:Nat):Int)])
   have aE:=ut _ _ Y
   have aD:=ut _ _ h8
   have aG:=ut _ _ e3
   have aF:=ut _ _ Z
   have ao:=s9.trans ut
   have aa:=u.tups (Tups.of ut)
   generalize L2.upd (L2.upd B T (.tup [.int ((fst.getD j 0:Nat):Int),.int ((snd.getD j 0:Nat):Int)])) t (.tup [.int ((fst.getD j 0:Nat):Int),.int ((snd.getD j 0:Nat):Int)])=H9 at *
   have tq:=Tups.lst (ys:=ps++[.ref t]) aE
   have O:L2.upd H9 d (.lst (ps++[.ref t])) r=some (.lst (nums (za3 (fst.take j) (snd.take j)))):=by rw[zah ak.symm];exact aD
   refine⟨_,rfl,.inl ⟨rfl,_,SqL.of O⟩,_,rfl,_,rfl,(by show 2<=sizeLine;decide),λq hq=>?_⟩
   have sq:=zab hq (.lst [.int ((fst.getD j 0:Nat):Int),.int ((snd.getD j 0:Nat):Int)])
   have tl:=zbw (fst.take j) (snd.take j) (by rw[Jy,Jy];lia)
   rw[Jy]at tl
   refine⟨r,q,_,_,rfl,rfl,sq _ _ O,zao hq _,by rw[zaq,JC,tl];show _+2<=_;lia,?_⟩
   have U:∀ {c:Addr}{o:HO},L2.upd H9 d (.lst (ps++[.ref t])) c=some o->c≠r->L2.upd (L2.upd (L2.upd H9 d (.lst (ps++[.ref t]))) q (.lst [.int ((fst.getD j 0:Nat):Int),.int ((snd.getD j 0:Nat):Int)])) r (.lst (nums (za3 (fst.take j) (snd.take j))++[.int ((fst.getD j 0:Nat):Int),.int ((snd.getD j 0:Nat):Int)])) c=some o:=λe ne=>by rw[zah ne];exact sq _ _ e
   refine⟨⟨_,_,rfl⟩,λc o e=>U (by rw[zah (zaf e aj)];exact ao c o e) (zaf e ax),U (by rw[zah n3];exact aG) ar,U (by rw[zah n6];exact aF) aq,⟨ps++[.ref t],U zag ak,?_⟩,?_⟩
   ·rw[zfW j1 j2,<- JU]
    have tz:Tups (L2.upd H9 d (.lst (ps++[.ref t]))) _:=λc xs e=>U e (zcD e O (λz=>by cases z))
    exact(Prs.add (f:=(fst.getD j 0,snd.getD j 0)) (tq _ _ aw) (aa.tups tq)).tups tz
   ·rw[zcw fst snd j j1 j2]
    have e:nums (za3 (fst.take j) (snd.take j)++[fst.getD j 0,snd.getD j 0])=nums (za3 (fst.take j) (snd.take j))++[.int ((fst.getD j 0:Nat):Int),.int ((snd.getD j 0:Nat):Int)]:=by rw[<- zlQ];rfl
    rw[e];exact zag
  ·rintro σ B ⟨⟨v7,v8,rfl⟩,s9,e3,Z,⟨ps,Y,u⟩,h8⟩
   refine⟨_,rfl,_,rfl,(by show 2<=sizeLine;decide),λc X=>?_⟩
   have sc:=zab X (.tup [.ref d,.ref r])
   have eN:Bn.mergeN (m+1) a b=((Bn.mergeN m (by2 0 a) (by2 1 b)).1++(Bn.mergeN m (by2 1 a) (by2 0 b)).1++fst.zip snd,za3 fst snd):=by rw[<- hF,<- hS];rfl
   refine k c d r ps _ (s9.trans sc) aj (zao X _) (sc _ _ Y) ?_ ?_
   ·rw[eN]
    rw[JQ (by rw[zaq,ZK];lia)]at u
    exact u.tups (Tups.of sc)
   ·rw[eN]
    rw[JQ (by rw[zaq];exact Jg _),JQ (by rw[zaq];lia)]at h8
    exact sc _ _ h8
theorem zic {f:Addr}{fd:FuncData}(F:Fun K "_law_merger" "_law_merger" zhM f fd) (G:Mgs mg) (b:Binds K fd ["_law_one","_law_other"] []) (a:mg "_law_merger" = some (.ref f)):∀ n:Nat,FnOk P w K mg base CX0 (n+1) f fd ["_law_one","_law_other"] (zes n)
 | 0=>zgf F G b a 0 ⟨λvs H Q E ⟨m,h,_⟩=>by lia,λA outer s H args us vs Q E _ _ _ _ ⟨m,h,_⟩=>by lia⟩
 | m+1=>zgf F G b a (m+1) ((zic F G b a m).imp λvs H Q E ⟨c,h,q⟩=>by cases h;exact q)
abbrev zce:Sp:=λvs H Q E=>∃ m,m<=4/\zes m vs H Q E
theorem zid {f:Addr}{fd:FuncData}(F:Fun K "_law_merger" "_law_merger" zhM f fd) (G:Mgs mg) (b:Binds K fd ["_law_one","_law_other"] []) (a:mg "_law_merger" = some (.ref f)):FnOk P w K mg base CX0 5 f fd ["_law_one","_law_other"] zce :=
 FnOk.any 4 λm c=>(zic F G b a m).mono (by lia)
end
abbrev zll:Stmt:=top 26
structure Few (l f:Nat) (N:Nt):Prop where
 ok:N.Ok
 ln:N.lanes<=l
 fk:N.forks.length<=f
def zhC:Sp:=λvs H Q _=>∃ l:Addr,vs=[.ref l]/\Pk3 H l/\∀ r fr er ps N H',Few 6 8 N->NetAt H' r fr er ps N->Pk3 H' l->But l H H'->Q (.ref r) H'
def FkOk (H:Hp) (lanes:Nat) (x:V):Prop:=∃ a g,x=.ref a/\H a=some (.tup [.int ((g:Nat × Nat).1:Nat),.int ((g.2:Nat))])/\g.1<lanes/\g.2<lanes/\g.1≠g.2
theorem FkOk.tups {H H':Hp}(t:Tups H H') {lanes:Nat}{x:V}(h:FkOk H lanes x):FkOk H' lanes x:=by
 obtain⟨a,g,e,h1,b⟩:=h
 exact⟨a,g,e,t _ _ h1,b⟩
section
variable {P:Program}{w:World}{K:PySem.W.Frag}{mg:Str->Option Value}{base:Heap}
theorem scAy:FnScope ["_law_left_here","_law_lanes","_law_forks","_law_k","_law_a","_law_b","_law_ends_here"] ["_law_left_here"] (zam zll):=by trivial
theorem zlG {f fK fX:Addr}{fd dK dX:FuncData}(F:Fun K "_law_any" "_law_any" zll f fd) (G:Mgs mg) (b:Use P w K mg base "_law_pick" ["_law_left_here","_law_many"] 1 zbF fK dK) (UX:Use P w K mg base "_law_mixed" ["_law_left_here","_law_row"] 2 zfd fX dX):FnOk P w K mg base CX0 3 f fd ["_law_left_here"] zhC:=by
 refine F.ok scAy (λvs H Q E h=>?_) (λcdv A outer s H vs Q E hr h=>?_)
 ·obtain⟨l,rfl,_⟩:=h
  rfl
 obtain⟨l,rfl,S,k⟩:=h
 have y:Room 1 _:=hr.mono (by decide)
 refine⟨_,(@zae _ _ _ _ _ (@zaw _ _ 1 _ _ _ _ scAy.nd rfl (.inl rfl) (@zaA _ _ _ _ _ _ _ zat (@zaI _ _ _ _ (@zaa _ _ _ _ _ zad (@zaa _ _ _ _ _ zad (@zaa _ _ _ _ _ zad (@zaa _ _ _ _ _ zad (@zaa _ _ _ _ _ zad (@zaa _ _ _ _ _ zad (@zaa _ _ _ _ _ zad (@zaa _ _ _ _ _ zad zac (by rfl)) (by rfl)) (by rfl)) (by rfl)) (by rfl)) (by rfl)) (by rfl)) (by rfl))) (@zaj _ _ _ _ _ _ _ _ _ _ _ _ _ _ _ _ b.ok y (by rfl) b.m b.kp b.b .nil zax (@zaa _ _ _ _ _ (@qv _ 0 _ _ (by trivial)) (@zaa _ _ _ _ _ zad zac (by rfl)) (by rfl)) (by decide) (by rfl) (by rfl)) (λ_ _=>rfl)) (by rfl) (by trivial)) (@zae _ _ _ _ _ (@zaw _ _ 2 _ _ _ _ scAy.nd rfl (.inl rfl) (@zaI _ _ _ _ zac) (by rfl) (by trivial)) (@zae _ _ _ _ _ (@zbN _ _ _ _ _ _ _ _ Yt rfl (@zbk _ _ _ _ _ _ rfl G.range (@zaa _ _ _ _ _ (@zap _ _ _ _ _ _ _ _ zbQ (@zaA _ _ _ _ _ _ _ zat (@zaI _ _ _ _ (@zaa _ _ _ _ _ zad (@zaa _ _ _ _ _ zad (@zaa _ _ _ _ _ zad (@zaa _ _ _ _ _ zad (@zaa _ _ _ _ _ zad (@zaa _ _ _ _ _ zad (@zaa _ _ _ _ _ zad (@zaa _ _ _ _ _ zad zac (by rfl)) (by rfl)) (by rfl)) (by rfl)) (by rfl)) (by rfl)) (by rfl)) (by rfl))) (@zaj _ _ _ _ _ _ _ _ _ _ _ _ _ _ _ _ b.ok y (by rfl) b.m b.kp b.b .nil zax (@zaa _ _ _ _ _ (@qv _ 0 _ _ (by trivial)) (@zaa _ _ _ _ _ zad zac (by rfl)) (by rfl)) (by decide) (by rfl) (by rfl)) (λ_ _=>rfl)) (@zar _ _ _ _ _ _ _ _ _ zcv (by rfl) G.int (by rfl) (@zaa _ _ _ _ _ (@zcC _ _ _ _ _ _ _ _ zjO (@qv _ 1 _ _ (by trivial)) zad (zaQ _)) zac (by rfl)) (by decide) (by decide) (by rfl) (by rfl))) zac (by rfl)) (by rfl)) (@zal _ _ 3 _ scAy.nd rfl (.inl rfl) (by trivial)) (@zae _ _ _ _ _ (@zaw _ _ 4 _ _ _ _ scAy.nd rfl (.inl rfl) (@zaj _ _ _ _ _ _ _ _ _ _ _ _ _ _ _ _ b.ok y (by rfl) b.m b.kp b.b .nil zax (@zaa _ _ _ _ _ (@qv _ 0 _ _ (by trivial)) (@zaa _ _ _ _ _ (@qv _ 1 _ _ (by trivial)) zac (by rfl)) (by rfl)) (by decide) (by rfl) (by rfl)) (by rfl) (by trivial)) (@zae _ _ _ _ _ (@zaw _ _ 5 _ _ _ _ scAy.nd rfl (.inl rfl) (@zap _ _ _ _ _ _ _ _ zbZ (@zap _ _ _ _ _ _ _ _ za6 (@zap _ _ _ _ _ _ _ _ za6 (@qv _ 4 _ _ (by trivial)) zad) (@zaj _ _ _ _ _ _ _ _ _ _ _ _ _ _ _ _ b.ok y (by rfl) b.m b.kp b.b .nil zax (@zaa _ _ _ _ _ (@qv _ 0 _ _ (by trivial)) (@zaa _ _ _ _ _ (@zap _ _ _ _ _ _ _ _ zdb (@qv _ 1 _ _ (by trivial)) zad) zac (by rfl)) (by rfl)) (by decide) (by rfl) (by rfl))) (@qv _ 1 _ _ (by trivial))) (by rfl) (by trivial)) (@zai _ _ _ (@zbH _ _ _ _ (@zdZ _ _ _ _ _ _ _ _ _ _ _ _ Yw Z7 Z8 zbd (@qv _ 2 _ _ (by trivial)) (@zaa _ _ _ _ _ (@zaA _ _ _ _ _ _ _ zat (@zaI _ _ _ _ (@zaa _ _ _ _ _ (@zaz _ _ _ _ _ (@zaa _ _ _ _ _ (@qv _ 4 _ _ (by trivial)) (@zaa _ _ _ _ _ (@qv _ 5 _ _ (by trivial)) zac (by rfl)) (by rfl))) (@zaa _ _ _ _ _ (@zaz _ _ _ _ _ (@zaa _ _ _ _ _ (@qv _ 4 _ _ (by trivial)) (@zaa _ _ _ _ _ (@qv _ 5 _ _ (by trivial)) zac (by rfl)) (by rfl))) (@zaa _ _ _ _ _ (@zaA _ _ _ _ _ _ _ zat (@zap _ _ _ _ _ _ _ _ zcO (@qv _ 2 _ _ (by trivial)) (@zaI _ _ _ _ (@zaa _ _ _ _ _ (@zaz _ _ _ _ _ (@zaa _ _ _ _ _ (@qv _ 4 _ _ (by trivial)) (@zaa _ _ _ _ _ (@qv _ 5 _ _ (by trivial)) zac (by rfl)) (by rfl))) zac (by rfl)))) zad (λ_ _=>rfl)) zac (by rfl)) (by rfl)) (by rfl))) (@zaj _ _ _ _ _ _ _ _ _ _ _ _ _ _ _ _ b.ok y (by rfl) b.m b.kp b.b .nil zax (@zaa _ _ _ _ _ (@qv _ 0 _ _ (by trivial)) (@zaa _ _ _ _ _ zad zac (by rfl)) (by rfl)) (by decide) (by rfl) (by rfl)) (λ_ _=>rfl)) zac (by rfl)) (by rfl) (by rfl) (by rfl) (by rfl) (by rfl)) (by rfl))))) (by intro _;rfl)) (@zae _ _ _ _ _ (@zaw _ _ 6 _ _ _ _ scAy.nd rfl (.inl rfl) (@zaA _ _ _ _ _ _ _ zat (@zaI _ _ _ _ (@zaa _ _ _ _ _ (@zc7 _ _ _ _ _ _ _ rfl (by rfl) G.tuple (by rfl) G.range (@zaa _ _ _ _ _ (@qv _ 1 _ _ (by trivial)) zac (by rfl)) (by rfl) (by rfl)) (@zaa _ _ _ _ _ (@zaj _ _ _ _ _ _ _ _ _ _ _ _ _ _ _ _ UX.ok hr (by rfl) UX.m UX.kp UX.b .nil zax (@zaa _ _ _ _ _ (@qv _ 0 _ _ (by trivial)) (@zaa _ _ _ _ _ (@zeA _ _ _ _ _ _ _ rfl (by rfl) G.list (by rfl) G.range (@zaa _ _ _ _ _ (@qv _ 1 _ _ (by trivial)) zac (by rfl)) (by rfl) (by rfl)) zac (by rfl)) (by rfl)) (by decide) (by rfl) (by rfl)) zac (by rfl)) (by rfl))) (@zaj _ _ _ _ _ _ _ _ _ _ _ _ _ _ _ _ b.ok y (by rfl) b.m b.kp b.b .nil zax (@zaa _ _ _ _ _ (@qv _ 0 _ _ (by trivial)) (@zaa _ _ _ _ _ zad zac (by rfl)) (by rfl)) (by decide) (by rfl) (by rfl)) (λ_ _=>rfl)) (by rfl) (by trivial)) (@zai _ _ _ (@zav _ _ _ _ (@zaz _ _ _ _ _ (@zaa _ _ _ _ _ (@qv _ 1 _ _ (by trivial)) (@zaa _ _ _ _ _ (@zar _ _ _ _ _ _ _ _ _ zau (by rfl) G.tuple (by rfl) (@zaa _ _ _ _ _ (@qv _ 2 _ _ (by trivial)) zac (by rfl)) (by decide) (by decide) (by rfl) (by rfl)) (@zaa _ _ _ _ _ (@qv _ 6 _ _ (by trivial)) zac (by rfl)) (by rfl)) (by rfl))))))))),?_⟩
 refine⟨(by show 8<=sizeLine;decide),λt B=>⟨_,rfl,l,8,rfl,by decide,by decide,S.keep (zab B _),λv H1 hv S1 B1=>?_⟩⟩
 obtain⟨lanes,lm,la⟩:=zdX (xs:=[1,2,2,3,4,3,4,6]) (v:=v) (by show v<8;lia)
 have lb:1<=lanes/\lanes<=6:=(show ∀ n∈[1,2,2,3,4,3,4,6],1<=n/\n<=6 by decide) lanes lm
 obtain⟨l1,l6⟩:=lb
 refine⟨t,_,_,_,rfl,rfl,SqL.of (B1 t _ (zao B _) (S.ne B).symm),la,?_⟩
 have ai:But l H H1:=(But.of (zab B _)).trans B1
 clear B B1 la lm
 refine⟨(by show 0<=sizeLine;decide),λlf C=>?_⟩
 have m:=S1.ne C
 have sf:=zab C (.lst [])
 have am:Frs l H lf:=ai.frs C
 refine⟨(by show 8<=sizeLine;decide),λt B=>⟨_,rfl,l,8,rfl,by decide,by decide,(S1.keep sf).keep (zab B _),λv2 T av S2 W=>?_⟩⟩
 obtain⟨many,mm,ma⟩:=zdX (xs:=[0,1,2,3,4,5,6,8]) (v:=v2) (by show v2<8;lia)
 have mb:many<=8:=(show ∀ n∈[0,1,2,3,4,5,6,8],n<=8 by decide) many mm
 refine⟨t,_,_,_,rfl,rfl,SqL.of (W t _ (zao B _) ((S1.keep sf).ne B).symm),ma,?_⟩
 have ak:=W lf _ (zab B _ _ _ (zao C (.lst []))) m.symm
 have ar:But l H T:=((ai.trans (But.of sf)).trans (But.of (zab B _))).trans W
 clear B W ma mm C sf
 refine⟨_,rfl,_,_,rfl,rfl,.inr ⟨_,rfl,_,_,rfl,rfl,.inl ⟨by lia,by lia⟩,?_⟩⟩
 have cb:((many:Int)*(if decide ((1:Int)<lanes)=true then 1 else 0))=((if 1<lanes then many else 0:Nat):Int):=by
  by_cases z:1<lanes
  ·rw[Jf (JE (by lia)),Jf z];lia
  ·rw[Jb (by rw[Jv (by lia)];exact Jp),Jb z];lia
 have cl:(if 1<lanes then many else 0)<=8:=by split<;>lia
 refine⟨_,rfl,by rw[cb];lia,by rw[cb];lia,?_⟩
 rw[cb]
 generalize ab:(if 1<lanes then many else 0)=cnt at cl
 refine zbS (lo:=0) (n:=((cnt:Nat):Int).toNat) (λi σ T=>(∃ w3 w4 w5 w6,σ=[some (.ref l),some (.int (lanes:Nat)),some (.ref lf),w3,w4,w5,w6])/\Pk3 T l/\But l H T/\∃ ps fs,T lf=some (.lst ps)/\Prs T ps fs/\fs.length=i/\∀ f∈fs,f.1<lanes/\f.2<lanes/\f.1≠f.2)
  ⟨⟨_,_,_,_,rfl⟩,S2,ar,[],[],ak,trivial,rfl,λf hf=>by simp at hf⟩ ?_ ?_
 ·rintro i σ T hi ⟨⟨w3,w4,w5,w6,rfl⟩,S2,W,ps,fs,h2,p2,fl,N⟩
  have l2:1<lanes:=by
   by_cases z:1<lanes
   ·exact z
   ·rw[Jb z]at ab;lia
  refine⟨_,rfl,_,rfl,l,lanes,rfl,by lia,by lia,S2,λone H3 ho Y U=>?_⟩
  refine⟨_,rfl,_,_,rfl,rfl,_,rfl,_,rfl,_,_,rfl,rfl,l,_,rfl,by lia,by lia,Y,λd H4 hd S4 B4=>?_⟩
  refine⟨_,_,rfl,rfl,_,rfl,_,_,rfl,rfl,by lia,?_⟩
  have o:one<lanes:=by lia
  obtain⟨L,J⟩:=zjN (one:=one) (d:=d) (lanes:=lanes) o (by lia)
  have ec:((one:Int)+1+d)%lanes=(((one+1+d)%lanes:Nat):Int):=by rw[Int.natCast_emod,Int.natCast_add,Int.natCast_add];rfl
  dsimp only
  rw[ec]
  generalize (one+1+d)%lanes=oth at L J
  have h4:=B4 lf _ (U lf _ h2 m.symm) m.symm
  have p4:=p2.tups ((U.tups3 S2).trans (B4.tups3 Y))
  have ap:But l H H4:=(W.trans U).trans B4
  have pl:=p4.len
  refine⟨_,rfl,.inl ⟨rfl,_,SqL.of h4⟩,_,rfl,_,rfl,(by show 2<=sizeLine;decide),λt1 u=>⟨_,rfl,_,rfl,(by show 2<=sizeLine;decide),λt2 ad=>?_⟩⟩
  have s1:=zab u (.tup [.int (one:Nat),.int (oth:Nat)])
  have s2:=zab ad (.tup [.int (one:Nat),.int (oth:Nat)])
  have X:=s1.trans s2
  refine⟨_,rfl,_,rfl,_,rfl,(by show 2<=sizeLine;decide),λq M=>⟨(by show 1<=sizeLine;decide),λl3 ag=>?_⟩⟩
  have s3:=zab M (.tup [.int (one:Nat),.int (oth:Nat)])
  have s4:=zab ag (.lst [.ref q])
  have u4:=(X.trans s3).trans s4
  refine⟨lf,l3,_,_,rfl,rfl,u4 _ _ h4,zao ag _,by rw[JC];show ps.length+1<=_;lia,λl4 af=>?_⟩
  have s5:=zab af (.lst (ps++[.ref q]))
  have Z:=u4.trans s5
  have k1:FkOk _ lanes (.ref t1):=⟨t1,(one,oth),rfl,s5 _ _ (s4 _ _ (s3 _ _ (s2 _ _ (zao u _)))),o,L,J⟩
  have k2:FkOk _ lanes (.ref t2):=⟨t2,(one,oth),rfl,s5 _ _ (s4 _ _ (s3 _ _ (zao ad _))),o,L,J⟩
  obtain⟨x0,e0,k0⟩:∃ x0,(ps++[V.ref q])[0]?=some x0/\FkOk (L2.upd (L2.upd (L2.upd (L2.upd (L2.upd H4 t1 (.tup [.int (one:Nat),.int (oth:Nat)])) t2 (.tup [.int (one:Nat),.int (oth:Nat)])) q (.tup [.int (one:Nat),.int (oth:Nat)])) l3 (.lst [.ref q])) l4 (.lst (ps++[.ref q]))) lanes x0:=by
   cases ps with
   | nil=>exact⟨_,rfl,q,(one,oth),rfl,s5 _ _ (s4 _ _ (zao M _)),o,L,J⟩
   | cons p ps =>
    obtain⟨a,g,e,eg,ha⟩:=p4.get (i:=0) (p:=p) rfl
    exact⟨p,rfl,a,g,e,Z _ _ ha,N g (JP eg)⟩
  have h5:=Z _ _ h4
  have p5:=p4.tups (Tups.of Z)
  have S5:=S4.keep Z
  have B5:=ap.trans (But.of (l:=l) Z)
  refine⟨l4,_,0,x0,rfl,rfl,SqL.of (zao af _),zaP (j:=0) e0,?_⟩
  generalize L2.upd (L2.upd (L2.upd (L2.upd (L2.upd H4 t1 (.tup [.int (one:Nat),.int (oth:Nat)])) t2 (.tup [.int (one:Nat),.int (oth:Nat)])) q (.tup [.int (one:Nat),.int (oth:Nat)])) l3 (.lst [.ref q])) l4 (.lst (ps++[.ref q]))=H5 at *
  refine⟨(by show 3<=sizeLine;decide),λl5 c=>⟨_,rfl,l,3,rfl,by decide,by decide,S5.keep (zab c _),λO H6 aj S6 I=>?_⟩⟩
  have D:=zab c (.lst [.ref t1,.ref t2,x0])
  have au:O<3:=by lia
  have R:=(Tups.of D).trans (I.tups3 (S5.keep D))
  obtain⟨x,ex,kx⟩:∃ x,[V.ref t1,V.ref t2,x0][O]?=some x/\FkOk H6 lanes x:=by
   rcases O with _|_|_|O
   ·exact⟨_,rfl,k1.tups R⟩
   ·exact⟨_,rfl,k2.tups R⟩
   ·exact⟨_,rfl,k0.tups R⟩
   ·lia
  refine⟨l5,_,_,x,rfl,rfl,SqL.of (I l5 _ (zao c _) (S5.ne c).symm),zaP ex,?_⟩
  have h6:=I lf _ (D _ _ h5) m.symm
  have p6:=p5.tups R
  obtain⟨a,g,rfl,ha,gk⟩:=kx
  refine⟨lf,ps,_,rfl,rfl,h6,by rw[JC];lia,⟨_,_,_,_,rfl⟩,S6.upd m,((B5.trans (But.of D)).trans I).upd am,ps++[.ref a],fs++[g],zag,Prs.add (f:=g) (Tups.lst h6 _ _ ha) (p6.tups (Tups.lst h6)),by rw[Jd,fl];rfl,λf hf=>?_⟩
  rcases JB.mp hf with z|z
  ·exact N f z
  ·rw[Je.mp z];exact gk
 ·rintro σ T ⟨⟨w3,w4,w5,w6,rfl⟩,S2,W,ps,fs,h2,p2,fl,N⟩
  have ao:fs.length<=8:=by rw[fl];lia
  refine⟨_,rfl,lanes,rfl,by lia,λt1 u=>?_⟩
  have s1:=zab u (.tup (nums (List.range lanes)))
  refine⟨_,rfl,_,rfl,lanes,rfl,by lia,λl2 ah=>?_⟩
  have s2:=zab ah (.lst (nums (List.range lanes)))
  have X:=s1.trans s2
  refine⟨l,l2,nums (List.range lanes),rfl,zao ah _,by rw[zaq,Yb];lia,S2.keep X,λq ys H3 py M Y U=>?_⟩
  have aa:=U t1 _ (s2 _ _ (zao u _)) (S2.ne u).symm
  have h3:=U lf _ (X _ _ h2) m.symm
  have p3:=p2.tups ((Tups.of X).trans (U.tups3 (S2.keep X)))
  have aq:=(W.trans (But.of X)).trans U
  refine⟨(by show 2<=sizeLine;decide),λl5 c=>⟨_,rfl,l,2,rfl,by decide,by decide,Y.keep (zab c _),λO H6 aj S6 I=>?_⟩⟩
  have D:=zab c (.lst [.ref t1,.ref q])
  have R:=(Tups.of D).trans (I.tups3 (Y.keep D))
  obtain⟨x,ex,e,kx,pe⟩:∃ x,[V.ref t1,V.ref q][O]?=some (.ref x)/\∃ es:List Nat,H6 x=some (.tup (nums es))/\es.Perm (List.range lanes):=by
   rcases O with _|_|O
   ·exact⟨_,rfl,_,R _ _ aa,.refl _⟩
   ·obtain⟨es,rfl,pe⟩:=zh0 py
    exact⟨_,rfl,es,R _ _ M,pe⟩
   ·lia
  refine⟨l5,_,_,.ref x,rfl,rfl,SqL.of (I l5 _ (zao c _) (Y.ne c).symm),zaP ex,?_⟩
  have h6:=I lf _ (D _ _ h3) m.symm
  have p6:=p3.tups R
  refine⟨_,rfl,_,rfl,lf,_,rfl,.inl ⟨SqL.of h6,λa ha=>?_⟩⟩
  have s7:=zab ha (.tup ps)
  refine⟨_,rfl,(by show 3<=sizeLine;decide),λr ae=>?_⟩
  have s8:=zab ae (.tup [.int (lanes:Nat),.ref a,.ref x])
  refine k r a x ps ⟨lanes,fs,e⟩ _ ⟨⟨l1,by show lanes<=16;lia,by show fs.length<=128;lia,N,pe⟩,l6,ao⟩ ⟨zao ae _,s8 _ _ (zao ha _),p6.tups (Tups.of (s7.trans s8)),s8 _ _ (s7 _ _ kx)⟩ ((S6.keep s7).keep s8) ((aq.trans (But.of D)).trans (I.trans (But.of (s7.trans s8))))
end
abbrev sChg:Stmt:=top 27
def zjy:Sp:=λvs H Q _=>∃ l r fr er ps N f a,vs=[.ref l,.ref r]/\Pk3 H l/\Few f a N/\a<=100/\NetAt H r fr er ps N/\∀ e c d b N' H',Few f (a+1) N'->N'.lanes=N.lanes->NetAt H' e c d b N'->Pk3 H' l->But l H H'->Q (.ref e) H'
theorem zm2 (xs:List V) (i j:Nat):cutV xs (some (i:Int)) (some (j:Int))=(xs.drop i).take (j-i):=by
 unfold cutV
 rw[HT.sIx_nat,HT.sIx_nat]
 by_cases c:i<=xs.length
 ·rw[Zi c]
  by_cases d:j<=xs.length
  ·rw[Zi d]
  ·rw[Nat.min_eq_right (by lia),JQ (by rw[Y9];lia),JQ (by rw[Y9];lia)]
 ·rw[List.drop_of_length_le (show xs.length<=i by lia),List.drop_of_length_le (by lia),Wt,Wt]
theorem zkw (xs:List V) (i:Nat):cutV xs (some (i:Int)) none=xs.drop i:=by
 unfold cutV
 rw[HT.sIx_none,HT.sIx_nat]
 by_cases c:i<=xs.length
 ·rw[Zi c]
  exact JQ (by rw[Y9];exact Jg _)
 ·rw[List.drop_of_length_le (show xs.length<=i by lia),List.drop_of_length_le (by lia),Wt]
theorem zkv (xs:List V) (i:Nat):cutV xs none (some (i:Int))=xs.take i:=by
 unfold cutV
 rw[HT.sIx_none,HT.sIx_nat,ZU,Nat.sub_zero]
 by_cases c:i<=xs.length
 ·rw[Zi c]
 ·rw[JQ (by lia),JQ (by lia)]
theorem zcU {H:Hp}:∀ {ps:List V}{fs:List (Nat × Nat)}(n:Nat),Prs H ps fs->Prs H (ps.take n) (fs.take n)
 | [],[],n,_=>by rw[Wt,Wt];trivial
 | _::_,_::_,0,_=>trivial
 | _::_,_::_,n+1,⟨x,r⟩=>⟨x,zcU n r⟩
theorem zbI {H:Hp}:∀ {ps:List V}{fs:List (Nat × Nat)}(n:Nat),Prs H ps fs->Prs H (ps.drop n) (fs.drop n)
 | [],[],n,_=>by rw[List.drop_nil,List.drop_nil];trivial
 | _::_,_::_,0,h=>h
 | _::_,_::_,n+1,⟨_,r⟩=>zbI n r
def FksOk (lanes:Nat) (a:List (Nat × Nat)):Prop:=∀ f∈a,f.1<lanes/\f.2<lanes/\f.1≠f.2
theorem FksOk.app {lanes:Nat}{a b:List (Nat × Nat)}(x:FksOk lanes a) (y:FksOk lanes b):FksOk lanes (a++b):=λf c=>(JB.mp c).elim (x f) (y f)
theorem FksOk.take {lanes:Nat}{a:List (Nat × Nat)}(x:FksOk lanes a) (n:Nat):FksOk lanes (a.take n):=λf b=>x f (Zt b)
theorem FksOk.drop {lanes:Nat}{a:List (Nat × Nat)}(x:FksOk lanes a) (n:Nat):FksOk lanes (a.drop n):=λf b=>x f (List.mem_of_mem_drop b)
section
variable {P:Program}{w:World}{K:PySem.W.Frag}{mg:Str->Option Value}{base:Heap}
theorem scCh:FnScope ["_law_left_here","_law_net_here","_law_lanes","_law_forks","_law_ends_here","_law_way","_law_at","_law_k","_law_here","_law_row"] ["_law_left_here","_law_net_here"] (zam sChg):=by trivial
theorem zmJ {f fK:Addr}{fd dK:FuncData}(F:Fun K "_law_changed" "_law_changed" sChg f fd) (G:Mgs mg) (U:Use P w K mg base "_law_pick" ["_law_left_here","_law_many"] 1 zbF fK dK):FnOk P w K mg base CX0 2 f fd ["_law_left_here","_law_net_here"] zjy:=by
 refine F.ok scCh (λvs H Q E h=>?_) (λcdv A outer s H vs Q E hr h=>?_)
 ·obtain⟨l,r,fr,er,ps,N,lb,fb,rfl,_⟩:=h
  rfl
 obtain⟨l,r,fr,er,ps,N,lb,fb,rfl,S,few,aA,na,k⟩:=h
 refine⟨_,(@zae _ _ _ _ _ (@zaX _ _ _ _ _ _ (@qv _ 1 _ _ (by trivial)) (@zaT _ _ _ _ _ _ rfl (@zak _ _ _ _ _ (@zal _ _ 2 _ scCh.nd rfl (.inl rfl) (by trivial)) (@zak _ _ _ _ _ (@zal _ _ 3 _ scCh.nd rfl (.inl rfl) (by trivial)) (@zak _ _ _ _ _ (@zal _ _ 4 _ scCh.nd rfl (.inl rfl) (by trivial)) zaG (by rfl)) (by rfl)) (by rfl)) (by rfl) (by rfl)) (by rfl) (by rfl) (by rfl)) (@zae _ _ _ _ _ (zlq (i:=5) (j:=6) (k:=7) rfl scCh.nd rfl rfl rfl (by decide) (by decide) (by decide) rfl rfl rfl (@zaa _ _ _ _ _ (@zaj _ _ _ _ _ _ _ _ _ _ _ _ _ _ _ _ U.ok hr (by rfl) U.m U.kp U.b .nil zax (@zaa _ _ _ _ _ (@qv _ 0 _ _ (by trivial)) (@zaa _ _ _ _ _ zad zac (by rfl)) (by rfl)) (by decide) (by rfl) (by rfl)) (@zaa _ _ _ _ _ (@zaj _ _ _ _ _ _ _ _ _ _ _ _ _ _ _ _ U.ok hr (by rfl) U.m U.kp U.b .nil zax (@zaa _ _ _ _ _ (@qv _ 0 _ _ (by trivial)) (@zaa _ _ _ _ _ (@zap _ _ _ _ _ _ _ _ za6 (@zay _ _ _ _ _ _ _ _ _ zas (by rfl) G.len Yn (@zaa _ _ _ _ _ (@qv _ 3 _ _ (by trivial)) zac (by rfl)) (by decide) (by decide) (by rfl) (by rfl)) zad) zac (by rfl)) (by rfl)) (by decide) (by rfl) (by rfl)) (@zaa _ _ _ _ _ (@zaj _ _ _ _ _ _ _ _ _ _ _ _ _ _ _ _ U.ok hr (by rfl) U.m U.kp U.b .nil zax (@zaa _ _ _ _ _ (@qv _ 0 _ _ (by trivial)) (@zaa _ _ _ _ _ (@qv _ 2 _ _ (by trivial)) zac (by rfl)) (by rfl)) (by decide) (by rfl) (by rfl)) zac (by rfl)) (by rfl)) (by rfl)) (by rfl)) (@zae _ _ _ _ _ (@zaw _ _ 8 _ _ _ _ scCh.nd rfl (.inl rfl) (@zaH _ _ _ _ _ _ _ _ _ _ za9 (@qv _ 3 _ _ (by trivial)) (@zaB _ _ _ (@qv _ 6 _ _ (by trivial))) (@zaB _ _ _ (@zap _ _ _ _ _ _ _ _ za6 (@qv _ 6 _ _ (by trivial)) zad))) (by rfl) (by trivial)) (@zae _ _ _ _ _ (@zbj _ _ _ _ _ _ _ _ (@zaE _ _ _ _ _ _ _ _ zb6 (@qv _ 5 _ _ (by trivial)) zad (zaQ _)) (@zai _ _ _ (@zav _ _ _ _ (@zaz _ _ _ _ _ (@zaa _ _ _ _ _ (@qv _ 2 _ _ (by trivial)) (@zaa _ _ _ _ _ (@zap _ _ _ _ _ _ _ _ zbl (@zap _ _ _ _ _ _ _ _ zbl (@zaH _ _ _ _ _ _ _ _ _ _ za9 (@qv _ 3 _ _ (by trivial)) zaR (@zaB _ _ _ (@qv _ 6 _ _ (by trivial)))) (@zar _ _ _ _ _ _ _ _ _ zau (by rfl) G.tuple (by rfl) (@zaa _ _ _ _ _ (@zh3 _ _ _ _ none _ _ _ (gTup K 2 (zfH (zcQ 0) (zfH (zcQ 1) gNil))) _ _ ["_law_a","_law_b"] [none,none] rfl (@zc6 _ _ _ _ (@qv _ 8 _ _ (by trivial))) (CapOk.of (by kernel_rfl)) (λ_ _ _ _ _=>(@zaT _ _ _ _ _ _ rfl (@zak _ _ _ _ _ (@zal _ _ 0 _ (show (["_law_a","_law_b"]:List Str).Nodup from by decide +kernel) rfl (.inl rfl) (.inr rfl)) (@zak _ _ _ _ _ (@zal _ _ 1 _ (show (["_law_a","_law_b"]:List Str).Nodup from by decide +kernel) rfl (.inl rfl) (.inr rfl)) zaG (by rfl)) (by rfl)) (by rfl) (by rfl))) (λ_ _ _ _ _=>zb3) (λ_ _ _ _ _=>(@zaz _ _ _ _ _ (@zaa _ _ _ _ _ (@qv _ 1 _ _ (by trivial)) (@zaa _ _ _ _ _ (@qv _ 0 _ _ (by trivial)) zac (by rfl)) (by rfl)))) (by intro _;rfl)) zac (by rfl)) (by decide) (by decide) (by rfl) (by rfl))) (@zaH _ _ _ _ _ _ _ _ _ _ za9 (@qv _ 3 _ _ (by trivial)) (@zaB _ _ _ (@zap _ _ _ _ _ _ _ _ za6 (@qv _ 6 _ _ (by trivial)) zad)) zaR)) (@zaa _ _ _ _ _ (@qv _ 4 _ _ (by trivial)) zac (by rfl)) (by rfl)) (by rfl))))) zaM) (@zae _ _ _ _ _ (@zbj _ _ _ _ _ _ _ _ (@zaE _ _ _ _ _ _ _ _ zb6 (@qv _ 5 _ _ (by trivial)) zad (zaQ _)) (@zai _ _ _ (@zav _ _ _ _ (@zaz _ _ _ _ _ (@zaa _ _ _ _ _ (@qv _ 2 _ _ (by trivial)) (@zaa _ _ _ _ _ (@zap _ _ _ _ _ _ _ _ zbl (@zaH _ _ _ _ _ _ _ _ _ _ za9 (@qv _ 3 _ _ (by trivial)) zaR (@zaB _ _ _ (@qv _ 6 _ _ (by trivial)))) (@zaH _ _ _ _ _ _ _ _ _ _ za9 (@qv _ 3 _ _ (by trivial)) (@zaB _ _ _ (@zap _ _ _ _ _ _ _ _ za6 (@qv _ 6 _ _ (by trivial)) zad)) zaR)) (@zaa _ _ _ _ _ (@qv _ 4 _ _ (by trivial)) zac (by rfl)) (by rfl)) (by rfl))))) zaM) (@zae _ _ _ _ _ (@zbj _ _ _ _ _ _ _ _ (@zaE _ _ _ _ _ _ _ _ zb6 (@qv _ 5 _ _ (by trivial)) zad (zaQ _)) (@zai _ _ _ (@zav _ _ _ _ (@zaz _ _ _ _ _ (@zaa _ _ _ _ _ (@qv _ 2 _ _ (by trivial)) (@zaa _ _ _ _ _ (@zap _ _ _ _ _ _ _ _ zbl (@zap _ _ _ _ _ _ _ _ zbl (@zaH _ _ _ _ _ _ _ _ _ _ za9 (@qv _ 3 _ _ (by trivial)) zaR (@zaB _ _ _ (@qv _ 6 _ _ (by trivial)))) (@qv _ 8 _ _ (by trivial))) (@zaH _ _ _ _ _ _ _ _ _ _ za9 (@qv _ 3 _ _ (by trivial)) (@zaB _ _ _ (@qv _ 6 _ _ (by trivial))) zaR)) (@zaa _ _ _ _ _ (@qv _ 4 _ _ (by trivial)) zac (by rfl)) (by rfl)) (by rfl))))) zaM) (@zae _ _ _ _ _ (@zbj _ _ _ _ _ _ _ _ (@zaE _ _ _ _ _ _ _ _ zb6 (@qv _ 5 _ _ (by trivial)) zad (zaQ _)) (@zai _ _ _ (@zav _ _ _ _ (@zaz _ _ _ _ _ (@zaa _ _ _ _ _ (@qv _ 2 _ _ (by trivial)) (@zaa _ _ _ _ _ (@zap _ _ _ _ _ _ _ _ zbl (@zap _ _ _ _ _ _ _ _ zbl (@zap _ _ _ _ _ _ _ _ zbl (@zaH _ _ _ _ _ _ _ _ _ _ za9 (@qv _ 3 _ _ (by trivial)) zaR (@zaB _ _ _ (@qv _ 6 _ _ (by trivial)))) (@zaH _ _ _ _ _ _ _ _ _ _ za9 (@qv _ 3 _ _ (by trivial)) (@zaB _ _ _ (@zap _ _ _ _ _ _ _ _ za6 (@qv _ 6 _ _ (by trivial)) zad)) (@zaB _ _ _ (@zap _ _ _ _ _ _ _ _ za6 (@qv _ 6 _ _ (by trivial)) zad)))) (@qv _ 8 _ _ (by trivial))) (@zaH _ _ _ _ _ _ _ _ _ _ za9 (@qv _ 3 _ _ (by trivial)) (@zaB _ _ _ (@zap _ _ _ _ _ _ _ _ za6 (@qv _ 6 _ _ (by trivial)) zad)) zaR)) (@zaa _ _ _ _ _ (@qv _ 4 _ _ (by trivial)) zac (by rfl)) (by rfl)) (by rfl))))) zaM) (@zae _ _ _ _ _ (@zaw _ _ 9 _ _ _ _ scCh.nd rfl (.inl rfl) (@zar _ _ _ _ _ _ _ _ _ za5 (by rfl) G.list (by rfl) (@zaa _ _ _ _ _ (@qv _ 4 _ _ (by trivial)) zac (by rfl)) (by decide) (by decide) (by rfl) (by rfl)) (by rfl) (by trivial)) (@zae _ _ _ _ _ (@zaX _ _ _ _ _ _ (@zaz _ _ _ _ _ (@zaa _ _ _ _ _ (@zaA _ _ _ _ _ _ _ zaS (@qv _ 4 _ _ (by trivial)) (@qv _ 7 _ _ (by trivial)) (λ_ _=>rfl)) (@zaa _ _ _ _ _ (@zaA _ _ _ _ _ _ _ zaS (@qv _ 4 _ _ (by trivial)) zad (λ_ _=>rfl)) zac (by rfl)) (by rfl))) (@zaT _ _ _ _ _ _ rfl (@zak _ _ _ _ _ (@zcN _ _ _ _ _ _ _ (@qv _ 9 _ _ (by trivial)) zad zbo (by intro _;rfl)) (@zak _ _ _ _ _ (@zcN _ _ _ _ _ _ _ (@qv _ 9 _ _ (by trivial)) (@qv _ 7 _ _ (by trivial)) zbo (by intro _;rfl)) zaG (by rfl)) (by rfl)) (by rfl) (by rfl)) (by rfl) (by rfl) (by rfl)) (@zai _ _ _ (@zav _ _ _ _ (@zaz _ _ _ _ _ (@zaa _ _ _ _ _ (@qv _ 2 _ _ (by trivial)) (@zaa _ _ _ _ _ (@qv _ 3 _ _ (by trivial)) (@zaa _ _ _ _ _ (@zar _ _ _ _ _ _ _ _ _ zau (by rfl) G.tuple (by rfl) (@zaa _ _ _ _ _ (@qv _ 9 _ _ (by trivial)) zac (by rfl)) (by decide) (by decide) (by rfl) (by rfl)) zac (by rfl)) (by rfl)) (by rfl)))))))))))))),?_⟩
 have ok:=few.ok
 have l16:=ok.l16
 have l1:=ok.l1
 have fk:=few.fk
 have pl:=na.prs.len
 refine⟨_,rfl,r,_,rfl,SqT.of na.net,rfl,_,_,rfl,_,_,rfl,_,_,rfl,rfl,?_⟩
 refine⟨_,rfl,l,5,rfl,by decide,by decide,S,λway H1 hw S1 B1=>?_⟩
 have ae:=na.tups (B1.tups3 S)
 refine⟨_,rfl,_,rfl,fr,ps,rfl,.inr (SqT.of ae.forks),_,_,rfl,rfl,l,_,rfl,by lia,by lia,S1,λd H2 ax S2 B2=>?_⟩
 refine⟨_,rfl,_,rfl,l,_,rfl,by lia,by lia,S2,λJ H3 hk S3 B3=>⟨_,_,_,rfl,?_⟩⟩
 have y:=(ae.tups (B2.tups3 S1)).tups (B3.tups3 S2)
 have B':But l H H3:=(B1.trans B2).trans B3
 clear ae B1 B2 B3 S1 S2
 have p2:d<=ps.length:=by lia
 refine⟨_,rfl,_,rfl,_,rfl,_,rfl,_,_,rfl,rfl,_,rfl,fr,ps,rfl,y.forks,λhh H4 s4 ad=>?_⟩
 have e1:((d:Nat):Int)+1=((d+1:Nat):Int):=rfl
 have e2:((d:Nat):Int)+2=((d+2:Nat):Int):=rfl
 rw[e1,zm2,show d+1-d=1 by lia]at ad
 have v:FksOk N.lanes N.forks:=ok.fk
 have aj:=few.ln
 have bl:N.forks.length<=100:=by lia
 have fin:∀ (a:Addr) (qs:List V) (gs:List (Nat × Nat)) (X:Hp),Same H3 X->X a=some (.tup qs)->Prs X qs gs->FksOk N.lanes gs->gs.length<=fb+1->∀ q,X q=none->Q (.ref q) (L2.upd X q (.tup [.int (N.lanes:Nat),.ref a,.ref er])):=λa qs gs X I ha pr go gl q hq=>by
  have R:=zab hq (.tup [.int (N.lanes:Nat),.ref a,.ref er])
  have u:=I.trans R
  exact k q a er qs ⟨N.lanes,gs,N.ends⟩ _ ⟨⟨l1,l16,by show gs.length<=128;lia,go,ok.en⟩,aj,gl⟩ rfl ⟨zao hq _,R _ _ ha,pr.tups (Tups.of R),u _ _ y.ends⟩ (S3.keep u) (B'.trans (But.of u))
 have D:=y.prs
 have f4:=s4 _ _ y.forks
 have ay:((ps.drop d).take 1).length<=1:=by rw[Jy];lia
 have aa:=zcU 1 (zbI d D)
 have az:((N.forks.drop d).take 1).length<=1:=by rw[Jy];lia
 have pA:=zcU d D
 have lA:(N.forks.take d).length=d:=by rw[Jy];lia
 have aw:(ps.take d).length=d:=by rw[Jy];lia
 have lD:∀ n,(N.forks.drop n).length=N.forks.length-n:=λn=>Y9
 have ab:∀ n,(ps.drop n).length=N.forks.length-n:=λn=>by rw[Y9,pl]
 dsimp only[zcQ]
 refine⟨_,rfl,rfl,_,rfl,ite2 (λ_=>?_) (λ_=>?_)⟩
 ·refine⟨_,rfl,_,rfl,_,rfl,_,rfl,fr,ps,rfl,f4,λp1 X I W=>?_⟩
  rw[zkv]at W
  have Y:=s4.trans I
  have am:=I _ _ ad
  have aq:=aa.tups (Tups.of Y)
  refine⟨_,rfl,hh,rfl,⟨_,SqT.of am⟩,λlc ag=>?_⟩
  have R:=zab ag (.lst [])
  refine zgq (K:=K) (a:=hh) (xs:=(ps.drop d).take 1) (λi acc σ H6=>(∃ v0 v1,σ=[v0,v1])/\Same X H6/\H6 lc=some (.lst acc)/\acc.length=i/\Prs H6 acc ((((N.forks.drop d).take 1).take i).map λg=>(g.2,g.1))) ⟨⟨_,_,rfl⟩,R,zao ag _,rfl,trivial⟩ (λi acc σ H6 z=>⟨z.2.2.1,SqT.of (z.2.1 _ _ am)⟩) ?_ ?_
  ·rintro i x acc σ H6 hx ⟨⟨v0,v1,rfl⟩,s7,h7,al,p7⟩
   obtain⟨a,g,rfl,eg,ha⟩:=(aq.tups (Tups.of s7)).get hx
   have gi:=(Jc.mp eg).1
   refine⟨a,_,rfl,SqT.of ha,rfl,_,_,rfl,_,_,rfl,rfl,?_⟩
   refine⟨_,rfl,_,rfl,(by show 2<=sizeLine;decide),λt ht=>?_⟩
   have Z:=zab ht (.tup [.int (g.2:Nat),.int (g.1:Nat)])
   have h8:=Z _ _ h7
   refine⟨h8,by rw[JC];lia,nx (Jc.mp hx).1 ⟨⟨_,_,rfl⟩,λb o e=>?_,zag,by rw[Jd,al];rfl,?_⟩⟩
   ·rw[zah (zaf e ag)];exact Z _ _ (s7 b o e)
   ·rw[<- YF gi,JY,(Jc.mp eg).2]
    exact Prs.add (f:=(g.2,g.1)) (Tups.lst h8 _ _ (zao ht _)) ((p7.tups (Tups.of Z)).tups (Tups.lst h8))
  rintro acc σ H6 ⟨⟨v0,v1,rfl⟩,s7,h7,al,p7⟩
  rw[JQ (by rw[aa.len];exact Jg _)]at p7
  refine⟨lc,_,rfl,.inl ⟨SqL.of h7,λt8 ak=>?_⟩⟩
  have Z:=zab ak (.tup acc)
  refine⟨p1,t8,_,_,rfl,rfl,Z _ _ (s7 _ _ W),zao ak _,by rw[JC];lia,λp9 H9 s9 h9=>?_⟩
  have u9:=((Y.trans s7).trans Z).trans s9
  refine⟨_,rfl,_,rfl,_,_,rfl,rfl,_,rfl,fr,ps,rfl,u9 _ _ y.forks,λM ai p B=>?_⟩
  rw[e1,zkw]at B
  refine⟨p9,M,_,_,rfl,rfl,p _ _ h9,B,by rw[JC,Jd,ab (d+1)];lia,λL ah C O=>?_⟩
  have m:=(u9.trans p).trans C
  refine⟨_,rfl,(by show 3<=sizeLine;decide),fin L _ _ _ m O (Prs.app (Prs.app (pA.tups (Tups.of m)) (p7.tups (Tups.of (((Z.trans s9).trans p).trans C)))) ((zbI (d+1) D).tups (Tups.of m))) ?_ ?_⟩
  ·refine((v.take _).app λf hf=>?_).app (v.drop _)
   obtain⟨g,hg,rfl⟩:=JD.mp hf
   obtain⟨a,b,c⟩:=v g (List.mem_of_mem_drop (Zt hg))
   exact⟨b,a,c.symm⟩
  ·rw[Jd,Jd,Jq,lA,lD];lia
 refine⟨_,rfl,rfl,_,rfl,ite2 (λ_=>?_) (λ_=>?_)⟩
 ·refine⟨_,rfl,_,rfl,_,rfl,_,rfl,fr,ps,rfl,f4,λp1 X I W=>?_⟩
  rw[zkv]at W
  have Y:=s4.trans I
  refine⟨_,rfl,_,rfl,_,_,rfl,rfl,_,rfl,fr,ps,rfl,Y _ _ y.forks,λM ai p B=>?_⟩
  rw[e1,zkw]at B
  refine⟨p1,M,_,_,rfl,rfl,p _ _ W,B,by rw[JC,ab (d+1)];lia,λL ah C O=>?_⟩
  have m:=(Y.trans p).trans C
  refine⟨_,rfl,(by show 3<=sizeLine;decide),fin L _ _ _ m O (Prs.app (pA.tups (Tups.of m)) ((zbI (d+1) D).tups (Tups.of m))) ((v.take _).app (v.drop _)) ?_⟩
  rw[Jd,lA,lD];lia
 refine⟨_,rfl,rfl,_,rfl,ite2 (λ_=>?_) (λ_=>?_)⟩
 ·refine⟨_,rfl,_,rfl,_,rfl,_,rfl,fr,ps,rfl,f4,λp1 X I W=>?_⟩
  rw[zkv]at W
  have Y:=s4.trans I
  refine⟨_,rfl,p1,hh,_,_,rfl,rfl,W,I _ _ ad,by rw[JC];lia,λp9 H9 s9 h9=>?_⟩
  have u9:=Y.trans s9
  refine⟨_,rfl,_,rfl,_,rfl,fr,ps,rfl,u9 _ _ y.forks,λM ai p B=>?_⟩
  rw[zkw]at B
  refine⟨p9,M,_,_,rfl,rfl,p _ _ h9,B,by rw[JC,Jd,ab d];lia,λL ah C O=>?_⟩
  have m:=(u9.trans p).trans C
  refine⟨_,rfl,(by show 3<=sizeLine;decide),fin L _ _ _ m O (Prs.app (Prs.app (pA.tups (Tups.of m)) (aa.tups (Tups.of m))) ((zbI d D).tups (Tups.of m))) (((v.take _).app ((v.drop _).take _)).app (v.drop _)) ?_⟩
  rw[Jd,Jd,lA,lD];lia
 refine⟨_,rfl,rfl,_,rfl,ite2 (λ_=>?_) (λ_=>?_)⟩
 ·refine⟨_,rfl,_,rfl,_,rfl,_,rfl,fr,ps,rfl,f4,λp1 X I W=>?_⟩
  rw[zkv]at W
  have Y:=s4.trans I
  refine⟨_,rfl,_,rfl,_,_,rfl,rfl,_,rfl,_,rfl,_,_,rfl,rfl,_,rfl,fr,ps,rfl,Y _ _ y.forks,λp6 H6 R h6=>?_⟩
  rw[e1,e2,zm2,show d+2-(d+1)=1 by lia]at h6
  have l6:((ps.drop (d+1)).take 1).length<=1:=by rw[Jy];lia
  have g6:((N.forks.drop (d+1)).take 1).length<=1:=by rw[Jy];lia
  refine⟨p1,p6,_,_,rfl,rfl,R _ _ W,h6,by rw[JC];lia,λp7 H7 s7 h7=>?_⟩
  have u7:=(Y.trans R).trans s7
  refine⟨_,rfl,p7,hh,_,_,rfl,rfl,h7,s7 _ _ (R _ _ (I _ _ ad)),by rw[JC,Jd];lia,λp9 H9 s9 h9=>?_⟩
  have u9:=u7.trans s9
  refine⟨_,rfl,_,rfl,_,_,rfl,rfl,_,rfl,fr,ps,rfl,u9 _ _ y.forks,λM ai p B=>?_⟩
  rw[e2,zkw]at B
  refine⟨p9,M,_,_,rfl,rfl,p _ _ h9,B,by rw[JC,Jd,Jd,ab (d+2)];lia,λL ah C O=>?_⟩
  have m:=(u9.trans p).trans C
  refine⟨_,rfl,(by show 3<=sizeLine;decide),fin L _ _ _ m O (Prs.app (Prs.app (Prs.app (pA.tups (Tups.of m)) ((zcU 1 (zbI (d+1) D)).tups (Tups.of m))) (aa.tups (Tups.of m))) ((zbI (d+2) D).tups (Tups.of m))) ((((v.take _).app ((v.drop _).take _)).app ((v.drop _).take _)).app (v.drop _)) ?_⟩
  have c6:((N.forks.drop (d+1)).take 1).length=min 1 (N.forks.length-(d+1)):=by rw[Jy,lD]
  have c7:((N.forks.drop d).take 1).length=min 1 (N.forks.length-d):=by rw[Jy,lD]
  rw[Jd,Jd,Jd,lA,lD,c6,c7];lia
 have ap:=s4 _ _ y.ends
 have el:N.ends.length=N.lanes:=by rw[ok.en.length_eq,Yb]
 have av:=zaq N.ends
 have k1:J<N.ends.length:=by lia
 refine⟨_,rfl,er,_,rfl,.inr (SqT.of ap),λlr af=>?_⟩
 have I:=zab af (.lst (nums N.ends))
 have ao:=I _ _ ap
 have a1:=zaP (m_at N.ends J k1)
 have a0:=zaP (j:=0) (m_at N.ends 0 (by lia))
 refine⟨_,rfl,_,rfl,er,_,_,_,rfl,rfl,SqT.of ao,a1,_,rfl,er,_,0,_,rfl,rfl,SqT.of ao,a0,(by show 2<=sizeLine;decide),λT hT=>?_⟩
 have R:=zab hT (.tup [.int ((N.ends.getD J 0:Nat):Int),.int ((N.ends.getD 0 0:Nat):Int)])
 have h6:=R _ _ (zao af (.lst (nums N.ends)))
 refine⟨T,_,rfl,SqT.of zag,rfl,_,_,rfl,?_⟩
 have u6:=(s4.trans I).trans R
 let d1:List Nat:=N.ends.set 0 (N.ends.getD J 0)
 let d2:List Nat:=d1.set J (N.ends.getD 0 0)
 have z1:(nums N.ends).set 0 (.int ((N.ends.getD J 0:Nat):Int))=nums d1:=List.map_set.symm
 have z2:(nums d1).set J (.int ((N.ends.getD 0 0:Nat):Int))=nums d2:=List.map_set.symm
 have au:(nums d1).length=N.ends.length:=by rw[zaq];exact YZ
 have pd:d2.Perm N.ends:=by
  have:=List.set_set_perm (as:=N.ends) (i:=0) (j:=J) (by lia) k1
  have g1:N.ends.getD J 0=N.ends[J]:=by rw[Ja,J7 k1];rfl
  have g0:N.ends.getD 0 0=N.ends[0]:=by rw[Ja,J7 (by lia)];rfl
  show ((N.ends.set 0 (N.ends.getD J 0)).set J (N.ends.getD 0 0)).Perm N.ends
  rw[g1,g0];exact this
 refine⟨_,rfl,lr,_,0,0,rfl,rfl,h6,zg6 (i:=0) (by lia),?_⟩
 rw[z1]
 have ar:L2.upd (L2.upd (L2.upd H4 lr (.lst (nums N.ends))) T (.tup [.int ((N.ends.getD J 0:Nat):Int),.int ((N.ends.getD 0 0:Nat):Int)])) lr (.lst (nums d1)) lr=some (.lst (nums d1)):=zag
 have n3:H3 lr=none:=zch s4 af
 have sm:∀ (xs ys:List V),Same H3 (L2.upd (L2.upd (L2.upd (L2.upd H4 lr (.lst (nums N.ends))) T (.tup [.int ((N.ends.getD J 0:Nat):Int),.int ((N.ends.getD 0 0:Nat):Int)])) lr (.lst xs)) lr (.lst ys)):=λxs ys b o e=>by
  rw[zah (zaf e n3),zah (zaf e n3)];exact u6 b o e
 refine⟨_,_,rfl,_,rfl,_,rfl,lr,_,_,J,rfl,rfl,ar,by rw[au];exact zg6 k1,?_⟩
 rw[z2]
 refine⟨rfl,_,rfl,_,rfl,_,rfl,lr,_,rfl,.inl ⟨SqL.of zag,λt ht=>⟨(by show 3<=sizeLine;decide),λq hq=>?_⟩⟩⟩
 have s7:=zab ht (.tup (nums d2))
 have Z:=zab hq (.tup [.int (N.lanes:Nat),.ref fr,.ref t])
 have u:=((sm (nums d1) (nums d2)).trans s7).trans Z
 exact k q fr t ps ⟨N.lanes,N.forks,d2⟩ _ ⟨⟨l1,l16,ok.fm,ok.fk,pd.trans ok.en⟩,aj,by show N.forks.length<=fb+1;lia⟩ rfl ⟨zao hq _,u _ _ y.forks,D.tups (Tups.of u),Z _ _ (zao ht _)⟩ (S3.keep u) (B'.trans (But.of u))
end
abbrev zhJ:Stmt:=top 22
def zer (m:Nat):Sp:=λvs H Q _=>∃ p row,vs=[.ref p]/\H p=some (.lst (nums row))/\row.length=2 ^ m/\m<=4/\∀ c lf le ps H',Same H H'->H' c=some (.tup [.ref lf,.ref le])->H' lf=some (.lst ps)->Prs H' ps (zbM m row).1->H' le=some (.lst (nums (zbM m row).2))->Q (.ref c) H'
section
variable {P:Program}{w:World}{K:PySem.W.Frag}{mg:Str->Option Value}{base:Heap}
theorem scSo:FnScope ["_law_row","_law_half","_law_forks","_law_one","_law_more","_law_other","_law_last","_law_ends_here"] ["_law_row"] (zam zhJ):=by trivial
theorem zge {f fB:Addr}{fd dB:FuncData}(F:Fun K "_law_stairway" "_law_stairway" zhJ f fd) (G:Mgs mg) (C:Use P w K mg base "_law_merger" ["_law_one","_law_other"] 5 zce fB dB) (bS:Binds K fd ["_law_row"] []) (mS:mg "_law_stairway" = some (.ref f)) (n:Nat)
  (GS:FnOk P w K mg base CX0 (n+5) f fd ["_law_row"] (λvs H Q E=>∃ m,n=m+1/\zer m vs H Q E)):FnOk P w K mg base CX0 (n+6) f fd ["_law_row"] (zer n):=by
 have a:Use P w K mg base "_law_stairway" ["_law_row"] (n+5) (λvs H Q E=>∃ m,n=m+1/\zer m vs H Q E) f fd:=⟨GS,bS,F.kp,mS⟩
 refine F.ok scSo (λvs H Q E h=>?_) (λcdv A outer s H vs Q E J h=>?_)
 ·obtain⟨p,row,rfl,_⟩:=h
  rfl
 obtain⟨p,row,rfl,e,I,O,k⟩:=h
 have W:Room 5 _:=J.mono (by lia)
 refine⟨_,(@zae _ _ _ _ _ (@zbj _ _ _ _ _ _ _ _ (@zaE _ _ _ _ _ _ _ _ zb6 (@zay _ _ _ _ _ _ _ _ _ zas (by rfl) G.len Yn (@zaa _ _ _ _ _ (@qv _ 0 _ _ (by trivial)) zac (by rfl)) (by decide) (by decide) (by rfl) (by rfl)) zad (zaQ _)) (@zai _ _ _ (@zav _ _ _ _ (@zaz _ _ _ _ _ (@zaa _ _ _ _ _ (@zaI _ _ _ _ zac) (@zaa _ _ _ _ _ (@zar _ _ _ _ _ _ _ _ _ za5 (by rfl) G.list (by rfl) (@zaa _ _ _ _ _ (@qv _ 0 _ _ (by trivial)) zac (by rfl)) (by decide) (by decide) (by rfl) (by rfl)) zac (by rfl)) (by rfl))))) zaM) (@zae _ _ _ _ _ (@zaw _ _ 1 _ _ _ _ scSo.nd rfl (.inl rfl) (@zap _ _ _ _ _ _ _ _ zb5 (@zay _ _ _ _ _ _ _ _ _ zas (by rfl) G.len Yn (@zaa _ _ _ _ _ (@qv _ 0 _ _ (by trivial)) zac (by rfl)) (by decide) (by decide) (by rfl) (by rfl)) zad) (by rfl) (by trivial)) (@zae _ _ _ _ _ (@zaX _ _ _ _ _ _ (@zaj _ _ _ _ _ _ _ _ _ _ _ _ _ _ _ _ a.ok J (by rfl) a.m a.kp a.b .nil zax (@zaa _ _ _ _ _ (@zaH _ _ _ _ _ _ _ _ _ _ zcy (@qv _ 0 _ _ (by trivial)) zaR (@zaB _ _ _ (@qv _ 1 _ _ (by trivial)))) zac (by rfl)) (by decide) (by rfl) (by rfl)) (@zaT _ _ _ _ _ _ rfl (@zak _ _ _ _ _ (@zal _ _ 2 _ scSo.nd rfl (.inl rfl) (by trivial)) (@zak _ _ _ _ _ (@zal _ _ 3 _ scSo.nd rfl (.inl rfl) (by trivial)) zaG (by rfl)) (by rfl)) (by rfl) (by rfl)) (by rfl) (by rfl) (by rfl)) (@zae _ _ _ _ _ (@zaX _ _ _ _ _ _ (@zaj _ _ _ _ _ _ _ _ _ _ _ _ _ _ _ _ a.ok J (by rfl) a.m a.kp a.b .nil zax (@zaa _ _ _ _ _ (@zaH _ _ _ _ _ _ _ _ _ _ zcy (@qv _ 0 _ _ (by trivial)) (@zaB _ _ _ (@qv _ 1 _ _ (by trivial))) zaR) zac (by rfl)) (by decide) (by rfl) (by rfl)) (@zaT _ _ _ _ _ _ rfl (@zak _ _ _ _ _ (@zal _ _ 4 _ scSo.nd rfl (.inl rfl) (by trivial)) (@zak _ _ _ _ _ (@zal _ _ 5 _ scSo.nd rfl (.inl rfl) (by trivial)) zaG (by rfl)) (by rfl)) (by rfl) (by rfl)) (by rfl) (by rfl) (by rfl)) (@zae _ _ _ _ _ (@zaX _ _ _ _ _ _ (@zaj _ _ _ _ _ _ _ _ _ _ _ _ _ _ _ _ C.ok W (by rfl) C.m C.kp C.b .nil zax (@zaa _ _ _ _ _ (@qv _ 3 _ _ (by trivial)) (@zaa _ _ _ _ _ (@qv _ 5 _ _ (by trivial)) zac (by rfl)) (by rfl)) (by decide) (by rfl) (by rfl)) (@zaT _ _ _ _ _ _ rfl (@zak _ _ _ _ _ (@zal _ _ 6 _ scSo.nd rfl (.inl rfl) (by trivial)) (@zak _ _ _ _ _ (@zal _ _ 7 _ scSo.nd rfl (.inl rfl) (by trivial)) zaG (by rfl)) (by rfl)) (by rfl) (by rfl)) (by rfl) (by rfl) (by rfl)) (@zai _ _ _ (@zav _ _ _ _ (@zaz _ _ _ _ _ (@zaa _ _ _ _ _ (@zap _ _ _ _ _ _ _ _ zcO (@zap _ _ _ _ _ _ _ _ zcO (@qv _ 2 _ _ (by trivial)) (@qv _ 4 _ _ (by trivial))) (@qv _ 6 _ _ (by trivial))) (@zaa _ _ _ _ _ (@qv _ 7 _ _ (by trivial)) zac (by rfl)) (by rfl)))))))))),?_⟩
 have nl:=zaq row
 have p8:2 ^ n<=2 ^ 4:=Z4 (by decide) O
 have e8:2 ^ 4=16:=rfl
 refine⟨_,rfl,p,_,rfl,.inl (SqL.of e),rfl,_,rfl,?_⟩
 cases n with
 | zero =>
  have M:row.length=1:=I
  rw[JE (show V.int (((nums row).length:Nat):Int)=V.int 1 by rw[nl,M];rfl)]
  refine iteT ⟨(by show 0<=sizeLine;decide),λl L=>⟨_,rfl,p,_,rfl,.inl (SqL.of (zab L _ _ _ e)),λle hle=>⟨(by show 2<=sizeLine;decide),λc g=>?_⟩⟩⟩
  have s1:=zab L (.lst [])
  have s2:=zab hle (.lst (nums row))
  have d:=zab g (.tup [.ref l,.ref le])
  exact k c l le [] _ ((s1.trans s2).trans d) (zao g _) (d _ _ (s2 _ _ (zao L _))) trivial (d _ _ (zao hle _))
 | succ m =>
  obtain⟨t1,t2,t3⟩:=zcR I
  obtain⟨la,lb⟩:=zcl I
  have pw:2 ^ (m+1)=2 ^ m*2:=Zh ..
  have p0:=ZP (n:=m)
  rw[Jv (show ¬ V.int (((nums row).length:Nat):Int)=V.int 1 by intro z;injection z with z;lia)]
  refine iteF ⟨_,rfl,p,_,rfl,.inl (SqL.of e),_,_,rfl,rfl,⟨by decide,by decide⟩,?_⟩
  have eh:(((nums row).length:Nat):Int) / 2=((row.length / 2:Nat):Int):=by rw[nl];lia
  simp only[eh]
  refine⟨_,rfl,_,rfl,_,rfl,p,_,rfl,SqL.of e,λp1 v=>?_⟩
  rw[ziv row _ t3]
  have s1:=zab v (.lst (nums (row.take (row.length / 2))))
  refine⟨m,rfl,p1,row.take (row.length / 2),rfl,zao v _,la,by lia,λc2 T le2 j H2 s2 ag Z r ad=>?_⟩
  have u2:=s1.trans s2
  refine⟨c2,_,rfl,SqT.of ag,rfl,_,_,rfl,_,_,rfl,rfl,?_⟩
  refine⟨_,rfl,_,rfl,_,rfl,p,_,rfl,SqL.of (u2 _ _ e),λp3 u=>?_⟩
  rw[ziw row _ t3]
  have d:=zab u (.lst (nums (row.drop (row.length / 2))))
  refine⟨m,rfl,p3,row.drop (row.length / 2),rfl,zao u _,lb,by lia,λc4 S U i H4 s4 af Y q ab=>?_⟩
  have B:=d.trans s4
  refine⟨c4,_,rfl,SqT.of af,rfl,_,_,rfl,_,_,rfl,rfl,?_⟩
  obtain⟨xl,xf⟩:=zcb m _ la
  obtain⟨yl,yf⟩:=zcb m _ lb
  obtain⟨zl,zf⟩:=zby m _ _ xl yl
  have aj:=r.len
  have ai:=q.len
  obtain⟨am,ak⟩:=zcK m (by lia)
  refine⟨_,rfl,_,rfl,m,by lia,le2,U,_,_,rfl,B _ _ ad,ab,xl,yl,by lia,λc6 R t N H6 b _ ae X o aa=>?_⟩
  refine⟨c6,_,rfl,SqT.of ae,rfl,_,_,rfl,_,_,rfl,rfl,?_⟩
  have ah:=o.len
  refine⟨_,rfl,_,rfl,T,S,_,_,rfl,rfl,b _ _ (B _ _ Z),b _ _ Y,by rw[JC];lia,λl7 y=>?_⟩
  have s7:=zab y (.lst (j++i))
  refine⟨_,rfl,l7,R,_,_,rfl,rfl,zao y _,s7 _ _ X,by rw[JC,Jd];lia,λl8 x=>?_⟩
  have s8:=zab x (.lst ((j++i)++N))
  refine⟨_,rfl,(by show 2<=sizeLine;decide),λc g=>?_⟩
  have s9:=zab g (.tup [.ref l8,.ref t])
  have D:=(s7.trans s8).trans s9
  refine k c l8 t _ _ ((u2.trans B).trans (b.trans D)) (zao g _) (s9 _ _ (zao x _)) ?_ (D _ _ aa)
  refine Prs.tups (Tups.of D) ?_
  exact Prs.app (Prs.app ((r.tups (Tups.of B)).tups (Tups.of b)) (q.tups (Tups.of b))) o
theorem zh9 {f d:Addr}{fd e:FuncData}(F:Fun K "_law_stairway" "_law_stairway" zhJ f fd) (G:Mgs mg) (c:Use P w K mg base "_law_merger" ["_law_one","_law_other"] 5 zce d e) (b:Binds K fd ["_law_row"] []) (a:mg "_law_stairway" = some (.ref f)):∀ n:Nat,FnOk P w K mg base CX0 (n+6) f fd ["_law_row"] (zer n)
 | 0=>zge F G c b a 0 ⟨λvs H Q E ⟨m,h,_⟩=>by lia,λA outer s H args us vs Q E _ _ _ _ ⟨m,h,_⟩=>by lia⟩
 | m+1=>zge F G c b a (m+1) ((zh9 F G c b a m).imp λvs H Q E ⟨g,h,q⟩=>by cases h;exact q)
abbrev zdN:Sp:=λvs H Q E=>∃ m,m<=4/\zer m vs H Q E
theorem zia {f b:Addr}{fd c:FuncData}(F:Fun K "_law_stairway" "_law_stairway" zhJ f fd) (G:Mgs mg) (e:Use P w K mg base "_law_merger" ["_law_one","_law_other"] 5 zce b c) (d:Binds K fd ["_law_row"] []) (a:mg "_law_stairway" = some (.ref f)):FnOk P w K mg base CX0 10 f fd ["_law_row"] zdN :=
 FnOk.any 4 λm g=>(zh9 F G e d a m).mono (by lia)
end
abbrev zhI:Stmt:=top 24
def zeq (m:Nat):Sp:=λvs H Q _=>∃ p row,vs=[.ref p]/\H p=some (.lst (nums row))/\row.length=2 ^ m/\m<=4/\∀ c lf le ps H',Same H H'->H' c=some (.tup [.ref lf,.ref le])->H' lf=some (.lst ps)->Prs H' ps (zb2 m row).1->H' le=some (.lst (nums (zb2 m row).2))->Q (.ref c) H'
section
variable {P:Program}{w:World}{K:PySem.W.Frag}{mg:Str->Option Value}{base:Heap}
theorem scTo:FnScope ["_law_row","_law_half","_law_forks","_law_one","_law_more","_law_other","_law_ends_here","_law_x","_law_y"] ["_law_row"] (zam zhI):=by trivial
theorem zgd {f:Addr}{fd:FuncData}(F:Fun K "_law_tree" "_law_tree" zhI f fd) (G:Mgs mg) (bS:Binds K fd ["_law_row"] []) (mS:mg "_law_tree" = some (.ref f)) (n:Nat)
  (GS:FnOk P w K mg base CX0 n f fd ["_law_row"] (λvs H Q E=>∃ m,n=m+1/\zeq m vs H Q E)):FnOk P w K mg base CX0 (n+1) f fd ["_law_row"] (zeq n):=by
 have u:Use P w K mg base "_law_tree" ["_law_row"] n (λvs H Q E=>∃ m,n=m+1/\zeq m vs H Q E) f fd:=⟨GS,bS,F.kp,mS⟩
 refine F.ok scTo (λvs H Q E h=>?_) (λcdv A outer s H vs Q E hr h=>?_)
 ·obtain⟨p,row,rfl,_⟩:=h
  rfl
 obtain⟨p,row,rfl,D,rl,ai,k⟩:=h
 refine⟨_,(@zae _ _ _ _ _ (@zbj _ _ _ _ _ _ _ _ (@zaE _ _ _ _ _ _ _ _ zb6 (@zay _ _ _ _ _ _ _ _ _ zas (by rfl) G.len Yn (@zaa _ _ _ _ _ (@qv _ 0 _ _ (by trivial)) zac (by rfl)) (by decide) (by decide) (by rfl) (by rfl)) zad (zaQ _)) (@zai _ _ _ (@zav _ _ _ _ (@zaz _ _ _ _ _ (@zaa _ _ _ _ _ (@zaI _ _ _ _ zac) (@zaa _ _ _ _ _ (@zar _ _ _ _ _ _ _ _ _ za5 (by rfl) G.list (by rfl) (@zaa _ _ _ _ _ (@qv _ 0 _ _ (by trivial)) zac (by rfl)) (by decide) (by decide) (by rfl) (by rfl)) zac (by rfl)) (by rfl))))) zaM) (@zae _ _ _ _ _ (@zaw _ _ 1 _ _ _ _ scTo.nd rfl (.inl rfl) (@zap _ _ _ _ _ _ _ _ zb5 (@zay _ _ _ _ _ _ _ _ _ zas (by rfl) G.len Yn (@zaa _ _ _ _ _ (@qv _ 0 _ _ (by trivial)) zac (by rfl)) (by decide) (by decide) (by rfl) (by rfl)) zad) (by rfl) (by trivial)) (@zae _ _ _ _ _ (@zaX _ _ _ _ _ _ (@zaj _ _ _ _ _ _ _ _ _ _ _ _ _ _ _ _ u.ok hr (by rfl) u.m u.kp u.b .nil zax (@zaa _ _ _ _ _ (@zaH _ _ _ _ _ _ _ _ _ _ zcy (@qv _ 0 _ _ (by trivial)) zaR (@zaB _ _ _ (@qv _ 1 _ _ (by trivial)))) zac (by rfl)) (by decide) (by rfl) (by rfl)) (@zaT _ _ _ _ _ _ rfl (@zak _ _ _ _ _ (@zal _ _ 2 _ scTo.nd rfl (.inl rfl) (by trivial)) (@zak _ _ _ _ _ (@zal _ _ 3 _ scTo.nd rfl (.inl rfl) (by trivial)) zaG (by rfl)) (by rfl)) (by rfl) (by rfl)) (by rfl) (by rfl) (by rfl)) (@zae _ _ _ _ _ (@zaX _ _ _ _ _ _ (@zaj _ _ _ _ _ _ _ _ _ _ _ _ _ _ _ _ u.ok hr (by rfl) u.m u.kp u.b .nil zax (@zaa _ _ _ _ _ (@zaH _ _ _ _ _ _ _ _ _ _ zcy (@qv _ 0 _ _ (by trivial)) (@zaB _ _ _ (@qv _ 1 _ _ (by trivial))) zaR) zac (by rfl)) (by decide) (by rfl) (by rfl)) (@zaT _ _ _ _ _ _ rfl (@zak _ _ _ _ _ (@zal _ _ 4 _ scTo.nd rfl (.inl rfl) (by trivial)) (@zak _ _ _ _ _ (@zal _ _ 5 _ scTo.nd rfl (.inl rfl) (by trivial)) zaG (by rfl)) (by rfl)) (by rfl) (by rfl)) (by rfl) (by rfl) (by rfl)) (@zae _ _ _ _ _ (@zaw _ _ 6 _ _ _ _ scTo.nd rfl (.inl rfl) (@zaI _ _ _ _ zac) (by rfl) (by trivial)) (@zae _ _ _ _ _ (@zbN _ _ _ _ _ _ _ _ Yt rfl (@zkN _ _ _ _ _ _ _ _ _ true true rfl G.zip (@zaa _ _ _ _ _ (@qv _ 3 _ _ (by trivial)) (@zaa _ _ _ _ _ (@qv _ 5 _ _ (by trivial)) zac (by rfl)) (by rfl)) (by rfl) (by rfl)) (@zaT _ _ _ _ _ _ rfl (@zak _ _ _ _ _ (@zal _ _ 7 _ scTo.nd rfl (.inl rfl) (by trivial)) (@zak _ _ _ _ _ (@zal _ _ 8 _ scTo.nd rfl (.inl rfl) (by trivial)) zaG (by rfl)) (by rfl)) (by rfl) (by rfl)) (@zai _ _ _ (@zbH _ _ _ _ (@zdZ _ _ _ _ _ _ _ _ _ _ _ _ Yw PySem.F.slot_list_extend PySem.F.type_list_extend zeG (@qv _ 6 _ _ (by trivial)) (@zaa _ _ _ _ _ (@zaI _ _ _ _ (@zaa _ _ _ _ _ (@qv _ 7 _ _ (by trivial)) (@zaa _ _ _ _ _ (@qv _ 8 _ _ (by trivial)) zac (by rfl)) (by rfl))) zac (by rfl)) (by rfl) (by rfl) (by rfl) (by rfl) (by rfl)) (by rfl))) (by intro _;rfl)) (@zai _ _ _ (@zav _ _ _ _ (@zaz _ _ _ _ _ (@zaa _ _ _ _ _ (@zap _ _ _ _ _ _ _ _ zcO (@zap _ _ _ _ _ _ _ _ zcO (@zaI _ _ _ _ (@zaa _ _ _ _ _ (@zaz _ _ _ _ _ (@zaa _ _ _ _ _ (@zaA _ _ _ _ _ _ _ zat (@qv _ 0 _ _ (by trivial)) zad (λ_ _=>rfl)) (@zaa _ _ _ _ _ (@zaA _ _ _ _ _ _ _ zat (@qv _ 0 _ _ (by trivial)) (@qv _ 1 _ _ (by trivial)) (λ_ _=>rfl)) zac (by rfl)) (by rfl))) zac (by rfl))) (@qv _ 2 _ _ (by trivial))) (@qv _ 4 _ _ (by trivial))) (@zaa _ _ _ _ _ (@qv _ 6 _ _ (by trivial)) zac (by rfl)) (by rfl))))))))))),?_⟩
 have nl:=zaq row
 have p8:2 ^ n<=2 ^ 4:=Z4 (by decide) ai
 have e8:2 ^ 4=16:=rfl
 refine⟨_,rfl,p,_,rfl,.inl (SqL.of D),rfl,_,rfl,?_⟩
 cases n with
 | zero =>
  have ag:row.length=1:=rl
  rw[JE (show V.int (((nums row).length:Nat):Int)=V.int 1 by rw[nl,ag];rfl)]
  refine iteT ⟨(by show 0<=sizeLine;decide),λl hl=>⟨_,rfl,p,_,rfl,.inl (SqL.of (zab hl _ _ _ D)),λle hle=>⟨(by show 2<=sizeLine;decide),λc J=>?_⟩⟩⟩
  have s1:=zab hl (.lst [])
  have s2:=zab hle (.lst (nums row))
  have I:=zab J (.tup [.ref l,.ref le])
  exact k c l le [] _ ((s1.trans s2).trans I) (zao J _) (I _ _ (s2 _ _ (zao hl _))) trivial (I _ _ (zao hle _))
 | succ m =>
  obtain⟨t1,t2,t3⟩:=zcR rl
  obtain⟨la,lb⟩:=zcl rl
  have pw:2 ^ (m+1)=2 ^ m*2:=Zh ..
  have p0:=ZP (n:=m)
  rw[Jv (show ¬ V.int (((nums row).length:Nat):Int)=V.int 1 by intro z;injection z with z;lia)]
  refine iteF ⟨_,rfl,p,_,rfl,.inl (SqL.of D),_,_,rfl,rfl,⟨by decide,by decide⟩,?_⟩
  have eh:(((nums row).length:Nat):Int) / 2=((row.length / 2:Nat):Int):=by rw[nl];lia
  simp only[eh]
  refine⟨_,rfl,_,rfl,_,rfl,p,_,rfl,SqL.of D,λp1 ad=>?_⟩
  rw[ziv row _ t3]
  have s1:=zab ad (.lst (nums (row.take (row.length / 2))))
  refine⟨m,rfl,p1,row.take (row.length / 2),rfl,zao ad _,la,by lia,λc2 W le2 O H2 s2 aq am S ao=>?_⟩
  have u2:=s1.trans s2
  refine⟨c2,_,rfl,SqT.of aq,rfl,_,_,rfl,_,_,rfl,rfl,?_⟩
  refine⟨_,rfl,_,rfl,_,rfl,p,_,rfl,SqL.of (u2 _ _ D),λp3 Z=>?_⟩
  rw[ziw row _ t3]
  have I:=zab Z (.lst (nums (row.drop (row.length / 2))))
  refine⟨m,rfl,p3,row.drop (row.length / 2),rfl,zao Z _,lb,by lia,λc4 U g ah H4 s4 ap ak R C=>?_⟩
  have u4:=I.trans s4
  refine⟨c4,_,rfl,SqT.of ap,rfl,_,_,rfl,_,_,rfl,rfl,?_⟩
  have B:=u2.trans u4
  obtain⟨xl,xf⟩:=zcT m _ la
  obtain⟨yl,yf⟩:=zcT m _ lb
  have au:=S.len
  have ar:=R.len
  have b:=u4 _ _ ao
  have ab:=u4 _ _ am
  have aa:=S.tups (Tups.of u4)
  have aj:=B _ _ D
  generalize hF:(zb2 m (row.take (row.length / 2))).2=fst at *
  generalize hS:(zb2 m (row.drop (row.length / 2))).2=snd at *
  refine⟨(by show 0<=sizeLine;decide),λr a=>?_⟩
  have s8:=zab a (.lst [])
  have ax:H r=none:=zch B a
  have aw:le2≠r:=zaf b a
  have av:g≠r:=zaf C a
  refine⟨_,rfl,_,rfl,le2,g,_,_,rfl,SqL.of (s8 _ _ b),SqL.of (s8 _ _ C),?_⟩
  refine ziT (K:=K) (b1:=true) (b2:=true) (a1:=le2) (a2:=g) (xs:=nums fst) (ys:=nums snd) (by rw[zaq,zaq,xl,yl]) (λj σ M=>(∃ v7 v8,σ=[some (.ref p),some (.int ((row.length / 2:Nat):Int)),some (.ref W),some (.ref le2),some (.ref U),some (.ref g),some (.ref r),v7,v8])/\Same H4 M/\M r=some (.lst (nums (za3 (fst.take j) (snd.take j))))) ⟨⟨_,_,rfl⟩,s8,zao a _⟩ (λj σ M _ z=>⟨SqL.of (z.2.1 _ _ b),SqL.of (z.2.1 _ _ C)⟩) ?_ ?_
  ·rintro j x y T σ M hx hy hT ⟨⟨v7,v8,rfl⟩,i,L⟩
   obtain⟨j1,rfl⟩:=zgh hx
   obtain⟨j2,rfl⟩:=zgh hy
   have sT:=zab hT (.tup [.int ((fst.getD j 0:Nat):Int),.int ((snd.getD j 0:Nat):Int)])
   refine⟨T,_,rfl,SqT.of zag,rfl,_,_,rfl,_,_,rfl,rfl,?_⟩
   refine⟨_,rfl,.inl ⟨rfl,_,SqL.of (sT _ _ L)⟩,_,rfl,_,rfl,(by show 2<=sizeLine;decide),λq hq=>?_⟩
   have sq:=zab hq (.lst [.int ((fst.getD j 0:Nat):Int),.int ((snd.getD j 0:Nat):Int)])
   have tl:=zbw (fst.take j) (snd.take j) (by rw[Jy,Jy];lia)
   rw[Jy]at tl
   refine⟨r,q,_,_,rfl,rfl,sq _ _ (sT _ _ L),zao hq _,by rw[zaq,JC,tl];show _+2<=_;lia,?_⟩
   refine⟨⟨_,_,rfl⟩,λc o e=>?_,?_⟩
   ·rw[zah (zaf e a)];exact sq _ _ (sT _ _ (i c o e))
   ·rw[zcw fst snd j j1 j2]
    have e:nums (za3 (fst.take j) (snd.take j)++[fst.getD j 0,snd.getD j 0])=nums (za3 (fst.take j) (snd.take j))++[.int ((fst.getD j 0:Nat):Int),.int ((snd.getD j 0:Nat):Int)]:=by rw[<- zlQ];rfl
    rw[e];exact zag
  ·rintro σ M ⟨⟨v7,v8,rfl⟩,i,L⟩
   rw[JQ (by rw[zaq];exact Jg _),JQ (by rw[zaq];lia)]at L
   have Y:=i _ _ aj
   refine⟨_,rfl,p,_,0,_,rfl,rfl,SqL.of Y,zaP (j:=0) (m_at row 0 (by lia)),?_⟩
   refine⟨_,rfl,_,rfl,p,_,_,_,rfl,rfl,SqL.of Y,zaP (m_at row (row.length / 2) (by lia)),(by show 2<=sizeLine;decide),λt ht=>?_⟩
   have s5:=zab ht (.tup [.int ((row.getD 0 0:Nat):Int),.int ((row.getD (row.length / 2) 0:Nat):Int)])
   refine⟨(by show 1<=sizeLine;decide),λl6 af=>?_⟩
   have s6:=zab af (.lst [.ref t])
   refine⟨_,rfl,l6,W,_,_,rfl,rfl,zao af _,s6 _ _ (s5 _ _ (i _ _ ab)),by rw[JC];simp only[JL,ZH];lia,λl7 ae=>?_⟩
   have s7:=zab ae (.lst ([.ref t]++O))
   refine⟨_,rfl,l7,U,_,_,rfl,rfl,zao ae _,s7 _ _ (s6 _ _ (s5 _ _ (i _ _ ak))),by rw[JC,Jd];simp only[JL,ZH];lia,λX v=>?_⟩
   have N:=zab v (.lst (([.ref t]++O)++ah))
   have u8:=((s5.trans s6).trans s7).trans N
   refine⟨_,rfl,(by show 2<=sizeLine;decide),λc J=>?_⟩
   have d:=zab J (.tup [.ref X,.ref r])
   have t8:=N _ _ (s7 _ _ (s6 _ _ (zao ht (.tup [.int ((row.getD 0 0:Nat):Int),.int ((row.getD (row.length / 2) 0:Nat):Int)]))))
   have eN:zb2 (m+1) row=((row.getD 0 0,row.getD (row.length / 2) 0)::((zb2 m (row.take (row.length / 2))).1++(zb2 m (row.drop (row.length / 2))).1),za3 fst snd):=by rw[<- hF,<- hS];rfl
   refine k c X r _ _ (B.trans (i.trans (u8.trans d))) (zao J _) (d _ _ (zao v _)) ?_ (by rw[eN];exact d _ _ (u8 _ _ L))
   refine Prs.tups (Tups.of d) ?_
   rw[JU,eN]
   exact Prs.app (ps:=[.ref t]) (fs:=[(row.getD 0 0,row.getD (row.length / 2) 0)]) (show Prs _ [.ref t] [(row.getD 0 0,row.getD (row.length / 2) 0)] from⟨⟨t,rfl,t8⟩,trivial⟩) (Prs.app ((aa.tups (Tups.of i)).tups (Tups.of u8)) ((R.tups (Tups.of i)).tups (Tups.of u8)))
theorem zh7 {f:Addr}{fd:FuncData}(F:Fun K "_law_tree" "_law_tree" zhI f fd) (G:Mgs mg) (b:Binds K fd ["_law_row"] []) (a:mg "_law_tree" = some (.ref f)):∀ n:Nat,FnOk P w K mg base CX0 (n+1) f fd ["_law_row"] (zeq n)
 | 0=>zgd F G b a 0 ⟨λvs H Q E ⟨m,h,_⟩=>by lia,λA outer s H args us vs Q E _ _ _ _ ⟨m,h,_⟩=>by lia⟩
 | m+1=>zgd F G b a (m+1) ((zh7 F G b a m).imp λvs H Q E ⟨c,h,q⟩=>by cases h;exact q)
abbrev zdM:Sp:=λvs H Q E=>∃ m,m<=4/\zeq m vs H Q E
theorem zh8 {f:Addr}{fd:FuncData}(F:Fun K "_law_tree" "_law_tree" zhI f fd) (G:Mgs mg) (b:Binds K fd ["_law_row"] []) (a:mg "_law_tree" = some (.ref f)):FnOk P w K mg base CX0 5 f fd ["_law_row"] zdM :=
 FnOk.any 4 λm c=>(zh7 F G b a m).mono (by lia)
end
end K35
namespace K35
open PySem L2 Own Bn
abbrev zhQ:Stmt:=top 23
def zet (m:Nat):Sp:=λvs H Q _=>∃ p row,vs=[.ref p]/\H p=some (.lst (nums row))/\row.length=2 ^ m/\m<=4/\∀ l ps H',Same H H'->H' l=some (.lst ps)->Prs H' ps (zb1 m row)->Q (.ref l) H'
theorem zmn (row:List Nat) (j:Nat) (h:j<row.length):row.reverse.getD j 0=row.getD (row.length-1-j) 0:=by
 rw[Ja,List.getElem?_reverse h,Ja]
section
variable {P:Program}{w:World}{K:PySem.W.Frag}{mg:Str->Option Value}{base:Heap}
theorem scBL:FnScope ["_law_row","_law_half","_law_forks"] ["_law_row"] (zam zhQ):=by trivial
theorem zgg {f:Addr}{fd:FuncData}(F:Fun K "_law_block" "_law_block" zhQ f fd) (G:Mgs mg) (bS:Binds K fd ["_law_row"] []) (mS:mg "_law_block" = some (.ref f)) (n:Nat)
  (GS:FnOk P w K mg base CX0 n f fd ["_law_row"] (λvs H Q E=>∃ m,n=m+1/\zet m vs H Q E)):FnOk P w K mg base CX0 (n+1) f fd ["_law_row"] (zet n):=by
 have d:Use P w K mg base "_law_block" ["_law_row"] n (λvs H Q E=>∃ m,n=m+1/\zet m vs H Q E) f fd:=⟨GS,bS,F.kp,mS⟩
 refine F.ok scBL (λvs H Q E h=>?_) (λcdv A outer s H vs Q E hr h=>?_)
 ·obtain⟨p,row,rfl,_⟩:=h
  rfl
 obtain⟨p,row,rfl,v,U,ad,k⟩:=h
 refine⟨_,(@zae _ _ _ _ _ (@zbj _ _ _ _ _ _ _ _ (@zaE _ _ _ _ _ _ _ _ zb6 (@zay _ _ _ _ _ _ _ _ _ zas (by rfl) G.len Yn (@zaa _ _ _ _ _ (@qv _ 0 _ _ (by trivial)) zac (by rfl)) (by decide) (by decide) (by rfl) (by rfl)) zad (zaQ _)) (@zai _ _ _ (@zav _ _ _ _ (@zaI _ _ _ _ zac))) zaM) (@zae _ _ _ _ _ (@zaw _ _ 1 _ _ _ _ scBL.nd rfl (.inl rfl) (@zap _ _ _ _ _ _ _ _ zb5 (@zay _ _ _ _ _ _ _ _ _ zas (by rfl) G.len Yn (@zaa _ _ _ _ _ (@qv _ 0 _ _ (by trivial)) zac (by rfl)) (by decide) (by decide) (by rfl) (by rfl)) zad) (by rfl) (by trivial)) (@zae _ _ _ _ _ (@zga _ 2 _ _ _ _ none _ _ _ _ _ _ _ _ ["_law_i","_law_row"] [none,some 0] scBL.nd rfl rfl rfl (@zbk _ _ _ _ _ _ rfl G.range (@zaa _ _ _ _ _ (@qv _ 1 _ _ (by trivial)) zac (by rfl)) (by rfl)) (CapOk.of (by kernel_rfl)) (λ_ _ _ _ _=>(@zal _ _ 0 _ (show (["_law_i","_law_row"]:List Str).Nodup from by decide +kernel) rfl (.inl rfl) (.inr rfl))) (λ_ _ _ _ _=>zb3) (λ_ _ _ _ _=>(@zaz _ _ _ _ _ (@zaa _ _ _ _ _ (@zaA _ _ _ _ _ _ (rIxL K) zat (@qv _ 1 _ _ (by trivial)) (@qv _ 0 _ _ (by trivial)) (λ_ _=>rfl)) (@zaa _ _ _ _ _ (@zaA _ _ _ _ _ _ (rIxL K) zat (@qv _ 1 _ _ (by trivial)) (@zap _ _ _ _ _ _ _ _ zdb (@zap _ _ _ _ _ _ _ _ zdb (@zay _ _ _ _ _ _ _ _ (zmp K) zjg (by rfl) G.len Yn (@zaa _ _ _ _ _ (@qv _ 1 _ _ (by trivial)) zac (by rfl)) (by decide) (by decide) (by rfl) (by rfl)) zad) (@qv _ 0 _ _ (by trivial))) (λ_ _=>rfl)) zac (by rfl)) (by rfl)))) (by intro _;rfl) (by with_unfolding_all rfl)) (@zai _ _ _ (@zav _ _ _ _ (@zap _ _ _ _ _ _ _ _ zcO (@zap _ _ _ _ _ _ _ _ zcO (@qv _ 2 _ _ (by trivial)) (@zaj _ _ _ _ _ _ _ _ _ _ _ _ _ _ _ _ d.ok hr (by rfl) d.m d.kp d.b .nil zax (@zaa _ _ _ _ _ (@zaH _ _ _ _ _ _ _ _ _ _ zcy (@qv _ 0 _ _ (by trivial)) zaR (@zaB _ _ _ (@qv _ 1 _ _ (by trivial)))) zac (by rfl)) (by decide) (by rfl) (by rfl))) (@zaj _ _ _ _ _ _ _ _ _ _ _ _ _ _ _ _ d.ok hr (by rfl) d.m d.kp d.b .nil zax (@zaa _ _ _ _ _ (@zaH _ _ _ _ _ _ _ _ _ _ zcy (@qv _ 0 _ _ (by trivial)) (@zaB _ _ _ (@qv _ 1 _ _ (by trivial))) zaR) zac (by rfl)) (by decide) (by rfl) (by rfl)))))))),?_⟩
 have nl:=zaq row
 have p8:2 ^ n<=2 ^ 4:=Z4 (by decide) ad
 have e8:2 ^ 4=16:=rfl
 refine⟨_,rfl,p,_,rfl,.inl (SqL.of v),rfl,_,rfl,?_⟩
 cases n with
 | zero =>
  have aa:row.length=1:=U
  rw[JE (show V.int (((nums row).length:Nat):Int)=V.int 1 by rw[nl,aa];rfl)]
  exact iteT ⟨(by show 0<=sizeLine;decide),λl hl=>k l [] _ (zab hl _) (zao hl _) trivial⟩
 | succ m =>
  obtain⟨t1,t2,t3⟩:=zcR U
  obtain⟨la,lb⟩:=zcl U
  have pw:2 ^ (m+1)=2 ^ m*2:=Zh ..
  have p0:=ZP (n:=m)
  rw[Jv (show ¬ V.int (((nums row).length:Nat):Int)=V.int 1 by intro z;injection z with z;lia)]
  refine iteF ⟨_,rfl,p,_,rfl,.inl (SqL.of v),_,_,rfl,rfl,⟨by decide,by decide⟩,?_⟩
  have eh:(((nums row).length:Nat):Int) / 2=((row.length / 2:Nat):Int):=by rw[nl];lia
  simp only[eh]
  refine⟨_,rfl,((row.length / 2:Nat):Int),rfl,by lia,by lia,λlc J=>?_⟩
  refine zke (lo:=0) (n:=((row.length / 2:Nat):Int).toNat) (λj acc σ r=>(∃ v0,σ=[v0,some (.ref p)])/\Same H r/\r lc=some (.lst acc)/\acc.length=j/\Prs r acc (((row.take (row.length / 2)).zip row.reverse).take j)) ⟨⟨_,rfl⟩,zab J _,zag,rfl,trivial⟩ (λj acc σ r z=>z.2.2.1) ?_ ?_
  ·rintro j acc σ r hj ⟨⟨v0,rfl⟩,u,X,al,a⟩
   have jl:j<row.length / 2:=by lia
   have b:=u _ _ v
   have e0:(0:Int)+((j:Nat):Int)=((j:Nat):Int):=Int.zero_add _
   refine⟨_,rfl,_,rfl,p,_,_,_,rfl,rfl,SqL.of b,(by rw[e0];exact zaP (m_at row j (by lia))),?_⟩
   refine⟨_,rfl,_,rfl,p,_,rfl,.inl (SqL.of b),_,_,rfl,rfl,_,rfl,_,_,rfl,rfl,?_⟩
   have ei:(((nums row).length:Nat):Int)-1-(0+((j:Nat):Int))=((row.length-1-j:Nat):Int):=by rw[nl];lia
   refine⟨p,_,_,_,rfl,rfl,SqL.of b,(by rw[ei];exact zaP (m_at row (row.length-1-j) (by lia))),?_⟩
   rw[<- zmn row j (by lia)]
   refine⟨(by show 2<=sizeLine;decide),λt ht=>?_⟩
   have T:=zab ht (.tup [.int ((row.getD j 0:Nat):Int),.int ((row.reverse.getD j 0:Nat):Int)])
   have W:=T _ _ X
   refine⟨W,by rw[JC];lia,nx hj ⟨⟨_,rfl⟩,λc o e=>?_,zag,by rw[Jd,al];rfl,?_⟩⟩
   ·rw[zah (zaf e J)];exact T _ _ (u c o e)
   ·rw[zfW (by rw[Jy];lia) (by rw[List.length_reverse];lia)]
    refine Prs.add (f:=((row.take (row.length / 2)).getD j 0,row.reverse.getD j 0)) ?_ ((a.tups (Tups.of T)).tups (Tups.lst W))
    rw[Tups.lst W _ _ (zao ht _),Ja (l:=row.take _),Z6 jl,<- Ja]
  rintro acc σ r ⟨⟨v0,rfl⟩,u,X,al,a⟩
  rw[Ya]at al a
  rw[JQ (by rw[ZK,Jy,List.length_reverse];lia)]at a
  have b:=u _ _ v
  refine⟨_,rfl,_,rfl,_,rfl,_,rfl,p,_,rfl,SqL.of b,λp5 I=>?_⟩
  rw[ziv row _ t3]
  have s5:=zab I (.lst (nums (row.take (row.length / 2))))
  refine⟨m,rfl,p5,row.take (row.length / 2),rfl,zao I _,la,by lia,λl6 q H7 Z af g=>?_⟩
  have R:=s5.trans Z
  have b6:=zbT m (row.take (row.length / 2))
  rw[la]at b6
  have ai:m*2 ^ m<=4*16:=Nat.mul_le_mul (by lia) (by lia)
  have ah:=g.len
  refine⟨lc,l6,_,_,rfl,rfl,R _ _ X,af,by rw[JC];lia,λl7 L=>?_⟩
  have S:=zab L (.lst (acc++q))
  have B:=(Prs.app (a.tups (Tups.of R)) g).tups (Tups.of S)
  have O:=u.trans (R.trans S)
  have D:=O _ _ v
  have h8:=zao L (.lst (acc++q))
  generalize L2.upd H7 l7 _=H8 at S B O D h8 ⊢
  refine⟨_,rfl,_,rfl,_,rfl,p,_,rfl,SqL.of D,λp9 C=>?_⟩
  rw[ziw row _ t3]
  have s9:=zab C (.lst (nums (row.drop (row.length / 2))))
  refine⟨m,rfl,p9,row.drop (row.length / 2),rfl,zao C _,lb,by lia,λl9 ab H9 Y h9 y=>?_⟩
  have N:=s9.trans Y
  have b9:=zbT m (row.drop (row.length / 2))
  rw[lb]at b9
  have ag:=y.len
  refine⟨l7,l9,_,_,rfl,rfl,N _ _ h8,h9,by rw[Jd,JC];lia,λae i=>?_⟩
  have x:=zab i (.lst ((acc++q)++ab))
  have M:=(Prs.app (B.tups (Tups.of N)) y).tups (Tups.of x)
  refine k ae _ _ (O.trans (N.trans x)) (zao i _) ?_
  have e:zb1 (m+1) row=(row.take (row.length / 2)).zip row.reverse++zb1 m (row.take (row.length / 2))++zb1 m (row.drop (row.length / 2)):=by
   conv=>lhs;unfold zb1
   rw[Jb (by lia)]
  rw[e];exact M
theorem zih {f:Addr}{fd:FuncData}(F:Fun K "_law_block" "_law_block" zhQ f fd) (G:Mgs mg) (b:Binds K fd ["_law_row"] []) (a:mg "_law_block" = some (.ref f)):∀ n:Nat,FnOk P w K mg base CX0 (n+1) f fd ["_law_row"] (zet n)
 | 0=>zgg F G b a 0 ⟨λvs H Q E ⟨m,h,_⟩=>by lia,λA outer s H args us vs Q E _ _ _ _ ⟨m,h,_⟩=>by lia⟩
 | m+1=>zgg F G b a (m+1) ((zih F G b a m).imp λvs H Q E ⟨c,h,q⟩=>by cases h;exact q)
abbrev zdS:Sp:=λvs H Q E=>∃ m,m<=4/\zet m vs H Q E
theorem zii {f:Addr}{fd:FuncData}(F:Fun K "_law_block" "_law_block" zhQ f fd) (G:Mgs mg) (b:Binds K fd ["_law_row"] []) (a:mg "_law_block" = some (.ref f)):FnOk P w K mg base CX0 5 f fd ["_law_row"] zdS :=
 FnOk.any 4 λm c=>(zih F G b a m).mono (by lia)
end
abbrev zlh:Stmt:=top 25
def za2 (way k:Nat):Nt:=if way=0 then zcc k else if way=1 then zdL k else zbG k
theorem zfx {way k:Nat}(h:k<5):(za2 way k).Ok:=by
 unfold za2
 split
 ·exact zjv h
 ·split
  ·exact zk4 h
  ·exact zhS h
theorem zba (way k:Nat):(za2 way k).lanes=2 ^ k:=by
 unfold za2
 split
 ·rfl
 ·split<;>rfl
def zf3:Sp:=λvs H Q _=>∃ way k:Nat,vs=[.int (way:Nat),.int (k:Nat)]/\k<5/\∀ r fr er ps H',Same H H'->NetAt H' r fr er ps (za2 way k)->Q (.ref r) H'
theorem zfo {H:Hp}{ps:List V}{fs:List Fk}(h:Prs H ps fs):∀ n:Nat,Prs H (List.replicate n ps).flatten (List.replicate n fs).flatten
 | 0=>trivial
 | n+1=>by
  rw[Ym,Ym,ZT,ZT]
  exact Prs.app h (zfo h n)
section
variable {P:Program}{w:World}{K:PySem.W.Frag}{mg:Str->Option Value}{base:Heap}
theorem scMd:FnScope ["_law_way","_law_k","_law_row","_law_forks","_law_ends_here"] ["_law_way","_law_k"] (zam zlh):=by trivial
theorem zlC {f fB fS fT:Addr}{fd dB dS dT:FuncData}(F:Fun K "_law_made" "_law_made" zlh f fd) (G:Mgs mg) (Y:Use P w K mg base "_law_block" ["_law_row"] 5 zdS fB dB) (X:Use P w K mg base "_law_stairway" ["_law_row"] 10 zdN fS dS) (W:Use P w K mg base "_law_tree" ["_law_row"] 5 zdM fT dT):FnOk P w K mg base CX0 11 f fd ["_law_way","_law_k"] zf3:=by
 refine F.ok scMd (λvs H Q E h=>?_) (λcdv A outer s H vs Q E hr h=>?_)
 ·obtain⟨way,k,rfl,_⟩:=h
  rfl
 obtain⟨way,k,rfl,k5,q⟩:=h
 have J:Room 5 _:=hr.mono (by decide)
 refine⟨_,(@zae _ _ _ _ _ (@zaw _ _ 2 _ _ _ _ scMd.nd rfl (.inl rfl) (@zeA _ _ _ _ _ _ _ rfl (by rfl) G.list (by rfl) G.range (@zaa _ _ _ _ _ (@zaA _ _ _ _ _ _ _ zat (@zaI _ _ _ _ (@zaa _ _ _ _ _ zad (@zaa _ _ _ _ _ zad (@zaa _ _ _ _ _ zad (@zaa _ _ _ _ _ zad (@zaa _ _ _ _ _ zad zac (by rfl)) (by rfl)) (by rfl)) (by rfl)) (by rfl))) (@qv _ 1 _ _ (by trivial)) (λ_ _=>rfl)) zac (by rfl)) (by rfl) (by rfl)) (by rfl) (by trivial)) (@zae _ _ _ _ _ (@zhV _ _ 3 4 _ _ _ _ _ _ _ _ _ _ _ rfl scMd.nd rfl rfl (by decide) rfl rfl (@zaa _ _ _ _ _ (@zap _ _ _ _ _ _ _ _ zmz (@zaj _ _ _ _ _ _ _ _ _ _ _ _ _ _ _ _ Y.ok J (by rfl) Y.m Y.kp Y.b .nil zax (@zaa _ _ _ _ _ (@qv _ 2 _ _ (by trivial)) zac (by rfl)) (by decide) (by rfl) (by rfl)) (@qv _ 1 _ _ (by trivial))) (@zaa _ _ _ _ _ (@qv _ 2 _ _ (by trivial)) zac (by rfl)) (by rfl)) (by rfl) (by rfl)) (@zae _ _ _ _ _ (@zbj _ _ _ _ _ _ _ _ (@zaE _ _ _ _ _ _ _ _ zb6 (@qv _ 0 _ _ (by trivial)) zad (zaQ _)) (@zai _ _ _ (@zaX _ _ _ _ _ _ (@zaj _ _ _ _ _ _ _ _ _ _ _ _ _ _ _ _ X.ok hr (by rfl) X.m X.kp X.b .nil zax (@zaa _ _ _ _ _ (@qv _ 2 _ _ (by trivial)) zac (by rfl)) (by decide) (by rfl) (by rfl)) (@zaT _ _ _ _ _ _ rfl (@zak _ _ _ _ _ (@zal _ _ 3 _ scMd.nd rfl (.inl rfl) (by trivial)) (@zak _ _ _ _ _ (@zal _ _ 4 _ scMd.nd rfl (.inl rfl) (by trivial)) zaG (by rfl)) (by rfl)) (by rfl) (by rfl)) (by rfl) (by rfl) (by rfl))) zaM) (@zae _ _ _ _ _ (@zbj _ _ _ _ _ _ _ _ (@zaE _ _ _ _ _ _ _ _ zb6 (@qv _ 0 _ _ (by trivial)) zad (zaQ _)) (@zai _ _ _ (@zaX _ _ _ _ _ _ (@zaj _ _ _ _ _ _ _ _ _ _ _ _ _ _ _ _ W.ok J (by rfl) W.m W.kp W.b .nil zax (@zaa _ _ _ _ _ (@qv _ 2 _ _ (by trivial)) zac (by rfl)) (by decide) (by rfl) (by rfl)) (@zaT _ _ _ _ _ _ rfl (@zak _ _ _ _ _ (@zal _ _ 3 _ scMd.nd rfl (.inl rfl) (by trivial)) (@zak _ _ _ _ _ (@zal _ _ 4 _ scMd.nd rfl (.inl rfl) (by trivial)) zaG (by rfl)) (by rfl)) (by rfl) (by rfl)) (by rfl) (by rfl) (by rfl))) zaM) (@zai _ _ _ (@zav _ _ _ _ (@zaz _ _ _ _ _ (@zaa _ _ _ _ _ (@zay _ _ _ _ _ _ _ _ _ zas (by rfl) G.len Yn (@zaa _ _ _ _ _ (@qv _ 2 _ _ (by trivial)) zac (by rfl)) (by decide) (by decide) (by rfl) (by rfl)) (@zaa _ _ _ _ _ (@zar _ _ _ _ _ _ _ _ _ zau (by rfl) G.tuple (by rfl) (@zaa _ _ _ _ _ (@qv _ 3 _ _ (by trivial)) zac (by rfl)) (by decide) (by decide) (by rfl) (by rfl)) (@zaa _ _ _ _ _ (@zar _ _ _ _ _ _ _ _ _ zau (by rfl) G.tuple (by rfl) (@zaa _ _ _ _ _ (@qv _ 4 _ _ (by trivial)) zac (by rfl)) (by decide) (by decide) (by rfl) (by rfl)) zac (by rfl)) (by rfl)) (by rfl))))))))),?_⟩
 have aa:2 ^ k<=2 ^ 4:=Z4 (by decide) (by lia)
 have ab:2 ^ 4=16:=rfl
 have M:atI [V.int 1,V.int 2,V.int 4,V.int 8,V.int 16] ((k:Nat):Int)=some (.int ((2 ^ k:Nat):Int)):=by
  have:∀ k,k<5->atI [V.int 1,V.int 2,V.int 4,V.int 8,V.int 16] ((k:Nat):Int)=some (.int ((2 ^ k:Nat):Int)):=by decide
  exact this k k5
 refine⟨(by show 5<=sizeLine;decide),λt ht=>?_⟩
 have s0:=zab ht (.lst [.int 1,.int 2,.int 4,.int 8,.int 16])
 refine⟨_,rfl,t,_,_,_,rfl,rfl,SqL.of zag,M,?_⟩
 refine⟨2 ^ k,rfl,by lia,λp hp=>?_⟩
 have s1:=zab hp (.lst (nums (List.range (2 ^ k))))
 have Z:=s0.trans s1
 have g:=zao hp (.lst (nums (List.range (2 ^ k))))
 show tSeq _ _ _ _ (L2.upd _ p (.lst (nums (List.range (2 ^ k)))))
 generalize L2.upd _ p (.lst (nums (List.range (2 ^ k))))=H1 at Z g ⊢
 clear s0 s1 hp
 refine⟨_,rfl,k,by lia,p,List.range (2 ^ k),rfl,g,Yb,by lia,λl ps H2 s2 hl pr=>?_⟩
 have pl:=pr.len
 have bl:=zbT k (List.range (2 ^ k))
 rw[Yb]at bl
 have b2:k*2 ^ k<=4*2 ^ 4:=Nat.mul_le_mul (by lia) aa
 have b3:ps.length*k<=(4*2 ^ 4)*4:=Nat.mul_le_mul (by lia) (by lia)
 refine⟨_,rfl,l,k,ps,rfl,rfl,hl,by lia,by lia,by rw[Ya,JC];lia,λl2 v=>?_⟩
 rw[Ya]
 have j:=zab v (.lst (List.replicate k ps).flatten)
 refine⟨_,rfl,_,_,rfl,?_⟩
 let I:Nt->St->Hp->Prop:=λN σ G=>∃ lf le m,σ=[some (.int (way:Nat)),some (.int (k:Nat)),some (.ref p),some (.ref lf),some (.ref le)]/\Same H G/\G p=some (.lst (nums (List.range (2 ^ k))))/\G lf=some (.lst m)/\Prs G m N.forks/\G le=some (.lst (nums N.ends))
 have i0:I (zbG k) [some (.int (way:Nat)),some (.int (k:Nat)),some (.ref p),some (.ref l2),some (.ref p)] (L2.upd H2 l2 (.lst (List.replicate k ps).flatten)):=⟨l2,p,_,rfl,(Z.trans s2).trans j,j _ _ (s2 _ _ g),zao v _,(zfo pr k).tups (Tups.of j),j _ _ (s2 _ _ g)⟩
 dsimp only
 refine ziM (I (if way=0 then zcc k else zbG k)) ?_ λD i _=>?_
 ·rintro σ G ⟨lf,le,m,rfl,B,d,T,S,U⟩
  refine ziM (I (za2 way k)) ?_ λD i _=>?_
  ·rintro σ G ⟨lf,le,m,rfl,B,d,T,S,U⟩
   refine⟨_,rfl,p,_,rfl,.inl (SqL.of d),_,rfl,lf,_,rfl,.inl ⟨SqL.of T,λa ha=>?_⟩⟩
   have s4:=zab ha (.tup m)
   refine⟨_,rfl,le,_,rfl,.inl ⟨SqL.of (s4 _ _ U),λb hb=>?_⟩⟩
   have s5:=zab hb (.tup (nums (za2 way k).ends))
   refine⟨(by show 3<=sizeLine;decide),λr L=>?_⟩
   rw[zaq,Yb]
   have R:=zab L (.tup [.int ((2 ^ k:Nat):Int),.ref a,.ref b])
   refine q r a b m _ (((B.trans s4).trans s5).trans R) ⟨?_,R _ _ (s5 _ _ (zao ha _)),S.tups (Tups.of ((s4.trans s5).trans R)),R _ _ (zao hb _)⟩
   rw[zba];exact zao L _
  ·refine⟨_,rfl,rfl,_,rfl,?_⟩
   by_cases O:way=1
   ·rw[JE (show V.int ((way:Nat):Int)=V.int 1 by rw[O];rfl)]
    refine iteT ⟨_,rfl,k,by lia,p,List.range (2 ^ k),rfl,d,Yb,by lia,λc u le2 n G2 s2 hc x o y=>?_⟩
    refine⟨c,_,rfl,SqT.of hc,rfl,_,_,rfl,_,_,rfl,rfl,?_⟩
    refine i _ _ ⟨u,le2,n,rfl,B.trans s2,s2 _ _ d,x,?_,?_⟩
    ·rw[show za2 way k=zdL k from by unfold za2;rw[Jb (by lia),Jf O]];exact o
    ·rw[show za2 way k=zdL k from by unfold za2;rw[Jb (by lia),Jf O]];exact y
   ·rw[Jv (show ¬ V.int ((way:Nat):Int)=V.int 1 by intro z;injection z with z;lia)]
    have e:za2 way k=if way=0 then zcc k else zbG k:=by unfold za2;rw[Jb O]
    refine iteF (i _ _ ⟨lf,le,m,rfl,B,d,T,?_,?_⟩)
    ·rw[e];exact S
    ·rw[e];exact U
 ·obtain⟨lf,le,m,e,B,d,T,S,U⟩:=i0
  refine⟨_,rfl,rfl,_,rfl,?_⟩
  by_cases C:way=0
  ·rw[JE (show V.int ((way:Nat):Int)=V.int 0 by rw[C];rfl)]
   refine iteT ⟨_,rfl,k,by lia,p,List.range (2 ^ k),rfl,d,Yb,by lia,λc u le2 n G2 s2 hc x o y=>?_⟩
   refine⟨c,_,rfl,SqT.of hc,rfl,_,_,rfl,_,_,rfl,rfl,?_⟩
   refine i _ _ ⟨u,le2,n,rfl,B.trans s2,s2 _ _ d,x,?_,?_⟩
   ·rw[Jf C];exact o
   ·rw[Jf C];exact y
  ·rw[Jv (show ¬ V.int ((way:Nat):Int)=V.int 0 by intro z;injection z with z;lia)]
   refine iteF (i _ _ ⟨l2,p,_,rfl,(Z.trans s2).trans j,j _ _ (s2 _ _ g),zao v _,?_,?_⟩)
   ·rw[Jb C];exact(zfo pr k).tups (Tups.of j)
   ·rw[Jb C];exact j _ _ (s2 _ _ g)
end
abbrev zlg:Stmt:=top 28
abbrev zhK:Stmt:=top 29
def zhy:Sp:=λvs H Q _=>∃ l:Addr,vs=[.ref l]/\Pk3 H l/\∀ r fr er ps N H',Few 6 10 N->NetAt H' r fr er ps N->Pk3 H' l->But l H H'->Q (.ref r) H'
structure Lns (lanes:Nat) (moves:List Nat):Prop where
 ne:moves≠[]
 lt:∀ m∈moves,m<lanes
 up:moves.Pairwise (· < ·)
def zfc:Sp:=λvs H Q _=>∃ l r fr er ps N,vs=[.ref l,.ref r]/\Pk3 H l/\Nt.Ok N/\NetAt H r fr er ps N/\∀ p moves H',Lns N.lanes moves->H' p=some (.tup (nums moves))->Pk3 H' l->But l H H'->Q (.ref p) H'
theorem zd5 (way:Nat) {k:Nat}(h:k<3):(za2 way k).forks.length<=8/\(za2 way k).lanes<=4:=by
 have s:∀ k,k<3->(zcc k).forks.length<=8/\(zcc k).lanes<=4:=by decide
 have t:∀ k,k<3->(zdL k).forks.length<=8/\(zdL k).lanes<=4:=by decide
 have r:∀ k,k<3->(zbG k).forks.length<=8/\(zbG k).lanes<=4:=by decide
 unfold za2
 split
 ·exact s k h
 ·split
  ·exact t k h
  ·exact r k h
theorem Lns.all {lanes:Nat}(h:1<=lanes):Lns lanes (List.range lanes):=⟨λz=>by have:=JX List.length z;rw[Yb,ZH]at this;lia,λm a=>Yx.mp a,List.pairwise_lt_range⟩
section
variable {P:Program}{w:World}{K:PySem.W.Frag}{mg:Str->Option Value}{base:Heap}
theorem scNd:FnScope ["_law_left_here","_law_way","_law_net_here","_law_k"] ["_law_left_here"] (zam zlg):=by trivial
theorem zlB {f fK fA fM fC:Addr}{fd dK dA dM dC:FuncData}(F:Fun K "_law_net" "_law_net" zlg f fd) (G:Mgs mg) (a:Use P w K mg base "_law_pick" ["_law_left_here","_law_many"] 1 zbF fK dK) (y:Use P w K mg base "_law_any" ["_law_left_here"] 3 zhC fA dA) (u:Use P w K mg base "_law_made" ["_law_way","_law_k"] 11 zf3 fM dM) (x:Use P w K mg base "_law_changed" ["_law_left_here","_law_net_here"] 2 zjy fC dC):FnOk P w K mg base CX0 12 f fd ["_law_left_here"] zhy:=by
 refine F.ok scNd (λvs H Q E h=>?_) (λcdv A outer s H vs Q E q h=>?_)
 ·obtain⟨l,rfl,_⟩:=h
  rfl
 obtain⟨l,rfl,S,k⟩:=h
 have c:Room 1 _:=q.mono (by decide)
 have R:Room 2 _:=q.mono (by decide)
 have O:Room 3 _:=q.mono (by decide)
 refine⟨_,(@zae _ _ _ _ _ (@zaw _ _ 1 _ _ _ _ scNd.nd rfl (.inl rfl) (@zaj _ _ _ _ _ _ _ _ _ _ _ _ _ _ _ _ a.ok c (by rfl) a.m a.kp a.b .nil zax (@zaa _ _ _ _ _ (@qv _ 0 _ _ (by trivial)) (@zaa _ _ _ _ _ zad zac (by rfl)) (by rfl)) (by decide) (by rfl) (by rfl)) (by rfl) (by trivial)) (@zae _ _ _ _ _ (@zbj _ _ _ _ _ _ _ _ (@zaE _ _ _ _ _ _ _ _ zb6 (@qv _ 1 _ _ (by trivial)) zad (zaQ _)) (@zai _ _ _ (@zav _ _ _ _ (@zaj _ _ _ _ _ _ _ _ _ _ _ _ _ _ _ _ y.ok O (by rfl) y.m y.kp y.b .nil zax (@zaa _ _ _ _ _ (@qv _ 0 _ _ (by trivial)) zac (by rfl)) (by decide) (by rfl) (by rfl)))) zaM) (@zae _ _ _ _ _ (@zaw _ _ 2 _ _ _ _ scNd.nd rfl (.inl rfl) (@zaj _ _ _ _ _ _ _ _ _ _ _ _ _ _ _ _ u.ok q (by rfl) u.m u.kp u.b .nil zax (@zaa _ _ _ _ _ (@zaj _ _ _ _ _ _ _ _ _ _ _ _ _ _ _ _ a.ok c (by rfl) a.m a.kp a.b .nil zax (@zaa _ _ _ _ _ (@qv _ 0 _ _ (by trivial)) (@zaa _ _ _ _ _ zad zac (by rfl)) (by rfl)) (by decide) (by rfl) (by rfl)) (@zaa _ _ _ _ _ (@zaA _ _ _ _ _ _ _ zat (@zaI _ _ _ _ (@zaa _ _ _ _ _ zad (@zaa _ _ _ _ _ zad (@zaa _ _ _ _ _ zad (@zaa _ _ _ _ _ zad zac (by rfl)) (by rfl)) (by rfl)) (by rfl))) (@zaj _ _ _ _ _ _ _ _ _ _ _ _ _ _ _ _ a.ok c (by rfl) a.m a.kp a.b .nil zax (@zaa _ _ _ _ _ (@qv _ 0 _ _ (by trivial)) (@zaa _ _ _ _ _ zad zac (by rfl)) (by rfl)) (by decide) (by rfl) (by rfl)) (λ_ _=>rfl)) zac (by rfl)) (by rfl)) (by decide) (by rfl) (by rfl)) (by rfl) (by trivial)) (@zae _ _ _ _ _ (@zbN _ _ _ _ _ _ _ _ Yt rfl (@zbk _ _ _ _ _ _ rfl G.range (@zaa _ _ _ _ _ (@zap _ _ _ _ _ _ _ _ zbQ (@zaA _ _ _ _ _ _ _ zat (@zaI _ _ _ _ (@zaa _ _ _ _ _ zad (@zaa _ _ _ _ _ zad (@zaa _ _ _ _ _ zad (@zaa _ _ _ _ _ zad zac (by rfl)) (by rfl)) (by rfl)) (by rfl))) (@qv _ 1 _ _ (by trivial)) (λ_ _=>rfl)) (@zaj _ _ _ _ _ _ _ _ _ _ _ _ _ _ _ _ a.ok c (by rfl) a.m a.kp a.b .nil zax (@zaa _ _ _ _ _ (@qv _ 0 _ _ (by trivial)) (@zaa _ _ _ _ _ zad zac (by rfl)) (by rfl)) (by decide) (by rfl) (by rfl))) zac (by rfl)) (by rfl)) (@zal _ _ 3 _ scNd.nd rfl (.inl rfl) (by trivial)) (@zai _ _ _ (@zaw _ _ 2 _ _ _ _ scNd.nd rfl (.inl rfl) (@zaj _ _ _ _ _ _ _ _ _ _ _ _ _ _ _ _ x.ok R (by rfl) x.m x.kp x.b .nil zax (@zaa _ _ _ _ _ (@qv _ 0 _ _ (by trivial)) (@zaa _ _ _ _ _ (@qv _ 2 _ _ (by trivial)) zac (by rfl)) (by rfl)) (by decide) (by rfl) (by rfl)) (by rfl) (by trivial))) (by intro _;rfl)) (@zai _ _ _ (@zav _ _ _ _ (@qv _ 2 _ _ (by trivial)))))))),?_⟩
 refine⟨_,rfl,l,4,rfl,by decide,by decide,S,λway H1 hw S1 B1=>?_⟩
 refine⟨_,rfl,rfl,_,rfl,ite2 (λ_=>?_) (λz=>?_)⟩
 ·exact⟨_,rfl,l,rfl,S1,λr fr er ps N b few na S2 g=>k r fr er ps N b ⟨few.ok,few.ln,by have:=few.fk;lia⟩ na S2 (B1.trans g)⟩
 refine⟨_,rfl,l,3,rfl,by decide,by decide,S1,λkd b hk S2 g=>?_⟩
 refine⟨(by show 4<=sizeLine;decide),λt d=>⟨_,rfl,l,4,rfl,by decide,by decide,S2.keep (zab d _),λv H3 hv D m=>?_⟩⟩
 obtain⟨sz,X,Y⟩:=zdX (xs:=[1,2,2,0]) (v:=v) (by show v<4;lia)
 have zb:sz<3:=(show ∀ n∈[1,2,2,0],n<3 by decide) sz X
 refine⟨t,_,_,_,rfl,rfl,SqL.of (m t _ (zao d _) (S2.ne d).symm),Y,?_⟩
 have W:But l H H3:=((B1.trans g).trans (But.of (zab d _))).trans m
 clear d m Y X
 refine⟨kd,sz,rfl,by lia,λr fr er ps H4 Z L=>?_⟩
 obtain⟨m1,m2⟩:=zd5 kd zb
 have S4:=D.keep Z
 have B4:=W.trans (But.of (l:=l) Z)
 refine⟨(by show 4<=sizeLine;decide),λt d=>?_⟩
 have p:=zab d (.lst [.int 0,.int 1,.int 1,.int 2])
 obtain⟨e,mm,ma⟩:=zdX (xs:=[0,1,1,2]) (v:=way) (by show way<4;lia)
 have mb:e<=2:=(show ∀ n∈[0,1,1,2],n<=2 by decide) e mm
 refine⟨_,rfl,t,_,_,_,rfl,rfl,SqL.of (zao d _),ma,?_⟩
 refine⟨_,rfl,l,2,rfl,by decide,by decide,S4.keep p,λj H5 aa S5 B5=>?_⟩
 have J:=(L.tups (Tups.of p)).tups (B5.tups3 (S4.keep p))
 have V:=(B4.trans (But.of (l:=l) p)).trans B5
 have pb:e*j<=2:=by
  have:e*j<=2*1:=Nat.mul_le_mul mb (by lia)
  lia
 have C:((e:Nat):Int)*((j:Nat):Int)=((e*j:Nat):Int):=(Int.natCast_mul _ _).symm
 refine⟨_,_,rfl,rfl,.inl ⟨by lia,by lia⟩,?_⟩
 refine⟨_,rfl,by rw[C];lia,by rw[C];lia,?_⟩
 rw[C]
 generalize e*j=cnt at pb
 refine zbS (lo:=0) (n:=((cnt:Nat):Int).toNat) (λi σ b=>∃ B r fr er ps N,σ=[some (.ref l),some (.int (way:Nat)),some (.ref r),B]/\Pk3 b l/\But l H b/\NetAt b r fr er ps N/\Few 6 (8+i) N) ⟨_,r,fr,er,ps,_,rfl,S5,V,J,zfx (by lia),by lia,by lia⟩ ?_ ?_
 ·rintro i σ b hi ⟨B,r,fr,er,ps,N,rfl,S2,g,na,few⟩
  refine⟨_,rfl,_,rfl,l,r,fr,er,ps,N,6,8+i,rfl,S2,few,by lia,na,λr' T U I N' H3 o _ M D m=>?_⟩
  exact⟨_,r',T,U,I,N',rfl,D,g.trans m,M,o⟩
 ·rintro σ b ⟨B,r,fr,er,ps,N,rfl,S2,g,na,few⟩
  exact⟨_,rfl,k r fr er ps N b ⟨few.ok,few.ln,by have:=few.fk;lia⟩ na S2 g⟩
theorem scSm:FnScope ["_law_left_here","_law_net_here","_law_some_here"] ["_law_left_here","_law_net_here"] (zam zhK):=by trivial
theorem zjS {f fK:Addr}{fd dK:FuncData}(F:Fun K "_law_some" "_law_some" zhK f fd) (G:Mgs mg) (d:Use P w K mg base "_law_pick" ["_law_left_here","_law_many"] 1 zbF fK dK):FnOk P w K mg base CX0 2 f fd ["_law_left_here","_law_net_here"] zfc:=by
 refine F.ok scSm (λvs H Q E h=>?_) (λcdv A outer s H vs Q E hr h=>?_)
 ·obtain⟨l,r,fr,er,ps,N,rfl,_⟩:=h
  rfl
 obtain⟨l,r,fr,er,ps,N,rfl,S,ok,na,k⟩:=h
 have l16:=ok.l16
 have l1:=ok.l1
 refine⟨_,(@zae _ _ _ _ _ (@zga _ 2 _ _ _ _ (some _) _ _ _ _ _ _ _ _ ["_law_lane","_law_left_here"] [none,some 0] scSm.nd rfl rfl rfl (@zbk _ _ _ _ _ _ rfl G.range (@zaa _ _ _ _ _ (@zaA _ _ _ _ _ _ _ zaS (@qv _ 1 _ _ (by trivial)) zad (λ_ _=>rfl)) zac (by rfl)) (by rfl)) (CapOk.of (by kernel_rfl)) (λ_ _ _ _ _=>(@zal _ _ 0 _ (show (["_law_lane","_law_left_here"]:List Str).Nodup from by decide +kernel) rfl (.inl rfl) (.inr rfl))) (λ_ _ _ _ _=>(@zlp _ _ _ (@zaE _ _ _ _ _ _ _ _ zb6 (@zaj _ _ _ _ _ _ _ _ _ _ _ _ _ _ _ _ d.ok hr (by rfl) d.m d.kp d.b .nil zax (@zaa _ _ _ _ _ (@qv _ 1 _ _ (by trivial)) (@zaa _ _ _ _ _ zad zac (by rfl)) (by rfl)) (by decide) (by rfl) (by rfl)) zad (zaQ _)))) (λ_ _ _ _ _=>(@qv _ 0 _ _ (by trivial))) (by intro _;rfl) (by with_unfolding_all rfl)) (@zai _ _ _ (@zav _ _ _ _ (@zaA _ _ _ _ _ _ _ zat (@zaI _ _ _ _ (@zaa _ _ _ _ _ (@zc7 _ _ _ _ _ _ _ rfl (by rfl) G.tuple (by rfl) G.range (@zaa _ _ _ _ _ (@zaA _ _ _ _ _ _ _ zaS (@qv _ 1 _ _ (by trivial)) zad (λ_ _=>rfl)) zac (by rfl)) (by rfl) (by rfl)) (@zaa _ _ _ _ _ (@zdY _ _ _ _ _ _ _ _ (@zaE _ _ _ _ _ _ _ _ (zkO hr.units0) (@qv _ 2 _ _ (by trivial)) (@zaI _ _ _ _ zac) (zaQ _)) (@zar _ _ _ _ _ _ _ _ _ zau (by rfl) G.tuple (by rfl) (@zaa _ _ _ _ _ (@qv _ 2 _ _ (by trivial)) zac (by rfl)) (by decide) (by decide) (by rfl) (by rfl)) (@zaz _ _ _ _ _ (@zaa _ _ _ _ _ (@zaj _ _ _ _ _ _ _ _ _ _ _ _ _ _ _ _ d.ok hr (by rfl) d.m d.kp d.b .nil zax (@zaa _ _ _ _ _ (@qv _ 0 _ _ (by trivial)) (@zaa _ _ _ _ _ (@zaA _ _ _ _ _ _ _ zaS (@qv _ 1 _ _ (by trivial)) zad (λ_ _=>rfl)) zac (by rfl)) (by rfl)) (by decide) (by rfl) (by rfl)) zac (by rfl)))) zac (by rfl)) (by rfl))) (@zaj _ _ _ _ _ _ _ _ _ _ _ _ _ _ _ _ d.ok hr (by rfl) d.m d.kp d.b .nil zax (@zaa _ _ _ _ _ (@qv _ 0 _ _ (by trivial)) (@zaa _ _ _ _ _ zad zac (by rfl)) (by rfl)) (by decide) (by rfl) (by rfl)) (λ_ _=>rfl))))),?_⟩
 refine⟨_,rfl,r,_,_,_,rfl,rfl,SqT.of na.net,rfl,_,rfl,by lia,by lia,λlc u=>?_⟩
 have L:=S.ne u
 have ae:Frs l H lc:=λb o e _=>zaf e u
 refine ziC (lo:=0) (n:=((N.lanes:Nat):Int).toNat) (λi acc σ C=>(∃ v0,σ=[v0,some (.ref l)])/\Pk3 C l/\But l H C/\C lc=some (.lst acc)/\∃ ms:List Nat,acc=nums ms/\ms.length<=i/\(∀ m∈ms,m<i)/\ms.Pairwise (· < ·)) ⟨⟨_,rfl⟩,S.upd L,But.of (zab u _),zao u _,[],rfl,Jg _,λm I=>(nomatch I),.nil⟩ (λi acc σ C z=>z.2.2.2.1) ?_ ?_
 ·rintro i acc σ C hi ⟨⟨v0,rfl⟩,S2,W,T,ms,rfl,ml,mlt,mp⟩
  refine⟨_,rfl,l,2,rfl,by decide,by decide,S2,λv H3 X S3 B3=>⟨rfl,_,rfl,?_⟩⟩
  have h3:=B3 lc _ T L.symm
  have e0:(0:Int)+((i:Nat):Int)=((i:Nat):Int):=Int.zero_add _
  refine ite2 (λ_=>?_) (λ_=>?_)
  ·refine⟨_,rfl,h3,by rw[zaq,JC];lia,nx (by lia) ⟨⟨_,rfl⟩,S3.upd L,(W.trans B3).upd ae,zag,ms++[i],?_,by rw[Jd];show _+1<=_;lia,λm I=>?_,?_⟩⟩
   ·rw[<- zlQ,e0];rfl
   ·rcases JB.mp I with y|y
    ·have:=mlt m y;lia
    ·rw[Je.mp y];lia
   ·refine Yq.mpr ⟨mp,ZR _ _,λa ha b hb=>?_⟩
    rw[Je.mp hb];exact mlt a ha
  ·exact nx (by lia) ⟨⟨_,rfl⟩,S3,W.trans B3,h3,ms,rfl,by lia,λm I=>by have:=mlt m I;lia,mp⟩
 rintro acc σ C ⟨⟨v0,rfl⟩,S2,W,T,ms,rfl,ml,mlt,mp⟩
 rw[Ya]at ml mlt
 have M:=na.tups (W.tups3 S)
 refine⟨_,rfl,r,_,_,_,rfl,rfl,SqT.of M.net,rfl,N.lanes,rfl,by lia,λt1 O=>?_⟩
 have s1:=zab O (.tup (nums (List.range N.lanes)))
 have h1:=zao O (.tup (nums (List.range N.lanes)))
 have R:=s1 _ _ T
 have S1:=S2.keep s1
 have B1:=W.trans (But.of (l:=l) s1)
 have Z:=M.tups (Tups.of s1)
 show zk7 _ _ _ (L2.upd C t1 (.tup (nums (List.range N.lanes)))) _
 generalize L2.upd C t1 (.tup (nums (List.range N.lanes)))=H3 at *
 clear T s1 S2 W M O
 refine⟨_,rfl,(by show 0<=sizeLine;decide),λe he=>?_⟩
 have D:=zab he (.lst [])
 refine⟨lc,e,_,rfl,rfl,SqL.of (D _ _ R),SqL.of (zao he _),_,rfl,?_⟩
 have ad:=D _ _ R
 have aa:=D _ _ h1
 have S4:=S1.keep D
 have B4:=B1.trans (But.of (l:=l) D)
 have ab:=Z.tups (Tups.of D)
 generalize L2.upd H3 e (.lst [])=H4 at *
 clear R h1 S1 B1 Z D he
 have fin:∀ (t2:Addr) (moves:List Nat) (B:Hp),Lns N.lanes moves->B t2=some (.tup (nums moves))->B t1=some (.tup (nums (List.range N.lanes)))->Pk3 B l->But l H B->∀ q,B q=none->∀ (v:Nat) (g:Hp),(v:Int)<2->Pk3 g l->But l (L2.upd B q (.lst [.ref t1,.ref t2])) g->∃ a xs j x,V.ref q=.ref a/\V.int (v:Nat)=.int j/\SqL K g a xs/\atI xs j=some x/\Q x g:=λt2 moves B ln T h1 Y B5 q c v g X U J=>by
  have s5:=zab c (.lst [.ref t1,.ref t2])
  have t6:=(Tups.of s5).trans (J.tups3 (Y.keep s5))
  have B':=(B5.trans (But.of (l:=l) s5)).trans J
  have hx:∃ x,[V.ref t1,V.ref t2][v]?=some x/\Q x g:=by
   rcases v with _|_|v
   ·exact⟨_,rfl,k t1 _ g (Lns.all l1) (t6 _ _ h1) U B'⟩
   ·exact⟨_,rfl,k t2 moves g ln (t6 _ _ T) U B'⟩
   ·lia
  obtain⟨x,ex,qx⟩:=hx
  exact⟨q,_,_,x,rfl,rfl,SqL.of (J q _ (zao c _) (Y.ne c).symm),zaP ex,qx⟩
 by_cases un:ms=[]
 ·rw[show (!(nums ms).isEmpty)=false by rw[un];rfl]
  refine iteF ⟨_,rfl,_,rfl,r,_,_,_,rfl,rfl,SqT.of ab.net,rfl,l,_,rfl,by lia,by lia,S4,λone B ho Y B5=>⟨(by show 1<=sizeLine;decide),λt2 p=>?_⟩⟩
  have t:=zab p (.tup [.int (one:Nat)])
  have t5:=B5.tups3 S4
  refine⟨(by show 2<=sizeLine;decide),λq c=>⟨_,rfl,l,2,rfl,by decide,by decide,(Y.keep t).keep (zab c _),λv g X U J=>?_⟩⟩
  exact fin t2 [one] _ ⟨by simp,λm I=>by rw[Je.mp I];lia,ZR _ _⟩ (zao p _) (t _ _ (t5 _ _ aa)) (Y.keep t) ((B4.trans B5).trans (But.of t)) q c v g X U J
 ·rw[show (!(nums ms).isEmpty)=true by cases ms with
   | nil=>exact absurd rfl un
   | cons a b=>rfl]
  refine iteT ⟨_,rfl,lc,_,rfl,.inl ⟨SqL.of ad,λt2 p=>?_⟩⟩
  have t:=zab p (.tup (nums ms))
  refine⟨(by show 2<=sizeLine;decide),λq c=>⟨_,rfl,l,2,rfl,by decide,by decide,(S4.keep t).keep (zab c _),λv g X U J=>?_⟩⟩
  exact fin t2 ms _ ⟨un,mlt,mp⟩ (zao p _) (t _ _ aa) (S4.keep t) (B4.trans (But.of t)) q c v g X U J
end
end K35
namespace L2
open PySem PySem.Spec PyProof.Rows Own Bn
theorem zeW:∀ x:List Int,cmpR x x=.eq
 | []=>rfl
 | a::x=>by show (compare a a).then (cmpR x x)=.eq;rw[YS.mpr rfl,zeW x];rfl
theorem zeV:∀ x y:List Int,cmpR y x=(cmpR x y).swap
 | [],[]=>rfl
 | [],_::_=>rfl
 | _::_,[]=>rfl
 | a::x,b::y=>by
  show (compare b a).then (cmpR y x)=((compare a b).then (cmpR x y)).swap
  rw[zeV x y]
  rcases Zp a b with h|h|h
  ·rw[YC.mpr h,YD.mpr h];rfl
  ·subst h
   rw[YS.mpr (rfl:a=a)];rfl
  ·rw[YD.mpr h,YC.mpr h];rfl
def leR (x y:List Int):Prop:=cmpR x y≠.gt
theorem zcW (x:List Int):leR x x:=by unfold leR;rw[zeW];exact λh=>by cases h
theorem zbz:∀ {x y z:List Int},leR x y->leR y z->leR x z
 | [],[],[],_,_=>λh=>by cases h
 | [],_,_::_,_,_=>λh=>by cases h
 | [],_::_,[],_,h=>absurd rfl h
 | _::_,[],_,h,_=>absurd rfl h
 | _::_,_::_,[],_,h=>absurd rfl h
 | a::x,b::y,c::z,h1,f=>by
  have e:(compare a b).then (cmpR x y)≠.gt:=h1
  have d:(compare b c).then (cmpR y z)≠.gt:=f
  show (compare a c).then (cmpR x z)≠.gt
  rcases Zp a b with p|p|p
  ·rcases Zp b c with q|q|q
   ·rw[YC.mpr (show a<c by lia)];exact λh=>by cases h
   ·rw[YC.mpr (show a<c by lia)];exact λh=>by cases h
   ·rw[YD.mpr q]at d;exact absurd rfl d
  ·subst p
   rw[YS.mpr (rfl:a=a)]at e
   rcases Zp a c with q|q|q
   ·rw[YC.mpr q];exact λh=>by cases h
   ·subst q
    rw[YS.mpr (rfl:a=a)]at d ⊢
    exact zbz (x:=x) (y:=y) (z:=z) e d
   ·rw[YD.mpr q]at d;exact absurd rfl d
  ·rw[YD.mpr p]at e;exact absurd rfl e
theorem ziu (x y:List Int):leR (minR x y) x/\leR (minR x y) y:=by
 unfold minR
 by_cases h:cmpR y x=.lt
 ·rw[Jf h];exact⟨(by unfold leR;rw[h];exact λz=>by cases z),zcW y⟩
 ·rw[Jb h]
  refine⟨zcW x,λz=>h ?_⟩
  rw[zeV x y,z];rfl
theorem zj7:∀ {l:List (List Int)},l≠[]->minL l∈l
 | [],h=>absurd rfl h
 | x::r,_=>by
  have key:∀ (r:List (List Int)) (x:List Int),r.foldl minR x∈x::r:=by
   intro r
   induction r with
   | nil=>intro x;exact .head _
   | cons y r ih =>
    intro x
    show r.foldl minR (minR x y)∈x::y::r
    rcases Jt.mp (ih (minR x y)) with z|z
    ·rw[z]
     rcases zfu x y with e|e
     ·rw[e];exact .head _
     ·rw[e];exact .tail _ (.head _)
    ·exact .tail _ (.tail _ z)
  exact key r x
theorem zlO:∀ {l:List (List Int)}{x:List Int},x∈l->leR (minL l) x
 | [],x,h=>by cases h
 | a::r,x,h=>by
  have key:∀ (r:List (List Int)) (a:List Int),leR (r.foldl minR a) a/\∀ x∈r,leR (r.foldl minR a) x:=by
   intro r
   induction r with
   | nil=>intro a;exact⟨zcW a,λx b=>(nomatch b)⟩
   | cons y r ih =>
    intro a
    obtain⟨h1,e⟩:=ih (minR a y)
    obtain⟨d,c⟩:=ziu a y
    refine⟨zbz h1 d,λx b=>?_⟩
    rcases Jt.mp b with rfl|z
    ·exact zbz h1 c
    ·exact e x z
  rcases Jt.mp h with rfl|z
  ·exact(key r _).1
  ·exact(key r a).2 x z
theorem zfq:∀ {c d:List Int}{m:Nat},c.length=d.length->leR c d->leR (oneM c m) (oneM d m)
 | [],[],m,_,h=>by unfold oneM zaU;exact h
 | a::c,b::d,0,_,h=>by
  have h':(compare a b).then (cmpR c d)≠.gt:=h
  show (compare (a+1) (b+1)).then (cmpR c d)≠.gt
  have e:compare (a+1) (b+1)=compare a b:=by
   rcases Zp a b with p|p|p
   ·rw[YC.mpr p,YC.mpr (by lia)]
   ·subst p;rw[YS.mpr (rfl:a=a),YS.mpr rfl]
   ·rw[YD.mpr p,YD.mpr (by lia)]
  rw[e];exact h'
 | a::c,b::d,m+1,l,h=>by
  have h':(compare a b).then (cmpR c d)≠.gt:=h
  show (compare a b).then (cmpR (oneM c m) (oneM d m))≠.gt
  cases z:compare a b with
  | lt=>exact λh=>by cases h
  | gt=>rw[z]at h';exact absurd rfl h'
  | eq=>rw[z]at h';exact zfq (c:=c) (d:=d) (by simpa using l) h'
theorem zcn (ps:LvL) (k:KN) (r:List Int):getL (putL ps k r) k=some r:=by
 unfold putL
 split
 ·rename_i h
  have key:∀ ps:LvL,(getL ps k).isSome=true->getL (ps.map λx=>if x.1=k then (x.1,r) else x) k=some r:=by
   intro ps
   induction ps with
   | nil=>intro h;cases h
   | cons p ps ih =>
    intro h
    unfold getL at ih h ⊢
    rw[JZ,YK]
    rw[YK]at h
    by_cases z:p.1=k
    ·rw[Jf z]
     show (match decide (p.1=k) with|true=>some (p.1,r)|false=>_).map _=_
     rw[JE z];rfl
    ·rw[Jb z,Jv z]
     rw[Jv z]at h
     exact ih h
  exact key ps h
 ·rename_i h
  have e:getL ps k=none:=by
   cases g:getL ps k with
   | none=>rfl
   | some x=>rw[g]at h;exact absurd rfl h
  unfold getL at e ⊢
  rw[Option.map_eq_none_iff]at e
  rw[List.find?_append,e]
  show Option.map _ ((none:Option (KN × List Int)).or (List.find? _ [(k,r)]))=_
  rw[YK]
  show Option.map _ ((none:Option (KN × List Int)).or (match decide (k=k) with|true=>some (k,r)|false=>_))=_
  rw[JE rfl];rfl
theorem zfF {k j:KN}(r:List Int) (h:j≠k):∀ ps:LvL,getL (ps.map λx=>if x.1=k then (x.1,r) else x) j=getL ps j:=by
 intro ps
 induction ps with
 | nil=>rfl
 | cons p ps ih =>
  unfold getL at ih ⊢
  rw[JZ,YK,YK]
  by_cases z:p.1=k
  ·rw[Jf z]
   have n:¬ p.1=j:=λy=>h (y.symm.trans z)
   show (match decide (p.1=j) with|true=>_|false=>_:Option (KN × List Int)).map _=_
   rw[Jv n];exact ih
  ·rw[Jb z]
   by_cases y:p.1=j
   ·rw[JE y]
   ·rw[Jv y];exact ih
theorem zdg (ps:LvL) {k j:KN}(r:List Int) (h:j≠k):getL (putL ps k r) j=getL ps j:=by
 unfold putL
 split
 ·exact zfF r h ps
 ·unfold getL
  rw[List.find?_append]
  cases e:List.find? (λx=>decide (x.1=j)) ps with
  | some x=>rfl
  | none =>
   show Option.map _ ((none:Option (KN × List Int)).or (List.find? _ [(k,r)]))=_
   rw[YK]
   show Option.map _ ((none:Option (KN × List Int)).or (match decide (k=j) with|true=>some (k,r)|false=>_))=_
   rw[Jv (λz=>h z.symm)];rfl
abbrev Tri:=KN × List Int × Nat
structure Met (step:KN->Nat->Option KN) (seen:LvL) (T:List Tri) (a:LAcc):Prop where
 on:∀ t c,getL a.on t=some c->∃ x∈T,step x.1 x.2.2=some t/\c=oneM x.2.1 x.2.2
 has:∀ x∈T,∀ t,step x.1 x.2.2=some t->getL seen t=none->∃ c,getL a.on t=some c/\leR c (oneM x.2.1 x.2.2)
 fl1:∀ r∈a.fl,∃ x∈T,step x.1 x.2.2=none/\r=oneM x.2.1 x.2.2
 fl2:∀ x∈T,step x.1 x.2.2=none->oneM x.2.1 x.2.2∈a.fl
theorem zfE {α:Type}{o:Option α}(h:¬ o.isSome=true):o=none:=by
 cases o with
 | none=>rfl
 | some x=>exact absurd rfl h
section
variable {step:KN->Nat->Option KN}{seen:LvL}
theorem Met.go {T:List Tri}{a:LAcc}(h:Met step seen T a) (s:KN) (c:List Int) (m:Nat):Met step seen (T++[(s,c,m)]) (go1 step seen s c a m):=by
 have last:∀ {p:Tri->Prop}{x:Tri},x∈T++[(s,c,m)]->(x∈T->p x)->p (s,c,m)->p x:=λb h1 D=>by
  rcases JB.mp b with z|z
  ·exact h1 z
  ·rw[Je.mp z];exact D
 have d:∀ {x:Tri},x∈T->x∈T++[(s,c,m)]:=λz=>Yp _ z
 have l:((s,c,m):Tri)∈T++[(s,c,m)]:=Jz _ (Je.mpr rfl)
 unfold go1
 cases e:step s m with
 | none =>
  refine⟨λt j g=>?_,λx b t f sn=>?_,λr n=>?_,λx b ex=>?_⟩
  ·obtain⟨x,b,q⟩:=h.on t j g;exact⟨x,d b,q⟩
  ·refine last (p:=λx=>step x.1 x.2.2=some t->∃ j,getL a.on t=some j/\leR j (oneM x.2.1 x.2.2)) b (λz f=>h.has x z t f sn) (λf=>?_) f
   have i:step s m=some t:=f
   rw[e]at i;cases i
  ·rcases JB.mp n with z|z
   ·obtain⟨x,b,q⟩:=h.fl1 r z;exact⟨x,d b,q⟩
   ·exact⟨_,l,e,Je.mp z⟩
  ·exact last (p:=λx=>step x.1 x.2.2=none->oneM x.2.1 x.2.2∈a.fl++[oneM c m]) b (λz ex=>Yp _ (h.fl2 x z ex)) (λ_=>Jz _ (Je.mpr rfl)) ex
 | some u =>
  dsimp only
  by_cases o:(getL seen u).isSome=true
  ·rw[Jf o]
   refine⟨λt j g=>?_,λx b t f sn=>?_,λr n=>?_,λx b ex=>?_⟩
   ·obtain⟨x,b,q⟩:=h.on t j g;exact⟨x,d b,q⟩
   ·refine last (p:=λx=>step x.1 x.2.2=some t->∃ j,getL a.on t=some j/\leR j (oneM x.2.1 x.2.2)) b (λz f=>h.has x z t f sn) (λf=>?_) f
    have i:step s m=some t:=f
    rw[e]at i
    cases i
    rw[sn]at o;cases o
   ·obtain⟨x,b,q⟩:=h.fl1 r n;exact⟨x,d b,q⟩
   ·refine last (p:=λx=>step x.1 x.2.2=none->oneM x.2.1 x.2.2∈a.fl) b (λz ex=>h.fl2 x z ex) (λex=>?_) ex
    have k:step s m=none:=ex
    rw[e]at k;cases k
  ·rw[Jb o]
   obtain⟨C,w⟩:=ziu (oneM c m) ((getL a.on u).getD (oneM c m))
   refine⟨λt j g=>?_,λx b t f sn=>?_,λr n=>?_,λx b ex=>?_⟩
   ·by_cases tt:t=u
    ·subst tt
     rw[zcn]at g
     cases g
     rcases zfu (oneM c m) ((getL a.on t).getD (oneM c m)) with q|q
     ·exact⟨_,l,e,q⟩
     ·cases v:getL a.on t with
      | none=>rw[v]at q;exact⟨_,l,e,by rw[Option.getD_none]at q ⊢;exact q⟩
      | some y =>
       rw[v]at q
       obtain⟨x,b,B,A⟩:=h.on t y v
       exact⟨x,d b,B,by rw[Zw]at q ⊢;rw[q];exact A⟩
    ·rw[zdg _ _ tt]at g
     obtain⟨x,b,q⟩:=h.on t j g;exact⟨x,d b,q⟩
   ·by_cases tt:t=u
    ·subst tt
     rw[zcn]
     refine⟨_,rfl,?_⟩
     refine last (p:=λx=>step x.1 x.2.2=some t->leR (minR (oneM c m) ((getL a.on t).getD (oneM c m))) (oneM x.2.1 x.2.2)) b (λz f=>?_) (λ_=>C) f
     obtain⟨y,E,l2⟩:=h.has x z t f sn
     rw[E,Zw]at w ⊢
     exact zbz w l2
    ·rw[zdg _ _ tt]
     refine last (p:=λx=>step x.1 x.2.2=some t->∃ j,getL a.on t=some j/\leR j (oneM x.2.1 x.2.2)) b (λz f=>h.has x z t f sn) (λf=>?_) f
     have i:step s m=some t:=f
     rw[e]at i
     exact absurd (Jn i).symm tt
   ·obtain⟨x,b,q⟩:=h.fl1 r n;exact⟨x,d b,q⟩
   ·refine last (p:=λx=>step x.1 x.2.2=none->oneM x.2.1 x.2.2∈a.fl) b (λz ex=>h.fl2 x z ex) (λex=>?_) ex
    have k:step s m=none:=ex
    rw[e]at k;cases k
theorem Met.row (s:KN) (c:List Int):∀ (ms:List Nat) {T:List Tri}{a:LAcc},Met step seen T a->Met step seen (T++ms.map λm=>(s,c,m)) (ms.foldl (go1 step seen s c) a)
 | [],T,a,h=>by rw[List.map_nil,Y2];exact h
 | m::r,T,a,h=>by
  have:=Met.row s c r (h.go s c m)
  rwa [JU]at this
def tris (moves:List Nat) (level:LvL):List Tri:=level.flatMap λp=>moves.map λm=>(p.1,p.2,m)
theorem Met.lev (moves:List Nat):∀ (level:LvL) {T:List Tri}{a:LAcc},Met step seen T a->Met step seen (T++tris moves level) (level.foldl (goS step seen moves) a)
 | [],T,a,h=>by show Met step seen (T++[]) a;rw[Y2];exact h
 | p::r,T,a,h=>by
  have:=Met.lev moves r (Met.row p.1 p.2 moves h)
  rwa [JU]at this
theorem zgm (moves:List Nat) (level:LvL):Met step seen (tris moves level) (zbm step seen moves level) :=
 Met.lev moves level (T:=[]) (a:=⟨[],[]⟩) ⟨λt c g=>(by cases g),λx b=>absurd b Jw,λr d=>absurd d Jw,λx b=>absurd b Jw⟩
end
theorem zcS {moves:List Nat}{level:LvL}{x:Tri}:x∈tris moves level↔(x.1,x.2.1)∈level/\x.2.2∈moves:=by
 unfold tris
 rw[List.mem_flatMap]
 constructor
 ·rintro⟨p,b,a⟩
  obtain⟨m,c,rfl⟩:=JD.mp a
  exact⟨b,c⟩
 ·rintro⟨h1,d⟩
  exact⟨_,h1,JD.mpr ⟨_,d,rfl⟩⟩
def runK (step:KN->Nat->Option KN):KN->List Nat->Option KN
 | s,[]=>some s
 | s,m::r=>(step s m).bind λt=>runK step t r
def cntL (c:List Int) (row:List Nat):List Int:=row.foldl oneM c
theorem zbc (step:KN->Nat->Option KN):∀ (r:List Nat) (s:KN) (m:Nat),runK step s (r++[m])=(runK step s r).bind λt=>step t m
 | [],s,m=>by
  show (step s m).bind (λt=>some t)=step s m
  cases step s m<;>rfl
 | a::r,s,m=>by
  show (step s a).bind (λt=>runK step t (r++[m]))=((step s a).bind λt=>runK step t r).bind λt=>step t m
  cases step s a with
  | none=>rfl
  | some t=>exact zbc step r t m
theorem zbA (c:List Int) (r:List Nat) (m:Nat):cntL c (r++[m])=oneM (cntL c r) m:=by unfold cntL;rw[Zm];rfl
theorem zee (c:List Int) (r:List Nat):(cntL c r).length=c.length:=by
 unfold cntL
 induction r generalizing c with
 | nil=>rfl
 | cons m r ih=>show (r.foldl oneM (oneM c m)).length=_;rw[ih,zcg]
theorem zdV {r:List Nat}{n:Nat}(h:r.length=n+1):∃ q m,r=q++[m]/\q.length=n:=by
 have ne:r≠[]:=λz=>by rw[z]at h;cases h
 refine⟨r.dropLast,r.getLast ne,(List.dropLast_concat_getLast ne).symm,?_⟩
 rw[List.length_dropLast];lia
def Over (moves row:List Nat):Prop:=∀ m∈row,m∈moves
structure Clm (step:KN->Nat->Option KN) (moves:List Nat) (k0:KN) (c0:List Int) (n:Nat) (level seen:LvL):Prop where
 fst:(getL (seen++level) k0).isSome=true
 way:∀ t c,getL level t=some c->∃ row,row.length=n/\Over moves row/\runK step k0 row=some t/\cntL c0 row=c
 all:∀ row,row.length<=n->Over moves row->∃ s,runK step k0 row=some s/\(getL (seen++level) s).isSome=true
 cls:∀ s,(getL seen s).isSome=true->∀ m∈moves,∃ t,step s m=some t/\(getL (seen++level) t).isSome=true
 new:∀ s,(getL level s).isSome=true->getL seen s=none
 lst:∀ row s c,row.length=n->Over moves row->runK step k0 row=some s->getL level s=some c->leR c (cntL c0 row)
 nd:LvNd level
 num:n<=seen.length
 rch:∀ s,(getL seen s).isSome=true->∃ row,Over moves row/\runK step k0 row=some s
section
variable {step:KN->Nat->Option KN}{moves:List Nat}{k0:KN}{c0:List Int}{n:Nat}{level seen:LvL}
theorem zbW:∀ {ps:LvL},LvNd ps->∀ {s:KN}{c:List Int},(s,c)∈ps->getL ps s=some c
 | [],_,s,c,h=>by cases h
 | p::ps,nd,s,c,h=>by
  unfold LvNd at nd
  rw[JZ,JR]at nd
  unfold getL
  rw[YK]
  rcases Jt.mp h with z|z
  ·rw[<- z]
   show (match decide (s=s) with|true=>some (s,c)|false=>_:Option (KN × List Int)).map _=_
   rw[JE rfl];rfl
  ·have n:¬ p.1=s:=λy=>nd.1 (JD.mpr ⟨_,z,y.symm⟩)
   rw[Jv n]
   exact zbW nd.2 z
theorem Clm.step_of (h:Clm step moves k0 c0 n level seen) {row:List Nat}(d:row.length=n) (b:Over moves row):∃ s,runK step k0 row=some s/\((getL seen s).isSome=true\/∃ c,getL level s=some c):=by
 obtain⟨s,h1,a⟩:=h.all row (by lia) b
 refine⟨s,h1,?_⟩
 rw[zbJ,Wb]at a
 rcases a with z|z
 ·exact .inl z
 ·exact .inr (ZD.mp z)
theorem Clm.next (h:Clm step moves k0 c0 n level seen) (ne:level≠[]) (cl:∀ p∈level,p.2.length=c0.length) (fl:(zbm step (seen++level) moves level).fl=[]):Clm step moves k0 c0 (n+1) (zbm step (seen++level) moves level).on (seen++level):=by
 have M:=zgm (step:=step) (seen:=seen++level) moves level
 have W:=zd2 (step:=step) (seen:=seen++level) (moves:=moves) (Ok:=λ_=>True) level λ_ _ _ _ _ _=>trivial
 have f:∀ s,(getL (zbm step (seen++level) moves level).on s).isSome=true->getL (seen++level) s=none:=λs a=>by
  obtain⟨r,E⟩:=zbR a
  exact W.new _ E
 have l:∀ s c,getL level s=some c->∀ m∈moves,∃ t,step s m=some t/\((getL (seen++level) t).isSome=true\/∃ u,getL (zbm step (seen++level) moves level).on t=some u/\leR u (oneM c m)):=λs c g m b=>by
  have B:((s,c,m):Tri)∈tris moves level:=zcS.mpr ⟨zbr g,b⟩
  cases e:step s m with
  | none =>
   have:=M.fl2 _ B e
   rw[fl]at this;cases this
  | some t =>
   refine⟨t,rfl,?_⟩
   by_cases z:(getL (seen++level) t).isSome=true
   ·exact .inl z
   ·exact .inr (M.has _ B t e (zfE z))
 have lead:∀ s,(getL (seen++level) s).isSome=true->∀ m∈moves,∃ t,step s m=some t/\(getL ((seen++level)++(zbm step (seen++level) moves level).on) t).isSome=true:=λs a m b=>by
  rw[zbJ,Wb]at a
  rcases a with z|z
  ·obtain⟨t,e,q⟩:=h.cls s z m b
   exact⟨t,e,by rw[zbJ,q];rfl⟩
  ·obtain⟨c,g⟩:=ZD.mp z
   obtain⟨t,e,q⟩:=l s c g m b
   refine⟨t,e,?_⟩
   rw[zbJ]
   rcases q with q|⟨u,q,_⟩
   ·rw[q];rfl
   ·rw[q];exact Bool.or_true _
 refine⟨by rw[zbJ,h.fst];rfl,λt c g=>?_,λrow E j=>?_,lead,f,λrow s c L j a g=>?_,W.nd,?_,λs a=>?_⟩
 ·obtain⟨x,K,e,N⟩:=M.on t c g
  obtain⟨H,G⟩:=zcS.mp K
  obtain⟨row,J,w,v,I⟩:=h.way x.1 x.2.1 (zbW h.nd H)
  refine⟨row++[x.2.2],by rw[Jd,J];rfl,λm b=>?_,by rw[zbc,v];exact e,by rw[zbA,I,N]⟩
  rcases JB.mp b with z|z
  ·exact w m z
  ·rw[Je.mp z];exact G
 ·rcases Nat.lt_or_ge n row.length with z|z
  ·obtain⟨q,m,rfl,A⟩:=zdV (show row.length=n+1 by lia)
   obtain⟨s,h1,k⟩:=h.all q (by lia) λm b=>j m (Yp _ b)
   obtain⟨t,e,i⟩:=lead s k m (j m (Jz _ (Je.mpr rfl)))
   exact⟨t,by rw[zbc,h1];exact e,i⟩
  ·obtain⟨s,h1,k⟩:=h.all row z j
   exact⟨s,h1,by rw[zbJ,k];rfl⟩
 ·obtain⟨q,m,rfl,A⟩:=zdV L
  have D:m∈moves:=j m (Jz _ (Je.mpr rfl))
  have C:Over moves q:=λm b=>j m (Yp _ b)
  obtain⟨t,h1,k⟩:=h.step_of A C
  rw[zbc,h1]at a
  have o:step t m=some s:=a
  have sn:=f s (by rw[g];rfl)
  rcases k with z|⟨d,gd⟩
  ·obtain⟨t',e,i⟩:=h.cls t z m D
   rw[o]at e
   rw[<- Jn e,sn]at i;cases i
  ·obtain⟨t',e,i⟩:=l t d gd m D
   rw[o]at e
   rw[<- Jn e]at i
   rcases i with y|⟨u,F,lc⟩
   ·rw[sn]at y;cases y
   ·rw[g]at F
    rw[Jn F,zbA]
    refine zbz lc (zfq ?_ (h.lst q t d A C h1 gd))
    rw[zee];exact cl _ (zbr gd)
 ·rw[Jd]
  have:=h.num
  have:0<level.length:=List.length_pos_iff.mpr ne
  lia
 ·rw[zbJ,Wb]at a
  rcases a with z|z
  ·exact h.rch s z
  ·obtain⟨c,g⟩:=ZD.mp z
   obtain⟨row,_,w,v,_⟩:=h.way s c g
   exact⟨row,w,v⟩
structure Broke (step:KN->Nat->Option KN) (moves:List Nat) (k0:KN) (c0:List Int) (n:Nat) (c:List Int):Prop where
 ex:∃ row m,row.length=n/\Over moves (row++[m])/\cntL c0 (row++[m])=c/\runK step k0 (row++[m])=none
 few:∀ row,row.length<=n->Over moves row->∃ s,runK step k0 row=some s
 lst:∀ row,row.length=n+1->Over moves row->runK step k0 row=none->leR c (cntL c0 row)
theorem Clm.brk (h:Clm step moves k0 c0 n level seen) (cl:∀ p∈level,p.2.length=c0.length) (fl:(zbm step (seen++level) moves level).fl≠[]):Broke step moves k0 c0 n (minL (zbm step (seen++level) moves level).fl):=by
 have M:=zgm (step:=step) (seen:=seen++level) moves level
 obtain⟨x,y,e,D⟩:=M.fl1 _ (zj7 fl)
 obtain⟨l,k⟩:=zcS.mp y
 obtain⟨row,w,v,u,r⟩:=h.way x.1 x.2.1 (zbW h.nd l)
 refine⟨⟨row,x.2.2,w,λm c=>?_,by rw[zbA,r,D],by rw[zbc,u];exact e⟩,λrow A b=>?_,λrow B b j=>?_⟩
 ·rcases JB.mp c with z|z
  ·exact v m z
  ·rw[Je.mp z];exact k
 ·obtain⟨s,h1,_⟩:=h.all row A b
  exact⟨s,h1⟩
 ·obtain⟨q,m,rfl,f⟩:=zdV B
  have i:m∈moves:=b m (Jz _ (Je.mpr rfl))
  have g:Over moves q:=λm c=>b m (Yp _ c)
  obtain⟨t,h1,C⟩:=h.step_of f g
  rw[zbc,h1]at j
  have a:step t m=none:=j
  rcases C with z|⟨d,gd⟩
  ·obtain⟨t',e,_⟩:=h.cls t z m i
   rw[a]at e;cases e
  ·have o:((t,d,m):Tri)∈tris moves level:=zcS.mpr ⟨zbr gd,i⟩
   rw[zbA]
   refine zbz (zlO (M.fl2 _ o a)) (zfq ?_ (h.lst q t d f g h1 gd))
   rw[zee];exact cl _ (zbr gd)
end
structure Shut (step:KN->Nat->Option KN) (moves:List Nat) (k0:KN) (ks:List KN):Prop where
 fst:k0∈ks
 cls:∀ s∈ks,∀ m∈moves,∃ t∈ks,step s m=some t
def zck (ls:List LvL):List KN:=ls.flatMap λlv=>lv.map (·.1)
theorem ziH (a b:List LvL):zck (a++b)=zck a++zck b:=by unfold zck;rw[List.flatMap_append]
theorem zcm {ps:LvL}{s:KN}:(getL ps s).isSome=true↔s∈ps.map (·.1):=by
 constructor
 ·intro h
  obtain⟨r,a⟩:=zbR h
  exact JD.mpr ⟨_,a,rfl⟩
 ·intro h
  obtain⟨p,b,rfl⟩:=JD.mp h
  exact zbX b
section
variable {step:KN->Nat->Option KN}{moves:List Nat}{k0:KN}{c0:List Int}{most:Nat}
theorem zgz:∀ (m n:Nat) (level seen:LvL) (ls:List LvL),Clm step moves k0 c0 n level seen->(∀ p∈level,p.2.length=c0.length)->zck ls=seen.map (·.1)->LvNd (seen++level)->seen.length<=most ->
  match zbe step moves most m level seen ls with
  | .opn=>True
  | .brk c=>∃ l,l<=most/\Broke step moves k0 c0 l c
  | .whl d=>Shut step moves k0 (zck d)/\(zck d).Nodup/\(zck d).length<=most/\∀ s∈zck d,∃ row,Over moves row/\runK step k0 row=some s
 | 0,_,_,_,_,_,_,_,_,_=>trivial
 | m+1,n,level,seen,ls,h,cl,k,nd,le=>by
  by_cases g:level=[]
  ·subst g
   rw[zdo]
   have e:zck ls=(seen++([]:LvL)).map (λp:KN × List Int=>p.1):=by rw[Y2];exact k
   refine⟨⟨by rw[e];exact zcm.mp h.fst,λs i m j=>?_⟩,by rw[e];exact nd,by rw[k,Jq];exact le,λs i=>?_⟩
   ·rw[k]at i
    obtain⟨t,q,o⟩:=h.cls s (zcm.mpr i) m j
    exact⟨t,by rw[e];exact zcm.mp o,q⟩
   ·rw[k]at i
    exact h.rch s (zcm.mpr i)
  by_cases j:most<seen.length+level.length
  ·rw[zdp g j];trivial
  by_cases f:(zbm step (seen++level) moves level).fl=[]
  ·rw[zeg g j f]
   have na:=zgn (step:=step) (seen:=seen++level) (moves:=moves) (n:=c0.length) level cl
   have W:=zd2 (step:=step) (seen:=seen++level) (moves:=moves) (Ok:=λ_=>True) level λ_ _ _ _ _ _=>trivial
   refine zgz m (n+1) _ _ _ (h.next g cl f) na.on ?_ ?_ (by rw[Jd];lia)
   ·rw[ziH,k,JY]
    congr 1
    show level.map (λp:KN × List Int=>p.1)++[]=level.map (λp:KN × List Int=>p.1)
    rw[Y2]
   ·unfold LvNd
    rw[JY]
    refine List.nodup_append.mpr ⟨nd,W.nd,λa ha b hb e=>?_⟩
    subst e
    obtain⟨p,r,rfl⟩:=JD.mp hb
    have:=W.new p r
    have z:=zcm.mpr ha
    rw[this]at z;cases z
  ·rw[zdq g j f]
   exact⟨n,by have:=h.num;lia,h.brk cl f⟩
theorem zi9:Clm step moves k0 c0 0 [(k0,c0)] []:=by
 have b:getL [(k0,c0)] k0=some c0:=zbW (show LvNd [(k0,c0)] from JR.mpr ⟨Jw,Zd⟩) (.head _)
 have only:∀ {t:KN}{c:List Int},getL [(k0,c0)] t=some c->t=k0/\c=c0:=λg=>by
  have e:=Je.mp (zbr g)
  injection e with j e2
  exact⟨j,e2⟩
 have nil:∀ {row:List Nat},row.length<=0->row=[]:=λh=>List.length_eq_zero_iff.mp (by lia)
 refine⟨by rw[W9,b];rfl,λt c g=>?_,λrow d _=>?_,λs a=>(by cases a),λs _=>rfl,λrow s c i _ a g=>?_,JR.mpr ⟨Jw,Zd⟩,Jg _,λs a=>(by cases a)⟩
 ·obtain⟨rfl,rfl⟩:=only g
  exact⟨[],rfl,λm f=>absurd f Jw,rfl,rfl⟩
 ·rw[nil d]
  exact⟨k0,rfl,by rw[W9,b];rfl⟩
 ·obtain⟨_,rfl⟩:=only g
  rw[nil (Nat.le_of_eq i)]
  exact zcW _
theorem zjb:match zbe step moves most (most+1) [(k0,c0)] [] [] with
  | .opn=>True
  | .brk c=>∃ b,b<=most/\Broke step moves k0 c0 b c
  | .whl a=>Shut step moves k0 (zck a)/\(zck a).Nodup/\(zck a).length<=most/\∀ s∈zck a,∃ row,Over moves row/\runK step k0 row=some s :=
 zgz (most+1) 0 _ _ _ zi9 (λp d=>by rw[Je.mp d]) rfl (JR.mpr ⟨Jw,Zd⟩) (JN _)
theorem ziA {α:Type} [DecidableEq α]:∀ {l ks:List α},l.Nodup->(∀ x∈l,x∈ks)->l.length<=ks.length
 | [],_,_,_=>JN _
 | a::l,ks,nd,h=>by
  rw[JR]at nd
  have ha:=h a (.head _)
  have:=ziA (l:=l) (ks:=ks.erase a) nd.2 λx b=>(List.mem_erase_of_ne λ(z:x=a)=>nd.1 (z ▸ b)).mpr (h x (.tail _ b))
  rw[List.length_erase_of_mem ha]at this
  have:0<ks.length:=List.length_pos_of_mem ha
  rw[JL];lia
theorem Shut.run {ks:List KN}(b:Shut step moves k0 ks):∀ (row:List Nat) {s:KN},s∈ks->Over moves row->∃ t∈ks,runK step s row=some t
 | [],s,a,_=>⟨s,a,rfl⟩
 | m::r,s,a,c=>by
  obtain⟨t,g,e⟩:=b.cls s a m (c m (.head _))
  obtain⟨u,f,e2⟩:=Shut.run b r g λx d=>c x (.tail _ d)
  exact⟨u,f,by show (step s m).bind _=_;rw[e];exact e2⟩
end
def zF (N:Nt):List Int:=List.replicate N.forks.length 0
def zL (N:Nt):List Int:=List.replicate N.lanes 0
def tsAt (N:Nt) (row:List Nat) (i:Nat):List Int:=(row.take i).foldl (zd0 N) (zF N)
def okAt (N:Nt) (row:List Nat) (i:Nat):Prop:=passE N (tsAt N row i) (row.getD i 0)=i%N.lanes
def zfC (N:Nt) (row:List Nat) (i:Nat):KN:=stK (tsAt N row i) [((i%N.lanes:Nat):Int)]
def k0P (N:Nt):KN:=stK (zF N) [0]
theorem zem (N:Nt) {row:List Nat}{i:Nat}(h:i<row.length):tsAt N row (i+1)=zd0 N (tsAt N row i) (row.getD i 0):=by
 unfold tsAt
 rw[<- YF h,Zm,Ja,J7 h];rfl
theorem zbb {row:List Nat}{i:Nat}(h:i<row.length):row.take (i+1)=row.take i++[row.getD i 0]:=by
 rw[<- YF h,Ja,J7 h];rfl
theorem zep (N:Nt) (row:List Nat) (i:Nat):zbE N (zfC N row i) (row.getD i 0)=if ((passE N (tsAt N row i) (row.getD i 0):Nat):Int)=((i%N.lanes:Nat):Int) then some (stK (zd0 N (tsAt N row i) (row.getD i 0)) [(((i%N.lanes:Nat):Int)+1)%(N.lanes:Nat)]) else none:=rfl
theorem zkK (N:Nt) (row:List Nat):∀ i,i<=row.length->(∀ j,j<i->okAt N row j)->runK (zbE N) (k0P N) (row.take i)=some (zfC N row i)
 | 0,_,_=>by
  rw[Zc]
  show some (k0P N)=some (zfC N row 0)
  unfold zfC
  rw[Nat.zero_mod];rfl
 | i+1,h,ok=>by
  rw[zbb h,zbc,zkK N row i (by lia) λj a=>ok j (by lia)]
  show zbE N (zfC N row i) (row.getD i 0)=_
  rw[zep,Jf (by rw[show passE N (tsAt N row i) (row.getD i 0)=i%N.lanes from ok i (Nat.lt_succ_self _)])]
  unfold zfC
  rw[zem N h]
  congr 2
  congr 1
  rw[show ((i%N.lanes:Nat):Int)+1=((i%N.lanes+1:Nat):Int) from rfl,<- Int.natCast_emod,Nat.mod_add_mod]
theorem zjz (N:Nt) {row:List Nat}{i:Nat}(h:i<row.length) (ok:∀ j,j<i->okAt N row j) (no:¬ okAt N row i):runK (zbE N) (k0P N) (row.take (i+1))=none:=by
 rw[zbb h,zbc,zkK N row i (by lia) ok]
 show zbE N (zfC N row i) (row.getD i 0)=none
 rw[zep]
 exact Jb λz=>no (Int.ofNat.inj z)
theorem zkY (N:Nt) (row:List Nat):∀ i,i<=row.length->(∀ j,j<=i->runK (zbE N) (k0P N) (row.take j)≠none)->∀ j,j<i->okAt N row j
 | 0,_,_,j,b=>by lia
 | i+1,h,a,j,b=>by
  have ih:=zkY N row i (by lia) λj b=>a j (by lia)
  by_cases z:j<i
  ·exact ih j z
  ·have:j=i:=by lia
   subst this
   exact Classical.byContradiction λno=>a (j+1) (Jg _) (zjz N h ih no)
section
variable {N:Nt}
theorem zed (N:Nt) (row:List Nat):(cntL (zL N) row).length=N.lanes:=by rw[zee];exact YE
theorem zkH (ok:Nt.Ok N) (row:List Nat) (a:∀ m∈row,m<N.lanes):∀ i,i<=row.length->tsAt N row i=zbi N (cntL (zL N) (row.take i))
 | 0,_=>by
  rw[Zc]
  show zF N=zbi N (zL N)
  unfold zL
  rw[zgD];rfl
 | i+1,h=>by
  have b:row.getD i 0<N.lanes:=by
   rw[Ja,J7 h];exact a _ (Y5 h)
  rw[zem N h,zkH ok row a i (by lia),zbb h,zbA]
  exact(ball ok false (zed N _) b).1.symm
theorem ziZ (ok:Nt.Ok N) {row:List Nat}(a:∀ m∈row,m<N.lanes) {i:Nat}(h:i<row.length):zaO N (cntL (zL N) (row.take (i+1)))=zaU (zaO N (cntL (zL N) (row.take i))) (passE N (tsAt N row i) (row.getD i 0)) 1:=by
 have b:row.getD i 0<N.lanes:=by
  rw[Ja,J7 h];exact a _ (Y5 h)
 rw[zkH ok row a i (by lia),zbb h,zbA]
 exact(ball ok false (zed N _) b).2.1
def dueE (N:Nt):Nat->List Int
 | 0=>List.replicate N.lanes 0
 | i+1=>zaU (dueE N i) (i%N.lanes) 1
theorem zcY (N:Nt):∀ i,(dueE N i).length=N.lanes
 | 0=>YE
 | i+1=>by show (zaU _ _ _).length=_;rw[zaZ,zcY N i]
theorem zgw (ok:Nt.Ok N) {row:List Nat}(a:∀ m∈row,m<N.lanes):∀ i,i<=row.length->(∀ j,j<i->okAt N row j)->zaO N (cntL (zL N) (row.take i))=dueE N i
 | 0,_,_=>by rw[Zc];exact zeS N ok
 | i+1,h,b=>by
  rw[ziZ ok a h,zgw ok a i (by lia) λj c=>b j (by lia),show passE N (tsAt N row i) (row.getD i 0)=i%N.lanes from b i (Nat.lt_succ_self _)];rfl
theorem zeU:∀ (row:List Nat) (c:List Int) (p:Nat),p<c.length->(cntL c row).getD p 0=c.getD p 0+(row.count p:Nat)
 | [],c,p,h=>by show c.getD p 0=_;rw[List.count_nil];lia
 | m::r,c,p,h=>by
  show (cntL (oneM c m) r).getD p 0=_
  rw[zeU r (oneM c m) p (by rw[zcg];exact h),List.count_cons]
  unfold oneM zaU
  by_cases z:m=p
  ·subst z
   rw[Ja,List.getElem?_set_self h,Zx,Jf rfl]
   show c.getD m 0+1+_=_
   rw[Int.natCast_add];lia
  ·rw[Ja,List.getElem?_set_ne z,<- Ja,Jb (by simpa using z),YH]
theorem ze4 (N:Nt) (p:Nat):(zL N).getD p 0=0:=zbO _ _
def rowC (c:List Int):List Nat:=(List.range c.length).flatMap λi=>List.replicate (c.getD i 0).toNat i
theorem zdz (c:List Int) (a:Nat):(rowC c).count a=if a<c.length then (c.getD a 0).toNat else 0:=by
 unfold rowC
 generalize c.length=n
 induction n with
 | zero=>rfl
 | succ n ih =>
  rw[List.range_succ,List.flatMap_append,List.count_append,ih]
  show _+(List.replicate (c.getD n 0).toNat n++[]).count a=_
  rw[Y2,List.count_replicate]
  by_cases z:n=a
  ·subst z
   rw[Zx,Jf rfl,Jb (YG _),Jf (Nat.lt_succ_self _),Yu]
  ·have nb:(n == a)=false:=by simpa using z
   rw[nb,Jb (show ¬(false=true) by decide),YH]
   by_cases y:a<n
   ·rw[Jf y,Jf (by lia)]
   ·rw[Jb y,Jb (by lia)]
end
def zcz (cs:List Int):List Bool:=List.zipWith (λa b:Int=>decide (b<=a)) cs (cs.drop 1)
def zcd (cs:List Int):Bool:=(zcz cs).all id && decide (cs.getD 0 0-cs.getD (cs.length-1) 0<2)
theorem zhF {cs:List Int}:(zcz cs).all id=true↔∀ i,i+1<cs.length->cs.getD (i+1) 0<=cs.getD i 0:=by
 have at_:∀ i,i+1<cs.length->(zcz cs)[i]?=some (decide (cs.getD (i+1) 0<=cs.getD i 0)):=λi hi=>by
  unfold zcz
  rw[List.getElem?_zipWith,Wj,J7 (show i<cs.length by lia),J7 (show 1+i<cs.length by lia)]
  rw[Ja,Ja,J7 (show i<cs.length by lia),J7 hi]
  have e:cs[1+i]'(by lia)=cs[i+1]'hi:=by congr 1;lia
  rw[e];rfl
 have sl:(zcz cs).length=cs.length-1:=by unfold zcz;rw[ZB,Y9];lia
 constructor
 ·intro h i hi
  exact Z3 (Zb.mp h _ (JP (at_ i hi)))
 ·intro h
  refine Zb.mpr λb hb=>?_
  obtain⟨k,a,c⟩:=List.getElem_of_mem hb
  have q:=at_ k (by lia)
  rw[J7 a,c]at q
  rw[Jn q]
  exact JE (h k (by lia))
theorem zc2 {cs:List Int}:zcd cs=true↔(∀ i,i+1<cs.length->cs.getD (i+1) 0<=cs.getD i 0)/\cs.getD 0 0-cs.getD (cs.length-1) 0<2:=by
 unfold zcd
 rw[YN,zhF]
 exact and_congr Iff.rfl ⟨Z3,λh=>JE h⟩
theorem zeT (N:Nt):∀ (n j:Nat),j<N.lanes->(dueE N n).getD j 0=((n / N.lanes:Nat):Int)+if j<n%N.lanes then 1 else 0
 | 0,j,h=>by
  show (List.replicate N.lanes (0:Int)).getD j 0=_
  rw[Nat.zero_div,Nat.zero_mod,Jb (Nat.not_lt_zero j),zbO];rfl
 | n+1,j,h=>by
  show (zaU (dueE N n) (n%N.lanes) 1).getD j 0=_
  rw[zaW (by rw[zcY];exact h),zeT N n j h]
  have a:n%N.lanes<N.lanes:=Nat.mod_lt _ (by lia)
  have b:=Nat.div_add_mod n N.lanes
  by_cases z:n%N.lanes+1=N.lanes
  ·have e:n+1=N.lanes*(n / N.lanes+1)+0:=by rw[Nat.mul_add];lia
   have q:(n+1) / N.lanes=n / N.lanes+1:=by rw[e,YH,Nat.mul_div_cancel_left _ (by lia)]
   have r:(n+1)%N.lanes=0:=by rw[e,YH,Nat.mul_mod_right]
   rw[q,r,Jb (Nat.not_lt_zero j)]
   by_cases y:j<n%N.lanes
   ·rw[Jf y,Jb (by lia)];lia
   ·rw[Jb y,Jf (by lia)];lia
  ·have e:n+1=N.lanes*(n / N.lanes)+(n%N.lanes+1):=by lia
   have q:(n+1) / N.lanes=n / N.lanes:=by
    rw[e,Nat.mul_add_div (by lia),Nat.div_eq_of_lt (show n%N.lanes+1<N.lanes by lia),YH]
   have r:(n+1)%N.lanes=n%N.lanes+1:=by rw[e,Nat.mul_add_mod,Nat.mod_eq_of_lt (by lia)]
   rw[q,r]
   by_cases y:j<n%N.lanes
   ·rw[Jf y,Jb (by lia),Jf (by lia)];lia
   ·by_cases x:j=n%N.lanes
    ·rw[Jb y,Jf x.symm,Jf (by lia)];lia
    ·rw[Jb y,Jb (λt=>x t.symm),Jb (by lia)];lia
theorem zi0 {N:Nt}(ok:N.Ok) (n:Nat):zcd (dueE N n)=true:=by
 have l1:=ok.l1
 refine zc2.mpr ⟨λi hi=>?_,?_⟩
 ·rw[zcY]at hi
  rw[zeT N n _ hi,zeT N n i (by lia)]
  split<;>split<;>lia
 ·rw[zcY,zeT N n _ (show 0<N.lanes by lia),zeT N n _ (by lia)]
  split<;>split<;>lia
structure Rw (moves:List Nat) (n:Nat) (t:Int) (row:List Int):Prop where
 len:row.length=n
 nn:∀ x∈row,0<=x
 sum:row.sum=t
 oth:∀ i,i<n->i∉moves->row.getD i 0=0
theorem zkS:∀ {row:List Int},(∀ x∈row,0<=x)->0<=row.sum/\∀ x∈row,x<=row.sum
 | [],_=>⟨by decide,λx b=>absurd b Jw⟩
 | a::row,h=>by
  obtain⟨h1,c⟩:=zkS λx b=>h x (.tail _ b)
  have ha:=h a (.head _)
  rw[List.sum_cons]
  refine⟨by lia,λx b=>?_⟩
  rcases Jt.mp b with z|z
  ·lia
  ·have:=c x z;lia
end L2
namespace Own
open PySem PySem.Spec PyProof.Rows
section
variable {prog:Program}{w:World}{A:Around}{E:Value->Shared->Prop}{s:Shared}{z TI TO i1 i2:Addr}{f1 f2:List Addr}{n1 n2:Nat}{P1 P2:Nat->Value->Prop}{S1 S2:Nat->Heap->Prop}{a b:Value}
theorem zhf (S:Sep z TI TO i1 i2 f1 f2) (t:Draws prog w A i1 f1 n1 P1 S1) (r:Draws prog w A i2 f2 n2 P2 S2) {Q:Fin->Shared->Prop}(f:IsZip s.heap z TI TO .none) (G:IsPair s.heap TI (.ref i1) (.ref i2)) (F:IsPair s.heap TO a b) (I:S1 n2 s.heap) (H:S2 n2 s.heap) (l1:n2<n1)
  (h:∀ h' x tk,(∀ c o,c∉[z,TO,i1,i2]->s.heap.get? c=some o->h'.get? c=some o)->(∃ o,h'.get? x=some o/\o.cls=.type "StopIteration")->E (.ref x) { s with heap:=h',toks:=tk }):wpAny (model prog w) A (Builtin.«zip.__next__» ⟨[.ref z],[]⟩) Q E s:=by
 have nd:=S.all
 simp only[JR,Jt,Jw,Za,Ws]at nd
 obtain⟨⟨L,k,z1,z2⟩,⟨IO,R,P⟩,⟨J,O⟩,K,_⟩:=nd
 refine rf 2 f rfl rfl (rf 3 f rfl rfl (J0 (Yf G rfl (J0 (rf 0 f rfl rfl (J9 ?_))))))
 simp only[Yk]
 refine J0 (YT (rf 4 f rfl rfl (J0 (Yd f (show 0<5 by decide) λha v sa=>J0 ?_))))
 have i:IsZip ha z TI TO .ellipsis:=v;simp only[List.zipIdx_cons,List.zipIdx_nil,YU,Zq]
 refine J0 (J0 (wpAny_onRaise (J0 (t.item n2 _ _ _ l1 (t.frame _ _ _ I λc g o e=>(sa.2 c λq=>S.z1 (q ▸ g)).trans e) λx hb tb M db sb=>J9 ?_))))
 have p:IsPair hb TO a b:=(sb.2 TO J).trans ((sa.2 TO (Ne.symm k)).trans F)
 refine J0 (Yf p rfl (J0 (wpAny_updateSeq_pair p λg N sc=>J0 (ZQ (J9 ?_)))))
 have st2:S2 n2 g:=r.frame _ _ _ H λc d o e=>(sc.2 c λq=>S.t2 (q ▸ d)).trans ((sb.2 c λq=>S.o2 (q ▸ d)).trans ((sa.2 c λq=>S.z2 (q ▸ d)).trans e))
 refine J0 (J0 (wpAny_onRaise (J0 (r.done _ _ _ st2 λhd y m ⟨C,ex,n⟩=>?_))))
 have u:IsZip g z TI TO .ellipsis:=(sc.2 z k).trans ((sb.2 z z1).trans i)
 have j:IsZip hd z TI TO .ellipsis:=m z _ z2 u
 have B:y≠z:=λq=>by rw[q,j]at ex;cases ex;exact absurd (show Value.type "zip" = Value.type "StopIteration" from n) (by decide)
 refine Yd j (show 0<5 by decide) λD _ l=>h D y _ (λc o d e=>?_) ⟨C,(l.2 y B).trans ex,n⟩
 simp only[Jt,Jw,Za,Ws]at d
 exact(l.2 c d.1).trans (m c o d.2.2.2 ((sc.2 c d.2.1).trans ((sb.2 c d.2.2.1).trans ((sa.2 c d.1).trans e))))
end
end Own
namespace L2
open PySem PySem.Spec PyProof.Rows Own
def Itq (K:PySem.W.Frag) (b1 b2:Bool) (a1 a2:Addr):It :=
 ⟨(Itz K b1 b2 a1 a2).go,(Itz K b1 b2 a1 a2).yld,λi H=>(Itz K b1 b2 a1 a2).stop i H\/∃ xs ys,SqB b1 K H a1 xs/\SqB b2 K H a2 ys/\ys.length=i/\i<xs.length⟩
theorem zhl {P:Program}{w:World}{K:PySem.W.Frag}{es:List Expr}{k1} {p1:Pos}(b1 b2:Bool) (a1 a2 z TI TO i1 i2:Addr) (nd:[z,TI,TO,i1,i2].Nodup) :
  Turn P w K (.Tuple es k1 p1) (Itq K b1 b2 a1 a2) [z,TI,TO,i1,i2] z (λi h=>IsZip h z TI TO .none/\IsPair h TI (.ref i1) (.ref i2)/\(∃ a b,IsPair h TO a b)/\RIt b1 h i1 a1 i/\RIt b2 h i2 a2 i) where
 mem:=(zbC (P:=P) (w:=w) (K:=K) (es:=es) (k1:=k1) (p1:=p1) b1 b2 a1 a2 z TI TO i1 i2 nd).mem
 obj:=(zbC (P:=P) (w:=w) (K:=K) (es:=es) (k1:=k1) (p1:=p1) b1 b2 a1 a2 z TI TO i1 i2 nd).obj
 keep:=(zbC (P:=P) (w:=w) (K:=K) (es:=es) (k1:=k1) (p1:=p1) b1 b2 a1 a2 z TI TO i1 i2 nd).keep
 item:=(zbC (P:=P) (w:=w) (K:=K) (es:=es) (k1:=k1) (p1:=p1) b1 b2 a1 a2 z TI TO i1 i2 nd).item
 done:=by
  intro X B v C y i pins s σ H E I l st n
  rcases n with n|⟨xs,ys,t,r,L,M⟩
  ·exact(zbC (P:=P) (w:=w) (K:=K) (es:=es) (k1:=k1) (p1:=p1) b1 b2 a1 a2 z TI TO i1 i2 nd).done X B v C y i pins s σ H E I l st n
  obtain⟨u,Q,⟨a,b,O⟩,h1,D⟩:=st
  subst B v C
  obtain⟨p,J,p1⟩:=I.sq t
  obtain⟨m,G,p2⟩:=I.sq r
  have j:=nd
  simp only[JR,Jt,Jw,Za,Ws]at j
  obtain⟨⟨Y,W,z1,z2⟩,⟨IO,I1,Z⟩,⟨V,U⟩,k,_⟩:=j
  have f:∀ c∈[z,TI,TO,i1,i2],c≠a1:=λc d=>I.sq_ne t (l c d)
  have e:∀ c∈[z,TI,TO,i1,i2],c≠a2:=λc d=>I.sq_ne r (l c d)
  have S:Sep z TI TO i1 i2 [i1,a1] [i2,a2]:=⟨nd,by simp[z1,f z (by simp)],by simp[V,f TO (by simp)],by simp[Ne.symm k,f i2 (by simp)],by simp[z2,e z (by simp)],by simp[U,e TO (by simp)],by simp[k,e i1 (by simp)]⟩
  have hsz:i=m.toArray.size:=by rw[Jm,<- G.length,L]
  have l1:m.toArray.size<p.toArray.size:=by rw[<- hsz,Jm,<- J.length];exact M
  have hd:=I.ok.hd y
  have g:s.TypeIs (.ref z) "zip":=⟨_,u,rfl⟩
  unfold pyNext
  refine J0 (ZE (wpAny_callSpecial?_slot (name:="__next__") g Wa (Y4 Wa g F.entry_zip_next
   (zhf S (draws (prog:=X.prog) (w:=X.w) (A:=X.A.in1) hd b1 i1 a1 p.toArray (p1.ne h1)) (draws (prog:=X.prog) (w:=X.w) (A:=X.A.in1) hd b2 i2 a2 m.toArray (p2.ne D)) u Q O ⟨by rw[<- hsz];exact h1,p1⟩ ⟨by rw[<- hsz];exact D,p2⟩ l1 λh' x tk N ⟨o,R,co⟩=>?_) (F.args_zip_next_1 _))))
  refine J0 (Zu (T:="StopIteration") (b:=true) ⟨o,R,co⟩ isSubtype_stop (J9 ⟨rfl,I.spun (t':=tk) (fp:=[z,TI,TO,i1,i2]) (λc o d q=>N c o ?_ q) l⟩))
  simp only[Jt,Jw,Za,Ws]at d ⊢
  exact⟨d.1,d.2.2.1,d.2.2.2.1,d.2.2.2.2⟩
 self:=(zbC (P:=P) (w:=w) (K:=K) (es:=es) (k1:=k1) (p1:=p1) b1 b2 a1 a2 z TI TO i1 i2 nd).self
def znw (K:PySem.W.Frag) (b1 b2:Bool) (ta:TA):TI:=λσ H R=>ta σ H λvs H1=>∃ a1 a2 xs ys,vs=[.ref a1,.ref a2]/\SqB b1 K H1 a1 xs/\SqB b2 K H1 a2 ys/\R (Itq K b1 b2 a1 a2) H1
theorem zlt {X:Cx}{a b:Expr}{ta:TA}{p pos p1:Pos}{es:List Expr}{k1} (b1 b2:Bool) (B:Gl X "zip") (y:X.mg "zip" = none) (ha:PA X [a,b] ta) (x:starEach [a,b] X.env=[(false,eval a X.env),(false,eval b X.env)]:=by rfl) (e:starEach [b] X.env=[(false,eval b X.env)]:=by rfl) :
  PI X (.Tuple es k1 p1) (.Call (.Name "zip" p) [a,b] [] pos) (znw X.K b1 b2 ta):=by
 intro pins s σ H R I h
 refine Call_ (zb0 I B y (u:=.type "zip") (by rfl) (Yj (thn (ha pos pins s σ H _ I h) λus s1 ⟨vs,H1,d,t,w⟩=>?_) (by rw[x,e]) (by rw[e];rfl)))
 obtain⟨a1,a2,xs,ys,rfl,m,l,q⟩:=w
 obtain⟨u,v,rfl,r,o⟩:=t.two
 cases r
 cases o
 obtain⟨its,_,j⟩:=d.sq m
 obtain⟨k,_,i⟩:=d.sq l
 refine callType_new F.called_zip (by decide) (F.typeCall_zip_2 _ _) (F.newCall_zip_2 _ _) (λobj=>F.args_object_init_3 obj _ _) F.entry_zip_new (zhg b1 b2 a1 a2 its.toArray k.toArray) ⟨j,i,λh' z ⟨TI,TO,i1,i2,nd,f,g,D,C,h1,E⟩ A=>⟨⟨_,g,rfl⟩,?_⟩⟩
 exact wpAny_pyIter_zip g ⟨_,[z,TI,TO,i1,i2],_,_,H1,rfl,d.kept (t':=s1.toks) A,zhl b1 b2 a1 a2 z TI TO i1 i2 nd,⟨g,D,⟨_,_,C⟩,h1,E⟩,λc n=>d.fpOk (f c n) (d.hok.fresh (f c n)),q⟩
theorem zlU {K:PySem.W.Frag}{b1 b2:Bool}{a1 a2:Addr}{xs ys:List V}(u:ys.length<=xs.length) {g:TG}{te:TE}{l:Addr}{σ:St}{H:Hp}{Q:VK}(a:Nat->List V->St->Hp->Prop) (q:a 0 [] σ H)
  (n:∀ i acc σ H,a i acc σ H->H l=some (.lst acc)/\SqB b1 K H a1 xs/\SqB b2 K H a2 ys)
  (k:∀ i acc σ H x y T,xs[i]?=some x->ys[i]?=some y->H T=none->a i acc σ H->g (.ref T) σ (upd H T (.tup [x,y])) λb t=>te b t λz h=>h l=some (.lst acc)/\acc.length<sizeLine/\Nx ys.length i (a (i+1) (acc++[z]) b (upd h l (.lst (acc++[z])))))
  (hd:∀ acc σ H,a ys.length acc σ H->Q (.ref l) H):∃ W:Nat->Nat->List V->St->Hp->Prop,(∃ m,W 0 m [] σ H)/\LCW (Itq K b1 b2 a1 a2) g tYes te l Q W:=by
 refine⟨λi m acc σ H=>m=ys.length-i/\i<=ys.length/\a i acc σ H,⟨ys.length,by simp,JN _,q⟩,?_⟩
 rintro i m acc σ H ⟨rfl,hi,p⟩
 obtain⟨j,c,d⟩:=n i acc σ H p
 refine⟨j,?_⟩
 by_cases f:i<ys.length
 ·refine .inr ⟨⟨xs,ys,_,_,c,d,J7 (by lia),J7 f⟩,λv w ⟨x,y,ex,r,T,o,s,e2⟩=>?_⟩
  subst s e2
  exact k i acc σ H x y T (ex xs c) (r ys d) o p
 ·have e:i=ys.length:=by lia
  subst e
  by_cases eq:xs.length=ys.length
  ·exact .inl ⟨.inl ⟨xs,c,eq⟩,hd acc σ H p⟩
  ·exact .inl ⟨.inr ⟨xs,ys,c,d,rfl,by lia⟩,hd acc σ H p⟩
end L2
namespace K35
open PySem L2 Own Bn
abbrev zhO:Stmt:=top 30
abbrev zfj:Stmt:=top 31
theorem ziQ (c:Int):c-c / 2=(c+1) / 2:=by lia
def zdO:Sp:=λvs H Q _=>∃ (c:Addr) (cs:List Int),vs=[.ref c]/\H c=some (.tup (cs.map V.int))/\1<=cs.length/\cs.length<=16/\∀ H',Same H H'->Q (.bl (zcd cs)) H'
section
variable {P:Program}{w:World}{K:PySem.W.Frag}{mg:Str->Option Value}{base:Heap}
theorem scLe:FnScope ["_law_net_here","_law_counts_here","_law_row","_law_a","_law_b","_law_total"] ["_law_net_here","_law_counts_here"] (zam zhO):=by trivial
theorem zjV {f:Addr}{fd:FuncData}(F:Fun K "_law_ends" "_law_ends" zhO f fd) (G:Mgs mg):FnOk P w K mg base CX0 1 f fd ["_law_net_here","_law_counts_here"] zhz:=by
 refine F.ok scLe (λvs H Q E h=>?_) (λcdv A outer s H vs Q E U h=>?_)
 ·obtain⟨r,fr,er,ps,N,c,cs,rfl,_⟩:=h
  rfl
 obtain⟨r,fr,er,ps,N,c,cs,rfl,ok,na,R,cl,k⟩:=h
 refine⟨_,(@zae _ _ _ _ _ (@zaw _ _ 2 _ _ _ _ scLe.nd rfl (.inr rfl) (@zar _ _ _ _ _ _ _ _ _ za5 (by rfl) G.list (by rfl) (@zaa _ _ _ _ _ (@qv _ 1 _ _ (by trivial)) zac (by rfl)) (by decide) (by decide) (by rfl) (by rfl)) (by rfl) (by trivial)) (@zae _ _ _ _ _ (@zbN _ _ _ _ _ _ _ _ Yt rfl (@zc6 _ _ _ _ (@zaA _ _ _ _ _ _ _ zaS (@qv _ 0 _ _ (by trivial)) zad (λ_ _=>rfl))) (@zaT _ _ _ _ _ _ rfl (@zak _ _ _ _ _ (@zal _ _ 3 _ scLe.nd rfl (.inl rfl) (by trivial)) (@zak _ _ _ _ _ (@zal _ _ 4 _ scLe.nd rfl (.inl rfl) (by trivial)) zaG (by rfl)) (by rfl)) (by rfl) (by rfl)) (@zae _ _ _ _ _ (@zaw _ _ 5 _ _ _ _ scLe.nd rfl (.inl rfl) (@zap _ _ _ _ _ _ _ _ za6 (@zaA _ _ _ _ _ _ _ zat (@qv _ 2 _ _ (by trivial)) (@qv _ 3 _ _ (by trivial)) (λ_ _=>rfl)) (@zaA _ _ _ _ _ _ _ zat (@qv _ 2 _ _ (by trivial)) (@qv _ 4 _ _ (by trivial)) (λ_ _=>rfl))) (by rfl) (by trivial)) (@zae _ _ _ _ _ (@zaX _ _ _ _ _ _ (@zap _ _ _ _ _ _ _ _ zdb (@qv _ 5 _ _ (by trivial)) (@zap _ _ _ _ _ _ _ _ zb5 (@qv _ 5 _ _ (by trivial)) zad)) (@zcN _ _ _ _ _ _ _ (@qv _ 2 _ _ (by trivial)) (@qv _ 3 _ _ (by trivial)) zbo (by intro _;rfl)) (by rfl) (by rfl) (by rfl)) (@zai _ _ _ (@zaX _ _ _ _ _ _ (@zap _ _ _ _ _ _ _ _ zb5 (@qv _ 5 _ _ (by trivial)) zad) (@zcN _ _ _ _ _ _ _ (@qv _ 2 _ _ (by trivial)) (@qv _ 4 _ _ (by trivial)) zbo (by intro _;rfl)) (by rfl) (by rfl) (by rfl))))) (by intro _;rfl)) (@zai _ _ _ (@zav _ _ _ _ (@zar _ _ _ _ _ _ _ _ _ zau (by rfl) G.tuple (by rfl) (@zaa _ _ _ _ _ (@zh3 _ _ _ _ none _ _ _ _ _ _ ["_law_lane","_law_row"] [none,some 2] rfl (@zc6 _ _ _ _ (@zaA _ _ _ _ _ _ _ zaS (@qv _ 0 _ _ (by trivial)) zad (λ_ _=>rfl))) (CapOk.of (by kernel_rfl)) (λ_ _ _ _ _=>(@zal _ _ 0 _ (show (["_law_lane","_law_row"]:List Str).Nodup from by decide +kernel) rfl (.inl rfl) (.inr rfl))) (λ_ _ _ _ _=>zb3) (λ_ _ _ _ _=>(@zaA _ _ _ _ _ _ (rIxL K) zat (@qv _ 1 _ _ (by trivial)) (@qv _ 0 _ _ (by trivial)) (λ_ _=>rfl))) (by intro _;rfl)) zac (by rfl)) (by decide) (by decide) (by rfl) (by rfl)))))),?_⟩
 refine⟨_,rfl,c,_,rfl,.inr (SqT.of R),λlo j=>?_⟩
 have s1:=zab j (.lst (cs.map V.int))
 refine⟨_,rfl,r,_,_,_,rfl,rfl,SqT.of (s1 _ _ na.net),rfl,fr,rfl,⟨_,SqT.of (s1 _ _ na.forks)⟩,?_⟩
 refine zfI (K:=K) (a:=fr) (xs:=ps) (λi σ m=>(∃ J I D,σ=[some (.ref r),some (.ref c),some (.ref lo),J,I,D])/\Same H m/\m lo=some (.lst ((flow (N.forks.take i) cs).1.map V.int))) ⟨⟨_,_,_,rfl⟩,s1,zag⟩ (λi σ m _ q=>SqT.of (q.2.1 _ _ na.forks)) ?_ ?_
 ·rintro i p σ m L ⟨⟨J,I,D,rfl⟩,d,h1⟩
  obtain⟨a,g,rfl,O,ha⟩:=(na.prs.tups (Tups.of d)).get L
  have T:=ok.fk g (JP O)
  have fl:(flow (N.forks.take i) cs).1.length=N.lanes:=by rw[zcX,cl]
  have S:=zcp O cs
  generalize flow (N.forks.take i) cs=st at *
  refine⟨a,_,rfl,SqT.of ha,rfl,_,_,rfl,_,_,rfl,rfl,?_⟩
  refine⟨_,rfl,_,rfl,lo,_,_,_,rfl,rfl,SqL.of h1,zdI (by lia),_,rfl,_,rfl,lo,_,_,_,rfl,rfl,SqL.of h1,zdI (by lia),_,_,rfl,rfl,?_⟩
  refine⟨_,rfl,_,rfl,_,_,rfl,rfl,⟨by decide,by decide⟩,_,_,rfl,rfl,?_⟩
  refine⟨_,rfl,_,rfl,lo,_,_,g.1,rfl,rfl,h1,zg6 (by rw[Jq];lia),?_⟩
  refine⟨_,rfl,_,_,rfl,rfl,⟨by decide,by decide⟩,_,rfl,_,rfl,lo,_,_,g.2,rfl,rfl,zag,zg6 (by rw[YZ,Jq];lia),⟨_,_,_,rfl⟩,λb o e=>?_,?_⟩
  ·rw[zah (zaf e j),zah (zaf e j)];exact d b o e
  ·rw[zag,S]
   dsimp only
   rw[ziQ]
   unfold zaK
   rw[zdU,zdU]
 ·rintro σ m ⟨⟨J,I,D,rfl⟩,d,h1⟩
  have e:N.forks.take ps.length=N.forks:=by rw[na.prs.len];exact YA
  rw[e]at h1
  have fl:(flow N.forks cs).1.length=N.lanes:=by rw[zcX,cl]
  have W:N.ends.length=N.lanes:=by rw[ok.en.length_eq,Yb]
  have l16:=ok.l16
  refine⟨_,rfl,r,_,_,_,rfl,rfl,SqT.of (d _ _ na.net),rfl,er,rfl,⟨_,SqT.of (d _ _ na.ends)⟩,λl M=>?_⟩
  refine zgq (K:=K) (a:=er) (xs:=nums N.ends) (λi acc σ t=>(∃ v,σ=[v,some (.ref lo)])/\Same m t/\t l=some (.lst acc)/\acc=((N.ends.take i).map λe=>(flow N.forks cs).1.getD e 0).map V.int) ⟨⟨_,rfl⟩,zab M _,zag,rfl⟩ (λi acc σ t z=>⟨z.2.2.1,SqT.of (z.2.1 _ _ (d _ _ na.ends))⟩) ?_ ?_
  ·rintro i x acc σ t B ⟨⟨v,rfl⟩,u,C,n⟩
   have y:i<N.ends.length:=by have:=(Jc.mp B).1;rwa [zaq]at this
   have ex:x=.int N.ends[i]:=by
    unfold nums at B
    rw[JK,J7 y]at B;exact(Jn B).symm
   subst ex
   have lane:N.ends[i]<N.lanes:=Yx.mp (ok.en.mem_iff.mp (Y5 y))
   refine⟨_,rfl,_,rfl,lo,_,_,_,rfl,rfl,SqL.of (u _ _ h1),zdI (by lia),C,?_,nx (by rw[zaq];exact y) ⟨⟨_,rfl⟩,λb o e=>?_,zag,?_⟩⟩
   ·rw[n,Jq,Jq,Jy,JC];lia
   ·rw[zah (zaf e M)];exact u b o e
   ·rw[n,Yg y,JY,JY];rfl
  rintro acc σ t ⟨⟨v,rfl⟩,u,C,n⟩
  rw[zaq,YA]at n
  rw[n]at C
  exact⟨l,_,rfl,.inl ⟨SqL.of C,λp L=>k p _ ((d.trans u).trans (zab L _)) zag⟩⟩
theorem scSr:FnScope ["_law_counts_here","_law_sinks"] ["_law_counts_here"] (zam zfj):=by trivial
theorem zie {f:Addr}{fd:FuncData}(F:Fun K "_law_stair" "_law_stair" zfj f fd) (G:Mgs mg):FnOk P w K mg base CX0 1 f fd ["_law_counts_here"] zdO:=by
 refine F.ok scSr (λvs H Q E h=>?_) (λcdv A outer s H vs Q E S h=>?_)
 ·obtain⟨c,cs,rfl,_⟩:=h
  rfl
 obtain⟨c,cs,rfl,j,U,R,k⟩:=h
 refine⟨_,(@zae _ _ _ _ _ (@zaw _ _ 1 _ _ _ _ scSr.nd rfl (.inl rfl) (@zay _ _ _ _ _ _ _ _ _ (zji rfl true) (by rfl) G.all (by rfl) (@zaa _ _ _ _ _ (@zh3 _ _ _ _ none _ _ _ (gTup K 2 (zfH (zcQ 0) (zfH (zcQ 1) gNil))) _ _ ["_law_one","_law_other"] [none,none] rfl (@zlt _ _ _ _ _ _ _ _ _ false false rfl G.zip (@zaa _ _ _ _ _ (@qv _ 0 _ _ (by trivial)) (@zaa _ _ _ _ _ (@zaH _ _ _ _ _ _ _ _ _ _ za9 (@qv _ 0 _ _ (by trivial)) (@zaB _ _ _ zad) zaR) zac (by rfl)) (by rfl)) (by rfl) (by rfl)) (CapOk.of (by kernel_rfl)) (λ_ _ _ _ _=>(@zaT _ _ _ _ _ _ rfl (@zak _ _ _ _ _ (@zal _ _ 0 _ (show (["_law_one","_law_other"]:List Str).Nodup from by decide +kernel) rfl (.inl rfl) (.inr rfl)) (@zak _ _ _ _ _ (@zal _ _ 1 _ (show (["_law_one","_law_other"]:List Str).Nodup from by decide +kernel) rfl (.inl rfl) (.inr rfl)) zaG (by rfl)) (by rfl)) (by rfl) (by rfl))) (λ_ _ _ _ _=>zb3) (λ_ _ _ _ _=>(@zcC _ _ _ _ _ _ _ _ zmD (@qv _ 0 _ _ (by trivial)) (@qv _ 1 _ _ (by trivial)) (zaQ _))) (by intro _;rfl)) zac (by rfl)) (by decide) (by decide) (by rfl) (by rfl)) (by rfl) (by trivial)) (@zai _ _ _ (@zav _ _ _ _ (@zmy _ _ _ _ _ _ _ (@qv _ 1 _ _ (by trivial)) (@zmv _ _ _ _ _ (@zcC _ _ _ _ _ _ _ _ znp (@zap _ _ _ _ _ _ _ _ zdb (@zaA _ _ _ _ _ _ _ zaS (@qv _ 0 _ _ (by trivial)) zad (λ_ _=>rfl)) (@zaA _ _ _ _ _ _ _ zaS (@qv _ 0 _ _ (by trivial)) (@zmu _ _ _ _ _ _ zkG zad) (λ_ _=>rfl))) zad (zaQ _))))))),?_⟩
 refine⟨_,rfl,_,rfl,_,rfl,c,_,rfl,j,λI H1 s1 h1=>?_⟩
 have O:cutV (cs.map V.int) (some 1) none=(cs.drop 1).map V.int:=by
  cases cs with
  | nil=>rfl
  | cons x cs=>exact(zeb ((x::cs).map V.int) 1 (by simp)).trans (List.map_drop).symm
 rw[O]at h1
 refine⟨c,I,_,_,rfl,SqT.of (s1 _ _ j),SqT.of h1,λl D=>?_⟩
 have n:(zcz cs).length=(cs.drop 1).length:=by unfold zcz;rw[ZB,Y9];lia
 refine zlU (K:=K) (b1:=false) (b2:=false) (a1:=c) (a2:=I) (xs:=cs.map V.int) (ys:=(cs.drop 1).map V.int) (by rw[Jq,Jq,Y9];lia) (λi acc σ d=>(∃ v0 u,σ=[v0,u])/\Same H1 d/\d l=some (.lst acc)/\acc=((zcz cs).take i).map V.bl) ⟨⟨_,_,rfl⟩,zab D _,zag,rfl⟩ (λi acc σ d z=>⟨z.2.2.1,SqT.of (z.2.1 _ _ (s1 _ _ j)),SqT.of (z.2.1 _ _ h1)⟩) ?_ ?_
 ·rintro i acc σ d x y T C B N ⟨⟨v0,u,rfl⟩,s2,m,rfl⟩
  rw[JK]at C B
  obtain⟨a,J,rfl⟩:=Yh.mp C
  obtain⟨b,t,rfl⟩:=Yh.mp B
  have q:=(Jc.mp t).1
  have v:=zab N (.tup [.int a,.int b])
  refine⟨T,_,rfl,SqT.of zag,rfl,_,_,rfl,_,_,rfl,rfl,?_⟩
  refine⟨_,rfl,_,rfl,_,_,rfl,rfl,v _ _ m,?_,nx (by rw[Jq];exact q) ⟨⟨_,_,rfl⟩,λb o e=>?_,zag,?_⟩⟩
  ·rw[Jq,Jy,n,JC];rw[Y9]at q ⊢;lia
  ·rw[zah (zaf e D)];exact v _ _ (s2 _ _ e)
  ·have M:i<(zcz cs).length:=by rw[n];exact q
   have e2:(zcz cs)[i]?=some (decide (b<=a)):=by unfold zcz;rw[List.getElem?_zipWith,J,t]
   rw[Yg M,JY,(Jc.mp e2).2];rfl
 rintro acc σ d ⟨_,s2,m,rfl⟩
 rw[Jq,<- n,YA]at m
 have g:=s2 _ _ (s1 _ _ j)
 refine⟨l,_,rfl,SqL.of m,?_⟩
 have p:=k d (s1.trans s2)
 unfold zcd at p
 generalize (zcz cs).all id=L at *
 cases L with
 | false=>exact⟨_,rfl,_,rfl,iteF p⟩
 | true =>
  have dl:∀ i,i<cs.length->(cs.map V.int)[i]?=some (.int (cs.getD i 0)):=λi hi=>by rw[JK,Ja,J7 hi];rfl
  have r:atI (cs.map V.int) (-1)=some (.int (cs.getD (cs.length-1) 0)):=zm5 (by rw[Jq];exact dl _ (by lia))
  exact⟨_,rfl,_,rfl,iteT ⟨_,rfl,c,_,0,_,rfl,rfl,SqT.of g,zaP (dl 0 (by lia)),_,rfl,_,rfl,c,_,(-1),_,rfl,rfl,SqT.of g,r,_,_,rfl,rfl,_,_,rfl,rfl,p⟩⟩
end
abbrev zlj:Stmt:=top 32
theorem zkl (x:Nat) (a:List Nat):inV (.int (x:Nat)) (nums a)=decide (x∈a):=by
 rw[Ys,decide_eq_true_iff]
 unfold inV nums
 rw[List.any_map,List.any_eq_true]
 constructor
 ·rintro⟨y,b,e⟩
  have z:((y:Nat):Int)=(x:Nat):=by simpa [eqV] using e
  have:y=x:=by lia
  exact this ▸ b
 ·intro h
  exact⟨x,h,by simp[eqV]⟩
theorem ziW (a:List Nat):(nums a).all zd8=true:=Zb.mpr λx b=>by
 obtain⟨m,_,rfl⟩:=JD.mp b
 rfl
def zhA:Sp:=λvs H Q _=>∃ l r fr er ps N p moves,vs=[.ref l,.ref r,.ref p]/\Pk3 H l/\Nt.Ok N/\NetAt H r fr er ps N/\H p=some (.tup (nums moves))/\∀ c (cs:List Int) H',cs.length=N.lanes->(∀ i,i<N.lanes->i∉moves->cs.getD i 0=0)->H' c=some (.tup (cs.map V.int))->Pk3 H' l->But l H H'->Q (.ref c) H'
section
variable {P:Program}{w:World}{K:PySem.W.Frag}{mg:Str->Option Value}{base:Heap}
theorem scCt:FnScope ["_law_left_here","_law_net_here","_law_some_here","_law_found","_law_lane","_law_far","_law_number"] ["_law_left_here","_law_net_here","_law_some_here"] (zam zlj):=by trivial
theorem zlE {f fK:Addr}{fd dK:FuncData}(F:Fun K "_law_counts" "_law_counts" zlj f fd) (G:Mgs mg) (a:Use P w K mg base "_law_pick" ["_law_left_here","_law_many"] 1 zbF fK dK):FnOk P w K mg base CX0 2 f fd ["_law_left_here","_law_net_here","_law_some_here"] zhA:=by
 refine F.ok scCt (λvs H Q E h=>?_) (λcdv A outer s H vs Q E hr h=>?_)
 ·obtain⟨l,r,fr,er,ps,N,p,moves,rfl,_⟩:=h
  rfl
 obtain⟨l,r,fr,er,ps,N,p,moves,rfl,S,ok,na,hp,k⟩:=h
 have g:Room 1 _:=hr.mono (by decide)
 have l16:=ok.l16
 refine⟨_,(@zae _ _ _ _ _ (@zaw _ _ 3 _ _ _ _ scCt.nd rfl (.inl rfl) (@zaI _ _ _ _ zac) (by rfl) (by trivial)) (@zae _ _ _ _ _ (@zbN _ _ _ _ _ _ _ _ Yt rfl (@zbk _ _ _ _ _ _ rfl G.range (@zaa _ _ _ _ _ (@zaA _ _ _ _ _ _ _ zaS (@qv _ 1 _ _ (by trivial)) zad (λ_ _=>rfl)) zac (by rfl)) (by rfl)) (@zal _ _ 4 _ scCt.nd rfl (.inl rfl) (by trivial)) (@zae _ _ _ _ _ (@zaw _ _ 5 _ _ _ _ scCt.nd rfl (.inl rfl) (@zaA _ _ _ _ _ _ _ zat (@zaI _ _ _ _ (@zaa _ _ _ _ _ (@zap _ _ _ _ _ _ _ _ zbQ (@zaj _ _ _ _ _ _ _ _ _ _ _ _ _ _ _ _ a.ok g (by rfl) a.m a.kp a.b .nil zax (@zaa _ _ _ _ _ (@qv _ 0 _ _ (by trivial)) (@zaa _ _ _ _ _ (@zap _ _ _ _ _ _ _ _ zeB zad zad) zac (by rfl)) (by rfl)) (by decide) (by rfl) (by rfl)) (@zap _ _ _ _ _ _ _ _ zeB zad zad)) (@zaa _ _ _ _ _ (@zap _ _ _ _ _ _ _ _ za6 (@zap _ _ _ _ _ _ _ _ zeB zad zad) (@zaj _ _ _ _ _ _ _ _ _ _ _ _ _ _ _ _ a.ok g (by rfl) a.m a.kp a.b .nil zax (@zaa _ _ _ _ _ (@qv _ 0 _ _ (by trivial)) (@zaa _ _ _ _ _ zad zac (by rfl)) (by rfl)) (by decide) (by rfl) (by rfl))) (@zaa _ _ _ _ _ zad zac (by rfl)) (by rfl)) (by rfl))) (@zaj _ _ _ _ _ _ _ _ _ _ _ _ _ _ _ _ a.ok g (by rfl) a.m a.kp a.b .nil zax (@zaa _ _ _ _ _ (@qv _ 0 _ _ (by trivial)) (@zaa _ _ _ _ _ zad zac (by rfl)) (by rfl)) (by decide) (by rfl) (by rfl)) (λ_ _=>rfl)) (by rfl) (by trivial)) (@zae _ _ _ _ _ (@zaw _ _ 6 _ _ _ _ scCt.nd rfl (.inl rfl) (@zap _ _ _ _ _ _ _ _ zbQ (@zaA _ _ _ _ _ _ _ zat (@zaI _ _ _ _ (@zaa _ _ _ _ _ zad (@zaa _ _ _ _ _ (@zaj _ _ _ _ _ _ _ _ _ _ _ _ _ _ _ _ a.ok g (by rfl) a.m a.kp a.b .nil zax (@zaa _ _ _ _ _ (@qv _ 0 _ _ (by trivial)) (@zaa _ _ _ _ _ zad zac (by rfl)) (by rfl)) (by decide) (by rfl) (by rfl)) (@zaa _ _ _ _ _ (@zaj _ _ _ _ _ _ _ _ _ _ _ _ _ _ _ _ a.ok g (by rfl) a.m a.kp a.b .nil zax (@zaa _ _ _ _ _ (@qv _ 0 _ _ (by trivial)) (@zaa _ _ _ _ _ zad zac (by rfl)) (by rfl)) (by decide) (by rfl) (by rfl)) (@zaa _ _ _ _ _ (@qv _ 5 _ _ (by trivial)) zac (by rfl)) (by rfl)) (by rfl)) (by rfl))) (@zaj _ _ _ _ _ _ _ _ _ _ _ _ _ _ _ _ a.ok g (by rfl) a.m a.kp a.b .nil zax (@zaa _ _ _ _ _ (@qv _ 0 _ _ (by trivial)) (@zaa _ _ _ _ _ zad zac (by rfl)) (by rfl)) (by decide) (by rfl) (by rfl)) (λ_ _=>rfl)) (@zaA _ _ _ _ _ _ _ zat (@zaI _ _ _ _ (@zaa _ _ _ _ _ zad (@zaa _ _ _ _ _ zad (@zaa _ _ _ _ _ (@zmu _ _ _ _ _ _ zkG zad) zac (by rfl)) (by rfl)) (by rfl))) (@zaj _ _ _ _ _ _ _ _ _ _ _ _ _ _ _ _ a.ok g (by rfl) a.m a.kp a.b .nil zax (@zaa _ _ _ _ _ (@qv _ 0 _ _ (by trivial)) (@zaa _ _ _ _ _ zad zac (by rfl)) (by rfl)) (by decide) (by rfl) (by rfl)) (λ_ _=>rfl))) (by rfl) (by trivial)) (@zai _ _ _ (@zbH _ _ _ _ (@zdZ _ _ _ _ _ _ _ _ _ _ _ _ Yw Z7 Z8 zbd (@qv _ 3 _ _ (by trivial)) (@zaa _ _ _ _ _ (@zap _ _ _ _ _ _ _ _ zbQ (@qv _ 6 _ _ (by trivial)) (@zar _ _ _ _ _ _ _ _ _ zcv (by rfl) G.int (by rfl) (@zaa _ _ _ _ _ (@zcC _ _ _ _ _ _ _ _ zeC (@qv _ 4 _ _ (by trivial)) (@qv _ 2 _ _ (by trivial)) (by rfl)) zac (by rfl)) (by decide) (by decide) (by rfl) (by rfl))) zac (by rfl)) (by rfl) (by rfl) (by rfl) (by rfl) (by rfl)) (by rfl))))) (by intro _;rfl)) (@zai _ _ _ (@zav _ _ _ _ (@zar _ _ _ _ _ _ _ _ _ zau (by rfl) G.tuple (by rfl) (@zaa _ _ _ _ _ (@qv _ 3 _ _ (by trivial)) zac (by rfl)) (by decide) (by decide) (by rfl) (by rfl)))))),?_⟩
 refine⟨(by show 0<=sizeLine;decide),λlf m=>?_⟩
 have d:=S.ne m
 have Y:=zab m (.lst [])
 have ad:Frs l H lf:=λb o e _=>zaf e m
 refine⟨_,rfl,r,_,_,_,rfl,rfl,SqT.of (Y _ _ na.net),rfl,_,rfl,by lia,by lia,?_⟩
 refine zbS (lo:=0) (n:=((N.lanes:Nat):Int).toNat) (λi σ v=>(∃ T R O,σ=[some (.ref l),some (.ref r),some (.ref p),some (.ref lf),T,R,O])/\Pk3 v l/\But l H v/\∃ cs:List Int,v lf=some (.lst (cs.map V.int))/\cs.length=i/\∀ j,j<i->j∉moves->cs.getD j 0=0) ⟨⟨_,_,_,rfl⟩,S.keep Y,But.of Y,[],zao m _,rfl,λj hj=>absurd hj (Nat.not_lt_zero _)⟩ ?_ ?_
 ·rintro i σ v hi ⟨⟨T,R,O,rfl⟩,S2,M,cs,D,cl,I⟩
  refine⟨_,rfl,_,_,rfl,rfl,⟨by decide,by decide,by decide⟩,l,_,rfl,by decide,by decide,S2,λv1 H3 aa S3 B3=>?_⟩
  have e6:(10:Int) ^ Int.toNat 6=1000000:=by decide
  rw[e6]at aa
  refine⟨_,_,rfl,rfl,⟨by decide,by decide,by decide⟩,_,_,rfl,rfl,.inl ⟨by lia,by lia⟩,?_⟩
  refine⟨_,_,rfl,rfl,⟨by decide,by decide,by decide⟩,_,rfl,l,3,rfl,by decide,by decide,S3,λv2 H4 ak S4 B4=>⟨_,_,rfl,rfl,(by show 3<=sizeLine;decide),λt c=>?_⟩⟩
  have C:=zab c (.lst [.int ((v1:Nat)*10 ^ Int.toNat 23),.int (2 ^ Int.toNat 20+(v2:Nat)),.int 64])
  refine⟨_,rfl,l,3,rfl,by decide,by decide,S4.keep C,λX H5 aj S5 L=>?_⟩
  obtain⟨q,ef⟩:∃ q,[V.int ((v1:Nat)*10 ^ Int.toNat 23),V.int (2 ^ Int.toNat 20+(v2:Nat)),V.int 64][X]?=some (.int q):=by
   rcases X with _|_|_|X
   ·exact⟨_,rfl⟩
   ·exact⟨_,rfl⟩
   ·exact⟨_,rfl⟩
   ·lia
  refine⟨t,_,_,_,rfl,rfl,SqL.of (L t _ (zao c _) (S4.ne c).symm),zaP ef,?_⟩
  have y:But l H H5:=(((M.trans B3).trans B4).trans (But.of C)).trans L
  have h5:=L lf _ (C _ _ (B4 lf _ (B3 lf _ D d.symm) d.symm)) d.symm
  clear D M B3 B4 L S2 S3 S4 C c ef
  refine⟨_,rfl,l,3,rfl,by decide,by decide,S5,λv4 H6 ai S6 B6=>?_⟩
  refine⟨_,rfl,l,40,rfl,by decide,by decide,S6,λv5 H7 ah S7 B7=>?_⟩
  refine⟨_,rfl,(by show 4<=sizeLine;decide),λt c=>?_⟩
  have B:=zab c (.lst [.int 0,.int (v4:Nat),.int (v5:Nat),.int q])
  refine⟨_,rfl,l,4,rfl,by decide,by decide,S7.keep B,λW H8 ag S8 J=>?_⟩
  obtain⟨nb,en⟩:∃ nb,[V.int 0,V.int (v4:Nat),V.int (v5:Nat),V.int q][W]?=some (.int nb):=by
   rcases W with _|_|_|_|W
   ·exact⟨_,rfl⟩
   ·exact⟨_,rfl⟩
   ·exact⟨_,rfl⟩
   ·exact⟨_,rfl⟩
   ·lia
  refine⟨t,_,_,_,rfl,rfl,SqL.of (J t _ (zao c _) (S7.ne c).symm),zaP en,?_⟩
  have ae:But l H H8:=(((y.trans B6).trans B7).trans (But.of B)).trans J
  have h8:=J lf _ (B _ _ (B7 lf _ (B6 lf _ h5 d.symm) d.symm)) d.symm
  clear h5 y B6 B7 J S5 S6 S7 B c en
  refine⟨_,rfl,(by show 3<=sizeLine;decide),λt c=>?_⟩
  have Z:=zab c (.lst [.int 1,.int 1,.int (-1)])
  refine⟨_,rfl,l,3,rfl,by decide,by decide,S8.keep Z,λU H9 af S9 B9=>?_⟩
  obtain⟨u,es,sl⟩:∃ u,[V.int 1,V.int 1,V.int (-1)][U]?=some (.int u)/\-2<u/\u<2:=by
   rcases U with _|_|_|U
   ·exact⟨_,rfl,by decide,by decide⟩
   ·exact⟨_,rfl,by decide,by decide⟩
   ·exact⟨_,rfl,by decide,by decide⟩
   ·lia
  refine⟨t,_,_,_,rfl,rfl,SqL.of (B9 t _ (zao c _) (S8.ne c).symm),zaP es,_,_,rfl,rfl,.inr ⟨by lia,by lia⟩,?_⟩
  have x:But l H H9:=(ae.trans (But.of Z)).trans B9
  have h9:=B9 lf _ (Z _ _ h8) d.symm
  have ab:=x.tups3 S _ _ hp
  have e0:(0:Int)+((i:Nat):Int)=((i:Nat):Int):=Int.zero_add _
  refine⟨_,rfl,.inl ⟨rfl,_,SqL.of h9⟩,_,rfl,_,rfl,_,rfl,p,_,rfl,.inr (SqT.of ab),rfl,ziW moves,.inr ⟨_,rfl,_,_,rfl,rfl,.inr ?_,lf,_,_,rfl,rfl,h9,?_,⟨_,_,_,rfl⟩,S9.upd d,x.upd ad,cs++[nb*u*(if i∈moves then 1 else 0)],?_,by rw[Jd,cl];rfl,λj hj no=>?_⟩⟩
  ·split<;>lia
  ·rw[Jq,JC];lia
  ·rw[e0,zkl,zag,JY]
   by_cases z:i∈moves
   ·rw[Jf z,JE z];rfl
   ·rw[Jb z,Jv z];rfl
  ·by_cases z:j<i
   ·rw[Ja,YB (by lia),<- Ja];exact I j z no
   ·have:j=i:=by lia
    subst this
    rw[Ja,Yy (by lia),cl,Nat.sub_self,Jb no,Int.mul_zero];rfl
 ·rintro σ v ⟨⟨T,R,O,rfl⟩,S2,M,cs,D,cl,I⟩
  rw[Ya]at cl I
  refine⟨_,rfl,lf,_,rfl,.inl ⟨SqL.of D,λt c=>?_⟩⟩
  exact k t cs _ cl I (zao c _) (S2.keep (zab c _)) (M.trans (But.of (zab c _)))
abbrev sBhS:Stmt:=top 33
def zla:Sp:=λvs H Q _=>∃ r fr er ps A g c e a B,vs=[.ref r,.ref g]/\Nt.Ok A/\NetAt H r fr er ps A/\Nt.Ok B/\NetAt H g c e a B/\B.lanes=A.lanes/\A.forks.length+B.forks.length<=128/\∀ h d f b H',Same H H'->NetAt H' h d f b (zfS A B)->Q (.ref h) H'
theorem scBh:FnScope ["_law_net_here","_law_other","_law_lanes","_law_forks","_law_ends_here","_law_more"] ["_law_net_here","_law_other"] (zam sBhS):=by trivial
theorem zmK {f:Addr}{fd:FuncData}(F:Fun K "_law_behind" "_law_behind" sBhS f fd) (G:Mgs mg):FnOk P w K mg base CX0 1 f fd ["_law_net_here","_law_other"] zla:=by
 refine F.ok scBh (λvs H Q E h=>?_) (λcdv A outer s H vs Q E hr h=>?_)
 ·obtain⟨r,fr,er,ps,A,V,y,C,u,B,rfl,_⟩:=h
  rfl
 obtain⟨r,fr,er,ps,M,V,y,C,u,N,rfl,aa,c,ok,na,ad,ah,k⟩:=h
 refine⟨_,(@zae _ _ _ _ _ (@zaX _ _ _ _ _ _ (@qv _ 0 _ _ (by trivial)) (@zaT _ _ _ _ _ _ rfl (@zak _ _ _ _ _ (@zal _ _ 2 _ scBh.nd rfl (.inl rfl) (by trivial)) (@zak _ _ _ _ _ (@zal _ _ 3 _ scBh.nd rfl (.inl rfl) (by trivial)) (@zak _ _ _ _ _ (@zal _ _ 4 _ scBh.nd rfl (.inr rfl) (by trivial)) zaG (by rfl)) (by rfl)) (by rfl)) (by rfl) (by rfl)) (by rfl) (by rfl) (by rfl)) (@zae _ _ _ _ _ (@zaw _ _ 5 _ _ _ _ scBh.nd rfl (.inl rfl) (@zar _ _ _ _ _ _ _ _ _ zau (by rfl) G.tuple (by rfl) (@zaa _ _ _ _ _ (@zh3 _ _ _ _ none _ _ _ (gTup K 2 (zfH (zcQ 0) (zfH (zcQ 1) gNil))) _ _ ["_law_a","_law_b","_law_ends_here"] [none,none,some 4] rfl (@zc6 _ _ _ _ (@zaA _ _ _ _ _ _ _ zaS (@qv _ 1 _ _ (by trivial)) zad (λ_ _=>rfl))) (CapOk.of (by kernel_rfl)) (λ_ _ _ _ _=>(@zaT _ _ _ _ _ _ rfl (@zak _ _ _ _ _ (@zal _ _ 0 _ (show (["_law_a","_law_b","_law_ends_here"]:List Str).Nodup from by decide +kernel) rfl (.inl rfl) (.inr rfl)) (@zak _ _ _ _ _ (@zal _ _ 1 _ (show (["_law_a","_law_b","_law_ends_here"]:List Str).Nodup from by decide +kernel) rfl (.inl rfl) (.inr rfl)) zaG (by rfl)) (by rfl)) (by rfl) (by rfl))) (λ_ _ _ _ _=>zb3) (λ_ _ _ _ _=>(@zaz _ _ _ _ _ (@zaa _ _ _ _ _ (@zaA _ _ _ _ _ _ (rIxT K) zaS (@qv _ 2 _ _ (by trivial)) (@qv _ 0 _ _ (by trivial)) (λ_ _=>rfl)) (@zaa _ _ _ _ _ (@zaA _ _ _ _ _ _ (rIxT K) zaS (@qv _ 2 _ _ (by trivial)) (@qv _ 1 _ _ (by trivial)) (λ_ _=>rfl)) zac (by rfl)) (by rfl)))) (by intro _;rfl)) zac (by rfl)) (by decide) (by decide) (by rfl) (by rfl)) (by rfl) (by trivial)) (@zai _ _ _ (@zav _ _ _ _ (@zaz _ _ _ _ _ (@zaa _ _ _ _ _ (@qv _ 2 _ _ (by trivial)) (@zaa _ _ _ _ _ (@zap _ _ _ _ _ _ _ _ zbl (@qv _ 3 _ _ (by trivial)) (@qv _ 5 _ _ (by trivial))) (@zaa _ _ _ _ _ (@zar _ _ _ _ _ _ _ _ _ zau (by rfl) G.tuple (by rfl) (@zaa _ _ _ _ _ (@zh3 _ _ _ _ none _ _ _ _ _ _ ["_law_end","_law_ends_here"] [none,some 4] rfl (@zc6 _ _ _ _ (@zaA _ _ _ _ _ _ _ zaS (@qv _ 1 _ _ (by trivial)) zad (λ_ _=>rfl))) (CapOk.of (by kernel_rfl)) (λ_ _ _ _ _=>(@zal _ _ 0 _ (show (["_law_end","_law_ends_here"]:List Str).Nodup from by decide +kernel) rfl (.inl rfl) (.inr rfl))) (λ_ _ _ _ _=>zb3) (λ_ _ _ _ _=>(@zaA _ _ _ _ _ _ (rIxT K) zaS (@qv _ 1 _ _ (by trivial)) (@qv _ 0 _ _ (by trivial)) (λ_ _=>rfl))) (by intro _;rfl)) zac (by rfl)) (by decide) (by decide) (by rfl) (by rfl)) zac (by rfl)) (by rfl)) (by rfl))))))),?_⟩
 have l16:=ok.l16
 have fm:=ok.fm
 have af:=c.prs.len
 have pl:=na.prs.len
 have el:=zct ok
 have ai:=zct aa
 refine⟨_,rfl,r,_,rfl,SqT.of c.net,rfl,_,_,rfl,_,_,rfl,_,_,rfl,rfl,?_⟩
 refine⟨_,rfl,V,_,_,_,rfl,rfl,SqT.of na.net,rfl,y,rfl,⟨_,SqT.of na.forks⟩,λlq L=>?_⟩
 refine zgq (K:=K) (a:=y) (xs:=u) (λi acc σ d=>(∃ v0 T,σ=[v0,T,some (.ref er)])/\Same H d/\d lq=some (.lst acc)/\acc.length=i/\Prs d acc ((N.forks.take i).map (zej M.ends))) ⟨⟨_,_,rfl⟩,zab L _,zag,rfl,trivial⟩ (λi acc σ d z=>⟨z.2.2.1,SqT.of (z.2.1 _ _ na.forks)⟩) ?_ ?_
 ·rintro i x acc σ d q ⟨⟨v0,T,rfl⟩,p,X,al,pr⟩
  obtain⟨a,g,rfl,Y,ha⟩:=(na.prs.tups (Tups.of p)).get q
  have ag:=ok.fk g (JP Y)
  have I:i<u.length:=(Jc.mp q).1
  have ig:i<N.forks.length:=(Jc.mp Y).1
  refine⟨a,_,rfl,SqT.of ha,rfl,_,_,rfl,_,_,rfl,rfl,?_⟩
  refine⟨_,rfl,_,rfl,er,_,_,_,rfl,rfl,SqT.of (p _ _ c.ends),zlL (by lia),_,rfl,_,rfl,er,_,_,_,rfl,rfl,SqT.of (p _ _ c.ends),zlL (by lia),(by show 2<=sizeLine;decide),λt ht=>?_⟩
  have n:=zab ht (.tup [.int (nmq M.ends g.1:Nat),.int (nmq M.ends g.2:Nat)])
  have W:=n _ _ X
  refine⟨W,JJ (show _<1000 by lia) (by decide),nx I ⟨⟨_,_,rfl⟩,λb o e=>?_,zag,by simp[al],?_⟩⟩
  ·rw[zah (zaf e L)];exact n _ _ (p b o e)
  ·rw[Yg ig,JY,(Jc.mp Y).2]
   exact Prs.add (f:=zej M.ends g) (Tups.lst W _ _ (zao ht _)) ((pr.tups (Tups.of n)).tups (Tups.lst W))
 rintro acc σ d ⟨⟨v0,T,rfl⟩,p,X,al,pr⟩
 rw[pl,YA]at pr
 refine⟨lq,_,rfl,.inl ⟨SqL.of X,λf1 O=>?_⟩⟩
 have n:=zab O (.tup acc)
 refine⟨_,rfl,_,rfl,_,rfl,fr,f1,ps,acc,rfl,rfl,n _ _ (p _ _ c.forks),zao O _,by rw[JC];lia,λf2 H5 m ab=>?_⟩
 have D:=(p.trans n).trans m
 have Z:Prs H5 (ps++acc) (M.forks++N.forks.map (zej M.ends)):=Prs.app (c.prs.tups (Tups.of D)) (pr.tups (Tups.of (n.trans m)))
 refine⟨_,rfl,V,_,_,_,rfl,rfl,SqT.of (D _ _ na.net),rfl,C,rfl,⟨_,SqT.of (D _ _ na.ends)⟩,λl hl=>?_⟩
 refine zgq (K:=K) (a:=C) (xs:=nums N.ends) (λi acc σ d=>(∃ v,σ=[v,some (.ref er)])/\Same H5 d/\d l=some (.lst acc)/\acc=nums ((N.ends.take i).map (nmq M.ends))) ⟨⟨_,rfl⟩,zab hl _,zag,rfl⟩ (λi acc σ d z=>⟨z.2.2.1,SqT.of (z.2.1 _ _ (D _ _ na.ends))⟩) ?_ ?_
 ·rintro i x acc σ H6 q ⟨⟨v,rfl⟩,m,S,rfl⟩
  have I:i<N.ends.length:=by have:=(Jc.mp q).1;rwa [zaq]at this
  have ex:x=.int N.ends[i]:=by
   unfold nums at q
   rw[JK,J7 I]at q;exact(Jn q).symm
  subst ex
  have lt':=zfJ ok (Y5 I)
  refine⟨_,rfl,_,rfl,er,_,_,_,rfl,rfl,SqT.of (m _ _ (D _ _ c.ends)),zlL (by lia),S,?_,nx (by rw[zaq];exact I) ⟨⟨_,rfl⟩,λb o e=>?_,zag,?_⟩⟩
  ·rw[zaq,Jq,Jy];exact Nat.lt_of_le_of_lt (Nat.min_le_left _ _) (JJ (show i<1000 by lia) (by decide))
  ·rw[zah (zaf e hl)];exact m b o e
  ·rw[Yg I,JY]
   unfold nums
   rw[JY];rfl
 rintro ae σ H6 ⟨⟨v,rfl⟩,m,S,rfl⟩
 rw[zaq,YA]at S
 refine⟨l,_,rfl,.inl ⟨SqL.of S,λR j=>?_⟩⟩
 have s7:=zab j (.tup (nums (N.ends.map (nmq M.ends))))
 refine⟨(by show 3<=sizeLine;decide),λr3 J=>?_⟩
 have s8:=zab J (.tup [.int M.lanes,.ref f2,.ref R])
 have U:=(m.trans s7).trans s8
 exact k r3 f2 R _ _ (D.trans U) ⟨zao J _,U _ _ ab,Z.tups (Tups.of U),s8 _ _ (zao j _)⟩
end
end K35
namespace L2
open PySem PySem.Spec PyProof.Rows Own Bn
theorem zle {a u:TS}{D:Ends}{σ:St}{H:Hp}(I:St->Hp->Prop) (key:∀ σ H,I σ H->u D σ H) (h:∀ b:Ends,(∀ σ H,I σ H->b.nx σ H)->b.rt=D.rt->a b σ H):tSeq a u D σ H:=h { D with nx:=u D } key rfl
theorem znA {i:Nat}{v:V}{σ:St}{H:Hp}{a u:TS}{D:Ends}(h:tSeq a u D (σ.set i (some v)) H):zcQ i v σ H (λb c=>tSeq a u D b c):=h
section
variable {N:Nt}{moves:List Nat}{t:Int}{row:List Int}
theorem Rw.at (R:Rw moves N.lanes t row) (i:Nat):0<=row.getD i 0:=by
 rw[show row.getD i 0=row[i]?.getD 0 from Ja]
 cases e:row[i]? with
 | none=>exact Ze _
 | some x=>exact R.nn x (JP e)
theorem Rw.cnt (R:Rw moves N.lanes t row):cntL (zL N) (rowC row)=row:=by
 refine zcs (by rw[zed,R.len]) λi hi=>?_
 rw[zed]at hi
 have a:(zL N).length=N.lanes:=YE
 have:=R.at i
 rw[zeU _ _ i (by lia),zdz,ze4,Jf (by rw[R.len];exact hi)];lia
theorem Rw.over (R:Rw moves N.lanes t row):Over moves (rowC row):=λm a=>by
 have:=List.count_pos_iff.mpr a
 rw[zdz,R.len]at this
 by_cases z:m<N.lanes
 ·rw[Jf z]at this
  apply Classical.byContradiction
  intro no
  rw[R.oth m z no]at this
  exact absurd this (by decide)
 ·rw[Jb z]at this;lia
theorem Rw.stair (ok:Nt.Ok N) (a:∀ m∈moves,m<N.lanes) (R:Rw moves N.lanes t row) (h:∀ j,j<=(rowC row).length->runK (zbE N) (k0P N) ((rowC row).take j)≠none):zcd (zaO N row)=true:=by
 have e:=zgw ok (λm b=>a m (R.over m b)) (rowC row).length (Jg _) (zkY N _ _ (Jg _) h)
 rw[YA,R.cnt]at e
 rw[e]
 exact zi0 ok _
theorem Rw.shut (ok:Nt.Ok N) (b:∀ m∈moves,m<N.lanes) (R:Rw moves N.lanes t row) {ks:List KN}(a:Shut (zbE N) moves (k0P N) ks):zcd (zaO N row)=true :=
 R.stair ok b λj _=>by
  obtain⟨s,_,e⟩:=a.run ((rowC row).take j) a.fst λx c=>R.over x (Zt c)
  rw[e];exact λz=>by cases z
end
theorem zkn {p t:Int}(h:2*p ∣ t):p ∣ t / 2/\p ∣ (t+1) / 2/\(2:Int) ∣ t:=by
 obtain⟨q,rfl⟩:=h
 have e:2*p*q=2*(p*q):=Int.mul_assoc _ _ _
 rw[e,show 2*(p*q) / 2=p*q by lia,show (2*(p*q)+1) / 2=p*q by lia]
 exact⟨Int.dvd_mul_right _ _,Int.dvd_mul_right _ _,Int.dvd_mul_right _ _⟩
theorem zeF {n:Nat}{k:Int}:∀ (fs:List (Nat × Nat)) (cs xs ts us:List Int),(∀ f∈fs,f.1<n/\f.2<n)->cs.length=n->xs.length=n->(∀ i,i<n->pw fs.length ∣ xs.getD i 0) ->
  zaC (more cs xs k,ts) fs=(more (zaC (cs,ts) fs).1 (zaC (xs,us) fs).1 k,(zaC (cs,ts) fs).2)
 | [],_,_,_,_,_,_,_,_=>rfl
 | f::fs,cs,xs,ts,us,ok,lc,d,c=>by
  obtain⟨h1,e⟩:=ok f (.head _)
  have j:2*pw fs.length ∣ xs.getD f.1 0+xs.getD f.2 0:=by
   have a:=c f.1 h1
   have b:=c f.2 e
   rw[JL,zhT]at a b
   exact Int.dvd_add a b
  obtain⟨o,m,l⟩:=zkn j
  show zaC (zaK (more cs xs k,ts) f) fs=(more (zaC (zaK (cs,ts) f) fs).1 (zaC (zaK (xs,us) f) fs).1 k,(zaC (zaK (cs,ts) f) fs).2)
  rw[zis (us:=us) h1 e lc d l]
  refine zeF fs (zaK (cs,ts) f).1 (zaK (xs,us) f).1 (zaK (cs,ts) f).2 (zaK (xs,us) f).2 (λg h=>ok g (.tail _ h)) ((zaV _ _).trans lc) ((zaV _ _).trans d) λi hi=>?_
  show _ ∣ ((xs.set f.1 _).set f.2 _).getD i 0
  rw[za0 (by rw[YZ];lia),za0 (by lia)]
  by_cases z2:f.2=i
  ·rw[Jf z2];exact o
  ·rw[Jb z2]
   by_cases z1:f.1=i
   ·rw[Jf z1];exact m
   ·rw[Jb z1]
    have:=c i hi
    rw[JL,zhT]at this
    exact Int.dvd_trans (Int.dvd_mul_left _ _) this
theorem zci {N:Nt}(ok:N.Ok) {cs xs:List Int}{k:Int}(lc:cs.length=N.lanes) (b:xs.length=N.lanes) (c:∀ i,i<N.lanes->pw N.forks.length ∣ xs.getD i 0) {e:Nat}(d:e<N.lanes) :
  (zaO N (more cs xs k)).getD e 0=(zaO N cs).getD e 0+k*(zaO N xs).getD e 0:=by
 have h:=zct ok
 have q:=zeF (k:=k) N.forks cs xs [] [] (λf a=>⟨(ok.fk f a).1,(ok.fk f a).2.1⟩) lc b c
 unfold zaO flow
 rw[q]
 have g:∀ ys:List Int,(N.ends.map λz=>ys.getD z 0).getD e 0=ys.getD (N.ends[e]'(by lia)) 0:=λys=>by
  rw[Ja,JK,J7 (by lia)];rfl
 rw[g,g,g]
 exact zbx (by rw[(zbt _ _).1];show _<cs.length;rw[lc];exact zfJ ok (Y5 _))
def onS (N:Nt) (moves:List Nat):List Int:=(List.range N.lanes).map λi=>if i∈moves then pw N.forks.length else 0
theorem zd1 (N:Nt) (moves:List Nat):(onS N moves).length=N.lanes:=by unfold onS;rw[Jq,Yb]
theorem zkP {N:Nt}{moves:List Nat}{i:Nat}(h:i<N.lanes):(onS N moves).getD i 0=if i∈moves then pw N.forks.length else 0:=by
 unfold onS
 rw[Ja,JK,J7 (by rw[Yb];exact h),List.getElem_range];rfl
theorem zmq (n:Nat):1<=pw n:=by
 unfold pw
 have:0<2 ^ n:=Nat.pow_pos (by decide)
 lia
theorem zcu {N:Nt}(ok:N.Ok) (cs:List Int):(zaO N cs).length=N.lanes:=by unfold zaO;rw[Jq];exact zct ok
theorem zlm {N:Nt}{moves:List Nat}{c:List Int}{k:Int}(cl:c.length=N.lanes) (oth:∀ i,i<N.lanes->i∉moves->c.getD i 0=0) (big:∀ i,i<N.lanes->0<=c.getD i 0+k\/i∉moves) (k0:0<=k):Rw moves N.lanes (more c (onS N moves) k).sum (more c (onS N moves) k):=by
 have at_:∀ i,i<N.lanes->(more c (onS N moves) k).getD i 0=c.getD i 0+k*if i∈moves then pw N.forks.length else 0:=λi hi=>by rw[zbx (by lia),zkP hi]
 refine⟨by rw[zbg,cl],λx d=>?_,rfl,λi hi no=>?_⟩
 ·obtain⟨i,hi,rfl⟩:=List.getElem_of_mem d
  rw[zbg,cl]at hi
  have q:=at_ i hi
  rw[Ja,J7 (by rw[zbg,cl];exact hi)]at q
  have a:(more c (onS N moves) k)[i]'(by rw[zbg,cl];exact hi)=_:=q
  rw[a]
  by_cases z:i∈moves
  ·rw[Jf z]
   have p:=zmq N.forks.length
   have:k*1<=k*pw N.forks.length:=Int.mul_le_mul_of_nonneg_left p k0
   rcases big i hi with b|b
   ·lia
   ·exact absurd z b
  ·rw[Jb z,oth i hi z,Int.mul_zero];decide
 ·rw[at_ i hi,Jb no,oth i hi no,Int.mul_zero];rfl
theorem zjo {N:Nt}(ok:N.Ok) {moves:List Nat}(p:∀ m∈moves,m<N.lanes) {ks:List KN}(o:Shut (zbE N) moves (k0P N) ks) {c:List Int}(cl:c.length=N.lanes) (oth:∀ i,i<N.lanes->i∉moves->c.getD i 0=0):zcd (zaO N c)=true:=by
 have l1:=ok.l1
 have f:∀ i,i<N.lanes->pw N.forks.length ∣ (onS N moves).getD i 0:=λi hi=>by
  rw[zkP hi]
  by_cases z:i∈moves
  ·rw[Jf z];exact Int.dvd_refl _
  ·rw[Jb z];exact Int.dvd_zero _
 have n:(zL N).length=N.lanes:=YE
 have a:∀ (k:Int),0<=k->∀ (d:List Int),d.length=N.lanes->(∀ i,i<N.lanes->i∉moves->d.getD i 0=0)->(∀ i,i<N.lanes->0<=d.getD i 0+k\/i∉moves)->(∀ i,i+1<N.lanes->(zaO N d).getD (i+1) 0+k*(zaO N (onS N moves)).getD (i+1) 0<=(zaO N d).getD i 0+k*(zaO N (onS N moves)).getD i 0)/\(zaO N d).getD 0 0+k*(zaO N (onS N moves)).getD 0 0-((zaO N d).getD (N.lanes-1) 0+k*(zaO N (onS N moves)).getD (N.lanes-1) 0)<2:=λk k0 d dl od s=>by
  have R:=zlm (k:=k) dl od s k0
  obtain⟨s1,s2⟩:=zc2.mp (R.shut ok p o)
  rw[zcu ok]at s1 s2
  rw[zci ok dl (zd1 _ _) f (by lia),zci ok dl (zd1 _ _) f (by lia)]at s2
  refine⟨λi hi=>?_,s2⟩
  have:=s1 i hi
  rwa [zci ok dl (zd1 _ _) f (by lia),zci ok dl (zd1 _ _) f (by lia)]at this
 have b:∀ i,i<N.lanes->(zaO N (zL N)).getD i 0=0:=λi hi=>by
  have e:zaO N (zL N)=List.replicate N.lanes 0:=zeS N ok
  rw[e,zbO]
 obtain⟨f1,f2⟩:=a 2 (by decide) (zL N) n (λi _ _=>ze4 N i) (λi _=>.inl (by rw[ze4];decide))
 rw[b 0 (by lia),b (N.lanes-1) (by lia)]at f2
 have r:∀ i,i<N.lanes->(zaO N (onS N moves)).getD (N.lanes-1) 0<=(zaO N (onS N moves)).getD i 0/\(zaO N (onS N moves)).getD i 0<=(zaO N (onS N moves)).getD 0 0:=by
  have up:∀ i,i<N.lanes->(zaO N (onS N moves)).getD i 0<=(zaO N (onS N moves)).getD 0 0:=λi=>by
   induction i with
   | zero=>exact λ_=>Ze _
   | succ i ih =>
    intro hi
    have:=f1 i hi
    rw[b _ hi,b i (by lia)]at this
    have:=ih (by lia)
    lia
  have lo:∀ j,j<N.lanes->(zaO N (onS N moves)).getD (N.lanes-1) 0<=(zaO N (onS N moves)).getD (N.lanes-1-j) 0:=λj=>by
   induction j with
   | zero=>exact λ_=>Ze _
   | succ j ih =>
    intro t
    have:=f1 (N.lanes-1-(j+1)) (by lia)
    rw[b _ (by lia),b _ (by lia),show N.lanes-1-(j+1)+1=N.lanes-1-j by lia]at this
    have:=ih (by lia)
    lia
  intro i hi
  have:=lo (N.lanes-1-i) (by lia)
  rw[show N.lanes-1-(N.lanes-1-i)=i by lia]at this
  exact⟨this,up i hi⟩
 have one:∀ i,i<N.lanes->(zaO N (onS N moves)).getD i 0=(zaO N (onS N moves)).getD 0 0:=λi hi=>by
  have:=r i hi
  lia
 have l:=zkS (row:=c.map λx=>((x.natAbs:Nat):Int)) (λx q=>by obtain⟨y,_,rfl⟩:=JD.mp q;lia)
 obtain⟨h,g⟩:=a (c.map λx=>((x.natAbs:Nat):Int)).sum l.1 c cl oth (λi hi=>.inl (by
  have:=l.2 _ (JD.mpr ⟨c[i]'(by lia),Y5 _,rfl⟩)
  rw[Ja,J7 (by lia)]
  show 0<=c[i]'(by lia)+_
  lia))
 generalize (c.map λx=>((x.natAbs:Nat):Int)).sum=M at h g
 refine zc2.mpr ⟨λi hi=>?_,?_⟩
 ·rw[zcu ok]at hi
  have:=h i hi
  rw[one _ hi,one i (by lia)]at this
  lia
 ·rw[zcu ok]
  rw[one (N.lanes-1) (by lia)]at g
  lia
end L2
namespace Bn
open PySem L2 Own
theorem zl5 {H:Hp}{n:Nat}{a:Addr}{es:List Nat}(h:H a=some (.tup (nums es))):DD H (n+1) (.ref a) (.tuple (es.map λe=>.int ((e:Nat):Int))):=by
 obtain⟨p,q⟩:=zm1 (H:=H) (n:=n) (f:=λ(e:Nat)=>V.int (e:Int)) (g:=λ(e:Nat)=>PyData.int ((e:Nat):Int)) (l:=es) λx _=>DD.i _
 exact DD.tup h p q
theorem zgx {H:Hp}:∀ {ps:List V}{fs:List (Nat × Nat)},Prs H ps fs->ps.length=(fs.map zd7).length/\∀ (j:Nat) (u:V) (e:PyData),ps[j]?=some u->(fs.map zd7)[j]?=some e->DD H 1 u e
 | [],[],_=>⟨rfl,λj u e h _=>by simp at h⟩
 | [],_::_,h=>h.elim
 | _::_,[],h=>h.elim
 | x::ps,f::fs,⟨⟨t,e,h⟩,r⟩=>by
  obtain⟨a,b⟩:=zgx r
  refine⟨by rw[JZ,JL,JL,a],λj u d c hd=>?_⟩
  cases j with
  | zero =>
   obtain rfl:x=u:=by simpa using c
   obtain rfl:zd7 f=d:=by simpa using hd
   subst e
   refine DD.tup h rfl λj u e p q=>?_
   match j,p,q with
   | 0,p,q=>obtain rfl:=Jn p;obtain rfl:=Jn q;exact DD.i _
   | 1,p,q=>obtain rfl:=Jn p;obtain rfl:=Jn q;exact DD.i _
   | j+2,p,q=>simp at p
  | succ j=>exact b j u d (by simpa using c) (by simpa using hd)
theorem zkW {H:Hp}{r fr er:Addr}{ps:List V}{N:Nt}(na:NetAt H r fr er ps N):DD H 3 (.ref r) (netD N):=by
 obtain⟨a,b⟩:=zgx na.prs
 refine DD.tup na.net rfl λj u e p q=>?_
 match j,p,q with
 | 0,p,q=>obtain rfl:=Jn p;obtain rfl:=Jn q;exact DD.i _
 | 1,p,q=>obtain rfl:=Jn p;obtain rfl:=Jn q;exact DD.tup na.forks a b
 | 2,p,q=>obtain rfl:=Jn p;obtain rfl:=Jn q;exact zl5 na.ends
 | j+3,p,q=>simp at p
theorem zd9 {α:Type}{g:α->PyData}(h:∀ x y,PyData.eqv (g x) (g y)=true->x=y):∀ (a b:List α),PyData.eqvAll (a.map g) (b.map g)=true->a=b
 | [],[],_=>rfl
 | [],_::_,e=>by simp[PyData.eqvAll]at e
 | _::_,[],e=>by simp[PyData.eqvAll]at e
 | x::a,y::b,e=>by
  have e2:(PyData.eqv (g x) (g y) && PyData.eqvAll (a.map g) (b.map g))=true:=by simpa [PyData.eqvAll] using e
  rw[YN]at e2
  rw[h x y e2.1,zd9 h a b e2.2]
theorem zl3 {i j:Int}(h:PyData.eqv (.int i) (.int j)=true):i=j:=by simpa [PyData.eqv] using h
theorem zks (f g:(Nat × Nat)) (h:PyData.eqv (zd7 f) (zd7 g)=true):f=g:=by
 have:PyData.eqvAll [.int ((f.1:Nat):Int),.int ((f.2:Nat):Int)] [.int ((g.1:Nat):Int),.int ((g.2:Nat):Int)]=true:=by simpa [zd7,PyData.eqv] using h
 simp only[PyData.eqvAll,YN,PyData.eqv,beq_iff_eq]at this
 exact Prod.ext (by lia) (by lia)
theorem zl2 {N M:Nt}(h:PyData.eqv (netD N) (netD M)=true):N=M:=by
 have:PyData.eqvAll [.int N.lanes,.tuple (N.forks.map zd7),.tuple (N.ends.map λe=>.int ((e:Nat):Int))] [.int M.lanes,.tuple (M.forks.map zd7),.tuple (M.ends.map λe=>.int ((e:Nat):Int))]=true:=by simpa [netD,PyData.eqv] using h
 simp only[PyData.eqvAll,YN,PyData.eqv,beq_iff_eq]at this
 obtain⟨a,b,c,_⟩:=this
 have f:N.lanes=M.lanes:=by lia
 have e2:=zd9 zks _ _ b
 have d:=zd9 (g:=λ(e:Nat)=>PyData.int ((e:Nat):Int)) (λx y z=>by have:=zl3 z;lia) _ _ c
 cases N;cases M
 simp only at f e2 d
 rw[f,e2,d]
end Bn
namespace K35
open PySem L2 Own Bn
abbrev sLaw:Stmt:=top 34
def zjx (K:PySem.W.Frag) (Pt:Addr):Sp:=λvs H Q _=>∃ (a:Addr) (ns:List Int),vs=[.ref a]/\SqL K H a (ns.map V.int)/\ns.length<=63/\H Pt=some (.tbl #[])/\∀ H',Q (.bl true) H'
def Scr (K:PySem.W.Frag) (a:Addr) (xs:List V) (H:Hp):Prop:=H a=some (.lst xs)\/(∃ o,H a=some (.frz o (.lst xs)))\/∀ H',SqL K H' a xs
theorem Scr.of {K:PySem.W.Frag}{a:Addr}{xs:List V}{H:Hp}(h:SqL K H a xs):Scr K a xs H:=by
 rcases h with (h|h)|h
 ·exact .inl h
 ·exact .inr (.inl h)
 ·exact .inr (.inr λH'=>.inr h)
theorem Scr.sq {K:PySem.W.Frag}{a:Addr}{xs:List V}{H:Hp}(h:Scr K a xs H):SqL K H a xs:=by
 rcases h with h|h|h
 ·exact .inl (.inl h)
 ·exact .inl (.inr h)
 ·exact h H
theorem Scr.keep {K:PySem.W.Frag}{a:Addr}{xs:List V}{H H':Hp}(h:Scr K a xs H) (k:∀ o,H a=some o->(o=.lst xs\/∃ u,o=.frz u (.lst xs))->(∀ H',SqL K H' a xs)\/H' a=some o):Scr K a xs H':=by
 rcases h with h|⟨o,h⟩|h
 ·rcases k _ h (.inl rfl) with z|z
  ·exact .inr (.inr z)
  ·exact .inl z
 ·rcases k _ h (.inr ⟨o,rfl⟩) with z|z
  ·exact .inr (.inr z)
  ·exact .inr (.inl ⟨o,z⟩)
 ·exact .inr (.inr h)
structure LE (K:PySem.W.Frag) (a l Pt:Addr) (xs:List V) (H:Hp):Prop where
 S:Pk3 H l
 tab:TabQ qV Pt H
 scr:Scr K a xs H
 al:a≠l\/∀ H',SqL K H' a xs
section
variable {K:PySem.W.Frag}{a l Pt:Addr}{xs:List V}{H H':Hp}
theorem LE.same (h:LE K a l Pt xs H) (s:Same H H'):LE K a l Pt xs H':=⟨h.S.keep s,h.tab.same s,h.scr.keep λo e _=>.inr (s _ _ e),h.al⟩
theorem LE.pick (h:LE K a l Pt xs H) (d:Pk3 H' l) (b:But l H H'):LE K a l Pt xs H':=by
 obtain⟨ys,c⟩:=h.S.lst
 refine⟨d,h.tab.but b c,h.scr.keep λo e _=>?_,h.al⟩
 rcases h.al with z|z
 ·exact .inr (b _ _ e z)
 ·exact .inl z
theorem LE.ver (h:LE K a l Pt xs H) (t:TabQ qV Pt H') (b:But Pt H H'):LE K a l Pt xs H':=by
 obtain⟨ls,f,_⟩:=h.tab
 obtain⟨x,y,z,d,r⟩:=h.S.ex
 refine⟨⟨x,y,z,b _ _ d (zcD d f λq=>by cases q),r⟩,t,h.scr.keep λo e c=>.inr (b _ _ e λq=>?_),h.al⟩
 rw[q,f]at e
 cases e
 rcases c with c|⟨u,c⟩<;>cases c
theorem zf1 {q:Str}(t:TabQ q Pt H) (b:But Pt H H'):Tups H H':=λc ys e=>by
 obtain⟨ls,a,_⟩:=t
 exact b _ _ e (zcD e a λq=>by cases q)
end
theorem Lns.len {lanes:Nat}{moves:List Nat}(h:Lns lanes moves):moves.length<=lanes:=by
 have:=ziA (l:=moves) (ks:=List.range lanes) (h.up.imp λz=>JF z) λx a=>Yx.mpr (h.lt x a)
 rwa [Yb]at this
def zlW:LRes->Bool
 | .whl _=>true
 | _=>false
def ze8 (way k:Nat):List Nat:=if way=1 then [0] else List.range (2 ^ k)
theorem zka:∀ way,way<3->∀ k,k<3->zlW (zbB (za2 way k) (ze8 way k) 4000)=true:=by decide +kernel
theorem zjt (way k:Nat):Lns (za2 way k).lanes (ze8 way k):=by
 rw[zba]
 have p:0<2 ^ k:=Nat.pow_pos (by decide)
 unfold ze8
 split
 ·exact⟨by simp,λm a=>by rw[Je.mp a];exact p,ZR _ _⟩
 ·exact Lns.all p
theorem zen {H:Hp}{p:Addr}{R:LRes}(h:TellW H p R):∃ word v,H p=some (.tup [.str word,v])/\(word = "stair"↔zlW R=true):=by
 cases R with
 | opn=>exact⟨_,_,h,λz=>absurd z (by decide),λz=>by cases z⟩
 | brk c=>obtain⟨b,h1,_⟩:=h;exact⟨_,_,h1,λz=>absurd z (by decide),λz=>by cases z⟩
 | whl ls=>obtain⟨b,h1⟩:=h;exact⟨_,_,h1,λ_=>rfl,λ_=>rfl⟩
theorem zhh {N:Nt}(ok:N.Ok) {moves:List Nat}(b:∀ m∈moves,m<N.lanes) (h:zlW (zbB N moves 4000)=true) {c:List Int}(cl:c.length=N.lanes) (oth:∀ i,i<N.lanes->i∉moves->c.getD i 0=0):zcd (zaO N c)=true:=by
 have ca:=zjb (step:=zbE N) (moves:=moves) (k0:=k0P N) (c0:=zL N) (most:=4000)
 cases a:zbB N moves 4000 with
 | opn=>rw[a]at h;cases h
 | brk c=>rw[a]at h;cases h
 | whl ls =>
  rw[show zbe (zbE N) moves 4000 (4000+1) [(k0P N,zL N)] [] []=.whl ls from a]at ca
  exact zjo ok b ca.1 cl oth
section
variable {P:Program}{w:World}{K:PySem.W.Frag}{mg:Str->Option Value}{base:Heap}
theorem scLw:FnScope ["_law_script","_law_k","_law_left_here","_law_size","_law_way","_law_net_here","_law_some_here","_law_other","_law_one","_law_lanes","_law_turn"] ["_law_script"] (zam sLaw):=by trivial
theorem zmH {f fL fK fM fN fS fV fE fR fB fC fT Pt:Addr}{fd dL dK dM dN dS dV dE dR dB dC dT:FuncData}(F:Fun K "law" "law" sLaw f fd) (G:Mgs mg) (UL:Use P w K mg base "_law_left" ["_law_script","_law_k"] 1 (zfe K) fL dL) (J:Use P w K mg base "_law_pick" ["_law_left_here","_law_many"] 1 zbF fK dK) (UM:Use P w K mg base "_law_made" ["_law_way","_law_k"] 11 zf3 fM dM) (UN:Use P w K mg base "_law_net" ["_law_left_here"] 12 zhy fN dN) (US:Use P w K mg base "_law_some" ["_law_left_here","_law_net_here"] 2 zfc fS dS)
  (UV:Use P w K mg base "verdict" ["net","some","most"] 8 (zfb qV Pt) fV dV) (UE:Use P w K mg base "_law_ends" ["_law_net_here","_law_counts_here"] 1 zhz fE dE) (UR:Use P w K mg base "_law_stair" ["_law_counts_here"] 1 zdO fR dR) (UB:Use P w K mg base "_law_behind" ["_law_net_here","_law_other"] 1 zla fB dB) (UC:Use P w K mg base "_law_changed" ["_law_left_here","_law_net_here"] 2 zjy fC dC) (UT:Use P w K mg base "_law_counts" ["_law_left_here","_law_net_here","_law_some_here"] 2 zhA fT dT):FnOk P w K mg base CX0 13 f fd ["_law_script"] (zjx K Pt):=by
 refine F.ok scLw (λvs H Q E h=>?_) (λcdv A outer s H vs Q E hr h=>?_)
 ·obtain⟨a,ns,rfl,_⟩:=h
  rfl
 obtain⟨a,ns,rfl,hS,br,bq,k⟩:=h
 have tab:TabQ qV Pt H:=⟨[],bq,λp hp=>absurd hp Jw⟩
 have u:Room 1 _:=hr.mono (by decide)
 have aD:Room 2 _:=hr.mono (by decide)
 have a5:Room 8 _:=hr.mono (by decide)
 have aj:Room 11 _:=hr.mono (by decide)
 refine⟨_,(@zae _ _ _ _ _ (@zbN _ _ _ _ _ _ _ _ Yt rfl (@zbk _ _ _ _ _ _ rfl G.range (@zaa _ _ _ _ _ (@zay _ _ _ _ _ _ _ _ _ (zjf rfl) (by rfl) G.max (by rfl) (@zaa _ _ _ _ _ zad (@zaa _ _ _ _ _ (@zay _ _ _ _ _ _ _ _ _ (zje rfl) (by rfl) G.min (by rfl) (@zaa _ _ _ _ _ (@zay _ _ _ _ _ _ _ _ _ zas (by rfl) G.len Yn (@zaa _ _ _ _ _ (@qv _ 0 _ _ (by trivial)) zac (by rfl)) (by decide) (by decide) (by rfl) (by rfl)) (@zaa _ _ _ _ _ zad zac (by rfl)) (by rfl)) (by decide) (by decide) (by rfl) (by rfl)) zac (by rfl)) (by rfl)) (by decide) (by decide) (by rfl) (by rfl)) zac (by rfl)) (by rfl)) (@zal _ _ 1 _ scLw.nd rfl (.inl rfl) (by trivial)) (@zae _ _ _ _ _ (@zaw _ _ 2 _ _ _ _ scLw.nd rfl (.inl rfl) (@zaj _ _ _ _ _ _ _ _ _ _ _ _ _ _ _ _ UL.ok u (by rfl) UL.m UL.kp UL.b .nil zax (@zaa _ _ _ _ _ (@qv _ 0 _ _ (by trivial)) (@zaa _ _ _ _ _ (@qv _ 1 _ _ (by trivial)) zac (by rfl)) (by rfl)) (by decide) (by rfl) (by rfl)) (by rfl) (by trivial)) (@zae _ _ _ _ _ (@zaw _ _ 3 _ _ _ _ scLw.nd rfl (.inl rfl) (@zaj _ _ _ _ _ _ _ _ _ _ _ _ _ _ _ _ J.ok u (by rfl) J.m J.kp J.b .nil zax (@zaa _ _ _ _ _ (@qv _ 2 _ _ (by trivial)) (@zaa _ _ _ _ _ zad zac (by rfl)) (by rfl)) (by decide) (by rfl) (by rfl)) (by rfl) (by trivial)) (@zae _ _ _ _ _ (@zaw _ _ 4 _ _ _ _ scLw.nd rfl (.inl rfl) (@zaj _ _ _ _ _ _ _ _ _ _ _ _ _ _ _ _ J.ok u (by rfl) J.m J.kp J.b .nil zax (@zaa _ _ _ _ _ (@qv _ 2 _ _ (by trivial)) (@zaa _ _ _ _ _ zad zac (by rfl)) (by rfl)) (by decide) (by rfl) (by rfl)) (by rfl) (by trivial)) (@zae _ _ _ _ _ (@zaw _ _ 5 _ _ _ _ scLw.nd rfl (.inl rfl) (@zaj _ _ _ _ _ _ _ _ _ _ _ _ _ _ _ _ UM.ok aj (by rfl) UM.m UM.kp UM.b .nil zax (@zaa _ _ _ _ _ (@qv _ 4 _ _ (by trivial)) (@zaa _ _ _ _ _ (@qv _ 3 _ _ (by trivial)) zac (by rfl)) (by rfl)) (by decide) (by rfl) (by rfl)) (by rfl) (by trivial)) (@zae _ _ _ _ _ (@zaw _ _ 6 _ _ _ _ scLw.nd rfl (.inl rfl) (@zaA _ _ _ _ _ _ _ zat (@zaI _ _ _ _ (@zaa _ _ _ _ _ (@zc7 _ _ _ _ _ _ _ rfl (by rfl) G.tuple (by rfl) G.range (@zaa _ _ _ _ _ (@zaA _ _ _ _ _ _ _ zaS (@qv _ 5 _ _ (by trivial)) zad (λ_ _=>rfl)) zac (by rfl)) (by rfl) (by rfl)) (@zaa _ _ _ _ _ (@zaz _ _ _ _ _ (@zaa _ _ _ _ _ zad zac (by rfl))) zac (by rfl)) (by rfl))) (@zar _ _ _ _ _ _ _ _ _ zcv (by rfl) G.int (by rfl) (@zaa _ _ _ _ _ (@zcC _ _ _ _ _ _ _ _ zb6 (@qv _ 4 _ _ (by trivial)) zad (zaQ _)) zac (by rfl)) (by decide) (by decide) (by rfl) (by rfl)) (λ_ _=>rfl)) (by rfl) (by trivial)) (@zae _ _ _ _ _ (@zbj _ _ _ _ _ _ _ _ (@zaE _ _ _ _ _ _ _ _ zmA (@zaA _ _ _ _ _ _ _ zaS (@zaj _ _ _ _ _ _ _ _ _ _ _ _ _ _ _ _ UV.ok a5 (by rfl) UV.m UV.kp UV.b .nil zax (@zaa _ _ _ _ _ (@qv _ 5 _ _ (by trivial)) (@zaa _ _ _ _ _ (@qv _ 6 _ _ (by trivial)) (@zaa _ _ _ _ _ zad zac (by rfl)) (by rfl)) (by rfl)) (by decide) (by rfl) (by rfl)) zad (λ_ _=>rfl)) zc8 (zaQ _)) (@zai _ _ _ (@zav _ _ _ _ zjM)) zaM) (@zae _ _ _ _ _ (@zaw _ _ 7 _ _ _ _ scLw.nd rfl (.inl rfl) (@zaj _ _ _ _ _ _ _ _ _ _ _ _ _ _ _ _ UB.ok u (by rfl) UB.m UB.kp UB.b .nil zax (@zaa _ _ _ _ _ (@zaj _ _ _ _ _ _ _ _ _ _ _ _ _ _ _ _ UC.ok aD (by rfl) UC.m UC.kp UC.b .nil zax (@zaa _ _ _ _ _ (@qv _ 2 _ _ (by trivial)) (@zaa _ _ _ _ _ (@zaj _ _ _ _ _ _ _ _ _ _ _ _ _ _ _ _ UM.ok aj (by rfl) UM.m UM.kp UM.b .nil zax (@zaa _ _ _ _ _ (@zaj _ _ _ _ _ _ _ _ _ _ _ _ _ _ _ _ J.ok u (by rfl) J.m J.kp J.b .nil zax (@zaa _ _ _ _ _ (@qv _ 2 _ _ (by trivial)) (@zaa _ _ _ _ _ zad zac (by rfl)) (by rfl)) (by decide) (by rfl) (by rfl)) (@zaa _ _ _ _ _ (@qv _ 3 _ _ (by trivial)) zac (by rfl)) (by rfl)) (by decide) (by rfl) (by rfl)) zac (by rfl)) (by rfl)) (by decide) (by rfl) (by rfl)) (@zaa _ _ _ _ _ (@qv _ 5 _ _ (by trivial)) zac (by rfl)) (by rfl)) (by decide) (by rfl) (by rfl)) (by rfl) (by trivial)) (@zai _ _ _ (@zbN _ _ _ _ _ _ _ _ Yt rfl (@zc6 _ _ _ _ (@zaz _ _ _ _ _ (@zaa _ _ _ _ _ (@qv _ 5 _ _ (by trivial)) (@zaa _ _ _ _ _ (@qv _ 7 _ _ (by trivial)) (@zaa _ _ _ _ _ (@zaj _ _ _ _ _ _ _ _ _ _ _ _ _ _ _ _ UN.ok hr (by rfl) UN.m UN.kp UN.b .nil zax (@zaa _ _ _ _ _ (@qv _ 2 _ _ (by trivial)) zac (by rfl)) (by decide) (by rfl) (by rfl)) zac (by rfl)) (by rfl)) (by rfl)))) (@zal _ _ 8 _ scLw.nd rfl (.inl rfl) (by trivial)) (@zae _ _ _ _ _ (@zaw _ _ 9 _ _ _ _ scLw.nd rfl (.inl rfl) (@zdY _ _ _ _ _ _ _ _ (@zaE _ _ _ _ _ _ _ _ (zmE hr.units) (@qv _ 8 _ _ (by trivial)) (@qv _ 5 _ _ (by trivial)) (zaQ _)) (@qv _ 6 _ _ (by trivial)) (@zaj _ _ _ _ _ _ _ _ _ _ _ _ _ _ _ _ US.ok aD (by rfl) US.m US.kp US.b .nil zax (@zaa _ _ _ _ _ (@qv _ 2 _ _ (by trivial)) (@zaa _ _ _ _ _ (@qv _ 8 _ _ (by trivial)) zac (by rfl)) (by rfl)) (by decide) (by rfl) (by rfl))) (by rfl) (by trivial)) (@zai _ _ _ (@zbj _ _ _ _ _ _ _ _ (@zaE _ _ _ _ _ _ _ _ zb6 (@zaA _ _ _ _ _ _ _ zaS (@zaj _ _ _ _ _ _ _ _ _ _ _ _ _ _ _ _ UV.ok a5 (by rfl) UV.m UV.kp UV.b .nil zax (@zaa _ _ _ _ _ (@qv _ 8 _ _ (by trivial)) (@zaa _ _ _ _ _ (@qv _ 9 _ _ (by trivial)) (@zaa _ _ _ _ _ zad zac (by rfl)) (by rfl)) (by rfl)) (by decide) (by rfl) (by rfl)) zad (λ_ _=>rfl)) zc8 (zaQ _)) (@zai _ _ _ (@zbN _ _ _ _ _ _ _ _ Yt rfl (@zbk _ _ _ _ _ _ rfl G.range (@zaa _ _ _ _ _ zad zac (by rfl)) (by rfl)) (@zal _ _ 10 _ scLw.nd rfl (.inl rfl) (by trivial)) (@zai _ _ _ (@zbj _ _ _ _ _ _ _ _ (@zms _ _ _ _ (@zf8 _ _ _ (@zaj _ _ _ _ _ _ _ _ _ _ _ _ _ _ _ _ UR.ok u (by rfl) UR.m UR.kp UR.b .nil zax (@zaa _ _ _ _ _ (@zaj _ _ _ _ _ _ _ _ _ _ _ _ _ _ _ _ UE.ok u (by rfl) UE.m UE.kp UE.b .nil zax (@zaa _ _ _ _ _ (@qv _ 8 _ _ (by trivial)) (@zaa _ _ _ _ _ (@zaj _ _ _ _ _ _ _ _ _ _ _ _ _ _ _ _ UT.ok aD (by rfl) UT.m UT.kp UT.b .nil zax (@zaa _ _ _ _ _ (@qv _ 2 _ _ (by trivial)) (@zaa _ _ _ _ _ (@qv _ 8 _ _ (by trivial)) (@zaa _ _ _ _ _ (@qv _ 9 _ _ (by trivial)) zac (by rfl)) (by rfl)) (by rfl)) (by decide) (by rfl) (by rfl)) zac (by rfl)) (by rfl)) (by decide) (by rfl) (by rfl)) zac (by rfl)) (by decide) (by rfl) (by rfl)) (λ_=>rfl))) (@zai _ _ _ (@zav _ _ _ _ zjM)) zaM)) (by intro _;rfl))) zaM))) (by intro _;rfl)))))))))) (by intro _;rfl)) (@zai _ _ _ (@zav _ _ _ _ zjM))),?_⟩
 have ml:(ns.map V.int).length=ns.length:=Jq _
 refine⟨_,rfl,a,_,rfl,.inl hS,_,_,rfl,_,_,rfl,?_⟩
 rw[ml]
 have e6:(if (if (6:Int)<(ns.length:Nat) then (6:Int) else (ns.length:Nat)) > 1 then (if (6:Int)<(ns.length:Nat) then (6:Int) else (ns.length:Nat)) else 1)<=6/\(1:Int)<=(if (if (6:Int)<(ns.length:Nat) then (6:Int) else (ns.length:Nat)) > 1 then (if (6:Int)<(ns.length:Nat) then (6:Int) else (ns.length:Nat)) else 1):=by
  split<;>split at *<;>lia
 refine⟨_,rfl,by lia,by lia,?_⟩
 generalize (if (if (6:Int)<(ns.length:Nat) then (6:Int) else (ns.length:Nat)) > 1 then (if (6:Int)<(ns.length:Nat) then (6:Int) else (ns.length:Nat)) else 1)=cnt at e6
 refine zbS (lo:=0) (n:=cnt.toNat) (λi σ H2=>(∃ v1 v2 v3 v4 v5 v6 v7 v8 v9 v10,σ=[some (.ref a),v1,v2,v3,v4,v5,v6,v7,v8,v9,v10])/\Scr K a (ns.map V.int) H2/\TabQ qV Pt H2) ⟨⟨_,_,_,_,_,_,_,_,_,_,rfl⟩,Scr.of hS,tab⟩ ?_ ?_
 ·rintro i σ H2 hi ⟨⟨v1,v2,v3,v4,v5,v6,v7,v8,v9,v10,rfl⟩,scr,tab⟩
  have i6:i<6:=by lia
  refine⟨_,rfl,_,rfl,a,ns,_,rfl,scr.sq,br,by lia,by lia,λl H3 hl s3 S3=>?_⟩
  have aC:LE K a l Pt (ns.map V.int) H3:=⟨S3,tab.same s3,scr.keep λo e _=>.inr (s3 _ _ e),by
   rcases scr with z|⟨o,z⟩|z
   ·exact .inl (zaf z hl)
   ·exact .inl (zaf z hl)
   ·exact .inr z⟩
  clear scr tab s3 hl S3
  refine⟨_,rfl,l,3,rfl,by decide,by decide,aC.S,λsz H4 hz S4 B4=>?_⟩
  refine⟨_,rfl,l,3,rfl,by decide,by decide,S4,λway H5 hw S5 B5=>?_⟩
  have a0:=(aC.pick S4 B4).pick S5 B5
  clear S4 B4 S5 B5 aC
  refine⟨_,rfl,_,rfl,way,sz,rfl,by lia,λr fr er ps H6 s6 aZ=>?_⟩
  have bn:=a0.same s6
  clear a0 s6
  have okN:(za2 way sz).Ok:=zfx (by lia)
  have aK:=zba way sz
  have l1:=okN.l1
  have l16:=okN.l16
  refine⟨_,rfl,r,_,_,_,rfl,rfl,SqT.of aZ.net,rfl,(za2 way sz).lanes,rfl,by lia,λt1 bo=>?_⟩
  have s7:=zab bo (.tup (nums (List.range (za2 way sz).lanes)))
  refine⟨(by show 1<=sizeLine;decide),λt2 a4=>?_⟩
  have s8:=zab a4 (.tup [.int 0])
  refine⟨(by show 2<=sizeLine;decide),λl5 a6=>?_⟩
  have s9:=zab a6 (.lst [.ref t1,.ref t2])
  have u9:=(s7.trans s8).trans s9
  have h1:=s9 _ _ (s8 _ _ (show L2.upd H6 t1 (if false=true then HO.lst (L2.upTo (za2 way sz).lanes) else HO.tup (L2.upTo (za2 way sz).lanes)) t1=some (.tup (nums (List.range (za2 way sz).lanes))) from zag))
  have h2:=s9 _ _ (zao a4 (.tup [.int 0]))
  have O:=bn.same u9
  have ar:=aZ.tups (Tups.of u9)
  refine⟨_,rfl,rfl,.inr ⟨_,rfl,?_⟩⟩
  obtain⟨p,ep,hp⟩:∃ p,atI [V.ref t1,V.ref t2] (if decide (V.int (way:Nat)=V.int 1)=true then 1 else 0)=some (.ref p)/\L2.upd (L2.upd (L2.upd H6 t1 (if false=true then HO.lst (L2.upTo (za2 way sz).lanes) else HO.tup (L2.upTo (za2 way sz).lanes))) t2 (.tup [.int 0])) l5 (.lst [.ref t1,.ref t2]) p=some (.tup (nums (ze8 way sz))):=by
   by_cases z:way=1
   ·subst z
    exact⟨t2,rfl,h2⟩
   ·refine⟨t1,?_,?_⟩
    ·rw[Jv λy=>z (by have:=V.int.inj y;lia)];rfl
    ·unfold ze8
     rw[Jb z,<- aK];exact h1
  refine⟨l5,_,_,_,rfl,rfl,SqL.of (zao a6 _),ep,?_⟩
  have ln:=zjt way sz
  have bG:=ln.len
  generalize hH:L2.upd (L2.upd (L2.upd H6 t1 (if false=true then HO.lst (L2.upTo (za2 way sz).lanes) else HO.tup (L2.upTo (za2 way sz).lanes))) t2 (.tup [.int 0])) l5 (.lst [.ref t1,.ref t2])=H9 at hp O ar
  clear u9 s7 s8 s9 h1 h2 ep hH
  refine⟨_,rfl,_,rfl,r,fr,er,ps,za2 way sz,p,ze8 way sz,4000,rfl,okN,ar,hp,ln.lt,by lia,by decide,by decide,O.tab,λq bS aH W tell=>?_⟩
  have I:=O.ver W aH
  have az:=zf1 O.tab aH
  have S:=ar.tups az
  have am:=az _ _ hp
  obtain⟨word,wv,hq,wi⟩:=zen tell
  rw[wi.mpr (zka way (by lia) sz (by lia))]at hq
  clear tell wi az aH W ar hp O
  refine⟨q,_,_,_,rfl,rfl,SqT.of hq,rfl,rfl,false,?_,iteF ?_⟩
  ·show V.bl (!decide (V.str "stair" = V.str "stair"))=V.bl false
   rw[JE rfl];rfl
  refine⟨_,rfl,_,rfl,l,3,rfl,by decide,by decide,I.S,λw2 bR bH ba aG=>?_⟩
  have ah:=I.pick ba aG
  have aT:=aG.tups3 I.S
  refine⟨_,rfl,w2,sz,rfl,by lia,λr2 bu bw bh bQ aB ad=>?_⟩
  have C:=ah.same aB
  obtain⟨m1,m2⟩:=zd5 w2 (show sz<3 by lia)
  obtain⟨m3,m4⟩:=zd5 way (show sz<3 by lia)
  refine⟨l,r2,bu,bw,bh,_,4,8,rfl,C.S,⟨zfx (by lia),m2,m1⟩,by decide,ad,λr3 bt bv bg N3 bP U ai ab a9 aF=>?_⟩
  have ag:=C.pick a9 aF
  have ay:=(aT.trans (Tups.of aB)).trans (aF.tups3 C.S)
  have bJ:=U.fk
  refine⟨_,rfl,r3,bt,bv,bg,N3,r,fr,er,ps,_,rfl,U.ok,ab,okN,S.tups ay,by rw[ai,zba,zba],by lia,λro fo eo po bO aA aX=>?_⟩
  have B:=ag.same aA
  have aS:=ay.trans (Tups.of aA)
  have bi:(zfS N3 (za2 way sz)).Ok:=zjm U.ok okN (by rw[ai,zba,zba]) (by lia)
  refine⟨_,rfl,_,rfl,_,rfl,l,rfl,B.S,λr4 bI bK bE N4 bB aO aa a8 aE=>⟨by show 3<=sizeLine;decide,λt3 a3=>?_⟩⟩
  have af:=B.pick a8 aE
  have ax:=aE.tups3 B.S
  have N:=zab a3 (.tup [.ref r,.ref ro,.ref r4])
  have aJ:=af.same N
  have av:=(aS.trans ax).trans (Tups.of N)
  have aY:=S.tups av
  have aN:=av _ _ am
  have ap:=aX.tups (ax.trans (Tups.of N))
  have bl:=aa.tups (Tups.of N)
  have a7:=zao a3 (.tup [.ref r,.ref ro,.ref r4])
  refine⟨t3,rfl,⟨_,SqT.of a7⟩,?_⟩
  generalize L2.upd bB t3 (.tup [.ref r,.ref ro,.ref r4])=H16 at *
  clear av ax aS ay aT N aA aB ad ab aa aX S am ba a9 a8 aG aF aE I ah C ag B af hq
  refine zfI (K:=K) (a:=t3) (xs:=[.ref r,.ref ro,.ref r4]) (λj σ H'=>(∃ v8 v9 v10,σ=[some (.ref a),some (.int (0+(i:Nat))),some (.ref l),some (.int (sz:Nat)),some (.int (way:Nat)),some (.ref r),some (.ref p),some (.ref ro),v8,v9,v10])/\LE K a l Pt (ns.map V.int) H'/\Tups H16 H') ⟨⟨_,_,_,rfl⟩,aJ,λ_ _ e=>e⟩ (λj σ H' _ z=>SqT.of (z.2.2 _ _ a7)) ?_ ?_
  ·rintro j x σ bb hx ⟨⟨v8,v9,v10,rfl⟩,b,M⟩
   obtain⟨Z,fx,ex,px,Nx,rfl,g,bj⟩:∃ Z fx ex px Nx,x=.ref Z/\Nt.Ok Nx/\NetAt H16 Z fx ex px Nx:=by
    have hm:=JP hx
    rcases Jt.mp hm with z|hm
    ·exact⟨_,_,_,_,_,z,okN,aY⟩
    rcases Jt.mp hm with z|hm
    ·exact⟨_,_,_,_,_,z,bi,ap⟩
    ·exact⟨_,_,_,_,_,Je.mp hm,aO.ok,bl⟩
   have v:=bj.tups M
   have aq:=aY.tups M
   have aM:=M _ _ aN
   have bD:=g.l16
   have bF:=g.l1
   refine znA ?_
   refine zle (λσ R=>∃ d moves,σ=[some (.ref a),some (.int (0+(i:Nat))),some (.ref l),some (.int (sz:Nat)),some (.int (way:Nat)),some (.ref r),some (.ref p),some (.ref ro),some (.ref Z),some (.ref d),v10]/\Lns Nx.lanes moves/\R d=some (.tup (nums moves))/\LE K a l Pt (ns.map V.int) R/\Tups bb R) ?_ λD aW _=>?_
   rotate_left
   ·refine⟨_,rfl,_,rfl,3,_,_,by decide,zkW v,zkW aq,_,rfl,ite2 (λy=>?_) (λ_=>?_)⟩
    ·have e:Nx=za2 way sz:=zl2 y
     exact⟨_,rfl,aW _ _ ⟨p,ze8 way sz,rfl,by rw[e];exact ln,aM,b,λ_ _ e=>e⟩⟩
    ·exact⟨_,rfl,_,rfl,l,Z,fx,ex,px,Nx,rfl,b.S,g,v,λd moves R ln2 bp bz bf=>aW _ _ ⟨d,moves,rfl,ln2,bp,b.pick bz bf,bf.tups3 b.S⟩⟩
   rintro σ R ⟨d,moves,rfl,ln2,ak,T,aR⟩
   have bC:=ln2.len
   have Y:=v.tups aR
   refine⟨_,rfl,_,rfl,Z,fx,ex,px,Nx,d,moves,4000,rfl,g,Y,ak,ln2.lt,by lia,by decide,by decide,T.tab,λq bA be ao tell=>?_⟩
   have ae:=T.ver ao be
   have aw:=zf1 T.tab be
   have X:=Y.tups aw
   have aL:=aw _ _ ak
   have aP:=(M.trans aR).trans aw
   obtain⟨word,wv,hq,wi⟩:=zen tell
   refine⟨q,_,_,_,rfl,rfl,SqT.of hq,rfl,rfl,_,rfl,ite2 (λy=>?_) (λ_=>⟨⟨_,_,_,rfl⟩,ae,aP⟩)⟩
   have whl:=wi.mp (V.str.inj (Z3 y))
   refine⟨_,rfl,by decide,by decide,?_⟩
   refine zbS (lo:=0) (n:=12) (λm σ au=>(∃ v10,σ=[some (.ref a),some (.int (0+(i:Nat))),some (.ref l),some (.int (sz:Nat)),some (.int (way:Nat)),some (.ref r),some (.ref p),some (.ref ro),some (.ref Z),some (.ref d),v10])/\LE K a l Pt (ns.map V.int) au/\Tups bA au) ⟨⟨_,rfl⟩,ae,λ_ _ e=>e⟩ ?_ ?_
   ·rintro m σ au hm ⟨⟨v10,rfl⟩,t,L⟩
    refine⟨_,rfl,_,rfl,_,rfl,_,rfl,l,Z,fx,ex,px,Nx,d,moves,rfl,t.S,g,X.tups L,L _ _ aL,λc cs bN cl oth hc bx bc=>?_⟩
    have aI:=t.pick bx bc
    have aQ:=L.trans (bc.tups3 t.S)
    refine⟨Z,fx,ex,px,Nx,c,cs,rfl,g,X.tups aQ,hc,cl,λpe bM aV he=>?_⟩
    have el:=zcu g cs
    refine⟨pe,_,rfl,he,by lia,by lia,λbL aU=>?_⟩
    rw[zhh g ln2.lt whl cl oth]
    exact⟨true,rfl,iteF ⟨⟨_,rfl⟩,(aI.same aV).same aU,(aQ.trans (Tups.of aV)).trans (Tups.of aU)⟩⟩
   ·rintro σ au ⟨⟨v10,rfl⟩,t,L⟩
    exact⟨⟨_,_,_,rfl⟩,t,aP.trans L⟩
  ·rintro σ bb ⟨⟨v8,v9,v10,rfl⟩,b,M⟩
   exact⟨⟨_,_,_,_,_,_,_,_,_,_,rfl⟩,b.scr,b.tab⟩
 ·rintro σ H2 _
  exact k H2
end
structure FnAt (K:PySem.W.Frag) (x:Str) (st:Stmt) (f:Addr) (fd:FuncData):Prop where
 ns:PySem.W.nsIn K mainGlobals x=some (some (.ref f))
 fn:Fun K x x st f fd
theorem za8 {K:PySem.W.Frag}{x:Str}{st:Stmt}{f:Addr}{oc:Value}{od an:Option Addr}{osl:Array (Option Value)}{kV doc pm cdv ct:Value}(a:PySem.W.nsIn K mainGlobals x=some (some (.ref f)))
  (l:K.lookup f=some ⟨oc,od,.func (PySem.W.fnOf x x (zbL st) (zbf st) (zam st) .none kV doc pm an cdv ct),osl⟩) (c:PySem.W.codeIn K cdv x=true) (k:PySem.W.keepIn K (.ref f)=true):FnAt K x st f (PySem.W.fnOf x x (zbL st) (zbf st) (zam st) .none kV doc pm an cdv ct):=⟨a,zmX l c k⟩
structure FnAtC (K:PySem.W.Frag) (x:Str) (st:Stmt) (f:Addr) (fd:FuncData) (c:Addr):Prop where
 ns:PySem.W.nsIn K mainGlobals x=some (some (.ref f))
 fn:FunC K x x st f fd c
theorem zmZ {K:PySem.W.Frag}{x:Str}{st:Stmt}{f c:Addr}{oc:Value}{od an:Option Addr}{osl:Array (Option Value)}{kV doc pm ct:Value}(a:PySem.W.nsIn K mainGlobals x=some (some (.ref f)))
  (l:K.lookup f=some ⟨oc,od,.func (PySem.W.fnOf x x (zbL st) (zbf st) (zam st) .none kV doc pm an (.ref c) ct),osl⟩) (cd:PySem.W.codeIn K (.ref c) x=true) (k:PySem.W.keepIn K (.ref f)=true):FnAtC K x st f (PySem.W.fnOf x x (zbL st) (zbf st) (zam st) .none kV doc pm an (.ref c) ct) c:=⟨a,⟨⟨_,_,_,_,_,_,_,_,rfl,l,cd⟩,k⟩⟩
theorem _root_.L2.FunC.fun {K:PySem.W.Frag}{x qual:Str}{st:Stmt}{f:Addr}{fd:FuncData}{c:Addr}(F:FunC K x qual st f fd c):Fun K x qual st f fd:=by
 obtain⟨oc,od,kV,doc,pm,an,ct,osl,e,l,q⟩:=F.ex
 exact⟨⟨oc,od,kV,doc,pm,an,.ref c,ct,osl,e,l,q⟩,F.kp⟩
theorem zi7 {K:PySem.W.Frag}{c P:Addr}{od:Option Addr}{vs:Array Value}{osl:Array (Option Value)}(l:K.lookup c=some ⟨.type "code",od,.fields vs,osl⟩) (e:PySem.W.codeHdIn [(c,⟨.type "code",od,.fields vs,osl⟩)] c P=true):PySem.W.codeHdIn K c P=true:=by
 have q:List.lookup c [(c,(⟨.type "code",od,.fields vs,osl⟩:Obj))]=some ⟨.type "code",od,.fields vs,osl⟩:=by rw[Yz,Zx]
 unfold PySem.W.codeHdIn at e ⊢
 rw[q]at e
 rw[l];exact e
theorem us1 {us:List Value}(h:us.length=1):∃ a,us=[a]:=by
 match us,h with
 | [a],_=>exact⟨a,rfl⟩
theorem us2 {us:List Value}(h:us.length=2):∃ b a,us=[b,a]:=by
 match us,h with
 | [b,a],_=>exact⟨b,a,rfl⟩
theorem us3 {us:List Value}(h:us.length=3):∃ c b a,us=[c,b,a]:=by
 match us,h with
 | [c,b,a],_=>exact⟨c,b,a,rfl⟩
theorem us4 {us:List Value}(h:us.length=4):∃ c b a u3,us=[c,b,a,u3]:=by
 match us,h with
 | [c,b,a,u3],_=>exact⟨c,b,a,u3,rfl⟩
theorem us5 {us:List Value}(h:us.length=5):∃ d c b u3 a,us=[d,c,b,u3,a]:=by
 match us,h with
 | [d,c,b,u3,a],_=>exact⟨d,c,b,u3,a,rfl⟩
set_option maxHeartbeats 4000001 in
theorem zm6 {l:PySem.W.OpenLaw}{w:World}{K:PySem.W.Frag}{h:Heap}{mg:Str->Option Value}{fa f1 f2 f3 f4 f5 f6 f7 f8 f9 ai be ah ag af ae ad ab aa Z Y W V U T S R Q P bc:Addr}{d1 d2 d3 d4 d5 d6 d7 d8 d9 aF bf aE aD aC aB aA az ay ax aw av au ar aq ap ao am ak aj:FuncData}(X:K.In h) (G:h.Ns mainGlobals mg) (bb:mg "law" = some (.ref fa))
  {g Pt:Addr}
  (A1:FnAt K "end_of" sEnd f1 d1)
  (A2:FnAt K "run_through" sRun f2 d2)
  (A3:FnAt K "passed" zfi f3 d3)
  (A4:FnAt K "given_at" zhP f4 d4)
  (A5:FnAt K "added" zhR f5 d5)
  (A6:FnAt K "first_turns" zfk f6 d6)
  (A7:FnAt K "first_pair" zfl f7 d7)
  (A8:FnAt K "pair_behind" zhL f8 d8)
  (A9:FnAt K "next_level" sNxl f9 d9)
  (F:FnAt K "climbed" sClm ai aF)
  (E:FnAt K "book_of" zlk be bf)
  (D:FnAtC K "verdict" zhH ah aE g)
  (C:FnAt K "_law_left" zli ag aD)
  (B:FnAt K "_law_pick" zlf af aC)
  (A:FnAt K "_law_mixed" zhN ae aB)
  (z:FnAt K "_law_merger" zhM ad aA)
  (y:FnAt K "_law_stairway" zhJ ab az)
  (x:FnAt K "_law_block" zhQ aa ay)
  (u:FnAt K "_law_tree" zhI Z ax)
  (t:FnAt K "_law_made" zlh Y aw)
  (r:FnAt K "_law_any" zll W av)
  (q:FnAt K "_law_changed" sChg V au)
  (o:FnAt K "_law_net" zlg U ar)
  (n:FnAt K "_law_some" zhK T aq)
  (m:FnAt K "_law_ends" zhO S ap)
  (k:FnAt K "_law_stair" zfj R ao)
  (j:FnAt K "_law_counts" zlj Q am)
  (i:FnAt K "_law_behind" sBhS P ak)
  (I:FnAt K "law" sLaw bc aj)
  (z1:PySem.W.nsIn K mainGlobals "len" = some none)
  (z2:PySem.W.nsIn K mainGlobals "range" = some none)
  (z3:PySem.W.nsIn K mainGlobals "tuple" = some none)
  (z4:PySem.W.nsIn K mainGlobals "enumerate" = some none)
  (z5:PySem.W.nsIn K mainGlobals "abs" = some none)
  (z6:PySem.W.nsIn K mainGlobals "zip" = some none)
  (z7:PySem.W.nsIn K mainGlobals "isinstance" = some none)
  (z8:PySem.W.nsIn K mainGlobals "all" = some none)
  (z9:PySem.W.nsIn K mainGlobals "sum" = some none)
  (aS:PySem.W.nsIn K mainGlobals "bool" = some none)
  (aR:PySem.W.nsIn K mainGlobals "int" = some none)
  (aQ:PySem.W.nsIn K mainGlobals "str" = some none)
  (aP:PySem.W.nsIn K mainGlobals "max" = some none)
  (aO:PySem.W.nsIn K mainGlobals "min" = some none)
  (aN:PySem.W.nsIn K mainGlobals "sorted" = some none)
  (aM:PySem.W.nsIn K mainGlobals "list" = some none)
  (cH:PySem.W.codeHdIn K g Pt=true) (aT:mainGlobals≠Pt) (kP:K.lookup Pt=none)
  : (K.lookup Pt=none/\∃ c,PySem.W.codeHdIn K c Pt=true)/\∃ fd:FuncData,(∀ (s:Shared) (v:Value),BindsTo s fd ⟨[v],[]⟩ [("_law_script",v)])/\∀ base:Heap,K.In base->base.Ns mainGlobals mg->(∀ p∈[Pt],base.BuiltinsAt mg p)->FnOk l.prog w K mg base CX0 13 fa fd ["_law_script"] (zjx K Pt):=by
 have e:=bb.symm.trans (JS X G I.ns)
 cases e
 have M:Mgs mg:=⟨Y1 X G z1,Y1 X G z2,Y1 X G z3,Y1 X G z4,Y1 X G z5,Y1 X G z6,Y1 X G z7,Y1 X G z8,Y1 X G z9,Y1 X G aS,Y1 X G aR,Y1 X G aQ,Y1 X G aP,Y1 X G aO,Y1 X G aN,Y1 X G aM⟩
 have b1:=A1.fn.binds (ps:=["net","lane"]) λ_ _ _ _ _ _ us a=>by obtain⟨b,d,rfl⟩:=us2 a;rfl
 have m1:=JS X G A1.ns
 have b2:=A2.fn.binds (ps:=["net","turns","lane","back"]) λ_ _ _ _ _ _ us a=>by obtain⟨b,d,H,u3,rfl⟩:=us4 a;rfl
 have m2:=JS X G A2.ns
 have b3:=A3.fn.binds (ps:=["net","turns","lane"]) λ_ _ _ _ _ _ us a=>by obtain⟨b,d,H,rfl⟩:=us3 a;rfl
 have m3:=JS X G A3.ns
 have b4:=A4.fn.binds (ps:=["row","place","value"]) λ_ _ _ _ _ _ us a=>by obtain⟨b,d,H,rfl⟩:=us3 a;rfl
 have m4:=JS X G A4.ns
 have b5:=A5.fn.binds (ps:=["counts","place","many"]) λ_ _ _ _ _ _ us a=>by obtain⟨b,d,H,rfl⟩:=us3 a;rfl
 have m5:=JS X G A5.ns
 have b6:=A6.fn.binds (ps:=["net"]) λ_ _ _ _ _ _ us a=>by obtain⟨b,rfl⟩:=us1 a;rfl
 have m6:=JS X G A6.ns
 have b7:=A7.fn.binds (ps:=["net"]) λ_ _ _ _ _ _ us a=>by obtain⟨b,rfl⟩:=us1 a;rfl
 have m7:=JS X G A7.ns
 have b8:=A8.fn.binds (ps:=["net","pair","lane"]) λ_ _ _ _ _ _ us a=>by obtain⟨b,d,H,rfl⟩:=us3 a;rfl
 have m8:=JS X G A8.ns
 have b9:=A9.fn.binds (ps:=["level","seen","moves","led"]) λ_ _ _ _ _ _ us a=>by obtain⟨b,d,H,u3,rfl⟩:=us4 a;rfl
 have m9:=JS X G A9.ns
 have bx:=F.fn.binds (ps:=["first","counts","moves","led","most"]) λ_ _ _ _ _ _ us a=>by obtain⟨b,d,H,u3,u4,rfl⟩:=us5 a;rfl
 have ba:=JS X G F.ns
 have bw:=E.fn.binds (ps:=["levels"]) λ_ _ _ _ _ _ us a=>by obtain⟨b,rfl⟩:=us1 a;rfl
 have a9:=JS X G E.ns
 have bv:=D.fn.fun.binds (ps:=["net","some","most"]) λ_ _ _ _ _ _ us a=>by obtain⟨b,d,H,rfl⟩:=us3 a;rfl
 have a8:=JS X G D.ns
 have bu:=C.fn.binds (ps:=["_law_script","_law_k"]) λ_ _ _ _ _ _ us a=>by obtain⟨b,d,rfl⟩:=us2 a;rfl
 have a7:=JS X G C.ns
 have bt:=B.fn.binds (ps:=["_law_left_here","_law_many"]) λ_ _ _ _ _ _ us a=>by obtain⟨b,d,rfl⟩:=us2 a;rfl
 have a6:=JS X G B.ns
 have br:=A.fn.binds (ps:=["_law_left_here","_law_row"]) λ_ _ _ _ _ _ us a=>by obtain⟨b,d,rfl⟩:=us2 a;rfl
 have a5:=JS X G A.ns
 have aJ:=z.fn.binds (ps:=["_law_one","_law_other"]) λ_ _ _ _ _ _ us a=>by obtain⟨b,d,rfl⟩:=us2 a;rfl
 have O:=JS X G z.ns
 have aI:=y.fn.binds (ps:=["_law_row"]) λ_ _ _ _ _ _ us a=>by obtain⟨b,rfl⟩:=us1 a;rfl
 have N:=JS X G y.ns
 have aH:=x.fn.binds (ps:=["_law_row"]) λ_ _ _ _ _ _ us a=>by obtain⟨b,rfl⟩:=us1 a;rfl
 have L:=JS X G x.ns
 have aG:=u.fn.binds (ps:=["_law_row"]) λ_ _ _ _ _ _ us a=>by obtain⟨b,rfl⟩:=us1 a;rfl
 have J:=JS X G u.ns
 have bq:=t.fn.binds (ps:=["_law_way","_law_k"]) λ_ _ _ _ _ _ us a=>by obtain⟨b,d,rfl⟩:=us2 a;rfl
 have a4:=JS X G t.ns
 have bp:=r.fn.binds (ps:=["_law_left_here"]) λ_ _ _ _ _ _ us a=>by obtain⟨b,rfl⟩:=us1 a;rfl
 have a3:=JS X G r.ns
 have bo:=q.fn.binds (ps:=["_law_left_here","_law_net_here"]) λ_ _ _ _ _ _ us a=>by obtain⟨b,d,rfl⟩:=us2 a;rfl
 have a0:=JS X G q.ns
 have bn:=o.fn.binds (ps:=["_law_left_here"]) λ_ _ _ _ _ _ us a=>by obtain⟨b,rfl⟩:=us1 a;rfl
 have aZ:=JS X G o.ns
 have bl:=n.fn.binds (ps:=["_law_left_here","_law_net_here"]) λ_ _ _ _ _ _ us a=>by obtain⟨b,d,rfl⟩:=us2 a;rfl
 have aY:=JS X G n.ns
 have bj:=m.fn.binds (ps:=["_law_net_here","_law_counts_here"]) λ_ _ _ _ _ _ us a=>by obtain⟨b,d,rfl⟩:=us2 a;rfl
 have aX:=JS X G m.ns
 have bi:=k.fn.binds (ps:=["_law_counts_here"]) λ_ _ _ _ _ _ us a=>by obtain⟨b,rfl⟩:=us1 a;rfl
 have aW:=JS X G k.ns
 have bh:=j.fn.binds (ps:=["_law_left_here","_law_net_here","_law_some_here"]) λ_ _ _ _ _ _ us a=>by obtain⟨b,d,H,rfl⟩:=us3 a;rfl
 have aV:=JS X G j.ns
 have bg:=i.fn.binds (ps:=["_law_net_here","_law_other"]) λ_ _ _ _ _ _ us a=>by obtain⟨b,d,rfl⟩:=us2 a;rfl
 have aU:=JS X G i.ns
 obtain⟨oc,od,kV,doc,pm,an,cdv,ct,osl,ed,_,_⟩:=id I.fn.ex
 refine⟨⟨kP,g,cH⟩,aj,λs v=>by rw[ed];exact .of_eq rfl,λbase _ _ bB=>?_⟩
 have CK:CodeK K mg base g Pt:=⟨cH,bB Pt (.head _),aT⟩
 have U1:Use l.prog w K mg base "end_of" ["net","lane"] 1 zk9 f1 d1:=⟨zmI A1.fn,b1,A1.fn.kp,m1⟩
 have U2:Use l.prog w K mg base "run_through" ["net","turns","lane","back"] 2 zk8 f2 d2:=⟨zmG A2.fn M U1,b2,A2.fn.kp,m2⟩
 have U3:Use l.prog w K mg base "passed" ["net","turns","lane"] 3 (zhw false) f3 d3:=⟨zib A3.fn U2,b3,A3.fn.kp,m3⟩
 have U4:Use l.prog w K mg base "given_at" ["row","place","value"] 1 zff f4 d4:=⟨zjW A4.fn M,b4,A4.fn.kp,m4⟩
 have U5:Use l.prog w K mg base "added" ["counts","place","many"] 2 zfh f5 d5:=⟨zjX A5.fn M U4,b5,A5.fn.kp,m5⟩
 have U6:Use l.prog w K mg base "first_turns" ["net"] 1 zdQ f6 d6:=⟨zif A6.fn M,b6,A6.fn.kp,m6⟩
 have U7:Use l.prog w K mg base "first_pair" ["net"] 2 zdR f7 d7:=⟨zig A7.fn U6,b7,A7.fn.kp,m7⟩
 have U8:Use l.prog w K mg base "pair_behind" ["net","pair","lane"] 4 zdP f8 d8:=⟨zjT A8.fn U3,b8,A8.fn.kp,m8⟩
 have U9:Use l.prog w K mg base "next_level" ["level","seen","moves","led"] 6 (zhx l.prog w K (lamV qV) ["net"] zcG) f9 d9:=⟨zlA A9.fn M U5 (zkj qV U8),b9,A9.fn.kp,m9⟩
 have bO:Use l.prog w K mg base "climbed" ["first","counts","moves","led","most"] 7 (zfg l.prog w K (lamV qV) ["net"] zcG) ai aF:=⟨zgX F.fn M U9,bx,F.fn.kp,ba⟩
 have bN:Use l.prog w K mg base "verdict" ["net","some","most"] 8 (zfb qV Pt) ah aE:=⟨zgW D.fn CK bO U7 (λF0=>⟨zlF F0 1 E.fn M,bw,E.fn.kp,a9⟩),bv,D.fn.kp,a8⟩
 have bM:Use l.prog w K mg base "_law_left" ["_law_script","_law_k"] 1 (zfe K) ag aD:=⟨zlD C.fn M,bu,C.fn.kp,a7⟩
 have f:Use l.prog w K mg base "_law_pick" ["_law_left_here","_law_many"] 1 zbF af aC:=⟨zlz B.fn,bt,B.fn.kp,a6⟩
 have bL:Use l.prog w K mg base "_law_mixed" ["_law_left_here","_law_row"] 2 zfd ae aB:=⟨zjU A.fn M f,br,A.fn.kp,a5⟩
 have bK:Use l.prog w K mg base "_law_merger" ["_law_one","_law_other"] 5 zce ad aA:=⟨zid z.fn M aJ O,aJ,z.fn.kp,O⟩
 have bJ:Use l.prog w K mg base "_law_stairway" ["_law_row"] 10 zdN ab az:=⟨zia y.fn M bK aI N,aI,y.fn.kp,N⟩
 have bI:Use l.prog w K mg base "_law_block" ["_law_row"] 5 zdS aa ay:=⟨zii x.fn M aH L,aH,x.fn.kp,L⟩
 have bH:Use l.prog w K mg base "_law_tree" ["_law_row"] 5 zdM Z ax:=⟨zh8 u.fn M aG J,aG,u.fn.kp,J⟩
 have aL:Use l.prog w K mg base "_law_made" ["_law_way","_law_k"] 11 zf3 Y aw:=⟨zlC t.fn M bI bJ bH,bq,t.fn.kp,a4⟩
 have bG:Use l.prog w K mg base "_law_any" ["_law_left_here"] 3 zhC W av:=⟨zlG r.fn M f bL,bp,r.fn.kp,a3⟩
 have aK:Use l.prog w K mg base "_law_changed" ["_law_left_here","_law_net_here"] 2 zjy V au:=⟨zmJ q.fn M f,bo,q.fn.kp,a0⟩
 have bF:Use l.prog w K mg base "_law_net" ["_law_left_here"] 12 zhy U ar:=⟨zlB o.fn M f bG aL aK,bn,o.fn.kp,aZ⟩
 have bE:Use l.prog w K mg base "_law_some" ["_law_left_here","_law_net_here"] 2 zfc T aq:=⟨zjS n.fn M f,bl,n.fn.kp,aY⟩
 have bD:Use l.prog w K mg base "_law_ends" ["_law_net_here","_law_counts_here"] 1 zhz S ap:=⟨zjV m.fn M,bj,m.fn.kp,aX⟩
 have bC:Use l.prog w K mg base "_law_stair" ["_law_counts_here"] 1 zdO R ao:=⟨zie k.fn M,bi,k.fn.kp,aW⟩
 have bA:Use l.prog w K mg base "_law_counts" ["_law_left_here","_law_net_here","_law_some_here"] 2 zhA Q am:=⟨zlE j.fn M f,bh,j.fn.kp,aV⟩
 have bz:Use l.prog w K mg base "_law_behind" ["_law_net_here","_law_other"] 1 zla P ak:=⟨zmK i.fn M,bg,i.fn.kp,aU⟩
 exact zmH I.fn M bM f aL bF bE bN bD bC bz aK bA
theorem walk {l:PySem.W.OpenLaw}{q:Program}{loose:List Str}{y:(Str->Option Value)->Heap->Prop}{i:World->Heap->Prop}{d:DefRec}{K:Params->PySem.W.Frag}{Pt:Addr}(o:l.most=some 63) (g:d.params.defaults=[])
  (t:∀ (w:World) (h:Heap),i w h->(K w.params).In h/\∀ p∈[Pt],h.get? p=some (PySem.W.tabObj #[]))
  (F:∀ (w:World) (mg:Str->Option Value) (e:Addr) (h:Heap),(K w.params).In h->h.Ns mainGlobals mg->mg d.name=some (.ref e)->((K w.params).lookup Pt=none/\∃ c,PySem.W.codeHdIn (K w.params) c Pt=true) /\
   ∃ fd:FuncData,(∀ (s:Shared) (u:Value),BindsTo s fd ⟨[u],[]⟩ [("_law_script",u)])/\∀ base:Heap,(K w.params).In base->base.Ns mainGlobals mg->(∀ p∈[Pt],base.BuiltinsAt mg p)->FnOk l.prog w (K w.params) mg base CX0 13 e fd ["_law_script"] (zjx (K w.params) Pt)) :
  PySem.W.WalkO q loose y i l.row.toRowW d [] (λf vs=>PySem.call f vs) :=
 L2.zjr (n:=63) (k:=13) (x:="_law_script") (CX:=CX0) (sp:=λK=>zjx K Pt) [Pt] o (by decide) g ⟨rfl,by decide,by decide,rfl⟩ t (λw mg e h a b c=>⟨λp m=>Je.mp m ▸ (F w mg e h a b c).1,(F w mg e h a b c).2⟩) (λ_ _ a ns r v j=>⟨a,ns,rfl,v,r,j Pt (.head _),λ_=>rfl⟩) λ_ _ _ _ z=>z
end K35
theorem PySem.W.Fast.tw8649123067901220369:True:=trivial
theorem PySem.W.Fast.tw5298977454022310991:True:=trivial
theorem PySem.W.Fast.tw13111794205153619308:True:=trivial
theorem PySem.W.Fast.tw17094746575046489420:True:=trivial
theorem PySem.W.Fast.tw15620048613974152454:True:=trivial
theorem PySem.W.Fast.tw9139205854686975779:True:=trivial
theorem PySem.W.Fast.tw5726892713795451228:True:=trivial
theorem PySem.W.Fast.tw2701677034010586408:True:=trivial
theorem PySem.W.Fast.tw1530089103776598662:True:=trivial
theorem PySem.W.Fast.tw10817659172737080495:True:=trivial
theorem PySem.W.Fast.tw44748035555980936:True:=trivial
theorem PySem.W.Fast.tw7285390360917980030:True:=trivial
theorem PySem.W.Fast.tw8343485135236967557:True:=trivial
theorem PySem.W.Fast.tw390251595667547428:True:=trivial
theorem PySem.W.Fast.tw66164826810003962:True:=trivial
theorem PySem.W.Fast.tw2049448592550773730:True:=trivial
theorem PySem.W.Fast.tw774726743168261759:True:=trivial
theorem PySem.W.Fast.tw1613074789595630614:True:=trivial
theorem PySem.W.Fast.tw14823513142857630689:True:=trivial
theorem PySem.W.Fast.tw15892889521988386179:True:=trivial
theorem PySem.W.Fast.tw11594564799889949647:True:=trivial
theorem PySem.W.Fast.tw15548854601814604353:True:=trivial
theorem PySem.W.Fast.tw3060316645000202482:True:=trivial
theorem PySem.W.Fast.tw5406901501914577898:True:=trivial
theorem PySem.W.Fast.tw1109742094561707108:True:=trivial
theorem PySem.W.Fast.tw9201488163932215250:True:=trivial
theorem PySem.W.Fast.tw3349923667592390548:True:=trivial
theorem PySem.W.Fast.tw9379279224969129928:True:=trivial
theorem PySem.W.Fast.tw1473971122368949116:True:=trivial
theorem PySem.W.Fast.tw15602167058882022281:True:=trivial
theorem PySem.W.Fast.tw13736782070509497741:True:=trivial
theorem PySem.W.Fast.tw13724773500194447591:True:=trivial
theorem PySem.W.Fast.tw13053037994306119111:True:=trivial
theorem PySem.W.Fast.tw9351184941455656885:True:=trivial
theorem PySem.W.Fast.tw5337356527732196127:True:=trivial
theorem PySem.W.Fast.tw14759583913370584737:True:=trivial
theorem PySem.W.Fast.tw15584713318555111163:True:=trivial
theorem PySem.W.Fast.tw7869779699900743593:True:=trivial
theorem PySem.W.Fast.tw13825980394222177230:True:=trivial
open PySem PySem.W PyProof.Rows
set_option maxRecDepth 100000 in
set_option maxHeartbeats 0 in
theorem PySem.Challenge.cw_stairlanes_k35_books_hold_for_all_counts_holds : PySem.Challenge.rw_stairlanes_k35_books_hold_for_all_counts.Holds := by
 w_on;o_law;k_head;(case hw=>w_witness2)
 k_fill
 refine K35.walk (l:=PySem.Challenge.rw_stairlanes_k35_books_hold_for_all_counts) rfl rfl (fun w h Y=>⟨PySem.W.km_in_of Y,PySem.W.km_tabs_of Y⟩) ?F
 case F =>
  intro w mg fa h KX G hmg
  refine' K35.zm6 KX G hmg (K35.za8 ?a1 ?l1 ?c1 ?k1) (K35.za8 ?a2 ?l2 ?c2 ?k2) (K35.za8 ?a3 ?l3 ?c3 ?k3) (K35.za8 ?a4 ?l4 ?c4 ?k4) (K35.za8 ?a5 ?l5 ?c5 ?k5) (K35.za8 ?a6 ?l6 ?c6 ?k6) (K35.za8 ?a7 ?l7 ?c7 ?k7) (K35.za8 ?a8 ?l8 ?c8 ?k8) (K35.za8 ?a9 ?l9 ?c9 ?k9) (K35.za8 ?a10 ?l10 ?c10 ?k10) (K35.za8 ?a11 ?l11 ?c11 ?k11) (K35.zmZ ?a12 ?l12 ?c12 ?k12) (K35.za8 ?a13 ?l13 ?c13 ?k13) (K35.za8 ?a14 ?l14 ?c14 ?k14) (K35.za8 ?a15 ?l15 ?c15 ?k15) (K35.za8 ?a16 ?l16 ?c16 ?k16) (K35.za8 ?a17 ?l17 ?c17 ?k17) (K35.za8 ?a18 ?l18 ?c18 ?k18) (K35.za8 ?a19 ?l19 ?c19 ?k19) (K35.za8 ?a20 ?l20 ?c20 ?k20) (K35.za8 ?a21 ?l21 ?c21 ?k21) (K35.za8 ?a22 ?l22 ?c22 ?k22) (K35.za8 ?a23 ?l23 ?c23 ?k23) (K35.za8 ?a24 ?l24 ?c24 ?k24) (K35.za8 ?a25 ?l25 ?c25 ?k25) (K35.za8 ?a26 ?l26 ?c26 ?k26) (K35.za8 ?a27 ?l27 ?c27 ?k27) (K35.za8 ?a28 ?l28 ?c28 ?k28) (K35.za8 ?a29 ?l29 ?c29 ?k29) ?z1 ?z2 ?z3 ?z4 ?z5 ?z6 ?z7 ?z8 ?z9 ?z10 ?z11 ?z12 ?z13 ?z14 ?z15 ?z16 (K35.zi7 ?lH2 ?eH2) ?nB4 ?kP
  (case a1=>k_is);(case l1=>k_is);(case c1=>k_is);(case k1=>k_is)
  (case a2=>k_is);(case l2=>k_is);(case c2=>k_is);(case k2=>k_is)
  (case a3=>k_is);(case l3=>k_is);(case c3=>k_is);(case k3=>k_is)
  (case a4=>k_is);(case l4=>k_is);(case c4=>k_is);(case k4=>k_is)
  (case a5=>k_is);(case l5=>k_is);(case c5=>k_is);(case k5=>k_is)
  (case a6=>k_is);(case l6=>k_is);(case c6=>k_is);(case k6=>k_is)
  (case a7=>k_is);(case l7=>k_is);(case c7=>k_is);(case k7=>k_is)
  (case a8=>k_is);(case l8=>k_is);(case c8=>k_is);(case k8=>k_is)
  (case a9=>k_is);(case l9=>k_is);(case c9=>k_is);(case k9=>k_is)
  (case a10=>k_is);(case l10=>k_is);(case c10=>k_is);(case k10=>k_is)
  (case a11=>k_is);(case l11=>k_is);(case c11=>k_is);(case k11=>k_is)
  (case a12=>k_is);(case l12=>k_is);(case c12=>k_is);(case k12=>k_is)
  (case a13=>k_is);(case l13=>k_is);(case c13=>k_is);(case k13=>k_is)
  (case a14=>k_is);(case l14=>k_is);(case c14=>k_is);(case k14=>k_is)
  (case a15=>k_is);(case l15=>k_is);(case c15=>k_is);(case k15=>k_is)
  (case a16=>k_is);(case l16=>k_is);(case c16=>k_is);(case k16=>k_is)
  (case a17=>k_is);(case l17=>k_is);(case c17=>k_is);(case k17=>k_is)
  (case a18=>k_is);(case l18=>k_is);(case c18=>k_is);(case k18=>k_is)
  (case a19=>k_is);(case l19=>k_is);(case c19=>k_is);(case k19=>k_is)
  (case a20=>k_is);(case l20=>k_is);(case c20=>k_is);(case k20=>k_is)
  (case a21=>k_is);(case l21=>k_is);(case c21=>k_is);(case k21=>k_is)
  (case a22=>k_is);(case l22=>k_is);(case c22=>k_is);(case k22=>k_is)
  (case a23=>k_is);(case l23=>k_is);(case c23=>k_is);(case k23=>k_is)
  (case a24=>k_is);(case l24=>k_is);(case c24=>k_is);(case k24=>k_is)
  (case a25=>k_is);(case l25=>k_is);(case c25=>k_is);(case k25=>k_is)
  (case a26=>k_is);(case l26=>k_is);(case c26=>k_is);(case k26=>k_is)
  (case a27=>k_is);(case l27=>k_is);(case c27=>k_is);(case k27=>k_is)
  (case a28=>k_is);(case l28=>k_is);(case c28=>k_is);(case k28=>k_is)
  (case a29=>k_is);(case l29=>k_is);(case c29=>k_is);(case k29=>k_is)
  (case z1=>k_is)
  (case z2=>k_is)
  (case z3=>k_is)
  (case z4=>k_is)
  (case z5=>k_is)
  (case z6=>k_is)
  (case z7=>k_is)
  (case z8=>k_is)
  (case z9=>k_is)
  (case z10=>k_is)
  (case z11=>k_is)
  (case z12=>k_is)
  (case z13=>k_is)
  (case z14=>k_is)
  (case z15=>k_is)
  (case z16=>k_is)
  (case lH2=>k_is);(case eH2=>rfl);(case nB4=>decide);(case kP=>rfl)
