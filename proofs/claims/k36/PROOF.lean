import PyProof.Rows.All
import Wide.All
import OpenK.AllK
import Wide.FinOn
import Lean
import PyProof.EqAt
import PyProof.EqKinds
import PyProof.TupleCall
import PyProof.NeKinds
import KE.KIntText
import PyProof.TupleOfStr
import PyProof.ReprRoads
import PyProof.NeData
import PyProof.DictKinds
import PyProof.AttrMiss
import PyProof.IsiH_list
import KE.KDictOf
import KE.KSortTup
import KE.KItemsList
import KE.KDictSum
import PyProof.DictWalks
import PyProof.DictItems
import KE.KDictList
import KE.KEqDict
import KE.KPairComp
import PyProof.DictTruth
import PyProof.MeetsDict
import KE.KLam
import KE.KNestM
import PyProof.Defs
import PyProof.P3In
import PyProof.Rows.SortRev
import PyProof.Rows.Range3
import PyProof.AutoIntG2
import PySem.Challenge.RW_stairlanes_k36_fewest_balls_that_break
set_option Elab.async false
set_option linter.all false
set_option maxRecDepth 100000
local macro_rules|`(tactic|trivial)=>`(tactic|first|exact⟨by rfl,by first|exact Or.inl rfl|exact Or.inr (.inl rfl)|exact Or.inr (.inr rfl),by decide,by decide⟩|exact⟨rfl,rfl,rfl,by decide +kernel,rfl,by decide +kernel,by decide +kernel⟩|exact True.intro|rfl|assumption|exact .inl rfl|exact .inr rfl)
section
open PySem PySem.Spec PyProof.Rows
theorem J0:type_of% @wpAny_bind:=@wpAny_bind
theorem J7:type_of% @List.getElem?_eq_getElem:=@List.getElem?_eq_getElem
theorem J8:type_of% @Heap.get?_push_of_some:=@Heap.get?_push_of_some
theorem J9:type_of% @List.getD_eq_getElem?_getD:=@List.getD_eq_getElem?_getD
theorem Ja:type_of% @wpAny_pure:=@wpAny_pure
theorem Jb:type_of% @List.length_append:=@List.length_append
theorem Jc:type_of% @if_neg:=@if_neg
theorem Jd:type_of% @List.getElem?_eq_some_iff:=@List.getElem?_eq_some_iff
theorem Je:type_of% @List.mem_singleton:=@List.mem_singleton
theorem Jf:type_of% @if_pos:=@if_pos
theorem Jg:type_of% @Nat.le_refl:=@Nat.le_refl
theorem Jh:type_of% @List.length_map:=@List.length_map
theorem Jj:type_of% @List.size_toArray:=@List.size_toArray
theorem Jm:type_of% @wpS_pure:=@wpS_pure
theorem Jn:type_of% @wpS_bind:=@wpS_bind
theorem Jp:type_of% @Bool.false_ne_true:=@Bool.false_ne_true
theorem Jq:type_of% @Heap.lt_size:=@Heap.lt_size
theorem Jr:type_of% @Option.some.inj:=@Option.some.inj
theorem Js:type_of% @Heap.get?_push_size:=@Heap.get?_push_size
theorem Jt:type_of% @decide_eq_false:=@decide_eq_false
theorem Ju:type_of% @List.mem_cons:=@List.mem_cons
theorem Jv:type_of% @List.not_mem_nil:=@List.not_mem_nil
theorem Jw:type_of% @List.length_take:=@List.length_take
theorem Jx:type_of% @Array.size_append:=@Array.size_append
theorem Jy:type_of% @List.mem_append_right:=@List.mem_append_right
theorem Jz:type_of% @List.mem_append:=@List.mem_append
theorem JA:type_of% @Array.size_push:=@Array.size_push
theorem JB:type_of% @decide_eq_true:=@decide_eq_true
theorem JC:type_of% @Array.length_toList:=@Array.length_toList
theorem JD:type_of% @List.mem_map:=@List.mem_map
theorem JE:type_of% @sizeLine_eq:=@sizeLine_eq
theorem JF:type_of% @Nat.ne_of_lt:=@Nat.ne_of_lt
theorem JG:type_of% @List.take_of_length_le:=@List.take_of_length_le
theorem JH:type_of% @List.mem_cons_of_mem:=@List.mem_cons_of_mem
theorem JJ:type_of% @List.mem_cons_self:=@List.mem_cons_self
theorem JK:type_of% @List.length_cons:=@List.length_cons
theorem JL:type_of% @Nat.zero_le:=@Nat.zero_le
theorem JM:type_of% @Nat.lt_of_lt_of_le:=@Nat.lt_of_lt_of_le
theorem JN:type_of% @wpAny_newObj_type:=@wpAny_newObj_type
theorem JP:type_of% @List.getElem?_map:=@List.getElem?_map
theorem JQ:type_of% @List.append_assoc:=@List.append_assoc
theorem JR:type_of% @List.nodup_cons:=@List.nodup_cons
theorem JS:type_of% @congrArg:=@congrArg
theorem JT:type_of% @List.mem_of_getElem?:=@List.mem_of_getElem?
theorem JU:type_of% @wpAny_mono:=@wpAny_mono
theorem JV:type_of% @PySem.W.mg_of:=@PySem.W.mg_of
theorem JW:type_of% @Nat.le_trans:=@Nat.le_trans
theorem JX:type_of% @decide_eq_false_iff_not:=@decide_eq_false_iff_not
theorem JY:type_of% @Array.getElem?_eq_some_iff:=@Array.getElem?_eq_some_iff
theorem JZ:type_of% @List.map_cons:=@List.map_cons
theorem Y0:type_of% @List.length_range:=@List.length_range
theorem Y1:type_of% @PySem.W.mg_none_of:=@PySem.W.mg_none_of
theorem Y2:type_of% @List.map_append:=@List.map_append
theorem Y3:type_of% @List.length_replicate:=@List.length_replicate
theorem Y4:type_of% @decide_eq_true_eq:=@decide_eq_true_eq
theorem Y5:type_of% @List.append_nil:=@List.append_nil
theorem Y6:type_of% @List.length_drop:=@List.length_drop
theorem Y7:type_of% @wpAny_call_entry:=@wpAny_call_entry
theorem Y8:type_of% @Array.getElem?_toList:=@Array.getElem?_toList
theorem Y9:type_of% @Bool.false_eq_true:=@Bool.false_eq_true
theorem Ya:type_of% @Array.toList_append:=@Array.toList_append
theorem Yb:type_of% @List.getElem_mem:=@List.getElem_mem
theorem Yc:type_of% @wpAny_dictEntries:=@wpAny_dictEntries
theorem Yd:type_of% @List.mem_range:=@List.mem_range
theorem Ye:type_of% @List.getElem?_append_right:=@List.getElem?_append_right
theorem Yf:type_of% @wpAny_setField_rec:=@wpAny_setField_rec
theorem Yg:type_of% @wpAny_dictEpoch:=@wpAny_dictEpoch
theorem Yh:type_of% @List.mem_append_left:=@List.mem_append_left
theorem Yi:type_of% @Int.toNat_natCast:=@Int.toNat_natCast
theorem Yj:type_of% @Heap.get?_update_other:=@Heap.get?_update_other
theorem Yk:type_of% @wpAny_seqItems:=@wpAny_seqItems
theorem Ym:type_of% @Option.map_eq_some_iff:=@Option.map_eq_some_iff
theorem Yn:type_of% @PySem.boot_len:=@PySem.boot_len
theorem Yp:type_of% @wpAny_holding:=@wpAny_holding
theorem Yq:type_of% @PyProof.Rows.callWith_type1:=@PyProof.Rows.callWith_type1
theorem Yr:type_of% @if_true:=@if_true
theorem Ys:type_of% @List.replicate_succ:=@List.replicate_succ
theorem Yt:type_of% @Bool.eq_iff_iff:=@Bool.eq_iff_iff
theorem Yu:type_of% @List.pairwise_append:=@List.pairwise_append
theorem Yv:type_of% @List.drop_eq_getElem_cons:=@List.drop_eq_getElem_cons
theorem Yw:type_of% @PassesOwn.never:=@PassesOwn.never
theorem Yx:type_of% @List.take_append_getElem:=@List.take_append_getElem
theorem Yy:type_of% @Nat.zero_add:=@Nat.zero_add
theorem Yz:type_of% @wpS_forRange:=@wpS_forRange
theorem YA:type_of% @Int.compare_eq_lt:=@Int.compare_eq_lt
theorem YB:type_of% @PySem.F.plainAttrs_list:=@PySem.F.plainAttrs_list
theorem YC:type_of% @List.mem_of_mem_take:=@List.mem_of_mem_take
theorem YD:type_of% @List.lookup_cons:=@List.lookup_cons
theorem YE:type_of% @List.getElem?_append_left:=@List.getElem?_append_left
theorem YF:type_of% @of_decide_eq_true:=@of_decide_eq_true
theorem YG:type_of% @Int.compare_eq_gt:=@Int.compare_eq_gt
theorem YH:type_of% @List.length_nil:=@List.length_nil
theorem YJ:type_of% @List.take_length:=@List.take_length
theorem YK:type_of% @Nat.pow_le_pow_right:=@Nat.pow_le_pow_right
theorem YL:type_of% @Nat.lt_irrefl:=@Nat.lt_irrefl
theorem YM:type_of% @wpAny_truthy_bool:=@wpAny_truthy_bool
theorem YN:type_of% @Heap.size_push:=@Heap.size_push
theorem YQ:type_of% @List.take_succ_eq_append_getElem:=@List.take_succ_eq_append_getElem
theorem YR:type_of% @Nat.add_zero:=@Nat.add_zero
theorem YS:type_of% @Int.compare_eq_eq:=@Int.compare_eq_eq
theorem YT:type_of% @Heap.SameBut.update:=@Heap.SameBut.update
theorem YU:type_of% @List.find?_cons:=@List.find?_cons
theorem YV:type_of% @Heap.get?_update_self:=@Heap.get?_update_self
theorem YW:type_of% @F.plain_min_loop:=@F.plain_min_loop
theorem YX:type_of% @Paired.length:=@Paired.length
theorem YY:type_of% @wpAny_rule:=@wpAny_rule
theorem YZ:type_of% @List.forIn_cons:=@List.forIn_cons
theorem Z0:type_of% @Nat.ne_of_gt:=@Nat.ne_of_gt
theorem Z1:type_of% @if_false:=@if_false
theorem Z2:type_of% @wpS_mono:=@wpS_mono
theorem Z3:type_of% @List.nodup_nil:=@List.nodup_nil
theorem Z4:type_of% @List.extract_eq_take_drop:=@List.extract_eq_take_drop
theorem Z5:type_of% @List.length_set:=@List.length_set
theorem Z6:type_of% @codeAny_builtin:=@codeAny_builtin
theorem Z7:type_of% @List.getElem?_set_ne:=@List.getElem?_set_ne
theorem Z8:type_of% @wpAny_typeOf:=@wpAny_typeOf
theorem Z9:type_of% @List.mem_iff_getElem:=@List.mem_iff_getElem
theorem Za:type_of% @wpAny_standAt:=@wpAny_standAt
theorem Zb:type_of% @List.getElem?_take_of_lt:=@List.getElem?_take_of_lt
theorem Zc:type_of% @PySem.mem_of_lookup:=@PySem.mem_of_lookup
theorem Zd:type_of% @or_false:=@or_false
theorem Ze:type_of% @List.all_eq_true:=@List.all_eq_true
theorem Zf:type_of% @List.take_zero:=@List.take_zero
theorem Zg:type_of% @wpAny_Call_Name_kw:=@wpAny_Call_Name_kw
theorem Zh:type_of% @Nat.pow_succ:=@Nat.pow_succ
theorem Zi:type_of% @Nat.min_eq_left:=@Nat.min_eq_left
theorem Zj:type_of% @Nat.add_assoc:=@Nat.add_assoc
theorem Zk:type_of% @List.take_append_drop:=@List.take_append_drop
theorem Zm:type_of% @List.mem_iff_getElem?:=@List.mem_iff_getElem?
theorem Zn:type_of% @Nat.lt_succ_of_lt:=@Nat.lt_succ_of_lt
theorem Zp:type_of% @List.foldl_append:=@List.foldl_append
theorem Zq:type_of% @Array.toList_push:=@Array.toList_push
theorem Zr:type_of% @Int.lt_trichotomy:=@Int.lt_trichotomy
theorem Zs:type_of% @List.forIn_nil:=@List.forIn_nil
theorem Zt:type_of% @Around.under_plainId:=@Around.under_plainId
theorem Zu:type_of% @Array.toList_extract:=@Array.toList_extract
theorem Zv:type_of% @List.mem_of_mem_drop:=@List.mem_of_mem_drop
theorem Zw:type_of% @Bool.and_eq_true:=@Bool.and_eq_true
theorem Zx:type_of% @wpAny_isInstance:=@wpAny_isInstance
theorem Zy:type_of% @Nat.lt_succ_self:=@Nat.lt_succ_self
theorem Zz:type_of% @List.map_map:=@List.map_map
theorem ZA:type_of% @Option.getD_some:=@Option.getD_some
theorem ZB:type_of% @beq_self_eq_true:=@beq_self_eq_true
theorem ZC:type_of% @Int.le_trans:=@Int.le_trans
theorem ZD:type_of% @Array.getElem?_eq_getElem:=@Array.getElem?_eq_getElem
theorem ZE:type_of% @beq_eq_false_iff_ne:=@beq_eq_false_iff_ne
theorem ZF:type_of% @List.length_zipWith:=@List.length_zipWith
theorem ZG:type_of% @List.take_succ_cons:=@List.take_succ_cons
theorem ZH:type_of% @Option.isSome_iff_exists:=@Option.isSome_iff_exists
theorem ZJ:type_of% @wpAny_attempt:=@wpAny_attempt
theorem ZK:type_of% @PySem.F.slot_list_append:=@PySem.F.slot_list_append
theorem ZL:type_of% @PySem.F.type_list_append:=@PySem.F.type_list_append
theorem ZM:type_of% @wpAny_passesOwn:=@wpAny_passesOwn
theorem ZN:type_of% @List.nil_append:=@List.nil_append
theorem ZP:type_of% @size_of_entries:=@size_of_entries
theorem ZQ:type_of% @List.length_zip:=@List.length_zip
theorem ZR:type_of% @assignInOrder_cons:=@assignInOrder_cons
theorem ZS:type_of% @Calls.spliced_cons:=@Calls.spliced_cons
theorem ZT:type_of% @List.filterMap_map:=@List.filterMap_map
theorem ZU:type_of% @Nat.one_le_two_pow:=@Nat.one_le_two_pow
theorem ZV:type_of% @wpAny_letGo:=@wpAny_letGo
theorem ZW:type_of% @Int.le_refl:=@Int.le_refl
theorem ZX:type_of% @List.length_eq_zero_iff:=@List.length_eq_zero_iff
theorem ZY:type_of% @Calls.callWith_builtin:=@Calls.callWith_builtin
theorem ZZ:type_of% @List.flatten_cons:=@List.flatten_cons
theorem W0:type_of% @List.drop_zero:=@List.drop_zero
theorem W5:type_of% @Bool.not_eq_true':=@Bool.not_eq_true'
theorem W6:type_of% @PyProof.Rows.slot_tuple_getitem:=@PyProof.Rows.slot_tuple_getitem
theorem W7:type_of% @List.perm_append_comm:=@List.perm_append_comm
theorem W8:type_of% @wpAny_typeNameOfWhole_itemiter:=@wpAny_typeNameOfWhole_itemiter
theorem W9:type_of% @List.getElem_map:=@List.getElem_map
theorem Wa:type_of% @plainId_quiet:=@plainId_quiet
theorem Wb:type_of% @wpAny_field:=@wpAny_field
theorem Wc:type_of% @wpAny_typeNameOfWhole_keyiter:=@wpAny_typeNameOfWhole_keyiter
theorem Wd:type_of% @F.slot_dict_itemiterator_next:=@F.slot_dict_itemiterator_next
theorem We:type_of% @F.slot_zip_next:=@F.slot_zip_next
theorem Wf:type_of% @Bool.or_eq_true:=@Bool.or_eq_true
theorem Wg:type_of% @Nat.not_lt_zero:=@Nat.not_lt_zero
theorem Wh:type_of% @F.slot_dict_keyiterator_next:=@F.slot_dict_keyiterator_next
theorem Wi:type_of% @Int.emod_nonneg:=@Int.emod_nonneg
theorem Wj:type_of% @List.getElem_of_mem:=@List.getElem_of_mem
theorem Wk:type_of% @List.map_congr_left:=@List.map_congr_left
theorem Wm:type_of% @Array.toList_modify:=@Array.toList_modify
theorem Wn:type_of% @List.length_pos_iff:=@List.length_pos_iff
theorem Wp:type_of% @List.idxOf_lt_length_of_mem:=@List.idxOf_lt_length_of_mem
theorem Wq:type_of% @wpS_get:=@wpS_get
theorem Wr:type_of% @call_meets:=@call_meets
theorem Ws:type_of% @wpS_modify:=@wpS_modify
theorem Wt:type_of% @List.getElem?_drop:=@List.getElem?_drop
theorem Wu:type_of% @Bool.not_eq_false':=@Bool.not_eq_false'
theorem Wv:type_of% @Int.emod_lt_of_pos:=@Int.emod_lt_of_pos
theorem Ww:type_of% @Nat.mul_le_mul:=@Nat.mul_le_mul
theorem Wx:type_of% @List.getElem?_zip_eq_some:=@List.getElem?_zip_eq_some
theorem Wy:type_of% @Calls.spliced_nil:=@Calls.spliced_nil
theorem Wz:type_of% @List.nodup_append:=@List.nodup_append
theorem WA:type_of% @AutoSeq1.wpAny_loadPart':=@AutoSeq1.wpAny_loadPart'
theorem WB:type_of% @not_or:=@not_or
theorem WC:type_of% @List.take_nil:=@List.take_nil
end
namespace L2
open PySem PySem.Spec PyProof.Rows
abbrev Key:=Sum Int Str
def zfP:Key->Value->Bool
  | .inl k,v=>Value.isInt k v
  | .inr x,v=>Value.isStrOf x v
def keyH (w:World):Key->Int
  | .inl k=>hashInt k
  | .inr x=>hashStr w x
theorem zaN:∀ {k:Key}{v:Value},zfP k v=true->(∃ i t,k=Sum.inl i/\v=Value.int i t)\/(∃ x t,k=Sum.inr x/\v=Value.str x t)
  | .inl i,v,h=>by
    obtain⟨t,e⟩:=Value.isInt_shape (k:=i) (v:=v) h
    exact .inl ⟨i,t,rfl,e⟩
  | .inr x,v,h=>by
    obtain⟨t,e⟩:=Value.isStrOf_shape (x:=x) (v:=v) h
    exact .inr ⟨x,t,rfl,e⟩
theorem zi0 (i:Int) (t:Tok):zfP (.inl i) (.int i t)=true:=by simp[zfP,Value.isInt]
theorem ziZ (x:Str) (t:Tok):zfP (.inr x) (.str x t)=true:=by simp[zfP,Value.isStrOf]
theorem zm2 (a b:Int):decide ((Sum.inl a:Key)=Sum.inl b)=(a == b):=by
  by_cases e:a=b
  · subst e;simp
  · have h:¬(Sum.inl a:Key)=Sum.inl b:=λq=>e (Sum.inl.inj q)
    rw[Jt h]
    exact(ZE.mpr e).symm
theorem zmY (a b:Str):decide ((Sum.inr a:Key)=Sum.inr b)=decide (a=b):=by
  by_cases e:a=b
  · subst e;simp
  · have h:¬(Sum.inr a:Key)=Sum.inr b:=λq=>e (Sum.inr.inj q)
    rw[Jt h,Jt e]
theorem zm1 (a:Int) (b:Str):decide ((Sum.inl a:Key)=Sum.inr b)=false:=Jt (λq=>nomatch q)
theorem zmZ (a:Str) (b:Int):decide ((Sum.inr a:Key)=Sum.inl b)=false:=Jt (λq=>nomatch q)
def zaZ (prog:Program) (w:World):PySem.KeyKind prog w Key where
  is:=zfP
  hash:=keyH w
  inj:=λv a b ha hb=>by
    rcases zaN ha with ⟨i,t,rfl,rfl⟩|⟨x,t,rfl,rfl⟩
    · rcases zaN hb with ⟨j,u,rfl,e⟩|⟨y,u,rfl,e⟩
      · injection e with c _;rw[c]
      · exact nomatch e
    · rcases zaN hb with ⟨j,u,rfl,e⟩|⟨y,u,rfl,e⟩
      · exact nomatch e
      · injection e with c _;rw[c]
  byValue:=λk v h=>by
    rcases zaN h with ⟨i,t,rfl,rfl⟩|⟨x,t,rfl,rfl⟩<;>rfl
  pyHash:=λd h=>by
    rcases zaN d with ⟨i,t,rfl,rfl⟩|⟨x,t,rfl,rfl⟩
    · exact wpAny_pyHash_int h
    · exact wpAny_pyHash_str h
  eqBool:=λf d h=>by
    rcases zaN f with ⟨i,t,rfl,rfl⟩|⟨x,t,rfl,rfl⟩
    · rcases zaN d with ⟨j,u,rfl,rfl⟩|⟨y,u,rfl,rfl⟩
      · rw[zm2]at h;exact wpAny_eqBool_int h
      · rw[zm1]at h;exact SeqAt.EqAt.int_str i t y u _ _ _ _ h
    · rcases zaN d with ⟨j,u,rfl,rfl⟩|⟨y,u,rfl,rfl⟩
      · rw[zmZ]at h;exact SeqAt.EqAt.str_int x t j u _ _ _ _ h
      · rw[zmY]at h;exact wpAny_eqBool_str h
  «strs»:=λk x t v h=>by
    rcases zaN h with ⟨i,u,rfl,e⟩|⟨y,u,rfl,e⟩
    · exact nomatch e
    · injection e with c _
      subst c
      cases v<;>rfl
theorem zg6 (prog:Program) (w:World) (k:Key) (v:Value):(zaZ prog w).is k v=zfP k v:=rfl
theorem zfJ (prog:Program) (w:World) (i:Int) (t:Tok):(zaZ prog w).is (.inl i) (.int i t)=true:=zi0 i t
theorem zfI (prog:Program) (w:World) (x:Str) (t:Tok):(zaZ prog w).is (.inr x) (.str x t)=true:=ziZ x t
inductive V where
  | non|bl (b:Bool)|int (i:Int)|str (x:Str)|byt (b:Array UInt8)|flt (b:UInt64)|ref (a:Addr)|ty (n:String)
  deriving DecidableEq
def RelV:V->Value->Prop
  | .non,u=>u=Value.none
  | .bl b,u=>u=Value.bool b
  | .int i,u=>∃ t,u=Value.int i t
  | .str x,u=>∃ t,u=Value.str x t
  | .byt b,u=>∃ t,u=Value.bytes b t
  | .flt b,u=>∃ t,u=Value.float b t
  | .ref a,u=>u=Value.ref a
  | .ty n,u=>u=Value.type n
abbrev Vals:List V->List Value->Prop:=Paired RelV
theorem Vals.length {xs:List V}{us:List Value}(r:Vals xs us):xs.length=us.length:=YX r
theorem Vals.get:∀ {xs:List V}{us:List Value}{i:Nat}{x:V},Vals xs us->xs[i]?=some x->∃ u,us[i]?=some u/\RelV x u
  | _,_,_,_,.nil,e=>by simp at e
  | _,_,0,_,.cons r _,e=>by simp at e;subst e;exact⟨_,rfl,r⟩
  | _,_,i+1,x,.cons _ t,e=>by
    obtain⟨u,h1,a⟩:=Vals.get (i:=i) (x:=x) t (by simpa using e)
    exact⟨u,by simpa using h1,a⟩
theorem Vals.set {x:V}{u:Value}(r:RelV x u):∀ {xs:List V}{us:List Value}(i:Nat),Vals xs us->Vals (xs.set i x) (us.set i u)
  | _,_,_,.nil=>.nil
  | _,_,0,.cons _ t=>.cons r t
  | _,_,i+1,.cons q t=>.cons q (Vals.set r i t)
theorem Vals.append:∀ {xs ys:List V}{us ws:List Value},Vals xs us->Vals ys ws->Vals (xs++ys) (us++ws)
  | _,_,_,_,.nil,s=>s
  | _,_,_,_,.cons r t,s=>.cons r (Vals.append t s)
theorem Vals.take:∀ {xs:List V}{us:List Value}(n:Nat),Vals xs us->Vals (xs.take n) (us.take n)
  | _,_,0,_=>.nil
  | _,_,_+1,.nil=>.nil
  | _,_,n+1,.cons r t=>.cons r (Vals.take n t)
theorem Vals.drop:∀ {xs:List V}{us:List Value}(n:Nat),Vals xs us->Vals (xs.drop n) (us.drop n)
  | _,_,0,r=>r
  | _,_,_+1,.nil=>.nil
  | _,_,n+1,.cons _ t=>Vals.drop n t
def RelO:Option V->Option Value->Prop
  | some v,some u=>RelV v u
  | none,none=>True
  | _,_=>False
def KV {κ:Type}:List (κ × V)->List (κ × Value)->Prop:=Paired λ(p:κ × V) (q:κ × Value)=>p.1=q.1/\RelV p.2 q.2
def kV:Key->V
  | .inl i=>.int i
  | .inr x=>.str x
inductive HO where
  | lst (xs:List V)
  | tup (xs:List V)
  | dK (kvs:List (Key × V))|dT (kvs:List (List Key × V))
  | set (S:Int->Bool) (n:Nat)
  | ins (C dx:Addr) (fs:List (Str × V))
  | own (x:Addr)
  | xd (fs:List (Str × V))
  | met (f x:Addr)
  | rng (lo hi:Int)
  | frz (o:Obj) (u:HO)
  | tbl (ps:Array Value)
  | ext (φ:Heap->Prop)
abbrev Hp:=Addr->Option HO
def upd (H:Hp) (a:Addr) (o:HO):Hp:=λb=>if b=a then some o else H b
theorem zaf {H:Hp}{a:Addr}{o:HO}:upd H a o a=some o:=by unfold upd;rw[Jf rfl]
theorem zah {H:Hp}{a b:Addr}{o:HO}(h:b≠a):upd H a o b=H b:=by unfold upd;rw[Jc h]
theorem zcQ {H:Hp}{a b:Addr}{o u:HO}(h:H a=some o) (h':H b=some u) (d:o≠u):a≠b:=by
  intro e;subst e;rw[h]at h';exact d (Jr h')
theorem zag {H:Hp}{a b:Addr}{o:HO}(h:H a=some o) (h':H b=none):a≠b:=by
  intro e;subst e;rw[h]at h';cases h'
def TupX (h:Heap) (a:Addr) (items:Array Value):Prop:=∃ o,h.get? a=some o/\o.cls=.type "tuple"/\∃ n,o.data=.seq items n/\o.dict=none
theorem TupX.tup {h:Heap}{a:Addr}{items:Array Value}(x:TupX h a items):IsTup h a items:=let ⟨o,e,c,n,d,_⟩:=x;⟨o,e,c,n,d⟩
theorem TupX.new (h:Heap) (items:Array Value):TupX (h.push { cls:=.type "tuple",data:=.seq items }) h.objs.size items:=⟨_,Js _ rfl,rfl,0,rfl,rfl⟩
section
variable (P:Program)(w:World)
def ObjOk (H:Hp) (h:Heap) (a:Addr):HO->Prop
  | .lst xs=>xs.length<=sizeLine/\∃ (its:List Value) (n:Nat),Vals xs its/\h.get? a=some { cls:=.type "list",data:=.seq its.toArray n }
  | .tup xs=>xs.length<=sizeLine/\∃ its:List Value,Vals xs its/\TupX h a its.toArray
  | .dK kvs=>kvs.length<=sizeLine/\(a == sysModules)=false/\∃ vs,KV kvs vs/\h.DictOf (zaZ P w) a vs
  | .dT kvs=>kvs.length<=sizeLine/\(a == sysModules)=false/\∃ xs:List (List Key × Addr × Value),
      Paired (λ(p:List Key × V) (q:List Key × Addr × Value)=>p.1=q.1/\H q.2.1=some (.tup (p.1.map kV))/\RelV p.2 q.2.2) kvs xs /\
      ∃ o es ep,h.get? a=some o/\o.ExactDict/\o.data=.dict es ep/\es.toList=xs.map (entryOfKey (tupleKind (zaZ P w)))/\(xs.map (·.1)).Nodup
  | .set S n=>h.SetOf (intKind P w) a S n
  | .ins C dx fs=>H dx=some (.own a)/\fs.length<=1000/\dx≠a/\h.get? a=some (PySem.W.instObj C dx) /\
      ∃ b,h.Ns1 dx b/\(∀ f,RelO (fs.lookup f) (b f))/\PySem.Within b (fs.map (·.1))
  | .own _=>∃ o,h.get? a=some o
  | .xd fs=>∃ b,h.Ns1 a b/\∀ f,RelO (fs.lookup f) (b f)
  | .rng lo hi=>∃ t u v,h.get? a=some { cls:=.type "range",data:=.fields #[.int lo t,.int hi u,.int 1 v] }
  | .frz o u=>h.get? a=some o/\ObjOk H h a u
  | .tbl ps=>h.get? a=some { cls:=.none,data:=.fields ps }
  | .met f x=>h.get? a=some (PySem.W.methodObj (.ref f) (.ref x))
  | .ext φ=>φ h/\(∃ o,h.get? a=some o)/\∀ h1 c:Heap,φ h1->(∀ o,h1.get? a=some o->c.get? a=some o)->φ c
def HOk (H:Hp) (h:Heap):Prop:=∀ a o,H a=some o->ObjOk P w H h a o
end
section
variable {P:Program}{w:World}{H H':Hp}{h h':Heap}{a:Addr}{o:HO}
theorem ObjOk.lt (x:ObjOk P w H h a o):a<h.objs.size:=by
  cases o with
  | lst xs=>obtain⟨_,_,_,_,e⟩:=x;exact Jq e
  | tup xs=>obtain⟨_,_,_,p⟩:=x;exact p.tup.lt
  | dK kvs=>obtain⟨_,_,_,_,o,_,_,e,_⟩:=x;exact Jq e
  | dT kvs=>obtain⟨_,_,_,_,o,_,_,e,_⟩:=x;exact Jq e
  | set S n=>obtain⟨o,_,_,_,e,_⟩:=x;exact Jq e
  | ins C dx fs=>obtain⟨_,_,_,e,_⟩:=x;exact Jq e
  | own y=>obtain⟨_,e⟩:=x;exact Jq e
  | xd fs=>obtain⟨_,⟨_,_,_,e,_⟩,_⟩:=x;exact Jq e
  | rng lo hi=>obtain⟨_,_,_,e⟩:=x;exact Jq e
  | frz ob u=>obtain⟨e,_⟩:=x;exact Jq e
  | tbl ps=>exact Jq (show h.get? a=some _ from x)
  | met f y=>exact Jq (show h.get? a=some _ from x)
  | ext φ=>obtain⟨_,⟨_,e⟩,_⟩:=x;exact Jq e
theorem Paired.mapP {α β:Type}{F G:α->β->Prop}:∀ {l₁:List α}{l₂:List β},Paired F l₁ l₂->(∀ a b,F a b->G a b)->Paired G l₁ l₂
  | _,_,.nil,_=>.nil
  | _,_,.cons r t,f=>.cons (f _ _ r) (Paired.mapP t f)
theorem ObjOk.stay (x:ObjOk P w H h a o) (k:∀ b u,(b=a\/H b=some (.own a))->h.get? b=some u->h'.get? b=some u)
    (j:∀ b,H b=some (.own a)->H' b=some (.own a)) (i:∀ b xs,H b=some (.tup xs)->H' b=some (.tup xs)):ObjOk P w H' h' a o:=by
  induction o with
  | lst xs=>obtain⟨z,its,n,r,e⟩:=x;exact⟨z,its,n,r,k _ _ (.inl rfl) e⟩
  | tup xs=>obtain⟨z,its,r,ob,e,c⟩:=x;exact⟨z,its,r,ob,k _ _ (.inl rfl) e,c⟩
  | dK kvs=>obtain⟨z,y,vs,r,ob,es,ep,e,c⟩:=x;exact⟨z,y,vs,r,ob,es,ep,k _ _ (.inl rfl) e,c⟩
  | dT kvs =>
    obtain⟨z,y,xs,r,ob,es,ep,e,c⟩:=x
    exact⟨z,y,xs,Paired.mapP r λp q z=>⟨z.1,i _ _ z.2.1,z.2.2⟩,ob,es,ep,k _ _ (.inl rfl) e,c⟩
  | set S n=>obtain⟨ob,es,ep,t,e,c⟩:=x;exact⟨ob,es,ep,t,k _ _ (.inl rfl) e,c⟩
  | ins C dx fs =>
    obtain⟨d,z,ne,e,g,⟨od,es,ep,e2,c⟩,r⟩:=x
    exact⟨j _ d,z,ne,k _ _ (.inl rfl) e,g,⟨od,es,ep,k _ _ (.inr d) e2,c⟩,r⟩
  | own y=>obtain⟨ob,e⟩:=x;exact⟨ob,k _ _ (.inl rfl) e⟩
  | xd fs=>obtain⟨g,⟨od,es,ep,e,c⟩,r⟩:=x;exact⟨g,⟨od,es,ep,k _ _ (.inl rfl) e,c⟩,r⟩
  | rng lo hi=>obtain⟨t,u,v,e⟩:=x;exact⟨t,u,v,k _ _ (.inl rfl) e⟩
  | frz ob u ih=>obtain⟨e,q⟩:=x;exact⟨k _ _ (.inl rfl) e,ih q⟩
  | tbl ps =>
    have e:h.get? a=some { cls:=.none,data:=.fields ps }:=x
    show h'.get? a=some { cls:=.none,data:=.fields ps }
    exact k a _ (.inl rfl) e
  | met f y =>
    have e:h.get? a=some (PySem.W.methodObj (.ref f) (.ref y)):=x
    show h'.get? a=some (PySem.W.methodObj (.ref f) (.ref y))
    exact k a _ (.inl rfl) e
  | ext φ=>obtain⟨p,⟨o,e⟩,st⟩:=x;exact⟨st _ _ p λo q=>k _ _ (.inl rfl) q,⟨o,k _ _ (.inl rfl) e⟩,st⟩
theorem HOk.lt (x:HOk P w H h) (e:H a=some o):a<h.objs.size:=(x a o e).lt
theorem HOk.fresh (x:HOk P w H h) (e:h.objs.size<=a):H a=none:=by
  cases q:H a with
  | none=>rfl
  | some u=>exact absurd (JM (x.lt q) e) (YL _)
theorem HOk.kept (x:HOk P w H h) (k:∀ b u,h.get? b=some u->h'.get? b=some u):HOk P w H h':=λa o e =>
  (x a o e).stay (λb u _ q=>k b u q) (λ_ q=>q) λ_ _ q=>q
theorem HOk.laid (x:HOk P w H h) (k:∀ b u,h.get? b=some u->h'.get? b=some u) (f:h.objs.size<=a) (new:ObjOk P w (upd H a o) h' a o):HOk P w (upd H a o) h':=λb u e=>by
  have d:=x.fresh f
  by_cases hb:b=a
  · subst hb;rw[zaf]at e;cases e;exact new
  · rw[zah hb]at e
    exact(x b u e).stay (λc v _ q=>k c v q) (λc q=>by rw[zah (zag q d)];exact q) λc xs q=>by rw[zah (zag q d)];exact q
end
def Rd (H:Hp) (a:Addr) (u:HO):Prop:=H a=some u\/∃ o,H a=some (.frz o u)
theorem Rd.ok {P:Program}{w:World}{H:Hp}{h:Heap}{a:Addr}{u:HO}(r:Rd H a u) (x:HOk P w H h):ObjOk P w H h a u:=by
  rcases r with r|⟨o,r⟩
  · exact x a u r
  · obtain⟨_,q⟩:=x a _ r
    exact q
def Mut:Option HO->Prop
  | some (.lst _)=>True
  | some (.dK _)=>True
  | some (.dT _)=>True
  | some (.set _ _)=>True
  | some (.ins _ _ _)=>True
  | some (.ext _)=>True
  | _=>False
section
variable {P:Program}{w:World}{H:Hp}{h h':Heap}{x e:Addr}{o':HO}
theorem HOk.write (ok:HOk P w H h) (g:Mut (H x)) (m:e=x\/H e=some (.own x)) (k:∀ b u,b≠e->h.get? b=some u->h'.get? b=some u) (j:∃ u,h'.get? e=some u)
    (new:ObjOk P w (upd H x o') h' x o'):HOk P w (upd H x o') h':=λb u q=>by
  have d:∀ c y,H c=some (.own y)->c≠x:=λc y r z=>by subst z;rw[r]at g;exact g
  have f:∀ c xs,H c=some (.tup xs)->c≠x:=λc xs r z=>by subst z;rw[r]at g;exact g
  by_cases hb:b=x
  · subst hb;rw[zaf]at q;cases q;exact new
  · rw[zah hb]at q
    by_cases a:b=e
    · have l:H b=some (.own x):=by
        rcases m with z|z
        · exact absurd (a.trans z) hb
        · rw[a];exact z
      rw[q]at l;cases l
      obtain⟨v,n⟩:=j
      exact⟨v,by rw[a];exact n⟩
    · refine(ok b u q).stay (λc v i r=>k c v ?_ r) (λc r=>by rw[zah (d c b r)];exact r) λc xs r=>by rw[zah (f c xs r)];exact r
      rcases i with rfl|i
      · exact a
      · rintro rfl
        rcases m with z|z
        · exact d c b i z
        · rw[i]at z;cases z;exact hb rfl
end
structure Un (fs ex:List Addr) (H H':Hp) (h h':Heap):Prop where
  keep:∀ b o,h.get? b=some o->H b=none->b∉fs->b∉ex->h'.get? b=some o
  slot:∀ b o,h.get? b=some o->H b=none->b∈fs->b∉ex->∃ sl,h'.get? b=some { o with slots:=sl }
  free:∀ b o,h.get? b=some o->H b=none->b∉ex->H' b=none
  there:∀ b o,h.get? b=some o->b∉ex->∃ o',h'.get? b=some o'
  tups:∀ b xs,H b=some (.tup xs)->H' b=some (.tup xs)
  frzs:∀ b o u,H b=some (.frz o u)->H' b=some (.frz o u)
  tbls:∀ b ps,H b=some (.tbl ps)->∃ more,H' b=some (.tbl (ps++more))
section
variable {fs ex:List Addr}{H H1:Hp}{h h1 h':Heap}{a x e:Addr}{o:HO}
theorem Un.any (u:Un fs ex H H1 h h1) {b:Addr}{ob:Obj}(q:h.get? b=some ob) (n:H b=none) (a:b∉ex):∃ sl,h1.get? b=some { ob with slots:=sl }:=by
  by_cases hb:b∈fs
  · exact u.slot b ob q n hb a
  · exact⟨ob.slots,u.keep b ob q n hb a⟩
theorem Un.kept (k:∀ b u,h.get? b=some u->h'.get? b=some u):Un fs ex H H h h' :=
  ⟨λb ob q _ _ _=>k b ob q,λb ob q _ _ _=>⟨ob.slots,k b ob q⟩,λ_ _ _ n _=>n,λb ob q _=>⟨ob,k b ob q⟩,λ_ _ q=>q,λ_ _ _ q=>q,λ_ ps q=>⟨#[],by rw[q];simp⟩⟩
theorem Un.refl:Un fs ex H H h h:=Un.kept λ_ _ q=>q
theorem Un.laid (k:∀ b u,h.get? b=some u->h'.get? b=some u) (d:h.objs.size<=a) (c:H a=none):Un fs ex H (upd H a o) h h' where
  keep:=λb u q _ _ _=>k b u q
  slot:=λb u q _ _ _=>⟨u.slots,k b u q⟩
  free:=λb u q n _=>by rw[zah (JF (JM (Jq q) d))];exact n
  there:=λb u q _=>⟨u,k b u q⟩
  tups:=λb xs q=>by rw[zah (zag q c)];exact q
  frzs:=λb u xs q=>by rw[zah (zag q c)];exact q
  tbls:=λb ps q=>⟨#[],by rw[zah (zag q c),q];simp⟩
theorem Un.write (c:Mut (H x)) (i:e=x\/H e=some (.own x)) (k:∀ b u,b≠e->h.get? b=some u->h'.get? b=some u) (f:∃ u,h'.get? e=some u):Un fs ex H (upd H x o) h h':=by
  have g:∀ b,H b=none->b≠x:=λb n z=>by subst z;rw[n]at c;exact c
  have hb:∀ b,H b=none->b≠e:=λb n z=>by
    subst z
    rcases i with r|r
    · exact g b n r
    · rw[n]at r;cases r
  have d:∀ b u,H b=some u->¬ Mut (some u)->b≠x:=λb u q nm z=>by subst z;rw[q]at c;exact nm c
  refine⟨λb u q n _ _=>k b u (hb b n) q,λb u q n _ _=>⟨u.slots,k b u (hb b n) q⟩,λb u q n _=>by rw[zah (g b n)];exact n,λb u q _=>?_,
    λb xs q=>by rw[zah (d b _ q λz=>z)];exact q,λb u xs q=>by rw[zah (d b _ q λz=>z)];exact q,λb ps q=>⟨#[],by rw[zah (d b _ q λz=>z),q];simp⟩⟩
  by_cases a:b=e
  · subst a;exact f
  · exact⟨u,k b u a q⟩
end
def trk (h:Heap) (H:Hp):List Addr:=(List.range h.objs.size).filter λa=>(H a).isSome
def hidT (h:Heap) (H:Hp):Heap:=PySem.W.hideAll h (trk h H)
theorem zi3 (h:Heap) (H:Hp):(hidT h H).objs.size=h.objs.size:=PySem.W.hideAll_size _ _
theorem zkG {h:Heap}{H:Hp}{b:Addr}{o:Obj}(e:h.get? b=some o) (n:H b=none):(hidT h H).get? b=some o :=
  PySem.W.hideAll_get _ e λa=>by
    have q:(H b).isSome=true:=(List.mem_filter.mp a).2
    rw[n]at q;simp at q
theorem zlX {h:Heap}{H:Hp}{b:Addr}{o:Obj}(e:(hidT h H).get? b=some o):h.get? b=some o/\H b=none:=by
  have a:h.get? b=some o:=PySem.W.of_hideAll (trk h H) e
  refine⟨a,?_⟩
  cases q:H b with
  | none=>rfl
  | some x =>
    have c:b∈trk h H:=List.mem_filter.mpr ⟨Yd.mpr (Jq a),by simp[q]⟩
    have z:(hidT h H).get? b=none:=PySem.W.hideAll_none (trk h H) c
    rw[z]at e;cases e
def zmp (g h:Heap) (L:Addr):List (Addr × Obj):=(List.range h.objs.size).filterMap λa=>if a=L\/(g.get? a).isSome=true then none else (h.get? a).map λo=>(a,o)
def rest (g h:Heap) (L d:Addr):List (Addr × Obj):=(zmp g h L).filter λp=>decide (p.1≠d)
structure Mod (K:PySem.W.Frag) (mg:Str->Option Value) (base:Heap):Prop where
  kin:K.In base
  glob:base.Ns mainGlobals mg
  blt:∃ mb,base.Ns builtinsNs mb/\∀ x:Str,x≠"__name__"->mb x=bootBuiltins x
  nolimit:base.NoLimit
structure Cx where
  prog:Program
  w:World
  K:PySem.W.Frag
  mg:Str->Option Value
  base:Heap
  A:Around
  N:List Str
  s₀:Shared
  H₀:Hp
  env:Env
  outer:List Env
  stack:List Env
  ex:List Addr
  fn:Str->Bool
  calm:Bool
  pn:List (Addr × Obj)
  xe:Value->Shared->Prop
def frs (l:List Env):List Addr:=l.filterMap (·.frame)
abbrev Cx.fs (X:Cx):List Addr:=frs X.outer
def Vis (sc:Scope) (x:Str):Prop:=sc.names.lookup x=some .local \/ sc.names.lookup x=some .cell\/sc.names.lookup x=some .free
def Loc (sc:Scope) (x:Str):Prop:=sc.names.lookup x=some .local \/ sc.names.lookup x=some .cell
def Look (env:Env) (h:Heap) (m:Str->Option Value) (x:Str) (u:Value):Prop :=
  (env.kindOf x=some .local /\ m x=some u)\/((env.kindOf x=some .cell\/env.kindOf x=some .free)/\∃ c,env.cells.lookup x=some c/\h.IsCell c (some u))
structure Cx.Ok (X:Cx):Prop where
  mod:Mod X.K X.mg X.base
  kind:X.env.scope.kind=.function
  glob:X.env.globals=mainGlobals
  blt:X.env.builtins=builtinsNs
  above:X.s₀.heap.objs.size<=X.env.locals
  inj:∀ x y c,X.env.cells.lookup x=some c->X.env.cells.lookup y=some c->x=y
  has:∀ x,(X.env.kindOf x=some .cell\/X.env.kindOf x=some .free)->∃ c,X.env.cells.lookup x=some c
  cab:∀ x c,X.fn x=true->X.env.cells.lookup x=some c->X.s₀.heap.objs.size<=c
  hd:X.calm=true->X.A.handled=none
  frames:X.A.frames=some X.stack
  stk:X.stack=X.outer\/(X.stack=X.env::X.outer/\X.env.frame=some X.env.locals)
  exf:∀ b∈X.ex,b≠X.env.locals/\∀ x c,X.env.cells.lookup x=some c->c≠b
  bs:∀ b o,X.base.get? b=some o->X.s₀.heap.get? b=some o/\X.H₀ b=none
  bsz:X.base.objs.size<=X.s₀.heap.objs.size
  noex:∀ b o,X.base.get? b=some o->b∉X.ex
  exfs:∀ b∈X.ex,b∉X.fs
  funs:X.s₀.heap.FunFrames X.base X.outer
  frf:∀ b∈X.fs,X.H₀ b=none
structure Inv (X:Cx) (pins:List (Addr × Obj)) (σ:List (Option V)) (H:Hp) (s:Shared):Prop where
  ok:X.Ok
  os:s.os=X.s₀.os
  bare:AllBare s.gens
  base:Un X.fs X.ex X.H₀ H X.s₀.heap s.heap
  loc:∃ m,s.heap.Ns X.env.locals m/\∀ (i:Nat) (x:Str) (v:V),X.N[i]?=some x->σ[i]?=some (some v)->Vis X.env.scope x->∃ u,RelV v u/\Look X.env s.heap m x u
  cell:∀ x c,X.env.cells.lookup x=some c->∃ v,s.heap.IsCell c v
  free:H X.env.locals=none
  freeC:∀ x c,X.env.cells.lookup x=some c->H c=none
  pin:∀ p∈X.pn++pins,s.heap.get? p.1=some p.2/\H p.1=none/\p.1≠X.env.locals/\p.1∉X.fs/\∀ v,p.2.data≠.cell v
  hok:HOk X.prog X.w H s.heap
  len:σ.length=X.N.length
section
variable {X:Cx}{pins:List (Addr × Obj)}{σ:List (Option V)}{H H':Hp}{s:Shared}{h':Heap}
theorem Cx.Ok.nofr (ok:X.Ok) {b:Addr}{o:Obj}(e:X.base.get? b=some o):b∉X.fs:=λhb=>by
  have:=(ok.funs.mem hb).1
  rw[e]at this;cases this
theorem Inv.bs (I:Inv X pins σ H s):∀ b o,X.base.get? b=some o->s.heap.get? b=some o/\H b=none:=λb o e =>
  ⟨I.base.keep b o (I.ok.bs b o e).1 (I.ok.bs b o e).2 (I.ok.nofr e) (I.ok.noex b o e),I.base.free b o (I.ok.bs b o e).1 (I.ok.bs b o e).2 (I.ok.noex b o e)⟩
theorem Inv.bk (I:Inv X pins σ H s):∀ b o,X.base.get? b=some o->s.heap.get? b=some o:=λb o e=>(I.bs b o e).1
theorem Inv.mod (I:Inv X pins σ H s):Mod X.K X.mg X.base:=I.ok.mod
theorem Inv.kIn (I:Inv X pins σ H s):X.K.In s.heap:=I.ok.mod.kin.keeps I.bk
theorem Inv.lt (I:Inv X pins σ H s):X.env.locals<s.heap.objs.size:=let ⟨_,a,_⟩:=I.loc;a.lt
theorem Inv.sz (I:Inv X pins σ H s):X.s₀.heap.objs.size<=s.heap.objs.size:=JW I.ok.above (Nat.le_of_lt I.lt)
theorem Inv.nofs (I:Inv X pins σ H s) {a:Addr}(h:s.heap.objs.size<=a):a∉X.fs:=λhb=>by
  obtain⟨_,o,b,_⟩:=I.ok.funs.mem hb
  exact absurd (JM (Jq b) (JW I.sz h)) (YL _)
theorem Inv.cne (I:Inv X pins σ H s):∀ x c,X.env.cells.lookup x=some c->c≠X.env.locals:=λx c e z=>by
  obtain⟨v,o,d,hd⟩:=I.cell x c e
  obtain⟨m,⟨o',es,ep,a,b,_⟩,_⟩:=I.loc
  rw[z,a]at d;cases d;rw[b]at hd;cases hd
theorem Inv.funs (I:Inv X pins σ H s):s.heap.FunFrames X.base X.outer:=by
  have all:∀ (l:List Env),(∀ b∈frs l,b∈X.fs)->X.s₀.heap.FunFrames X.base l->s.heap.FunFrames X.base l:=by
    intro l
    induction l with
    | nil=>intro _ _;trivial
    | cons env r ih =>
      intro d i
      obtain⟨j,⟨L,o,a,h,g,hd⟩,f⟩:=i
      have c:L∈X.fs:=d L (by unfold frs;rw[List.filterMap_cons,a];exact JJ)
      obtain⟨sl,e⟩:=I.base.slot L o g (I.ok.frf L c) c λz=>I.ok.exfs L z c
      exact⟨j,⟨L,_,a,h,e,hd⟩,ih (λb hb=>d b (by unfold frs;rw[List.filterMap_cons,a];exact JH _ hb)) f⟩
  exact all X.outer (λ_ hb=>hb) I.ok.funs
theorem Inv.stack (I:Inv X pins σ H s):s.heap.FunFrames X.base X.stack:=by
  rcases I.ok.stk with e|⟨e,b⟩
  · rw[e];exact I.funs
  · rw[e]
    obtain⟨m,a,_⟩:=I.loc
    refine .cons (by rw[I.ok.kind];decide) b a ?_ I.funs
    exact Heap.get?_none_of_le (JW I.ok.bsz I.ok.above)
theorem Inv.stkSub (I:Inv X pins σ H s):∀ b∈frs X.stack,b∈X.env.locals::X.fs:=λb hb=>by
  rcases I.ok.stk with e|⟨e,a⟩
  · rw[e]at hb;exact JH _ hb
  · rw[e]at hb
    unfold frs at hb
    rw[List.filterMap_cons,a]at hb
    exact hb
theorem Inv.stkFree (I:Inv X pins σ H s):∀ b∈frs X.stack,H b=none:=λb hb=>by
  rcases Ju.mp (I.stkSub b hb) with e|hb
  · rw[e];exact I.free
  · obtain⟨_,o,a,_⟩:=I.ok.funs.mem hb
    exact I.base.free b o a (I.ok.frf b hb) λz=>I.ok.exfs b z hb
theorem Inv.step {g':Array GenState}{t':Nat}{d':Drawn}{ch:List Addr}(I:Inv X pins σ H s)
    (g:∀ b∈ch,(b∈X.ex\/X.s₀.heap.objs.size<=b)/\b≠X.env.locals/\(∀ x c,X.env.cells.lookup x=some c->c≠b)/\∀ p∈X.pn++pins,p.1≠b)
    (keep:∀ b o,b≠X.env.locals->b∉X.fs->b∉ch->s.heap.get? b=some o->H b=none->h'.get? b=some o)
    (slot:∀ b o,b≠X.env.locals->b∈X.fs->b∉ch->s.heap.get? b=some o->H b=none->∃ sl,h'.get? b=some { o with slots:=sl }) (free:∀ b o,b∉ch->s.heap.get? b=some o->H b=none->H' b=none)
    (there:∀ b o,b∉ch->s.heap.get? b=some o->∃ o',h'.get? b=some o')
    (tups:∀ b xs,H b=some (.tup xs)->H' b=some (.tup xs)) (frzs:∀ b o u,H b=some (.frz o u)->H' b=some (.frz o u)) (tbls:∀ b ps,H b=some (.tbl ps)->∃ more,H' b=some (.tbl (ps++more)))
    (ns:∀ m,s.heap.Ns X.env.locals m->h'.Ns X.env.locals m) (hok:HOk X.prog X.w H' h') (J:AllBare g') :
    Inv X pins σ H' { s with heap:=h',gens:=g',drawn:=d',toks:=t' }:=by
  have w:∀ b o,X.s₀.heap.get? b=some o->b≠X.env.locals:=λb o e=>JF (JM (Jq e) I.ok.above)
  have j:∀ b o,X.s₀.heap.get? b=some o->b∉X.ex->b∉ch:=λb o e a hb=>by
    rcases (g b hb).1 with z|z
    · exact a z
    · exact absurd (JM (Jq e) z) (YL _)
  have cellK:∀ x c,X.env.cells.lookup x=some c->∀ v,s.heap.IsCell c v->h'.IsCell c v:=λx c e v ⟨o,t,hd⟩=>by
    have f:c∉ch:=λz=>(g c z).2.2.1 x c e rfl
    by_cases C:c∈X.fs
    · obtain⟨sl,q⟩:=slot c o (I.cne x c e) C f t (I.freeC x c e)
      exact⟨_,q,hd⟩
    · exact⟨o,keep c o (I.cne x c e) C f t (I.freeC x c e),hd⟩
  refine⟨I.ok,I.os,J,⟨λb o e n hb a=>?_,λb o e n hb a=>?_,λb o e n a=>?_,λb o e a=>?_,λb xs e=>tups b xs (I.base.tups b xs e),λb o xs e=>frzs b o xs (I.base.frzs b o xs e),λb ps e=>?_⟩,?_,λx c e=>?_,?_,λx c e=>?_,λp B=>?_,hok,I.len⟩
  · exact keep b o (w b o e) hb (j b o e a) (I.base.keep b o e n hb a) (I.base.free b o e n a)
  · obtain⟨sl,h⟩:=I.base.slot b o e n hb a
    obtain⟨y,e2⟩:=slot b _ (w b o e) hb (j b o e a) h (I.base.free b o e n a)
    exact⟨y,e2⟩
  · obtain⟨o',h⟩:=I.base.there b o e a
    exact free b o' (j b o e a) h (I.base.free b o e n a)
  · obtain⟨o',h⟩:=I.base.there b o e a
    exact there b o' (j b o e a) h
  · obtain⟨E,h⟩:=I.base.tbls b ps e
    obtain⟨D,e2⟩:=tbls b _ h
    exact⟨E++D,by rw[e2,Array.append_assoc]⟩
  · obtain⟨m,F,G⟩:=I.loc
    refine⟨m,ns m F,λi x v h e2 K=>?_⟩
    obtain⟨u,r,l⟩:=G i x v h e2 K
    refine⟨u,r,?_⟩
    rcases l with l|⟨k,c,e,z⟩
    · exact .inl l
    · exact .inr ⟨k,c,e,cellK x c e _ z⟩
  · obtain⟨v,z⟩:=I.cell x c e
    exact⟨v,cellK x c e v z⟩
  · obtain⟨m,⟨o,_,_,t,_⟩,_⟩:=I.loc
    exact free _ o (λz=>(g _ z).2.1 rfl) t I.free
  · obtain⟨v,o,t,hd⟩:=I.cell x c e
    exact free c o (λz=>(g c z).2.2.1 x c e rfl) t (I.freeC x c e)
  · obtain⟨e,n,ne,A,d⟩:=I.pin p B
    have f:p.1∉ch:=λz=>(g p.1 z).2.2.2 p B rfl
    exact⟨keep p.1 p.2 ne A f e n,free p.1 p.2 f e n,ne,A,d⟩
theorem Inv.un {t':Nat}(I:Inv X pins σ H s) (u:Un X.fs [] H H' s.heap h') (hok:HOk X.prog X.w H' h'):Inv X pins σ H' { s with heap:=h',toks:=t' }:=by
  obtain⟨m,⟨o,es,ep,f,r⟩,_⟩:=id I.loc
  obtain⟨sl,i⟩:=u.any f I.free (by simp)
  exact I.step (g':=s.gens) (d':=s.drawn) (ch:=[]) (λ_ z=>nomatch z) (λb o _ hb _ e n=>u.keep b o e n hb (by simp)) (λb o _ hb _ e n=>u.slot b o e n hb (by simp)) (λb o _ e n=>u.free b o e n (by simp)) (λb o _ e=>u.there b o e (by simp)) u.tups u.frzs u.tbls (λj h=>by
    obtain⟨o',c,d,a,g⟩:=h
    rw[f]at a;cases a
    exact⟨_,c,d,i,g⟩) hok I.bare
theorem Inv.call {g':Array GenState}{t':Nat}{d':Drawn}{ch:List Addr}(I:Inv X pins σ H s) (u:Un (frs X.stack) ch H H' s.heap h') (hok:HOk X.prog X.w H' h') (q:AllBare g')
    (f:∀ b∈ch,(b∈X.ex\/X.s₀.heap.objs.size<=b)/\b≠X.env.locals/\(∀ x c,X.env.cells.lookup x=some c->c≠b)/\∀ p∈X.pn++pins,p.1≠b) :
    Inv X pins σ H' { s with heap:=h',gens:=g',drawn:=d',toks:=t' }:=by
  obtain⟨m,⟨o,es,ep,j,r⟩,_⟩:=id I.loc
  obtain⟨sl,g⟩:=u.any j I.free λz=>(f _ z).2.1 rfl
  exact I.step (ch:=ch) f (λb o g hb a e n=>u.keep b o e n (λz=>(Ju.mp (I.stkSub b z)).elim g hb) a) (λb o _ _ a e n=>u.any e n a) (λb o a e n=>u.free b o e n a) (λb o a e=>u.there b o e a) u.tups u.frzs u.tbls (λt l=>by
    obtain⟨o',h,i,d,k⟩:=l
    rw[j]at d;cases d
    exact⟨_,h,i,g,k⟩) hok q
theorem Inv.turned {t':Nat}{it:Addr}(I:Inv X pins σ H s) (k:∀ b o,b≠it->s.heap.get? b=some o->h'.get? b=some o) (h:H it=none) (f:it≠X.env.locals)
    (h1:it∈X.ex\/X.s₀.heap.objs.size<=it) (l:∀ x c,X.env.cells.lookup x=some c->c≠it) (j:∀ p∈X.pn++pins,p.1≠it):Inv X pins σ H { s with heap:=h',toks:=t' }:=by
  have d:∀ b u,H b=some u->b≠it:=λb u e z=>by rw[z,h]at e;cases e
  refine I.step (g':=s.gens) (d':=s.drawn) (ch:=[it]) (λb hb=>?_) (λb o _ _ a e _=>k b o (λz=>a (by simp[z])) e) (λb o _ _ a e _=>⟨o.slots,k b o (λz=>a (by simp[z])) e⟩) (λ_ _ _ _ n=>n)
    (λb o a e=>⟨o,k b o (λz=>a (by simp[z])) e⟩) (λ_ _ e=>e) (λ_ _ _ e=>e) (λb ps e=>⟨#[],by rw[e];simp⟩) (λm i=>?_) (λb u e=>?_) I.bare
  · have e:b=it:=by simpa using hb
    subst e
    exact⟨h1,f,l,j⟩
  · obtain⟨o,es,ep,g,r⟩:=i
    exact⟨o,es,ep,k _ o (Ne.symm f) g,r⟩
  · refine(I.hok b u e).stay (λc v a q=>k c v ?_ q) (λ_ q=>q) λ_ _ q=>q
    rcases a with z|z
    · rw[z];exact d b u e
    · exact d c _ z
theorem Inv.tok (I:Inv X pins σ H s) (t:Nat):Inv X pins σ H { s with toks:=t }:=I.un (h':=s.heap) (t':=t) Un.refl I.hok
theorem Inv.kept {t':Nat}(I:Inv X pins σ H s) (k:∀ b u,s.heap.get? b=some u->h'.get? b=some u):Inv X pins σ H { s with heap:=h',toks:=t' }:=I.un (Un.kept k) (I.hok.kept k)
theorem Inv.laid {a:Addr}{o:HO}{t':Nat}(I:Inv X pins σ H s) (k:∀ b u,s.heap.get? b=some u->h'.get? b=some u) (c:s.heap.objs.size<=a) (new:ObjOk X.prog X.w (upd H a o) h' a o) :
    Inv X pins σ (upd H a o) { s with heap:=h',toks:=t' }:=I.un (Un.laid k c (I.hok.fresh c)) (I.hok.laid k c new)
theorem Inv.write {x e:Addr}{o:HO}{t':Nat}(I:Inv X pins σ H s) (c:Mut (H x)) (d:e=x\/H e=some (.own x)) (k:∀ b u,b≠e->s.heap.get? b=some u->h'.get? b=some u) (a:∃ u,h'.get? e=some u)
    (new:ObjOk X.prog X.w (upd H x o) h' x o):Inv X pins σ (upd H x o) { s with heap:=h',toks:=t' }:=I.un (Un.write c d k a) (I.hok.write c d k a new)
theorem Inv.pins_of {a:List (Addr × Obj)}(I:Inv X pins σ H s) (h:∀ p∈a,s.heap.get? p.1=some p.2/\H p.1=none/\p.1≠X.env.locals/\p.1∉X.fs/\∀ v,p.2.data≠.cell v):Inv X a σ H s :=
  ⟨I.ok,I.os,I.bare,I.base,I.loc,I.cell,I.free,I.freeC,λp b=>(Jz.mp b).elim (λz=>I.pin p (Yh _ z)) (h p),I.hok,I.len⟩
theorem zgu {N:List Str}(c:N.Nodup) {i j:Nat}{x:Str}(a:N[i]?=some x) (b:N[j]?=some x):i=j:=by
  obtain⟨h1,d⟩:=Jd.mp a
  obtain⟨e,e2⟩:=Jd.mp b
  exact(List.getElem_inj c).mp (d.trans e2.symm)
theorem zeD {M:Model}{A:Around}{E:Value->Shared->Prop}{i:Nat}{x:Str}{v:V}{u:Value}{Q:Unit->Shared->Prop}(I:Inv X pins σ H s) (hN:X.N.Nodup) (hi:X.N[i]?=some x) (t:Loc X.env.scope x) (r:RelV v u)
    (h:∀ s',Inv X pins (σ.set i (some v)) H s'->(∃ a,Heap.SameBut a s.heap s'.heap/\(a=X.env.locals\/X.env.cells.lookup x=some a))->Q () s') (hf:X.fn x=true\/X.env.scope.names.lookup x=some .local:=by first|exact .inl rfl|exact .inr rfl|assumption):wpAny M A (storeName X.env x u) Q E s:=by
  obtain⟨m,Y,hl⟩:=id I.loc
  have N:(X.env.scope.kind == .class || (X.env.scope.kind == .module && X.env.locals != X.env.globals))=false:=by rw[I.ok.kind];rfl
  have C:i<σ.length:=by rw[I.len];exact(Jd.mp hi).1
  have cne:=I.cne
  have tracked:∀ {a:Addr}{h':Heap},(∃ o,s.heap.get? a=some o/\H a=none)->Heap.SameBut a s.heap h'->HOk X.prog X.w H h':=λ{a h'} ha f b ob e=>by
    obtain⟨_,_,w⟩:=ha
    refine(I.hok b ob e).stay (λc O l q=>(f.2 c ?_).trans q) (λ_ q=>q) λ_ _ q=>q
    rintro rfl
    rcases l with rfl|l
    · rw[w]at e;cases e
    · rw[w]at l;cases l
  rcases t with B|B
  · refine wpAny_storeName_local B Y (λh' ab f=>?_) N
    obtain⟨oL,_,_,aa,_⟩:=id Y
    refine h _ ⟨I.ok,I.os,I.bare,⟨λb o e n hb t=>?_,λb o e n hb t=>?_,I.base.free,λb o e t=>?_,I.base.tups,I.base.frzs,I.base.tbls⟩,⟨_,ab,λj y R g e2 Z=>?_⟩,λy c e=>?_,I.free,I.freeC,λp W=>?_,tracked ⟨oL,aa,I.free⟩ f,by simpa using I.len⟩ ⟨_,f,.inl rfl⟩
    · exact(f.2 b (JF (JM (Jq e) I.ok.above))).trans (I.base.keep b o e n hb t)
    · obtain⟨sl,g⟩:=I.base.slot b o e n hb t
      exact⟨sl,(f.2 b (JF (JM (Jq e) I.ok.above))).trans g⟩
    · obtain⟨o',g⟩:=I.base.there b o e t
      exact⟨o',(f.2 b (JF (JM (Jq e) I.ok.above))).trans g⟩
    · by_cases D:j=i
      · subst D
        rw[hi]at g;cases g
        rw[List.getElem?_set_self C]at e2
        cases e2
        exact⟨u,r,.inl ⟨B,by simp⟩⟩
      · rw[Z7 (Ne.symm D)]at e2
        obtain⟨S,T,q⟩:=hl j y R g e2 Z
        refine⟨S,T,?_⟩
        rcases q with ⟨k,e⟩|⟨k,c,e,z⟩
        · refine .inl ⟨k,?_⟩
          have:y≠x:=λe=>D (zgu hN g (e ▸ hi))
          simp[this,e]
        · exact .inr ⟨k,c,e,z.sameBut f (cne y c e)⟩
    · obtain⟨O,z⟩:=I.cell y c e
      exact⟨O,z.sameBut f (cne y c e)⟩
    · obtain⟨e,n,ne,U,d⟩:=I.pin p W
      exact⟨(f.2 p.1 ne).trans e,n,ne,U,d⟩
  · have F:X.fn x=true:=by
      rcases hf with z|z
      · exact z
      · rw[z]at B;cases B
    obtain⟨c,l⟩:=I.ok.has x (.inl B)
    obtain⟨O,z⟩:=I.cell x c l
    refine wpAny_storeName_cell I.ok.kind B l z (λh' K f=>?_)
    obtain⟨oc,G,L⟩:=id z
    refine h { s with heap:=h' } ⟨I.ok,I.os,I.bare,⟨λb o e n hb t=>?_,λb o e n hb t=>?_,I.base.free,λb o e t=>?_,I.base.tups,I.base.frzs,I.base.tbls⟩,⟨m,Y.sameBut f (Ne.symm (cne x c l)),λj y R g e2 Z=>?_⟩,λy P e=>?_,I.free,I.freeC,λp W=>?_,tracked ⟨oc,G,I.freeC x c l⟩ f,by simpa using I.len⟩ ⟨c,f,.inr l⟩
    · exact(f.2 b (JF (JM (Jq e) (I.ok.cab x c F l)))).trans (I.base.keep b o e n hb t)
    · obtain⟨sl,g⟩:=I.base.slot b o e n hb t
      exact⟨sl,(f.2 b (JF (JM (Jq e) (I.ok.cab x c F l)))).trans g⟩
    · obtain⟨o',g⟩:=I.base.there b o e t
      exact⟨o',(f.2 b (JF (JM (Jq e) (I.ok.cab x c F l)))).trans g⟩
    · by_cases D:j=i
      · subst D
        rw[hi]at g;cases g
        rw[List.getElem?_set_self C]at e2
        cases e2
        exact⟨u,r,.inr ⟨.inl B,c,l,K⟩⟩
      · rw[Z7 (Ne.symm D)]at e2
        obtain⟨S,T,q⟩:=hl j y R g e2 Z
        refine⟨S,T,?_⟩
        rcases q with q|⟨k,P,e,z'⟩
        · exact .inl q
        · refine .inr ⟨k,P,e,z'.sameBut f ?_⟩
          rintro rfl
          exact D (zgu hN g (I.ok.inj _ _ _ e l ▸ hi))
    · by_cases J:P=c
      · subst J;exact⟨_,K⟩
      · obtain⟨w2,z2⟩:=I.cell y P e
        exact⟨w2,z2.sameBut f J⟩
    · obtain⟨e,n,ne,U,d⟩:=I.pin p W
      refine⟨(f.2 p.1 ?_).trans e,n,ne,U,d⟩
      intro q
      rw[q,G]at e
      have q':oc=p.2:=Jr e
      exact d O (by rw[<- q'];exact L)
theorem zbD {M:Model}{A:Around}{E:Value->Shared->Prop}{i:Nat}{x:Str}{v:V}{u:Value}{Q:Unit->Shared->Prop}(I:Inv X pins σ H s) (c:X.N.Nodup) (hi:X.N[i]?=some x) (a:Loc X.env.scope x) (r:RelV v u)
    (h:∀ s',Inv X pins (σ.set i (some v)) H s'->Q () s') (b:X.fn x=true\/X.env.scope.names.lookup x=some .local:=by first|exact .inl rfl|exact .inr rfl|assumption):wpAny M A (storeName X.env x u) Q E s :=
  zeD I c hi a r (λs' d _=>h s' d) b
theorem Inv.call' {s':Shared}{ch:List Addr}(I:Inv X pins σ H s) (d:s'.os=s.os) (u:Un (frs X.stack) ch H H' s.heap s'.heap) (hok:HOk X.prog X.w H' s'.heap) (f:AllBare s'.gens)
    (a:∀ b∈ch,(b∈X.ex\/X.s₀.heap.objs.size<=b)/\b≠X.env.locals/\(∀ x c,X.env.cells.lookup x=some c->c≠b)/\∀ p∈X.pn++pins,p.1≠b):Inv X pins σ H' s':=by
  obtain⟨h',g',d',t',o'⟩:=s'
  have e:o'=s.os:=d
  subst e
  exact I.call (g':=g') (t':=t') (d':=d') u hok f a
end
abbrev XK:=Value->Option Addr->Hp->Prop
abbrev St:=List (Option V)
abbrev VK:=V->Hp->Prop
abbrev TE:=St->Hp->VK->Prop
abbrev TT:=St->Hp->(Bool->Hp->Prop)->Prop
abbrev TA:=St->Hp->(List V->Hp->Prop)->Prop
structure Ends where
  nx:St->Hp->Prop
  rt:VK
  bk:St->Hp->Prop:=λ_ _=>False
  ct:St->Hp->Prop:=λ_ _=>False
abbrev TS:=Ends->St->Hp->Prop
def EP (X:Cx) (pins:List (Addr × Obj)) (σ:St) (Q:VK) (u:Value) (s':Shared):Prop:=∃ v H',Inv X pins σ H' s'/\RelV v u/\Q v H'
def TP (X:Cx) (pins:List (Addr × Obj)) (σ:St) (Q:Bool->Hp->Prop) (b:Bool) (s':Shared):Prop:=∃ H',Inv X pins σ H' s'/\Q b H'
def AP (X:Cx) (pins:List (Addr × Obj)) (σ:St) (Q:List V->Hp->Prop) (us:List Value) (s':Shared):Prop:=∃ vs H',Inv X pins σ H' s'/\Vals vs us/\Q vs H'
def SP (X:Cx) (pins:List (Addr × Obj)) (D:Ends) (f:Flow) (s':Shared):Prop :=
  match f with
  | .next=>∃ a H',Inv X pins a H' s'/\D.nx a H'
  | .brk=>∃ a H',Inv X pins a H' s'/\D.bk a H'
  | .cont=>∃ a H',Inv X pins a H' s'/\D.ct a H'
  | .ret u=>∃ v a H',Inv X pins a H' s'/\RelV v u/\D.rt v H'
def PE (X:Cx) (e:Expr) (t:TE):Prop :=
  ∀ (pins:List (Addr × Obj)) (s:Shared) (σ:St) (H:Hp) (Q:VK),Inv X pins σ H s->t σ H Q->wpAny (model X.prog X.w) X.A (eval e X.env) (EP X pins σ Q) X.xe s
def PT (X:Cx) (e:Expr) (t:TT):Prop :=
  ∀ (pins:List (Addr × Obj)) (s:Shared) (σ:St) (H:Hp) (Q:Bool->Hp->Prop),Inv X pins σ H s->t σ H Q->wpAny (model X.prog X.w) X.A (isTrue e X.env (eval e X.env)) (TP X pins σ Q) X.xe s
def PW (X:Cx) (e:Expr) (t:TT):Prop :=
  ∀ (whole:Sem Value) (pins:List (Addr × Obj)) (s:Shared) (σ:St) (H:Hp) (Q:Bool->Hp->Prop),Inv X pins σ H s->t σ H Q->wpAny (model X.prog X.w) X.A (isTrue e X.env whole) (TP X pins σ Q) X.xe s
theorem PW.pt {X:Cx}{e:Expr}{t:TT}(h:PW X e t):PT X e t:=h _
def PA (X:Cx) (es:List Expr) (t:TA):Prop :=
  ∀ (pos:Pos) (pins:List (Addr × Obj)) (s:Shared) (σ:St) (H:Hp) (Q:List V->Hp->Prop),Inv X pins σ H s->t σ H Q->wpAny (model X.prog X.w) X.A (spliced (backTo pos (starEach es X.env))) (AP X pins σ Q) X.xe s
def PS (X:Cx) (st:Stmt) (t:TS):Prop :=
  ∀ (pins:List (Addr × Obj)) (s:Shared) (σ:St) (H:Hp) (D:Ends),Inv X pins σ H s->t D σ H->wpAny (model X.prog X.w) X.A (exec st X.env) (SP X pins D) X.xe s
def PSs (X:Cx) (st:List Stmt) (t:TS):Prop :=
  ∀ (pins:List (Addr × Obj)) (s:Shared) (σ:St) (H:Hp) (D:Ends),Inv X pins σ H s->t D σ H->wpAny (model X.prog X.w) X.A (execs st X.env) (SP X pins D) X.xe s
theorem thn {α:Type}{t:Sem α}{Q b:α->Shared->Prop}{M:Model}{A:Around}{E:Value->Shared->Prop}{s:Shared}(h:wpAny M A t Q E s) (c:∀ a s,Q a s->b a s):wpAny M A t b E s:=JU h c λ_ _ x=>x
section
variable {X:Cx}
def tVar (i:Nat):TE:=λσ H Q=>∃ v,σ[i]?=some (some v)/\Q v H
def tC (v:V):TE:=λ_ H Q=>Q v H
theorem zmH {i:Nat}{x:Str}{pos:Pos}(o:X.N[i]?=some x) (g:Vis X.env.scope x) (hd:(x == ("__debug__":Str))=false:=by decide) (d:(x == ("__classdict__":Str))=false:=by decide):PE X (.Name x pos) (tVar i):=by
  intro pins s σ H Q I h
  obtain⟨v,e,h⟩:=h
  obtain⟨m,j,n⟩:=I.loc
  obtain⟨u,r,l⟩:=n i x v o e g
  have fin:EP X pins σ Q u s:=⟨v,H,I,r,h⟩
  rcases l with ⟨b,k⟩|⟨b,c,f,a⟩
  · exact wpAny_Name (wpAny_loadName_local I.ok.kind b j k fin) hd
  · rcases b with b|b
    · exact wpAny_Name (wpAny_loadName_cell I.ok.kind b f a fin) hd
    · exact wpAny_Name (wpAny_loadName_free I.ok.kind b f a fin d) hd
theorem zae {i j pos}:PE X (.Constant (.int i) j pos) (tC (.int i)):=λ_ _ _ H _ I h=>wpAny_Constant_int ⟨.int i,H,I.tok _,⟨_,rfl⟩,h⟩
theorem zih {b j pos}:PE X (.Constant (.bool b) j pos) (tC (.bl b)):=λ_ _ _ H _ I h=>Constant_bool ⟨.bl b,H,I,rfl,h⟩
theorem zie {j pos}:PE X (.Constant .none j pos) (tC .non):=λ_ _ _ H _ I h=>Constant_none ⟨.non,H,I,rfl,h⟩
theorem zcp {x j pos}:PE X (.Constant (.str x) j pos) (tC (.str x)):=λ_ _ _ H _ I h=>Calls.Constant_str ⟨.str x,H,I.tok _,⟨_,rfl⟩,h⟩
def Gl (X:Cx) (x:Str):Prop:=X.env.kindOf x=some .globalImplicit
theorem ziS {E:Value->Shared->Prop}{pins:List (Addr × Obj)}{s:Shared}{σ:St}{H:Hp}{x:Str}{u:Value}{pos:Pos}{Q:Value->Shared->Prop}(I:Inv X pins σ H s) (b:Gl X x) (a:X.mg x=some u) (h:Q u s)
    (hd:(x == ("__debug__":Str))=false:=by decide):wpAny (model X.prog X.w) X.A (eval (.Name x pos) X.env) Q E s :=
  Calls.Name_function_global I.ok.kind b (Calls.loadGlobal_global (by rw[I.ok.glob];exact I.mod.glob.keeps I.bk) a h) hd
theorem zb5 {E:Value->Shared->Prop}{pins:List (Addr × Obj)}{s:Shared}{σ:St}{H:Hp}{x:Str}{u:Value}{pos:Pos}{Q:Value->Shared->Prop}(I:Inv X pins σ H s) (d:Gl X x) (c:X.mg x=none) (a:bootBuiltins x=some u) (h:Q u s)
    (b:x≠"__name__":=by decide) (hd:(x == ("__debug__":Str))=false:=by decide):wpAny (model X.prog X.w) X.A (eval (.Name x pos) X.env) Q E s:=by
  obtain⟨mb,h1,e⟩:=I.mod.blt
  exact Calls.Name_function_global I.ok.kind d (Calls.loadGlobal_builtin (by rw[I.ok.glob];exact I.mod.glob.keeps I.bk) c (by rw[I.ok.blt];exact h1.keeps I.bk) ((e x b).trans a) h) hd
variable {a b:Expr}{ta tb:TE}{pos:Pos}
def tB (t:TE):TT:=λσ H Q=>t σ H λx H1=>∃ c,x=.bl c/\Q c H1
theorem zk6 {e:Expr}{t:TE}(h:PE X e t) (f:∀ whole,isTrue e X.env whole=(do let v <- whole;standAt e.pos;holding [v] (truthy v)):=by intro _;rfl):PT X e (tB t):=by
  intro pins s σ H Q I c
  refine isTrue_plain (thn (h pins s σ H _ I c) λv s1 ⟨x,H1,g,a,b⟩=>?_) (f _)
  obtain⟨d,rfl,q⟩:=b
  cases a
  exact YM ⟨H1,g,q⟩
variable {tA tB':TT}{rest:List Expr}
def tAnd (t u:TT):TT:=λσ H Q=>t σ H λc H1=>if c=true then u σ H1 Q else Q false H1
def tOr (t u:TT):TT:=λσ H Q=>t σ H λc H1=>if c=true then Q true H1 else u σ H1 Q
def tNot (t:TT):TT:=λσ H Q=>t σ H λc H1=>Q (!c) H1
theorem zlF (ha:PT X a tA):PW X (.BoolOp .And [a] pos) tA:=by
  intro b pins s σ H Q I h
  refine isTrue_and (thn (ha pins s σ H Q I h) λc s1 e=>?_)
  cases c with
  | true=>exact isTrue_and_nil e
  | false=>exact e
theorem zk4 (ha:PT X a tA):PW X (.BoolOp .Or [a] pos) tA:=by
  intro b pins s σ H Q I h
  refine isTrue_or (thn (ha pins s σ H Q I h) λc s1 e=>?_)
  cases c with
  | false=>exact isTrue_or_nil e
  | true=>exact e
theorem zk5 (ha:PT X a tA) (hb:PW X (.BoolOp .And (b::rest) pos) tB'):PW X (.BoolOp .And (a::b::rest) pos) (tAnd tA tB'):=by
  intro f pins s σ H Q I h
  refine isTrue_and (thn (ha pins s σ H _ I h) λc s1 ⟨H1,e,d⟩=>?_)
  cases c with
  | true=>exact hb f pins s1 σ H1 Q e d
  | false=>exact⟨H1,e,d⟩
theorem zmF (ha:PT X a tA) (hb:PW X (.BoolOp .Or (b::rest) pos) tB'):PW X (.BoolOp .Or (a::b::rest) pos) (tOr tA tB'):=by
  intro f pins s σ H Q I h
  refine isTrue_or (thn (ha pins s σ H _ I h) λc s1 ⟨H1,e,d⟩=>?_)
  cases c with
  | true=>exact⟨H1,e,d⟩
  | false=>exact hb f pins s1 σ H1 Q e d
theorem zmG (ha:PT X a tA):PT X (.UnaryOp .Not a pos) (tNot tA):=by
  intro pins s σ H Q I h
  exact isTrue_not (ha pins s σ H (λc H1=>Q (!c) H1) I h)
def znu (ta tb:TE):TE:=λσ H Q=>ta σ H λx H1=>∃ c,x=.bl c/\if c=true then tb σ H1 Q else Q (.bl false) H1
def tOrV (ta tb:TE):TE:=λσ H Q=>ta σ H λx H1=>∃ c,x=.bl c/\if c=true then Q (.bl true) H1 else tb σ H1 Q
theorem zk8 {op} {t:TE}(h:PE X a t):PE X (.BoolOp op [a] pos) t:=λpins s σ H Q I b=>BoolOp_one (h pins s σ H Q I b)
theorem zmL (ha:PE X a ta) (hb:PE X (.BoolOp .And (b::rest) pos) tb):PE X (.BoolOp .And (a::b::rest) pos) (znu ta tb):=by
  intro pins s σ H Q I h
  refine BoolOp_and (thn (ha pins s σ H _ I h) λv s1 ⟨x,H1,e,f,d⟩=>?_)
  obtain⟨c,rfl,d⟩:=d
  cases f
  refine YM ?_
  cases c with
  | true=>exact hb pins s1 σ H1 Q e d
  | false=>exact⟨.bl false,H1,e,rfl,d⟩
theorem zmI (ha:PE X a ta) (hb:PE X (.BoolOp .Or (b::rest) pos) tb):PE X (.BoolOp .Or (a::b::rest) pos) (tOrV ta tb):=by
  intro pins s σ H Q I h
  refine BoolOp_or (thn (ha pins s σ H _ I h) λv s1 ⟨x,H1,e,f,d⟩=>?_)
  obtain⟨c,rfl,d⟩:=d
  cases f
  refine YM ?_
  cases c with
  | false=>exact hb pins s1 σ H1 Q e d
  | true=>exact⟨.bl true,H1,e,rfl,d⟩
def tIf (t:TT) (ta tb:TE):TE:=λσ H Q=>t σ H λc H1=>if c=true then ta σ H1 Q else tb σ H1 Q
theorem zej {c:Expr}(g:PT X c tA) (ha:PE X a ta) (hb:PE X b tb):PE X (.IfExp c a b pos) (tIf tA ta tb):=by
  intro pins s σ H Q I h
  refine wpAny_IfExp (thn (g pins s σ H _ I h) λd s1 ⟨H1,f,e⟩=>?_)
  cases d with
  | true=>exact ha pins s1 σ H1 Q f e
  | false=>exact hb pins s1 σ H1 Q f e
end
def SqL (K:PySem.W.Frag) (H:Hp) (a:Addr) (xs:List V):Prop :=
  Rd H a (.lst xs) \/
    ∃ (o:Obj) (its:Array Value) (n:Nat),K.lookup a=some o/\o.cls=.type "list"/\o.dict=none/\o.data=.seq its n/\its.size<=sizeLine/\Vals xs its.toList
def SqT (K:PySem.W.Frag) (H:Hp) (a:Addr) (xs:List V):Prop :=
  Rd H a (.tup xs) \/
    ∃ (o:Obj) (its:Array Value) (n:Nat),K.lookup a=some o/\o.cls=.type "tuple"/\o.data=.seq its n/\its.size<=sizeLine/\Vals xs its.toList
def absV:Value->Option V
  | .none=>some .non
  | .bool b=>some (.bl b)
  | .int i _=>some (.int i)
  | .str x _=>some (.str x)
  | .bytes b _=>some (.byt b)
  | .float b _=>some (.flt b)
  | .ref a=>some (.ref a)
  | .type n=>some (.ty n)
  | _=>none
theorem RelV.abs {x:V}{u:Value}(r:RelV x u):absV u=some x:=by
  cases x with
  | non=>cases r;rfl
  | bl _=>cases r;rfl
  | int _=>obtain⟨t,rfl⟩:=r;rfl
  | str _=>obtain⟨t,rfl⟩:=r;rfl
  | byt _=>obtain⟨t,rfl⟩:=r;rfl
  | flt _=>obtain⟨t,rfl⟩:=r;rfl
  | ref _=>cases r;rfl
  | ty _=>cases r;rfl
theorem RelV.inj {x y:V}{u:Value}(r:RelV x u) (q:RelV y u):x=y:=Jr (r.abs.symm.trans q.abs)
theorem Vals.inj:∀ {xs ys:List V}{us:List Value},Vals xs us->Vals ys us->xs=ys
  | _,_,_,.nil,.nil=>rfl
  | _,_,_,.cons r t,.cons a t'=>by rw[r.inj a,Vals.inj t t']
section
variable {X:Cx}{pins:List (Addr × Obj)}{σ:St}{H:Hp}{s:Shared}{a:Addr}{xs ys:List V}
theorem SqL.of {K:PySem.W.Frag}(h:H a=some (.lst xs)):SqL K H a xs:=.inl (.inl h)
theorem SqT.of {K:PySem.W.Frag}(h:H a=some (.tup xs)):SqT K H a xs:=.inl (.inl h)
theorem Inv.list (I:Inv X pins σ H s) (h:SqL X.K H a xs):∃ its:List Value,Vals xs its/\PlainL s.heap a its.toArray/\xs.length<=sizeLine:=by
  rcases h with h|⟨o,its,n,c,d,hd,b,f,r⟩
  · obtain⟨z,its,n,r,e⟩:=h.ok I.hok
    exact⟨its,r,⟨_,n,e,rfl,rfl,rfl⟩,z⟩
  · refine⟨its.toList,r,⟨o,n,I.kIn a o c,d,hd,by simpa using b⟩,?_⟩
    have e:=r.length
    simp only[JC]at e
    omega
theorem Inv.tuple (I:Inv X pins σ H s) (h:SqT X.K H a xs):∃ its:List Value,Vals xs its/\IsTup s.heap a its.toArray/\xs.length<=sizeLine:=by
  rcases h with h|⟨o,its,n,c,d,b,f,r⟩
  · obtain⟨z,its,r,p⟩:=h.ok I.hok
    exact⟨its,r,p.tup,z⟩
  · refine⟨its.toList,r,⟨o,I.kIn a o c,d,n,by simpa using b⟩,?_⟩
    have e:=r.length
    simp only[JC]at e
    omega
theorem Inv.list_inj (I:Inv X pins σ H s) (h:SqL X.K H a xs) (h':SqL X.K H a ys):xs=ys:=by
  obtain⟨its,r,⟨o,n,e,_,_,d⟩,_⟩:=I.list h
  obtain⟨its',c,⟨o',g,b,_,_,d'⟩,_⟩:=I.list h'
  rw[e]at b;cases b
  rw[d]at d'
  injection d' with f _
  have:its=its':=by simpa using JS Array.toList f
  subst this
  exact r.inj c
theorem Inv.tuple_inj (I:Inv X pins σ H s) (h:SqT X.K H a xs) (h':SqT X.K H a ys):xs=ys:=by
  obtain⟨its,r,⟨o,e,_,n,d⟩,_⟩:=I.tuple h
  obtain⟨its',c,⟨o',b,_,g,d'⟩,_⟩:=I.tuple h'
  rw[e]at b;cases b
  rw[d]at d'
  injection d' with f _
  have:its=its':=by simpa using JS Array.toList f
  subst this
  exact r.inj c
end
abbrev Cx.wish (X:Cx) (E:Value->Shared->Prop):Cx:={ X with xe:=E }
abbrev Cx.nox (X:Cx):Cx:=X.wish λ_ _=>False
theorem Cx.Ok.wish {X:Cx}(ok:X.Ok) (E:Value->Shared->Prop):(X.wish E).Ok :=
  ⟨ok.mod,ok.kind,ok.glob,ok.blt,ok.above,ok.inj,ok.has,ok.cab,ok.hd,ok.frames,ok.stk,ok.exf,ok.bs,ok.bsz,ok.noex,ok.exfs,ok.funs,ok.frf⟩
theorem Cx.Ok.unwish {X:Cx}{E:Value->Shared->Prop}(ok:(X.wish E).Ok):X.Ok :=
  ⟨ok.mod,ok.kind,ok.glob,ok.blt,ok.above,ok.inj,ok.has,ok.cab,ok.hd,ok.frames,ok.stk,ok.exf,ok.bs,ok.bsz,ok.noex,ok.exfs,ok.funs,ok.frf⟩
section
variable {X:Cx}{pins:List (Addr × Obj)}{σ:St}{H:Hp}{s:Shared}{E:Value->Shared->Prop}
theorem Inv.wish (I:Inv X pins σ H s) (E:Value->Shared->Prop):Inv (X.wish E) pins σ H s:=⟨I.ok.wish E,I.os,I.bare,I.base,I.loc,I.cell,I.free,I.freeC,I.pin,I.hok,I.len⟩
theorem Inv.unwish (I:Inv (X.wish E) pins σ H s):Inv X pins σ H s:=⟨I.ok.unwish,I.os,I.bare,I.base,I.loc,I.cell,I.free,I.freeC,I.pin,I.hok,I.len⟩
theorem SP.unwish {D:Ends}{f:Flow}{s':Shared}(h:SP (X.wish E) pins D f s'):SP X pins D f s':=by
  cases f with
  | next=>obtain⟨a,H',I,q⟩:=h;exact⟨a,H',I.unwish,q⟩
  | brk=>obtain⟨a,H',I,q⟩:=h;exact⟨a,H',I.unwish,q⟩
  | cont=>obtain⟨a,H',I,q⟩:=h;exact⟨a,H',I.unwish,q⟩
  | ret u=>obtain⟨v,a,H',I,r,q⟩:=h;exact⟨v,a,H',I.unwish,r,q⟩
theorem PSs.nox {st:List Stmt}{t:TS}(h:PSs X.nox st t):PSs X st t:=λpins s σ H D I a =>
  JU (h pins s σ H D (I.wish _) a) (λ_ _ q=>q.unwish) λ_ _ z=>False.elim z
end
section
variable {X:Cx}{st:Stmt}{rest:List Stmt}{t u:TS}{e:Expr}{te:TE}{pos:Pos}
def znm:TS:=λD σ H=>D.nx σ H
def tSeq (t u:TS):TS:=λD σ H=>t { D with nx:=u D } σ H
theorem zaI:PSs X [] znm:=λ_ _ σ H _ I h=>wpAny_execs_nil ⟨σ,H,I,h⟩
theorem zad (h1:PS X st t) (b:PSs X rest u):PSs X (st::rest) (tSeq t u):=by
  intro pins s σ H D I h
  refine wpAny_execs_cons (thn (h1 pins s σ H { D with nx:=u D } I h) λf s1 q=>?_)
  cases f with
  | next =>
    obtain⟨a,H',c,q⟩:=q
    exact b pins s1 a H' D c q
  | ret v=>exact q
  | brk=>exact q
  | cont=>exact q
theorem zai (h1:PS X st t):PSs X [st] t:=by
  intro pins s σ H D I h
  refine wpAny_execs_cons (thn (h1 pins s σ H D I h) λf s1 q=>?_)
  cases f with
  | next=>exact wpAny_execs_nil q
  | ret v=>exact q
  | brk=>exact q
  | cont=>exact q
def zns:TS:=λD σ H=>D.ct σ H
theorem zfD:PS X (.Continue pos) zns:=λ_ _ σ H _ I h=>wpAny_Continue ⟨σ,H,I,h⟩
theorem Inv.quiet {pins:List (Addr × Obj)}{σ:St}{H:Hp}{s:Shared}(I:Inv X pins σ H s):interactive X.env=false:=by simp[interactive,I.ok.kind]
def znr (te:TE):TS:=λD σ H=>te σ H λ_ H1=>D.nx σ H1
theorem zbG (c:PE X e te) (b:swapsWith e none pos.line X.env=pure false:=by rfl):PS X (.Expr e pos) (znr te):=by
  intro pins s σ H D I h
  exact wpAny_Expr_any (thn (c pins s σ H _ I h) λv s1 ⟨x,H1,d,f,a⟩=>⟨σ,H1,d,a⟩) I.quiet b
def tRet (te:TE):TS:=λD σ H=>te σ H D.rt
theorem zat (c:PE X e te):PS X (.Return (some e) pos) (tRet te):=by
  intro pins s σ H D I h
  exact wpAny_Return_some (thn (c pins s σ H _ I h) λv s1 ⟨x,H1,d,a,b⟩=>⟨x,σ,H1,d,a,b⟩)
def tIfS (c:TT) (t u:TS):TS:=λD σ H=>c σ H λb H1=>if b=true then t D σ H1 else u D σ H1
theorem zbc {c:Expr}{a b:List Stmt}{e:TT}(i:PT X c e) (ha:PSs X a t) (hb:PSs X b u):PS X (.If c a b pos) (tIfS e t u):=by
  intro pins s σ H D I h
  refine wpAny_If (thn (i pins s σ H _ I h) λd s1 ⟨H1,g,f⟩=>?_)
  cases d with
  | true=>exact ha pins s1 σ H1 D g f
  | false=>exact hb pins s1 σ H1 D g f
end
abbrev TG:=V->St->Hp->(St->Hp->Prop)->Prop
abbrev TGs:=List V->St->Hp->(St->Hp->Prop)->Prop
def PG (X:Cx) (target:Expr) (t:TG):Prop :=
  ∀ (pins:List (Addr × Obj)) (s:Shared) (σ:St) (H:Hp) (v:V) (u:Value) (Q:St->Hp->Prop),Inv X pins σ H s->RelV v u->t v σ H Q ->
    wpAny (model X.prog X.w) X.A (assign target X.env u) (λ_ s'=>∃ a H',Inv X pins a H' s'/\Q a H') X.xe s
def PGs (X:Cx) (ts:List Expr) (t:TGs):Prop :=
  ∀ (pins:List (Addr × Obj)) (s:Shared) (σ:St) (H:Hp) (vs:List V) (us:List Value) (Q:St->Hp->Prop),Inv X pins σ H s->Vals vs us->t vs σ H Q ->
    wpAny (model X.prog X.w) X.A (assignInOrder ((assignEach ts X.env).map (·.2)) us) (λ_ s'=>∃ a H',Inv X pins a H' s'/\Q a H') X.xe s
abbrev TSet:=V->V->V->Hp->(Hp->Prop)->Prop
def PSet (X:Cx) (t:TSet):Prop :=
  ∀ (pins:List (Addr × Obj)) (s:Shared) (σ:St) (H:Hp) (o i v:V) (a b u:Value) (Q:Hp->Prop),Inv X pins σ H s->RelV o a->RelV i b->RelV v u->t o i v H Q ->
    wpAny (model X.prog X.w) X.A (setItem a b u) (λ_ s'=>∃ H',Inv X pins σ H' s'/\Q H') X.xe s
section
variable {X:Cx}{pos:Pos}
def zdt (i:Nat):TG:=λv σ H Q=>Q (σ.set i (some v)) H
theorem zaj {i:Nat}{x:Str}(c:X.N.Nodup) (hi:X.N[i]?=some x) (a:Loc X.env.scope x) (b:X.fn x=true\/X.env.scope.names.lookup x=some .local:=by first|exact .inl rfl|exact .inr rfl|assumption):PG X (.Name x pos) (zdt i):=by
  intro pins s σ H v u Q I r h
  exact wpAny_assign_Name (zbD I c hi a r (λs' d=>⟨_,H,d,h⟩) b)
def gNil:TGs:=λvs σ H Q=>vs=[]/\Q σ H
def zi7 (t:TG) (u:TGs):TGs:=λvs σ H Q=>∃ v r,vs=v::r/\t v σ H λa H'=>u r a H' Q
theorem zaL:PGs X [] gNil:=by
  intro pins s σ H vs us Q I r h
  obtain⟨e,h⟩:=h
  subst e
  cases r
  exact assignInOrder_nil ⟨σ,H,I,h⟩
theorem zak {e:Expr}{es:List Expr}{t:TG}{u:TGs}(h1:PG X e t) (f:PGs X es u)
    (d:(assignEach (e::es) X.env).map (·.2)=assign e X.env::(assignEach es X.env).map (·.2):=by rfl):PGs X (e::es) (zi7 t u):=by
  intro pins s σ H vs us Q I r h
  obtain⟨v,j,g,h⟩:=h
  subst g
  cases r with
  | cons r b =>
    rw[d]
    refine ZR (thn (h1 pins s σ H _ _ _ I r h) λ_ s1 ⟨a,H1,i,c⟩=>?_)
    exact f pins s1 a H1 _ _ Q i b c
def gTup (K:PySem.W.Frag) (n:Nat) (t:TGs):TG:=λv σ H Q=>∃ a xs,v=.ref a/\SqT K H a xs/\xs.length=n/\t xs σ H Q
theorem zaU {es:List Expr}{k:Nat}{t:TGs}{n:Nat}(p:X.calm=true) (h:PGs X es t)
    (l:(assignEach es X.env).length=n:=by rfl) (d:(assignEach es X.env).findIdx? (·.1)=none:=by rfl):PG X (.Tuple es k pos) (gTup X.K n t):=by
  intro pins s σ H v u Q I r c
  obtain⟨a,xs,q,j,m,c⟩:=c
  subst q
  cases r
  obtain⟨its,f,i,x⟩:=I.tuple j
  refine assign_Tuple_tuple (I.ok.hd p) i (by simp[l,<- m,f.length]) d λh' g=>?_
  have w:Inv X pins σ H { s with heap:=h' }:=I.kept (t':=s.toks) λb o e=>g b o (JF (Jq e)) e
  exact h pins _ σ H xs _ Q w (by simpa using f) c
def gSub (to a:TE) (t:TSet):TG:=λv σ H Q=>to σ H λo H1=>a σ H1 λi c=>t o i v c λb=>Q σ b
theorem zcZ {o i:Expr}{to c:TE}{t:TSet}(l:PE X o to) (hi:PE X i c) (k:PSet X t)
    (ha:∀ v,assign (.Subscript o i pos) X.env v=(do
      let a <- holding [v] (eval o X.env)
      let b <- holding [v,a] (eval i X.env)
      standAt pos
      holding [v,a,b] (setItem a b v)
      release [v,a,b] []):=by intro _;rfl):PG X (.Subscript o i pos) (gSub to c t):=by
  intro pins s σ H v u Q I r h
  rw[ha]
  refine J0 (Yp (thn (l pins s σ H _ I h) λa s1 ⟨x,H1,p,e,j⟩=>?_))
  refine J0 (Yp (thn (hi pins s1 σ H1 _ p j) λb s2 ⟨y,w,n,d,g⟩=>?_))
  refine J0 (Za (J0 (Yp (thn (k pins s2 σ w x y v a b u _ n e d r g) λ_ z ⟨q,m,f⟩=>?_))))
  exact wpAny_release ⟨σ,q,m,f⟩
def tAsg (te:TE) (g:TG):TS:=λD σ H=>te σ H λx H1=>g x σ H1 D.nx
theorem zaV {tg e:Expr}{te:TE}{g:TG}(i:PE X e te) (f:PG X tg g) (d:swapsWithSole [tg] e pos.line X.env=pure false:=by rfl) (c:swappedStores [tg] e X.env=pure none:=by rfl)
    (h1:(assignEach [tg] X.env).map (·.2)=[assign tg X.env]:=by rfl):PS X (.Assign [tg] e pos) (tAsg te g):=by
  intro pins s σ H D I h
  refine wpAny_Assign_stores (thn (i pins s σ H _ I h) λv s1 ⟨x,H1,j,a,b⟩=>?_) d c
  rw[h1]
  exact thn (f pins s1 σ H1 x v _ j a b) λ_ s2 q=>q
theorem zav {i:Nat}{x:Str}{e:Expr}{te:TE}{pos':Pos}(j:X.N.Nodup) (hi:X.N[i]?=some x) (c:Loc X.env.scope x) (g:PE X e te) (d:swapsWith e (some (.Name x pos')) pos.line X.env=pure false:=by rfl) (f:X.fn x=true\/X.env.scope.names.lookup x=some .local:=by first|exact .inl rfl|exact .inr rfl|assumption) :
    PS X (.Assign [.Name x pos'] e pos) (tAsg te (zdt i)):=by
  intro pins s σ H D I h
  refine wpAny_Assign_Name (thn (g pins s σ H _ I h) λv s1 ⟨y,H1,l,a,b⟩=>?_) d
  exact zbD l j hi c a (λs2 k=>⟨_,H1,k,b⟩) f
def tPar (i j:Nat) (ta:TA):TS:=λD σ H=>ta σ H λvs H1=>∃ v w,vs=[v,w]/\D.nx ((σ.set i (some v)).set j (some w)) H1
theorem zgi {i j:Nat}{x y:Str}{a b:Expr}{ta:TA}{g py pt:Pos}{kt k2 pt2} (J:X.calm=true) (t:X.N.Nodup) (hi:X.N[i]?=some x) (G:X.N[j]?=some y) (m:i≠j)
    (r:X.env.scope.names.lookup x=some .local) (n:X.env.scope.names.lookup y=some .local) (ha:PA X [a,b] ta)
    (E:swappedStores [.Tuple [.Name x g,.Name y py] kt pt] (.Tuple [a,b] k2 pt2) X.env=pure (some [x,y]))
    (F:swapsWithSole [.Tuple [.Name x g,.Name y py] kt pt] (.Tuple [a,b] k2 pt2) pos.line X.env=pure false:=by rfl) :
    PS X (.Assign [.Tuple [.Name x g,.Name y py] kt pt] (.Tuple [a,b] k2 pt2) pos) (tPar i j ta):=by
  intro pins s σ H D I h
  rw[exec_Assign_arm]
  refine J0 (Za ?_)
  rw[F]
  refine J0 (Ja ?_)
  rw[Jc (by decide)]
  refine J0 (Tuple_ (thn (ha _ pins s σ H _ I h) λus s1 ⟨vs,H1,O,A,f⟩=>?_))
  obtain⟨v,w,K,f⟩:=f
  subst K
  obtain⟨d,c,rfl,z,k⟩:∃ d c,us=[d,c]/\RelV v d/\RelV w c:=by
    cases A with
    | cons p q =>
      cases q with
      | cons C B =>
        cases B
        exact⟨_,_,rfl,p,C⟩
  refine JN ?_ (by show 2<=sizeLine;decide)
  have N:Inv X pins σ H1 { s1 with heap:=s1.heap.push { cls:=.type "tuple",data:=.seq [d,c].toArray } }:=O.kept (t':=s1.toks) λb o e=>J8 _ e
  rw[E]
  refine J0 (Ja ?_)
  show wpAny (model X.prog X.w) X.A (do rule "assign.swapped-stores";let items <- unpackItems (.ref s1.heap.objs.size) 2 none;assignInOrder [λv=>bindName X.env y v,λv=>bindName X.env x v] items.reverse;pure Flow.next) _ _ _
  refine J0 (YY (J0 (unpackItems_tuple (items:=#[d,c]) (I.ok.hd J) (IsTup.new s1.heap _) λh' l=>?_)))
  have M:=N.kept (h':=h') (t':=s1.toks) λb o e=>l b o (JF (Jq e)) e
  show wpAny _ _ (assignInOrder [λv=>bindName X.env y v,λv=>bindName X.env x v] [c,d] >>= λ_=>pure Flow.next) _ _ _
  refine J0 (ZR (wpAny_bindName (zbD M t G (.inl n) k (λs2 L=>?_) (.inr n))))
  refine ZR (wpAny_bindName (zbD L t hi (.inl r) z (λP u=>assignInOrder_nil (Ja ?_)) (.inr r)))
  rw[List.set_comm _ _ (Ne.symm m)]at u
  exact⟨_,H1,u,f⟩
end
section
variable {X:Cx}{pos:Pos}
def zmu (c:TT) (tb:TS):TS:=λD σ H=>∃ W:Nat->St->Hp->Prop,(∃ m,W m σ H)/\∀ m σ H,W m σ H ->
  c σ H λb H1=>if b=true then ∃ N:St->Hp->Prop,(∀ a H',N a H'->∃ d,d<m/\W d a H')/\tb { D with nx:=N,ct:=N,bk:=D.nx } σ H1 else D.nx σ H1
theorem zgh {c:Expr}{body:List Stmt}{q:TT}{tb:TS}(r:PassesOwn (model X.prog X.w) X.A X.env X.xe) (A:PT X c q) (hb:PSs X body tb):PS X (.While c body [] pos) (zmu q tb):=by
  intro pins s σ H D I h
  obtain⟨W,⟨z,y⟩,turn⟩:=h
  refine wpAny_While (codeAny_whileLoop (λn s'=>∃ g H',Inv X pins g H' s'/\W n g H') ?_ z ⟨σ,H,I,y⟩)
  rintro n s1 ⟨d,H1,B,x⟩
  refine ZM r (thn (A pins s1 d H1 _ B (turn n d H1 x)) λb s2 ⟨w,u,j⟩=>?_)
  cases b with
  | true =>
    obtain⟨N,t,j⟩:=j
    rw[Jf rfl]
    refine ZM r (thn (hb pins s2 d w _ u j) λf C i=>?_)
    cases f with
    | next =>
      obtain⟨a,e,p,l⟩:=i
      obtain⟨m,o,k⟩:=t a e l
      exact⟨m,o,a,e,p,k⟩
    | cont =>
      obtain⟨a,e,p,l⟩:=i
      obtain⟨m,o,k⟩:=t a e l
      exact⟨m,o,a,e,p,k⟩
    | brk=>exact i
    | ret v=>exact i
  | false =>
    rw[Jc Jp]
    exact wpAny_execs_nil ⟨d,w,u,j⟩
end
structure It where
  go:Nat->Hp->Prop
  yld:Nat->Hp->V->Hp->Prop
  stop:Nat->Hp->Prop
def FpOk (X:Cx) (pins:List (Addr × Obj)) (H:Hp) (b:Addr):Prop :=
  H b=none/\b≠X.env.locals/\b∉X.fs/\(b∈X.ex\/X.s₀.heap.objs.size<=b)/\(∀ x c,X.env.cells.lookup x=some c->c≠b)/\∀ p∈X.pn++pins,p.1≠b
theorem Inv.fpOk {X:Cx}{pins:List (Addr × Obj)}{σ:St}{H H':Hp}{s:Shared}{b:Addr}(I:Inv X pins σ H s) (hb:s.heap.objs.size<=b) (d:H' b=none):FpOk X pins H' b:=by
  refine⟨d,Z0 (JM I.lt hb),I.nofs hb,.inr (JW I.sz hb),λx c e z=>?_,λp a z=>?_⟩
  · obtain⟨v,q⟩:=I.cell x c e
    exact absurd (JM q.lt (by rw[z];exact hb)) (YL _)
  · exact absurd (JM (Jq (I.pin p a).1) (by rw[z];exact hb)) (YL _)
structure Turn (P:Program) (w:World) (K:PySem.W.Frag) (tg:Expr) (J:It) (fp:List Addr) (it:Addr) (tn:Nat->Heap->Prop):Prop where
  mem:it∈fp
  obj:∀ i h,tn i h->∀ b∈fp,∃ o,h.get? b=some o/\∀ v,o.data≠.cell v
  keep:∀ i h h',tn i h->(∀ b∈fp,∀ o,h.get? b=some o->h'.get? b=some o)->tn i h'
  item:∀ (X:Cx),X.prog=P->X.w=w->X.K=K->X.calm=true->∀ (i:Nat) (pins:List (Addr × Obj)) (s:Shared) (σ:St) (H:Hp) (E:Value->Shared->Prop),Inv X pins σ H s->(∀ b∈fp,FpOk X pins H b)->tn i s.heap->J.go i H ->
    wpAny (model P w) X.A (pyNext (.ref it)) (λr s1=>∃ u,r=some u /\
      wpAny (model P w) X.A (letOwnedTupleGo tg (.ref it) u) (λ_ s2=>∃ x H',Inv X pins σ H' s2/\RelV x u/\J.yld i H x H'/\tn (i+1) s2.heap/\∀ b∈fp,H' b=none) E s1) E s
  done:∀ (X:Cx),X.prog=P->X.w=w->X.K=K->X.calm=true->∀ (i:Nat) (pins:List (Addr × Obj)) (s:Shared) (σ:St) (H:Hp) (E:Value->Shared->Prop),Inv X pins σ H s->(∀ b∈fp,FpOk X pins H b)->tn i s.heap->J.stop i H ->
    wpAny (model P w) X.A (pyNext (.ref it)) (λr s1=>r=none/\Inv X pins σ H s1) E s
  self:∀ (A:Around) (i:Nat) (s:Shared) (Q:Value->Shared->Prop) (E:Value->Shared->Prop),tn i s.heap->Q (.ref it) s->wpAny (model P w) A (pyIter (.ref it)) Q E s
abbrev TI:=St->Hp->(It->Hp->Prop)->Prop
def PIE (X:Cx) (pins:List (Addr × Obj)) (σ:St) (tg:Expr) (R:It->Hp->Prop) (a:Value) (s2:Shared):Prop :=
  ∃ (it:Addr) (fp:List Addr) (tn:Nat->Heap->Prop) (J:It) (H':Hp),a=.ref it/\Inv X pins σ H' s2/\Turn X.prog X.w X.K tg J fp it tn/\tn 0 s2.heap/\(∀ b∈fp,FpOk X pins H' b)/\R J H'
def PI (X:Cx) (tg iter:Expr) (a:TI):Prop :=
  ∀ (pins:List (Addr × Obj)) (s:Shared) (σ:St) (H:Hp) (R:It->Hp->Prop),Inv X pins σ H s->a σ H R ->
    wpAny (model X.prog X.w) X.A (eval iter X.env) (λv s1=>wpAny (model X.prog X.w) X.A (pyIter v) (PIE X pins σ tg R) X.xe s1) X.xe s
theorem zme {M:Model}{A:Around}{E:Value->Shared->Prop}{s:Shared}{tg:Expr}{it:Addr}{u:Value}{o:Obj}{n:String}{vs:Array Value}{Q:Unit->Shared->Prop}(b:s.heap.get? it=some o) (d:o.cls=.type n) (hd:o.data=.fields vs)
    (c:["enumerate","zip","dict_itemiterator","dict_reverseitemiterator","odict_iterator","itertools.zip_longest","itertools.pairwise"].contains n=false) (a:Q () s):wpAny M A (letOwnedTupleGo tg (.ref it) u) Q E s:=by
  unfold letOwnedTupleGo
  cases tg<;>first
    | exact Ja a
    | (cases u<;>first
        | exact Ja a
        | (refine J0 (wpAny_load b ?_)
           rw[d,hd]
           show wpAny M A (if (["enumerate","zip","dict_itemiterator","dict_reverseitemiterator","odict_iterator","itertools.zip_longest","itertools.pairwise"].contains n && vs[0]? == some (rawInt _))=true then _ else _) Q E s
           rw[Jc (by intro h;rw[c,Bool.false_and]at h;cases h)]
           exact Ja a))
def Itl (K:PySem.W.Frag) (a:Addr):It :=
  ⟨λi H=>∃ xs x,SqL K H a xs/\xs[i]?=some x,λi H x H'=>H'=H/\∀ xs,SqL K H a xs->xs[i]?=some x,λi H=>∃ xs,SqL K H a xs/\xs.length<=i⟩
def Itt (K:PySem.W.Frag) (a:Addr):It :=
  ⟨λi H=>∃ xs x,SqT K H a xs/\xs[i]?=some x,λi H x H'=>H'=H/\∀ xs,SqT K H a xs->xs[i]?=some x,λi H=>∃ xs,SqT K H a xs/\xs.length<=i⟩
def Itr (lo:Int) (n:Nat):It:=⟨λi _=>i<n,λi H x H'=>H'=H/\x=.int (lo+i),λi _=>n<=i⟩
theorem zhy {P:Program}{w:World}{K:PySem.W.Frag}{tg:Expr}(a it:Addr):Turn P w K tg (Itl K a) [it] it (λi h=>h.IsListIter it a i) where
  mem:=by simp
  obj:=λi h st b hb=>by
    have e:b=it:=by simpa using hb
    subst e
    obtain⟨o,e,c,d⟩:=st
    exact⟨o,e,λv z=>by rw[d]at z;cases z⟩
  keep:=λi h h' st k=>st.at λo e=>k it (by simp) o e
  item:=by
    intro X q m r C i pins s σ H E I g st n
    subst q m r
    obtain⟨xs,x,f,l⟩:=n
    obtain⟨its,j,p,F⟩:=I.list f
    obtain⟨u,J,D⟩:=j.get l
    obtain⟨B,f1,f2,A,y,t⟩:=g it (by simp)
    refine wpAny_pyNext_list_item st p.isList (x:=u) (by simpa using J) λh' st' sb=>?_
    have M:Inv X pins σ H { s with heap:=h' }:=I.turned (t':=s.toks) (λb o hb e=>(sb.2 b hb).trans e) B f1 A y t
    obtain⟨o,e,c,d⟩:=id st'
    exact⟨u,rfl,zme (s:={ s with heap:=h' }) e c d (by decide) ⟨x,H,M,D,⟨rfl,λys G=>by rw[I.list_inj G f];exact l⟩,st',λb hb=>(g b hb).1⟩⟩
  done:=by
    intro X q m r C i pins s σ H E I g st n
    subst q m r
    obtain⟨xs,f,l⟩:=n
    obtain⟨its,j,p,F⟩:=I.list f
    obtain⟨B,f1,f2,A,y,t⟩:=g it (by simp)
    have N:=j.length
    exact wpAny_pyNext_list_end (I.ok.hd C) st p.isList (by simp;omega) λh' L=>⟨rfl,I.turned (t':=s.toks) (λb o hb e=>L b o hb e) B f1 A y t⟩
  self:=λ_ _ _ _ _ st h=>wpAny_pyIter_listiter st h
theorem zgN {P:Program}{w:World}{K:PySem.W.Frag}{tg:Expr}(a it:Addr):Turn P w K tg (Itt K a) [it] it (λi h=>h.IsTupleIter it a i) where
  mem:=by simp
  obj:=λi h st b hb=>by
    have e:b=it:=by simpa using hb
    subst e
    obtain⟨o,e,c,d⟩:=st
    exact⟨o,e,λv z=>by rw[d]at z;cases z⟩
  keep:=λi h h' st k=>st.at λo e=>k it (by simp) o e
  item:=by
    intro X q m r C i pins s σ H E I g st n
    subst q m r
    obtain⟨xs,x,f,l⟩:=n
    obtain⟨its,j,p,F⟩:=I.tuple f
    obtain⟨u,J,D⟩:=j.get l
    obtain⟨B,f1,f2,A,y,t⟩:=g it (by simp)
    refine wpAny_pyNext_tuple_item st (show s.heap.IsTuple a its.toArray from p) (x:=u) (by simpa using J) λh' st' sb=>?_
    have M:Inv X pins σ H { s with heap:=h' }:=I.turned (t':=s.toks) (λb o hb e=>(sb.2 b hb).trans e) B f1 A y t
    obtain⟨o,e,c,d⟩:=id st'
    exact⟨u,rfl,zme (s:={ s with heap:=h' }) e c d (by decide) ⟨x,H,M,D,⟨rfl,λys G=>by rw[I.tuple_inj G f];exact l⟩,st',λb hb=>(g b hb).1⟩⟩
  done:=by
    intro X q m r C i pins s σ H E I g st n
    subst q m r
    obtain⟨xs,f,l⟩:=n
    obtain⟨its,j,p,F⟩:=I.tuple f
    obtain⟨B,f1,f2,A,y,t⟩:=g it (by simp)
    have N:=j.length
    exact wpAny_pyNext_tuple_end (I.ok.hd C) st (show s.heap.IsTuple a its.toArray from p) (by simp;omega) λh' L=>⟨rfl,I.turned (t':=s.toks) (λb o hb e=>L b o hb e) B f1 A y t⟩
  self:=λ_ _ _ _ _ st h=>wpAny_pyIter_tupleiter st h
theorem zgO {P:Program}{w:World}{K:PySem.W.Frag}{tg:Expr}(it:Addr) (lo:Int) (n:Nat):Turn P w K tg (Itr lo n) [it] it (λi h=>IsRangeIter h it (lo+(i:Nat)*1) ((n:Int)-(i:Nat)) 1) where
  mem:=by simp
  obj:=λi h st b hb=>by
    have e:b=it:=by simpa using hb
    subst e
    exact⟨_,st,λv z=>by
      have r:Data.fields _=Data.cell v:=z
      cases r⟩
  keep:=λi h h' st k=>k it (by simp) _ st
  item:=by
    intro X g c j f i pins s σ H E I a st d
    subst g c j
    obtain⟨q,f1,f2,p,m,l⟩:=a it (by simp)
    have W:=Walks.range (prog:=X.prog) (w:=X.w) (I.ok.hd f) it lo 1 n
    refine W.item i s _ _ d st λv h' tk x st' u=>?_
    obtain⟨t,rfl⟩:=x
    have A:Inv X pins σ H { s with heap:=h',toks:=tk }:=I.turned (λb o hb e=>u b o (by simpa using hb) e) q f1 p m l
    refine⟨_,rfl,zme (s:={ s with heap:=h',toks:=tk }) (n:="range_iterator") st' rfl rfl (by decide) ⟨.int (lo+i),H,A,⟨t,?_⟩,⟨rfl,rfl⟩,st',λb hb=>(a b hb).1⟩⟩
    rw[Int.mul_one]
  done:=by
    intro X g c j f i pins s σ H E I a st d
    subst g c j
    obtain⟨q,f1,f2,p,m,l⟩:=a it (by simp)
    exact wpAny_pyNext_range_end (I.ok.hd f) st (by have:n<=i:=d;omega) λh' y=>⟨rfl,I.turned (t':=s.toks) (λb o hb e=>y b o hb e) q f1 p m l⟩
  self:=λ_ _ _ _ _ st h=>wpAny_pyIter_rangeiter st h
section
variable {X:Cx}{tg:Expr}
def zm4 (K:PySem.W.Frag) (tl:TE):TI:=λσ H R=>tl σ H λx H1=>∃ a,x=.ref a/\(∃ xs,SqL K H1 a xs)/\R (Itl K a) H1
def iTup (K:PySem.W.Frag) (tl:TE):TI:=λσ H R=>tl σ H λx H1=>∃ a,x=.ref a/\(∃ xs,SqT K H1 a xs)/\R (Itt K a) H1
theorem zdj {l:Expr}{tl:TE}(i:PE X l tl):PI X tg l (zm4 X.K tl):=by
  intro pins s σ H R I h
  refine thn (i pins s σ H _ I h) λv s1 ⟨x,H1,c,d,f⟩=>?_
  obtain⟨a,e,⟨xs,g⟩,q⟩:=f
  subst e
  cases d
  obtain⟨its,j,p,k⟩:=c.list g
  refine wpAny_pyIter_list p.isList ?_
  refine⟨s1.heap.objs.size,[s1.heap.objs.size],_,_,H1,rfl,c.kept (t':=s1.toks) λb o e=>J8 _ e,zhy a _,⟨_,Js _ rfl,rfl,rfl⟩,λb hb=>?_,q⟩
  have e:b=s1.heap.objs.size:=by simpa using hb
  subst e
  exact c.fpOk (Jg _) (c.hok.fresh (Jg _))
theorem zgj {l:Expr}{tl:TE}(i:PE X l tl):PI X tg l (iTup X.K tl):=by
  intro pins s σ H R I h
  refine thn (i pins s σ H _ I h) λv s1 ⟨x,H1,c,d,f⟩=>?_
  obtain⟨a,e,⟨xs,g⟩,q⟩:=f
  subst e
  cases d
  obtain⟨its,j,p,k⟩:=c.tuple g
  refine wpAny_pyIter_tuple (show s1.heap.IsTuple a its.toArray from p) ?_
  refine⟨s1.heap.objs.size,[s1.heap.objs.size],_,_,H1,rfl,c.kept (t':=s1.toks) λb o e=>J8 _ e,zgN a _,⟨_,Js _ rfl,rfl,rfl⟩,λb hb=>?_,q⟩
  have e:b=s1.heap.objs.size:=by simpa using hb
  subst e
  exact c.fpOk (Jg _) (c.hok.fresh (Jg _))
theorem zjW {pins:List (Addr × Obj)}{σ:St}{H:Hp}{s:Shared}{R:It->Hp->Prop}{E:Value->Shared->Prop}{lo hi:Int}{t u v:Tok}{tk:Nat}(I:Inv X pins σ H s) (h1:-(2 ^ 62)<=lo) (f:lo<2 ^ 62) (d:-(2 ^ 62)<=hi) (c:hi<2 ^ 62)
    (q:R (Itr lo (hi-lo).toNat) H):wpAny (model X.prog X.w) X.A (pyIter (.ref s.heap.objs.size)) (PIE X pins σ tg R) E { s with heap:=s.heap.push { cls:=.type "range",data:=.fields #[.int lo t,.int hi u,.int 1 v] },toks:=tk }:=by
  refine wpAny_pyIter_range (IsRange.new ..) (small_one h1 f d c) ?_
  have a:Inv X pins σ H { s with heap:=s.heap.push { cls:=.type "range",data:=.fields #[.int lo t,.int hi u,.int 1 v] },toks:=tk }:=I.kept λb o e=>J8 _ e
  refine⟨(s.heap.push { cls:=.type "range",data:=.fields #[.int lo t,.int hi u,.int 1 v] }).objs.size,[(s.heap.push { cls:=.type "range",data:=.fields #[.int lo t,.int hi u,.int 1 v] }).objs.size],_,_,H,rfl,
    a.kept (t':=tk) λb o e=>J8 _ e,zgO _ lo (hi-lo).toNat,?_,λb hb=>?_,q⟩
  · have g:lo+((0:Nat):Int)*1=lo:=by simp
    have e2:(((hi-lo).toNat:Nat):Int)-((0:Nat):Int)=Builtin.Range.rangeSize lo hi 1:=by rw[rangeSize_one];split<;>omega
    show IsRangeIter _ _ (lo+((0:Nat):Int)*1) ((((hi-lo).toNat:Nat):Int)-((0:Nat):Int)) 1
    rw[g,e2]
    exact Js _ rfl
  · have e:b=(s.heap.push { cls:=.type "range",data:=.fields #[.int lo t,.int hi u,.int 1 v] }).objs.size:=by simpa using hb
    subst e
    exact a.fpOk (Jg _) (a.hok.fresh (Jg _))
def znH (ta:TA):TI:=λσ H R=>ta σ H λvs H1=>∃ j:Int,vs=[.int j]/\-(2 ^ 62)<=j/\j<2 ^ 62/\R (Itr 0 j.toNat) H1
theorem zbb {a:Expr}{ta:TA}{p pos:Pos}(k:Gl X "range") (i:X.mg "range" = none) (ha:PA X [a] ta) (g:starEach [a] X.env=[(false,eval a X.env)]:=by rfl):PI X tg (.Call (.Name "range" p) [a] [] pos) (znH ta):=by
  intro pins s σ H R I h
  refine Call_ (zb5 I k i boot_range (Yq (thn (ha pos pins s σ H _ I h) λus s1 ⟨vs,H1,l,d,b⟩=>?_) g rfl))
  obtain⟨j,e,b,f,q⟩:=b
  subst e
  cases d with
  | cons r c =>
    cases c
    obtain⟨t,rfl⟩:=r
    exact call_range_1 (zjW l (by omega) (by omega) b f (by simpa using q))
def tFor (d:TI) (g:TG) (tb:TS):TS:=λD σ H=>d σ H λJ H1=>∃ W:Nat->Nat->St->Hp->Prop,(∃ m,W 0 m σ H1)/\∀ i m σ H,W i m σ H ->
  (J.stop i H/\D.nx σ H)\/(J.go i H/\∃ N:St->Hp->Prop,(∀ a H',N a H'->∃ c,c<m/\W (i+1) c a H')/\∀ x H',J.yld i H x H'->g x σ H' λb e=>tb { D with nx:=N,ct:=N,bk:=D.nx } b e)
def zcY (fp:List Addr) (h:Heap):List (Addr × Obj):=fp.filterMap λb=>(h.get? b).map λo=>(b,o)
theorem za1 {fp:List Addr}{h:Heap}{b:Addr}{o:Obj}(hb:b∈fp) (e:h.get? b=some o):(b,o)∈zcY fp h:=List.mem_filterMap.mpr ⟨b,hb,by rw[e];rfl⟩
theorem ziz {fp:List Addr}{h:Heap}{p:Addr × Obj}(a:p∈zcY fp h):p.1∈fp/\h.get? p.1=some p.2:=by
  obtain⟨b,hb,e⟩:=List.mem_filterMap.mp a
  cases q:h.get? b with
  | none=>rw[q]at e;cases e
  | some o =>
    rw[q]at e
    have c:(b,o)=p:=Jr e
    subst c
    exact⟨hb,q⟩
theorem Inv.pinned {pins:List (Addr × Obj)}{σ:St}{H:Hp}{s:Shared}{fp:List Addr}(I:Inv X pins σ H s) (g:∀ b∈fp,FpOk X pins H b) (f:∀ b∈fp,∃ o,s.heap.get? b=some o/\∀ v,o.data≠.cell v):Inv X (pins++zcY fp s.heap) σ H s :=
  I.pins_of λp c=>(Jz.mp c).elim (λz=>I.pin p (Jy _ z)) λz=>by
    obtain⟨hb,e⟩:=ziz z
    obtain⟨h,f1,f2,_⟩:=g p.1 hb
    obtain⟨o,a,d⟩:=f p.1 hb
    rw[e]at a;cases a
    exact⟨e,h,f1,f2,d⟩
theorem Inv.unpinned {pins a:List (Addr × Obj)}{σ:St}{H:Hp}{s:Shared}(I:Inv X (pins++a) σ H s):Inv X pins σ H s:=I.pins_of λp b=>I.pin p (Jy _ (Yh _ b))
theorem zbP {iter:Expr}{body:List Stmt}{L:TI}{g:TG}{tb:TS}{pos:Pos}(y:PassesOwn (model X.prog X.w) X.A X.env X.xe) (P:X.calm=true) (hi:PI X tg iter L) (hg:PG X tg g) (hb:PSs X body tb)
    (hs:∀ x,foldedSetIterable iter X.env x=pure x:=by intro _;rfl):PS X (.For tg iter body [] pos) (tFor L g tb):=by
  intro pins s σ H D I h
  refine wpAny_For (thn (hi pins s σ H _ I h) λv s1 h1=>thn h1 λaa s2 h2=>?_) hs
  obtain⟨it,fp,tn,J,H2,e,I2,T,st2,f2,W,⟨m0,Z⟩,turn⟩:=h2
  subst e
  have p:∀ {H':Hp},(∀ b∈fp,H' b=none)->∀ b∈fp,FpOk X pins H' b:=λhn b hb=>⟨hn b hb,(f2 b hb).2⟩
  refine codeAny_forLoop_any (λn s'=>∃ i l H',Inv X pins l H' s'/\tn i s'.heap/\(∀ b∈fp,H' b=none)/\W i n l H') ?_ m0 ⟨0,σ,H2,I2,st2,λb hb=>(f2 b hb).1,Z⟩
  rintro n O ⟨i,k,B,Q,z,A,Y⟩
  rcases turn i n k B Y with ⟨stop,qn⟩|⟨go,N,hN,step⟩
  · refine ZM y (thn (T.done X rfl rfl rfl P i pins O k B X.xe Q (p A) z stop) λr s4 ⟨E,I4⟩=>?_)
    subst E
    exact wpAny_execs_nil ⟨k,B,I4,qn⟩
  · refine ZM y (thn (T.item X rfl rfl rfl P i pins O k B X.xe Q (p A) z go) λr s4 ⟨u,E,h4⟩=>?_)
    subst E
    refine ZM y (thn h4 λ_ M ⟨x,R,I5,r5,S,t,G⟩=>?_)
    have K:=I5.pinned (p G) (T.obj _ _ t)
    refine ZM y (thn (hg _ M k R x u _ K r5 (step x R S)) λ_ s6 ⟨F,H6,I6,q6⟩=>?_)
    refine ZM y (thn (hb _ s6 F H6 _ I6 q6) λf C q=>?_)
    have again:∀ {a:St}{j:Hp},Inv X (pins++zcY fp M.heap) a j C->N a j->∃ m,m<n/\∃ i l H',Inv X pins l H' C/\tn i C.heap/\(∀ b∈fp,H' b=none)/\W i m l H':=λ{a j} c w=>by
      obtain⟨m',hm,V⟩:=hN a j w
      refine⟨m',hm,i+1,a,j,c.unpinned,T.keep _ _ _ t λb hb o e=>(c.pin (b,o) (Jy _ (Jy _ (za1 hb e)))).1,λb hb=>?_,V⟩
      obtain⟨o,e,d⟩:=T.obj _ _ t b hb
      exact(c.pin (b,o) (Jy _ (Jy _ (za1 hb e)))).2.1
    cases f with
    | next=>obtain⟨a,j,c,w⟩:=q;exact again c w
    | cont=>obtain⟨a,j,c,w⟩:=q;exact again c w
    | brk=>obtain⟨a,j,c,q⟩:=q;exact⟨a,j,c.unpinned,q⟩
    | ret v=>obtain⟨U,a,j,c,r7,q⟩:=q;exact⟨U,a,j,c.unpinned,r7,q⟩
end
theorem zkJ {K:PySem.W.Frag}{a:Addr}{xs:List V}{g:TG}{tb:TS}{D:Ends}{σ:St}{H:Hp}(b:Nat->St->Hp->Prop) (o:b 0 σ H) (n:∀ i σ H,i<=xs.length->b i σ H->SqL K H a xs)
    (l:∀ i x σ H,xs[i]?=some x->b i σ H->g x σ H λc h=>tb { D with nx:=b (i+1),ct:=b (i+1),bk:=D.nx } c h) (hd:∀ σ H,b xs.length σ H->D.nx σ H) :
    ∃ W:Nat->Nat->St->Hp->Prop,(∃ m,W 0 m σ H)/\∀ i m σ H,W i m σ H ->
      ((Itl K a).stop i H/\D.nx σ H)\/((Itl K a).go i H/\∃ N:St->Hp->Prop,(∀ d H',N d H'->∃ j,j<m/\W (i+1) j d H')/\∀ x H',(Itl K a).yld i H x H'->g x σ H' λc h=>tb { D with nx:=N,ct:=N,bk:=D.nx } c h):=by
  refine⟨λi m σ H=>m=xs.length-i/\i<=xs.length/\b i σ H,⟨xs.length,by simp,JL _,o⟩,?_⟩
  rintro i m σ H ⟨rfl,hi,p⟩
  have q:=n i σ H hi p
  by_cases f:i<xs.length
  · refine .inr ⟨⟨xs,xs[i],q,by simp[f]⟩,b (i+1),λd H' k=>⟨xs.length-(i+1),by omega,rfl,f,k⟩,λx H' y=>?_⟩
    obtain⟨e,y⟩:=y
    subst e
    exact l i x σ _ (y xs q) p
  · have e:i=xs.length:=by omega
    subst e
    exact .inl ⟨⟨xs,q,Jg _⟩,hd σ H p⟩
theorem zjb {K:PySem.W.Frag}{a:Addr}{xs:List V}{g:TG}{tb:TS}{D:Ends}{σ:St}{H:Hp}(b:Nat->St->Hp->Prop) (o:b 0 σ H) (n:∀ i σ H,i<=xs.length->b i σ H->SqT K H a xs)
    (l:∀ i x σ H,xs[i]?=some x->b i σ H->g x σ H λc h=>tb { D with nx:=b (i+1),ct:=b (i+1),bk:=D.nx } c h) (hd:∀ σ H,b xs.length σ H->D.nx σ H) :
    ∃ W:Nat->Nat->St->Hp->Prop,(∃ m,W 0 m σ H)/\∀ i m σ H,W i m σ H ->
      ((Itt K a).stop i H/\D.nx σ H)\/((Itt K a).go i H/\∃ N:St->Hp->Prop,(∀ d H',N d H'->∃ j,j<m/\W (i+1) j d H')/\∀ x H',(Itt K a).yld i H x H'->g x σ H' λc h=>tb { D with nx:=N,ct:=N,bk:=D.nx } c h):=by
  refine⟨λi m σ H=>m=xs.length-i/\i<=xs.length/\b i σ H,⟨xs.length,by simp,JL _,o⟩,?_⟩
  rintro i m σ H ⟨rfl,hi,p⟩
  have q:=n i σ H hi p
  by_cases f:i<xs.length
  · refine .inr ⟨⟨xs,xs[i],q,by simp[f]⟩,b (i+1),λd H' k=>⟨xs.length-(i+1),by omega,rfl,f,k⟩,λx H' y=>?_⟩
    obtain⟨e,y⟩:=y
    subst e
    exact l i x σ _ (y xs q) p
  · have e:i=xs.length:=by omega
    subst e
    exact .inl ⟨⟨xs,q,Jg _⟩,hd σ H p⟩
theorem zbU {lo:Int}{n:Nat}{g:TG}{tb:TS}{D:Ends}{σ:St}{H:Hp}(a:Nat->St->Hp->Prop) (l:a 0 σ H)
    (k:∀ i σ H,i<n->a i σ H->g (.int (lo+i)) σ H λb f=>tb { D with nx:=a (i+1),ct:=a (i+1),bk:=D.nx } b f) (hd:∀ σ H,a n σ H->D.nx σ H) :
    ∃ W:Nat->Nat->St->Hp->Prop,(∃ m,W 0 m σ H)/\∀ i m σ H,W i m σ H ->
      ((Itr lo n).stop i H/\D.nx σ H)\/((Itr lo n).go i H/\∃ N:St->Hp->Prop,(∀ c H',N c H'->∃ h,h<m/\W (i+1) h c H')/\∀ x H',(Itr lo n).yld i H x H'->g x σ H' λb f=>tb { D with nx:=N,ct:=N,bk:=D.nx } b f):=by
  refine⟨λi m σ H=>m=n-i/\i<=n/\a i σ H,⟨n,by simp,JL _,l⟩,?_⟩
  rintro i m σ H ⟨rfl,hi,p⟩
  by_cases d:i<n
  · refine .inr ⟨d,a (i+1),λc H' j=>⟨n-(i+1),by omega,rfl,d,j⟩,λx H' y=>?_⟩
    obtain⟨e,y⟩:=y
    subst e y
    exact k i σ _ d p
  · have e:i=n:=by omega
    subst e
    exact .inl ⟨Jg _,hd σ H p⟩
abbrev R2:=V->V->Hp->VK->Prop
def OpR (X:Cx) (f:Value->Value->Sem Value) (r:R2):Prop :=
  ∀ (pins:List (Addr × Obj)) (s:Shared) (σ:St) (H:Hp) (x y:V) (v u:Value) (Q:VK),Inv X pins σ H s->RelV x v->RelV y u->r x y H Q ->
    wpAny (model X.prog X.w) X.A (f v u) (EP X pins σ Q) X.xe s
def UnR (X:Cx) (f:Value->Sem Value) (r:V->Hp->VK->Prop):Prop :=
  ∀ (pins:List (Addr × Obj)) (s:Shared) (σ:St) (H:Hp) (x:V) (v:Value) (Q:VK),Inv X pins σ H s->RelV x v->r x H Q ->
    wpAny (model X.prog X.w) X.A (f v) (EP X pins σ Q) X.xe s
def CallR (X:Cx) (f:Value) (r:List V->Hp->VK->Prop):Prop :=
  ∀ (pins:List (Addr × Obj)) (s:Shared) (σ:St) (H:Hp) (xs:List V) (us:List Value) (Q:VK),Inv X pins σ H s->Vals xs us->r xs H Q ->
    wpAny (model X.prog X.w) X.A (call f us) (EP X pins σ Q) X.xe s
def TruR (X:Cx) (r:V->Hp->(Bool->Hp->Prop)->Prop):Prop :=
  ∀ (pins:List (Addr × Obj)) (s:Shared) (σ:St) (H:Hp) (x:V) (v:Value) (Q:Bool->Hp->Prop),Inv X pins σ H s->RelV x v->r x H Q ->
    wpAny (model X.prog X.w) X.A (truthy v) (TP X pins σ Q) X.xe s
def tOp (r:R2) (ta tb:TE):TE:=λσ H Q=>ta σ H λx H1=>tb σ H1 λy a=>r x y a Q
def tUn (r:V->Hp->VK->Prop) (ta:TE):TE:=λσ H Q=>ta σ H λx H1=>r x H1 Q
def rI (C:Int->Int->Prop) (g:Int->Int->V):R2:=λx y H Q=>∃ i j,x=.int i/\y=.int j/\C i j/\Q (g i j) H
def rI0 (g:Int->Int->V):R2:=λx y H Q=>∃ i j,x=.int i/\y=.int j/\Q (g i j) H
def rU (g:Int->V):V->Hp->VK->Prop:=λx H Q=>∃ i,x=.int i/\Q (g i) H
section
variable {X:Cx}{a b:Expr}{ta tb:TE}{pos:Pos}
theorem binT (ha:PE X a ta) (hb:PE X b tb) {pins:List (Addr × Obj)}{s:Shared}{σ:St}{H:Hp}{R:V->V->Hp->Prop}(I:Inv X pins σ H s)
    (h:ta σ H λx H1=>tb σ H1 λy c=>R x y c) {Q:Value->Shared->Prop}{f:Value->Value->Sem Value}
    (l:∀ v u s2 x y c,Inv X pins σ c s2->RelV x v->RelV y u->R x y c->wpAny (model X.prog X.w) X.A (f v u) Q X.xe s2) :
    wpAny (model X.prog X.w) X.A (eval a X.env) (λv e=>wpAny (model X.prog X.w) X.A (eval b X.env) (λu d=>wpAny (model X.prog X.w) X.A (f v u) Q X.xe d) X.xe e) X.xe s:=by
  refine thn (ha pins s σ H _ I h) λv s1 ⟨x,H1,n,i,k⟩=>?_
  refine thn (hb pins s1 σ H1 _ n k) λu s2 ⟨y,c,m,g,j⟩=>?_
  exact l v u s2 x y c m i g j
theorem zao {op:Operator}{r:R2}(e:OpR X (binaryOp op) r) (ha:PE X a ta) (hb:PE X b tb):PE X (.BinOp a op b pos) (tOp r ta tb):=by
  intro pins s σ H Q I h
  exact wpAny_BinOp (binT ha hb I h λv u s2 x y g f d c q=>e pins s2 σ g x y v u Q f d c q)
theorem znz {op:UnaryOp}{r:V->Hp->VK->Prop}(d:UnR X (unaryOp op) r) (ha:PE X a ta):PE X (.UnaryOp op a pos) (tUn r ta):=by
  intro pins s σ H Q I h
  exact UnaryOp_ (thn (ha pins s σ H _ I h) λv s1 ⟨x,H1,e,b,c⟩=>d pins s1 σ H1 x v Q e b c)
theorem opI {f:Value->Value->Sem Value}{C:Int->Int->Prop}{g:Int->Int->Int}
    (rule:∀ (i j:Int) (t u:Tok) (s:Shared) (Q:Value->Shared->Prop) (E:Value->Shared->Prop),C i j->Q (.int (g i j) s.toks) { s with toks:=s.toks+1 }->wpAny (model X.prog X.w) X.A (f (.int i t) (.int j u)) Q E s) :
    OpR X f (rI C λi j=>.int (g i j)):=by
  intro pins s σ H x y v u Q I b a h
  obtain⟨i,j,rfl,rfl,c,q⟩:=h
  obtain⟨t,rfl⟩:=b
  obtain⟨t',rfl⟩:=a
  exact rule i j t t' s _ _ c ⟨.int (g i j),H,I.tok _,⟨_,rfl⟩,q⟩
theorem opI0 {f:Value->Value->Sem Value}{g:Int->Int->Int}
    (rule:∀ (i j:Int) (t u:Tok) (s:Shared) (Q:Value->Shared->Prop) (E:Value->Shared->Prop),Q (.int (g i j) s.toks) { s with toks:=s.toks+1 }->wpAny (model X.prog X.w) X.A (f (.int i t) (.int j u)) Q E s) :
    OpR X f (rI0 λi j=>.int (g i j)):=by
  intro pins s σ H x y v u Q I b a h
  obtain⟨i,j,rfl,rfl,q⟩:=h
  obtain⟨t,rfl⟩:=b
  obtain⟨t',rfl⟩:=a
  exact rule i j t t' s _ _ ⟨.int (g i j),H,I.tok _,⟨_,rfl⟩,q⟩
theorem opB0 {f:Value->Value->Sem Value}{g:Int->Int->Bool}
    (rule:∀ (i j:Int) (t u:Tok) (s:Shared) (Q:Value->Shared->Prop) (E:Value->Shared->Prop),Q (.bool (g i j)) s->wpAny (model X.prog X.w) X.A (f (.int i t) (.int j u)) Q E s) :
    OpR X f (rI0 λi j=>.bl (g i j)):=by
  intro pins s σ H x y v u Q I b a h
  obtain⟨i,j,rfl,rfl,q⟩:=h
  obtain⟨t,rfl⟩:=b
  obtain⟨t',rfl⟩:=a
  exact rule i j t t' s _ _ ⟨.bl (g i j),H,I,rfl,q⟩
def CDiv (i j:Int):Prop:=0<j/\j<1073741824
def CPow (i j:Int):Prop:=0<=j/\j<=1000000/\i.natAbs<2 ^ 64
def CMul (i j:Int):Prop:=(-(2 ^ 64)<i/\i<2 ^ 64)\/(-(2 ^ 64)<j/\j<2 ^ 64)
theorem CMul.ok {i j:Int}(h:CMul i j):IntMulOk i j:=by
  rcases h with ⟨h1,a⟩|⟨h1,a⟩
  · exact .of_left (intBits_le_64 h1 a)
  · exact .of_right (intBits_le_64 h1 a)
theorem zaW:OpR X (binaryOp .Add) (rI0 λi j=>.int (i+j)):=opI0 λ_ _ _ _ _ _ _ q=>add_int q
theorem zbS:OpR X (binaryOp .Sub) (rI0 λi j=>.int (i-j)):=opI0 λ_ _ _ _ _ _ _ q=>sub_int q
theorem zcq:OpR X (binaryOp .Mult) (rI CMul λi j=>.int (i*j)):=opI λ_ _ _ _ _ _ _ a q=>mul_int q a.ok
theorem zce:OpR X (binaryOp .FloorDiv) (rI CDiv λi j=>.int (i / j)):=opI λi j _ _ _ _ _ a q=>by
  have h1:(0:Int)<j:=a.1
  have b:j<1073741824:=a.2
  exact floordiv_int (by omega) (by rw[Int.fdiv_eq_ediv_of_nonneg i (by omega)];exact q) (.inl (PyProof.noPylong_small (by omega)))
theorem zb4:OpR X (binaryOp .Mod) (rI (λ_ j=>0<j) λi j=>.int (i%j)):=opI λi j _ _ _ _ _ a q=>by
  have h1:(0:Int)<j:=a
  exact mod_int' (by omega) (by rw[Int.fmod_eq_emod_of_nonneg i (by omega)];exact q)
theorem zla:OpR X (binaryOp .Pow) (rI CPow λi j=>.int (i ^ j.toNat)):=opI λ_ _ _ _ _ _ _ a q=>pow_int_small a.1 a.2.1 a.2.2 q
theorem unI {f:Value->Sem Value}{g:Int->Int}
    (rule:∀ (i:Int) (t:Tok) (s:Shared) (Q:Value->Shared->Prop) (E:Value->Shared->Prop),Q (.int (g i) s.toks) { s with toks:=s.toks+1 }->wpAny (model X.prog X.w) X.A (f (.int i t)) Q E s) :
    UnR X f (rU λi=>.int (g i)):=by
  intro pins s σ H x v Q I a h
  obtain⟨i,rfl,q⟩:=h
  obtain⟨t,rfl⟩:=a
  exact rule i t s _ _ ⟨.int (g i),H,I.tok _,⟨_,rfl⟩,q⟩
theorem zmq:UnR X (unaryOp .USub) (rU λi=>.int (-i)):=unI λ_ _ _ _ _ q=>neg_int q
end
def scal:V->V->Bool
  | .non,.non=>true|.non,.int _=>true|.int _,.non=>true|.non,.bl _=>true|.bl _,.non=>true|.non,.str _=>true|.str _,.non=>true
  | .int _,.int _=>true|.bl _,.bl _=>true|.str _,.str _=>true|.byt _,.byt _=>true
  | .int _,.str _=>true|.str _,.int _=>true|.bl _,.str _=>true|.str _,.bl _=>true
  | _,_=>false
def rEq:R2:=λx y H Q=>scal x y=true/\Q (.bl (decide (x=y))) H
def rNe:R2:=λx y H Q=>scal x y=true/\Q (.bl (!decide (x=y))) H
theorem zjk {i j:Int}:decide (V.int i=V.int j)=(i == j):=by
  rw[Yt]
  simp
theorem zli {i j:Bool}:decide (V.bl i=V.bl j)=(i == j):=by
  rw[Yt]
  simp
theorem zjj {i j:Str}:decide (V.str i=V.str j)=(i == j):=by
  rw[Yt]
  simp
theorem zjl {i j:Array UInt8}:decide (V.byt i=V.byt j)=(i.toList == j.toList):=by
  rw[Yt]
  cases i
  cases j
  simp
section
variable {X:Cx}{a b c:Expr}{ta tb:TE}{pos:Pos}
theorem zaJ {pins:List (Addr × Obj)}{σ:St}{H:Hp}{s:Shared}{Q:VK}{k a:Bool}(I:Inv X pins σ H s) (q:Q (.bl k) H) (e:k=a):EP X pins σ Q (.bool a) s:=by
  subst e
  exact⟨.bl k,H,I,rfl,q⟩
theorem zbQ:OpR X (compareOp .Eq) rEq:=by
  intro pins s σ H x y v u Q I c a h
  obtain⟨b,q⟩:=h
  cases x with
  | non =>
    cases c
    cases y with
    | non=>cases a;exact PySem.EqNone.eq_none_none (zaJ I q (by simp))
    | bl j=>cases a;exact PySem.EqNone.eq_none_bool (zaJ I q (by simp))
    | int j=>obtain⟨t',rfl⟩:=a;exact PySem.EqNone.eq_none_int (zaJ I q (by simp))
    | str j=>obtain⟨t',rfl⟩:=a;exact PySem.EqNone.eq_none_str (zaJ I q (by simp))
    | _=>exact absurd (show false=true from b) Jp
  | bl i =>
    cases c
    cases y with
    | non=>cases a;exact PySem.EqNone.eq_bool_none (zaJ I q (by simp))
    | bl j=>cases a;exact eq_bool (zaJ I q zli)
    | str j=>obtain⟨t',rfl⟩:=a;exact PySem.EqMixed.eq_bool_str (zaJ I q (by simp))
    | _=>exact absurd (show false=true from b) Jp
  | int i =>
    obtain⟨t,rfl⟩:=c
    cases y with
    | non=>cases a;exact PySem.EqNone.eq_int_none (zaJ I q (by simp))
    | int j=>obtain⟨t',rfl⟩:=a;exact eq_int (zaJ I q zjk)
    | str j=>obtain⟨t',rfl⟩:=a;exact PySem.EqMixed.eq_int_str (zaJ I q (by simp))
    | _=>exact absurd (show false=true from b) Jp
  | str i =>
    obtain⟨t,rfl⟩:=c
    cases y with
    | non=>cases a;exact PySem.EqNone.eq_str_none (zaJ I q (by simp))
    | bl j=>cases a;exact PySem.EqMixed.eq_str_bool (zaJ I q (by simp))
    | int j=>obtain⟨t',rfl⟩:=a;exact PySem.EqMixed.eq_str_int (zaJ I q (by simp))
    | str j=>obtain⟨t',rfl⟩:=a;exact eq_str (zaJ I q zjj)
    | _=>exact absurd (show false=true from b) Jp
  | byt i =>
    obtain⟨t,rfl⟩:=c
    cases y with
    | byt j=>obtain⟨t',rfl⟩:=a;exact PySem.W.eq_bytes (zaJ I q zjl)
    | _=>exact absurd (show false=true from b) Jp
  | _=>cases y<;>exact absurd (show false=true from b) Jp
theorem zj8:OpR X (compareOp .NotEq) rNe:=by
  intro pins s σ H x y v u Q I c a h
  obtain⟨b,q⟩:=h
  cases x with
  | non =>
    cases c
    cases y with
    | non=>cases a;exact PySem.EqNone.ne_none_none (zaJ I q (by simp))
    | bl j=>cases a;exact PySem.EqNone.ne_none_bool (zaJ I q (by simp))
    | int j=>obtain⟨t',rfl⟩:=a;exact PySem.EqNone.ne_none_int (zaJ I q (by simp))
    | str j=>obtain⟨t',rfl⟩:=a;exact PySem.EqNone.ne_none_str (zaJ I q (by simp))
    | _=>exact absurd (show false=true from b) Jp
  | bl i =>
    cases c
    cases y with
    | non=>cases a;exact PySem.EqNone.ne_bool_none (zaJ I q (by simp))
    | bl j=>cases a;exact ne_bool (zaJ I q (JS not zli))
    | str j=>obtain⟨t',rfl⟩:=a;exact PySem.EqMixed.ne_bool_str (zaJ I q (by simp))
    | _=>exact absurd (show false=true from b) Jp
  | int i =>
    obtain⟨t,rfl⟩:=c
    cases y with
    | non=>cases a;exact PySem.EqNone.ne_int_none (zaJ I q (by simp))
    | int j=>obtain⟨t',rfl⟩:=a;exact ne_int (zaJ I q (JS not zjk))
    | str j=>obtain⟨t',rfl⟩:=a;exact PySem.EqMixed.ne_int_str (zaJ I q (by simp))
    | _=>exact absurd (show false=true from b) Jp
  | str i =>
    obtain⟨t,rfl⟩:=c
    cases y with
    | non=>cases a;exact PySem.EqNone.ne_str_none (zaJ I q (by simp))
    | bl j=>cases a;exact PySem.EqMixed.ne_str_bool (zaJ I q (by simp))
    | int j=>obtain⟨t',rfl⟩:=a;exact PySem.EqMixed.ne_str_int (zaJ I q (by simp))
    | str j=>obtain⟨t',rfl⟩:=a;exact ne_str (zaJ I q (JS not zjj))
    | _=>exact absurd (show false=true from b) Jp
  | byt i =>
    obtain⟨t,rfl⟩:=c
    cases y with
    | byt j=>obtain⟨t',rfl⟩:=a;exact PySem.W.ne_bytes (zaJ I q (JS not zjl))
    | _=>exact absurd (show false=true from b) Jp
  | _=>cases y<;>exact absurd (show false=true from b) Jp
theorem zlO:OpR X (compareOp .Lt) (rI0 λi j=>.bl (decide (i<j))):=opB0 λ_ _ _ _ _ _ _ q=>lt_int q
theorem zj9:OpR X (compareOp .Gt) (rI0 λi j=>.bl (decide (j<i))):=opB0 λ_ _ _ _ _ _ _ q=>gt_int q
theorem zmP:OpR X (compareOp .GtE) (rI0 λi j=>.bl (decide (j<=i))):=opB0 λ_ _ _ _ _ _ _ q=>ge_int q
theorem zmN:OpR X (compareOp .Is) (λx y H Q=>y=.non/\Q (.bl (decide (x=.non))) H):=by
  intro pins s σ H x y v u Q I a b h
  obtain⟨rfl,q⟩:=h
  cases b
  refine is_none_gen (zaJ I q ?_)
  cases x<;>first
    | (cases a;rfl)
    | (obtain⟨t,rfl⟩:=a;rfl)
theorem zaG (b:Expr) {op:CmpOp}(h:op≠.In:=by decide) (a:op≠.NotIn:=by decide):behindInMarks op b=false:=by
  have c:(op == CmpOp.In)=false:=by cases op<;>first|rfl|exact absurd rfl h
  have e2:(op == CmpOp.NotIn)=false:=by cases op<;>first|rfl|exact absurd rfl a
  cases b<;>simp[behindInMarks,c,e2]
theorem zbt {op:CmpOp}{r:R2}(e:OpR X (compareOp op) r) (ha:PE X a ta) (hb:PE X b tb) (f:behindInMarks op b=false):PE X (.Compare a [op] [b] pos) (tOp r ta tb):=by
  intro pins s σ H Q I h
  exact wpAny_Compare1 (binT ha hb I h λv u s2 x y i g d c q=>e pins s2 σ i x y v u Q g d c q) f
def znj (t:TE):TT:=λσ H Q=>t σ H λx H'=>∃ k,x=.bl k/\Q k H'
theorem zaz {op:CmpOp}{r:R2}(m:OpR X (compareOp op) r) (ha:PE X a ta) (hb:PE X b tb) (n:behindInMarks op b=false):PT X (.Compare a [op] [b] pos) (znj (tOp r ta tb)):=by
  intro pins s σ H Q I h
  refine wpAny_isTrue_Compare1 (thn (ha pins s σ H _ I h) λv s1 ⟨x,H1,q,g,l⟩=>thn (hb pins s1 σ H1 _ q l) λu s2 ⟨y,w,p,f,j⟩ =>
    thn (m pins s2 σ w x y v u _ p g f j) λc A ⟨z,t,o,d,k,e,i⟩=>?_) n
  subst e
  cases d
  exact YM ⟨t,o,i⟩
def TruV (K:PySem.W.Frag) (x:V) (H:Hp) (k:Bool):Prop :=
  match x with
  | .non=>k=false
  | .bl b=>k=b
  | .int i=>k=(i != 0)
  | .str y=>y.length<=sizeLine/\k=((y.length:Int) != 0)
  | .byt y=>y.size<=sizeLine/\k=((y.size:Int) != 0)
  | .ref p=>(∃ xs,SqL K H p xs/\k = !xs.isEmpty)\/(∃ xs,SqT K H p xs/\k = !xs.isEmpty)\/∃ kvs,H p=some (.dK kvs)/\k = !kvs.isEmpty
  | _=>False
theorem zhj {κ:Type}{kvs:List (κ × V)}{vs:List (κ × Value)}(r:KV kvs vs):(!vs.isEmpty) = !kvs.isEmpty:=by
  cases r<;>rfl
theorem zdS {xs:List V}{its:List Value}(r:Vals xs its):(!its.toArray.isEmpty) = !xs.isEmpty:=by
  cases r<;>simp
theorem zeZ:(sizeLine:Nat)<2 ^ 63:=by rw[JE];decide
theorem zmt:TruR X (λx H Q=>∃ k,TruV X.K x H k/\Q k H):=by
  intro pins s σ H x v Q I c h
  obtain⟨k,e,q⟩:=h
  have o:=zeZ
  have n:sizeLine=16777216:=JE
  cases x with
  | non =>
    cases c
    have a:k=false:=e
    subst a
    exact truthy_none ⟨H,I,q⟩
  | bl b =>
    cases c
    have a:k=b:=e
    subst a
    exact YM ⟨H,I,q⟩
  | int i =>
    obtain⟨t,rfl⟩:=c
    have a:k=(i != 0):=e
    subst a
    exact PySem.P.truthy_int ⟨H,I,q⟩
  | str y =>
    obtain⟨t,rfl⟩:=c
    obtain⟨j,a⟩:y.length<=sizeLine/\k=((y.length:Int) != 0):=e
    subst a
    exact PySem.P.truthy_str (by omega) ⟨H,I.tok _,q⟩
  | byt y =>
    obtain⟨t,rfl⟩:=c
    obtain⟨j,a⟩:y.size<=sizeLine/\k=((y.size:Int) != 0):=e
    subst a
    exact PySem.W.truthy_bytes (by omega) ⟨H,I.tok _,q⟩
  | ref p =>
    cases c
    have a:(∃ xs,SqL X.K H p xs/\k = !xs.isEmpty)\/(∃ xs,SqT X.K H p xs/\k = !xs.isEmpty)\/∃ kvs,H p=some (.dK kvs)/\k = !kvs.isEmpty:=e
    rcases a with ⟨xs,d,a⟩|⟨xs,d,a⟩|⟨kvs,d,a⟩
    · subst a
      obtain⟨its,r,f,g⟩:=I.list d
      have hlen:=r.length
      exact wpAny_truthy_list f.isList (by simp only[Jj];omega) ⟨H,I.tok _,by rw[zdS r];exact q⟩
    · subst a
      obtain⟨its,r,f,g⟩:=I.tuple d
      have hlen:=r.length
      exact truthy_tuple f (by simp only[Jj];omega) ⟨H,I.tok _,by rw[zdS r];exact q⟩
    · subst a
      obtain⟨g,l,vs,r,m⟩:kvs.length<=sizeLine/\(p == sysModules)=false/\∃ vs,KV kvs vs/\s.heap.DictOf (zaZ X.prog X.w) p vs:=I.hok p _ d
      have hlen:kvs.length=vs.length:=YX r
      exact wpAny_truthy_dict l m (by omega) ⟨H,I.tok _,by rw[zhj r];exact q⟩
  | _=>exact(show False from e).elim
theorem zc6 (ha:PE X a ta) (d:∀ whole,isTrue a X.env whole=(do let v <- whole;standAt a.pos;holding [v] (truthy v))) :
    PT X a (λσ H Q=>ta σ H λx H'=>∃ k,TruV X.K x H' k/\Q k H'):=by
  intro pins s σ H Q I h
  exact isTrue_plain (thn (ha pins s σ H _ I h) λv s1 ⟨x,H1,e,b,c⟩=>zmt pins s1 σ H1 x v Q e b c) (d _)
theorem zgK {x:V}{us:List Value}(r:Vals [x] us):∃ u,us=[u]/\RelV x u:=by
  cases r with
  | cons b a=>cases a;exact⟨_,rfl,b⟩
theorem zll {x y:V}{us:List Value}(r:Vals [x,y] us):∃ u a,us=[u,a]/\RelV x u/\RelV y a:=by
  cases r with
  | cons e d =>
    cases d with
    | cons c b=>cases b;exact⟨_,_,rfl,e,c⟩
theorem zgJ:CallR X (.builtin "abs") (λxs H Q=>∃ i,xs=[.int i]/\Q (.int (if i<0 then -i else i)) H):=by
  intro pins s σ H xs us Q I r h
  obtain⟨i,rfl,q⟩:=h
  obtain⟨u,rfl,t,rfl⟩:=zgK r
  exact call_abs_int λu tk=>⟨.int (if i<0 then -i else i),H,I.tok _,⟨_,rfl⟩,q⟩
theorem zfe (b:X.calm=true):CallR X (.builtin "max") (λxs H Q=>∃ i j,xs=[.int i,.int j]/\Q (.int (if j > i then j else i)) H):=by
  intro pins s σ H xs us Q I r h
  obtain⟨i,j,rfl,q⟩:=h
  obtain⟨u,c,rfl,⟨t,rfl⟩,⟨t',rfl⟩⟩:=zll r
  refine max_two_ints (I.ok.hd b) λh' tk k=>⟨_,H,I.kept k,?_,q⟩
  by_cases a:j > i
  · rw[Jf a,Jf a];exact⟨_,rfl⟩
  · rw[Jc a,Jc a];exact⟨_,rfl⟩
theorem zfd (b:X.calm=true):CallR X (.builtin "min") (λxs H Q=>∃ i j,xs=[.int i,.int j]/\Q (.int (if j<i then j else i)) H):=by
  intro pins s σ H xs us Q I r h
  obtain⟨i,j,rfl,q⟩:=h
  obtain⟨u,c,rfl,⟨t,rfl⟩,⟨t',rfl⟩⟩:=zll r
  refine min_two_ints (I.ok.hd b) λh' tk k=>⟨_,H,I.kept k,?_,q⟩
  by_cases a:j<i
  · rw[Jf a,Jf a];exact⟨_,rfl⟩
  · rw[Jc a,Jc a];exact⟨_,rfl⟩
theorem zcG:CallR X (.type "int") (λxs H Q=>(∃ i,xs=[.int i]/\Q (.int i) H)\/∃ k,xs=[.bl k]/\Q (.int (if k then 1 else 0)) H):=by
  intro pins s σ H xs us Q I r h
  rcases h with ⟨i,rfl,q⟩|⟨k,rfl,q⟩
  · obtain⟨u,rfl,t,rfl⟩:=zgK r
    exact call_int_int ⟨.int i,H,I,⟨_,rfl⟩,q⟩
  · obtain⟨u,rfl,a⟩:=zgK r
    cases a
    exact call_int_bool ⟨.int (if k then 1 else 0),H,I.tok _,⟨_,rfl⟩,q⟩
end
structure Room (k:Nat) (A:Around):Prop where
  hd:A.handled=none
  dp:A.depth+3*k+5<recursionLimit
  un:A.units+16*k+200<cLine
  gd:A.guards=some []
theorem Room.mono {j k:Nat}{A:Around}(r:Room k A) (h:j<=k):Room j A:=⟨r.hd,by have:=r.dp;omega,by have:=r.un;omega,r.gd⟩
theorem Room.deeper {k:Nat}{A:Around}(r:Room (k+1) A) (env:Env):Room k (A.deeper env) :=
  ⟨r.hd,by have:=r.dp;show A.depth+1+3*k+5<_;omega,by have:=r.un;show A.units+3+16*k+200<_;omega,r.gd⟩
theorem Room.depth {k:Nat}{A:Around}(r:Room k A):A.depth<recursionLimit:=by have:=r.dp;omega
theorem Room.units {k:Nat}{A:Around}(r:Room k A):A.units+64<cLine:=by have:=r.un;omega
theorem Room.units0 {k:Nat}{A:Around}(r:Room k A):A.units<cLine:=by have:=r.un;omega
def tNil:TA:=λ_ H Q=>Q [] H
def zlr (ta:TE) (a:TA):TA:=λσ H Q=>ta σ H λx H1=>a σ H1 λxs b=>Q (x::xs) b
section
variable {X:Cx}{e:Expr}{es:List Expr}{te:TE}{t:TA}{pos:Pos}
theorem zac:PA X [] tNil:=λ_ _ _ _ H Q I h=>Wy ⟨[],H,I,.nil,h⟩
theorem zaa (ha:PE X e te) (g:PA X es t) (f:starEach (e::es) X.env=(false,eval e X.env)::starEach es X.env:=by rfl):PA X (e::es) (zlr te t):=by
  intro pos pins s σ H Q I h
  rw[f]
  show wpAny _ _ (spliced ((false,eval e X.env)::backTo pos (starEach es X.env))) _ _ s
  refine ZS (thn (ha pins s σ H _ I h) λu s1 ⟨x,H1,j,b,d⟩=>?_)
  exact thn (g pos pins s1 σ H1 _ j d) λus s2 ⟨xs,k,i,a,c⟩=>⟨x::xs,k,i,.cons b a,c⟩
def tTup (t:TA):TE:=λσ H Q=>t σ H λxs H1=>xs.length<=sizeLine/\∀ p,H1 p=none->Q (.ref p) (upd H1 p (.tup xs))
def tLst (t:TA):TE:=λσ H Q=>t σ H λxs H1=>xs.length<=sizeLine/\∀ p,H1 p=none->Q (.ref p) (upd H1 p (.lst xs))
theorem zaB {x1} (h:PA X es t):PE X (.Tuple es x1 pos) (tTup t):=by
  intro pins s σ H Q I c
  refine wpAny_Tuple_spliced (thn (h pos pins s σ H _ I c) λus s1 ⟨xs,H1,a,r,z,q⟩=>⟨by rw[<- r.length];exact z,?_⟩)
  have d:H1 s1.heap.objs.size=none:=a.hok.fresh (Jg _)
  refine⟨.ref s1.heap.objs.size,upd H1 s1.heap.objs.size (.tup xs),a.laid (t':=s1.toks) (λb u e=>J8 _ e) (Jg _) ?_,rfl,q _ d⟩
  exact⟨z,us,r,TupX.new _ _⟩
theorem zaO (h:PA X es t):PE X (.List es pos) (tLst t):=by
  intro pins s σ H Q I c
  refine wpAny_List_spliced (thn (h pos pins s σ H _ I c) λus s1 ⟨xs,H1,a,r,z,q⟩=>⟨by rw[<- r.length];exact z,?_⟩)
  have d:H1 s1.heap.objs.size=none:=a.hok.fresh (Jg _)
  refine⟨.ref s1.heap.objs.size,upd H1 s1.heap.objs.size (.lst xs),a.laid (t':=s1.toks) (λb u e=>J8 _ e) (Jg _) ?_,rfl,q _ d⟩
  exact⟨z,us,0,r,Js _ rfl⟩
end
abbrev Sp:=List V->Hp->VK->XK->Prop
abbrev CXT:=List Env->Hp->Shared->XK->Value->Shared->Prop
structure Env0 (P:Program) (w:World) (K:PySem.W.Frag) (mg:Str->Option Value) (base:Heap) (A:Around) (outer:List Env) (s:Shared) (H:Hp):Prop where
  frames:A.frames=some outer
  mod:Mod K mg base
  bs:∀ b o,base.get? b=some o->s.heap.get? b=some o/\H b=none
  bsz:base.objs.size<=s.heap.objs.size
  funs:s.heap.FunFrames base outer
  frf:∀ b∈frs outer,H b=none
  hok:HOk P w H s.heap
  bare:AllBare s.gens
def CE (outer:List Env) (P:Program) (w:World) (H:Hp) (s:Shared) (Q:VK) (u:Value) (s':Shared):Prop :=
  ∃ v H',s'.os=s.os/\AllBare s'.gens/\Un (frs outer) [] H H' s.heap s'.heap/\HOk P w H' s'.heap/\RelV v u/\Q v H'
def CR (CX:CXT) (outer:List Env) (P:Program) (w:World) (H:Hp) (s:Shared) (Q:VK) (E:XK) (r:Result) (s':Shared):Prop :=
  match r with
  | .ok (.ret u)=>CE outer P w H s Q u s'
  | .ok _=>False
  | .error e=>CX outer H s E e s'
structure FnOk (P:Program) (w:World) (K:PySem.W.Frag) (mg:Str->Option Value) (base:Heap) (CX:CXT) (k:Nat) (f:Addr) (fd:FuncData) (ps:List Str) (sp:Sp):Prop where
  len:∀ vs H Q E,sp vs H Q E->vs.length=ps.length
  run:∀ (A:Around) (outer:List Env) (s:Shared) (H:Hp) (args:Args) (us:List Value) (vs:List V) (Q:VK) (E:XK),Room k A->Env0 P w K mg base A outer s H->BindsTo s fd args (ps.zip us)->Vals vs us->sp vs H Q E ->
    codeAny (model P w) A (.call (.ref f) args) (CR CX outer P w H s Q E) s
theorem FnOk.mono {P:Program}{w:World}{K:PySem.W.Frag}{mg:Str->Option Value}{base:Heap}{CX:CXT}{j k:Nat}{f:Addr}{fd:FuncData}{ps:List Str}{sp:Sp}(F:FnOk P w K mg base CX j f fd ps sp) (h:j<=k) :
    FnOk P w K mg base CX k f fd ps sp:=⟨F.len,λA outer s H args us vs Q E a=>F.run A outer s H args us vs Q E (a.mono h)⟩
theorem FnOk.imp {P:Program}{w:World}{K:PySem.W.Frag}{mg:Str->Option Value}{base:Heap}{CX:CXT}{k:Nat}{f:Addr}{fd:FuncData}{ps:List Str}{sp a:Sp}(F:FnOk P w K mg base CX k f fd ps sp)
    (h:∀ vs H Q E,a vs H Q E->sp vs H Q E):FnOk P w K mg base CX k f fd ps a :=
  ⟨λvs H Q E q=>F.len vs H Q E (h _ _ _ _ q),λA outer s H args us vs Q E d e hb b c=>F.run A outer s H args us vs Q E d e hb b (h _ _ _ _ c)⟩
section
variable {X:Cx}{pins:List (Addr × Obj)}{σ:St}{H:Hp}{s s':Shared}
theorem Inv.env0 (I:Inv X pins σ H s):Env0 X.prog X.w X.K X.mg X.base X.A X.stack s H :=
  ⟨I.ok.frames,I.ok.mod,I.bs,JW I.ok.bsz I.sz,I.stack,I.stkFree,I.hok,I.bare⟩
theorem Inv.after {Q:VK}{u:Value}(I:Inv X pins σ H s) (h:CE X.stack X.prog X.w H s Q u s'):EP X pins σ Q u s':=by
  obtain⟨v,H',os,bare,un,hok,r,q⟩:=h
  obtain⟨c,g,d,t,a⟩:=s'
  obtain rfl:a=s.os:=os
  exact⟨v,H',I.call (h':=c) (g':=g) (d':=d) (t':=t) (ch:=[]) un hok bare (λb z=>absurd z (by simp)),r,q⟩
end
def znt (sp:Sp) (dvs:List V) (E:XK) (t:TA):TE:=λσ H Q=>t σ H λvs H1=>sp (vs++dvs) H1 Q E
def Binds (K:PySem.W.Frag) (fd:FuncData) (ps:List Str) (ds:List Value):Prop :=
  ∀ (s:Shared) (us:List Value),K.In s.heap->(us++ds).length=ps.length->BindsTo s fd ⟨us,[]⟩ (ps.zip (us++ds))
theorem Binds.all {K:PySem.W.Frag}{fd:FuncData}{ps:List Str}(h:∀ us:List Value,us.length=ps.length->bindArgs fd ⟨us,[]⟩=pure (ps.zip us)):Binds K fd ps []:=λs us _ a=>by
  rw[Y5]at a ⊢
  exact .of_eq (h us a)
def Passes (CX:CXT) (X:Cx) (E:XK):Prop:=∀ (pins:List (Addr × Obj)) (σ:St) (H:Hp) (s:Shared) (e:Value) (s':Shared),Inv X pins σ H s->CX X.stack H s E e s'->X.xe e s'
section
variable {X:Cx}{CX:CXT}{k:Nat}{f:Addr}{fd:FuncData}{ps:List Str}{sp:Sp}{dvs:List V}{ds:List Value}{E:XK}{x:Str}{p pos:Pos}{e:Expr}{es:List Expr}{t:TA}
theorem zmA {pins:List (Addr × Obj)}{σ:St}{H:Hp}{s:Shared}{Q:VK}{us:List Value}{vs:List V}(F:FnOk X.prog X.w X.K X.mg X.base CX k f fd ps sp) (d:Room k X.A) (hb:Binds X.K fd ps ds) (hd:Vals dvs ds) (c:Passes CX X E)
    (I:Inv X pins σ H s) (r:Vals vs us) (h:sp (vs++dvs) H Q E):wpAny (model X.prog X.w) X.A (call (.ref f) us) (EP X pins σ Q) X.xe s:=by
  have b:Vals (vs++dvs) (us++ds):=r.append hd
  have g:(us++ds).length=ps.length:=by rw[<- b.length];exact F.len _ _ _ _ h
  refine wpAny_call (codeAny_mono (F.run X.A X.stack s H ⟨us,[]⟩ (us++ds) (vs++dvs) Q E d I.env0 (hb s us I.kIn g) b h) λr s' a=>?_)
  cases r with
  | error e=>exact c pins σ H s e s' I a
  | ok fl =>
    cases fl with
    | ret u=>exact I.after a
    | next=>exact False.elim a
    | brk=>exact False.elim a
    | cont=>exact False.elim a
theorem zam (F:FnOk X.prog X.w X.K X.mg X.base CX k f fd ps sp) (g:Room k X.A) (l:Gl X x) (i:X.mg x=some (.ref f)) (j:PySem.W.keepIn X.K (.ref f)=true) (hb:Binds X.K fd ps ds) (hd:Vals dvs ds) (d:Passes CX X E)
    (ha:PA X (e::es) t) (b:(x == ("__debug__":Str))=false:=by decide) (m:starEach (e::es) X.env=(false,eval e X.env)::starEach es X.env:=by rfl) (a:(backTo pos (starEach es X.env)).any (·.1)=false:=by rfl) :
    PE X (.Call (.Name x p) (e::es) [] pos) (znt sp dvs E t):=by
  intro pins s σ H Q I h
  refine Zg (ziS I l i ?_ b)
  refine PySem.W.callWith_K (h₀:=X.base) I.ok.mod.kin j (thn (ha pos pins s σ H _ I h) λus s1 ⟨vs,H1,c,r,q⟩=>⟨c.kIn,?_⟩) m a
  exact zmA F g hb hd d c r q
end
structure FnScope (N P:List Str) (sc:Scope):Prop where
  kind:sc.kind=.function
  co:sc.isCoroutine=false
  gen:sc.isGenerator=false
  nd:N.Nodup
  pre:N.take P.length=P
  par:∀ x∈P,sc.names.lookup x=some .local \/ sc.names.lookup x=some .cell
  nofree:∀ y∈sc.names,y.2≠.free
theorem zfh {kindOf:Str->Option NameKind}{x:Str}:∀ {binds:List (Str × Value)}{m:Str->Option Value},(∀ v,(x,v)∉binds)->bindL kindOf binds m x=m x
  | [],_,_=>rfl
  | (n,v)::r,m,h=>by
    unfold bindL
    rw[zfh λw a=>h w (JH _ a)]
    split
    · have:x≠n:=by rintro rfl;exact h v JJ
      simp[this]
    · rfl
theorem zfj {kindOf:Str->Option NameKind}{x:Str}:∀ {binds:List (Str × Value)}{m:Str->Option Value},(∀ v,(x,v)∉binds)->bindC kindOf binds m x=m x
  | [],_,_=>rfl
  | (n,v)::r,m,h=>by
    unfold bindC
    rw[zfj λw a=>h w (JH _ a)]
    split
    · rfl
    · have:x≠n:=by rintro rfl;exact h v JJ
      simp[this]
theorem zfi {kindOf:Str->Option NameKind}{x:Str}{v:Value}:∀ {P:List Str}{vs:List Value}{i:Nat}{m:Str->Option Value},P.Nodup->P[i]?=some x->vs[i]?=some v->kindOf x=some .local ->
    bindL kindOf (P.zip vs) m x=some v
  | [],_,_,_,_,h,_,_=>by simp at h
  | _::_,[],_,_,_,_,h,_=>by simp at h
  | p::P,w::vs,0,m,nd,h1,a,b=>by
    simp at h1 a;subst h1;subst a
    show bindL kindOf ((p,w)::P.zip vs) m p=_
    unfold bindL
    rw[zfh λv c=>(JR.mp nd).1 (List.of_mem_zip c).1,Jf b]
    simp
  | p::P,w::vs,i+1,m,nd,h1,a,b=>by
    show bindL kindOf ((p,w)::P.zip vs) m x=_
    unfold bindL
    exact zfi (i:=i) (JR.mp nd).2 (by simpa using h1) (by simpa using a) b
theorem zfk {kindOf:Str->Option NameKind}{x:Str}{v:Value}:∀ {P:List Str}{vs:List Value}{i:Nat}{m:Str->Option Value},P.Nodup->P[i]?=some x->vs[i]?=some v->kindOf x≠some .local ->
    bindC kindOf (P.zip vs) m x=some v
  | [],_,_,_,_,h,_,_=>by simp at h
  | _::_,[],_,_,_,_,h,_=>by simp at h
  | p::P,w::vs,0,m,nd,h1,a,b=>by
    simp at h1 a;subst h1;subst a
    show bindC kindOf ((p,w)::P.zip vs) m p=_
    unfold bindC
    rw[zfj λv c=>(JR.mp nd).1 (List.of_mem_zip c).1,Jc b]
    simp
  | p::P,w::vs,i+1,m,nd,h1,a,b=>by
    show bindC kindOf ((p,w)::P.zip vs) m x=_
    unfold bindC
    exact zfk (i:=i) (JR.mp nd).2 (by simpa using h1) (by simpa using a) b
def zdG (N:List Str) (vs:List V):St:=vs.map some++List.replicate (N.length-vs.length) none
def cxOf (CX:CXT) (P:Program) (w:World) (K:PySem.W.Frag) (mg:Str->Option Value) (base:Heap) (N:List Str) (qual:Str) (scope:Scope) (f:Addr) (cd:Value) (A:Around) (outer:List Env) (s:Shared) (H:Hp) (E:XK):Cx where
  prog:=P
  w:=w
  K:=K
  mg:=mg
  base:=base
  A:=A.deeper (envOfC qual scope s.heap.objs.size f cd)
  N:=N
  s₀:=s
  H₀:=H
  env:=envOfC qual scope s.heap.objs.size f cd
  outer:=outer
  stack:=envOfC qual scope s.heap.objs.size f cd::outer
  ex:=[]
  calm:=true
  fn:=λ_=>true
  pn:=[]
  xe:=λe s'=>wpAny (model P w) (A.deeper (envOfC qual scope s.heap.objs.size f cd)) (leaving (envOfC qual scope s.heap.objs.size f cd) e) (λ_ a=>CX outer H s E e a) (λb a=>CX outer H s E b a) s'
theorem zgI {sc:Scope}{n:Nat}{x:Str}(h:sc.names.lookup x=some .cell):∃ c,(cellsFrom n sc.names []).lookup x=some c:=by
  have q:=PySem.W.cellsFrom_some sc.names n [] (.inl h)
  exact ZH.mp q
theorem zi2 {CX:CXT}{P:Program}{w:World}{K:PySem.W.Frag}{mg:Str->Option Value}{base:Heap}{N ps:List Str}{qual:Str}{scope:Scope}{f:Addr}{cd:Value}{A:Around}{outer:List Env}{s s1:Shared}{H:Hp}{E:XK}{us:List Value}{vs:List V}
    (S:FnScope N ps scope) (hd:A.handled=none) (g:Env0 P w K mg base A outer s H) (F:vs.length=ps.length) (r:Vals vs us)
    (x:InCallC s s.heap.objs.size (bindL (envOfC qual scope s.heap.objs.size f cd).kindOf (ps.zip us) λ_=>none) (cellsFrom (s.heap.objs.size+1) scope.names []) (bindC (envOfC qual scope s.heap.objs.size f cd).kindOf (ps.zip us) λ_=>none) s1) :
    Inv (cxOf CX P w K mg base N qual scope f cd A outer s H E) [] (zdG N vs) H s1:=by
  have D:ps.length<=N.length:=by have:=JS List.length S.pre;rw[Jw]at this;omega
  obtain⟨h1,tk,rfl,B⟩:=x.done
  have l:∀ b:Addr,b∉(cxOf CX P w K mg base N qual scope f cd A outer s H E).ex:=λb z=>absurd (show b∈([]:List Addr) from z) (by simp)
  refine⟨⟨g.mod,S.kind,rfl,rfl,Jg _,λy z c h1 d=>?_,λy j=>?_,λy c _ h=>?_,λ_=>hd,Around.frames_deeper g.frames,.inr ⟨rfl,rfl⟩,λb z=>absurd z (l b),g.bs,g.bsz,λb _ _=>l b,λb z=>absurd z (l b),g.funs,g.frf⟩,
    rfl,g.bare,Un.kept B,⟨_,x.toInCall.ns,λi y v h1 d G=>?_⟩,λy c h=>⟨_,x.cell y c h⟩,g.hok.fresh (Jg _),λy c h=>?_,λp m=>absurd (show p∈([]:List (Addr × Obj)) from m) (by simp),g.hok.kept B,?_⟩
  · exact name_of_addr x.apart (Zc h1) (Zc d)
  · have j:scope.names.lookup y=some .cell\/scope.names.lookup y=some .free:=j
    rcases j with j|j
    · exact zgI j
    · exact absurd rfl (S.nofree _ (Zc j))
  · exact Nat.le_of_lt (x.above y c (Zc h))
  · have hi:i<vs.length:=by
      unfold zdG at d
      by_cases hi:i<vs.length
      · exact hi
      · rw[Ye (by simpa using hi)]at d
        rw[List.getElem?_replicate]at d
        split at d<;>cases d
    have ha:vs[i]?=some v:=by
      unfold zdG at d
      rw[YE (by simpa using hi),JP]at d
      cases e:vs[i]? with
      | none=>rw[e]at d;cases d
      | some a=>rw[e]at d;cases d;rfl
    obtain⟨u,t,C⟩:=r.get ha
    have m:ps[i]?=some y:=by
      rw[<- S.pre,Zb (by omega)];exact h1
    have o:ps.Nodup:=by rw[<- S.pre];exact S.nd.sublist (List.take_sublist _ _)
    refine⟨u,C,?_⟩
    rcases S.par y (JT m) with k|k
    · exact .inl ⟨k,zfi o m t k⟩
    · obtain⟨c,e⟩:=zgI (n:=s.heap.objs.size+1) k
      refine .inr ⟨.inl k,c,e,?_⟩
      have q:=x.cell y c e
      rw[zfk o m t (by show scope.names.lookup y≠_;rw[k];decide)]at q
      exact q
  · exact g.hok.fresh (Nat.le_of_lt (x.above y c (Zc h)))
  · unfold zdG
    show _=N.length
    rw[Jb,Jh,Y3]
    omega
theorem zm8 {CX:CXT}{P:Program}{w:World}{K:PySem.W.Frag}{mg:Str->Option Value}{base:Heap}{k:Nat}{f:Addr}{name qual:Str}{params:Arguments}{body:List Stmt}{scope:Scope}{p kV doc pm cdv ct oc:Value}{an od:Option Addr}
    {osl:Array (Option Value)}{N ps:List Str}{sp:Sp}(B:K.lookup f=some ⟨oc,od,.func (PySem.W.fnOf name qual params body scope p kV doc pm an cdv ct),osl⟩) (m:PySem.W.codeIn K cdv qual=true) (S:FnScope N ps scope)
    (len:∀ vs H Q E,sp vs H Q E->vs.length=ps.length)
    (d:∀ (A:Around) (outer:List Env) (s:Shared) (H:Hp) (vs:List V) (Q:VK) (E:XK),Room k (A.deeper (envOfC qual scope s.heap.objs.size f cdv))->sp vs H Q E ->
      ∃ t,PSs (cxOf CX P w K mg base N qual scope f cdv A outer s H E) body t/\t { nx:=λ_ H'=>Q .non H',rt:=Q } (zdG N vs) H) :
    FnOk P w K mg base CX (k+1) f (PySem.W.fnOf name qual params body scope p kV doc pm an cdv ct) ps sp:=by
  refine⟨len,λA outer s H args us vs Q E l h hb r i=>?_⟩
  have G:=len _ _ _ _ i
  have z:K.In s.heap:=h.mod.kin.keeps λb o e=>(h.bs b o e).1
  have lim:s.heap.NoLimit:=h.mod.nolimit.keeps λb o e=>(h.bs b o e).1
  have c:∀ y∈ps.zip us,scope.names.lookup y.1=some .local \/ (scope.names.lookup y.1=some .cell/\((cellsFrom (s.heap.objs.size+1) scope.names []).lookup y.1).isSome=true):=λ⟨n,v⟩ C=>by
    rcases S.par n (List.of_mem_zip C).1 with q|q
    · exact .inl q
    · exact .inr ⟨q,PySem.W.cellsFrom_some _ _ _ (.inl q)⟩
  refine codeAny_call_function l.depth (z _ _ B) rfl S.co S.gen rfl (PySem.W.codeRec_of z m) (hb _ _ _ _ ?_)
  refine wpAny_newFunctionEnv_cells S.kind c λenv L s1 x=>?_
  subst L
  refine⟨lim.keeps x.toInCall.keep,codeAny_func ?_⟩
  obtain⟨t,D,F⟩:=d A outer s H vs Q E (l.deeper _) i
  have I:Inv (cxOf CX P w K mg base N qual scope f cdv A outer s H E) [] (zdG N vs) H s1:=zi2 S l.hd h G r x
  refine JU (D [] s1 (zdG N vs) H _ I F) (λfl s' g=>?_) λe s' g=>g
  have fin:∀ {a:St}{H':Hp}{v:V}{u:Value},Inv (cxOf CX P w K mg base N qual scope f cdv A outer s H E) [] a H' s'->RelV v u->Q v H'->CE outer P w H s Q u s' :=
    λ{a H' v u} J j q=>⟨v,H',J.os,J.bare,J.base,J.hok,j,q⟩
  cases fl with
  | ret u =>
    obtain⟨v,a,H',J,j,q⟩:=g
    exact fin J j q
  | next =>
    obtain⟨a,H',J,q⟩:=g
    exact fin (v:=V.non) (u:=Value.none) J rfl q
  | brk =>
    obtain⟨_,_,_,q⟩:=g
    exact False.elim q
  | cont =>
    obtain⟨_,_,_,q⟩:=g
    exact False.elim q
section
variable {X:Cx}{x:Str}{p pos:Pos}{e:Expr}{es:List Expr}{t:TA}{id T:String}{r:List V->Hp->VK->Prop}
def tCB (r:List V->Hp->VK->Prop) (t:TA):TE:=λσ H Q=>t σ H λvs H1=>r vs H1 Q
theorem zaq (l:CallR X (.builtin id) r) (j:Gl X x) (i:X.mg x=none) (f:bootBuiltins x=some (.builtin id)) (ha:PA X (e::es) t) (g:x≠"__name__":=by decide) (b:(x == ("__debug__":Str))=false:=by decide)
    (k:starEach (e::es) X.env=(false,eval e X.env)::starEach es X.env:=by rfl) (a:(backTo pos (starEach es X.env)).any (·.1)=false:=by rfl):PE X (.Call (.Name x p) (e::es) [] pos) (tCB r t):=by
  intro pins s σ H Q I h
  refine Zg (zb5 I j i f ?_ g b)
  exact PyProof.Rows.callWith_builtin1 (thn (ha pos pins s σ H _ I h) λus s1 ⟨vs,H1,m,c,d⟩=>l pins s1 σ H1 vs us Q m c d) k a
theorem zaw (l:CallR X (.type T) r) (j:Gl X x) (i:X.mg x=none) (f:bootBuiltins x=some (.type T)) (ha:PA X (e::es) t) (g:x≠"__name__":=by decide) (b:(x == ("__debug__":Str))=false:=by decide)
    (k:starEach (e::es) X.env=(false,eval e X.env)::starEach es X.env:=by rfl) (a:(backTo pos (starEach es X.env)).any (·.1)=false:=by rfl):PE X (.Call (.Name x p) (e::es) [] pos) (tCB r t):=by
  intro pins s σ H Q I h
  refine Zg (zb5 I j i f ?_ g b)
  exact Yq (thn (ha pos pins s σ H _ I h) λus s1 ⟨vs,H1,m,c,d⟩=>l pins s1 σ H1 vs us Q m c d) k a
end
end L2
namespace HT
open PySem PyProof.Rows
def lexLt:List Int->List Int->Bool
  | [],[]=>false
  | [],_::_=>true
  | _::_,[]=>false
  | x::xs,y::ys=>if x=y then lexLt xs ys else decide (x<y)
theorem lexLt_cons (x y:Int) (xs ys:List Int):lexLt (x::xs) (y::ys)=if x=y then lexLt xs ys else decide (x<y):=rfl
theorem zeq:lexLt [] []=false:=rfl
theorem zdH (y:Int) (ys:List Int):lexLt [] (y::ys)=true:=rfl
theorem zdI (x:Int) (xs:List Int):lexLt (x::xs) []=false:=rfl
theorem zkL (A:Around) (s:Shared) (a:Int) (t:Tok) (c:Int) (u:Tok):∃ e,SeqAt.EqAt A s (.int a t) (.int c u) e/\(e=true↔a=c) :=
  ⟨(a == c),SeqAt.EqAt.int_int a t c u,by simp⟩
theorem zjV (A:Around) (s:Shared) (a:Int) (t:Tok) (c:Int) (u:Tok) (prog:Program) (w:World) (E:Value->Shared->Prop) (Q:Value->Shared->Prop) (h:Q (.bool (decide (a<c))) s) :
    wpAny (model prog w) A (richCompare .Lt (.int a t) (.int c u)) Q E s :=
  (PyProof.Rows.lt_int h:wpAny (model prog w) A (compareOp .Lt (.int a t) (.int c u)) Q E s)
section
open PySem.SeqAt
open PySem.AutoSeq1 (wpAny_loadPart')
open PySem.MeetsSeq PySem.MeetsSeq2 PySem.MeetsSeq3
theorem zd3 (l b:Addr) (items f:Array Value) (n n2:Nat) (P H:Option Addr) (sl E:Array (Option Value)) (ns ms:List Int) (hi:IntsAre items.toList ns) (J:IntsAre f.toList ms) :
    Meets (Builtin.«tuple.__lt__» ⟨[.ref l,.ref b],[]⟩)
      (λ_ R s=>s.heap.get? l=some { cls:=.type "tuple",dict:=P,data:=.seq items n,slots:=sl }/\s.heap.get? b=some { cls:=.type "tuple",dict:=H,data:=.seq f n2,slots:=E } /\
        R (.ok (.ret (.bool (lexLt ns ms)))) s) :=
  .of_wp λprog w A R s h=>by
    obtain⟨D,g,d,tk,os⟩:=s;obtain⟨N,hb,h⟩:=h
    have f2:=AutoSeq1.sub_tuple_tuple
    have z1:items.size=ns.length:=by rw[<- hi.length];simp
    have z2:f.size=ms.length:=by rw[<- J.length];simp
    wp_walk using wpAny_loadPart' N,wpAny_loadPart' hb,wpAny_forIn_list _ (λrest b s'=>b.1=none/\s'=⟨D,g,d,tk,os⟩/\∃ (vs ws:List Value) (i j:List Int),rest=vs.zip ws /\
      IntsAre vs i/\IntsAre ws j/\i.length+f.size=j.length+items.size/\R (.ok (.ret (.bool (lexLt i j)))) ⟨D,g,d,tk,os⟩) _
    case turn =>
      rintro⟨y,x⟩ rest b s' ⟨v,rfl,vs,ws,i,j,k,r,m,hlen,o⟩
      cases r with
      | nil=>rw[List.zip_nil_left]at k;cases k
      | cons a t C =>
        cases m with
        | nil=>rw[List.zip_nil_right]at k;cases k
        | cons c u B =>
          rw[List.zip_cons_cons]at k
          injection k with F z
          injection F with K L
          subst K L
          rw[lexLt_cons]at o
          simp only[JK]at hlen
          obtain⟨e,O,p⟩:=zkL A.in1 ⟨D,g,d,tk,os⟩ a t c u
          refine J0 (O prog w _ _ ?_)
          cases e with
          | true =>
            rw[Jf (p.mp rfl)]at o
            wp_walk
            exact⟨rfl,rfl,_,_,_,_,z,C,B,by omega,o⟩
          | false =>
            rw[Jc (λq=>absurd (p.mpr q) Jp)]at o
            have G:=zjV A.in1 ⟨D,g,d,tk,os⟩ a t c u prog w
            wp_walk using G
            exact⟨_,rfl,by simpa using o⟩
    case fin =>
      rintro⟨b1,b2⟩ s' ⟨v,rfl,vs,ws,i,j,k,r,m,hlen,o⟩
      simp only at v
      subst v
      have I:lexLt i j=decide (items.size<f.size):=by
        cases r with
        | nil =>
          cases m with
          | nil =>
            simp only[YH]at hlen
            rw[zeq]
            exact(Jt (by omega)).symm
          | cons c u M =>
            simp only[YH,JK]at hlen
            rw[zdH]
            exact(JB (by omega)).symm
        | cons a t I =>
          cases m with
          | nil =>
            simp only[YH,JK]at hlen
            rw[zdI]
            exact(Jt (by omega)).symm
          | cons c u M =>
            rw[List.zip_cons_cons]at k
            cases k
      rw[I]at o
      wp_walk
      exact⟨_,rfl,by simpa [Builtin.Tuple.tupleCompareSizes] using o⟩
    case h =>
      exact⟨rfl,rfl,items.toList,f.toList,ns,ms,rfl,hi,J,by omega,h⟩
end
section
variable {prog:Program}{w:World}{A:Around}{E:Value->Shared->Prop}{s:Shared}
theorem lt_tupInts {l b:Addr}{items a:Array Value}{ns ms:List Int}{Q:Value->Shared->Prop}(o:IsTup s.heap l items) (hb:IsTup s.heap b a) (hi:IntsAre items.toList ns) (p:IntsAre a.toList ms)
    (m:A.units<cLine) (h:Q (.bool (lexLt ns ms)) s):wpAny (model prog w) A (compareOp .Lt (.ref l) (.ref b)) Q E s:=by
  obtain⟨⟨cls,q,data,sl⟩,i,j,n,hd⟩:=id o
  obtain⟨⟨k,g,data2,f⟩,c,e,n2,d⟩:=id hb
  simp only at j hd e d
  subst j hd e d
  exact richCompare_meets_room (op:=.Lt) ⟨_,i,rfl⟩ ⟨_,c,rfl⟩ PySem.F.slot_tuple_lt PySem.F.entry_tuple_lt (PySem.F.args_tuple_lt_2 _ _) (zd3 l b items a n n2 q g sl f ns ms hi p)
    ⟨i,c,show Value.bool (lexLt ns ms)≠Value.notImplemented/\Q (.bool (lexLt ns ms)) s from⟨(λx=>nomatch x),h⟩⟩ m
theorem cat_tup {t b:Addr}{vs ws:List Value}{Q:Value->Shared->Prop}(o:IsTup s.heap t vs.toArray) (hb:IsTup s.heap b ws.toArray) (j:vs≠[])
    (h1:ws=[]->Q (.ref t) s) (p:ws≠[]->Q (.ref s.heap.objs.size) { s with heap:=s.heap.push { cls:=.type "tuple",data:=.seq (vs++ws).toArray } })
    (hsz:vs.length+ws.length<=sizeLine):wpAny (model prog w) A (binaryOp .Add (.ref t) (.ref b)) Q E s:=by
  obtain⟨⟨cls,l,data,sl⟩,i,k,n,hd⟩:=id o
  obtain⟨⟨m,g,data2,c⟩,a,f,n2,d⟩:=id hb
  simp only at k hd f d
  subst k hd f d
  have e:vs.toArray++ws.toArray=(vs++ws).toArray:=by simp
  by_cases h:ws=[]
  · exact concat_meets ⟨_,i,rfl⟩ ⟨_,a,rfl⟩ noFill_tuple_add seq_tuple_add PySem.F.slot_tuple_add PySem.F.entry_tuple_add (PySem.F.args_tuple_add_2 _ _)
      (tuple_addW1 t b vs.toArray ws.toArray n n2 l g sl c (by simpa using j) (by simp[h])) ⟨i,a,h1 h⟩
  · refine concat_meets ⟨_,i,rfl⟩ ⟨_,a,rfl⟩ noFill_tuple_add seq_tuple_add PySem.F.slot_tuple_add PySem.F.entry_tuple_add (PySem.F.args_tuple_add_2 _ _)
      (tuple_addW2 t b vs.toArray ws.toArray n n2 l g sl c (by simpa using j) (by simpa using h) (by rw[Jj,Jj];exact hsz)) ⟨i,a,?_⟩
    rw[e]
    exact p h
def sIx (n d:Nat):Option Int->Nat
  | none=>d
  | some v=>if v<0 then (v+(n:Int)).toNat else min v.toNat n
theorem sIx_none (n d:Nat):sIx n d none=d:=rfl
theorem sIx_nat (n d k:Nat):sIx n d (some (k:Int))=min k n:=by
  show (if (k:Int)<0 then ((k:Int)+(n:Int)).toNat else min (k:Int).toNat n)=min k n
  rw[Jc (by omega),Yi]
theorem zmz (n d:Nat) (hd:d<=n) (o:Option Int):sIx n d o<=n:=by
  cases o with
  | none=>exact hd
  | some v =>
    show (if v<0 then (v+(n:Int)).toNat else min v.toNat n)<=n
    by_cases a:v<0
    · rw[Jf a];omega
    · rw[Jc a];exact Nat.min_le_right _ _
theorem zjr (v:Int) (n d:Nat):(if v<0 then max (v+(n:Int)) 0 else min v (n:Int))=((sIx n d (some v):Nat):Int):=by
  show (if v<0 then max (v+(n:Int)) 0 else min v (n:Int))=(((if v<0 then (v+(n:Int)).toNat else min v.toNat n):Nat):Int)
  by_cases a:v<0
  · simp only[Jf a];omega
  · simp only[Jc a];omega
theorem zho (lo hi:Option Int) (n:Nat):Builtin.Slice.sliceAdjust lo hi 1 (n:Int)=(((sIx n 0 lo:Nat):Int),((sIx n n hi:Nat):Int)):=by
  have h1:¬((1:Int)<0):=by omega
  unfold Builtin.Slice.sliceAdjust
  simp only[h1,Z1]
  refine Prod.ext ?_ ?_
  · cases lo with
    | none=>rfl
    | some v=>exact zjr v n 0
  · cases hi with
    | none=>rfl
    | some v=>exact zjr v n n
theorem zg0 (i j:Nat):Builtin.Slice.slicePlaces (i:Int) (j:Int) 1=j-i:=by
  unfold Builtin.Slice.slicePlaces
  have h1:(1:Int) > 0:=by omega
  simp only[h1,Yr,Int.ediv_one]
  split<;>omega
theorem zdM {v:Value}{o:Option Int}{Q:Option Int->Shared->Prop}(p:IsPart v o) (h:Q o s):wpAny (model prog w) A (Builtin.Slice.slicePartIndex v) Q E s:=by
  cases p with
  | none=>exact slicePart_none h
  | int i t=>exact slicePart_int h
theorem sliceApplied_gen {sl:Addr}{d c:Value}{lo hi:Option Int}{n:Nat}{Q:Int × Int × Nat->Shared->Prop}(f:s.heap.IsSliceOf sl d c .none) (e:IsPart d lo) (pu:IsPart c hi)
    (h:Q (((sIx n 0 lo:Nat):Int),1,sIx n n hi-sIx n 0 lo) s):wpAny (model prog w) A (Builtin.Slice.sliceApplied (.ref sl) (pure (n:Int))) Q E s:=by
  obtain⟨os,a,g,b⟩:=id f
  unfold Builtin.Slice.sliceApplied Builtin.Slice.sliceFields
  refine J0 (J0 (Wb a b (x:=d) rfl (J0 (Wb a b (x:=c) rfl (J0 (Wb a b (x:=.none) rfl (Ja ?_)))))))
  refine J0 (slicePart_none ?_)
  show wpAny _ _ (if ((1:Int) == 0)=true then _ else _) _ _ s
  rw[Jc (by decide)]
  refine J0 (zdM e (J0 (zdM pu (J0 (Ja ?_)))))
  show wpAny _ _ (match Builtin.Slice.sliceAdjust lo hi 1 (n:Int) with|(lo,hi)=>pure (lo,(1:Int),Builtin.Slice.slicePlaces lo hi 1)) _ _ s
  rw[zho lo hi n]
  show wpAny _ _ (pure (((sIx n 0 lo:Nat):Int),(1:Int),Builtin.Slice.slicePlaces ((sIx n 0 lo:Nat):Int) ((sIx n n hi:Nat):Int) 1)) _ _ s
  rw[zg0]
  exact Ja h
theorem zj3 (xs:Array Value) (i k:Nat):((List.range k).filterMap λ(m:Nat)=>xs[((i:Int)+(m:Int)*1).toNat]?).toArray=((xs.toList.drop i).take k).toArray:=by
  have e:(λ(m:Nat)=>xs[((i:Int)+(m:Int)*1).toNat]?)=λm=>xs[i+m]?:=by
    funext m
    have:((i:Int)+(m:Int)*1).toNat=i+m:=by omega
    rw[this]
  rw[e]
  have:=pick_run xs i k
  rw[ZT]at this
  have e2:((λx=>xs[x]?)∘λx=>i+x)=λm=>xs[i+m]?:=rfl
  rw[e2]at this
  rw[this]
theorem getItem_tuple_cut {t sl:Addr}{items:Array Value}{i g:Value}{lo hi:Option Int}{Q:Value->Shared->Prop}(b:IsTup s.heap t items) (j:s.heap.IsSliceOf sl i g .none) (k:IsPart i lo) (pu:IsPart g hi)
    (l:¬(sIx items.size 0 lo=0/\sIx items.size items.size hi=items.size))
    (h:Q (.ref s.heap.objs.size) { s with heap:=s.heap.push { cls:=.type "tuple",data:=.seq ((items.toList.drop (sIx items.size 0 lo)).take (sIx items.size items.size hi-sIx items.size 0 lo)).toArray } })
    (hsz:items.size<=sizeLine):wpAny (model prog w) A (getItem (.ref t) (.ref sl)) Q E s:=by
  have a:sizeOk (.seq ((items.toList.drop (sIx items.size 0 lo)).take (sIx items.size items.size hi-sIx items.size 0 lo)).toArray):=by
    show ((items.toList.drop (sIx items.size 0 lo)).take (sIx items.size items.size hi-sIx items.size 0 lo)).toArray.size<=sizeLine
    rw[Jj,Jw,Y6,JC]
    omega
  have r:sIx items.size items.size hi<=items.size:=zmz _ _ (Jg _) hi
  obtain⟨os,c,e,n⟩:=id j
  have f:s.TypeIs (.ref sl) "slice":=⟨os,c,e⟩
  unfold getItem
  try with_reducible refine Yp ?_
  first|refine J0 (Ja ?_)|skip
  refine J0 (wpAny_sequenceKey b.typeIs (by decide) ?_)
  refine J0 (wpAny_callSpecial?_slot (name:=Str.ofString "__getitem__") b.typeIs W6
    (Y7 W6 b.typeIs entry_tuple_getitem ?_ (args_tuple_getitem _ _)))
  show wpAny _ _ (Builtin.Tuple.tupleItemsOf (.ref t) >>= _) _ _ s
  refine J0 (tupleItemsOf_ b ?_)
  refine J0 (Z8 f ?_)
  rw[Jf (by decide)]
  refine J0 (sliceApplied_gen j k pu ?_)
  have d:¬((((sIx items.size 0 lo:Nat):Int) == 0 && (1:Int) == 1 && (sIx items.size items.size hi-sIx items.size 0 lo) == items.size)=true):=by
    intro q
    rw[Zw,Zw]at q
    have p:((sIx items.size 0 lo:Nat):Int)=0:=eq_of_beq q.1.1
    have o:sIx items.size items.size hi-sIx items.size 0 lo=items.size:=eq_of_beq q.2
    exact l ⟨by omega,by omega⟩
  show wpAny _ _ (if (((sIx items.size 0 lo:Nat):Int) == 0 && (1:Int) == 1 && (sIx items.size items.size hi-sIx items.size 0 lo) == items.size)=true then _ else _) _ _ s
  rw[Jc d,zj3]
  first
    | exact J0 (m:=Builtin.Tuple.tupleExact _) (JN (Ja ⟨_,rfl,Ja h⟩) a)
    | exact J0 (m:=Builtin.Tuple.tupleExact _) (JN (J0 (Ja (Ja ⟨_,rfl,Ja h⟩))) a)
    | exact J0 (J0 (m:=Builtin.Tuple.tupleExact _) (JN (Ja (Ja ⟨_,rfl,Ja h⟩)) a))
    | exact J0 (J0 (m:=Builtin.Tuple.tupleExact _) (JN (Ja ⟨_,rfl,Ja h⟩) a))
end
end HT
namespace L2
open PySem PySem.Spec PyProof.Rows
abbrev TO:=St->Hp->(Option Int->Hp->Prop)->Prop
def PO (X:Cx) (e:Option Expr) (t:TO):Prop :=
  ∀ (pins:List (Addr × Obj)) (s:Shared) (σ:St) (H:Hp) (Q:Option Int->Hp->Prop),Inv X pins σ H s->t σ H Q ->
    wpAny (model X.prog X.w) X.A (evalPart e X.env) (λu s'=>∃ o H',Inv X pins σ H' s'/\IsPart u o/\Q o H') X.xe s
def zlq:TO:=λ_ H Q=>Q none H
def znk (t:TE):TO:=λσ H Q=>t σ H λx H1=>∃ i,x=.int i/\Q (some i) H1
theorem zdT {ns:List Int}:∀ {us:List Value},Vals (ns.map V.int) us->IntsAre us ns:=by
  induction ns with
  | nil=>intro us r;rw[List.map_nil]at r;cases r;exact .nil
  | cons n ns ih =>
    intro us r
    rw[JZ]at r
    cases r with
    | cons b a =>
      obtain⟨t,e⟩:=b
      subst e
      exact .cons n t (ih a)
section
variable {X:Cx}{e:Expr}{te:TE}{lo hi:Option Expr}{tl th:TO}{pos p2:Pos}
theorem zaP:PO X none zlq:=by
  intro pins s σ H Q I h
  rw[evalPart_none]
  exact Ja ⟨none,H,I,.none,h⟩
theorem zaA (h:PE X e te):PO X (some e) (znk te):=by
  intro pins s σ H Q I c
  rw[evalPart_some]
  refine thn (h pins s σ H _ I c) λu s1 ⟨x,H1,d,a,b⟩=>?_
  obtain⟨i,rfl,q⟩:=b
  obtain⟨t,rfl⟩:=a
  exact⟨some i,H1,d,.int i t,q⟩
def SlR (X:Cx) (r:V->Option Int->Option Int->Hp->VK->Prop):Prop :=
  ∀ (pins:List (Addr × Obj)) (s:Shared) (σ:St) (H:Hp) (x:V) (v b a:Value) (lo hi:Option Int) (sl:Addr) (Q:VK),Inv X pins σ H s->RelV x v->s.heap.IsSliceOf sl b a .none->IsPart b lo->IsPart a hi->r x lo hi H Q ->
    ∃ T id,typeLookup (.type T) "__getitem__" = pure (some (.builtin id))/\s.TypeIs v T/\wpAny (model X.prog X.w) X.A (getItem v (.ref sl)) (EP X pins σ Q) X.xe s
def tSl (r:V->Option Int->Option Int->Hp->VK->Prop) (te:TE) (tl th:TO):TE:=λσ H Q=>te σ H λx H1=>tl σ H1 λl b=>th σ b λu a=>r x l u a Q
theorem zaF {r:V->Option Int->Option Int->Hp->VK->Prop}(p:SlR X r) (y:PE X e te) (t:PO X lo tl) (n:PO X hi th):PE X (.Subscript e (.Slice lo hi none p2) pos) (tSl r te tl th):=by
  intro pins s σ H Q I h
  refine Subscript_ (thn (y pins s σ H _ I h) λv s1 ⟨x,H1,D,g,k⟩=>?_)
  refine wpAny_Slice (thn (t pins s1 σ H1 _ D k) λd s2 ⟨l,E,C,m,j⟩=>thn (n pins s2 σ E _ C j) λc a ⟨u,f,B,pu,i⟩=>?_)
  rw[evalPart_none]
  refine Ja ?_
  have A:Inv X pins σ f { a with heap:=a.heap.push { cls:=.type "slice",data:=.fields #[d,c,.none] } }:=B.kept (t':=a.toks) λb ob q=>J8 _ q
  obtain⟨T,id,z,o,w⟩:=p pins { a with heap:=a.heap.push { cls:=.type "slice",data:=.fields #[d,c,.none] } } σ f x v d c l u a.heap.objs.size Q A g (Heap.IsSliceOf.new ..) m pu i
  show wpAny (model X.prog X.w) X.A (subscriptTail e (.Slice lo hi none p2) v (.ref a.heap.objs.size)) (EP X pins σ Q) X.xe { a with heap:=a.heap.push { cls:=.type "slice",data:=.fields #[d,c,.none] } }
  exact tail_any (ops:=[.ref a.heap.objs.size,v]) o z w (by with_unfolding_all rfl)
def cutV (xs:List V) (lo hi:Option Int):List V:=(xs.drop (HT.sIx xs.length 0 lo)).take (HT.sIx xs.length xs.length hi-HT.sIx xs.length 0 lo)
theorem zdy (xs:List V) (lo hi:Option Int):(cutV xs lo hi).length<=xs.length:=by
  unfold cutV
  rw[Jw,Y6]
  omega
def rSlT (K:PySem.W.Frag):V->Option Int->Option Int->Hp->VK->Prop:=λx lo hi H Q=>∃ a xs,x=.ref a/\SqT K H a xs /\
  ¬(HT.sIx xs.length 0 lo=0/\HT.sIx xs.length xs.length hi=xs.length)/\∀ p,H p=none->Q (.ref p) (upd H p (.tup (cutV xs lo hi)))
theorem zmx:SlR X (rSlT X.K):=by
  intro pins s σ H x v l k lo hi sl Q I e j f pu h
  obtain⟨a,xs,rfl,g,i,q⟩:=h
  cases e
  obtain⟨its,r,d,c⟩:=I.tuple g
  have hlen:its.toArray.size=xs.length:=by rw[Jj];exact r.length.symm
  refine⟨"tuple",_,PyProof.Rows.slot_tuple_getitem.lookup,d.typeIs,?_⟩
  refine HT.getItem_tuple_cut d j f pu (by rw[hlen];exact i) ?_ (by rw[hlen];exact c)
  rw[hlen]
  refine⟨.ref s.heap.objs.size,_,I.laid (t':=s.toks) (o:=.tup (cutV xs lo hi)) (λb ob q=>J8 _ q) (Jg _) ?_,rfl,q _ (I.hok.fresh (Jg _))⟩
  exact⟨JW (zdy xs lo hi) c,_,(r.drop (HT.sIx xs.length 0 lo)).take (HT.sIx xs.length xs.length hi-HT.sIx xs.length 0 lo),TupX.new _ _⟩
def rLtT (K:PySem.W.Frag):R2:=λx y H Q=>∃ a b ns ms,x=.ref a/\y=.ref b/\SqT K H a (ns.map V.int)/\SqT K H b (ms.map V.int)/\Q (.bl (HT.lexLt ns ms)) H
theorem zmM (i:X.A.units<cLine):OpR X (compareOp .Lt) (rLtT X.K):=by
  intro pins s σ H x y v u Q I e d h
  obtain⟨a,b,ns,ms,rfl,rfl,ha,hb,q⟩:=h
  cases e
  cases d
  obtain⟨its,g,p1,_⟩:=I.tuple ha
  obtain⟨c,f,p2,_⟩:=I.tuple hb
  have i1:IntsAre its.toArray.toList ns:=zdT g
  have i2:IntsAre c.toArray.toList ms:=zdT f
  exact HT.lt_tupInts p1 p2 i1 i2 i ⟨.bl (HT.lexLt ns ms),H,I,rfl,q⟩
def znx (K:PySem.W.Frag):R2:=λx y H Q=>∃ a b xs ys,x=.ref a/\y=.ref b/\SqT K H a xs/\SqT K H b ys/\xs≠[]/\xs.length+ys.length<=sizeLine /\
  (ys=[]->Q (.ref a) H)/\(ys≠[]->∀ p,H p=none->Q (.ref p) (upd H p (.tup (xs++ys))))
theorem Vals.nil_iff {xs:List V}{us:List Value}(r:Vals xs us):us=[]↔xs=[]:=by
  cases r with
  | nil=>simp
  | cons _ _=>simp
theorem zlP:OpR X (binaryOp .Add) (znx X.K):=by
  intro pins s σ H x y v u Q I i g h
  obtain⟨a,b,xs,ys,rfl,rfl,ha,hb,l,e,k,j⟩:=h
  cases i
  cases g
  obtain⟨its,d,p1,_⟩:=I.tuple ha
  obtain⟨f,c,p2,_⟩:=I.tuple hb
  refine HT.cat_tup p1 p2 (λz=>l (d.nil_iff.mp z)) (λz=>⟨.ref a,H,I,rfl,k (c.nil_iff.mp z)⟩) (λz=>?_) (by rw[<- d.length,<- c.length];exact e)
  refine⟨.ref s.heap.objs.size,_,I.laid (t':=s.toks) (o:=.tup (xs++ys)) (λb ob q=>J8 _ q) (Jg _) ?_,rfl,j (λw=>z (c.nil_iff.mpr w)) _ (I.hok.fresh (Jg _))⟩
  exact⟨by rw[Jb];exact e,_,d.append c,TupX.new _ _⟩
end
def ixN (n:Nat) (i:Int):Option Nat:=if 0<=i then (if i<n then some i.toNat else none) else if -(n:Int)<=i then some (i+n).toNat else none
def atI {α:Type}(xs:List α) (i:Int):Option α:=(ixN xs.length i).bind λj=>xs[j]?
theorem zfR {n:Nat}{i:Int}{j:Nat}(h:ixN n i=some j):seqIndex? i n=some j/\j<n/\-(n:Int)<=i/\i<n:=by
  unfold ixN at h
  by_cases a:0<=i
  · rw[Jf a]at h
    by_cases h1:i<n
    · rw[Jf h1]at h
      have e:i.toNat=j:=Jr h
      exact⟨by rw[seqIndex_of a h1,e],by omega,by omega,h1⟩
    · rw[Jc h1]at h;cases h
  · rw[Jc a]at h
    by_cases h1:-(n:Int)<=i
    · rw[Jf h1]at h
      have e:(i+n).toNat=j:=Jr h
      exact⟨by rw[seqIndex_neg (by omega) h1,e],by omega,h1,by omega⟩
    · rw[Jc h1]at h;cases h
theorem zjF {α:Type}{xs:List α}{i:Int}{v:α}(h:atI xs i=some v):∃ j,seqIndex? i xs.length=some j/\xs[j]?=some v/\j<xs.length/\-(xs.length:Int)<=i/\i<xs.length:=by
  unfold atI at h
  cases e:ixN xs.length i with
  | none=>rw[e]at h;cases h
  | some j =>
    rw[e]at h
    obtain⟨h1,c,b,a⟩:=zfR e
    exact⟨j,h1,h,c,b,a⟩
theorem zaR {α:Type}{xs:List α}{j:Nat}{v:α}(h:xs[j]?=some v):atI xs (j:Int)=some v:=by
  have a:j<xs.length:=(Jd.mp h).1
  have e:ixN xs.length (j:Int)=some j:=by
    unfold ixN
    rw[Jf (by omega),Jf (by omega)];simp
  unfold atI;rw[e];exact h
theorem zkX {α:Type}(xs:List α) (v:α):atI (xs++[v]) (-1)=some v:=by
  have a:(xs++[v]).length=xs.length+1:=by simp
  have e:ixN (xs++[v]).length (-1)=some xs.length:=by
    unfold ixN
    rw[a,Jc (by decide),Jf (by omega)]
    congr 1
    omega
  unfold atI
  rw[e]
  show (xs++[v])[xs.length]?=some v
  simp
def PlainIx (b:Expr):Prop:=∀ o i,subscripted b false o i=operate [o,i] (getItem o i)
def IxR (X:Cx) (r:R2):Prop :=
  ∀ (value slice:Expr) (pins:List (Addr × Obj)) (s:Shared) (σ:St) (H:Hp) (x y:V) (v u:Value) (Q:VK),Inv X pins σ H s->RelV x v->RelV y u->r x y H Q ->
    subscripted slice false v u=operate [v,u] (getItem v u)->wpAny (model X.prog X.w) X.A (subscriptTail value slice v u) (EP X pins σ Q) X.xe s
def MtR (X:Cx) (id:String) (r:V->List V->Hp->VK->Prop):Prop :=
  ∀ (pins:List (Addr × Obj)) (s:Shared) (σ:St) (H:Hp) (x:V) (xs:List V) (v:Value) (us:List Value) (Q:VK),Inv X pins σ H s->RelV x v->Vals xs us->r x xs H Q ->
    wpAny (model X.prog X.w) X.A (call (.builtin id) (v::us)) (EP X pins σ Q) X.xe s
section
variable {X:Cx}{a b:Expr}{ta tb:TE}{pos:Pos}
theorem zay {r:R2}(f:IxR X r) (ha:PE X a ta) (hb:PE X b tb) (e:PlainIx b):PE X (.Subscript a b pos) (tOp r ta tb):=by
  intro pins s σ H Q I h
  exact Subscript_ (binT ha hb I h λv u s2 x y i g d c q=>f a b pins s2 σ i x y v u Q g d c q (e _ _))
def rIxL (K:PySem.W.Frag):R2:=λx y H Q=>∃ p xs i v,x=.ref p/\y=.int i/\SqL K H p xs/\atI xs i=some v/\Q v H
def rIxT (K:PySem.W.Frag):R2:=λx y H Q=>∃ p xs i v,x=.ref p/\y=.int i/\SqT K H p xs/\atI xs i=some v/\Q v H
theorem zax:IxR X (rIxL X.K):=by
  intro value slice pins s σ H x y v u Q I k g h d
  obtain⟨p,xs,i,z,rfl,rfl,l,n,q⟩:=h
  cases k
  obtain⟨t,rfl⟩:=g
  obtain⟨its,r,a,C⟩:=I.list l
  obtain⟨j,h1,B,E,A,o⟩:=zjF n
  obtain⟨w,f,c⟩:=r.get B
  have m:=r.length
  have D:=zeZ
  have fin:EP X pins σ Q w s:=⟨z,H,I,c,q⟩
  by_cases e:0<=i
  · have b:i.toNat=j:=by
      rw[seqIndex_of e o]at h1
      exact Jr h1
    exact item_listR a.isList e (by omega) (by rw[b];simpa using f) fin d
  · have b:(i+(its.toArray.size:Int)).toNat=j:=by
      rw[seqIndex_neg (by omega) A]at h1
      rw[Jj,<- m]
      exact Jr h1
    exact subscriptTail_builtinR (x:=w) a.isList.typeIs slot_list_getitem.lookup
      (wpAny_getItem_list_neg (Q:=λr s'=>r=w/\EP X pins σ Q r s') a.isList (by omega) (by rw[Jj]<;>omega) (by omega) (by rw[b];simpa using f) ⟨rfl,fin⟩) d
theorem zaK:IxR X (rIxT X.K):=by
  intro value slice pins s σ H x y v u Q I d c h e
  obtain⟨p,xs,i,z,rfl,rfl,f,k,q⟩:=h
  cases d
  obtain⟨t,rfl⟩:=c
  obtain⟨its,r,b,n⟩:=I.tuple f
  obtain⟨j,h1,l,C,B,A⟩:=zjF k
  obtain⟨w,m,a⟩:=r.get l
  have g:=r.length
  have o:=zeZ
  have fin:EP X pins σ Q w s:=⟨z,H,I,a,q⟩
  exact subscriptTail_builtinR (x:=w) b.typeIs slot_tuple_getitem.lookup
    (getItem_tuple (j:=j) (Q:=λr s'=>r=w/\EP X pins σ Q r s') b (by omega) (by omega) (by rw[Jj,<- g];exact h1) (by simpa using m) ⟨rfl,fin⟩) e
theorem zhb (its:List Value) (n j:Nat) (u:Value):Obj.mapSeq (·.setIfInBounds j u) { cls:=.type "list",data:=.seq its.toArray n }={ cls:=.type "list",data:=.seq (its.set j u).toArray n }:=by
  simp[Obj.mapSeq]
theorem Inv.lst {pins:List (Addr × Obj)}{σ:St}{H:Hp}{s:Shared}{p:Addr}{xs:List V}(I:Inv X pins σ H s) (h:H p=some (.lst xs)) :
    ∃ (its:List Value) (n:Nat),Vals xs its/\s.heap.get? p=some { cls:=.type "list",data:=.seq its.toArray n }/\xs.length<=sizeLine:=by
  obtain⟨z,its,n,r,e⟩:=I.hok p _ h
  exact⟨its,n,r,e,z⟩
theorem Inv.lstUpd {pins:List (Addr × Obj)}{σ:St}{H:Hp}{s:Shared}{p:Addr}{xs ys:List V}{its its':List Value}{n a:Nat}{f:Obj->Obj}(I:Inv X pins σ H s) (h:H p=some (.lst xs))
    (g:s.heap.get? p=some { cls:=.type "list",data:=.seq its.toArray n }) (c:f { cls:=.type "list",data:=.seq its.toArray n }={ cls:=.type "list",data:=.seq its'.toArray a }) (r:Vals ys its') (d:ys.length<=sizeLine) (t:Nat) :
    Inv X pins σ (upd H p (.lst ys)) { s with heap:=s.heap.update p f,toks:=t }:=by
  have e:(s.heap.update p f).get? p=some { cls:=.type "list",data:=.seq its'.toArray a }:=by
    rw[YV f g (by rw[c]<;>rfl),c]
  refine I.write (x:=p) (e:=p) (by rw[h];trivial) (.inl rfl) (λb u hb q=>(Yj _ _ (Ne.symm hb)).trans q) ⟨_,e⟩ ?_
  exact⟨d,its',a,r,e⟩
def znw:V->V->V->Hp->(Hp->Prop)->Prop:=λo i v H Q=>∃ p xs k j,o=.ref p/\i=.int k/\H p=some (.lst xs)/\ixN xs.length k=some j/\Q (upd H p (.lst (xs.set j v)))
theorem zbm:PSet X znw:=by
  intro pins s σ H o i v A B u Q I w x m h
  obtain⟨p,xs,k,j,rfl,rfl,d,z,q⟩:=h
  cases w
  obtain⟨t,rfl⟩:=x
  obtain⟨its,n,r,a,y⟩:=I.lst d
  obtain⟨h1,D,f,e⟩:=zfR z
  have b:=r.length
  have C:=zeZ
  have l:Inv X pins σ (upd H p (.lst (xs.set j v))) { s with heap:=s.heap.update p (Obj.mapSeq (·.setIfInBounds j u)) } :=
    I.lstUpd d a (zhb its n j u) (r.set m j) (by rw[Z5];exact y) s.toks
  by_cases g:0<=k
  · have c:k.toNat=j:=by
      rw[seqIndex_of g e]at h1
      exact Jr h1
    exact PySem.W.ki_setAt a g (by omega) (by rw[Jj,<- b];exact e) (by rw[c];exact⟨_,l,q⟩)
  · have c:(k+(its.toArray.size:Int)).toNat=j:=by
      rw[seqIndex_neg (by omega) f]at h1
      rw[Jj,<- b]
      exact Jr h1
    exact PySem.W.ki_setBack a (by omega) (by rw[Jj,<- b];exact f) (by omega) (by rw[c];exact⟨_,l,q⟩)
theorem zeL (lo hi:Option Int) (n:Nat):(sliceBounds lo hi none n).1=((HT.sIx n 0 lo:Nat):Int)/\(sliceBounds lo hi none n).2.1=((HT.sIx n n hi:Nat):Int)/\(sliceBounds lo hi none n).2.2=1:=by
  refine⟨?_,?_,rfl⟩
  · cases lo with
    | none=>simp[sliceBounds,HT.sIx]
    | some i =>
      simp only[sliceBounds,HT.sIx,Option.getD_none,show (1:Int) > 0 by decide,Yr]
      by_cases h:i<0
      · simp only[h,Yr]<;>omega
      · simp only[h,Z1]<;>omega
  · cases hi with
    | none=>simp[sliceBounds,HT.sIx]
    | some i =>
      simp only[sliceBounds,HT.sIx,Option.getD_none,show (1:Int) > 0 by decide,Yr]
      by_cases h:i<0
      · simp only[h,Yr]<;>omega
      · simp only[h,Z1]<;>omega
theorem zed (its:List Value) (lo hi:Option Int):slicePick its.toArray lo hi none=((its.drop (HT.sIx its.length 0 lo)).take (HT.sIx its.length its.length hi-HT.sIx its.length 0 lo)).toArray:=by
  obtain⟨h1,b,a⟩:=zeL lo hi its.toArray.size
  unfold slicePick
  rw[h1,b,a]
  simp only[sliceRange_one,pick_run,Jj]<;>rfl
def rSlL (K:PySem.W.Frag):V->Option Int->Option Int->Hp->VK->Prop:=λx lo hi H Q=>∃ a xs,x=.ref a/\SqL K H a xs/\∀ p,H p=none->Q (.ref p) (upd H p (.lst (cutV xs lo hi)))
theorem zb9:SlR X (rSlL X.K):=by
  intro pins s σ H x v k j lo hi sl Q I d i e pu h
  obtain⟨a,xs,rfl,g,q⟩:=h
  cases d
  obtain⟨its,r,c,f⟩:=I.list g
  have hlen:=r.length
  refine⟨"list",_,slot_list_getitem.lookup,c.isList.typeIs,?_⟩
  refine wpAny_getItem_list_slice c.isList i e pu .none (by simp) ?_ (by rw[Jj]<;>omega)
  rw[zed,<- hlen]
  refine⟨.ref s.heap.objs.size,_,I.laid (t':=s.toks) (o:=.lst (cutV xs lo hi)) (λb ob q=>J8 _ q) (Jg _) ?_,rfl,q _ (I.hok.fresh (Jg _))⟩
  exact⟨JW (zdy xs lo hi) f,_,0,(r.drop (HT.sIx xs.length 0 lo)).take (HT.sIx xs.length xs.length hi-HT.sIx xs.length 0 lo),Js _ rfl⟩
def zes:V->Bool
  | .non=>true
  | .bl _=>true
  | .int _=>true
  | .str _=>true
  | _=>false
def eqV:V->V->Bool
  | .non,.non=>true
  | .bl a,.bl b=>a == b
  | .bl a,.int b=>(if a then 1 else 0) == b
  | .int a,.bl b=>a == (if b then 1 else 0)
  | .int a,.int b=>a == b
  | .str a,.str b=>a == b
  | _,_=>false
theorem zlh {A:Around}{s:Shared}{y x:V}{u v:Value}(d:RelV y u) (c:RelV x v) (f:zes y=true) (e:zes x=true):SeqAt.EqAt A s u v (eqV y x):=by
  cases y with
  | non =>
    cases d
    cases x with
    | non=>cases c;exact SeqAt.EqAt.same _
    | bl b=>cases c;exact SeqAt.EqAt.none_bool b
    | int b=>obtain⟨t,rfl⟩:=c;exact SeqAt.EqAt.none_int b t
    | str b=>obtain⟨t,rfl⟩:=c;exact SeqAt.EqAt.none_str b t
    | _=>exact absurd (show false=true from e) Jp
  | bl a =>
    cases d
    cases x with
    | non=>cases c;exact SeqAt.EqAt.bool_none a
    | bl b=>cases c;exact SeqAt.EqAt.bool_bool a b
    | int b=>obtain⟨t,rfl⟩:=c;exact SeqAt.EqAt.bool_int a b t
    | str b=>obtain⟨t,rfl⟩:=c;exact SeqAt.EqAt.bool_str a b t
    | _=>exact absurd (show false=true from e) Jp
  | int a =>
    obtain⟨t',rfl⟩:=d
    cases x with
    | non=>cases c;exact SeqAt.EqAt.int_none a t'
    | bl b=>cases c;exact SeqAt.EqAt.int_bool a t' b
    | int b=>obtain⟨t,rfl⟩:=c;exact SeqAt.EqAt.int_int a t' b t
    | str b=>obtain⟨t,rfl⟩:=c;exact SeqAt.EqAt.int_str a t' b t
    | _=>exact absurd (show false=true from e) Jp
  | str a =>
    obtain⟨t',rfl⟩:=d
    cases x with
    | non=>cases c;exact SeqAt.EqAt.str_none a t'
    | bl b=>cases c;exact SeqAt.EqAt.str_bool a t' b
    | int b=>obtain⟨t,rfl⟩:=c;exact SeqAt.EqAt.str_int a t' b t
    | str b=>obtain⟨t,rfl⟩:=c;exact SeqAt.EqAt.str_str a t' b t
    | _=>exact absurd (show false=true from e) Jp
  | _=>exact absurd (show false=true from f) Jp
def eqU (x:V) (u:Value):Bool:=match u with
  | .none=>eqV .non x
  | .bool b=>eqV (.bl b) x
  | .int i _=>eqV (.int i) x
  | .str z _=>eqV (.str z) x
  | _=>false
theorem zlg {x y:V}{u:Value}(r:RelV y u) (f:zes y=true):eqU x u=eqV y x:=by
  cases y with
  | non=>cases r;rfl
  | bl b=>cases r;rfl
  | int i=>obtain⟨t,rfl⟩:=r;rfl
  | str z=>obtain⟨t,rfl⟩:=r;rfl
  | _=>exact absurd (show false=true from f) Jp
theorem zdF {x:V}:∀ {xs:List V}{us:List Value},Vals xs us->xs.all zes=true->us.any (eqU x)=xs.any λy=>eqV y x
  | _,_,.nil,_=>rfl
  | y::xs,u::us,.cons r t,f=>by
    rw[List.all_cons,Zw]at f
    rw[List.any_cons,List.any_cons,zlg r f.1,zdF t f.2]
theorem zct {A:Around}{s:Shared}{x:V}{v:Value}(b:RelV x v) (c:zes x=true):∀ {xs:List V}{us:List Value},Vals xs us->xs.all zes=true->∀ u∈us,SeqAt.EqAt A s u v (eqU x u)
  | _,_,.nil,_=>λu a=>by cases a
  | y::xs,u::us,.cons r t,f=>λd a=>by
    rw[List.all_cons,Zw]at f
    rcases Ju.mp a with rfl|a
    · rw[zlg r f.1];exact zlh r b f.1 c
    · exact zct b c t f.2 d a
def inV (x:V) (xs:List V):Bool:=xs.any λy=>eqV y x
def rIn (K:PySem.W.Frag) (neg:Bool):R2:=λx y H Q=>∃ p xs,y=.ref p/\(SqL K H p xs\/SqT K H p xs)/\zes x=true/\xs.all zes=true/\Q (.bl (if neg then !inV x xs else inV x xs)) H
theorem zeU:OpR X (compareOp .In) (rIn X.K false):=by
  intro pins s σ H x y v u Q I d f h
  obtain⟨p,xs,rfl,a,e,fs,q⟩:=h
  cases f
  rcases a with a|a
  · obtain⟨its,r,b,g⟩:=I.list a
    refine SeqAt.in_listAt (eqU x) b.isList (λw c=>zct d e r fs w (by simpa using c)) ⟨.bl _,H,I,rfl,?_⟩
    rw[show its.toArray.any (eqU x)=its.any (eqU x) by simp,zdF r fs]
    exact q
  · obtain⟨its,r,b,g⟩:=I.tuple a
    refine SeqAt.in_tupleAt (eqU x) b (λw c=>zct d e r fs w (by simpa using c)) ⟨.bl _,H,I,rfl,?_⟩
    rw[show its.toArray.any (eqU x)=its.any (eqU x) by simp,zdF r fs]
    exact q
theorem zeT:OpR X (compareOp .NotIn) (rIn X.K true):=by
  intro pins s σ H x y v u Q I d f h
  obtain⟨p,xs,rfl,a,e,fs,q⟩:=h
  cases f
  rcases a with a|a
  · obtain⟨its,r,b,g⟩:=I.list a
    refine SeqAt.notIn_listAt (eqU x) b.isList (λw c=>zct d e r fs w (by simpa using c)) ⟨.bl _,H,I,rfl,?_⟩
    rw[show its.toArray.any (eqU x)=its.any (eqU x) by simp,zdF r fs]
    exact q
  · obtain⟨its,r,b,g⟩:=I.tuple a
    refine SeqAt.notIn_tupleAt (eqU x) b (λw c=>zct d e r fs w (by simpa using c)) ⟨.bl _,H,I,rfl,?_⟩
    rw[show its.toArray.any (eqU x)=its.any (eqU x) by simp,zdF r fs]
    exact q
theorem zas:CallR X (.builtin "len") (λxs H Q=>∃ p ys,xs=[.ref p]/\(SqL X.K H p ys\/SqT X.K H p ys)/\Q (.int ys.length) H):=by
  intro pins s σ H xs us Q I r h
  obtain⟨p,ys,rfl,a,q⟩:=h
  obtain⟨u,rfl,d⟩:=zgK r
  cases d
  have f:=zeZ
  rcases a with a|a
  · obtain⟨its,b,c,e⟩:=I.list a
    have hlen:=b.length
    exact Calls.call_len_list c.isList (by simp only[Jj]<;>omega) ⟨.int ys.length,H,I.tok _,⟨s.toks+1,by rw[Jj,hlen]⟩,q⟩
  · obtain⟨its,b,c,e⟩:=I.tuple a
    have hlen:=b.length
    exact len_tuple c (by simp only[Jj]<;>omega) ⟨.int ys.length,H,I.tok _,⟨s.toks+1,by rw[Jj,hlen]⟩,q⟩
theorem za2:CallR X (.type "list") (λxs H Q=>∃ p ys,xs=[.ref p]/\(SqL X.K H p ys\/SqT X.K H p ys)/\∀ l,H l=none->Q (.ref l) (upd H l (.lst ys))):=by
  intro pins s σ H xs us Q I r h
  obtain⟨p,ys,rfl,f,q⟩:=h
  obtain⟨u,rfl,k⟩:=zgK r
  cases k
  have fin:∀ (its:List Value),Vals ys its->ys.length<=sizeLine->∀ (h':Heap) (c:Nat),(∀ b o',s.heap.get? b=some o'->h'.get? b=some o') ->
      h'.get? s.heap.objs.size=some { cls:=.type "list",dict:=none,data:=.seq its.toArray c,slots:=#[] }->EP X pins σ Q (.ref s.heap.objs.size) { s with heap:=h' }:=λits a d h' c kp e =>
    ⟨.ref s.heap.objs.size,_,I.laid (t':=s.toks) kp (Jg _) (show ObjOk X.prog X.w _ h' _ (.lst ys) from⟨d,its,c,a,e⟩),rfl,q _ (I.hok.fresh (Jg _))⟩
  rcases f with f|f
  · obtain⟨its,a,g,d⟩:=I.list f
    have hlen:=a.length
    obtain⟨o,i,j,n,hd⟩:=g.isList
    exact call_list_seq p (.inl rfl) i j hd (λh' c kp e=>fin its a d h' c kp e) (by simp only[Jj]<;>omega)
  · obtain⟨its,a,g,d⟩:=I.tuple f
    have hlen:=a.length
    obtain⟨o,i,j,n,hd⟩:=g
    exact call_list_seq p (.inr rfl) i j hd (λh' c kp e=>fin its a d h' c kp e) (by simp only[Jj]<;>omega)
theorem zaE:CallR X (.type "tuple") (λxs H Q=>∃ p ys,xs=[.ref p]/\((SqL X.K H p ys/\∀ l,H l=none->Q (.ref l) (upd H l (.tup ys)))\/(SqT X.K H p ys/\Q (.ref p) H))):=by
  intro pins s σ H xs us Q I r h
  obtain⟨p,ys,rfl,h⟩:=h
  obtain⟨u,rfl,i⟩:=zgK r
  cases i
  rcases h with ⟨d,q⟩|⟨d,q⟩
  · obtain⟨its,a,c,f⟩:=I.list d
    have hlen:=a.length
    refine call_tuple_list c.isList (λh' kp=>?_) (by simp only[Jj]<;>omega)
    have g:Inv X pins σ H { s with heap:=h' }:=I.kept (t':=s.toks) kp
    have j:Inv X pins σ (upd H h'.objs.size (.tup ys)) { s with heap:=h'.push { cls:=.type "tuple",data:=.seq its.toArray } } :=
      g.laid (t':=s.toks) (λb o e=>J8 _ e) (Jg _) (show ObjOk X.prog X.w _ _ _ (.tup ys) from⟨f,its,a,TupX.new _ _⟩)
    exact⟨.ref h'.objs.size,_,j,rfl,q _ (g.hok.fresh (Jg _))⟩
  · obtain⟨its,a,c,f⟩:=I.tuple d
    exact call_tuple_same c ⟨.ref p,H,I,rfl,q⟩
def tyV (K:PySem.W.Frag) (T:String) (x:V) (H:Hp):Prop:=match x with
  | .str _=>T = "str"
  | .int _=>T = "int"
  | .ref p=>(T = "list"/\∃ xs,SqL K H p xs)\/(T = "tuple"/\∃ o,K.lookup p=some o/\o.cls=.type "tuple"/\o.dict=none) \/
      (T = "dict"/\((∃ kvs,H p=some (.dK kvs))\/∃ kvs,H p=some (.dT kvs)))\/(T = "set"/\∃ S n,H p=some (.set S n))
  | _=>False
theorem zmr {pins:List (Addr × Obj)}{σ:St}{H:Hp}{s:Shared}{T:String}{x:V}{v:Value}(I:Inv X pins σ H s) (r:RelV x v) (ty:tyV X.K T x H) :
    s.TypeIs v T/\∀ a,v=.ref a->∃ ob,s.heap.get? a=some ob/\ob.dict=none:=by
  cases x with
  | str z =>
    obtain⟨t,rfl⟩:=r
    cases (show T = "str" from ty)
    exact⟨typeIs_str s z t,λ_ e=>nomatch e⟩
  | int i =>
    obtain⟨t,rfl⟩:=r
    cases (show T = "int" from ty)
    exact⟨typeIs_int s i t,λ_ e=>nomatch e⟩
  | ref p =>
    cases r
    rcases ty with ⟨rfl,xs,f⟩|⟨rfl,o,b,g,hd⟩|⟨rfl,b⟩|⟨rfl,S,n,b⟩
    · obtain⟨its,_,d,_⟩:=I.list f
      refine⟨d.isList.typeIs,λa e=>?_⟩
      cases e
      obtain⟨o,n,e,c,hd,_⟩:=d
      exact⟨o,e,hd⟩
    · refine⟨⟨o,I.kIn p o b,g⟩,λa e=>?_⟩
      cases e
      exact⟨o,I.kIn _ o b,hd⟩
    · have z:∃ o,s.heap.get? p=some o/\o.ExactDict:=by
        rcases b with ⟨kvs,b⟩|⟨kvs,b⟩
        · obtain⟨_,_,_,_,o,_,_,e,ex,_⟩:=I.hok p _ b
          exact⟨o,e,ex⟩
        · obtain⟨_,_,_,_,o,_,_,e,ex,_⟩:=I.hok p _ b
          exact⟨o,e,ex⟩
      obtain⟨o,e,ex⟩:=z
      refine⟨⟨o,e,ex.1⟩,λa e2=>?_⟩
      cases e2
      exact⟨o,e,ex.2.1⟩
    · obtain⟨o,_,_,_,e,ex,_⟩:=I.hok p _ b
      refine⟨⟨o,e,ex.1⟩,λa e2=>?_⟩
      cases e2
      exact⟨o,e,ex.2.1⟩
  | _=>exact False.elim ty
def tBM (K:PySem.W.Frag) (T:String) (r:V->List V->Hp->VK->Prop) (to:TE) (t:TA):TE:=λσ H Q=>to σ H λx H1=>tyV K T x H1/\t σ H1 λxs a=>r x xs a Q
variable {o e:Expr}{es:List Expr}{to:TE}{t:TA}{name:Str}{apos cpos:Pos}{T id:String}{r:V->List V->Hp->VK->Prop}
theorem zek (n:PlainAttrs T) (slot:Slot T name id) (f:typeOf (.builtin id)=pure (.type "method_descriptor")) (u:MtR X id r) (q:PE X o to) (ha:PA X (e::es) t)
    (c:attributeBase o name X.env (eval o X.env)=eval o X.env:=by rfl)
    (d:((backTo cpos (starEach (e::es) X.env)).all (λx=>!x.1) && (backToKw cpos (keywordEach [] X.env)).all (λx=>x.1.isSome)
      && decide ((e::es).length+([]:List Keyword).length+(if ([]:List Keyword).isEmpty then 0 else 1)<30))=true:=by rfl)
    (b:(apos.endLine == cpos.line)=true:=by rfl) (p:starEach (e::es) X.env=(false,eval e X.env)::starEach es X.env:=by rfl) (a:(backTo cpos (starEach es X.env)).any (·.1)=false:=by rfl) :
    PE X (.Call (.Attribute o name apos) (e::es) [] cpos) (tBM X.K T r to t):=by
  intro pins s σ H Q I h
  refine wpAny_Call_method_late c d b rfl (thn (q pins s σ H _ I h) λv s1 ⟨x,H1,j,g,ty,m⟩=>?_)
  obtain⟨h1,w⟩:=zmr j g ty
  refine⟨T,id,n,slot,f,h1,w,?_⟩
  have i:=ha cpos pins s1 σ H1 _ j m
  rw[p]at i ⊢
  refine ZY (by show (false || (backTo cpos (starEach es X.env)).any (·.1))=false;rw[a]<;>rfl) (Calls.evalArgs_plain ?_)
  exact thn i λus s2 ⟨vs,z,y,k,l⟩=>u pins s2 σ z x vs v us Q y g k l
end
def MtM (X:Cx) (id:String) (r:V->List V->Hp->VK->Prop):Prop :=
  ∀ (pins:List (Addr × Obj)) (s:Shared) (σ:St) (H:Hp) (x:V) (xs:List V) (v:Value) (us:List Value) (Q:VK),Inv X pins σ H s->RelV x v->Vals xs us->r x xs H Q ->
    wpAny (model X.prog X.w) X.A (call (.builtin id) (v::us)) (EP X pins σ Q) X.xe s
theorem Vals.one:∀ {x:V}{us:List Value},Vals [x] us->∃ u,us=[u]/\RelV x u
  | _,_,.cons r .nil=>⟨_,rfl,r⟩
theorem Vals.two:∀ {x y:V}{us:List Value},Vals [x,y] us->∃ u v,us=[u,v]/\RelV x u/\RelV y v
  | _,_,_,.cons r (.cons q .nil)=>⟨_,_,rfl,r,q⟩
theorem Vals.eraseIdx:∀ {xs:List V}{us:List Value}(i:Nat),Vals xs us->Vals (xs.eraseIdx i) (us.eraseIdx i)
  | _,_,_,.nil=>.nil
  | _,_,0,.cons _ t=>t
  | _,_,i+1,.cons r t=>.cons r (Vals.eraseIdx i t)
theorem Vals.rep {xs:List V}{us:List Value}(h:Vals xs us):∀ k:Nat,Vals (List.replicate k xs).flatten (List.replicate k us).flatten
  | 0=>.nil
  | k+1=>by
    rw[Ys,Ys,ZZ,ZZ]
    exact Vals.append h (Vals.rep h k)
theorem ze0 {α:Type}:∀ (l:List α) (i:Nat),(l.eraseIdx i).length<=l.length
  | [],_=>Jg _
  | _::_,0=>Nat.le_succ _
  | _::r,i+1=>Nat.succ_le_succ (ze0 r i)
theorem ze6 (its:List Value):∀ (k:Nat) (acc:List Value),
    List.foldl (λb a=>b++a) acc.toArray (List.replicate k its.toArray)=(acc++(List.replicate k its).flatten).toArray
  | 0,acc=>by simp
  | k+1,acc=>by
    have e:acc.toArray++its.toArray=(acc++its).toArray:=by simp
    have e2:(acc++its)++(List.replicate k its).flatten=acc++(List.replicate (k+1) its).flatten:=by
      rw[Ys,ZZ,JQ]
    rw[<- e2,<- ze6 its k (acc++its),<- e,Ys,List.foldl_cons]
section
variable {X:Cx}{pins:List (Addr × Obj)}{σ:St}{H:Hp}{s:Shared}{l:Addr}{xs ys:List V}
theorem Inv.lset {its its':List Value}{n:Nat}{f:Array Value->Array Value}{t':Nat}(I:Inv X pins σ H s) (g:H l=some (.lst xs))
    (e:s.heap.get? l=some { cls:=.type "list",data:=.seq its.toArray n }) (d:f its.toArray=its'.toArray) (b:Vals ys its') (a:ys.length<=sizeLine) :
    Inv X pins σ (upd H l (.lst ys)) { s with heap:=s.heap.update l (Obj.mapSeq f),toks:=t' }:=by
  have q:=PySem.IsL.update e f
  rw[d]at q
  refine I.write (x:=l) (e:=l) (by rw[g];exact trivial) (.inl rfl) (λh u hb c=>(Yj s.heap (Obj.mapSeq f) (Ne.symm hb)).trans c) ⟨_,q⟩ ?_
  exact⟨a,its',_,b,q⟩
theorem Inv.lnew {its:List Value}{t':Nat}(I:Inv X pins σ H s) (b:Vals ys its) (a:ys.length<=sizeLine) :
    Inv X pins σ (upd H s.heap.objs.size (.lst ys)) { s with heap:=s.heap.push { cls:=.type "list",data:=.seq its.toArray },toks:=t' } :=
  I.laid (λ_ _ q=>J8 _ q) (Jg _) ⟨a,its,0,b,Js _ rfl⟩
theorem Inv.fresh (I:Inv X pins σ H s):H s.heap.objs.size=none:=I.hok.fresh (Jg _)
theorem Inv.lstM (I:Inv X pins σ H s) (a:H l=some (.lst xs)):xs.length<=sizeLine/\∃ (its:List Value) (n:Nat),Vals xs its/\xs.length=its.length/\s.heap.get? l=some { cls:=.type "list",data:=.seq its.toArray n }:=by
  obtain⟨z,its,n,r,e⟩:=I.hok l _ a
  exact⟨z,its,n,r,r.length,e⟩
theorem zgt {n:Nat}(h:n<=sizeLine):Builtin.List.listTooLong n=false:=by
  unfold Builtin.List.listTooLong
  exact Jt (by omega)
end
section
variable {X:Cx}
def rAppend:V->List V->Hp->VK->Prop:=λx vs H Q=>∃ l xs y,x=.ref l/\vs=[y]/\H l=some (.lst xs)/\xs.length<sizeLine/\Q .non (upd H l (.lst (xs++[y])))
theorem zbi:MtM X "list.append" rAppend:=by
  intro pins s σ H x vs v us Q I b c h
  obtain⟨l,xs,y,rfl,rfl,a,f,q⟩:=h
  cases b
  obtain⟨u,rfl,d⟩:=c.one
  obtain⟨z,its,n,r,g,e⟩:=I.lstM a
  refine Wr F.slot_list_append ⟨_,e,rfl⟩ F.entry_list_append (F.args_list_append_2 _ _) (PySem.list_append l its.toArray n u (by rw[Jj];omega)) ⟨e,?_⟩
  refine⟨.non,_,I.lset (its':=its++[u]) a e (by simp) (r.append (.cons d .nil)) ?_,rfl,q⟩
  rw[Jb,List.length_singleton]
  omega
def rExtend:V->List V->Hp->VK->Prop:=λx vs H Q=>∃ l b xs zs,x=.ref l/\vs=[.ref b]/\H l=some (.lst xs)/\H b=some (.lst zs)/\xs.length+zs.length<=sizeLine/\Q .non (upd H l (.lst (xs++zs)))
theorem zdo:MtM X "list.extend" rExtend:=by
  intro pins s σ H x vs v us Q I f g h
  obtain⟨l,b,xs,zs,rfl,rfl,d,k,o,q⟩:=h
  cases f
  obtain⟨u,rfl,i⟩:=g.one
  cases i
  obtain⟨z,its,n,r,p,e⟩:=I.lstM d
  obtain⟨z2,a,n2,j,m,e2⟩:=I.lstM k
  have hsz:its.toArray.size+a.toArray.size<=sizeLine:=by rw[Jj,Jj];omega
  have c:¬(!its.toArray.isEmpty && Builtin.List.listTooLong (its.toArray.size+a.toArray.size))=true:=by
    rw[zgt hsz,Bool.and_false]
    exact Jp
  refine Wr F.slot_list_extend ⟨_,e,rfl⟩ F.entry_list_extend (F.args_list_extend_2 _ _)
    (AutoSeq1.list_extend_list_list_0 l its.toArray n b a.toArray n2 c (by rw[Jj];omega) (by omega)) ⟨e,e2,?_⟩
  refine⟨.non,_,I.lset (its':=its++a) d e (by simp) (r.append j) ?_,rfl,q⟩
  rw[Jb]
  omega
def rPopAt:V->List V->Hp->VK->Prop:=λx vs H Q=>∃ l xs i k y,x=.ref l/\vs=[.int i]/\H l=some (.lst xs)/\-(2 ^ 63)<=i/\i<2 ^ 63/\seqIndex? i xs.length=some k/\xs[k]?=some y/\Q y (upd H l (.lst (xs.eraseIdx k)))
theorem zkp:MtM X "list.pop" rPopAt:=by
  intro pins s σ H x vs v us Q I c d h
  obtain⟨l,xs,i,k,y,rfl,rfl,b,h1,p,o,g,q⟩:=h
  cases c
  obtain⟨u,rfl,f⟩:=d.one
  obtain⟨t,rfl⟩:=f
  obtain⟨z,its,n,r,m,e⟩:=I.lstM b
  obtain⟨w,j,a⟩:=r.get g
  refine Wr F.slot_list_pop ⟨_,e,rfl⟩ F.entry_list_pop (F.args_list_pop_2 _ _)
    (MeetsSeq.list_pop_at l its.toArray n i t k w (fitsIndex_both h1 p) (by rw[Jj,<- m];exact o) (by rw[<- Y8];exact j) (by rw[Jj];omega)) ⟨e,?_⟩
  refine⟨y,_,I.lset (its':=its.eraseIdx k) b e ?_ (r.eraseIdx k) ?_,a,q⟩
  · show its.toArray.eraseIdxIfInBounds k=(its.eraseIdx k).toArray
    rw[List.eraseIdxIfInBounds_toArray]
  · have:=ze0 xs k
    omega
def rCat:R2:=λx y H Q=>∃ l b xs zs,x=.ref l/\y=.ref b/\H l=some (.lst xs)/\H b=some (.lst zs)/\xs.length+zs.length<=sizeLine/\∀ p,H p=none->Q (.ref p) (upd H p (.lst (xs++zs)))
theorem zc0:OpR X (binaryOp .Add) rCat:=by
  intro pins s σ H x y v u Q I d c h
  obtain⟨l,b,xs,zs,rfl,rfl,g,i,m,q⟩:=h
  cases d
  cases c
  obtain⟨z,its,n,r,o,e⟩:=I.lstM g
  obtain⟨z2,a,n2,f,k,e2⟩:=I.lstM i
  refine PySem.P.add_list e e2 ?_ (by rw[Jj,Jj];omega)
  have j:its.toArray++a.toArray=(its++a).toArray:=by simp
  rw[j]
  exact⟨.ref _,_,I.lnew (t':=s.toks) (r.append f) (by rw[Jb];omega),rfl,q _ I.fresh⟩
def rRep:R2:=λx y H Q=>∃ l k xs,x=.ref l/\y=.int k/\H l=some (.lst xs)/\-(2 ^ 63)<=k/\k<2 ^ 63/\xs.length*k.toNat<=sizeLine /\
  ∀ p,H p=none->Q (.ref p) (upd H p (.lst (List.replicate k.toNat xs).flatten))
theorem zl7 {α:Type}(xs:List α) (k:Nat):(List.replicate k xs).flatten.length=k*xs.length:=by
  induction k with
  | zero=>simp
  | succ k ih=>rw[Ys,ZZ,Jb,ih,Nat.succ_mul,Nat.add_comm]
theorem zk9:OpR X (binaryOp .Mult) rRep:=by
  intro pins s σ H x y v u Q I p o h
  obtain⟨l,k,xs,rfl,rfl,A,h1,B,j,q⟩:=h
  cases p
  obtain⟨t,rfl⟩:=o
  obtain⟨z,its,n,r,w,e⟩:=I.lstM A
  have hlen:its.toArray.size*k.toNat<=sizeLine:=by rw[Jj,<- w];exact j
  have f:¬ its.toArray.size*k.toNat > (2 ^ 63-1) / 8:=by
    have:(sizeLine:Nat)<=(2 ^ 63-1) / 8:=by decide
    omega
  have d:¬(!Builtin.List.listFitsIndex k)=true:=by
    rw[fitsIndex_both h1 B]
    exact Jp
  have b:¬ Builtin.List.listTooLong (its.toArray.size*k.toNat)=true:=by
    rw[zgt hlen]
    exact Jp
  have c:List.foldl (λi g=>i++g) #[] (List.replicate (if its.toArray.isEmpty=true then 0 else k.toNat) its.toArray)=(List.replicate k.toNat its).flatten.toArray:=by
    have C:∀ m:Nat,List.foldl (λi g=>i++g) #[] (List.replicate m its.toArray)=(List.replicate m its).flatten.toArray:=λm=>by
      have:=ze6 its m []
      rw[ZN]at this
      exact this
    rw[C]
    cases its with
    | nil=>simp
    | cons a D=>rw[Jc (by simp)]
  refine wpAny_binaryOp_repeat_ref (T:="list") (U:="int") (by decide) ⟨_,e,rfl⟩ (λs'=>typeIs_int s' k t) noFill_list_mul F.fills_int_mul F.slot_int_rmul repeat_list F.slot_int_index.lookup
    (Wr F.slot_int_rmul (typeIs_int s k t) F.entry_int_rmul (F.args_int_rmul_2 _ _) (int___rmul___int_list k t l its.toArray n)
      ⟨e,rfl,⟨_,e,rfl⟩,Wr F.slot_list_mul ⟨_,e,rfl⟩ F.entry_list_mul (F.args_list_mul_2 _ _) (AutoListH.list___mul___list_int_3 l its.toArray n k t d f b) ⟨e,?_⟩⟩)
  rw[c]
  exact⟨.ref _,_,I.lnew (t':=s.toks) (r.rep k.toNat) (by rw[zl7,Nat.mul_comm];exact j),rfl,q _ I.fresh⟩
end
end L2
namespace Att
open PySem PySem.W PySem.Calls PyProof.Rows
theorem zdp {P:Params}{h:Heap}:∀ (ns:List Int) (vs:List Value),WellAll P h vs (ns.map WData.int)->IntsAre vs ns:=by
  intro ns
  induction ns with
  | nil =>
    intro vs w
    rw[List.map_nil]at w
    cases w
    exact .nil
  | cons n ns ih =>
    intro vs w
    rw[JZ]at w
    cases w with
    | cons a b =>
      cases a
      exact .cons _ _ (ih _ b)
theorem zhU {l:OpenLaw}{n:Nat}(s:l.most=some n) {P:Params}{h:Heap}{args:List WData}{vals:List Value}
    (b:l.row.toRowW.claim.pre args=true) (g:WellAll P h vals args) :
    ∃ a vs ns,vals=[Value.ref a]/\args=[WData.list (ns.map WData.int)]/\h.get? a=some { cls:=.type "list",data:=.seq vs.toArray }/\IntsAre vs ns/\ns.length<=n:=by
  have i:WShape.hasAll [] args [.list .int]=true:=(pre_splitW b).1
  have j:l.pre.holds [] { args:=args }=true:=(pre_splitW b).2
  obtain⟨d,r,rfl,h1,u⟩:=hasAllW_cons i
  obtain rfl:=hasAllW_nil u
  obtain⟨xs,rfl,t⟩:=hasW_list h1
  obtain⟨ns,rfl⟩:=items_int t
  have hlen:ns.length<=n:=by
    unfold OpenLaw.pre at j
    have f:(WTm.not (.lt (.lit (.int (n:Int))) (.len (.arg 0)))).holds [] { args:=[.list (ns.map .int)] }=true:=by
      have f:=(holds_andW j).1
      rw[s]at f
      exact f
    have e:=condW_of f (w_not (w_lt w_lit (w_len_list (w_arg rfl))))
    rw[Jh]at e
    refine Nat.le_of_not_lt λq=>?_
    have o:(n:Int)<((ns.length:Nat):Int):=by omega
    first
      | (rw[JB o]at e;exact absurd e (by decide))
      | (simp at e;omega)
  cases g with
  | cons m k =>
    cases k
    cases m with
    | list p c=>exact⟨_,_,ns,rfl,rfl,p,zdp ns _ c,hlen⟩
theorem zia (l:OpenLaw) (args:List WData):l.row.toRowW.claim.post args (.bool true) args=true :=
  postW_of (r:=l.row.toRowW) (X:=(true == true))
    (show WShape.has [] (.bool true) .bool=true by first|rfl|decide|simp[WShape.has,WShape.arms,WShape.armsAll])
    (show (WTm.eq .res (.lit (.bool true))).value [] { args:=args,res:=some (.bool true),after:=args }=some (.bool (true == true)) from w_eq_bool (w_res rfl) w_lit) rfl
theorem attach_call {l:OpenLaw}{n:Nat}{q:Program}{loose:List Str}{s:(Str->Option Value)->Heap->Prop}{p:World->Heap->Prop}{d:DefRec}
    (x:l.most=some n) (j:d.params.defaults=[])
    (call:∀ (w:World) (s₀ b:Shared) (mg mb:Str->Option Value) (c:Addr) (o:Obj) (pm cd doc:Value) (a:Addr) (vs:List Value) (ns:List Int),
      Ground q loose [] s w s₀ mg mb b.heap->p w b.heap ->
      b.heap.get? c=some o->o.data=.func (docDef d.name d.params d.body d.scope pm cd doc)->b.heap.CodeRec cd d.name->mg d.name=some (.ref c) ->
      b.heap.get? a=some { cls:=.type "list",data:=.seq vs.toArray }->IntsAre vs ns->ns.length<=n->b.gens = #[] ->
      codeAny (model l.prog w) callerA (.call (.ref c) ⟨[.ref a],[]⟩) (λr s'=>r=.ok (.ret (.bool true))/\OldK b.heap s'.heap/\s'.os=b.os/\AllBare s'.gens) b) :
    WalkO q loose s p l.row.toRowW d [] (λf vs=>PySem.call f vs):=by
  intro w s₀ b mg mb G Y c o pm cd doc D kV v hd k m i z args vals as e t E h F
  obtain rfl:D=.none:=Dflts.none m j
  obtain rfl:kV=.none:=Dflts.noKw m
  obtain⟨a,vs,ns,rfl,rfl,g,hints,hlen⟩:=zhU x e h
  refine enter_call (codeAny_mono (call w s₀ b mg mb c o pm cd doc a vs ns G Y v (fd_plain hd) k i g hints hlen z) λr s' u=>?_)
  obtain⟨rfl,C,B,A⟩:=u
  exact⟨.inl ⟨.bool true,.bool true,[],rfl,λ_=>rfl,.bool true,zia l _,λ_=>⟨List.Pairwise.nil,λ_ y=>(nomatch y)⟩⟩,C,B,A⟩
section
def znN (h:Heap) (L d:Addr):List (Addr × Obj):=(List.range h.objs.size).filterMap λa=>if a=L\/a=d then none else (h.get? a).map λo=>(a,o)
end
end Att
namespace L2
open PySem PySem.Spec PyProof.Rows
theorem zeB:∀ {vs:List Value}{ns:List Int},IntsAre vs ns->Vals (ns.map V.int) vs
  | _,_,.nil=>.nil
  | _,_,.cons n t h=>.cons ⟨t,rfl⟩ (zeB h)
abbrev KOf {K:PySem.W.Frag}{h:Heap}(_:K.In h):PySem.W.Frag:=K
def zbM (s:Stmt):Arguments:=match s with
  | .FunctionDef _ a _ _ _ _ _ _ _ _=>a
  | _=>{ posonlyargs:=[],args:=[],vararg:=none,kwonlyargs:=[],kw_defaults:=[],kwarg:=none,defaults:=[] }
def zbd (s:Stmt):List Stmt:=match s with
  | .FunctionDef _ _ b _ _ _ _ _ _ _=>b
  | _=>[]
def zal (s:Stmt):Scope:=match s with
  | .FunctionDef _ _ _ _ _ _ sc _ _ _=>sc
  | _=>{ kind:=.function,names:=[],isGenerator:=false,isCoroutine:=false }
abbrev CX0:CXT:=λ_ _ _ _ _ _=>False
abbrev E0:XK:=λ_ _ _=>False
theorem zaD {X:Cx}:Passes CX0 X E0:=λ_ _ _ _ _ _ _ h=>h.elim
structure Fun (K:PySem.W.Frag) (x qual:Str) (st:Stmt) (f:Addr) (fd:FuncData):Prop where
  ex:∃ (oc:Value) (od:Option Addr) (kV doc pm:Value) (an:Option Addr) (cdv ct:Value) (osl:Array (Option Value)),
    fd=PySem.W.fnOf x qual (zbM st) (zbd st) (zal st) .none kV doc pm an cdv ct/\K.lookup f=some ⟨oc,od,.func fd,osl⟩/\PySem.W.codeIn K cdv qual=true
  kp:PySem.W.keepIn K (.ref f)=true
section
variable {P:Program}{w:World}{K:PySem.W.Frag}{mg:Str->Option Value}{base:Heap}
theorem Fun.ok {x qual:Str}{st:Stmt}{f:Addr}{fd:FuncData}{N ps:List Str}{k:Nat}{sp:Sp}(F:Fun K x qual st f fd) (S:FnScope N ps (zal st)) (len:∀ vs H Q E,sp vs H Q E->vs.length=ps.length)
    (a:∀ (cdv:Value) (A:Around) (outer:List Env) (s:Shared) (H:Hp) (vs:List V) (Q:VK) (E:XK),Room k (A.deeper (envOfC qual (zal st) s.heap.objs.size f cdv))->sp vs H Q E ->
      ∃ t,PSs (cxOf CX0 P w K mg base N qual (zal st) f cdv A outer s H E).nox (zbd st) t/\t { nx:=λ_ H'=>Q .non H',rt:=Q } (zdG N vs) H):FnOk P w K mg base CX0 (k+1) f fd ps sp:=by
  obtain⟨oc,od,kV,doc,pm,an,cdv,ct,osl,rfl,d,c⟩:=F.ex
  refine zm8 d c S len λA outer s H vs Q E e b=>?_
  obtain⟨t,h,q⟩:=a cdv A outer s H vs Q E e b
  exact⟨t,h.nox,q⟩
theorem Fun.binds {x qual:Str}{st:Stmt}{f:Addr}{fd:FuncData}{ps:List Str}(F:Fun K x qual st f fd)
    (h:∀ (kV doc pm:Value) (an:Option Addr) (cdv ct:Value) (us:List Value),us.length=ps.length->bindArgs (PySem.W.fnOf x qual (zbM st) (zbd st) (zal st) .none kV doc pm an cdv ct) ⟨us,[]⟩=pure (ps.zip us)):Binds K fd ps []:=by
  obtain⟨oc,od,kV,doc,pm,an,cdv,ct,osl,rfl,b,a⟩:=F.ex
  exact .all (h kV doc pm an cdv ct)
theorem zm7 {x qual:Str}{st:Stmt}{f:Addr}{oc:Value}{od an:Option Addr}{osl:Array (Option Value)}{kV doc pm cdv ct:Value}(l:K.lookup f=some ⟨oc,od,.func (PySem.W.fnOf x qual (zbM st) (zbd st) (zal st) .none kV doc pm an cdv ct),osl⟩)
    (c:PySem.W.codeIn K cdv qual=true) (k:PySem.W.keepIn K (.ref f)=true):Fun K x qual st f (PySem.W.fnOf x qual (zbM st) (zbd st) (zal st) .none kV doc pm an cdv ct):=⟨⟨oc,od,kV,doc,pm,an,cdv,ct,osl,rfl,l,c⟩,k⟩
end
section
variable {X:Cx}
theorem pv (i:Nat) {x:Str}{pos:Pos}(c:X.N[i]?=some x:=by rfl) (b:Vis X.env.scope x:=by first|exact Or.inl rfl|exact Or.inr (.inl rfl)|exact Or.inr (.inr rfl)) (hd:(x == ("__debug__":Str))=false:=by decide)
    (a:(x == ("__classdict__":Str))=false:=by decide):PE X (.Name x pos) (tVar i):=zmH c b hd a
theorem qv (i:Nat) {x:Str}{pos:Pos}(h:X.N[i]?=some x/\Vis X.env.scope x/\(x == ("__debug__":Str))=false/\(x == ("__classdict__":Str))=false):PE X (.Name x pos) (tVar i):=zmH h.1 h.2.1 h.2.2.1 h.2.2.2
end
theorem iteF {A B:Prop}(h:B):if false=true then A else B:=by
  rw[Jc Jp]
  exact h
theorem iteT {A B:Prop}(h:A):if true=true then A else B:=by
  rw[Jf rfl]
  exact h
theorem ite2 {c A B:Prop} [Decidable c] (h1:c->A) (a:¬ c->B):if c then A else B:=by
  by_cases h:c
  · rw[Jf h]
    exact h1 h
  · rw[Jc h]
    exact a h
def Same (H H':Hp):Prop:=∀ b o,H b=some o->H' b=some o
theorem Same.refl (H:Hp):Same H H:=λ_ _ h=>h
theorem Same.trans {H H1 d:Hp}(a:Same H H1) (b:Same H1 d):Same H d:=λc o h=>b c o (a c o h)
end L2
set_option maxHeartbeats 4000001
namespace L2
open PySem PySem.Spec PyProof.Rows
def clOf (cells:List (Str × Addr)):List (Str × NameKind)->List (Str × Addr)->List (Str × Addr)
 | [],cs=>cs
 | (n,k)::r,cs=>if k == .free then clOf cells r ((n,(cells.lookup n).getD 0)::cs) else clOf cells r cs
theorem zey {env:Env}:∀ (names:List (Str × NameKind)) (cs:List (Str × Addr)),(∀ y∈names,y.2=.free->∃ c,env.cells.lookup y.1=some c) ->
  (forIn names cs λx r=>match x with|(name,kind)=>if (kind == NameKind.free)=true then (do let a <- cellOf env name;pure (ForInStep.yield ((name,a)::r))) else pure (ForInStep.yield r):Sem (List (Str × Addr)))=pure (clOf env.cells names cs)
 | [],cs,_=>rfl
 | (n,k)::r,cs,h=>by
  rw[YZ]
  by_cases e:(k == NameKind.free)=true
  ·obtain⟨c,g⟩:=h (n,k) JJ (by simpa using e)
   have d:cellOf env n=pure c:=by
    have b:env.cells.lookup n=some c:=g
    unfold cellOf;rw[b]
   simp only[e,Yr,d,pure_bind]
   rw[zey r _ λy f=>h y (JH _ f)]
   have b:env.cells.lookup n=some c:=g
   show _=pure (if (k == NameKind.free)=true then _ else _)
   rw[Jf e,b]
   rfl
  ·have i:(k == NameKind.free)=false:=by simpa using e
   simp only[i,Y9,Z1,pure_bind]
   rw[zey r _ λy f=>h y (JH _ f)]
   show _=pure (if (k == NameKind.free)=true then _ else _)
   rw[Jc e]
theorem zdZ {scope:Scope}{env:Env}(h:∀ y∈scope.names,y.2=.free->∃ c,env.cells.lookup y.1=some c):closureFor scope env=pure (clOf env.cells scope.names []):=by
 unfold closureFor
 show (forIn scope.names [] _ >>= λr=>pure r)=_
 rw[bind_pure]
 exact zey _ _ h
theorem zdb {cells:List (Str × Addr)}:∀ (names:List (Str × NameKind)) (cs:List (Str × Addr)) (x:Str) (c:Addr),(∀ y∈names,y.2=.free->∃ c,cells.lookup y.1=some c) ->
  (∀ x c,cs.lookup x=some c->cells.lookup x=some c)->(clOf cells names cs).lookup x=some c->cells.lookup x=some c
 | [],cs,x,c,_,f,e=>f x c e
 | (n,k)::r,cs,x,c,h,f,e=>by
  unfold clOf at e
  by_cases q:(k == NameKind.free)=true
  ·rw[Jf q]at e
   obtain⟨c0,l⟩:=h (n,k) JJ (by simpa using q)
   refine zdb r _ x c (λy g=>h y (JH _ g)) (λd m a=>?_) e
   rw[YD]at a
   cases i:d == n with
   | true =>
    rw[i]at a
    have j:d=n:=by simpa using i
    subst j
    have b:cells.lookup d=some c0:=l
    rw[b]at a ⊢
    exact a
   | false =>
    rw[i]at a
    exact f d m a
  ·rw[Jc q]at e
   exact zdb r _ x c (λy g=>h y (JH _ g)) f e
theorem zdD {cells:List (Str × Addr)}:∀ (names:List (Str × NameKind)) (cs:List (Str × Addr)) (x:Str),(∃ c,cs.lookup x=some c)->∃ c,(clOf cells names cs).lookup x=some c
 | [],cs,x,e=>e
 | (n,k)::r,cs,x,e=>by
  unfold clOf
  by_cases q:(k == NameKind.free)=true
  ·rw[Jf q]
   refine zdD r _ x ?_
   rw[YD]
   cases a:x == n with
   | true=>exact⟨_,rfl⟩
   | false=>exact e
  ·rw[Jc q]
   exact zdD r _ x e
theorem zb2 {cells:List (Str × Addr)}:∀ (names:List (Str × NameKind)) (cs:List (Str × Addr)) (x:Str),names.lookup x=some .free->∃ c,(clOf cells names cs).lookup x=some c
 | [],cs,x,e=>by simp at e
 | (n,k)::r,cs,x,e=>by
  rw[YD]at e
  unfold clOf
  cases a:x == n with
  | true =>
   rw[a]at e
   have b:k=.free:=Jr e
   subst b
   rw[Jf (by decide)]
   refine zdD r _ x ?_
   rw[YD,a]
   exact⟨_,rfl⟩
  | false =>
   rw[a]at e
   by_cases q:(k == NameKind.free)=true
   ·rw[Jf q];exact zb2 r _ x e
   ·rw[Jc q];exact zb2 r _ x e
def zlj (env:Env) (p:Str × NameKind):Bool:=p.2 == .free && env.scope.kind == .function && env.kindOf p.1 == some .cell
def zcV (env:Env) (p:Str × NameKind):Str × NameKind:=if zlj env p=true then (p.1,.cell) else p
theorem zdr (env:Env) (p:Str × NameKind):(zcV env p).1=p.1:=by unfold zcV;split<;>rfl
theorem zdq (env:Env) (p:Str × NameKind):(zcV env p).2=p.2\/((zcV env p).2=.cell/\p.2=.free):=by
 unfold zcV
 split
 ·rename_i h
  refine .inr ⟨rfl,?_⟩
  unfold zlj at h
  cases e:p.2<;>simp[e]at h<;>rfl
 ·exact .inl rfl
theorem zco (scope:Scope) (env:Env):(relabel scope env).names=scope.names.map (zcV env):=rfl
theorem zep {f:Str × NameKind->Str × NameKind}(a:∀ p,(f p).1=p.1):∀ (l:List (Str × NameKind)) (x:Str),(l.map f).lookup x=none/\l.lookup x=none\/∃ p∈l,(l.map f).lookup x=some (f p).2/\l.lookup x=some p.2
 | [],_=>.inl ⟨rfl,rfl⟩
 | p::r,x=>by
  have c:((p::r).map f).lookup x=if x == p.1 then some (f p).2 else (r.map f).lookup x:=by
   show List.lookup x (((f p).1,(f p).2)::r.map f)=_
   rw[YD,a p];cases x == p.1<;>rfl
  have e2:(p::r).lookup x=if x == p.1 then some p.2 else r.lookup x:=by
   show List.lookup x ((p.1,p.2)::r)=_
   rw[YD];cases x == p.1<;>rfl
  rw[c,e2]
  cases x == p.1
  ·rcases zep a r x with z|⟨q,b,z⟩
   ·exact .inl z
   ·exact .inr ⟨q,JH _ b,z⟩
  ·exact .inr ⟨p,JJ,rfl,rfl⟩
theorem zbn {scope:Scope}{env:Env}{x:Str}{a:NameKind}(h:(relabel scope env).names.lookup x=some a):scope.names.lookup x=some a\/(a=.cell/\scope.names.lookup x=some .free):=by
 rw[zco]at h
 rcases zep (zdr env) scope.names x with ⟨z,_⟩|⟨p,_,z,e⟩
 ·rw[z]at h;cases h
 ·rw[z]at h
  obtain rfl:=Jr h
  rcases zdq env p with q|⟨q,b⟩
  ·rw[q];exact .inl e
  ·exact .inr ⟨q,by rw[e,b]⟩
theorem zcX {scope:Scope}{env:Env}{x:Str}(h:scope.names.lookup x=some .free):(relabel scope env).names.lookup x=some .cell\/(relabel scope env).names.lookup x=some .free:=by
 rw[zco]
 rcases zep (zdr env) scope.names x with ⟨_,z⟩|⟨p,_,z,e⟩
 ·rw[z]at h;cases h
 ·rw[e]at h
  rcases zdq env p with q|⟨q,_⟩
  ·rw[z,q,h];exact .inr rfl
  ·rw[z,q];exact .inl rfl
def zaX (X:Cx) (N':List Str) (scope:Scope) (C:Addr) (s₀:Shared) (H₀:Hp) (fp:List Addr) (pins:List (Addr × Obj)):Cx :=
 { X with N:=N',s₀:=s₀,H₀:=H₀,env:=compEnvC scope (clOf X.env.cells scope.names []) C X.env,outer:=X.stack,stack:=X.stack,ex:=fp,fn:=λ_=>false,pn:=X.pn++pins,xe:=λ_ _=>False }
def capσ (cap:List (Option Nat)) (σ:St):St:=cap.map λo=>match o with|some i=>(match σ[i]? with|some v=>v|none=>none)|none=>none
def tst (M:Model) (A:Around) (env:Env) (E:Value->Shared->Prop) (o:Option Expr) (Q:Bool->Shared->Prop) (s:Shared):Prop:=match o with
 | none=>Q true s
 | some c=>wpAny M A (isTrue c env (eval c env)) Q E s
theorem zf9 {M:Model}{A:Around}{env:Env}{E:Value->Shared->Prop}{o:Option Expr}{Q a:Bool->Shared->Prop}{s:Shared}(h:tst M A env E o Q s) (k:∀ b z,Q b z->a b z):tst M A env E o a s:=by
 cases o with
 | none=>exact k _ _ h
 | some c=>exact thn h k
def PTo (X:Cx) (o:Option Expr) (t:TT):Prop :=
 ∀ (pins:List (Addr × Obj)) (s:Shared) (σ:St) (H:Hp) (Q:Bool->Hp->Prop),Inv X pins σ H s->t σ H Q->tst (model X.prog X.w) X.A X.env X.xe o (TP X pins σ Q) s
def tYes:TT:=λ_ H Q=>Q true H
theorem zcb {X:Cx}:PTo X none tYes:=λ_ _ _ H _ I h=>⟨H,I,h⟩
theorem zh9 {X:Cx}{c:Expr}{t:TT}(h:PT X c t):PTo X (some c) t:=λpins s σ H Q I a=>h pins s σ H Q I a
abbrev NoX:Value->Shared->Prop:=λ_ _=>False
def Go (M:Model) (A:Around) (tg elt:Expr) (o:Option Expr) (it acc:Value) (env:Env) (R:Result->Shared->Prop) (g:Shared->Prop) (s:Shared):Prop :=
 wpAny M A (pyNext it) (λr a=>match r with
  | none=>R (.ok .next) a
  | some v=>wpAny M A (letOwnedTupleGo tg it v) (λ_ b=>wpAny M A (assign tg env v) (λ_ c=>tst M A env NoX o (λyes d =>
    if yes=true then wpAny M A (eval elt env) (λx e=>wpAny M A (call (.builtin "list.append") [acc,x]) (λ_ f=>g f) NoX e) NoX d else g d) c) NoX b) NoX a) NoX s
theorem zjn {prog:Program}{w:World}{A:Around}{R:Result->Shared->Prop}{s:Shared}{elt tg iter:Expr}{o:Option Expr}{scope:Scope}{pos:Pos}{it acc:Value}{env:Env}(J:Nat->Shared->Prop)
  (turn:∀ n s,J n s->Go (model prog w) A tg elt o it acc env R (λz=>∃ m,m<n/\J m z) s) (n:Nat) (h:J n s) :
  codeAny (model prog w) A (.compLoop (.ListComp elt [⟨tg,iter,o.toList,0⟩] scope pos) 0 it acc env) R s:=by
 cases o with
 | none =>
  refine PySem.W.kcp_loop J (λn a ha=>JU (turn n a ha) (λr b hb=>?_) λ_ _ z=>z.elim) n h
  cases r with
  | none=>exact hb
  | some v=>exact JU hb (λ_ c i=>JU i (λ_ d hd=>JU (show wpAny _ _ _ _ _ d from hd) (λx e g=>JU g (λ_ _ q=>q) λ_ _ z=>z.elim) λ_ _ z=>z.elim) λ_ _ z=>z.elim) λ_ _ z=>z.elim
 | some t =>
  refine PySem.W.kct_loop J (λn a ha=>JU (turn n a ha) (λr b hb=>?_) λ_ _ z=>z.elim) n h
  cases r with
  | none=>exact hb
  | some v =>
   refine JU hb (λ_ c i=>JU i (λ_ d hd=>JU (show wpAny _ _ _ _ _ d from hd) (λyes e g=>?_) λ_ _ z=>z.elim) λ_ _ z=>z.elim) λ_ _ z=>z.elim
   cases yes
   ·exact g
   ·exact JU (show wpAny _ _ _ _ _ e from g) (λx f j=>JU j (λ_ _ q=>q) λ_ _ z=>z.elim) λ_ _ z=>z.elim
structure CapOk (N N':List Str) (sc scope:Scope) (cap:List (Option Nat)):Prop where
 kind:scope.kind=.function
 nocell:∀ y∈scope.names,y.2≠.cell
 names:∀ y∈scope.names,y.2=.local -> scope.names.lookup y.1=some .local
 free:∀ y∈scope.names,y.2=.free->sc.names.lookup y.1=some .cell\/sc.names.lookup y.1=some .free
 len:cap.length=N'.length
 cap:∀ p∈N'.zip cap,∀ i,p.2=some i->N[i]?=some p.1/\scope.names.lookup p.1=some .free/\(sc.names.lookup p.1=some .cell\/sc.names.lookup p.1=some .free)
theorem zcU {α:Type}:∀ {l:List (Str × α)}{x:Str}{a:α},l.lookup x=some a->(x,a)∈l
 | [],_,_,h=>by simp at h
 | (n,k)::r,x,a,h=>by
  rw[YD]at h
  cases b:x == n with
  | true =>
   rw[b]at h
   have e:k=a:=Jr h
   have e2:x=n:=by simpa using b
   subst e e2
   exact JJ
  | false=>rw[b]at h;exact JH _ (zcU h)
def LCW (J:It) (g:TG) (tt:TT) (te:TE) (l:Addr) (Q:VK) (W:Nat->Nat->List V->St->Hp->Prop):Prop :=
 ∀ i m acc d H',W i m acc d H'->H' l=some (.lst acc) /\
  ((J.stop i H'/\Q (.ref l) H')\/(J.go i H'/\∀ x h,J.yld i H' x h->g x d h λa j=>tt a j λb f =>
   if b=true then te a f λy e=>e l=some (.lst acc)/\acc.length<sizeLine/\∃ c,c<m/\W (i+1) c (acc++[y]) a (upd e l (.lst (acc++[y])))
   else ∃ c,c<m/\W (i+1) c acc a f))
def tLC (cap:List (Option Nat)) (a:TI) (g:TG) (tt:TT) (te:TE):TE:=λσ H Q=>a σ H λJ H1=>∀ l,H1 l=none ->
 ∃ W:Nat->Nat->List V->St->Hp->Prop,(∃ m,W 0 m [] (capσ cap σ) (upd H1 l (.lst [])))/\LCW J g tt te l Q W
theorem ziU {X:Cx}{elt tg iter:Expr}{o:Option Expr}{scope:Scope}{pos aa:Pos}{wi:TI}{g:TG}{tt:TT}{te:TE}{N':List Str}{cap:List (Option Nat)}{use:Option (Value->Sem Unit)}{Q0:Value->Shared->Prop}
  (hc:X.calm=true) (hi:PI X tg iter wi) (K:CapOk X.N N' X.env.scope scope cap)
  (hg:∀ C s₀ H₀ fp pins,PG (zaX X N' scope C s₀ H₀ fp pins) tg g)
  (ht:∀ C s₀ H₀ fp pins,PTo (zaX X N' scope C s₀ H₀ fp pins) o tt)
  (he:∀ C s₀ H₀ fp pins,PE (zaX X N' scope C s₀ H₀ fp pins) elt te)
  (hs:∀ x,foldedSetIterable iter X.env x=pure x) {pins:List (Addr × Obj)}{s:Shared}{σ:St}{H:Hp}{Q:VK}(I:Inv X pins σ H s) (h:tLC cap wi g tt te σ H Q)
  (fin:∀ (l C:Addr) (G:Hp) (N:Shared) (m:Str->Option Value),Inv X pins σ G N->Q (.ref l) G->N.heap.Ns C m->FpOk X pins G C->compPost (model X.prog X.w) X.A X.xe use Q0 (.ref l) C (.ok .next) N) :
  wpAny (model X.prog X.w) X.A (comprehension (.ListComp elt [⟨tg,iter,o.toList,0⟩] scope pos) scope X.env aa (newList []) false (eval iter X.env) use) Q0 X.xe s:=by
 have B:∀ y∈scope.names,y.2=.free->∃ c,X.env.cells.lookup y.1=some c:=λy hy hf=>I.ok.has y.1 (K.free y hy hf)
 refine wpAny_comprehension_free (use:=use) rfl hs (zdZ B) K.kind K.names (thn (hi pins s σ H _ I h) λv s1 h1=>thn h1 λaG s2 h2=>?_)
 obtain⟨it,fp,tn,J,H2,e,I2,T,st2,f2,body⟩:=h2
 subst e
 have ad:H2 s2.heap.objs.size=none:=I2.hok.fresh (Jg _)
 obtain⟨W,⟨m0,w0⟩,turn⟩:=body s2.heap.objs.size ad
 have f:Inv X pins σ (upd H2 s2.heap.objs.size (.lst [])) { s2 with heap:=s2.heap.push { cls:=.type "list",data:=.seq ([]:List Value).toArray },toks:=s2.toks }:=I2.lnew (its:=[]) (t':=s2.toks) .nil (JL _)
 refine JN (wpAny_newFunctionEnv K.nocell (by intro y hy;simp at hy) (λh₁ A w=>?_) K.kind)
 dsimp only at A w ⊢
 generalize hl:s2.heap.objs.size=l at *
 generalize hP:s2.heap.push { cls:=.type "list",dict:=none,data:=.seq ([]:List Value).toArray }=P2 at *
 generalize aw:upd H2 l (.lst [])=H3 at *
 have old:∀ b o,P2.get? b=some o->h₁.get? b=some o:=λb o e=>w.extBut b o (JF (Jq e)) (J8 _ e)
 have ab:∀ b o,s2.heap.get? b=some o->P2.get? b=some o:=λb o e=>hP ▸ J8 _ e
 have aj:∀ b∈fp,b<l:=λb hb=>by
  obtain⟨o,e,_⟩:=T.obj _ _ st2 b hb
  rw[<- hl];exact Jq e
 have ay:∀ b∈fp,H3 b=none:=λb hb=>by
  rw[<- aw,zah (JF (aj b hb))];exact(f2 b hb).1
 have av:P2.objs.size=l+1:=by rw[<- hP,YN,hl]
 have k:∀ x c,(clOf X.env.cells scope.names []).lookup x=some c->X.env.cells.lookup x=some c:=λx c e=>zdb _ _ x c B (λ_ _ z=>by simp at z) e
 generalize ag:({ s2 with heap:=P2,toks:=s2.toks }:Shared)=s3 at *
 have a:s3.heap=P2:=by rw[<- ag]
 let Y:=zaX X N' scope P2.objs.size s3 H3 fp pins
 have t:Y.Ok:=by
  refine⟨f.ok.mod,K.kind,f.ok.glob,f.ok.blt,by show s3.heap.objs.size<=P2.objs.size;rw[a];exact Jg _,λx y c e1 e2=>f.ok.inj x y c (k x c e1) (k y c e2),λx O=>?_,λx c O=>absurd (show false=true from O) Jp,f.ok.hd,f.ok.frames,.inl rfl,λb hb=>⟨?_,λx c e=>?_⟩,f.bs,
   JW f.ok.bsz f.sz,λb o e hb=>?_,λb hb hz=>?_,f.stack,f.stkFree⟩
  ·have ao:scope.names.lookup x=some .free:=by
    rcases O with O|O
    ·rcases zbn O with z|z
     ·exact absurd rfl (K.nocell _ (zcU z))
     ·exact z.2
    ·rcases zbn O with z|z
     ·exact z
     ·exact z.2
   exact zb2 _ _ x ao
  ·exact JF (by show b<P2.objs.size;rw[av];exact Zn (aj b hb))
  ·exact(f2 b hb).2.2.2.2.1 x c (k x c e)
  ·rcases (f2 b hb).2.2.2.1 with z|z
   ·exact f.ok.noex b o e z
   ·exact absurd (JM (Jq e) (JW f.ok.bsz z)) (YL _)
  ·rcases Ju.mp (f.stkSub b hz) with z|z
   ·exact(f2 b hb).2.1 z
   ·exact(f2 b hb).2.2.1 z
 have au:Inv Y [] (capσ cap σ) H3 { s2 with heap:=h₁,toks:=s2.toks }:=by
  refine⟨t,by show s2.os=s3.os;rw[<- ag],I2.bare,by show Un _ _ _ _ s3.heap h₁;rw[a];exact Un.kept old,⟨_,A,λj x v e1 e2 e3=>?_⟩,λx c e=>?_,?_,λx c e=>f.freeC x c (k x c e),λp hp=>?_,λb o e=>?_,?_⟩
  ·have aB:N'[j]?=some x:=e1
   unfold capσ at e2
   rw[JP]at e2
   cases ec:cap[j]? with
   | none=>rw[ec]at e2;cases e2
   | some oc =>
    rw[ec]at e2
    cases oc with
    | none=>cases e2
    | some i =>
     have az:σ[i]?=some (some v):=by
      cases ei:σ[i]? with
      | none=>simp[ei]at e2
      | some v' =>
       simp[ei]at e2
       rw[e2]
     have hz:(x,some i)∈N'.zip cap:=by
      refine JT (i:=j) ?_
      rw[Wx]
      exact⟨aB,ec⟩
     obtain⟨hN,hf,hk⟩:=K.cap _ hz i rfl
     obtain⟨m,hn,ap⟩:=f.loc
     obtain⟨u,r,lk⟩:=ap i x v hN az (by rcases hk with z|z;exact .inr (.inl z);exact .inr (.inr z))
     refine⟨u,r,.inr ⟨?_,?_⟩⟩
     ·exact zcX hf
     ·rcases lk with ⟨z,_⟩|⟨_,c,ar,Z⟩
      ·have z':X.env.scope.names.lookup x=some .local:=z
       rcases hk with q|q
       ·rw[q]at z';cases z'
       ·rw[q]at z';cases z'
      ·obtain⟨c',ah⟩:=zb2 (cells:=X.env.cells) scope.names [] x hf
       have:=k x c' ah
       rw[ar]at this;cases this
       obtain⟨ob,e,d⟩:=Z
       rw[a]at e
       exact⟨c,ah,ob,old c ob e,d⟩
  ·obtain⟨v,ob,e',d⟩:=f.cell x c (k x c e)
   rw[a]at e'
   exact⟨v,ob,old c ob e',d⟩
  ·refine f.hok.fresh ?_
   rw[a];exact Jg _
  ·have U:p∈X.pn++pins:=(Jz.mp hp).elim (λz=>z) (λz=>nomatch z)
   obtain⟨e,n,ne,nf,d⟩:=f.pin p U
   rw[a]at e
   refine⟨old _ _ e,n,JF (Jq e),λz=>?_,d⟩
   rcases Ju.mp (f.stkSub _ z) with q|q
   ·exact ne q
   ·exact nf q
  ·have:=f.hok.kept (h':=h₁) (λb u q=>old b u (by rw[<- a];exact q))
   exact this b o e
  ·show (cap.map _).length=N'.length
   rw[Jh,K.len]
 have E:∀ {H':Hp},(∀ b∈fp,H' b=none)->∀ b∈fp,FpOk Y [] H' b:=λ{H'} hn b hb=>by
  refine⟨hn b hb,(t.exf b hb).1,t.exfs b hb,.inl hb,(t.exf b hb).2,λp hp=>?_⟩
  have U:p∈X.pn++pins:=(Jz.mp hp).elim (λz=>z) (λz=>nomatch z)
  exact(f2 b hb).2.2.2.2.2 p U
 have af:tn 0 h₁:=T.keep 0 _ _ st2 λb hb o e=>old b o (ab b o e)
 have loop:codeAny (model X.prog X.w) X.A (.compLoop (.ListComp elt [⟨tg,iter,o.toList,0⟩] scope pos) 0 (.ref it) (.ref l) Y.env) (compPost (model X.prog X.w) X.A X.xe use Q0 (.ref l) P2.objs.size) { s2 with heap:=h₁,toks:=s2.toks }:=by
  refine zjn (λn s'=>∃ i acc D H',Inv Y [] D H' s'/\tn i s'.heap/\(∀ b∈fp,H' b=none)/\W i n acc D H') ?_ m0 ⟨0,[],_,H3,au,af,ay,w0⟩
  rintro n s4 ⟨i,acc,M,G,I4,ae,ai,w4⟩
  obtain⟨aE,q4⟩:=turn i n acc M G w4
  rcases q4 with ⟨stop,qn⟩|⟨go,step⟩
  ·refine thn (T.done Y rfl rfl rfl hc i [] s4 M G Y.xe I4 (E ai) ae stop) λr N ⟨hr,I5⟩=>?_
   subst hr
   obtain⟨m,hn,_⟩:=id I5.loc
   have un:Un (frs X.stack) fp H3 G s3.heap N.heap:=I5.base
   have ak:s3.heap.objs.size<=P2.objs.size:=by rw[a];exact Jg _
   have IX:Inv X pins σ G N:=f.call' (ch:=fp) I5.os un I5.hok I5.bare λb hb=>⟨(f2 b hb).2.2.2.1,(f2 b hb).2.1,(f2 b hb).2.2.2.2.1,(f2 b hb).2.2.2.2.2⟩
   exact fin l P2.objs.size G N m IX qn hn (f.fpOk ak I5.free)
  ·refine thn (T.item Y rfl rfl rfl hc i [] s4 M G Y.xe I4 (E ai) ae go) λr N ⟨u,hr,h5⟩=>?_
   subst hr
   refine thn h5 λ_ s6 ⟨x,H6,I6,r6,y6,S,ax⟩=>?_
   have aC:=I6.pinned (E ax) (T.obj _ _ S)
   refine thn (hg _ _ _ _ _ _ s6 M H6 x u _ aC r6 (step x H6 y6)) λ_ s7 ⟨R,H7,I7,q7⟩=>?_
   refine zf9 (ht _ _ _ _ _ _ s7 R H7 _ I7 q7) λb s8 ⟨H8,I8,q8⟩=>?_
   have again:∀ {L:St}{P:Hp}{s9:Shared}{F:List V},Inv Y ([]++zcY fp s6.heap) L P s9->(∃ m',m'<n/\W (i+1) m' F L P)->∃ m,m<n/\∃ i acc D H',Inv Y [] D H' s9/\tn i s9.heap/\(∀ b∈fp,H' b=none)/\W i m acc D H':=λ{L P s9 F} I9 ⟨m',hm,w9⟩=>by
    refine⟨m',hm,i+1,F,L,P,I9.unpinned,T.keep _ _ _ S λb hb o e=>(I9.pin (b,o) (Jy _ (Jy _ (za1 hb e)))).1,λb hb=>?_,w9⟩
    obtain⟨o,e,d⟩:=T.obj _ _ S b hb
    exact(I9.pin (b,o) (Jy _ (Jy _ (za1 hb e)))).2.1
   cases b with
   | false =>
    rw[Jc Jp]at q8 ⊢
    exact again I8 q8
   | true =>
    rw[Jf rfl]at q8 ⊢
    refine thn (he _ _ _ _ _ _ s8 R H8 _ I8 q8) λyv s9 ⟨y,P,I9,r9,aq,am,q9⟩=>?_
    refine thn (zbi (X:=Y) _ s9 R P (.ref l) [y] (.ref l) [yv] (λ_ H'=>H'=upd P l (.lst (acc++[y]))) I9 rfl (.cons r9 .nil) ⟨l,acc,y,rfl,rfl,aq,am,rfl⟩) λ_ aF ⟨_,aH,aD,_,aA⟩=>?_
    subst aA
    exact again aD q9
 exact codeAny_compStart_list loop (T.self X.A 0 _ _ _ af loop)
theorem Inv.gone {X:Cx}{pins:List (Addr × Obj)}{σ:St}{H:Hp}{s:Shared}{C:Addr}{h':Heap}(I:Inv X pins σ H s) (f:FpOk X pins H C) (sb:Heap.SameBut C s.heap h'):Inv X pins σ H { s with heap:=h' } :=
 I.turned (t':=s.toks) (λb o hb e=>(sb.2 b hb).trans e) f.1 f.2.1 f.2.2.2.1 f.2.2.2.2.1 f.2.2.2.2.2
theorem zig {X:Cx}{elt tg iter:Expr}{o:Option Expr}{scope:Scope}{pos:Pos}{a:TI}{g:TG}{tt:TT}{te:TE}{N':List Str}{cap:List (Option Nat)}
  (j:X.calm=true) (hi:PI X tg iter a) (k:CapOk X.N N' X.env.scope scope cap)
  (e:∀ C s₀ H₀ fp pins,PG (zaX X N' scope C s₀ H₀ fp pins) tg g)
  (b:∀ C s₀ H₀ fp pins,PTo (zaX X N' scope C s₀ H₀ fp pins) o tt)
  (i:∀ C s₀ H₀ fp pins,PE (zaX X N' scope C s₀ H₀ fp pins) elt te)
  (c:∀ x,foldedSetIterable iter X.env x=pure x:=by intro _;rfl) :
  PE X (.ListComp elt [⟨tg,iter,o.toList,0⟩] scope pos) (tLC cap a g tt te):=by
 intro pins s σ H Q I h
 rw[eval_ListComp]
 exact ziU (use:=none) j hi k e b i c I h λl C p r m n q d f=>⟨m,d,λh' sb=>⟨.ref l,p,n.gone f sb,rfl,q⟩⟩
theorem zeh {X:Cx}{i:Nat}{y:Str}{elt tg iter:Expr}{o:Option Expr}{scope:Scope}{pos b py:Pos}{k:TI}{g:TG}{tt:TT}{te:TE}{N':List Str}{cap:List (Option Nat)}
  (J:X.N.Nodup) (j:X.N[i]?=some y) (n:X.env.scope.names.lookup y=some .local) (G:X.calm=true) (hi:PI X tg iter k) (K:CapOk X.N N' X.env.scope scope cap)
  (E:∀ C s₀ H₀ fp pins,PG (zaX X N' scope C s₀ H₀ fp pins) tg g)
  (u:∀ C s₀ H₀ fp pins,PTo (zaX X N' scope C s₀ H₀ fp pins) o tt)
  (F:∀ C s₀ H₀ fp pins,PE (zaX X N' scope C s₀ H₀ fp pins) elt te)
  (A:∀ x,foldedSetIterable iter X.env x=pure x:=by intro _;rfl)
  (d:swapsWith (.ListComp elt [⟨tg,iter,o.toList,0⟩] scope pos) (some (.Name y py)) b.line X.env=pure true:=by with_unfolding_all rfl) :
  PS X (.Assign [.Name y py] (.ListComp elt [⟨tg,iter,o.toList,0⟩] scope pos) b) (tAsg (tLC cap k g tt te) (zdt i)):=by
 intro pins s σ H D I h
 rw[exec_Assign_Name_used y py _ b d]
 refine J0 (Za (J0 (J0 (thn (ziU (use:=some (assign (.Name y py) X.env)) (Q0:=λ_ z=>SP X pins D .next z) G hi K E u F A I h λl C N O m M q B f=>?_) λ_ z t=>Ja (Ja t)))))
 refine wpAny_assign_Name (zeD (v:=.ref l) M J j (.inl n) rfl (λp L ⟨a,sb,ha⟩=>?_) (.inr n))
 have r:C≠a:=by
  rcases ha with z|z
  ·rw[z];exact f.2.1
  ·exact λw=>f.2.2.2.2.1 y a z w.symm
 have e:p.heap.Ns C m:=B.sameBut sb r
 exact⟨m,e,λh' c=>⟨_,N,L.gone f c,q⟩⟩
end L2
namespace Own
open PySem PySem.Spec PyProof.Rows
section
variable {M:Model}{prog:Program}{w:World}{A:Around}{E:Value->Shared->Prop}{s:Shared}{α:Type}{Q:α->Shared->Prop}
theorem rf {a:Addr}{o:Obj}{vs:Array Value}{x:Value}{f:Value->Sem α}(k:Nat) (c:s.heap.get? a=some o) (hd:o.data=.fields vs) (b:vs[k]?=some x) (h:wpAny M A (f x) Q E s) :
  wpAny M A (field (.ref a) k >>= f) Q E s:=J0 (Wb c hd b h)
theorem nx {T id:String}{B:Builtin}{it:Addr}{P:Value->Shared->Prop}(slot:Slot T "__next__" id) (ty:s.TypeIs (.ref it) T) (en:entryFor table id=some B) (ok:argsOk id ⟨[.ref it],[]⟩)
  (h:wpAny (model prog w) A.in1 (B ⟨[.ref it],[]⟩) (λr s'=>∃ v,r=.done (.ret v)/\P v s') E s):wpAny (model prog w) A (Builtin.SmallTypes.nextOf (.ref it)) P E s:=by
 unfold Builtin.SmallTypes.nextOf;refine J0 (wpAny_callSpecial?_slot (name:="__next__") ty slot (Y7 slot ty en (thn2 h) ok))
where
 thn2 {a:Sem Fin}{P:Value->Shared->Prop}{b:Around}(h:wpAny (model prog w) b a (λr s'=>∃ v,r=.done (.ret v)/\P v s') E s) :
   wpAny (model prog w) b a (λr s'=>∃ v,r=.done (.ret v)/\wpAny (model prog w) A (pure v) P E s') E s :=
  JU h (λ_ _ ⟨v,e,q⟩=>⟨v,e,Ja q⟩) λ_ _ z=>z
end
theorem ends {A:Around}{E:Value->Shared->Prop}{prog:Program}{w:World}{s:Shared}{α:Type}{Q:α->Shared->Prop}(c:A.handled=none)
  (h:∀ h' x,(∀ b o,s.heap.get? b=some o->h'.get? b=some o)->(∃ o,h'.get? x=some o/\o.cls=.type "StopIteration")->E (.ref x) { s with heap:=h' }) :
  wpAny (model prog w) A (Builtin.SmallTypes.stopIteration:Sem α) Q E s:=by
 unfold Builtin.SmallTypes.stopIteration newExc newTuple
 refine J0 (J0 (JN ?_ (by size_fits)))
 refine J0 (wpAny_of_eq (a:=Value.none) (by rfl) (JN (wpAny_raiseNew_none c (h _ _ (λb o e=>?_) ⟨_,Js _ rfl,rfl⟩)) (by size_fits)))
 exact J8 _ (J8 _ e)
def cN:Bool->String
 | true=>"list_iterator"
 | false=>"tuple_iterator"
abbrev RIt (b:Bool) (h:Heap) (it a:Addr) (i:Int):Prop:=h.get? it=some { cls:=.type (cN b),dict:=none,data:=.fields #[.ref a,.int i 0],slots:=#[] }
def SqO:Bool->Heap->Addr->Array Value->Prop
 | true,h,a,xs=>h.IsList a xs
 | false,h,a,xs=>h.IsTuple a xs
theorem SqO.ob {b:Bool}{h:Heap}{a:Addr}{xs:Array Value}(x:SqO b h a xs):∃ o n,h.get? a=some o/\o.data=.seq xs n:=by
 cases b<;>(obtain⟨o,e,_,n,d⟩:=x;exact⟨o,n,e,d⟩)
theorem SqO.mv {b:Bool}{h h':Heap}{a:Addr}{xs:Array Value}(x:SqO b h a xs) (k:∀ o,h.get? a=some o->h'.get? a=some o):SqO b h' a xs:=by
 cases b<;>(obtain⟨o,e,r⟩:=x;exact⟨o,k o e,r⟩)
theorem SqO.ne {b c:Bool}{h:Heap}{a it f:Addr}{i:Int}{xs:Array Value}(x:SqO b h a xs) (y:RIt c h it f i):a≠it:=λz=>by
 obtain⟨o,n,e,d⟩:=x.ob
 rw[z,y]at e;cases e;cases d
section
variable {prog:Program}{w:World}{A:Around}{E:Value->Shared->Prop}{s:Shared}
theorem ty {b:Bool}{it a:Addr}{i:Int}(y:RIt b s.heap it a i):s.TypeIs (.ref it) (cN b):=⟨_,y,rfl⟩
theorem zfC {b:Bool}{it a:Addr}{i:Nat}{xs:Array Value}{x:Value}{P:Value->Shared->Prop}{B:Builtin}(k:B=match b with|true=>Builtin.«list_iterator.__next__»|false=>Builtin.«tuple_iterator.__next__»)
  (y:RIt b s.heap it a i) (sq:SqO b s.heap a xs) (f:xs[i]?=some x) (h:∀ h',RIt b h' it a (i+1)->Heap.SameBut it s.heap h'->P x { s with heap:=h' }) :
  wpAny (model prog w) A (B ⟨[.ref it],[]⟩) (λr s'=>∃ v,r=.done (.ret v)/\P v s') E s:=by
 obtain⟨o,n,e,d⟩:=sq.ob
 have fin:wpAny (model prog w) A (match xs[(i:Int).toNat]? with
   | some x=>(do setField (.ref it) 1 (rawInt ((i:Int)+1));ret x:Sem Fin)
   | none=>Builtin.SmallTypes.stopIteration) (λr s'=>∃ v,r=.done (.ret v)/\P v s') E s:=by
  rw[Yi,f]
  exact J0 (Yf y (show 1<2 by decide) λh' g sb=>Ja ⟨x,rfl,h h' g sb⟩)
 rw[Yi,f]at fin
 subst k
 cases b <;>
 ·refine rf 0 y rfl rfl (PyIte (show ¬((Value.ref a == Value.none)=true) from Jp) (rf 1 y rfl rfl (J0 (Yk e d ?_))))
  simp only[Yi,f];exact fin
where
 PyIte {c:Prop} [Decidable c] {α:Type}{a b:Sem α}{M:Model}{A:Around}{Q:α->Shared->Prop}{E:Value->Shared->Prop}{s:Shared}(j:¬ c) (h:wpAny M A b Q E s):wpAny M A (if c then a else b) Q E s:=by
  rw[Jc j];exact h
theorem zeN {b:Bool}{it a:Addr}{i:Nat}{xs:Array Value}{Q:Fin->Shared->Prop}{B:Builtin}(l:B=match b with|true=>Builtin.«list_iterator.__next__»|false=>Builtin.«tuple_iterator.__next__»)
  (g:A.handled=none) (y:RIt b s.heap it a i) (sq:SqO b s.heap a xs) (f:xs[i]?=none)
  (h:∀ h' x,(∀ c o,c≠it->s.heap.get? c=some o->h'.get? c=some o)->(∃ o,h'.get? x=some o/\o.cls=.type "StopIteration")->E (.ref x) { s with heap:=h' }) :
  wpAny (model prog w) A (B ⟨[.ref it],[]⟩) Q E s:=by
 obtain⟨o,n,e,d⟩:=sq.ob
 subst l
 cases b <;>
 ·refine rf 0 y rfl rfl (zfC.PyIte (show ¬((Value.ref a == Value.none)=true) from Jp) (rf 1 y rfl rfl (J0 (Yk e d ?_))))
  simp only[Yi,f];refine J0 (YY (J0 (Yf y (show 0<2 by decide) λh1 _ sb=>?_)))
  exact ends g λm x k z=>h m x (λc o j q=>k c o ((sb.2 c j).trans q)) z
theorem zlZ {b:Bool}{it a:Addr}{i:Nat}{xs:Array Value}{x:Value}{P:Value->Shared->Prop}(y:RIt b s.heap it a i) (sq:SqO b s.heap a xs) (c:xs[i]?=some x)
  (h:∀ h',RIt b h' it a (i+1)->Heap.SameBut it s.heap h'->P x { s with heap:=h' }):wpAny (model prog w) A (Builtin.SmallTypes.nextOf (.ref it)) P E s:=by
 cases b
 ·exact nx F.slot_tuple_iterator_next (ty y) F.entry_tuple_iterator_next (F.args_tuple_iterator_next_1 _) (zfC (b:=false) rfl y sq c h)
 ·exact nx slot_listiter_next (ty y) entry_listiter_next (args_listiter_next _) (zfC (b:=true) rfl y sq c h)
theorem ziD {b:Bool}{it a:Addr}{i:Nat}{xs:Array Value}{P:Value->Shared->Prop}(e:A.handled=none) (y:RIt b s.heap it a i) (sq:SqO b s.heap a xs) (d:xs[i]?=none)
  (h:∀ h' x,(∀ c o,c≠it->s.heap.get? c=some o->h'.get? c=some o)->(∃ o,h'.get? x=some o/\o.cls=.type "StopIteration")->E (.ref x) { s with heap:=h' }) :
  wpAny (model prog w) A (Builtin.SmallTypes.nextOf (.ref it)) P E s:=by
 have inner:A.in1.handled=none:=e
 cases b
 ·exact nx F.slot_tuple_iterator_next (ty y) F.entry_tuple_iterator_next (F.args_tuple_iterator_next_1 _) (zeN (b:=false) rfl inner y sq d h)
 ·exact nx slot_listiter_next (ty y) entry_listiter_next (args_listiter_next _) (zeN (b:=true) rfl inner y sq d h)
theorem zbI {b:Bool}{a:Addr}{xs:Array Value}{P:Value->Shared->Prop}(sq:SqO b s.heap a xs)
  (h:P (.ref s.heap.objs.size) { s with heap:=s.heap.push { cls:=.type (cN b),data:=.fields #[.ref a,.int 0 0] } }):wpAny (model prog w) A (pyIter (.ref a)) P E s:=by
 cases b
 ·exact wpAny_pyIter_tuple sq h
 ·exact wpAny_pyIter_list sq h
end
theorem draws {prog:Program}{w:World}{A:Around}(g:A.handled=none) (b:Bool) (it a:Addr) (xs:Array Value) (d:a≠it) :
  Draws prog w A it [it,a] xs.size (λi v=>xs[i]?=some v) (λi h=>RIt b h it a i/\SqO b h a xs) :=
 ⟨λ_ _ st=>⟨_,st.1⟩,λ_ _ _ st k=>⟨k it JJ _ st.1,st.2.mv λo e=>k a (JH _ JJ) o e⟩,
  λi s Q E hi st k=>zlZ st.1 st.2 (ZD hi) λh' y sb=>k _ h' s.toks (ZD hi) ⟨y,st.2.mv λo e=>(sb.2 a d).trans e⟩ sb,
  λs Q E st k=>ziD g st.1 st.2 (by simp) λh' x f z=>k h' x (λc o j q=>f c o j q) z⟩
theorem zkM (b:Bool) (a:Addr) (o:Obj) (xs:Array Value) :
  Meets (Builtin.«enumerate.__new__» ⟨[.type "enumerate",.ref a],[]⟩) (λ_ R s=>s.heap.get? a=some o/\SqO b s.heap a xs /\
   R (.ok (.ret (.ref (s.heap.push { cls:=.type (cN b),data:=.fields #[.ref a,.int 0 0] }).objs.size)))
    { s with heap:=(s.heap.push { cls:=.type (cN b),data:=.fields #[.ref a,.int 0 0] }).push { cls:=.type "enumerate",data:=.fields #[.none,.bool false,.ref s.heap.objs.size,rawInt 0,.none,.none] } }) :=
 .of_wp λprog w A R s h=>by
  obtain⟨i,g,d,tk,os⟩:=s;obtain⟨f,sq,h⟩:=h
  have sub:=sub_enumerate
  have e:SqO b (Shared.heap ⟨i,g,d,tk,os⟩) a xs:=sq
  wp_walk using WA f;refine wpAny_stack_any λst=>Ja ?_
  split
  case h_1 c _ _ _ _ _ =>
   cases (c == Value.type "enumerate")<;>(wp_walk using WA f,zbI e;exact⟨_,rfl,h⟩)
  all_goals (wp_walk using WA f,zbI e;exact⟨_,rfl,h⟩)
theorem zjy {prog:Program}{w:World}{A:Around}{E:Value->Shared->Prop}{s:Shared}{b:Bool}{a:Addr}{xs:Array Value}{P:Value->Shared->Prop}(sq:SqO b s.heap a xs)
  (h:∀ h' e it,s.heap.objs.size<=e->s.heap.objs.size<=it->e≠it->IsEnum h' e it 0 .none->RIt b h' it a 0->(∀ c o,s.heap.get? c=some o->h'.get? c=some o)->P (.ref e) { s with heap:=h' }) :
  wpAny (model prog w) A (call (.type "enumerate") [.ref a]) P E s:=by
 obtain⟨o,n,d,_⟩:=sq.ob
 refine callType_new F.called_enumerate (by decide) (F.typeCall_enumerate_1 _) (F.newCall_enumerate_1 _) (λobj=>F.args_object_init_2 obj _) F.entry_enumerate_new (zkM b a o xs) ⟨d,sq,⟨_,Js _ rfl,rfl⟩,?_⟩
 refine h _ _ _ ?_ (Jg _) ?_ (Js _ rfl) (J8 _ (Js _ rfl)) λc o e=>J8 _ (J8 _ e)
 ·rw[YN];exact Nat.le_succ _
 ·rw[YN];exact Nat.succ_ne_self _
structure Sep (z TI TO i1 i2:Addr) (f1 f2:List Addr):Prop where
 all:[z,TI,TO,i1,i2].Nodup
 z1:z∉f1
 t1:TO∉f1
 o1:i2∉f1
 z2:z∉f2
 t2:TO∉f2
 o2:i1∉f2
section
variable {prog:Program}{w:World}{A:Around}{E:Value->Shared->Prop}{s:Shared}{z TI TO i1 i2:Addr}{f1 f2:List Addr}{n1 n2 k:Nat}{P1 P2:Nat->Value->Prop}{S1 S2:Nat->Heap->Prop}{a b:Value}
theorem zjL (S:Sep z TI TO i1 i2 f1 f2) (B:Draws prog w A i1 f1 n1 P1 S1) (u:Draws prog w A i2 f2 n2 P2 S2) {Q:Value->Shared->Prop}
  (l:IsZip s.heap z TI TO .none) (T:IsPair s.heap TI (.ref i1) (.ref i2)) (R:IsPair s.heap TO a b) (W:S1 k s.heap) (V:S2 k s.heap) (l1:k<n1) (l2:k<n2)
  (h:∀ x y h' tk,P1 k x->P2 k y->IsZip h' z TI TO (rawInt s.heap.objs.size)->IsPair h' TO x y->S1 (k+1) h'->S2 (k+1) h'->IsPair h' s.heap.objs.size x y ->
   (∀ c o,c∉[z,TO,i1,i2]->s.heap.get? c=some o->h'.get? c=some o)->Q (.ref s.heap.objs.size) { s with heap:=h',toks:=tk }) :
  wpAny (model prog w) A (Builtin.«zip.__next__» ⟨[.ref z],[]⟩) (λr s'=>∃ v,r=.done (.ret v)/\Q v s') E s:=by
 have nd:=S.all
 simp only[JR,Ju,Jv,Zd,WB]at nd
 obtain⟨⟨zI,p,z1,z2⟩,⟨IO,I1,I2⟩,⟨O1,O2⟩,aa,_⟩:=nd
 refine rf 2 l rfl rfl (rf 3 l rfl rfl (J0 (Yk T rfl (J0 (rf 0 l rfl rfl (Ja ?_))))))
 simp only[Yr]
 refine J0 (YY (rf 4 l rfl rfl (J0 (Yf l (show 0<5 by decide) λha O sa=>J0 ?_))))
 have C:IsZip ha z TI TO .ellipsis:=O;simp only[List.zipIdx_cons,List.zipIdx_nil,YZ,Zs]
 refine J0 (J0 (wpAny_onRaise (J0 (B.item k _ _ _ l1 (B.frame _ _ _ W λc g o e=>(sa.2 c λq=>S.z1 (q ▸ g)).trans e) λx hb tb P db sb=>Ja ?_))))
 have L:IsPair hb TO a b:=(sb.2 TO O1).trans ((sa.2 TO (Ne.symm p)).trans R)
 refine J0 (Yk L rfl (J0 (wpAny_updateSeq_pair L λg Oc sc=>J0 (ZV (Ja ?_)))))
 have D:IsPair g TO x b:=Oc
 have st2:S2 k g:=u.frame _ _ _ V λc d o e=>(sc.2 c λq=>S.t2 (q ▸ d)).trans ((sb.2 c λq=>S.o2 (q ▸ d)).trans ((sa.2 c λq=>S.z2 (q ▸ d)).trans e))
 refine J0 (J0 (wpAny_onRaise (J0 (u.item k _ _ _ l2 st2 λy hd td py U j=>Ja ?_))))
 have K:IsPair hd TO x b:=(j.2 TO O2).trans D
 refine J0 (Yk K rfl (J0 (wpAny_updateSeq_pair K λf Z i=>J0 (ZV (Ja (Ja ?_))))))
 have n:IsPair f TO x y:=Z
 refine J0 (Yk n rfl (J0 (wpAny_newTuple (J0 ?_))))
 have sz:f.objs.size=s.heap.objs.size:=by rw[i.1,j.1,sc.1,sb.1,sa.1]
 have F:IsZip f z TI TO .ellipsis:=(i.2 z p).trans ((j.2 z z2).trans ((sc.2 z p).trans ((sb.2 z z1).trans C)))
 have zn:f.objs.size≠z:=Z0 (Jq F)
 unfold Builtin.SmallTypes.ownedTupleHandOut;refine J0 (Yf (J8 _ F) (show 0<5 by decide) λhf N H=>Yf N (show 1<5 by decide) λt M G=>Ja ⟨_,rfl,?_⟩)
 have up:∀ c o,c≠z->f.get? c=some o->t.get? c=some o:=λc o q e=>(G.2 c q).trans ((H.2 c q).trans (J8 _ e))
 have new:IsPair t f.objs.size x y:=(G.2 _ zn).trans ((H.2 _ zn).trans (Js _ rfl))
 have m:IsZip t z TI TO (rawInt f.objs.size):=M
 rw[sz]at new m
 show Q (.ref f.objs.size) _
 rw[sz]
 refine h x y t td P py m (up _ _ (Ne.symm p) n) ?_ ?_ new λc o g e=>?_
 ·exact B.frame _ _ _ db λc d o e=>up c o (λq=>S.z1 (q ▸ d)) ((i.2 c λq=>S.t1 (q ▸ d)).trans ((j.2 c λq=>S.o1 (q ▸ d)).trans ((sc.2 c λq=>S.t1 (q ▸ d)).trans e)))
 ·exact u.frame _ _ _ U λc d o e=>up c o (λq=>S.z2 (q ▸ d)) ((i.2 c λq=>S.t2 (q ▸ d)).trans e)
 ·simp only[Ju,Jv,Zd,WB]at g
  obtain⟨J,I,Y,X⟩:=g
  exact up c o J ((i.2 c I).trans ((j.2 c X).trans ((sc.2 c I).trans ((sb.2 c Y).trans ((sa.2 c J).trans e)))))
end
section
variable {prog:Program}{w:World}{A:Around}{E:Value->Shared->Prop}{s:Shared}{z TI TO i1 i2:Addr}{f1 f2:List Addr}{n1:Nat}{P1:Nat->Value->Prop}{S1:Nat->Heap->Prop}
theorem zjK (S:Sep z TI TO i1 i2 f1 f2) (k:Draws prog w A i1 f1 n1 P1 S1) {Q:Fin->Shared->Prop}(a:IsZip s.heap z TI TO .none) (n:IsPair s.heap TI (.ref i1) (.ref i2)) (p:S1 n1 s.heap)
  (h:∀ h' x,(∀ c o,c∉[z,TO,i1,i2]->s.heap.get? c=some o->h'.get? c=some o)->(∃ o,h'.get? x=some o/\o.cls=.type "StopIteration")->E (.ref x) { s with heap:=h' }):wpAny (model prog w) A (Builtin.«zip.__next__» ⟨[.ref z],[]⟩) Q E s:=by
 have nd:=S.all
 simp only[JR,Ju,Jv,Zd,WB]at nd
 obtain⟨⟨u,t,z1,z2⟩,⟨IO,C,B⟩,⟨y,v⟩,r,_⟩:=nd
 refine rf 2 a rfl rfl (rf 3 a rfl rfl (J0 (Yk n rfl (J0 (rf 0 a rfl rfl (Ja ?_))))))
 simp only[Yr]
 refine J0 (YY (rf 4 a rfl rfl (J0 (Yf a (show 0<5 by decide) λha l sa=>J0 ?_))))
 have f:IsZip ha z TI TO .ellipsis:=l;simp only[List.zipIdx_cons,List.zipIdx_nil,YZ,Zs]
 refine J0 (J0 (wpAny_onRaise (J0 (k.done _ _ _ (k.frame _ _ _ p λc d o e=>(sa.2 c λq=>S.z1 (q ▸ d)).trans e) λhb x i ⟨m,ex,j⟩=>?_))))
 have g:IsZip hb z TI TO .ellipsis:=i z _ z1 f
 have xz:x≠z:=λq=>by rw[q,g]at ex;cases ex;exact absurd (show Value.type "zip" = Value.type "StopIteration" from j) (by decide)
 refine Yf g (show 0<5 by decide) λd _ sc=>h d x (λc o b e=>?_) ⟨m,(sc.2 x xz).trans ex,j⟩
 simp only[Ju,Jv,Zd,WB]at b
 exact(sc.2 c b.1).trans (i c o b.2.2.1 ((sa.2 c b.1).trans e))
end
theorem zhq (b1 b2:Bool) (a1 a2:Addr) (xs ys:Array Value):Meets (Builtin.«zip.__new__» ⟨[.type "zip",.ref a1,.ref a2],[]⟩) (λ_ R s=>SqO b1 s.heap a1 xs/\SqO b2 s.heap a2 ys /\
  ∀ h' z,(∃ TI TO i1 i2,[z,TI,TO,i1,i2].Nodup/\(∀ c∈[z,TI,TO,i1,i2],s.heap.objs.size<=c)/\IsZip h' z TI TO .none/\IsPair h' TI (.ref i1) (.ref i2)/\IsPair h' TO .none .none/\RIt b1 h' i1 a1 0/\RIt b2 h' i2 a2 0) ->
   (∀ c o,s.heap.get? c=some o->h'.get? c=some o)->R (.ok (.ret (.ref z))) { s with heap:=h' }) :=
 .of_wp λprog w A R s h=>by
  obtain⟨a,g,d,tk,os⟩:=s;obtain⟨j,i,h⟩:=h
  have sub:=sub_zip
  have f:SqO b1 (Shared.heap ⟨a,g,d,tk,os⟩) a1 xs:=j
  have b:SqO b2 (Shared.heap ⟨a.push { cls:=.type (cN b1),data:=.fields #[.ref a1,.int 0 0] },g,d,tk,os⟩) a2 ys:=i.mv λo e=>J8 _ e
  wp_walk using zbI f,zbI b
  refine⟨_,rfl,h _ _ ⟨_,_,_,_,?_,?_,Js _ rfl,J8 _ (J8 _ (Js _ rfl)),J8 _ (Js _ rfl),
   J8 _ (J8 _ (J8 _ (J8 _ (Js _ rfl)))),J8 _ (J8 _ (J8 _ (Js _ rfl)))⟩ λc o e=>?_⟩
  ·simp only[YN,JR,Ju,Jv,Zd,WB]
   simp<;>lia
  ·simp only[YN,Ju,Jv,Zd]
   intro c k
   have:a.objs.size<=c:=by lia
   exact this
  ·exact J8 _ (J8 _ (J8 _ (J8 _ (J8 _ e))))
end Own
namespace L2
open PySem PySem.Spec PyProof.Rows Own
section
variable {X:Cx}{pins:List (Addr × Obj)}{σ:St}{H:Hp}{s:Shared}{h':Heap}
theorem Inv.spunN {fp:List Addr}{T:Addr}{o:HO}{t':Nat}(I:Inv X pins σ H s) (k:∀ b o,b∉fp->s.heap.get? b=some o->h'.get? b=some o) (g:∀ b∈fp,FpOk X pins H b) (h:s.heap.objs.size<=T)
  (new:ObjOk X.prog X.w (upd H T o) h' T o):Inv X pins σ (upd H T o) { s with heap:=h',toks:=t' }:=by
 have d:H T=none:=I.hok.fresh h
 have neT:∀ b u,s.heap.get? b=some u->b≠T:=λb u e=>JF (JM (Jq e) h)
 have f:∀ b u,H b=some u->b∉fp:=λb u e hb=>by rw[(g b hb).1]at e;cases e
 refine I.step (g':=s.gens) (d':=s.drawn) (ch:=fp) (λb hb=>?_) (λb o _ _ a e _=>k b o a e) (λb o _ _ a e _=>⟨o.slots,k b o a e⟩) (λb o _ e n=>by rw[zah (neT b o e)];exact n)
  (λb o a e=>⟨o,k b o a e⟩) (λb xs e=>by rw[zah (zag e d)];exact e) (λb o u e=>by rw[zah (zag e d)];exact e) (λb ps e=>⟨#[],by rw[zah (zag e d),e];simp⟩) (λm j=>?_) (λb u e=>?_) I.bare
 ·obtain⟨w,f1,f2,t,p,l⟩:=g b hb
  exact⟨t,f1,p,l⟩
 ·obtain⟨o,es,ep,i,r⟩:=j
  exact⟨o,es,ep,k _ o (λhb=>(g _ hb).2.1 rfl) i,r⟩
 ·by_cases hb:b=T
  ·subst hb;rw[zaf]at e;cases e;exact new
  ·rw[zah hb]at e
   refine(I.hok b u e).stay (λc v a q=>k c v ?_ q) (λc q=>by rw[zah (zag q d)];exact q) λc xs q=>by rw[zah (zag q d)];exact q
   rcases a with z|z
   ·rw[z];exact f b u e
   ·exact f c _ z
theorem Inv.spun {fp:List Addr}{t':Nat}(I:Inv X pins σ H s) (k:∀ b o,b∉fp->s.heap.get? b=some o->h'.get? b=some o) (f:∀ b∈fp,FpOk X pins H b):Inv X pins σ H { s with heap:=h',toks:=t' }:=by
 have d:∀ b u,H b=some u->b∉fp:=λb u e hb=>by rw[(f b hb).1]at e;cases e
 refine I.step (g':=s.gens) (d':=s.drawn) (ch:=fp) (λb hb=>?_) (λb o _ _ a e _=>k b o a e) (λb o _ _ a e _=>⟨o.slots,k b o a e⟩) (λb o _ e n=>n)
  (λb o a e=>⟨o,k b o a e⟩) (λb xs e=>e) (λb o u e=>e) (λb ps e=>⟨#[],by rw[e];simp⟩) (λm h=>?_) (λb u e=>?_) I.bare
 ·obtain⟨p,f1,f2,l,j,i⟩:=f b hb
  exact⟨l,f1,j,i⟩
 ·obtain⟨o,es,ep,g,r⟩:=h
  exact⟨o,es,ep,k _ o (λhb=>(f _ hb).2.1 rfl) g,r⟩
 ·refine(I.hok b u e).stay (λc v a q=>k c v ?_ q) (λc q=>q) λc xs q=>q
  rcases a with z|z
  ·rw[z];exact d b u e
  ·exact d c _ z
end
def SqB:Bool->PySem.W.Frag->Hp->Addr->List V->Prop
 | true,K,H,a,xs=>SqL K H a xs
 | false,K,H,a,xs=>SqT K H a xs
section
variable {X:Cx}{pins:List (Addr × Obj)}{σ:St}{H:Hp}{s:Shared}{a c:Addr}{xs ys:List V}{b:Bool}
theorem Inv.sq (I:Inv X pins σ H s) (h:SqB b X.K H a xs):∃ its:List Value,Vals xs its/\SqO b s.heap a its.toArray:=by
 cases b
 ·obtain⟨its,r,p,z⟩:=I.tuple h
  exact⟨its,r,p⟩
 ·obtain⟨its,r,p,z⟩:=I.list h
  exact⟨its,r,p.isList⟩
theorem Inv.sq_inj (I:Inv X pins σ H s) (h:SqB b X.K H a xs) (h':SqB b X.K H a ys):xs=ys:=by
 cases b
 ·exact I.tuple_inj h h'
 ·exact I.list_inj h h'
theorem Inv.sq_ne (I:Inv X pins σ H s) (h:SqB b X.K H a xs) (f:FpOk X pins H c):c≠a:=by
 rintro rfl
 have d:∀ o,X.K.lookup c=some o->False:=λo e=>by
  have g:=I.ok.mod.kin c o e
  rcases f.2.2.2.1 with z|z
  ·exact I.ok.noex c o g z
  ·exact absurd (JM (Jq g) (JW I.ok.bsz z)) (YL _)
 cases b <;>
 ·rcases h with (h|⟨o,h⟩)|⟨o,_,_,e,_⟩
  ·rw[f.1]at h;cases h
  ·rw[f.1]at h;cases h
  ·exact d o e
end
def Pr (v u:V) (H:Hp) (x:V) (H':Hp):Prop:=∃ T,H T=none/\x=.ref T/\H'=upd H T (.tup [v,u])
theorem zfF {P:Program}{w:World}{H:Hp}{h:Heap}{T:Addr}{v u:V}{a b:Value}(e:IsPair h T a b) (c:RelV v a) (d:RelV u b):ObjOk P w (upd H T (.tup [v,u])) h T (.tup [v,u]) :=
 ⟨show 2<=sizeLine by decide,[a,b],.cons c (.cons d .nil),⟨_,e,rfl,_,rfl,rfl⟩⟩
def Ite (K:PySem.W.Frag) (b:Bool) (a:Addr):It :=
 ⟨λi H=>∃ xs x,SqB b K H a xs/\xs[i]?=some x,λi H x H'=>∃ y,(∀ xs,SqB b K H a xs->xs[i]?=some y)/\Pr (.int i) y H x H',λi H=>∃ xs,SqB b K H a xs/\xs.length=i⟩
theorem zhz {P:Program}{w:World}{K:PySem.W.Frag}{es:List Expr}{k1} {p1:Pos}(b:Bool) (a e it:Addr) (g:e≠it):Turn P w K (.Tuple es k1 p1) (Ite K b a) [e,it] e (λi h=>(∃ old,IsEnum h e it i old)/\RIt b h it a i) where
 mem:=JJ
 obj:=λi h ⟨⟨old,d⟩,hi⟩ c l=>by
  rcases Ju.mp l with q|q
  ·rw[q];exact⟨_,d,λv z=>by cases z⟩
  ·rw[Je.mp q];exact⟨_,hi,λv z=>by cases z⟩
 keep:=λi h h' ⟨⟨old,d⟩,hi⟩ F=>⟨⟨old,F e (by simp) _ d⟩,F it (by simp) _ hi⟩
 item:=by
  intro X t r y l i pins s σ H E I k ⟨⟨old,d⟩,hi⟩ ⟨xs,x,j,m⟩
  subst t r y
  obtain⟨its,n,p⟩:=I.sq j
  obtain⟨u,G,L⟩:=n.get m
  have B:i<its.toArray.size:=by simpa using (Jd.mp G).1
  refine wpAny_pyNext_enum_itemD (draws (prog:=X.prog) (w:=X.w) (A:=X.A.in1) (I.ok.hd l) b it a its.toArray (p.ne hi)) d ⟨hi,p⟩ B g (by simp[g,I.sq_ne j (k e (by simp))]) λv h1 tk Q S R U _ T=>?_
  obtain rfl:u=v:=Jr (G.symm.trans (by simpa using Q))
  refine⟨_,rfl,wpAny_letOwnedTupleGo_enum S λW C s2=>?_⟩
  have D:s.heap.objs.size≠e:=Z0 (Jq d)
  have M:s.heap.objs.size≠it:=Z0 (Jq hi)
  refine⟨.ref s.heap.objs.size,_,I.spunN (fp:=[e,it]) (λc o f q=>?_) k (Jg _) (zfF (v:=.int i) (u:=x) ((s2.2 _ D).trans U) ⟨tk,rfl⟩ L),rfl,⟨x,λys O=>by rw[I.sq_inj O j];exact m,_,I.fresh,rfl,rfl⟩,⟨⟨_,C⟩,(s2.2 it (Ne.symm g)).trans R.1⟩,λc f=>?_⟩
  ·have J:c≠e:=λz=>f (by simp[z])
   exact(s2.2 c J).trans (T c o J (λz=>f (by simp[z])) q)
  ·rw[zah,(k c f).1]
   rintro rfl
   rcases Ju.mp f with z|z
   ·exact D z
   ·exact M (Je.mp z)
 done:=by
  intro X t r y l i pins s σ H E I k ⟨⟨old,d⟩,hi⟩ ⟨xs,j,m⟩
  subst t r y
  obtain⟨its,n,p⟩:=I.sq j
  have N:i=its.toArray.size:=by rw[Jj,<- n.length,m]
  refine wpAny_pyNext_enum_endD (draws (prog:=X.prog) (w:=X.w) (A:=X.A.in1) (I.ok.hd l) b it a its.toArray (p.ne hi)) d ⟨by rw[<- N];exact hi,p⟩ λh' V=>⟨rfl,I.spun (t':=s.toks) (fp:=[e,it]) (λc o f q=>V c o (λz=>f (by simp[z])) q) k⟩
 self:=λ_ _ _ _ _ ⟨⟨_,d⟩,_⟩ h=>wpAny_pyIter_enum d h
def znI (K:PySem.W.Frag) (b:Bool) (ta:TA):TI:=λσ H R=>ta σ H λvs H1=>∃ a xs,vs=[.ref a]/\SqB b K H1 a xs/\R (Ite K b a) H1
theorem zlK {X:Cx}{a:Expr}{ta:TA}{p pos p1:Pos}{es:List Expr}{k1} (b:Bool) (t:Gl X "enumerate") (o:X.mg "enumerate" = none) (ha:PA X [a] ta) (m:starEach [a] X.env=[(false,eval a X.env)]:=by rfl) :
  PI X (.Tuple es k1 p1) (.Call (.Name "enumerate" p) [a] [] pos) (znI X.K b ta):=by
 intro pins s σ H R I h
 refine Call_ (zb5 I t o (u:=.type "enumerate") (by rfl) (Yq (thn (ha pos pins s σ H _ I h) λus s1 ⟨vs,H1,f,j,k⟩=>?_) m rfl))
 obtain⟨w,xs,rfl,n,q⟩:=k
 obtain⟨u,rfl,i⟩:=j.one
 cases i
 obtain⟨its,x,l⟩:=f.sq n
 refine zjy l λh' e it l1 l2 ne g hi r=>wpAny_pyIter_enum g ⟨_,[e,it],_,_,H1,rfl,f.kept (t':=s1.toks) r,zhz b w e it ne,⟨⟨_,g⟩,hi⟩,λc v=>?_,q⟩
 have d:s1.heap.objs.size<=c:=by
  rcases Ju.mp v with z|z
  ·rw[z];exact l1
  ·rw[Je.mp z];exact l2
 exact f.fpOk d (f.hok.fresh d)
def Itz (K:PySem.W.Frag) (b1 b2:Bool) (a1 a2:Addr):It :=
 ⟨λi H=>∃ xs ys x y,SqB b1 K H a1 xs/\SqB b2 K H a2 ys/\xs[i]?=some x/\ys[i]?=some y,λi H v H'=>∃ x y,(∀ xs,SqB b1 K H a1 xs->xs[i]?=some x)/\(∀ ys,SqB b2 K H a2 ys->ys[i]?=some y)/\Pr x y H v H',
  λi H=>∃ xs,SqB b1 K H a1 xs/\xs.length=i⟩
theorem zbC {P:Program}{w:World}{K:PySem.W.Frag}{es:List Expr}{k1} {p1:Pos}(b1 b2:Bool) (a1 a2 z TI TO i1 i2:Addr) (nd:[z,TI,TO,i1,i2].Nodup) :
  Turn P w K (.Tuple es k1 p1) (Itz K b1 b2 a1 a2) [z,TI,TO,i1,i2] z (λi h=>IsZip h z TI TO .none/\IsPair h TI (.ref i1) (.ref i2)/\(∃ a b,IsPair h TO a b)/\RIt b1 h i1 a1 i/\RIt b2 h i2 a2 i) where
 mem:=JJ
 obj:=λi h ⟨f,m,⟨a,b,r⟩,h1,n⟩ c C=>by
  simp only[Ju,Jv,Zd]at C
  rcases C with rfl|rfl|rfl|rfl|rfl
  ·exact⟨_,f,λv q=>by cases q⟩
  ·exact⟨_,m,λv q=>by cases q⟩
  ·exact⟨_,r,λv q=>by cases q⟩
  ·exact⟨_,h1,λv q=>by cases q⟩
  ·exact⟨_,n,λv q=>by cases q⟩
 keep:=λi h h' ⟨f,m,⟨a,b,r⟩,h1,n⟩ D=>⟨D z (by simp) _ f,D TI (by simp) _ m,⟨a,b,D TO (by simp) _ r⟩,D i1 (by simp) _ h1,D i2 (by simp) _ n⟩
 item:=by
  intro X U Q V C i pins s σ H E I p ⟨f,m,⟨a,b,r⟩,h1,n⟩ ⟨xs,ys,x,y,B,O,J,hy⟩
  subst U Q V
  obtain⟨G,N,p1⟩:=I.sq B
  obtain⟨u2,r2,p2⟩:=I.sq O
  obtain⟨v1,e1,rx⟩:=N.get J
  obtain⟨v2,e2,ry⟩:=r2.get hy
  have j:=nd
  simp only[JR,Ju,Jv,Zd,WB]at j
  obtain⟨⟨M,zO,z1,z2⟩,⟨IO,I1,I2⟩,⟨Y,W⟩,k,_⟩:=j
  have e:∀ c∈[z,TI,TO,i1,i2],c≠a1:=λc d=>I.sq_ne B (p c d)
  have t:∀ c∈[z,TI,TO,i1,i2],c≠a2:=λc d=>I.sq_ne O (p c d)
  have S:Sep z TI TO i1 i2 [i1,a1] [i2,a2]:=⟨nd,by simp[z1,e z (by simp)],by simp[Y,e TO (by simp)],by simp[Ne.symm k,e i2 (by simp)],by simp[z2,t z (by simp)],by simp[W,t TO (by simp)],by simp[k,t i1 (by simp)]⟩
  have hd:=I.ok.hd C
  have D1:=draws (prog:=X.prog) (w:=X.w) (A:=X.A.in1) hd b1 i1 a1 G.toArray (p1.ne h1)
  have D2:=draws (prog:=X.prog) (w:=X.w) (A:=X.A.in1) hd b2 i2 a2 u2.toArray (p2.ne n)
  have g:s.TypeIs (.ref z) "zip":=⟨_,f,rfl⟩
  unfold pyNext
  refine J0 (ZJ (wpAny_callSpecial?_slot (name:="__next__") g We (Y7 We g F.entry_zip_next (zjL S D1 D2 f m r ⟨h1,p1⟩ ⟨n,p2⟩ (by simpa using (Jd.mp e1).1) (by simpa using (Jd.mp e2).1)
   λw1 w2 h' tk aa Z zh Oh d1 d2 new L=>Ja ?_) (F.args_zip_next_1 _))))
  obtain rfl:v1=w1:=Jr (e1.symm.trans (by simpa using aa))
  obtain rfl:v2=w2:=Jr (e2.symm.trans (by simpa using Z))
  refine⟨_,rfl,wpAny_letOwnedTupleGo_zip zh λh3 z3 u=>?_⟩
  have nz:s.heap.objs.size≠z:=Z0 (Jq f)
  have ab:∀ c∈[z,TI,TO,i1,i2],c≠s.heap.objs.size:=λc d=>by
   simp only[Ju,Zd,Jv]at d
   rcases d with rfl|rfl|rfl|rfl|rfl
   ·exact JF (Jq f)
   ·exact JF (Jq m)
   ·exact JF (Jq r)
   ·exact JF (Jq h1)
   ·exact JF (Jq n)
  refine⟨.ref s.heap.objs.size,_,I.spunN (fp:=[z,TI,TO,i1,i2]) (λc o d q=>?_) p (Jg _) (zfF ((u.2 _ nz).trans new) rx ry),rfl,⟨x,y,λl R=>by rw[I.sq_inj R B];exact J,λl R=>by rw[I.sq_inj R O];exact hy,_,I.fresh,rfl,rfl⟩,
   ⟨z3,(u.2 _ (Ne.symm M)).trans (L TI _ (by simp[Ne.symm M,IO,I1,I2]) m),⟨_,_,(u.2 _ (Ne.symm zO)).trans Oh⟩,(u.2 _ (Ne.symm z1)).trans d1.1,(u.2 _ (Ne.symm z2)).trans d2.1⟩,λc d=>by rw[zah (ab c d),(p c d).1]⟩
  simp only[Ju,Jv,Zd,WB]at d
  exact(u.2 c d.1).trans (L c o (by simp[d]) q)
 done:=by
  intro X U Q V C i pins s σ H E I p ⟨f,m,⟨a,b,r⟩,h1,n⟩ ⟨xs,B,J⟩
  subst U Q V
  obtain⟨G,N,p1⟩:=I.sq B
  have j:=nd
  simp only[JR,Ju,Jv,Zd,WB]at j
  obtain⟨⟨M,zO,z1,z2⟩,⟨IO,I1,I2⟩,⟨Y,W⟩,k,_⟩:=j
  have e:∀ c∈[z,TI,TO,i1,i2],c≠a1:=λc d=>I.sq_ne B (p c d)
  have S:Sep z TI TO i1 i2 [i1,a1] [i2]:=⟨nd,by simp[z1,e z (by simp)],by simp[Y,e TO (by simp)],by simp[Ne.symm k,e i2 (by simp)],by simp[z2],by simp[W],by simp[k]⟩
  have hsz:i=G.toArray.size:=by rw[Jj,<- N.length,J]
  have g:s.TypeIs (.ref z) "zip":=⟨_,f,rfl⟩
  unfold pyNext
  refine J0 (ZJ (wpAny_callSpecial?_slot (name:="__next__") g We (Y7 We g F.entry_zip_next
   (zjK S (draws (prog:=X.prog) (w:=X.w) (A:=X.A.in1) (I.ok.hd C) b1 i1 a1 G.toArray (p1.ne h1)) f m ⟨by rw[<- hsz];exact h1,p1⟩ λh' x L ⟨o,eo,co⟩=>?_) (F.args_zip_next_1 _))))
  refine J0 (Zx (T:="StopIteration") (b:=true) ⟨o,eo,co⟩ isSubtype_stop (Ja ⟨rfl,I.spun (t':=s.toks) (fp:=[z,TI,TO,i1,i2]) (λc o d q=>L c o ?_ q) p⟩))
  simp only[Ju,Jv,Zd,WB]at d ⊢
  exact⟨d.1,d.2.2.1,d.2.2.2.1,d.2.2.2.2⟩
 self:=λ_ _ _ _ _ st h=>wpAny_pyIter_zip st.1 h
def iZip (K:PySem.W.Frag) (b1 b2:Bool) (ta:TA):TI:=λσ H R=>ta σ H λvs H1=>∃ a1 a2 xs ys,vs=[.ref a1,.ref a2]/\SqB b1 K H1 a1 xs/\SqB b2 K H1 a2 ys/\R (Itz K b1 b2 a1 a2) H1
theorem zk7 {X:Cx}{a b:Expr}{ta:TA}{p pos p1:Pos}{es:List Expr}{k1} (b1 b2:Bool) (B:Gl X "zip") (y:X.mg "zip" = none) (ha:PA X [a,b] ta) (x:starEach [a,b] X.env=[(false,eval a X.env),(false,eval b X.env)]:=by rfl) (e:starEach [b] X.env=[(false,eval b X.env)]:=by rfl) :
  PI X (.Tuple es k1 p1) (.Call (.Name "zip" p) [a,b] [] pos) (iZip X.K b1 b2 ta):=by
 intro pins s σ H R I h
 refine Call_ (zb5 I B y (u:=.type "zip") (by rfl) (Yq (thn (ha pos pins s σ H _ I h) λus s1 ⟨vs,H1,d,t,w⟩=>?_) (by rw[x,e]) (by rw[e];rfl)))
 obtain⟨a1,a2,xs,ys,rfl,m,l,q⟩:=w
 obtain⟨u,v,rfl,r,o⟩:=t.two
 cases r
 cases o
 obtain⟨its,_,j⟩:=d.sq m
 obtain⟨k,_,i⟩:=d.sq l
 refine callType_new F.called_zip (by decide) (F.typeCall_zip_2 _ _) (F.newCall_zip_2 _ _) (λobj=>F.args_object_init_3 obj _ _) F.entry_zip_new (zhq b1 b2 a1 a2 its.toArray k.toArray) ⟨j,i,λh' z ⟨TI,TO,i1,i2,nd,f,g,D,C,h1,E⟩ A=>⟨⟨_,g,rfl⟩,?_⟩⟩
 exact wpAny_pyIter_zip g ⟨_,[z,TI,TO,i1,i2],_,_,H1,rfl,d.kept (t':=s1.toks) A,zbC b1 b2 a1 a2 z TI TO i1 i2 nd,⟨g,D,⟨_,_,C⟩,h1,E⟩,λc n=>d.fpOk (f c n) (d.hok.fresh (f c n)),q⟩
section
variable {X:Cx}
theorem zhr {prog:Program}{w:World}{A:Around}(d:A.handled=none) (b:Bool) (I a:Addr) (c:a≠I) (xs:Array Value) :
  Walks prog w A I [I,a] [I] xs.size (λi v=>xs[i]?=some v) (λi h=>(match b with|true=>h.IsListIter I a i|false=>h.IsTupleIter I a i)/\SqO b h a xs):=by
 cases b
 ·exact Walks.tuple d I a c xs
 ·exact Walks.list d I a c xs
theorem zdi (ns:List Int):∀ n,n<=ns.length->preSum (λi=>ns.getD i 0) n=(ns.take n).sum
 | 0,_=>by simp[preSum]
 | n+1,h=>by
  have e:ns[n]?=some ns[n]:=J7 h
  rw[preSum,zdi ns n (Nat.le_of_lt h),List.take_add_one,List.sum_append,e,J9,e]
  simp
theorem zjt (A:X.calm=true) (b:Bool):CallR X (.builtin "sum") (λvs H Q=>∃ a ns,vs=[.ref a]/\SqB b X.K H a (List.map V.int ns)/\Q (.int ns.sum) H):=by
 intro pins s σ H vs us Q I j h
 obtain⟨a,ns,rfl,m,q⟩:=h
 obtain⟨u,rfl,k⟩:=j.one
 cases k
 obtain⟨its,r,p⟩:=I.sq m
 have f:a≠s.heap.objs.size:=by
  obtain⟨o,n,e,_⟩:=p.ob
  exact JF (Jq e)
 have x:its.length=ns.length:=by rw[<- r.length,Jh]
 refine call_sum_walkG (zbI p ⟨s.heap.objs.size,[s.heap.objs.size,a],[s.heap.objs.size],_,_,_,λi=>ns.getD i 0,rfl,zhr (show X.A.in1.handled=none from I.ok.hd A) b _ a f its.toArray,?_,?_,?_,?_⟩)
 ·refine⟨?_,p.mv λo e=>J8 _ e⟩
  cases b<;>exact⟨_,Js _ rfl,rfl,rfl⟩
 ·intro c w
  show c<(s.heap.push _).objs.size
  rw[YN]
  rcases Ju.mp w with z|z
  ·rw[z];exact Zy _
  ·rw[Je.mp z]
   obtain⟨o,n,e,_⟩:=p.ob
   exact Zn (Jq e)
 ·intro i v l
  have d:its[i]?=some v:=by simpa using l
  have hi:=(Jd.mp d).1
  have e:(List.map V.int ns)[i]?=some (V.int (ns.getD i 0)):=by
   rw[JP,J9,J7 (by lia)]
   rfl
  obtain⟨B,g,⟨t,rfl⟩⟩:=r.get e
  rw[d]at g
  exact⟨t,Jr g⟩
 ·intro h' tk t' y
  refine⟨.int ns.sum,H,I.kept (t':=tk) λc o e=>y c o ?_ (J8 _ e),⟨t',?_⟩,q⟩
  ·exact λz=>JF (Jq e) (Je.mp z)
  ·rw[Jj,x,zdi ns _ (Jg _),YJ]
theorem zjA (D:X.calm=true) (b:Bool):CallR X (.builtin "all") (λvs H Q=>∃ a bs,vs=[.ref a]/\SqB b X.K H a (List.map V.bl bs)/\Q (.bl (bs.all id)) H):=by
 intro pins s σ H vs us Q I t h
 obtain⟨a,bs,rfl,A,q⟩:=h
 obtain⟨u,rfl,k⟩:=t.one
 cases k
 obtain⟨its,r,p⟩:=I.sq A
 have l:a≠s.heap.objs.size:=by
  obtain⟨o,n,e,_⟩:=p.ob
  exact JF (Jq e)
 have B:its.length=bs.length:=by rw[<- r.length,Jh]
 refine call_all_walk (zbI p ⟨s.heap.objs.size,[s.heap.objs.size,a],[s.heap.objs.size],_,_,_,λi=>bs.getD i true,rfl,zhr (show X.A.in1.handled=none from I.ok.hd D) b _ a l its.toArray,?_,?_,?_⟩)
 ·refine⟨?_,p.mv λo e=>J8 _ e⟩
  cases b<;>exact⟨_,Js _ rfl,rfl,rfl⟩
 ·intro i v s' G J y E
  have f:its[i]?=some v:=by simpa using y
  have hi:=(Jd.mp f).1
  have e:(List.map V.bl bs)[i]?=some (V.bl (bs.getD i true)):=by
   rw[JP,J9,J7 (by lia)]
   rfl
  obtain⟨F,m,k⟩:=r.get e
  rw[f]at m
  obtain rfl:=Jr m
  obtain rfl:v=Value.bool (bs.getD i true):=k
  exact YM E
 ·intro h' tk C
  refine⟨.bl (bs.all id),H,I.kept (t':=tk) λc o e=>C c o ?_ (J8 _ e),?_,q⟩
  ·exact λz=>JF (Jq e) (Je.mp z)
  ·show Value.bool _=Value.bool _
   congr 1
   rw[Jj,B,Yt,Ze,Ze]
   constructor
   ·intro h x w
    obtain⟨j,g,e⟩:=Wj w
    have d:=h j (Yd.mpr g)
    rw[J9,J7 g]at d
    rw[<- e];exact d
   ·intro h j g
    rw[J9,J7 (Yd.mp g)]
    exact h _ (Yb _)
end
example (K:PySem.W.Frag):PySem.W.kitOne K (.type "int") (.type "tuple")=some false:=by rfl
example (K:PySem.W.Frag):PySem.W.kitOne K (.type "int") (.type "bool")=some false:=by first|rfl|decide|(with_unfolding_all rfl)
theorem zab {H:Hp}{p:Addr}(h:H p=none) (o:HO):Same H (upd H p o):=λb u q=>by rw[zah (zag q h)];exact q
def capB (N N':List Str) (sc scope:Scope) (cap:List (Option Nat)):Bool :=
 decide (scope.kind=.function) && (scope.names.all λy=>decide (y.2≠.cell) && (decide (y.2≠.local) || decide (scope.names.lookup y.1=some .local)) &&
  (decide (y.2≠.free) || (decide (sc.names.lookup y.1=some .cell) || decide (sc.names.lookup y.1=some .free)))) && decide (cap.length=N'.length) &&
 ((N'.zip cap).all λp=>match p.2 with
  | none=>true
  | some i=>decide (N[i]?=some p.1) && (decide (scope.names.lookup p.1=some .free) && (decide (sc.names.lookup p.1=some .cell) || decide (sc.names.lookup p.1=some .free))))
theorem CapOk.of {N N':List Str}{sc scope:Scope}{cap:List (Option Nat)}(h:capB N N' sc scope cap=true):CapOk N N' sc scope cap:=by
 unfold capB at h
 simp only[Zw,Ze,Wf,Y4]at h
 obtain⟨⟨⟨h1,b⟩,f⟩,d⟩:=h;refine⟨h1,λy a=>(b y a).1.1,λy a e=>?_,λy a e=>?_,f,λp c i e=>?_⟩
 ·rcases (b y a).1.2 with z|z
  ·exact absurd e z
  ·exact z
 ·rcases (b y a).2 with z|z
  ·exact absurd e z
  ·exact z
 ·have q:=d p c
  rw[e]at q
  simp only[Zw,Wf,Y4]at q
  exact q
def Nx (n i:Nat) (p:Prop):Prop:=∃ a,a<n-i/\a=n-(i+1)/\i+1<=n/\p
theorem nx {n i:Nat}{p:Prop}(h:i<n) (q:p):Nx n i p:=⟨n-(i+1),by lia,rfl,h,q⟩
theorem zkz {lo:Int}{n:Nat}{g:TG}{te:TE}{l:Addr}{σ:St}{H:Hp}{Q:VK}(a:Nat->List V->St->Hp->Prop) (j:a 0 [] σ H) (h:∀ i acc σ H,a i acc σ H->H l=some (.lst acc))
  (f:∀ i acc σ H,i<n->a i acc σ H->g (.int (lo+i)) σ H λb k=>te b k λy d=>d l=some (.lst acc)/\acc.length<sizeLine/\Nx n i (a (i+1) (acc++[y]) b (upd d l (.lst (acc++[y])))))
  (hd:∀ acc σ H,a n acc σ H->Q (.ref l) H):∃ W:Nat->Nat->List V->St->Hp->Prop,(∃ m,W 0 m [] σ H)/\LCW (Itr lo n) g tYes te l Q W:=by
 refine⟨λi m acc σ H=>m=n-i/\i<=n/\a i acc σ H,⟨n,by simp,JL _,j⟩,?_⟩
 rintro i m acc σ H ⟨rfl,hi,p⟩
 refine⟨h i acc σ H p,?_⟩
 by_cases c:i<n
 ·refine .inr ⟨c,λx o ⟨e,y⟩=>?_⟩
  subst e y
  exact f i acc σ _ c p
 ·have e:i=n:=by lia
  subst e
  exact .inl ⟨Jg _,hd acc σ H p⟩
theorem zkK {K:PySem.W.Frag}{b:Bool}{a:Addr}{xs:List V}{g:TG}{tb:TS}{D:Ends}{σ:St}{H:Hp}(c:Nat->St->Hp->Prop) (s:c 0 σ H) (o:∀ i σ H,i<=xs.length->c i σ H->SqB b K H a xs)
  (n:∀ i x σ H T,xs[i]?=some x->H T=none->c i σ H->g (.ref T) σ (upd H T (.tup [.int i,x])) λd j=>tb { D with nx:=c (i+1),ct:=c (i+1),bk:=D.nx } d j) (hd:∀ σ H,c xs.length σ H->D.nx σ H) :
  ∃ W:Nat->Nat->St->Hp->Prop,(∃ m,W 0 m σ H)/\∀ i m σ H,W i m σ H ->
   ((Ite K b a).stop i H/\D.nx σ H)\/((Ite K b a).go i H/\∃ N:St->Hp->Prop,(∀ f H',N f H'->∃ k,k<m/\W (i+1) k f H')/\∀ x H',(Ite K b a).yld i H x H'->g x σ H' λd j=>tb { D with nx:=N,ct:=N,bk:=D.nx } d j):=by
 refine⟨λi m σ H=>m=xs.length-i/\i<=xs.length/\c i σ H,⟨xs.length,by simp,JL _,s⟩,?_⟩
 rintro i m σ H ⟨rfl,hi,p⟩
 have q:=o i σ H hi p
 by_cases h:i<xs.length
 ·refine .inr ⟨⟨xs,xs[i],q,J7 h⟩,c (i+1),λf H' l=>⟨xs.length-(i+1),by lia,rfl,h,l⟩,λx H' ⟨y,t,T,r,u,e2⟩=>?_⟩
  subst u e2
  exact n i y σ H T (t xs q) r p
 ·have e:i=xs.length:=by lia
  subst e
  exact .inl ⟨⟨xs,q,rfl⟩,hd σ H p⟩
section
variable {X:Cx}
theorem num_at {ns:List Int}{its:List Value}(r:Vals (ns.map V.int) its) {i:Nat}{v:Value}(h:its[i]?=some v):i<ns.length/\∃ t,v=.int (ns.getD i 0) t:=by
 have c:its.length=ns.length:=by rw[<- r.length,Jh]
 have hi:=(Jd.mp h).1
 have e:(List.map V.int ns)[i]?=some (V.int (ns.getD i 0)):=by
  rw[JP,J9,J7 (by lia)];rfl
 obtain⟨b,a,⟨t,rfl⟩⟩:=r.get e
 rw[h]at a
 exact⟨by lia,t,Jr a⟩
theorem zer {ns:List Int}{i:Nat}(h:i<ns.length):ns.getD i 0∈ns:=by
 rw[J9,J7 h];exact Yb h
theorem zku {ns:List Int}{x:Int}(h:x∈ns):∃ i,i<ns.length/\ns.getD i 0=x:=by
 obtain⟨i,hi,e⟩:=Wj h
 exact⟨i,hi,by rw[J9,J7 hi];exact e⟩
theorem zjw (C:X.calm=true) (b:Bool):CallR X (.builtin "min") (λvs H Q=>∃ a ns,vs=[.ref a]/\SqB b X.K H a (List.map V.int ns)/\0<ns.length/\∀ M,M∈ns->(∀ x∈ns,M<=x)->Q (.int M) H):=by
 intro pins s σ H vs us Q I k h
 obtain⟨a,ns,rfl,y,g,q⟩:=h
 obtain⟨u,rfl,l⟩:=k.one
 cases l
 obtain⟨its,r,p⟩:=I.sq y
 obtain⟨o,n,f,_⟩:=p.ob
 have G:its.length=ns.length:=by rw[<- r.length,Jh]
 refine call_min_walk (zbI p ⟨s.heap.objs.size,[s.heap.objs.size,a],[s.heap.objs.size],_,_,_,λi j=>decide (ns.getD i 0<ns.getD j 0),rfl,zhr (show X.A.in1.handled=none from I.ok.hd C) b _ a (JF (Jq f)) its.toArray,⟨?_,p.mv λo e=>J8 _ e⟩,λc A=>?_,by rw[Jj];lia,?_,?_⟩)
 ·cases b<;>exact⟨_,Js _ rfl,rfl,rfl⟩
 ·show c<(s.heap.push _).objs.size
  rw[YN]
  rcases Ju.mp A with z|z
  ·rw[z];exact Zy _
  ·rw[Je.mp z];exact Zn (Jq f)
 ·intro i j F E s' J K hi d D
  obtain⟨_,t,rfl⟩:=num_at r (i:=i) (by simpa using hi)
  obtain⟨_,t',rfl⟩:=num_at r (i:=j) (by simpa using d)
  exact lt_int D
 ·intro v h' tk w B
  have best:=argBest_lt (λi=>ns.getD i 0) (its.toArray.size-1)
  obtain⟨li,t,rfl⟩:=num_at r (by simpa using w)
  refine⟨.int _,H,I.kept (t':=tk) λc o e=>B c o (λz=>JF (Jq e) (Je.mp z)) (J8 _ e),⟨t,rfl⟩,q _ (zer li) λx m=>?_⟩
  obtain⟨j,d,rfl⟩:=zku m
  exact best.2 j (by rw[Jj];lia)
end
end L2
namespace Own
open PySem PySem.Spec PyProof.Rows
section
variable {prog:Program}{w:World}{A:Around}{E:Value->Shared->Prop}{s:Shared}
theorem SqO.cl {b:Bool}{a:Addr}{xs:Array Value}(x:SqO b s.heap a xs):s.TypeIs (.ref a) (if b then "list" else "tuple"):=by
 cases b<;>(obtain⟨o,e,c,_⟩:=x;exact⟨o,e,c⟩)
theorem zm6 {b:Bool}{a:Addr}{vs:List Value}{Q:List Value->Shared->Prop}(sq:SqO b s.heap a vs.toArray) (j:vs.length<=sizeLine)
  (h:∀ h',s.heap.objs.size<=h'.objs.size->(∀ c o,s.heap.get? c=some o->h'.get? c=some o)->Q vs { s with heap:=h' }):wpAny (model prog w) A (collect (.ref a)) Q E s:=by
 obtain⟨o,n,e,d⟩:=sq.ob
 have new:(s.heap.push (seqObj "list" #[] 0)).get? s.heap.objs.size=some (seqObj "list" #[] 0):=Js _ rfl
 have i:(s.heap.push (seqObj "list" #[] 0)).get? a=some o:=J8 _ e
 have old:∀ c u,s.heap.get? c=some u->((s.heap.push (seqObj "list" #[] 0)).update s.heap.objs.size (Obj.mapSeq (·++vs.toArray))).get? c=some u:=λc u q=>by
  rw[Yj _ _ (Z0 (Jq q))];exact J8 _ q
 have g:SqO b (s.heap.push (seqObj "list" #[] 0)) a vs.toArray:=sq.mv λo q=>J8 _ q
 have short:((#[]:Array Value)++vs.toArray).size<=sizeLine+1:=by simp;lia
 unfold collect
 refine J0 (wpAny_runValue (Z6 entry_proto_collect' (J0 (wpAny_newList (Ja ⟨Code.quiet_builtin _ (by decide +kernel),Z6 entry_list_iadd' ?_⟩)))))
 show wpAny _ _ (Builtin.List.listExtendWith (.ref s.heap.objs.size) (.ref a) (.ref s.heap.objs.size)) _ _ ({ s with heap:=s.heap.push (seqObj "list" #[] 0) }:Shared)
 unfold Builtin.List.listExtendWith;have f:Shared.TypeIs ({ s with heap:=s.heap.push (seqObj "list" #[] 0) }:Shared) (.ref a) (if b then "list" else "tuple"):=SqO.cl g
 refine J0 (Z8 f ?_)
 have yes:(Builtin.List.listSameRef (.ref s.heap.objs.size) (.ref a) || Value.type (if b then "list" else "tuple") == Value.type "list" || Value.type (if b then "list" else "tuple") == Value.type "tuple")=true:=by
  have c:∀ b:Bool,(Value.type (if b then "list" else "tuple") == Value.type "list" || Value.type (if b then "list" else "tuple") == Value.type "tuple")=true:=by decide
  rw[Bool.or_assoc,c b,Bool.or_true]
 rw[Jf yes]
 refine J0 (listItems_at i d (J0 (listItems_at new rfl ?_)))
 rw[Jc (by simp)]
 refine J0 (listUpdate_at new rfl (Ja ?_) (JL _) short)
 refine J0 (wpAny_load (get?_update_seq new _) ?_)
 have all:((#[]:Array Value)++vs.toArray).toList=vs:=by simp
 have fin:wpAny (model prog w) A (pure ((#[]:Array Value)++vs.toArray).toList) Q E { s with heap:=(s.heap.push (seqObj "list" #[] 0)).update s.heap.objs.size (Obj.mapSeq (·++vs.toArray)) }:=by
  rw[all];exact Ja (h _ (by rw[Heap.size_update,size_push'];exact Nat.le_succ _) old)
 exact fin
end
end Own
namespace L2
open PySem PySem.Spec PyProof.Rows Own
theorem zlf {K:PySem.W.Frag}{a:Addr}{xs:List V}{g:TG}{te:TE}{l:Addr}{σ:St}{H:Hp}{Q:VK}(b:Nat->List V->St->Hp->Prop) (o:b 0 [] σ H) (n:∀ i acc σ H,b i acc σ H->H l=some (.lst acc)/\SqT K H a xs)
  (k:∀ i x acc σ H,xs[i]?=some x->b i acc σ H->g x σ H λc q=>te c q λy h=>h l=some (.lst acc)/\acc.length<sizeLine/\Nx xs.length i (b (i+1) (acc++[y]) c (upd h l (.lst (acc++[y])))))
  (hd:∀ acc σ H,b xs.length acc σ H->Q (.ref l) H):∃ W:Nat->Nat->List V->St->Hp->Prop,(∃ m,W 0 m [] σ H)/\LCW (Itt K a) g tYes te l Q W:=by
 refine⟨λi m acc σ H=>m=xs.length-i/\i<=xs.length/\b i acc σ H,⟨_,rfl,JL _,o⟩,?_⟩
 rintro i m acc σ H ⟨rfl,hi,p⟩
 obtain⟨j,d⟩:=n i acc σ H p
 refine⟨j,?_⟩
 by_cases f:i<xs.length
 ·refine .inr ⟨⟨xs,xs[i],d,J7 f⟩,λx r ⟨e,y⟩=>?_⟩
  subst e
  exact k i x acc σ _ (y xs d) p
 ·obtain rfl:i=xs.length:=by lia
  exact .inl ⟨⟨xs,d,Jg _⟩,hd acc σ H p⟩
theorem ziT {K:PySem.W.Frag}{a:Addr}{xs:List V}{g:TG}{te:TE}{l:Addr}{σ:St}{H:Hp}{Q:VK}(b:Nat->List V->St->Hp->Prop) (o:b 0 [] σ H) (n:∀ i acc σ H,b i acc σ H->H l=some (.lst acc)/\SqL K H a xs)
  (k:∀ i x acc σ H,xs[i]?=some x->b i acc σ H->g x σ H λc q=>te c q λy h=>h l=some (.lst acc)/\acc.length<sizeLine/\Nx xs.length i (b (i+1) (acc++[y]) c (upd h l (.lst (acc++[y])))))
  (hd:∀ acc σ H,b xs.length acc σ H->Q (.ref l) H):∃ W:Nat->Nat->List V->St->Hp->Prop,(∃ m,W 0 m [] σ H)/\LCW (Itl K a) g tYes te l Q W:=by
 refine⟨λi m acc σ H=>m=xs.length-i/\i<=xs.length/\b i acc σ H,⟨_,rfl,JL _,o⟩,?_⟩
 rintro i m acc σ H ⟨rfl,hi,p⟩
 obtain⟨j,d⟩:=n i acc σ H p
 refine⟨j,?_⟩
 by_cases f:i<xs.length
 ·refine .inr ⟨⟨xs,xs[i],d,J7 f⟩,λx r ⟨e,y⟩=>?_⟩
  subst e
  exact k i x acc σ _ (y xs d) p
 ·obtain rfl:i=xs.length:=by lia
  exact .inl ⟨⟨xs,d,Jg _⟩,hd acc σ H p⟩
theorem ze1 {lo:Int}{n:Nat}{g:TG}{tt:TT}{te:TE}{l:Addr}{σ:St}{H:Hp}{Q:VK}(c:Nat->List V->St->Hp->Prop) (o:c 0 [] σ H) (k:∀ i acc σ H,c i acc σ H->H l=some (.lst acc))
  (j:∀ i acc σ H,i<n->c i acc σ H->g (.int (lo+i)) σ H λa q=>tt a q λb h=>if b=true then te a h λy f=>f l=some (.lst acc)/\acc.length<sizeLine/\Nx n i (c (i+1) (acc++[y]) a (upd f l (.lst (acc++[y])))) else Nx n i (c (i+1) acc a h))
  (hd:∀ acc σ H,c n acc σ H->Q (.ref l) H):∃ W:Nat->Nat->List V->St->Hp->Prop,(∃ m,W 0 m [] σ H)/\LCW (Itr lo n) g tt te l Q W:=by
 refine⟨λi m acc σ H=>m=n-i/\i<=n/\c i acc σ H,⟨_,rfl,JL _,o⟩,?_⟩
 rintro i m acc σ H ⟨rfl,hi,p⟩
 refine⟨k i acc σ H p,?_⟩
 by_cases d:i<n
 ·refine .inr ⟨d,λx r ⟨e,y⟩=>?_⟩
  subst e y
  exact j i acc σ _ d p
 ·obtain rfl:i=n:=by lia
  exact .inl ⟨Jg _,hd acc σ H p⟩
end L2
namespace L2
open PySem PySem.Spec PyProof.Rows Own
section
variable {prog:Program}{w:World}{A:Around}{E:Value->Shared->Prop}{s:Shared}
theorem zfZ {Q:List Value->Shared->Prop}{r:Addr}{a b c:Int}{t u v:Tok}{n:Nat}(x:A.handled=none) (l:IsRange s.heap r a b c t u v) (k:Builtin.Range.small a b c=true) (p:Builtin.Range.rangeSize a b c=n) (hlen:n<=2 ^ 24)
  (q:∀ (h':Heap) (tk:Nat) (acc:Array Value),(∀ b o,s.heap.get? b=some o->h'.get? b=some o)->ItemsOf (λi v=>∃ t,v=.int (a+i*c) t) acc n->Q acc.toList { s with heap:=h',toks:=tk }):wpAny (model prog w) A (collect (.ref r)) Q E s:=by
 have key:∀ R:Result->Shared->Prop,(∀ (h':Heap) (tk:Nat) (acc:Array Value) (f:Nat),(∀ b o,s.heap.get? b=some o->h'.get? b=some o)->h'.get? s.heap.objs.size=some { cls:=.type "list",data:=.seq acc f }->ItemsOf (λi v=>∃ t,v=.int (a+i*c) t) acc n->R (.ok (.ret (.ref s.heap.objs.size))) { s with heap:=h',toks:=tk }) ->
   codeAny (model prog w) A (.builtin "proto.collect" ⟨[.ref r],[]⟩) R s:=by
  intro R y
  have j:=λz=>Zt (A:=A) F.plain_proto_collect z
  have h:=λz=>Zt (A:=A) F.plain_list_iadd z
  refine Z6 F.entry_proto_collect ?_
  rw[j]
  refine J0 (m:=newList []) (JN (Ja ⟨Wa F.plain_list_iadd _,Z6 F.entry_list_iadd ?_⟩))
  rw[h]
  have B:(s.heap.push { cls:=.type "list",data:=.seq ([]:List Value).toArray }).get? s.heap.objs.size=some { cls:=.type "list",data:=.seq #[] 0 }:=Js _ rfl
  exact wpAny_extend_range (s:={ s with heap:=s.heap.push { cls:=.type "list",data:=.seq ([]:List Value).toArray } }) x (J8 _ l) k p hlen s.heap.objs.size (.ref s.heap.objs.size) _ B λh' tk d f g e it=>y h' tk d f (λb o z=>g b o (JF (Jq z)) (J8 _ z)) e it
 unfold collect
 exact J0 (wpAny_runValue (key _ λh' tk acc f g e it=>J0 (m:=load s.heap.objs.size) (wpAny_load e (Ja (q h' tk acc g it)))))
theorem zen (r:Addr) (a b c:Int) (t u v:Tok) (n:Nat) (e:Builtin.Range.small a b c=true) (g:Builtin.Range.rangeSize a b c=n) (hlen:n<=2 ^ 24) :
  Meets (Builtin.«tuple.__new__» ⟨[.type "tuple",.ref r],[]⟩) (λA R s=>A.handled=none/\IsRange s.heap r a b c t u v/\∀ (h':Heap) (tk:Nat) (acc:Array Value),(∀ b o,s.heap.get? b=some o->h'.get? b=some o)->ItemsOf (λi v=>∃ t,v=.int (a+i*c) t) acc n ->
   R (.ok (.ret (.ref h'.objs.size))) { s with heap:=h'.push { cls:=.type "tuple",data:=.seq acc },toks:=tk }) :=
 .of_wp λprog w A R s h=>by
  obtain⟨j,d,h⟩:=h
  have x:=sub_tuple_self
  have q:=init_tuple_lookup
  have p:=madeHere_tuple
  have l:s.TypeIs (.ref r) "range":=⟨_,d,rfl⟩
  have k:A.in1.handled=none:=j
  wp_walk using Z8 l,zfZ k d e g hlen
  intro h' tk acc f it
  rw[show acc.toList.toArray=acc by simp]
  exact J0 (m:=Builtin.Tuple.tupleExact acc) (JN (Ja ⟨_,rfl,h h' tk acc f it⟩) (by show acc.size<=sizeLine;rw[it.1,JE];exact hlen))
theorem zfa {Q:Value->Shared->Prop}{r:Addr}{a b c:Int}{t u v:Tok}{n:Nat}(h:A.handled=none) (f:IsRange s.heap r a b c t u v) (d:Builtin.Range.small a b c=true) (g:Builtin.Range.rangeSize a b c=n) (hlen:n<=2 ^ 24)
  (q:∀ (h':Heap) (tk:Nat) (acc:Array Value),(∀ b o,s.heap.get? b=some o->h'.get? b=some o)->ItemsOf (λi v=>∃ t,v=.int (a+i*c) t) acc n->Q (.ref h'.objs.size) { s with heap:=h'.push { cls:=.type "tuple",data:=.seq acc },toks:=tk }) :
  wpAny (model prog w) A (call (.type "tuple") [.ref r]) Q E s :=
 callType_new F.called_tuple (by decide) (F.typeCall_tuple_1 _) (F.newCall_tuple_1 _) (λobj=>F.args_object_init_2 obj _) F.entry_tuple_new (zen r a b c t u v n d g hlen) ⟨h,f,λh' tk acc e it=>⟨⟨_,Js _ rfl,rfl⟩,q h' tk acc e it⟩⟩
end
def upTo (n:Nat):List V:=(List.range n).map λ(i:Nat)=>V.int i
theorem zcf {acc:Array Value}{n:Nat}(h:ItemsOf (λi v=>∃ t,v=Value.int (0+i*1) t) acc n):Vals (upTo n) acc.toList:=by
 obtain⟨h1,c⟩:=h
 have go:∀ (l:List Value) (k:Nat),(∀ (j:Nat) (v:Value),l[j]?=some v->∃ t,v=Value.int ((k+j:Nat):Int) t)->Vals ((List.range l.length).map λ(i:Nat)=>V.int ((k+i:Nat):Int)) l:=by
  intro l
  induction l with
  | nil=>intro k _;exact .nil
  | cons x l ih =>
   intro k b
   rw[JK,List.range_succ_eq_map,JZ,Zz]
   refine .cons (by obtain⟨t,e⟩:=b 0 x rfl;exact⟨t,e⟩) ?_
   have:=ih (k+1) λj v a=>by
    obtain⟨t,e⟩:=b (j+1) v (by simpa using a)
    exact⟨t,by rw[e];congr 1;lia⟩
   refine cast (JS (λz=>Vals z l) (Wk λi _=>?_)) this
   show V.int ((k+1+i:Nat):Int)=V.int ((k+(i+1):Nat):Int)
   congr 2;lia
 have:=go acc.toList 0 λj v a=>by
  obtain⟨t,e⟩:=c j v (by simpa using a)
  exact⟨t,by rw[e];congr 1;lia⟩
 rw[JC,h1]at this
 unfold upTo
 refine cast (JS (λz=>Vals z acc.toList) (Wk λi _=>?_)) this
 show V.int ((0+i:Nat):Int)=V.int (i:Int)
 rw[Yy]
theorem zf8 (n:Nat):(upTo n).length=n:=by simp[upTo]
section
variable {X:Cx}
def zkZ (b:Bool) (ta:TA):TE:=λσ H Q=>ta σ H λvs H1=>∃ j:Nat,vs=[.int j]/\j<=100000/\∀ l,H1 l=none->Q (.ref l) (upd H1 l (if b=true then .lst (upTo j) else .tup (upTo j)))
theorem zgb {j:Nat}(h:j<=100000):Builtin.Range.small 0 (j:Int) 1=true:=small_one (by lia) (by lia) (by lia) (by lia)
theorem zhR {j:Nat}:Builtin.Range.rangeSize 0 (j:Int) 1=((j:Nat):Int):=by rw[rangeSize_one];split<;>lia
theorem zeR {a:Expr}{ta:TA}{p p2 pos c:Pos}(B:X.calm=true) (r:Gl X "list") (l:X.mg "list" = none) (m:Gl X "range") (k:X.mg "range" = none) (ha:PA X [a] ta) (A:starEach [a] X.env=[(false,eval a X.env)]:=by rfl)
  (d:starEach [.Call (.Name "range" p2) [a] [] c] X.env=[(false,eval (.Call (.Name "range" p2) [a] [] c) X.env)]:=by rfl):PE X (.Call (.Name "list" p) [.Call (.Name "range" p2) [a] [] c] [] pos) (zkZ true ta):=by
 intro pins s σ H Q I h
 refine Zg (zb5 I r l (u:=.type "list") (by rfl) (Yq ?_ d rfl))
 rw[d]
 refine ZS (Call_ (zb5 I m k boot_range (Yq (thn (ha c pins s σ H _ I h) λus s1 ⟨vs,H1,i,v,w⟩=>?_) A rfl)))
 obtain⟨j,rfl,g,q⟩:=w
 obtain⟨u,rfl,t,rfl⟩:=v.one
 refine call_range_1 (Wy ?_)
 refine call_list_range (n:=j) (i.ok.hd B) (IsRange.new ..) (zgb g) zhR (JW g (by decide)) λh' tk f C x e it=>?_
 have y:∀ b o,s1.heap.get? b=some o->h'.get? b=some o:=λb o z=>x b o (J8 _ z)
 refine⟨.ref _,_,i.laid (t':=tk) (o:=.lst (upTo j)) y ?_ ⟨by rw[zf8];exact JW g (by decide),f.toList,C,zcf it,by simpa using e⟩,rfl,q _ (i.hok.fresh ?_)⟩
 all_goals (show s1.heap.objs.size<=(s1.heap.push _).objs.size;rw[YN];exact Nat.le_succ _)
theorem zeQ {a:Expr}{ta:TA}{p p2 pos c:Pos}(B:X.calm=true) (l:Gl X "tuple") (i:X.mg "tuple" = none) (k:Gl X "range") (g:X.mg "range" = none) (ha:PA X [a] ta) (A:starEach [a] X.env=[(false,eval a X.env)]:=by rfl)
  (d:starEach [.Call (.Name "range" p2) [a] [] c] X.env=[(false,eval (.Call (.Name "range" p2) [a] [] c) X.env)]:=by rfl):PE X (.Call (.Name "tuple" p) [.Call (.Name "range" p2) [a] [] c] [] pos) (zkZ false ta):=by
 intro pins s σ H Q I h
 refine Zg (zb5 I l i (u:=.type "tuple") (by rfl) (Yq ?_ d rfl))
 rw[d]
 refine ZS (Call_ (zb5 I k g boot_range (Yq (thn (ha c pins s σ H _ I h) λus s1 ⟨vs,H1,r,v,w⟩=>?_) A rfl)))
 obtain⟨j,rfl,f,q⟩:=w
 obtain⟨u,rfl,t,rfl⟩:=v.one
 refine call_range_1 (Wy ?_)
 refine zfa (n:=j) (r.ok.hd B) (IsRange.new ..) (zgb f) zhR (JW f (by decide)) λh' tk acc x it=>?_
 have y:∀ b o,s1.heap.get? b=some o->h'.get? b=some o:=λb o z=>x b o (J8 _ z)
 have m:Inv X pins σ H1 { s1 with heap:=h',toks:=tk }:=r.kept y
 refine⟨.ref h'.objs.size,_,m.laid (t':=tk) (o:=.tup (upTo j)) (λb o e=>J8 _ e) (Jg _) ⟨by rw[zf8];exact JW f (by decide),acc.toList,zcf it,?_⟩,rfl,q _ (m.hok.fresh (Jg _))⟩
 exact⟨_,Js _ rfl,rfl,0,by simp,rfl⟩
theorem zlb (d:X.A.units<cLine):OpR X (compareOp .NotEq) (λx y H Q=>∃ a b xs,x=.ref a/\y=.ref b/\SqL X.K H a xs/\SqL X.K H b []/\Q (.bl (!xs.isEmpty)) H):=by
 intro pins s σ H x y v u Q I g f h
 obtain⟨a,b,xs,rfl,rfl,ha,hb,q⟩:=h
 cases g;cases f
 obtain⟨its,c,p1,_⟩:=I.list ha
 obtain⟨k,i,p2,_⟩:=I.list hb
 cases i
 have l1:=c.length
 cases xs with
 | nil =>
  cases c
  exact SeqAt.RcNeAt.lists (e:=λ_=>true) p1.isList p2.isList rfl d (λj h=>absurd h (Wg _)) X.prog X.w _ _ ⟨.bl _,H,I,rfl,q⟩
 | cons z zs =>
  exact SeqAt.RcNeAt.lists_lengths p1.isList p2.isList (by rw[Jj,<- l1];simp) d X.prog X.w _ _ ⟨.bl _,H,I,rfl,q⟩
end
theorem zha (l:Addr) (o:Obj) (items:Array Value) (n:Nat) (x:Value) (j:Nat) (z:o.cls=.type "tuple") (hd:o.data=.seq items n) (e:Nat->Bool) (r:∀ i,i<j->e i=false) (h1:e j=true) (y:j<items.size) :
  Meets (Builtin.«tuple.index» ⟨[.ref l,x],[]⟩) (λA R s=>s.heap.get? l=some o/\(∀ i (h:i<items.size),SeqAt.EqAt A.in1 s items[i] x (e i))/\R (.ok (.ret (.int j s.toks))) { s with toks:=s.toks+1 }) :=
 .of_wp λprog w A R s h=>by
  cases s with
  | mk g t v tk os =>
  obtain⟨k,p,h⟩:=h
  unfold Builtin.«tuple.index»
  simp only[Std.Legacy.Range.forIn_eq_forIn_range']
  wp_walk using Yk k hd,wpAny_forIn_list _ (λrest b s'=>s'=⟨g,t,v,tk,os⟩/\b.1=none/\∃ i,i<=j/\rest=List.range' i (items.size-i)) _
  case turn =>
   rintro i rest b s' ⟨rfl,hb,c,hi,a⟩
   have f:items.size-c=(items.size-(c+1))+1:=by lia
   rw[f,List.range'_succ]at a
   injection a with u e2
   subst u
   have d:i<items.size:=by lia
   have m:items[i]?=some items[i]:=by simp[d]
   simp only[m]
   refine J0 (p i d prog w _ _ ?_)
   by_cases q:i=j
   ·subst q;rw[h1];wp_walk;exact⟨_,rfl,h⟩
   ·rw[r i (by lia)];wp_walk;exact⟨rfl,rfl,i+1,by lia,e2⟩
  case fin =>
   rintro b s' ⟨rfl,hb,c,hi,a⟩
   have:=JS List.length a
   simp at this
   lia
  case h=>exact⟨rfl,rfl,0,JL _,by simp[Std.Legacy.Range.size]⟩
section
variable {X:Cx}
theorem zdU:∀ {ns:List Int}{k:Int}{i:Nat},i<ns.idxOf k->(ns.getD i 0 == k)=false
 | [],k,i,h=>by simp at h
 | n::ns,k,i,h=>by
  rw[List.idxOf_cons]at h
  cases e:n == k with
  | true=>rw[e]at h;simp at h
  | false =>
   rw[e]at h
   simp only[cond_false]at h
   cases i with
   | zero=>exact e
   | succ i=>exact zdU (ns:=ns) (i:=i) (by lia)
def zni (to:TE) (t:TA):TE:=λσ H Q=>to σ H λx H1=>∃ a ns,x=.ref a/\H1 a=some (.tup (List.map V.int ns))/\t σ H1 λvs b=>∃ k:Int,vs=[.int k]/\b a=some (.tup (List.map V.int ns))/\k∈ns/\Q (.int (ns.idxOf k:Nat)) b
theorem zlL {o e:Expr}{to:TE}{t:TA}{apos cpos:Pos}(S:X.A.units+64<cLine) (K:PE X o to) (ha:PA X [e] t)
  (d:attributeBase o "index" X.env (eval o X.env)=eval o X.env:=by rfl)
  (j:((backTo cpos (starEach [e] X.env)).all (λx=>!x.1) && (backToKw cpos (keywordEach [] X.env)).all (λx=>x.1.isSome) && decide ([e].length+([]:List Keyword).length+(if ([]:List Keyword).isEmpty then 0 else 1)<30))=true:=by rfl)
  (c:(apos.endLine == cpos.line)=true:=by rfl) (J:starEach [e] X.env=(false,eval e X.env)::starEach [] X.env:=by rfl):PE X (.Call (.Attribute o "index" apos) [e] [] cpos) (zni to t):=by
 intro pins s σ H Q I h
 refine wpAny_Call_method_late d j c rfl (thn (K pins s σ H _ I h) λv s1 ⟨x,H1,A,D,a,ns,ex,G,E⟩=>?_)
 subst ex
 cases D
 obtain⟨_,its,_,⟨ob,w,P,n1,T,nd⟩⟩:=(show ObjOk X.prog X.w H1 s1.heap a (.tup (List.map V.int ns)) from A.hok a _ G)
 refine⟨"tuple","tuple.index",PySem.F.plainAttrs_tuple,PySem.F.slot_tuple_index,PySem.F.type_tuple_index,⟨ob,w,P⟩,λU N=>by cases N;exact⟨ob,w,nd⟩,?_⟩
 have r:=ha cpos pins s1 σ H1 _ A E
 rw[J]at r ⊢
 refine ZY rfl (Calls.evalArgs_plain ?_)
 refine thn r λus s2 ⟨vs,B,z,C,k,ev,l,F,q⟩=>?_
 subst ev
 obtain⟨u,rfl,tk,rfl⟩:=C.one
 obtain⟨_,b,n,⟨f,g,y,n2,O,nd2⟩⟩:=(show ObjOk X.prog X.w B s2.heap a (.tup (List.map V.int ns)) from z.hok a _ l)
 have hlen:b.toArray.size=ns.length:=by rw[Jj,<- n.length,Jh]
 have p:=Wp F
 refine Wr PySem.F.slot_tuple_index ⟨f,g,y⟩ PySem.F.entry_tuple_index (PySem.F.args_tuple_index_2 _ _)
  (zha a f b.toArray n2 (.int k tk) (ns.idxOf k) y O (λi=>ns.getD i 0 == k) (λi hi=>?_) ?_ (by rw[hlen];exact p)) ⟨g,λi hi=>?_,?_⟩
 ·exact zdU hi
 ·rw[J9,J7 p]
  simp
 ·have m:i<ns.length:=by rw[<- hlen];exact hi
  obtain⟨R,M,t1,rfl⟩:=n.get (show (List.map V.int ns)[i]?=some (V.int (ns.getD i 0)) by rw[JP,J9,J7 m];rfl)
  have L:b.toArray[i]=.int (ns.getD i 0) t1:=by simpa using (Jd.mp M).2
  rw[L]
  exact(MeetsSeq.EqGives.int _ _ _ _).at _ _
 ·exact⟨.int _,B,z.tok _,⟨_,rfl⟩,q⟩
end
theorem zfH:fillsNumberSlot (.type "tuple") "mul" = pure false :=
 PySem.fillsNumberSlot_seq (id:="tuple.__mul__") (r:=some (.builtin "tuple.__rmul__")) F.slot_tuple_mul.lookup (by decide +kernel) F.slot_tuple_rmul.lookup (by decide +kernel)
theorem zgX:seqRepeat? (.type "tuple")=pure (some (.builtin "tuple.__mul__")):=by
 unfold seqRepeat?;rw[PySem.seqSlot_of (T:="tuple") (name:="__mul__") (id:="tuple.__mul__") F.slot_tuple_mul.lookup (by decide +kernel),PySem.seqSlot_of (T:="tuple") (name:="__rmul__") (id:="tuple.__rmul__") F.slot_tuple_rmul.lookup (by decide +kernel)];rfl
theorem zkO (a:Int) (t:Tok) (l:Addr) (c:Option Addr) (sl:Array (Option Value)) (items:Array Value) (n:Nat) :
  Meets (Builtin.«int.__rmul__» ⟨[.int a t,.ref l],[]⟩) (λ_ R s=>s.heap.get? l=some { cls:=.type "tuple",dict:=c,data:=.seq items n,slots:=sl }/\R (.ok (.ret Value.notImplemented)) s) :=
 .of_wp λprog w A R s h=>by
  cases s;obtain⟨b,h⟩:=h
  wp_walk using WA b
  exact⟨_,rfl,h⟩
theorem zg9 (l:Addr) (o:Obj) (x:Value) (n k:Nat) (t:Tok) (j:o.cls=.type "tuple") (hd:o.data=.seq #[x] n) (z:k<=100000) :
  Meets (Builtin.«tuple.__mul__» ⟨[.ref l,.int k t],[]⟩) (λ_ R s=>s.heap.get? l=some o /\
   (k=1->R (.ok (.ret (.ref l))) s)/\(k≠1->R (.ok (.ret (.ref s.heap.objs.size))) { s with heap:=s.heap.push { cls:=.type "tuple",data:=.seq (List.replicate k x).toArray } })) :=
 .of_wp λprog w A R s h=>by
  cases s with
  | mk i p r tk os =>
  obtain⟨a,q,d⟩:=h
  have ty:Shared.TypeIs ⟨i,p,r,tk,os⟩ (.ref l) "tuple":=⟨o,a,j⟩
  wp_walk using Yk a hd,Z8 ty
  have y:¬(decide ((k:Int) < -2 ^ 63) || decide ((k:Int)>=2 ^ 63))=true:=by
   rw[Jt (by lia),Jt (by lia)];exact Jp
  rw[Jc y]
  wp_walk using Yk a hd,Z8 ty
  by_cases k1:k=1
  ·have c:((#[x]:Array Value).isEmpty || (k:Int) == 1)=true:=by subst k1;rfl
   rw[Jf c]
   wp_walk using Z8 ty
   exact⟨_,rfl,q k1⟩
  ·have c:¬((#[x]:Array Value).isEmpty || (k:Int) == 1)=true:=by
    have:((k:Int) == 1)=false:=by rw[ZE];lia
    rw[this];exact Jp
   rw[Jc c]
   have fl:∀ (m:Nat) (acc:Array Value),(List.foldl (λg f=>g++f) acc (List.replicate m #[x]))=acc++(List.replicate m x).toArray:=λm=>by
    induction m with
    | zero=>intro acc;simp
    | succ m ih=>intro acc;rw[Ys,List.foldl_cons,ih,Ys];apply Array.ext';simp
   by_cases k0:k=0
   ·subst k0
    have b:(decide (((0:Nat):Int)<=0) || (#[x]:Array Value).isEmpty)=true:=rfl
    rw[Jf b]
    wp_walk
    exact⟨_,rfl,d (by decide)⟩
   ·have b:¬(decide ((k:Int)<=0) || (#[x]:Array Value).isEmpty)=true:=by
     rw[Jt (by lia)];exact Jp
    have v:¬(((#[x]:Array Value).size:Int)*(k:Int) > (2 ^ 63-1) / 8):=by
     show ¬((1:Int)*(k:Int) > (2 ^ 63-1) / 8)
     lia
    have u:¬ Builtin.Tuple.tupleTooMany (((#[x]:Array Value).size:Int)*(k:Int))=true:=by
     unfold Builtin.Tuple.tupleTooMany
     show ¬ decide ((1:Int)*(k:Int) > (sizeLine:Int))=true
     rw[Jt (by rw[JE];lia)];exact Jp
    rw[Jc b,Jc v,Jc u,Yi,fl]
    refine J0 (m:=Builtin.Tuple.tupleExact _) (JN (Ja ⟨_,rfl,?_⟩) ?_)
    ·have e:(#[]++(List.replicate k x).toArray:Array Value)=(List.replicate k x).toArray:=by simp
     rw[e];exact d k1
    ·show (#[]++(List.replicate k x).toArray:Array Value).size<=sizeLine
     rw[JE];simp;lia
section
variable {X:Cx}
theorem Vals.same {v:V}{u:Value}(r:RelV v u):∀ k:Nat,Vals (List.replicate k v) (List.replicate k u)
 | 0=>.nil
 | k+1=>by rw[Ys,Ys];exact .cons r (Vals.same r k)
theorem zij:OpR X (binaryOp .Mult) (λx y H Q=>∃ a v,∃ k:Nat,x=.ref a/\y=.int k/\H a=some (.tup [v])/\k<=100000/\∀ r H',Same H H'->H' r=some (.tup (List.replicate k v))->Q (.ref r) H'):=by
 intro pins s σ H x y A w Q I l j h
 obtain⟨a,v,k,rfl,rfl,ha,p,q⟩:=h
 cases l
 obtain⟨t,rfl⟩:=j
 obtain⟨_,its,r,⟨⟨c,B,d,sl⟩,f,i,n1,g,nd⟩⟩:=(show ObjOk X.prog X.w H s.heap a (.tup [v]) from I.hok a _ ha)
 simp only at i g nd
 subst i g nd
 obtain⟨u,rfl,m⟩:=r.one
 refine wpAny_binaryOp_repeat_ref (T:="tuple") (U:="int") (by decide) ⟨_,f,rfl⟩ (λs'=>typeIs_int s' k t) zfH F.fills_int_mul F.slot_int_rmul zgX F.slot_int_index.lookup
  (Wr F.slot_int_rmul (typeIs_int s k t) F.entry_int_rmul (F.args_int_rmul_2 _ _) (zkO k t a none sl _ n1)
   ⟨f,rfl,⟨_,f,rfl⟩,Wr F.slot_tuple_mul ⟨_,f,rfl⟩ F.entry_tuple_mul (F.args_tuple_mul_2 _ _) (zg9 a _ u n1 k t rfl rfl p) ⟨f,λe=>?_,λe=>?_⟩⟩)
 ·subst e
  exact⟨.ref a,H,I,rfl,q a H (Same.refl H) ha⟩
 ·have n:(List.replicate k v).length<=sizeLine:=by rw[Y3,JE];lia
  exact⟨.ref s.heap.objs.size,_,I.laid (t':=s.toks) (o:=.tup (List.replicate k v)) (λb ob z=>J8 _ z) (Jg _) ⟨n,_,Vals.same m k,TupX.new _ _⟩,rfl,q _ _ (zab (I.hok.fresh (Jg _)) _) zaf⟩
end
end L2
namespace Bn
open PySem L2 Own
def Tups (H H':Hp):Prop:=∀ a xs,H a=some (.tup xs)->H' a=some (.tup xs)
theorem Tups.trans {H H1 b:Hp}(x:Tups H H1) (y:Tups H1 b):Tups H b:=λa xs e=>y a xs (x a xs e)
theorem Tups.of {H H':Hp}(s:Same H H'):Tups H H':=λa _ e=>s a _ e
theorem Tups.lst {H:Hp}{l:Addr}{xs ys:List V}(h:H l=some (.lst xs)):Tups H (upd H l (.lst ys)):=λa zs e=>by
 rw[zah (by rintro rfl;rw[h]at e;cases e)];exact e
def But (l:Addr) (H H':Hp):Prop:=∀ b o,H b=some o->b≠l->H' b=some o
theorem But.trans {l:Addr}{H H1 a:Hp}(x:But l H H1) (y:But l H1 a):But l H a:=λb o e n=>y b o (x b o e n) n
theorem But.of {l:Addr}{H H1:Hp}(x:Same H H1):But l H H1:=λb o e _=>x b o e
def Prs (H:Hp):List V->List (Nat × Nat)->Prop
 | [],[]=>True
 | p::ps,f::fs=>(∃ a,p=.ref a/\H a=some (.tup [.int f.1,.int f.2]))/\Prs H ps fs
 | _,_=>False
theorem Prs.tups {H H':Hp}(t:Tups H H'):∀ {ps:List V}{fs:List (Nat × Nat)},Prs H ps fs->Prs H' ps fs
 | [],[],_=>trivial
 | _::_,_::_,⟨⟨a,e,h⟩,r⟩=>⟨⟨a,e,t _ _ h⟩,r.tups t⟩
theorem Prs.len {H:Hp}:∀ {ps:List V}{fs:List (Nat × Nat)},Prs H ps fs->ps.length=fs.length
 | [],[],_=>rfl
 | _::_,_::_,⟨_,r⟩=>JS (· + 1) r.len
theorem Prs.add {H:Hp}{a:Addr}{f:Nat × Nat}(h:H a=some (.tup [.int f.1,.int f.2])):∀ {ps:List V}{fs:List (Nat × Nat)},Prs H ps fs->Prs H (ps++[.ref a]) (fs++[f])
 | [],[],_=>⟨⟨a,rfl,h⟩,trivial⟩
 | _::_,_::_,⟨x,r⟩=>⟨x,r.add h⟩
theorem Prs.get {H:Hp}:∀ {ps:List V}{fs:List (Nat × Nat)}{i:Nat}{p:V},Prs H ps fs->ps[i]?=some p->∃ a f,p=.ref a/\fs[i]?=some f/\H a=some (.tup [.int f.1,.int f.2])
 | [],[],_,_,_,e=>by simp at e
 | _::_,f::_,0,p,⟨⟨a,b,h⟩,_⟩,e=>by
  have:_=p:=Jr e
  subst this
  exact⟨a,f,b,rfl,h⟩
 | _::_,_::_,i+1,p,⟨_,r⟩,e=>r.get (i:=i) (by simpa using e)
structure Nt where
 lanes:Nat
 forks:List (Nat × Nat)
 ends:List Nat
structure Nt.Ok (N:Nt):Prop where
 l1:1<=N.lanes
 l16:N.lanes<=16
 fm:N.forks.length<=128
 fk:∀ f∈N.forks,f.1<N.lanes/\f.2<N.lanes/\f.1≠f.2
 en:N.ends.Perm (List.range N.lanes)
def nums (es:List Nat):List V:=es.map λ(e:Nat)=>V.int e
structure NetAt (H:Hp) (r fr er:Addr) (ps:List V) (N:Nt):Prop where
 net:H r=some (.tup [.int N.lanes,.ref fr,.ref er])
 forks:H fr=some (.tup ps)
 prs:Prs H ps N.forks
 ends:H er=some (.tup (nums N.ends))
theorem NetAt.tups {H H':Hp}{r fr er:Addr}{ps:List V}{N:Nt}(t:Tups H H') (h:NetAt H r fr er ps N):NetAt H' r fr er ps N:=⟨t _ _ h.net,t _ _ h.forks,h.prs.tups t,t _ _ h.ends⟩
def zaY (st:List Int × List Int) (f:Nat × Nat):List Int × List Int :=
 ((st.1.set f.1 ((st.1.getD f.1 0+st.1.getD f.2 0+1) / 2)).set f.2 ((st.1.getD f.1 0+st.1.getD f.2 0) / 2),st.2++[(st.1.getD f.1 0+st.1.getD f.2 0)%2])
def zaT (st:List Int × List Int) (fs:List (Nat × Nat)):List Int × List Int:=fs.foldl zaY st
def flow (fs:List (Nat × Nat)) (cs:List Int):List Int × List Int:=zaT (cs,[]) fs
def zbj (N:Nt) (cs:List Int):List Int:=N.ends.map λe=>(flow N.forks cs).1.getD e 0
def zbg (N:Nt) (cs:List Int):List Int:=(flow N.forks cs).2
theorem zjc (fs:List (Nat × Nat)) (f:Nat × Nat) (cs:List Int):flow (fs++[f]) cs=zaY (flow fs cs) f:=by
 unfold flow zaT;rw[Zp];rfl
theorem za3 (st:List Int × List Int) (f:Nat × Nat):(zaY st f).1.length=st.1.length:=by simp[zaY]
theorem zbV:∀ (fs:List (Nat × Nat)) (st:List Int × List Int),(zaT st fs).1.length=st.1.length/\(zaT st fs).2.length=st.2.length+fs.length
 | [],st=>⟨rfl,rfl⟩
 | f::fs,st=>by
  have h:=zbV fs (zaY st f)
  refine⟨h.1.trans (za3 st f),h.2.trans ?_⟩
  simp[zaY];lia
theorem zc9 (fs:List (Nat × Nat)) (cs:List Int):(flow fs cs).1.length=cs.length:=(zbV fs (cs,[])).1
theorem zbf (fs:List (Nat × Nat)) (cs:List Int):(flow fs cs).2.length=fs.length:=by
 have:=(zbV fs (cs,[])).2
 simpa [flow] using this
theorem zcz {fs:List (Nat × Nat)}{i:Nat}{f:Nat × Nat}(h:fs[i]?=some f) (cs:List Int):flow (fs.take (i+1)) cs=zaY (flow (fs.take i) cs) f:=by
 have w:=Jd.mp h;obtain⟨hi,e⟩:=w
 rw[YQ hi,zjc,e]
theorem zbE {xs:List Int}{i p:Nat}{a:Int}(h:p<xs.length):(xs.set i a).getD p 0=if i=p then a else xs.getD p 0:=by
 rw[J9,List.getElem?_set]
 by_cases e:i=p
 ·subst e;simp[h]
 ·simp[e]
theorem zmh {N:Nt}(ok:N.Ok) {e:Nat}(h:e∈N.ends):e<N.lanes:=Yd.mp (ok.en.mem_iff.mp h)
theorem zkN {N:Nt}(ok:N.Ok):N.ends.length=N.lanes:=by rw[ok.en.length_eq,Y0]
theorem zd0 {cs:List Int}{i:Nat}(h:i<cs.length):atI (cs.map V.int) ((i:Nat):Int)=some (.int (cs.getD i 0)):=by
 refine zaR ?_
 rw[JP,J9,J7 h];rfl
theorem zhf {α:Type}{xs:List α}{i:Nat}(h:i<xs.length):ixN xs.length ((i:Nat):Int)=some i:=by
 unfold ixN
 rw[Jf (by lia),Jf (by lia)];simp
theorem zee (cs:List Int) (i:Nat) (a:Int):(cs.map V.int).set i (.int a)=(cs.set i a).map V.int:=by rw[List.map_set]
structure Mgs (mg:Str->Option Value):Prop where
 len:mg "len" = none
 range:mg "range" = none
 tuple:mg "tuple" = none
 enum:mg "enumerate" = none
 abs:mg "abs" = none
 zip:mg "zip" = none
 isi:mg "isinstance" = none
 all:mg "all" = none
 sum:mg "sum" = none
 bool:mg "bool" = none
 int:mg "int" = none
 str:mg "str" = none
 max:mg "max" = none
 min:mg "min" = none
 sorted:mg "sorted" = none
 list:mg "list" = none
structure Use (P:Program) (w:World) (K:PySem.W.Frag) (mg:Str->Option Value) (base:Heap) (x:Str) (ps:List Str) (k:Nat) (sp:Sp) (f:Addr) (fd:FuncData):Prop where
 ok:FnOk P w K mg base CX0 k f fd ps sp
 b:Binds K fd ps []
 kp:PySem.W.keepIn K (.ref f)=true
 m:mg x=some (.ref f)
def zhL:Sp:=λvs H Q _=>∃ r fr er ps N c cs,vs=[.ref r,.ref c]/\Nt.Ok N/\NetAt H r fr er ps N/\H c=some (.tup (List.map V.int cs))/\cs.length=N.lanes /\
 ∀ p H',Same H H'->H' p=some (.tup ((zbj N cs).map V.int))->Q (.ref p) H'
def Frs (l:Addr) (H:Hp) (x:Addr):Prop:=∀ b o,H b=some o->b≠l->b≠x
theorem But.frs {l x:Addr}{H H1:Hp}(B:But l H H1) (h:H1 x=none):Frs l H x:=λb o e n=>zag (B b o e n) h
theorem But.upd {l x:Addr}{H H1:Hp}{o:HO}(B:But l H H1) (f:Frs l H x):But l H (upd H1 x o):=λb u e n=>by rw[zah (f b u e n)];exact B b u e n
theorem zei {xs:List Nat}{v:Nat}(h:v<xs.length):∃ n,n∈xs/\atI (nums xs) ((v:Nat):Int)=some (.int n):=by
 refine⟨xs[v],Yb h,zaR ?_⟩
 unfold nums
 rw[JP,J7 h];rfl
theorem zar (es:List Nat):(nums es).length=es.length:=by simp[nums]
theorem zj7 {one d lanes:Nat}(h1:one<lanes) (a:d+1<lanes):(one+1+d)%lanes<lanes/\one≠(one+1+d)%lanes:=by
 refine⟨Nat.mod_lt _ (by lia),λe=>?_⟩
 by_cases z:one+1+d<lanes
 ·rw[Nat.mod_eq_of_lt z]at e;lia
 ·rw[Nat.mod_eq_sub_mod (by lia),Nat.mod_eq_of_lt (by lia)]at e;lia
def nm (ns:List Nat) (i:Nat):Nat:=ns.getD i 0
section
variable {ns:List Nat}{n:Nat}(pm:ns.Perm (List.range n))
include pm
end
def Nt.again (N:Nt) (f:Nat × Nat):Nt:=⟨N.lanes,N.forks++[f],N.ends⟩
end Bn
namespace L2
open PySem PySem.Spec PyProof.Rows Own
section
variable {prog:Program}{w:World}{A:Around}{E:Value->Shared->Prop}{s:Shared}
theorem zfU {t sl:Addr}{items:Array Value}{f e:Value}{lo hi:Option Int}{Q:Value->Shared->Prop}(a:IsTup s.heap t items) (g:s.heap.IsSliceOf sl f e .none) (i:IsPart f lo) (pu:IsPart e hi)
  (k:HT.sIx items.size 0 lo=0) (j:HT.sIx items.size items.size hi=items.size) (h:Q (.ref t) s):wpAny (model prog w) A (getItem (.ref t) (.ref sl)) Q E s:=by
 obtain⟨os,b,c,l⟩:=id g
 have d:s.TypeIs (.ref sl) "slice":=⟨os,b,c⟩
 unfold getItem
 try with_reducible refine Yp ?_
 first|refine J0 (Ja ?_)|skip
 refine J0 (wpAny_sequenceKey a.typeIs (by decide) (J0 (wpAny_callSpecial?_slot (name:=Str.ofString "__getitem__") a.typeIs W6 (Y7 W6 a.typeIs PyProof.Rows.entry_tuple_getitem ?_ (PyProof.Rows.args_tuple_getitem _ _)))))
 show wpAny _ _ (Builtin.Tuple.tupleItemsOf (.ref t) >>= _) _ _ s
 refine J0 (tupleItemsOf_ a (J0 (Z8 d ?_)))
 rw[Jf (by decide)]
 refine J0 (HT.sliceApplied_gen g i pu ?_)
 rw[k,j]
 show wpAny _ _ (if (((0:Nat):Int) == 0 && (1:Int) == 1 && (items.size-0) == items.size)=true then _ else _) _ _ s
 rw[Jf (by simp)]
 refine J0 ?_
 unfold Builtin.Tuple.tupleIsExact
 refine J0 (Z8 a.typeIs (Ja ?_))
 rw[Jf (by decide)]
 exact J0 (YY (Ja ⟨_,rfl,Ja h⟩))
end
end L2
namespace K36
open PySem L2 Own Bn
def top (i:Nat):Stmt:=PySem.Challenge.pw_stairlanes_k36_fewest_balls_that_break.main.body.getD i (.Pass ⟨0,0,0,0⟩)
end K36
namespace L2
open PySem PySem.Spec PyProof.Rows Own
section
variable {X:Cx}
theorem zbh:OpR X (binaryOp .Add) (λx y H Q=>∃ a b xs ys,x=.ref a/\y=.ref b/\H a=some (.tup xs)/\H b=some (.tup ys)/\xs.length+ys.length<=sizeLine/\∀ r H',Same H H'->H' r=some (.tup (xs++ys))->Q (.ref r) H'):=by
 intro pins s σ H x y v u Q I m l h
 obtain⟨a,b,xs,ys,rfl,rfl,ha,hb,t,q⟩:=h
 by_cases n:xs=[]
 ·subst n
  cases m;cases l
  obtain⟨its,o,p1,_⟩:=I.tuple (SqT.of ha)
  obtain⟨k,B,p2,_⟩:=I.tuple (SqT.of hb)
  cases o
  obtain⟨⟨E,A,C,j⟩,o1,g,n1,d⟩:=p1
  obtain⟨⟨D,z,e2,i⟩,o2,f,n2,c⟩:=p2
  simp only at g d f c
  subst g d f c
  refine concat_meets ⟨_,o1,rfl⟩ ⟨_,o2,rfl⟩ noFill_tuple_add seq_tuple_add PySem.F.slot_tuple_add PySem.F.entry_tuple_add (PySem.F.args_tuple_add_2 _ _) (tuple_addW0 a b #[] k.toArray n1 n2 A z j i rfl) ⟨o1,o2,?_⟩
  exact⟨.ref b,H,I,rfl,q b H (Same.refl H) (by rw[ZN];exact hb)⟩
 ·exact zlP pins s σ H _ _ v u Q I m l ⟨a,b,xs,ys,rfl,rfl,SqT.of ha,SqT.of hb,n,t,λe=>q a H (Same.refl H) (by rw[e,Y5];exact ha),λ_ p w=>q p _ (zab w _) zaf⟩
theorem za7:SlR X (λx lo hi H Q=>∃ a xs,x=.ref a/\H a=some (.tup xs)/\∀ p H',Same H H'->H' p=some (.tup (cutV xs lo hi))->Q (.ref p) H'):=by
 intro pins s σ H x v j i lo hi sl Q I d g e pu h
 obtain⟨a,xs,rfl,c,q⟩:=h
 by_cases b:HT.sIx xs.length 0 lo=0/\HT.sIx xs.length xs.length hi=xs.length
 ·cases d
  obtain⟨its,r,f,l⟩:=I.tuple (SqT.of c)
  have hlen:its.toArray.size=xs.length:=by rw[Jj];exact r.length.symm
  refine⟨"tuple",_,PyProof.Rows.slot_tuple_getitem.lookup,f.typeIs,zfU f g e pu (by rw[hlen];exact b.1) (by rw[hlen];exact b.2) ⟨.ref a,H,I,rfl,q a H (Same.refl H) ?_⟩⟩
  unfold cutV
  rw[b.1,b.2,W0,Nat.sub_zero,YJ]
  exact c
 ·exact zmx pins s σ H _ v j i lo hi sl Q I d g e pu ⟨a,xs,rfl,SqT.of c,b,λp k=>q p _ (zab k _) zaf⟩
end
theorem zgF (xs:List V) (i:Nat) (h:i<=xs.length):cutV xs none (some (i:Int))=xs.take i:=by
 unfold cutV
 rw[HT.sIx_none,HT.sIx_nat,W0,Nat.sub_zero,Zi h]
theorem zeu (xs:List V) (i:Nat) (h:i<=xs.length):cutV xs (some (i:Int)) none=xs.drop i:=by
 unfold cutV
 rw[HT.sIx_none,HT.sIx_nat,Zi h]
 exact JG (by rw[Y6];exact Jg _)
end L2
namespace L2
open PySem PySem.Spec PyProof.Rows Own
def rowOf (H:Hp):V->Option (List V)
 | .ref a=>match H a with
  | some (.tup xs)=>some xs
  | _=>none
 | _=>none
end L2
namespace Bn
open PySem L2 Own
structure Grp where
 many:Int
 lane:Nat
 fork:Nat
def zau (back:Bool) (st:List Int × Nat) (k:Nat) (f:Nat × Nat):List Int × Nat :=
 if st.2=f.1\/st.2=f.2 then (st.1.set k (1-st.1.getD k 0),if (if back then 1-st.1.getD k 0 else st.1.getD k 0)=0 then f.1 else f.2) else st
def zaC (back:Bool) (fs:List (Nat × Nat)) (ts:List Int) (lane:Nat):Nat->List Int × Nat
 | 0=>(ts,lane)
 | i+1=>zau back (zaC back fs ts lane i) i (fs.getD i (0,0))
def zaM (xs:List Int) (i:Nat) (d:Int):List Int:=xs.set i (xs.getD i 0+d)
theorem zaS (xs:List Int) (i:Nat) (d:Int):(zaM xs i d).length=xs.length:=by simp[zaM]
theorem zaQ {xs:List Int}{i p:Nat}{d:Int}(h:p<xs.length):(zaM xs i d).getD p 0=xs.getD p 0+if i=p then d else 0:=by
 unfold zaM
 rw[zbE h]
 by_cases e:i=p
 ·subst e;rw[Jf rfl,Jf rfl]
 ·rw[Jc e,Jc e,Int.add_zero]
theorem zb1 {xs ys:List Int}(a:xs.length=ys.length) (h:∀ p,p<xs.length->xs.getD p 0=ys.getD p 0):xs=ys:=by
 refine List.ext_getElem a λp h1 b=>?_
 have:=h p h1
 rwa [J9,J9,J7 h1,J7 b]at this
theorem zcj {L T:List Int}{f:Nat × Nat}{p:Nat}(a:p<L.length):(zaY (L,T) f).1.getD p 0=if f.2=p then (L.getD f.1 0+L.getD f.2 0) / 2 else if f.1=p then (L.getD f.1 0+L.getD f.2 0+1) / 2 else L.getD p 0:=by
 unfold zaY
 simp only
 rw[zbE (by rw[Z5];exact a),zbE a]
theorem zkb (back:Bool) (L T:List Int) (f:Nat × Nat) (here k:Nat) (ts:List Int) (h1:f.1<L.length) (q:f.2<L.length) (ne:f.1≠f.2) (s:here<L.length) (o:ts.getD k 0=(L.getD f.1 0+L.getD f.2 0)%2) :
  let d:Int:=if back then -1 else 1
  let r:=zau back (ts,here) k f
  (zaY (zaM L here d,T) f).1=zaM (zaY (L,T) f).1 r.2 d/\r.2<L.length /\
   ((here=f.1\/here=f.2)->((zaM L here d).getD f.1 0+(zaM L here d).getD f.2 0)%2=1-ts.getD k 0)/\(¬(here=f.1\/here=f.2)->((zaM L here d).getD f.1 0+(zaM L here d).getD f.2 0)%2=ts.getD k 0):=by
 intro d r
 have hd:d=if back then -1 else 1:=rfl
 have a1:=zaQ (xs:=L) (i:=here) (d:=d) h1
 have a2:=zaQ (xs:=L) (i:=here) (d:=d) q
 generalize l:L.getD f.1 0+L.getD f.2 0=c at *
 have g:r=zau back (ts,here) k f:=rfl
 unfold zau at g
 simp only at g
 by_cases on:here=f.1\/here=f.2
 ·rw[Jf on]at g
  have j:(zaM L here d).getD f.1 0+(zaM L here d).getD f.2 0=c+d:=by
   rw[a1,a2,<- l]
   rcases on with e|e
   ·subst e;rw[Jf rfl,Jc ne];lia
   ·subst e;rw[Jc (Ne.symm ne),Jf rfl];lia
  have b:r.2=if (if back then 1-c%2 else c%2)=0 then f.1 else f.2:=by rw[g,o]
  refine⟨zb1 (by rw[za3,zaS,zaS,za3]) λp h=>?_,?_,λ_=>?_,λz=>absurd on z⟩
  ·rw[za3,zaS]at h
   have a:p<L.length:=h
   rw[zcj (by rw[zaS];exact a),j,zaQ (xs:=(zaY (L,T) f).1) (by rw[za3];exact a),zcj a,l,zaQ (xs:=L) a,b]
   cases back
   ·simp only[Y9,Z1]at hd ⊢
    rw[hd]
    by_cases p2:f.2=p
    ·subst p2
     simp only[Yr]
     by_cases z:c%2=0
     ·rw[Jf z,Jc ne];lia
     ·rw[Jc z,Jf rfl];lia
    ·rw[Jc p2,Jc p2]
     by_cases p1:f.1=p
     ·subst p1
      simp only[Yr]
      by_cases z:c%2=0
      ·rw[Jf z,Jf rfl];lia
      ·rw[Jc z,Jc (Ne.symm ne)];lia
     ·rw[Jc p1,Jc p1]
      have n:¬ here=p:=by rcases on with e|e<;>lia
      have m:¬(if c%2=0 then f.1 else f.2)=p:=by split<;>assumption
      rw[Jc n,Jc m]
   ·simp only[Yr]at hd ⊢
    rw[hd]
    by_cases p2:f.2=p
    ·subst p2
     simp only[Yr]
     by_cases z:1-c%2=0
     ·rw[Jf z,Jc ne];lia
     ·rw[Jc z,Jf rfl];lia
    ·rw[Jc p2,Jc p2]
     by_cases p1:f.1=p
     ·subst p1
      simp only[Yr]
      by_cases z:1-c%2=0
      ·rw[Jf z,Jf rfl];lia
      ·rw[Jc z,Jc (Ne.symm ne)];lia
     ·rw[Jc p1,Jc p1]
      have n:¬ here=p:=by rcases on with e|e<;>lia
      have m:¬(if 1-c%2=0 then f.1 else f.2)=p:=by split<;>assumption
      rw[Jc n,Jc m]
  ·rw[b]
   by_cases z:(if back=true then 1-c%2 else c%2)=0
   ·rw[Jf z];exact h1
   ·rw[Jc z];exact q
  ·rw[j,o]
   cases back<;>simp at hd<;>lia
 ·rw[Jc on]at g
  have n1:¬ here=f.1:=λz=>on (.inl z)
  have n2:¬ here=f.2:=λz=>on (.inr z)
  rw[Jc n1]at a1
  rw[Jc n2]at a2
  have j:(zaM L here d).getD f.1 0+(zaM L here d).getD f.2 0=c:=by rw[a1,a2,<- l];lia
  have b:r.2=here:=by rw[g]
  refine⟨zb1 (by rw[za3,zaS,zaS,za3]) λp h=>?_,by rw[b];exact s,λz=>absurd z on,λ_=>by rw[j,o]⟩
  rw[za3,zaS]at h
  have a:p<L.length:=h
  rw[zcj (by rw[zaS];exact a),j,zaQ (xs:=(zaY (L,T) f).1) (by rw[za3];exact a),zcj a,l,zaQ (xs:=L) a,b]
  by_cases p2:f.2=p
  ·rw[Jf p2,Jf p2,Jc (by lia)];lia
  ·rw[Jc p2,Jc p2]
   by_cases p1:f.1=p
   ·rw[Jf p1,Jf p1,Jc (by lia)];lia
   ·rw[Jc p1,Jc p1]
structure Ran (back:Bool) (fs:List (Nat × Nat)) (cs ts:List Int) (lane i:Nat):Prop where
 flows:(flow (fs.take i) (zaM cs lane (if back then -1 else 1))).1=zaM (flow (fs.take i) cs).1 (zaC back fs ts lane i).2 (if back then -1 else 1)
 turns:∀ k,k<i->(flow (fs.take i) (zaM cs lane (if back then -1 else 1))).2.getD k 0=(zaC back fs ts lane i).1.getD k 0
 rest:∀ k,i<=k->(zaC back fs ts lane i).1.getD k 0=ts.getD k 0
 len:(zaC back fs ts lane i).1.length=ts.length
 here:(zaC back fs ts lane i).2<cs.length
 bits:∀ t∈(zaC back fs ts lane i).1,t=0\/t=1
theorem zdu (cs:List Int) (T:List Int):∀ (a:List (Nat × Nat)) (L:List Int) (k:Nat),k<T.length->(zaT (L,T) a).2.getD k 0=T.getD k 0
 | [],_,_,_=>rfl
 | g::a,L,k,h=>by
  have:=zdu cs (zaY (L,T) g).2 a (zaY (L,T) g).1 k (by simp[zaY];lia)
  rw[show zaT (L,T) (g::a)=zaT ((zaY (L,T) g).1,(zaY (L,T) g).2) a from rfl,this]
  show (T++[_]).getD k 0=T.getD k 0
  rw[J9,YE h,<- J9]
theorem zln {fs:List (Nat × Nat)}{i:Nat}{f:Nat × Nat}(h:fs[i]?=some f) (cs:List Int):(flow fs cs).2.getD i 0=((flow (fs.take i) cs).1.getD f.1 0+(flow (fs.take i) cs).1.getD f.2 0)%2:=by
 have sp:fs=fs.take (i+1)++fs.drop (i+1):=(Zk _ _).symm
 have e:flow fs cs=zaT (flow (fs.take (i+1)) cs) (fs.drop (i+1)):=by
  conv=>lhs;rw[sp]
  unfold flow zaT;rw[Zp]
 have hi:i<fs.length:=(Jd.mp h).1
 have tl:(flow (fs.take i) cs).2.length=i:=by rw[zbf,Jw];lia
 rw[e,zcz h]
 have:=zdu cs (zaY (flow (fs.take i) cs) f).2 (fs.drop (i+1)) (zaY (flow (fs.take i) cs) f).1 i (by simp[zaY,tl])
 rw[this]
 unfold zaY
 simp only
 rw[J9,Ye (by lia),tl]
 simp
theorem zgc {ts:List Int}{k:Nat}(h:∀ t∈ts,t=0\/t=1):∀ t∈ts.set k (1-ts.getD k 0),t=0\/t=1:=λt a=>by
 rcases List.mem_or_eq_of_mem_set a with z|z
 ·exact h t z
 ·by_cases b:k<ts.length
  ·have:=h _ (L2.zer b);lia
  ·rw[List.set_eq_of_length_le (by lia)]at a;exact h t a
theorem ran {back:Bool}{fs:List (Nat × Nat)}{cs:List Int}{lane:Nat}(ok:∀ f∈fs,f.1<cs.length/\f.2<cs.length/\f.1≠f.2) (g:lane<cs.length) (hb:∀ t∈(flow fs cs).2,t=0\/t=1):∀ i,i<=fs.length->Ran back fs cs (flow fs cs).2 lane i
 | 0,_=>⟨rfl,λk b=>absurd b (Wg _),λ_ _=>rfl,rfl,g,hb⟩
 | i+1,hi=>by
  have ih:=ran (back:=back) ok g hb i (by lia)
  have c:fs[i]?=some fs[i]:=J7 (by lia)
  have gd:fs.getD i (0,0)=fs[i]:=by rw[J9,c];rfl
  have d:=ok _ (Yb (show i<fs.length by lia))
  have h:=zcz c (zaM cs lane (if back then -1 else 1))
  have e2:=zcz c cs
  have tt:=zln c cs
  generalize fs[i]=f at *
  have l1:(flow (fs.take i) cs).1.length=cs.length:=zc9 _ _
  have tl:(flow (fs.take i) (zaM cs lane (if back then -1 else 1))).2.length=i:=by rw[zbf,Jw];lia
  have j:(flow fs cs).2.length=fs.length:=zbf _ _
  have of:=zkb back (flow (fs.take i) cs).1 (flow (fs.take i) (zaM cs lane (if back then -1 else 1))).2 f (zaC back fs (flow fs cs).2 lane i).2 i (zaC back fs (flow fs cs).2 lane i).1 (by lia) (by lia) d.2.2 (by rw[l1];exact ih.here) (by rw[ih.rest i (Jg _)];exact tt)
  obtain⟨o1,o2,n,m⟩:=of
  have rs:zaC back fs (flow fs cs).2 lane (i+1)=zau back ((zaC back fs (flow fs cs).2 lane i).1,(zaC back fs (flow fs cs).2 lane i).2) i f:=by show zau _ _ _ _=_;rw[gd]
  have st:flow (fs.take i) (zaM cs lane (if back then -1 else 1))=(zaM (flow (fs.take i) cs).1 (zaC back fs (flow fs cs).2 lane i).2 (if back then -1 else 1),(flow (fs.take i) (zaM cs lane (if back then -1 else 1))).2):=by rw[<- ih.flows]
  generalize a:zaC back fs (flow fs cs).2 lane i=r at *
  generalize o:(flow (fs.take i) (zaM cs lane (if back then -1 else 1))).2=T at *
  have tn:(zau back (r.1,r.2) i f).1.getD i 0=(zaY (zaM (flow (fs.take i) cs).1 r.2 (if back then -1 else 1),T) f).2.getD i 0:=by
   unfold zaY
   simp only
   rw[J9 (l:=T++_),Ye (by lia),tl]
   simp only[Nat.sub_self,List.getElem?_cons_zero,ZA]
   unfold zau
   by_cases on:r.2=f.1\/r.2=f.2
   ·rw[Jf on,n on]
    simp only
    rw[zbE (by have z:=ih.len;rw[a,j]at z;lia),Jf rfl]
   ·rw[Jc on,m on]
  have keep:∀ k,k≠i->(zau back (r.1,r.2) i f).1.getD k 0=r.1.getD k 0:=λk b=>by
   unfold zau
   split
   ·simp only
    rw[J9,Z7 (Ne.symm b),<- J9]
   ·rfl
  refine⟨?_,λk b=>?_,λk b=>?_,?_,?_,?_⟩
  ·rw[h,st,o1,rs,e2,show flow (fs.take i) cs=((flow (fs.take i) cs).1,(flow (fs.take i) cs).2) from rfl];rfl
  ·rw[h,st,rs]
   by_cases e:k=i
   ·subst e;exact tn.symm
   ·have z:=ih.turns k (by lia)
    rw[a,o]at z
    rw[keep k e,<- z]
    unfold zaY
    simp only
    rw[J9,YE (by lia),<- J9]
  ·have z:=ih.rest k (by lia)
   rw[a]at z
   rw[rs,keep k (by lia),z]
  ·rw[rs]
   unfold zau
   split
   ·simp only;rw[Z5,<- ih.len,a]
   ·rw[<- ih.len,a]
  ·rw[rs,<- l1];exact o2
  ·rw[rs]
   unfold zau
   split
   ·exact zgc (by have z:=ih.bits;rw[a]at z;exact z)
   ·have z:=ih.bits;rw[a]at z;exact z
theorem zcN {back:Bool}{fs:List (Nat × Nat)}{ts:List Int}{lane:Nat}(h:∀ t∈ts,t=0\/t=1):∀ i,∀ t∈(zaC back fs ts lane i).1,t=0\/t=1
 | 0=>h
 | i+1=>by
  have ih:=zcN (back:=back) (fs:=fs) (lane:=lane) h i
  show ∀ t∈(zau back (zaC back fs ts lane i) i (fs.getD i (0,0))).1,t=0\/t=1
  unfold zau
  split
  ·exact zgc ih
  ·exact ih
theorem zcn {back:Bool}{fs:List (Nat × Nat)}{ts:List Int}{lane:Nat}:∀ i,(zaC back fs ts lane i).1.length=ts.length
 | 0=>rfl
 | i+1=>by
  have ih:=zcn (back:=back) (fs:=fs) (ts:=ts) (lane:=lane) i
  show (zau back (zaC back fs ts lane i) i (fs.getD i (0,0))).1.length=_
  unfold zau
  split
  ·simp only;rw[Z5];exact ih
  ·exact ih
theorem zcM {back:Bool}{fs:List (Nat × Nat)}{ts:List Int}{lane n:Nat}(ok:∀ f∈fs,f.1<n/\f.2<n/\f.1≠f.2) (b:lane<n):∀ i,i<=fs.length->(zaC back fs ts lane i).2<n
 | 0,_=>b
 | i+1,hi=>by
  have ih:=zcM (back:=back) (ts:=ts) ok b i (by lia)
  have a:=ok _ (Yb (show i<fs.length by lia))
  have gd:fs.getD i (0,0)=fs[i]:=by rw[J9,J7 (show i<fs.length by lia)];rfl
  show (zau back (zaC back fs ts lane i) i (fs.getD i (0,0))).2<n
  rw[gd]
  generalize fs[i]=f at *
  unfold zau
  split
  ·simp only
   by_cases z:(if back=true then 1-(zaC back fs ts lane i).1.getD i 0 else (zaC back fs ts lane i).1.getD i 0)=0
   ·rw[Jf z];exact a.1
   ·rw[Jc z];exact a.2.1
  ·exact ih
theorem zgC (k:Nat):∀ es:List Nat,(es.map λ(e:Nat)=>(e:Int)).idxOf (k:Int)=es.idxOf k
 | []=>rfl
 | e::es=>by
  rw[JZ,List.idxOf_cons,List.idxOf_cons,zgC k es]
  have:((e:Int) == (k:Int))=(e == k):=by
   rw[Yt,beq_iff_eq];rw[beq_iff_eq];lia
  rw[this]
theorem zki (es:List Nat):nums es=(es.map λ(e:Nat)=>(e:Int)).map V.int:=by unfold nums;rw[Zz];rfl
def zlt:Sp:=λvs H Q _=>∃ r fr er ps N,∃ lane:Nat,vs=[.ref r,.int lane]/\Nt.Ok N/\NetAt H r fr er ps N/\lane<N.lanes/\Q (.int (N.ends.idxOf lane:Nat)) H
def RunQ (back:Bool) (vs:List V) (H:Hp) (Q:VK):Prop:=∃ r fr er ps N b ts,∃ lane:Nat,vs=[.ref r,.ref b,.int lane]/\Nt.Ok N/\NetAt H r fr er ps N/\H b=some (.tup (List.map V.int ts))/\ts.length=N.forks.length/\(∀ t∈ts,t=0\/t=1)/\lane<N.lanes /\
 ∀ p a H',Same H H'->H' p=some (.tup [.ref a,.int (N.ends.idxOf (zaC back N.forks ts lane N.forks.length).2:Nat)])->H' a=some (.tup ((zaC back N.forks ts lane N.forks.length).1.map V.int))->Q (.ref p) H'
def zhH (back:Bool):Sp:=λvs H Q _=>RunQ back vs H Q
def zls:Sp:=λvs H Q _=>∃ (us:List V) (back:Bool),vs=us++[.bl back]/\RunQ back us H Q
theorem zlv (xs:List Int) (i:Nat) (v:Int) (h:i<xs.length):(xs.map V.int).take i++[V.int v]++(xs.map V.int).drop (i+1)=(xs.set i v).map V.int:=by
 rw[List.set_eq_take_append_cons_drop,Jf h,Y2,JZ,List.map_take,List.map_drop,JQ];rfl
def part (m:Int) (lane k:Nat):List Grp:=if m=0 then [] else [⟨m,lane,k⟩]
end Bn
namespace L2
open PySem PySem.Spec PyProof.Rows Own
section
variable {X:Cx}
theorem Inv.big {pins:List (Addr × Obj)}{σ:St}{H:Hp}{s:Shared}(I:Inv X pins σ H s):sysModules<s.heap.objs.size:=by
 have h:mainGlobals<s.heap.objs.size:=(I.mod.glob.keeps I.bk).lt
 exact Nat.lt_trans (by decide) h
end
end L2
namespace L2
open PySem PySem.Spec PyProof.Rows Own
def LtAt (A:Around) (s:Shared) (y x:Value) (b:Bool):Prop:=∀ (prog:Program) (w:World) (E:Value->Shared->Prop) (Q:Value->Shared->Prop),Q (.bool b) s->wpAny (model prog w) A (richCompare .Lt y x) Q E s
theorem LtAt.ints {A:Around}{s:Shared}(a b:Int) (t u:Tok):LtAt A s (.int a t) (.int b u) (decide (a<b)):=λ_ _ _ _ h=>lt_int h
theorem zfN (l b:Addr) (xs ys:Array Value) (n m:Nat) (G F:Option Addr) (o f:Array (Option Value)) (k:Nat) (k1:k<xs.size) (H:k<ys.size) (c:Bool) :
  Meets (Builtin.«tuple.__lt__» ⟨[.ref l,.ref b],[]⟩)
   (λA R s=>s.heap.get? l=some { cls:=.type "tuple",dict:=G,data:=.seq xs n,slots:=o }/\s.heap.get? b=some { cls:=.type "tuple",dict:=F,data:=.seq ys m,slots:=f } /\
    (∀ j (h1:j<xs.size) (I:j<ys.size),j<k->SeqAt.EqAt A.in1 s xs[j] ys[j] true)/\SeqAt.EqAt A.in1 s xs[k] ys[k] false/\LtAt A.in1 s xs[k] ys[k] c/\R (.ok (.ret (.bool c))) s) :=
 .of_wp λprog w A R s h=>by
  obtain⟨u,g,d,tk,os⟩:=s;obtain⟨v,hb,C,B,D,h⟩:=h
  have kinds:=AutoSeq1.sub_tuple_tuple
  have q:(xs.toList.zip ys.toList).length=min xs.size ys.size:=by simp
  wp_walk using wpAny_loadPart' v,wpAny_loadPart' hb,wpAny_forIn_list _ (λrest b s'=>b.1=none/\s'=⟨u,g,d,tk,os⟩/\∃ i,i<=k/\rest=(xs.toList.zip ys.toList).drop i) _
  case turn =>
   rintro⟨y,x⟩ rest b s' ⟨p,rfl,i,t,a⟩
   have i1:i<xs.size:=by lia
   have i2:i<ys.size:=by lia
   have e:i<(xs.toList.zip ys.toList).length:=by rw[q];lia
   rw[Yv e]at a
   obtain⟨r,e2⟩:=List.cons.inj a
   have E:y=xs[i]:=by simpa using JS Prod.fst r
   have ex:x=ys[i]:=by simpa using JS Prod.snd r
   subst E ex
   by_cases z:i=k
   ·subst z
    refine J0 (B prog w _ _ ?_)
    simp only[Yr,Bool.not_false]
    refine J0 (YY (J0 (D prog w _ _ ?_)))
    wp_walk
    exact⟨_,rfl,h⟩
   ·refine J0 (C i i1 i2 (by lia) prog w _ _ ?_)
    wp_walk
    exact⟨rfl,rfl,i+1,by lia,e2⟩
  case fin =>
   rintro⟨b1,b2⟩ s' ⟨p,rfl,i,t,a⟩
   have e:i<(xs.toList.zip ys.toList).length:=by rw[q];lia
   rw[Yv e]at a;cases a
  case h =>
   exact⟨rfl,rfl,0,JL _,rfl⟩
theorem LtAt.tuples {A:Around}{s:Shared}{l b:Addr}{xs ys:Array Value}{k:Nat}{c:Bool}(r:IsTup s.heap l xs) (hb:IsTup s.heap b ys) (q:A.units<cLine) (k1:k<xs.size) (p:k<ys.size)
  (u:∀ j (h1:j<xs.size) (D:j<ys.size),j<k->SeqAt.EqAt A.in1 s xs[j] ys[j] true) (t:SeqAt.EqAt A.in1 s xs[k] ys[k] false) (v:LtAt A.in1 s xs[k] ys[k] c):LtAt A s (.ref l) (.ref b) c:=λprog w E Q h=>by
 obtain⟨⟨C,f,z,d⟩,o1,o,n,g⟩:=r
 obtain⟨⟨B,e,y,a⟩,o2,i,m,e2⟩:=hb
 simp only at o g i e2;subst o g i e2
 exact richCompare_meets_room (op:=.Lt) ⟨_,o1,rfl⟩ ⟨_,o2,rfl⟩ F.slot_tuple_lt F.entry_tuple_lt (F.args_tuple_lt_2 _ _) (zfN l b xs ys n m f e d a k k1 p c) ⟨o1,o2,u,t,v,show Value.bool c≠Value.notImplemented/\Q (.bool c) s from⟨(λx=>nomatch x),h⟩⟩ q
end L2
namespace K36
open PySem L2 Own Bn
abbrev zh3:Stmt:=top 6
abbrev zh5:Stmt:=top 7
def zfv:Sp:=λvs H Q _=>∃ a xs,∃ (place:Nat) (v:Int),vs=[.ref a,.int place,.int v]/\H a=some (.tup (List.map V.int xs))/\place<xs.length/\xs.length<=1000/\∀ p H',Same H H'->H' p=some (.tup ((xs.set place v).map V.int))->Q (.ref p) H'
def zfx:Sp:=λvs H Q _=>∃ a xs,∃ (place:Nat) (v:Int),vs=[.ref a,.int place,.int v]/\H a=some (.tup (List.map V.int xs))/\place<xs.length/\xs.length<=1000/\∀ p H',Same H H'->H' p=some (.tup ((xs.set place (xs.getD place 0+v)).map V.int))->Q (.ref p) H'
section
variable {P:Program}{w:World}{K:PySem.W.Frag}{mg:Str->Option Value}{base:Heap}
theorem scGi:FnScope ["row","place","value"] ["row","place","value"] (zal zh3):=by trivial
theorem zkg {f:Addr}{fd:FuncData}(F:Fun K "given_at" "given_at" zh3 f fd) (G:Mgs mg):FnOk P w K mg base CX0 1 f fd ["row","place","value"] zfv:=by
 refine F.ok scGi (λvs H Q E h=>?_) (λcdv A outer s H vs Q E t h=>?_)
 ·obtain⟨a,xs,place,v,rfl,_⟩:=h
  rfl
 obtain⟨a,xs,place,v,rfl,ha,i,q,k⟩:=h
 refine⟨_,(@zai _ _ _ (@zat _ _ _ _ (@zao _ _ _ _ _ _ _ _ zbh (@zao _ _ _ _ _ _ _ _ zbh (@zaF _ _ _ _ _ _ _ _ _ _ za7 (@qv _ 0 _ _ (by trivial)) zaP (@zaA _ _ _ (@qv _ 1 _ _ (by trivial)))) (@zaB _ _ _ _ _ (@zaa _ _ _ _ _ (@qv _ 2 _ _ (by trivial)) zac (by rfl)))) (@zaF _ _ _ _ _ _ _ _ _ _ za7 (@qv _ 0 _ _ (by trivial)) (@zaA _ _ _ (@zao _ _ _ _ _ _ _ _ zaW (@qv _ 1 _ _ (by trivial)) zae)) zaP)))),?_⟩
 have r:(xs.map V.int).length=xs.length:=Jh _
 refine⟨_,rfl,_,rfl,_,rfl,a,_,rfl,ha,λp1 H1 s1 h1=>?_⟩
 rw[zgF _ place (by lia)]at h1
 refine⟨_,rfl,(by show 1<=sizeLine;decide),λp2 b=>?_⟩
 have s2:=zab b (.tup [.int v])
 refine⟨p1,p2,_,_,rfl,rfl,s2 _ _ h1,zaf,?_,λm x g o=>?_⟩
 ·rw[Jw,JE];show _+1<=_;lia
 have u3:=(s1.trans s2).trans g
 refine⟨_,rfl,_,rfl,_,_,rfl,rfl,_,rfl,a,_,rfl,u3 _ _ ha,λl u c d=>?_⟩
 rw[show ((place:Int)+1)=((place+1:Nat):Int) from rfl,zeu _ (place+1) (by lia)]at d
 refine⟨m,l,_,_,rfl,rfl,c _ _ o,d,?_,λj p e n=>?_⟩
 ·rw[Jb,Jw,Y6,JE];show _+1+_<=_;lia
 exact k j p ((u3.trans c).trans e) (by rw[n,zlv xs place v i])
theorem scAd:FnScope ["counts","place","many"] ["counts","place","many"] (zal zh5):=by trivial
theorem zkh {f g:Addr}{fd i:FuncData}(F:Fun K "added" "added" zh5 f fd) (G:Mgs mg) (b:Use P w K mg base "given_at" ["row","place","value"] 1 zfv g i):FnOk P w K mg base CX0 2 f fd ["counts","place","many"] zfx:=by
 refine F.ok scAd (λvs H Q E h=>?_) (λcdv A outer s H vs Q E e h=>?_)
 ·obtain⟨a,xs,place,v,rfl,_⟩:=h
  rfl
 obtain⟨a,xs,place,v,rfl,ha,c,d,k⟩:=h
 refine⟨_,(@zai _ _ _ (@zat _ _ _ _ (@zam _ _ _ _ _ _ _ _ _ _ _ _ _ _ _ _ b.ok e (by rfl) b.m b.kp b.b .nil zaD (@zaa _ _ _ _ _ (@qv _ 0 _ _ (by trivial)) (@zaa _ _ _ _ _ (@qv _ 1 _ _ (by trivial)) (@zaa _ _ _ _ _ (@zao _ _ _ _ _ _ _ _ zaW (@zay _ _ _ _ _ _ _ zaK (@qv _ 0 _ _ (by trivial)) (@qv _ 1 _ _ (by trivial)) (λ_ _=>rfl)) (@qv _ 2 _ _ (by trivial))) zac (by rfl)) (by rfl)) (by rfl)) (by decide) (by rfl) (by rfl)))),?_⟩
 exact⟨_,rfl,_,rfl,_,rfl,_,rfl,a,_,_,_,rfl,rfl,SqT.of ha,zd0 c,_,rfl,_,_,rfl,rfl,a,xs,place,_,rfl,ha,c,d,k⟩
end
end K36
namespace L2
open PySem PySem.Spec PyProof.Rows
section
variable [DecidableEq κ]
theorem RelO.isSome_eq {o:Option V}{u:Option Value}(r:RelO o u):o.isSome=u.isSome:=by
 cases o with
 | none=>cases u with
  | none=>rfl
  | some _=>exact(show False from r).elim
 | some _=>cases u with
  | none=>exact(show False from r).elim
  | some _=>rfl
theorem RelO.getD {o:Option V}{u:Option Value}{d:V}{d':Value}(r:RelO o u) (a:RelV d d'):RelV (o.getD d) (u.getD d'):=by
 cases o with
 | none=>cases u with
  | none=>exact a
  | some _=>exact(show False from r).elim
 | some _=>cases u with
  | none=>exact(show False from r).elim
  | some _=>exact r
end
theorem znF {P:Program}{w:World}{k:Key}{u:Value}(r:RelV (kV k) u):(zaZ P w).is k u=true:=by
 cases k with
 | inl i=>obtain⟨t,e⟩:=(show ∃ t,u=Value.int i t from r);subst e;exact zfJ P w i t
 | inr x=>obtain⟨t,e⟩:=(show ∃ t,u=Value.str x t from r);subst e;exact zfI P w x t
theorem ze2 {P:Program}{w:World}:∀ {ks:List Key}{us:List Value},Vals (ks.map kV) us->ItemsAre (zaZ P w) ks us
 | [],_,r=>by rw[List.map_nil]at r;cases r;exact .nil
 | k::ks,_,r=>by
  rw[JZ]at r
  cases r with
  | cons h t=>exact .cons (znF h) (ze2 t)
section
variable {P:Program}{w:World}{H:Hp}{h:Heap}{a:Addr}
theorem zmD {u:HO}(ok:HOk P w H h) (e:Rd H a u):ObjOk P w H h a u:=e.ok ok
theorem zm0 {ks:List Key}(ok:HOk P w H h) (e:H a=some (.tup (ks.map kV))):(tupleKind (zaZ P w)).is h ks a:=by
 obtain⟨_,its,r,o,h1,c,n,b⟩:=(show ObjOk P w H h a (.tup (ks.map kV)) from ok a _ e)
 exact⟨o,its.toArray,n,h1,c,b.1,by simpa using ze2 r⟩
end
section
variable {X:Cx}{pins:List (Addr × Obj)}{σ:St}{H:Hp}{s:Shared}{a:Addr}
theorem zfX {h':Heap}{t':Nat}{ob:HO}(I:Inv X pins σ H s) (c:Mut (H a)) (d:Heap.SameBut a s.heap h') (f:∃ q,h'.get? a=some q) (new:ObjOk X.prog X.w (upd H a ob) h' a ob) :
  Inv X pins σ (upd H a ob) { s with heap:=h',toks:=t' } :=
 I.write (x:=a) (e:=a) c (.inl rfl) (λb q hb z=>(d.2 b hb).trans z) f new
end
def zk0:List (TE × TE)->St->Hp->(List (V × V)->Hp->Prop)->Prop
 | [],_,H,Q=>Q [] H
 | (tk,tv)::r,σ,H,Q=>tk σ H λx H1=>tv σ H1 λy b=>zk0 r σ b λps a=>Q ((x,y)::ps) a
abbrev VV:List (V × V)->List (Value × Value)->Prop:=Paired λp q=>RelV p.1 q.1/\RelV p.2 q.2
def PPs (X:Cx) (pos:Pos) (keys:List (Option Expr)) (values:List Expr) (a:List (TE × TE)):Prop :=
 ∀ (pins:List (Addr × Obj)) (s:Shared) (σ:St) (H:Hp) (Q:List (V × V)->Hp->Prop),Inv X pins σ H s->zk0 a σ H Q ->
  wpAny (model X.prog X.w) X.A (evalPairs (pairTrees keys values X.env pos)) (λvs s'=>∃ ps H',Inv X pins σ H' s'/\VV ps vs/\Q ps H') X.xe s
theorem zlI {X:Cx}{pos:Pos}:PPs X pos [] [] []:=λpins s σ H Q I h=>pairTrees_nil_walk ⟨[],H,I,.nil,h⟩
theorem zj1 {X:Cx}{pos:Pos}{k v:Expr}{ks:List (Option Expr)}{vs:List Expr}{tk tv:TE}{a:List (TE × TE)}(j:PE X k tk) (g:PE X v tv) (i:PPs X pos ks vs a) :
  PPs X pos (some k::ks) (v::vs) ((tk,tv)::a):=λpins s σ H Q I h =>
 pairTrees_cons_walk (thn (j pins s σ H _ I h) λu s1 ⟨x,H1,n,c,f⟩=>thn (g pins s1 σ H1 _ n f) λq s2 ⟨y,p,m,b,e⟩ =>
  thn (i pins s2 σ p _ m e) λws r ⟨ps,o,l,rel,d⟩=>⟨(x,y)::ps,o,l,.cons ⟨c,b⟩ rel,d⟩)
structure M1 (X:Cx) (o:Expr) (m:Str) (apos:Pos) (e:Expr) (cpos:Pos):Prop where
 base:attributeBase o m X.env (eval o X.env)=eval o X.env
 few:((backTo cpos (starEach [e] X.env)).all (λx=>!x.1) && (backToKw cpos (keywordEach [] X.env)).all (λx=>x.1.isSome)
  && decide (([e]:List Expr).length+([]:List Keyword).length+(if ([]:List Keyword).isEmpty then 0 else 1)<30))=true
 line:(apos.endLine == cpos.line)=true
 trees:backTo cpos (starEach [e] X.env)=[(false,eval e X.env)]
structure M2 (X:Cx) (o:Expr) (m:Str) (apos:Pos) (e f:Expr) (cpos:Pos):Prop where
 base:attributeBase o m X.env (eval o X.env)=eval o X.env
 few:((backTo cpos (starEach [e,f] X.env)).all (λx=>!x.1) && (backToKw cpos (keywordEach [] X.env)).all (λx=>x.1.isSome)
  && decide (([e,f]:List Expr).length+([]:List Keyword).length+(if ([]:List Keyword).isEmpty then 0 else 1)<30))=true
 line:(apos.endLine == cpos.line)=true
 trees:backTo cpos (starEach [e,f] X.env)=[(false,eval e X.env),(false,eval f X.env)]
end L2
namespace L2
open PySem PySem.Spec PyProof.Rows Own
theorem zjI:∀ {ds:List PyData}{n:Nat},(∀ e∈ds,e.canLay0=true/\e.depth<=n)->PyData.canLayAll0 ds=true/\PyData.depthAll ds<=n
 | [],_,_=>⟨rfl,JL _⟩
 | d::ds,n,h=>by
  obtain⟨a1,a2⟩:=h d JJ
  obtain⟨b1,b2⟩:=zjI (ds:=ds) λe a=>h e (JH _ a)
  refine⟨?_,?_⟩
  ·show (d.canLay0 && PyData.canLayAll0 ds)=true
   rw[a1,b1];rfl
  ·show max d.depth (PyData.depthAll ds)<=n
   lia
abbrev KI:=Int ⊕ List Int
abbrev KN:=List KI
section
variable (prog:Program)(w:World)
def NIt (h:Heap):KI->Value->Prop
 | .inl i,v=>∃ t,v=.int i t
 | .inr xs,v=>∃ b,v=.ref b/\IsTupleKey (zaZ prog w) h (xs.map Sum.inl) b
def NIts (h:Heap):KN->List Value->Prop
 | [],vs=>vs=[]
 | k::ks,vs=>∃ v r,vs=v::r/\NIt prog w h k v/\NIts h ks r
def NIs (h:Heap) (ks:KN) (a:Addr):Prop:=∃ o items n,h.get? a=some o/\o.cls=.type "tuple"/\o.data=.seq items n/\NIts prog w h ks items.toList
def nh1:KI->Int
 | .inl i=>hashInt i
 | .inr xs=>tupleKeyHash (zaZ prog w) (xs.map Sum.inl)
def nd1:KI->Nat
 | .inl _=>1
 | .inr xs=>xs.length+1
def nds (ks:KN):Nat:=(ks.map nd1).sum
end
variable {prog:Program}{w:World}{A:Around}{E:Value->Shared->Prop}
theorem zmc {a b:List Int}(h:a.map (Sum.inl:Int->Key)=b.map Sum.inl):a=b :=
 List.map_inj_right (λx y e=>Sum.inl.inj e) |>.mp h
theorem NIt.inj {h:Heap}{x y:KI}{v:Value}(a:NIt prog w h x v) (b:NIt prog w h y v):x=y:=by
 cases x with
 | inl i =>
  obtain⟨t,rfl⟩:=a
  cases y with
  | inl j=>obtain⟨u,e⟩:=b;cases e;rfl
  | inr ys=>obtain⟨b,e,_⟩:=b;cases e
 | inr xs =>
  obtain⟨c,rfl,f⟩:=a
  cases y with
  | inl j=>obtain⟨u,e⟩:=b;cases e
  | inr ys =>
   obtain⟨d,e,hd⟩:=b
   cases e
   rw[zmc (f.inj hd)]
theorem NIts.inj {h:Heap}:∀ {x y:KN}{vs:List Value},NIts prog w h x vs->NIts prog w h y vs->x=y
 | [],[],_,_,_=>rfl
 | [],_::_,_,a,b=>by obtain⟨v,r,e,_⟩:=b;rw[show _=[] from a]at e;cases e
 | _::_,[],_,a,b=>by obtain⟨v,r,e,_⟩:=a;rw[show _=[] from b]at e;cases e
 | x::xs,y::ys,_,a,b=>by
  obtain⟨v,r,rfl,a1,a2⟩:=a
  obtain⟨c,d,e,b1,b2⟩:=b
  cases e
  rw[a1.inj b1,NIts.inj a2 b2]
theorem NIs.inj {h:Heap}{x y:KN}{a:Addr}(p:NIs prog w h x a) (q:NIs prog w h y a):x=y:=by
 obtain⟨o,its,n,h1,_,e,d⟩:=p
 obtain⟨o',its',g,c,_,b,f⟩:=q
 rw[h1]at c
 cases c
 rw[e]at b
 cases b
 exact d.inj f
theorem NIt.keeps {h h':Heap}{d:Addr}{o:Obj}{es ep} (hd:h.get? d=some o) (c:o.data=.dict es ep) (s:Heap.SameBut d h h') {k:KI}{v:Value}(a:NIt prog w h k v):NIt prog w h' k v:=by
 cases k with
 | inl i=>exact a
 | inr xs =>
  obtain⟨b,e,hb⟩:=a
  exact⟨b,e,hb.keeps hd c s⟩
theorem NIts.keeps {h h':Heap}{d:Addr}{o:Obj}{es ep} (hd:h.get? d=some o) (b:o.data=.dict es ep) (s:Heap.SameBut d h h'):∀ {ks:KN}{vs:List Value},NIts prog w h ks vs->NIts prog w h' ks vs
 | [],_,a=>a
 | k::ks,_,a=>by
  obtain⟨v,r,e,a1,a2⟩:=a
  exact⟨v,r,e,a1.keeps hd b s,NIts.keeps hd b s a2⟩
theorem NIs.keeps {h h':Heap}{ks:KN}{a d:Addr}{o:Obj}{es ep} (p:NIs prog w h ks a) (hd:h.get? d=some o) (c:o.data=.dict es ep) (s:Heap.SameBut d h h'):NIs prog w h' ks a:=by
 obtain⟨o',its,n,h1,f,b,e⟩:=p
 refine⟨o',its,n,?_,f,b,e.keeps hd c s⟩
 rw[s.2 a (by rintro rfl;rw[hd]at h1;cases h1;rw[c]at b;cases b)]
 exact h1
theorem zdV:∀ (ks:KN) (vs:List Value) (c:Array Int) (s:Shared) (Q:Array Int->Shared->Prop),A.units<cLine->NIts prog w s.heap ks vs->Q (c++(ks.map (nh1 prog w)).toArray) { s with toks:=s.toks+nds ks } ->
  wpAny (model prog w) A (forIn vs c λx c=>(do let r <- pyHash x;pure (ForInStep.yield (c.push r)))) Q E s
 | [],vs,c,s,Q,d,a,q=>by
  rw[show vs=[] from a,Zs]
  refine Ja ?_
  simpa [nds] using q
 | k::ks,vs,c,s,Q,d,a,q=>by
  obtain⟨v,r,rfl,a1,a2⟩:=a
  rw[YZ]
  have f:∀ (m:Nat),m=nd1 k->({ s with toks:=s.toks+m+nds ks }:Shared)={ s with toks:=s.toks+nds (k::ks) }:=λm e=>by
   subst e
   unfold nds
   rw[JZ,List.sum_cons,Zj]
  have e2:c.push (nh1 prog w k)++(ks.map (nh1 prog w)).toArray=c++((k::ks).map (nh1 prog w)).toArray:=by simp
  have go:∀ (m:Nat),m=nd1 k->wpAny (model prog w) A (forIn r (c.push (nh1 prog w k)) λx c=>(do let r <- pyHash x;pure (ForInStep.yield (c.push r)))) Q E { s with toks:=s.toks+m }:=λm e =>
   zdV ks r (c.push (nh1 prog w k)) { s with toks:=s.toks+m } Q d a2 (by rw[e2];have:=f m e;simp only at this ⊢;rw[this];exact q)
  cases k with
  | inl i =>
   obtain⟨t,rfl⟩:=a1
   exact J0 (J0 (wpAny_pyHash_int (Ja (go 1 rfl))))
  | inr xs =>
   obtain⟨b,rfl,hb⟩:=a1
   exact J0 (J0 (wpAny_pyHash_tuple d hb (Ja (go _ (by rw[Jh];rfl)))))
theorem zi5 {s:Shared}{a:Addr}{ks:KN}{Q:Int->Shared->Prop}(c:A.units+1<cLine) (d:NIs prog w s.heap ks a)
  (q:Q (reduceHash (Builtin.Tuple.tupleHashOf (ks.map (nh1 prog w)))) { s with toks:=s.toks+(nds ks+1) }):wpAny (model prog w) A (pyHash (.ref a)) Q E s:=by
 obtain⟨o,its,n,b,e,hd,hi⟩:=d
 show wpAny (model prog w) A (pyHashByItsType (.ref a)) Q E s
 refine W.pyHash_slot (T:="tuple") (id:="tuple.__hash__") (B:=Builtin.«tuple.__hash__») ⟨o,b,e⟩ F.slot_tuple_hash F.entry_tuple_hash (F.args_tuple_hash_1 _) (by decide) (.inr (by lia)) ?_
 unfold Builtin.«tuple.__hash__»
 refine J0 ?_
 show wpAny _ _ (pure _) _ _ _
 refine Ja (J0 (wpAny_tupleItemsOf b hd ?_))
 rw[<- Array.forIn_toList]
 refine J0 (zdV ks _ _ s _ c hi ?_)
 simp only[Array.empty_append]
 unfold retInt
 exact J0 (wpAny_mkInt (Ja ⟨_,_,rfl,q⟩))
theorem zeP {i:Int}{t:Tok}{n:Nat}{s:Shared}{Q:Bool->Shared->Prop}(q:Q true s):wpAny (model prog w) A (eqIsQuiet n (.int i t)) Q E s:=by
 cases n<;>exact Ja q
theorem zdh {n:Nat}{s:Shared}:∀ (vs:List Value) (Q:Option Bool × Unit->Shared->Prop),(∀ v∈vs,∀ R:Bool->Shared->Prop,R true s->wpAny (model prog w) A (eqIsQuiet n v) R E s)->Q (none,()) s ->
  wpAny (model prog w) A (forIn vs ((none,()):Option Bool × Unit) λy _=>(do
   let b <- eqIsQuiet n y
   if (!b)=true then pure (ForInStep.done (some false,())) else pure (ForInStep.yield (none,())))) Q E s
 | [],Q,_,q=>by rw[Zs];exact Ja q
 | v::vs,Q,h,q=>by
  rw[YZ]
  exact J0 (J0 (h v JJ _ (Ja (zdh vs Q (λu a=>h u (JH _ a)) q))))
theorem zeO {s:Shared}{a:Addr}{o:Obj}{its:Array Value}{m n:Nat}{Q:Bool->Shared->Prop}(c:s.heap.get? a=some o) (d:o.cls=.type "tuple") (hd:o.data=.seq its m)
  (h:∀ v∈its.toList,∀ R:Bool->Shared->Prop,R true s->wpAny (model prog w) A (eqIsQuiet n v) R E s) (q:Q true s):wpAny (model prog w) A (eqIsQuiet (n+1) (.ref a)) Q E s:=by
 have ty:s.TypeIs (.ref a) "tuple":=⟨o,c,d⟩
 unfold eqIsQuiet
 refine J0 (wpAny_specialOf (T:="tuple") ty F.slot_tuple_eq.lookup (J0 (Zx (T:="tuple") (b:=true) ty rfl ?_)))
 show wpAny _ _ (do let _ <- seqItems? _;_) _ _ _
 refine J0 (Yk c hd (J0 ?_))
 rw[ZA,<- Array.forIn_toList]
 exact zdh _ _ h (Ja q)
theorem NIts.mem {h:Heap}:∀ {ks:KN}{vs:List Value},NIts prog w h ks vs->∀ v∈vs,∃ k,NIt prog w h k v
 | [],_,a,v,b=>by rw[show _=[] from a]at b;cases b
 | k::ks,_,a,v,b=>by
  obtain⟨x,r,rfl,a1,a2⟩:=a
  rcases Ju.mp b with rfl|z
  ·exact⟨k,a1⟩
  ·exact NIts.mem a2 v z
theorem zgw {i:Int}{v:Value}(h:(zaZ prog w).is (.inl i) v=true):∃ t,v=.int i t:=by
 rw[zg6]at h
 rcases zaN h with ⟨j,t,e,rfl⟩|⟨x,t,e,_⟩
 ·cases e;exact⟨t,rfl⟩
 ·cases e
theorem zhh {ks:List Key}{vs:List Value}(h:ItemsAre (zaZ prog w) ks vs):∀ xs:List Int,ks=xs.map Sum.inl->∀ v∈vs,∃ i t,v=.int i t:=by
 induction h with
 | nil=>intro xs _ v a;cases a
 | cons b _ ih =>
  intro xs e v a
  cases xs with
  | nil=>cases e
  | cons x xs =>
   rw[JZ]at e
   injection e with c e2
   subst c
   rcases Ju.mp a with rfl|z
   ·obtain⟨t,e⟩:=zgw b
    exact⟨x,t,e⟩
   ·exact ih xs e2 v z
theorem items_int {ks:List Int}{vs:List Value}(h:ItemsAre (zaZ prog w) (ks.map Sum.inl) vs):∀ v∈vs,∃ i t,v=.int i t:=zhh h ks rfl
theorem zdO {s:Shared}{a:Addr}{ks:KN}{Q:Bool->Shared->Prop}(c:NIs prog w s.heap ks a) (q:Q true s):wpAny (model prog w) A (eqIsQuiet 8 (.ref a)) Q E s:=by
 obtain⟨o,its,n,l,m,hd,hi⟩:=c
 refine zeO l m hd (λv h R r=>?_) q
 obtain⟨k,c⟩:=hi.mem v h
 cases k with
 | inl i=>obtain⟨t,rfl⟩:=c;exact zeP r
 | inr xs =>
  obtain⟨b,rfl,o2,p,n2,d,g,f,e⟩:=c
  refine zeO d g f (λu j R r=>?_) r
  obtain⟨i,t,rfl⟩:=items_int e u j
  exact zeP r
def dI:KI->PyData
 | .inl i=>.int i
 | .inr xs=>.tuple (xs.map PyData.int)
def dN (ks:KN):PyData:=.tuple (ks.map dI)
theorem zgY {h:Heap}{ks:List Key}{vs:List Value}(a:ItemsAre (zaZ prog w) ks vs):∀ xs:List Int,ks=xs.map Sum.inl->∃ as,ReadsAll h vs (xs.map PyData.int) as:=by
 induction a with
 | nil =>
  intro xs e
  cases xs with
  | nil=>exact⟨_,.nil⟩
  | cons x xs=>cases e
 | cons b _ ih =>
  intro xs e
  cases xs with
  | nil=>cases e
  | cons x xs =>
   rw[JZ]at e
   injection e with c e2
   subst c
   obtain⟨t,rfl⟩:=zgw b
   obtain⟨as,r⟩:=ih xs e2
   exact⟨_,.cons (.int x t) r⟩
theorem NIt.reads {h:Heap}{k:KI}{v:Value}(a:NIt prog w h k v):∃ as,Reads h v (dI k) as:=by
 cases k with
 | inl i=>obtain⟨t,rfl⟩:=a;exact⟨_,.int i t⟩
 | inr xs =>
  obtain⟨b,rfl,o,its,n,h1,e,d,c⟩:=a
  obtain⟨as,r⟩:=zgY (h:=h) c xs rfl
  exact⟨_,.tuple h1 e d r⟩
theorem NIts.reads {h:Heap}:∀ {ks:KN}{vs:List Value},NIts prog w h ks vs->∃ as,ReadsAll h vs (ks.map dI) as
 | [],_,a=>by rw[show _=[] from a];exact⟨_,.nil⟩
 | k::ks,_,a=>by
  obtain⟨v,r,rfl,a1,a2⟩:=a
  obtain⟨as,p⟩:=a1.reads
  obtain⟨bs,q⟩:=NIts.reads a2
  exact⟨_,.cons p q⟩
theorem NIs.reads {h:Heap}{ks:KN}{a:Addr}(p:NIs prog w h ks a):∃ as,Reads h (.ref a) (dN ks) as:=by
 obtain⟨o,its,n,h1,d,c,b⟩:=p
 obtain⟨as,r⟩:=b.reads
 exact⟨_,.tuple h1 d c r⟩
theorem zgE:∀ (x y:List Int),PyData.eqvAll (x.map PyData.int) (y.map PyData.int)=decide (x=y)
 | [],[]=>rfl
 | [],_::_=>rfl
 | _::_,[]=>rfl
 | a::x,b::y=>by
  show (PyData.eqv (.int a) (.int b) && PyData.eqvAll (x.map PyData.int) (y.map PyData.int))=_
  rw[zgE x y,show PyData.eqv (.int a) (.int b)=(a == b) from rfl,Yt]
  simp
theorem zna (x y:KI):PyData.eqv (dI x) (dI y)=decide (x=y):=by
 cases x<;>cases y
 ·rw[show PyData.eqv (dI (.inl _)) (dI (.inl _))=(_ == _) from rfl,Yt];simp
 ·rfl
 ·rfl
 ·show PyData.eqvAll _ _=_
  rw[zgE,Yt];simp
theorem zjf:∀ (x y:KN),PyData.eqvAll (x.map dI) (y.map dI)=decide (x=y)
 | [],[]=>rfl
 | [],_::_=>rfl
 | _::_,[]=>rfl
 | a::x,b::y=>by
  show (PyData.eqv (dI a) (dI b) && PyData.eqvAll (x.map dI) (y.map dI))=_
  rw[zjf x y,zna,Yt]
  simp
theorem zgA:∀ x:List Int,PyData.canLayAll0 (x.map PyData.int)=true/\PyData.depthAll (x.map PyData.int)<=0
 | []=>⟨rfl,Jg _⟩
 | a::x=>by
  obtain⟨p,q⟩:=zgA x
  refine⟨?_,?_⟩
  ·show (PyData.canLay0 (.int a) && PyData.canLayAll0 (x.map PyData.int))=true
   rw[p];rfl
  ·show max 0 (PyData.depthAll (x.map PyData.int))<=0
   lia
theorem ziV (ks:KN):(dN ks).canLay0=true/\(dN ks).depth<=2:=by
 have key:∀ e∈ks.map dI,e.canLay0=true/\e.depth<=1:=λe a=>by
  obtain⟨k,_,rfl⟩:=JD.mp a
  cases k with
  | inl i=>exact⟨rfl,by show 0<=1;lia⟩
  | inr xs =>
   obtain⟨p,q⟩:=zgA xs
   refine⟨p,?_⟩
   show PyData.depthAll (xs.map PyData.int)+1<=1
   lia
 obtain⟨p,q⟩:=zjI key
 refine⟨p,?_⟩
 show PyData.depthAll (ks.map dI)+1<=2
 lia
theorem zmg {s:Shared}{x y:KN}{a b:Addr}{Q:Bool->Shared->Prop}(i:A.units+2<cLine) (g:NIs prog w s.heap x a) (f:NIs prog w s.heap y b) (q:Q (decide (x=y)) s):wpAny (model prog w) A (eqBool (.ref a) (.ref b)) Q E s:=by
 obtain⟨as,d⟩:=g.reads
 obtain⟨bs,c⟩:=f.reads
 obtain⟨p1,p2⟩:=ziV x
 obtain⟨e,h⟩:=ziV y
 refine PySem.SeqAt.eqBoolOverData prog w A E s _ _ _ _ as bs Q d c p1 e (by lia) ?_
 rw[show PyData.eqv (dN x) (dN y)=PyData.eqvAll (x.map dI) (y.map dI) from rfl,zjf]
 exact q
variable (prog w)
def zbo:HeapKind prog w KN where
 is:=NIs prog w
 hash:=λks=>reduceHash (Builtin.Tuple.tupleHashOf (ks.map (nh1 prog w)))
 draws:=λks=>nds ks+1
 room:=λA=>A.units+2<cLine
 inj:=λb a=>NIs.inj b a
 keeps:=λx f hd e=>NIs.keeps x f hd e
 pyHash:=λd c h=>zi5 (by lia) c h
 eqBool:=λd b a h=>zmg d b a h
 quiet:=λc h=>zdO c h
end L2
namespace Ts
open PySem PyProof.Rows
structure Cmp (prog:Program) (w:World) (A:Around) (s:Shared) (κ:SortKind) (P:Keyed->Prop) (rk:Keyed->Int):Prop where
 ask:∀ (x y:Keyed),P x->P y->∀ {Q:Bool->Shared->Prop}{E:Value->Shared->Prop},Q (decide (rk x<rk y)) s->wpAny (model prog w) A (keyLt' κ x.1 y.1) Q E s
def R (rk:Keyed->Int) (xs:Array Keyed) (i:Nat):Int:=match xs[i]? with
 | some p=>rk p
 | none=>0
theorem R_congr {rk:Keyed->Int}{xs ys:Array Keyed}{i j:Nat}(h:xs[i]?=ys[j]?):R rk xs i=R rk ys j:=by unfold R;rw[h]
def Up (rk:Keyed->Int) (xs:Array Keyed) (lo n:Nat):Prop:=∀ i j,lo<=i->i<=j->j<lo+n->R rk xs i<=R rk xs j
def Dn (rk:Keyed->Int) (xs:Array Keyed) (lo n:Nat):Prop:=∀ i j,lo<=i->i<=j->j<lo+n->R rk xs j<=R rk xs i
structure Bs (κ:SortKind) (P:Keyed->Prop) (a₀:Array Keyed) (st:SortSt):Prop where
 kind:kindOf st=κ
 fail:failedOf st=none
 perm:(arrOf st).Perm a₀
 all:∀ p∈a₀.toList,P p
theorem Bs.size {κ:SortKind}{P:Keyed->Prop}{a₀:Array Keyed}{st:SortSt}(h:Bs κ P a₀ st):(arrOf st).size=a₀.size:=h.perm.size_eq
theorem Bs.at {κ:SortKind}{P:Keyed->Prop}{a₀:Array Keyed}{st:SortSt}(h:Bs κ P a₀ st) {i:Nat}(hi:i<a₀.size) (rk:Keyed->Int):∃ p,(arrOf st)[i]?=some p/\P p/\R rk (arrOf st) i=rk p:=by
 have e:(arrOf st)[i]?=some ((arrOf st)[i]'(by rw[h.size];exact hi)):=getElem?_pos (arrOf st) i (by rw[h.size];exact hi)
 refine⟨_,e,h.all _ ((Array.perm_iff_toList_perm.mp h.perm).mem_iff.mp (by simp)),?_⟩
 unfold R;rw[e]
theorem Bs.arr {κ:SortKind}{P:Keyed->Prop}{a₀:Array Keyed}{st:SortSt}(h:Bs κ P a₀ st) {xs:Array Keyed}(a:xs.Perm (arrOf st)):Bs κ P a₀ (setArr st xs):=⟨h.kind,h.fail,a.trans h.perm,h.all⟩
section
variable {prog:Program}{w:World}{A:Around}{E:Value->Shared->Prop}{s:Shared}{κ:SortKind}{P:Keyed->Prop}{rk:Keyed->Int}{a₀:Array Keyed}
theorem ziO (C:Cmp prog w A s κ P rk) {st:SortSt}{x y:Keyed}{Q:Option Bool->SortSt->Prop}(b:kindOf st=κ) (a:P x) (py:P y) (h:Q (some (decide (rk x<rk y))) st):wpS (model prog w) A E s (lt' x y) Q st:=by
 rw[lt'_eq]
 refine Jn (Wq (Jn (wpS_lift (ZJ ?_))))
 rw[b]
 exact C.ask x y a py ⟨rfl,Jm h⟩
theorem zcO {r:String}{st:SortSt}{Q:Unit->SortSt->Prop}(h:Q () st):wpS (model prog w) A E s (liftM (rule r):StateT SortSt Sem Unit) Q st:=wpS_lift (YY ⟨rfl,h⟩)
theorem zan {st:SortSt}{arr:Array Keyed}{i:Nat}{p:Keyed}{Q:Keyed->SortSt->Prop}(e:arr[i]?=some p) (h:Q p st):wpS (model prog w) A E s (elem' arr i) Q st:=by
 rw[elem'_eq,e];exact Jm h
theorem ziP (C:Cmp prog w A s κ P rk) {st:SortSt}{i j:Nat}{Q:Option Bool->SortSt->Prop}(a:Bs κ P a₀ st) (hi:i<a₀.size) (e:j<a₀.size) (h:Q (some (decide (R rk (arrOf st) i<R rk (arrOf st) j))) st):wpS (model prog w) A E s (ltAt' i j) Q st:=by
 obtain⟨p,f,pp,c⟩:=a.at hi rk
 obtain⟨q,e2,d,b⟩:=a.at e rk
 rw[c,b]at h
 rw[ltAt'_eq]
 exact Jn (Wq (Jn (zan f (Jn (zan e2 (ziO C a.kind pp d h))))))
structure Keep (κ:SortKind) (P:Keyed->Prop) (rk:Keyed->Int) (a₀:Array Keyed) (lo:Nat) (st st':SortSt):Prop where
 b:Bs κ P a₀ st'
 pend:pendingOf st'=pendingOf st
 low:∀ k,k<lo->R rk (arrOf st') k=R rk (arrOf st) k
theorem Keep.refl {lo:Nat}{st:SortSt}(h:Bs κ P a₀ st):Keep κ P rk a₀ lo st st:=⟨h,rfl,λ_ _=>rfl⟩
theorem Keep.trans {lo:Nat}{st a st2:SortSt}(h:Keep κ P rk a₀ lo st a) (g:Keep κ P rk a₀ lo a st2):Keep κ P rk a₀ lo st st2:=⟨g.b,g.pend.trans h.pend,λk b=>(g.low k b).trans (h.low k b)⟩
theorem R_mirror {xs:Array Keyed}{i j:Nat}(a:j<=xs.size) (k:Nat):R rk (mirror xs i j ((j-i) / 2)) k=if i<=k/\k<j then R rk xs (i+j-1-k) else R rk xs k:=by
 have e:=getElem?_mirror_all (xs:=xs) (i:=i) a k
 split at e
 ·next h=>rw[Jf h];exact R_congr e
 ·next h=>rw[Jc h];exact R_congr e
theorem zgf {lo i j:Nat}{st:SortSt}{Q:Unit->SortSt->Prop}(a:Bs κ P a₀ st) (c:lo<=i) (b:j<=a₀.size)
  (h:∀ st',Keep κ P rk a₀ lo st st'->(∀ k,R rk (arrOf st') k=if i<=k/\k<j then R rk (arrOf st) (i+j-1-k) else R rk (arrOf st) k)->Q () st'):wpS (model prog w) A E s (reverseSlice' i j) Q st:=by
 rw[reverseSlice'_eq]
 refine Ws (h _ ⟨a.arr (mirror_perm _ _ _ _),rfl,λk d=>?_⟩ λk=>?_)
 ·show R rk (mirror (arrOf st) i j ((j-i) / 2)) k=_
  rw[R_mirror (by rw[a.size];exact b),Jc (by lia)]
 ·exact R_mirror (by rw[a.size];exact b) k
theorem zkR (C:Cmp prog w A s κ P rk) {st:SortSt}{lo g:Nat}{Q:Option Nat->SortSt->Prop}(v:Bs κ P a₀ st) (h1:1<=g) (hn:lo+g<=a₀.size)
  (h:∀ st' m,Keep κ P rk a₀ lo st st'->1<=m->m<=g->Up rk (arrOf st') lo m->Q (some m) st'):wpS (model prog w) A E s (countRun' lo g) Q st:=by
 have asc:∀ (st:SortSt) (u:Nat) {S:Option (Option Nat) × Nat->SortSt->Prop},Bs κ P a₀ st->1<=u->Up rk (arrOf st) lo u ->
   (∀ n,u<=n->n<=max u g->Up rk (arrOf st) lo n->(n<g->R rk (arrOf st) (lo+n)<R rk (arrOf st) (lo+n-1))->S (none,n) st)->
   ∀ f:Nat->Option (Option Nat) × Nat->StateT SortSt Sem (ForInStep (Option (Option Nat) × Nat)),(∀ i n,f i (none,n)=(do
    let some t <- ltAt' (lo+n) (lo+n-1)|pure (.done (some none,n))
    if t then pure (.done (none,n)) else pure (.yield (none,n+1))))->wpS (model prog w) A E s (forIn [u:g] (none,u) f) S st:=by
  intro st u S v h0 y B f hf
  refine Yz (I:=λi c st'=>st'=st/\c=(none,i)/\u<=i/\Up rk (arrOf st) lo i) ?_ ?_ ⟨rfl,rfl,Jg _,y⟩
  ·rintro i c st' hi W ⟨rfl,rfl,K,o⟩
   rw[hf]
   refine Jn (ziP C v (by lia) (by lia) ?_)
   by_cases z:R rk (arrOf st') (lo+i)<R rk (arrOf st') (lo+i-1)
   ·rw[JB z]
    exact Jm (B i K (by lia) o λ_=>z)
   ·rw[Jt z]
    refine Jm ⟨rfl,rfl,by lia,λa b ha j hb=>?_⟩
    by_cases q:b<lo+i
    ·exact o a b ha j q
    ·obtain rfl:b=lo+i:=by lia
     by_cases G:a=lo+i
     ·rw[G];exact ZW _
     ·have:=o a (lo+i-1) ha (by lia) (by lia)
      lia
  ·rintro c st' ⟨rfl,rfl,K,o⟩
   exact B _ K (Jg _) o λq=>by lia
 rw[countRun'_eq]
 refine Jn (asc st 1 v (Jg _) (λa b h1 h2 K=>by rw[show a=b by lia];exact ZW _) (λn n1 n2 y O=>?_) _ (λi n=>rfl))
 dsimp only
 by_cases z:n=g
 ·subst z
  rw[Jf (ZB _)]
  exact Jm (h _ _ (Keep.refl v) n1 (Jg _) y)
 rw[Jc (by simpa using z)]
 have nl:n<g:=by lia
 have O:=O nl
 generalize hT:(bind (liftM (rule "list.sort.descending-run")) _:StateT SortSt Sem (Option Nat))=T
 have tail:∀ l,Keep κ P rk a₀ lo st l->Dn rk (arrOf l) lo n->R rk (arrOf l) (lo+n)<R rk (arrOf l) (lo+n-1)->wpS (model prog w) A E s T Q l:=by
  intro l V d1 l1
  rw[<- hT]
  refine Jn (zcO ?_)
  have last:∀ st2 m,Keep κ P rk a₀ lo st st2->1<=m->m<=g->Dn rk (arrOf st2) lo m->∀ d,Keep κ P rk a₀ lo st2 d->(∀ k,R rk (arrOf d) k=if lo<=k/\k<lo+m then R rk (arrOf st2) (lo+(lo+m)-1-k) else R rk (arrOf st2) k)->Up rk (arrOf d) lo m:=by
   intro st2 m p M Z r d x D a b ha j hb
   rw[D,D,Jf ⟨by lia,by lia⟩,Jf ⟨by lia,by lia⟩]
   exact r _ _ (by lia) (by lia) (by lia)
  refine Jn (Z2 (Yz (I:=λi c st2=>∃ m q,c=(none,m,q)/\m=i/\q+1<=m/\Keep κ P rk a₀ lo st st2/\(i<=g->Dn rk (arrOf st2) lo m/\∀ k,lo+m-(q+1)<=k->k<lo+m->R rk (arrOf st2) k=R rk (arrOf st2) (lo+m-1)))
   (Q:=λc st2=>∃ m q,c=(none,m,q)/\1<=m/\m<=g/\q+1<=m/\Keep κ P rk a₀ lo st st2/\Dn rk (arrOf st2) lo m/\∀ k,lo+m-(q+1)<=k->k<lo+m->R rk (arrOf st2) k=R rk (arrOf st2) (lo+m-1)) ?step ?fin ?init) ?post)
  case init =>
   refine⟨n+1,0,rfl,rfl,by lia,V,λ_=>⟨λa b ha j hb=>?_,λk k1 N=>by rw[show k=lo+(n+1)-1 by lia]⟩⟩
   by_cases q:b<lo+n
   ·exact d1 a b ha j q
   ·obtain rfl:b=lo+n:=by lia
    by_cases G:a=lo+n
    ·rw[G];exact ZW _
    ·have:=d1 a (lo+n-1) ha (by lia) (by lia)
     lia
  case fin =>
   rintro c st2 ⟨m,q,rfl,e,B,p,hd⟩
   obtain⟨r,eq2⟩:=hd (by lia)
   exact⟨m,q,rfl,by lia,by lia,B,p,r,eq2⟩
  case step =>
   rintro i c st2 hi W ⟨m,q,rfl,rfl,B,p,hd⟩
   obtain⟨r,eq2⟩:=hd (by lia)
   dsimp only
   refine Jn (ziP C p.b (by lia) (by lia) ?_)
   have more:∀ d,Dn rk (arrOf d) lo m->R rk (arrOf d) (lo+m)<=R rk (arrOf d) (lo+m-1)->Dn rk (arrOf d) lo (m+1):=by
    intro d L le a b ha j hb
    by_cases q:b<lo+m
    ·exact L a b ha j q
    ·obtain rfl:b=lo+m:=by lia
     by_cases G:a=lo+m
     ·rw[G];exact ZW _
     ·have:=L a (lo+m-1) ha (by lia) (by lia)
      lia
   by_cases z1:R rk (arrOf st2) (lo+m)<R rk (arrOf st2) (lo+m-1)
   ·rw[JB z1]
    dsimp only
    rw[Jf rfl]
    by_cases F:q > 0
    ·rw[Jf F]
     refine Jn (zgf (rk:=rk) (lo:=lo) p.b (by lia) (by lia) λd x D=>Jm ?_)
     have same:∀ k,R rk (arrOf d) k=R rk (arrOf st2) k:=λk=>by
      rw[D]
      split
      ·rw[eq2 _ (by lia) (by lia),eq2 k (by lia) (by lia)]
      ·rfl
     refine⟨m+1,0,rfl,rfl,by lia,p.trans x,λ_=>⟨more d (λa b ha j hb=>by rw[same,same];exact r a b ha j hb) (by rw[same,same];lia),λk k1 N=>by rw[show k=lo+(m+1)-1 by lia]⟩⟩
    ·rw[Jc F]
     exact Jm ⟨m+1,0,rfl,rfl,by lia,p,λ_=>⟨more st2 r (by lia),λk k1 N=>by rw[show k=lo+(m+1)-1 by lia]⟩⟩
   ·rw[Jt z1]
    dsimp only
    rw[Jc Jp]
    refine Jn (ziP C p.b (by lia) (by lia) ?_)
    by_cases z2:R rk (arrOf st2) (lo+m-1)<R rk (arrOf st2) (lo+m)
    ·rw[JB z2]
     dsimp only
     rw[Jf rfl]
     exact Jm ⟨m,q,rfl,by lia,by lia,B,p,r,eq2⟩
    ·rw[Jt z2]
     dsimp only
     rw[Jc Jp]
     have e:R rk (arrOf st2) (lo+m)=R rk (arrOf st2) (lo+m-1):=by lia
     refine Jm ⟨m+1,q+1,rfl,rfl,by lia,p,λ_=>⟨more st2 r (by lia),λk k1 N=>?_⟩⟩
     rw[show lo+(m+1)-1=lo+m by lia]
     by_cases q3:k=lo+m
     ·rw[q3]
     ·rw[eq2 k (by lia) (by lia),e]
  case post =>
   rintro c st2 ⟨m,q,rfl,M,Z,B,p,r,eq2⟩
   dsimp only
   generalize X:(bind (reverseSlice' lo (lo+m)) _:StateT SortSt Sem (Option Nat))=T2
   have on:∀ d,Keep κ P rk a₀ lo st d->Dn rk (arrOf d) lo m->wpS (model prog w) A E s T2 Q d:=by
    intro d x L
    rw[<- X]
    refine Jn (zgf (rk:=rk) (lo:=lo) x.b (by lia) (by lia) λH U r4=>?_)
    refine Jn (asc H m U.b M (last d m x M Z L H U r4) (λn' a1 a2 o _=>?_) _ (λi n=>rfl))
    exact Jm (h _ _ (x.trans U) (by lia) (by lia) o)
   by_cases F:q > 0
   ·rw[Jf F]
    refine Jn (zgf (rk:=rk) (lo:=lo) p.b (by lia) (by lia) λd x D=>?_)
    have same:∀ k,R rk (arrOf d) k=R rk (arrOf st2) k:=λk=>by
     rw[D]
     split
     ·rw[eq2 _ (by lia) (by lia),eq2 k (by lia) (by lia)]
     ·rfl
    exact on d (p.trans x) (λa b ha j hb=>by rw[same,same];exact r a b ha j hb)
   ·rw[Jc F]
    exact on st2 p r
 by_cases z2:n > 1
 ·rw[Jf z2]
  refine Jn (ziP C v (by lia) (by lia) ?_)
  by_cases Y:R rk (arrOf st) lo<R rk (arrOf st) (lo+n-1)
  ·rw[JB Y]
   exact Jm (h _ _ (Keep.refl v) n1 (by lia) y)
  ·rw[Jt Y]
   dsimp only
   rw[Jc Jp]
   refine Jn (zgf (rk:=rk) (lo:=lo) v (by lia) (by lia) λl V J=>tail l V (λa b ha j hb=>?_) ?_)
   ·rw[J,J,Jf ⟨by lia,by lia⟩,Jf ⟨by lia,by lia⟩]
    exact y _ _ (by lia) (by lia) (by lia)
   ·rw[J,J,Jc (by lia),Jf ⟨by lia,by lia⟩]
    have:=y (lo+(lo+n)-1-(lo+n-1)) (lo+n-1) (by lia) (by lia) (by lia)
    have e:lo+(lo+n)-1-(lo+n-1)=lo:=by lia
    rw[e]at this ⊢
    have:=y lo (lo+n-1) (by lia) (by lia) (by lia)
    lia
 ·rw[Jc z2]
  exact tail st (Keep.refl v) (λa b ha j hb=>by rw[show a=b by lia];exact ZW _) O
end
section
variable {prog:Program}{w:World}{A:Around}{E:Value->Shared->Prop}{s:Shared}{κ:SortKind}{P:Keyed->Prop}{rk:Keyed->Int}{a₀:Array Keyed}
theorem R_bubble {xs:Array Keyed}{src d:Nat}(b:src<xs.size) (hd:d<=src) (k:Nat):R rk (bubble xs src d) k=if k=src-d then R rk xs src else if src-d<k/\k<=src then R rk xs (k-1) else R rk xs k:=by
 have e:=getElem?_bubble (xs:=xs) b d hd k
 by_cases h1:k=src-d
 ·rw[Jf h1]at e ⊢;exact R_congr e
 ·rw[Jc h1]at e ⊢
  by_cases a:(src-d<k/\k<=src)
  ·rw[Jf a]at e ⊢;exact R_congr e
  ·rw[Jc a]at e ⊢;exact R_congr e
theorem znc (C:Cmp prog w A s κ P rk) {st:SortSt}{lo n ok:Nat}{Q:Bool->SortSt->Prop}(v:Bs κ P a₀ st) (h1:1<=ok) (hok:ok<=n) (H:lo+n<=a₀.size) (G:Up rk (arrOf st) lo ok)
  (h:∀ st',Keep κ P rk a₀ lo st st'->Up rk (arrOf st') lo n->Q true st'):wpS (model prog w) A E s (binarySort' lo n ok) Q st:=by
 rw[binarySort'_eq]
 rw[show max ok 1=ok by lia]
 refine Jn (Z2 (Yz (I:=λk c a=>c=(none,())/\Keep κ P rk a₀ lo st a/\Up rk (arrOf a) lo (min k n)) (Q:=λc a=>c=(none,())/\Keep κ P rk a₀ lo st a/\Up rk (arrOf a) lo n) ?step ?fin ?init) ?post)
 case init=>exact⟨rfl,Keep.refl v,by rwa [Zi hok]⟩
 case fin =>
  rintro c a ⟨rfl,e,b⟩
  rw[show min (max ok n) n=n by lia]at b
  exact⟨rfl,e,b⟩
 case post =>
  rintro c a ⟨rfl,e,b⟩
  exact Jm (h a e b)
 case step =>
  rintro k c a B y ⟨rfl,e,b⟩
  rw[show min k n=k by lia]at b
  refine Jn (Z2 (Yz (I:=λx c st2=>st2=a/\∃ l r,c=(none,l,r)/\l<=r/\r<=k/\r-l<=k-x/\(∀ i,lo<=i->i<lo+l->R rk (arrOf a) i<=R rk (arrOf a) (lo+k))/\(∀ i,lo+r<=i->i<lo+k->R rk (arrOf a) (lo+k)<=R rk (arrOf a) i))
   (Q:=λc st2=>st2=a/\∃ l r,c=(none,l,r)/\l<=k/\(∀ i,lo<=i->i<lo+l->R rk (arrOf a) i<=R rk (arrOf a) (lo+k))/\(∀ i,lo+l<=i->i<lo+k->R rk (arrOf a) (lo+k)<=R rk (arrOf a) i)) ?istep ?ifin ?iinit) ?ipost)
  case iinit=>exact⟨rfl,0,k,rfl,by lia,by lia,by lia,λi _ _=>by lia,λi _ _=>by lia⟩
  case ifin =>
   rintro c st2 ⟨rfl,l,r,rfl,u,f,m,o,g⟩
   obtain rfl:l=r:=by lia
   exact⟨rfl,l,l,rfl,f,o,g⟩
  case istep =>
   rintro x c st2 _ F ⟨rfl,l,r,rfl,u,f,m,o,g⟩
   dsimp only
   by_cases ge:l>=r
   ·rw[Jf ge]
    obtain rfl:l=r:=by lia
    exact Jm ⟨rfl,l,l,rfl,f,o,g⟩
   ·rw[Jc ge]
    refine Jn (ziP C e.b (by lia) (by lia) ?_)
    by_cases z:R rk (arrOf st2) (lo+k)<R rk (arrOf st2) (lo+(l+r) / 2)
    ·rw[JB z]
     refine Jm ⟨rfl,l,(l+r) / 2,rfl,by lia,by lia,by lia,o,λi i1 i2=>?_⟩
     have:=b (lo+(l+r) / 2) i (by lia) i1 (by lia)
     lia
    ·rw[Jt z]
     refine Jm ⟨rfl,(l+r) / 2+1,r,rfl,by lia,by lia,by lia,λi i1 i2=>?_,g⟩
     have:=b i (lo+(l+r) / 2) i1 (by lia) (by lia)
     lia
  case ipost =>
   rintro c st2 ⟨rfl,l,r,rfl,D,o,g⟩
   dsimp only
   rw[moveDown'_eq]
   have sz:=e.b.size
   have p:∀ j,R rk (arrOf (setArr st2 (bubble (arrOf st2) (lo+k) (lo+k-(lo+l))))) j=if j=lo+l then R rk (arrOf st2) (lo+k) else if lo+l<j/\j<=lo+k then R rk (arrOf st2) (j-1) else R rk (arrOf st2) j:=λj=>by
    have:=R_bubble (rk:=rk) (xs:=arrOf st2) (src:=lo+k) (d:=lo+k-(lo+l)) (by rw[sz];lia) (by lia) j
    rw[show lo+k-(lo+k-(lo+l))=lo+l by lia]at this
    exact this
   refine Jn (Ws (Jm ⟨rfl,e.trans ⟨e.b.arr (bubble_perm _ _ _),rfl,λj t=>?_⟩,λi j hi q t=>?_⟩))
   ·rw[p,Jc (by lia),Jc (by lia)]
   ·rw[show min (k+1) n=k+1 by lia]at t
    rw[p,p]
    by_cases a1:i=lo+l
    ·rw[Jf a1]
     by_cases b1:j=lo+l
     ·rw[Jf b1];exact ZW _
     ·rw[Jc b1,Jf ⟨by lia,by lia⟩]
      exact g _ (by lia) (by lia)
    ·rw[Jc a1]
     by_cases a2:lo+l<i/\i<=lo+k
     ·rw[Jf a2,Jc (by lia),Jf ⟨by lia,by lia⟩]
      exact b _ _ (by lia) (by lia) (by lia)
     ·rw[Jc a2]
      by_cases b1:j=lo+l
      ·rw[Jf b1];exact o _ hi (by lia)
      ·rw[Jc b1]
       by_cases b2:lo+l<j/\j<=lo+k
       ·rw[Jf b2];exact b _ _ hi (by lia) (by lia)
       ·rw[Jc b2];exact b _ _ hi q (by lia)
end
def zmf:Bool->Keyed->Array Keyed->Nat->Nat->Nat->StateT SortSt Sem (Option Nat):=sortPriv% PySem.Builtin.gallop
def bd (left:Bool) (k r:Int):Bool:=if left=true then decide (r<k) else !decide (k<r)
theorem zmo {left:Bool}{k r a:Int}(h:r<=a) (b:bd left k a=true):bd left k r=true:=by
 unfold bd at *
 cases left
 ·simp only[Y9,Z1,W5,JX]at *;omega
 ·simp only[Yr,Y4]at *;omega
section
variable {prog:Program}{w:World}{A:Around}{E:Value->Shared->Prop}{s:Shared}{κ:SortKind}{P:Keyed->Prop}{rk:Keyed->Int}
theorem zjB (C:Cmp prog w A s κ P rk) {st:SortSt}{left:Bool}{key:Keyed}{arr:Array Keyed}{j:Nat}{Q:Option Bool->SortSt->Prop}(d:kindOf st=κ) (c:P key) (a:∃ p,arr[j]?=some p/\P p) (h:Q (some (bd left (rk key) (R rk arr j))) st) :
  wpS (model prog w) A E s (elem' arr j >>= λx=>if left=true then lt' x key else (lt' key x >>= λr=>pure (r.map λb=>!b))) Q st:=by
 obtain⟨p,e,pp⟩:=a
 have r:R rk arr j=rk p:=by unfold R;rw[e]
 rw[r]at h
 refine Jn (zan e ?_)
 unfold bd at h
 cases left
 ·rw[Jc Jp]at h ⊢
  exact Jn (ziO C d c pp (Jm h))
 ·rw[Jf rfl]at h ⊢
  exact ziO C d pp c h
theorem zbq (C:Cmp prog w A s κ P rk) {st:SortSt}{left:Bool}{key:Keyed}{arr:Array Keyed}{base n hint:Nat}{Q:Option Nat->SortSt->Prop}(y:kindOf st=κ) (v:P key) (e:∀ i,i<n->∃ p,arr[base+i]?=some p/\P p) (O:Up rk arr base n) (S:hint<n)
  (h:∀ k,k<=n->(∀ i,i<k->bd left (rk key) (R rk arr (base+i))=true)->(∀ i,k<=i->i<n->bd left (rk key) (R rk arr (base+i))=false)->Q (some k) st):wpS (model prog w) A E s (zmf left key arr base n hint) Q st:=by
 have F:∀ i j,i<=j->j<n->bd left (rk key) (R rk arr (base+j))=true->bd left (rk key) (R rk arr (base+i))=true:=λi j h1 D b=>zmo (O _ _ (by omega) (by omega) (by omega)) b
 have up:∀ i j,i<=j->j<n->bd left (rk key) (R rk arr (base+i))=false->bd left (rk key) (R rk arr (base+j))=false:=λi j h1 D b=>by
  cases q:bd left (rk key) (R rk arr (base+j)) with
  | false=>rfl
  | true=>rw[F i j h1 D q]at b;cases b
 refine Jn (zjB C y v (e hint S) ?_)
 dsimp only
 have half:∀ (lo hi:Nat) (f:Nat->Option (Option Nat) × Nat × Nat->StateT SortSt Sem (ForInStep (Option (Option Nat) × Nat × Nat))),lo<=hi->hi<=n ->
   (∀ i,i<lo->bd left (rk key) (R rk arr (base+i))=true)->(∀ i,hi<=i->i<n->bd left (rk key) (R rk arr (base+i))=false) ->
   (∀ x l r (t:ForInStep (Option (Option Nat) × Nat × Nat)->SortSt->Prop),(r<=l->t (.done (none,l,r)) st)->(l<r->r<=n->bd left (rk key) (R rk arr (base+(l+(r-l) / 2)))=true->t (.yield (none,l+(r-l) / 2+1,r)) st) ->
    (l<r->r<=n->bd left (rk key) (R rk arr (base+(l+(r-l) / 2)))=false->t (.yield (none,l,l+(r-l) / 2)) st)->r<=n->wpS (model prog w) A E s (f x (none,l,r)) t st) ->
   wpS (model prog w) A E s (forIn [:n] (none,lo,hi) f) (λc st'=>st'=st/\∃ k,c=(none,k,k)/\Q (some k) st) st:=by
  intro lo hi f h1 D V U T
  refine Yz (I:=λx c st'=>st'=st/\∃ l r,c=(none,l,r)/\l<=r/\r<=n/\r-l<=n-x/\(∀ i,i<l->bd left (rk key) (R rk arr (base+i))=true)/\(∀ i,r<=i->i<n->bd left (rk key) (R rk arr (base+i))=false)) ?_ ?_ ⟨rfl,lo,hi,rfl,h1,D,by omega,V,U⟩
  ·rintro x c st' _ M ⟨rfl,l,r,rfl,N,d,m,a1,a2⟩
   refine T x l r _ (λz=>?_) (λz1 z2 b=>?_) (λz1 z2 b=>?_) d
   ·obtain rfl:l=r:=by omega
    exact⟨rfl,l,rfl,h l d a1 a2⟩
   ·exact⟨rfl,_,r,rfl,by omega,d,by omega,λi B=>F i _ (by omega) (by omega) b,a2⟩
   ·exact⟨rfl,l,_,rfl,by omega,by omega,by omega,a1,λi i1 i2=>up _ i i1 i2 b⟩
  ·rintro c st' ⟨rfl,l,r,rfl,N,d,m,a1,a2⟩
   obtain rfl:l=r:=by omega
   exact⟨rfl,l,rfl,h l d a1 a2⟩
 cases hb:bd left (rk key) (R rk arr (base+hint)) with
 | true =>
  rw[Jf rfl]
  refine Jn (Z2 (Yz (I:=λx c st'=>st'=st/\∃ l o,c=(none,l,o)/\x+1<=o/\l<o/\hint+l<n/\bd left (rk key) (R rk arr (base+(hint+l)))=true)
   (Q:=λc st'=>st'=st/\∃ l o,c=(none,l,o)/\l<o/\hint+l<n/\bd left (rk key) (R rk arr (base+(hint+l)))=true/\(o<n-hint->bd left (rk key) (R rk arr (base+(hint+o)))=false)) ?_ ?_ ⟨rfl,0,1,rfl,by omega,by omega,by omega,hb⟩) ?_)
  ·rintro x c st' _ M ⟨rfl,l,o,rfl,G,a,ln,b⟩
   dsimp only
   by_cases z:o>=n-hint
   ·rw[Jf z]
    exact Jm ⟨rfl,l,o,rfl,a,ln,b,λq=>by omega⟩
   ·rw[Jc z]
    refine Jn (zjB C y v (e (hint+o) (by omega)) ?_)
    cases q:bd left (rk key) (R rk arr (base+(hint+o))) with
    | true=>exact Jm ⟨rfl,o,2*o+1,rfl,by omega,by omega,by omega,q⟩
    | false=>exact Jm ⟨rfl,l,o,rfl,a,ln,b,λ_=>q⟩
  ·rintro c st' ⟨rfl,l,o,rfl,G,a,ln,b⟩
   exact⟨rfl,l,o,rfl,a,ln,b,λq=>by omega⟩
  ·rintro c st' ⟨rfl,l,o,rfl,a,ln,b,nb⟩
   dsimp only
   refine Jn (Z2 (half _ _ _ (by omega) (by omega) (λi B=>F i _ (by omega) ln b) (λi i1 i2=>?_) ?_) ?_)
   ·have q:o<n-hint:=by omega
    exact up _ i (by omega) i2 (nb q)
   ·intro x g u t K J H d
    dsimp only
    by_cases z:g>=u
    ·rw[Jf z];exact Jm (K z)
    ·rw[Jc z]
     refine Jn (zjB C y v (e _ (by omega)) ?_)
     cases q:bd left (rk key) (R rk arr (base+(g+(u-g) / 2))) with
     | true=>exact Jm (J (by omega) d q)
     | false=>exact Jm (H (by omega) d q)
   ·rintro c st' ⟨rfl,k,rfl,L⟩
    exact Jm L
 | false =>
  rw[Jc Jp]
  refine Jn (Z2 (Yz (I:=λx c st'=>st'=st/\∃ l o,c=(none,l,o)/\x+1<=o/\l<o/\l<=hint/\bd left (rk key) (R rk arr (base+(hint-l)))=false)
   (Q:=λc st'=>st'=st/\∃ l o,c=(none,l,o)/\l<o/\l<=hint/\bd left (rk key) (R rk arr (base+(hint-l)))=false/\(o<hint+1->bd left (rk key) (R rk arr (base+(hint-o)))=true)) ?_ ?_ ⟨rfl,0,1,rfl,by omega,by omega,by omega,hb⟩) ?_)
  ·rintro x c st' _ M ⟨rfl,l,o,rfl,G,a,ln,b⟩
   dsimp only
   by_cases z:o>=hint+1
   ·rw[Jf z]
    exact Jm ⟨rfl,l,o,rfl,a,ln,b,λq=>by omega⟩
   ·rw[Jc z]
    refine Jn (zjB C y v (e (hint-o) (by omega)) ?_)
    cases q:bd left (rk key) (R rk arr (base+(hint-o))) with
    | true=>exact Jm ⟨rfl,l,o,rfl,a,ln,b,λ_=>q⟩
    | false=>exact Jm ⟨rfl,o,2*o+1,rfl,by omega,by omega,by omega,q⟩
  ·rintro c st' ⟨rfl,l,o,rfl,G,a,ln,b⟩
   exact⟨rfl,l,o,rfl,a,ln,b,λq=>by omega⟩
  ·rintro c st' ⟨rfl,l,o,rfl,a,ln,b,nb⟩
   dsimp only
   refine Jn (Z2 (half _ _ _ (by omega) (by omega) (λi B=>?_) (λi i1 i2=>up _ i i1 i2 b) ?_) ?_)
   ·have q:o<hint+1:=by omega
    exact F i _ (by omega) (by omega) (nb q)
   ·intro x g u t K J H d
    dsimp only
    by_cases z:g>=u
    ·rw[Jf z];exact Jm (K z)
    ·rw[Jc z]
     refine Jn (zjB C y v (e _ (by omega)) ?_)
     cases q:bd left (rk key) (R rk arr (base+(g+(u-g) / 2))) with
     | true=>exact Jm (J (by omega) d q)
     | false=>exact Jm (H (by omega) d q)
   ·rintro c st' ⟨rfl,k,rfl,L⟩
    exact Jm L
end
def Srt (rk:Keyed->Int) (l:List Keyed):Prop:=l.Pairwise λx y=>rk x<=rk y
structure Lo (rk:Keyed->Int) (T out a b:List Keyed):Prop where
 so:Srt rk out
 sa:Srt rk a
 sb:Srt rk b
 oa:∀ x∈out,∀ y∈a,rk x<=rk y
 ob:∀ x∈out,∀ y∈b,rk x<=rk y
 pm:(out++(a++b)).Perm T
section
variable {rk:Keyed->Int}{T out a b c:List Keyed}
theorem Lo.swap (h:Lo rk T out a b):Lo rk T out b a:=⟨h.so,h.sb,h.sa,h.ob,h.oa,((W7 (l₁:=b) (l₂:=a)).append_left out).trans h.pm⟩
theorem Lo.take (h:Lo rk T out (c++a) b) (le:∀ x∈c,∀ y∈b,rk x<=rk y):Lo rk T (out++c) a b:=by
 obtain⟨s1,s2,f⟩:=Yu.mp h.sa
 refine⟨Yu.mpr ⟨h.so,s1,λx e y d=>h.oa x e y (Yh _ d)⟩,s2,h.sb,λx e y d=>?_,λx e y d=>?_,?_⟩
 ·rcases Jz.mp e with q|q
  ·exact h.oa x q y (Jy _ d)
  ·exact f x q y d
 ·rcases Jz.mp e with q|q
  ·exact h.ob x q y d
  ·exact le x q y d
 ·have:=h.pm
  rw[JQ]at this ⊢
  exact this
theorem Lo.end (h:Lo rk T out a []):(out++a).Perm T/\Srt rk (out++a):=by
 have:=h.pm
 rw[Y5]at this
 exact⟨this,Yu.mpr ⟨h.so,h.sa,h.oa⟩⟩
theorem Lo.lone (h:Lo rk T out a b) (le:∀ x∈b,∀ y∈a,rk x<=rk y):(out++b++a).Perm T/\Srt rk (out++b++a):=by
 refine⟨?_,Yu.mpr ⟨Yu.mpr ⟨h.so,h.sb,h.ob⟩,h.sa,λx d y c=>?_⟩⟩
 ·rw[JQ]
  exact((W7 (l₁:=b) (l₂:=a)).append_left out).trans h.pm
 ·rcases Jz.mp d with q|q
  ·exact h.oa x q y c
  ·exact le x q y c
theorem zfV {arr:Array Keyed}{i:Nat}{p:Keyed}(e:arr[i]?=some p):arr.toList.drop i=p::arr.toList.drop (i+1):=by
 obtain⟨hi,e⟩:=JY.mp e
 have a:i<arr.toList.length:=by rw[JC];exact hi
 rw[Yv a,Array.getElem_toList,e]
theorem zet (arr:Array Keyed) (i k:Nat):arr.toList.drop i=(arr.extract i (i+k)).toList++arr.toList.drop (i+k):=by
 rw[Zu,Z4,Nat.add_sub_cancel_left,<- List.drop_drop,Zk]
theorem zdY (arr:Array Keyed) (i:Nat):(arr.extract i).toList=arr.toList.drop i:=by
 rw[Zu,Z4]
 exact JG (by rw[Y6,JC];exact Jg _)
theorem cut_mem {arr:Array Keyed}{i k:Nat}{x:Keyed}(h:x∈(arr.extract i (i+k)).toList):∃ j,j<k/\arr[i+j]?=some x:=by
 rw[Zu,Z4,Nat.add_sub_cancel_left]at h
 obtain⟨j,a⟩:=Zm.mp h
 have b:j<k:=by
  have:=(Jd.mp a).1
  rw[Jw]at this;lia
 rw[Zb b,Wt]at a
 exact⟨j,b,by rw[<- Y8];exact a⟩
theorem zbL {arr:Array Keyed}{i:Nat}{x:Keyed}(h:x∈arr.toList.drop i):∃ j,arr[i+j]?=some x:=by
 obtain⟨j,a⟩:=Zm.mp h
 rw[Wt]at a
 exact⟨j,by rw[<- Y8];exact a⟩
theorem R_at {arr:Array Keyed}{i:Nat}{p:Keyed}(e:arr[i]?=some p):R rk arr i=rk p:=by unfold R;rw[e]
theorem zcg {arr:Array Keyed}(h:Srt rk arr.toList) {base n:Nat}(c:base+n<=arr.size):Up rk arr base n:=by
 intro i j hi b d
 have h1:arr[i]?=some arr[i]:=getElem?_pos arr i (by lia)
 have a:arr[j]?=some arr[j]:=getElem?_pos arr j (by lia)
 rw[R_at h1,R_at a]
 by_cases z:i=j
 ·subst z;exact ZW _
 ·have:=List.pairwise_iff_getElem.mp h i j (by rw[JC];lia) (by rw[JC];lia) (by lia)
  simpa using this
theorem zbR {arr:Array Keyed}{i:Nat}{p:Keyed}(h:Srt rk arr.toList) (e:arr[i]?=some p):∀ y∈arr.toList.drop i,rk p<=rk y:=by
 have a:Srt rk (arr.toList.drop i):=List.Pairwise.drop h
 rw[zfV e]at a ⊢
 obtain⟨h1,_⟩:=List.pairwise_cons.mp a
 intro y b
 rcases Ju.mp b with rfl|q
 ·exact ZW _
 ·exact h1 y q
end
section
variable {rk:Keyed->Int}{T:List Keyed}{out a b:Array Keyed}{ia ib k:Nat}{p:Keyed}
abbrev At (rk:Keyed->Int) (T:List Keyed) (out a b:Array Keyed) (ia ib:Nat):Prop:=Lo rk T out.toList (a.toList.drop ia) (b.toList.drop ib)
theorem At.pushA (h:At rk T out a b ia ib) (e:a[ia]?=some p) (le:∀ y∈b.toList.drop ib,rk p<=rk y):At rk T (out.push p) a b (ia+1) ib:=by
 have h':=h
 unfold At at h' ⊢
 rw[zfV e]at h'
 rw[Zq]
 exact Lo.take (c:=[p]) h' λx f y d=>by rw[Je.mp f];exact le y d
theorem At.pushB (h:At rk T out a b ia ib) (e:b[ib]?=some p) (le:∀ y∈a.toList.drop ia,rk p<=rk y):At rk T (out.push p) a b ia (ib+1):=(At.pushA (a:=b) (b:=a) h.swap e le).swap
theorem At.cutA (h:At rk T out a b ia ib) (le:∀ j x,j<k->a[ia+j]?=some x->∀ y∈b.toList.drop ib,rk x<=rk y):At rk T (out++a.extract ia (ia+k)) a b (ia+k) ib:=by
 have h':=h
 unfold At at h' ⊢
 rw[zet a ia k]at h'
 rw[Ya]
 exact Lo.take h' λx f y d=>by
  obtain⟨j,c,e⟩:=cut_mem f
  exact le j x c e y d
theorem At.cutB (h:At rk T out a b ia ib) (le:∀ j x,j<k->b[ib+j]?=some x->∀ y∈a.toList.drop ia,rk x<=rk y):At rk T (out++b.extract ib (ib+k)) a b ia (ib+k):=(At.cutA (a:=b) (b:=a) h.swap le).swap
theorem At.endB (h:At rk T out a b ia ib) (z:b.size<=ib):(out++a.extract ia++b.extract ib).toList.Perm T/\Srt rk (out++a.extract ia++b.extract ib).toList:=by
 have h':=h
 unfold At at h'
 have e:b.toList.drop ib=[]:=List.drop_eq_nil_iff.mpr (by rw[JC];exact z)
 rw[e]at h'
 rw[Ya,Ya,zdY,zdY,e,Y5]
 exact h'.end
theorem At.endA (h:At rk T out a b ia ib) (z:a.size<=ia):(out++a.extract ia++b.extract ib).toList.Perm T/\Srt rk (out++a.extract ia++b.extract ib).toList:=by
 have h':=h.swap
 have e:a.toList.drop ia=[]:=List.drop_eq_nil_iff.mpr (by rw[JC];exact z)
 rw[e]at h'
 rw[Ya,Ya,zdY,zdY,e,Y5]
 exact h'.end
theorem At.lastA (h:At rk T out a b ia ib) (le:∀ x∈b.toList.drop ib,∀ y∈a.toList.drop ia,rk x<=rk y):(out++b.extract ib++a.extract ia).toList.Perm T/\Srt rk (out++b.extract ib++a.extract ia).toList:=by
 rw[Ya,Ya,zdY,zdY]
 exact Lo.lone h le
end
def zks:Array Keyed->Array Keyed->StateT SortSt Sem (Array Keyed):=sortPriv% PySem.Builtin.mergeLo
def zlw:Nat->StateT SortSt Sem Unit:=sortPriv% PySem.Builtin.setMinGallop
structure Sm (st st':SortSt):Prop where
 kind:kindOf st'=kindOf st
 arr:arrOf st'=arrOf st
 pend:pendingOf st'=pendingOf st
 fail:failedOf st'=failedOf st
theorem Sm.refl (st:SortSt):Sm st st:=⟨rfl,rfl,rfl,rfl⟩
theorem Sm.trans {a b c:SortSt}(h:Sm a b) (g:Sm b c):Sm a c:=⟨g.kind.trans h.kind,g.arr.trans h.arr,g.pend.trans h.pend,g.fail.trans h.fail⟩
section
variable {prog:Program}{w:World}{A:Around}{E:Value->Shared->Prop}{s:Shared}{κ:SortKind}{P:Keyed->Prop}{rk:Keyed->Int}
theorem zdQ {st:SortSt}{g:Nat}{Q:Unit->SortSt->Prop}(h:∀ st',Sm st st'->Q () st'):wpS (model prog w) A E s (zlw g) Q st :=
 Ws (h _ ⟨rfl,rfl,rfl,rfl⟩)
theorem znD (C:Cmp prog w A s κ P rk) {st:SortSt}{a b:Array Keyed}{Q:Array Keyed->SortSt->Prop}(hk:kindOf st=κ) (pa:∀ x∈a.toList,P x) (pb:∀ x∈b.toList,P x) (sa:Srt rk a.toList) (sb:Srt rk b.toList) (a1:1<=a.size) (b1:1<=b.size)
  (first:∀ x,b[0]?=some x->∀ y∈a.toList,rk x<=rk y) (last:∀ x,a[a.size-1]?=some x->∀ y∈b.toList,rk y<=rk x)
  (h:∀ r st',Sm st st'->r.toList.Perm (a.toList++b.toList)->Srt rk r.toList->Q r st'):wpS (model prog w) A E s (zks a b) Q st:=by
 have U:∀ i,i<a.size->∃ x,a[i]?=some x/\P x:=λi hi=>⟨_,getElem?_pos a i hi,pa _ (by simp)⟩
 have T:∀ i,i<b.size->∃ x,b[i]?=some x/\P x:=λi hi=>⟨_,getElem?_pos b i hi,pb _ (by simp)⟩
 obtain⟨b0,e0,_⟩:=T 0 b1
 have lone:∀ {out:Array Keyed}{ia ib:Nat},At rk (a.toList++b.toList) out a b ia ib->ia+1=a.size->(out++b.extract ib++a.extract ia).toList.Perm (a.toList++b.toList)/\Srt rk (out++b.extract ib++a.extract ia).toList:=λ{out ia ib} L z=>L.lastA λx hx y hy=>by
  obtain⟨j,ej⟩:=zbL hy
  have:=(JY.mp ej).1
  exact last y (by rw[show a.size-1=ia+j by lia];exact ej) x (Zv hx)
 have L0:At rk (a.toList++b.toList) #[b0] a b 0 1:=by
  have e:=zfV e0
  rw[W0]at e
  have hb:=sb
  unfold Srt at hb
  rw[e]at hb
  obtain⟨h1,h2⟩:=List.pairwise_cons.mp hb
  refine⟨List.pairwise_singleton _ _,by rw[W0];exact sa,h2,λx hx y hy=>?_,λx hx y hy=>?_,?_⟩
  ·rw[Je.mp hx];exact first b0 e0 y (Zv hy)
  ·rw[Je.mp hx];exact h1 y hy
  ·rw[W0]
   conv=>rhs;rw[e]
   show (b0::(a.toList++b.toList.drop 1)).Perm (a.toList++b0::b.toList.drop 1)
   exact List.perm_middle.symm
 have size:∀ {out:Array Keyed}{ia ib:Nat},At rk (a.toList++b.toList) out a b ia ib->out.size<=a.size+b.size:=λ{out ia ib} L=>by
  have:=L.pm.length_eq
  simp only[Jb,JC]at this
  lia
 refine Jn (zcO ?_)
 refine Jn (zan e0 ?_)
 dsimp only
 by_cases z1:1=b.size
 ·rw[Jf (by simpa using z1)]
  obtain⟨l,f⟩:=L0.endB (by lia)
  exact Jm (h _ _ (Sm.refl _) l f)
 rw[Jc (by simpa using z1)]
 by_cases z2:0+1=a.size
 ·rw[Jf (by simpa using z2)]
  obtain⟨l,f⟩:=lone L0 z2
  exact Jm (h _ _ (Sm.refl _) l f)
 rw[Jc (by simpa using z2)]
 refine Jn (Wq ?_)
 refine Jn (Z2 (Yz (I:=λi c M=>Sm st M/\∃ out ia ib g,c=(none,out,ia,ib,g)/\At rk (a.toList++b.toList) out a b ia ib/\ia+1<a.size/\ib<b.size/\i+1<=out.size)
  (Q:=λc M=>Sm st M/\∃ r x,c=(some r,x)/\r.toList.Perm (a.toList++b.toList)/\Srt rk r.toList) ?step ?fin ⟨Sm.refl _,_,_,_,_,rfl,L0,by lia,by lia,by simp⟩) ?post)
 case post =>
  rintro c M ⟨S1,r,x,rfl,l,f⟩
  exact Jm (h _ _ S1 l f)
 case fin =>
  rintro c M ⟨S1,out,ia,ib,g,rfl,L,_,_,sz⟩
  have:=size L
  lia
 case step =>
  rintro i c M _ hi ⟨S1,out,ia,ib,g,rfl,L,la,V,sz⟩
  dsimp only
  refine Jn (Z2 (Yz (I:=λj c st2=>st2=M/\∃ out ia ib ca W,c=(none,out,ia,ib,ca,W)/\At rk (a.toList++b.toList) out a b ia ib/\ia+1<a.size/\ib<b.size/\i+1+j<=out.size)
   (Q:=λc st2=>st2=M/\((∃ r x,c=(some r,x)/\r.toList.Perm (a.toList++b.toList)/\Srt rk r.toList)\/∃ out ia ib ca W,c=(none,out,ia,ib,ca,W)/\At rk (a.toList++b.toList) out a b ia ib/\ia+1<a.size/\ib<b.size/\i+2<=out.size)) ?_ ?_ ⟨rfl,_,_,_,_,_,rfl,L,la,V,by lia⟩) ?_)
  ·rintro j c st2 _ hj ⟨rfl,out,ia,ib,ca,W,rfl,L,la,V,sz⟩
   dsimp only
   obtain⟨x,ex,px⟩:=U ia (by lia)
   obtain⟨y,J,py⟩:=T ib V
   refine Jn (zan J (Jn (zan ex (Jn (ziO C (S1.kind.trans hk) py px ?_)))))
   by_cases z:rk y<rk x
   ·rw[JB z]
    dsimp only
    rw[Jf rfl]
    have L':=L.pushB J λu N=>ZC (Int.le_of_lt z) (zbR sa ex u N)
    refine Jn (zan J ?_)
    by_cases H:ib+1=b.size
    ·rw[Jf (by simpa using H)]
     obtain⟨l,f⟩:=L'.endB (by lia)
     exact Jm ⟨rfl,.inl ⟨_,_,rfl,l,f⟩⟩
    ·rw[Jc (by simpa using H)]
     by_cases zg:W+1>=g
     ·rw[Jf zg]
      exact Jm ⟨rfl,.inr ⟨_,_,_,_,_,rfl,L',la,by lia,by rw[JA];lia⟩⟩
     ·rw[Jc zg]
      exact Jm ⟨rfl,_,_,_,_,_,rfl,L',la,by lia,by rw[JA];lia⟩
   ·rw[Jt z]
    dsimp only
    rw[Jc Jp]
    have L':=L.pushA ex λu N=>ZC (by lia) (zbR sb J u N)
    refine Jn (zan ex ?_)
    by_cases H:ia+1+1=a.size
    ·rw[Jf (by simpa using H)]
     obtain⟨l,f⟩:=lone L' H
     exact Jm ⟨rfl,.inl ⟨_,_,rfl,l,f⟩⟩
    ·rw[Jc (by simpa using H)]
     by_cases zg:ca+1>=g
     ·rw[Jf zg]
      exact Jm ⟨rfl,.inr ⟨_,_,_,_,_,rfl,L',by lia,V,by rw[JA];lia⟩⟩
     ·rw[Jc zg]
      exact Jm ⟨rfl,_,_,_,_,_,rfl,L',by lia,V,by rw[JA];lia⟩
  ·rintro c st2 ⟨rfl,out,ia,ib,ca,W,rfl,L,la,V,sz⟩
   have:=size L
   lia
  ·rintro c st2 ⟨rfl,⟨r,x,rfl,l,f⟩|⟨out,ia,ib,ca,W,rfl,L,la,V,sz⟩⟩
   ·exact Jm ⟨S1,r,_,rfl,l,f⟩
   dsimp only
   refine Jn (zcO ?_)
   refine Jn (Z2 (Yz (I:=λj c X=>Sm st X/\∃ out ia ib g ca W,c=(none,out,ia,ib,g,ca,W)/\At rk (a.toList++b.toList) out a b ia ib/\ia+1<a.size/\ib<b.size/\i+2<=out.size)
    (Q:=λc X=>Sm st X/\((∃ r x,c=(some r,x)/\r.toList.Perm (a.toList++b.toList)/\Srt rk r.toList)\/∃ out ia ib g ca W,c=(none,out,ia,ib,g,ca,W)/\At rk (a.toList++b.toList) out a b ia ib/\ia+1<a.size/\ib<b.size/\i+2<=out.size)) ?_ ?_ ⟨S1,_,_,_,_,_,_,rfl,L,la,V,sz⟩) ?_)
   ·rintro j c X _ hj ⟨S3,out,ia,ib,g,ca,W,rfl,L,la,V,sz⟩
    dsimp only
    obtain⟨y,J,py⟩:=T ib V
    by_cases zg:g > 1
    ·rw[Jf zg]
     refine Jn (zdQ λad m=>?_)
     have m:=S3.trans m
     refine Jn (zan J (Jn (zbq C (m.kind.trans hk) py (λt ht=>U (ia+t) (by lia)) (zcg sa (by lia)) (by lia) λk ae g1 g2=>?_)))
     dsimp only
     have O:=L.cutA (k:=k) λt u tk eu v Z=>by
      have:=g1 t tk
      rw[R_at eu]at this
      unfold bd at this
      simp only[Y9,Z1,W5,JX]at this
      have:=zbR sb J v Z
      lia
     have hle:∀ u∈a.toList.drop (ia+k),rk y<=rk u:=λu N=>by
      obtain⟨t,K⟩:=zbL N
      have tl:=(JY.mp K).1
      have:=g2 (k+t) (by lia) (by lia)
      rw[<- Zj,R_at K]at this
      unfold bd at this
      simp only[Y9,Z1,Wu,Y4]at this
      lia
     have D:i+2<=(out++a.extract ia (ia+k)).size:=by rw[Jx];lia
     by_cases zk:k > 0
     ·rw[Jf zk]
      by_cases za:ia+k+1=a.size
      ·rw[Jf (by simpa using za)]
       obtain⟨l,f⟩:=lone O za
       exact Jm ⟨m,.inl ⟨_,_,rfl,l,f⟩⟩
      rw[Jc (by simpa using za)]
      by_cases zc:ia+k=a.size
      ·rw[Jf (by simpa using zc)]
       obtain⟨l,f⟩:=O.endA (by lia)
       exact Jm ⟨m,.inl ⟨_,_,rfl,l,f⟩⟩
      rw[Jc (by simpa using zc)]
      have G:ia+k+1<a.size:=by lia
      generalize ia+k=S at O hle G D ⊢
      generalize out++a.extract ia S=out1 at O D ⊢
      refine Jn (zan J ?_)
      have L2:=O.pushB J hle
      by_cases H:ib+1=b.size
      ·rw[Jf (by simpa using H)]
       obtain⟨l,f⟩:=L2.endB (by lia)
       exact Jm ⟨m,.inl ⟨_,_,rfl,l,f⟩⟩
      rw[Jc (by simpa using H)]
      obtain⟨x1,d,R⟩:=U _ (Nat.lt_of_succ_lt G)
      refine Jn (zan d (Jn (zbq C (m.kind.trans hk) R (λt ht=>T (ib+1+t) (by lia)) (zcg sb (by lia)) (by lia) λp ab c1 c2=>?_)))
      dsimp only
      have L3:=L2.cutB (k:=p) λt u tk eu v Z=>by
       have:=c1 t tk
       rw[R_at eu]at this
       unfold bd at this
       simp only[Yr,Y4]at this
       have:=zbR sa d v Z
       lia
      have n:∀ u∈b.toList.drop (ib+1+p),rk x1<=rk u:=λu N=>by
       obtain⟨t,K⟩:=zbL N
       have tl:=(JY.mp K).1
       have:=c2 (p+t) (by lia) (by lia)
       rw[<- Zj,R_at K]at this
       unfold bd at this
       simp only[Yr,JX]at this
       lia
      have aa:=D
      by_cases B:p > 0
      ·rw[Jf B]
       by_cases Y:ib+1+p=b.size
       ·rw[Jf (by simpa using Y)]
        obtain⟨l,f⟩:=L3.endB (by lia)
        exact Jm ⟨m,.inl ⟨_,_,rfl,l,f⟩⟩
       rw[Jc (by simpa using Y)]
       have F:ib+1+p<b.size:=by lia
       refine Jn (zan d ?_)
       have q:=L3.pushA d n
       by_cases o:S+1+1=a.size
       ·rw[Jf (by simpa using o)]
        obtain⟨l,f⟩:=lone q o
        exact Jm ⟨m,.inl ⟨_,_,rfl,l,f⟩⟩
       rw[Jc (by simpa using o)]
       split
       ·exact Jm ⟨m,.inr ⟨_,_,_,_,_,_,rfl,q,by lia,F,by simp only[JA,Jx];lia⟩⟩
       ·exact Jm ⟨m,_,_,_,_,_,_,rfl,q,by lia,F,by simp only[JA,Jx];lia⟩
      ·rw[Jc B]
       obtain rfl:p=0:=by lia
       rw[YR]at n
       refine Jn (zan d ?_)
       have q:=L2.pushA d n
       by_cases o:S+1+1=a.size
       ·rw[Jf (by simpa using o)]
        obtain⟨l,f⟩:=lone q o
        exact Jm ⟨m,.inl ⟨_,_,rfl,l,f⟩⟩
       rw[Jc (by simpa using o)]
       split
       ·exact Jm ⟨m,.inr ⟨_,_,_,_,_,_,rfl,q,by lia,by lia,by simp only[JA,Jx];lia⟩⟩
       ·exact Jm ⟨m,_,_,_,_,_,_,rfl,q,by lia,by lia,by simp only[JA,Jx];lia⟩
     ·rw[Jc zk]
      obtain rfl:k=0:=by lia
      have O:=L
      have G:=la
      have D:=sz
      rw[YR]at hle
      refine Jn (zan J ?_)
      have L2:=O.pushB J hle
      by_cases H:ib+1=b.size
      ·rw[Jf (by simpa using H)]
       obtain⟨l,f⟩:=L2.endB (by lia)
       exact Jm ⟨m,.inl ⟨_,_,rfl,l,f⟩⟩
      rw[Jc (by simpa using H)]
      obtain⟨x1,d,R⟩:=U _ (Nat.lt_of_succ_lt G)
      refine Jn (zan d (Jn (zbq C (m.kind.trans hk) R (λt ht=>T (ib+1+t) (by lia)) (zcg sb (by lia)) (by lia) λp ab c1 c2=>?_)))
      dsimp only
      have L3:=L2.cutB (k:=p) λt u tk eu v Z=>by
       have:=c1 t tk
       rw[R_at eu]at this
       unfold bd at this
       simp only[Yr,Y4]at this
       have:=zbR sa d v Z
       lia
      have n:∀ u∈b.toList.drop (ib+1+p),rk x1<=rk u:=λu N=>by
       obtain⟨t,K⟩:=zbL N
       have tl:=(JY.mp K).1
       have:=c2 (p+t) (by lia) (by lia)
       rw[<- Zj,R_at K]at this
       unfold bd at this
       simp only[Yr,JX]at this
       lia
      have aa:=D
      by_cases B:p > 0
      ·rw[Jf B]
       by_cases Y:ib+1+p=b.size
       ·rw[Jf (by simpa using Y)]
        obtain⟨l,f⟩:=L3.endB (by lia)
        exact Jm ⟨m,.inl ⟨_,_,rfl,l,f⟩⟩
       rw[Jc (by simpa using Y)]
       have F:ib+1+p<b.size:=by lia
       refine Jn (zan d ?_)
       have q:=L3.pushA d n
       by_cases o:ia+1+1=a.size
       ·rw[Jf (by simpa using o)]
        obtain⟨l,f⟩:=lone q o
        exact Jm ⟨m,.inl ⟨_,_,rfl,l,f⟩⟩
       rw[Jc (by simpa using o)]
       split
       ·exact Jm ⟨m,.inr ⟨_,_,_,_,_,_,rfl,q,by lia,F,by simp only[JA,Jx];lia⟩⟩
       ·exact Jm ⟨m,_,_,_,_,_,_,rfl,q,by lia,F,by simp only[JA,Jx];lia⟩
      ·rw[Jc B]
       obtain rfl:p=0:=by lia
       rw[YR]at n
       refine Jn (zan d ?_)
       have q:=L2.pushA d n
       by_cases o:ia+1+1=a.size
       ·rw[Jf (by simpa using o)]
        obtain⟨l,f⟩:=lone q o
        exact Jm ⟨m,.inl ⟨_,_,rfl,l,f⟩⟩
       rw[Jc (by simpa using o)]
       split
       ·exact Jm ⟨m,.inr ⟨_,_,_,_,_,_,rfl,q,by lia,by lia,by simp only[JA,Jx];lia⟩⟩
       ·exact Jm ⟨m,_,_,_,_,_,_,rfl,q,by lia,by lia,by simp only[JA,Jx];lia⟩
    ·rw[Jc zg]
     refine Jn (zdQ λad m=>?_)
     have m:=S3.trans m
     refine Jn (zan J (Jn (zbq C (m.kind.trans hk) py (λt ht=>U (ia+t) (by lia)) (zcg sa (by lia)) (by lia) λk ae g1 g2=>?_)))
     dsimp only
     have O:=L.cutA (k:=k) λt u tk eu v Z=>by
      have:=g1 t tk
      rw[R_at eu]at this
      unfold bd at this
      simp only[Y9,Z1,W5,JX]at this
      have:=zbR sb J v Z
      lia
     have hle:∀ u∈a.toList.drop (ia+k),rk y<=rk u:=λu N=>by
      obtain⟨t,K⟩:=zbL N
      have tl:=(JY.mp K).1
      have:=g2 (k+t) (by lia) (by lia)
      rw[<- Zj,R_at K]at this
      unfold bd at this
      simp only[Y9,Z1,Wu,Y4]at this
      lia
     have D:i+2<=(out++a.extract ia (ia+k)).size:=by rw[Jx];lia
     by_cases zk:k > 0
     ·rw[Jf zk]
      by_cases za:ia+k+1=a.size
      ·rw[Jf (by simpa using za)]
       obtain⟨l,f⟩:=lone O za
       exact Jm ⟨m,.inl ⟨_,_,rfl,l,f⟩⟩
      rw[Jc (by simpa using za)]
      by_cases zc:ia+k=a.size
      ·rw[Jf (by simpa using zc)]
       obtain⟨l,f⟩:=O.endA (by lia)
       exact Jm ⟨m,.inl ⟨_,_,rfl,l,f⟩⟩
      rw[Jc (by simpa using zc)]
      have G:ia+k+1<a.size:=by lia
      generalize ia+k=S at O hle G D ⊢
      generalize out++a.extract ia S=out1 at O D ⊢
      refine Jn (zan J ?_)
      have L2:=O.pushB J hle
      by_cases H:ib+1=b.size
      ·rw[Jf (by simpa using H)]
       obtain⟨l,f⟩:=L2.endB (by lia)
       exact Jm ⟨m,.inl ⟨_,_,rfl,l,f⟩⟩
      rw[Jc (by simpa using H)]
      obtain⟨x1,d,R⟩:=U _ (Nat.lt_of_succ_lt G)
      refine Jn (zan d (Jn (zbq C (m.kind.trans hk) R (λt ht=>T (ib+1+t) (by lia)) (zcg sb (by lia)) (by lia) λp ab c1 c2=>?_)))
      dsimp only
      have L3:=L2.cutB (k:=p) λt u tk eu v Z=>by
       have:=c1 t tk
       rw[R_at eu]at this
       unfold bd at this
       simp only[Yr,Y4]at this
       have:=zbR sa d v Z
       lia
      have n:∀ u∈b.toList.drop (ib+1+p),rk x1<=rk u:=λu N=>by
       obtain⟨t,K⟩:=zbL N
       have tl:=(JY.mp K).1
       have:=c2 (p+t) (by lia) (by lia)
       rw[<- Zj,R_at K]at this
       unfold bd at this
       simp only[Yr,JX]at this
       lia
      have aa:=D
      by_cases B:p > 0
      ·rw[Jf B]
       by_cases Y:ib+1+p=b.size
       ·rw[Jf (by simpa using Y)]
        obtain⟨l,f⟩:=L3.endB (by lia)
        exact Jm ⟨m,.inl ⟨_,_,rfl,l,f⟩⟩
       rw[Jc (by simpa using Y)]
       have F:ib+1+p<b.size:=by lia
       refine Jn (zan d ?_)
       have q:=L3.pushA d n
       by_cases o:S+1+1=a.size
       ·rw[Jf (by simpa using o)]
        obtain⟨l,f⟩:=lone q o
        exact Jm ⟨m,.inl ⟨_,_,rfl,l,f⟩⟩
       rw[Jc (by simpa using o)]
       split
       ·exact Jm ⟨m,.inr ⟨_,_,_,_,_,_,rfl,q,by lia,F,by simp only[JA,Jx];lia⟩⟩
       ·exact Jm ⟨m,_,_,_,_,_,_,rfl,q,by lia,F,by simp only[JA,Jx];lia⟩
      ·rw[Jc B]
       obtain rfl:p=0:=by lia
       rw[YR]at n
       refine Jn (zan d ?_)
       have q:=L2.pushA d n
       by_cases o:S+1+1=a.size
       ·rw[Jf (by simpa using o)]
        obtain⟨l,f⟩:=lone q o
        exact Jm ⟨m,.inl ⟨_,_,rfl,l,f⟩⟩
       rw[Jc (by simpa using o)]
       split
       ·exact Jm ⟨m,.inr ⟨_,_,_,_,_,_,rfl,q,by lia,by lia,by simp only[JA,Jx];lia⟩⟩
       ·exact Jm ⟨m,_,_,_,_,_,_,rfl,q,by lia,by lia,by simp only[JA,Jx];lia⟩
     ·rw[Jc zk]
      obtain rfl:k=0:=by lia
      have O:=L
      have G:=la
      have D:=sz
      rw[YR]at hle
      refine Jn (zan J ?_)
      have L2:=O.pushB J hle
      by_cases H:ib+1=b.size
      ·rw[Jf (by simpa using H)]
       obtain⟨l,f⟩:=L2.endB (by lia)
       exact Jm ⟨m,.inl ⟨_,_,rfl,l,f⟩⟩
      rw[Jc (by simpa using H)]
      obtain⟨x1,d,R⟩:=U _ (Nat.lt_of_succ_lt G)
      refine Jn (zan d (Jn (zbq C (m.kind.trans hk) R (λt ht=>T (ib+1+t) (by lia)) (zcg sb (by lia)) (by lia) λp ab c1 c2=>?_)))
      dsimp only
      have L3:=L2.cutB (k:=p) λt u tk eu v Z=>by
       have:=c1 t tk
       rw[R_at eu]at this
       unfold bd at this
       simp only[Yr,Y4]at this
       have:=zbR sa d v Z
       lia
      have n:∀ u∈b.toList.drop (ib+1+p),rk x1<=rk u:=λu N=>by
       obtain⟨t,K⟩:=zbL N
       have tl:=(JY.mp K).1
       have:=c2 (p+t) (by lia) (by lia)
       rw[<- Zj,R_at K]at this
       unfold bd at this
       simp only[Yr,JX]at this
       lia
      have aa:=D
      by_cases B:p > 0
      ·rw[Jf B]
       by_cases Y:ib+1+p=b.size
       ·rw[Jf (by simpa using Y)]
        obtain⟨l,f⟩:=L3.endB (by lia)
        exact Jm ⟨m,.inl ⟨_,_,rfl,l,f⟩⟩
       rw[Jc (by simpa using Y)]
       have F:ib+1+p<b.size:=by lia
       refine Jn (zan d ?_)
       have q:=L3.pushA d n
       by_cases o:ia+1+1=a.size
       ·rw[Jf (by simpa using o)]
        obtain⟨l,f⟩:=lone q o
        exact Jm ⟨m,.inl ⟨_,_,rfl,l,f⟩⟩
       rw[Jc (by simpa using o)]
       split
       ·exact Jm ⟨m,.inr ⟨_,_,_,_,_,_,rfl,q,by lia,F,by simp only[JA,Jx];lia⟩⟩
       ·exact Jm ⟨m,_,_,_,_,_,_,rfl,q,by lia,F,by simp only[JA,Jx];lia⟩
      ·rw[Jc B]
       obtain rfl:p=0:=by lia
       rw[YR]at n
       refine Jn (zan d ?_)
       have q:=L2.pushA d n
       by_cases o:ia+1+1=a.size
       ·rw[Jf (by simpa using o)]
        obtain⟨l,f⟩:=lone q o
        exact Jm ⟨m,.inl ⟨_,_,rfl,l,f⟩⟩
       rw[Jc (by simpa using o)]
       split
       ·exact Jm ⟨m,.inr ⟨_,_,_,_,_,_,rfl,q,by lia,by lia,by simp only[JA,Jx];lia⟩⟩
       ·exact Jm ⟨m,_,_,_,_,_,_,rfl,q,by lia,by lia,by simp only[JA,Jx];lia⟩
   ·rintro c X ⟨S3,out,ia,ib,g,ca,W,rfl,L,la,V,sz⟩
    exact⟨S3,.inr ⟨_,_,_,_,_,_,rfl,L,la,V,sz⟩⟩
   ·rintro c X ⟨S3,⟨r,x,rfl,l,f⟩|⟨out,ia,ib,g,ca,W,rfl,L,la,V,sz⟩⟩
    ·exact Jm ⟨S3,r,_,rfl,l,f⟩
    dsimp only
    refine Jn (zdQ λad m=>?_)
    exact Jm ⟨S3.trans m,_,_,_,_,rfl,L,la,V,by lia⟩
end
def zkt:Array Keyed->Array Keyed->StateT SortSt Sem (Array Keyed):=sortPriv% PySem.Builtin.mergeHi
structure Hi (rk:Keyed->Int) (T a b out:List Keyed):Prop where
 sa:Srt rk a
 sb:Srt rk b
 so:Srt rk out
 ao:∀ x∈a,∀ y∈out,rk x<=rk y
 bo:∀ x∈b,∀ y∈out,rk x<=rk y
 pm:(a++b++out).Perm T
section
variable {rk:Keyed->Int}{T out a b c:List Keyed}
theorem Hi.swap (h:Hi rk T a b out):Hi rk T b a out:=⟨h.sb,h.sa,h.so,h.bo,h.ao,((W7 (l₁:=b) (l₂:=a)).append_right out).trans h.pm⟩
theorem Hi.take (h:Hi rk T (a++c) b out) (le:∀ x∈b,∀ y∈c,rk x<=rk y):Hi rk T a b (c++out):=by
 obtain⟨s1,s2,f⟩:=Yu.mp h.sa
 refine⟨s1,h.sb,Yu.mpr ⟨s2,h.so,λx d y e=>h.ao x (Jy _ d) y e⟩,λx d y e=>?_,λx d y e=>?_,?_⟩
 ·rcases Jz.mp e with q|q
  ·exact f x d y q
  ·exact h.ao x (Yh _ d) y q
 ·rcases Jz.mp e with q|q
  ·exact le x d y q
  ·exact h.bo x d y q
 ·refine List.Perm.trans ?_ h.pm
  rw[<- JQ]
  refine List.Perm.append_right out ?_
  rw[JQ,JQ]
  exact List.Perm.append_left a W7
theorem Hi.end (h:Hi rk T [] b out):(b++out).Perm T/\Srt rk (b++out):=⟨h.pm,Yu.mpr ⟨h.sb,h.so,h.bo⟩⟩
theorem Hi.lone (h:Hi rk T a b out) (le:∀ x∈b,∀ y∈a,rk x<=rk y):(b++a++out).Perm T/\Srt rk (b++a++out):=by
 refine⟨((W7 (l₁:=b) (l₂:=a)).append_right out).trans h.pm,Yu.mpr ⟨Yu.mpr ⟨h.sb,h.sa,le⟩,h.so,λx d y c=>?_⟩⟩
 rcases Jz.mp d with q|q
 ·exact h.bo x q y c
 ·exact h.ao x q y c
theorem zlp {arr:Array Keyed}{n:Nat}{p:Keyed}(h1:1<=n) (e:arr[n-1]?=some p):arr.toList.take n=arr.toList.take (n-1)++[p]:=by
 obtain⟨hi,e⟩:=JY.mp e
 have a:n-1<arr.toList.length:=by rw[JC];exact hi
 have:=YQ a
 rw[Nat.sub_add_cancel h1,Array.getElem_toList,e]at this
 exact this
theorem zjO (arr:Array Keyed) {i n:Nat}(h:i<=n):arr.toList.take n=arr.toList.take i++(arr.extract i n).toList:=by
 rw[Zu,Z4]
 have:=List.take_add (l:=arr.toList) (i:=i) (j:=n-i)
 rw[show i+(n-i)=n by lia]at this
 exact this
theorem zdw (arr:Array Keyed) (n:Nat):(arr.extract 0 n).toList=arr.toList.take n:=by
 rw[Zu,Z4,W0,Nat.sub_zero]
theorem zdx {arr:Array Keyed}{i n:Nat}{x:Keyed}(h:x∈(arr.extract i n).toList):∃ j,i<=j/\j<n/\arr[j]?=some x:=by
 rw[Zu,Z4]at h
 obtain⟨j,a⟩:=Zm.mp h
 have b:j<n-i:=by
  have:=(Jd.mp a).1
  rw[Jw]at this;lia
 rw[Zb b,Wt]at a
 exact⟨i+j,by lia,by lia,by rw[<- Y8];exact a⟩
theorem zbl {arr:Array Keyed}{n:Nat}{x:Keyed}(h:x∈arr.toList.take n):∃ j,j<n/\arr[j]?=some x:=by
 obtain⟨j,a⟩:=Zm.mp h
 have b:j<n:=by
  have:=(Jd.mp a).1
  rw[Jw]at this;lia
 rw[Zb b]at a
 exact⟨j,b,by rw[<- Y8];exact a⟩
theorem zbs {arr:Array Keyed}{n:Nat}{p:Keyed}(h:Srt rk arr.toList) (h1:1<=n) (e:arr[n-1]?=some p):∀ y∈arr.toList.take n,rk y<=rk p:=by
 intro y a
 obtain⟨j,c,b⟩:=zbl a
 have d:=(JY.mp e).1
 have:=zcg h (base:=0) (n:=n) (by lia) j (n-1) (JL _) (by lia) (by lia)
 rw[R_at b,R_at e]at this
 exact this
end
section
variable {rk:Keyed->Int}{T:List Keyed}{out a b:Array Keyed}{na nb i:Nat}{p:Keyed}
abbrev Bt (rk:Keyed->Int) (T:List Keyed) (a b out:Array Keyed) (na nb:Nat):Prop:=Hi rk T (a.toList.take na) (b.toList.take nb) out.toList.reverse
theorem Bt.pushA (h:Bt rk T a b out na nb) (h1:1<=na) (e:a[na-1]?=some p) (le:∀ x∈b.toList.take nb,rk x<=rk p):Bt rk T a b (out.push p) (na-1) nb:=by
 have h':=h
 unfold Bt at h' ⊢
 rw[zlp h1 e]at h'
 rw[Zq,List.reverse_append]
 exact Hi.take (c:=[p]) h' λx f y d=>by rw[Je.mp d];exact le x f
theorem Bt.pushB (h:Bt rk T a b out na nb) (h1:1<=nb) (e:b[nb-1]?=some p) (le:∀ x∈a.toList.take na,rk x<=rk p):Bt rk T a b (out.push p) na (nb-1):=(Bt.pushA (a:=b) (b:=a) h.swap h1 e le).swap
theorem Bt.cutA (h:Bt rk T a b out na nb) (hi:i<=na) (le:∀ j x,i<=j->j<na->a[j]?=some x->∀ y∈b.toList.take nb,rk y<=rk x):Bt rk T a b (out++(a.extract i na).reverse) i nb:=by
 have h':=h
 unfold Bt at h' ⊢
 rw[zjO a hi]at h'
 rw[Ya,List.reverse_append,Array.toList_reverse,List.reverse_reverse]
 exact Hi.take h' λy f x g=>by
  obtain⟨j,d,c,e⟩:=zdx g
  exact le j x d c e y f
theorem Bt.cutB (h:Bt rk T a b out na nb) (hi:i<=nb) (le:∀ j x,i<=j->j<nb->b[j]?=some x->∀ y∈a.toList.take na,rk y<=rk x):Bt rk T a b (out++(b.extract i nb).reverse) na i:=(Bt.cutA (a:=b) (b:=a) h.swap hi le).swap
theorem Bt.endA (h:Bt rk T a b out 0 nb):(a.extract 0 0++b.extract 0 nb++out.reverse).toList.Perm T/\Srt rk (a.extract 0 0++b.extract 0 nb++out.reverse).toList:=by
 rw[Ya,Ya,zdw,zdw,Zf,ZN,Array.toList_reverse]
 exact Hi.end h
theorem Bt.endB (h:Bt rk T a b out na 0):(a.extract 0 na++b.extract 0 0++out.reverse).toList.Perm T/\Srt rk (a.extract 0 na++b.extract 0 0++out.reverse).toList:=by
 rw[Ya,Ya,zdw,zdw,Zf,Y5,Array.toList_reverse]
 exact Hi.end h.swap
theorem Bt.lone (h:Bt rk T a b out na nb) (le:∀ x∈b.toList.take nb,∀ y∈a.toList.take na,rk x<=rk y):(b.extract 0 nb++a.extract 0 na++out.reverse).toList.Perm T/\Srt rk (b.extract 0 nb++a.extract 0 na++out.reverse).toList:=by
 rw[Ya,Ya,zdw,zdw,Array.toList_reverse]
 exact Hi.lone h le
end
section
variable {prog:Program}{w:World}{A:Around}{E:Value->Shared->Prop}{s:Shared}{κ:SortKind}{P:Keyed->Prop}{rk:Keyed->Int}
theorem znJ (C:Cmp prog w A s κ P rk) {st:SortSt}{a b:Array Keyed}{Q:Array Keyed->SortSt->Prop}(hk:kindOf st=κ) (pa:∀ x∈a.toList,P x) (pb:∀ x∈b.toList,P x) (sa:Srt rk a.toList) (sb:Srt rk b.toList) (a1:1<=a.size) (b1:1<=b.size)
  (first:∀ x,b[0]?=some x->∀ y∈a.toList,rk x<=rk y) (last:∀ x,a[a.size-1]?=some x->∀ y∈b.toList,rk y<=rk x)
  (h:∀ r st',Sm st st'->r.toList.Perm (a.toList++b.toList)->Srt rk r.toList->Q r st'):wpS (model prog w) A E s (zkt a b) Q st:=by
 have J:∀ i,i<a.size->∃ x,a[i]?=some x/\P x:=λi hi=>⟨_,getElem?_pos a i hi,pa _ (by simp)⟩
 have W:∀ i,i<b.size->∃ x,b[i]?=some x/\P x:=λi hi=>⟨_,getElem?_pos b i hi,pb _ (by simp)⟩
 obtain⟨z0,e0,_⟩:=J (a.size-1) (by lia)
 have lone:∀ {out:Array Keyed}{na:Nat},Bt rk (a.toList++b.toList) a b out na 1->(b.extract 0 1++a.extract 0 na++out.reverse).toList.Perm (a.toList++b.toList)/\Srt rk (b.extract 0 1++a.extract 0 na++out.reverse).toList:=λ{out na} L=>L.lone λx hx y hy=>by
  obtain⟨j,j1,ej⟩:=zbl hx
  exact first x (by rw[show 0=j by lia];exact ej) y (YC hy)
 have L0:Bt rk (a.toList++b.toList) a b #[z0] (a.size-1) b.size:=by
  have w0:Bt rk (a.toList++b.toList) a b #[] a.size b.size:=by
   have e1:a.toList.take a.size=a.toList:=JG (by rw[JC];exact Jg _)
   have e2:b.toList.take b.size=b.toList:=JG (by rw[JC];exact Jg _)
   unfold Bt
   rw[e1,e2]
   exact⟨sa,sb,List.Pairwise.nil,λx hx y hy=>by simp at hy,λx hx y hy=>by simp at hy,by simp⟩
  exact w0.pushA a1 e0 λx hx=>last z0 e0 x (YC hx)
 have size:∀ {out:Array Keyed}{na nb:Nat},Bt rk (a.toList++b.toList) a b out na nb->out.size<=a.size+b.size:=λ{out na nb} L=>by
  have:=L.pm.length_eq
  simp only[Jb,List.length_reverse,JC]at this
  lia
 refine Jn (zcO ?_)
 refine Jn (zan e0 ?_)
 dsimp only
 by_cases z1:a.size-1=0
 ·rw[Jf (by simpa using z1)]
  rw[z1]at L0 ⊢
  obtain⟨e,d⟩:=L0.endA
  exact Jm (h _ _ (Sm.refl _) e d)
 rw[Jc (by simpa using z1)]
 by_cases z2:b.size=1
 ·rw[Jf (by simpa using z2)]
  rw[z2]at L0 ⊢
  obtain⟨e,d⟩:=lone L0
  exact Jm (h _ _ (Sm.refl _) e d)
 rw[Jc (by simpa using z2)]
 refine Jn (Wq ?_)
 refine Jn (Z2 (Yz (I:=λi c H=>Sm st H/\∃ na nb out g,c=(none,na,nb,out,g)/\Bt rk (a.toList++b.toList) a b out na nb/\1<=na/\na<=a.size/\2<=nb/\nb<=b.size/\i+1<=out.size)
  (Q:=λc H=>Sm st H/\∃ r x,c=(some r,x)/\r.toList.Perm (a.toList++b.toList)/\Srt rk r.toList) ?step ?fin ⟨Sm.refl _,_,_,_,_,rfl,L0,by lia,by lia,by lia,by lia,by simp⟩) ?post)
 case post =>
  rintro c H ⟨S1,r,x,rfl,e,d⟩
  exact Jm (h _ _ S1 e d)
 case fin =>
  rintro c H ⟨S1,na,nb,out,g,rfl,L,_,_,_,_,sz⟩
  have:=size L
  lia
 case step =>
  rintro i c H _ hi ⟨S1,na,nb,out,g,rfl,L,la,B,X,q,sz⟩
  dsimp only
  refine Jn (Z2 (Yz (I:=λj c st2=>st2=H/\∃ na nb out ca U,c=(none,na,nb,out,ca,U)/\Bt rk (a.toList++b.toList) a b out na nb/\1<=na/\na<=a.size/\2<=nb/\nb<=b.size/\i+1+j<=out.size)
   (Q:=λc st2=>st2=H/\((∃ r x,c=(some r,x)/\r.toList.Perm (a.toList++b.toList)/\Srt rk r.toList)\/∃ na nb out ca U,c=(none,na,nb,out,ca,U)/\Bt rk (a.toList++b.toList) a b out na nb/\1<=na/\na<=a.size/\2<=nb/\nb<=b.size/\i+2<=out.size)) ?_ ?_ ⟨rfl,_,_,_,_,_,rfl,L,la,B,X,q,by lia⟩) ?_)
  ·rintro j c st2 _ hj ⟨rfl,na,nb,out,ca,U,rfl,L,la,B,X,q,sz⟩
   dsimp only
   obtain⟨x,ex,px⟩:=J (na-1) (by lia)
   obtain⟨y,G,py⟩:=W (nb-1) (by lia)
   refine Jn (zan G (Jn (zan ex (Jn (ziO C (S1.kind.trans hk) py px ?_)))))
   by_cases z:rk y<rk x
   ·rw[JB z]
    dsimp only
    rw[Jf rfl]
    have L':=L.pushA la ex λu O=>ZC (zbs sb (by lia) G u O) (Int.le_of_lt z)
    refine Jn (zan ex ?_)
    by_cases D:na-1=0
    ·rw[Jf (by simpa using D)]
     rw[D]at L' ⊢
     obtain⟨e,d⟩:=L'.endA
     exact Jm ⟨rfl,.inl ⟨_,_,rfl,e,d⟩⟩
    ·rw[Jc (by simpa using D)]
     by_cases zg:ca+1>=g
     ·rw[Jf zg]
      exact Jm ⟨rfl,.inr ⟨_,_,_,_,_,rfl,L',by lia,by lia,X,q,by rw[JA];lia⟩⟩
     ·rw[Jc zg]
      exact Jm ⟨rfl,_,_,_,_,_,rfl,L',by lia,by lia,X,q,by rw[JA];lia⟩
   ·rw[Jt z]
    dsimp only
    rw[Jc Jp]
    have L':=L.pushB (by lia) G λu O=>ZC (zbs sa la ex u O) (by lia)
    refine Jn (zan G ?_)
    by_cases D:nb-1=1
    ·rw[Jf (by simpa using D)]
     rw[D]at L' ⊢
     obtain⟨e,d⟩:=lone L'
     exact Jm ⟨rfl,.inl ⟨_,_,rfl,e,d⟩⟩
    ·rw[Jc (by simpa using D)]
     by_cases zg:U+1>=g
     ·rw[Jf zg]
      exact Jm ⟨rfl,.inr ⟨_,_,_,_,_,rfl,L',la,B,by lia,by lia,by rw[JA];lia⟩⟩
     ·rw[Jc zg]
      exact Jm ⟨rfl,_,_,_,_,_,rfl,L',la,B,by lia,by lia,by rw[JA];lia⟩
  ·rintro c st2 ⟨rfl,na,nb,out,ca,U,rfl,L,la,B,X,q,sz⟩
   have:=size L
   lia
  ·rintro c st2 ⟨rfl,⟨r,x,rfl,e,d⟩|⟨na,nb,out,ca,U,rfl,L,la,B,X,q,sz⟩⟩
   ·exact Jm ⟨S1,r,_,rfl,e,d⟩
   dsimp only
   refine Jn (zcO ?_)
   refine Jn (Z2 (Yz (I:=λj c V=>Sm st V/\∃ na nb out g ca U,c=(none,na,nb,out,g,ca,U)/\Bt rk (a.toList++b.toList) a b out na nb/\1<=na/\na<=a.size/\2<=nb/\nb<=b.size/\i+2<=out.size)
    (Q:=λc V=>Sm st V/\((∃ r x,c=(some r,x)/\r.toList.Perm (a.toList++b.toList)/\Srt rk r.toList)\/∃ na nb out g ca U,c=(none,na,nb,out,g,ca,U)/\Bt rk (a.toList++b.toList) a b out na nb/\1<=na/\na<=a.size/\2<=nb/\nb<=b.size/\i+2<=out.size)) ?_ ?_ ⟨S1,_,_,_,_,_,_,rfl,L,la,B,X,q,sz⟩) ?_)
   ·rintro j c V _ hj ⟨S3,na,nb,out,g,ca,U,rfl,L,la,B,X,q,sz⟩
    dsimp only
    obtain⟨y,G,py⟩:=W (nb-1) (by lia)
    by_cases zg:g > 1
    ·rw[Jf zg]
     refine Jn (zdQ λad l=>?_)
     have l:=S3.trans l
     refine Jn (zan G (Jn (zbq C (l.kind.trans hk) py (λt ht=>J (0+t) (by lia)) (zcg sa (by lia)) (by lia) λk ab g1 g2=>?_)))
     dsimp only
     have L1:=L.cutA (i:=k) ab λt u tk tn Z v Y=>by
      have:=g2 t tk tn
      rw[Yy,R_at Z]at this
      unfold bd at this
      simp only[Y9,Z1,Wu,Y4]at this
      have:=zbs sb (by lia) G v Y
      lia
     have hle:∀ u∈a.toList.take k,rk u<=rk y:=λu O=>by
      obtain⟨t,tk,et⟩:=zbl O
      have:=g1 t tk
      rw[Yy,R_at et]at this
      unfold bd at this
      simp only[Y9,Z1,W5,JX]at this
      lia
     have aa:i+2<=(out++(a.extract k na).reverse).size:=by rw[Jx];lia
     by_cases zk:na-k > 0
     ·rw[Jf zk]
      by_cases zc:k=0
      ·rw[Jf (by simpa using zc)]
       subst zc
       obtain⟨e,d⟩:=L1.endA
       exact Jm ⟨l,.inl ⟨_,_,rfl,e,d⟩⟩
      rw[Jc (by simpa using zc)]
      have N:1<=k:=by lia
      generalize na-k=kk
      generalize out++(a.extract k na).reverse=out1 at L1 aa ⊢
      refine Jn (zan G ?_)
      have L2:=L1.pushB (by lia) G hle
      by_cases D:nb-1=1
      ·rw[Jf (by simpa using D)]
       rw[D]at L2 ⊢
       obtain⟨e,d⟩:=lone L2
       exact Jm ⟨l,.inl ⟨_,_,rfl,e,d⟩⟩
      rw[Jc (by simpa using D)]
      obtain⟨x1,f,S⟩:=J (k-1) (by lia)
      refine Jn (zan f (Jn (zbq C (l.kind.trans hk) S (λt ht=>W (0+t) (by lia)) (zcg sb (by lia)) (by lia) λp T c1 c2=>?_)))
      dsimp only
      have R:=L2.cutB (i:=p) T λt u tk tn Z v Y=>by
       have:=c2 t tk tn
       rw[Yy,R_at Z]at this
       unfold bd at this
       simp only[Yr,JX]at this
       have:=zbs sa N f v Y
       lia
      have n:∀ u∈b.toList.take p,rk u<=rk x1:=λu O=>by
       obtain⟨t,tk,et⟩:=zbl O
       have:=c1 t tk
       rw[Yy,R_at et]at this
       unfold bd at this
       simp only[Yr,Y4]at this
       lia
      by_cases F:nb-1-p > 0
      ·rw[Jf F]
       by_cases M:p=1
       ·rw[Jf (by simpa using M)]
        subst M
        obtain⟨e,d⟩:=lone R
        exact Jm ⟨l,.inl ⟨_,_,rfl,e,d⟩⟩
       rw[Jc (by simpa using M)]
       by_cases K:p=0
       ·rw[Jf (by simpa using K)]
        subst K
        obtain⟨e,d⟩:=R.endB
        exact Jm ⟨l,.inl ⟨_,_,rfl,e,d⟩⟩
       rw[Jc (by simpa using K)]
       refine Jn (zan f ?_)
       have m:=R.pushA N f n
       by_cases o:k-1=0
       ·rw[Jf (by simpa using o)]
        rw[o]at m ⊢
        obtain⟨e,d⟩:=m.endA
        exact Jm ⟨l,.inl ⟨_,_,rfl,e,d⟩⟩
       rw[Jc (by simpa using o)]
       split
       ·exact Jm ⟨l,.inr ⟨_,_,_,_,_,_,rfl,m,by lia,by lia,by lia,by lia,by simp only[JA,Jx];lia⟩⟩
       ·exact Jm ⟨l,_,_,_,_,_,_,rfl,m,by lia,by lia,by lia,by lia,by simp only[JA,Jx];lia⟩
      ·rw[Jc F]
       obtain rfl:p=nb-1:=by lia
       refine Jn (zan f ?_)
       have m:=L2.pushA N f n
       by_cases o:k-1=0
       ·rw[Jf (by simpa using o)]
        rw[o]at m ⊢
        obtain⟨e,d⟩:=m.endA
        exact Jm ⟨l,.inl ⟨_,_,rfl,e,d⟩⟩
       rw[Jc (by simpa using o)]
       split
       ·exact Jm ⟨l,.inr ⟨_,_,_,_,_,_,rfl,m,by lia,by lia,by lia,by lia,by simp only[JA,Jx];lia⟩⟩
       ·exact Jm ⟨l,_,_,_,_,_,_,rfl,m,by lia,by lia,by lia,by lia,by simp only[JA,Jx];lia⟩
     ·rw[Jc zk]
      obtain rfl:k=na:=by lia
      have L1:=L
      have N:=la
      have aa:=sz
      generalize k-k=kk
      refine Jn (zan G ?_)
      have L2:=L1.pushB (by lia) G hle
      by_cases D:nb-1=1
      ·rw[Jf (by simpa using D)]
       rw[D]at L2 ⊢
       obtain⟨e,d⟩:=lone L2
       exact Jm ⟨l,.inl ⟨_,_,rfl,e,d⟩⟩
      rw[Jc (by simpa using D)]
      obtain⟨x1,f,S⟩:=J (k-1) (by lia)
      refine Jn (zan f (Jn (zbq C (l.kind.trans hk) S (λt ht=>W (0+t) (by lia)) (zcg sb (by lia)) (by lia) λp T c1 c2=>?_)))
      dsimp only
      have R:=L2.cutB (i:=p) T λt u tk tn Z v Y=>by
       have:=c2 t tk tn
       rw[Yy,R_at Z]at this
       unfold bd at this
       simp only[Yr,JX]at this
       have:=zbs sa N f v Y
       lia
      have n:∀ u∈b.toList.take p,rk u<=rk x1:=λu O=>by
       obtain⟨t,tk,et⟩:=zbl O
       have:=c1 t tk
       rw[Yy,R_at et]at this
       unfold bd at this
       simp only[Yr,Y4]at this
       lia
      by_cases F:nb-1-p > 0
      ·rw[Jf F]
       by_cases M:p=1
       ·rw[Jf (by simpa using M)]
        subst M
        obtain⟨e,d⟩:=lone R
        exact Jm ⟨l,.inl ⟨_,_,rfl,e,d⟩⟩
       rw[Jc (by simpa using M)]
       by_cases K:p=0
       ·rw[Jf (by simpa using K)]
        subst K
        obtain⟨e,d⟩:=R.endB
        exact Jm ⟨l,.inl ⟨_,_,rfl,e,d⟩⟩
       rw[Jc (by simpa using K)]
       refine Jn (zan f ?_)
       have m:=R.pushA N f n
       by_cases o:k-1=0
       ·rw[Jf (by simpa using o)]
        rw[o]at m ⊢
        obtain⟨e,d⟩:=m.endA
        exact Jm ⟨l,.inl ⟨_,_,rfl,e,d⟩⟩
       rw[Jc (by simpa using o)]
       split
       ·exact Jm ⟨l,.inr ⟨_,_,_,_,_,_,rfl,m,by lia,by lia,by lia,by lia,by simp only[JA,Jx];lia⟩⟩
       ·exact Jm ⟨l,_,_,_,_,_,_,rfl,m,by lia,by lia,by lia,by lia,by simp only[JA,Jx];lia⟩
      ·rw[Jc F]
       obtain rfl:p=nb-1:=by lia
       refine Jn (zan f ?_)
       have m:=L2.pushA N f n
       by_cases o:k-1=0
       ·rw[Jf (by simpa using o)]
        rw[o]at m ⊢
        obtain⟨e,d⟩:=m.endA
        exact Jm ⟨l,.inl ⟨_,_,rfl,e,d⟩⟩
       rw[Jc (by simpa using o)]
       split
       ·exact Jm ⟨l,.inr ⟨_,_,_,_,_,_,rfl,m,by lia,by lia,by lia,by lia,by simp only[JA,Jx];lia⟩⟩
       ·exact Jm ⟨l,_,_,_,_,_,_,rfl,m,by lia,by lia,by lia,by lia,by simp only[JA,Jx];lia⟩
    ·rw[Jc zg]
     refine Jn (zdQ λad l=>?_)
     have l:=S3.trans l
     refine Jn (zan G (Jn (zbq C (l.kind.trans hk) py (λt ht=>J (0+t) (by lia)) (zcg sa (by lia)) (by lia) λk ab g1 g2=>?_)))
     dsimp only
     have L1:=L.cutA (i:=k) ab λt u tk tn Z v Y=>by
      have:=g2 t tk tn
      rw[Yy,R_at Z]at this
      unfold bd at this
      simp only[Y9,Z1,Wu,Y4]at this
      have:=zbs sb (by lia) G v Y
      lia
     have hle:∀ u∈a.toList.take k,rk u<=rk y:=λu O=>by
      obtain⟨t,tk,et⟩:=zbl O
      have:=g1 t tk
      rw[Yy,R_at et]at this
      unfold bd at this
      simp only[Y9,Z1,W5,JX]at this
      lia
     have aa:i+2<=(out++(a.extract k na).reverse).size:=by rw[Jx];lia
     by_cases zk:na-k > 0
     ·rw[Jf zk]
      by_cases zc:k=0
      ·rw[Jf (by simpa using zc)]
       subst zc
       obtain⟨e,d⟩:=L1.endA
       exact Jm ⟨l,.inl ⟨_,_,rfl,e,d⟩⟩
      rw[Jc (by simpa using zc)]
      have N:1<=k:=by lia
      generalize na-k=kk
      generalize out++(a.extract k na).reverse=out1 at L1 aa ⊢
      refine Jn (zan G ?_)
      have L2:=L1.pushB (by lia) G hle
      by_cases D:nb-1=1
      ·rw[Jf (by simpa using D)]
       rw[D]at L2 ⊢
       obtain⟨e,d⟩:=lone L2
       exact Jm ⟨l,.inl ⟨_,_,rfl,e,d⟩⟩
      rw[Jc (by simpa using D)]
      obtain⟨x1,f,S⟩:=J (k-1) (by lia)
      refine Jn (zan f (Jn (zbq C (l.kind.trans hk) S (λt ht=>W (0+t) (by lia)) (zcg sb (by lia)) (by lia) λp T c1 c2=>?_)))
      dsimp only
      have R:=L2.cutB (i:=p) T λt u tk tn Z v Y=>by
       have:=c2 t tk tn
       rw[Yy,R_at Z]at this
       unfold bd at this
       simp only[Yr,JX]at this
       have:=zbs sa N f v Y
       lia
      have n:∀ u∈b.toList.take p,rk u<=rk x1:=λu O=>by
       obtain⟨t,tk,et⟩:=zbl O
       have:=c1 t tk
       rw[Yy,R_at et]at this
       unfold bd at this
       simp only[Yr,Y4]at this
       lia
      by_cases F:nb-1-p > 0
      ·rw[Jf F]
       by_cases M:p=1
       ·rw[Jf (by simpa using M)]
        subst M
        obtain⟨e,d⟩:=lone R
        exact Jm ⟨l,.inl ⟨_,_,rfl,e,d⟩⟩
       rw[Jc (by simpa using M)]
       by_cases K:p=0
       ·rw[Jf (by simpa using K)]
        subst K
        obtain⟨e,d⟩:=R.endB
        exact Jm ⟨l,.inl ⟨_,_,rfl,e,d⟩⟩
       rw[Jc (by simpa using K)]
       refine Jn (zan f ?_)
       have m:=R.pushA N f n
       by_cases o:k-1=0
       ·rw[Jf (by simpa using o)]
        rw[o]at m ⊢
        obtain⟨e,d⟩:=m.endA
        exact Jm ⟨l,.inl ⟨_,_,rfl,e,d⟩⟩
       rw[Jc (by simpa using o)]
       split
       ·exact Jm ⟨l,.inr ⟨_,_,_,_,_,_,rfl,m,by lia,by lia,by lia,by lia,by simp only[JA,Jx];lia⟩⟩
       ·exact Jm ⟨l,_,_,_,_,_,_,rfl,m,by lia,by lia,by lia,by lia,by simp only[JA,Jx];lia⟩
      ·rw[Jc F]
       obtain rfl:p=nb-1:=by lia
       refine Jn (zan f ?_)
       have m:=L2.pushA N f n
       by_cases o:k-1=0
       ·rw[Jf (by simpa using o)]
        rw[o]at m ⊢
        obtain⟨e,d⟩:=m.endA
        exact Jm ⟨l,.inl ⟨_,_,rfl,e,d⟩⟩
       rw[Jc (by simpa using o)]
       split
       ·exact Jm ⟨l,.inr ⟨_,_,_,_,_,_,rfl,m,by lia,by lia,by lia,by lia,by simp only[JA,Jx];lia⟩⟩
       ·exact Jm ⟨l,_,_,_,_,_,_,rfl,m,by lia,by lia,by lia,by lia,by simp only[JA,Jx];lia⟩
     ·rw[Jc zk]
      obtain rfl:k=na:=by lia
      have L1:=L
      have N:=la
      have aa:=sz
      generalize k-k=kk
      refine Jn (zan G ?_)
      have L2:=L1.pushB (by lia) G hle
      by_cases D:nb-1=1
      ·rw[Jf (by simpa using D)]
       rw[D]at L2 ⊢
       obtain⟨e,d⟩:=lone L2
       exact Jm ⟨l,.inl ⟨_,_,rfl,e,d⟩⟩
      rw[Jc (by simpa using D)]
      obtain⟨x1,f,S⟩:=J (k-1) (by lia)
      refine Jn (zan f (Jn (zbq C (l.kind.trans hk) S (λt ht=>W (0+t) (by lia)) (zcg sb (by lia)) (by lia) λp T c1 c2=>?_)))
      dsimp only
      have R:=L2.cutB (i:=p) T λt u tk tn Z v Y=>by
       have:=c2 t tk tn
       rw[Yy,R_at Z]at this
       unfold bd at this
       simp only[Yr,JX]at this
       have:=zbs sa N f v Y
       lia
      have n:∀ u∈b.toList.take p,rk u<=rk x1:=λu O=>by
       obtain⟨t,tk,et⟩:=zbl O
       have:=c1 t tk
       rw[Yy,R_at et]at this
       unfold bd at this
       simp only[Yr,Y4]at this
       lia
      by_cases F:nb-1-p > 0
      ·rw[Jf F]
       by_cases M:p=1
       ·rw[Jf (by simpa using M)]
        subst M
        obtain⟨e,d⟩:=lone R
        exact Jm ⟨l,.inl ⟨_,_,rfl,e,d⟩⟩
       rw[Jc (by simpa using M)]
       by_cases K:p=0
       ·rw[Jf (by simpa using K)]
        subst K
        obtain⟨e,d⟩:=R.endB
        exact Jm ⟨l,.inl ⟨_,_,rfl,e,d⟩⟩
       rw[Jc (by simpa using K)]
       refine Jn (zan f ?_)
       have m:=R.pushA N f n
       by_cases o:k-1=0
       ·rw[Jf (by simpa using o)]
        rw[o]at m ⊢
        obtain⟨e,d⟩:=m.endA
        exact Jm ⟨l,.inl ⟨_,_,rfl,e,d⟩⟩
       rw[Jc (by simpa using o)]
       split
       ·exact Jm ⟨l,.inr ⟨_,_,_,_,_,_,rfl,m,by lia,by lia,by lia,by lia,by simp only[JA,Jx];lia⟩⟩
       ·exact Jm ⟨l,_,_,_,_,_,_,rfl,m,by lia,by lia,by lia,by lia,by simp only[JA,Jx];lia⟩
      ·rw[Jc F]
       obtain rfl:p=nb-1:=by lia
       refine Jn (zan f ?_)
       have m:=L2.pushA N f n
       by_cases o:k-1=0
       ·rw[Jf (by simpa using o)]
        rw[o]at m ⊢
        obtain⟨e,d⟩:=m.endA
        exact Jm ⟨l,.inl ⟨_,_,rfl,e,d⟩⟩
       rw[Jc (by simpa using o)]
       split
       ·exact Jm ⟨l,.inr ⟨_,_,_,_,_,_,rfl,m,by lia,by lia,by lia,by lia,by simp only[JA,Jx];lia⟩⟩
       ·exact Jm ⟨l,_,_,_,_,_,_,rfl,m,by lia,by lia,by lia,by lia,by simp only[JA,Jx];lia⟩
   ·rintro c V ⟨S3,na,nb,out,g,ca,U,rfl,L,la,B,X,q,sz⟩
    exact⟨S3,.inr ⟨_,_,_,_,_,_,rfl,L,la,B,X,q,sz⟩⟩
   ·rintro c V ⟨S3,⟨r,x,rfl,e,d⟩|⟨na,nb,out,g,ca,U,rfl,L,la,B,X,q,sz⟩⟩
    ·exact Jm ⟨S3,r,_,rfl,e,d⟩
    dsimp only
    refine Jn (zdQ λad l=>?_)
    exact Jm ⟨S3.trans l,_,_,_,_,rfl,L,la,B,X,q,by lia⟩
end
section
variable {rk:Keyed->Int}
theorem zdJ (b:Nat):∀ (l:List Keyed) (o:Nat) (arr:Array Keyed),b+o+l.length<=arr.size->(List.foldl (λ(a:Array Keyed) (x:Keyed × Nat)=>a.setIfInBounds (b+x.2) x.1) arr (l.zipIdx o)).toList=arr.toList.take (b+o)++l++arr.toList.drop (b+o+l.length)
 | [],o,arr,_=>by
  show arr.toList=_
  rw[Y5,YH,YR,Zk]
 | x::l,o,arr,h=>by
  rw[JK]at h
  rw[List.zipIdx_cons,List.foldl_cons,zdJ b l (o+1) _ (by rw[Array.size_setIfInBounds];lia)]
  have c:b+o<arr.toList.length:=by rw[JC];lia
  rw[Array.toList_setIfInBounds,<- Zj,List.drop_set_of_lt (by lia),JK,show b+o+1+l.length=b+o+(l.length+1) by lia]
  have e:(arr.toList.set (b+o) x).take (b+o+1)=arr.toList.take (b+o)++[x]:=by
   rw[YQ (by rw[Z5];exact c),List.getElem_set_self,List.take_set_of_le (Jg _)]
  rw[e,JQ (arr.toList.take (b+o)) [x] l]
  rfl
theorem zjm {arr:Array Keyed}{i n j:Nat}(h:i+j<n) (a:n<=arr.size):(arr.extract i n)[j]?=arr[i+j]?:=by
 rw[Array.getElem?_extract_of_lt (by lia)]
 exact(getElem?_pos arr (i+j) (by lia)).symm
theorem zhG {arr:Array Keyed}{lo n:Nat}(h:Up rk arr lo n) (d:lo+n<=arr.size):Srt rk (arr.extract lo (lo+n)).toList:=by
 refine List.pairwise_iff_getElem.mpr λi j hi b c=>?_
 have a:(arr.extract lo (lo+n)).size=n:=by rw[Array.size_extract];lia
 rw[JC,a]at hi b
 have:=h (lo+i) (lo+j) (by lia) (by lia) (by lia)
 rw[R_at (getElem?_pos arr (lo+i) (by lia)),R_at (getElem?_pos arr (lo+j) (by lia))]at this
 simpa using this
end
section
variable {prog:Program}{w:World}{A:Around}{E:Value->Shared->Prop}{s:Shared}{κ:SortKind}{P:Keyed->Prop}{rk:Keyed->Int}{a₀:Array Keyed}
theorem znL (C:Cmp prog w A s κ P rk) {st:SortSt}{Q:Bool->SortSt->Prop}{i sa na p sb nb q:Nat}(D:Bs κ P a₀ st) (e1:(pendingOf st)[i]?=some (sa,na,p)) (e2:(pendingOf st)[i+1]?=some (sb,nb,q)) (hs:sb=sa+na) (n1:1<=na) (n2:1<=nb) (hz:sb+nb<=a₀.size)
  (H:Up rk (arrOf st) sa na) (G:Up rk (arrOf st) sb nb)
  (h:∀ st',Bs κ P a₀ st'->pendingOf st'=((pendingOf st).setIfInBounds i (sa,na+nb,p)).eraseIdxIfInBounds (i+1)->(∀ k,k<sa\/sb+nb<=k->R rk (arrOf st') k=R rk (arrOf st) k)->Up rk (arrOf st') sa (na+nb)->Q true st'):wpS (model prog w) A E s (mergeAt' i) Q st:=by
 refine Jn (Wq ?_)
 dsimp only
 rw[e1,e2]
 dsimp only
 obtain⟨b0,T,ae,ab⟩:=D.at (i:=sb) (by lia) rk
 have sz:=D.size
 have V:∀ {c st2:SortSt}{Q':PUnit->SortSt->Prop},Q' ⟨⟩ st2->wpS (model prog w) A E s (set st2:StateT SortSt Sem PUnit) Q' c:=λ{c st2 Q'} hq=>by
  unfold wpS;rw[StateT.run_set];exact Ja ⟨rfl,hq⟩
 refine Jn (V (st2:=SortSt.mk' (kindOf st) (arrOf st) (((pendingOf st).setIfInBounds i (sa,na+nb,p)).eraseIdxIfInBounds (i+1)) (gallopOf st) (failedOf st)) ?_)
 generalize J:SortSt.mk' (kindOf st) (arrOf st) (((pendingOf st).setIfInBounds i (sa,na+nb,p)).eraseIdxIfInBounds (i+1)) (gallopOf st) (failedOf st)=c
 have d:Bs κ P a₀ c:=by rw[<- J];exact⟨D.kind,D.fail,D.perm,D.all⟩
 have O:arrOf c=arrOf st:=by rw[<- J]
 have ep:pendingOf c=((pendingOf st).setIfInBounds i (sa,na+nb,p)).eraseIdxIfInBounds (i+1):=by rw[<- J]
 have pat:∀ j,j<a₀.size->∃ x,(arrOf st)[j]?=some x/\P x:=λj B=>by
  obtain⟨x,ex,Z,_⟩:=D.at B rk
  exact⟨x,ex,Z⟩
 refine Jn (zan T (Jn (zbq (arr:=arrOf st) C d.kind ae (λt M=>pat (sa+t) (by lia)) H (by lia) λk ah g1 g2=>?_)))
 dsimp only
 have f1:∀ j,sa<=j->j<sa+k->R rk (arrOf st) j<=rk b0:=λj l o=>by
  have:=g1 (j-sa) (by lia)
  rw[show sa+(j-sa)=j by lia]at this
  unfold bd at this
  simp only[Y9,Z1,W5,JX]at this
  lia
 have f2:∀ j,sa+k<=j->j<sb->rk b0<=R rk (arrOf st) j:=λj l o=>by
  have:=g2 (j-sa) (by lia) (by lia)
  rw[show sa+(j-sa)=j by lia]at this
  unfold bd at this
  simp only[Y9,Z1,Wu,Y4]at this
  lia
 have f0:∀ j,sb<=j->j<sb+nb->rk b0<=R rk (arrOf st) j:=λj l o=>by rw[<- ab];exact G _ _ (Jg _) l o
 by_cases zk:na-k=0
 ·rw[Jf (by simpa using zk)]
  refine Jm (h c d ep (λj _=>by rw[O]) λx y g b F=>?_)
  rw[O]
  by_cases q1:y<sb
  ·exact H _ _ g b (by lia)
  ·by_cases q2:sb<=x
   ·exact G _ _ q2 b (by lia)
   ·exact ZC (f1 x g (by lia)) (f0 y (by lia) (by lia))
 rw[Jc (by simpa using zk)]
 have ka:sa+k+(na-k)-1=sb-1:=by lia
 rw[ka]
 obtain⟨l0,S,ad,aa⟩:=D.at (i:=sb-1) (by lia) rk
 refine Jn (zan S (Jn (zbq (arr:=arrOf st) C d.kind ad (λt M=>pat (sb+t) (by lia)) G (by lia) λn ag c1 c2=>?_)))
 dsimp only
 have f3:∀ j,sb<=j->j<sb+n->R rk (arrOf st) j<=rk l0:=λj l o=>by
  have:=c1 (j-sb) (by lia)
  rw[show sb+(j-sb)=j by lia]at this
  unfold bd at this
  simp only[Yr,Y4]at this
  lia
 have f4:∀ j,sb+n<=j->j<sb+nb->rk l0<=R rk (arrOf st) j:=λj l o=>by
  have:=c2 (j-sb) (by lia) (by lia)
  rw[show sb+(j-sb)=j by lia]at this
  unfold bd at this
  simp only[Yr,JX]at this
  lia
 have f5:∀ j,sa<=j->j<sb->R rk (arrOf st) j<=rk l0:=λj l o=>by rw[<- aa];exact H _ _ l (by lia) (by lia)
 by_cases zn:n=0
 ·rw[Jf (by simpa using zn)]
  refine Jm (h c d ep (λj _=>by rw[O]) λx y g b F=>?_)
  rw[O]
  by_cases q1:y<sb
  ·exact H _ _ g b (by lia)
  ·by_cases q2:sb<=x
   ·exact G _ _ q2 b (by lia)
   ·exact ZC (f5 x g (by lia)) (f4 y (by lia) (by lia))
 rw[Jc (by simpa using zn)]
 have Y:((arrOf st).extract (sa+k) sb).size=na-k:=by rw[Array.size_extract];lia
 have sy:((arrOf st).extract sb (sb+n)).size=n:=by rw[Array.size_extract];lia
 have Z:∀ x∈((arrOf st).extract (sa+k) sb).toList,P x:=λx g=>by
  obtain⟨j,l,o,I⟩:=zdx g
  obtain⟨y,N,py⟩:=pat j (by lia)
  rw[I]at N;cases N;exact py
 have py:∀ x∈((arrOf st).extract sb (sb+n)).toList,P x:=λx g=>by
  obtain⟨j,l,o,I⟩:=zdx g
  obtain⟨y,N,py⟩:=pat j (by lia)
  rw[I]at N;cases N;exact py
 have ox:Srt rk ((arrOf st).extract (sa+k) sb).toList:=by
  have:=zhG (rk:=rk) (arr:=arrOf st) (lo:=sa+k) (n:=na-k) (λx y g b F=>H x y (by lia) b (by lia)) (by lia)
  rwa [show sa+k+(na-k)=sb by lia]at this
 have oy:Srt rk ((arrOf st).extract sb (sb+n)).toList:=zhG (λx y g b F=>G x y (by lia) b (by lia)) (by lia)
 have first:∀ x,((arrOf st).extract sb (sb+n))[0]?=some x->∀ y∈((arrOf st).extract (sa+k) sb).toList,rk x<=rk y:=λx ex y F=>by
  rw[zjm (by lia) (by lia),YR,T]at ex
  obtain⟨j,l,o,I⟩:=zdx F
  have:=f2 j l o
  rw[R_at I]at this
  cases ex;exact this
 have last:∀ x,((arrOf st).extract (sa+k) sb)[((arrOf st).extract (sa+k) sb).size-1]?=some x->∀ y∈((arrOf st).extract sb (sb+n)).toList,rk y<=rk x:=λx ex y F=>by
  rw[Y,zjm (by lia) (by lia),show sa+k+(na-k-1)=sb-1 by lia,S]at ex
  obtain⟨j,l,o,I⟩:=zdx F
  have:=f3 j l (by lia)
  rw[R_at I]at this
  cases ex;exact this
 have fin:∀ (m:Array Keyed) (st2:SortSt),Sm c st2->m.toList.Perm (((arrOf st).extract (sa+k) sb).toList++((arrOf st).extract sb (sb+n)).toList)->Srt rk m.toList ->
   wpS (model prog w) A E s (do
    modify λs=>setArr s (m.toList.zipIdx.foldl (λ(a:Array Keyed) (x:Keyed × Nat)=>a.setIfInBounds (sa+k+x.2) x.1) (arrOf s))
    let s' <- get
    pure (failedOf s').isNone) Q st2:=by
  intro m st2 S2 pm L
  have U:arrOf st2=arrOf st:=S2.arr.trans O
  have K:m.toList.length=na-k+n:=by rw[pm.length_eq,Jb,JC,JC,Y,sy]
  have wl:=zdJ (sa+k) m.toList 0 (arrOf st2) (by rw[U,sz,K];lia)
  generalize hW:List.foldl (λ(a:Array Keyed) (x:Keyed × Nat)=>a.setIfInBounds (sa+k+x.2) x.1) (arrOf st2) m.toList.zipIdx=W at wl
  rw[YR,K,U,show sa+k+(na-k+n)=sb+n by lia]at wl
  have X:(arrOf st).toList=(arrOf st).toList.take (sa+k)++(((arrOf st).extract (sa+k) sb).toList++((arrOf st).extract sb (sb+n)).toList)++(arrOf st).toList.drop (sb+n):=by
   have d1:=zet (arrOf st) (sa+k) (na-k)
   rw[show sa+k+(na-k)=sb by lia]at d1
   have d2:=zet (arrOf st) sb n
   rw[JQ,JQ,<- d2,<- d1,Zk]
  have pw:W.Perm (arrOf st):=by
   rw[Array.perm_iff_toList_perm,wl]
   conv=>rhs;rw[X]
   exact((pm.append_left _).append_right _)
  have r:((arrOf st).toList.take (sa+k)).length=sa+k:=by rw[Jw,JC,sz];lia
  have af:W.size=a₀.size:=by rw[pw.size_eq,sz]
  have z:∀ j,j<sa+k->R rk W j=R rk (arrOf st) j:=λj B=>R_congr (by
   rw[<- Y8,<- Y8,wl,JQ,YE (by rw[r];exact B),Zb B])
  have f:∀ j,sb+n<=j->R rk W j=R rk (arrOf st) j:=λj B=>R_congr (by
   rw[<- Y8,<- Y8,wl,Ye (by rw[Jb,r,K];lia),Jb,r,K,Wt]
   congr 1;lia)
  have mid:∀ j,sa+k<=j->j<sb+n->∃ x,m[j-(sa+k)]?=some x/\R rk W j=rk x:=λj l o=>by
   have jl:j-(sa+k)<m.size:=by rw[<- JC,K];lia
   refine⟨_,getElem?_pos m _ jl,R_at ?_⟩
   rw[<- Y8,wl,JQ,Ye (by rw[r];exact l),r,YE (by rw[K];lia),Y8]
   exact getElem?_pos m _ jl
  have kids:∀ j x,m[j]?=some x->∃ t,((sa+k<=t/\t<sb)\/(sb<=t/\t<sb+n))/\R rk (arrOf st) t=rk x:=λj x ex=>by
   have hm:x∈m.toList:=by
    obtain⟨B,e⟩:=JY.mp ex
    rw[<- e];simp
   rcases Jz.mp (pm.mem_iff.mp hm) with u|u
   ·obtain⟨t,t1,t2,et⟩:=zdx u
    exact⟨t,.inl ⟨t1,t2⟩,R_at et⟩
   ·obtain⟨t,t1,t2,et⟩:=zdx u
    exact⟨t,.inr ⟨t1,t2⟩,R_at et⟩
  refine Jn (Ws (Jn (Wq (Jm ?_))))
  rw[hW]
  have ff:(failedOf (setArr st2 W)).isNone=true:=by
   show (failedOf st2).isNone=true
   rw[S2.fail,d.fail];rfl
  rw[ff]
  refine h _ ⟨S2.kind.trans d.kind,S2.fail.trans d.fail,pw.trans D.perm,D.all⟩ (S2.pend.trans ep) (λj B=>?_) λx y g b F=>?_
  ·rcases B with B|B
   ·exact z j (by lia)
   ·exact f j (by lia)
  ·show R rk W x<=R rk W y
   by_cases x1:x<sa+k
   ·rw[z x x1]
    by_cases y1:y<sa+k
    ·rw[z y y1];exact H _ _ g b (by lia)
    ·by_cases y2:y<sb+n
     ·obtain⟨v,ev,rv⟩:=mid y (by lia) y2
      obtain⟨t,M,rt⟩:=kids _ v ev
      rw[rv,<- rt]
      rcases M with ⟨t1,t2⟩|⟨t1,t2⟩
      ·exact H _ _ g (by lia) (by lia)
      ·exact ZC (f1 x g x1) (f0 t t1 (by lia))
     ·rw[f y (by lia)]
      exact ZC (f1 x g x1) (f0 y (by lia) (by lia))
   ·by_cases x2:x<sb+n
    ·obtain⟨u,eu,ru⟩:=mid x (by lia) x2
     rw[ru]
     by_cases y2:y<sb+n
     ·obtain⟨v,ev,rv⟩:=mid y (by lia) y2
      rw[rv]
      have:=zcg L (base:=0) (n:=m.size) (by lia) (x-(sa+k)) (y-(sa+k)) (JL _) (by lia) (by
       have:=(JY.mp ev).1
       lia)
      rwa [R_at eu,R_at ev]at this
     ·rw[f y (by lia)]
      obtain⟨t,M,rt⟩:=kids _ u eu
      rw[<- rt]
      rcases M with ⟨t1,t2⟩|⟨t1,t2⟩
      ·exact ZC (f5 t (by lia) t2) (f4 y (by lia) (by lia))
      ·exact G _ _ t1 (by lia) (by lia)
    ·rw[f x (by lia),f y (by lia)]
     exact G _ _ (by lia) b (by lia)
 split
 ·exact Jn (znD C d.kind Z py ox oy (by rw[Y];lia) (by rw[sy];lia) first last λm st2 S2 pm L=>fin m st2 S2 pm L)
 ·exact Jn (znJ C d.kind Z py ox oy (by rw[Y];lia) (by rw[sy];lia) first last λm st2 S2 pm L=>fin m st2 S2 pm L)
end
abbrev Run:=Nat × Nat × Nat
def Runs:List Run->Nat->Nat->Prop
 | [],u,v=>u=v
 | x::r,u,v=>x.1=u/\1<=x.2.1/\Runs r (u+x.2.1) v
theorem Runs.cut:∀ {l r:List Run}{u v:Nat},Runs (l++r) u v->∃ m,Runs l u m/\Runs r m v
 | [],_,u,_,h=>⟨u,rfl,h⟩
 | x::l,r,u,v,⟨h1,d,c⟩=>by
  obtain⟨m,a,b⟩:=Runs.cut (l:=l) (r:=r) c
  exact⟨m,⟨h1,d,a⟩,b⟩
theorem Runs.app:∀ {l r:List Run}{u m v:Nat},Runs l u m->Runs r m v->Runs (l++r) u v
 | [],_,_,_,_,h,g=>by cases h;exact g
 | x::l,r,u,m,v,⟨h1,b,a⟩,g=>⟨h1,b,Runs.app a g⟩
theorem Runs.len:∀ {l:List Run}{u v:Nat},Runs l u v->u+l.length<=v
 | [],_,_,h=>by cases h;exact Jg _
 | x::l,u,v,⟨h1,b,a⟩=>by
  have:=Runs.len a
  rw[JK];lia
theorem Runs.mem:∀ {l:List Run}{u v:Nat}{x:Run},Runs l u v->x∈l->u<=x.1/\1<=x.2.1/\x.1+x.2.1<=v
 | y::l,u,v,x,⟨h1,d,b⟩,c=>by
  rcases Ju.mp c with rfl|a
  ·have:=Runs.len b;lia
  ·have:=Runs.mem b a;lia
theorem Runs.modify {f:Run->Run}(a:∀ x,(f x).1=x.1/\(f x).2.1=x.2.1):∀ {l:List Run}{i u v:Nat},Runs l u v->Runs (l.modify i f) u v
 | [],i,_,_,h=>by cases i<;>exact h
 | x::l,0,u,v,⟨h1,c,b⟩=>by
  rw[List.modify_zero_cons]
  refine⟨(a x).1.trans h1,by rw[(a x).2];exact c,by rw[(a x).2];exact b⟩
 | x::l,i+1,u,v,⟨h1,c,b⟩=>by
  rw[List.modify_succ_cons]
  exact⟨h1,c,Runs.modify a b⟩
theorem zcS {f:Run->Run}(a:∀ x,(f x).1=x.1/\(f x).2.1=x.2.1):∀ {l:List Run}{i:Nat}{x:Run},x∈l.modify i f->∃ y∈l,x.1=y.1/\x.2.1=y.2.1
 | [],i,x,h=>by cases i<;>simp at h
 | y::l,0,x,h=>by
  rw[List.modify_zero_cons]at h
  rcases Ju.mp h with rfl|b
  ·exact⟨y,JJ,(a y).1,(a y).2⟩
  ·exact⟨x,JH _ b,rfl,rfl⟩
 | y::l,i+1,x,h=>by
  rw[List.modify_succ_cons]at h
  rcases Ju.mp h with rfl|b
  ·exact⟨x,JJ,rfl,rfl⟩
  ·obtain⟨z,c,e⟩:=zcS a b
   exact⟨z,JH _ c,e⟩
section
variable {prog:Program}{w:World}{A:Around}{E:Value->Shared->Prop}{s:Shared}{κ:SortKind}{P:Keyed->Prop}{rk:Keyed->Int}{a₀:Array Keyed}
structure Ji (κ:SortKind) (P:Keyed->Prop) (rk:Keyed->Int) (a₀:Array Keyed) (lo:Nat) (st:SortSt):Prop where
 b:Bs κ P a₀ st
 runs:Runs (pendingOf st).toList 0 lo
 up:∀ x∈(pendingOf st).toList,Up rk (arrOf st) x.1 x.2.1
theorem zl2 (C:Cmp prog w A s κ P rk) {st:SortSt}{lo i:Nat}{Q:Bool->SortSt->Prop}(J:Ji κ P rk a₀ lo st) (L:lo<=a₀.size) (hi:i+1<(pendingOf st).size)
  (h:∀ st',Ji κ P rk a₀ lo st'->(∀ k,lo<=k->R rk (arrOf st') k=R rk (arrOf st) k)->(pendingOf st').size+1=(pendingOf st).size->Q true st'):wpS (model prog w) A E s (mergeAt' i) Q st:=by
 obtain⟨x,ex⟩:∃ x,(pendingOf st)[i]?=some x:=⟨_,getElem?_pos _ i (by lia)⟩
 obtain⟨y,B⟩:∃ y,(pendingOf st)[i+1]?=some y:=⟨_,getElem?_pos _ (i+1) hi⟩
 have r:(pendingOf st).toList[i]?=some x:=by rw[Y8];exact ex
 have o:(pendingOf st).toList[i+1]?=some y:=by rw[Y8];exact B
 obtain⟨n,I⟩:=Jd.mp r
 obtain⟨l,H⟩:=Jd.mp o
 have sp:(pendingOf st).toList=(pendingOf st).toList.take i++x::y::(pendingOf st).toList.drop (i+1+1):=by
  rw[<- I,<- H,<- Yv l,<- Yv n,Zk]
 have u:=J.runs
 have up:=J.up
 generalize e:(pendingOf st).toList.take i=pre at sp
 generalize t:(pendingOf st).toList.drop (i+1+1)=post at sp
 have G:pre.length=i:=by rw[<- e,Jw];lia
 rw[sp]at u up
 obtain⟨m,v,F⟩:=u.cut
 obtain⟨s1,n1,s2,n2,f⟩:=F
 obtain⟨sa,na,p⟩:=x
 obtain⟨sb,nb,q⟩:=y
 simp only at s1 n1 s2 n2 f
 have M:=f.len
 refine znL C J.b ex B (by lia) n1 n2 (by lia) (up (sa,na,p) (by simp)) (up (sb,nb,q) (by simp)) λst' K ep low D=>?_
 have j:(pendingOf st').toList=pre++(sa,na+nb,p)::post:=by
  rw[ep,Array.toList_eraseIdxIfInBounds,Array.toList_setIfInBounds,sp,List.set_append_right _ _ (by lia),List.eraseIdx_append_of_length_le (by lia),G,Nat.sub_self,Nat.add_sub_cancel_left]
  rfl
 refine h st' ⟨K,?_,?_⟩ (λk N=>low k (.inr (by lia))) ?_
 ·rw[j]
  refine v.app ⟨s1,by show 1<=na+nb;lia,?_⟩
  show Runs post (m+(na+nb)) lo
  rw[<- Zj];exact f
 ·rw[j]
  intro z a
  rcases Jz.mp a with a|a
  ·have b1:=v.mem a
   intro c d g b hd
   rw[low c (.inl (by lia)),low d (.inl (by lia))]
   exact up z (Yh _ a) c d g b hd
  ·rcases Ju.mp a with rfl|a
   ·exact D
   ·have b1:=f.mem a
    intro c d g b hd
    rw[low c (.inr (by lia)),low d (.inr (by lia))]
    exact up z (Jy _ (by simp[a])) c d g b hd
 ·rw[<- JC,<- JC,j,sp]
  simp only[Jb,JK];lia
theorem zlD (C:Cmp prog w A s κ P rk) {st:SortSt}{Q:Unit->SortSt->Prop}(Z:Bs κ P a₀ st) (Y:pendingOf st = #[])
  (h:∀ st',Bs κ P a₀ st'->Up rk (arrOf st') 0 a₀.size->Q () st'):wpS (model prog w) A E s sortRuns' Q st:=by
 rw[sortRuns'_eq]
 refine Jn (Wq ?_)
 dsimp only
 rw[Z.size]
 generalize minRun' a₀.size a₀.size 0=N
 refine Jn (Z2 (Yz (I:=λi c m=>∃ lo,c=(none,lo)/\i<=lo/\lo<=a₀.size/\Ji κ P rk a₀ lo m)
  (Q:=λc m=>∃ lo,c=(none,lo)/\lo=a₀.size/\Ji κ P rk a₀ lo m) ?step ?fin ?init) ?post)
 case init=>exact⟨0,rfl,Jg _,JL _,Z,by rw[Y];rfl,λx p=>by rw[Y]at p;simp at p⟩
 case fin =>
  rintro c m ⟨lo,rfl,h1,S,J⟩
  exact⟨lo,rfl,by lia,J⟩
 case step =>
  rintro i c m _ hi ⟨lo,rfl,h1,S,J⟩
  dsimp only
  by_cases z:lo>=a₀.size
  ·rw[Jf z]
   exact Jm ⟨lo,rfl,by lia,J⟩
  rw[Jc z]
  refine Jn (zkR C J.b (by lia) (by lia) λst2 n U n1 n2 X=>?_)
  dsimp only
  have Jk:∀ f,Keep κ P rk a₀ lo m f->Ji κ P rk a₀ lo f:=λf G=>⟨G.b,by rw[G.pend];exact J.runs,λx p=>by
   rw[G.pend]at p
   have:=J.runs.mem p
   intro c d B u hd
   rw[G.low c (by lia),G.low d (by lia)]
   exact J.up x p c d B u hd⟩
  by_cases W:n<N
  ·rw[Jf W]
   refine Jn (zcO ?_)
   refine Jn (znc C U.b n1 (by lia) (by lia) X λf G u3=>?_)
   have n1:1<=min (a₀.size-lo) N:=by lia
   have n2:min (a₀.size-lo) N<=a₀.size-lo:=by lia
   have v:=Jk f (U.trans G)
   generalize min (a₀.size-lo) N=n at n1 n2 u3 ⊢
   rw[Jc (show ¬(!true)=true by decide)]
   refine Jn (Wq ?_)
   have last:∀ a,Ji κ P rk a₀ lo a->Up rk (arrOf a) lo n->wpS (model prog w) A E s (do
     modify λl=>setPending l ((pendingOf l).push (lo,n,0))
     pure (ForInStep.yield ((none:Option Unit),lo+n))) (λr st'=>match r with|.done F=>∃ lo,F=(none,lo)/\lo=a₀.size/\Ji κ P rk a₀ lo st'|.yield F=>∃ lo,F=(none,lo)/\i+1<=lo/\lo<=a₀.size/\Ji κ P rk a₀ lo st') a:=by
    intro a e k
    refine Jn (Ws (Jm ⟨lo+n,rfl,by lia,by lia,⟨e.b.kind,e.b.fail,e.b.perm,e.b.all⟩,?_,?_⟩))
    ·show Runs ((pendingOf a).push (lo,n,0)).toList 0 (lo+n)
     rw[Zq]
     exact e.runs.app ⟨rfl,n1,rfl⟩
    ·show ∀ x∈((pendingOf a).push (lo,n,0)).toList,Up rk (arrOf a) x.1 x.2.1
     rw[Zq]
     intro x p
     rcases Jz.mp p with o|o
     ·exact e.up x o
     ·rw[Je.mp o];exact k
   split
   ·rename_i s1 m1 w1 hb
    refine Jn (Z2 (Yz (I:=λj c a=>c=(none,())/\Ji κ P rk a₀ lo a/\Up rk (arrOf a) lo n) (Q:=λc a=>c=(none,())/\Ji κ P rk a₀ lo a/\Up rk (arrOf a) lo n) ?_ (λc a R=>R) ⟨rfl,v,u3⟩) ?_)
    ·rintro j c a _ hj ⟨rfl,e,k⟩
     refine Jn (Wq ?_)
     split
     ·rename_i a1 a2 H K
      split
      ·exact Jm ⟨rfl,e,k⟩
      ·have sz:(pendingOf a).size > 1:=by
        by_cases q:(pendingOf a).size > 1
        ·exact q
        ·rw[Jc q]at K;cases K
       refine Jn (zl2 C e S (by lia) λl V g _=>?_)
       rw[Jc (show ¬(!true)=true by decide)]
       exact Jm ⟨rfl,V,λc d B u hd=>by rw[g c B,g d (by lia)];exact k c d B u hd⟩
     ·exact Jm ⟨rfl,e,k⟩
    ·rintro c a ⟨rfl,e,k⟩
     dsimp only
     refine Jn (Ws ?_)
     refine last _ ⟨⟨e.b.kind,e.b.fail,e.b.perm,e.b.all⟩,?_,?_⟩ k
     ·show Runs ((pendingOf a).modify _ _).toList 0 lo
      rw[Wm]
      refine Runs.modify ?_ e.runs
      exact λx=>⟨rfl,rfl⟩
     ·show ∀ x∈((pendingOf a).modify _ _).toList,Up rk (arrOf a) x.1 x.2.1
      rw[Wm]
      intro x p
      obtain⟨y,O,T,e2⟩:=zcS (by exact λx=>⟨rfl,rfl⟩) p
      rw[T,e2];exact e.up y O
   ·exact last _ v u3
  ·rw[Jc W]
   have v:=Jk st2 U
   have u3:=X
   generalize st2=f at v u3 ⊢
   refine Jn (Wq ?_)
   have last:∀ a,Ji κ P rk a₀ lo a->Up rk (arrOf a) lo n->wpS (model prog w) A E s (do
     modify λl=>setPending l ((pendingOf l).push (lo,n,0))
     pure (ForInStep.yield ((none:Option Unit),lo+n))) (λr st'=>match r with|.done F=>∃ lo,F=(none,lo)/\lo=a₀.size/\Ji κ P rk a₀ lo st'|.yield F=>∃ lo,F=(none,lo)/\i+1<=lo/\lo<=a₀.size/\Ji κ P rk a₀ lo st') a:=by
    intro a e k
    refine Jn (Ws (Jm ⟨lo+n,rfl,by lia,by lia,⟨e.b.kind,e.b.fail,e.b.perm,e.b.all⟩,?_,?_⟩))
    ·show Runs ((pendingOf a).push (lo,n,0)).toList 0 (lo+n)
     rw[Zq]
     exact e.runs.app ⟨rfl,n1,rfl⟩
    ·show ∀ x∈((pendingOf a).push (lo,n,0)).toList,Up rk (arrOf a) x.1 x.2.1
     rw[Zq]
     intro x p
     rcases Jz.mp p with o|o
     ·exact e.up x o
     ·rw[Je.mp o];exact k
   split
   ·rename_i s1 m1 w1 hb
    refine Jn (Z2 (Yz (I:=λj c a=>c=(none,())/\Ji κ P rk a₀ lo a/\Up rk (arrOf a) lo n) (Q:=λc a=>c=(none,())/\Ji κ P rk a₀ lo a/\Up rk (arrOf a) lo n) ?_ (λc a R=>R) ⟨rfl,v,u3⟩) ?_)
    ·rintro j c a _ hj ⟨rfl,e,k⟩
     refine Jn (Wq ?_)
     split
     ·rename_i a1 a2 H K
      split
      ·exact Jm ⟨rfl,e,k⟩
      ·have sz:(pendingOf a).size > 1:=by
        by_cases q:(pendingOf a).size > 1
        ·exact q
        ·rw[Jc q]at K;cases K
       refine Jn (zl2 C e S (by lia) λl V g _=>?_)
       rw[Jc (show ¬(!true)=true by decide)]
       exact Jm ⟨rfl,V,λc d B u hd=>by rw[g c B,g d (by lia)];exact k c d B u hd⟩
     ·exact Jm ⟨rfl,e,k⟩
    ·rintro c a ⟨rfl,e,k⟩
     dsimp only
     refine Jn (Ws ?_)
     refine last _ ⟨⟨e.b.kind,e.b.fail,e.b.perm,e.b.all⟩,?_,?_⟩ k
     ·show Runs ((pendingOf a).modify _ _).toList 0 lo
      rw[Wm]
      refine Runs.modify ?_ e.runs
      exact λx=>⟨rfl,rfl⟩
     ·show ∀ x∈((pendingOf a).modify _ _).toList,Up rk (arrOf a) x.1 x.2.1
      rw[Wm]
      intro x p
      obtain⟨y,O,T,e2⟩:=zcS (by exact λx=>⟨rfl,rfl⟩) p
      rw[T,e2];exact e.up y O
   ·exact last _ v u3
 case post =>
  rintro c m ⟨lo,rfl,rfl,J⟩
  dsimp only
  refine Jn (Z2 (Yz (I:=λi c st2=>c=(none,())/\Ji κ P rk a₀ a₀.size st2/\(pendingOf st2).size<=a₀.size-i+1)
   (Q:=λc st2=>c=(none,())/\Ji κ P rk a₀ a₀.size st2/\(pendingOf st2).size<=1) ?_ ?_ ⟨rfl,J,?_⟩) ?_)
  ·rintro i c st2 _ hi ⟨rfl,D,sz⟩
   refine Jn (Wq ?_)
   by_cases z:(pendingOf st2).size<=1
   ·rw[Jf z]
    exact Jm ⟨rfl,D,z⟩
   rw[Jc z]
   have go:∀ t,t+1<(pendingOf st2).size->wpS (model prog w) A E s (mergeAt' t) (λb f=>b=true/\Ji κ P rk a₀ a₀.size f/\(pendingOf f).size<=a₀.size-(i+1)+1) st2:=λt ht =>
    zl2 C D (Jg _) ht λf v _ L=>⟨rfl,v,by lia⟩
   refine Jn (Z2 (go _ ?_) ?_)
   ·repeat' split
    all_goals lia
   ·rintro b f ⟨rfl,v,L⟩
    exact Jm ⟨rfl,v,L⟩
  ·rintro c st2 ⟨rfl,D,sz⟩
   exact⟨rfl,D,by lia⟩
  ·have:=J.runs.len
   rw[JC]at this
   lia
  ·rintro c st2 ⟨rfl,D,sz⟩
   refine Jm (h st2 D.b ?_)
   have M:=D.runs
   have up:=D.up
   have ln:(pendingOf st2).toList.length<=1:=by rw[JC];exact sz
   match hq:(pendingOf st2).toList,ln with
   | [],_ =>
    rw[hq]at M
    intro c d B u hd
    have:0=a₀.size:=M
    lia
   | [x],_ =>
    rw[hq]at M up
    obtain⟨r1,r2,r3⟩:=M
    have:0+x.2.1=a₀.size:=r3
    have:=up x (by simp)
    rw[r1,show x.2.1=a₀.size by lia]at this
    exact this
end
section
variable {prog:Program}{w:World}{A:Around}{E:Value->Shared->Prop}{s:Shared}
theorem zhQ {a:Addr}{vs:List Value}{n:Nat}{r:Fin->Shared->Prop}(m:s.heap.get? a=some (seqObj "list" vs.toArray n)) (D:vs.length<=10000) (κ:SortKind) (d:Value->Int)
  (f:∀ h',(∀ c o,c≠a->s.heap.get? c=some o->h'.get? c=some o)->2<=vs.length->∀ {Q:SortKind->Shared->Prop}{E:Value->Shared->Prop},Q κ { s with heap:=h' }->wpAny (model prog w) A (keyKind' vs.toArray) Q E { s with heap:=h' })
  (j:∀ h',(∀ c o,c≠a->s.heap.get? c=some o->h'.get? c=some o)->Cmp prog w A { s with heap:=h' } κ (λp=>p.1∈vs) (λp=>d p.1))
  (h:∀ out:List Value,out.Perm vs->out.Pairwise (λx y=>d x<=d y)->r (.done (.ret .none)) { s with heap:=sortedHeap s.heap a vs out.toArray }) :
  wpAny (model prog w) A (Builtin.«list.sort» ⟨[.ref a],[]⟩) r E s:=by
 have al:a<s.heap.objs.size:=Jq m
 have ln:vs.toArray.size=vs.length:=Jj ..
 have sl:vs.length<=sizeLine:=JW D (by decide)
 rw[list_sort_plain]
 refine J0 (listItems_at m rfl (J0 (listUpdate_at m rfl ?_ (hsz:=by rw[ln];exact sl))))
 obtain⟨ep,v⟩:∃ ep,(s.heap.update a (Obj.mapSeq λ_=>#[])).get? a=some (seqObj "list" #[] ep):=⟨_,get?_update_seq m λ_=>#[]⟩
 refine J0 (seqEpoch_at v rfl (J0 (wpAny_newTuple (J0 (wpAny_newList (Yp ?_))))))
 have g:(((s.heap.update a (Obj.mapSeq λ_=>#[])).push (seqObj "tuple" vs.toArray 0)).push (seqObj "list" #[] 0)).get? a=some (seqObj "list" #[] ep) :=
  J8 _ (J8 _ v)
 have old:∀ c o,c≠a->s.heap.get? c=some o->(((s.heap.update a (Obj.mapSeq λ_=>#[])).push (seqObj "tuple" vs.toArray 0)).push (seqObj "list" #[] 0)).get? c=some o:=λc o B q =>
  J8 _ (J8 _ ((Yj _ _ (Ne.symm B)).trans q))
 show wpAny (model prog w) A _ r E { s with heap:=((s.heap.update a (Obj.mapSeq λ_=>#[])).push (seqObj "tuple" vs.toArray 0)).push (seqObj "list" #[] 0) }
 have lo:∀ out:List Value,out.Perm vs->out.toArray.size<=sizeLine+1:=λout p1=>by rw[Jj,p1.length_eq];lia
 generalize H:((s.heap.update a (Obj.mapSeq λ_=>#[])).push (seqObj "tuple" vs.toArray 0)).push (seqObj "list" #[] 0)=h6 at g old ⊢
 have back:∀ out:Array Value,sortedHeap s.heap a vs out=h6.update a (Obj.mapSeq λ_=>out):=λout=>by rw[<- H];rfl
 by_cases few:vs.toArray.size<2
 ·rw[Jf few,Jf few]
  refine J0 (Ja (?_:wpAny _ _ _ _ _ _))
  refine J0 (Ja ?_)
  have em:(vs.toArray.zip vs.toArray).map (·.2)=vs.toArray:=by
   apply Array.ext'
   rw[Array.toList_map,Array.toList_zip]
   exact List.map_snd_zip (Jg _)
  have one:vs.Pairwise (λx y=>d x<=d y):=by
   match vs,few with
   | [],_=>exact List.Pairwise.nil
   | [x],_=>exact List.pairwise_singleton _ _
   | _::_::_,z=>simp at z;lia
  have k:=h vs (List.Perm.refl _) one
  rw[back]at k
  dsimp only
  rw[em]
  refine J0 (seqEpoch_at g rfl (J0 (listUpdate_at g rfl ?_ (hsz:=JL _) (hsz2:=lo vs (List.Perm.refl _)))))
  simp only[Z1,bne_self_eq_false,Y9]
  exact Ja k
 rw[Jc few,Jc few]
 refine J0 (f h6 old (by lia) ?_)
 have C:=j h6 old
 refine J0 (JU (zlD C (a₀:=vs.toArray.zip vs.toArray) (st:=SortSt.mk' κ (vs.toArray.zip vs.toArray) #[] 7 none)
  (Q:=λ_ st'=>Bs κ (λp=>p.1∈vs) (vs.toArray.zip vs.toArray) st'/\Up (λp=>d p.1) (arrOf st') 0 (vs.toArray.zip vs.toArray).size) ⟨rfl,rfl,Array.Perm.refl _,λp l=>?_⟩ rfl λst' b u=>⟨b,u⟩) ?_ λ_ _ e=>e)
 ·have:(vs.toArray.zip vs.toArray).toList=vs.zip vs:=by simp
  rw[this]at l
  exact(List.of_mem_zip l).1
 rintro⟨⟨⟩,st'⟩ s' ⟨rfl,b,u⟩
 have t:(arrOf st').toList.Perm (vs.zip vs):=by
  have:=Array.perm_iff_toList_perm.mp b.perm
  simpa using this
 have same:∀ p∈(arrOf st').toList,p.1=p.2:=λp l=>by
  have h1:=t.mem_iff.mp l
  obtain⟨i,hi⟩:=Zm.mp h1
  rw[Wx]at hi
  have:=hi.1.symm.trans hi.2
  exact Jr this
 have so:Srt (λp=>d p.1) (arrOf st').toList:=by
  have:=zhG (arr:=arrOf st') (lo:=0) (n:=(arrOf st').size) (by rw[b.size];exact u) (by lia)
  rw[Yy,zdw,<- JC,YJ]at this
  exact this
 have pm:((arrOf st').toList.map (·.2)).Perm vs:=by
  have:=t.map (·.2)
  rwa [List.map_snd_zip (Jg _)]at this
 have em:(arrOf st').map (·.2)=((arrOf st').toList.map (·.2)).toArray:=by
  apply Array.ext';simp
 have k:=h _ pm (by
  refine List.pairwise_map.mpr (List.Pairwise.imp_of_mem ?_ so)
  intro x y G F le
  rw[<- same x G,<- same y F];exact le)
 rw[back]at k
 dsimp only
 rw[em,b.fail]
 refine J0 (seqEpoch_at g rfl (J0 (listUpdate_at g rfl ?_ (hsz:=JL _) (hsz2:=lo _ pm))))
 simp only[Z1,bne_self_eq_false,Y9]
 exact Ja k
end
end Ts
namespace Own
open PySem PySem.Spec PyProof.Rows Ts
section
variable {prog:Program}{w:World}{A:Around}{E:Value->Shared->Prop}{s:Shared}
theorem zhP {x:Value}{Q:Value->Shared->Prop}
  (h:wpAny (model prog w) A.in1 (collect x) (λvs s1=>∃ (κ:SortKind) (a:Value->Int),vs.length<=10000 /\
   (∀ h':Heap,(∀ c o,s1.heap.get? c=some o->h'.get? c=some o)->2<=vs.length->∀ (b:Around) {Q:SortKind->Shared->Prop}{E:Value->Shared->Prop},Q κ { s1 with heap:=h' }->wpAny (model prog w) b (keyKind' vs.toArray) Q E { s1 with heap:=h' }) /\
   (∀ h':Heap,(∀ c o,s1.heap.get? c=some o->h'.get? c=some o)->∀ (b:Around),b.units<=A.units+8->Cmp prog w b { s1 with heap:=h' } κ (λp=>p.1∈vs) (λp=>a p.1)) /\
   ∀ (h':Heap) (l:Addr) (e:Nat) (out:List Value),s1.heap.objs.size<=l->h'.get? l=some (seqObj "list" out.toArray e)->out.Perm vs->out.Pairwise (λx y=>a x<=a y)->(∀ c o,s1.heap.get? c=some o->h'.get? c=some o)->Q (.ref l) { s1 with heap:=h' }) E s) :
  wpAny (model prog w) A (call (.builtin "sorted") [x]) Q E s:=by
 refine Calls.call_function_entry kind_sorted plain_sorted entry_sorted (args_sorted1 _) ?_;unfold Builtin.«sorted»
 refine J0 (m:=checkCount "sorted" 1 1 _) (Ja (J0 (JU h (λvs s1 z=>?_) λ_ _ e=>e)))
 obtain⟨κ,a,d,f,i,fin⟩:=z
 have sl:vs.length<=sizeLine:=JW d (by decide)
 refine J0 (wpAny_newList ?_ (hsz:=sl))
 have new:(s1.heap.push (seqObj "list" vs.toArray 0)).get? s1.heap.objs.size=some (seqObj "list" vs.toArray 0):=Js _ rfl
 have up:∀ h':Heap,(∀ c o,c≠s1.heap.objs.size->(s1.heap.push (seqObj "list" vs.toArray 0)).get? c=some o->h'.get? c=some o)->∀ c o,s1.heap.get? c=some o->h'.get? c=some o:=λh' k c o e=>k c o (JF (Jq e)) (J8 _ e)
 refine J0 (Yp (Y7 slot_list_sort ⟨_,new,rfl⟩ entry_list_sort (zhQ new d κ a (λh' k l2=>f h' (up h' k) l2 _) (λh' k=>i h' (up h' k) _ ?_) λout p1 p2=>⟨_,rfl,?_⟩) (args_list_sort _)))
 ·show A.units+1+1<=A.units+8
  lia
 obtain⟨e,g⟩:=sortedHeap_at (out:=out.toArray) new
 refine Ja ⟨_,rfl,fin _ _ e out (Jg _) g p1 p2 λc o q=>?_⟩
 have lt:=Jq q
 rw[sortedHeap_old (JF lt) (by rw[size_push'];exact Zn lt)]
 exact J8 _ q
end
end Own
namespace L2
open PySem PySem.Spec PyProof.Rows Own Ts
inductive Lx (H:Hp):Nat->V->V->Ordering->Prop where
 | int (n:Nat) (i j:Int):Lx H n (.int i) (.int j) (compare i j)
 | row {n:Nat}{a b:Addr}{xs ys:List V}{cs:List Ordering}(ha:H a=some (.tup xs)) (hb:H b=some (.tup ys)) (l1:xs.length=cs.length) (l2:ys.length=cs.length) (h:∀ (i:Nat) u v c,xs[i]?=some u->ys[i]?=some v->cs[i]?=some c->Lx H n u v c) :
   Lx H (n+1) (.ref a) (.ref b) (cs.foldr Ordering.then .eq)
theorem zdg:∀ {cs:List Ordering},cs.foldr Ordering.then .eq=.eq↔∀ c∈cs,c=.eq
 | []=>by simp
 | c::cs=>by
  rw[List.foldr_cons]
  constructor
  ·intro h
   cases c<;>simp[Ordering.then]at h
   intro d hd
   rcases Ju.mp hd with rfl|a
   ·rfl
   ·exact zdg.mp h d a
  ·intro h
   rw[h c JJ]
   exact zdg.mpr λd hd=>h d (JH _ hd)
theorem zfp:∀ {cs:List Ordering},cs.foldr Ordering.then .eq≠.eq->∃ (k:Nat) (c:Ordering),cs[k]?=some c/\c≠.eq/\cs.foldr Ordering.then .eq=c/\∀ j:Nat,j<k->cs[j]?=some Ordering.eq
 | [],h=>absurd rfl h
 | c::cs,h=>by
  by_cases z:c=.eq
  ·subst z
   have e:(Ordering.eq::cs).foldr Ordering.then .eq=cs.foldr Ordering.then .eq:=rfl
   rw[e]at h ⊢
   obtain⟨k,d,h1,g,f,b⟩:=zfp h
   refine⟨k+1,d,by simpa using h1,g,f,λj a=>?_⟩
   cases j with
   | zero=>rfl
   | succ j=>simpa using b j (by lia)
  ·refine⟨0,c,rfl,z,?_,λj a=>by lia⟩
   rw[List.foldr_cons]
   cases c<;>first|rfl|exact absurd rfl z
section
variable {X:Cx}
theorem zcd (i j:Int):(compare i j == .eq)=decide (i=j)/\(compare i j == .lt)=decide (i<j):=by
 rw[show compare i j=compareOfLessAndEq i j from rfl]
 unfold compareOfLessAndEq
 by_cases h1:i<j
 ·rw[Jf h1,JB h1,Jt (by lia)];exact⟨rfl,rfl⟩
 ·rw[Jc h1,Jt h1]
  by_cases a:i=j
  ·rw[Jf a,JB a];exact⟨rfl,rfl⟩
  ·rw[Jc a,Jt a];exact⟨rfl,rfl⟩
theorem Lx.refl {H:Hp}{n:Nat}{x y:V}{c:Ordering}(h:Lx H n x y c):x=y->c=.eq:=by
 induction h with
 | int n i j =>
  intro e
  cases e
  have:=(zcd i i).1
  rw[JB rfl]at this
  simpa using this
 | @row n a b xs ys cs ha hb l1 l2 h ih =>
  intro e
  cases e
  rw[ha]at hb
  cases hb
  refine zdg.mpr λc d=>?_
  obtain⟨i,hi⟩:=Zm.mp d
  have f:=(Jd.mp hi).1
  exact ih i _ _ c (J7 (by lia)) (J7 (by lia)) hi rfl
theorem ziN {pins:List (Addr × Obj)}{σ:St}{H:Hp}{s:Shared}(I:Inv X pins σ H s) {n:Nat}{x y:V}{c:Ordering}(h:Lx H n x y c):∀ (A:Around) (u v:Value),A.units+n<cLine->RelV x u->RelV y v->SeqAt.EqAt A s u v (c == .eq):=by
 induction h with
 | int n i j =>
  intro A u v _ o m
  have:=zlh (A:=A) (s:=s) (x:=.int j) (y:=.int i) o m rfl rfl
  rw[(zcd i j).1]
  have e:eqV (.int i) (.int j)=decide (i=j):=by
   show (i == j)=decide (i=j)
   by_cases z:i=j<;>simp[z]
  rwa [e]at this
 | @row n a b xs ys cs ha hb l1 l2 h ih =>
  intro A u v Q o m
  cases o;cases m
  by_cases D:a=b
  ·subst D
   have:cs.foldr Ordering.then .eq=.eq:=Lx.refl (.row ha hb l1 l2 h) rfl
   rw[this];exact SeqAt.EqAt.same _
  ·obtain⟨its,C,p1,_⟩:=I.tuple (SqT.of ha)
   obtain⟨f,B,p2,_⟩:=I.tuple (SqT.of hb)
   have q:=C.length
   have p:=B.length
   refine SeqAt.EqAt.of_refs D ?_
   have e:((List.range (min its.toArray.size f.toArray.size)).all (λj=>(cs.getD j .eq) == .eq) && its.toArray.size == f.toArray.size)=(cs.foldr Ordering.then .eq == .eq):=by
    rw[Jj,Jj,<- q,<- p,l1,l2,ZB,Bool.and_true,Nat.min_self]
    by_cases z:cs.foldr Ordering.then .eq=.eq
    ·rw[z]
     refine(Ze.mpr λj M=>?_).trans rfl
     have w:=Yd.mp M
     rw[J9,J7 w,ZA,zdg.mp z _ (Yb w)];rfl
    ·obtain⟨k,d,h1,O,N,_⟩:=zfp z
     have K:=(Jd.mp h1).1
     rw[N]
     have f1:(d == Ordering.eq)=false:=by simpa using O
     rw[f1]
     refine Bool.eq_false_iff.mpr λt=>?_
     have:=Ze.mp t k (Yd.mpr K)
     rw[J9,h1,ZA,f1]at this
     cases this
   have:=SeqAt.RcAt.tuples (e:=λj=>(cs.getD j .eq) == .eq) p1 p2 (A:=A) (s:=s) (by lia) (λj k1 L=>?_)
   ·rwa [e]at this
   ·have l:j<xs.length:=by simpa [q] using k1
    have g:j<ys.length:=by simpa [p] using L
    obtain⟨F,P,J⟩:=C.get (J7 l)
    obtain⟨E,e2,G⟩:=B.get (J7 g)
    have z1:its.toArray[j]=F:=by simpa using (Jd.mp P).2
    have z2:f.toArray[j]=E:=by simpa using (Jd.mp e2).2
    have r:j<cs.length:=by lia
    rw[z1,z2,J9,J7 r,ZA]
    exact ih j _ _ _ (J7 l) (J7 g) (J7 r) A.in1 _ _ (by show A.units+1+n<cLine;lia) J G
theorem zl4 {pins:List (Addr × Obj)}{σ:St}{H:Hp}{s:Shared}(I:Inv X pins σ H s) {n:Nat}{x y:V}{c:Ordering}(h:Lx H n x y c):c≠.eq->∀ (A:Around) (u v:Value),A.units+n<cLine->RelV x u->RelV y v->LtAt A s u v (c == .lt):=by
 induction h with
 | int n i j =>
  intro _ A u v _ ⟨t1,r⟩ ⟨t2,e2⟩
  subst r e2
  rw[(zcd i j).2]
  exact LtAt.ints i j t1 t2
 | @row n a b xs ys cs ha hb l1 l2 h ih =>
  intro ne A u v N g f
  cases g;cases f
  obtain⟨its,z,p1,_⟩:=I.tuple (SqT.of ha)
  obtain⟨e,w,p2,_⟩:=I.tuple (SqT.of hb)
  have G:=z.length
  have F:=w.length
  obtain⟨k,d,h1,t,L,K⟩:=zfp ne
  have M:=(Jd.mp h1).1
  have at_:∀ j (k1:j<its.toArray.size) (q:j<e.toArray.size),∃ (m:j<xs.length) (l:j<ys.length),RelV xs[j] its.toArray[j]/\RelV ys[j] e.toArray[j]:=λj k1 q=>by
   have p:j<xs.length:=by simpa [G] using k1
   have o:j<ys.length:=by simpa [F] using q
   obtain⟨C,r,E⟩:=z.get (J7 p)
   obtain⟨B,e2,D⟩:=w.get (J7 o)
   have z1:its.toArray[j]=C:=by simpa using (Jd.mp r).2
   have z2:e.toArray[j]=B:=by simpa using (Jd.mp e2).2
   rw[z1,z2]
   exact⟨p,o,E,D⟩
  rw[L]
  have b1:k<its.toArray.size:=by rw[Jj];lia
  have b2:k<e.toArray.size:=by rw[Jj];lia
  obtain⟨m,l,g,f⟩:=at_ k b1 b2
  refine LtAt.tuples (k:=k) p1 p2 (by lia) b1 b2 (λj k1 q J=>?_) ?_ ?_
  ·obtain⟨m,l,g,f⟩:=at_ j k1 q
   exact ziN I (h j _ _ _ (J7 m) (J7 l) (K j J)) A.in1 _ _ (by show A.units+1+n<cLine;lia) g f
  ·have:=ziN I (h k _ _ _ (J7 m) (J7 l) h1) A.in1 _ _ (by show A.units+1+n<cLine;lia) g f
   rwa [show (d == Ordering.eq)=false from by simpa using t]at this
  ·exact ih k _ _ _ (J7 m) (J7 l) h1 t A.in1 _ _ (by show A.units+1+n<cLine;lia) g f
end
def Rk (H:Hp) (xs:List V) (rk:V->Int):Prop:=(∀ x∈xs,∃ i,x=.int i/\rk x=i)\/∃ n,n<=20/\∀ x∈xs,(∃ a f r,x=.ref a/\H a=some (.tup (.int f::r)))/\∀ y∈xs,Lx H n x y (compare (rk x) (rk y))
def vOf:Value->V
 | .int i _=>.int i
 | .ref a=>.ref a
 | _=>.non
theorem zde:∀ {xs:List V}{us:List Value},Vals xs us->(∀ x∈xs,(∃ i,x=.int i)\/∃ a,x=.ref a)->xs=us.map vOf/\∀ u∈us,RelV (vOf u) u
 | _,_,.nil,_=>⟨rfl,λu g=>by simp at g⟩
 | x::xs,u::us,.cons r rs,h=>by
  obtain⟨e,f⟩:=zde rs λy c=>h y (JH _ c)
  have one:vOf u=x/\RelV (vOf u) u:=by
   rcases h x JJ with ⟨i,rfl⟩|⟨a,rfl⟩
   ·obtain⟨t,rfl⟩:=r;exact⟨rfl,t,rfl⟩
   ·cases r;exact⟨rfl,rfl⟩
  refine⟨by rw[JZ,one.1,<- e],λv d=>?_⟩
  rcases Ju.mp d with rfl|b
  ·exact one.2
  ·exact f v b
theorem zdf:∀ {us:List Value},(∀ u∈us,RelV (vOf u) u)->Vals (us.map vOf) us
 | [],_=>.nil
 | u::us,h=>.cons (h u JJ) (zdf λv a=>h v (JH _ a))
theorem Rk.kinds {H:Hp}{xs:List V}{rk:V->Int}(h:Rk H xs rk):∀ x∈xs,(∃ i,x=.int i)\/∃ a,x=.ref a:=λx b=>by
 rcases h with h|⟨n,_,h⟩
 ·obtain⟨i,e,_⟩:=h x b;exact .inl ⟨i,e⟩
 ·obtain⟨⟨a,_,_,e,_⟩,_⟩:=h x b;exact .inr ⟨a,e⟩
section
variable {prog:Program}{w:World}{A:Around}{E:Value->Shared->Prop}{s:Shared}
theorem zgm {u v:Value}{b:Bool}{Q:Bool->Shared->Prop}(l:LtAt A s u v b) (h:Q b s):wpAny (model prog w) A (oneLt' false u v) Q E s:=by
 rw[oneLt'_eq,Jc Jp]
 exact J0 (l prog w _ _ (YM h))
theorem zma {Q:Bool->Shared->Prop}(cs:List Ordering):∀ (us vs:List Value) (i:Nat),us.length=cs.length->vs.length=cs.length->(∀ (j:Nat) u v c,us[j]?=some u->vs[j]?=some v->cs[j]?=some c->SeqAt.EqAt A s u v (c == .eq)/\(c≠.eq->LtAt A s u v (c == .lt))) ->
  (i=0->∀ u v c,us[0]?=some u->vs[0]?=some v->cs[0]?=some c->∃ a b t t',u=.int a t/\v=.int b t'/\c=compare a b)->Q (cs.foldr Ordering.then .eq == .lt) s->PySem.W.KatLex prog w A true false Q (us.zip vs) i s:=by
 induction cs with
 | nil =>
  intro us vs i l1 l2 _ _ q
  rw[ZX.mp l1]
  exact PySem.W.kat_nil q
 | cons c cs ih =>
  intro us vs i l1 l2 h l q
  obtain⟨u,us,rfl⟩:∃ u g,us=u::g:=by
   cases us with
   | nil=>simp at l1
   | cons u us=>exact⟨u,us,rfl⟩
  obtain⟨v,vs,rfl⟩:∃ v f,vs=v::f:=by
   cases vs with
   | nil=>simp at l2
   | cons v vs=>exact⟨v,vs,rfl⟩
  have k:=h 0 u v c rfl rfl rfl
  refine PySem.W.kat_cons (k.1 prog w _ _ ?_)
  by_cases z:c=.eq
  ·subst z
   refine PySem.W.kat_yes (ih us vs (i+1) (by simpa using l1) (by simpa using l2) (λj u v c a1 a2 o=>h (j+1) u v c (by simpa using a1) (by simpa using a2) (by simpa using o)) (λe=>by lia) q)
  ·have n:(c == Ordering.eq)=false:=by simpa using z
   have e2:(c::cs).foldr Ordering.then .eq=c:=by
    rw[List.foldr_cons]
    cases c<;>first|rfl|exact absurd rfl z
   rw[e2]at q
   rw[n]
   refine PySem.W.kat_no ?_
   by_cases d:i=0
   ·obtain⟨a,b,t,t',rfl,rfl,m⟩:=l d u v c rfl rfl rfl
    subst d
    rw[m,(zcd a b).2]at q
    exact oneLt_int q
   ·have:(true && i == 0)=false:=by simpa using d
    rw[this]
    exact zgm (k.2 z) q
end
section
variable {X:Cx}
theorem asks {pins:List (Addr × Obj)}{σ:St}{H:Hp}{s1:Shared}(I:Inv X pins σ H s1) (s:X.A.units+64<cLine) {xs:List V}{vs:List Value}{rk:V->Int}(r:Vals xs vs) (R:Rk H xs rk) :
  ∃ κ:SortKind,(∀ h':Heap,(∀ c o,s1.heap.get? c=some o->h'.get? c=some o)->2<=vs.length->∀ (l:Around) {Q:SortKind->Shared->Prop}{E:Value->Shared->Prop},Q κ { s1 with heap:=h' }->wpAny (model X.prog X.w) l (keyKind' vs.toArray) Q E { s1 with heap:=h' }) /\
   (∀ h':Heap,(∀ c o,s1.heap.get? c=some o->h'.get? c=some o)->∀ (l:Around),l.units<=X.A.units+8->Cmp X.prog X.w l { s1 with heap:=h' } κ (λp=>p.1∈vs) (λp=>rk (vOf p.1))):=by
 obtain⟨ex,rel⟩:=zde r R.kinds
 have mem:∀ u∈vs,vOf u∈xs:=λu s=>by rw[ex];exact JD.mpr ⟨u,s,rfl⟩
 rcases R with R|⟨n,hn,R⟩
 ·have z:∀ u∈vs,∃ i t,u=.int i t/\rk (vOf u)=i:=λu s=>by
   obtain⟨i,e,ei⟩:=R _ (mem u s)
   have ru:=rel u s
   rw[e]at ru
   obtain⟨t,rfl⟩:=ru
   exact⟨i,t,rfl,ei⟩
  refine⟨oneType',λh' k l2 l Q E q=>PySem.W.kas_kind l2 (T:=.type "int") (λv d=>?_) (by decide) (by decide) q,λh' k l _=>⟨λx y O F Q E q=>?_⟩⟩
  ·obtain⟨i,t,rfl,_⟩:=z v d
   exact PySem.W.Looks.of_pure rfl
  ·obtain⟨N,x2⟩:=x
   obtain⟨D,y2⟩:=y
   obtain⟨i,t,w,B⟩:=z N O
   obtain⟨j,t',e2,S⟩:=z D F
   simp only at q
   rw[B,S]at q
   subst w e2
   show wpAny _ _ (keyLt' oneType' (.int i t) (.int j t')) _ _ _
   rw[keyLt'_oneType]
   exact oneLt_int q
 ·refine⟨tuples' (Value.type "int" != Value.type "tuple"),λh' k l2 l Q E q=>?_,λh' k l hA=>⟨λx y O F Q E q=>?_⟩⟩
  ·have C:Inv X pins σ H { s1 with heap:=h',toks:=s1.toks }:=I.kept k
   have kt:∀ us:List Value,(∀ u∈us,vOf u∈xs/\RelV (vOf u) u)->∃ fs,PySem.W.KatTups h' us fs/\fs.length=us.length/\∀ f∈fs,∃ i t,f=Value.int i t:=by
    intro us
    induction us with
    | nil=>intro _;exact⟨[],PySem.W.KatTups.nil,rfl,λf G=>by simp at G⟩
    | cons u us ih =>
     intro h
     obtain⟨fs,k1,k2,U⟩:=ih λv d=>h v (JH _ d)
     obtain⟨m1,B⟩:=h u JJ
     obtain⟨⟨a,f,rr,e,ha⟩,_⟩:=R _ m1
     rw[e]at B
     cases B
     obtain⟨its,g,⟨o,eo,co,no,dt⟩,_⟩:=C.tuple (SqT.of ha)
     obtain⟨f0,ef,⟨t0,rfl⟩⟩:=g.get (i:=0) (x:=.int f) rfl
     exact⟨_,PySem.W.KatTups.cons eo co dt (by simpa using ef) k1,by rw[JK,JK,k2],λf' G=>by
      rcases Ju.mp G with rfl|G
      ·exact⟨_,_,rfl⟩
      ·exact U f' G⟩
   obtain⟨fs,k1,k2,U⟩:=kt vs λu s=>⟨mem u s,rel u s⟩
   refine PySem.W.kat_kind (T:=.type "int") k1 (by lia) (λv d=>?_) (by decide) q
   obtain⟨i,t,rfl⟩:=U v d
   exact PySem.W.Looks.of_pure rfl
  ·have C:Inv X pins σ H { s1 with heap:=h',toks:=s1.toks }:=I.kept k
   obtain⟨N,x2⟩:=x
   obtain⟨D,y2⟩:=y
   have rx:=rel N O
   have ry:=rel D F
   obtain⟨⟨a,f,xr,ea,ha⟩,lx⟩:=R _ (mem N O)
   obtain⟨⟨b,g,yr,eb,hb⟩,_⟩:=R _ (mem D F)
   have L:=lx _ (mem D F)
   simp only at q
   rw[ea]at rx L q
   rw[eb]at ry L q
   cases rx;cases ry
   generalize hc:compare (rk (V.ref a)) (rk (V.ref b))=c at L
   rw[<- (zcd (rk (V.ref a)) (rk (V.ref b))).2,hc]at q
   cases L with
   | @row n _ _ af ae cs M K l1 l2 hL =>
    rw[ha]at M;cases M
    rw[hb]at K;cases K
    obtain⟨its,Y,⟨o1,aa,aj,ah,ad⟩,_⟩:=C.tuple (SqT.of ha)
    obtain⟨J,W,⟨o2,Z,ai,ag,ab⟩,_⟩:=C.tuple (SqT.of hb)
    have m1:=Y.length
    have m2:=W.length
    show wpAny _ _ (keyLt' (tuples' true) (.ref a) (.ref b)) _ _ _
    refine PySem.W.kat_lt aa ad Z ab ?_
    have ds:decide (its.toArray.size<J.toArray.size)=false:=Jt (by rw[Jj,Jj];lia)
    rw[ds]
    refine zma cs its J 0 (by lia) (by lia) (λj u v c m d A=>?_) (λ_ u v c m d A=>?_) q
    ·have j1:j<(V.int f::xr).length:=by have:=(Jd.mp m).1;lia
     have j2:j<(V.int g::yr).length:=by have:=(Jd.mp d).1;lia
     obtain⟨u',w,q1⟩:=Y.get (J7 j1)
     obtain⟨v',e2,q2⟩:=W.get (J7 j2)
     rw[m]at w;obtain rfl:=Jr w
     rw[d]at e2;obtain rfl:=Jr e2
     have P:=hL j _ _ c (J7 j1) (J7 j2) A
     exact⟨ziN C P l _ _ (by lia) q1 q2,λne=>zl4 C P ne l _ _ (by lia) q1 q2⟩
    ·obtain⟨u',w,t1,B⟩:=Y.get (i:=0) (x:=.int f) rfl
     obtain⟨v',e2,t2,S⟩:=W.get (i:=0) (x:=.int g) rfl
     rw[m]at w;obtain rfl:=Jr w
     rw[d]at e2;obtain rfl:=Jr e2
     have P:=hL 0 (.int f) (.int g) c rfl rfl A
     cases P
     exact⟨f,g,t1,t2,B,S,rfl⟩
end
section
variable {X:Cx}
theorem zfb (b:Bool) (f:X.A.units+64<cLine):CallR X (.builtin "sorted") (λvs H Q=>∃ a xs rk,vs=[.ref a]/\SqB b X.K H a xs/\xs.length<=10000/\Rk H xs rk/\∀ (l:Addr) (ys:List V),H l=none->ys.Perm xs->ys.Pairwise (λx y=>rk x<=rk y)->Q (.ref l) (upd H l (.lst ys))):=by
 intro pins s σ H vs us Q I i h
 obtain⟨a,xs,rk,rfl,m,z,R,q⟩:=h
 obtain⟨u,rfl,j⟩:=i.one
 cases j
 obtain⟨its,r,p⟩:=I.sq m
 have A:=r.length
 have sl:its.length<=sizeLine:=JW (show _<=10000 by lia) (by decide)
 refine zhP (zm6 p sl λh1 d k1=>?_)
 have w:Inv X pins σ H { s with heap:=h1,toks:=s.toks }:=I.kept k1
 obtain⟨κ,n,t⟩:=asks w f r R
 refine⟨κ,λu=>rk (vOf u),by lia,n,t,λh' l e out lo v pm so k=>?_⟩
 obtain⟨ex,rel⟩:=zde r R.kinds
 have g:Vals (out.map vOf) out:=zdf λu f=>rel u (pm.mem_iff.mp f)
 refine⟨.ref l,_,I.laid (t':=s.toks) (o:=.lst (out.map vOf)) (λc o q=>k c o (k1 c o q)) (JW d lo) ⟨?_,out,e,g,v⟩,rfl,q l _ (I.hok.fresh (JW d lo)) ?_ ?_⟩
 ·rw[Jh,pm.length_eq];exact sl
 ·rw[ex];exact pm.map vOf
 ·exact List.pairwise_map.mpr so
end
section
variable {X:Cx}{pins:List (Addr × Obj)}{σ:St}{H:Hp}{s:Shared}
theorem Inv.adopt {T:Addr}{o:HO}(I:Inv X pins σ H s) (d:FpOk X pins H T) (new:ObjOk X.prog X.w (upd H T o) s.heap T o):Inv X pins σ (upd H T o) s:=by
 have a:=d.1
 have J:Inv X pins σ (upd H T o) { s with heap:=s.heap,gens:=s.gens,drawn:=s.drawn,toks:=s.toks }:=by
  refine I.step (ch:=[T]) (λb hb=>?_) (λb u _ _ _ e _=>e) (λb u _ _ _ e _=>⟨u.slots,e⟩) (λb u g _ n=>by rw[zah λq=>g (Je.mpr q)];exact n)
   (λb u _ e=>⟨u,e⟩) (λb xs e=>by rw[zah (zag e a)];exact e) (λb u x e=>by rw[zah (zag e a)];exact e) (λb ps e=>⟨#[],by rw[zah (zag e a),e];simp⟩) (λm f=>f) (λb u e=>?_) I.bare
  ·have only:=Je.mp hb
   subst only
   exact⟨d.2.2.2.1,d.2.1,d.2.2.2.2.1,d.2.2.2.2.2⟩
  ·by_cases hb:b=T
   ·subst hb;rw[zaf]at e;cases e;exact new
   ·rw[zah hb]at e
    exact(I.hok b u e).stay (λc v _ q=>q) (λc q=>by rw[zah (zag q a)];exact q) λc xs q=>by rw[zah (zag q a)];exact q
 exact J
end
end L2
namespace L2
open PySem PySem.Spec PyProof.Rows Own
section
variable {X:Cx}{pins:List (Addr × Obj)}{σ:St}{H:Hp}{s:Shared}{d:Addr}
theorem Inv.reword {u v:HO}(I:Inv X pins σ H s) (hd:H d=some u) (f:∀ xs,u≠.tup xs) (nb:∀ ps,u≠.tbl ps) (no:∀ a,u≠.own a) (i:∀ o' g,X.H₀ d≠some (.frz o' g)) (new:ObjOk X.prog X.w (upd H d v) s.heap d v):Inv X pins σ (upd H d v) s:=by
 have ne:∀ {b},H b=none->b≠d:=λe z=>by rw[z,hd]at e;cases e
 have oth:∀ {b} {q:HO},H b=some q->q≠u->upd H d v b=some q:=λ{b q} e n=>by
  rw[zah];· exact e
  ·intro z
   rw[z,hd]at e
   exact n (Jr e).symm
 refine⟨I.ok,I.os,I.bare,⟨I.base.keep,I.base.slot,λb q e n j=>?_,I.base.there,λb xs e=>oth (I.base.tups b xs e) λz=>f xs z.symm,λb q w e=>?_,λb ps e=>?_⟩,I.loc,I.cell,?_,λx c e=>?_,λp k=>?_,λb q e=>?_,I.len⟩
 ·have z:=I.base.free b q e n j
  rw[zah (ne z)];exact z
 ·rw[zah]
  ·exact I.base.frzs b q w e
  ·rintro rfl;exact i q w e
 ·obtain⟨more,z⟩:=I.base.tbls b ps e
  exact⟨more,oth z λq=>nb _ q.symm⟩
 ·rw[zah (ne I.free)];exact I.free
 ·have z:=I.freeC x c e
  rw[zah (ne z)];exact z
 ·obtain⟨p1,p2,h⟩:=I.pin p k
  exact⟨p1,by rw[zah (ne p2)];exact p2,h⟩
 ·by_cases z:b=d
  ·subst z
   rw[zaf]at e
   cases e;exact new
  ·rw[zah z]at e
   exact(I.hok b q e).stay (λc w _ r=>r) (λc r=>oth r λz=>no _ z.symm) λc xs r=>oth r λz=>f _ z.symm
end
def NIv (H:Hp):KI->V->Prop
 | .inl i,v=>v=.int i
 | .inr xs,v=>∃ b,v=.ref b/\H b=some (.tup (xs.map V.int))
def NIvs (H:Hp):KN->List V->Prop
 | [],vs=>vs=[]
 | k::ks,vs=>∃ v r,vs=v::r/\NIv H k v/\NIvs H ks r
def NKey (H:Hp) (k:KN) (b:Addr):Prop:=∃ ys,H b=some (.tup ys)/\NIvs H k ys
theorem NIvs.tups {H H':Hp}(t:∀ b ys,H b=some (.tup ys)->H' b=some (.tup ys)):∀ {k:KN}{ys:List V},NIvs H k ys->NIvs H' k ys
 | [],_,h=>h
 | .inl i::k,_,h=>by
  obtain⟨v,r,e,h1,a⟩:=h
  exact⟨v,r,e,h1,NIvs.tups t a⟩
 | .inr xs::k,_,h=>by
  obtain⟨v,r,e,⟨b,h1,c⟩,a⟩:=h
  exact⟨v,r,e,⟨b,h1,t _ _ c⟩,NIvs.tups t a⟩
theorem NKey.tups {H H':Hp}(t:∀ b ys,H b=some (.tup ys)->H' b=some (.tup ys)) {k:KN}{b:Addr}(h:NKey H k b):NKey H' k b:=by
 obtain⟨ys,h1,a⟩:=h
 exact⟨ys,t _ _ h1,a.tups t⟩
section
variable {P:Program}{w:World}{H:Hp}{h:Heap}
theorem zgv (ok:HOk P w H h):∀ {k:KN}{ys:List V}{its:List Value},NIvs H k ys->Vals ys its->NIts P w h k its
 | [],_,its,a,r=>by
  rw[show _=[] from a]at r
  cases r;rfl
 | k::ks,_,its,a,r=>by
  obtain⟨v,q,rfl,a1,a2⟩:=a
  cases r with
  | @cons _ u _ us c r =>
   refine⟨u,us,rfl,?_,zgv ok a2 r⟩
   cases k with
   | inl i=>rw[show v=.int i from a1]at c;exact c
   | inr xs =>
    obtain⟨b,rfl,hb⟩:=a1
    refine⟨b,c,?_⟩
    have e:xs.map V.int=(xs.map (Sum.inl:Int->Key)).map kV:=by rw[Zz];rfl
    rw[e]at hb
    exact zm0 ok hb
theorem zdm (ok:HOk P w H h) {k:KN}{b:Addr}(a:NKey H k b):NIs P w h k b:=by
 obtain⟨ys,hb,a⟩:=a
 obtain⟨_,its,r,o,h1,d,n,c⟩:=(show ObjOk P w H h b (.tup ys) from ok b _ hb)
 exact⟨o,its.toArray,n,h1,d,c.1,by simpa using zgv ok a r⟩
end
abbrev KVN:=List (KN × Addr × V)
def PrN:KN × Addr × V->KN × Addr × Value->Prop:=λp q=>p.1=q.1/\p.2.1=q.2.1/\RelV p.2.2 q.2.2
def valN (xs:KVN) (k:KN):Option V:=(xs.find? λx=>decide (x.1=k)).map (·.2.2)
def putN (xs:KVN) (k:KN) (b:Addr) (v:V):KVN:=if (valN xs k).isSome then xs.map λx=>if x.1=k then (x.1,x.2.1,v) else x else xs++[(k,b,v)]
theorem zd2 {xs:KVN}{vs:List (KN × Addr × Value)}(r:Paired PrN xs vs) (k:KN):RelO (valN xs k) ((atKey vs k).map (·.2)):=by
 induction r with
 | nil=>exact True.intro
 | @cons p q ps a h t ih =>
  unfold valN atKey at ih ⊢
  rw[YU,YU,h.1]
  by_cases c:q.1=k
  ·rw[JB c];exact h.2.2
  ·rw[Jt c];exact ih
theorem zjY {xs:KVN}{vs:List (KN × Addr × Value)}(r:Paired PrN xs vs) (k:KN) {v:V}{u:Value}(a:RelV v u):Paired PrN (xs.map λx=>if x.1=k then (x.1,x.2.1,v) else x) (vs.map (putAt k u)):=by
 induction r with
 | nil=>exact .nil
 | @cons p q ps b h t ih =>
  refine .cons ?_ ih
  unfold putAt
  dsimp only
  by_cases c:q.1=k
  ·rw[Jf (h.1.trans c),Jf c];exact⟨h.1,h.2.1,a⟩
  ·rw[Jc (λz=>c (h.1.symm.trans z)),Jc c];exact h
theorem putN_rel {xs:KVN}{vs:List (KN × Addr × Value)}(r:Paired PrN xs vs) (k:KN) (b:Addr) {v:V}{u:Value}(a:RelV v u):Paired PrN (putN xs k b v) (storedH vs k b u):=by
 have e:=(zd2 r k).isSome_eq
 rw[Option.isSome_map]at e
 unfold putN storedH
 rw[<- e]
 by_cases c:(valN xs k).isSome=true
 ·rw[Jf c,Jf c];exact zjY r k a
 ·rw[Jc c,Jc c];exact Paired.snoc r ⟨rfl,rfl,a⟩
theorem zgg (xs:KVN) (k:KN) (b:Addr) (v:V):(putN xs k b v).length<=xs.length+1:=by
 unfold putN
 split
 ·rw[Jh];lia
 ·rw[Jb];exact Jg _
def PhN (P:Program) (w:World) (a:Addr) (xs:KVN):Heap->Prop:=λh=>xs.length<=sizeLine/\(a == sysModules)=false/\∃ vs,Paired PrN xs vs /\
 ∃ o es ep,h.get? a=some o/\o.ExactDict/\o.data=.dict es ep/\es.toList=vs.map (entryOfKey (zbo P w))/\(vs.map (·.1)).Nodup
def DN (P:Program) (w:World) (a:Addr) (xs:KVN):HO:=.ext (PhN P w a xs)
def KsIn (H:Hp) (xs:KVN):Prop:=∀ x∈xs,NKey H x.1 x.2.1
theorem KsIn.tups {H H':Hp}{xs:KVN}(t:∀ b ys,H b=some (.tup ys)->H' b=some (.tup ys)) (h:KsIn H xs):KsIn H' xs:=λx a=>(h x a).tups t
section
variable {P:Program}{w:World}{H H':Hp}{h h':Heap}{a:Addr}{xs:KVN}
theorem dn_new (z:xs.length<=sizeLine) (hd:(a == sysModules)=false) {vs:List (KN × Addr × Value)}(r:Paired PrN xs vs) (d:h'.DictOfH (zbo P w) a vs):ObjOk P w H' h' a (DN P w a xs):=by
 obtain⟨o,es,ep,h1,f,e,c,_,b⟩:=d
 refine⟨⟨z,hd,vs,r,o,es,ep,h1,f,e,c,b⟩,⟨o,h1⟩,λk1 g ⟨z,hd,vs,r,o,es,ep,h1,f,e,c,b⟩ s=>⟨z,hd,vs,r,o,es,ep,s o h1,f,e,c,b⟩⟩
theorem zfW (ok:HOk P w H h) (e:Rd H a (DN P w a xs)) (ks:KsIn H xs):xs.length<=sizeLine/\(a == sysModules)=false/\∃ vs,Paired PrN xs vs/\h.DictOfH (zbo P w) a vs:=by
 obtain⟨⟨z,hd,vs,r,o,es,ep,h1,j,i,f,d⟩,l,k⟩:=(show ObjOk P w H h a (DN P w a xs) from zmD ok e)
 refine⟨z,hd,vs,r,o,es,ep,h1,j,i,f,?_,d⟩
 clear f d e z l k
 induction r with
 | nil=>intro x b;exact nomatch b
 | @cons p q ps m c t ih =>
  intro x b
  rcases Ju.mp b with here|there
  ·have:=zdm ok (ks p JJ)
   rw[c.1,c.2.1,<- here]at this
   exact this
  ·exact ih (λy g=>ks y (JH _ g)) x there
end
section
variable {X:Cx}{pins:List (Addr × Obj)}{σ:St}{H:Hp}{s:Shared}{a b:Addr}{xs:KVN}{k:KN}{v d:V}{r:Value}{A:Around}{E:Value->Shared->Prop}
theorem zkj (a:A.units+3<cLine):(zbo X.prog X.w).room A.in1:=by show A.in1.units+2<cLine;rw[Around.in1_units];lia
theorem n_in {Q:Value->Shared->Prop}(d:A.units+3<cLine) (I:Inv X pins σ H s) (e:Rd H a (DN X.prog X.w a xs)) (ks:KsIn H xs) (c:NKey H k b) (h:∀ s',Inv X pins σ H s'->Q (.bool (valN xs k).isSome) s') :
  wpAny (model X.prog X.w) A (compareOp .In (.ref b) (.ref a)) Q E s:=by
 obtain⟨z,hd,vs,rel,f⟩:=zfW I.hok e ks
 refine wpAny_in_heap (zkj d) (zdm I.hok c) hd f ?_
 have q:=(zd2 rel k).isSome_eq
 rw[Option.isSome_map]at q
 rw[<- q]
 exact h _ (I.tok _)
theorem zmV {Q:Value->Shared->Prop}(j:A.units+3<cLine) (I:Inv X pins σ H s) (e:Rd H a (DN X.prog X.w a xs)) (ks:KsIn H xs) (i:NKey H k b) (g:RelV d r) (h:∀ c s',Inv X pins σ H s'->RelV ((valN xs k).getD d) c->Q c s') :
  wpAny (model X.prog X.w) A (call (.builtin "dict.get") [.ref a,.ref b,r]) Q E s:=by
 obtain⟨z,hd,vs,rel,f⟩:=zfW I.hok e ks
 exact call_meetsIn PySem.F.slot_dict_get f.typeIs PySem.F.entry_dict_get (PySem.F.args_dict_get_3 _ _ _) (meetsH_dict_get_default (zbo X.prog X.w) a b hd r) ⟨zkj j,k,vs,zdm I.hok i,f,h _ _ (I.tok _) ((zd2 rel k).getD g)⟩
theorem ziH {Q:Unit->Shared->Prop}(i:A.units+3<cLine) (I:Inv X pins σ H s) (e:H a=some (DN X.prog X.w a xs)) (ks:KsIn H xs) (f:NKey H k b) (d:RelV v r) (l:xs.length<sizeLine) (h:∀ s',Inv X pins σ (upd H a (DN X.prog X.w a (putN xs k b v))) s'->Q () s') :
  wpAny (model X.prog X.w) A (setItem (.ref a) (.ref b) r) Q E s:=by
 obtain⟨z,hd,vs,rel,p⟩:=zfW I.hok (.inl e) ks
 have g:vs.length<=sizeLine:=by rw[<- YX rel];exact z
 have n:(putN xs k b v).length<=sizeLine:=by have:=zgg xs k b v;lia
 refine wpAny_setItem_heap (hsz:=g) (zkj i) (zdm I.hok f) p λh' c j=>h _ ?_
 have o:∃ q,h'.get? a=some q:=let ⟨q,_,_,m,_⟩:=c;⟨q,m⟩
 exact zfX I (by rw[e];exact True.intro) j o (dn_new n hd (putN_rel rel k b d) c)
end
section
variable {prog:Program}{w:World}{A:Around}{E:Value->Shared->Prop}{s:Shared}{d:Addr}
theorem zji {o:Obj}{es:Array DictEntry}{ep:Nat}{Q:Value->Shared->Prop}(a:s.heap.get? d=some o) (b:o.ExactDict) (hd:o.data=.dict es ep) (c:(d == sysModules)=false) (h:Q (.int es.size s.toks) { s with toks:=s.toks+1 }) :
  wpAny (model prog w) A (Builtin.«dict.__len__» ⟨[.ref d],[]⟩) (λfin s'=>∃ r,fin=.done (.ret r)/\Q r s') E s:=by
 have ty:s.TypeIs (.ref d) "dict":=⟨o,a,b.1⟩
 unfold Builtin.«dict.__len__» Builtin.Dict.dictSlotNone
 refine J0 (J0 (wpAny_notOrdered_dict ty ?_))
 refine J0 ?_
 show wpAny _ _ (pure ((.ref d,[]):Value × List Value)) _ _ _
 refine Ja (Ja (J0 ?_))
 show wpAny _ _ (pure d) _ _ _
 unfold dictSize
 refine Ja (J0 (J0 (Yc a hd (Ja (J0 (wpAny_pendingCount_other c ?_))))))
 unfold retInt
 have g:Q (.int ((es.size:Int)+((0:Nat):Int)) s.toks) { s with toks:=s.toks+1 }:=by
  rw[show ((es.size:Int)+((0:Nat):Int))=es.size from Int.add_zero _]
  exact h
 exact J0 (wpAny_mkInt (Ja ⟨_,rfl,g⟩))
theorem zgz {o:Obj}{es:Array DictEntry}{ep:Nat}{Q:Value->Shared->Prop}(b:s.heap.get? d=some o) (a:o.ExactDict) (hd:o.data=.dict es ep) (c:(d == sysModules)=false) (e:(es.size:Int)<2 ^ 63) (h:∀ t,Q (.int es.size t) { s with toks:=s.toks+1+1 }) :
  wpAny (model prog w) A (Builtin.«len» ⟨[.ref d],[]⟩) (λfin s'=>∃ r,fin=.done (.ret r)/\Q r s') E s:=by
 have ty:s.TypeIs (.ref d) "dict":=⟨o,b,a.1⟩
 unfold Builtin.«len»
 refine J0 ?_
 show wpAny _ _ (pure (Value.ref d)) _ _ _
 refine Ja (J0 (wpAny_callSpecial?_slot ty PySem.F.slot_dict_len (Y7 PySem.F.slot_dict_len ty PySem.F.entry_dict_len (zji b a hd c ?_) (PySem.F.args_dict_len_1 _))))
 show wpAny _ _ (holding [Value.int (es.size:Int) s.toks] (asIndex (.int (es.size:Int) s.toks)) >>= _) _ _ _
 refine J0 (Yp (show wpAny _ _ (pure (es.size:Int)) _ _ _ from Ja (J0 (ZV ?_))))
 dsimp only
 rw[Jc (by lia),Jc (by lia)]
 unfold retInt
 exact J0 (wpAny_mkInt (Ja ⟨_,rfl,h _⟩))
end
section
variable {X:Cx}{pins:List (Addr × Obj)}{σ:St}{H:Hp}{s:Shared}{a:Addr}{xs:KVN}{A:Around}{E:Value->Shared->Prop}
theorem zkn {P:Program}{w:World}{h:Heap}(ok:HOk P w H h) (e:Rd H a (DN P w a xs)):(a == sysModules)=false/\∃ o es ep,h.get? a=some o/\o.ExactDict/\o.data=.dict es ep/\es.size=xs.length/\(es.size:Int)<2 ^ 63:=by
 obtain⟨⟨z,hd,vs,r,o,es,ep,h1,d,c,b,f⟩,_,_⟩:=(show ObjOk P w H h a (DN P w a xs) from zmD ok e)
 have l:es.size=xs.length:=by rw[ZP b,<- YX r]
 refine⟨hd,o,es,ep,h1,d,c,l,?_⟩
 rw[JE]at z
 lia
theorem znA {Q:Value->Shared->Prop}(I:Inv X pins σ H s) (e:Rd H a (DN X.prog X.w a xs)) (h:∀ t s',Inv X pins σ H s'->Q (.int xs.length t) s'):wpAny (model X.prog X.w) A (call (.builtin "len") [.ref a]) Q E s:=by
 obtain⟨hd,o,es,ep,h1,c,b,l,f⟩:=zkn I.hok e
 refine Calls.call_function_entry kind_len plain_len entry_len (args_len1 _) (zgz h1 c b hd f λt=>?_)
 rw[l]
 exact h _ _ (I.tok _)
theorem zl0 {Q:Bool->Shared->Prop}(I:Inv X pins σ H s) (e:Rd H a (DN X.prog X.w a xs)) (h:∀ s',Inv X pins σ H s'->Q (!xs.isEmpty) s'):wpAny (model X.prog X.w) A (truthy (.ref a)) Q E s:=by
 obtain⟨hd,o,es,ep,h1,c,d,l,f⟩:=zkn I.hok e
 have ty:s.TypeIs (.ref a) "dict":=⟨o,h1,c.1⟩
 have q:∀ (n:Nat) (b:Bool),n=xs.length->b=((n:Int) != 0)->b = !xs.isEmpty:=λn b g e2=>by
  subst g e2
  cases xs with
  | nil=>rfl
  | cons x r=>rw[Yt];simp;lia
 unfold truthy
 show wpAny _ _ (callSpecial? (Value.ref a) (Str.ofString "__bool__") >>= _) _ _ _
 refine J0 (wpAny_callSpecial?_none (T:="dict") ty noBool_dict ?_)
 show wpAny _ _ (specialOf (Value.ref a) (Str.ofString "__len__") >>= _) _ _ _
 refine J0 (wpAny_specialOf (T:="dict") ty PySem.F.slot_dict_len.lookup ?_)
 show wpAny _ _ (runValue (Code.builtin "len" { pos:=[Value.ref a] }) >>= _) _ _ _
 refine J0 (wpAny_runValue (Z6 entry_len ?_))
 refine JU (zgz (Q:=λr s'=>(∃ t,r=.int es.size t)/\Inv X pins σ H s') h1 c d hd f λt=>⟨⟨t,rfl⟩,I.tok _⟩) ?_ λ_ _ z=>z
 rintro fin s' ⟨r,rfl,⟨t,rfl⟩,i⟩
 refine Ja ?_
 rw[q es.size _ l rfl]
 exact h s' i
end
def NAt (P:Program) (w:World) (H:Hp) (a:Addr) (xs:KVN):Prop:=Rd H a (DN P w a xs)/\KsIn H xs
def zmv (P:Program) (w:World) (td ty tx:TE):TE:=λσ H Q=>td σ H λx H1=>∃ a,x=.ref a/\(∃ xs,Rd H1 a (DN P w a xs))/\ty σ H1 λy d=>tx σ d λz c=>∃ b xs k,y=.ref b/\NAt P w c a xs/\NKey c k b/\Q ((valN xs k).getD z) c
def znv (P:Program) (w:World) (td ty tv:TE):TS:=λD σ H=>tv σ H λv H1=>td σ H1 λx d=>ty σ d λy c=>∃ a b xs k,x=.ref a/\y=.ref b/\c a=some (DN P w a xs)/\KsIn c xs/\NKey c k b/\xs.length<sizeLine/\D.nx σ (upd c a (DN P w a (putN xs k b v)))
section
variable {X:Cx}{o i e f value:Expr}{pos pos' apos cpos:Pos}{td ty tv tx:TE}
theorem ziG {pins:List (Addr × Obj)}{σ:St}{H:Hp}{s:Shared}{a:Addr}{xs:KVN}(I:Inv X pins σ H s) (d:Rd H a (DN X.prog X.w a xs)) :
  s.TypeIs (.ref a) "dict"/\∀ b,Value.ref a=.ref b->∃ ob,s.heap.get? b=some ob/\ob.dict=none:=by
 obtain⟨_,q,es,ep,h1,c,_⟩:=zkn I.hok d
 refine⟨⟨q,h1,c.1⟩,λb z=>?_⟩
 cases z
 exact⟨q,h1,c.2.1⟩
theorem zj5 (w:X.A.units+3<cLine) (A:PE X o td) (C:PE X e ty) (B:PE X f tx) (m:M2 X o "get" apos e f cpos):PE X (.Call (.Attribute o "get" apos) [e,f] [] cpos) (zmv X.prog X.w td ty tx):=by
 intro pins s σ H Q I h
 refine wpAny_Call_method m.base m.few m.line PySem.F.plainAttrs_dict PySem.F.slot_dict_get PySem.F.type_dict_get (thn (A pins s σ H _ I h) λu s1 ⟨x,H1,g,l,a,ex,⟨ys,d⟩,r⟩=>?_)
 subst ex
 cases (show u=Value.ref a from l)
 obtain⟨t1,t2⟩:=ziG g d
 refine⟨t1,t2,?_⟩
 rw[m.trees]
 refine ZY rfl (Calls.evalArgs_plain (ZS (thn (C pins s1 σ H1 _ g r) λv s2 ⟨y,K,G,j,q⟩ =>
  ZS (thn (B pins s2 σ K _ G q) λO N ⟨z,J,F,i,b,xs,k,D,n,t,p⟩=>Wy ?_))))
 subst D
 cases (show v=Value.ref b from j)
 exact zmV w F n.1 n.2 t i λL M E c=>⟨_,J,E,c,p⟩
theorem zlH (q:X.A.units+3<cLine) (w:PE X o td) (hi:PE X i ty) (p:PE X value tv) (t:swapsWith value (some (.Subscript o i pos')) pos.line X.env=pure false) :
  PS X (.Assign [.Subscript o i pos'] value pos) (znv X.prog X.w td ty tv):=by
 intro pins s σ H D I h
 refine wpAny_Assign_Subscript (thn (p pins s σ H _ I h) λr s1 ⟨v,H1,E,e,j⟩=>thn (w pins s1 σ H1 _ E j) λu s2 ⟨x,F,C,d,g⟩=>thn (hi pins s2 σ F _ C g) λn J ⟨y,K,B,c,a,b,xs,k,ex,z,hd,ks,m,l,f⟩=>?_) t
 subst ex z
 cases (show u=Value.ref a from d)
 cases (show n=Value.ref b from c)
 exact ziH q B hd ks m e l λG A=>⟨σ,_,A,f⟩
theorem zju:CallR X (.builtin "len") (λvs H Q=>∃ a xs,vs=[.ref a]/\Rd H a (DN X.prog X.w a xs)/\Q (.int xs.length) H):=by
 intro pins s σ H vs us Q I b ⟨a,xs,e,d,q⟩
 subst e
 obtain⟨u,rfl,c⟩:=b.one
 cases (show u=Value.ref a from c)
 exact znA I d λt s' f=>⟨.int xs.length,H,f,⟨t,rfl⟩,q⟩
theorem znh:TruR X (λx H Q=>∃ a xs,x=.ref a/\Rd H a (DN X.prog X.w a xs)/\Q (!xs.isEmpty) H):=by
 intro pins s σ H x v Q I b ⟨a,xs,e,d,q⟩
 subst e
 cases (show v=Value.ref a from b)
 exact zl0 I d λs' c=>⟨H,c,q⟩
theorem pt_n (ha:PE X o td) (d:∀ whole,isTrue o X.env whole=(do let v <- whole;standAt o.pos;holding [v] (truthy v))) :
  PT X o (λσ H Q=>td σ H λx H'=>∃ a xs,x=.ref a/\Rd H' a (DN X.prog X.w a xs)/\Q (!xs.isEmpty) H'):=by
 intro pins s σ H Q I h
 exact isTrue_plain (thn (ha pins s σ H _ I h) λv s1 ⟨x,H1,e,b,c⟩=>znh pins s1 σ H1 x v Q e b c) (d _)
def znp (P:Program) (w:World):TE:=λ_ H Q=>∀ p,H p=none->Q (.ref p) (upd H p (DN P w p []))
theorem zif:PE X (.Dict [] [] pos) (znp X.prog X.w):=λpins s σ H Q I h =>
 wpAny_Dict_empty ⟨.ref s.heap.objs.size,_,I.laid (a:=s.heap.objs.size) (o:=DN X.prog X.w s.heap.objs.size []) (t':=s.toks) (λ_ _ q=>J8 _ q) (Jg _)
  (dn_new (vs:=[]) (JL _) (ZE.mpr (Z0 I.big)) .nil (Heap.DictOfH.new _)),rfl,h _ (I.hok.fresh (Jg _))⟩
end
def rOne (P:Program) (w:World) (p:Addr) (Q:VK):List (V × V)->Hp->Prop
 | [(y,v)],a=>∃ b k,y=.ref b/\a p=some (DN P w p [])/\NKey a k b/\Q (.ref p) (upd a p (DN P w p [(k,b,v)]))
 | _,_=>False
def zno (P:Program) (w:World) (ty tv:TE):TE:=λσ H Q=>∀ p,H p=none->ty σ (upd H p (DN P w p [])) λy H1=>tv σ H1 λv a=>∃ b k,y=.ref b/\a p=some (DN P w p [])/\NKey a k b/\Q (.ref p) (upd a p (DN P w p [(k,b,v)]))
section
variable {X:Cx}{e f:Expr}{pos:Pos}{ty tv:TE}
theorem zj4 (J:X.A.units+3<cLine) (C:PE X e ty) (u:PE X f tv):PE X (.Dict [some e] [f] pos) (zno X.prog X.w ty tv):=by
 intro pins s σ H Q I q
 have B:=I.hok.fresh (Jg s.heap.objs.size)
 have F:=I.laid (a:=s.heap.objs.size) (o:=DN X.prog X.w s.heap.objs.size []) (h':=s.heap.push { cls:=.type "dict",data:=.dict #[] }) (t':=s.toks) (λ_ _ q=>J8 _ q) (Jg _)
  (dn_new (vs:=[]) (JL _) (ZE.mpr (Z0 I.big)) .nil (Heap.DictOfH.new _))
 refine wpAny_Dict_any rfl rfl (by simp) (by show 1<=15;lia) (thn ((zj1 C u zlI) pins _ σ _ (rOne X.prog X.w s.heap.objs.size Q) F (q _ B)) ?_)
 rintro vs s2 ⟨ps,K,d,rel,r⟩
 match ps,rel,r with
 | [(y,v)],rel,r =>
  obtain⟨b,k,rfl,g,n,m⟩:=r
  cases rel with
  | @cons _ i _ us h t =>
   cases t
   obtain⟨j,G⟩:=i
   cases (show j=Value.ref b from h.1)
   obtain⟨z,hd,vs,l,E⟩:=zfW d.hok (.inl g) (λx p=>nomatch p)
   cases l
   unfold storeAll
   rw[YZ]
   refine J0 (J0 (wpAny_dictSet_heap (knd:=zbo X.prog X.w) (k:=k) (hsz:=JL _) (show X.A.units+2<cLine by lia) (zdm d.hok n) E λh' c w=>Ja ?_))
   dsimp only
   rw[Zs]
   refine Ja ⟨.ref s.heap.objs.size,_,?_,rfl,m⟩
   have D:∃ q,h'.get? s.heap.objs.size=some q:=let ⟨q,_,_,A,_⟩:=c;⟨q,A⟩
   exact zfX d (by rw[g];exact True.intro) w D (dn_new (by show 1<=sizeLine;decide) hd (.cons ⟨rfl,rfl,h.2⟩ .nil) c)
 | [],_,r=>exact r.elim
 | _::_::_,_,r=>exact r.elim
end
section
variable {prog:Program}{w:World}{A:Around}{E:Value->Shared->Prop}{s:Shared}{d:Addr}
theorem zi4 {Q:Int->Shared->Prop}(q:Q (reduceHash 0xFCA86420) { s with toks:=s.toks+1 }):wpAny (model prog w) A (pyHash .none) Q E s:=by
 show wpAny (model prog w) A (pyHashByItsType .none) Q E s
 refine W.pyHash_slot (T:="NoneType") (id:="NoneType.__hash__") (B:=Builtin.«NoneType.__hash__») rfl F.slot_NoneType_hash F.entry_NoneType_hash (F.args_NoneType_hash_1 _) (by decide) (.inl rfl) ?_
 unfold Builtin.«NoneType.__hash__»
 refine J0 ?_
 show wpAny _ _ (pure _) _ _ _
 unfold retInt
 exact Ja (J0 (wpAny_mkInt (Ja ⟨_,_,rfl,q⟩)))
theorem zdv {a:Addr}{k:KN}{Q:Bool->Shared->Prop}(d:A.units<cLine) (c:NIs prog w s.heap k a) (q:Q false s):wpAny (model prog w) A (eqBool (.ref a) .none) Q E s:=by
 obtain⟨as,b⟩:=c.reads
 exact PySem.SeqAt.eqBoolOverData prog w A E s _ _ _ .none as [] Q b .none (ziV k).1 rfl (by show A.units+min _ 0<cLine;lia) q
theorem zgZ {n:Nat}{Q:Bool->Shared->Prop}(q:Q true s):wpAny (model prog w) A (eqIsQuiet n .none) Q E s:=by
 cases n<;>exact Ja q
theorem zgT {α β:Type}{f:α->β->Sem (ForInStep β)}{b:β}:∀ (l:List α) {Q:β->Shared->Prop},(∀ i∈l,∀ R:ForInStep β->Shared->Prop,R (.yield b) s->wpAny (model prog w) A (f i b) R E s)->Q b s->wpAny (model prog w) A (forIn l b f) Q E s
 | [],Q,_,q=>by rw[Zs];exact Ja q
 | i::l,Q,h,q=>by
  rw[YZ]
  exact J0 (h i JJ _ (zgT l (λj a=>h j (JH _ a)) q))
theorem zhC {stored:List Value}{Q:Bool->Shared->Prop}(h:∀ v∈stored,∃ a k,v=.ref a/\NIs prog w s.heap k a) (q:Q false s):wpAny (model prog w) A (tableMayTell .none stored) Q E s:=by
 unfold tableMayTell
 by_cases c:stored.isEmpty=true
 ·rw[Jf c];exact Ja q
 rw[Jc c]
 refine J0 (zgZ (J0 (zgT stored (λv b R r=>?_) (Ja q))))
 obtain⟨a,k,rfl,d⟩:=h v b
 exact J0 (zdO d (Ja r))
theorem zje {o:Obj}{es:Array DictEntry}{ep:Nat}{h:Int}{Q:Option Nat->Shared->Prop}(n:A.units<cLine) (f:s.heap.get? d=some o) (hd:o.data=.dict es ep) (B:∀ e∈es.toList,∃ a k,e.key=.ref a/\NIs prog w s.heap k a) (q:Q none s) :
  wpAny (model prog w) A (dictFind d .none h) Q E s:=by
 have key:∀ (i:Nat) (e:DictEntry),es[i]?=some e->∃ a k,e.key=.ref a/\NIs prog w s.heap k a:=λi e b=>B e (by
  obtain⟨l,z⟩:=JY.mp b
  rw[<- z];exact Array.getElem_mem_toList l)
 unfold dictFind
 refine Yp (J0 (Yc f hd ?_))
 by_cases c:(Value.none::List.filterMap (λi=>Option.map (λx=>x.key) es[i]?) (placesWithHash es.size (λi=>Option.map (λx=>x.hash) es[i]?) h)).all carriedByValue=true
 ·refine(JS (λm=>wpAny (model prog w) A m Q E s) (Jf c)).mpr ?_
  unfold dictWalkPlain
  refine J0 (zgT _ (λi hi R r=>?_) (Ja q))
  cases b:es[i]? with
  | none=>exact Ja r
  | some e =>
   obtain⟨a,k,j,g⟩:=key i e b
   by_cases ch:(e.hash == h)=true
   ·refine(JS (λm=>wpAny (model prog w) A m R E s) (Jf ch)).mpr (J0 (Yg f hd (J0 ?_)))
    rw[j]
    refine zdv n g (J0 (Yg f hd ?_))
    dsimp only
    rw[Jc (c:=(ep != ep)=true) (by simp),Jc Jp]
    exact J0 (YY (Ja r))
   ·exact(JS (λm=>wpAny (model prog w) A m R E s) (Jc ch)).mpr (Ja r)
 ·refine(JS (λm=>wpAny (model prog w) A m Q E s) (Jc c)).mpr ?_
  have t:∀ v∈List.filterMap (λi=>Option.map (λx=>x.key) es[i]?) (placesWithHash es.size (λi=>Option.map (λx=>x.hash) es[i]?) h),∃ a k,v=.ref a/\NIs prog w s.heap k a:=λv y=>by
   obtain⟨i,-,e,b,rfl⟩:∃ i:Nat,True/\∃ e:DictEntry,es[i]?=some e/\e.key=v:=by
    obtain⟨i,p⟩:=List.mem_filterMap.mp y
    exact⟨i,True.intro,Ym.mp p.2⟩
   exact key i e b
  by_cases u:(List.filterMap (λi=>Option.map (λx=>x.key) es[i]?) (placesWithHash es.size (λi=>Option.map (λx=>x.hash) es[i]?) h) == [Value.none])=true
  ·refine(JS (λm=>wpAny (model prog w) A m Q E s) (Jf u)).mpr (J0 (Ja ?_))
   dsimp only
   rw[Jc (by simp)]
   refine J0 (zgT _ (λi hi R r=>?_) (Ja q))
   cases b:es[i]? with
   | none=>exact Ja r
   | some e =>
    obtain⟨a,k,j,g⟩:=key i e b
    by_cases ch:(e.hash == h)=true
    ·refine(JS (λm=>wpAny (model prog w) A m R E s) (Jf ch)).mpr (J0 (Yg f hd (J0 ?_)))
     rw[j]
     refine zdv n g (J0 (Yg f hd ?_))
     rw[Jc (c:=(ep != ep)=true) (by simp),Jc Jp]
     refine J0 (YY ?_)
     rw[Jc (by simp)]
     exact Ja r
    ·exact(JS (λm=>wpAny (model prog w) A m R E s) (Jc ch)).mpr (Ja r)
  ·refine(JS (λm=>wpAny (model prog w) A m Q E s) (Jc u)).mpr (J0 (zhC t ?_))
   dsimp only
   rw[Jc (by simp)]
   refine J0 (zgT _ (λi hi R r=>?_) (Ja q))
   cases b:es[i]? with
   | none=>exact Ja r
   | some e =>
    obtain⟨a,k,j,g⟩:=key i e b
    by_cases ch:(e.hash == h)=true
    ·refine(JS (λm=>wpAny (model prog w) A m R E s) (Jf ch)).mpr (J0 (Yg f hd (J0 ?_)))
     rw[j]
     refine zdv n g (J0 (Yg f hd ?_))
     rw[Jc (c:=(ep != ep)=true) (by simp),Jc Jp]
     refine J0 (YY ?_)
     rw[Jc (by simp)]
     exact Ja r
    ·exact(JS (λm=>wpAny (model prog w) A m R E s) (Jc ch)).mpr (Ja r)
theorem zkH {o:Obj}{es:Array DictEntry}{ep:Nat}{Q:Option Value->Shared->Prop}(b:A.units<cLine) (c:s.heap.get? d=some o) (hd:o.data=.dict es ep) (f:∀ e∈es.toList,∃ a k,e.key=.ref a/\NIs prog w s.heap k a) (q:Q none { s with toks:=s.toks+1 }) :
  wpAny (model prog w) A (dictGet d .none) Q E s:=by
 unfold dictGet
 exact Yp (J0 (zi4 (J0 (zje (s:={ s with toks:=s.toks+1 }) b c hd f (Ja q)))))
theorem zev {o:Obj}{es:Array DictEntry}{ep:Nat}{Q:Value->Shared->Prop}(b:A.units<cLine) (f:s.heap.get? d=some o) (h:o.ExactDict) (hd:o.data=.dict es ep) (c:(d == sysModules)=false) (g:∀ e∈es.toList,∃ a k,e.key=.ref a/\NIs prog w s.heap k a) (q:Q (.bool false) { s with toks:=s.toks+1 }) :
  wpAny (model prog w) A (Builtin.«dict.__contains__» ⟨[.ref d,.none],[]⟩) (λfin s'=>∃ r,fin=.done (.ret r)/\Q r s') E s:=by
 unfold Builtin.«dict.__contains__»
 refine J0 ?_
 show wpAny _ _ (pure (d,Value.none)) _ _ _
 refine Ja (J0 (zkH b f hd g ?_))
 show wpAny _ _ (Builtin.Dict.pendingKey? d .none >>= _) _ _ _
 exact J0 (wpAny_pendingKey_other c (Ja ⟨_,rfl,q⟩))
section
variable {X:Cx}{pins:List (Addr × Obj)}{σ:St}{H:Hp}{a:Addr}{xs:KVN}
theorem zko {Q:Value->Shared->Prop}(l:A.units+3<cLine) (I:Inv X pins σ H s) (e:Rd H a (DN X.prog X.w a xs)) (ks:KsIn H xs) (h:∀ s',Inv X pins σ H s'->Q (.bool false) s') :
  wpAny (model X.prog X.w) A (compareOp .In .none (.ref a)) Q E s:=by
 obtain⟨z,hd,vs,rel,o,es,ep,h1,c,j,i,g,m⟩:=zfW I.hok e ks
 have f:∀ e∈es.toList,∃ a k,e.key=.ref a/\NIs X.prog X.w s.heap k a:=λe b=>by
  rw[i]at b
  obtain⟨x,d,rfl⟩:=JD.mp b
  exact⟨x.2.1,x.1,rfl,g x d⟩
 have ty:s.TypeIs (.ref a) "dict":=⟨o,h1,c.1⟩
 show wpAny _ _ (contains (.ref a) .none >>= _) _ _ _
 exact J0 (wpAny_contains_slot ty slot_dict_contains (Y7 slot_dict_contains ty entry_dict_contains
  (zev (by rw[Around.in1_units];lia) h1 c j hd f (YM (Ja (h _ (I.tok _))))) (args_dict_contains _ _)))
end
def rInN (P:Program) (w:World):V->V->Hp->VK->Prop:=λx y H Q=>∃ a xs,y=.ref a/\NAt P w H a xs/\((∃ b k,x=.ref b/\NKey H k b/\Q (.bl (valN xs k).isSome) H)\/(x=.non/\Q (.bl false) H))
theorem zmO {X:Cx}(e:X.A.units+3<cLine):OpR X (compareOp .In) (rInN X.prog X.w):=by
 intro pins s σ H x y v u Q I d g ⟨a,xs,i,n,q⟩
 subst i
 cases (show u=Value.ref a from g)
 rcases q with ⟨b,k,ex,h,q⟩|⟨ex,q⟩
 ·subst ex
  cases (show v=Value.ref b from d)
  exact n_in e I n.1 n.2 h λf c=>⟨.bl (valN xs k).isSome,H,c,rfl,q⟩
 ·subst ex
  cases (show v=Value.none from d)
  exact zko e I n.1 n.2 λf c=>⟨.bl false,H,c,rfl,q⟩
end
section
variable {prog:Program}{w:World}{A:Around}{E:Value->Shared->Prop}{s:Shared}{d b:Addr}{K:Type}[DecidableEq K]{knd:HeapKind prog w K}{xs:List (K × Addr × Value)}{k:K}{v:Value}
theorem zdN {Q:Unit->Shared->Prop}(F:knd.room A) (t:knd.is s.heap k b) (G:s.heap.DictOfH knd d xs) (C:xs.length<=sizeLine)
  (q:∀ h',h'.DictOfH knd d (storedH xs k b v)->Heap.SameBut d s.heap h'->Q () { s with heap:=h' }):wpAny (model prog w) A (dictSetHashed d (.ref b) (knd.hash k) v) Q E s:=by
 obtain⟨o,es,ep,f,r,hd,n,i,g⟩:=G
 unfold dictSetHashed
 refine Yp (J0 (wpAny_dictFind_heap F t f hd n i g (λno=>?_) (λj p m=>?_)))
 ·refine J0 (YY (wpAny_updateDictKeys f hd (q _ ?_ (YT _ _ _)) (by rw[ZP n];exact C) (by simp)))
  have l:=YT s.heap d (Obj.mapDictKeys λx=>x.push ⟨knd.hash k,.ref b,v⟩)
  refine⟨_,_,_,YV _ f (Obj.isFreed_of_dict (Obj.data_mapDictKeys hd _)),r.mapDictKeys _,Obj.data_mapDictKeys hd _,?_,?_,?_⟩
  ·rw[storedH_new (atKey_none_of_get no),Y2,Zq,n];rfl
  ·rw[storedH_new (atKey_none_of_get no)]
   intro x h
   rcases Jz.mp h with z|z
   ·exact knd.keeps (i x z) f hd l
   ·rw[Je.mp z];exact knd.keeps t f hd l
  ·rw[storedH_new (atKey_none_of_get no),Y2,Wz]
   refine⟨g,by simp,λa ha c u=>?_⟩
   rw[List.map_singleton,Je]at u
   rintro rfl
   rw[u]at ha
   exact not_mem_keys_of_get no ha
 ·refine J0 (YY (J0 (wpAny_updateDict f hd (wpAny_point (q _ ?_ (YT _ _ _))) (by simp))))
  have l:=YT s.heap d (Obj.mapDict λx=>x.modify j λe=>{ e with val:=v })
  refine⟨_,_,_,YV _ f (Obj.isFreed_of_dict (Obj.data_mapDict hd _)),r.mapDict _,Obj.data_mapDict hd _,?_,?_,?_⟩
  ·rw[storedH_old (atKey_of_get g m),Wm,n]
   exact modify_map_putAt _ _ k v (λa B=>rfl) g m
  ·have so:=storedH_old (atKey_of_get g m) b v
   rw[so]
   intro x h
   obtain⟨y,D,rfl⟩:=JD.mp h
   have:=knd.keeps (i y D) f hd l
   unfold putAt
   split
   ·exact this
   ·exact this
  ·rw[storedH_old (atKey_of_get g m),keys_map_putAt];exact g
def mergeN (xs ys:List (K × Addr × Value)):List (K × Addr × Value):=ys.foldl (λacc y=>storedH acc y.1 y.2.1 y.2.2) xs
theorem zhD (acc:List (K × Addr × Value)) (y:K × Addr × Value):(storedH acc y.1 y.2.1 y.2.2).length<=acc.length+1:=by
 unfold storedH
 split
 ·rw[Jh];lia
 ·rw[Jb];exact Jg _
theorem zcR {o:Addr}{ob:Obj}{ys:List (K × Addr × Value)}{Q:PUnit->Shared->Prop}{f:Nat->PUnit->Sem (ForInStep PUnit)}(ne:d≠o)
  (step:∀ (i:Nat) (a:i<ys.length) (s:Shared) (acc:List (K × Addr × Value)) (R:ForInStep PUnit->Shared->Prop),s.heap.get? o=some ob->s.heap.DictOfH knd d acc->knd.is s.heap ys[i].1 ys[i].2.1->acc.length<=sizeLine ->
   (∀ h',h'.DictOfH knd d (storedH acc ys[i].1 ys[i].2.1 ys[i].2.2)->Heap.SameBut d s.heap h'->R (.yield PUnit.unit) { s with heap:=h' })->wpAny (model prog w) A (f i PUnit.unit) R E s) :
  ∀ (m i:Nat) (s:Shared) (acc:List (K × Addr × Value)),i+m=ys.length->s.heap.get? o=some ob->s.heap.DictOfH knd d acc->(∀ x∈ys,knd.is s.heap x.1 x.2.1)->acc.length+m<=sizeLine ->
  (∀ h',h'.DictOfH knd d (mergeN acc (ys.drop i))->Heap.SameBut d s.heap h'->Q PUnit.unit { s with heap:=h' })->wpAny (model prog w) A (forIn (List.range' i m) PUnit.unit f) Q E s
 | 0,i,s,acc,hi,h1,b,e,l,q=>by
  rw[List.range'_zero,Zs]
  refine Ja (q s.heap ?_ (Heap.SameBut.refl _ _))
  rw[List.drop_eq_nil_of_le (by lia)]
  exact b
 | m+1,i,s,acc,hi,h1,b,e,l,q=>by
  have a:i<ys.length:=by lia
  rw[show List.range' i (m+1)=i::List.range' (i+1) m from rfl,YZ]
  refine J0 (step i a s acc _ h1 b (e _ (Yb a)) (by lia) λh' j c=>?_)
  obtain⟨o2,u,v,t,D,r,C,B,y⟩:=b
  have k:h'.get? o=some ob:=by rw[c.2 o (λz=>ne z.symm)];exact h1
  refine zcR ne step m (i+1) { s with heap:=h' } _ (by lia) k j (λx n=>knd.keeps (e x n) t r c) ?_ λp h g=>q p ?_ (c.trans g)
  ·have:=zhD acc ys[i]
   lia
  ·rw[Yv a]
   exact h
end
section
variable {prog:Program}{w:World}{A:Around}{E:Value->Shared->Prop}{s:Shared}{d:Addr}{K:Type}[DecidableEq K]{knd:HeapKind prog w K}{xs ys:List (K × Addr × Value)}
theorem zka {o:Addr}{ob:Obj}{es:Array DictEntry}{ep:Nat}{nm:String}{Q:Array DictEntry->Shared->Prop}(h1:s.heap.get? o=some ob) (h:ob.data=.dict es ep) (d:es.toList=ys.map (entryOfKey knd)) (i:ys.length<=1)
  (g:∀ x∈ys,∀ R:Bool->Shared->Prop,R false s->wpAny (model prog w) A (Builtin.Dict.quietEq (.ref x.2.1)) R E s) (q:Q es s):wpAny (model prog w) A (Builtin.Dict.entriesForEmpty nm o) Q E s:=by
 show wpAny _ _ (dictEntries o >>= _) _ _ _
 refine J0 (Yc h1 h (J0 ?_))
 rw[<- Array.forIn_toList]
 refine zgT _ (λe b R r=>?_) (Ja q)
 rw[d]at b
 obtain⟨x,f,rfl⟩:=JD.mp b
 refine J0 (g x f _ ?_)
 have a:¬(Array.filter (λz=>z.hash == (entryOfKey knd x).hash) es).size > 1:=by
  have l1:=Array.size_filter_le (p:=λz:DictEntry=>z.hash == (entryOfKey knd x).hash) (xs:=es)
  have l2:=ZP d
  lia
 rw[Jf (c:=(!false)=true) rfl,Jc a]
 exact Ja r
theorem zmQ {o2:Obj}{es b:Array DictEntry}{c:Nat}{y:K × Addr × Value}(e:s.heap.get? d=some o2) (j:o2.ExactDict) (a:o2.data=.dict b c) (i:es.toList=[y].map (entryOfKey knd)) (h:knd.is s.heap y.1 y.2.1) :
  (s.heap.update d (Obj.mapDictKeys λ_=>es)).DictOfH knd d [y]:=by
 have f:=YT s.heap d (Obj.mapDictKeys λ_=>es)
 refine⟨_,_,_,YV _ e (Obj.isFreed_of_dict (Obj.data_mapDictKeys a _)),j.mapDictKeys _,Obj.data_mapDictKeys a _,i,?_,by simp⟩
 intro x g
 rw[Je.mp g]
 exact knd.keeps h e a f
theorem zg7 {o:Addr}{nm:String}{Q:Unit->Shared->Prop}(H:knd.room A) (ne:d≠o) (L:(o == sysModules)=false) (u:s.heap.DictOfH knd d xs) (J:s.heap.DictOfH knd o ys) (G:xs.length+ys.length<=sizeLine) (K:xs≠[]\/ys.length=1)
  (I:∀ x∈ys,∀ R:Bool->Shared->Prop,R false s->wpAny (model prog w) A (Builtin.Dict.quietEq (.ref x.2.1)) R E s)
  (q:∀ h',h'.DictOfH knd d (mergeN xs ys)->Heap.SameBut d s.heap h'->Q () { s with heap:=h' }):wpAny (model prog w) A (Builtin.Dict.mergeDict nm d o) Q E s:=by
 obtain⟨ob,es,ep,h1,S,b,h,v,P⟩:=id J
 obtain⟨o2,j,O,C,N,B,M,U,T⟩:=id u
 have sz:([:es.size]:Std.Legacy.Range).size=ys.length:=by
  rw[<- ZP h]
  simp[Std.Legacy.Range.size]
 unfold Builtin.Dict.mergeDict
 rw[Jc (by simpa using ne)]
 refine J0 ?_
 unfold Builtin.Dict.showsAll
 rw[Jc (by rw[L];simp)]
 refine Ja (J0 (Yc h1 b ?_))
 dsimp only
 by_cases few:(!(decide (es.size<=8) && es.all λe=>(keyPart e.key).isSome))=true
 ·rw[Jf few]
  refine J0 (Yc C B ?_)
  by_cases em:j.isEmpty=true
  ·rw[Jf em]
   have e2:j.size=0:=by simpa using em
   have x0:xs=[]:=by
    rw[ZP M]at e2
    exact List.eq_nil_of_length_eq_zero e2
   have F:ys.length=1:=K.resolve_left λz=>z x0
   have l2:es.size=1:=(ZP h).trans F
   refine J0 (zka h1 b h (by lia) I ?_)
   rw[Jf (c:=(!es.isEmpty)=true) (by simp;intro z;rw[z]at l2;cases l2)]
   refine J0 (wpAny_updateDictKeys C B (Ja (q _ ?_ (YT _ _ _))) (by rw[e2];exact JL _) (by rw[l2];lia))
   obtain⟨y,rfl⟩:=List.length_eq_one_iff.mp F
   subst x0
   exact zmQ C N B h (v y JJ)
  ·rw[Jc em]
   refine J0 (Yg h1 b (J0 (Yc h1 b (J0 ?_))))
   refine(JS (λm=>wpAny (model prog w) A m _ E s) (Std.Legacy.Range.forIn_eq_forIn_range' _ _ _)).mpr ?_
   rw[sz]
   refine zcR (ob:=ob) (ys:=ys) ne (λi t s acc R k1 p r l n=>?_) ys.length 0 s xs (by lia) h1 u v G λh' a f=>Ja (q h' a f)
   have D:es[i]?=some (entryOfKey knd ys[i]):=by rw[entry_at h,J7 t];rfl
   refine J0 (Yc k1 b ?_)
   rw[D]
   refine J0 (Yp (zdN (k:=ys[i].1) H r p l λh' a f=>?_))
   have g:h'.get? o=some ob:=by rw[f.2 o (λz=>ne z.symm)];exact k1
   refine J0 (Yg (s:={ s with heap:=h' }) g b ?_)
   rw[Jc (c:=(ep != ep)=true) (by simp)]
   exact Ja (n h' a f)
 ·rw[Jc few]
  refine J0 (Yg h1 b (J0 (Yc h1 b (J0 ?_))))
  refine(JS (λm=>wpAny (model prog w) A m _ E s) (Std.Legacy.Range.forIn_eq_forIn_range' _ _ _)).mpr ?_
  rw[sz]
  refine zcR (ob:=ob) (ys:=ys) ne (λi t s acc R k1 p r l n=>?_) ys.length 0 s xs (by lia) h1 u v G λh' a f=>Ja (q h' a f)
  have D:es[i]?=some (entryOfKey knd ys[i]):=by rw[entry_at h,J7 t];rfl
  refine J0 (Yc k1 b ?_)
  rw[D]
  refine J0 (Yp (zdN (k:=ys[i].1) H r p l λh' a f=>?_))
  have g:h'.get? o=some ob:=by rw[f.2 o (λz=>ne z.symm)];exact k1
  refine J0 (Yg (s:={ s with heap:=h' }) g b ?_)
  rw[Jc (c:=(ep != ep)=true) (by simp)]
  exact Ja (n h' a f)
theorem zjX {a:Addr}{k:KN}{R:Bool->Shared->Prop}(h:NIs prog w s.heap k a) (r:R false s):wpAny (model prog w) A (Builtin.Dict.quietEq (.ref a)) R E s:=by
 obtain⟨o,its,n,h1,b,d,c⟩:=h
 exact J0 (wpAny_specialOf (T:="tuple") ⟨o,h1,b⟩ F.slot_tuple_eq.lookup (Ja r))
theorem zfm {o:Addr}{Q:Value->Shared->Prop}(h:knd.room A) (ne:d≠o) (k:(o == sysModules)=false) (e:s.heap.DictOfH knd d xs) (c:s.heap.DictOfH knd o ys) (g:xs.length+ys.length<=sizeLine) (j:xs≠[]\/ys.length=1)
  (i:∀ x∈ys,∀ R:Bool->Shared->Prop,R false s->wpAny (model prog w) A (Builtin.Dict.quietEq (.ref x.2.1)) R E s)
  (q:∀ h',h'.DictOfH knd d (mergeN xs ys)->Heap.SameBut d s.heap h'->Q .none { s with heap:=h' }):wpAny (model prog w) A (Builtin.«dict.update» ⟨[.ref d,.ref o],[]⟩) (λfin s'=>∃ r,fin=.done (.ret r)/\Q r s') E s:=by
 have ty:=c.typeIs
 unfold Builtin.«dict.update»
 refine J0 ?_
 show wpAny _ _ (Builtin.Dict.notOrdered "update" ⟨[Value.ref d,Value.ref o],[]⟩ >>= _) _ _ _
 refine J0 (wpAny_notOrdered_dict (s:=s) e.typeIs ?_)
 show wpAny _ _ (pure (d,[Value.ref o])) _ _ _
 refine Ja ?_
 show wpAny _ _ (Builtin.Dict.updateFrom "dict.update" d (.ref o) [] .none) _ _ _
 show wpAny _ _ (typeOf (Value.ref o) >>= _) _ _ _
 refine J0 (Z8 ty ?_)
 rw[Jc (by simp)]
 refine J0 ?_
 unfold Builtin.Dict.merge Builtin.Dict.readDirectly
 refine J0 (J0 (Zx (T:="dict") (b:=true) ty rfl ?_))
 rw[Jc (by simp)]
 refine J0 (wpAny_specialOf (T:="dict") ty F.slot_dict_iter.lookup (Ja ?_))
 rw[Jf (by decide)]
 refine J0 ?_
 show wpAny _ _ (pure o) _ _ _
 refine Ja (zg7 h ne k e c g j i λh' a f=>?_)
 refine J0 ?_
 show wpAny _ _ (pure ()) _ _ _
 exact Ja (Ja ⟨_,rfl,q h' a f⟩)
end
def zc1 (xs ys:KVN):KVN:=ys.foldl (λacc y=>putN acc y.1 y.2.1 y.2.2) xs
theorem mergeV_rel:∀ {ys:KVN}{us:List (KN × Addr × Value)}{xs:KVN}{vs:List (KN × Addr × Value)},Paired PrN ys us->Paired PrN xs vs->Paired PrN (zc1 xs ys) (mergeN vs us):=by
 intro ys us xs vs r
 induction r generalizing xs vs with
 | nil=>intro q;exact q
 | @cons p u ps us h t ih =>
  intro q
  have e:=putN_rel q p.1 p.2.1 h.2.2
  rw[show storedH vs p.1 p.2.1 u.2.2=storedH vs u.1 u.2.1 u.2.2 by rw[h.1,h.2.1]]at e
  exact ih e
theorem mergeV_len:∀ (ys xs:KVN),(zc1 xs ys).length<=xs.length+ys.length
 | [],xs=>Jg _
 | y::ys,xs=>by
  have h1:=mergeV_len ys (putN xs y.1 y.2.1 y.2.2)
  have a:=zgg xs y.1 y.2.1 y.2.2
  show (zc1 (putN xs y.1 y.2.1 y.2.2) ys).length<=_
  rw[JK];lia
section
variable {X:Cx}{pins:List (Addr × Obj)}{σ:St}{H:Hp}{s:Shared}{a b:Addr}{xs ys:KVN}{A:Around}{E:Value->Shared->Prop}
theorem zkm {Q:Value->Shared->Prop}(p:A.units+3<cLine) (ne:a≠b) (I:Inv X pins σ H s) (j:H a=some (DN X.prog X.w a xs)) (m:KsIn H xs) (B:Rd H b (DN X.prog X.w b ys)) (l:KsIn H ys) (i:xs.length+ys.length<=sizeLine) (v:xs≠[]\/ys.length=1)
  (h:∀ s',Inv X pins σ (upd H a (DN X.prog X.w a (zc1 xs ys))) s'->Q .none s'):wpAny (model X.prog X.w) A (call (.builtin "dict.update") [.ref a,.ref b]) Q E s:=by
 obtain⟨z,hd,vs,rel,k⟩:=zfW I.hok (.inl j) m
 obtain⟨z2,g,us,c,d⟩:=zfW I.hok B l
 refine Y7 PySem.F.slot_dict_update k.typeIs PySem.F.entry_dict_update (zfm (zkj p) ne g k d (by rw[<- YX rel,<- YX c];exact i) ?_ ?_ λh' f t=>h _ ?_) (PySem.F.args_dict_update_2 _ _)
 ·rcases v with z|z
  ·refine .inl λe=>z ?_
   subst e
   cases rel;rfl
  ·exact .inr (by rw[<- YX c];exact z)
 ·intro x n R r
  obtain⟨o,es,ep,h1,G,F,D,y,C⟩:=d
  exact zjX (y x n) r
 ·have w:∃ q,h'.get? a=some q:=let ⟨q,_,_,u,_⟩:=f;⟨q,u⟩
  exact zfX I (by rw[j];exact True.intro) t w (dn_new (JW (mergeV_len _ _) i) hd (mergeV_rel c rel) f)
end
def znn (P:Program) (w:World) (td ty:TE):TE:=λσ H Q=>td σ H λx H1=>∃ a,x=.ref a/\(∃ xs,Rd H1 a (DN P w a xs))/\ty σ H1 λy c=>∃ b xs ys,y=.ref b/\a≠b/\c a=some (DN P w a xs)/\KsIn c xs/\NAt P w c b ys/\xs.length+ys.length<=sizeLine/\(xs≠[]\/ys.length=1)/\Q .non (upd c a (DN P w a (zc1 xs ys)))
theorem zlM {X:Cx}{o e:Expr}{apos cpos:Pos}{td ty:TE}(q:X.A.units+3<cLine) (r:PE X o td) (v:PE X e ty) (m:M1 X o "update" apos e cpos):PE X (.Call (.Attribute o "update" apos) [e] [] cpos) (znn X.prog X.w td ty):=by
 intro pins s σ H Q I h
 refine wpAny_Call_method m.base m.few m.line PySem.F.plainAttrs_dict PySem.F.slot_dict_update PySem.F.type_dict_update (thn (r pins s σ H _ I h) λu s1 ⟨x,H1,c,g,a,ex,⟨zs,d⟩,j⟩=>?_)
 subst ex
 cases (show u=Value.ref a from g)
 obtain⟨t1,t2⟩:=ziG c d
 refine⟨t1,t2,?_⟩
 rw[m.trees]
 refine ZY rfl (Calls.evalArgs_plain (ZS (thn (v pins s1 σ H1 _ c j) λl s2 ⟨y,D,B,f,b,xs,ys,w,ne,z,k,n,p,t,i⟩=>Wy ?_)))
 subst w
 cases (show l=Value.ref b from f)
 exact zkm q ne B z k n.1 n.2 p t λC A=>⟨.non,_,A,rfl,i⟩
section
variable {prog:Program}{w:World}{A:Around}{E:Value->Shared->Prop}{s:Shared}{d:Addr}{o:Obj}{es:Array DictEntry}{ep:Nat}
theorem zi1 {Q:Value->Shared->Prop}(a:s.heap.get? d=some o) (c:o.ExactDict) (hd:o.data=.dict es ep) (e:(d == sysModules)=false)
  (q:Q (.ref s.heap.objs.size) { s with heap:=s.heap.push { cls:=.type "dict_keyiterator",data:=.fields #[.ref d,.int 0 0,.int es.size 0,.int ep 0] } }):wpAny (model prog w) A (pyIter (.ref d)) Q E s:=by
 have ty:s.TypeIs (.ref d) "dict":=⟨o,a,c.1⟩
 have nx:=F.slot_dict_keyiterator_next.lookup
 have body:wpAny (model prog w) A.in1 (Builtin.«dict.__iter__» ⟨[.ref d],[]⟩) (λfin s'=>∃ v,fin=.done (.ret v)/\∃ b r,s'.TypeIs v b/\typeLookup (Value.type b) (Str.ofString "__next__")=pure (some r)/\Q v s') E s:=by
  unfold Builtin.«dict.__iter__» Builtin.Dict.dictSlotNone
  refine J0 (J0 (wpAny_notOrdered_dict ty (J0 ?_)))
  show wpAny _ _ (pure ((.ref d,[]):Value × List Value)) _ _ _
  refine Ja (Ja (J0 ?_))
  refine(show wpAny _ _ (pure d) _ _ _ from Ja (J0 ?_))
  unfold Builtin.Dict.showsAll
  rw[Jc (by rw[e];simp)]
  refine Ja (J0 (Yc a hd (J0 (Yg a hd (J0 ?_)))))
  exact JN (Ja ⟨_,rfl,_,_,⟨_,Js _ rfl,rfl⟩,nx,q⟩)
 exact wpAny_pyIter_slot ty F.slot_dict_iter (Y7 F.slot_dict_iter ty F.entry_dict_iter body (F.args_dict_iter_1 _))
end
section
variable {prog:Program}{w:World}{A:Around}{E:Value->Shared->Prop}{s:Shared}{d it:Addr}{o:Obj}{es:Array DictEntry}{ep i:Nat}{e:DictEntry}
theorem ziE {Q:Value->Shared->Prop}(l:s.heap.get? d=some o) (hd:o.data=.dict es ep) (hi:s.heap.IsKeyIter it d i es.size ep) (n:es[i]?=some e)
  (q:∀ h',h'.IsKeyIter it d (i+1) es.size ep->(∀ b u,b≠it->s.heap.get? b=some u->h'.get? b=some u)->Q e.key { s with heap:=h' }) :
  wpAny (model prog w) A (Builtin.«dict_keyiterator.__next__» ⟨[.ref it],[]⟩) (λfin s'=>∃ v,fin=.done (.ret v)/\Q v s') E s:=by
 obtain⟨k,f,h,g⟩:=id hi
 have ty:s.TypeIs (.ref it) "dict_keyiterator":=⟨k,f,h⟩
 unfold Builtin.«dict_keyiterator.__next__»
 refine J0 ?_
 show wpAny _ _ (pure (Value.ref it)) _ _ _
 refine Ja (J0 (J0 (J0 (Wc ty (Ja (J0 (wpAny_fieldsOf f g ?_)))))))
 show wpAny _ _ (Builtin.Dict_items.addrOf (Value.ref d) >>= _) _ _ _
 refine J0 (show wpAny _ _ (pure d) _ _ _ from Ja (J0 (Yc l hd ?_)))
 dsimp only
 rw[Jc (c:=((es.size:Int) != (es.size:Int))=true) (by simp)]
 refine J0 (show wpAny _ _ (pure d) _ _ _ from Ja (J0 (Yg l hd ?_)))
 rw[Jc (c:=((ep:Int) != (ep:Int))=true) (by simp)]
 refine Ja ?_
 dsimp only
 rw[Jc (c:=(i:Int)<0) (by lia),Yi,n]
 refine J0 (J0 (Wc ty (Ja (J0 (wpAny_isOneOf_keyiter ty ?_)))))
 show wpAny _ _ (setField (.ref it) 1 (rawInt ((i:Int)+1)) >>= _) _ _ _
 refine J0 (wpAny_setField f g (by show 1<4;lia) ?_)
 have nd:(k.mapFields (·.setIfInBounds 1 (rawInt ((i:Int)+1)))).data=.fields #[.ref d,.int ((i+1:Nat):Int) 0,.int es.size 0,.int ep 0]:=Obj.data_mapFields g _
 have m:=YT s.heap it (Obj.mapFields (·.setIfInBounds 1 (rawInt ((i:Int)+1))))
 have a:=YV (Obj.mapFields (·.setIfInBounds 1 (rawInt ((i:Int)+1)))) f (Obj.isFreed_of_fields nd)
 have j:(s.heap.update it (Obj.mapFields (·.setIfInBounds 1 (rawInt ((i:Int)+1))))).IsKeyIter it d (i+1) es.size ep:=⟨_,a,(Obj.cls_mapFields ..).trans h,nd⟩
 refine J0 (Yp (J0 (wpAny_isOneOf_keyiter ⟨_,a,(Obj.cls_mapFields ..).trans h⟩ ?_)))
 exact Ja (Ja ⟨_,rfl,q _ j λb u nb hb=>(m.2 b nb).trans hb⟩)
theorem zkk {Q:Option Value->Shared->Prop}(f:s.heap.get? d=some o) (hd:o.data=.dict es ep) (hi:s.heap.IsKeyIter it d i es.size ep) (g:es[i]?=some e)
  (q:∀ h',h'.IsKeyIter it d (i+1) es.size ep->(∀ b u,b≠it->s.heap.get? b=some u->h'.get? b=some u)->Q (some e.key) { s with heap:=h' }):wpAny (model prog w) A (pyNext (.ref it)) Q E s:=by
 obtain⟨c,j,h,l⟩:=id hi
 have ty:s.TypeIs (.ref it) "dict_keyiterator":=⟨c,j,h⟩
 unfold pyNext
 exact J0 (ZJ (wpAny_callSpecial?_slot ty Wh (Y7 Wh ty F.entry_dict_keyiterator_next (ziE f hd hi g λh' a k=>Ja (q h' a k)) (F.args_dict_keyiterator_next_1 _))))
theorem ziX {Q:Fin->Shared->Prop}(h:A.handled=none) (e:s.heap.get? d=some o) (hd:o.data=.dict es ep) (hi:s.heap.IsKeyIter it d i es.size ep) (j:es[i]?=none)
  (q:∀ h' ev,Heap.ExtBut it s.heap h'->({ s with heap:=h' }:Shared).TypeIs ev "StopIteration"->E ev { s with heap:=h' }) :
  wpAny (model prog w) A (Builtin.«dict_keyiterator.__next__» ⟨[.ref it],[]⟩) Q E s:=by
 obtain⟨g,a,k,f⟩:=id hi
 have ty:s.TypeIs (.ref it) "dict_keyiterator":=⟨g,a,k⟩
 unfold Builtin.«dict_keyiterator.__next__»
 refine J0 ?_
 show wpAny _ _ (pure (Value.ref it)) _ _ _
 refine Ja (J0 (J0 (J0 (Wc ty (Ja (J0 (wpAny_fieldsOf a f ?_)))))))
 show wpAny _ _ (Builtin.Dict_items.addrOf (Value.ref d) >>= _) _ _ _
 refine J0 (show wpAny _ _ (pure d) _ _ _ from Ja (J0 (Yc e hd ?_)))
 dsimp only
 rw[Jc (c:=((es.size:Int) != (es.size:Int))=true) (by simp)]
 refine J0 (show wpAny _ _ (pure d) _ _ _ from Ja (J0 (Yg e hd ?_)))
 rw[Jc (c:=((ep:Int) != (ep:Int))=true) (by simp)]
 refine Ja ?_
 dsimp only
 rw[Jc (c:=(i:Int)<0) (by lia),Yi,j]
 refine J0 (J0 (Wc ty (Ja (J0 ?_))))
 show wpAny _ _ (setField (.ref it) 0 .none) _ _ _
 refine wpAny_setField a f (by show 0<4;lia) (J0 ?_)
 unfold newExc newTuple
 refine J0 (JN ?_ (by show 0<=sizeLine;exact JL _))
 unfold firstArgMember
 refine J0 (J0 (Ja (Ja (JN (wpAny_raiseNew_none h ?_) ?_))))
 rotate_left
 ·show (_++_:Array Value).size<=sizeLine+2
  rw[Jx]
  show 6+0<=sizeLine+2
  rw[JE];lia
 refine q _ _ (λb u nb hb=>?_) ⟨_,Js _ rfl,rfl⟩
 exact J8 _ (J8 _ (((YT s.heap it _).2 b nb).trans hb))
theorem zkl {Q:Option Value->Shared->Prop}(c:A.handled=none) (b:s.heap.get? d=some o) (hd:o.data=.dict es ep) (hi:s.heap.IsKeyIter it d i es.size ep) (e:es[i]?=none)
  (q:∀ h',Heap.ExtBut it s.heap h'->Q none { s with heap:=h' }):wpAny (model prog w) A (pyNext (.ref it)) Q E s:=by
 obtain⟨a,g,f,h⟩:=id hi
 have ty:s.TypeIs (.ref it) "dict_keyiterator":=⟨a,g,f⟩
 unfold pyNext
 refine J0 (ZJ (wpAny_callSpecial?_slot ty Wh (Y7 Wh ty F.entry_dict_keyiterator_next (ziX c b hd hi e λh' ev k te=>?_) (F.args_dict_keyiterator_next_1 _))))
 exact J0 (Zx te isSubtype_stop (Ja (q h' k)))
end
section
variable {X:Cx}{pins:List (Addr × Obj)}{σ:St}{H:Hp}{s:Shared}{d:Addr}{o:Obj}{xs:KVN}
theorem Inv.freezeN (I:Inv X pins σ H s) (hd:H d=some (DN X.prog X.w d xs)):∃ o es ep,s.heap.get? d=some o/\o.ExactDict/\o.data=.dict es ep/\es.size=xs.length/\(d == sysModules)=false/\Inv X pins σ (upd H d (.frz o (DN X.prog X.w d xs))) s:=by
 obtain⟨b,o,es,ep,h1,e,c,l,_⟩:=zkn I.hok (.inl hd)
 refine⟨o,es,ep,h1,e,c,l,b,I.reword hd (λxs q=>by cases q) (λxs q=>by cases q) (λxs q=>by cases q) (λo' a q=>?_) ⟨h1,(show ObjOk X.prog X.w H s.heap d (DN X.prog X.w d xs) from I.hok d _ hd)⟩⟩
 have:=I.base.frzs d o' a q
 rw[hd]at this;cases this
theorem Inv.thawN (I:Inv X pins σ H s) (hd:H d=some (.frz o (DN X.prog X.w d xs))) (b:∀ o' a,X.H₀ d≠some (.frz o' a)):Inv X pins σ (upd H d (DN X.prog X.w d xs)) s:=by
 obtain⟨_,r⟩:=(show ObjOk X.prog X.w H s.heap d (.frz o (DN X.prog X.w d xs)) from I.hok d _ hd)
 exact I.reword hd (λxs q=>by cases q) (λxs q=>by cases q) (λxs q=>by cases q) b r
theorem Inv.meltedN (I:Inv X pins σ H s) {ys:KVN}(hd:H d=some (DN X.prog X.w d ys)):∀ o' a,X.H₀ d≠some (.frz o' a):=λo' a q=>by
 have:=I.base.frzs d o' a q
 rw[hd]at this;cases this
theorem Inv.walkedN {es:Array DictEntry}{ep:Nat}(I:Inv X pins σ H s) (hd:H d=some (.frz o (DN X.prog X.w d xs))) (b:o.data=.dict es ep):s.heap.get? d=some o/\∃ vs,Paired PrN xs vs/\es.toList=vs.map (entryOfKey (zbo X.prog X.w)):=by
 obtain⟨g,⟨z,h,vs,r,o2,e,f,h1,j,a,c,i⟩,_,_⟩:=(show ObjOk X.prog X.w H s.heap d (.frz o (DN X.prog X.w d xs)) from I.hok d _ hd)
 rw[g]at h1
 obtain rfl:=Jr h1
 rw[b]at a
 cases a
 exact⟨g,vs,r,c⟩
end
theorem zny {xs:KVN}{vs:List (KN × Addr × Value)}(r:Paired PrN xs vs):∀ {i:Nat}{p:KN × Addr × V},xs[i]?=some p->∃ q,vs[i]?=some q/\PrN p q:=by
 induction r with
 | nil=>intro i p h;cases h
 | cons q t ih =>
  intro i p h
  cases i with
  | zero=>cases Jr h;exact⟨_,rfl,q⟩
  | succ i=>exact ih h
section
variable {prog:Program}{w:World}{A:Around}{E:Value->Shared->Prop}{s:Shared}{d it:Addr}{o:Obj}{es:Array DictEntry}{ep i:Nat}{e:DictEntry}{k0 v0:Value}
theorem zg5 {Q:Value->Shared->Prop}(t:s.heap.get? d=some o) (hd:o.data=.dict es ep) (hi:IsItemIter s.heap it d i es.size ep k0 v0) (y:es[i]?=some e)
  (q:∀ h',IsItemIterOut h' it d (i+1) es.size ep e.key e.val s.heap.objs.size->h'.get? s.heap.objs.size=some { cls:=.type "tuple",data:=.seq #[e.key,e.val] }->(∀ b u,b≠it->s.heap.get? b=some u->h'.get? b=some u)->Q (.ref s.heap.objs.size) { s with heap:=h' }) :
  wpAny (model prog w) A (Builtin.«dict_itemiterator.__next__» ⟨[.ref it],[]⟩) (λfin s'=>∃ v,fin=.done (.ret v)/\Q v s') E s:=by
 have ty:s.TypeIs (.ref it) "dict_itemiterator":=⟨_,hi,rfl⟩
 unfold Builtin.«dict_itemiterator.__next__»
 refine J0 ?_
 show wpAny _ _ (pure (Value.ref it)) _ _ _
 refine Ja (J0 (J0 (J0 (W8 ty (Ja (J0 (wpAny_fieldsOf hi rfl ?_)))))))
 show wpAny _ _ (Builtin.Dict_items.addrOf (Value.ref d) >>= _) _ _ _
 refine J0 (show wpAny _ _ (pure d) _ _ _ from Ja (J0 (Yc t hd ?_)))
 dsimp only
 rw[Jc (c:=((es.size:Int) != (es.size:Int))=true) (by simp)]
 refine J0 (show wpAny _ _ (pure d) _ _ _ from Ja (J0 (Yg t hd ?_)))
 rw[Jc (c:=((ep:Int) != (ep:Int))=true) (by simp)]
 refine Ja ?_
 dsimp only
 rw[Jc (c:=(i:Int)<0) (by lia),Yi,y]
 refine J0 (J0 (W8 ty (Ja (J0 (wpAny_isOneOf_itemiter ty ?_)))))
 show wpAny _ _ (setField (.ref it) 3 (rawInt ((i:Int)+1)) >>= _) _ _ _
 refine J0 (Yf hi (by show 3<8;lia) λh1 g f=>J0 (Yp (J0 (wpAny_isOneOf_itemiter ⟨_,g,rfl⟩ ?_))))
 show wpAny _ _ (Builtin.Dict_items.isOneOf _ _ >>= _) _ _ _
 refine J0 (wpAny_isOneOf_itemiter ⟨_,g,rfl⟩ ?_)
 show wpAny _ _ (Builtin.Dict_items.pairFromOwner (.ref it) 6 e.key e.val) _ _ _
 unfold Builtin.Dict_items.pairFromOwner newTuple
 refine J0 (JN ?_ (by show 2<=sizeLine;decide))
 have a:=J8 { cls:=Value.type "tuple",data:=Data.seq #[e.key,e.val] } g
 have h:=Js h1 (o:={ cls:=Value.type "tuple",data:=Data.seq #[e.key,e.val] }) rfl
 have p:h1.objs.size≠it:=Z0 (Jq g)
 have sz:h1.objs.size=s.heap.objs.size:=f.1
 have r:∀ b u,b≠it->s.heap.get? b=some u->(h1.push { cls:=Value.type "tuple",data:=Data.seq #[e.key,e.val] }).get? b=some u:=λb u nb hb=>J8 _ ((f.2 b nb).trans hb)
 show wpAny (model prog w) A _ _ E { s with heap:=h1.push { cls:=Value.type "tuple",data:=Data.seq #[e.key,e.val] } }
 generalize h1.push { cls:=Value.type "tuple",data:=Data.seq #[e.key,e.val] }=h2 at a h r
 show wpAny _ _ ((field (.ref it) 0 >>= _) >>= _) _ _ _
 refine J0 (J0 (Wb a rfl rfl ?_))
 show wpAny _ _ (pure true) _ _ _
 refine Ja ?_
 show wpAny _ _ (field (.ref it) 6 >>= _) _ _ _
 refine J0 (Wb a rfl rfl (J0 (Wb a rfl rfl ?_)))
 refine J0 (Yf a (by show 6<8;lia) λH D m=>J0 (Yf D (by show 7<8;lia) λG C l=>J0 (Yf C (by show 0<8;lia) λF B k=>J0 (Yf B (by show 1<8;lia) λz x j=>J0 (ZV ?_)))))
 have n:=((m.trans l).trans k).trans j
 refine Ja (Ja ⟨_,rfl,?_⟩)
 show Q (.ref h1.objs.size) _
 rw[sz]at h x p ⊢
 exact q z x ((n.2 _ p).trans h) λb u nb hb=>(n.2 b nb).trans (r b u nb hb)
theorem ziB {Q:Option Value->Shared->Prop}(a:s.heap.get? d=some o) (hd:o.data=.dict es ep) (hi:IsItemIter s.heap it d i es.size ep k0 v0) (c:es[i]?=some e)
  (q:∀ h',IsItemIterOut h' it d (i+1) es.size ep e.key e.val s.heap.objs.size->h'.get? s.heap.objs.size=some { cls:=.type "tuple",data:=.seq #[e.key,e.val] }->(∀ b u,b≠it->s.heap.get? b=some u->h'.get? b=some u)->Q (some (.ref s.heap.objs.size)) { s with heap:=h' }):wpAny (model prog w) A (pyNext (.ref it)) Q E s:=by
 have ty:s.TypeIs (.ref it) "dict_itemiterator":=⟨_,hi,rfl⟩
 unfold pyNext
 exact J0 (ZJ (wpAny_callSpecial?_slot ty Wd (Y7 Wd ty F.entry_dict_itemiterator_next (zg5 a hd hi c λh' a1 a2 f=>Ja (q h' a1 a2 f)) (F.args_dict_itemiterator_next_1 _))))
theorem zhe {Q:Fin->Shared->Prop}(e:A.handled=none) (a:s.heap.get? d=some o) (hd:o.data=.dict es ep) (hi:IsItemIter s.heap it d i es.size ep k0 v0) (f:es[i]?=none)
  (q:∀ h' ev,Heap.ExtBut it s.heap h'->({ s with heap:=h' }:Shared).TypeIs ev "StopIteration"->E ev { s with heap:=h' }) :
  wpAny (model prog w) A (Builtin.«dict_itemiterator.__next__» ⟨[.ref it],[]⟩) Q E s:=by
 have ty:s.TypeIs (.ref it) "dict_itemiterator":=⟨_,hi,rfl⟩
 unfold Builtin.«dict_itemiterator.__next__»
 refine J0 ?_
 show wpAny _ _ (pure (Value.ref it)) _ _ _
 refine Ja (J0 (J0 (J0 (W8 ty (Ja (J0 (wpAny_fieldsOf hi rfl ?_)))))))
 show wpAny _ _ (Builtin.Dict_items.addrOf (Value.ref d) >>= _) _ _ _
 refine J0 (show wpAny _ _ (pure d) _ _ _ from Ja (J0 (Yc a hd ?_)))
 dsimp only
 rw[Jc (c:=((es.size:Int) != (es.size:Int))=true) (by simp)]
 refine J0 (show wpAny _ _ (pure d) _ _ _ from Ja (J0 (Yg a hd ?_)))
 rw[Jc (c:=((ep:Int) != (ep:Int))=true) (by simp)]
 refine Ja ?_
 dsimp only
 rw[Jc (c:=(i:Int)<0) (by lia),Yi,f]
 refine J0 (J0 (W8 ty (Ja (J0 ?_))))
 show wpAny _ _ (setField (.ref it) 2 .none) _ _ _
 refine wpAny_setField hi rfl (by show 2<8;lia) (J0 ?_)
 unfold newExc newTuple
 refine J0 (JN ?_ (by show 0<=sizeLine;exact JL _))
 unfold firstArgMember
 refine J0 (J0 (Ja (Ja (JN (wpAny_raiseNew_none e ?_) ?_))))
 rotate_left
 ·show (_++_:Array Value).size<=sizeLine+2
  rw[Jx]
  show 6+0<=sizeLine+2
  rw[JE];lia
 refine q _ _ (λb u nb hb=>?_) ⟨_,Js _ rfl,rfl⟩
 exact J8 _ (J8 _ (((YT s.heap it _).2 b nb).trans hb))
theorem ziC {Q:Option Value->Shared->Prop}(b:A.handled=none) (a:s.heap.get? d=some o) (hd:o.data=.dict es ep) (hi:IsItemIter s.heap it d i es.size ep k0 v0) (c:es[i]?=none)
  (q:∀ h',Heap.ExtBut it s.heap h'->Q none { s with heap:=h' }):wpAny (model prog w) A (pyNext (.ref it)) Q E s:=by
 have ty:s.TypeIs (.ref it) "dict_itemiterator":=⟨_,hi,rfl⟩
 unfold pyNext
 refine J0 (ZJ (wpAny_callSpecial?_slot ty Wd (Y7 Wd ty F.entry_dict_itemiterator_next (zhe b a hd hi c λh' ev k te=>?_) (F.args_dict_itemiterator_next_1 _))))
 exact J0 (Zx te isSubtype_stop (Ja (q h' k)))
theorem zhg {v:Addr}{Q:Value->Shared->Prop}(a:s.heap.IsItemsView v d) (b:s.heap.get? d=some o) (hd:o.data=.dict es ep)
  (q:Q (.ref s.heap.objs.size) { s with heap:=s.heap.push { cls:=.type "dict_itemiterator",data:=.fields #[.none,.bool false,.ref d,.int 0 0,.int es.size 0,.int ep 0,.none,.none] } }):wpAny (model prog w) A (pyIter (.ref v)) Q E s:=by
 obtain⟨h,f,g,e⟩:=id a
 have ty:=a.typeIs
 have nx:=F.slot_dict_itemiterator_next.lookup
 have body:wpAny (model prog w) A.in1 (Builtin.«dict_items.__iter__» ⟨[.ref v],[]⟩) (λfin s'=>∃ v,fin=.done (.ret v)/\∃ c r,s'.TypeIs v c/\typeLookup (Value.type c) (Str.ofString "__next__")=pure (some r)/\Q v s') E s:=by
  unfold Builtin.«dict_items.__iter__» Builtin.Dict_items.newIterator
  refine J0 (show wpAny _ _ (pure (Value.ref v)) _ _ _ from Ja (J0 (J0 (Wb f e rfl ?_))))
  refine(show wpAny _ _ (pure d) _ _ _ from Ja (J0 ?_))
  refine J0 (Yc b hd (J0 (Yg b hd ?_)))
  refine JN (Ja ⟨_,rfl,_,_,⟨_,Js _ rfl,rfl⟩,nx,q⟩) ?_
  show 8<=sizeLine+2
  rw[JE];lia
 exact wpAny_pyIter_slot ty F.slot_dict_items_iter (Y7 F.slot_dict_items_iter ty F.entry_dict_items_iter body (F.args_dict_items_iter_1 _))
end
def Itni (P:Program) (w:World) (d:Addr) (o:Obj) (xs:KVN):It:=⟨λi H=>H d=some (.frz o (DN P w d xs))/\i<xs.length,λi H x H'=>∃ p T,xs[i]?=some p/\H T=none/\x=.ref T/\H'=upd H T (.tup [.ref p.2.1,p.2.2]),λi H=>H d=some (.frz o (DN P w d xs))/\i=xs.length⟩
theorem zfo {P:Program}{w:World}{K:PySem.W.Frag}{C:List Expr}{k1} {p1:Pos}(d it:Addr) (o:Obj) (xs:KVN) {es:Array DictEntry}{ep:Nat}(j:o.data=.dict es ep) (V:es.size=xs.length):Turn P w K (.Tuple C k1 p1) (Itni P w d o xs) [it] it (λi h=>∃ a b,IsItemIter h it d i es.size ep a b) where
 mem:=Je.mpr rfl
 obj:=λi h ⟨a,b,st⟩ c m=>by
  cases Je.mp m
  exact⟨_,st,λv z=>by cases z⟩
 keep:=λi h h' ⟨a,b,st⟩ k=>⟨a,b,k it (Je.mpr rfl) _ st⟩
 item:=by
  intro X y t A m i pins s σ H E I l ⟨a,b,st⟩ ⟨hd,G⟩
  subst y t A
  obtain⟨g,vs,r,L⟩:=I.walkedN hd j
  have f:=l it (Je.mpr rfl)
  obtain⟨p,J⟩:∃ p,xs[i]?=some p:=⟨_,J7 G⟩
  obtain⟨q,N,D⟩:=zny r J
  have U:es[i]?=some (entryOfKey (zbo X.prog X.w) q):=by rw[entry_at L,N];rfl
  have F:s.heap.objs.size≠it:=Z0 (Jq st)
  refine ziB g j st U λh1 M O n=>⟨_,rfl,wpAny_letOwnedTupleGo_items M λW B s2=>?_⟩
  have rk:RelV (.ref p.2.1) (Value.ref q.2.1):=by show Value.ref q.2.1=Value.ref p.2.1;rw[D.2.1]
  refine⟨.ref s.heap.objs.size,upd H s.heap.objs.size (.tup [.ref p.2.1,p.2.2]),I.spunN (t':=s.toks) (fp:=[it]) (λc u x e=>?_) l (Jg _) (zfF ((s2.2 _ F).trans O) rk D.2.2),rfl,⟨p,_,J,I.fresh,rfl,rfl⟩,⟨_,_,B⟩,λc x=>?_⟩
  ·have ne:c≠it:=λz=>x (Je.mpr z)
   exact(s2.2 c ne).trans (n c u ne e)
  ·cases Je.mp x
   rw[zah F.symm];exact f.1
 done:=by
  intro X y t A m i pins s σ H E I l ⟨a,b,st⟩ ⟨hd,G⟩
  subst y t A
  obtain⟨g,vs,r,L⟩:=I.walkedN hd j
  obtain⟨T,f1,f2,S,R,Q⟩:=l it (Je.mpr rfl)
  exact ziC (I.ok.hd m) g j st (Array.getElem?_eq_none (by lia)) λh' n=>⟨rfl,I.turned (t':=s.toks) (λc u hb e=>n c u hb e) T f1 S R Q⟩
 self:=λ_ _ _ _ _ ⟨_,_,st⟩ h=>PySem.W.kcp_self st h
section
variable {X:Cx}
def zmd (P:Program) (w:World) (te:TE):TI:=λσ H R=>te σ H λx H1=>∃ d xs,x=.ref d/\H1 d=some (DN P w d xs)/\∀ o,R (Itni P w d o xs) (upd H1 d (.frz o (DN P w d xs)))
theorem zhi {prog:Program}{w:World}{A:Around}{E:Value->Shared->Prop}{s:Shared}{d:Addr}{o:Obj}{Q:Value->Shared->Prop}(c:s.heap.get? d=some o) (a:o.ExactDict) (b:(d == sysModules)=false)
  (q:Q (.ref s.heap.objs.size) { s with heap:=s.heap.push { cls:=.type "dict_items",data:=.fields #[.ref d] } }):wpAny (model prog w) A (call (.builtin "dict.items") [.ref d]) Q E s:=by
 have ty:s.TypeIs (.ref d) "dict":=⟨o,c,a.1⟩
 refine Y7 F.slot_dict_items ty F.entry_dict_items ?_ (F.args_dict_items_1 _)
 unfold Builtin.«dict.items» Builtin.Dict.showsAll
 refine J0 ?_
 show wpAny _ _ (Builtin.Dict.notOrdered "items" ⟨[Value.ref d],[]⟩ >>= _) _ _ _
 refine J0 (wpAny_notOrdered_dict (s:=s) ty ?_)
 refine(show wpAny _ _ (pure d) _ _ _ from Ja ?_)
 rw[Jc (by rw[b];simp)]
 refine J0 (Ja (J0 (JN (Ja ⟨_,rfl,q⟩) ?_)))
 show 1<=sizeLine+2
 rw[JE];lia
theorem zic {l:Expr}{tl:TE}{apos cpos p1:Pos}{i:List Expr}{k1} (r:PE X l tl) (c:attributeBase l "items" X.env (eval l X.env)=eval l X.env:=by rfl) (a:(apos.endLine == cpos.line)=true:=by rfl):PI X (.Tuple i k1 p1) (.Call (.Attribute l "items" apos) [] [] cpos) (zmd X.prog X.w tl):=by
 intro pins s σ H R I h
 refine wpAny_Call_method0_late c a (thn (r pins s σ H _ I h) λv s1 ⟨x,H1,k,m,d,xs,ex,hd,q⟩=>?_)
 subst ex
 cases m
 obtain⟨t1,t2⟩:=ziG k (.inl hd)
 obtain⟨o,es,ep,g,n,j,le,p,w⟩:=k.freezeN hd
 refine⟨"dict","dict.items",PySem.F.plainAttrs_dict,PySem.F.slot_dict_items,PySem.F.type_dict_items,t1,t2,ZY rfl (PySem.evalArgs_none ?_)⟩
 refine zhi g n p ?_
 have f:=w.kept (t':=s1.toks) (h':=s1.heap.push { cls:=.type "dict_items",data:=.fields #[.ref d] }) λb u e=>J8 _ e
 have t:=J8 { cls:=.type "dict_items",data:=.fields #[.ref d] } g
 refine zhg (s:={ s1 with heap:=s1.heap.push { cls:=.type "dict_items",data:=.fields #[.ref d] } }) ⟨_,Js _ rfl,rfl,rfl⟩ t j ?_
 refine⟨_,[_],_,_,_,rfl,f.kept (t':=s1.toks) λb u e=>J8 _ e,zfo d _ o xs j le,⟨_,_,Js _ rfl⟩,λb hb=>?_,q o⟩
 cases Je.mp hb
 exact f.fpOk (Jg _) (f.hok.fresh (Jg _))
end
end L2
namespace L2
open PySem PySem.Spec PyProof.Rows Own PySem.W
section
variable {prog:Program}{w:World}{d:Addr}{o:Obj}{es:Array DictEntry}{ep:Nat}
theorem zjR (c:o.ExactDict) (hd:o.data=.dict es ep) (j:(d == sysModules)=false):KdlSrc prog w "dict" d d es.size (λi v=>∃ e,es[i]?=some e/\v=e.key) (λh=>h.get? d=some o) where
 type:=λs a=>⟨o,a,c.1⟩
 there:=λh a=>⟨Jq a,Jq a⟩
 keep:=λh h' a k=>k d (.inl rfl) _ a
 notList:=by decide
 notTuple:=by decide
 hint:=λA E s Q a q=>by
  have ty:s.TypeIs (.ref d) "dict":=⟨o,a,c.1⟩
  show wpAny _ _ (specialOf (.ref d) _ >>= _) _ _ _
  refine J0 (wpAny_specialOf (T:="dict") ty F.slot_dict_len.lookup ?_)
  show wpAny _ _ (isInstance (.ref d) (.type "dict") >>= _) _ _ _
  refine J0 (Zx (T:="dict") (b:=true) ty rfl ?_)
  show wpAny _ _ (typeOf (.ref d) >>= _) _ _ _
  exact J0 (Z8 ty (Ja q))
 iter:=λA s l a=>by
  refine⟨{ cls:=.type "dict_keyiterator",data:=.fields #[.ref d,.int 0 0,.int es.size 0,.int ep 0] },λi h=>h.IsKeyIter s.heap.objs.size d i es.size ep/\h.get? d=some o,λE Q q=>zi1 a c hd j q,?_,⟨_,Js _ rfl,rfl,rfl⟩,J8 _ a⟩
  have nd:d≠s.heap.objs.size:=JF (Jq a)
  refine⟨λb hb=>Ju.mpr (.inl (Je.mp hb)),λi h h' st k=>⟨st.1.at (k _ JJ),k d (JH _ JJ) _ st.2⟩,λi s1 Q E g st q=>?_,λs1 Q E st q=>?_,λi s1 Q E st q=>wpAny_pyIter_keyiter st.1 q⟩
  ·have f:es[i]?=some es[i]:=ZD g
   exact zkk st.2 hd st.1 f λh' st' k=>q _ h' s1.toks ⟨_,f,rfl⟩ ⟨st',k d o nd st.2⟩ λb u nb hb=>k b u (λz=>nb (Je.mpr z)) hb
  ·exact zkl l st.2 hd st.1 (Array.getElem?_eq_none (Jg _)) λh' k=>q h' s1.toks λb u nb hb=>k b u (λz=>nb (Je.mpr z)) hb
end
end L2
namespace L2
open PySem PySem.Spec PyProof.Rows Own Ts PySem.W
section
variable {prog:Program}{w:World}{A:Around}{s:Shared}
theorem zkF {Q:Bool->Shared->Prop}(cs:List Ordering):∀ (us vs:List Value) (i:Nat),us.length=cs.length->vs.length=cs.length->(∀ (j:Nat) u v c,us[j]?=some u->vs[j]?=some v->cs[j]?=some c->SeqAt.EqAt A s u v (c == .eq)/\(c≠.eq->LtAt A s u v (c == .lt))) ->
  Q (cs.foldr Ordering.then .eq == .lt) s->PySem.W.KatLex prog w A false false Q (us.zip vs) i s:=by
 induction cs with
 | nil =>
  intro us vs i l1 l2 _ q
  rw[ZX.mp l1]
  exact PySem.W.kat_nil q
 | cons c cs ih =>
  intro us vs i l1 l2 h q
  obtain⟨u,us,rfl⟩:∃ u b,us=u::b:=by
   cases us with
   | nil=>simp at l1
   | cons u us=>exact⟨u,us,rfl⟩
  obtain⟨v,vs,rfl⟩:∃ v a,vs=v::a:=by
   cases vs with
   | nil=>simp at l2
   | cons v vs=>exact⟨v,vs,rfl⟩
  have d:=h 0 u v c rfl rfl rfl
  refine PySem.W.kat_cons (d.1 prog w _ _ ?_)
  by_cases z:c=.eq
  ·subst z
   refine PySem.W.kat_yes (ih us vs (i+1) (by simpa using l1) (by simpa using l2) (λj u v c a1 a2 f=>h (j+1) u v c (by simpa using a1) (by simpa using a2) (by simpa using f)) q)
  ·have e:(c == Ordering.eq)=false:=by simpa using z
   have e2:(c::cs).foldr Ordering.then .eq=c:=by
    rw[List.foldr_cons]
    cases c<;>first|rfl|exact absurd rfl z
   rw[e2]at q
   rw[e]
   refine PySem.W.kat_no ?_
   rw[Bool.false_and]
   exact zgm (d.2 z) q
end
def RkN (H:Hp) (xs:List V) (rk:V->Int):Prop:=∃ n,n<=20/\∀ x∈xs,(∃ a b r ys,x=.ref a/\H a=some (.tup (.ref b::r))/\H b=some (.tup ys))/\∀ y∈xs,Lx H n x y (compare (rk x) (rk y))
section
variable {X:Cx}
theorem znM {pins:List (Addr × Obj)}{σ:St}{H:Hp}{s1:Shared}(I:Inv X pins σ H s1) (t:X.A.units+64<cLine) {xs:List V}{vs:List Value}{rk:V->Int}(r:Vals xs vs) (R:RkN H xs rk) :
  ∃ κ:SortKind,(∀ h':Heap,(∀ c o,s1.heap.get? c=some o->h'.get? c=some o)->2<=vs.length->∀ (d:Around) {Q:SortKind->Shared->Prop}{E:Value->Shared->Prop},Q κ { s1 with heap:=h' }->wpAny (model X.prog X.w) d (keyKind' vs.toArray) Q E { s1 with heap:=h' }) /\
   (∀ h':Heap,(∀ c o,s1.heap.get? c=some o->h'.get? c=some o)->∀ (d:Around),d.units<=X.A.units+8->Cmp X.prog X.w d { s1 with heap:=h' } κ (λp=>p.1∈vs) (λp=>rk (vOf p.1))):=by
 obtain⟨n,hn,R⟩:=R
 obtain⟨ex,rel⟩:=zde r λx F=>by
  obtain⟨⟨a,b,r,ys,e,_⟩,_⟩:=R x F
  exact .inr ⟨a,e⟩
 have mem:∀ u∈vs,vOf u∈xs:=λu t=>by rw[ex];exact JD.mpr ⟨u,t,rfl⟩
 refine⟨tuples' (Value.type "tuple" != Value.type "tuple"),λh' k l2 d Q E q=>?_,λh' k d hA=>⟨λx y F K Q E q=>?_⟩⟩
 ·have l:Inv X pins σ H { s1 with heap:=h',toks:=s1.toks }:=I.kept k
  have kt:∀ us:List Value,(∀ u∈us,vOf u∈xs/\RelV (vOf u) u)->∃ fs,PySem.W.KatTups h' us fs/\fs.length=us.length/\∀ f∈fs,∃ b ys,f=Value.ref b/\H b=some (.tup ys):=by
   intro us
   induction us with
   | nil=>intro _;exact⟨[],PySem.W.KatTups.nil,rfl,λf w=>by simp at w⟩
   | cons u us ih =>
    intro h
    obtain⟨fs,k1,k2,J⟩:=ih λv m=>h v (JH _ m)
    obtain⟨m1,r1⟩:=h u JJ
    obtain⟨⟨a,b,rr,ys,e,ha,hb⟩,_⟩:=R _ m1
    rw[e]at r1
    cases r1
    obtain⟨its,g,⟨o,M,co,no,dt⟩,_⟩:=l.tuple (SqT.of ha)
    obtain⟨f0,ef,rf⟩:=g.get (i:=0) (x:=.ref b) rfl
    cases rf
    exact⟨_,PySem.W.KatTups.cons M co dt (by simpa using ef) k1,by rw[JK,JK,k2],λf' w=>by
     rcases Ju.mp w with here|w
     ·exact⟨b,ys,here,hb⟩
     ·exact J f' w⟩
  obtain⟨fs,k1,k2,J⟩:=kt vs λu t=>⟨mem u t,rel u t⟩
  refine PySem.W.kat_kind (T:=.type "tuple") k1 (by lia) (λv m=>?_) (by decide) q
  obtain⟨b,ys,rfl,hb⟩:=J v m
  obtain⟨its,g,⟨o,M,co,no,dt⟩,_⟩:=l.tuple (SqT.of hb)
  exact λA Q E s ks q=>Z8 ⟨o,ks _ _ M,co⟩ q
 ·have l:Inv X pins σ H { s1 with heap:=h',toks:=s1.toks }:=I.kept k
  obtain⟨W,x2⟩:=x
  obtain⟨G,y2⟩:=y
  have Z:=rel W F
  have Y:=rel G K
  obtain⟨⟨a,a2,xr,_,ea,ha,_⟩,lx⟩:=R _ (mem W F)
  obtain⟨⟨b,b2,yr,_,eb,hb,_⟩,_⟩:=R _ (mem G K)
  have L:=lx _ (mem G K)
  simp only at q
  rw[ea]at Z L q
  rw[eb]at Y L q
  cases Z;cases Y
  generalize hc:compare (rk (V.ref a)) (rk (V.ref b))=c at L
  rw[<- (zcd (rk (V.ref a)) (rk (V.ref b))).2,hc]at q
  cases L with
  | @row n _ _ ab aa cs D C l1 l2 hL =>
   rw[ha]at D;cases D
   rw[hb]at C;cases C
   obtain⟨its,g1,⟨o1,P,ag,ae,U⟩,_⟩:=l.tuple (SqT.of ha)
   obtain⟨z,g2,⟨o2,O,af,ad,S⟩,_⟩:=l.tuple (SqT.of hb)
   have m1:=g1.length
   have m2:=g2.length
   show wpAny _ _ (keyLt' (tuples' false) (.ref a) (.ref b)) _ _ _
   refine PySem.W.kat_lt P U O S ?_
   have ds:decide (its.toArray.size<z.toArray.size)=false:=Jt (by rw[Jj,Jj];lia)
   rw[ds]
   refine zkF cs its z 0 (by lia) (by lia) (λj u v c B m N=>?_) q
   have j1:j<(V.ref a2::xr).length:=by have:=(Jd.mp B).1;lia
   have j2:j<(V.ref b2::yr).length:=by have:=(Jd.mp m).1;lia
   obtain⟨u',e1,q1⟩:=g1.get (J7 j1)
   obtain⟨v',e2,q2⟩:=g2.get (J7 j2)
   rw[B]at e1;obtain rfl:=Jr e1
   rw[m]at e2;obtain rfl:=Jr e2
   have LL:=hL j _ _ c (J7 j1) (J7 j2) N
   exact⟨ziN l LL d _ _ (by lia) q1 q2,λne=>zl4 l LL ne d _ _ (by lia) q1 q2⟩
theorem zlk {xs:KVN}{ws:List (KN × Addr × Value)}(r:Paired PrN xs ws):Vals (xs.map λp=>V.ref p.2.1) (ws.map λq=>Value.ref q.2.1):=by
 induction r with
 | nil=>exact .nil
 | @cons p q ps a h t ih=>exact .cons (by show Value.ref q.2.1=Value.ref p.2.1;rw[h.2.1]) ih
theorem zkY {es:Array DictEntry}{acc:Array Value}(a1:acc.size=es.size) (a2:∀ (j:Nat) (v:Value),acc[j]?=some v->∃ e,es[j]?=some e/\v=e.key):acc.toList=es.toList.map (·.key):=by
 refine List.ext_getElem (by rw[Jh,JC,JC,a1]) λj a c=>?_
 obtain⟨e,h1,b⟩:=a2 j acc[j] (ZD _)
 rw[W9,Array.getElem_toList,Array.getElem_toList,b]
 rw[ZD (by rw[<- a1];exact a)]at h1
 rw[Jr h1]
theorem zfc (A:X.calm=true) (d:X.A.units+64<cLine):CallR X (.builtin "sorted") (λvs H Q=>∃ a xs rk,vs=[.ref a]/\H a=some (DN X.prog X.w a xs)/\xs.length<=10000/\RkN H (xs.map λp=>.ref p.2.1) rk/\∀ (l:Addr) (ys:List V),H l=none->ys.Perm (xs.map λp=>.ref p.2.1)->ys.Pairwise (λx y=>rk x<=rk y)->Q (.ref l) (upd H l (.lst ys))):=by
 intro pins s σ H vs us Q I m h
 obtain⟨a,xs,rk,rfl,hd,F,R,q⟩:=h
 obtain⟨u,rfl,n⟩:=m.one
 cases n
 obtain⟨⟨z,B,ws,r,o,es,ep,h1,D,C,j,G⟩,_,_⟩:=(show ObjOk X.prog X.w H s.heap a (DN X.prog X.w a xs) from I.hok a _ hd)
 have wl:es.size=xs.length:=by rw[ZP j,<- YX r]
 refine zhP (kdu_collect (zjR D C B) (I.ok.hd A) h1 (by rw[wl];exact z) λh1 tk acc k1 b=>?_)
 obtain⟨a1,a2⟩:=b
 have al:acc.toList=ws.map λq=>Value.ref q.2.1:=by
  rw[zkY a1 a2,j,Zz];rfl
 have vs:Vals (xs.map λp=>V.ref p.2.1) acc.toList:=by rw[al];exact zlk r
 have t:acc.toList.length=xs.length:=by rw[JC,a1,wl]
 have f:Inv X pins σ H { s with heap:=h1,toks:=tk }:=I.kept k1
 obtain⟨κ,g,i⟩:=znM f d vs R
 obtain⟨ex,rel⟩:=zde vs λx w=>by
  obtain⟨p,_,rfl⟩:=JD.mp w
  exact .inr ⟨_,rfl⟩
 refine⟨κ,λu=>rk (vOf u),by lia,g,i,λh' l e out lo E pm so v=>?_⟩
 have k:Vals (out.map vOf) out:=zdf λu d=>rel u (pm.mem_iff.mp d)
 have pv:(out.map vOf).Perm (xs.map λp=>V.ref p.2.1):=by rw[ex];exact pm.map vOf
 refine⟨.ref l,_,f.laid (t':=tk) (o:=.lst (out.map vOf)) (λc o q=>v c o q) lo ⟨?_,out,e,k,E⟩,rfl,?_⟩
 ·rw[Jh,pm.length_eq,t];exact z
 ·exact q l _ (f.hok.fresh lo) pv (List.pairwise_map.mpr so)
end
end L2
namespace L2
open PySem PySem.Spec PyProof.Rows Own
section
def le2 (p q a b:Int):Prop:=p<a\/p=a/\q<=b
end
theorem zhd (l b:Addr) (xs ys:Array Value) (n m:Nat) (C B:Option Addr) (f e:Array (Option Value)) (sz:xs.size=ys.size) :
  Meets (Builtin.«tuple.__lt__» ⟨[.ref l,.ref b],[]⟩)
   (λA R s=>s.heap.get? l=some { cls:=.type "tuple",dict:=C,data:=.seq xs n,slots:=f }/\s.heap.get? b=some { cls:=.type "tuple",dict:=B,data:=.seq ys m,slots:=e } /\
    (∀ j (h1:j<xs.size) (E:j<ys.size),SeqAt.EqAt A.in1 s xs[j] ys[j] true)/\R (.ok (.ret (.bool false))) s) :=
 .of_wp λprog w A R s h=>by
  rcases h with ⟨t,hb,u,h⟩
  rcases s with ⟨r,g,d,tk,os⟩
  have kinds:=AutoSeq1.sub_tuple_tuple
  have D:(xs.toList.zip ys.toList).length=min xs.size ys.size:=by simp
  wp_walk using wpAny_loadPart' t,wpAny_loadPart' hb,wpAny_forIn_list _ (λrest b s'=>b.1=none/\s'=⟨r,g,d,tk,os⟩/\∃ i,i<=(xs.toList.zip ys.toList).length/\rest=(xs.toList.zip ys.toList).drop i) _
  case turn =>
   rintro⟨y,x⟩ rest b s' ⟨c,rfl,i,q,a⟩
   have p:i<(xs.toList.zip ys.toList).length:=by
    rcases Nat.lt_or_ge i (xs.toList.zip ys.toList).length with z|z
    ·exact z
    ·rw[List.drop_eq_nil_of_le z]at a;cases a
   have i1:i<xs.size:=by lia
   have i2:i<ys.size:=by lia
   rw[Yv p]at a
   obtain⟨o,e2⟩:=List.cons.inj a
   have v:y=xs[i]:=by simpa using JS Prod.fst o
   have ex:x=ys[i]:=by simpa using JS Prod.snd o
   subst v ex
   refine J0 (u i i1 i2 prog w _ _ ?_)
   wp_walk
   exact⟨rfl,rfl,i+1,by lia,e2⟩
  case fin =>
   rintro⟨b1,b2⟩ s' ⟨c,rfl,i,q,a⟩
   have k:b1=none:=c
   subst k
   have fl:Builtin.Tuple.tupleCompareSizes CmpOp.Lt xs.size ys.size=.bool false:=by rw[sz];simp[Builtin.Tuple.tupleCompareSizes]
   show wpAny _ _ (ret (Builtin.Tuple.tupleCompareSizes CmpOp.Lt xs.size ys.size)) _ _ _
   rw[fl]
   exact Ja ⟨_,rfl,h⟩
  case h =>
   exact⟨rfl,rfl,0,JL _,rfl⟩
theorem LtAt.tuplesS {A:Around}{s:Shared}{l b:Addr}{xs ys:Array Value}(o:IsTup s.heap l xs) (hb:IsTup s.heap b ys) (k:A.units<cLine) (sz:xs.size=ys.size)
  (p:∀ j (h1:j<xs.size) (v:j<ys.size),SeqAt.EqAt A.in1 s xs[j] ys[j] true):LtAt A s (.ref l) (.ref b) false:=λprog w E Q h=>by
 obtain⟨⟨u,e,r,c⟩,o1,i,n,f⟩:=o
 obtain⟨⟨t,d,q,a⟩,o2,g,m,e2⟩:=hb
 simp only at i f g e2;subst i f g e2
 exact richCompare_meets_room (op:=.Lt) ⟨_,o1,rfl⟩ ⟨_,o2,rfl⟩ F.slot_tuple_lt F.entry_tuple_lt (F.args_tuple_lt_2 _ _) (zhd l b xs ys n m e d c a sz) ⟨o1,o2,p,show Value.bool false≠Value.notImplemented/\Q (.bool false) s from⟨(λx=>nomatch x),h⟩⟩ k
section
variable {X:Cx}
theorem zl5 {pins:List (Addr × Obj)}{σ:St}{H:Hp}{s:Shared}(I:Inv X pins σ H s) {n:Nat}{x y:V}{c:Ordering}(h:Lx H n x y c) (A:Around) (u v:Value) (D:A.units+n<cLine) (g:RelV x u) (f:RelV y v):LtAt A s u v (c == .lt):=by
 by_cases z:c=.eq
 ·cases h with
  | int n i j =>
   obtain⟨t1,rfl⟩:=g
   obtain⟨t2,rfl⟩:=f
   rw[(zcd i j).2]
   exact LtAt.ints i j t1 t2
  | @row n a b xs ys cs ha hb l1 l2 h =>
   cases g;cases f
   obtain⟨its,o,p1,_⟩:=I.tuple (SqT.of ha)
   obtain⟨k,m,p2,_⟩:=I.tuple (SqT.of hb)
   have B:=o.length
   have w:=m.length
   rw[z]
   refine LtAt.tuplesS p1 p2 (by lia) (by rw[Jj,Jj];lia) λj k1 C=>?_
   have e:j<xs.length:=by simpa [B] using k1
   have d:j<ys.length:=by simpa [w] using C
   have l:j<cs.length:=by lia
   obtain⟨q,E,t⟩:=o.get (J7 e)
   obtain⟨p,e2,r⟩:=m.get (J7 d)
   have z1:its.toArray[j]=q:=by simpa using (Jd.mp E).2
   have z2:k.toArray[j]=p:=by simpa using (Jd.mp e2).2
   have ce:cs[j]=.eq:=zdg.mp z _ (Yb l)
   have:=ziN I (h j _ _ _ (J7 e) (J7 d) (J7 l)) A.in1 _ _ (by show A.units+1+n<cLine;lia) t r
   rw[ce]at this
   rw[z1,z2]
   exact this
 ·exact zl4 I h z A u v D g f
end
section
variable {prog:Program}{w:World}{A:Around}{R:Result->Shared->Prop}{I S:Addr}{fp wr:List Addr}{n:Nat}{P:Nat->Value->Prop}{St:Nat->Heap->Prop}
def AskM (prog:Program) (w:World) (A:Around) (a:Shared) (wr:List Addr) (S:Addr) (v d:Value) (c:Bool):Prop :=
 ∀ (h:Heap) (tk:Nat) (Q:Value->Shared->Prop) (E:Value->Shared->Prop),(∀ b o,b∉wr->b≠S->a.heap.get? b=some o->h.get? b=some o)->Q (.bool c) { a with heap:=h,toks:=tk }->wpAny (model prog w) A.in1 (richCompare .Lt v d) Q E { a with heap:=h,toks:=tk }
theorem zeW (W:Walks prog w A.in1 I fp wr n P St) (away:S∉fp) (l:Shared) (i:Nat->Value->Prop)
  (more:∀ j v a,0<j->P j v->i j a->∃ c:Bool,i (j+1) (if c=true then v else a)/\AskM prog w A l wr S v a c) :
  ∀ (m j:Nat) (h:Heap) (tk:Nat) (c:Nat) (a:Value),j+m=n->0<j->i j a->St j h->h.get? S=some { cls:=.type "list",dict:=none,data:=.seq #[a,a] c,slots:=#[] }->(∀ b o,b∉wr->b≠S->l.heap.get? b=some o->h.get? b=some o) ->
   (∀ u h' t,i n u->(∀ b o,b∉wr->b≠S->l.heap.get? b=some o->h'.get? b=some o)->R (.ok (.ret u)) { l with heap:=h',toks:=t })->codeAny (model prog w) A (.builtin "min.loop" ⟨[.ref I,.none,.ref S],[]⟩) R { l with heap:=h,toks:=tk }:=by
 have out:S∉wr:=λz=>away (W.sub _ z)
 have nm:(toString "min"++toString ".loop":String) = "min.loop":=by decide
 intro m
 induction m with
 | zero =>
  intro j h tk c a x jp bs st r old k
  have y:j=n:=by lia
  subst y
  refine Z6 F.entry_min_loop (by
   refine Zt YW _ ▸ (show wpAny _ A.in1 (seqItems? (.ref S) >>= _) _ _ _ from ?_)
   refine J0 (Yk r rfl (show wpAny _ A.in1 (tryCatch (pyNext (.ref I)) _ >>= _) _ _ _ from J0 (wpAny_tryCatch (W.done { l with heap:=h,toks:=tk } _ _ st λh1 q keep=>?_))))
   have d:=keep S _ out r
   show wpAny _ A.in1 (updateSeq S (λ_=>#[]) >>= _) _ _ _;exact J0 (wpAny_updateSeq d rfl (J0 (ZV (Ja (k _ _ q bs λb o hb p e=>(Yj _ _ (Ne.symm p)).trans (keep b o hb (old b o hb p e))))))))
 | succ m ih =>
  intro j h tk c a x jp bs st r old k
  refine Z6 F.entry_min_loop (by
   refine Zt YW _ ▸ (show wpAny _ A.in1 (seqItems? (.ref S) >>= _) _ _ _ from ?_)
   refine J0 (Yk r rfl (show wpAny _ A.in1 (tryCatch (pyNext (.ref I)) _ >>= _) _ _ _ from J0 (wpAny_tryCatch (W.item j { l with heap:=h,toks:=tk } _ _ (by lia) st λv h1 q pv s keep=>?_))))
   have d:=keep S _ out r
   have f:∀ b o,b∉wr->b≠S->l.heap.get? b=some o->h1.get? b=some o:=λb o hb p e=>keep b o hb (old b o hb p e)
   obtain⟨B,g,ask⟩:=more j v a jp pv bs
   show wpAny _ A.in1 (tryCatch (holding [v,v] (richCompare .Lt v a >>= _)) _ >>= _) _ _ _;refine J0 (wpAny_tryCatch (Yp (J0 (ask h1 q _ _ f (J0 (Yp (YM (J0 (ZV (Ja ?_))))))))))
   cases B with
   | false =>
    rw[Jc Jp]at g
    rw[Jc Jp]
    refine J0 (ZV ?_)
    rw[nm]
    exact Ja ⟨Wa YW _,ih (j+1) _ _ _ a (by lia) (by lia) g s d f k⟩
   | true =>
    rw[Jf rfl]at g
    rw[Jf rfl]
    refine J0 (wpAny_updateSeq d rfl (J0 (ZV ?_)))
    rw[nm]
    exact Ja ⟨Wa YW _,ih (j+1) _ _ _ v (by lia) (by lia) g (W.frame _ _ _ s λb hb o e=>(Yj _ _ (λz=>away (by rw[z];exact hb))).trans e) (YV _ d rfl) (λb o hb p e=>(Yj _ _ (Ne.symm p)).trans (f b o hb p e)) k⟩)
end
section
variable {prog:Program}{w:World}{A:Around}{E:Value->Shared->Prop}{s:Shared}
def WalkM (prog:Program) (w:World) (A:Around) (Q:Value->Shared->Prop) (it:Value) (s2:Shared):Prop :=
 ∃ (I:Addr) (fp wr:List Addr) (n:Nat) (P:Nat->Value->Prop) (St:Nat->Heap->Prop),it=.ref I/\Walks prog w A.in1 I fp wr n P St/\St 0 s2.heap/\(∀ b∈fp,b<s2.heap.objs.size)/\0<n /\
   ∃ a:Nat->Value->Prop,(∀ v,P 0 v->a 1 v)/\(∀ j v d,0<j->P j v->a j d->∃ c:Bool,a (j+1) (if c=true then v else d)/\AskM prog w A s2 wr s2.heap.objs.size v d c) /\
   ∀ u h' tk,a n u->(∀ b o,b∉wr->s2.heap.get? b=some o->h'.get? b=some o)->Q u { s2 with heap:=h',toks:=tk }
theorem ziJ {x:Value}{Q:Value->Shared->Prop}(h:wpAny (model prog w) A.in1 (pyIter x) (WalkM prog w A Q) E s):wpAny (model prog w) A (call (.builtin "min") [x]) Q E s:=by
 have nm:(toString "min"++toString ".loop":String) = "min.loop":=by decide
 refine call_function_tree F.kind_min F.plain_min F.entry_min (F.args_min1 _) ?_;show wpAny _ A.in1 (Builtin.Builtins.bindParams "min" ["key","default"] 0 ⟨[],[]⟩ >>= _) _ _ s
 refine J0 (wpAny_of_eq (show Builtin.Builtins.bindParams "min" ["key","default"] 0 ⟨[],[]⟩=pure [none,none] from rfl) (J0 (Ja (J0 (JU h (λit s2 z=>?_) λ_ _ e=>e)))))
 obtain⟨I,fp,wr,n,P,St,rfl,W,st,low,pos,g,first,more,k⟩:=z
 have away:s2.heap.objs.size∉fp:=λz=>YL _ (low _ z)
 have out:s2.heap.objs.size∉wr:=λz=>away (W.sub _ z)
 refine J0 (JN ?_);rw[nm]
 refine Ja ⟨Wa YW _,Z6 F.entry_min_loop ?_⟩
 have new:(s2.heap.push { cls:=.type "list",data:=.seq #[] }).get? s2.heap.objs.size=some { cls:=.type "list",dict:=none,data:=.seq #[] 0,slots:=#[] }:=Js _ rfl
 have st':St 0 (s2.heap.push { cls:=.type "list",data:=.seq #[] }):=W.frame _ _ _ st λb _ o e=>J8 _ e
 refine Zt YW _ ▸ (show wpAny _ A.in1 (seqItems? (.ref s2.heap.objs.size) >>= _) _ _ _ from ?_)
 refine J0 (Yk new rfl (show wpAny _ A.in1 (tryCatch (pyNext (.ref I)) _ >>= _) _ _ _ from J0 (wpAny_tryCatch (W.item 0 _ _ _ pos st' λv h1 m pv f keep=>?_))))
 have b1:=first v pv
 have a:=keep _ _ out new
 show wpAny _ A.in1 (updateSeq s2.heap.objs.size (λ_=>#[v,v]) >>= _) _ _ _
 refine J0 (wpAny_updateSeq a rfl ?_)
 rw[nm]
 have up:∀ b o,b∉wr->b≠s2.heap.objs.size->s2.heap.get? b=some o->(h1.update s2.heap.objs.size (Obj.mapSeq λ_=>#[v,v])).get? b=some o:=λb o hb l e=>(Yj _ _ (Ne.symm l)).trans (keep b o hb (J8 _ e))
 exact Ja ⟨Wa YW _,zeW W away s2 g more (n-1) 1 _ _ _ v (by lia) (by lia) b1 (W.frame _ _ _ f λb hb o e=>(Yj _ _ (λz=>away (by rw[z];exact hb))).trans e) (YV _ a rfl) up λu i d j c=>k u i d j λb o hb e=>c b o hb (JF (Jq e)) e⟩
theorem zkq {x y:Value}{Q:Value->Shared->Prop}(h:wpAny (model prog w) A.in1 (pyIter (.ref s.heap.objs.size)) (WalkM prog w A Q) E { s with heap:=s.heap.push { cls:=.type "tuple",data:=.seq #[x,y] } }):wpAny (model prog w) A (call (.builtin "min") [x,y]) Q E s:=by
 have nm:(toString "min"++toString ".loop":String) = "min.loop":=by decide
 refine call_function_tree F.kind_min F.plain_min F.entry_min (F.args_min2 _ _) ?_;show wpAny _ A.in1 (Builtin.Builtins.bindParams "min" ["key","default"] 0 ⟨[],[]⟩ >>= _) _ _ s
 refine J0 (wpAny_of_eq (show Builtin.Builtins.bindParams "min" ["key","default"] 0 ⟨[],[]⟩=pure [none,none] from rfl) (J0 ?_))
 refine wpAny_newTuple (J0 (JU h (λit s2 z=>?_) λ_ _ e=>e))
 obtain⟨I,fp,wr,n,P,St,rfl,W,st,low,pos,g,first,more,k⟩:=z
 have away:s2.heap.objs.size∉fp:=λz=>YL _ (low _ z)
 have out:s2.heap.objs.size∉wr:=λz=>away (W.sub _ z)
 refine J0 (JN ?_);rw[nm]
 refine Ja ⟨Wa YW _,Z6 F.entry_min_loop ?_⟩
 have new:(s2.heap.push { cls:=.type "list",data:=.seq #[] }).get? s2.heap.objs.size=some { cls:=.type "list",dict:=none,data:=.seq #[] 0,slots:=#[] }:=Js _ rfl
 have st':St 0 (s2.heap.push { cls:=.type "list",data:=.seq #[] }):=W.frame _ _ _ st λb _ o e=>J8 _ e
 refine Zt YW _ ▸ (show wpAny _ A.in1 (seqItems? (.ref s2.heap.objs.size) >>= _) _ _ _ from ?_)
 refine J0 (Yk new rfl (show wpAny _ A.in1 (tryCatch (pyNext (.ref I)) _ >>= _) _ _ _ from J0 (wpAny_tryCatch (W.item 0 _ _ _ pos st' λv h1 m pv f keep=>?_))))
 have b1:=first v pv
 have a:=keep _ _ out new
 show wpAny _ A.in1 (updateSeq s2.heap.objs.size (λ_=>#[v,v]) >>= _) _ _ _
 refine J0 (wpAny_updateSeq a rfl ?_)
 rw[nm]
 have up:∀ b o,b∉wr->b≠s2.heap.objs.size->s2.heap.get? b=some o->(h1.update s2.heap.objs.size (Obj.mapSeq λ_=>#[v,v])).get? b=some o:=λb o hb l e=>(Yj _ _ (Ne.symm l)).trans (keep b o hb (J8 _ e))
 exact Ja ⟨Wa YW _,zeW W away s2 g more (n-1) 1 _ _ _ v (by lia) (by lia) b1 (W.frame _ _ _ f λb hb o e=>(Yj _ _ (λz=>away (by rw[z];exact hb))).trans e) (YV _ a rfl) up λu i d j c=>k u i d j λb o hb e=>c b o hb (JF (Jq e)) e⟩
end
def zcc (cmp:V->V->Ordering) (b y:V):V:=if cmp y b=.lt then y else b
def zbX (cmp:V->V->Ordering):List V->V
 | []=>.non
 | x::r=>r.foldl (zcc cmp) x
theorem zjE (cmp:V->V->Ordering) {l:List V}(h:l≠[]) (y:V):zbX cmp (l++[y])=zcc cmp (zbX cmp l) y:=by
 cases l with
 | nil=>exact absurd rfl h
 | cons x r=>show List.foldl _ _ (r++[y])=_;rw[Zp];rfl
theorem zgD (cmp:V->V->Ordering):∀ (r:List V) (x:V),r.foldl (zcc cmp) x∈x::r
 | [],x=>.head _
 | y::r,x=>by
  have:=zgD cmp r (zcc cmp x y)
  show List.foldl (zcc cmp) (zcc cmp x y) r∈x::y::r
  rcases Ju.mp this with z|z
  ·rw[z]
   unfold zcc
   split
   ·exact .tail _ (.head _)
   ·exact .head _
  ·exact .tail _ (.tail _ z)
theorem zkW (cmp:V->V->Ordering) {l:List V}(h:l≠[]):zbX cmp l∈l:=by
 cases l with
 | nil=>exact absurd rfl h
 | cons x r=>exact zgD cmp r x
section
variable {X:Cx}{pins:List (Addr × Obj)}{σ:St}{H:Hp}{s:Shared}
theorem zf7 {b:Bool}{a:Addr}{xs:List V}{its:List Value}{n:Nat}{cmp:V->V->Ordering}{Q:VK}(G:X.calm=true) (R:X.A.units+64<cLine) (I:Inv X pins σ H s) (l:Vals xs its) (pp:SqO b s.heap a its.toArray) (al:a<s.heap.objs.size) (k:0<xs.length) (O:n<=20) (J:∀ x∈xs,∀ y∈xs,Lx H n x y (cmp x y)) (q:Q (zbX cmp xs) H) :
  wpAny (model X.prog X.w) X.A.in1 (pyIter (.ref a)) (WalkM X.prog X.w X.A (EP X pins σ Q)) X.xe s:=by
 have S:its.length=xs.length:=l.length.symm
 refine zbI pp ⟨s.heap.objs.size,[s.heap.objs.size,a],[s.heap.objs.size],its.toArray.size,(λi v=>its.toArray[i]?=some v),_,rfl,zhr (show X.A.in1.handled=none from I.ok.hd G) b _ a (JF al) its.toArray,⟨?_,pp.mv λo e=>J8 _ e⟩,λc E=>?_,by rw[Jj];lia,(λj v=>0<j/\j<=xs.length/\RelV (zbX cmp (xs.take j)) v),λv p=>?_,λj v A jp p ⟨_,P,t⟩=>?_,λu h' tk ⟨_,_,f⟩ F=>?_⟩
 ·cases b<;>exact⟨_,Js _ rfl,rfl,rfl⟩
 ·show c<(s.heap.push _).objs.size
  rw[YN]
  rcases Ju.mp E with z|z
  ·exact z ▸ Zy _
  ·exact Je.mp z ▸ Zn al
 ·have D:xs[0]?=some xs[0]:=J7 k
  obtain⟨B,g,f⟩:=l.get D
  have d:its[0]?=some v:=by simpa using p
  rw[d]at g
  cases g
  refine⟨by lia,k,?_⟩
  cases xs with
  | nil=>cases k
  | cons x r=>exact f
 ·have d:its[j]?=some v:=by simpa using p
  have m:j<xs.length:=by
   have:=(Jd.mp d).1
   lia
  obtain⟨B,g,f⟩:=l.get (J7 m)
  rw[d]at g
  cases g
  have ne:xs.take j≠[]:=λz=>by
   have:=JS List.length z
   rw[Jw,YH]at this
   lia
  have bm:zbX cmp (xs.take j)∈xs:=YC (zkW cmp ne)
  have L:=J _ (Yb m) _ bm
  refine⟨cmp xs[j] (zbX cmp (xs.take j)) == .lt,⟨by lia,by lia,?_⟩,λh tk K N old C=>?_⟩
  ·rw[<- Yx m,zjE cmp ne]
   unfold zcc
   by_cases z:cmp xs[j] (zbX cmp (xs.take j))=.lt
   ·rw[Jf z,Jf (by rw[z];rfl)];exact f
   ·rw[Jc z,Jc (λy=>z (by simpa using y))];exact t
  ·have M:Inv X pins σ H { s with heap:=h,toks:=tk }:=I.kept λc o e=>old c o (λz=>JF (Jq e) (Je.mp z)) (λz=>by
    have h1:=Jq e
    have w:c=(s.heap.push { cls:=.type (cN b),data:=.fields #[.ref a,.int 0 0] }).objs.size:=z
    rw[YN]at w
    exact absurd w (JF (Zn h1))) (J8 _ e)
   exact zl5 M L X.A.in1 v A (by show X.A.units+1+n<cLine;lia) f t X.prog X.w N K C
 ·refine⟨zbX cmp xs,H,I.kept (t':=tk) λc o e=>F c o (λz=>JF (Jq e) (Je.mp z)) (J8 _ e),?_,q⟩
  have:xs.take its.toArray.size=xs:=JG (by rw[Jj];lia)
  rw[this]at f
  exact f
theorem zjv (j:X.calm=true) (b:Bool) (h:X.A.units+64<cLine):CallR X (.builtin "min") (λvs H Q=>∃ a xs n cmp,vs=[.ref a]/\SqB b X.K H a xs/\0<xs.length/\n<=20/\(∀ x∈xs,∀ y∈xs,Lx H n x y (cmp x y))/\Q (zbX cmp xs) H):=by
 rintro pins s σ H vs us Q I e ⟨a,xs,n,cmp,rfl,i,d,c,k,q⟩
 obtain⟨u,rfl,f⟩:=e.one
 cases f
 obtain⟨its,g,pp⟩:=I.sq (b:=b) i
 obtain⟨o,m,l,_⟩:=pp.ob
 exact ziJ (zf7 j h I g pp (Jq l) d c k q)
theorem zhm (i:X.calm=true) (h:X.A.units+64<cLine):CallR X (.builtin "min") (λvs H Q=>∃ x y n cmp,vs=[x,y]/\n<=20/\(∀ u∈[x,y],∀ v∈[x,y],Lx H n u v (cmp u v))/\Q (zcc cmp x y) H):=by
 rintro pins s σ H vs us Q I d ⟨x,y,n,cmp,rfl,c,j,q⟩
 obtain⟨u,a,rfl,g,f⟩:=zll d
 refine zkq ?_
 have k:=I.kept (t':=s.toks) (h':=s.heap.push { cls:=.type "tuple",data:=.seq #[u,a] }) λb u e=>J8 _ e
 refine zf7 (s:={ s with heap:=s.heap.push { cls:=.type "tuple",data:=.seq #[u,a] } }) (b:=false) (xs:=[x,y]) (its:=[u,a]) i h k (.cons g (.cons f .nil)) ⟨_,Js _ rfl,rfl,_,rfl⟩ ?_ (by show 0<2;lia) c j q
 show s.heap.objs.size<(s.heap.push _).objs.size
 rw[YN];lia
end
def cmpR:List Int->List Int->Ordering
 | [],[]=>.eq
 | [],_::_=>.lt
 | _::_,[]=>.gt
 | a::x,b::y=>(compare a b).then (cmpR x y)
theorem zdA:∀ {x y:List Int},x.length=y.length->(List.zipWith compare x y).foldr Ordering.then .eq=cmpR x y
 | [],[],_=>rfl
 | a::x,b::y,h=>by
  show (compare a b).then _=(compare a b).then _
  rw[zdA (x:=x) (y:=y) (by simpa using h)]
theorem zeo {H:Hp}{a b:Addr}{x y:List Int}(ha:H a=some (.tup (x.map V.int))) (hb:H b=some (.tup (y.map V.int))) (l:x.length=y.length):Lx H 1 (.ref a) (.ref b) (cmpR x y):=by
 rw[<- zdA l]
 refine .row ha hb (by rw[Jh,ZF];lia) (by rw[Jh,ZF];lia) λi u v c e d f=>?_
 rw[JP]at e d
 obtain⟨p,h,rfl⟩:=Ym.mp e
 obtain⟨q,g,rfl⟩:=Ym.mp d
 rw[List.getElem?_zipWith,h,g]at f
 cases f
 exact .int 0 p q
def minR (x y:List Int):List Int:=if cmpR y x=.lt then y else x
def minL:List (List Int)->List Int
 | []=>[]
 | x::r=>r.foldl minR x
def zmy (P:Program) (w:World) (t:TS):TS:=λD σ H=>t { D with nx:=λa H'=>∃ d o xs b,H d=some (DN P w d b)/\H' d=some (.frz o (DN P w d xs))/\D.nx a (upd H' d (DN P w d xs)) } σ H
section
variable {X:Cx}
theorem zj0 {st:Stmt}{t:TS}(h:PS X st t):PS X st (zmy X.prog X.w t):=by
 intro pins s σ H D I c
 refine thn (h pins s σ H _ I c) λf s1 q=>?_
 cases f with
 | next =>
  obtain⟨a,H',e,d,o,xs,g,hd,b,q⟩:=q
  exact⟨a,_,e.thawN b (I.meltedN hd),q⟩
 | brk=>exact q
 | cont=>exact q
 | ret u=>exact q
end
theorem zhl {P:Program}{w:World}{d:Addr}{o:Obj}{xs:KVN}{g:TG}{tb:TS}{D:Ends}{σ:St}{H:Hp}(a:Nat->St->Hp->Prop) (r:a 0 σ H) (l:∀ i σ H,i<=xs.length->a i σ H->H d=some (.frz o (DN P w d xs)))
  (k:∀ i p σ H T,xs[i]?=some p->H T=none->a i σ H->g (.ref T) σ (upd H T (.tup [.ref p.2.1,p.2.2])) λb f=>tb { D with nx:=a (i+1),ct:=a (i+1),bk:=D.nx } b f) (hd:∀ σ H,a xs.length σ H->D.nx σ H) :
  ∃ W:Nat->Nat->St->Hp->Prop,(∃ m,W 0 m σ H)/\∀ i m σ H,W i m σ H ->
   ((Itni P w d o xs).stop i H/\D.nx σ H)\/((Itni P w d o xs).go i H/\∃ N:St->Hp->Prop,(∀ c H',N c H'->∃ h,h<m/\W (i+1) h c H')/\∀ x H',(Itni P w d o xs).yld i H x H'->g x σ H' λb f=>tb { D with nx:=N,ct:=N,bk:=D.nx } b f):=by
 refine⟨λi m σ H=>m=xs.length-i/\i<=xs.length/\a i σ H,⟨xs.length,by simp,JL _,r⟩,λi m σ H ⟨em,hi,p⟩=>?_⟩
 subst em
 have q:=l i σ H hi p
 by_cases lt:i<xs.length
 ·refine .inr ⟨⟨q,lt⟩,a (i+1),λc H' j=>⟨xs.length-(i+1),by lia,rfl,lt,j⟩,λx H' ⟨y,T,s,n,t,e2⟩=>?_⟩
  subst t e2
  exact k i y σ H T s n p
 ·have e:i=xs.length:=by lia
  subst e
  exact .inl ⟨⟨q,rfl⟩,hd σ H p⟩
end L2
namespace Bn
open PySem L2 Own
theorem zcB:∀ (fs:List (Nat × Nat)) (st:List Int × List Int),(∀ t∈st.2,t=0\/t=1)->∀ t∈(zaT st fs).2,t=0\/t=1
 | [],_,h=>h
 | f::fs,st,h=>zcB fs (zaY st f) λt a=>by
  unfold zaY at a
  simp only at a
  rcases Jz.mp a with z|z
  ·exact h t z
  ·rw[Je.mp z];lia
theorem zjd (fs:List (Nat × Nat)) (cs:List Int):∀ t∈(flow fs cs).2,t=0\/t=1:=zcB fs (cs,[]) λt a=>by simp at a
theorem zbv (n p:Nat):(List.replicate n (0:Int)).getD p 0=0:=by
 rw[J9,List.getElem?_replicate];split<;>rfl
theorem zf6 (n p:Nat):(List.replicate n (0:Int)).set p 0=List.replicate n 0:=by
 refine List.ext_getElem (by simp) λi h1 a=>?_
 rw[List.getElem_set]
 split<;>simp
theorem zcA (n:Nat):∀ (fs:List (Nat × Nat)) (T:List Int),zaT (List.replicate n 0,T) fs=(List.replicate n 0,T++List.replicate fs.length 0)
 | [],T=>by simp[zaT]
 | f::fs,T=>by
  have e:zaY (List.replicate n 0,T) f=(List.replicate n 0,T++[0]):=by
   unfold zaY
   simp only[zbv]
   rw[show ((0:Int)+0+1) / 2=0 by decide,show ((0:Int)+0) / 2=0 by decide,show ((0:Int)+0)%2=0 by decide,zf6,zf6]
  show zaT (zaY (List.replicate n 0,T) f) fs=_
  rw[e,zcA n fs (T++[0]),JK,Ys,JQ];rfl
theorem ze7 (n:Nat) (fs:List (Nat × Nat)):flow fs (List.replicate n 0)=(List.replicate n 0,List.replicate fs.length 0):=by
 unfold flow;rw[zcA,ZN]
theorem zjg (N:Nt) (ok:N.Ok):zbj N (List.replicate N.lanes 0)=List.replicate N.lanes 0:=by
 unfold zbj
 rw[ze7]
 refine List.ext_getElem (by rw[Jh,Y3,zkN ok]) λi h1 a=>?_
 rw[W9,List.getElem_replicate];exact zbv _ _
theorem zgL (N:Nt):zbg N (List.replicate N.lanes 0)=List.replicate N.forks.length 0:=by unfold zbg;rw[ze7]
theorem ball {N:Nt}(ok:N.Ok) (back:Bool) {cs:List Int}(cl:cs.length=N.lanes) {lane:Nat}(i:lane<N.lanes) :
  zbg N (zaM cs lane (if back then -1 else 1))=(zaC back N.forks (zbg N cs) lane N.forks.length).1 /\
  zbj N (zaM cs lane (if back then -1 else 1))=zaM (zbj N cs) (N.ends.idxOf (zaC back N.forks (zbg N cs) lane N.forks.length).2) (if back then -1 else 1) /\
  (zaC back N.forks (zbg N cs) lane N.forks.length).2<N.lanes:=by
 have R:=ran (back:=back) (fs:=N.forks) (cs:=cs) (lane:=lane) (λf d=>by rw[cl];exact ok.fk f d) (by lia) (zjd _ _) N.forks.length (Jg _)
 have tk:N.forks.take N.forks.length=N.forks:=YJ
 have f1:=R.flows
 have t1:=R.turns
 rw[tk]at f1 t1
 have c:=R.here
 rw[cl]at c
 refine⟨?_,?_,c⟩
 ·refine zb1 ?_ λp b=>?_
  ·unfold zbg;rw[zbf,R.len,zbf]
  ·unfold zbg at b;rw[zbf]at b;exact t1 p b
 ·have ne:(zaC back N.forks (zbg N cs) lane N.forks.length).2∈N.ends:=ok.en.mem_iff.mpr (Yd.mpr c)
  have nd:N.ends.Nodup:=ok.en.nodup_iff.mpr List.nodup_range
  have h:(zbj N cs).length=N.ends.length:=by unfold zbj;rw[Jh]
  refine zb1 (by rw[zaS];unfold zbj;rw[Jh,Jh]) λp b=>?_
  have a:p<N.ends.length:=by unfold zbj at b;rwa [Jh]at b
  rw[zaQ (by rw[h];exact a)]
  have g:∀ xs:List Int,(N.ends.map λe=>xs.getD e 0).getD p 0=xs.getD N.ends[p] 0:=λxs=>by
   rw[J9 (l:=List.map _ _),JP,J7 a];rfl
  unfold zbj
  rw[g,g,f1]
  have lt':N.ends[p]<(flow N.forks cs).1.length:=by rw[zc9,cl];exact zmh ok (Yb a)
  rw[zaQ lt']
  congr 1
  show (if (zaC back N.forks (zbg N cs) lane N.forks.length).2=N.ends[p] then _ else _)=_
  have iff:(zaC back N.forks (zbg N cs) lane N.forks.length).2=N.ends[p]↔N.ends.idxOf (zaC back N.forks (zbg N cs) lane N.forks.length).2=p:=by
   constructor
   ·intro e;rw[e];exact nd.idxOf_getElem p a
   ·intro e
    have:=List.getElem_idxOf (Wp ne)
    subst e
    exact this.symm
  by_cases e:(zaC back N.forks (zbg N cs) lane N.forks.length).2=N.ends[p]
  ·rw[Jf e,Jf (iff.mp e)]
  ·rw[Jc e,Jc λz=>e (iff.mpr z)]
end Bn
namespace L2
open PySem PySem.Spec PyProof.Rows Own
structure MgA (mg:Str->Option Value):Prop where
 any:mg "any" = none
theorem zjG (bs:List Bool):(List.range bs.length).any (λi=>bs.getD i true)=bs.any id:=by
 rw[Yt];simp only[List.any_eq_true]
 constructor
 ·rintro⟨j,c,h⟩
  have a:=Yd.mp c
  rw[J9,J7 a]at h
  exact⟨_,Yb a,h⟩
 ·rintro⟨x,b,h⟩
  obtain⟨j,a,rfl⟩:=Wj b
  exact⟨j,Yd.mpr a,by rw[J9,J7 a];exact h⟩
section
variable {X:Cx}
theorem zjz (t:X.calm=true) (b:Bool):CallR X (.builtin "any") (λvs H Q=>∃ a bs,vs=[.ref a]/\SqB b X.K H a (List.map V.bl bs)/\Q (.bl (bs.any id)) H):=by
 rintro pins s σ H vs us Q I h ⟨a,bs,rfl,k,q⟩
 obtain⟨u,rfl,f⟩:=h.one
 cases f
 obtain⟨its,r,p⟩:=I.sq k
 obtain⟨o,n,y,_⟩:=p.ob
 have l:its.length=bs.length:=by rw[<- r.length,Jh]
 refine call_any_walk (zbI p ⟨s.heap.objs.size,[s.heap.objs.size,a],[s.heap.objs.size],_,_,_,λi=>bs.getD i true,rfl,zhr (show X.A.in1.handled=none from I.ok.hd t) b _ a (JF (Jq y)) its.toArray,⟨?_,p.mv λo e=>J8 _ e⟩,λi v s' B C j w=>?_,λh' tk m=>?_⟩)
 ·cases b<;>exact⟨_,Js _ rfl,rfl,rfl⟩
 ·have d:its[i]?=some v:=by simpa using j
  have hi:=(Jd.mp d).1
  obtain⟨A,g,f⟩:=r.get (i:=i) (x:=V.bl (bs.getD i true)) (by rw[JP,J9,J7 (show i<bs.length by lia)];rfl)
  rw[d]at g
  obtain rfl:=Jr g
  cases f
  exact YM w
 ·refine⟨.bl (bs.any id),H,I.kept (t':=tk) λc o e=>m c o (λz=>JF (Jq e) (Je.mp z)) (J8 _ e),?_,q⟩
  show Value.bool _=Value.bool _
  rw[Jj,l,zjG]
end
end L2
namespace Bn
open PySem L2 Own
def big (x y:Int):Int:=if y > x then y else x
def zl9 (st:List Int × List Int) (f:Nat × Nat):List Int × List Int :=
 ((st.1.set f.1 (1+big (st.1.getD f.1 0) (st.1.getD f.2 0))).set f.2 (1+big (st.1.getD f.1 0) (st.1.getD f.2 0)),st.2++[1+big (st.1.getD f.1 0) (st.1.getD f.2 0)])
def lay (n:Nat) (fs:List (Nat × Nat)):List Int × List Int:=fs.foldl zl9 (List.replicate n 0,[])
def znB (g f:Nat × Nat):Bool:=decide (g.1=f.1\/g.1=f.2) || decide (g.2=f.1\/g.2=f.2)
def ahead (fs:List (Nat × Nat)) (a:List Int) (f:Nat × Nat) (i:Nat):List Int:=((List.range i).filter λj=>znB (fs.getD j (0,0)) f).map λj=>a.getD j 0
def znO (N:Nt):List Int:=(lay N.lanes N.forks).2
abbrev Fk:=Nat × Nat
def rnk (x:Int × Fk):Int:=x.1*1024+x.2.1*32+x.2.2
def ins (x:Int × Fk):List (Int × Fk)->List (Int × Fk)
 | []=>[x]
 | y::l=>if rnk x<=rnk y then x::y::l else y::ins x l
theorem zap {H:Hp}{a:Addr}(_:H a=none) (o:HO):L2.upd H a o a=some o:=zaf
theorem Prs.app {H:Hp}:∀ {ps a:List V}{fs b:List Fk},Prs H ps fs->Prs H a b->Prs H (ps++a) (fs++b)
 | [],_,[],_,_,h=>h
 | _::_,_,_::_,_,⟨x,r⟩,h=>⟨x,Prs.app r h⟩
end Bn
namespace L2
open PySem Own PyProof.Rows PySem.Spec
section
variable {X:Cx}
def znl (i j k:Nat) (ta:TA):TS:=λD σ H=>ta σ H λvs H1=>∃ u v w,vs=[u,v,w]/\D.nx (((σ.set i (some u)).set j (some v)).set k (some w)) H1
theorem zgP {u v w:V}{us:List Value}(r:Vals [u,v,w] us):∃ a b c,us=[a,b,c]/\RelV u a/\RelV v b/\RelV w c:=by
 cases r with
 | cons p r =>
  obtain⟨b,c,rfl,q,t⟩:=Vals.two r
  exact⟨_,b,c,rfl,p,q,t⟩
theorem zlG {i j k:Nat}{x y z:Str}{a b c:Expr}{ta:TA}{pos l py f pt:Pos}{kt k2 pt2} (T:X.calm=true) (m:X.N.Nodup) (hi:X.N[i]?=some x) (S:X.N[j]?=some y) (R:X.N[k]?=some z) (M:i≠j) (L:i≠k) (K:j≠k)
  (t:X.env.scope.names.lookup x=some .local) (r:X.env.scope.names.lookup y=some .local) (p:X.env.scope.names.lookup z=some .local) (ha:PA X [a,b,c] ta)
  (N:swappedStores [.Tuple [.Name x l,.Name y py,.Name z f] kt pt] (.Tuple [a,b,c] k2 pt2) X.env=pure (some [x,y,z]))
  (O:swapsWithSole [.Tuple [.Name x l,.Name y py,.Name z f] kt pt] (.Tuple [a,b,c] k2 pt2) pos.line X.env=pure false:=by rfl) :
  PS X (.Assign [.Tuple [.Name x l,.Name y py,.Name z f] kt pt] (.Tuple [a,b,c] k2 pt2) pos) (znl i j k ta):=λpins s σ H D I h=>by
 rw[exec_Assign_arm];refine J0 (Za ?_);rw[O];refine J0 (Ja ?_);rw[Jc Jp]
 refine J0 (PyProof.Rows.Tuple_ (thn (ha _ pins s σ H _ I h) λus s1 q=>?_))
 obtain⟨vs,H1,Y,F,u,v,w,rfl,G⟩:=q
 obtain⟨e,d,u3,rfl,E,C,B⟩:=zgP F
 refine JN ?_ (by show 3<=sizeLine;decide)
 have J:Inv X pins σ H1 { s1 with heap:=s1.heap.push { cls:=.type "tuple",data:=.seq [e,d,u3].toArray } }:=Y.kept (t':=s1.toks) λ_ _ g=>J8 _ g
 rw[N];refine J0 (Ja ?_)
 show wpAny (model X.prog X.w) X.A (do rule "assign.swapped-stores";let items <- unpackItems (.ref s1.heap.objs.size) 3 none;assignInOrder [λv=>bindName X.env z v,λv=>bindName X.env y v,λv=>bindName X.env x v] items.reverse;pure Flow.next) _ _ _
 refine J0 (YY (J0 (PyProof.Rows.unpackItems_tuple (items:=#[e,d,u3]) (I.ok.hd T) (IsTup.new s1.heap _) λQ P=>?_)))
 have W:=J.kept (h':=Q) (t':=s1.toks) λb o g=>P b o (JF (Jq g)) g
 show wpAny _ _ (assignInOrder [λv=>bindName X.env z v,λv=>bindName X.env y v,λv=>bindName X.env x v] [u3,d,e] >>= λ_=>pure Flow.next) _ _ _
 refine J0 (ZR (wpAny_bindName (zbD W m R (.inl p) B (λs2 V=>?_) (.inr p))))
 refine ZR (wpAny_bindName (zbD V m S (.inl r) C (λs3 U=>?_) (.inr r)))
 refine ZR (wpAny_bindName (zbD U m hi (.inl t) E (λZ A=>assignInOrder_nil (Ja ?_)) (.inr t)))
 have n:((σ.set k (some w)).set j (some v)).set i (some u)=((σ.set i (some u)).set j (some v)).set k (some w):=by
  rw[List.set_comm _ _ (Ne.symm M),List.set_comm _ _ (Ne.symm L),List.set_comm _ _ (Ne.symm K)]
 rw[n]at A
 exact⟨_,H1,A,G⟩
end
end L2
namespace Bn
open PySem L2 Own
abbrev Sn:=List Int × List Grp × List Int
abbrev Sn.none (N:Nt):Sn:=(List.replicate N.forks.length 0,[],List.replicate N.lanes 0)
end Bn
namespace L2
open PySem PySem.Spec PyProof.Rows Own
abbrev FZ (o:Obj):HO:=.frz o (.ext λ_=>True)
theorem zi8 {P:Program}{w:World}{H:Hp}{h:Heap}{a:Addr}{o:Obj}(e:h.get? a=some o):ObjOk P w H h a (FZ o):=⟨e,trivial,⟨o,e⟩,λ_ _ _ _=>trivial⟩
structure Lam where
 params:Arguments
 body:Expr
 scope:Scope
 qual:Str
def lamO (L:Lam) (cl:List (Str × Addr)) (pm:Value) (c:Addr) (ct:Value):Obj:=PySem.W.kla_obj "<lambda>" L.qual L.params L.body L.scope cl pm c ct
structure LamAt (H:Hp) (f:Addr) (L:Lam) (cl:List (Str × Addr)) (vs:List V):Prop where
 ex:∃ (pm:Value) (c:Addr) (ct:Value) (oc:Obj) (fs:Array Value) (t:Tok),H f=some (FZ (lamO L cl pm c ct))/\H c=some (FZ oc)/\oc.data=.fields fs/\fs[1]?=some (.str L.qual t)
 len:cl.length=vs.length
 cell:∀ (i:Nat) x c v,cl[i]?=some (x,c)->vs[i]?=some v->∃ o u,H c=some (FZ o)/\o.data=.cell (some u)/\RelV v u
 nd1:(cl.map (·.1)).Nodup
 nd2:(cl.map (·.2)).Nodup
theorem LamAt.frz {H H':Hp}{f:Addr}{L:Lam}{cl:List (Str × Addr)}{vs:List V}(h:LamAt H f L cl vs) (z:∀ b o u,H b=some (.frz o u)->H' b=some (.frz o u)):LamAt H' f L cl vs:=by
 obtain⟨pm,c,ct,oc,fs,t,h1,l,k,j⟩:=h.ex
 refine⟨⟨pm,c,ct,oc,fs,t,z _ _ _ h1,z _ _ _ l,k,j⟩,h.len,λi x c v a b=>?_,h.nd1,h.nd2⟩
 obtain⟨o,u,g,e,d⟩:=h.cell i x c v a b
 exact⟨o,u,z _ _ _ g,e,d⟩
def za5 (cl:List (Str × Addr)) (H:Hp):Hp:=λb=>if b∈cl.map (·.2) then none else H b
def back (cl:List (Str × Addr)) (H H':Hp):Hp:=λb=>if b∈cl.map (·.2) then H b else H' b
theorem zci {cl:List (Str × Addr)}{H:Hp}{b:Addr}(h:b∈cl.map (·.2)):za5 cl H b=none:=Jf h
theorem zaH {cl:List (Str × Addr)}{H:Hp}{b:Addr}(h:b∉cl.map (·.2)):za5 cl H b=H b:=Jc h
theorem zf4 {cl:List (Str × Addr)}{H H':Hp}{b:Addr}(h:b∈cl.map (·.2)):back cl H H' b=H b:=Jf h
theorem zbr {cl:List (Str × Addr)}{H H':Hp}{b:Addr}(h:b∉cl.map (·.2)):back cl H H' b=H' b:=Jc h
theorem zgR {cl:List (Str × Addr)}{H:Hp}{b:Addr}{o:HO}(h:za5 cl H b=some o):b∉cl.map (·.2)/\H b=some o:=by
 by_cases c:b∈cl.map (·.2)
 ·rw[zci c]at h;cases h
 ·rw[zaH c]at h;exact⟨c,h⟩
def CellsFz (cl:List (Str × Addr)) (H:Hp):Prop:=∀ b∈cl.map (·.2),∃ o,H b=some (FZ o)
theorem LamAt.fz {H:Hp}{f:Addr}{L:Lam}{cl:List (Str × Addr)}{vs:List V}(h:LamAt H f L cl vs):CellsFz cl H:=λb hb=>by
 obtain⟨⟨x,c⟩,j,rfl⟩:=JD.mp hb
 obtain⟨i,a,e⟩:=Z9.mp j
 have g:i<vs.length:=by rw[<- h.len];exact a
 obtain⟨o,u,d,_⟩:=h.cell i x c vs[i] (by rw[J7 a,e]) (J7 g)
 exact⟨o,d⟩
section
variable {P:Program}{w:World}{H H':Hp}{h h':Heap}{cl:List (Str × Addr)}
theorem ze4 (x:HOk P w H h) (fz:CellsFz cl H):HOk P w (za5 cl H) h:=λb u e=>by
 obtain⟨nb,f⟩:=zgR e
 have keep:∀ {c:Addr}{o:HO},H c=some o->(∀ q,o≠FZ q)->za5 cl H c=some o:=λ{c o} z n=>by
  rw[zaH];· exact z
  ·intro d
   obtain⟨q,a⟩:=fz c d
   rw[z]at a
   exact n q (Jr a)
 exact(x b u f).stay (λc v _ q=>q) (λc q=>keep q λz y=>by cases y) λc xs q=>keep q λz y=>by cases y
theorem zlm {fs:List Addr}(un:Un fs [] (za5 cl H) H' h h') (fz:CellsFz cl H) (f:∀ b∈fs,H b=none) (there:∀ b o,H b=some (FZ o)->h.get? b=some o) (low:∀ b∈cl.map (·.2),H' b=none) (ok:HOk P w H' h'):Un fs [] H (back cl H H') h h'/\HOk P w (back cl H H') h':=by
 have a:∀ {b:Addr},H b=none->b∉cl.map (·.2):=λe hb=>by
  obtain⟨o,q⟩:=fz _ hb
  rw[e]at q;cases q
 have kept:∀ b∈cl.map (·.2),∀ o,h.get? b=some o->h'.get? b=some o:=λb hb o e=>un.keep b o e (zci hb) (λz=>a (f b z) hb) (by simp)
 have oth:∀ {b:Addr}{o:HO},H b=some o->(∀ q,o≠FZ q)->b∉cl.map (·.2):=λz n hb=>by
  obtain⟨q,d⟩:=fz _ hb
  rw[z]at d
  exact n q (Jr d)
 refine⟨⟨λb o e n x y=>un.keep b o e (by rw[zaH (a n)];exact n) x y,λb o e n x y=>un.slot b o e (by rw[zaH (a n)];exact n) x y,λb o e n y=>?_,un.there,λb xs e=>?_,λb o u e=>?_,λb ps e=>?_⟩,λb u e=>?_⟩
 ·rw[zbr (a n)]
  exact un.free b o e (by rw[zaH (a n)];exact n) y
 ·have nb:=oth e λq z=>by cases z
  rw[zbr nb];exact un.tups b xs (by rw[zaH nb];exact e)
 ·by_cases c:b∈cl.map (·.2)
  ·rw[zf4 c];exact e
  ·rw[zbr c];exact un.frzs b o u (by rw[zaH c];exact e)
 ·have nb:=oth e λq z=>by cases z
  rw[zbr nb];exact un.tbls b ps (by rw[zaH nb];exact e)
 ·by_cases c:b∈cl.map (·.2)
  ·rw[zf4 c]at e
   obtain⟨o,q⟩:=fz b c
   rw[q]at e
   cases e
   exact zi8 (kept b c o (there b o q))
  ·rw[zbr c]at e
   have old:∀ {x:Addr}{o:HO},H' x=some o->back cl H H' x=some o:=λ{x o} z=>by
    rw[zbr];· exact z
    ·intro g
     rw[low x g]at z;cases z
   exact(ok b u e).stay (λx v _ q=>q) (λx q=>old q) λx xs q=>old q
end
def envL (L:Lam) (cl:List (Str × Addr)) (a f c:Addr):Env:={ scope:=L.scope,locals:=a,globals:=mainGlobals,cells:=cl,qual:=L.qual++".<locals>.",func:=some f,code:=.ref c,frame:=some a,builtins:=builtinsNs }
def zmk (CX:CXT) (P:Program) (w:World) (K:PySem.W.Frag) (mg:Str->Option Value) (base:Heap) (N:List Str) (L:Lam) (cl:List (Str × Addr)) (f c:Addr) (A:Around) (outer:List Env) (s:Shared) (H:Hp) (E:XK):Cx where
 prog:=P
 w:=w
 K:=K
 mg:=mg
 base:=base
 A:=A.deeper (envL L cl s.heap.objs.size f c)
 N:=N
 s₀:=s
 H₀:=za5 cl H
 env:=envL L cl s.heap.objs.size f c
 outer:=outer
 stack:=envL L cl s.heap.objs.size f c::outer
 ex:=[]
 calm:=true
 fn:=λ_=>false
 pn:=[]
 xe:=λe s'=>wpAny (model P w) (A.deeper (envL L cl s.heap.objs.size f c)) (leaving (envL L cl s.heap.objs.size f c) e) (λ_ a=>CX outer H s E e a) (λb a=>CX outer H s E b a) s'
structure LamScope (ps fr:List Str) (sc:Scope):Prop where
 kind:sc.kind=.function
 co:sc.isCoroutine=false
 gen:sc.isGenerator=false
 nd:(ps++fr).Nodup
 par:∀ x∈ps,sc.names.lookup x=some .local
 fre:∀ x∈fr,sc.names.lookup x=some .free
 noc:∀ y∈sc.names,y.2≠.cell
 all:∀ x,sc.names.lookup x=some .free->x∈fr
section
variable {CX:CXT}{P:Program}{w:World}{K:PySem.W.Frag}{mg:Str->Option Value}{base:Heap}{L:Lam}{cl:List (Str × Addr)}{vals vs:List V}{ps:List Str}{f c:Addr}{A:Around}{outer:List Env}{s:Shared}{H:Hp}{us:List Value}{E:XK}
theorem ziQ {cl:List (Str × Addr)}(nd:(cl.map (·.1)).Nodup):∀ {i:Nat}{x:Str}{c:Addr},cl[i]?=some (x,c)->cl.lookup x=some c:=by
 induction cl with
 | nil=>intro i x c h;cases h
 | cons p r ih =>
  intro i x c h
  rw[JZ,JR]at nd
  cases i with
  | zero =>
   cases Jr h
   rw[YD,ZB]
  | succ i =>
   have m:=JT (show r[i]?=some (x,c) from h)
   rw[YD,show (x == p.1)=false from ZE.mpr λz=>nd.1 (JD.mpr ⟨_,m,z⟩)]
   exact ih nd.2 (show r[i]?=some (x,c) from h)
theorem zgW {ps:List Str}{us:List Value}(nd:ps.Nodup) (d:us.length=ps.length) {i:Nat}{x:Str}{u:Value}(b:ps[i]?=some x) (c:us[i]?=some u):(ps.zip us).reverse.lookup x=some u:=by
 have a:((ps.zip us).reverse.map (·.1)).Nodup:=by
  rw[List.map_reverse,List.map_fst_zip (by lia)]
  exact List.pairwise_reverse.mpr (nd.imp λh=>h.symm)
 have m:(x,u)∈(ps.zip us).reverse:=List.mem_reverse.mpr (JT (i:=i) (by rw[Wx];exact⟨b,c⟩))
 generalize (ps.zip us).reverse=l at a m
 induction l with
 | nil=>cases m
 | cons p r ih =>
  rw[JZ,JR]at a
  rcases Ju.mp m with e|z
  ·rw[<- e,YD,ZB]
  ·rw[YD,show (x == p.1)=false from ZE.mpr λy=>a.1 (JD.mpr ⟨_,z,y⟩)]
   exact ih a.2 z
theorem zmb {h':Heap}{tk:Nat}(S:LamScope ps (cl.map (·.1)) L.scope) (hd:A.handled=none) (g:Env0 P w K mg base A outer s H) (la:LamAt H f L cl vals) (r:Vals vs us) (I:vs.length=ps.length)
  (ns:h'.Ns s.heap.objs.size (λx=>(ps.zip us).reverse.lookup x)) (kp:∀ b o,s.heap.get? b=some o->h'.get? b=some o) :
  Inv (zmk CX P w K mg base (ps++cl.map (·.1)) L cl f c A outer s H E) [] ((vs++vals).map some) (za5 cl H) { s with heap:=h',toks:=tk }:=by
 have fz:=la.fz
 have N:=Wz.mp S.nd
 have ul:us.length=ps.length:=by rw[<- r.length];exact I
 have d:∀ {x:Str}{a:Addr},cl.lookup x=some a->(x,a)∈cl:=λh=>Zc h
 have cellOf:∀ {x:Str}{a:Addr},(x,a)∈cl->∃ (i:Nat) (v:V) (o:Obj) (u:Value),cl[i]?=some (x,a)/\vals[i]?=some v/\H a=some (FZ o)/\o.data=.cell (some u)/\RelV v u/\s.heap.get? a=some o:=λ{x a} m=>by
  obtain⟨i,n,e⟩:=Z9.mp m
  have Q:cl[i]?=some (x,a):=by rw[J7 n,e]
  have O:i<vals.length:=by rw[<- la.len];exact n
  obtain⟨o,u,B,t,D⟩:=la.cell i x a vals[i] Q (J7 O)
  exact⟨i,_,o,u,Q,J7 O,B,t,D,(g.hok a _ B).1⟩
 refine⟨⟨g.mod,S.kind,rfl,rfl,Jg _,λy z a h1 l=>?_,λy F=>?_,λy a q=>(by cases q),λ_=>hd,Around.frames_deeper g.frames,.inr ⟨rfl,rfl⟩,λb z=>(Jv z).elim,λb o e=>⟨(g.bs b o e).1,?_⟩,g.bsz,λb _ _=>Jv,λb z=>(Jv z).elim,g.funs,λb hb=>?_⟩,
  rfl,g.bare,Un.kept kp,⟨_,ns,λi y v h1 l Z=>?_⟩,λy a h=>?_,?_,λy a h=>zci (JD.mpr ⟨_,d h,rfl⟩),λp G=>(Jv G).elim,(ze4 g.hok fz).kept kp,?_⟩
 ·-- one cell,one name
  have W:=d h1
  have U:=d l
  obtain⟨i,n,C⟩:=Z9.mp W
  obtain⟨j,X,J⟩:=Z9.mp U
  have:i=j:=(List.getElem_inj (h₀:=by rw[Jh];exact n) (h₁:=by rw[Jh];exact X) la.nd2).mp (by rw[W9,W9,C,J])
  subst this
  rw[C]at J
  exact JS Prod.fst J
 ·have F:L.scope.names.lookup y=some .cell\/L.scope.names.lookup y=some .free:=F
  rcases F with q|q
  ·exact absurd rfl (S.noc _ (Zc q))
  ·obtain⟨p,G,e⟩:=JD.mp (S.all y q)
   obtain⟨i,n,C⟩:=Z9.mp G
   exact⟨p.2,ziQ la.nd1 (i:=i) (by rw[J7 n,C,<- e])⟩
 ·show za5 cl H b=none
  unfold za5
  split
  ·rfl
  ·exact(g.bs b o e).2
 ·show za5 cl H b=none
  unfold za5
  split
  ·rfl
  ·exact g.frf b hb
 ·have k:(vs++vals)[i]?=some v:=by
   rw[JP]at l
   cases e:(vs++vals)[i]? with
   | none=>rw[e]at l;cases l
   | some z=>rw[e]at l;cases l;rfl
  replace h1:(ps++cl.map (·.1))[i]?=some y:=h1
  by_cases ci:i<vs.length
  ·rw[YE ci]at k
   rw[YE (by lia)]at h1
   obtain⟨u,Y,R⟩:=r.get k
   exact⟨u,R,.inl ⟨S.par y (JT h1),zgW N.1 ul h1 Y⟩⟩
  ·rw[Ye (by lia)]at k
   rw[Ye (by lia),JP,<- I]at h1
   obtain⟨⟨x,a⟩,M,rfl⟩:=Ym.mp h1
   obtain⟨o,u,B,t,D⟩:=la.cell _ x a v M k
   exact⟨u,D,.inr ⟨.inr (S.fre x (JD.mpr ⟨_,JT M,rfl⟩)),a,ziQ la.nd1 M,o,kp _ _ (g.hok a _ B).1,t⟩⟩
 ·obtain⟨i,v,o,u,_,_,_,t,_,T⟩:=cellOf (d h)
  exact⟨some u,o,kp _ _ T,t⟩
 ·show za5 cl H s.heap.objs.size=none
  unfold za5
  split
  ·rfl
  ·exact g.hok.fresh (Jg _)
 ·show ((vs++vals).map some).length=(ps++cl.map (·.1)).length
  rw[Jh,Jb,Jb,Jh,I,la.len]
end
theorem zf1 {sc:Scope}{env:Env}(h:∀ x,(x,NameKind.free)∈sc.names->∃ c,env.cells.lookup x=some c) :
  ∃ cl,closureFor sc env=pure cl/\cl.map (·.1)=((sc.names.filter λy=>y.2 == .free).map (·.1)).reverse/\∀ p∈cl,env.cells.lookup p.1=some p.2:=by
 unfold closureFor
 have key:∀ (l:List (Str × NameKind)) (acc:List (Str × Addr)),(∀ x,(x,NameKind.free)∈l->∃ c,env.cells.lookup x=some c)->(∀ p∈acc,env.cells.lookup p.1=some p.2) ->
   ∃ cl,(forIn l acc λ(y:Str × NameKind) (r:List (Str × Addr))=>(match y with|(name,kind)=>if (kind == NameKind.free)=true then do let a <- cellOf env name;pure (ForInStep.yield ((name,a)::r)) else pure (ForInStep.yield r):Sem (ForInStep (List (Str × Addr)))))=pure cl/\cl.map (·.1)=((l.filter λy=>y.2 == .free).map (·.1)).reverse++acc.map (·.1)/\∀ p∈cl,env.cells.lookup p.1=some p.2:=by
  intro l
  induction l with
  | nil=>intro acc _ ha;exact⟨acc,rfl,rfl,ha⟩
  | cons y l ih =>
   intro acc i ha
   obtain⟨x,e⟩:=y
   rw[YZ]
   by_cases c:(e == NameKind.free)=true
   ·have k:e=.free:=by
     cases e<;>first|rfl|cases c
    subst k
    obtain⟨a,j⟩:=i x (.head _)
    obtain⟨cl,d,e2,b⟩:=ih ((x,a)::acc) (λz f=>i z (.tail _ f)) (λp g=>by
     rcases Ju.mp g with rfl|q
     ·exact j
     ·exact ha p q)
    refine⟨cl,?_,?_,b⟩
    ·have n:cellOf env x=pure a:=by unfold cellOf;rw[j]
     simp only[n,pure_bind]
     exact d
    ·rw[e2,List.filter_cons,Jf (show ((x,NameKind.free).2 == NameKind.free)=true from rfl),JZ (l:=List.filter _ l),List.reverse_cons,JQ];rfl
   ·obtain⟨cl,d,e2,b⟩:=ih acc (λz f=>i z (.tail _ f)) ha
    refine⟨cl,?_,?_,b⟩
    ·simp only[c,pure_bind]
     exact d
    ·rw[e2,List.filter_cons,Jc c]
 obtain⟨cl,d,e2,b⟩:=key sc.names [] h (λp g=>(Jv g).elim)
 refine⟨cl,?_,by rw[e2,List.map_nil,Y5],b⟩
 have o:=JS (λ(m:Sem (List (Str × Addr)))=>m >>= λr=>pure r) d
 exact o.trans (pure_bind _ _)
def TabOk (H:Hp) (qual:Str) (l:List (Pos × Addr)):Prop:=∀ p∈l,∃ (oc:Obj) (fs:Array Value) (t:Tok),H p.2=some (FZ oc)/\oc.data=.fields fs/\fs[1]?=some (.str qual t)
theorem TabOk.frz {H H':Hp}{qual:Str}{l:List (Pos × Addr)}(h:TabOk H qual l) (z:∀ b o u,H b=some (.frz o u)->H' b=some (.frz o u)):TabOk H' qual l:=λp a=>by
 obtain⟨oc,fs,t,h1,c⟩:=h p a
 exact⟨oc,fs,t,z _ _ _ h1,c⟩
theorem zd1 (pos:Pos):∀ l:List (Pos × Addr),codeAmong pos (triples l)=none\/∃ p∈l,codeAmong pos (triples l)=some (.ref p.2)
 | []=>.inl rfl
 | (q,a)::l=>by
  show (if (((q.line:Int) == pos.line && (q.col:Int) == pos.col)=true) then some (Value.ref a) else codeAmong pos (triples l))=none\/∃ p∈(q,a)::l,(if (((q.line:Int) == pos.line && (q.col:Int) == pos.col)=true) then some (Value.ref a) else codeAmong pos (triples l))=some (.ref p.2)
  split
  ·exact .inr ⟨_,.head _,rfl⟩
  ·rcases zd1 pos l with h|⟨p,b,h⟩
   ·exact .inl h
   ·exact .inr ⟨p,.tail _ b,h⟩
theorem zcI:∀ l:List (Pos × Addr),TriplesOk (triples l)
 | []=>trivial
 | (q,a)::l=>zcI l
structure CodeK (K:PySem.W.Frag) (mg:Str->Option Value) (base:Heap) (c P:Addr):Prop where
 hd:PySem.W.codeHdIn K c P=true
 blt:base.BuiltinsAt mg P
 gP:mainGlobals≠P
structure LamRaw (H:Hp) (f:Addr) (L:Lam) (cl:List (Str × Addr)):Prop where
 ex:∃ (pm:Value) (c:Addr) (ct:Value) (oc:Obj) (fs:Array Value) (t:Tok),H f=some (FZ (lamO L cl pm c ct))/\H c=some (FZ oc)/\oc.data=.fields fs/\fs[1]?=some (.str L.qual t)
def CellsOf (env:Env) (cl:List (Str × Addr)):Prop:=∀ p∈cl,env.cells.lookup p.1=some p.2
def tLam (env:Env) (P:Addr) (L:Lam) (fr:List Str):TE:=λ_ H Q=>∃ l,H P=some (.tbl (triples l).toArray)/\TabOk H L.qual l /\
 ∀ f cl a H',cl.map (·.1)=fr->CellsOf env cl->H f=none->LamRaw H' f L cl->H' P=some (.tbl (triples a).toArray)->TabOk H' L.qual a->(∀ b o,H b=some o->b≠P->H' b=some o)->Q (.ref f) H'
section
variable {X:Cx}{pins:List (Addr × Obj)}{σ:St}{H:Hp}{s:Shared}{h':Heap}
theorem Inv.tab {P:Addr}{ps more:Array Value}{tk:Nat}(I:Inv X pins σ H s) (a:H P=some (.tbl ps)) (k:Heap.ExtBut P s.heap h') (new:h'.get? P=some (PySem.W.tabObj (ps++more))):Inv X pins σ (upd H P (.tbl (ps++more))) { s with heap:=h',toks:=tk }:=by
 have ne:∀ {b:Addr},H b=none->b≠P:=λe z=>by rw[z,a]at e;cases e
 have oth:∀ {b:Addr}{o:HO},H b=some o->(∀ q,o≠.tbl q)->upd H P (.tbl (ps++more)) b=some o:=λ{b o} e n=>by
  rw[zah];· exact e
  ·intro z
   rw[z,a]at e
   exact n ps (Jr e).symm
 refine I.step (g':=s.gens) (d':=s.drawn) (ch:=[]) (λb hb=>(Jv hb).elim) (λb o _ _ _ e n=>k b o (ne n) e) (λb o _ _ _ e n=>⟨o.slots,k b o (ne n) e⟩) (λb o _ e n=>by rw[zah (ne n)];exact n) (λb o _ e=>?_) (λb xs e=>oth e λq z=>by cases z) (λb o u e=>oth e λq z=>by cases z) (λb h e=>?_) (λm g=>?_) (λb u e=>?_) I.bare
 ·by_cases c:b=P
  ·subst c;exact⟨_,new⟩
  ·exact⟨o,k b o c e⟩
 ·by_cases c:b=P
  ·subst c
   rw[a]at e
   cases e
   exact⟨more,zaf⟩
  ·exact⟨#[],by rw[zah c,e];simp⟩
 ·obtain⟨o,es,ep,f,r⟩:=g
  exact⟨o,es,ep,k _ o (ne I.free) f,r⟩
 ·by_cases c:b=P
  ·subst c
   rw[zaf]at e
   cases e
   exact new
  ·rw[zah c]at e
   refine(I.hok b u e).stay (λx v d q=>k x v ?_ q) (λx q=>oth q λz y=>by cases y) λx xs q=>oth q λz y=>by cases y
   rcases d with z|z
   ·rw[z];exact c
   ·rintro rfl
    rw[a]at z;cases z
theorem zmK {params:Arguments}{body:Expr}{scope:Scope}{pos:Pos}{c P:Addr}{fr:List Str}(J:CodeK X.K X.mg X.base c P) (i:X.env.code=.ref c) (z:defaultsOf params X.env=([],[])) (m:∀ x,(x,NameKind.free)∈scope.names->X.env.kindOf x=some .cell\/X.env.kindOf x=some .free) (M:((scope.names.filter λy=>y.2 == .free).map (·.1)).reverse=fr) :
  PE X (.Lambda params body scope pos) (tLam X.env P ⟨params,body,scope,X.env.qual++"<lambda>"⟩ fr):=by
 intro pins s σ H Q I h
 obtain⟨l,r,tok,q⟩:=h
 obtain⟨cl,w,j,v⟩:=zf1 (sc:=scope) (env:=X.env) λx hx=>I.ok.has x (m x hx)
 rw[M]at j
 have S:s.heap.Ns mainGlobals X.mg:=I.mod.glob.keeps I.bk
 have hb:s.heap.BuiltinsAt X.mg P:=J.blt.keeps I.bk
 have C:=PySem.W.codeHd_of_K I.kIn J.hd
 have B:s.heap.get? P=some (PySem.W.tabObj (triples l).toArray):=I.hok P _ r
 refine PySem.W.kla_eval z ?_
 rcases zd1 pos l with hn|⟨p,E,hy⟩
 ·refine PySem.W.kla_makeFunction w I.ok.glob S i C B (by rw[List.toList_toArray];exact zcI l) (by rw[List.toList_toArray];exact hn) J.gP hb λd f h' tk ex lo hi cr O=>?_
  obtain⟨c2,oc,fs,t,ec,g1,U,T⟩:=cr
  cases ec
  have R:P<s.heap.objs.size:=Jq B
  have sz:s.heap.objs.size<=h'.objs.size:=JW lo (Nat.le_of_lt hi)
  have W:d≠P:=Z0 (JM R lo)
  have V:h'.objs.size≠P:=Z0 (JM R sz)
  have G:d≠h'.objs.size:=JF hi
  have F:(triples l).toArray++#[rawInt pos.line,rawInt pos.col,.ref d]=(triples (l++[(pos,d)])).toArray:=by
   rw[triples_append];simp
  rw[F]at O
  have A:=I.tab (tk:=tk) (h':=h'.push (lamO ⟨params,body,scope,X.env.qual++"<lambda>"⟩ cl ((X.mg "__name__").getD .none) d f)) (more:=#[rawInt pos.line,rawInt pos.col,.ref d]) r (λb o n e=>J8 _ (ex b o n e)) (by rw[F];exact J8 _ O)
  rw[F]at A
  have n1:H d=none:=I.hok.fresh lo
  have n2:H h'.objs.size=none:=I.hok.fresh sz
  have Z:upd H P (.tbl (triples (l++[(pos,d)])).toArray) d=none:=by rw[zah W];exact n1
  have I2:=A.adopt (o:=FZ oc) (I.fpOk lo Z) (zi8 (J8 _ g1))
  have Y:upd (upd H P (.tbl (triples (l++[(pos,d)])).toArray)) d (FZ oc) h'.objs.size=none:=by rw[zah G.symm,zah V];exact n2
  have I3:=I2.adopt (o:=FZ (lamO ⟨params,body,scope,X.env.qual++"<lambda>"⟩ cl ((X.mg "__name__").getD .none) d f)) (I.fpOk sz Y) (zi8 (Js _ rfl))
  have keep:∀ b o,H b=some o->b≠P->upd (upd (upd H P (.tbl (triples (l++[(pos,d)])).toArray)) d (FZ oc)) h'.objs.size (FZ (lamO ⟨params,body,scope,X.env.qual++"<lambda>"⟩ cl ((X.mg "__name__").getD .none) d f)) b=some o:=λb o e n=>by
   rw[zah (zag e n2),zah (zag e n1),zah n];exact e
  refine⟨.ref h'.objs.size,_,I3,rfl,q _ cl (l++[(pos,d)]) _ j v n2 ⟨_,d,f,oc,fs,t,zaf,by rw[zah G];exact zaf,U,T⟩ (by rw[zah V.symm,zah W.symm];exact zaf) (λp E=>?_) keep⟩
  rcases Jz.mp E with K|is
  ·obtain⟨L,N,t',o1,o2,D⟩:=tok p K
   exact⟨L,N,t',keep _ _ o1 (zcQ o1 r (λy=>by cases y)),o2,D⟩
  ·rw[Je.mp is]
   exact⟨oc,fs,t,by rw[zah G];exact zaf,U,T⟩
 ·obtain⟨oc,fs,t,o1,o2,D⟩:=tok p E
  refine PySem.W.kla_makeFunctionHit w I.ok.glob S i C B (by rw[List.toList_toArray];exact zcI l) (by rw[List.toList_toArray];exact hy) hb λf h' tk k sz=>?_
  have kk:∀ b o,s.heap.get? b=some o->(h'.push (lamO ⟨params,body,scope,X.env.qual++"<lambda>"⟩ cl ((X.mg "__name__").getD .none) p.2 f)).get? b=some o:=λb o e=>J8 _ (k b o e)
  have g:=I.hok.fresh (a:=h'.objs.size) sz
  have A:=I.laid (a:=h'.objs.size) (o:=FZ (lamO ⟨params,body,scope,X.env.qual++"<lambda>"⟩ cl ((X.mg "__name__").getD .none) p.2 f)) (t':=tk) kk sz (zi8 (Js _ rfl))
  refine⟨.ref h'.objs.size,_,A,rfl,q _ cl l _ j v g ⟨_,p.2,f,oc,fs,t,zaf,by rw[zah (zag o1 g)];exact o1,o2,D⟩ (by rw[zah (zag r g)];exact r) (tok.frz λb o u e=>by rw[zah (zag e g)];exact e) λb o e _=>by rw[zah (zag e g)];exact e⟩
end
def CellsAt (H:Hp) (cs:List (Str × Addr)) (vals:List V):Prop:=cs.length=vals.length/\∀ (i:Nat) x c v,cs[i]?=some (x,c)->vals[i]?=some v->∃ o u,H c=some (FZ o)/\o.data=.cell (some u)/\RelV v u
theorem CellsAt.fz {H:Hp}{cs:List (Str × Addr)}{vals:List V}(h:CellsAt H cs vals):CellsFz cs H:=λb hb=>by
 obtain⟨⟨x,c⟩,g,rfl⟩:=JD.mp hb
 obtain⟨i,a,e⟩:=Z9.mp g
 have f:i<vals.length:=by rw[<- h.1];exact a
 obtain⟨o,u,d,_⟩:=h.2 i x c vals[i] (by rw[J7 a,e]) (J7 f)
 exact⟨o,d⟩
theorem LamRaw.at_ {H:Hp}{f:Addr}{L:Lam}{cl cs:List (Str × Addr)}{vals ws:List V}(r:LamRaw H f L cl) (h:CellsAt H cs vals) (n1:(cl.map (·.1)).Nodup) (n2:(cl.map (·.2)).Nodup) (len:cl.length=ws.length)
  (sub:∀ (i:Nat) x c v,cl[i]?=some (x,c)->ws[i]?=some v->∃ j:Nat,cs[j]?=some (x,c)/\vals[j]?=some v):LamAt H f L cl ws:=by
 refine⟨r.ex,len,λi x c v a b=>?_,n1,n2⟩
 obtain⟨j,d,e2⟩:=sub i x c v a b
 exact h.2 j x c v d e2
def zmw (env:Env) (xs:List (Str × Nat)) (sp:Sp) (E:XK) (t:TA):TE:=λσ H Q=>t σ H λvs H1=>∃ vals:List V,vals.length=xs.length/\(∀ (j:Nat) x i v,xs[j]?=some (x,i)->vals[j]?=some v->σ[i]?=some (some v)) /\
 ∀ cs a,cs.map (·.1)=xs.map (·.1)->CellsOf env cs->(cs.map (·.2)).Nodup->CellsAt a cs vals->(∀ b,b∉cs.map (·.2)->a b=H1 b)->(∀ b∈cs.map (·.2),H1 b=none)->sp vs a (λv c=>Q v (za5 cs c)) E
section
variable {X:Cx}{pins:List (Addr × Obj)}{σ:St}{H:Hp}{s:Shared}
theorem Inv.cells {xs:List (Str × Nat)}{vals:List V}(I:Inv X pins σ H s) (nd:(xs.map (·.1)).Nodup) (t:∀ p∈xs,X.N[p.2]?=some p.1/\X.env.scope.names.lookup p.1=some .cell/\X.fn p.1=true) (l:vals.length=xs.length)
  (g:∀ (j:Nat) x i v,xs[j]?=some (x,i)->vals[j]?=some v->σ[i]?=some (some v)):∃ cs:List (Str × Addr),cs.map (·.1)=xs.map (·.1)/\CellsOf X.env cs/\(cs.map (·.2)).Nodup/\cs.length=vals.length /\
   ∀ (j:Nat) x c v,cs[j]?=some (x,c)->vals[j]?=some v->∃ o u,s.heap.get? c=some o/\o.data=.cell (some u)/\RelV v u/\X.s₀.heap.objs.size<=c:=by
 induction xs generalizing vals with
 | nil =>
  cases vals with
  | nil=>exact⟨[],rfl,λp F=>(Jv F).elim,Z3,rfl,λj x c v h=>by cases h⟩
  | cons a b=>cases l
 | cons p xs ih =>
  cases vals with
  | nil=>cases l
  | cons v0 vals =>
   rw[JZ,JR]at nd
   obtain⟨cs,y,w,M,L,K⟩:=ih (vals:=vals) nd.2 (λq d=>t q (.tail _ d)) (by simpa using l) (λj x i v a b=>g (j+1) x i v a b)
   obtain⟨x0,k⟩:=p
   obtain⟨k1,r,D⟩:=t (x0,k) (.head _)
   have E:=g 0 x0 k v0 rfl rfl
   obtain⟨m,O,lo⟩:=I.loc
   obtain⟨u,A,B⟩:=lo k x0 v0 k1 E (.inr (.inl r))
   rcases B with ⟨C,_⟩|⟨_,c,n,o,G,hd⟩
   ·have f:X.env.scope.names.lookup x0=some .local:=C
    rw[r]at f;cases f
   refine⟨(x0,c)::cs,by rw[JZ,JZ,y],λq d=>?_,?_,by rw[JK,JK,L],λj x N v a b=>?_⟩
   ·rcases Ju.mp d with rfl|z
    ·exact n
    ·exact w q z
   ·rw[JZ,JR]
    refine⟨λJ=>?_,M⟩
    obtain⟨q,d,e⟩:=JD.mp J
    have:=I.ok.inj q.1 x0 c (by rw[w q d];exact JS some e) n
    exact nd.1 (by rw[<- y,<- this];exact JD.mpr ⟨q,d,rfl⟩)
   ·cases j with
    | zero =>
     cases Jr a
     cases Jr b
     exact⟨o,u,G,hd,A,I.ok.cab x0 c D n⟩
    | succ j=>exact K j x N v a b
variable {k:Nat}{f:Addr}{fd:FuncData}{ps:List Str}{sp:Sp}{x:Str}{p pos:Pos}{e:Expr}{es:List Expr}{t:TA}{E:XK}
theorem zj6 (F:FnOk X.prog X.w X.K X.mg X.base CX0 k f fd ps sp) (hr:Room k X.A) (hg:Gl X x) (hm:X.mg x=some (.ref f)) (O:PySem.W.keepIn X.K (.ref f)=true) (hb:Binds X.K fd ps []) (xs:List (Str × Nat)) (nd:(xs.map (·.1)).Nodup)
  (hk:∀ p∈xs,X.N[p.2]?=some p.1/\X.env.scope.names.lookup p.1=some .cell/\X.fn p.1=true) (ha:PA X (e::es) t) (P:(x == ("__debug__":Str))=false:=by decide) (he:starEach (e::es) X.env=(false,eval e X.env)::starEach es X.env:=by rfl) (N:(backTo pos (starEach es X.env)).any (·.1)=false:=by rfl) :
  PE X (.Call (.Name x p) (e::es) [] pos) (zmw X.env xs sp E t):=by
 intro pins s σ H Q I h
 refine Zg (ziS I hg hm ?_ P)
 refine PySem.W.callWith_K (h₀:=X.base) I.ok.mod.kin O (thn (ha pos pins s σ H _ I h) λus s1 ⟨vs,H1,l,r,vals,Y,M,q⟩=>⟨l.kIn,?_⟩) he N
 obtain⟨cs,c1,V,c3,U,T⟩:=l.cells nd hk Y M
 have cell:∀ b∈cs.map (·.2),∃ y o u,X.env.cells.lookup y=some b/\s1.heap.get? b=some o/\o.data=.cell (some u)/\X.s₀.heap.objs.size<=b:=λb hb=>by
  obtain⟨⟨y,c⟩,C,rfl⟩:=JD.mp hb
  obtain⟨j,S,ej⟩:=Z9.mp C
  have jv:j<vals.length:=by rw[<- U];exact S
  obtain⟨o,u,D,J,_,g4⟩:=T j y c vals[j] (by rw[J7 S,ej]) (J7 jv)
  exact⟨y,o,u,V (y,c) C,D,J,g4⟩
 have free:∀ b∈cs.map (·.2),H1 b=none:=λb hb=>by
  obtain⟨y,o,u,K,_⟩:=cell b hb
  exact l.freeC y b K
 have nofr:∀ b∈cs.map (·.2),b∉frs X.stack:=λb hb hf=>by
  obtain⟨y,o,u,K,_,_,lo⟩:=cell b hb
  rcases Ju.mp (l.stkSub b hf) with z|z
  ·exact l.cne y b K z
  ·obtain⟨_,o',ho,_⟩:=l.ok.funs.mem z
   exact absurd (JM (Jq ho) lo) (YL _)
 let A:Hp:=λb=>if b∈cs.map (·.2) then (s1.heap.get? b).map FZ else H1 b
 have B:∀ {b:Addr}{o:Obj},b∈cs.map (·.2)->s1.heap.get? b=some o->A b=some (FZ o):=λ{b o} hb e=>by
  show (if b∈cs.map (·.2) then (s1.heap.get? b).map FZ else H1 b)=_
  rw[Jf hb,e];rfl
 have d:∀ b,b∉cs.map (·.2)->A b=H1 b:=λb hb=>Jc hb
 have g:∀ {b:Addr}{o:HO},H1 b=some o->A b=some o:=λ{b o} e=>by
  rw[d b λhb=>by rw[free b hb]at e;cases e];exact e
 have ca:CellsAt A cs vals:=⟨U,λi y c v a b=>by
  obtain⟨o,u,D,J,g3,_⟩:=T i y c v a b
  exact⟨o,u,B (JD.mpr ⟨_,JT a,rfl⟩) D,J,g3⟩⟩
 have L:HOk X.prog X.w A s1.heap:=λb u e2=>by
  by_cases hb:b∈cs.map (·.2)
  ·obtain⟨y,o,u',_,D,_⟩:=cell b hb
   rw[B hb D]at e2
   cases e2
   exact zi8 D
  ·rw[d b hb]at e2
   exact(l.hok b u e2).stay (λ_ _ _ z=>z) (λ_ z=>g z) λ_ _ z=>g z
 have m:=l.env0
 have e2:Env0 X.prog X.w X.K X.mg X.base X.A X.stack s1 A:=⟨m.frames,m.mod,λb o z=>⟨(m.bs b o z).1,?_⟩,m.bsz,m.funs,λb hb=>?_,L,m.bare⟩
 rotate_left
 ·rw[d b λC=>?_];· exact(m.bs b o z).2
  ·obtain⟨y,o',u,_,_,_,lo⟩:=cell b C
   exact absurd (JM (Jq z) (JW l.ok.bsz lo)) (YL _)
 ·rw[d b λC=>nofr b C hb];exact m.frf b hb
 have z:=q cs A c1 V c3 ca d free
 have ul:us.length=ps.length:=by rw[<- r.length];exact F.len _ _ _ _ z
 refine wpAny_call (codeAny_mono (F.run X.A X.stack s1 A ⟨us,[]⟩ us vs _ E hr e2 (by have:=hb s1 us l.kIn (by rw[Y5];exact ul);rwa [Y5]at this) r z) λrs s' G=>?_)
 cases rs with
 | error e=>exact G.elim
 | ok fl =>
  cases fl with
  | next=>exact False.elim G
  | brk=>exact False.elim G
  | cont=>exact False.elim G
  | ret u =>
   obtain⟨v,W,os,bare,un,hok,Z,qq⟩:=G
   have R:CellsFz cs W:=λb hb=>by
    obtain⟨o,w⟩:=ca.fz b hb
    exact⟨o,un.frzs b o _ w⟩
   have same:∀ b∈cs.map (·.2),∀ o,s1.heap.get? b=some o->s'.heap.get? b=some o:=λb hb o e=>by
    have:=un.frzs b o _ (B hb e)
    exact(hok b _ this).1
   refine l.after ⟨v,za5 cs W,os,bare,⟨λb o e n x y=>?_,λb o e n x y=>?_,λb o e n y=>?_,un.there,λb ys e=>?_,λb o w e=>?_,λb qs e=>?_⟩,ze4 hok R,Z,qq⟩
   ·by_cases hb:b∈cs.map (·.2)
    ·exact same b hb o e
    ·exact un.keep b o e (by rw[d b hb];exact n) x y
   ·by_cases hb:b∈cs.map (·.2)
    ·exact⟨o.slots,same b hb o e⟩
    ·exact un.slot b o e (by rw[d b hb];exact n) x y
   ·by_cases hb:b∈cs.map (·.2)
    ·exact zci hb
    ·rw[zaH hb];exact un.free b o e (by rw[d b hb];exact n) y
   ·have hb:b∉cs.map (·.2):=λhb=>by rw[free b hb]at e;cases e
    rw[zaH hb];exact un.tups b ys (g e)
   ·have hb:b∉cs.map (·.2):=λhb=>by rw[free b hb]at e;cases e
    rw[zaH hb];exact un.frzs b o w (g e)
   ·have hb:b∉cs.map (·.2):=λhb=>by rw[free b hb]at e;cases e
    rw[zaH hb];exact un.tbls b qs (g e)
end
def lowQ (cl:List (Str × Addr)) (H:Hp) (Q:VK):VK:=λv H1=>(∀ b∈cl.map (·.2),H1 b=none)->Q v (back cl H H1)
section
variable {CX:CXT}{P:Program}{w:World}{K:PySem.W.Frag}{mg:Str->Option Value}{base:Heap}{L:Lam}{cl:List (Str × Addr)}{vals vs:List V}{ps:List Str}{f c:Addr}{A:Around}{outer:List Env}{s:Shared}{H:Hp}{us:List Value}{Q:VK}{E:XK}
theorem zkD {k:Nat}(S:LamScope ps (cl.map (·.1)) L.scope) (i:Room (k+1) A) (a:Env0 P w K mg base A outer s H) (la:LamAt H f L cl vals) (r:Vals vs us) (j:vs.length=ps.length)
  (hb:∀ pm cdv ct,bindArgs (PySem.W.kla_fn "<lambda>" L.qual L.params L.body L.scope cl pm cdv ct) ⟨us,[]⟩=pure (ps.zip us))
  (d:∀ c,Room k (A.deeper (envL L cl s.heap.objs.size f c))->∃ t,PE (zmk CX P w K mg base (ps++cl.map (·.1)) L cl f c A outer s H E) L.body t/\t ((vs++vals).map some) (za5 cl H) (lowQ cl H Q)) :
  codeAny (model P w) A (.call (.ref f) ⟨us,[]⟩) (CR CX outer P w H s Q E) s:=by
 obtain⟨pm,c,ct,oc,fs,l,h1,D,C,B⟩:=la.ex
 have lim:s.heap.NoLimit:=a.mod.nolimit.keeps λb o e=>(a.bs b o e).1
 have ul:us.length=ps.length:=by rw[<- r.length];exact j
 refine PySem.W.kla_callFunE i.depth (a.hok f _ h1).1 rfl S.co S.gen rfl ⟨c,oc,fs,l,rfl,(a.hok c _ D).1,C,B⟩ ?_
 rw[show bindArgs _ _=_ from hb pm (.ref c) ct]
 refine Ja (wpAny_newFunctionEnv S.noc (λy n=>S.par y.1 (List.of_mem_zip n).1) (λh' ns sb=>?_) S.kind)
 have kp:∀ b o,s.heap.get? b=some o->h'.get? b=some o:=λb o e=>(sb.2 b (JF (Jq e))).trans (J8 _ e)
 refine⟨lim.keeps kp,PySem.W.kla_codeExpr ?_⟩
 obtain⟨t,p,x⟩:=d c (i.deeper _)
 have I:=zmb (CX:=CX) (E:=E) (c:=c) (tk:=s.toks+(ps.zip us).length) S i.hd a la r j ns kp
 refine JU (p [] _ _ _ _ I x) (λu s' h=>?_) λe s' h=>h
 obtain⟨v,H1,J,m,q⟩:=h
 have g:=la.fz
 have low:∀ b∈cl.map (·.2),H1 b=none:=λb hb=>by
  obtain⟨o,z⟩:=g b hb
  exact J.base.free b o (a.hok b _ z).1 (zci hb) Jv
 obtain⟨un,ok⟩:=zlm (H':=H1) J.base g a.frf (λb o z=>(a.hok b _ z).1) low J.hok
 exact⟨v,_,J.os,J.bare,un,ok,m,q low⟩
end
abbrev LSpc:=List V->List V->Hp->VK->XK->Prop
structure LamQ (CX:CXT) (P:Program) (w:World) (K:PySem.W.Frag) (mg:Str->Option Value) (base:Heap) (k:Nat) (L:Lam) (fr ps:List Str) (sp:LSpc):Prop where
 S:LamScope ps fr L.scope
 len:∀ vals vs H Q E,sp vals vs H Q E->vs.length=ps.length
 bind:∀ (cl:List (Str × Addr)) (us:List Value),us.length=ps.length->∀ pm cdv ct,bindArgs (PySem.W.kla_fn "<lambda>" L.qual L.params L.body L.scope cl pm cdv ct) ⟨us,[]⟩=pure (ps.zip us)
 body:∀ (cl:List (Str × Addr)) (f c:Addr) (A:Around) (outer:List Env) (s:Shared) (H:Hp) (vals vs:List V) (Q:VK) (E:XK),cl.map (·.1)=fr->Room k (A.deeper (envL L cl s.heap.objs.size f c))->CellsFz cl H->sp vals vs (za5 cl H) Q E ->
  ∃ t,PE (zmk CX P w K mg base (ps++fr) L cl f c A outer s H E) L.body t/\t ((vs++vals).map some) (za5 cl H) Q
def znq (L:Lam) (fr:List Str) (sp:LSpc) (E:XK) (i:Nat) (t:TA):TE:=λσ H Q=>∃ f,σ[i]?=some (some (.ref f))/\(∃ cl pm c ct,H f=some (FZ (lamO L cl pm c ct)))/\t σ H λvs H1=>∃ cl vals,cl.map (·.1)=fr/\LamAt H1 f L cl vals/\sp vals vs (za5 cl H1) (lowQ cl H1 Q) E
section
variable {X:Cx}{CX:CXT}{k:Nat}{L:Lam}{fr ps:List Str}{sp:LSpc}{E:XK}{x:Str}{i:Nat}{p pos:Pos}{e:Expr}{es:List Expr}{t:TA}
theorem zlN (F:LamQ CX X.prog X.w X.K X.mg X.base k L fr ps sp) (C:Room (k+1) X.A) (J:PE X (.Name x p) (tVar i)) (A:Passes CX X E) (ha:PA X (e::es) t) (G:starEach (e::es) X.env=(false,eval e X.env)::starEach es X.env:=by rfl) (l:(backTo pos (starEach es X.env)).any (·.1)=false:=by rfl) :
  PE X (.Call (.Name x p) (e::es) [] pos) (znq L fr sp E i t):=by
 intro pins s σ H Q I h
 obtain⟨f,D,⟨S,P,c0,R,m⟩,q⟩:=h
 refine Zg (thn (J pins s σ H (λv H'=>v=.ref f/\H'=H) I ⟨_,D,rfl,rfl⟩) λg w ⟨v,O,o,y,ev,K⟩=>?_)
 subst ev K
 obtain rfl:g=.ref f:=y
 refine PySem.W.callWith_F ⟨_,_,_,_,(o.hok f _ m).1⟩ ?_ G l
 refine thn (ha pos pins w σ O _ o q) λus s1 ⟨vs,H1,b,r,cl,vals,d,la,z⟩=>?_
 obtain⟨pm,c,ct,oc,fs,T,h1,W,V,U⟩:=la.ex
 have n:=F.len _ _ _ _ _ z
 have ul:us.length=ps.length:=by rw[<- r.length];exact n
 have N:LamScope ps (cl.map (·.1)) L.scope:=by rw[d];exact F.S
 refine⟨⟨_,_,_,_,(b.hok f _ h1).1⟩,?_⟩
 refine wpAny_call (codeAny_mono (zkD (CX:=CX) (E:=E) (Q:=Q) N C b.env0 la r n (F.bind cl us ul) λM j=>?_) λrs s' a=>?_)
 ·obtain⟨t',B,a⟩:=F.body cl f M X.A X.stack s1 H1 vals vs _ E d j la.fz z
  exact⟨t',by rw[d];exact B,a⟩
 ·cases rs with
  | error e=>exact A pins σ H1 s1 e s' b a
  | ok fl =>
   cases fl with
   | ret u=>exact b.after a
   | next=>exact False.elim a
   | brk=>exact False.elim a
   | cont=>exact False.elim a
end
abbrev LvL:=List (KN × List Int)
def getL (ps:LvL) (k:KN):Option (List Int):=(ps.find? λx=>decide (x.1=k)).map (·.2)
def putL (ps:LvL) (k:KN) (c:List Int):LvL:=if (getL ps k).isSome then ps.map λx=>if x.1=k then (x.1,c) else x else ps++[(k,c)]
def oneM (c:List Int) (m:Nat):List Int:=Bn.zaM c m 1
structure LAcc where
 on:LvL
 fl:List (List Int)
section
variable (step:KN->Nat->Option KN)(seen:LvL)
def go1 (s:KN) (c:List Int) (a:LAcc) (m:Nat):LAcc :=
 match step s m with
 | none=>⟨a.on,a.fl++[oneM c m]⟩
 | some t=>if (getL seen t).isSome then a else ⟨putL a.on t (minR (oneM c m) ((getL a.on t).getD (oneM c m))),a.fl⟩
def goS (moves:List Nat) (a:LAcc) (p:KN × List Int):LAcc:=moves.foldl (go1 step seen p.1 p.2) a
def zbe (moves:List Nat) (level:LvL):LAcc:=level.foldl (goS step seen moves) ⟨[],[]⟩
end
inductive LRes
 | opn
 | brk (c:List Int)
 | whl (ls:List LvL)
def za4 (step:KN->Nat->Option KN) (moves:List Nat) (most:Nat):Nat->LvL->LvL->List LvL->LRes
 | 0,_,_,_=>.opn
 | n+1,level,seen,ls =>
  if level=[] then .whl ls else
  if most<seen.length+level.length then .opn else
  if (zbe step (seen++level) moves level).fl≠[] then .brk (minL (zbe step (seen++level) moves level).fl) else
  za4 step moves most n (zbe step (seen++level) moves level).on (seen++level) (ls++[level])
def LvX (H:Hp) (x:KN × Addr × V) (p:KN × List Int):Prop:=x.1=p.1/\∃ c,x.2.2=.ref c/\H c=some (.tup (p.2.map V.int))
structure LvE (H:Hp) (xs:KVN) (ps:LvL):Prop where
 ks:KsIn H xs
 pr:Paired (LvX H) xs ps
theorem zdk {α β:Type}{F G:α->β->Prop}(h:∀ a b,F a b->G a b) {l1:List α}{l2:List β}(p:Paired F l1 l2):Paired G l1 l2:=by
 induction p with
 | nil=>exact .nil
 | cons a _ ih=>exact .cons (h _ _ a) ih
theorem LvX.tups {H H':Hp}(t:∀ b ys,H b=some (.tup ys)->H' b=some (.tup ys)) {x:KN × Addr × V}{p:KN × List Int}(h:LvX H x p):LvX H' x p:=by
 obtain⟨e,c,e2,a⟩:=h
 exact⟨e,c,e2,t _ _ a⟩
theorem LvE.tups {H H':Hp}(t:∀ b ys,H b=some (.tup ys)->H' b=some (.tup ys)) {xs:KVN}{ps:LvL}(h:LvE H xs ps):LvE H' xs ps:=⟨h.ks.tups t,zdk (λ_ _ z=>z.tups t) h.pr⟩
theorem LvE.keep {H H':Hp}(s:Same H H') {xs:KVN}{ps:LvL}(h:LvE H xs ps):LvE H' xs ps:=h.tups λb ys e=>s _ _ e
theorem LvE.nil {H:Hp}:LvE H [] []:=⟨λx a=>(nomatch a),.nil⟩
theorem LvE.len {H:Hp}{xs:KVN}{ps:LvL}(h:LvE H xs ps):xs.length=ps.length:=YX h.pr
theorem zld {H:Hp}{xs:KVN}{ps:LvL}(h:Paired (LvX H) xs ps) (k:KN):(valN xs k=none/\getL ps k=none)\/∃ c r,valN xs k=some (.ref c)/\getL ps k=some r/\H c=some (.tup (r.map V.int)):=by
 induction h with
 | nil=>exact Or.inl (And.intro rfl rfl)
 | @cons x p xs ps a t ih =>
  obtain⟨e,c,e2,b⟩:=a
  unfold valN getL at ih ⊢
  rw[YU,YU,e]
  by_cases z:p.1=k
  ·rw[JB z]
   exact .inr ⟨c,p.2,JS some e2,rfl,b⟩
  ·rw[Jt z]
   exact ih
theorem zeY {H:Hp}{xs:KVN}{ps:LvL}(h:Paired (LvX H) xs ps) (k:KN):(valN xs k).isSome=(getL ps k).isSome:=by
 rcases zld h k with ⟨a,b⟩|⟨c,r,a,b,_⟩<;>rw[a,b]<;>rfl
theorem zmX {H:Hp}{xs:KVN}{ps:LvL}(h:Paired (LvX H) xs ps) (k:KN) {c:Addr}{r:List Int}(b:H c=some (.tup (r.map V.int))):Paired (LvX H) (xs.map λx=>if x.1=k then (x.1,x.2.1,.ref c) else x) (ps.map λx=>if x.1=k then (x.1,r) else x):=by
 induction h with
 | nil=>exact .nil
 | @cons x p xs ps a t ih =>
  refine .cons ?_ ih
  dsimp only
  by_cases z:p.1=k
  ·rw[Jf (a.1.trans z),Jf z];exact⟨a.1,c,rfl,b⟩
  ·rw[Jc (λy=>z (a.1.symm.trans y)),Jc z];exact a
theorem LvE.put {H:Hp}{xs:KVN}{ps:LvL}(h:LvE H xs ps) {k:KN}{b c:Addr}{r:List Int}(f:NKey H k b) (d:H c=some (.tup (r.map V.int))):LvE H (putN xs k b (.ref c)) (putL ps k r):=by
 unfold putN putL
 rw[zeY h.pr k]
 by_cases z:(getL ps k).isSome=true
 ·rw[Jf z,Jf z]
  refine⟨λx a=>?_,zmX h.pr k d⟩
  obtain⟨y,e,rfl⟩:=JD.mp a
  have:=h.ks y e
  split<;>exact this
 ·rw[Jc z,Jc z]
  refine⟨λx a=>?_,Paired.snoc h.pr ⟨rfl,c,rfl,d⟩⟩
  rcases Jz.mp a with y|y
  ·exact h.ks x y
  ·rw[Je.mp y];exact f
theorem zg2 {α β:Type}{F:α->β->Prop}{a1:List α}{b1:List β}(p:Paired F a1 b1) {a2:List α}{b2:List β}(q:Paired F a2 b2):Paired F (a1++a2) (b1++b2):=by
 induction p with
 | nil=>exact q
 | cons a _ ih=>exact .cons a ih
theorem LvE.app {H:Hp}{xs ys:KVN}{ps a:LvL}(h:LvE H xs ps) (g:LvE H ys a):LvE H (xs++ys) (ps++a):=⟨λx b=>by
 rcases Jz.mp b with y|y
 ·exact h.ks x y
 ·exact g.ks x y,zg2 h.pr g.pr⟩
theorem LvE.at_ {H:Hp}{xs:KVN}{ps:LvL}(h:LvE H xs ps) {i:Nat}{p:KN × Addr × V}(e:xs[i]?=some p):∃ r c,ps[i]?=some (p.1,r)/\NKey H p.1 p.2.1/\p.2.2=.ref c/\H c=some (.tup (r.map V.int)):=by
 have key:∀ {xs:KVN}{ps:LvL},Paired (LvX H) xs ps->∀ {i:Nat}{p:KN × Addr × V},xs[i]?=some p->∃ q,ps[i]?=some q/\LvX H p q:=by
  intro xs ps r
  induction r with
  | nil=>intro i p h;cases h
  | cons q t ih =>
   intro i p h
   cases i with
   | zero=>cases Jr h;exact⟨_,rfl,q⟩
   | succ i=>exact ih h
 obtain⟨q,e2,d,c,b,a⟩:=key h.pr e
 refine⟨q.2,c,?_,h.ks p (JT e),b,a⟩
 rw[e2,d]
theorem ze5 {ps:LvL}{k:KN}:getL ps k=none↔∀ p∈ps,p.1≠k:=by
 unfold getL
 rw[Option.map_eq_none_iff,List.find?_eq_none]
 constructor
 ·intro h p a e;exact h p a (JB e)
 ·intro h p a e;exact h p a (YF e)
theorem zbp {ps:LvL}{k:KN}{r:List Int}(h:getL ps k=some r):(k,r)∈ps:=by
 unfold getL at h
 obtain⟨p,a,e⟩:=Ym.mp h
 have h1:=List.mem_of_find?_eq_some a
 have b:=List.find?_some (p:=λx:KN × List Int=>decide (x.1=k)) a
 have c:=YF b
 rw[<- c,<- e];exact h1
theorem zbT {ps:LvL}{k:KN}(h:(getL ps k).isSome=true):∃ r,(k,r)∈ps:=by
 obtain⟨r,e⟩:=ZH.mp h
 exact⟨r,zbp e⟩
theorem zb0 {ps:LvL}{k:KN}{r:List Int}(h:(k,r)∈ps):(getL ps k).isSome=true:=by
 cases e:getL ps k with
 | some r=>rfl
 | none=>exact absurd rfl (ze5.mp e _ h)
theorem zbJ (a b:LvL) (k:KN):(getL (a++b) k).isSome=((getL a k).isSome || (getL b k).isSome):=by
 rw[Yt,Wf]
 constructor
 ·intro h
  obtain⟨r,c⟩:=zbT h
  rcases Jz.mp c with y|y
  ·exact .inl (zb0 y)
  ·exact .inr (zb0 y)
 ·rintro (h|h)
  ·obtain⟨r,c⟩:=zbT h;exact zb0 (Yh _ c)
  ·obtain⟨r,c⟩:=zbT h;exact zb0 (Jy _ c)
def LvNd (ps:LvL):Prop:=(ps.map (·.1)).Nodup
theorem zh8 (ps:LvL) (k:KN) (r:List Int):(putL ps k r).map (·.1)=if (getL ps k).isSome then ps.map (·.1) else ps.map (·.1)++[k]:=by
 unfold putL
 split
 ·rw[Zz]
  refine Wk λx a=>?_
  show (if x.1=k then (x.1,r) else x).1=x.1
  split<;>rfl
 ·rw[Y2];rfl
theorem LvNd.put {ps:LvL}(h:LvNd ps) (k:KN) (r:List Int):LvNd (putL ps k r):=by
 unfold LvNd
 rw[zh8]
 split
 ·exact h
 ·rename_i z
  refine Wz.mpr ⟨h,JR.mpr ⟨Jv,Z3⟩,λa ha b hb e=>?_⟩
  rw[Je.mp hb]at e
  obtain⟨p,c,rfl⟩:=JD.mp ha
  exact z (zb0 (k:=k) (r:=p.2) (by rw[<- e];exact c))
theorem zeg {ps:LvL}{k:KN}{r:List Int}{p:KN × List Int}(h:p∈putL ps k r):p∈ps\/p=(k,r):=by
 unfold putL at h
 split at h
 ·obtain⟨x,a,rfl⟩:=JD.mp h
  by_cases z:x.1=k
  ·rw[Jf z,z];exact .inr rfl
  ·rw[Jc z];exact .inl a
 ·rcases Jz.mp h with y|y
  ·exact .inl y
  ·exact .inr (Je.mp y)
theorem zjZ (ps:LvL) (k:KN) (r:List Int):(putL ps k r).length<=ps.length+1:=by
 unfold putL
 split
 ·rw[Jh];lia
 ·rw[Jb];exact Jg _
theorem zeX:∀ (ys xs:KVN),(ys.map (·.1)).Nodup->(∀ y∈ys,∀ x∈xs,x.1≠y.1)->zc1 xs ys=xs++ys
 | [],xs,_,_=>by rw[Y5];rfl
 | y::ys,xs,nd,ds=>by
  rw[JZ,JR]at nd
  have e:putN xs y.1 y.2.1 y.2.2=xs++[y]:=by
   unfold putN
   have:valN xs y.1=none:=by
    unfold valN
    rw[Option.map_eq_none_iff,List.find?_eq_none]
    exact λx a z=>ds y (.head _) x a (YF z)
   rw[this];rfl
  show List.foldl _ (putN xs y.1 y.2.1 y.2.2) ys=_
  rw[e]
  have:=zeX ys (xs++[y]) nd.2 λz b x a=>by
   rcases Jz.mp a with q|q
   ·exact ds z (.tail _ b) x q
   ·rw[Je.mp q]
    exact λe=>nd.1 (JD.mpr ⟨z,b,e.symm⟩)
  rw[show List.foldl (λacc y=>putN acc y.1 y.2.1 y.2.2) (xs++[y]) ys=zc1 (xs++[y]) ys from rfl,this,JQ];rfl
theorem zfM {H:Hp}{xs:KVN}{ps:LvL}(h:Paired (LvX H) xs ps):xs.map (·.1)=ps.map (·.1):=by
 induction h with
 | nil=>rfl
 | cons a _ ih=>rw[JZ,JZ,ih,a.1]
theorem LvE.merge {H:Hp}{xs ys:KVN}{ps a:LvL}(h:LvE H xs ps) (g:LvE H ys a) (nd:LvNd a) (ds:∀ q∈a,getL ps q.1=none):zc1 xs ys=xs++ys:=by
 refine zeX ys xs (by rw[zfM g.pr];exact nd) λy d x f e=>?_
 have c:y.1∈a.map (·.1):=by rw[<- zfM g.pr];exact JD.mpr ⟨y,d,rfl⟩
 obtain⟨q,i,eq⟩:=JD.mp c
 have b:x.1∈ps.map (·.1):=by rw[<- zfM h.pr];exact JD.mpr ⟨x,f,rfl⟩
 obtain⟨p,j,ep⟩:=JD.mp b
 exact ze5.mp (ds q i) p j (ep.trans (e.trans eq.symm))
end L2
namespace L2
open PySem PySem.Spec PyProof.Rows Own Bn
theorem Room.u3 {k:Nat}{A:Around}(r:Room k A):A.units+3<cLine:=by have:=r.un;lia
def RowsAt (H:Hp) (as:List Addr) (rs:List (List Int)):Prop:=Paired (λa r=>H a=some (.tup (r.map V.int))) as rs
theorem RowsAt.tups {H H':Hp}(t:Tups H H') {as:List Addr}{rs:List (List Int)}(h:RowsAt H as rs):RowsAt H' as rs:=zdk (λ_ _ e=>t _ _ e) h
structure AccOk (n m:Nat) (a:LAcc):Prop where
 on:∀ p∈a.on,p.2.length=n
 fl:∀ r∈a.fl,r.length=n
 few:a.on.length+a.fl.length<=m
theorem zcr (c:List Int) (m:Nat):(oneM c m).length=c.length:=by unfold oneM zaM;rw[Z5]
theorem zfK (x y:List Int):minR x y=x\/minR x y=y:=by unfold minR;split<;>simp
theorem AccOk.go {step:KN->Nat->Option KN}{seen:LvL}{s:KN}{c:List Int}{a:LAcc}{n m k:Nat}(h:AccOk n m a) (i:c.length=n):AccOk n (m+1) (go1 step seen s c a k):=by
 have b:(oneM c k).length=n:=by rw[zcr,i]
 have l:=h.few
 unfold go1
 split
 ·refine⟨h.on,λr d=>?_,by show a.on.length+(a.fl++[oneM c k]).length<=_;rw[Jb];show _+(_+1)<=_;lia⟩
  rcases Jz.mp d with z|z
  ·exact h.fl r z
  ·rw[Je.mp z];exact b
 ·rename_i t j
  split
  ·exact⟨h.on,h.fl,by lia⟩
  ·refine⟨λp f=>?_,h.fl,by have:=zjZ a.on t (minR (oneM c k) ((getL a.on t).getD (oneM c k)));show (putL a.on t _).length+a.fl.length<=_;lia⟩
   rcases zeg f with z|z
   ·exact h.on p z
   ·rw[z]
    show (minR _ _).length=n
    rcases zfK (oneM c k) ((getL a.on t).getD (oneM c k)) with e|e
    ·rw[e];exact b
    ·rw[e]
     cases g:getL a.on t with
     | none=>exact b
     | some r=>exact h.on _ (zbp g)
theorem AccOk.row {step:KN->Nat->Option KN}{seen:LvL}{s:KN}{c:List Int}{n:Nat}(b:c.length=n):∀ (moves:List Nat) {a:LAcc}{m:Nat},AccOk n m a->AccOk n (m+moves.length) (moves.foldl (go1 step seen s c) a)
 | [],a,m,h=>h
 | k::r,a,m,h=>by
  have:=AccOk.row (step:=step) (seen:=seen) (s:=s) (c:=c) b r (h.go (step:=step) (seen:=seen) (s:=s) (k:=k) b)
  rw[JK,show m+(r.length+1)=m+1+r.length by lia]
  exact this
theorem AccOk.lev {step:KN->Nat->Option KN}{seen:LvL}{n:Nat}{moves:List Nat}:∀ (level:LvL) {a:LAcc}{m:Nat},(∀ p∈level,p.2.length=n)->AccOk n m a->AccOk n (m+level.length*moves.length) (level.foldl (goS step seen moves) a)
 | [],a,m,_,h=>by rw[YH,Nat.zero_mul];exact h
 | p::r,a,m,b,h=>by
  have:=AccOk.lev (step:=step) (seen:=seen) (moves:=moves) r (λq c=>b q (.tail _ c)) (AccOk.row (step:=step) (seen:=seen) (s:=p.1) (b p (.head _)) moves h)
  rw[JK,Nat.add_mul,Nat.one_mul,show m+(r.length*moves.length+moves.length)=m+moves.length+r.length*moves.length by lia]
  exact this
def Led (lsp:LSpc) (vals:List V) (step:KN->Nat->Option KN) (Ok:KN->Prop) (moves:List Nat) (H:Hp):Prop :=
 ∀ (H1:Hp) (s:KN) (b:Addr) (m:Nat) (Q:VK),Tups H H1->Ok s->m∈moves->NKey H1 s b->(∀ a,Same H1 a->step s m=none->Q .non a)->(∀ a c t,Same H1 a->step s m=some t->NKey a t c->Q (.ref c) a)->lsp vals [.ref b,.int (m:Nat)] H1 Q E0
theorem Led.tups {lsp:LSpc}{vals:List V}{step:KN->Nat->Option KN}{Ok:KN->Prop}{moves:List Nat}{H H':Hp}(h:Led lsp vals step Ok moves H) (t:Tups H H'):Led lsp vals step Ok moves H':=λH1 s b m Q t1=>h H1 s b m Q (t.trans t1)
theorem zdK {H:Hp}{cl:List (Str × Addr)}(fz:CellsFz cl H):Tups H (za5 cl H):=λa xs e=>by
 rw[zaH]
 ·exact e
 ·intro b
  obtain⟨o,q⟩:=fz a b
  rw[e]at q;cases q
theorem zeM {H a:Hp}{cl:List (Str × Addr)}(s:Same (za5 cl H) a):Same H (back cl H a):=λb o e=>by
 by_cases c:b∈cl.map (·.2)
 ·rw[zf4 c];exact e
 ·rw[zbr c];exact s b o (by rw[zaH c];exact e)
theorem zhA {H a:Hp}{cl:List (Str × Addr)}(low:∀ b∈cl.map (·.2),a b=none):Tups a (back cl H a):=λb xs e=>by
 rw[zbr]
 ·exact e
 ·intro c
  rw[low b c]at e;cases e
def MvAt (K:PySem.W.Frag) (H:Hp) (a:Addr) (xs:List V):Prop:=H a=some (.tup xs)\/∀ H',SqT K H' a xs
theorem MvAt.tups {K:PySem.W.Frag}{H H':Hp}(t:Tups H H') {a:Addr}{xs:List V}(h:MvAt K H a xs):MvAt K H' a xs:=h.imp (t _ _) id
theorem MvAt.sq {K:PySem.W.Frag}{H:Hp}{a:Addr}{xs:List V}(h:MvAt K H a xs):SqT K H a xs:=h.elim SqT.of λz=>z H
structure Way (K:PySem.W.Frag) (H:Hp) (mv f:Addr) (L:Lam) (fr:List Str) (lsp:LSpc) (cl:List (Str × Addr)) (vals:List V) (step:KN->Nat->Option KN) (Ok:KN->Prop) (moves:List Nat) (n:Nat):Prop where
 mv:MvAt K H mv (moves.map λm=>V.int (m:Nat))
 fr:cl.map (·.1)=fr
 la:LamAt H f L cl vals
 ld:Led lsp vals step Ok moves H
 lt:∀ m∈moves,m<n
 ok:∀ s m t,Ok s->m∈moves->step s m=some t->Ok t
 n1:n<=1000
theorem Way.keep {K:PySem.W.Frag}{H H':Hp}{mv f:Addr}{L:Lam}{fr:List Str}{lsp:LSpc}{cl:List (Str × Addr)}{vals:List V}{step:KN->Nat->Option KN}{Ok:KN->Prop}{moves:List Nat}{n:Nat}(h:Way K H mv f L fr lsp cl vals step Ok moves n) (t:Tups H H') (z:∀ b o u,H b=some (.frz o u)->H' b=some (.frz o u)):Way K H' mv f L fr lsp cl vals step Ok moves n :=
 ⟨h.mv.tups t,h.fr,h.la.frz z,h.ld.tups t,h.lt,h.ok,h.n1⟩
def zhI (P:Program) (w:World) (K:PySem.W.Frag) (L:Lam) (fr:List Str) (lsp:LSpc):Sp:=λvs H Q _=>∃ dl ds mv f xs ys level seen moves cl vals step Ok n,vs=[.ref dl,.ref ds,.ref mv,.ref f]/\H dl=some (DN P w dl xs)/\LvE H xs level/\H ds=some (DN P w ds ys)/\LvE H ys seen/\dl≠ds /\
 Way K H mv f L fr lsp cl vals step Ok moves n/\(∀ p∈level,Ok p.1/\p.2.length=n)/\level.length*moves.length<=10000000 /\
 ∀ p o l zs fs H',Same H H'->H o=none->H' p=some (.tup [.ref o,.ref l])->H' o=some (DN P w o zs)->LvE H' zs (zbe step seen moves level).on->H' l=some (.lst (fs.map V.ref))->RowsAt H' fs (zbe step seen moves level).fl->Q (.ref p) H'
end L2
namespace K36
open PySem L2 Own Bn
abbrev sNxl:Stmt:=top 11
theorem zi9 {d:Addr}{H H':Hp}{P:Program}{w:World}{xs:KVN}(b:But d H H') (hd:H d=some (DN P w d xs)):∀ c o u,H c=some (.frz o u)->H' c=some (.frz o u):=λc o u e=>b c _ e λz=>by
 rw[z,hd]at e;cases e
theorem zbY {d:Addr}{H H':Hp}{P:Program}{w:World}{xs:KVN}(b:But d H H') (hd:H d=some (DN P w d xs)):Tups H H':=λc ys e=>b c _ e λz=>by
 rw[z,hd]at e;cases e
theorem zfL {a b:List Int}(h:a.map V.int=b.map V.int):a=b:=(List.map_inj_right λx y (e:V.int x=V.int y)=>by injection e).mp h
section
variable {P:Program}{w:World}{K:PySem.W.Frag}{mg:Str->Option Value}{base:Heap}
theorem scNx:FnScope ["level","seen","moves","led","onward","faults","state","counts","move","there","more"] ["level","seen","moves","led"] (zal sNxl):=by trivial
theorem zlR {f fA:Addr}{fd dA:FuncData}{L:Lam}{fr aK:List Str}{lsp:LSpc}(F:Fun K "next_level" "next_level" sNxl f fd) (G:Mgs mg) (UA:Use P w K mg base "added" ["counts","place","many"] 2 zfx fA dA) (LQ:LamQ CX0 P w K mg base 4 L fr aK lsp):FnOk P w K mg base CX0 6 f fd ["level","seen","moves","led"] (zhI P w K L fr lsp):=by
 refine F.ok scNx (λvs H Q E h=>?_) (λcdv A outer s H vs Q E hr h=>?_)
 ·obtain⟨dl,ds,mv,f,xs,ys,level,seen,moves,cl,vals,step,Ok,n,rfl,_⟩:=h
  rfl
 obtain⟨dl,ds,mv,f,xs,ys,level,seen,moves,cl,vals,step,Ok,n,rfl,D,lvl,aC,am,aG,W,aL,few,k⟩:=h
 refine⟨_,(@zad _ _ _ _ _ (@zav _ _ 4 _ _ _ _ scNx.nd rfl (.inl rfl) zif (by rfl) (by trivial)) (@zad _ _ _ _ _ (@zav _ _ 5 _ _ _ _ scNx.nd rfl (.inl rfl) (@zaO _ _ _ _ zac) (by rfl) (by trivial)) (@zad _ _ _ _ _ (zj0 (@zbP _ _ _ _ _ _ _ _ Yw rfl (zic (@qv _ 0 _ _ (by trivial))) (@zaU _ _ _ _ _ _ rfl (@zak _ _ _ _ _ (@zaj _ _ 6 _ scNx.nd rfl (.inl rfl) (by trivial)) (@zak _ _ _ _ _ (@zaj _ _ 7 _ scNx.nd rfl (.inl rfl) (by trivial)) zaL (by rfl)) (by rfl)) (by rfl) (by rfl)) (@zai _ _ _ (@zbP _ _ _ _ _ _ _ _ Yw rfl (@zgj _ _ _ _ (@qv _ 2 _ _ (by trivial))) (@zaj _ _ 8 _ scNx.nd rfl (.inl rfl) (by trivial)) (@zad _ _ _ _ _ (@zav _ _ 9 _ _ _ _ scNx.nd rfl (.inl rfl) (zlN LQ hr (@qv _ 3 _ _ (by trivial)) zaD (@zaa _ _ _ _ _ (@qv _ 6 _ _ (by trivial)) (@zaa _ _ _ _ _ (@qv _ 8 _ _ (by trivial)) zac (by rfl)) (by rfl))) (by rfl) (by trivial)) (@zad _ _ _ _ _ (@zbc _ _ _ _ _ _ _ _ (@zaz _ _ _ _ _ _ _ _ (zmO hr.u3) (@qv _ 9 _ _ (by trivial)) (@qv _ 1 _ _ (by trivial)) (by rfl)) (@zai _ _ _ zfD) zaI) (@zad _ _ _ _ _ (@zav _ _ 10 _ _ _ _ scNx.nd rfl (.inl rfl) (@zam _ _ _ _ _ _ _ _ _ _ _ _ _ _ _ _ UA.ok (hr.mono (by decide)) (by rfl) UA.m UA.kp UA.b .nil zaD (@zaa _ _ _ _ _ (@qv _ 7 _ _ (by trivial)) (@zaa _ _ _ _ _ (@qv _ 8 _ _ (by trivial)) (@zaa _ _ _ _ _ zae zac (by rfl)) (by rfl)) (by rfl)) (by decide) (by rfl) (by rfl)) (by rfl) (by trivial)) (@zai _ _ _ (@zbc _ _ _ _ _ _ _ _ (@zaz _ _ _ _ _ _ _ _ zmN (@qv _ 9 _ _ (by trivial)) zie (by rfl)) (@zai _ _ _ (@zbG _ _ _ _ (@zek _ _ _ _ _ _ _ _ _ _ _ _ YB ZK ZL zbi (@qv _ 5 _ _ (by trivial)) (@zaa _ _ _ _ _ (@qv _ 10 _ _ (by trivial)) zac (by rfl)) (by rfl) (by rfl) (by rfl) (by rfl) (by rfl)) (by rfl))) (@zai _ _ _ (zlH hr.u3 (@qv _ 4 _ _ (by trivial)) (@qv _ 9 _ _ (by trivial)) (@zaq _ _ _ _ _ _ _ _ _ (zhm rfl hr.units) (by rfl) G.min (by rfl) (@zaa _ _ _ _ _ (@qv _ 10 _ _ (by trivial)) (@zaa _ _ _ _ _ (zj5 hr.u3 (@qv _ 4 _ _ (by trivial)) (@qv _ 9 _ _ (by trivial)) (@qv _ 10 _ _ (by trivial)) ⟨rfl,rfl,rfl,rfl⟩) zac (by rfl)) (by rfl)) (by decide) (by decide) (by rfl) (by rfl)) (by rfl)))))))) (by intro _;rfl))) (by intro _;rfl))) (@zai _ _ _ (@zat _ _ _ _ (@zaB _ _ _ _ _ (@zaa _ _ _ _ _ (@qv _ 4 _ _ (by trivial)) (@zaa _ _ _ _ _ (@qv _ 5 _ _ (by trivial)) zac (by rfl)) (by rfl)))))))),?_⟩
 refine λo ho=>⟨by show 0<=sizeLine;decide,λl hl=>?_⟩
 have s1:=zab ho (DN P w o [])
 have s2:=zab (show L2.upd H o (DN P w o []) l=none from hl) (.lst [])
 have u2:=s1.trans s2
 have ol:o≠l:=λz=>by
  have aj:L2.upd H o (DN P w o []) l=none:=hl
  rw[<- z,zaf]at aj;cases aj
 have aB:H l=none:=by
  have aj:L2.upd H o (DN P w o []) l=none:=hl
  rwa [zah ol.symm]at aj
 have aw:dl≠o:=zag D ho
 have ax:dl≠l:=zag D aB
 have aP:L2.upd (L2.upd H o (DN P w o [])) l (.lst []) o=some (DN P w o []):=by rw[zah ol];exact zaf
 have aQ:L2.upd (L2.upd H o (DN P w o [])) l (.lst []) l=some (.lst []):=zaf
 refine⟨_,rfl,dl,xs,rfl,u2 _ _ D,λob=>?_⟩
 let C:Nat->LAcc:=λi=>(level.take i).foldl (goS step seen moves) ⟨[],[]⟩
 have ll:xs.length=level.length:=lvl.len
 refine zhl (P:=P) (w:=w) (d:=dl) (o:=ob) (xs:=xs) (λi σ Y=>(∃ v6 v7 v8 v9 v10,σ=[some (.ref dl),some (.ref ds),some (.ref mv),some (.ref f),some (.ref o),some (.ref l),v6,v7,v8,v9,v10])/\But dl H Y/\Y dl=some (.frz ob (DN P w dl xs))/\∃ zs fs,Y o=some (DN P w o zs)/\LvE Y zs (C i).on/\Y l=some (.lst (fs.map V.ref))/\RowsAt Y fs (C i).fl/\AccOk n (i*moves.length) (C i)) ?_ (λi σ Y _ q=>q.2.2.1) ?_ ?_
 ·refine⟨⟨_,_,_,_,_,rfl⟩,λb u e ne=>?_,zaf,[],[],?_,LvE.nil,?_,.nil,⟨λp hp=>(nomatch hp),λr hr=>(nomatch hr),by show 0+0<=_;lia⟩⟩
  ·rw[zah ne];exact u2 b u e
  ·rw[zah aw.symm];exact aP
  ·rw[zah ax.symm];exact aQ
 ·rintro i p σ Y T hp hT ⟨⟨v6,v7,v8,v9,v10,rfl⟩,bt,ak,zs,fs,ap,ah,ar,rws,aH⟩
  have il:i<level.length:=by rw[<- ll];exact(Jd.mp hp).1
  obtain⟨r,c,ep,kb,ec,hc⟩:=(lvl.tups (zbY bt D)).at_ hp
  have pin:(p.1,r)∈level:=JT ep
  obtain⟨aI,rl⟩:=aL _ pin
  rw[ec]
  have sT:=zab hT (.tup [.ref p.2.1,.ref c])
  refine⟨T,_,rfl,SqT.of zaf,rfl,_,_,rfl,_,_,rfl,rfl,?_⟩
  have W2:=W.keep (zbY bt D) (zi9 bt D)
  refine⟨_,rfl,mv,rfl,⟨_,(W2.mv.tups (Tups.of sT)).sq⟩,?_⟩
  have aJ:C (i+1)=goS step seen moves (C i) (p.1,r):=by
   show List.foldl _ _ (level.take (i+1))=_
   rw[<- Yx il,Zp,show level[i]=(p.1,r) from (Jd.mp ep).2];rfl
  generalize hA:C i=a0 at *
  let B:Nat->LAcc:=λj=>(moves.take j).foldl (go1 step seen p.1 r) a0
  have fin:B moves.length=C (i+1):=by rw[aJ];show List.foldl _ _ (moves.take moves.length)=_;rw[YJ];rfl
  have ml:(moves.map λm=>V.int (m:Nat)).length=moves.length:=Jh _
  refine zjb (K:=K) (a:=mv) (xs:=moves.map λm=>V.int (m:Nat)) (λj σ H3=>(∃ v8 v9 v10,σ=[some (.ref dl),some (.ref ds),some (.ref mv),some (.ref f),some (.ref o),some (.ref l),some (.ref p.2.1),some (.ref c),v8,v9,v10])/\But dl H H3/\H3 dl=some (.frz ob (DN P w dl xs))/\∃ zs fs,H3 o=some (DN P w o zs)/\LvE H3 zs (B j).on/\H3 l=some (.lst (fs.map V.ref))/\RowsAt H3 fs (B j).fl/\AccOk n (i*moves.length+j) (B j)) ?_ (λj σ H3 _ q=>(W.mv.tups (zbY q.2.1 D)).sq) ?_ ?_
  ·exact⟨⟨_,_,_,rfl⟩,bt.trans (But.of sT),sT _ _ ak,zs,fs,sT _ _ ap,ah.keep sT,sT _ _ ar,rws.tups (Tups.of sT),aH⟩
  ·rintro j x σ H3 hx ⟨⟨v8,v9,v10,rfl⟩,aa,af,N,X,ad,Z,ae,U,I⟩
   rw[JP]at hx
   obtain⟨m,em,rfl⟩:=Ym.mp hx
   have jl:j<moves.length:=(Jd.mp em).1
   have mm:m∈moves:=JT em
   have ag:B (j+1)=go1 step seen p.1 r (B j) m:=by
    show List.foldl _ _ (moves.take (j+1))=_
    rw[<- Yx jl,Zp,show moves[j]=m from (Jd.mp em).2];rfl
   have R:=I.go (step:=step) (seen:=seen) (s:=p.1) (k:=m) rl
   rw[<- ag]at R
   have t3:=zbY aa D
   have W3:=W.keep t3 (zi9 aa D)
   obtain⟨pm,cc,ct,oc,fz,tk,aO,_⟩:=W3.la.ex
   have aM:=lvl.tups t3
   obtain⟨S,c',aE,aN,aF,aD⟩:=aM.at_ hp
   have er:S=r:=by rw[ep]at aE;cases aE;rfl
   have aR:c'=c:=by rw[ec]at aF;cases aF;rfl
   subst er aR
   have tS:=t3.trans (zdK W3.la.fz)
   have aS:(B j).on.length+(B j).fl.length<=10000000:=by
    have:=I.few
    have:(i+1)*moves.length<=level.length*moves.length:=Nat.mul_le_mul_right _ il
    rw[Nat.add_mul,Nat.one_mul]at this
    lia
   refine⟨f,rfl,⟨_,_,_,_,aO⟩,_,rfl,_,rfl,cl,vals,W3.fr,W3.la,W.ld _ _ _ m _ tS aI mm (aN.tups (zdK W3.la.fz)) (λH4 s4 e4 low=>?_) λH4 b4 t s4 e4 k4 low=>?_⟩
   ·-- elsewhere
    have J:=zeM s4
    generalize back cl H3 H4=H5 at J ⊢
    have O:=aa.trans (But.of (l:=dl) J)
    have ao:=am.tups (zbY O D)
    have au:H5 ds=some (DN P w ds ys):=O _ _ aC aG.symm
    have av:=J _ _ aD
    have e1:B (j+1)=⟨(B j).on,(B j).fl++[oneM S m]⟩:=by rw[ag];unfold go1;rw[e4]
    refine⟨_,rfl,_,rfl,ds,ys,rfl,⟨.inl au,ao.ks⟩,.inr ⟨rfl,false,rfl,iteF ?_⟩⟩
    refine⟨_,rfl,_,rfl,c',S,m,1,rfl,av,by rw[rl];exact W.lt m mm,by rw[rl];exact W.n1,λq H6 M h6=>?_⟩
    have aq:=M _ _ (J _ _ ae)
    refine⟨_,rfl,rfl,true,JS V.bl (JB rfl),iteT ?_⟩
    refine⟨_,rfl,.inl ⟨rfl,_,SqL.of aq⟩,_,rfl,l,_,_,rfl,rfl,aq,?_,?_⟩
    ·rw[Jh,YX U,JE];lia
    have lq:∀ {b:Addr}{u:HO},H6 b=some u->b≠l->L2.upd H6 l (.lst (X.map V.ref++[.ref q])) b=some u:=λe ne=>by rw[zah ne];exact e
    have tq:Tups H6 (L2.upd H6 l (.lst (X.map V.ref++[.ref q]))):=λb xs e=>lq e (zcQ e aq (λz=>by cases z))
    have ay:=O.trans (But.of (l:=dl) M)
    refine⟨⟨_,_,_,rfl⟩,λb u e ne=>lq (ay b u e ne) (zag e aB),lq (M _ _ (J _ _ af)) ax,N,X++[q],lq (M _ _ (J _ _ ad)) ol,?_,?_,?_,R⟩
    ·rw[e1];exact((Z.keep J).keep M).tups tq
    ·rw[Y2];exact zaf
    ·rw[e1];exact Paired.snoc ((U.tups (Tups.of J)).tups ((Tups.of M).trans tq)) (tq _ _ h6)
   ·have J:=zeM s4
    have k5:=k4.tups (zhA (H:=H3) low)
    generalize back cl H3 H4=H5 at J k5 ⊢
    have O:=aa.trans (But.of (l:=dl) J)
    have ao:=am.tups (zbY O D)
    have au:H5 ds=some (DN P w ds ys):=O _ _ aC aG.symm
    have av:=J _ _ aD
    refine⟨_,rfl,_,rfl,ds,ys,rfl,⟨.inl au,ao.ks⟩,.inl ⟨b4,t,rfl,k5,_,rfl,?_⟩⟩
    rw[zeY am.pr t]
    by_cases sn:(getL seen t).isSome=true
    ·have e1:B (j+1)=B j:=by rw[ag];unfold go1;rw[e4];exact Jf sn
     rw[sn]
     refine iteT ?_
     rw[e1]
     rw[e1]at R
     exact⟨⟨_,_,_,rfl⟩,O,J _ _ af,N,X,J _ _ ad,Z.keep J,J _ _ ae,U.tups (Tups.of J),R⟩
    ·have e1:B (j+1)=⟨putL (B j).on t (minR (oneM S m) ((getL (B j).on t).getD (oneM S m))),(B j).fl⟩:=by rw[ag];unfold go1;rw[e4];exact Jc sn
     rw[show (getL seen t).isSome=false by simpa using sn]
     refine iteF ?_
     refine⟨_,rfl,_,rfl,c',S,m,1,rfl,av,by rw[rl];exact W.lt m mm,by rw[rl];exact W.n1,λq H6 M h6=>?_⟩
     have ai:=M _ _ (J _ _ ad)
     have ab:=(Z.keep J).keep M
     have k6:=k5.tups (Tups.of M)
     have ay:=O.trans (But.of (l:=dl) M)
     refine⟨_,rfl,rfl,false,JS V.bl (Jt (λz=>by cases z)),iteF ?_⟩
     refine⟨_,rfl,_,rfl,o,rfl,⟨_,.inl ai⟩,_,rfl,_,rfl,b4,N,t,rfl,⟨.inl ai,ab.ks⟩,k6,?_⟩
     have le:∃ g s,(valN N t).getD (.ref q)=.ref g/\(getL (B j).on t).getD (oneM S m)=s/\H6 g=some (.tup (s.map V.int))/\s.length=n:=by
      rcases zld ab.pr t with ⟨a1,a2⟩|⟨g,s,a1,a2,a3⟩
      ·exact⟨q,oneM S m,by rw[a1];rfl,by rw[a2];rfl,h6,by rw[zcr];exact rl⟩
      ·exact⟨g,s,by rw[a1];rfl,by rw[a2];rfl,a3,I.on _ (zbp a2)⟩
     obtain⟨g,sr,g1,g2,g3,g4⟩:=le
     rw[g1]
     rw[g2]at e1
     have aA:(oneM S m).length=n:=by rw[zcr];exact rl
     have g6:H6 q=some (.tup ((oneM S m).map V.int)):=h6
     let rowOf:V->List Int:=λv=>if v=.ref q then oneM S m else sr
     have rq:rowOf (.ref q)=oneM S m:=Jf rfl
     have rg:H6 g=some (.tup ((rowOf (.ref g)).map V.int))/\(rowOf (.ref g)).length=n/\rowOf (.ref g)=sr:=by
      by_cases z:g=q
      ·subst z
       have es:sr=oneM S m:=by
        have:=g6.symm.trans g3
        injection this with this
        injection this with this
        exact(zfL this).symm
       rw[rq];exact⟨g6,aA,es.symm⟩
      ·rw[show rowOf (.ref g)=sr from Jc (λy=>z (by cases y;rfl))];exact⟨g3,g4,rfl⟩
     refine⟨_,_,1,λu v=>cmpR (rowOf u) (rowOf v),rfl,by decide,?_,?_⟩
     ·have two:∀ u∈[V.ref q,V.ref g],∃ a,u=.ref a/\H6 a=some (.tup ((rowOf u).map V.int))/\(rowOf u).length=n:=λu hu=>by
       rcases Ju.mp hu with rfl|hu
       ·exact⟨q,rfl,by rw[rq];exact g6,by rw[rq];exact aA⟩
       ·rw[Je.mp hu];exact⟨g,rfl,rg.1,rg.2.1⟩
      intro u hu v hv
      obtain⟨a,rfl,a2,a3⟩:=two u hu
      obtain⟨b,rfl,b2,b3⟩:=two v hv
      exact zeo a2 b2 (by rw[a3,b3])
     have pk:∃ h,zcc (λu v=>cmpR (rowOf u) (rowOf v)) (.ref q) (.ref g)=.ref h/\H6 h=some (.tup ((minR (oneM S m) sr).map V.int)):=by
      unfold zcc minR
      have ee:cmpR (rowOf (.ref g)) (rowOf (.ref q))=cmpR sr (oneM S m):=by rw[rq,rg.2.2]
      by_cases z:cmpR sr (oneM S m)=.lt
      ·rw[Jf (ee.trans z),Jf z];exact⟨g,rfl,g3⟩
      ·rw[Jc (λy=>z (ee.symm.trans y)),Jc z];exact⟨q,rfl,g6⟩
     obtain⟨h,p1,p2⟩:=pk
     rw[p1]
     refine⟨_,rfl,_,rfl,o,b4,N,t,rfl,rfl,ai,ab.ks,k6,?_,?_⟩
     ·rw[ab.len,JE];lia
     have tq:Tups H6 (L2.upd H6 o (DN P w o (putN N t b4 (.ref h)))):=λb xs e=>by rw[zah (zcQ e ai (λz=>by cases z))];exact e
     refine⟨⟨_,_,_,rfl⟩,λb u e ne=>?_,?_,_,X,zaf,?_,?_,?_,R⟩
     ·rw[zah (zag e ho)];exact ay b u e ne
     ·rw[zah aw];exact M _ _ (J _ _ af)
     ·rw[e1];exact(ab.put k6 p2).tups tq
     ·rw[zah ol.symm];exact M _ _ (J _ _ ae)
     ·rw[e1];exact(U.tups (Tups.of J)).tups ((Tups.of M).trans tq)
  ·rintro σ H3 ⟨⟨v8,v9,v10,rfl⟩,aa,af,N,X,ad,Z,ae,U,I⟩
   have az:B (moves.map λm=>V.int (m:Nat)).length=C (i+1):=by rw[ml];exact fin
   rw[az]at Z U I
   refine⟨⟨_,_,_,_,_,rfl⟩,aa,af,N,X,ad,Z,ae,U,?_⟩
   rw[ml]at I
   rw[Nat.add_mul,Nat.one_mul];exact I
 ·rintro σ Y ⟨⟨v6,v7,v8,v9,v10,rfl⟩,bt,ak,zs,fs,ap,ah,ar,rws,aH⟩
  have e:C xs.length=zbe step seen moves level:=by show List.foldl _ _ (level.take xs.length)=_;rw[ll,YJ];rfl
  rw[e]at ah rws
  refine⟨dl,ob,xs,xs,u2 _ _ D,ak,?_⟩
  have sm:Same H (L2.upd Y dl (DN P w dl xs)):=λb u e=>by
   by_cases z:b=dl
   ·rw[z]at e ⊢;rw[D]at e;rw[<- e];exact zaf
   ·rw[zah z];exact bt b u e z
  have tz:Tups Y (L2.upd Y dl (DN P w dl xs)):=λb ys e=>by rw[zah (zcQ e ak (λz=>by cases z))];exact e
  refine⟨_,rfl,_,rfl,by show 2<=sizeLine;decide,λq hq=>?_⟩
  have M:=zab (show L2.upd Y dl (DN P w dl xs) q=none from hq) (.tup [.ref o,.ref l])
  refine k q o l zs fs _ (sm.trans M) ho zaf (M _ _ ?_) ((ah.tups tz).keep M) (M _ _ ?_) ((rws.tups tz).tups (Tups.of M))
  ·rw[zah aw.symm];exact ap
  ·rw[zah ax.symm];exact ar
end
end K36
namespace L2
open PySem PySem.Spec PyProof.Rows Own Bn
def zhk:V->Int
 | .int i=>i
 | _=>0
def rowH (H:Hp):V->List Int
 | .ref a=>match H a with
  | some (.tup xs)=>xs.map zhk
  | _=>[]
 | _=>[]
theorem zca {H:Hp}{a:Addr}{r:List Int}(h:H a=some (.tup (r.map V.int))):rowH H (.ref a)=r:=by
 show (match H a with
  | some (.tup xs)=>xs.map zhk
  | _=>[])=r
 rw[h]
 show (r.map V.int).map zhk=r
 rw[Zz]
 exact List.map_id r
def cmpH (H:Hp):V->V->Ordering:=λu v=>cmpR (rowH H u) (rowH H v)
theorem zkU {H:Hp}:∀ {fs:List Addr}{rs:List (List Int)}{a:Addr}{r:List Int},RowsAt H fs rs->H a=some (.tup (r.map V.int))->∃ h,(fs.map V.ref).foldl (zcc (cmpH H)) (.ref a)=.ref h/\H h=some (.tup ((rs.foldl minR r).map V.int)):=by
 intro fs rs a r h
 induction h generalizing a r with
 | nil=>intro ha;exact⟨a,rfl,ha⟩
 | @cons b q fs rs hb _ ih =>
  intro ha
  show ∃ h,(fs.map V.ref).foldl (zcc (cmpH H)) (zcc (cmpH H) (.ref a) (.ref b))=.ref h/\H h=some (.tup ((rs.foldl minR (minR r q)).map V.int))
  have e:cmpH H (.ref b) (.ref a)=cmpR q r:=by unfold cmpH;rw[zca ha,zca hb]
  unfold zcc minR
  by_cases z:cmpR q r=.lt
  ·rw[Jf (e.trans z),Jf z];exact ih hb
  ·rw[Jc (λy=>z (e.symm.trans y)),Jc z];exact ih ha
theorem zkV {H:Hp}{fs:List Addr}{rs:List (List Int)}(h:RowsAt H fs rs) (ne:rs≠[]):∃ g,zbX (cmpH H) (fs.map V.ref)=.ref g/\H g=some (.tup ((minL rs).map V.int)):=by
 cases h with
 | nil=>exact absurd rfl ne
 | cons a t=>exact zkU t a
theorem zlE {H:Hp}{n:Nat}{fs:List Addr}{rs:List (List Int)}(h:RowsAt H fs rs) (d:∀ r∈rs,r.length=n):∀ x∈fs.map V.ref,∀ y∈fs.map V.ref,Lx H 1 x y (cmpH H x y):=by
 have at_:∀ {fs:List Addr}{rs:List (List Int)},RowsAt H fs rs->∀ a∈fs,∃ r∈rs,H a=some (.tup (r.map V.int)):=by
  intro fs rs h
  induction h with
  | nil=>intro a ha;cases ha
  | cons p _ ih =>
   intro a ha
   rcases Ju.mp ha with rfl|z
   ·exact⟨_,.head _,p⟩
   ·obtain⟨r,c,e⟩:=ih a z
    exact⟨r,.tail _ c,e⟩
 intro x i y g
 obtain⟨a,ha,rfl⟩:=JD.mp i
 obtain⟨b,bm,rfl⟩:=JD.mp g
 obtain⟨r,c,f⟩:=at_ h a ha
 obtain⟨q,j,e2⟩:=at_ h b bm
 unfold cmpH
 rw[zca f,zca e2]
 exact zeo f e2 (by rw[d r c,d q j])
structure NewOk (seen:LvL) (Ok:KN->Prop) (a:LAcc):Prop where
 nd:LvNd a.on
 new:∀ p∈a.on,getL seen p.1=none
 ok:∀ p∈a.on,Ok p.1
section
variable {step:KN->Nat->Option KN}{seen:LvL}{Ok:KN->Prop}{moves:List Nat}
theorem NewOk.go {s:KN}{c:List Int}{a:LAcc}{k:Nat}(h:NewOk seen Ok a) (f:∀ t,step s k=some t->Ok t):NewOk seen Ok (go1 step seen s c a k):=by
 unfold go1
 split
 ·exact⟨h.nd,h.new,h.ok⟩
 ·rename_i t d
  split
  ·exact h
  ·rename_i z
   refine⟨h.nd.put _ _,λp b=>?_,λp b=>?_⟩
   ·rcases zeg b with y|y
    ·exact h.new p y
    ·rw[y]
     cases e:getL seen t with
     | none=>rfl
     | some r=>rw[e]at z;exact absurd rfl z
   ·rcases zeg b with y|y
    ·exact h.ok p y
    ·rw[y];exact f t d
theorem NewOk.row {s:KN}{c:List Int}:∀ (ms:List Nat) {a:LAcc},NewOk seen Ok a->(∀ m∈ms,∀ t,step s m=some t->Ok t)->NewOk seen Ok (ms.foldl (go1 step seen s c) a)
 | [],a,h,_=>h
 | k::r,a,h,q=>NewOk.row r (h.go (q k (.head _))) λm b=>q m (.tail _ b)
theorem NewOk.lev:∀ (level:LvL) {a:LAcc},NewOk seen Ok a->(∀ p∈level,∀ m∈moves,∀ t,step p.1 m=some t->Ok t)->NewOk seen Ok (level.foldl (goS step seen moves) a)
 | [],a,h,_=>h
 | p::r,a,h,q=>NewOk.lev r (NewOk.row moves h (q p (.head _))) λm b=>q m (.tail _ b)
theorem zdn (level:LvL) (q:∀ p∈level,∀ m∈moves,∀ t,step p.1 m=some t->Ok t):NewOk seen Ok (zbe step seen moves level) :=
 NewOk.lev level ⟨Z3,λp a=>(nomatch a),λp a=>(nomatch a)⟩ q
theorem zgx {n:Nat}(level:LvL) (h:∀ p∈level,p.2.length=n):AccOk n (level.length*moves.length) (zbe step seen moves level):=by
 have:=AccOk.lev (step:=step) (seen:=seen) (moves:=moves) level (a:=⟨[],[]⟩) (m:=0) h ⟨λp b=>(nomatch b),λp b=>(nomatch b),Jg _⟩
 rwa [Yy]at this
end
section
variable {step:KN->Nat->Option KN}{moves:List Nat}{most m:Nat}{level seen:LvL}{ls:List LvL}
theorem zcE:za4 step moves most (m+1) [] seen ls=.whl ls:=Jf rfl
theorem zdC (ne:level≠[]) (h:most<seen.length+level.length):za4 step moves most (m+1) level seen ls=.opn:=by
 unfold za4
 rw[Jc ne,Jf h]
theorem zcF (ne:level≠[]) (h:¬ most<seen.length+level.length) (f:(zbe step (seen++level) moves level).fl≠[]):za4 step moves most (m+1) level seen ls=.brk (minL (zbe step (seen++level) moves level).fl):=by
 unfold za4
 rw[Jc ne,Jc h,Jf f]
theorem zda (ne:level≠[]) (h:¬ most<seen.length+level.length) (f:(zbe step (seen++level) moves level).fl=[]):za4 step moves most (m+1) level seen ls=za4 step moves most m (zbe step (seen++level) moves level).on (seen++level) (ls++[level]):=by
 rw[za4,Jc ne,Jc h,Jc (not_not_intro f)]
end
def LvsAt (P:Program) (w:World) (H:Hp) (as:List Addr) (ls:List LvL):Prop:=Paired (λa lv=>∃ xs,H a=some (DN P w a xs)/\LvE H xs lv) as ls
theorem LvsAt.but {P:Program}{w:World}{H H':Hp}{as:List Addr}{ls:List LvL}(h:LvsAt P w H as ls) (t:Tups H H') (k:∀ a∈as,∀ o,H a=some o->H' a=some o):LvsAt P w H' as ls:=by
 induction h with
 | nil=>exact .nil
 | @cons a lv as ls q _ ih =>
  obtain⟨xs,e,le⟩:=q
  exact .cons ⟨xs,k a (.head _) _ e,le.tups t⟩ (ih λb hb=>k b (.tail _ hb))
theorem LvsAt.keep {P:Program}{w:World}{H H':Hp}{as:List Addr}{ls:List LvL}(h:LvsAt P w H as ls) (s:Same H H'):LvsAt P w H' as ls:=h.but (Tups.of s) λa _ o e=>s a o e
def TellR (P:Program) (w:World) (H:Hp) (p:Addr):LRes->Prop
 | .opn=>H p=some (.tup [.str "open",.non])
 | .brk c=>∃ b,H p=some (.tup [.str "breaks",.ref b])/\H b=some (.tup (c.map V.int))
 | .whl ls=>∃ l as,H p=some (.tup [.str "whole",.ref l])/\H l=some (.lst (as.map V.ref))/\LvsAt P w H as ls
def zfw (P:Program) (w:World) (K:PySem.W.Frag) (L:Lam) (fr:List Str) (lsp:LSpc):Sp:=λvs H Q _=>∃ a c0 mv f k0 c moves cl vals step Ok n,∃ most:Nat,vs=[.ref a,.ref c0,.ref mv,.ref f,.int (most:Nat)]/\NKey H k0 a/\H c0=some (.tup (List.map V.int c))/\c.length=n/\Ok k0/\Way K H mv f L fr lsp cl vals step Ok moves n/\most<=500000/\moves.length<=16/\0<most /\
 ∀ p H',Same H H'->TellR P w H' p (za4 step moves most (most+1) [(k0,c)] [] [])->Q (.ref p) H'
end L2
namespace K36
open PySem L2 Own Bn
abbrev sClm:Stmt:=top 10
theorem ziA {H H':Hp}{x:Addr}(s:Same H H') (h:H' x=none):H x=none:=by
 cases e:H x with
 | none=>rfl
 | some o=>rw[s _ _ e]at h;cases h
theorem zmW {P:Program}{w:World}{H:Hp}{as:List Addr}{ls:List LvL}{a:Addr}{ys:List V}(h:LvsAt P w H as ls) (e:H a=some (.lst ys)):a∉as:=by
 induction h with
 | nil=>exact Jv
 | cons q _ ih =>
  intro z
  rcases Ju.mp z with rfl|y
  ·obtain⟨xs,e2,_⟩:=q
   rw[e]at e2;cases e2
  ·exact ih y
section
variable {P:Program}{w:World}{K:PySem.W.Frag}{mg:Str->Option Value}{base:Heap}
theorem scCl:FnScope ["first","counts","moves","led","most","level","levels","seen","faults"] ["first","counts","moves","led","most"] (zal sClm):=by trivial
theorem zg4 {f fN:Addr}{fd dN:FuncData}{L:Lam}{fr:List Str}{lsp:LSpc}(F:Fun K "climbed" "climbed" sClm f fd) (G:Mgs mg) (UN:Use P w K mg base "next_level" ["level","seen","moves","led"] 6 (zhI P w K L fr lsp) fN dN):FnOk P w K mg base CX0 7 f fd ["first","counts","moves","led","most"] (zfw P w K L fr lsp):=by
 refine F.ok scCl (λvs H Q E h=>?_) (λcdv A outer s H vs Q E hr h=>?_)
 ·obtain⟨N,c0,mv,f,k0,c,moves,cl,vals,step,Ok,n,most,rfl,_⟩:=h
  rfl
 obtain⟨N,c0,mv,f,k0,c,moves,cl,vals,step,Ok,n,most,rfl,ao,aF,cn,ax,W,mb,ay,mp,k⟩:=h
 refine⟨_,(@zad _ _ _ _ _ (@zav _ _ 5 _ _ _ _ scCl.nd rfl (.inl rfl) (zj4 hr.u3 (@qv _ 0 _ _ (by trivial)) (@qv _ 1 _ _ (by trivial))) (by rfl) (by trivial)) (@zad _ _ _ _ _ (@zav _ _ 6 _ _ _ _ scCl.nd rfl (.inl rfl) (@zaO _ _ _ _ zac) (by rfl) (by trivial)) (@zad _ _ _ _ _ (@zav _ _ 7 _ _ _ _ scCl.nd rfl (.inl rfl) zif (by rfl) (by trivial)) (@zad _ _ _ _ _ (@zgh _ _ _ _ _ _ Yw (pt_n (@qv _ 5 _ _ (by trivial)) (λ_=>rfl)) (@zad _ _ _ _ _ (@zbG _ _ _ _ (zlM hr.u3 (@qv _ 7 _ _ (by trivial)) (@qv _ 5 _ _ (by trivial)) ⟨rfl,rfl,rfl,rfl⟩) (by rfl)) (@zad _ _ _ _ _ (@zbc _ _ _ _ _ _ _ _ (@zaz _ _ _ _ _ _ _ _ zj9 (@zaq _ _ _ _ _ _ _ _ _ zju (by rfl) G.len Yn (@zaa _ _ _ _ _ (@qv _ 7 _ _ (by trivial)) zac (by rfl)) (by decide) (by decide) (by rfl) (by rfl)) (@qv _ 4 _ _ (by trivial)) (zaG _)) (@zai _ _ _ (@zat _ _ _ _ (@zaB _ _ _ _ _ (@zaa _ _ _ _ _ zcp (@zaa _ _ _ _ _ zie zac (by rfl)) (by rfl))))) zaI) (@zad _ _ _ _ _ (@zbG _ _ _ _ (@zek _ _ _ _ _ _ _ _ _ _ _ _ YB ZK ZL zbi (@qv _ 6 _ _ (by trivial)) (@zaa _ _ _ _ _ (@qv _ 5 _ _ (by trivial)) zac (by rfl)) (by rfl) (by rfl) (by rfl) (by rfl) (by rfl)) (by rfl)) (@zad _ _ _ _ _ (@zaV _ _ _ _ _ _ (@zam _ _ _ _ _ _ _ _ _ _ _ _ _ _ _ _ UN.ok hr (by rfl) UN.m UN.kp UN.b .nil zaD (@zaa _ _ _ _ _ (@qv _ 5 _ _ (by trivial)) (@zaa _ _ _ _ _ (@qv _ 7 _ _ (by trivial)) (@zaa _ _ _ _ _ (@qv _ 2 _ _ (by trivial)) (@zaa _ _ _ _ _ (@qv _ 3 _ _ (by trivial)) zac (by rfl)) (by rfl)) (by rfl)) (by rfl)) (by decide) (by rfl) (by rfl)) (@zaU _ _ _ _ _ _ rfl (@zak _ _ _ _ _ (@zaj _ _ 5 _ scCl.nd rfl (.inl rfl) (by trivial)) (@zak _ _ _ _ _ (@zaj _ _ 8 _ scCl.nd rfl (.inl rfl) (by trivial)) zaL (by rfl)) (by rfl)) (by rfl) (by rfl)) (by rfl) (by rfl) (by rfl)) (@zai _ _ _ (@zbc _ _ _ _ _ _ _ _ (@zc6 _ _ _ (@qv _ 8 _ _ (by trivial)) (λ_=>rfl)) (@zai _ _ _ (@zat _ _ _ _ (@zaB _ _ _ _ _ (@zaa _ _ _ _ _ zcp (@zaa _ _ _ _ _ (@zaq _ _ _ _ _ _ _ _ _ (zjv rfl true hr.units) (by rfl) G.min (by rfl) (@zaa _ _ _ _ _ (@qv _ 8 _ _ (by trivial)) zac (by rfl)) (by decide) (by decide) (by rfl) (by rfl)) zac (by rfl)) (by rfl))))) zaI))))))) (@zai _ _ _ (@zat _ _ _ _ (@zaB _ _ _ _ _ (@zaa _ _ _ _ _ zcp (@zaa _ _ _ _ _ (@qv _ 6 _ _ (by trivial)) zac (by rfl)) (by rfl))))))))),?_⟩
 refine λdl af=>⟨_,rfl,_,rfl,N,k0,rfl,zaf,ao.tups (Tups.of (zab af _)),?_⟩
 refine⟨by show 0<=sizeLine;decide,λd I=>λds r=>?_⟩
 have sA:Same H (L2.upd (L2.upd H dl (DN P w dl [])) dl (DN P w dl [(k0,N,.ref c0)])):=λb u e=>by
  rw[zah (zag e af),zah (zag e af)];exact e
 have ag:L2.upd (L2.upd H dl (DN P w dl [])) dl (DN P w dl [(k0,N,.ref c0)]) dl=some (DN P w dl [(k0,N,.ref c0)]):=zaf
 replace I:L2.upd (L2.upd H dl (DN P w dl [])) dl (DN P w dl [(k0,N,.ref c0)]) d=none:=I
 replace r:L2.upd (L2.upd (L2.upd H dl (DN P w dl [])) dl (DN P w dl [(k0,N,.ref c0)])) d (.lst []) ds=none:=r
 show tSeq _ _ _ _ (L2.upd (L2.upd (L2.upd (L2.upd H dl (DN P w dl [])) dl (DN P w dl [(k0,N,.ref c0)])) d (.lst [])) ds (DN P w ds []))
 generalize L2.upd (L2.upd H dl (DN P w dl [])) dl (DN P w dl [(k0,N,.ref c0)])=HA at *
 have sB:=zab I (.lst [])
 have sC:=zab r (DN P w ds [])
 have ad:L2.upd HA d (.lst []) d=some (.lst []):=zaf
 have aq:=sC _ _ ad
 have ar:=sC _ _ (sB _ _ ag)
 have ap:L2.upd (L2.upd HA d (.lst [])) ds (DN P w ds []) ds=some (DN P w ds []):=zaf
 have aC:d≠ds:=zag ad r
 have av:dl≠ds:=zag (sB _ _ ag) r
 have aB:H d=none:=ziA sA I
 have aG:H ds=none:=ziA (sA.trans sB) r
 have sX:Same H (L2.upd (L2.upd HA d (.lst [])) ds (DN P w ds [])):=(sA.trans sB).trans sC
 generalize L2.upd (L2.upd HA d (.lst [])) ds (DN P w ds [])=HX at *
 clear sA sB sC ad I r ag
 refine⟨λm σ i=>∃ dl xs ys level seen as ls v8,σ=[some (.ref N),some (.ref c0),some (.ref mv),some (.ref f),some (.int (most:Nat)),some (.ref dl),some (.ref d),some (.ref ds),v8]/\Same H i/\i dl=some (DN P w dl xs)/\LvE i xs level/\i ds=some (DN P w ds ys)/\LvE i ys seen/\dl≠ds/\i d=some (.lst (as.map V.ref))/\LvsAt P w i as ls/\ds∉as /\
  as.length<=seen.length/\LvNd level/\(∀ p∈level,getL seen p.1=none)/\(∀ p∈level,Ok p.1/\p.2.length=n)/\seen.length<=most/\(seen≠[]\/level.length=1)/\level.length<=16*most+1/\most+1<=m+seen.length/\za4 step moves most (most+1) [(k0,c)] [] []=za4 step moves most m level seen ls,⟨most+1,?_⟩,?_⟩
 ·exact⟨dl,_,[],[(k0,c)],[],[],[],_,rfl,sX,ar,⟨λx hx=>by rw[Je.mp hx];exact ao.tups (Tups.of sX),.cons ⟨rfl,c0,rfl,sX _ _ aF⟩ .nil⟩,ap,LvE.nil,av,aq,.nil,Jv,Jg _,JR.mpr ⟨Jv,Z3⟩,λp j=>rfl,λp j=>by rw[Je.mp j];exact⟨ax,cn⟩,JL _,.inr rfl,by show 1<=_;lia,Jg _,rfl⟩
 clear aq ar ap sX aC av
 rintro m σ i ⟨dl,xs,ys,level,seen,as,ls,v8,rfl,s2,T,v,D,C,U,S,M,aw,aJ,nd,new,Z,sm,one,aI,em,ec⟩
 have e0:(!xs.isEmpty) = !level.isEmpty:=by
  have:=v.len
  cases xs<;>cases level<;>first|rfl|cases this
 refine⟨_,rfl,dl,xs,rfl,.inl T,?_⟩
 rw[e0]
 obtain⟨m,rfl⟩:∃ m',m=m'+1:=⟨m-1,by lia⟩
 by_cases le:level=[]
 ·rw[le]
  refine iteF ?_
  refine⟨_,rfl,by show 2<=sizeLine;decide,λp j=>?_⟩
  have X:=zab j (.tup [.str "whole",.ref d])
  refine k p _ (s2.trans X) ?_
  rw[ec,le,zcE]
  exact⟨d,as,zaf,X _ _ S,M.keep X⟩
 rw[show (!level.isEmpty)=true by cases level;exact absurd rfl le;rfl]
 refine iteT ⟨_,λaH H' hN=>⟨m,Zy _,hN⟩,?_⟩
 have l2:=v.len
 have l3:=C.len
 refine⟨_,rfl,ds,rfl,⟨_,.inl D⟩,_,rfl,dl,ys,xs,rfl,U.symm,D,C.ks,⟨.inl T,v.ks⟩,by rw[JE];lia,?_,?_⟩
 ·rcases one with z|z
  ·exact .inl λy=>z (by rw[y]at l3;exact ZX.mp l3.symm)
  ·exact .inr (by rw[l2];exact z)
 rw[C.merge v nd new]
 have am:d≠ds:=zcQ S D λz=>by cases z
 have ab:L2.upd i ds (DN P w ds (ys++xs)) ds=some (DN P w ds (ys++xs)):=zaf
 have t3:Tups i (L2.upd i ds (DN P w ds (ys++xs))):=λb zs e=>by rw[zah (zcQ e D λz=>by cases z)];exact e
 have ah:L2.upd i ds (DN P w ds (ys++xs)) dl=some (DN P w dl xs):=by rw[zah U];exact T
 have B:L2.upd i ds (DN P w ds (ys++xs)) d=some (.lst (as.map V.ref)):=by rw[zah am];exact S
 have X:Same H (L2.upd i ds (DN P w ds (ys++xs))):=λb u e=>by rw[zah (zag e aG)];exact s2 b u e
 have J:LvsAt P w (L2.upd i ds (DN P w ds (ys++xs))) as ls:=M.but t3 λa ha o e=>by rw[zah (λ(z:a=ds)=>aw (z ▸ ha))];exact e
 have R:=v.tups t3
 have ak:=(C.tups t3).app R
 show tSeq _ _ _ _ (L2.upd i ds (DN P w ds (ys++xs)))
 generalize L2.upd i ds (DN P w ds (ys++xs))=O at *
 clear D S T M v C t3 s2
 have yl:(ys++xs).length=seen.length+level.length:=by rw[Jb];lia
 refine⟨_,rfl,ds,_,rfl,.inl ab,_,rfl,_,_,rfl,rfl,_,rfl,ite2 (λz=>?_) (λz=>?_)⟩
 ·have z1:most<seen.length+level.length:=by
   have:=YF z
   rw[yl]at this;lia
  refine⟨by show 2<=sizeLine;decide,λp j=>?_⟩
  have s4:=zab j (.tup [.str "open",.non])
  refine k p _ (X.trans s4) ?_
  rw[ec,zdC le z1]
  exact zaf
 have z1:¬ most<seen.length+level.length:=λy=>z (JB (by rw[yl];lia))
 have lp:0<level.length:=Wn.mpr le
 refine⟨_,rfl,.inl ⟨rfl,_,SqL.of B⟩,_,rfl,d,_,_,rfl,rfl,B,by rw[Jh,JE];lia,?_⟩
 have aE:L2.upd O d (.lst (as.map V.ref++[.ref dl])) d=some (.lst ((as++[dl]).map V.ref)):=by rw[Y2];exact zaf
 have q4:∀ {b:Addr}{u:HO},O b=some u->b≠d->L2.upd O d (.lst (as.map V.ref++[.ref dl])) b=some u:=λe ne=>by rw[zah ne];exact e
 have t4:Tups O (L2.upd O d (.lst (as.map V.ref++[.ref dl]))):=λb zs e=>q4 e (zcQ e B λz=>by cases z)
 have au:=q4 ah (zcQ ah B λz=>by cases z)
 have aa:=q4 ab am.symm
 have s4:Same H (L2.upd O d (.lst (as.map V.ref++[.ref dl]))):=λb u e=>q4 (X b u e) (zag e aB)
 have ai:LvsAt P w (L2.upd O d (.lst (as.map V.ref++[.ref dl]))) (as++[dl]) (ls++[level]):=Paired.snoc (J.but t4 λa ha o e=>by
  by_cases y:a=d
  ·exact absurd (y ▸ ha) (zmW J B)
  ·exact q4 e y) ⟨xs,au,R.tups t4⟩
 have az:=R.tups t4
 have aj:=ak.tups t4
 show tSeq _ _ _ _ (L2.upd O d (.lst (as.map V.ref++[.ref dl])))
 generalize L2.upd O d (.lst (as.map V.ref++[.ref dl]))=H4 at *
 clear ab B ah J R ak t4 X q4
 have W4:=W.keep (Tups.of s4) λb o u e=>s4 b _ e
 have nw:=zdn (step:=step) (seen:=seen++level) (moves:=moves) (Ok:=Ok) level λp j m hm t e=>W.ok _ _ _ (Z p j).1 hm e
 have na:=zgx (step:=step) (seen:=seen++level) (moves:=moves) (n:=n) level λp j=>(Z p j).2
 have few:level.length*moves.length<=level.length*16:=Nat.mul_le_mul_left _ ay
 refine⟨_,rfl,_,rfl,_,rfl,_,rfl,dl,ds,mv,f,xs,ys++xs,level,seen++level,moves,cl,vals,step,Ok,n,rfl,au,az,aa,aj,U,W4,Z,by lia,λp o l zs fs H5 s5 ho j aD aA ae Y=>?_⟩
 refine⟨p,_,rfl,SqT.of j,rfl,_,_,rfl,_,_,rfl,rfl,?_⟩
 have fl:=YX Y
 by_cases fe:(zbe step (seen++level) moves level).fl=[]
 ·have f0:fs=[]:=by rw[fe]at fl;exact ZX.mp fl
  refine⟨_,rfl,false,.inl ⟨_,SqL.of ae,by rw[f0];rfl⟩,iteF ?_⟩
  refine⟨o,zs,ys++xs,_,seen++level,as++[dl],ls++[level],_,rfl,s4.trans s5,aD,aA,s5 _ _ aa,aj.keep s5,λz=>?_,s5 _ _ aE,ai.keep s5,?_,?_,nw.nd,nw.new,λp j=>⟨nw.ok p j,na.on p j⟩,by rw[Jb];lia,.inl ?_,?_,by rw[Jb];lia,?_⟩
  ·rw[z,aa]at ho;cases ho
  ·intro z
   rcases Jz.mp z with y|y
   ·exact aw y
   ·exact U (Je.mp y).symm
  ·rw[Jb,Jb];show as.length+1<=_;lia
  ·intro y
   have:=JS List.length y
   rw[Jb,YH]at this
   lia
  ·have:=na.few;lia
  ·rw[ec,zda le z1 fe]
 ·have fp:0<(fs.map V.ref).length:=by
   rw[Jh,fl];exact Wn.mpr fe
  refine⟨_,rfl,true,.inl ⟨_,SqL.of ae,?_⟩,iteT ?_⟩
  ·cases fs with
   | nil=>exact absurd fp (by simp)
   | cons a b=>rfl
  obtain⟨g,g1,g2⟩:=zkV Y fe
  refine⟨_,rfl,l,_,1,cmpH H5,rfl,SqL.of ae,fp,by decide,zlE Y na.fl,?_⟩
  rw[g1]
  refine⟨by show 2<=sizeLine;decide,λq hq=>?_⟩
  have s6:=zab hq (.tup [.str "breaks",.ref g])
  refine k q _ ((s4.trans s5).trans s6) ?_
  rw[ec,zcF le z1 fe]
  exact⟨g,zaf,s6 _ _ g2⟩
end
end K36
namespace L2
open PySem PySem.Spec PyProof.Rows
abbrev e2 (elt tg iter tg1 iter1:Expr) (ifs:List Expr) (scope:Scope) (pos:Pos):Expr:=.ListComp elt [⟨tg,iter,[],0⟩,⟨tg1,iter1,ifs,0⟩] scope pos
theorem zhx (elt tg iter tg1 iter1:Expr) (ifs:List Expr) (scope:Scope) (pos:Pos) (it acc:Value) (env:Env) :
  compTurn (e2 elt tg iter tg1 iter1 ifs scope pos) 0 it acc env=(standAt iter.pos >>= λ_=>pyNext it >>= λr=>match r with
   | none=>pure (.done .next)
   | some v=>letOwnedTupleGo tg it v >>= λ_=>assign tg env v >>= λ_ =>
    (eval iter1 env >>= λx=>standAt iter1.pos >>= λ_=>foldedSetIterable iter1 env x >>= λx=>holding [x] (pyIter x) >>= λi1=>runOwn (.compStart (e2 elt tg iter tg1 iter1 ifs scope pos) 1 i1 acc env) env >>= λ_ =>
     again (.compLoop (e2 elt tg iter tg1 iter1 ifs scope pos) 0 it acc env))):=by rfl
theorem zhw (elt tg iter tg1 iter1:Expr) (scope:Scope) (pos:Pos) (it acc:Value) (env:Env) :
  compTurn (e2 elt tg iter tg1 iter1 [] scope pos) 1 it acc env=(standAt iter1.pos >>= λ_=>pyNext it >>= λr=>match r with
   | none=>pure (.done .next)
   | some v=>letOwnedTupleGo tg1 it v >>= λ_=>assign tg1 env v >>= λ_ =>
    ((eval elt env >>= λx=>call (.builtin "list.append") [acc,x] >>= λ_=>pure ()) >>= λ_ =>
     again (.compLoop (e2 elt tg iter tg1 iter1 [] scope pos) 1 it acc env))):=by rfl
theorem zgM (elt tg iter tg1 iter1 c:Expr) (scope:Scope) (pos:Pos) (it acc:Value) (env:Env) :
  compTurn (e2 elt tg iter tg1 iter1 [c] scope pos) 1 it acc env=(standAt iter1.pos >>= λ_=>pyNext it >>= λr=>match r with
   | none=>pure (.done .next)
   | some v=>letOwnedTupleGo tg1 it v >>= λ_=>assign tg1 env v >>= λ_=>(forIn [c] true λc r=>if r=true then (isTrue c env (eval c env) >>= λok=>pure (ForInStep.yield ok)) else pure (ForInStep.yield r)) >>= λok =>
    if ok=true then
    ((eval elt env >>= λx=>call (.builtin "list.append") [acc,x] >>= λ_=>pure ()) >>= λ_ =>
     again (.compLoop (e2 elt tg iter tg1 iter1 [c] scope pos) 1 it acc env)) else again (.compLoop (e2 elt tg iter tg1 iter1 [c] scope pos) 1 it acc env)):=by rfl
section
variable {prog:Program}{w:World}{A:Around}{R:Result->Shared->Prop}{s:Shared}{elt tg iter tg1 iter1:Expr}{scope:Scope}{pos:Pos}{it acc:Value}{env:Env}
theorem zfY {ifs:List Expr}
  (b:codeAny (model prog w) A (.compLoop (e2 elt tg iter tg1 iter1 ifs scope pos) 1 it acc env) R s)
  (h:wpAny (model prog w) A (pyIter it) (λi2 z=>codeAny (model prog w) A (.compLoop (e2 elt tg iter tg1 iter1 ifs scope pos) 1 i2 acc env) R z) NoX s) :
  codeAny (model prog w) A (.compStart (e2 elt tg iter tg1 iter1 ifs scope pos) 1 it acc env) R s:=by
 refine codeAny_of_tree ?_
 show wpAny _ A ((compStart (e2 elt tg iter tg1 iter1 ifs scope pos) 1 it acc env).onRaise (λx=>do noteFrame x env;standAt theWindowsPlace)) _ _ s
 refine wpAny_notedAt ?_
 unfold compStart
 refine(show wpAny _ _ (ask >>= _) _ _ s from J0 (wpAny_askSetting (wpAny_ite ?_)))
 split
 ·first
   | exact J0 (Ja (Ja ⟨rfl,b⟩))
   | exact Ja ⟨rfl,b⟩
 ·apply J0;refine YY ?_
  first
   | exact J0 (Za (J0 (JU h (λa s' h'=>Ja ⟨rfl,h'⟩) λ_ _ z=>z.elim)))
   | (show wpAny _ _ (standAt iter1.pos >>= _) _ _ s;exact J0 (Za (J0 (JU h (λa s' h'=>Ja ⟨rfl,h'⟩) λ_ _ z=>z.elim))))
theorem zht {o:Option Expr}(J:Nat->Shared->Prop)
  (turn:∀ n s,J n s->Go (model prog w) A tg1 elt o it acc env R (λz=>∃ m,m<n/\J m z) s) (n:Nat) (h:J n s) :
  codeAny (model prog w) A (.compLoop (.ListComp elt [⟨tg,iter,[],0⟩,⟨tg1,iter1,o.toList,0⟩] scope pos) 1 it acc env) R s:=by
 cases o with
 | none =>
  refine codeAny_loop rfl J (λn s j=>?_) n h
  show wpAny _ A ((compTurn (e2 elt tg iter tg1 iter1 [] scope pos) 1 it acc env).onRaise (λx=>do noteFrame x env;theTreesLotGoes x)) _ _ s
  refine wpAny_noted ?_
  rw[zhw]
  refine J0 (Za (J0 (JU (turn n s j) (λr a h1=>?_) λ_ _ z=>z.elim)))
  cases r with
  | none=>exact Ja h1
  | some v =>
   refine J0 (JU h1 (λ_ b p=>?_) λ_ _ z=>z.elim)
   refine J0 (JU p (λ_ c l=>?_) λ_ _ z=>z.elim)
   have g:wpAny (model prog w) A (eval elt env) (λx e=>wpAny (model prog w) A (call (.builtin "list.append") [acc,x]) (λ_ f=>∃ m,m<n/\J m f) NoX e) NoX c:=l
   exact J0 (J0 (JU g (λx d i=>J0 (JU i (λ_ e k=>Ja (Ja ⟨rfl,k⟩)) λ_ _ z=>z.elim)) λ_ _ z=>z.elim))
 | some t =>
  refine codeAny_loop rfl J (λn s j=>?_) n h
  show wpAny _ A ((compTurn (e2 elt tg iter tg1 iter1 [t] scope pos) 1 it acc env).onRaise (λx=>do noteFrame x env;theTreesLotGoes x)) _ _ s
  refine wpAny_noted ?_
  rw[zgM]
  refine J0 (Za (J0 (JU (turn n s j) (λr a h1=>?_) λ_ _ z=>z.elim)))
  cases r with
  | none=>exact Ja h1
  | some v =>
   refine J0 (JU h1 (λ_ b p=>?_) λ_ _ z=>z.elim)
   refine J0 (JU p (λ_ c l=>?_) λ_ _ z=>z.elim)
   have g:wpAny (model prog w) A (isTrue t env (eval t env)) (λyes d=>if yes=true then wpAny (model prog w) A (eval elt env) (λx e=>wpAny (model prog w) A (call (.builtin "list.append") [acc,x]) (λ_ f=>∃ m,m<n/\J m f) NoX e) NoX d else ∃ m,m<n/\J m d) NoX c:=l
   refine J0 (wpAny_tests_one (JU g (λyes d i=>?_) λ_ _ z=>z.elim))
   cases yes with
   | false=>exact Ja ⟨rfl,i⟩
   | true=>exact J0 (J0 (JU i (λx e k=>J0 (JU k (λ_ f q=>Ja (Ja ⟨rfl,q⟩)) λ_ _ z=>z.elim)) λ_ _ z=>z.elim))
theorem zhu {ifs:List Expr}(J:Nat->Shared->Prop)
  (turn:∀ n s,J n s->wpAny (model prog w) A (pyNext it) (λr a=>match r with
   | none=>R (.ok .next) a
   | some v=>wpAny (model prog w) A (letOwnedTupleGo tg it v) (λ_ b=>wpAny (model prog w) A (assign tg env v) (λ_ c=>wpAny (model prog w) A (eval iter1 env) (λx d=>wpAny (model prog w) A (pyIter x) (λi1 e =>
     codeAny (model prog w) A (.compStart (e2 elt tg iter tg1 iter1 ifs scope pos) 1 i1 acc env) (λr f=>match r with|.ok _=>∃ m,m<n/\J m f|.error _=>False) e) NoX d) NoX c) NoX b) NoX a) NoX s) (n:Nat) (h:J n s)
  (i:∀ x,foldedSetIterable iter1 env x=pure x) :
  codeAny (model prog w) A (.compLoop (e2 elt tg iter tg1 iter1 ifs scope pos) 0 it acc env) R s:=by
 refine codeAny_loop rfl J (λn s j=>?_) n h
 show wpAny _ A ((compTurn (e2 elt tg iter tg1 iter1 ifs scope pos) 0 it acc env).onRaise (λx=>do noteFrame x env;theTreesLotGoes x)) _ _ s
 refine wpAny_noted ?_
 rw[zhx]
 refine J0 (Za (J0 (JU (turn n s j) (λr a h1=>?_) λ_ _ z=>z.elim)))
 cases r with
 | none=>exact Ja h1
 | some v =>
  refine J0 (JU h1 (λ_ b p=>?_) λ_ _ z=>z.elim)
  refine J0 (JU p (λ_ c o=>?_) λ_ _ z=>z.elim)
  refine J0 (JU o (λx d l=>?_) λ_ _ z=>z.elim)
  refine J0 (Za (J0 (wpAny_of_eq (i x) (J0 (Yp (JU l (λi1 e k=>?_) λ_ _ z=>z.elim))))))
  refine J0 (wpAny_runOwn (codeAny_mono k (λr f g=>?_)))
  cases r with
  | ok fl=>exact Ja ⟨rfl,g⟩
  | error x=>exact g.elim
end
def LCW1 (J:It) (g:TG) (tt:TT) (te:TE) (l:Addr) (Q:List V->St->Hp->Prop) (W:Nat->Nat->List V->St->Hp->Prop):Prop :=
 ∀ i m acc c H',W i m acc c H'->H' l=some (.lst acc) /\
  ((J.stop i H'/\Q acc c H')\/(J.go i H'/\∀ x h,J.yld i H' x h->g x c h λa j=>tt a j λb f =>
   if b=true then te a f λy e=>e l=some (.lst acc)/\acc.length<sizeLine/\∃ d,d<m/\W (i+1) d (acc++[y]) a (upd e l (.lst (acc++[y])))
   else ∃ d,d<m/\W (i+1) d acc a f))
def tLC2 (cap:List (Option Nat)) (j:TI) (g:TG) (c:TI) (n:TG) (tt:TT) (te:TE):TE:=λσ H Q=>j σ H λJ H1=>∀ l,H1 l=none ->
 ∃ W:Nat->Nat->List V->St->Hp->Prop,(∃ m,W 0 m [] (capσ cap σ) (upd H1 l (.lst []))) /\
  ∀ i m acc b H',W i m acc b H'->H' l=some (.lst acc)/\((J.stop i H'/\Q (.ref l) H')\/(J.go i H'/\∀ x f,J.yld i H' x f->g x b f λa q=>c a q λo p =>
   ∃ e:Nat->Nat->List V->St->Hp->Prop,(∃ k,e 0 k acc a p)/\LCW1 o n tt te l (λac h G=>∃ d,d<m/\W (i+1) d ac h G) e))
theorem zkA {X:Cx}{elt tg iter tg1 iter1:Expr}{o:Option Expr}{scope:Scope}{pos ak:Pos}{wi aq:TI}{g g1:TG}{tt:TT}{te:TE}{N':List Str}{cap:List (Option Nat)}{use:Option (Value->Sem Unit)}{Q0:Value->Shared->Prop}
  (hc:X.calm=true) (hi:PI X tg iter wi) (R:CapOk X.N N' X.env.scope scope cap)
  (hg:∀ C s₀ H₀ fp pins,PG (zaX X N' scope C s₀ H₀ fp pins) tg g)
  (aI:∀ C s₀ H₀ fp pins,PI (zaX X N' scope C s₀ H₀ fp pins) tg1 iter1 aq)
  (aJ:∀ C s₀ H₀ fp pins,PG (zaX X N' scope C s₀ H₀ fp pins) tg1 g1)
  (ht:∀ C s₀ H₀ fp pins,PTo (zaX X N' scope C s₀ H₀ fp pins) o tt)
  (he:∀ C s₀ H₀ fp pins,PE (zaX X N' scope C s₀ H₀ fp pins) elt te)
  (hs:∀ x,foldedSetIterable iter X.env x=pure x) (aF:∀ C x,foldedSetIterable iter1 (compEnvC scope (clOf X.env.cells scope.names []) C X.env) x=pure x) {pins:List (Addr × Obj)}{s:Shared}{σ:St}{H:Hp}{Q:VK}(I:Inv X pins σ H s) (h:tLC2 cap wi g aq g1 tt te σ H Q)
  (fin:∀ (l C:Addr) (O:Hp) (s5:Shared) (m:Str->Option Value),Inv X pins σ O s5->Q (.ref l) O->s5.heap.Ns C m->FpOk X pins O C->compPost (model X.prog X.w) X.A X.xe use Q0 (.ref l) C (.ok .next) s5) :
  wpAny (model X.prog X.w) X.A (comprehension (.ListComp elt [⟨tg,iter,[],0⟩,⟨tg1,iter1,o.toList,0⟩] scope pos) scope X.env ak (newList []) false (eval iter X.env) use) Q0 X.xe s:=by
 have F:∀ y∈scope.names,y.2=.free->∃ c,X.env.cells.lookup y.1=some c:=λy hy hf=>I.ok.has y.1 (R.free y hy hf)
 refine wpAny_comprehension_free (use:=use) rfl hs (zdZ F) R.kind R.names (thn (hi pins s σ H _ I h) λv s1 h1=>thn h1 λa0 s2 h2=>?_)
 obtain⟨it,fp,tn,J,H2,e,I2,T,st2,f2,body⟩:=h2
 subst e
 have ao:H2 s2.heap.objs.size=none:=I2.hok.fresh (Jg _)
 obtain⟨W,⟨m0,w0⟩,turn⟩:=body s2.heap.objs.size ao
 have t:Inv X pins σ (upd H2 s2.heap.objs.size (.lst [])) { s2 with heap:=s2.heap.push { cls:=.type "list",data:=.seq ([]:List Value).toArray },toks:=s2.toks }:=I2.lnew (its:=[]) (t':=s2.toks) .nil (JL _)
 refine JN (wpAny_newFunctionEnv R.nocell (by intro y hy;simp at hy) (λh₁ E D=>?_) R.kind)
 dsimp only at E D ⊢
 generalize hl:s2.heap.objs.size=l at *
 generalize hP:s2.heap.push { cls:=.type "list",dict:=none,data:=.seq ([]:List Value).toArray }=P2 at *
 generalize aN:upd H2 l (.lst [])=H3 at *
 have old:∀ b o,P2.get? b=some o->h₁.get? b=some o:=λb o e=>D.extBut b o (JF (Jq e)) (J8 _ e)
 have am:∀ b o,s2.heap.get? b=some o->P2.get? b=some o:=λb o e=>hP ▸ J8 _ e
 have aA:∀ b∈fp,b<l:=λb hb=>by
  obtain⟨o,e,_⟩:=T.obj _ _ st2 b hb
  rw[<- hl];exact Jq e
 have aP:∀ b∈fp,H3 b=none:=λb hb=>by
  rw[<- aN,zah (JF (aA b hb))];exact(f2 b hb).1
 have aM:P2.objs.size=l+1:=by rw[<- hP,YN,hl]
 have w:∀ x c,(clOf X.env.cells scope.names []).lookup x=some c->X.env.cells.lookup x=some c:=λx c e=>zdb _ _ x c F (λ_ _ z=>by simp at z) e
 generalize ax:({ s2 with heap:=P2,toks:=s2.toks }:Shared)=s3 at *
 have f:s3.heap=P2:=by rw[<- ax]
 let Y:=zaX X N' scope P2.objs.size s3 H3 fp pins
 have B:Y.Ok:=by
  refine⟨t.ok.mod,R.kind,t.ok.glob,t.ok.blt,by show s3.heap.objs.size<=P2.objs.size;rw[f];exact Jg _,λx y c e1 e2=>t.ok.inj x y c (w x c e1) (w y c e2),λx hx=>?_,λx c hx=>absurd (show false=true from hx) Jp,t.ok.hd,t.ok.frames,.inl rfl,λb hb=>⟨?_,λx c e=>?_⟩,t.bs,
   JW t.ok.bsz t.sz,λb o e hb=>?_,λb hb hz=>?_,t.stack,t.stkFree⟩
  ·have aE:scope.names.lookup x=some .free:=by
    rcases hx with hx|hx
    ·rcases zbn hx with z|z
     ·exact absurd rfl (R.nocell _ (zcU z))
     ·exact z.2
    ·rcases zbn hx with z|z
     ·exact z
     ·exact z.2
   exact zb2 _ _ x aE
  ·exact JF (by show b<P2.objs.size;rw[aM];exact Zn (aA b hb))
  ·exact(f2 b hb).2.2.2.2.1 x c (w x c e)
  ·rcases (f2 b hb).2.2.2.1 with z|z
   ·exact t.ok.noex b o e z
   ·exact absurd (JM (Jq e) (JW t.ok.bsz z)) (YL _)
  ·rcases Ju.mp (t.stkSub b hz) with z|z
   ·exact(f2 b hb).2.1 z
   ·exact(f2 b hb).2.2.1 z
 have aL:Inv Y [] (capσ cap σ) H3 { s2 with heap:=h₁,toks:=s2.toks }:=by
  refine⟨B,by show s2.os=s3.os;rw[<- ax],I2.bare,by show Un _ _ _ _ s3.heap h₁;rw[f];exact Un.kept old,⟨_,E,λj x v e1 e2 e3=>?_⟩,λx c e=>?_,?_,λx c e=>t.freeC x c (w x c e),λp hp=>?_,λb o e=>?_,?_⟩
  ·have aS:N'[j]?=some x:=e1
   unfold capσ at e2
   rw[JP]at e2
   cases ec:cap[j]? with
   | none=>rw[ec]at e2;cases e2
   | some oc =>
    rw[ec]at e2
    cases oc with
    | none=>cases e2
    | some i =>
     have aQ:σ[i]?=some (some v):=by
      cases ei:σ[i]? with
      | none=>simp[ei]at e2
      | some v' =>
       simp[ei]at e2
       rw[e2]
     have hz:(x,some i)∈N'.zip cap:=by
      refine JT (i:=j) ?_
      rw[Wx]
      exact⟨aS,ec⟩
     obtain⟨hN,hf,hk⟩:=R.cap _ hz i rfl
     obtain⟨m,hn,aG⟩:=t.loc
     obtain⟨u,r,lk⟩:=aG i x v hN aQ (by rcases hk with z|z;exact .inr (.inl z);exact .inr (.inr z))
     refine⟨u,r,.inr ⟨?_,?_⟩⟩
     ·exact zcX hf
     ·rcases lk with ⟨z,_⟩|⟨_,c,aK,ae⟩
      ·have z':X.env.scope.names.lookup x=some .local:=z
       rcases hk with q|q
       ·rw[q]at z';cases z'
       ·rw[q]at z';cases z'
      ·obtain⟨c',ay⟩:=zb2 (cells:=X.env.cells) scope.names [] x hf
       have:=w x c' ay
       rw[aK]at this;cases this
       obtain⟨ob,e,d⟩:=ae
       rw[f]at e
       exact⟨c,ay,ob,old c ob e,d⟩
  ·obtain⟨v,ob,e',d⟩:=t.cell x c (w x c e)
   rw[f]at e'
   exact⟨v,ob,old c ob e',d⟩
  ·refine t.hok.fresh ?_
   rw[f];exact Jg _
  ·have ai:p∈X.pn++pins:=(Jz.mp hp).elim (λz=>z) (λz=>nomatch z)
   obtain⟨e,n,ne,nf,d⟩:=t.pin p ai
   rw[f]at e
   refine⟨old _ _ e,n,JF (Jq e),λz=>?_,d⟩
   rcases Ju.mp (t.stkSub _ z) with q|q
   ·exact ne q
   ·exact nf q
  ·have:=t.hok.kept (h':=h₁) (λb u q=>old b u (by rw[<- f];exact q))
   exact this b o e
  ·show (cap.map _).length=N'.length
   rw[Jh,R.len]
 have L:∀ {H':Hp},(∀ b∈fp,H' b=none)->∀ b∈fp,FpOk Y [] H' b:=λ{H'} hn b hb=>by
  refine⟨hn b hb,(B.exf b hb).1,B.exfs b hb,.inl hb,(B.exf b hb).2,λp hp=>?_⟩
  have ai:p∈X.pn++pins:=(Jz.mp hp).elim (λz=>z) (λz=>nomatch z)
  exact(f2 b hb).2.2.2.2.2 p ai
 have aw:tn 0 h₁:=T.keep 0 _ _ st2 λb hb o e=>old b o (am b o e)
 have loop:codeAny (model X.prog X.w) X.A (.compLoop (.ListComp elt [⟨tg,iter,[],0⟩,⟨tg1,iter1,o.toList,0⟩] scope pos) 0 (.ref it) (.ref l) Y.env) (compPost (model X.prog X.w) X.A X.xe use Q0 (.ref l) P2.objs.size) { s2 with heap:=h₁,toks:=s2.toks }:=by
  refine zhu (λn s'=>∃ i acc a H',Inv Y [] a H' s'/\tn i s'.heap/\(∀ b∈fp,H' b=none)/\W i n acc a H') ?_ m0 ⟨0,[],_,H3,aL,aw,aP,w0⟩ (aF _)
  rintro n s4 ⟨i,acc,af,O,I4,av,az,w4⟩
  obtain⟨aX,q4⟩:=turn i n acc af O w4
  rcases q4 with ⟨stop,qn⟩|⟨go,step⟩
  ·refine thn (T.done Y rfl rfl rfl hc i [] s4 af O Y.xe I4 (L az) av stop) λr s5 ⟨hr,I5⟩=>?_
   subst hr
   obtain⟨m,hn,_⟩:=id I5.loc
   have un:Un (frs X.stack) fp H3 O s3.heap s5.heap:=I5.base
   have aB:s3.heap.objs.size<=P2.objs.size:=by rw[f];exact Jg _
   have IX:Inv X pins σ O s5:=t.call' (ch:=fp) I5.os un I5.hok I5.bare λb hb=>⟨(f2 b hb).2.2.2.1,(f2 b hb).2.1,(f2 b hb).2.2.2.2.1,(f2 b hb).2.2.2.2.2⟩
   exact fin l P2.objs.size O s5 m IX qn hn (t.fpOk aB I5.free)
  ·refine thn (T.item Y rfl rfl rfl hc i [] s4 af O Y.xe I4 (L az) av go) λr s5 ⟨u,hr,h5⟩=>?_
   subst hr
   refine thn h5 λ_ s6 ⟨x,H6,I6,r6,y6,ah,aO⟩=>?_
   have aV:=I6.pinned (L aO) (T.obj _ _ ah)
   refine thn (hg _ _ _ _ _ _ s6 af H6 x u _ aV r6 (step x H6 y6)) λ_ s7 ⟨ap,H7,I7,q7⟩=>?_
   have again:∀ {Z:St}{H9:Hp}{s9:Shared}{M:List V},Inv Y ([]++zcY fp s6.heap) Z H9 s9->(∃ P,P<n/\W (i+1) P M Z H9)->∃ m,m<n/\∃ i acc a H',Inv Y [] a H' s9/\tn i s9.heap/\(∀ b∈fp,H' b=none)/\W i m acc a H':=λ{Z H9 s9 M} I9 ⟨P,hm,w9⟩=>by
    refine⟨P,hm,i+1,M,Z,H9,I9.unpinned,T.keep _ _ _ ah λb hb o e=>(I9.pin (b,o) (Jy _ (Jy _ (za1 hb e)))).1,λb hb=>?_,w9⟩
    obtain⟨o,e,d⟩:=T.obj _ _ ah b hb
    exact(I9.pin (b,o) (Jy _ (Jy _ (za1 hb e)))).2.1
   generalize ([]++zcY fp s6.heap:List (Addr × Obj))=pz at again I7
   refine thn (aI _ _ _ _ _ _ s7 ap H7 _ I7 q7) λv1 s8 h8=>thn h8 λaW s9 h9=>?_
   obtain⟨aC,K,ar,J1,H9,e1,I9,T1,au,f9,W1,⟨m1,w1⟩,aa⟩:=h9
   subst e1
   have A:∀ {H':Hp},(∀ b∈K,H' b=none)->∀ b∈K,FpOk Y pz H' b:=λhn b hb=>⟨hn b hb,(f9 b hb).2⟩
   have N:codeAny (model X.prog X.w) X.A (.compLoop (.ListComp elt [⟨tg,iter,[],0⟩,⟨tg1,iter1,o.toList,0⟩] scope pos) 1 (.ref aC) (.ref l) Y.env) (λr z=>match r with|.ok _=>∃ m,m<n/\∃ i acc a H',Inv Y [] a H' z/\tn i z.heap/\(∀ b∈fp,H' b=none)/\W i m acc a H'|.error _=>False) s9:=by
    refine zht (λn s'=>∃ i acc a H',Inv Y pz a H' s'/\ar i s'.heap/\(∀ b∈K,H' b=none)/\W1 i n acc a H') ?_ m1 ⟨0,acc,ap,H9,I9,au,λb hb=>(f9 b hb).1,w1⟩
    rintro k t4 ⟨j,ac,U,G4,K4,u4,v4,z4⟩
    obtain⟨aY,p4⟩:=aa j k ac U G4 z4
    rcases p4 with ⟨ab,pn⟩|⟨go1,ad⟩
    ·refine thn (T1.done Y rfl rfl rfl hc j pz t4 U G4 Y.xe K4 (A v4) u4 ab) λr t5 ⟨hr,K5⟩=>?_
     subst hr
     exact again K5 pn
    ·refine thn (T1.item Y rfl rfl rfl hc j pz t4 U G4 Y.xe K4 (A v4) u4 go1) λr t5 ⟨u,hr,h5⟩=>?_
     subst hr
     refine thn h5 λ_ t6 ⟨y,G6,K6,e6,d6,u6,v6⟩=>?_
     have aT:=K6.pinned (A v6) (T1.obj _ _ u6)
     refine thn (aJ _ _ _ _ _ _ t6 U G6 y u _ aT e6 (ad y G6 d6)) λ_ t7 ⟨ag,G7,K7,p7⟩=>?_
     refine zf9 (ht _ _ _ _ _ _ t7 ag G7 _ K7 p7) λb t8 ⟨G8,K8,p8⟩=>?_
     have G:∀ {S:St}{G9:Hp}{t9:Shared}{aj:List V},Inv Y (pz++zcY K t6.heap) S G9 t9->(∃ P,P<k/\W1 (j+1) P aj S G9)->∃ m,m<k/\∃ i acc a H',Inv Y pz a H' t9/\ar i t9.heap/\(∀ b∈K,H' b=none)/\W1 i m acc a H':=λ{S G9 t9 aj} K9 ⟨P,hm,z9⟩=>by
      refine⟨P,hm,j+1,aj,S,G9,K9.unpinned,T1.keep _ _ _ u6 λb hb o e=>(K9.pin (b,o) (Jy _ (Jy _ (za1 hb e)))).1,λb hb=>?_,z9⟩
      obtain⟨o,e,d⟩:=T1.obj _ _ u6 b hb
      exact(K9.pin (b,o) (Jy _ (Jy _ (za1 hb e)))).2.1
     cases b with
     | false =>
      rw[Jc Jp]at p8 ⊢
      exact G K8 p8
     | true =>
      rw[Jf rfl]at p8 ⊢
      refine thn (he _ _ _ _ _ _ t8 ag G8 _ K8 p8) λyv t9 ⟨yy,G9,K9,e9,aH,aD,p9⟩=>?_
      refine thn (zbi (X:=Y) _ t9 ag G9 (.ref l) [yy] (.ref l) [yv] (λ_ H'=>H'=upd G9 l (.lst (ac++[yy]))) K9 rfl (.cons e9 .nil) ⟨l,ac,yy,rfl,rfl,aH,aD,rfl⟩) λ_ aZ ⟨_,a3,aU,_,aR⟩=>?_
      subst aR
      exact G aU p9
   exact zfY N (T1.self X.A 0 _ _ _ au N)
 exact codeAny_compStart_list loop (T.self X.A 0 _ _ _ aw loop)
theorem zmJ {X:Cx}{elt tg iter tg1 iter1:Expr}{o:Option Expr}{scope:Scope}{pos:Pos}{e a:TI}{g i:TG}{tt:TT}{te:TE}{N':List Str}{cap:List (Option Nat)}
  (t:X.calm=true) (hi:PI X tg iter e) (u:CapOk X.N N' X.env.scope scope cap)
  (p:∀ C s₀ H₀ fp pins,PG (zaX X N' scope C s₀ H₀ fp pins) tg g)
  (c:∀ C s₀ H₀ fp pins,PI (zaX X N' scope C s₀ H₀ fp pins) tg1 iter1 a)
  (d:∀ C s₀ H₀ fp pins,PG (zaX X N' scope C s₀ H₀ fp pins) tg1 i)
  (j:∀ C s₀ H₀ fp pins,PTo (zaX X N' scope C s₀ H₀ fp pins) o tt)
  (r:∀ C s₀ H₀ fp pins,PE (zaX X N' scope C s₀ H₀ fp pins) elt te)
  (k:∀ x,foldedSetIterable iter X.env x=pure x:=by intro _;rfl)
  (b:∀ C x,foldedSetIterable iter1 (compEnvC scope (clOf X.env.cells scope.names []) C X.env) x=pure x:=by intro _ _;rfl) :
  PE X (.ListComp elt [⟨tg,iter,[],0⟩,⟨tg1,iter1,o.toList,0⟩] scope pos) (tLC2 cap e g a i tt te):=by
 intro pins s σ H Q I h
 rw[eval_ListComp]
 exact zkA (use:=none) t hi u p c d j r k b I h λl C w y m v q n f=>⟨m,n,λh' sb=>⟨.ref l,w,v.gone f sb,rfl,q⟩⟩
end L2
namespace Bn
open PySem L2 Own
def pw (e:Nat):Int:=((2 ^ e:Nat):Int)
def more (cs xs:List Int) (k:Int):List Int:=(List.range cs.length).map λi=>cs.getD i 0+k*xs.getD i 0
def zb6:Nat->List Nat->List Fk
 | 0,_=>[]
 | m+1,row=>if row.length<2 then [] else (row.take (row.length / 2)).zip row.reverse++zb6 m (row.take (row.length / 2))++zb6 m (row.drop (row.length / 2))
def zbF (k:Nat):Nt:=⟨2 ^ k,(List.replicate k (zb6 k (List.range (2 ^ k)))).flatten,List.range (2 ^ k)⟩
theorem zgV:∀ k,k<5->(zbF k).forks.length<=128/\∀ f∈(zbF k).forks,f.1<2 ^ k/\f.2<2 ^ k/\f.1≠f.2:=by decide +kernel
theorem zh7 {k:Nat}(h:k<5):(zbF k).Ok:=by
 obtain⟨a,b⟩:=zgV k h
 refine⟨ZU,?_,a,b,.refl _⟩
 show 2 ^ k<=2 ^ 4
 exact YK (show 0<2 by decide) (show k<=4 by lia)
theorem zbW:∀ (m:Nat) (row:List Nat),(zb6 m row).length<=m*row.length
 | 0,_=>JL _
 | m+1,row=>by
  unfold zb6
  split
  ·exact JL _
  ·rw[Jb,Jb,ZQ,Jw]
   have a:=zbW m (row.take (row.length / 2))
   have b:=zbW m (row.drop (row.length / 2))
   rw[Jw]at a
   rw[Y6]at b
   have c:m*min (row.length / 2) row.length+m*(row.length-row.length / 2)=m*row.length:=by
    rw[<- Nat.mul_add];congr 1;lia
   rw[Nat.succ_mul]
   lia
end Bn
namespace L2
open PySem PySem.Spec PyProof.Rows Own
def za0 {α:Type}(xs ys:List α):List α:=(xs.zip ys).flatMap λp=>[p.1,p.2]
theorem zbw {α:Type}:∀ (xs ys:List α),xs.length=ys.length->(za0 xs ys).length=2*xs.length
 | [],[],_=>rfl
 | x::xs,y::ys,h=>by
  have h':xs.length=ys.length:=by simpa using h
  have:=zbw xs ys h'
  show (za0 xs ys).length+2=2*(xs.length+1)
  rw[this];lia
theorem zcy {α β:Type}{f g:α->Option β}:∀ (l:List α),(∀ x∈l,f x=g x)->l.filterMap f=l.filterMap g
 | [],_=>rfl
 | x::l,h=>by
  have e:=zcy l λy a=>h y (JH _ a)
  simp only[List.filterMap_cons,h x JJ,e]
def by2 {α:Type}(off:Nat) (xs:List α):List α:=(List.range ((xs.length+1-off) / 2)).filterMap λk=>xs[off+2*k]?
theorem zf2 {α:Type}(off:Nat) (a:off<=1) (xs:List α):(by2 off xs).length=(xs.length+1-off) / 2:=by
 unfold by2
 have e:(List.range ((xs.length+1-off) / 2)).filterMap (λk=>xs[off+2*k]?)=(List.range ((xs.length+1-off) / 2)).pmap (λk (h:k<(xs.length+1-off) / 2)=>xs[off+2*k]'(by lia)) (λk h=>Yd.mp h):=by
  rw[List.pmap_eq_map_attach,<- List.filterMap_eq_map]
  conv=>lhs;rw[<- List.attach_map_subtype_val (List.range ((xs.length+1-off) / 2)),ZT]
  refine zcy _ λk b=>?_
  have:=Yd.mp k.2
  show xs[off+2*k.1]?=some _
  rw[J7 (by lia)]
 rw[e,List.length_pmap,Y0]
theorem zmm {α β:Type}(f:α->β) (off:Nat) (xs:List α):by2 off (xs.map f)=(by2 off xs).map f:=by
 unfold by2
 rw[Jh,List.map_filterMap]
 refine zcy _ λk _=>?_
 rw[JP]
theorem zhs {xs:List V}{us:List Value}(r:Vals xs us) (a:List Nat):Vals (a.filterMap λk=>xs[k]?) (a.filterMap λk=>us[k]?):=by
 induction a with
 | nil=>exact .nil
 | cons i a ih =>
  cases e:xs[i]? with
  | none =>
   have e2:us[i]?=none:=List.getElem?_eq_none_iff.mpr (by rw[<- r.length];exact List.getElem?_eq_none_iff.mp e)
   rw[List.filterMap_cons_none e,List.filterMap_cons_none e2];exact ih
  | some x =>
   obtain⟨u,e2,b⟩:=r.get e
   rw[List.filterMap_cons_some e,List.filterMap_cons_some e2];exact .cons b ih
theorem zj2 (items:Array Value):slicePick items none none (some 2)=((List.range ((items.size+1) / 2)).filterMap λk=>items.toList[2*k]?).toArray:=by
 have b:sliceBounds none none (some 2) items.size=(0,(items.size:Int),2):=rfl
 have c:sliceRange 0 (items.size:Int) 2=(List.range ((items.size+1) / 2)).map λk=>2*k:=by
  unfold sliceRange
  have a:(2:Int) > 0:=by decide
  by_cases h:(0:Int)<items.size
  ·have e:(((items.size:Int)-0+2-1) / 2).toNat=(items.size+1) / 2:=by lia
   simp only[a,Yr,h,e]
   apply Wk;intro k _;lia
  ·have e:items.size=0:=by lia
   rw[e];rfl
 unfold slicePick
 rw[b]
 show ((sliceRange 0 (items.size:Int) 2).filterMap (items[·]?)).toArray=_
 rw[c,ZT]
 refine JS List.toArray (zcy _ λk _=>?_)
 simp
theorem zib (items:Array Value):slicePick items (some 1) none (some 2)=((List.range (items.size / 2)).filterMap λk=>items.toList[1+2*k]?).toArray:=by
 have b:sliceBounds (some 1) none (some 2) items.size=(max 0 (min 1 (items.size:Int)),(items.size:Int),2):=rfl
 have c:sliceRange (max 0 (min 1 (items.size:Int))) (items.size:Int) 2=(List.range (items.size / 2)).map λk=>1+2*k:=by
  unfold sliceRange
  have a:(2:Int) > 0:=by decide
  by_cases h:(1:Int)<items.size
  ·have m:max 0 (min 1 (items.size:Int))=1:=by lia
   rw[m]
   have e:(((items.size:Int)-1+2-1) / 2).toNat=items.size / 2:=by lia
   simp only[a,Yr,h,e]
   apply Wk;intro k _;lia
  ·have e:items.size=0\/items.size=1:=by lia
   rcases e with e|e<;>rw[e]<;>rfl
 unfold slicePick
 rw[b]
 show ((sliceRange (max 0 (min 1 (items.size:Int))) (items.size:Int) 2).filterMap (items[·]?)).toArray=_
 rw[c,ZT]
 refine JS List.toArray (zcy _ λk _=>?_)
 simp
def tBy2 (K:PySem.W.Frag) (te:TE) (tl ts:TO):TE:=λσ H Q=>te σ H λx H1=>tl σ H1 λlo c=>ts σ c λo b=>o=some 2/\∃ off a xs,((lo=none/\off=0)\/(lo=some 1/\off=1))/\x=.ref a/\SqL K b a xs/\∀ p,b p=none->Q (.ref p) (upd b p (.lst (by2 off xs)))
theorem zgk {X:Cx}{e st:Expr}{lo:Option Expr}{te:TE}{tl ts:TO}{p2 pos:Pos}(C:PE X e te) (B:PO X lo tl) (z:PO X (some st) ts):PE X (.Subscript e (.Slice lo none (some st) p2) pos) (tBy2 X.K te tl ts):=by
 intro pins s σ H Q I h
 refine Subscript_ (thn (C pins s σ H _ I h) λv s1 ⟨x,H1,E,n,t⟩=>wpAny_Slice (thn (B pins s1 σ H1 _ E t) λi m ⟨ol,J,F,w,u⟩=>?_))
 rw[evalPart_none]
 refine Ja (thn (z pins m σ J _ F u) λd s2 ⟨o,G,D,po,p⟩=>?_)
 obtain⟨rfl,off,a,xs,c,rfl,A,k⟩:=p
 cases n
 have f:Inv X pins σ G { s2 with heap:=s2.heap.push { cls:=.type "slice",data:=.fields #[i,.none,d] } }:=D.kept (t':=s2.toks) λb ob q=>J8 _ q
 obtain⟨its,r,j,K⟩:=f.list A
 have hlen:=r.length
 show wpAny (model X.prog X.w) X.A (subscriptTail e (.Slice lo none (some st) p2) (.ref a) (.ref s2.heap.objs.size)) (EP X pins σ Q) X.xe { s2 with heap:=s2.heap.push { cls:=.type "slice",data:=.fields #[i,.none,d] } }
 refine tail_any (ops:=[.ref a,.ref s2.heap.objs.size]) j.isList.typeIs slot_list_getitem.lookup (wpAny_getItem_list_slice j.isList (Heap.IsSliceOf.new ..) w .none po (by simp) ?_ (by rw[Jj]<;>lia)) (by with_unfolding_all rfl)
 have y:slicePick its.toArray ol none (some 2)=((List.range ((its.length+1-off) / 2)).filterMap λk=>its[off+2*k]?).toArray:=by
  rcases c with ⟨rfl,rfl⟩|⟨rfl,rfl⟩
  ·rw[zj2];simp only[Jj,Nat.sub_zero,Yy]
  ·rw[zib];simp only[Jj,Nat.add_sub_cancel]
 rw[y]
 have g:off<=1:=by rcases c with ⟨_,rfl⟩|⟨_,rfl⟩<;>decide
 have l:Vals (by2 off xs) ((List.range ((its.length+1-off) / 2)).filterMap λk=>its[off+2*k]?):=by
  have:=zhs r ((List.range ((its.length+1-off) / 2)).map λk=>off+2*k)
  rw[ZT,ZT]at this
  unfold by2
  rw[hlen];exact this
 refine⟨.ref _,_,f.laid (t':=s2.toks) (o:=.lst (by2 off xs)) (λb ob q=>J8 _ q) (Jg _) ⟨by rw[zf2 off g];lia,_,0,l,?_⟩,rfl,k _ (f.hok.fresh (Jg _))⟩
 exact Js _ rfl
theorem zkB {K:PySem.W.Frag}{a:Addr}{xs:List V}{g v:TG}{h:TI}{tt:TT}{te:TE}{l:Addr}{σ:St}{H:Hp}{Q:VK}(c:Nat->List V->St->Hp->Prop) (B:c 0 [] σ H)
  (A:∀ i acc σ H,c i acc σ H->H l=some (.lst acc)/\SqL K H a xs)
  (z:∀ i acc σ H x,xs[i]?=some x->c i acc σ H->g x σ H λb r=>h b r λo q =>
   ∃ d:Nat->Nat->List V->St->Hp->Prop,(∃ n,d 0 n acc b q)/\LCW1 o v tt te l (λac j G=>Nx xs.length i (c (i+1) ac j G)) d)
  (hd:∀ acc σ H,c xs.length acc σ H->Q (.ref l) H):∃ W:Nat->Nat->List V->St->Hp->Prop,(∃ m,W 0 m [] σ H) /\
   ∀ i m acc f H',W i m acc f H'->H' l=some (.lst acc)/\(((Itl K a).stop i H'/\Q (.ref l) H')\/((Itl K a).go i H'/\∀ x s,(Itl K a).yld i H' x s->g x f s λb r=>h b r λo q =>
    ∃ d:Nat->Nat->List V->St->Hp->Prop,(∃ n,d 0 n acc b q)/\LCW1 o v tt te l (λac j G=>∃ u,u<m/\W (i+1) u ac j G) d)):=by
 refine⟨λi m acc σ H=>m=xs.length-i/\i<=xs.length/\c i acc σ H,⟨xs.length,by simp,JL _,B⟩,?_⟩
 rintro i m acc σ H ⟨rfl,hi,p⟩
 obtain⟨w,k⟩:=A i acc σ H p
 refine⟨w,?_⟩
 by_cases t:i<xs.length
 ·refine .inr ⟨⟨xs,xs[i],k,J7 t⟩,λx s ⟨e,y⟩=>?_⟩
  subst e
  exact z i acc σ _ x (y xs k) p
 ·obtain rfl:i=xs.length:=by lia
  exact .inl ⟨⟨xs,k,Jg _⟩,hd acc σ H p⟩
end L2
namespace L2
open PySem PySem.Spec PyProof.Rows Own Bn
def zfg (ts:List Int):Int:=ts.foldl (λa t=>2*a+t) 0
def zdl (a:Int) (xs:List Int):Int:=xs.foldl (λa x=>1000*a+x) a
def Bits (ts:List Int):Prop:=∀ t∈ts,t=0\/t=1
def Small (xs:List Int):Prop:=∀ x∈xs,0<=x/\x<1000
theorem zjp {a b c d m:Int}(e:0<m) (c0:0<=c) (i:c<m) (g:0<=d) (f:d<m):compare (m*a+c) (m*b+d)=(compare a b).then (compare c d):=by
 rcases Zr a b with h|h|h
 ·have:m*a+c<m*b+d:=by
   have:=Int.mul_le_mul_of_nonneg_left (show a+1<=b by lia) (Int.le_of_lt e)
   rw[Int.mul_add,Int.mul_one]at this
   lia
  rw[YA.mpr this,YA.mpr h];rfl
 ·subst h
  rw[YS.mpr (rfl:a=a)]
  show _=compare c d
  rcases Zr c d with z|z|z
  ·rw[YA.mpr z,YA.mpr (by lia)]
  ·rw[z]
   rw[YS.mpr (rfl:d=d),YS.mpr rfl]
  ·rw[YG.mpr z,YG.mpr (by lia)]
 ·have:m*b+d<m*a+c:=by
   have:=Int.mul_le_mul_of_nonneg_left (show b+1<=a by lia) (Int.le_of_lt e)
   rw[Int.mul_add,Int.mul_one]at this
   lia
  rw[YG.mpr this,YG.mpr h];rfl
theorem zex {m:Int}(d:0<m):∀ {x y:List Int}{a b:Int},x.length=y.length->(∀ t∈x,0<=t/\t<m)->(∀ t∈y,0<=t/\t<m)->compare (x.foldl (λa t=>m*a+t) a) (y.foldl (λa t=>m*a+t) b)=(compare a b).then (cmpR x y)
 | [],[],a,b,_,_,_=>by
  show compare a b=(compare a b).then .eq
  cases compare a b<;>rfl
 | s::x,t::y,a,b,l,f,e=>by
  have h1:=f s (.head _)
  have g:=e t (.head _)
  show compare (x.foldl _ (m*a+s)) (y.foldl _ (m*b+t))=(compare a b).then ((compare s t).then (cmpR x y))
  rw[zex d (by simpa using l) (λu c=>f u (.tail _ c)) λu c=>e u (.tail _ c),zjp d h1.1 h1.2 g.1 g.2]
  cases compare a b<;>rfl
theorem zjD {x:List Int}(h:Bits x):∀ t∈x,0<=t/\t<2:=λt a=>by rcases h t a with e|e<;>lia
theorem zkT {x y:List Int}(l:x.length=y.length) (b:Bits x) (a:Bits y):compare (zfg x) (zfg y)=cmpR x y:=by
 unfold zfg
 rw[zex (by decide) l (zjD b) (zjD a)];rfl
theorem zgG {a b:Int}{x y:List Int}(l:x.length=y.length) (d:Small x) (c:Small y):compare (zdl a x) (zdl b y)=(compare a b).then (cmpR x y):=zex (by decide) l d c
def stK (ts is:List Int):KN:=.inr ts::is.map Sum.inl
structure StOk (F c:Nat) (k:KN):Prop where
 ex:∃ ts is,k=stK ts is/\ts.length=F/\Bits ts/\is.length=c/\Small is
def zml:KN->Int
 | .inr ts::r=>zdl (zfg ts) (r.map λx=>match x with|.inl i=>i|.inr _=>0)
 | _=>0
theorem zf0 (ts is:List Int):zml (stK ts is)=zdl (zfg ts) is:=by
 unfold stK zml
 show zdl _ ((is.map Sum.inl).map _)=_
 rw[Zz]
 congr 1
 exact List.map_id is
def rkH (H:Hp):V->Int
 | .ref a=>match H a with
  | some (.tup (b::r))=>zdl (zfg (rowH H b)) (r.map zhk)
  | _=>0
 | _=>0
theorem zhF {H:Hp}{ts is:List Int}{b:Addr}(h:NKey H (stK ts is) b):∃ t,H b=some (.tup (.ref t::is.map V.int))/\H t=some (.tup (ts.map V.int)):=by
 obtain⟨ys,h1,a⟩:=h
 obtain⟨v,r,e,⟨t,c,d⟩,f⟩:=(show ∃ v r,ys=v::r/\(∃ t,v=.ref t/\H t=some (.tup (ts.map V.int)))/\NIvs H (is.map Sum.inl) r from a)
 have key:∀ {is:List Int}{r:List V},NIvs H (is.map Sum.inl) r->r=is.map V.int:=by
  intro is
  induction is with
  | nil=>intro r h;exact h
  | cons i is ih =>
   intro r h
   obtain⟨v,q,e,c,a⟩:=(show ∃ v q,r=v::q/\v=.int i/\NIvs H (is.map Sum.inl) q from h)
   rw[e,c,ih a];rfl
 exact⟨t,by rw[h1,e,c,key f],d⟩
theorem znd {H:Hp}{ts is:List Int}{b t:Addr}(h1:H b=some (.tup (.ref t::is.map V.int))) (a:H t=some (.tup (ts.map V.int))):NKey H (stK ts is) b:=by
 have key:∀ is:List Int,NIvs H (is.map Sum.inl) (is.map V.int):=by
  intro is
  induction is with
  | nil=>exact rfl
  | cons i is ih=>exact⟨_,_,rfl,rfl,ih⟩
 exact⟨_,h1,⟨_,_,rfl,⟨t,rfl,a⟩,key is⟩⟩
theorem zk1 {H:Hp}{ts is:List Int}{b:Addr}(h:NKey H (stK ts is) b):rkH H (.ref b)=zml (stK ts is):=by
 obtain⟨t,h1,a⟩:=zhF h
 show (match H b with
  | some (.tup (b::r))=>zdl (zfg (rowH H b)) (r.map zhk)
  | _=>0)=_
 rw[h1]
 show zdl (zfg (rowH H (.ref t))) ((is.map V.int).map zhk)=_
 rw[zca a,zf0,Zz]
 congr 1
 exact List.map_id is
theorem znC {H:Hp}{F c:Nat}{x y:KN}{a b:Addr}(m:StOk F c x) (k:StOk F c y) (ha:NKey H x a) (hb:NKey H y b):Lx H 2 (.ref a) (.ref b) (compare (rkH H (.ref a)) (rkH H (.ref b))):=by
 obtain⟨ts,is,rfl,h1,o,w,n⟩:=m.ex
 obtain⟨us,g,rfl,A,s,z,r⟩:=k.ex
 rw[zk1 ha,zk1 hb,zf0,zf0,zgG (by lia) n r,zkT (by lia) o s]
 obtain⟨t,v,e2⟩:=zhF ha
 obtain⟨u,f1,f2⟩:=zhF hb
 have l:is.length=g.length:=by lia
 rw[show (cmpR ts us).then (cmpR is g)=(cmpR ts us::List.zipWith compare is g).foldr Ordering.then .eq by rw[List.foldr_cons,zdA l]]
 refine .row v f1 (by rw[JK,JK,Jh,ZF];lia) (by rw[JK,JK,Jh,ZF];lia) λi p q d f e hd=>?_
 cases i with
 | zero=>cases f;cases e;cases hd;exact zeo e2 f2 (by lia)
 | succ i =>
  rw[List.getElem?_cons_succ]at f e hd
  rw[JP]at f e
  obtain⟨p,j,rfl⟩:=Ym.mp f
  obtain⟨q,h,rfl⟩:=Ym.mp e
  rw[List.getElem?_zipWith,j,h]at hd
  cases hd
  exact .int 1 p q
def KeysAt (H:Hp) (bs:List Addr) (ks:List KN):Prop:=Paired (λb k=>NKey H k b) bs ks
theorem KeysAt.mem {H:Hp}{bs:List Addr}{ks:List KN}(h:KeysAt H bs ks):∀ b∈bs,∃ k∈ks,NKey H k b:=by
 induction h with
 | nil=>intro b hb;cases hb
 | cons q _ ih =>
  intro b hb
  rcases Ju.mp hb with rfl|z
  ·exact⟨_,.head _,q⟩
  ·obtain⟨k,a,e⟩:=ih b z
   exact⟨k,.tail _ a,e⟩
theorem LvE.keys {H:Hp}{xs:KVN}{ps:LvL}(h:LvE H xs ps):KeysAt H (xs.map λp=>p.2.1) (ps.map (·.1)):=by
 obtain⟨ks,pr⟩:=h
 induction pr with
 | nil=>exact .nil
 | @cons x p xs ps a t ih =>
  refine .cons ?_ (ih λy b=>ks y (.tail _ b))
  show NKey H p.1 x.2.1
  rw[<- a.1];exact ks x (.head _)
def zk3 (P:Program) (w:World):List V->Hp->VK->Prop:=λvs H Q=>∃ a xs rk,vs=[.ref a]/\H a=some (DN P w a xs)/\xs.length<=10000/\RkN H (xs.map λp=>.ref p.2.1) rk/\∀ (l:Addr) (ys:List V),H l=none->ys.Perm (xs.map λp=>.ref p.2.1)->ys.Pairwise (λx y=>rk x<=rk y)->Q (.ref l) (upd H l (.lst ys))
theorem zez {X:Cx}(b:X.calm=true) (a:X.A.units+64<cLine):CallR X (.builtin "sorted") (zk3 X.prog X.w):=zfc b a
theorem zjU {H:Hp}{F c:Nat}{xs:KVN}{lv:LvL}(h:LvE H xs lv) (ok:∀ p∈lv,StOk F c p.1):RkN H (xs.map λp=>.ref p.2.1) (rkH H):=by
 refine⟨2,by decide,λx a=>?_⟩
 have at_:∀ x∈xs.map λp=>V.ref p.2.1,∃ b k,x=.ref b/\NKey H k b/\StOk F c k:=λx a=>by
  obtain⟨p,o,rfl⟩:=JD.mp a
  obtain⟨k,r,e⟩:=h.keys.mem p.2.1 (JD.mpr ⟨p,o,rfl⟩)
  obtain⟨q,n,rfl⟩:=JD.mp r
  exact⟨_,_,rfl,e,ok q n⟩
 obtain⟨b,k,rfl,g,f⟩:=at_ x a
 refine⟨?_,λy m=>?_⟩
 ·obtain⟨ts,is,rfl,_⟩:=f.ex
  obtain⟨t,h1,s⟩:=zhF g
  exact⟨b,t,_,_,rfl,h1,s⟩
 ·obtain⟨d,j,rfl,l,i⟩:=at_ y m
  exact znC f i g l
theorem zkC {K:PySem.W.Frag}{a:Addr}{zs:List V}{g:TG}{te:TE}{l:Addr}{ac:List V}{σ:St}{H:Hp}{Q:List V->St->Hp->Prop}(b:Nat->List V->St->Hp->Prop) (o:b 0 ac σ H) (n:∀ i acc σ H,b i acc σ H->H l=some (.lst acc)/\SqL K H a zs)
  (k:∀ i x acc σ H,zs[i]?=some x->b i acc σ H->g x σ H λc q=>te c q λy h=>h l=some (.lst acc)/\acc.length<sizeLine/\Nx zs.length i (b (i+1) (acc++[y]) c (upd h l (.lst (acc++[y])))))
  (hd:∀ acc σ H,b zs.length acc σ H->Q acc σ H):∃ W:Nat->Nat->List V->St->Hp->Prop,(∃ m,W 0 m ac σ H)/\LCW1 (Itl K a) g tYes te l Q W:=by
 refine⟨λi m acc σ H=>m=zs.length-i/\i<=zs.length/\b i acc σ H,⟨_,rfl,JL _,o⟩,λi m acc σ H ⟨em,hi,p⟩=>?_⟩
 subst em
 obtain⟨j,d⟩:=n i acc σ H p
 refine⟨j,?_⟩
 by_cases f:i<zs.length
 ·refine .inr ⟨⟨zs,zs[i],d,J7 f⟩,λx r ⟨e,y⟩=>?_⟩
  subst e
  exact k i x acc σ _ (y zs d) p
 ·obtain rfl:i=zs.length:=by lia
  exact .inl ⟨⟨zs,d,Jg _⟩,hd acc σ H p⟩
theorem LvE.len_le {H:Hp}{xs:KVN}{ps:LvL}(h:LvE H xs ps) {n:Nat}(l:ps.length<=n):xs.length<=n:=by rw[h.len];exact l
theorem zg1 {α β:Type}{f:α->β}{ys l:List β}(p:ys.Perm l):∀ {zs:List α},l=zs.map f->∃ cs:List α,ys=cs.map f/\cs.Perm zs:=by
 induction p with
 | nil=>intro zs e;cases zs with
  | nil=>exact⟨[],rfl,.refl _⟩
  | cons a b=>cases e
 | cons b _ ih =>
  intro zs e
  cases zs with
  | nil=>cases e
  | cons a zs =>
   injection e with h e2
   obtain⟨cs,h1,g⟩:=ih e2
   exact⟨a::cs,by rw[h1,h];rfl,g.cons _⟩
 | swap b c l =>
  intro zs e
  cases zs with
  | nil=>cases e
  | cons a zs=>cases zs with
   | nil=>cases e
   | cons d zs =>
    injection e with h e2
    injection e2 with e2 n
    exact⟨d::a::zs,by rw[h,e2,n];rfl,.swap _ _ _⟩
 | trans _ _ j i =>
  intro zs e
  obtain⟨cs,h1,g⟩:=i e
  obtain⟨ds,m,k⟩:=j h1
  exact⟨ds,m,k.trans g⟩
end L2
namespace K36
open PySem L2 Own Bn
abbrev zlB:Stmt:=top 12
theorem zii {α β:Type}{F:α->β->Prop}{xs:List α}{ys:List β}(h:Paired F xs ys):∀ {i:Nat}{a:α},xs[i]?=some a->∃ b,ys[i]?=some b/\F a b:=by
 induction h with
 | nil=>intro i a e;cases e
 | cons q _ ih =>
  intro i a e
  cases i with
  | zero=>cases Jr e;exact⟨_,rfl,q⟩
  | succ i=>exact ih e
theorem zfq (ls:List LvL) (i:Nat):((ls.take i).map List.length).sum<=(ls.map List.length).sum:=by
 induction ls generalizing i with
 | nil=>rw[WC];exact Jg _
 | cons a ls ih =>
  cases i with
  | zero=>exact JL _
  | succ i=>show a.length+_<=a.length+_;exact Nat.add_le_add_left (ih i) _
def zhM (P:Program) (w:World) (F c:Nat):Sp:=λvs H Q _=>∃ l as ls,vs=[.ref l]/\H l=some (.lst (List.map V.ref as))/\LvsAt P w H as ls/\(∀ lv∈ls,lv.length<=10000/\∀ p∈lv,StOk F c p.1)/\(ls.map List.length).sum<=1000000/\∀ p H',Same H H'->Q (.ref p) H'
theorem zlY {H:Hp}{a:Addr}{o:HO}(_:Same H (L2.upd H a o)) (h:H a=none):H a=none:=h
section
variable {P:Program}{w:World}{K:PySem.W.Frag}{mg:Str->Option Value}{base:Heap}
theorem scBo:FnScope ["levels"] ["levels"] (zal zlB):=by trivial
theorem zlV (Z c0:Nat) {f:Addr}{fd:FuncData}(F:Fun K "book_of" "book_of" zlB f fd) (G:Mgs mg):FnOk P w K mg base CX0 1 f fd ["levels"] (zhM P w Z c0):=by
 refine F.ok scBo (λvs H Q E h=>?_) (λcdv A outer s H vs Q E W h=>?_)
 ·obtain⟨l,as,ls,rfl,_⟩:=h
  rfl
 obtain⟨l,as,ls,rfl,O,r,u,few,k⟩:=h
 refine⟨_,(@zai _ _ _ (@zat _ _ _ _ (@zaw _ _ _ _ _ _ _ _ _ zaE (by rfl) G.tuple (by rfl) (@zaa _ _ _ _ _ (@zmJ _ _ _ _ _ _ none _ _ _ (zm4 K (tCB (zk3 P w) (zlr (tVar 0) tNil))) _ _ _ _ ["level","state"] [none,none] rfl (@zdj _ _ _ _ (@qv _ 0 _ _ (by trivial))) (CapOk.of (by kernel_rfl)) (λ_ _ _ _ _=>@zaj _ _ 0 _ (show (["level","state"]:List Str).Nodup from by decide +kernel) rfl (.inl rfl) (.inr rfl)) (λ_ _ _ _ _=>@zdj _ _ _ _ (@zaq _ _ _ _ _ _ _ _ _ (zez rfl W.units) (by rfl) G.sorted (by rfl) (@zaa _ _ _ _ _ (@qv _ 0 _ _ (by trivial)) zac (by rfl)) (by decide) (by decide) (by rfl) (by rfl))) (λ_ _ _ _ _=>@zaj _ _ 1 _ (show (["level","state"]:List Str).Nodup from by decide +kernel) rfl (.inl rfl) (.inr rfl)) (λ_ _ _ _ _=>zcb) (λ_ _ _ _ _=>@qv _ 1 _ _ (by trivial)) (by intro _;rfl) (by intro _ _;rfl)) zac (by rfl)) (by decide) (by decide) (by rfl) (by rfl)))),?_⟩
 refine⟨_,rfl,l,rfl,⟨_,SqL.of O⟩,λm v=>?_⟩
 have al:as.length=ls.length:=YX r
 have s1:=zab v (.lst [])
 refine zkB (K:=K) (a:=l) (xs:=as.map V.ref) (Q:=λx H1=>tNil (L2.zdG ["levels"] [V.ref l]) H1 λvs c=>(∃ p ys,x::vs=[V.ref p]/\((SqL K c p ys/\∀ (l:Addr),c l=none->Q (V.ref l) (L2.upd c l (HO.tup ys)))\/SqT K c p ys/\Q (V.ref p) c))) (λi acc σ c=>(∃ v0 d,σ=[v0,d])/\Same H c/\c m=some (.lst acc)/\∃ bs:List Addr,acc=bs.map V.ref/\bs.length=((ls.take i).map List.length).sum) ⟨⟨_,_,rfl⟩,s1,zaf,[],rfl,rfl⟩ (λi acc σ c z=>⟨z.2.2.1,SqL.of (z.2.1 _ _ O)⟩) ?_ ?_
 ·rintro i acc σ c x n ⟨⟨v0,d,rfl⟩,s2,B,bs,rfl,bl⟩
  rw[JP]at n
  obtain⟨a,S,rfl⟩:=Ym.mp n
  have ia:i<as.length:=(Jd.mp S).1
  have U:i<ls.length:=by lia
  obtain⟨lv,R,xs,hd,le⟩:=zii r S
  have t:lv∈ls:=JT R
  have tk:ls.take (i+1)=ls.take i++[lv]:=by rw[<- Yx U,(Jd.mp R).2]
  have y:((ls.take (i+1)).map List.length).sum=bs.length+lv.length:=by rw[tk,Y2,List.sum_append,<- bl];rfl
  have sum2:((ls.take (i+1)).map List.length).sum<=1000000:=JW (zfq ls (i+1)) few
  have Y:=s2 _ _ hd
  have le2:=le.keep s2
  refine⟨_,rfl,a,xs,rkH c,rfl,Y,le2.len_le (u lv t).1,zjU le2 (u lv t).2,λq ys N pm _=>?_⟩
  have D:=zab N (.lst ys)
  have T:m≠q:=zag B N
  obtain⟨cs,rfl,pc⟩:=zg1 (f:=V.ref) (zs:=xs.map λp=>p.2.1) pm (by rw[Zz];rfl)
  have cl:cs.length=lv.length:=by rw[pc.length_eq,Jh];exact le2.len
  refine⟨q,rfl,⟨_,SqL.of zaf⟩,?_⟩
  refine zkC (K:=K) (a:=q) (zs:=cs.map V.ref) (λj acc σ g=>(∃ v0 d,σ=[v0,d])/\Same H g/\(∀ b o,c b=some o->b≠m->g b=some o)/\g q=some (.lst (cs.map V.ref))/\acc=bs.map V.ref++(cs.map V.ref).take j/\g m=some (.lst acc)) ?_ (λj acc σ g z=>⟨z.2.2.2.2.2,SqL.of z.2.2.2.1⟩) ?_ ?_
  ·exact⟨⟨_,_,rfl⟩,s2.trans D,λb o e _=>D b o e,zaf,by rw[Zf,Y5],D _ _ B⟩
  ·rintro j x acc σ g n ⟨⟨v0,d,rfl⟩,C,M,L,rfl,J⟩
   have I:=(Jd.mp n).1
   refine⟨_,rfl,J,?_,nx I ⟨⟨_,_,rfl⟩,λb o e=>?_,λb o e ne=>?_,?_,?_,zaf⟩⟩
   ·rw[Jb,Jw,Jh,Jh,JE]
    rw[Jh]at I
    lia
   ·rw[zah (zag e (zlY s1 v))];exact C b o e
   ·rw[zah ne];exact M b o e ne
   ·rw[zah T.symm];exact L
   ·rw[JQ]
    congr 1
    rw[<- Yx I,(Jd.mp n).2]
  ·rintro acc σ g ⟨⟨v0,d,rfl⟩,C,M,L,rfl,J⟩
   refine nx (by rw[Jh];exact ia) ⟨⟨_,_,rfl⟩,C,J,bs++cs,?_,?_⟩
   ·rw[YJ,Y2]
   ·rw[y,Jb,cl]
 ·rintro acc σ c ⟨⟨v0,d,rfl⟩,s2,B,bs,rfl,bl⟩
  exact⟨m,_,rfl,.inl ⟨SqL.of B,λp X=>k p _ (s2.trans (zab X (.tup (bs.map V.ref))))⟩⟩
end
abbrev sEnd:Stmt:=top 1
abbrev zfy:Stmt:=top 3
abbrev sRun:Stmt:=top 4
theorem zm3 (h a b:Nat):inV (V.int h) [V.int a,V.int b]=decide (h=a\/h=b):=by
 rw[Yt,decide_eq_true_iff]
 simp[inV,eqV]
 lia
section
variable {P:Program}{w:World}{K:PySem.W.Frag}{mg:Str->Option Value}{base:Heap}
theorem scD:FnScope ["net","lane"] ["net","lane"] (zal sEnd):=by trivial
theorem zmT {f:Addr}{fd:FuncData}(F:Fun K "end_of" "end_of" sEnd f fd):FnOk P w K mg base CX0 1 f fd ["net","lane"] zlt:=by
 refine F.ok scD (λvs H Q E h=>?_) (λcdv A outer s H vs Q E b h=>?_)
 ·obtain⟨r,fr,er,ps,N,lane,rfl,_⟩:=h
  rfl
 obtain⟨r,fr,er,ps,N,lane,rfl,ok,na,c,k⟩:=h
 refine⟨_,(@zai _ _ _ (@zat _ _ _ _ (@zlL _ _ _ _ _ _ _ b.units (@zay _ _ _ _ _ _ _ zaK (@qv _ 0 _ _ (by trivial)) zae (λ_ _=>rfl)) (@zaa _ _ _ _ _ (@qv _ 1 _ _ (by trivial)) zac (by rfl)) (by rfl) (by rfl) (by rfl) (by rfl)))),?_⟩
 have a:=na.ends
 rw[zki]at a
 refine⟨_,rfl,r,_,_,_,rfl,rfl,SqT.of na.net,rfl,er,_,rfl,a,_,rfl,(lane:Int),rfl,a,?_,?_⟩
 ·exact JD.mpr ⟨lane,ok.en.mem_iff.mpr (Yd.mpr c),rfl⟩
 ·rw[zgC];exact k
theorem scR:FnScope ["net","turns","lane","back","behind","here","number","fork","turn"] ["net","turns","lane","back"] (zal sRun):=by trivial
theorem zmR {f fD:Addr}{fd dD:FuncData}(F:Fun K "run_through" "run_through" sRun f fd) (G:Mgs mg) (I:Use P w K mg base "end_of" ["net","lane"] 1 zlt fD dD):FnOk P w K mg base CX0 2 f fd ["net","turns","lane","back"] zls:=by
 refine F.ok scR (λvs H Q E h=>?_) (λcdv A outer s H vs Q E Z h=>?_)
 ·obtain⟨us,back,rfl,r,fr,er,ps,N,C,ts,lane,rfl,_⟩:=h
  rfl
 obtain⟨us,back,rfl,r,fr,er,ps,N,C,ts,lane,rfl,ok,na,L,tl,bits,hl,k⟩:=h
 refine⟨_,(@zad _ _ _ _ _ (@zav _ _ 4 _ _ _ _ scR.nd rfl (.inl rfl) (@zaw _ _ _ _ _ _ _ _ _ za2 (by rfl) G.list (by rfl) (@zaa _ _ _ _ _ (@qv _ 1 _ _ (by trivial)) zac (by rfl)) (by decide) (by decide) (by rfl) (by rfl)) (by rfl) (by trivial)) (@zad _ _ _ _ _ (@zav _ _ 5 _ _ _ _ scR.nd rfl (.inl rfl) (@qv _ 2 _ _ (by trivial)) (by rfl) (by trivial)) (@zad _ _ _ _ _ (@zbP _ _ _ _ _ _ _ _ Yw rfl (@zlK _ _ _ _ _ _ _ _ false rfl G.enum (@zaa _ _ _ _ _ (@zay _ _ _ _ _ _ _ zaK (@qv _ 0 _ _ (by trivial)) zae (λ_ _=>rfl)) zac (by rfl)) (by rfl)) (@zaU _ _ _ _ _ _ rfl (@zak _ _ _ _ _ (@zaj _ _ 6 _ scR.nd rfl (.inl rfl) (by trivial)) (@zak _ _ _ _ _ (@zaj _ _ 7 _ scR.nd rfl (.inl rfl) (by trivial)) zaL (by rfl)) (by rfl)) (by rfl) (by rfl)) (@zai _ _ _ (@zbc _ _ _ _ _ _ _ _ (@zaz _ _ _ _ _ _ _ _ zeU (@qv _ 5 _ _ (by trivial)) (@qv _ 7 _ _ (by trivial)) (by rfl)) (@zad _ _ _ _ _ (@zav _ _ 8 _ _ _ _ scR.nd rfl (.inl rfl) (@zay _ _ _ _ _ _ _ zax (@qv _ 4 _ _ (by trivial)) (@qv _ 6 _ _ (by trivial)) (λ_ _=>rfl)) (by rfl) (by trivial)) (@zad _ _ _ _ _ (@zaV _ _ _ _ _ _ (@zao _ _ _ _ _ _ _ _ zbS zae (@qv _ 8 _ _ (by trivial))) (@zcZ _ _ _ _ _ _ _ (@qv _ 4 _ _ (by trivial)) (@qv _ 6 _ _ (by trivial)) zbm (by intro _;rfl)) (by rfl) (by rfl) (by rfl)) (@zai _ _ _ (@zav _ _ 5 _ _ _ _ scR.nd rfl (.inl rfl) (@zay _ _ _ _ _ _ _ zaK (@qv _ 7 _ _ (by trivial)) (@zej _ _ _ _ _ _ _ _ (@zk6 _ _ _ (@qv _ 3 _ _ (by trivial)) (by intro _;rfl)) (@zao _ _ _ _ _ _ _ _ zbS zae (@qv _ 8 _ _ (by trivial))) (@qv _ 8 _ _ (by trivial))) (λ_ _=>rfl)) (by rfl) (by trivial))))) zaI)) (by intro _;rfl)) (@zai _ _ _ (@zat _ _ _ _ (@zaB _ _ _ _ _ (@zaa _ _ _ _ _ (@zaw _ _ _ _ _ _ _ _ _ zaE (by rfl) G.tuple (by rfl) (@zaa _ _ _ _ _ (@qv _ 4 _ _ (by trivial)) zac (by rfl)) (by decide) (by decide) (by rfl) (by rfl)) (@zaa _ _ _ _ _ (@zam _ _ _ _ _ _ _ _ _ _ _ _ _ _ _ _ I.ok Z (by rfl) I.m I.kp I.b .nil zaD (@zaa _ _ _ _ _ (@qv _ 0 _ _ (by trivial)) (@zaa _ _ _ _ _ (@qv _ 5 _ _ (by trivial)) zac (by rfl)) (by rfl)) (by decide) (by rfl) (by rfl)) zac (by rfl)) (by rfl)))))))),?_⟩
 refine⟨_,rfl,C,_,rfl,.inr (SqT.of L),λd D=>⟨_,rfl,?_⟩⟩
 have s1:=zab D (.lst (ts.map V.int))
 refine⟨_,rfl,r,_,_,_,rfl,rfl,SqT.of (s1 _ _ na.net),rfl,fr,ps,rfl,SqT.of (s1 _ _ na.forks),?_⟩
 refine zkK (K:=K) (b:=false) (a:=fr) (xs:=ps) (λi σ m=>(∃ B y v,σ=[some (.ref r),some (.ref C),some (.int lane),some (.bl back),some (.ref d),some (.int (zaC back N.forks ts lane i).2),B,y,v])/\Same H m/\m d=some (.lst ((zaC back N.forks ts lane i).1.map V.int)))
  ⟨⟨_,_,_,rfl⟩,s1,zaf⟩ (λi σ m _ q=>SqT.of (q.2.1 _ _ na.forks)) ?_ ?_
 ·rintro i x σ m T X S ⟨⟨B,y,v,rfl⟩,s2,n⟩
  obtain⟨a,g,rfl,U,ha⟩:=(na.prs.tups (Tups.of s2)).get X
  have gi:i<N.forks.length:=(Jd.mp U).1
  have gd:N.forks.getD i (0,0)=g:=by rw[J9,U];rfl
  have rs:zaC back N.forks ts lane (i+1)=zau back (zaC back N.forks ts lane i) i g:=by show zau _ _ _ _=_;rw[gd]
  have rl:=zcn (back:=back) (fs:=N.forks) (ts:=ts) (lane:=lane) i
  have W:=zcN (back:=back) (fs:=N.forks) (lane:=lane) bits i
  generalize zaC back N.forks ts lane i=st at *
  have u:=zab S (.tup [.int i,.ref a])
  have lT:d≠T:=zag n S
  refine⟨T,_,rfl,SqT.of zaf,rfl,_,_,rfl,_,_,rfl,rfl,?_⟩
  refine⟨_,rfl,_,rfl,a,_,rfl,.inr (SqT.of (u _ _ ha)),rfl,rfl,_,rfl,?_⟩
  show if (if false=true then !inV (V.int (st.2:Nat)) [V.int (g.1:Nat),V.int (g.2:Nat)] else inV (V.int (st.2:Nat)) [V.int (g.1:Nat),V.int (g.2:Nat)])=true then _ else _
  rw[Jc Jp,zm3]
  by_cases on:st.2=g.1\/st.2=g.2
  ·rw[JB on]
   refine iteT ?_
   have c:zau back st i g=(st.1.set i (1-st.1.getD i 0),if (if back then 1-st.1.getD i 0 else st.1.getD i 0)=0 then g.1 else g.2):=by unfold zau;rw[Jf on]
   have J:i<st.1.length:=by lia
   have tb:=W _ (L2.zer J)
   have hb:=u _ _ n
   refine⟨_,rfl,_,rfl,d,_,_,_,rfl,rfl,SqL.of hb,zd0 J,?_⟩
   refine⟨_,rfl,_,_,rfl,rfl,_,rfl,_,rfl,d,_,_,i,rfl,rfl,hb,zhf (by rw[Jh];exact J),?_⟩
   have l:upd (upd m T (.tup [.int i,.ref a])) d (.lst ((st.1.map V.int).set i (.int (1-st.1.getD i 0)))) a=some (.tup [.int g.1,.int g.2]):=by
    rw[zah (by rintro rfl;rw[n]at ha;cases ha)];exact u _ _ ha
   have fin:∀ nx:Nat,nx=(zau back st i g).2->(∃ B y v,([some (.ref r),some (.ref C),some (.int lane),some (.bl back),some (.ref d),some (.int nx),some (.int i),some (.ref a),some (.int (st.1.getD i 0))]:List (Option V))=[some (.ref r),some (.ref C),some (.int lane),some (.bl back),some (.ref d),some (.int (zaC back N.forks ts lane (i+1)).2),B,y,v]) /\
     Same H (upd (upd m T (.tup [.int i,.ref a])) d (.lst ((st.1.map V.int).set i (.int (1-st.1.getD i 0)))))/\upd (upd m T (.tup [.int i,.ref a])) d (.lst ((st.1.map V.int).set i (.int (1-st.1.getD i 0)))) d=some (.lst ((zaC back N.forks ts lane (i+1)).1.map V.int)):=λnx en=>by
    refine⟨⟨_,_,_,by rw[rs,en]⟩,λb o e=>?_,?_⟩
    ·rw[zah (zag e D)];exact u _ _ (s2 b o e)
    ·rw[zaf,rs,c,zee]
   cases back with
   | false =>
    rcases tb with z|z
    ·exact⟨_,rfl,_,rfl,_,rfl,iteF ⟨_,rfl,a,_,_,_,rfl,rfl,SqT.of l,by rw[z];exact zaR (j:=0) rfl,fin g.1 (by rw[c,z];rfl)⟩⟩
    ·exact⟨_,rfl,_,rfl,_,rfl,iteF ⟨_,rfl,a,_,_,_,rfl,rfl,SqT.of l,by rw[z];exact zaR (j:=1) rfl,fin g.2 (by rw[c,z];rfl)⟩⟩
   | true =>
    rcases tb with z|z
    ·exact⟨_,rfl,_,rfl,_,rfl,iteT ⟨_,rfl,_,_,rfl,rfl,a,_,_,_,rfl,rfl,SqT.of l,by rw[z];exact zaR (j:=1) rfl,fin g.2 (by rw[c,z];rfl)⟩⟩
    ·exact⟨_,rfl,_,rfl,_,rfl,iteT ⟨_,rfl,_,_,rfl,rfl,a,_,_,_,rfl,rfl,SqT.of l,by rw[z];exact zaR (j:=0) rfl,fin g.1 (by rw[c,z];rfl)⟩⟩
  ·rw[Jt on]
   have c:zau back st i g=st:=by unfold zau;rw[Jc on]
   exact iteF ⟨⟨_,_,_,by rw[rs,c];rfl⟩,s2.trans u,by rw[rs,c];exact u _ _ n⟩
 ·rintro σ m ⟨⟨B,y,v,rfl⟩,s2,n⟩
  have O:=na.prs.len
  rw[O]at n
  have hh:=zcM (back:=back) (ts:=ts) ok.fk hl N.forks.length (Jg _)
  refine⟨_,rfl,d,_,rfl,.inl ⟨SqL.of n,λt Y=>?_⟩⟩
  have M:=zab Y (.tup ((zaC back N.forks ts lane N.forks.length).1.map V.int))
  refine⟨_,rfl,_,rfl,r,fr,er,ps,N,_,by rw[O];rfl,ok,na.tups (Tups.of (s2.trans M)),hh,(by show 2<=sizeLine;decide),λp R=>?_⟩
  exact k p t _ ((s2.trans M).trans (zab R _)) zaf (zab R _ _ _ zaf)
theorem scP:FnScope ["net","turns","lane"] ["net","turns","lane"] (zal zfy):=by trivial
theorem zio {f d:Addr}{fd e:FuncData}(F:Fun K "passed" "passed" zfy f fd) (a:Use P w K mg base "run_through" ["net","turns","lane","back"] 2 zls d e):FnOk P w K mg base CX0 3 f fd ["net","turns","lane"] (zhH false):=by
 refine F.ok scP (λvs H Q E h=>?_) (λcdv A outer s H vs Q E c h=>?_)
 ·obtain⟨r,fr,er,ps,N,b,ts,lane,rfl,_⟩:=h
  rfl
 obtain⟨r,fr,er,ps,N,b,ts,lane,rfl,q⟩:=h
 refine⟨_,(@zai _ _ _ (@zat _ _ _ _ (@zam _ _ _ _ _ _ _ _ _ _ _ _ _ _ _ _ a.ok c (by rfl) a.m a.kp a.b .nil zaD (@zaa _ _ _ _ _ (@qv _ 0 _ _ (by trivial)) (@zaa _ _ _ _ _ (@qv _ 1 _ _ (by trivial)) (@zaa _ _ _ _ _ (@qv _ 2 _ _ (by trivial)) (@zaa _ _ _ _ _ zih zac (by rfl)) (by rfl)) (by rfl)) (by rfl)) (by decide) (by rfl) (by rfl)))),?_⟩
 exact⟨_,rfl,_,rfl,_,rfl,[.ref r,.ref b,.int lane],false,rfl,r,fr,er,ps,N,b,ts,lane,rfl,q⟩
end
end K36
namespace L2
open PySem PySem.Spec PyProof.Rows Own
theorem ziW {P:Program}{w:World}{K:PySem.W.Frag}{mg mb:Str->Option Value}{CX:CXT}{k:Nat}{O a:Addr}{fd:FuncData}{x:Str}{sp:Sp}{f:Shared}{vs:List Value}{ns:List Int}(ts:List Addr)
  (Q:K.In f.heap) (E:f.heap.Ns mainGlobals mg) (hb:f.heap.Ns builtinsNs mb) (U:∀ x:Str,x≠"__name__"->mb x=bootBuiltins x) (L:f.heap.NoLimit) (hg:f.gens = #[])
  (ha:f.heap.get? a=some { cls:=.type "list",data:=.seq vs.toArray }) (hi:IntsAre vs ns) (Y:ns.length<=sizeLine) (hr:Room k callerA)
  (A:∀ p∈ts,f.heap.get? p=some (PySem.W.tabObj #[])/\K.lookup p=none/\∃ c,PySem.W.codeHdIn K c p=true)
  (T:∃ bm ob,mg "__builtins__" = some (.ref bm)/\bm≠builtinsNs/\f.heap.get? bm=some ob/\ob.cls=.type "module"/\ob.dict=some builtinsNs/\ob.data=.plain)
  (F:∀ base:Heap,K.In base->base.Ns mainGlobals mg->(∀ p∈ts,base.BuiltinsAt mg p)->FnOk P w K mg base CX k O fd [x] sp) (G:∀ (s:Shared) (u:Value),BindsTo s fd ⟨[u],[]⟩ [(x,u)])
  (S:∀ H:Hp,SqL K H a (ns.map V.int)->(∀ p∈ts,H p=some (.tbl #[]))->sp [.ref a] H (λv _=>v=.bl true) λ_ _ _=>False)
  (W:∀ H e s',CX [] H f (λ_ _ _=>False) e s'->False) :
  codeAny (model P w) callerA (.call (.ref O) ⟨[.ref a],[]⟩) (λr s'=>r=.ok (.ret (.bool true))/\OldK f.heap s'.heap/\s'.os=f.os/\AllBare s'.gens) f:=by
 have X:=zeB hi
 have J:=hi.length
 have aT:a∉ts:=λh=>by
  have:=(A a h).1
  rw[ha]at this;cases this
 have core:∀ H:Hp,(∀ b,H b=none\/(b=a/\∃ o xs,H b=some (.frz o (.lst xs)))\/(b∈ts/\H b=some (.tbl #[])))->(∀ p∈ts,H p=some (.tbl #[]))->SqL K H a (ns.map V.int)->HOk P w H f.heap->(H a≠none->K.lookup a=none) ->
   codeAny (model P w) callerA (.call (.ref O) ⟨[.ref a],[]⟩) (λr s'=>r=.ok (.ret (.bool true))/\OldK f.heap s'.heap/\s'.os=f.os/\AllBare s'.gens) f:=by
  intro H M Z hS hok hK
  have g:∀ {b:Addr}{o:Obj},f.heap.get? b=some o->H b=none->(hidT f.heap H).get? b=some o:=λe n=>zkG e n
  have R:∀ {b:Addr}{o:Obj}{es:Array DictEntry}{ep:Nat},f.heap.get? b=some o->o.data=.dict es ep->H b=none:=λ{b o es ep} e d=>by
   rcases M b with z|⟨z,_⟩|⟨z,_⟩
   ·exact z
   ·rw[z,ha]at e
    cases e
    cases (show Data.seq vs.toArray _=Data.dict es ep from d)
   ·rw[(A b z).1]at e
    cases e
    cases (show Data.fields #[]=Data.dict es ep from d)
  have j:∀ {b:Addr}{m:Str->Option Value},f.heap.Ns b m->(hidT f.heap H).Ns b m:=λ{b m} ⟨o,es,ep,e,d,r⟩=>⟨o,es,ep,g e (R e d),d,r⟩
  have I:K.In (hidT f.heap H):=λb o e=>g (Q b o e) (by
   rcases M b with z|⟨z,y⟩|⟨z,_⟩
   ·exact z
   ·obtain⟨o',xs,q⟩:=y
    rw[z]at e q
    rw[hK (by rw[q];simp)]at e;cases e
   ·rw[(A b z).2.1]at e;cases e)
  have hM:Mod K mg (hidT f.heap H):=⟨I,j E,⟨mb,j hb,U⟩,let ⟨mc,h1,h2⟩:=L;⟨mc,j h1,h2⟩⟩
  have e0:Env0 P w K mg (hidT f.heap H) callerA [] f H:=⟨rfl,hM,λb o e=>zlX e,Nat.le_of_eq (zi3 _ _),trivial,λb hb=>absurd (show b∈([]:List Addr) from hb) (by simp),hok,.of_eq hg⟩
  have hB:∀ p∈ts,(hidT f.heap H).BuiltinsAt mg p:=λp B=>by
   obtain⟨bm,ob,b1,b2,D,b4,b5,l⟩:=T
   refine⟨bm,ob,b1,b2,λz=>?_,λz=>?_,g D ?_,b4,b5,l⟩
   ·obtain⟨og,es,ep,e,d,_⟩:=E
    rw[<- z,D]at e
    rw[<- Jr e,l]at d;cases d
   ·have e:=(A p B).1
    rw[<- z,D]at e
    rw[Jr e]at l;cases l
   ·rcases M bm with z|⟨z,_⟩|⟨z,_⟩
    ·exact z
    ·rw[z,ha]at D
     rw[<- Jr D]at l;cases l
    ·rw[(A bm z).1]at D
     rw[<- Jr D]at l;cases l
  refine codeAny_mono ((F _ I (j E) hB).run callerA [] f H ⟨[.ref a],[]⟩ [.ref a] [.ref a] _ _ hr e0 (G f (.ref a)) (.cons rfl .nil) (S H hS Z)) λr s' h=>?_
  cases r with
  | error e=>exact(W H e s' h).elim
  | ok fl =>
   cases fl with
   | next=>exact False.elim h
   | brk=>exact False.elim h
   | cont=>exact False.elim h
   | ret u =>
    obtain⟨v,H',os,bare,un,t,r',q⟩:=h
    have q':v=.bl true:=q
    subst q'
    obtain rfl:u=Value.bool true:=r'
    have kept:∀ b o,f.heap.get? b=some o->b∉ts->s'.heap.get? b=some o:=λb o e nb=>by
     rcases M b with z|⟨_,ob,xs,z⟩|⟨z,_⟩
     ·exact un.keep b o e z (λy=>absurd (show b∈([]:List Addr) from y) (by simp)) (by simp)
     ·have z2:=un.frzs b ob _ z
      obtain⟨e1,_⟩:=hok b _ z
      obtain⟨e2,_⟩:=t b _ z2
      rw[e]at e1;cases e1
      exact e2
     ·exact absurd z nb
    have tabs:∀ b∈ts,∃ more,s'.heap.get? b=some (PySem.W.tabObj (#[]++more)):=λb hb=>by
     obtain⟨more,z⟩:=un.tbls b _ (Z b hb)
     exact⟨more,t b _ z⟩
    refine⟨rfl,⟨λb o e=>?_,λb o e=>un.there b o e (by simp)⟩,os,bare⟩
    by_cases hb:b∈ts
    ·obtain⟨t1,_,c,t3⟩:=A b hb
     rw[t1]at e
     cases e
     obtain⟨o2,ws,_,_,_,_,_,_,_,g1,g2,g3,g4,_⟩:=PySem.W.codeHd_of_K Q t3
     obtain⟨more,z⟩:=tabs b hb
     exact .inr (.inl ⟨⟨c,o2,ws,g1,g2,g3,g4⟩,rfl,#[],more,rfl,z⟩)
    ·exact .inl (kept b o e hb)
 have tab:∀ {H:Hp}{p:Addr},p∈ts->ObjOk P w H f.heap p (.tbl #[]):=λB=>(A _ B).1
 cases N:K.lookup a with
 | some o =>
  have e:=Q a o N
  rw[ha]at e
  cases e
  refine core (λb=>if b∈ts then some (.tbl #[]) else none) (λb=>?_) (λp B=>Jf B) (.inr ⟨_,vs.toArray,_,N,rfl,rfl,rfl,by rw[Jj,J];exact Y,by simpa using X⟩) (λb u z=>?_) λz=>absurd (Jc aT) z
  ·by_cases hb:b∈ts
   ·exact .inr (.inr ⟨hb,Jf hb⟩)
   ·exact .inl (Jc hb)
  ·by_cases hb:b∈ts
   ·have i:=(Jf hb).symm.trans z
    cases i
    exact tab hb
   ·have i:=(Jc hb).symm.trans z
    cases i
 | none =>
  refine core (λb=>if b∈ts then some (.tbl #[]) else if b=a then some (.frz { cls:=.type "list",data:=.seq vs.toArray } (.lst (ns.map V.int))) else none) (λb=>?_) (λp B=>Jf B) (.inl (.inr ⟨{ cls:=.type "list",data:=.seq vs.toArray },(Jc aT).trans (Jf rfl)⟩)) (λb u z=>?_) λ_=>N
  ·by_cases hb:b∈ts
   ·exact .inr (.inr ⟨hb,Jf hb⟩)
   ·by_cases C:b=a
    ·exact .inr (.inl ⟨C,_,_,(Jc hb).trans (Jf C)⟩)
    ·exact .inl ((Jc hb).trans (Jc C))
  ·by_cases hb:b∈ts
   ·have i:=(Jf hb).symm.trans z
    cases i
    exact tab hb
   ·by_cases C:b=a
    ·have i:=((Jc hb).trans (Jf C)).symm.trans z
     cases i
     subst C
     exact⟨ha,by rw[Jh];exact Y,vs,_,X,ha⟩
    ·have i:=((Jc hb).trans (Jc C)).symm.trans z
     cases i
theorem zjM {l:PySem.W.OpenLaw}{n k:Nat}{q:Program}{loose:List Str}{N:(Str->Option Value)->Heap->Prop}{A:World->Heap->Prop}{d:DefRec}{K:Params->PySem.W.Frag}{CX:CXT}{sp:PySem.W.Frag->Sp}{x:Str}(ts:List Addr)
  (D:l.most=some n) (r:n<=sizeLine) (y:d.params.defaults=[]) (C:Room k callerA)
  (I:∀ (w:World) (h:Heap),A w h->(K w.params).In h/\∀ p∈ts,h.get? p=some (PySem.W.tabObj #[]))
  (F:∀ (w:World) (mg:Str->Option Value) (i:Addr) (h:Heap),(K w.params).In h->h.Ns mainGlobals mg->mg d.name=some (.ref i)->(∀ p∈ts,(K w.params).lookup p=none/\∃ c,PySem.W.codeHdIn (K w.params) c p=true) /\
   ∃ fd:FuncData,(∀ (s:Shared) (u:Value),BindsTo s fd ⟨[u],[]⟩ [(x,u)]) /\
    ∀ base:Heap,(K w.params).In base->base.Ns mainGlobals mg->(∀ p∈ts,base.BuiltinsAt mg p)->FnOk l.prog w (K w.params) mg base CX k i fd [x] (sp (K w.params)))
  (m:∀ (K:PySem.W.Frag) (H:Hp) (a:Addr) (ns:List Int),ns.length<=n->SqL K H a (ns.map V.int)->(∀ p∈ts,H p=some (.tbl #[]))->sp K [.ref a] H (λv _=>v=.bl true) λ_ _ _=>False)
  (z:∀ (H:Hp) (s:Shared) (e:Value) (s':Shared),CX [] H s (λ_ _ _=>False) e s'->False) :
  PySem.W.WalkO q loose N A l.row.toRowW d [] (λf vs=>PySem.call f vs):=by
 refine Att.attach_call D y λw s₀ b mg mb i o pm cd doc a vs ns G Y P hd O t g hints hlen E=>?_
 obtain⟨B,tb⟩:=I w _ Y
 obtain⟨tk,fd,hb,M⟩:=F w mg i _ B G.T.g t
 exact ziW ts B G.T.g G.T.b G.T.builtins G.T.nolimit E g hints (JW hlen r) C (λp j=>⟨tb p j,(tk p j).1,(tk p j).2⟩) G.T.bmain M hb (λH L J=>m (K w.params) H a ns hlen L J) λH e s'=>z H b e s'
structure FunC (K:PySem.W.Frag) (x qual:Str) (st:Stmt) (f:Addr) (fd:FuncData) (c:Addr):Prop where
 ex:∃ (oc:Value) (od:Option Addr) (kV doc pm:Value) (an:Option Addr) (ct:Value) (osl:Array (Option Value)),
  fd=PySem.W.fnOf x qual (zbM st) (zbd st) (zal st) .none kV doc pm an (.ref c) ct/\K.lookup f=some ⟨oc,od,.func fd,osl⟩/\PySem.W.codeIn K (.ref c) qual=true
 kp:PySem.W.keepIn K (.ref f)=true
theorem FunC.ok {P:Program}{w:World}{K:PySem.W.Frag}{mg:Str->Option Value}{base:Heap}{x qual:Str}{st:Stmt}{f c:Addr}{fd:FuncData}{N ps:List Str}{k:Nat}{sp:Sp}(F:FunC K x qual st f fd c) (S:FnScope N ps (zal st)) (len:∀ vs H Q E,sp vs H Q E->vs.length=ps.length)
  (a:∀ (A:Around) (outer:List Env) (s:Shared) (H:Hp) (vs:List V) (Q:VK) (E:XK),Room k (A.deeper (envOfC qual (zal st) s.heap.objs.size f (.ref c)))->sp vs H Q E ->
   ∃ t,PSs (cxOf CX0 P w K mg base N qual (zal st) f (.ref c) A outer s H E).nox (zbd st) t/\t { nx:=λ_ H'=>Q .non H',rt:=Q } (zdG N vs) H):FnOk P w K mg base CX0 (k+1) f fd ps sp:=by
 obtain⟨oc,od,kV,doc,pm,an,ct,osl,rfl,e,d⟩:=F.ex
 refine zm8 e d S len λA outer s H vs Q E g b=>?_
 obtain⟨t,h,q⟩:=a A outer s H vs Q E g b
 exact⟨t,h.nox,q⟩
end L2
namespace L2
open PySem PySem.Spec PyProof.Rows Own Bn
def zc2 (N:Nt) (ts:List Int) (lane:Nat):List Int:=(zaC false N.forks ts lane N.forks.length).1
def passE (N:Nt) (ts:List Int) (lane:Nat):Nat:=N.ends.idxOf (zaC false N.forks ts lane N.forks.length).2
def za6 (N:Nt):KN->Nat->Option KN
 | [.inr ts,.inl r],m=>if ((passE N ts m:Nat):Int)=r then some (stK (zc2 N ts m) [(r+1)%(N.lanes:Nat)]) else none
 | _,_=>none
def OkP (N:Nt) (k:KN):Prop:=∃ (ts:List Int) (r:Nat),k=stK ts [(r:Nat)]/\ts.length=N.forks.length/\Bits ts/\r<N.lanes
theorem OkP.st {N:Nt}(ok:Nt.Ok N) {k:KN}(h:OkP N k):StOk N.forks.length 1 k:=by
 obtain⟨ts,r,rfl,h1,b,c⟩:=h
 refine⟨ts,[(r:Nat)],rfl,h1,b,rfl,λx a=>?_⟩
 rw[Je.mp a]
 have:=ok.l16
 lia
theorem zeS (N:Nt) (ts:List Int) (lane:Nat):(zc2 N ts lane).length=ts.length:=zcn _
theorem zdP {N:Nt}{ts:List Int}{lane:Nat}(h:Bits ts):Bits (zc2 N ts lane):=zcN h _
theorem zga {N:Nt}(ok:Nt.Ok N) {s t:KN}{m:Nat}(h:OkP N s) (e:za6 N s m=some t):OkP N t:=by
 obtain⟨ts,r,rfl,h1,b,c⟩:=h
 have a:(if ((passE N ts m:Nat):Int)=(r:Nat) then some (stK (zc2 N ts m) [((r:Nat)+1)%(N.lanes:Nat)]) else none)=some t:=e
 split at a
 ·cases a
  refine⟨zc2 N ts m,(r+1)%N.lanes,?_,(zeS _ _ _).trans h1,zdP b,Nat.mod_lt _ (by have:=ok.l1;lia)⟩
  rw[Int.natCast_emod];rfl
 ·cases a
def zd8:Sp:=λvs H Q _=>∃ r fr er ps N b k,∃ lane:Nat,vs=[.ref r,.ref b,.int (lane:Nat)]/\Nt.Ok N/\NetAt H r fr er ps N/\NKey H k b/\OkP N k/\lane<N.lanes /\
 (∀ a,Same H a->za6 N k lane=none->Q .non a)/\(∀ a c t,Same H a->za6 N k lane=some t->NKey a t c->Q (.ref c) a)
def zcT:LSpc:=λvals vs H Q E=>∃ r b,∃ lane:Nat,vals=[.ref r]/\vs=[.ref b,.int (lane:Nat)]/\zd8 [.ref r,.ref b,.int (lane:Nat)] H Q E
theorem zky {H:Hp}{r fr er:Addr}{ps:List V}{N:Nt}{moves:List Nat}(ok:Nt.Ok N) (na:NetAt H r fr er ps N) (lt:∀ m∈moves,m<N.lanes):Led zcT [.ref r] (za6 N) (OkP N) moves H:=λH1 s b m Q t os d e c a =>
 ⟨r,b,m,rfl,rfl,r,fr,er,ps,N,b,s,m,rfl,ok,na.tups t,e,os,lt m d,c,a⟩
def TabQ (q:Str) (Pt:Addr) (H:Hp):Prop:=∃ l,H Pt=some (.tbl (triples l).toArray)/\TabOk H q l
theorem TabQ.keep {q:Str}{Pt:Addr}{H H':Hp}(t:TabQ q Pt H) (k:∀ b o,H b=some o->(∃ ps,o=.tbl ps)\/(∃ u v,o=.frz u v)->H' b=some o):TabQ q Pt H':=by
 obtain⟨l,h1,a⟩:=t
 exact⟨l,k _ _ h1 (.inl ⟨_,rfl⟩),a.frz λb o u e=>k _ _ e (.inr ⟨_,_,rfl⟩)⟩
theorem TabQ.same {q:Str}{Pt:Addr}{H H':Hp}(t:TabQ q Pt H) (s:Same H H'):TabQ q Pt H':=t.keep λb o e _=>s b o e
theorem TabQ.but {q:Str}{Pt l:Addr}{H H':Hp}{xs:List V}(t:TabQ q Pt H) (b:But l H H') (h:H l=some (.lst xs)):TabQ q Pt H':=t.keep λc o e z=>b c o e λy=>by
 rw[y,h]at e
 cases e
 rcases z with ⟨_,z⟩|⟨_,_,z⟩<;>cases z
def zbk (N:Nt) (moves:List Nat) (most:Nat):LRes:=za4 (za6 N) moves most (most+1) [(stK (List.replicate N.forks.length 0) [0],List.replicate N.lanes 0)] [] []
def zd9:Sp:=λvs H Q _=>∃ r fr er ps N,vs=[.ref r]/\Nt.Ok N/\NetAt H r fr er ps N/\∀ p H',Same H H'->H' p=some (.tup ((List.replicate N.forks.length (0:Int)).map V.int))->Q (.ref p) H'
def zea:Sp:=λvs H Q _=>∃ r fr er ps N,vs=[.ref r]/\Nt.Ok N/\NetAt H r fr er ps N/\∀ p H',Same H H'->NKey H' (stK (List.replicate N.forks.length 0) [0]) p->Q (.ref p) H'
structure Whole (Ok:KN->Prop) (most:Nat) (ls:List LvL):Prop where
 ok:∀ lv∈ls,∀ p∈lv,Ok p.1
 few:(ls.map List.length).sum<=most
theorem zdB {step:KN->Nat->Option KN}{Ok:KN->Prop}{moves:List Nat}{most:Nat}(g:∀ s m t,Ok s->m∈moves->step s m=some t->Ok t):∀ (m:Nat) (level seen:LvL) (ls a:List LvL),Whole Ok most ls->(ls.map List.length).sum=seen.length->seen.length<=most->(∀ p∈level,Ok p.1)->za4 step moves most m level seen ls=.whl a->Whole Ok most a
 | 0,_,_,_,_,_,_,_,_,e=>by cases e
 | m+1,level,seen,ls,a,d,i,le,lo,e=>by
  by_cases c:level=[]
  ·subst c;rw[zcE]at e;cases e;exact d
  by_cases h:most<seen.length+level.length
  ·rw[zdC c h]at e;cases e
  by_cases f:(zbe step (seen++level) moves level).fl=[]
  ·rw[zda c h f]at e
   have e2:((ls++[level]).map List.length).sum=(seen++level).length:=by rw[Y2,List.sum_append,i,Jb];rfl
   refine zdB g m _ (seen++level) _ a ⟨λlv j p b=>?_,?_⟩ e2 (by rw[Jb];lia) (λp b=>?_) e
   ·rcases Jz.mp j with z|z
    ·exact d.ok lv z p b
    ·rw[Je.mp z]at b;exact lo p b
   ·rw[e2,Jb];lia
   ·exact(zdn (step:=step) (seen:=seen++level) (moves:=moves) (Ok:=Ok) level λp b k l t e=>g _ _ _ (lo p b) l e).ok p b
  ·rw[zcF c h f]at e;cases e
theorem TellR.kept {P:Program}{w:World}{H H':Hp}{p:Addr}{R:LRes}(h:TellR P w H p R) (k:∀ b o,H b=some o->(∀ q,o≠FZ q)->H' b=some o):TellR P w H' p R:=by
 have t:Tups H H':=λb xs e=>k b _ e λq z=>by cases z
 cases R with
 | opn=>exact t _ _ h
 | brk c=>obtain⟨b,h1,a⟩:=h;exact⟨b,t _ _ h1,t _ _ a⟩
 | whl ls =>
  obtain⟨l,as,h1,a,d⟩:=h
  refine⟨l,as,t _ _ h1,k _ _ a (λq z=>by cases z),?_⟩
  clear h1 a
  induction d with
  | nil=>exact .nil
  | cons q _ ih =>
   obtain⟨xs,e,le⟩:=q
   exact .cons ⟨xs,k _ _ e (λq z=>by cases z),le.tups t⟩ ih
theorem zgS {cs:List (Str × Addr)}{H:Hp}(fz:CellsFz cs H):∀ b o,H b=some o->(∀ q,o≠FZ q)->za5 cs H b=some o:=λb o e n=>by
 rw[zaH];· exact e
 ·intro hb
  obtain⟨q,z⟩:=fz b hb
  rw[e]at z
  exact n q (Jr z)
theorem zeV {N:Nt}(ok:Nt.Ok N):OkP N (stK (List.replicate N.forks.length 0) [0]):=⟨_,0,rfl,Y3,λt a=>.inl (List.eq_of_mem_replicate a),ok.l1⟩
end L2
namespace K36
open PySem L2 Own Bn
abbrev zfA:Stmt:=top 9
abbrev zfB:Stmt:=top 15
abbrev zhZ:Stmt:=top 16
abbrev zhV:Stmt:=top 14
theorem zgy (n:Nat):List.replicate n (V.int 0)=(List.replicate n (0:Int)).map V.int:=(List.map_replicate).symm
theorem zgQ {ls:List LvL}{lv:LvL}(h:lv∈ls):lv.length<=(ls.map List.length).sum:=by
 induction ls with
 | nil=>cases h
 | cons a ls ih =>
  show lv.length<=a.length+(ls.map List.length).sum
  rcases Ju.mp h with rfl|z
  ·exact Nat.le_add_right _ _
  ·exact JW (ih z) (Nat.le_add_left _ _)
section
variable {P:Program}{w:World}{K:PySem.W.Frag}{mg:Str->Option Value}{base:Heap}
theorem scFt:FnScope ["net"] ["net"] (zal zfA):=by trivial
theorem zit {f:Addr}{fd:FuncData}(F:Fun K "first_turns" "first_turns" zfA f fd) (G:Mgs mg):FnOk P w K mg base CX0 1 f fd ["net"] zd9:=by
 refine F.ok scFt (λvs H Q E h=>?_) (λcdv A outer s H vs Q E c h=>?_)
 ·obtain⟨r,fr,er,ps,N,rfl,_⟩:=h
  rfl
 obtain⟨r,fr,er,ps,N,rfl,ok,na,k⟩:=h
 refine⟨_,(@zai _ _ _ (@zat _ _ _ _ (@zao _ _ _ _ _ _ _ _ zij (@zaB _ _ _ _ _ (@zaa _ _ _ _ _ zae zac (by rfl))) (@zaq _ _ _ _ _ _ _ _ _ zas (by rfl) G.len Yn (@zaa _ _ _ _ _ (@zay _ _ _ _ _ _ _ zaK (@qv _ 0 _ _ (by trivial)) zae (λ_ _=>rfl)) zac (by rfl)) (by decide) (by decide) (by rfl) (by rfl))))),?_⟩
 refine⟨by show 1<=sizeLine;decide,λt b=>?_⟩
 have s1:=zab b (.tup [.int 0])
 have a:=na.prs.len
 have fm:=ok.fm
 refine⟨_,rfl,r,_,_,_,rfl,rfl,SqT.of (s1 _ _ na.net),rfl,fr,ps,rfl,.inr (SqT.of (s1 _ _ na.forks)),t,_,ps.length,rfl,rfl,zaf,by lia,λp H' s' h'=>k p H' (s1.trans s') ?_⟩
 rw[h',zgy,a]
theorem scFp:FnScope ["net"] ["net"] (zal zfB):=by trivial
theorem ziu {f d:Addr}{fd dT:FuncData}(F:Fun K "first_pair" "first_pair" zfB f fd) (a:Use P w K mg base "first_turns" ["net"] 1 zd9 d dT):FnOk P w K mg base CX0 2 f fd ["net"] zea:=by
 refine F.ok scFp (λvs H Q E h=>?_) (λcdv A outer s H vs Q E b h=>?_)
 ·obtain⟨r,fr,er,ps,N,rfl,_⟩:=h
  rfl
 obtain⟨r,fr,er,ps,N,rfl,ok,na,k⟩:=h
 refine⟨_,(@zai _ _ _ (@zat _ _ _ _ (@zaB _ _ _ _ _ (@zaa _ _ _ _ _ (@zam _ _ _ _ _ _ _ _ _ _ _ _ _ _ _ _ a.ok b (by rfl) a.m a.kp a.b .nil zaD (@zaa _ _ _ _ _ (@qv _ 0 _ _ (by trivial)) zac (by rfl)) (by decide) (by rfl) (by rfl)) (@zaa _ _ _ _ _ zae zac (by rfl)) (by rfl))))),?_⟩
 refine⟨_,rfl,r,fr,er,ps,N,rfl,ok,na,λt H1 s1 h1=>⟨by show 2<=sizeLine;decide,λp c=>?_⟩⟩
 have s2:=zab c (.tup [.ref t,.int 0])
 exact k p _ (s1.trans s2) (znd (is:=[0]) (t:=t) zaf (s2 _ _ h1))
theorem scPb:FnScope ["net","pair","lane","turns","rest","onward","end"] ["net","pair","lane"] (zal zhZ):=by trivial
theorem zkd {f v:Addr}{fd x:FuncData}(F:Fun K "pair_behind" "pair_behind" zhZ f fd) (d:Use P w K mg base "passed" ["net","turns","lane"] 3 (zhH false) v x):FnOk P w K mg base CX0 4 f fd ["net","pair","lane"] zd8:=by
 refine F.ok scPb (λvs H Q E h=>?_) (λcdv A outer s H vs Q E n h=>?_)
 ·obtain⟨r,fr,er,ps,N,b,k,lane,rfl,_⟩:=h
  rfl
 obtain⟨r,fr,er,ps,N,b,k,lane,rfl,ok,na,l,⟨ts,rest,rfl,tl,bits,B⟩,j,i,g⟩:=h
 refine⟨_,(@zad _ _ _ _ _ (@zaV _ _ _ _ _ _ (@qv _ 1 _ _ (by trivial)) (@zaU _ _ _ _ _ _ rfl (@zak _ _ _ _ _ (@zaj _ _ 3 _ scPb.nd rfl (.inl rfl) (by trivial)) (@zak _ _ _ _ _ (@zaj _ _ 4 _ scPb.nd rfl (.inl rfl) (by trivial)) zaL (by rfl)) (by rfl)) (by rfl) (by rfl)) (by rfl) (by rfl) (by rfl)) (@zad _ _ _ _ _ (@zaV _ _ _ _ _ _ (@zam _ _ _ _ _ _ _ _ _ _ _ _ _ _ _ _ d.ok n (by rfl) d.m d.kp d.b .nil zaD (@zaa _ _ _ _ _ (@qv _ 0 _ _ (by trivial)) (@zaa _ _ _ _ _ (@qv _ 3 _ _ (by trivial)) (@zaa _ _ _ _ _ (@qv _ 2 _ _ (by trivial)) zac (by rfl)) (by rfl)) (by rfl)) (by decide) (by rfl) (by rfl)) (@zaU _ _ _ _ _ _ rfl (@zak _ _ _ _ _ (@zaj _ _ 5 _ scPb.nd rfl (.inl rfl) (by trivial)) (@zak _ _ _ _ _ (@zaj _ _ 6 _ scPb.nd rfl (.inl rfl) (by trivial)) zaL (by rfl)) (by rfl)) (by rfl) (by rfl)) (by rfl) (by rfl) (by rfl)) (@zad _ _ _ _ _ (@zbc _ _ _ _ _ _ _ _ (@zaz _ _ _ _ _ _ _ _ zj8 (@qv _ 6 _ _ (by trivial)) (@qv _ 4 _ _ (by trivial)) (zaG _)) (@zai _ _ _ (@zat _ _ _ _ zie)) zaI) (@zai _ _ _ (@zat _ _ _ _ (@zaB _ _ _ _ _ (@zaa _ _ _ _ _ (@qv _ 5 _ _ (by trivial)) (@zaa _ _ _ _ _ (@zao _ _ _ _ _ _ _ _ zb4 (@zao _ _ _ _ _ _ _ _ zaW (@qv _ 4 _ _ (by trivial)) zae) (@zay _ _ _ _ _ _ _ zaK (@qv _ 0 _ _ (by trivial)) zae (λ_ _=>rfl))) zac (by rfl)) (by rfl)))))))),?_⟩
 obtain⟨t,hb,m⟩:=zhF l
 refine⟨_,rfl,b,_,rfl,SqT.of hb,rfl,_,_,rfl,_,_,rfl,rfl,?_⟩
 refine⟨_,rfl,_,rfl,_,rfl,r,fr,er,ps,N,t,ts,lane,rfl,ok,na,m,tl,bits,j,λp a H1 s1 u e=>?_⟩
 refine⟨p,_,rfl,SqT.of u,rfl,_,_,rfl,_,_,rfl,rfl,?_⟩
 have st:za6 N (stK ts [(rest:Nat)]) lane=if ((passE N ts lane:Nat):Int)=(rest:Nat) then some (stK (zc2 N ts lane) [((rest:Nat)+1)%(N.lanes:Nat)]) else none:=rfl
 refine⟨_,rfl,_,rfl,rfl,_,rfl,?_⟩
 by_cases c:((passE N ts lane:Nat):Int)=(rest:Nat)
 ·rw[Jf c]at st
  have y:((List.idxOf (zaC false N.forks ts lane N.forks.length).snd N.ends:Nat):Int)=(rest:Nat):=c
  rw[show (!decide (V.int ↑(List.idxOf (zaC false N.forks ts lane N.forks.length).snd N.ends)=V.int ↑rest))=false from by rw[JB (JS V.int y)];rfl]
  refine iteF ⟨_,rfl,_,rfl,_,_,rfl,rfl,_,rfl,r,_,_,_,rfl,rfl,SqT.of (s1 _ _ na.net),rfl,_,_,rfl,rfl,by have:=ok.l1;lia,by show 2<=sizeLine;decide,λq o=>?_⟩
  have s2:=zab o (.tup [.ref a,.int (((rest:Nat)+1)%(N.lanes:Nat))])
  exact g _ q _ (s1.trans s2) st (znd (is:=[((rest:Nat)+1)%(N.lanes:Nat)]) (t:=a) zaf (s2 _ _ e))
 ·rw[Jc c]at st
  rw[show (!decide (V.int ↑(List.idxOf (zaC false N.forks ts lane N.forks.length).snd N.ends)=V.int ↑rest))=true from by rw[Jt (λz=>c (by injection z))];rfl]
  exact iteT (i _ s1 st)
def znE (q:Str):Stmt->Lam
 | .Assign _ (.Call _ (_::_::_::.Lambda p b s _::_) _ _) _=>⟨p,b,s,q⟩
 | _=>⟨⟨[],[],none,[],[],none,[]⟩,.Name "" ⟨0,0,0,0⟩,zal zhV,q⟩
def lamV (q:Str):Lam:=znE q ((zbd zhV).getD 0 (.Pass ⟨0,0,0,0⟩))
theorem zms {us:List Value}(h:us.length=2):∃ u v,us=[u,v]:=by
 match us,h with
 | [u,v],_=>exact⟨u,v,rfl⟩
theorem zl6 {l:List (Str × NameKind)}{x:Str}{k:NameKind}(h:l.lookup x=some k):(x,k)∈l:=by
 obtain⟨a,c,e,_⟩:=List.lookup_eq_some_iff.mp h
 rw[e]
 exact Jz.mpr (.inr (.head _))
theorem scLV:LamScope ["pair","lane"] ["net"] (lamV "").scope:=⟨rfl,rfl,rfl,by decide +kernel,by decide +kernel,by decide +kernel,by decide +kernel,λx a=>(show ∀ y∈(lamV "").scope.names,y.2=.free->y.1∈[("net":Str)] from by decide +kernel) _ (zl6 a) rfl⟩
theorem zkE (q:Str) {f:Addr}{fd:FuncData}(a:Use P w K mg base "pair_behind" ["net","pair","lane"] 4 zd8 f fd):LamQ CX0 P w K mg base 4 (lamV q) ["net"] ["pair","lane"] zcT:=by
 refine⟨scLV,λvals vs H Q E h=>?_,λcl us e pm cdv ct=>by obtain⟨u,v,rfl⟩:=zms e;rfl,λcl g c A outer s H vals vs Q E i d fz h=>?_⟩
 ·obtain⟨r,b,lane,_,rfl,_⟩:=h
  rfl
 obtain⟨r,b,lane,rfl,rfl,h⟩:=h
 refine⟨_,zam a.ok d (by rfl) a.m a.kp a.b .nil zaD (zaa (pv 2) (zaa (pv 0) (zaa (pv 1) zac))),?_⟩
 exact⟨_,rfl,_,rfl,_,rfl,h⟩
theorem zkI {sc:Scope}{x0:Str}{env:Env}(h:(sc.names.filter λy=>y.2 == .free)=[(x0,.free)]) (k:env.kindOf x0=some .cell):∀ x,(x,NameKind.free)∈sc.names->env.kindOf x=some .cell\/env.kindOf x=some .free:=λx a=>by
 have z:(x,NameKind.free)∈sc.names.filter λy=>y.2 == .free:=List.mem_filter.mpr ⟨a,rfl⟩
 rw[h]at z
 obtain⟨e,_⟩:=Prod.mk.inj (Je.mp z)
 exact .inl (e ▸ k)
theorem zm5 {X:Cx}{x:Str}{i:Nat}(h1:X.N[i]?=some x) (c:X.env.scope.names.lookup x=some .cell) (b:X.fn x=true):∀ p∈[(x,i)],X.N[p.2]?=some p.1/\X.env.scope.names.lookup p.1=some .cell/\X.fn p.1=true:=λp a=>by
 rw[Je.mp a]
 exact⟨h1,c,b⟩
theorem zgn {cs:List (Str × Addr)}{x:Str}(h:cs.map (·.1)=[x]):∃ c,cs=[(x,c)]:=by
 match cs,h with
 | [(y,c)],h=>exact⟨c,by rw[show y=x from (List.cons.inj h).1]⟩
def qV:Str:=("verdict":Str)++(".<locals>.":Str)++("<lambda>":Str)
def TellW (H:Hp) (p:Addr):LRes->Prop
 | .opn=>H p=some (.tup [.str "open",.non])
 | .brk c=>∃ b,H p=some (.tup [.str "breaks",.ref b])/\H b=some (.tup (c.map V.int))
 | .whl _=>∃ b,H p=some (.tup [.str "stair",.ref b])
def zfr (q:Str) (Pt:Addr):Sp:=λvs H Q _=>∃ r fr er ps N a,∃ (moves:List Nat) (most:Nat),vs=[.ref r,.ref a,.int (most:Nat)]/\Nt.Ok N/\NetAt H r fr er ps N/\H a=some (.tup (nums moves))/\(∀ m∈moves,m<N.lanes)/\moves.length<=16/\0<most/\most<=10000/\TabQ q Pt H /\
 ∀ p H',But Pt H H'->TabQ q Pt H'->TellW H' p (zbk N moves most)->Q (.ref p) H'
theorem scVd:FnScope ["net","some","most","word","found"] ["net","some","most"] (zal zhV):=by trivial
theorem zg3 {f fC fF fB c Pt:Addr}{fd dC dF dB:FuncData}(F:FunC K "verdict" "verdict" zhV f fd c) (CK:CodeK K mg base c Pt) (Z:Use P w K mg base "climbed" ["first","counts","moves","led","most"] 7 (zfw P w K (lamV qV) ["net"] zcT) fC dC) (Y:Use P w K mg base "first_pair" ["net"] 2 zea fF dF)
  (UB:∀ F0,Use P w K mg base "book_of" ["levels"] 1 (zhM P w F0 1) fB dB):FnOk P w K mg base CX0 8 f fd ["net","some","most"] (zfr qV Pt):=by
 refine F.ok scVd (λvs H Q E h=>?_) (λA outer s H vs Q E hr h=>?_)
 ·obtain⟨r,fr,er,ps,N,sm,moves,most,rfl,_⟩:=h
  rfl
 obtain⟨r,fr,er,ps,N,sm,moves,most,rfl,ok,na,ab,mlt,ml,mp,mb,tab,k⟩:=h
 refine⟨_,(@zad _ _ _ _ _ (@zaV _ _ _ _ _ _ (zj6 (E:=E0) Z.ok hr (by rfl) Z.m Z.kp Z.b [("net",0)] (by decide) (zm5 rfl rfl rfl) (@zaa _ _ _ _ _ (@zam _ _ _ _ _ _ _ _ _ _ _ _ _ _ _ _ Y.ok (hr.mono (by decide)) (by rfl) Y.m Y.kp Y.b .nil zaD (@zaa _ _ _ _ _ (@qv _ 0 _ _ (by trivial)) zac (by rfl)) (by decide) (by rfl) (by rfl)) (@zaa _ _ _ _ _ (@zao _ _ _ _ _ _ _ _ zij (@zaB _ _ _ _ _ (@zaa _ _ _ _ _ zae zac (by rfl))) (@zay _ _ _ _ _ _ _ zaK (@qv _ 0 _ _ (by trivial)) zae (λ_ _=>rfl))) (@zaa _ _ _ _ _ (@qv _ 1 _ _ (by trivial)) (@zaa _ _ _ _ _ (zmK (fr:=["net"]) CK rfl rfl (zkI (x0:="net") rfl rfl) rfl) (@zaa _ _ _ _ _ (@qv _ 2 _ _ (by trivial)) zac (by rfl)) (by rfl)) (by rfl)) (by rfl)) (by rfl))) (@zaU _ _ _ _ _ _ rfl (@zak _ _ _ _ _ (@zaj _ _ 3 _ scVd.nd rfl (.inl rfl) (by trivial)) (@zak _ _ _ _ _ (@zaj _ _ 4 _ scVd.nd rfl (.inl rfl) (by trivial)) zaL (by rfl)) (by rfl)) (by rfl) (by rfl)) (by rfl) (by rfl) (by rfl)) (@zad _ _ _ _ _ (@zbc _ _ _ _ _ _ _ _ (@zaz _ _ _ _ _ _ _ _ zbQ (@qv _ 3 _ _ (by trivial)) zcp (zaG _)) (@zai _ _ _ (@zat _ _ _ _ (@zaB _ _ _ _ _ (@zaa _ _ _ _ _ zcp (@zaa _ _ _ _ _ (@zam _ _ _ _ _ _ _ _ _ _ _ _ _ _ _ _ (UB N.forks.length).ok (hr.mono (by decide)) (by rfl) (UB 0).m (UB 0).kp (UB 0).b .nil zaD (@zaa _ _ _ _ _ (@qv _ 4 _ _ (by trivial)) zac (by rfl)) (by decide) (by rfl) (by rfl)) zac (by rfl)) (by rfl))))) zaI) (@zai _ _ _ (@zat _ _ _ _ (@zaB _ _ _ _ _ (@zaa _ _ _ _ _ (@qv _ 3 _ _ (by trivial)) (@zaa _ _ _ _ _ (@qv _ 4 _ _ (by trivial)) zac (by rfl)) (by rfl))))))),?_⟩
 have l16:=ok.l16
 refine⟨_,rfl,r,fr,er,ps,N,rfl,ok,na,λb0 H1 s1 k1=>⟨by show 1<=sizeLine;decide,λt ht=>?_⟩⟩
 have s2:=zab ht (.tup [.int 0])
 refine⟨_,rfl,r,_,_,_,rfl,rfl,SqT.of (s2 _ _ (s1 _ _ na.net)),rfl,t,_,N.lanes,rfl,rfl,zaf,by lia,λc0 H2 s3 U=>?_⟩
 rw[zgy]at U
 have O:=(s1.trans s2).trans s3
 obtain⟨l,hP,tok⟩:=tab.same O
 refine⟨_,rfl,l,hP,tok,λX cl l' H3 ah ai hf raw ae J kp=>?_⟩
 refine⟨_,rfl,[.ref r],rfl,λj x i v S hv=>?_,λcs D ag M nd ca out fre=>?_⟩
 ·cases j with
  | zero=>cases S;cases hv;rfl
  | succ j=>cases S
 obtain⟨a,rfl⟩:=zgn ah
 obtain⟨c2,rfl⟩:=zgn ag
 have cc:a=c2:=Jr ((ai _ (.head _)).symm.trans (M _ (.head _)))
 subst cc
 have b3:But Pt H H3:=λb o e n=>kp b o (O b o e) n
 have d:Same H3 D:=λb o e=>by
  rw[out b λhb=>by rw[fre b hb]at e;cases e];exact e
 have aa:NetAt D r fr er ps N:=(na.tups (Tups.of O)).tups λb xs e=>d _ _ (kp _ _ e (zcQ e hP λz=>by cases z))
 have y:Tups H2 D:=λb xs e=>d _ _ (kp _ _ e (zcQ e hP λz=>by cases z))
 have L:LamRaw D X (lamV qV) [("net",a)]:=by
  obtain⟨pm,cd,ct,oc,fs,tk,r1,r2,r3,r4⟩:=raw.ex
  exact⟨pm,cd,ct,oc,fs,tk,d _ _ r1,d _ _ r2,r3,r4⟩
 have la:LamAt D X (lamV qV) [("net",a)] [.ref r]:=L.at_ ca (JR.mpr ⟨Jv,Z3⟩) (JR.mpr ⟨Jv,Z3⟩) rfl λi x c v S hv=>⟨i,S,hv⟩
 have W:Way K D sm X (lamV qV) ["net"] zcT [("net",a)] [.ref r] (za6 N) (OkP N) moves N.lanes:=⟨.inl (y _ _ (O _ _ ab)),rfl,la,zky ok aa mlt,mlt,λs m t os _ e=>zga ok os e,by lia⟩
 refine⟨b0,c0,sm,X,_,List.replicate N.lanes 0,moves,[("net",a)],[.ref r],za6 N,OkP N,N.lanes,most,rfl,(k1.tups (Tups.of (s2.trans s3))).tups y,y _ _ U,Y3,zeV ok,W,by lia,ml,mp,λp C s5 tell=>?_⟩
 have af:CellsFz [("net",a)] C:=λb hb=>by
  obtain⟨o,z⟩:=ca.fz b hb
  exact⟨o,s5 _ _ z⟩
 replace tell:=TellR.kept tell (zgS af)
 have I:Same H3 (za5 [("net",a)] C):=λb o e=>by
  rw[zaH λhb=>by rw[fre b hb]at e;cases e]
  exact s5 _ _ (d _ _ e)
 have b6:But Pt H (za5 [("net",a)] C):=b3.trans (But.of I)
 have g:TabQ qV Pt (za5 [("net",a)] C):=TabQ.same ⟨l',ae,J⟩ I
 show gTup _ _ _ _ _ (za5 [("net",a)] C) _
 generalize za5 [("net",a)] C=H6 at *
 have fin:∀ (q:Addr) (vs:List V) (R:LRes),H6 q=none->zbk N moves most=R->TellW (L2.upd H6 q (.tup vs)) q R->Q (.ref q) (L2.upd H6 q (.tup vs)):=λq vs R B e z=>by
  have G:=zab B (.tup vs)
  refine k q _ (b6.trans (But.of G)) (g.same G) ?_
  rw[e];exact z
 change TellR P w H6 p (zbk N moves most) at tell
 cases u:zbk N moves most with
 | opn =>
  rw[u]at tell
  refine⟨p,_,rfl,SqT.of tell,rfl,_,_,rfl,_,_,rfl,rfl,?_⟩
  refine⟨_,rfl,rfl,false,JS V.bl (Jt λz=>absurd (V.str.inj z) (by decide)),iteF ?_⟩
  exact⟨_,rfl,_,rfl,by show 2<=sizeLine;decide,λq B=>fin q _ .opn B u zaf⟩
 | brk bc =>
  rw[u]at tell
  obtain⟨b,h1,h2⟩:=tell
  refine⟨p,_,rfl,SqT.of h1,rfl,_,_,rfl,_,_,rfl,rfl,?_⟩
  refine⟨_,rfl,rfl,false,JS V.bl (Jt λz=>absurd (V.str.inj z) (by decide)),iteF ?_⟩
  exact⟨_,rfl,_,rfl,by show 2<=sizeLine;decide,λq B=>fin q _ (.brk bc) B u ⟨b,zaf,zab B _ _ _ h2⟩⟩
 | whl ls =>
  rw[u]at tell
  obtain⟨ll,as,h1,h2,U⟩:=tell
  refine⟨p,_,rfl,SqT.of h1,rfl,_,_,rfl,_,_,rfl,rfl,?_⟩
  refine⟨_,rfl,rfl,true,JS V.bl (JB rfl),iteT ?_⟩
  have wh:=zdB (Ok:=OkP N) (moves:=moves) (λs m t os _ e=>zga ok os e) _ _ [] [] ls ⟨λlv T=>absurd T Jv,JL _⟩ rfl (JL _) (λp hp=>by rw[Je.mp hp];exact zeV ok) u
  have wf:=wh.few
  refine⟨_,rfl,ll,as,ls,rfl,h2,U,λlv T=>⟨?_,λp hp=>(wh.ok lv T p hp).st ok⟩,by lia,λq H7 G=>?_⟩
  ·have:=zgQ T
   lia
  refine⟨by show 2<=sizeLine;decide,λq2 ad=>?_⟩
  have s8:=zab ad (.tup [.str "stair",.ref q])
  refine k q2 _ ((b6.trans (But.of G)).trans (But.of s8)) ((g.same G).same s8) ?_
  rw[u]
  exact⟨q,zaf⟩
end
end K36
namespace Bn
open PySem L2 Own
theorem zne {ps:List V}{x:V}(h:ps[ps.length-1]?=some x):atI ps (-1)=some x:=by
 have ne:ps≠[]:=by rintro rfl;simp at h
 have g:ps.getLast ne=x:=by rw[List.getLast_eq_getElem];exact(Jd.mp h).2
 have e:ps=ps.dropLast++[x]:=by rw[<- g];exact(List.dropLast_concat_getLast ne).symm
 rw[e];exact zkX _ _
theorem zdW {α:Type}:∀ (xs:List α) (k:Nat) (h:k<xs.length),(xs[k]::xs.eraseIdx k).Perm xs
 | x::xs,0,_=>.refl _
 | x::xs,k+1,h=>by
  have a:k<xs.length:=by simpa using h
  have ih:=zdW xs k a
  exact(List.Perm.swap x xs[k] _).trans (ih.cons x)
end Bn
namespace L2
open PySem
theorem ze3 {c:TT}{ta tb u:TS}{D:Ends}{σ:St}{H:Hp}(I:St->Hp->Prop) (key:∀ σ H,I σ H->u D σ H) (h:∀ a:Ends,(∀ σ H,I σ H->a.nx σ H)->a.rt=D.rt->tIfS c ta tb a σ H):tSeq (tIfS c ta tb) u D σ H:=h { D with nx:=u D } key rfl
theorem znf {v:V}{i:Nat}{u:TS}{D:Ends}{σ:St}{H:Hp}(h:u D (σ.set i (some v)) H):tSeq (tAsg (tC v) (zdt i)) u D σ H:=h
theorem zcs {H H':Hp}{x:Addr}(s:Same H H') (h:H' x=none):H x=none:=by
 cases e:H x with
 | none=>rfl
 | some o=>rw[s _ _ e]at h;cases h
def zmE (K:PySem.W.Frag):List V->Hp->VK->Prop:=λxs H Q=>∃ p ys,xs=[V.ref p]/\(SqL K H p ys\/SqT K H p ys)/\Q (V.int ys.length) H
theorem zjx {X:Cx}:CallR X (.builtin "len") (zmE X.K):=zas
end L2
namespace Bn
open PySem L2 Own
structure Pk3 (H:Hp) (l:Addr):Prop where
 ex:∃ a b c:Int,H l=some (.lst [.int a,.int b,.int c])/\0<=a/\0<=b/\b<2 ^ 31
theorem Pk3.keep {H H':Hp}{l:Addr}(S:Pk3 H l) (s:Same H H'):Pk3 H' l:=by
 obtain⟨a,b,c,h,r⟩:=S.ex
 exact⟨a,b,c,s _ _ h,r⟩
theorem Pk3.lst {H:Hp}{l:Addr}(S:Pk3 H l):∃ xs,H l=some (.lst xs):=by
 obtain⟨a,b,c,h,_⟩:=S.ex
 exact⟨_,h⟩
theorem Pk3.ne {H:Hp}{l p:Addr}(S:Pk3 H l) (h:H p=none):l≠p:=by
 obtain⟨xs,e⟩:=S.lst
 exact zag e h
theorem Pk3.upd {H:Hp}{l p:Addr}{o:HO}(S:Pk3 H l) (h:l≠p):Pk3 (upd H p o) l:=by
 obtain⟨a,b,c,e,r⟩:=S.ex
 exact⟨a,b,c,by rw[zah h];exact e,r⟩
theorem But.tups3 {H H':Hp}{l:Addr}(x:But l H H') (S:Pk3 H l):Tups H H':=λa xs e=>x a _ e (by
 rintro rfl
 obtain⟨_,z⟩:=S.lst
 rw[z]at e;cases e)
def zfu (K:PySem.W.Frag):Sp:=λvs H Q _=>∃ (a:Addr) (ns:List Int) (k:Int),vs=[.ref a,.int k]/\SqL K H a (ns.map V.int)/\ns.length<=63/\0<=k/\k<=1000/\∀ l H',H l=none->Same H H'->Pk3 H' l->Q (.ref l) H'
def zb8:Sp:=λvs H Q _=>∃ (l:Addr) (m:Int),vs=[.ref l,.int m]/\0<m/\m<1073741824/\Pk3 H l/\∀ (v:Nat) H',(v:Int)<m->Pk3 H' l->But l H H'->Q (.int v) H'
def zft:Sp:=λvs H Q _=>∃ (l p:Addr) (xs:List V),vs=[.ref l,.ref p]/\H p=some (.lst xs)/\xs.length<=100000/\Pk3 H l/\∀ t ys H',ys.Perm xs->H' t=some (.tup ys)->Pk3 H' l->But l H H'->Q (.ref t) H'
theorem zid {ys:List V}{es:List Nat}(p:ys.Perm (nums es)):∃ ds:List Nat,ys=nums ds/\ds.Perm es:=by
 have key:∀ {ys zs:List V},ys.Perm zs->∀ {es:List Nat},zs=nums es->∃ ds:List Nat,ys=nums ds/\ds.Perm es:=by
  intro ys zs p
  induction p with
  | nil=>intro es e;cases es with
   | nil=>exact⟨[],rfl,.refl _⟩
   | cons a b=>cases e
  | cons b _ ih =>
   intro es e
   cases es with
   | nil=>cases e
   | cons a zs =>
    injection e with g e2
    obtain⟨cs,h1,f⟩:=ih e2
    exact⟨a::cs,by rw[h1,g];rfl,f.cons _⟩
  | swap b c l =>
   intro es e
   cases es with
   | nil=>cases e
   | cons a zs=>cases zs with
    | nil=>cases e
    | cons d zs =>
     injection e with g e2
     injection e2 with e2 m
     exact⟨d::a::zs,by rw[g,e2,m];rfl,.swap _ _ _⟩
  | trans _ _ i h =>
   intro es e
   obtain⟨cs,h1,f⟩:=h e
   obtain⟨ds,k,j⟩:=i h1
   exact⟨ds,k,j.trans f⟩
 exact key p rfl
end Bn
namespace K36
open PySem L2 Own Bn
abbrev zlA:Stmt:=top 18
abbrev zlx:Stmt:=top 19
abbrev zh1:Stmt:=top 20
section
variable {P:Program}{w:World}{K:PySem.W.Frag}{mg:Str->Option Value}{base:Heap}
theorem scK:FnScope ["_law_left_here","_law_many","_law_digit"] ["_law_left_here","_law_many"] (zal zlx):=by trivial
theorem zlQ {f:Addr}{fd:FuncData}(F:Fun K "_law_pick" "_law_pick" zlx f fd):FnOk P w K mg base CX0 1 f fd ["_law_left_here","_law_many"] zb8:=by
 refine F.ok scK (λvs H Q E h=>?_) (λcdv A outer s H vs Q E C h=>?_)
 ·obtain⟨l,m,rfl,_⟩:=h
  rfl
 obtain⟨l,m,rfl,g,r,S,k⟩:=h
 obtain⟨a,b,c,d,n,u,b1⟩:=S.ex
 refine⟨_,(@zad _ _ _ _ _ (@zbc _ _ _ _ _ _ _ _ (@zaz _ _ _ _ _ _ _ _ zj9 (@zay _ _ _ _ _ _ _ zax (@qv _ 0 _ _ (by trivial)) zae (λ_ _=>rfl)) zae (zaG _)) (@zad _ _ _ _ _ (@zav _ _ 2 _ _ _ _ scK.nd rfl (.inl rfl) (@zao _ _ _ _ _ _ _ _ zb4 (@zay _ _ _ _ _ _ _ zax (@qv _ 0 _ _ (by trivial)) zae (λ_ _=>rfl)) (@qv _ 1 _ _ (by trivial))) (by rfl) (by trivial)) (@zad _ _ _ _ _ (@zaV _ _ _ _ _ _ (@zao _ _ _ _ _ _ _ _ zce (@zay _ _ _ _ _ _ _ zax (@qv _ 0 _ _ (by trivial)) zae (λ_ _=>rfl)) (@qv _ 1 _ _ (by trivial))) (@zcZ _ _ _ _ _ _ _ (@qv _ 0 _ _ (by trivial)) zae zbm (by intro _;rfl)) (by rfl) (by rfl) (by rfl)) (@zai _ _ _ (@zat _ _ _ _ (@qv _ 2 _ _ (by trivial)))))) zaI) (@zad _ _ _ _ _ (@zaV _ _ _ _ _ _ (@zao _ _ _ _ _ _ _ _ zaW (@zay _ _ _ _ _ _ _ zax (@qv _ 0 _ _ (by trivial)) zae (λ_ _=>rfl)) zae) (@zcZ _ _ _ _ _ _ _ (@qv _ 0 _ _ (by trivial)) zae zbm (by intro _;rfl)) (by rfl) (by rfl) (by rfl)) (@zad _ _ _ _ _ (@zaV _ _ _ _ _ _ (@zao _ _ _ _ _ _ _ _ zb4 (@zao _ _ _ _ _ _ _ _ zaW (@zao _ _ _ _ _ _ _ _ zaW (@zao _ _ _ _ _ _ _ _ zcq (@zay _ _ _ _ _ _ _ zax (@qv _ 0 _ _ (by trivial)) zae (λ_ _=>rfl)) zae) zae) (@zay _ _ _ _ _ _ _ zax (@qv _ 0 _ _ (by trivial)) zae (λ_ _=>rfl))) zae) (@zcZ _ _ _ _ _ _ _ (@qv _ 0 _ _ (by trivial)) zae zbm (by intro _;rfl)) (by rfl) (by rfl) (by rfl)) (@zai _ _ _ (@zat _ _ _ _ (@zao _ _ _ _ _ _ _ _ zb4 (@zao _ _ _ _ _ _ _ _ zce (@zao _ _ _ _ _ _ _ _ zb4 (@zao _ _ _ _ _ _ _ _ zcq (@zay _ _ _ _ _ _ _ zax (@qv _ 0 _ _ (by trivial)) zae (λ_ _=>rfl)) (@zay _ _ _ _ _ _ _ zax (@qv _ 0 _ _ (by trivial)) zae (λ_ _=>rfl))) zae) zae) (@qv _ 1 _ _ (by trivial)))))))),?_⟩
 have fin:∀ (x:Int) (H':Hp),0<=x->x<m->Pk3 H' l->But l H H'->Q (.int x) H':=λx H' x0 p y B=>by
  obtain⟨v,rfl⟩:=Int.eq_ofNat_of_zero_le x0
  exact k v H' p y B
 refine⟨_,rfl,l,_,_,_,rfl,rfl,SqL.of d,rfl,_,_,rfl,rfl,_,rfl,ite2 (λq=>?_) (λq=>?_)⟩
 ·refine⟨_,rfl,l,_,_,_,rfl,rfl,SqL.of d,rfl,_,rfl,_,_,rfl,rfl,g,?_⟩
  refine⟨_,rfl,l,_,_,_,rfl,rfl,SqL.of d,rfl,_,rfl,_,_,rfl,rfl,⟨g,r⟩,_,rfl,l,_,_,0,rfl,rfl,d,rfl,_,rfl,?_⟩
  exact fin _ _ (Wi _ (by lia)) (Wv _ g) ⟨a / m,b,c,zaf,Int.ediv_nonneg n (by lia),u,b1⟩ λx o e ne=>by rw[zah ne];exact e
 ·refine⟨_,rfl,l,_,_,_,rfl,rfl,SqL.of d,rfl,_,_,rfl,rfl,_,rfl,l,_,_,2,rfl,rfl,d,rfl,?_⟩
  have h1:L2.upd H l (.lst ([V.int a,V.int b,V.int c].set 2 (V.int (c+1)))) l=some (.lst [.int a,.int b,.int (c+1)]):=zaf
  have z:But l H (L2.upd H l (.lst ([V.int a,V.int b,V.int c].set 2 (V.int (c+1))))):=λx o e ne=>by rw[zah ne];exact e
  show tSeq _ _ _ _ (L2.upd H l (.lst ([V.int a,V.int b,V.int c].set 2 (V.int (c+1)))))
  generalize L2.upd H l (.lst ([V.int a,V.int b,V.int c].set 2 (V.int (c+1))))=H1 at *
  refine⟨_,rfl,l,_,_,_,rfl,rfl,SqL.of h1,rfl,_,_,rfl,rfl,.inr ⟨by decide,by decide⟩,_,_,rfl,rfl,_,rfl,l,_,_,_,rfl,rfl,SqL.of h1,rfl,_,_,rfl,rfl,_,_,rfl,rfl,(by show (0:Int)<2147483647;decide),_,rfl,l,_,_,1,rfl,rfl,h1,rfl,?_⟩
  have t:0<=(b*48271+12345+(c+1))%2147483647:=Wi _ (by decide)
  have D:(b*48271+12345+(c+1))%2147483647<2147483647:=Wv _ (by decide)
  generalize j:L2.upd H1 l (HO.lst ([V.int a,V.int b,V.int (c+1)].set 1 (V.int ((b*48271+12345+(c+1))%2147483647))))=H2
  have i:H2 l=some (.lst [.int a,.int ((b*48271+12345+(c+1))%2147483647),.int (c+1)]):=by rw[<- j];exact zaf
  refine⟨_,rfl,l,_,_,_,rfl,rfl,SqL.of i,rfl,_,rfl,l,_,_,_,rfl,rfl,SqL.of i,rfl,_,_,rfl,rfl,.inl ⟨by lia,by lia⟩,_,_,rfl,rfl,(by show (0:Int)<1999999973;decide),_,_,rfl,rfl,⟨by decide,by decide⟩,_,rfl,_,_,rfl,rfl,g,?_⟩
  exact fin _ _ (Wi _ (by lia)) (Wv _ g) ⟨a,_,_,i,n,t,by lia⟩ λx o e ne=>by rw[<- j,zah ne];exact z x o e ne
theorem scL:FnScope ["_law_script","_law_k","_law_cell","_law_digits"] ["_law_script","_law_k"] (zal zlA):=by trivial
theorem zlU {f:Addr}{fd:FuncData}(F:Fun K "_law_left" "_law_left" zlA f fd) (G:Mgs mg):FnOk P w K mg base CX0 1 f fd ["_law_script","_law_k"] (zfu K):=by
 refine F.ok scL (λvs H Q E h=>?_) (λcdv A outer s H vs Q E u h=>?_)
 ·obtain⟨a,ns,k,rfl,_⟩:=h
  rfl
 obtain⟨a,ns,k,rfl,e,t,k0,k1,q⟩:=h
 refine⟨_,(@zad _ _ _ _ _ (@zav _ _ 2 _ _ _ _ scL.nd rfl (.inl rfl) zae (by rfl) (by trivial)) (@zad _ _ _ _ _ (@zbc _ _ _ _ _ _ _ _ (@zaz _ _ _ _ _ _ _ _ zj9 (@zaq _ _ _ _ _ _ _ _ _ zas (by rfl) G.len Yn (@zaa _ _ _ _ _ (@qv _ 0 _ _ (by trivial)) zac (by rfl)) (by decide) (by decide) (by rfl) (by rfl)) zae (zaG _)) (@zai _ _ _ (@zav _ _ 2 _ _ _ _ scL.nd rfl (.inl rfl) (@zay _ _ _ _ _ _ _ zax (@qv _ 0 _ _ (by trivial)) (@zao _ _ _ _ _ _ _ _ zb4 (@qv _ 1 _ _ (by trivial)) (@zaq _ _ _ _ _ _ _ _ _ zas (by rfl) G.len Yn (@zaa _ _ _ _ _ (@qv _ 0 _ _ (by trivial)) zac (by rfl)) (by decide) (by decide) (by rfl) (by rfl))) (λ_ _=>rfl)) (by rfl) (by trivial))) zaI) (@zad _ _ _ _ _ (@zav _ _ 3 _ _ _ _ scL.nd rfl (.inl rfl) (@zao _ _ _ _ _ _ _ _ zcq (@zao _ _ _ _ _ _ _ _ zb4 (@zaq _ _ _ _ _ _ _ _ _ zgJ (by rfl) G.abs (by rfl) (@zaa _ _ _ _ _ (@qv _ 2 _ _ (by trivial)) zac (by rfl)) (by decide) (by decide) (by rfl) (by rfl)) (@zao _ _ _ _ _ _ _ _ zla zae zae)) (@zaw _ _ _ _ _ _ _ _ _ zcG (by rfl) G.int (by rfl) (@zaa _ _ _ _ _ (@zbt _ _ _ _ _ _ _ _ zmP (@zaq _ _ _ _ _ _ _ _ _ zgJ (by rfl) G.abs (by rfl) (@zaa _ _ _ _ _ (@qv _ 2 _ _ (by trivial)) zac (by rfl)) (by decide) (by decide) (by rfl) (by rfl)) (@zao _ _ _ _ _ _ _ _ zla zae zae) (zaG _)) zac (by rfl)) (by decide) (by decide) (by rfl) (by rfl))) (by rfl) (by trivial)) (@zai _ _ _ (@zat _ _ _ _ (@zaO _ _ _ _ (@zaa _ _ _ _ _ (@qv _ 3 _ _ (by trivial)) (@zaa _ _ _ _ _ (@zao _ _ _ _ _ _ _ _ zb4 (@zao _ _ _ _ _ _ _ _ zcq (@zao _ _ _ _ _ _ _ _ zaW (@zao _ _ _ _ _ _ _ _ zaW (@zao _ _ _ _ _ _ _ _ zb4 (@qv _ 2 _ _ (by trivial)) zae) (@zao _ _ _ _ _ _ _ _ zcq (@zao _ _ _ _ _ _ _ _ zcq zae (@qv _ 1 _ _ (by trivial))) (@qv _ 1 _ _ (by trivial)))) zae) zae) zae) (@zaa _ _ _ _ _ zae zac (by rfl)) (by rfl)) (by rfl)))))))),?_⟩
 have d:(ns.map V.int).length=ns.length:=Jh _
 refine znf ?_
 refine ze3 (λσ H1=>H1=H/\∃ x:Int,σ=[some (.ref a),some (.int k),some (.int x),none]) ?_ λD c _=>?_
 ·rintro σ H1 ⟨rfl,x,rfl⟩
  have m:=Wi ((x%2305843009213693951+7919*k*k+11)*48271) (show (2147483647:Int)≠0 by decide)
  have v:=Wv ((x%2305843009213693951+7919*k*k+11)*48271) (show (0:Int)<2147483647 by decide)
  have r:∀ b:Bool,(0:Int)<=(if b=true then (1:Int) else 0):=by decide
  have p:∀ b:Bool,-(2 ^ 64)<(if b=true then (1:Int) else 0)/\(if b=true then (1:Int) else 0)<2 ^ 64:=by decide
  refine⟨_,rfl,_,rfl,_,_,rfl,rfl,⟨by decide,by decide,by decide⟩,_,_,rfl,rfl,(by show (0:Int)<10 ^ 60;decide),?_⟩
  refine⟨_,rfl,_,rfl,_,_,rfl,rfl,⟨by decide,by decide,by decide⟩,_,_,rfl,rfl,.inr ⟨_,rfl,_,_,rfl,rfl,.inr (p _),?_⟩⟩
  refine⟨_,rfl,_,rfl,_,_,rfl,rfl,(by show (0:Int)<2305843009213693951;decide),_,rfl,_,_,rfl,rfl,.inl ⟨by decide,by decide⟩,_,rfl,_,_,rfl,rfl,.inr ⟨by lia,by lia⟩,_,_,rfl,rfl,_,_,rfl,rfl,_,_,rfl,rfl,.inr ⟨by decide,by decide⟩,_,_,rfl,rfl,(by show (0:Int)<2147483647;decide),(by show 3<=sizeLine;decide),λl g=>?_⟩
  refine q l _ g (zab g _) ⟨_,_,_,zaf,Int.mul_nonneg (Wi _ (by decide)) (r _),m,by lia⟩
 refine⟨_,rfl,a,_,rfl,.inl e,_,_,rfl,rfl,_,rfl,ite2 (λz=>?_) (λz=>?_)⟩
 ·have np:0<ns.length:=by
   have:=YF z
   rw[d]at this;lia
  refine⟨_,rfl,_,rfl,_,rfl,a,_,rfl,.inl e,_,_,rfl,rfl,by rw[d];lia,?_⟩
  have o:=Wi k (show ((ns.length:Nat):Int)≠0 by lia)
  have n:=Wv k (show (0:Int)<(ns.length:Nat) by lia)
  rw[d]
  obtain⟨j,i⟩:=Int.eq_ofNat_of_zero_le o
  rw[i]at n
  exact⟨a,_,k%(ns.length:Nat),_,rfl,rfl,e,(by rw[i];exact zd0 (by lia)),c _ _ ⟨rfl,_,rfl⟩⟩
 ·exact c _ _ ⟨rfl,0,rfl⟩
theorem scMx:FnScope ["_law_left_here","_law_row","_law_some_here","_law_found"] ["_law_left_here","_law_row"] (zal zh1):=by trivial
theorem zke {f W:Addr}{fd dK:FuncData}(F:Fun K "_law_mixed" "_law_mixed" zh1 f fd) (G:Mgs mg) (y:Use P w K mg base "_law_pick" ["_law_left_here","_law_many"] 1 zb8 W dK):FnOk P w K mg base CX0 2 f fd ["_law_left_here","_law_row"] zft:=by
 refine F.ok scMx (λvs H Q E h=>?_) (λcdv A outer s H vs Q E M h=>?_)
 ·obtain⟨l,p,xs,rfl,_⟩:=h
  rfl
 obtain⟨l,p,xs,rfl,T,xl,S,k⟩:=h
 refine⟨_,(@zad _ _ _ _ _ (@zgi _ _ 2 3 _ _ _ _ _ _ _ _ _ _ _ rfl scMx.nd rfl rfl (by decide) rfl rfl (@zaa _ _ _ _ _ (@zaw _ _ _ _ _ _ _ _ _ za2 (by rfl) G.list (by rfl) (@zaa _ _ _ _ _ (@qv _ 1 _ _ (by trivial)) zac (by rfl)) (by decide) (by decide) (by rfl) (by rfl)) (@zaa _ _ _ _ _ (@zaO _ _ _ _ zac) zac (by rfl)) (by rfl)) (by rfl) (by rfl)) (@zad _ _ _ _ _ (@zgh _ _ _ _ _ _ Yw (@zaz _ _ _ _ _ _ _ _ (zlb M.units0) (@qv _ 2 _ _ (by trivial)) (@zaO _ _ _ _ zac) (zaG _)) (@zai _ _ _ (@zbG _ _ _ _ (@zek _ _ _ _ _ _ _ _ _ _ _ _ YB ZK ZL zbi (@qv _ 3 _ _ (by trivial)) (@zaa _ _ _ _ _ (@zek _ _ _ _ _ _ _ _ _ _ _ _ YB PySem.F.slot_list_pop PySem.F.type_list_pop zkp (@qv _ 2 _ _ (by trivial)) (@zaa _ _ _ _ _ (@zam _ _ _ _ _ _ _ _ _ _ _ _ _ _ _ _ y.ok M (by rfl) y.m y.kp y.b .nil zaD (@zaa _ _ _ _ _ (@qv _ 0 _ _ (by trivial)) (@zaa _ _ _ _ _ (@zaq _ _ _ _ _ _ _ _ _ zas (by rfl) G.len Yn (@zaa _ _ _ _ _ (@qv _ 2 _ _ (by trivial)) zac (by rfl)) (by decide) (by decide) (by rfl) (by rfl)) zac (by rfl)) (by rfl)) (by decide) (by rfl) (by rfl)) zac (by rfl)) (by rfl) (by rfl) (by rfl) (by rfl) (by rfl)) zac (by rfl)) (by rfl) (by rfl) (by rfl) (by rfl) (by rfl)) (by rfl)))) (@zai _ _ _ (@zat _ _ _ _ (@zaw _ _ _ _ _ _ _ _ _ zaE (by rfl) G.tuple (by rfl) (@zaa _ _ _ _ _ (@qv _ 3 _ _ (by trivial)) zac (by rfl)) (by decide) (by decide) (by rfl) (by rfl)))))),?_⟩
 refine⟨_,rfl,p,_,rfl,.inl (SqL.of T),λlo q=>?_⟩
 have s1:=zab q (.lst xs)
 have v:=S.ne q
 refine⟨(by show 0<=sizeLine;decide),λlt c=>?_⟩
 have s2:=zab c (.lst [])
 have u:=(S.keep s1).ne c
 have not:lo≠lt:=zag zaf c
 have I:Frs l H lo:=λb o e _=>zag e q
 have flt:Frs l H lt:=λb o e _=>zag (s1 _ _ e) c
 refine⟨_,_,rfl,?_⟩
 refine⟨λm σ g=>σ=[some (.ref l),some (.ref p),some (.ref lo),some (.ref lt)]/\Pk3 g l/\But l H g/\∃ us ys,g lo=some (.lst us)/\us.length=m/\g lt=some (.lst ys)/\(ys++us).Perm xs,
  ⟨_,rfl,(S.keep s1).keep s2,(But.of s1).trans (But.of s2),xs,[],by rw[zah not];exact zaf,rfl,zaf,.refl _⟩,?_⟩
 rintro m σ g ⟨rfl,Y,B3,us,ys,J,ul,R,pm⟩
 refine⟨_,rfl,(by show 0<=sizeLine;decide),λe U=>?_⟩
 have r:=zab U (.lst [])
 refine⟨lo,e,us,rfl,rfl,SqL.of (r _ _ J),SqL.of zaf,_,rfl,?_⟩
 have N:=Y.keep r
 have O:But l H (L2.upd g e (.lst [])):=B3.trans (But.of r)
 have n:=r _ _ J
 have j:=r _ _ R
 generalize L2.upd g e (.lst [])=H4 at *
 have ab:ys.length+us.length=xs.length:=by rw[<- Jb];exact pm.length_eq
 by_cases un:us=[]
 ·rw[show (!us.isEmpty)=false by rw[un];rfl]
  rw[un,Y5]at pm
  refine iteF ⟨_,rfl,lt,_,rfl,.inl ⟨SqL.of j,λt L=>k t ys _ pm zaf (N.keep (zab L _)) (O.trans (But.of (zab L _)))⟩⟩
 have up:0<us.length:=Wn.mpr un
 rw[show (!us.isEmpty)=true by cases us with
  | nil=>exact absurd rfl un
  | cons a b=>rfl]
 refine iteT ⟨_,λaa H' V=>⟨m-1,by lia,V⟩,?_⟩
 refine⟨_,rfl,.inl ⟨rfl,_,SqL.of j⟩,_,rfl,.inl ⟨rfl,_,SqL.of n⟩,_,rfl,_,rfl,lo,_,rfl,.inl (SqL.of n),l,_,rfl,by lia,by lia,N,λd Z hk X z=>?_⟩
 have x:d<us.length:=by lia
 have D:=z lo _ n v.symm
 have C:=z lt _ j u.symm
 refine⟨lo,_,_,d,us[d],rfl,rfl,D,by lia,by lia,(zfR (zhf (xs:=us) (i:=d) x)).1,J7 x,?_⟩
 have B:L2.upd Z lo (.lst (us.eraseIdx d)) lt=some (.lst ys):=by rw[zah not.symm];exact C
 refine⟨lt,_,_,rfl,rfl,B,by rw[JE];lia,rfl,(X.upd v).upd u,((O.trans z).upd I).upd flt,us.eraseIdx d,ys++[us[d]],by rw[zah not];exact zaf,by rw[List.length_eraseIdx,Jf x];lia,zaf,?_⟩
 refine List.Perm.trans ?_ pm
 rw[JQ]
 refine List.Perm.append_left ys ?_
 exact zdW us d x
end
end K36
namespace L2
open PySem PySem.Spec PyProof.Rows Own
theorem FnOk.any {P:Program}{w:World}{K:PySem.W.Frag}{mg:Str->Option Value}{base:Heap}{CX:CXT}{k:Nat}{f:Addr}{fd:FuncData}{ps:List Str}{sp:Nat->Sp}(M:Nat) (F:∀ m,m<=M->FnOk P w K mg base CX k f fd ps (sp m)) :
  FnOk P w K mg base CX k f fd ps (λvs H Q E=>∃ m,m<=M/\sp m vs H Q E) :=
 ⟨λvs H Q E ⟨m,a,q⟩=>(F m a).len vs H Q E q,λA outer s H args us vs Q E c d hb b ⟨m,a,q⟩=>(F m a).run A outer s H args us vs Q E c d hb b q⟩
end L2
namespace Bn
open PySem L2 Own
def zb7:Nat->List Nat->List Fk × List Nat
 | 0,row=>([],row)
 | m+1,row=>((row.getD 0 0,row.getD (row.length / 2) 0)::((zb7 m (row.take (row.length / 2))).1++(zb7 m (row.drop (row.length / 2))).1),za0 (zb7 m (row.take (row.length / 2))).2 (zb7 m (row.drop (row.length / 2))).2)
def mergeN:Nat->List Nat->List Nat->List Fk × List Nat
 | 0,a,b=>(a.zip b,a++b)
 | m+1,a,b=>((mergeN m (by2 0 a) (by2 1 b)).1++(mergeN m (by2 1 a) (by2 0 b)).1++(mergeN m (by2 0 a) (by2 1 b)).2.zip (mergeN m (by2 1 a) (by2 0 b)).2,za0 (mergeN m (by2 0 a) (by2 1 b)).2 (mergeN m (by2 1 a) (by2 0 b)).2)
def zbN:Nat->List Nat->List Fk × List Nat
 | 0,row=>([],row)
 | m+1,row=>((zbN m (row.take (row.length / 2))).1++(zbN m (row.drop (row.length / 2))).1++(mergeN m (zbN m (row.take (row.length / 2))).2 (zbN m (row.drop (row.length / 2))).2).1,(mergeN m (zbN m (row.take (row.length / 2))).2 (zbN m (row.drop (row.length / 2))).2).2)
theorem zc3 {m n:Nat}(h:n=2 ^ (m+1)):n / 2=2 ^ m/\n-n / 2=2 ^ m/\n / 2<=n:=by
 rw[Zh]at h;lia
theorem zcw {m:Nat}{row:List Nat}(h:row.length=2 ^ (m+1)):(row.take (row.length / 2)).length=2 ^ m/\(row.drop (row.length / 2)).length=2 ^ m:=by
 obtain⟨a,b,c⟩:=zc3 h
 rw[Jw,Y6]
 exact⟨by rw[Zi c];exact a,b⟩
theorem zdc {α:Type}{m:Nat}{a:List α}(h:a.length=2 ^ (m+1)):(by2 0 a).length=2 ^ m/\(by2 1 a).length=2 ^ m:=by
 rw[zf2 0 (by decide),zf2 1 (by decide),h,Zh]
 lia
theorem zc4:∀ (m:Nat) (row:List Nat),row.length=2 ^ m->(zb7 m row).2.length=2 ^ m/\(zb7 m row).1.length+1=2 ^ m
 | 0,row,h=>⟨h,rfl⟩
 | m+1,row,h=>by
  obtain⟨a,b⟩:=zcw h
  obtain⟨c,f⟩:=zc4 m _ a
  obtain⟨d,e⟩:=zc4 m _ b
  show (za0 _ _).length=_/\(_::(_++_)).length+1=_
  rw[zbw _ _ (c.trans d.symm),JK,Jb,c,Zh]
  exact⟨by lia,by lia⟩
theorem zbx:∀ (m:Nat) (a b:List Nat),a.length=2 ^ m->b.length=2 ^ m->(mergeN m a b).2.length=2 ^ (m+1)/\(mergeN m a b).1.length=(m+1)*2 ^ m
 | 0,a,b,ha,hb=>by
  show (a++b).length=_/\(a.zip b).length=_
  rw[Jb,ZQ,ha,hb];exact⟨rfl,rfl⟩
 | m+1,a,b,ha,hb=>by
  obtain⟨i,a1⟩:=zdc ha
  obtain⟨h,b1⟩:=zdc hb
  obtain⟨d,g⟩:=zbx m _ _ i b1
  obtain⟨c,f⟩:=zbx m _ _ a1 h
  show (za0 _ _).length=_/\(_++_++List.zip _ _).length=_
  rw[zbw _ _ (d.trans c.symm),Jb,Jb,ZQ,d,c,g,f,Nat.min_self]
  have e:(m+1)*2 ^ m+(m+1)*2 ^ m=(m+1)*2 ^ (m+1):=by rw[<- Nat.two_mul,Zh,Nat.mul_left_comm,Nat.mul_comm 2 (2 ^ m)]
  refine⟨by rw[Zh 2 (m+1),Nat.mul_comm],?_⟩
  rw[e,<- Nat.succ_mul]
def zdL:Nat->Nat
 | 0=>0
 | m+1=>zdL m+zdL m+(m+1)*2 ^ m
theorem zcW:∀ m,m<=10->zdL m<=100000/\(m+1)*2 ^ m<=20000:=by decide +kernel
theorem zck:∀ (m:Nat) (row:List Nat),row.length=2 ^ m->(zbN m row).2.length=2 ^ m/\(zbN m row).1.length=zdL m
 | 0,row,h=>⟨h,rfl⟩
 | m+1,row,h=>by
  obtain⟨a,b⟩:=zcw h
  obtain⟨f,e⟩:=zck m _ a
  obtain⟨d,c⟩:=zck m _ b
  obtain⟨z1,z2⟩:=zbx m _ _ f d
  refine⟨z1,?_⟩
  show (List.append (List.append _ _) _).length=zdL m+zdL m+(m+1)*2 ^ m
  rw[List.append_eq,List.append_eq,Jb,Jb,z2,e,c]
def zd4 (k:Nat):Nt:=⟨2 ^ k,(zb7 k (List.range (2 ^ k))).1,(zb7 k (List.range (2 ^ k))).2⟩
def zcl (k:Nat):Nt:=⟨2 ^ k,(zbN k (List.range (2 ^ k))).1,(zbN k (List.range (2 ^ k))).2⟩
theorem zjN:∀ k,k<5->(zd4 k).forks.length<=128/\(∀ f∈(zd4 k).forks,f.1<2 ^ k/\f.2<2 ^ k/\f.1≠f.2)/\(zd4 k).ends.Perm (List.range (2 ^ k)):=by decide +kernel
theorem zhE:∀ k,k<5->(zcl k).forks.length<=128/\(∀ f∈(zcl k).forks,f.1<2 ^ k/\f.2<2 ^ k/\f.1≠f.2)/\(zcl k).ends.Perm (List.range (2 ^ k)):=by decide +kernel
theorem zcu {k:Nat}(h:k<5):1<=2 ^ k/\2 ^ k<=16:=⟨ZU,YK (show 0<2 by decide) (show k<=4 by lia)⟩
theorem zlo {k:Nat}(h:k<5):(zd4 k).Ok:=let ⟨a,b,c⟩:=zjN k h;⟨(zcu h).1,(zcu h).2,a,b,c⟩
theorem zjQ {k:Nat}(h:k<5):(zcl k).Ok:=let ⟨a,b,c⟩:=zhE k h;⟨(zcu h).1,(zcu h).2,a,b,c⟩
end Bn
namespace L2
open PySem PySem.Spec PyProof.Rows Own
theorem zja {K:PySem.W.Frag}{b1 b2:Bool}{a1 a2:Addr}{xs ys:List V}(s:xs.length=ys.length) {g:TG}{tb:TS}{D:Ends}{σ:St}{H:Hp}(a:Nat->St->Hp->Prop) (o:a 0 σ H) (l:∀ i σ H,i<=xs.length->a i σ H->SqB b1 K H a1 xs/\SqB b2 K H a2 ys)
  (k:∀ i x y T σ H,xs[i]?=some x->ys[i]?=some y->H T=none->a i σ H->g (.ref T) σ (upd H T (.tup [x,y])) λb e=>tb { D with nx:=a (i+1),ct:=a (i+1),bk:=D.nx } b e) (hd:∀ σ H,a xs.length σ H->D.nx σ H) :
  ∃ W:Nat->Nat->St->Hp->Prop,(∃ m,W 0 m σ H)/\∀ i m σ H,W i m σ H ->
   ((Itz K b1 b2 a1 a2).stop i H/\D.nx σ H)\/((Itz K b1 b2 a1 a2).go i H/\∃ N:St->Hp->Prop,(∀ c H',N c H'->∃ h,h<m/\W (i+1) h c H')/\∀ x H',(Itz K b1 b2 a1 a2).yld i H x H'->g x σ H' λb e=>tb { D with nx:=N,ct:=N,bk:=D.nx } b e):=by
 refine⟨λi m σ H=>m=xs.length-i/\i<=xs.length/\a i σ H,⟨_,rfl,JL _,o⟩,?_⟩
 rintro i m σ H ⟨rfl,hi,p⟩
 obtain⟨d,f⟩:=l i σ H hi p
 by_cases more:i<xs.length
 ·refine .inr ⟨⟨xs,ys,_,_,d,f,J7 more,J7 (by lia)⟩,a (i+1),λc H' j=>⟨xs.length-(i+1),by lia,rfl,more,j⟩,λv H' ⟨x,y,ex,q,T,n,r,e2⟩=>?_⟩
  subst r e2
  exact k i x y T σ H (ex xs d) (q ys f) n p
 ·obtain rfl:i=xs.length:=by lia
  exact .inl ⟨⟨xs,d,rfl⟩,hd σ H p⟩
end L2
namespace K36
open PySem L2 Own Bn
abbrev zh0:Stmt:=top 21
def zeI (m:Nat):Sp:=λvs H Q _=>∃ p1 p2 a b,vs=[.ref p1,.ref p2]/\H p1=some (.lst (nums a))/\H p2=some (.lst (nums b))/\a.length=2 ^ m/\b.length=2 ^ m/\m<=8/\∀ c lf le ps H',Same H H'->H lf=none->H' c=some (.tup [.ref lf,.ref le])->H' lf=some (.lst ps)->Prs H' ps (Bn.mergeN m a b).1->H' le=some (.lst (nums (Bn.mergeN m a b).2))->Q (.ref c) H'
theorem ziL (row:List Nat) (i:Nat) (h:i<=row.length):cutV (nums row) none (some (i:Int))=nums (row.take i):=by
 rw[zgF _ _ (by rw[zar];exact h)]
 unfold nums
 rw[List.map_take]
theorem ziM (row:List Nat) (i:Nat) (h:i<=row.length):cutV (nums row) (some (i:Int)) none=nums (row.drop i):=by
 rw[zeu _ _ (by rw[zar];exact h)]
 unfold nums
 rw[List.map_drop]
theorem zkw (off:Nat) (a:List Nat):by2 off (nums a)=nums (by2 off a):=by unfold nums;exact zmm _ off a
theorem zkx (a b:List Nat):nums a++nums b=nums (a++b):=by unfold nums;exact(Y2 ..).symm
theorem m_at (row:List Nat) (i:Nat) (h:i<row.length):(nums row)[i]?=some (.int ((row.getD i 0:Nat):Int)):=by
 unfold nums
 rw[JP,J7 h,J9,J7 h];rfl
theorem zcH:∀ (a b:List Nat) (j:Nat),j<a.length->j<b.length->za0 (a.take (j+1)) (b.take (j+1))=za0 (a.take j) (b.take j)++[a.getD j 0,b.getD j 0]
 | x::a,y::b,0,_,_=>by rw[ZG,ZG,Zf,Zf];rfl
 | x::a,y::b,j+1,ha,hb=>by
  rw[ZG,ZG,ZG,ZG]
  show x::y::za0 (a.take (j+1)) (b.take (j+1))=x::y::(za0 (a.take j) (b.take j)++[a.getD j 0,b.getD j 0])
  rw[zcH a b j (by simpa using ha) (by simpa using hb)]
theorem zf5 {a b:List Nat}{j:Nat}(ha:j<a.length) (hb:j<b.length):(a.zip b).take (j+1)=(a.zip b).take j++[(a.getD j 0,b.getD j 0)]:=by
 rw[YQ (by rw[ZQ];lia),List.getElem_zip,J9,J7 ha,J9,J7 hb];rfl
theorem num_at {a:List Nat}{j:Nat}{x:V}(h:(nums a)[j]?=some x):j<a.length/\x=.int ((a.getD j 0:Nat):Int):=by
 have b:j<a.length:=by rw[<- zar a];exact(Jd.mp h).1
 rw[m_at a j b]at h
 exact⟨b,(Jr h).symm⟩
section
variable {P:Program}{w:World}{K:PySem.W.Frag}{mg:Str->Option Value}{base:Heap}
theorem scMo:FnScope ["_law_one","_law_other","_law_forks","_law_first","_law_more","_law_second","_law_ends_here","_law_x","_law_y"] ["_law_one","_law_other"] (zal zh0):=by trivial
theorem zgq {f:Addr}{fd:FuncData}(F:Fun K "_law_merger" "_law_merger" zh0 f fd) (G:Mgs mg) (bS:Binds K fd ["_law_one","_law_other"] []) (mS:mg "_law_merger" = some (.ref f)) (n:Nat)
  (GS:FnOk P w K mg base CX0 n f fd ["_law_one","_law_other"] (λvs H Q E=>∃ m,n=m+1/\zeI m vs H Q E)):FnOk P w K mg base CX0 (n+1) f fd ["_law_one","_law_other"] (zeI n):=by
 have C:Use P w K mg base "_law_merger" ["_law_one","_law_other"] n (λvs H Q E=>∃ m,n=m+1/\zeI m vs H Q E) f fd:=⟨GS,bS,F.kp,mS⟩
 refine F.ok scMo (λvs H Q E h=>?_) (λcdv A outer s H vs Q E hr h=>?_)
 ·obtain⟨p1,p2,a,b,rfl,_⟩:=h
  rfl
 obtain⟨p1,p2,a,b,rfl,h1,h2,al,bl,au,k⟩:=h
 refine⟨_,(@zad _ _ _ _ _ (@zbc _ _ _ _ _ _ _ _ (@zaz _ _ _ _ _ _ _ _ zbQ (@zaq _ _ _ _ _ _ _ _ _ zas (by rfl) G.len Yn (@zaa _ _ _ _ _ (@qv _ 0 _ _ (by trivial)) zac (by rfl)) (by decide) (by decide) (by rfl) (by rfl)) zae (zaG _)) (@zai _ _ _ (@zat _ _ _ _ (@zaB _ _ _ _ _ (@zaa _ _ _ _ _ (@zaO _ _ _ _ (@zaa _ _ _ _ _ (@zaB _ _ _ _ _ (@zaa _ _ _ _ _ (@zay _ _ _ _ _ _ _ zax (@qv _ 0 _ _ (by trivial)) zae (λ_ _=>rfl)) (@zaa _ _ _ _ _ (@zay _ _ _ _ _ _ _ zax (@qv _ 1 _ _ (by trivial)) zae (λ_ _=>rfl)) zac (by rfl)) (by rfl))) zac (by rfl))) (@zaa _ _ _ _ _ (@zaO _ _ _ _ (@zaa _ _ _ _ _ (@zay _ _ _ _ _ _ _ zax (@qv _ 0 _ _ (by trivial)) zae (λ_ _=>rfl)) (@zaa _ _ _ _ _ (@zay _ _ _ _ _ _ _ zax (@qv _ 1 _ _ (by trivial)) zae (λ_ _=>rfl)) zac (by rfl)) (by rfl))) zac (by rfl)) (by rfl))))) zaI) (@zad _ _ _ _ _ (@zaV _ _ _ _ _ _ (@zam _ _ _ _ _ _ _ _ _ _ _ _ _ _ _ _ C.ok hr (by rfl) C.m C.kp C.b .nil zaD (@zaa _ _ _ _ _ (@zgk _ _ _ _ _ _ _ _ _ (@qv _ 0 _ _ (by trivial)) zaP (@zaA _ _ _ zae)) (@zaa _ _ _ _ _ (@zgk _ _ _ _ _ _ _ _ _ (@qv _ 1 _ _ (by trivial)) (@zaA _ _ _ zae) (@zaA _ _ _ zae)) zac (by rfl)) (by rfl)) (by decide) (by rfl) (by rfl)) (@zaU _ _ _ _ _ _ rfl (@zak _ _ _ _ _ (@zaj _ _ 2 _ scMo.nd rfl (.inl rfl) (by trivial)) (@zak _ _ _ _ _ (@zaj _ _ 3 _ scMo.nd rfl (.inl rfl) (by trivial)) zaL (by rfl)) (by rfl)) (by rfl) (by rfl)) (by rfl) (by rfl) (by rfl)) (@zad _ _ _ _ _ (@zaV _ _ _ _ _ _ (@zam _ _ _ _ _ _ _ _ _ _ _ _ _ _ _ _ C.ok hr (by rfl) C.m C.kp C.b .nil zaD (@zaa _ _ _ _ _ (@zgk _ _ _ _ _ _ _ _ _ (@qv _ 0 _ _ (by trivial)) (@zaA _ _ _ zae) (@zaA _ _ _ zae)) (@zaa _ _ _ _ _ (@zgk _ _ _ _ _ _ _ _ _ (@qv _ 1 _ _ (by trivial)) zaP (@zaA _ _ _ zae)) zac (by rfl)) (by rfl)) (by decide) (by rfl) (by rfl)) (@zaU _ _ _ _ _ _ rfl (@zak _ _ _ _ _ (@zaj _ _ 4 _ scMo.nd rfl (.inl rfl) (by trivial)) (@zak _ _ _ _ _ (@zaj _ _ 5 _ scMo.nd rfl (.inl rfl) (by trivial)) zaL (by rfl)) (by rfl)) (by rfl) (by rfl)) (by rfl) (by rfl) (by rfl)) (@zad _ _ _ _ _ (@zgi _ _ 2 6 _ _ _ _ _ _ _ _ _ _ _ rfl scMo.nd rfl rfl (by decide) rfl rfl (@zaa _ _ _ _ _ (@zao _ _ _ _ _ _ _ _ zc0 (@qv _ 2 _ _ (by trivial)) (@qv _ 4 _ _ (by trivial))) (@zaa _ _ _ _ _ (@zaO _ _ _ _ zac) zac (by rfl)) (by rfl)) (by rfl) (by rfl)) (@zad _ _ _ _ _ (@zbP _ _ _ _ _ _ _ _ Yw rfl (@zk7 _ _ _ _ _ _ _ _ _ true true rfl G.zip (@zaa _ _ _ _ _ (@qv _ 3 _ _ (by trivial)) (@zaa _ _ _ _ _ (@qv _ 5 _ _ (by trivial)) zac (by rfl)) (by rfl)) (by rfl) (by rfl)) (@zaU _ _ _ _ _ _ rfl (@zak _ _ _ _ _ (@zaj _ _ 7 _ scMo.nd rfl (.inl rfl) (by trivial)) (@zak _ _ _ _ _ (@zaj _ _ 8 _ scMo.nd rfl (.inl rfl) (by trivial)) zaL (by rfl)) (by rfl)) (by rfl) (by rfl)) (@zad _ _ _ _ _ (@zbG _ _ _ _ (@zek _ _ _ _ _ _ _ _ _ _ _ _ YB ZK ZL zbi (@qv _ 2 _ _ (by trivial)) (@zaa _ _ _ _ _ (@zaB _ _ _ _ _ (@zaa _ _ _ _ _ (@qv _ 7 _ _ (by trivial)) (@zaa _ _ _ _ _ (@qv _ 8 _ _ (by trivial)) zac (by rfl)) (by rfl))) zac (by rfl)) (by rfl) (by rfl) (by rfl) (by rfl) (by rfl)) (by rfl)) (@zai _ _ _ (@zbG _ _ _ _ (@zek _ _ _ _ _ _ _ _ _ _ _ _ YB PySem.F.slot_list_extend PySem.F.type_list_extend zdo (@qv _ 6 _ _ (by trivial)) (@zaa _ _ _ _ _ (@zaO _ _ _ _ (@zaa _ _ _ _ _ (@qv _ 7 _ _ (by trivial)) (@zaa _ _ _ _ _ (@qv _ 8 _ _ (by trivial)) zac (by rfl)) (by rfl))) zac (by rfl)) (by rfl) (by rfl) (by rfl) (by rfl) (by rfl)) (by rfl)))) (by intro _;rfl)) (@zai _ _ _ (@zat _ _ _ _ (@zaB _ _ _ _ _ (@zaa _ _ _ _ _ (@qv _ 2 _ _ (by trivial)) (@zaa _ _ _ _ _ (@qv _ 6 _ _ (by trivial)) zac (by rfl)) (by rfl)))))))))),?_⟩
 have na:=zar a
 have nb:=zar b
 have p8:2 ^ n<=2 ^ 8:=YK (by decide) au
 have e8:2 ^ 8=256:=rfl
 refine⟨_,rfl,p1,_,rfl,.inl (SqL.of h1),rfl,_,rfl,?_⟩
 cases n with
 | zero =>
  have am:a.length=1:=al
  have aH:b.length=1:=bl
  rw[JB (show V.int (((nums a).length:Nat):Int)=V.int 1 by rw[na,am];rfl)]
  obtain⟨x,rfl⟩:=List.length_eq_one_iff.mp am
  obtain⟨y,rfl⟩:=List.length_eq_one_iff.mp aH
  refine iteT ⟨_,rfl,p1,_,0,_,rfl,rfl,SqL.of h1,rfl,_,rfl,p2,_,0,_,rfl,rfl,SqL.of h2,rfl,(by show 2<=sizeLine;decide),λt W=>⟨(by show 1<=sizeLine;decide),λlf hf=>?_⟩⟩
  have s1:=zab W (.tup [.int x,.int y])
  have s2:=zab hf (.lst [.ref t])
  have u2:=s1.trans s2
  refine⟨_,rfl,p1,_,0,_,rfl,rfl,SqL.of (u2 _ _ h1),rfl,_,rfl,p2,_,0,_,rfl,rfl,SqL.of (u2 _ _ h2),rfl,(by show 2<=sizeLine;decide),λle he=>⟨(by show 2<=sizeLine;decide),λc X=>?_⟩⟩
  have S:=zab he (.lst [.int x,.int y])
  have I:=zab X (.tup [.ref lf,.ref le])
  exact k c lf le [.ref t] _ ((u2.trans S).trans I) (zcs s1 hf) (zap X _) (I _ _ (S _ _ (zap hf _))) ⟨⟨t,rfl,I _ _ (S _ _ (s2 _ _ (zap W _)))⟩,trivial⟩ (I _ _ (zap he _))
 | succ m =>
  obtain⟨a0,a1⟩:=zdc al
  obtain⟨b0,b1⟩:=zdc bl
  have pw:2 ^ (m+1)=2 ^ m*2:=Zh ..
  have p0:=ZU (n:=m)
  rw[Jt (show ¬ V.int (((nums a).length:Nat):Int)=V.int 1 by intro z;injection z with z;lia)]
  refine iteF ⟨_,rfl,2,rfl,rfl,0,p1,_,.inl ⟨rfl,rfl⟩,rfl,SqL.of h1,λq1 ai=>?_⟩
  rw[zkw]
  have s1:=zab ai (.lst (nums (by2 0 a)))
  refine⟨_,rfl,1,rfl,2,rfl,rfl,1,p2,_,.inr ⟨rfl,rfl⟩,rfl,SqL.of (s1 _ _ h2),λq2 ah=>?_⟩
  rw[zkw]
  have s2:=zab ah (.lst (nums (by2 1 b)))
  refine⟨m,rfl,q1,q2,by2 0 a,by2 1 b,rfl,s2 _ _ (zap ai _),zap ah _,a0,b1,by lia,λc3 av i L H3 S _ aC az ad aA=>?_⟩
  have u3:=(s1.trans s2).trans S
  refine⟨c3,_,rfl,SqT.of aC,rfl,_,_,rfl,_,_,rfl,rfl,?_⟩
  refine⟨_,rfl,1,rfl,2,rfl,rfl,1,p1,_,.inr ⟨rfl,rfl⟩,rfl,SqL.of (u3 _ _ h1),λq4 ag=>?_⟩
  rw[zkw]
  have I:=zab ag (.lst (nums (by2 1 a)))
  refine⟨_,rfl,2,rfl,rfl,0,p2,_,.inl ⟨rfl,rfl⟩,rfl,SqL.of (I _ _ (u3 _ _ h2)),λq5 af=>?_⟩
  rw[zkw]
  have s5:=zab af (.lst (nums (by2 0 b)))
  refine⟨m,rfl,q4,q5,by2 1 a,by2 0 b,rfl,s5 _ _ (zap ag _),zap af _,a1,b0,by lia,λc6 ae g J H6 s6 _ aB ay ab N=>?_⟩
  have u6:=(I.trans s5).trans s6
  refine⟨c6,_,rfl,SqT.of aB,rfl,_,_,rfl,_,_,rfl,rfl,?_⟩
  obtain⟨xl,xf⟩:=zbx m _ _ a0 b1
  obtain⟨yl,yf⟩:=zbx m _ _ a1 b0
  have bd:=(zcW m (by lia)).2
  have aJ:=ad.len
  have aI:=ab.len
  have M:=u3.trans u6
  have v:=u6 _ _ aA
  refine⟨_,rfl,_,rfl,av,ae,_,_,rfl,rfl,u6 _ _ az,ay,by rw[JE];lia,λd p=>⟨(by show 0<=sizeLine;decide),λr l=>⟨_,_,rfl,?_⟩⟩⟩
  have D:=zab p (.lst (L++J))
  have R:=zab l (.lst [])
  have ak:d≠r:=zag (zap p (.lst (L++J))) l
  have ap:=(Prs.app (ad.tups (Tups.of u6)) ab).tups (Tups.of (D.trans R))
  have aj:H d=none:=zcs M p
  have ax:H r=none:=zcs (M.trans D) l
  generalize hF:(Bn.mergeN m (by2 0 a) (by2 1 b)).2=fst at *
  generalize hS:(Bn.mergeN m (by2 1 a) (by2 0 b)).2=snd at *
  have e3:=R _ _ (D _ _ v)
  have Z:=R _ _ (D _ _ N)
  have n3:i≠d:=zag v p
  have n6:g≠d:=zag N p
  have ar:i≠r:=zag (D _ _ v) l
  have aq:g≠r:=zag (D _ _ N) l
  refine⟨_,rfl,_,rfl,i,g,_,_,rfl,SqL.of e3,SqL.of Z,?_⟩
  refine zja (K:=K) (b1:=true) (b2:=true) (a1:=i) (a2:=g) (xs:=nums fst) (ys:=nums snd) (by rw[zar,zar,xl,yl]) (λj σ B=>(∃ v7 v8,σ=[some (.ref p1),some (.ref p2),some (.ref d),some (.ref i),some (.ref ae),some (.ref g),some (.ref r),v7,v8])/\Same H B/\B i=some (.lst (nums fst))/\B g=some (.lst (nums snd))/\(∃ ps,B d=some (.lst ps)/\Prs B ps ((Bn.mergeN m (by2 0 a) (by2 1 b)).1++(Bn.mergeN m (by2 1 a) (by2 0 b)).1++(fst.zip snd).take j))/\B r=some (.lst (nums (za0 (fst.take j) (snd.take j))))) ?_ (λj σ B _ z=>⟨SqL.of z.2.2.1,SqL.of z.2.2.2.1⟩) ?_ ?_
  ·refine⟨⟨_,_,rfl⟩,(M.trans D).trans R,e3,Z,⟨L++J,R _ _ (zap p _),?_⟩,zap l _⟩
   rw[Zf,Y5];exact ap
  ·rintro j x y T σ B hx hy hT ⟨⟨v7,v8,rfl⟩,s9,e3,Z,⟨ps,Y,u⟩,h8⟩
   obtain⟨j1,rfl⟩:=num_at hx
   obtain⟨j2,rfl⟩:=num_at hy
   have pl:=u.len
   rw[Jb,Jb,Jw,ZQ]at pl
   have sT:=zab hT (.tup [.int ((fst.getD j 0:Nat):Int),.int ((snd.getD j 0:Nat):Int)])
   refine⟨T,_,rfl,SqT.of zaf,rfl,_,_,rfl,_,_,rfl,rfl,?_⟩
   refine⟨_,rfl,.inl ⟨rfl,_,SqL.of (sT _ _ Y)⟩,_,rfl,_,rfl,(by show 2<=sizeLine;decide),λt W=>?_⟩
   have st:=zab W (.tup [.int ((fst.getD j 0:Nat):Int),.int ((snd.getD j 0:Nat):Int)])
   have ut:=sT.trans st
   refine⟨d,ps,_,rfl,rfl,ut _ _ Y,by rw[JE];lia,?_⟩
   have aw:=zap W (.tup [.int ((fst.getD j 0:Nat):Int),.int ((snd.getD j 0:Nat):Int)])
   have aE:=ut _ _ Y
   have aD:=ut _ _ h8
   have aG:=ut _ _ e3
   have aF:=ut _ _ Z
   have ao:=s9.trans ut
   have aa:=u.tups (Tups.of ut)
   generalize L2.upd (L2.upd B T (.tup [.int ((fst.getD j 0:Nat):Int),.int ((snd.getD j 0:Nat):Int)])) t (.tup [.int ((fst.getD j 0:Nat):Int),.int ((snd.getD j 0:Nat):Int)])=H9 at *
   have tq:=Tups.lst (ys:=ps++[.ref t]) aE
   have O:L2.upd H9 d (.lst (ps++[.ref t])) r=some (.lst (nums (za0 (fst.take j) (snd.take j)))):=by rw[zah ak.symm];exact aD
   refine⟨_,rfl,.inl ⟨rfl,_,SqL.of O⟩,_,rfl,_,rfl,(by show 2<=sizeLine;decide),λq hq=>?_⟩
   have sq:=zab hq (.lst [.int ((fst.getD j 0:Nat):Int),.int ((snd.getD j 0:Nat):Int)])
   have tl:=zbw (fst.take j) (snd.take j) (by rw[Jw,Jw];lia)
   rw[Jw]at tl
   refine⟨r,q,_,_,rfl,rfl,sq _ _ O,zap hq _,by rw[zar,JE,tl];show _+2<=_;lia,?_⟩
   have U:∀ {c:Addr}{o:HO},L2.upd H9 d (.lst (ps++[.ref t])) c=some o->c≠r->L2.upd (L2.upd (L2.upd H9 d (.lst (ps++[.ref t]))) q (.lst [.int ((fst.getD j 0:Nat):Int),.int ((snd.getD j 0:Nat):Int)])) r (.lst (nums (za0 (fst.take j) (snd.take j))++[.int ((fst.getD j 0:Nat):Int),.int ((snd.getD j 0:Nat):Int)])) c=some o:=λe ne=>by rw[zah ne];exact sq _ _ e
   refine⟨⟨_,_,rfl⟩,λc o e=>U (by rw[zah (zag e aj)];exact ao c o e) (zag e ax),U (by rw[zah n3];exact aG) ar,U (by rw[zah n6];exact aF) aq,⟨ps++[.ref t],U zaf ak,?_⟩,?_⟩
   ·rw[zf5 j1 j2,<- JQ]
    have tz:Tups (L2.upd H9 d (.lst (ps++[.ref t]))) _:=λc xs e=>U e (zcQ e O (λz=>by cases z))
    exact(Prs.add (f:=(fst.getD j 0,snd.getD j 0)) (tq _ _ aw) (aa.tups tq)).tups tz
   ·rw[zcH fst snd j j1 j2]
    have e:nums (za0 (fst.take j) (snd.take j)++[fst.getD j 0,snd.getD j 0])=nums (za0 (fst.take j) (snd.take j))++[.int ((fst.getD j 0:Nat):Int),.int ((snd.getD j 0:Nat):Int)]:=by rw[<- zkx];rfl
    rw[e];exact zaf
  ·rintro σ B ⟨⟨v7,v8,rfl⟩,s9,e3,Z,⟨ps,Y,u⟩,h8⟩
   refine⟨_,rfl,_,rfl,(by show 2<=sizeLine;decide),λc X=>?_⟩
   have sc:=zab X (.tup [.ref d,.ref r])
   have eN:Bn.mergeN (m+1) a b=((Bn.mergeN m (by2 0 a) (by2 1 b)).1++(Bn.mergeN m (by2 1 a) (by2 0 b)).1++fst.zip snd,za0 fst snd):=by rw[<- hF,<- hS];rfl
   refine k c d r ps _ (s9.trans sc) aj (zap X _) (sc _ _ Y) ?_ ?_
   ·rw[eN]
    rw[JG (by rw[zar,ZQ];lia)]at u
    exact u.tups (Tups.of sc)
   ·rw[eN]
    rw[JG (by rw[zar];exact Jg _),JG (by rw[zar];lia)]at h8
    exact sc _ _ h8
theorem ziq {f:Addr}{fd:FuncData}(F:Fun K "_law_merger" "_law_merger" zh0 f fd) (G:Mgs mg) (b:Binds K fd ["_law_one","_law_other"] []) (a:mg "_law_merger" = some (.ref f)):∀ n:Nat,FnOk P w K mg base CX0 (n+1) f fd ["_law_one","_law_other"] (zeI n)
 | 0=>zgq F G b a 0 ⟨λvs H Q E ⟨m,h,_⟩=>by lia,λA outer s H args us vs Q E _ _ _ _ ⟨m,h,_⟩=>by lia⟩
 | m+1=>zgq F G b a (m+1) ((ziq F G b a m).imp λvs H Q E ⟨c,h,q⟩=>by cases h;exact q)
abbrev zcm:Sp:=λvs H Q E=>∃ m,m<=4/\zeI m vs H Q E
theorem zir {f:Addr}{fd:FuncData}(F:Fun K "_law_merger" "_law_merger" zh0 f fd) (G:Mgs mg) (b:Binds K fd ["_law_one","_law_other"] []) (a:mg "_law_merger" = some (.ref f)):FnOk P w K mg base CX0 5 f fd ["_law_one","_law_other"] zcm :=
 FnOk.any 4 λm c=>(ziq F G b a m).mono (by lia)
end
abbrev zlC:Stmt:=top 26
structure Few (l f:Nat) (N:Nt):Prop where
 ok:N.Ok
 ln:N.lanes<=l
 fk:N.forks.length<=f
def zhN:Sp:=λvs H Q _=>∃ l:Addr,vs=[.ref l]/\Pk3 H l/\∀ r fr er ps N H',Few 6 8 N->NetAt H' r fr er ps N->Pk3 H' l->But l H H'->Q (.ref r) H'
def FkOk (H:Hp) (lanes:Nat) (x:V):Prop:=∃ a g,x=.ref a/\H a=some (.tup [.int ((g:Nat × Nat).1:Nat),.int ((g.2:Nat))])/\g.1<lanes/\g.2<lanes/\g.1≠g.2
theorem FkOk.tups {H H':Hp}(t:Tups H H') {lanes:Nat}{x:V}(h:FkOk H lanes x):FkOk H' lanes x:=by
 obtain⟨a,g,e,h1,b⟩:=h
 exact⟨a,g,e,t _ _ h1,b⟩
section
variable {P:Program}{w:World}{K:PySem.W.Frag}{mg:Str->Option Value}{base:Heap}
theorem scAy:FnScope ["_law_left_here","_law_lanes","_law_forks","_law_k","_law_a","_law_b","_law_ends_here"] ["_law_left_here"] (zal zlC):=by trivial
theorem zlW {f fK fX:Addr}{fd dK dX:FuncData}(F:Fun K "_law_any" "_law_any" zlC f fd) (G:Mgs mg) (b:Use P w K mg base "_law_pick" ["_law_left_here","_law_many"] 1 zb8 fK dK) (UX:Use P w K mg base "_law_mixed" ["_law_left_here","_law_row"] 2 zft fX dX):FnOk P w K mg base CX0 3 f fd ["_law_left_here"] zhN:=by
 refine F.ok scAy (λvs H Q E h=>?_) (λcdv A outer s H vs Q E hr h=>?_)
 ·obtain⟨l,rfl,_⟩:=h
  rfl
 obtain⟨l,rfl,S,k⟩:=h
 have y:Room 1 _:=hr.mono (by decide)
 refine⟨_,(@zad _ _ _ _ _ (@zav _ _ 1 _ _ _ _ scAy.nd rfl (.inl rfl) (@zay _ _ _ _ _ _ _ zax (@zaO _ _ _ _ (@zaa _ _ _ _ _ zae (@zaa _ _ _ _ _ zae (@zaa _ _ _ _ _ zae (@zaa _ _ _ _ _ zae (@zaa _ _ _ _ _ zae (@zaa _ _ _ _ _ zae (@zaa _ _ _ _ _ zae (@zaa _ _ _ _ _ zae zac (by rfl)) (by rfl)) (by rfl)) (by rfl)) (by rfl)) (by rfl)) (by rfl)) (by rfl))) (@zam _ _ _ _ _ _ _ _ _ _ _ _ _ _ _ _ b.ok y (by rfl) b.m b.kp b.b .nil zaD (@zaa _ _ _ _ _ (@qv _ 0 _ _ (by trivial)) (@zaa _ _ _ _ _ zae zac (by rfl)) (by rfl)) (by decide) (by rfl) (by rfl)) (λ_ _=>rfl)) (by rfl) (by trivial)) (@zad _ _ _ _ _ (@zav _ _ 2 _ _ _ _ scAy.nd rfl (.inl rfl) (@zaO _ _ _ _ zac) (by rfl) (by trivial)) (@zad _ _ _ _ _ (@zbP _ _ _ _ _ _ _ _ Yw rfl (@zbb _ _ _ _ _ _ rfl G.range (@zaa _ _ _ _ _ (@zao _ _ _ _ _ _ _ _ zcq (@zay _ _ _ _ _ _ _ zax (@zaO _ _ _ _ (@zaa _ _ _ _ _ zae (@zaa _ _ _ _ _ zae (@zaa _ _ _ _ _ zae (@zaa _ _ _ _ _ zae (@zaa _ _ _ _ _ zae (@zaa _ _ _ _ _ zae (@zaa _ _ _ _ _ zae (@zaa _ _ _ _ _ zae zac (by rfl)) (by rfl)) (by rfl)) (by rfl)) (by rfl)) (by rfl)) (by rfl)) (by rfl))) (@zam _ _ _ _ _ _ _ _ _ _ _ _ _ _ _ _ b.ok y (by rfl) b.m b.kp b.b .nil zaD (@zaa _ _ _ _ _ (@qv _ 0 _ _ (by trivial)) (@zaa _ _ _ _ _ zae zac (by rfl)) (by rfl)) (by decide) (by rfl) (by rfl)) (λ_ _=>rfl)) (@zaw _ _ _ _ _ _ _ _ _ zcG (by rfl) G.int (by rfl) (@zaa _ _ _ _ _ (@zbt _ _ _ _ _ _ _ _ zj9 (@qv _ 1 _ _ (by trivial)) zae (zaG _)) zac (by rfl)) (by decide) (by decide) (by rfl) (by rfl))) zac (by rfl)) (by rfl)) (@zaj _ _ 3 _ scAy.nd rfl (.inl rfl) (by trivial)) (@zad _ _ _ _ _ (@zav _ _ 4 _ _ _ _ scAy.nd rfl (.inl rfl) (@zam _ _ _ _ _ _ _ _ _ _ _ _ _ _ _ _ b.ok y (by rfl) b.m b.kp b.b .nil zaD (@zaa _ _ _ _ _ (@qv _ 0 _ _ (by trivial)) (@zaa _ _ _ _ _ (@qv _ 1 _ _ (by trivial)) zac (by rfl)) (by rfl)) (by decide) (by rfl) (by rfl)) (by rfl) (by trivial)) (@zad _ _ _ _ _ (@zav _ _ 5 _ _ _ _ scAy.nd rfl (.inl rfl) (@zao _ _ _ _ _ _ _ _ zb4 (@zao _ _ _ _ _ _ _ _ zaW (@zao _ _ _ _ _ _ _ _ zaW (@qv _ 4 _ _ (by trivial)) zae) (@zam _ _ _ _ _ _ _ _ _ _ _ _ _ _ _ _ b.ok y (by rfl) b.m b.kp b.b .nil zaD (@zaa _ _ _ _ _ (@qv _ 0 _ _ (by trivial)) (@zaa _ _ _ _ _ (@zao _ _ _ _ _ _ _ _ zbS (@qv _ 1 _ _ (by trivial)) zae) zac (by rfl)) (by rfl)) (by decide) (by rfl) (by rfl))) (@qv _ 1 _ _ (by trivial))) (by rfl) (by trivial)) (@zai _ _ _ (@zbG _ _ _ _ (@zek _ _ _ _ _ _ _ _ _ _ _ _ YB ZK ZL zbi (@qv _ 2 _ _ (by trivial)) (@zaa _ _ _ _ _ (@zay _ _ _ _ _ _ _ zax (@zaO _ _ _ _ (@zaa _ _ _ _ _ (@zaB _ _ _ _ _ (@zaa _ _ _ _ _ (@qv _ 4 _ _ (by trivial)) (@zaa _ _ _ _ _ (@qv _ 5 _ _ (by trivial)) zac (by rfl)) (by rfl))) (@zaa _ _ _ _ _ (@zaB _ _ _ _ _ (@zaa _ _ _ _ _ (@qv _ 4 _ _ (by trivial)) (@zaa _ _ _ _ _ (@qv _ 5 _ _ (by trivial)) zac (by rfl)) (by rfl))) (@zaa _ _ _ _ _ (@zay _ _ _ _ _ _ _ zax (@zao _ _ _ _ _ _ _ _ zc0 (@qv _ 2 _ _ (by trivial)) (@zaO _ _ _ _ (@zaa _ _ _ _ _ (@zaB _ _ _ _ _ (@zaa _ _ _ _ _ (@qv _ 4 _ _ (by trivial)) (@zaa _ _ _ _ _ (@qv _ 5 _ _ (by trivial)) zac (by rfl)) (by rfl))) zac (by rfl)))) zae (λ_ _=>rfl)) zac (by rfl)) (by rfl)) (by rfl))) (@zam _ _ _ _ _ _ _ _ _ _ _ _ _ _ _ _ b.ok y (by rfl) b.m b.kp b.b .nil zaD (@zaa _ _ _ _ _ (@qv _ 0 _ _ (by trivial)) (@zaa _ _ _ _ _ zae zac (by rfl)) (by rfl)) (by decide) (by rfl) (by rfl)) (λ_ _=>rfl)) zac (by rfl)) (by rfl) (by rfl) (by rfl) (by rfl) (by rfl)) (by rfl))))) (by intro _;rfl)) (@zad _ _ _ _ _ (@zav _ _ 6 _ _ _ _ scAy.nd rfl (.inl rfl) (@zay _ _ _ _ _ _ _ zax (@zaO _ _ _ _ (@zaa _ _ _ _ _ (@zeQ _ _ _ _ _ _ _ rfl (by rfl) G.tuple (by rfl) G.range (@zaa _ _ _ _ _ (@qv _ 1 _ _ (by trivial)) zac (by rfl)) (by rfl) (by rfl)) (@zaa _ _ _ _ _ (@zam _ _ _ _ _ _ _ _ _ _ _ _ _ _ _ _ UX.ok hr (by rfl) UX.m UX.kp UX.b .nil zaD (@zaa _ _ _ _ _ (@qv _ 0 _ _ (by trivial)) (@zaa _ _ _ _ _ (@zeR _ _ _ _ _ _ _ rfl (by rfl) G.list (by rfl) G.range (@zaa _ _ _ _ _ (@qv _ 1 _ _ (by trivial)) zac (by rfl)) (by rfl) (by rfl)) zac (by rfl)) (by rfl)) (by decide) (by rfl) (by rfl)) zac (by rfl)) (by rfl))) (@zam _ _ _ _ _ _ _ _ _ _ _ _ _ _ _ _ b.ok y (by rfl) b.m b.kp b.b .nil zaD (@zaa _ _ _ _ _ (@qv _ 0 _ _ (by trivial)) (@zaa _ _ _ _ _ zae zac (by rfl)) (by rfl)) (by decide) (by rfl) (by rfl)) (λ_ _=>rfl)) (by rfl) (by trivial)) (@zai _ _ _ (@zat _ _ _ _ (@zaB _ _ _ _ _ (@zaa _ _ _ _ _ (@qv _ 1 _ _ (by trivial)) (@zaa _ _ _ _ _ (@zaw _ _ _ _ _ _ _ _ _ zaE (by rfl) G.tuple (by rfl) (@zaa _ _ _ _ _ (@qv _ 2 _ _ (by trivial)) zac (by rfl)) (by decide) (by decide) (by rfl) (by rfl)) (@zaa _ _ _ _ _ (@qv _ 6 _ _ (by trivial)) zac (by rfl)) (by rfl)) (by rfl))))))))),?_⟩
 refine⟨(by show 8<=sizeLine;decide),λt B=>⟨_,rfl,l,8,rfl,by decide,by decide,S.keep (zab B _),λv H1 hv S1 B1=>?_⟩⟩
 obtain⟨lanes,lm,la⟩:=zei (xs:=[1,2,2,3,4,3,4,6]) (v:=v) (by show v<8;lia)
 have lb:1<=lanes/\lanes<=6:=(show ∀ n∈[1,2,2,3,4,3,4,6],1<=n/\n<=6 by decide) lanes lm
 obtain⟨l1,l6⟩:=lb
 refine⟨t,_,_,_,rfl,rfl,SqL.of (B1 t _ (zap B _) (S.ne B).symm),la,?_⟩
 have ai:But l H H1:=(But.of (zab B _)).trans B1
 clear B B1 la lm
 refine⟨(by show 0<=sizeLine;decide),λlf C=>?_⟩
 have m:=S1.ne C
 have sf:=zab C (.lst [])
 have am:Frs l H lf:=ai.frs C
 refine⟨(by show 8<=sizeLine;decide),λt B=>⟨_,rfl,l,8,rfl,by decide,by decide,(S1.keep sf).keep (zab B _),λv2 T av S2 W=>?_⟩⟩
 obtain⟨many,mm,ma⟩:=zei (xs:=[0,1,2,3,4,5,6,8]) (v:=v2) (by show v2<8;lia)
 have mb:many<=8:=(show ∀ n∈[0,1,2,3,4,5,6,8],n<=8 by decide) many mm
 refine⟨t,_,_,_,rfl,rfl,SqL.of (W t _ (zap B _) ((S1.keep sf).ne B).symm),ma,?_⟩
 have ak:=W lf _ (zab B _ _ _ (zap C (.lst []))) m.symm
 have ar:But l H T:=((ai.trans (But.of sf)).trans (But.of (zab B _))).trans W
 clear B W ma mm C sf
 refine⟨_,rfl,_,_,rfl,rfl,.inr ⟨_,rfl,_,_,rfl,rfl,.inl ⟨by lia,by lia⟩,?_⟩⟩
 have cb:((many:Int)*(if decide ((1:Int)<lanes)=true then 1 else 0))=((if 1<lanes then many else 0:Nat):Int):=by
  by_cases z:1<lanes
  ·rw[Jf (JB (by lia)),Jf z];lia
  ·rw[Jc (by rw[Jt (by lia)];exact Jp),Jc z];lia
 have cl:(if 1<lanes then many else 0)<=8:=by split<;>lia
 refine⟨_,rfl,by rw[cb];lia,by rw[cb];lia,?_⟩
 rw[cb]
 generalize ab:(if 1<lanes then many else 0)=cnt at cl
 refine zbU (lo:=0) (n:=((cnt:Nat):Int).toNat) (λi σ T=>(∃ w3 w4 w5 w6,σ=[some (.ref l),some (.int (lanes:Nat)),some (.ref lf),w3,w4,w5,w6])/\Pk3 T l/\But l H T/\∃ ps fs,T lf=some (.lst ps)/\Prs T ps fs/\fs.length=i/\∀ f∈fs,f.1<lanes/\f.2<lanes/\f.1≠f.2)
  ⟨⟨_,_,_,_,rfl⟩,S2,ar,[],[],ak,trivial,rfl,λf hf=>by simp at hf⟩ ?_ ?_
 ·rintro i σ T hi ⟨⟨w3,w4,w5,w6,rfl⟩,S2,W,ps,fs,h2,p2,fl,N⟩
  have l2:1<lanes:=by
   by_cases z:1<lanes
   ·exact z
   ·rw[Jc z]at ab;lia
  refine⟨_,rfl,_,rfl,l,lanes,rfl,by lia,by lia,S2,λone H3 ho Y U=>?_⟩
  refine⟨_,rfl,_,_,rfl,rfl,_,rfl,_,rfl,_,_,rfl,rfl,l,_,rfl,by lia,by lia,Y,λd H4 hd S4 B4=>?_⟩
  refine⟨_,_,rfl,rfl,_,rfl,_,_,rfl,rfl,by lia,?_⟩
  have o:one<lanes:=by lia
  obtain⟨L,J⟩:=zj7 (one:=one) (d:=d) (lanes:=lanes) o (by lia)
  have ec:((one:Int)+1+d)%lanes=(((one+1+d)%lanes:Nat):Int):=by rw[Int.natCast_emod,Int.natCast_add,Int.natCast_add];rfl
  dsimp only
  rw[ec]
  generalize (one+1+d)%lanes=oth at L J
  have h4:=B4 lf _ (U lf _ h2 m.symm) m.symm
  have p4:=p2.tups ((U.tups3 S2).trans (B4.tups3 Y))
  have ap:But l H H4:=(W.trans U).trans B4
  have pl:=p4.len
  refine⟨_,rfl,.inl ⟨rfl,_,SqL.of h4⟩,_,rfl,_,rfl,(by show 2<=sizeLine;decide),λt1 u=>⟨_,rfl,_,rfl,(by show 2<=sizeLine;decide),λt2 ad=>?_⟩⟩
  have s1:=zab u (.tup [.int (one:Nat),.int (oth:Nat)])
  have s2:=zab ad (.tup [.int (one:Nat),.int (oth:Nat)])
  have X:=s1.trans s2
  refine⟨_,rfl,_,rfl,_,rfl,(by show 2<=sizeLine;decide),λq M=>⟨(by show 1<=sizeLine;decide),λl3 ag=>?_⟩⟩
  have s3:=zab M (.tup [.int (one:Nat),.int (oth:Nat)])
  have s4:=zab ag (.lst [.ref q])
  have u4:=(X.trans s3).trans s4
  refine⟨lf,l3,_,_,rfl,rfl,u4 _ _ h4,zap ag _,by rw[JE];show ps.length+1<=_;lia,λl4 af=>?_⟩
  have s5:=zab af (.lst (ps++[.ref q]))
  have Z:=u4.trans s5
  have k1:FkOk _ lanes (.ref t1):=⟨t1,(one,oth),rfl,s5 _ _ (s4 _ _ (s3 _ _ (s2 _ _ (zap u _)))),o,L,J⟩
  have k2:FkOk _ lanes (.ref t2):=⟨t2,(one,oth),rfl,s5 _ _ (s4 _ _ (s3 _ _ (zap ad _))),o,L,J⟩
  obtain⟨x0,e0,k0⟩:∃ x0,(ps++[V.ref q])[0]?=some x0/\FkOk (L2.upd (L2.upd (L2.upd (L2.upd (L2.upd H4 t1 (.tup [.int (one:Nat),.int (oth:Nat)])) t2 (.tup [.int (one:Nat),.int (oth:Nat)])) q (.tup [.int (one:Nat),.int (oth:Nat)])) l3 (.lst [.ref q])) l4 (.lst (ps++[.ref q]))) lanes x0:=by
   cases ps with
   | nil=>exact⟨_,rfl,q,(one,oth),rfl,s5 _ _ (s4 _ _ (zap M _)),o,L,J⟩
   | cons p ps =>
    obtain⟨a,g,e,eg,ha⟩:=p4.get (i:=0) (p:=p) rfl
    exact⟨p,rfl,a,g,e,Z _ _ ha,N g (JT eg)⟩
  have h5:=Z _ _ h4
  have p5:=p4.tups (Tups.of Z)
  have S5:=S4.keep Z
  have B5:=ap.trans (But.of (l:=l) Z)
  refine⟨l4,_,0,x0,rfl,rfl,SqL.of (zap af _),zaR (j:=0) e0,?_⟩
  generalize L2.upd (L2.upd (L2.upd (L2.upd (L2.upd H4 t1 (.tup [.int (one:Nat),.int (oth:Nat)])) t2 (.tup [.int (one:Nat),.int (oth:Nat)])) q (.tup [.int (one:Nat),.int (oth:Nat)])) l3 (.lst [.ref q])) l4 (.lst (ps++[.ref q]))=H5 at *
  refine⟨(by show 3<=sizeLine;decide),λl5 c=>⟨_,rfl,l,3,rfl,by decide,by decide,S5.keep (zab c _),λO H6 aj S6 I=>?_⟩⟩
  have D:=zab c (.lst [.ref t1,.ref t2,x0])
  have au:O<3:=by lia
  have R:=(Tups.of D).trans (I.tups3 (S5.keep D))
  obtain⟨x,ex,kx⟩:∃ x,[V.ref t1,V.ref t2,x0][O]?=some x/\FkOk H6 lanes x:=by
   rcases O with _|_|_|O
   ·exact⟨_,rfl,k1.tups R⟩
   ·exact⟨_,rfl,k2.tups R⟩
   ·exact⟨_,rfl,k0.tups R⟩
   ·lia
  refine⟨l5,_,_,x,rfl,rfl,SqL.of (I l5 _ (zap c _) (S5.ne c).symm),zaR ex,?_⟩
  have h6:=I lf _ (D _ _ h5) m.symm
  have p6:=p5.tups R
  obtain⟨a,g,rfl,ha,gk⟩:=kx
  refine⟨lf,ps,_,rfl,rfl,h6,by rw[JE];lia,⟨_,_,_,_,rfl⟩,S6.upd m,((B5.trans (But.of D)).trans I).upd am,ps++[.ref a],fs++[g],zaf,Prs.add (f:=g) (Tups.lst h6 _ _ ha) (p6.tups (Tups.lst h6)),by rw[Jb,fl];rfl,λf hf=>?_⟩
  rcases Jz.mp hf with z|z
  ·exact N f z
  ·rw[Je.mp z];exact gk
 ·rintro σ T ⟨⟨w3,w4,w5,w6,rfl⟩,S2,W,ps,fs,h2,p2,fl,N⟩
  have ao:fs.length<=8:=by rw[fl];lia
  refine⟨_,rfl,lanes,rfl,by lia,λt1 u=>?_⟩
  have s1:=zab u (.tup (nums (List.range lanes)))
  refine⟨_,rfl,_,rfl,lanes,rfl,by lia,λl2 ah=>?_⟩
  have s2:=zab ah (.lst (nums (List.range lanes)))
  have X:=s1.trans s2
  refine⟨l,l2,nums (List.range lanes),rfl,zap ah _,by rw[zar,Y0];lia,S2.keep X,λq ys H3 py M Y U=>?_⟩
  have aa:=U t1 _ (s2 _ _ (zap u _)) (S2.ne u).symm
  have h3:=U lf _ (X _ _ h2) m.symm
  have p3:=p2.tups ((Tups.of X).trans (U.tups3 (S2.keep X)))
  have aq:=(W.trans (But.of X)).trans U
  refine⟨(by show 2<=sizeLine;decide),λl5 c=>⟨_,rfl,l,2,rfl,by decide,by decide,Y.keep (zab c _),λO H6 aj S6 I=>?_⟩⟩
  have D:=zab c (.lst [.ref t1,.ref q])
  have R:=(Tups.of D).trans (I.tups3 (Y.keep D))
  obtain⟨x,ex,e,kx,pe⟩:∃ x,[V.ref t1,V.ref q][O]?=some (.ref x)/\∃ es:List Nat,H6 x=some (.tup (nums es))/\es.Perm (List.range lanes):=by
   rcases O with _|_|O
   ·exact⟨_,rfl,_,R _ _ aa,.refl _⟩
   ·obtain⟨es,rfl,pe⟩:=zid py
    exact⟨_,rfl,es,R _ _ M,pe⟩
   ·lia
  refine⟨l5,_,_,.ref x,rfl,rfl,SqL.of (I l5 _ (zap c _) (Y.ne c).symm),zaR ex,?_⟩
  have h6:=I lf _ (D _ _ h3) m.symm
  have p6:=p3.tups R
  refine⟨_,rfl,_,rfl,lf,_,rfl,.inl ⟨SqL.of h6,λa ha=>?_⟩⟩
  have s7:=zab ha (.tup ps)
  refine⟨_,rfl,(by show 3<=sizeLine;decide),λr ae=>?_⟩
  have s8:=zab ae (.tup [.int (lanes:Nat),.ref a,.ref x])
  refine k r a x ps ⟨lanes,fs,e⟩ _ ⟨⟨l1,by show lanes<=16;lia,by show fs.length<=128;lia,N,pe⟩,l6,ao⟩ ⟨zap ae _,s8 _ _ (zap ha _),p6.tups (Tups.of (s7.trans s8)),s8 _ _ (s7 _ _ kx)⟩ ((S6.keep s7).keep s8) ((aq.trans (But.of D)).trans (I.trans (But.of (s7.trans s8))))
end
abbrev sChg:Stmt:=top 27
def zlu:Sp:=λvs H Q _=>∃ l r fr er ps N g a,vs=[.ref l,.ref r]/\Pk3 H l/\Few g a N/\a<=100/\NetAt H r fr er ps N/\∀ e c d b N' H',Few g (a+1) N'->N'.lanes=N.lanes->(N'.forks.length<=N.forks.length\/∃ A f B,N'.forks=A++f::f::B)->NetAt H' e c d b N'->Pk3 H' l->But l H H'->Q (.ref e) H'
theorem znb (xs:List V) (i j:Nat):cutV xs (some (i:Int)) (some (j:Int))=(xs.drop i).take (j-i):=by
 unfold cutV
 rw[HT.sIx_nat,HT.sIx_nat]
 by_cases c:i<=xs.length
 ·rw[Zi c]
  by_cases d:j<=xs.length
  ·rw[Zi d]
  ·rw[Nat.min_eq_right (by lia),JG (by rw[Y6];lia),JG (by rw[Y6];lia)]
 ·rw[List.drop_of_length_le (show xs.length<=i by lia),List.drop_of_length_le (by lia),WC,WC]
theorem zkQ (xs:List V) (i:Nat):cutV xs (some (i:Int)) none=xs.drop i:=by
 unfold cutV
 rw[HT.sIx_none,HT.sIx_nat]
 by_cases c:i<=xs.length
 ·rw[Zi c]
  exact JG (by rw[Y6];exact Jg _)
 ·rw[List.drop_of_length_le (show xs.length<=i by lia),List.drop_of_length_le (by lia),WC]
theorem zkP (xs:List V) (i:Nat):cutV xs none (some (i:Int))=xs.take i:=by
 unfold cutV
 rw[HT.sIx_none,HT.sIx_nat,W0,Nat.sub_zero]
 by_cases c:i<=xs.length
 ·rw[Zi c]
 ·rw[JG (by lia),JG (by lia)]
theorem zc7 {H:Hp}:∀ {ps:List V}{fs:List (Nat × Nat)}(n:Nat),Prs H ps fs->Prs H (ps.take n) (fs.take n)
 | [],[],n,_=>by rw[WC,WC];trivial
 | _::_,_::_,0,_=>trivial
 | _::_,_::_,n+1,⟨x,r⟩=>⟨x,zc7 n r⟩
theorem zbH {H:Hp}:∀ {ps:List V}{fs:List (Nat × Nat)}(n:Nat),Prs H ps fs->Prs H (ps.drop n) (fs.drop n)
 | [],[],n,_=>by rw[List.drop_nil,List.drop_nil];trivial
 | _::_,_::_,0,h=>h
 | _::_,_::_,n+1,⟨_,r⟩=>zbH n r
def FksOk (lanes:Nat) (a:List (Nat × Nat)):Prop:=∀ f∈a,f.1<lanes/\f.2<lanes/\f.1≠f.2
theorem FksOk.app {lanes:Nat}{a b:List (Nat × Nat)}(x:FksOk lanes a) (y:FksOk lanes b):FksOk lanes (a++b):=λf c=>(Jz.mp c).elim (x f) (y f)
theorem FksOk.take {lanes:Nat}{a:List (Nat × Nat)}(x:FksOk lanes a) (n:Nat):FksOk lanes (a.take n):=λf b=>x f (YC b)
theorem FksOk.drop {lanes:Nat}{a:List (Nat × Nat)}(x:FksOk lanes a) (n:Nat):FksOk lanes (a.drop n):=λf b=>x f (Zv b)
section
variable {P:Program}{w:World}{K:PySem.W.Frag}{mg:Str->Option Value}{base:Heap}
theorem scCh:FnScope ["_law_left_here","_law_net_here","_law_lanes","_law_forks","_law_ends_here","_law_way","_law_at","_law_k","_law_here","_law_row"] ["_law_left_here","_law_net_here"] (zal sChg):=by trivial
theorem zmU {f fK:Addr}{fd dK:FuncData}(F:Fun K "_law_changed" "_law_changed" sChg f fd) (G:Mgs mg) (X:Use P w K mg base "_law_pick" ["_law_left_here","_law_many"] 1 zb8 fK dK):FnOk P w K mg base CX0 2 f fd ["_law_left_here","_law_net_here"] zlu:=by
 refine F.ok scCh (λvs H Q E h=>?_) (λcdv A outer s H vs Q E hr h=>?_)
 ·obtain⟨l,r,fr,er,ps,N,lb,fb,rfl,_⟩:=h
  rfl
 obtain⟨l,r,fr,er,ps,N,lb,fb,rfl,S,few,aA,na,k⟩:=h
 refine⟨_,(@zad _ _ _ _ _ (@zaV _ _ _ _ _ _ (@qv _ 1 _ _ (by trivial)) (@zaU _ _ _ _ _ _ rfl (@zak _ _ _ _ _ (@zaj _ _ 2 _ scCh.nd rfl (.inl rfl) (by trivial)) (@zak _ _ _ _ _ (@zaj _ _ 3 _ scCh.nd rfl (.inl rfl) (by trivial)) (@zak _ _ _ _ _ (@zaj _ _ 4 _ scCh.nd rfl (.inl rfl) (by trivial)) zaL (by rfl)) (by rfl)) (by rfl)) (by rfl) (by rfl)) (by rfl) (by rfl) (by rfl)) (@zad _ _ _ _ _ (zlG (i:=5) (j:=6) (k:=7) rfl scCh.nd rfl rfl rfl (by decide) (by decide) (by decide) rfl rfl rfl (@zaa _ _ _ _ _ (@zam _ _ _ _ _ _ _ _ _ _ _ _ _ _ _ _ X.ok hr (by rfl) X.m X.kp X.b .nil zaD (@zaa _ _ _ _ _ (@qv _ 0 _ _ (by trivial)) (@zaa _ _ _ _ _ zae zac (by rfl)) (by rfl)) (by decide) (by rfl) (by rfl)) (@zaa _ _ _ _ _ (@zam _ _ _ _ _ _ _ _ _ _ _ _ _ _ _ _ X.ok hr (by rfl) X.m X.kp X.b .nil zaD (@zaa _ _ _ _ _ (@qv _ 0 _ _ (by trivial)) (@zaa _ _ _ _ _ (@zao _ _ _ _ _ _ _ _ zaW (@zaq _ _ _ _ _ _ _ _ _ zas (by rfl) G.len Yn (@zaa _ _ _ _ _ (@qv _ 3 _ _ (by trivial)) zac (by rfl)) (by decide) (by decide) (by rfl) (by rfl)) zae) zac (by rfl)) (by rfl)) (by decide) (by rfl) (by rfl)) (@zaa _ _ _ _ _ (@zam _ _ _ _ _ _ _ _ _ _ _ _ _ _ _ _ X.ok hr (by rfl) X.m X.kp X.b .nil zaD (@zaa _ _ _ _ _ (@qv _ 0 _ _ (by trivial)) (@zaa _ _ _ _ _ (@qv _ 2 _ _ (by trivial)) zac (by rfl)) (by rfl)) (by decide) (by rfl) (by rfl)) zac (by rfl)) (by rfl)) (by rfl)) (by rfl)) (@zad _ _ _ _ _ (@zav _ _ 8 _ _ _ _ scCh.nd rfl (.inl rfl) (@zaF _ _ _ _ _ _ _ _ _ _ za7 (@qv _ 3 _ _ (by trivial)) (@zaA _ _ _ (@qv _ 6 _ _ (by trivial))) (@zaA _ _ _ (@zao _ _ _ _ _ _ _ _ zaW (@qv _ 6 _ _ (by trivial)) zae))) (by rfl) (by trivial)) (@zad _ _ _ _ _ (@zbc _ _ _ _ _ _ _ _ (@zaz _ _ _ _ _ _ _ _ zbQ (@qv _ 5 _ _ (by trivial)) zae (zaG _)) (@zai _ _ _ (@zat _ _ _ _ (@zaB _ _ _ _ _ (@zaa _ _ _ _ _ (@qv _ 2 _ _ (by trivial)) (@zaa _ _ _ _ _ (@zao _ _ _ _ _ _ _ _ zbh (@zao _ _ _ _ _ _ _ _ zbh (@zaF _ _ _ _ _ _ _ _ _ _ za7 (@qv _ 3 _ _ (by trivial)) zaP (@zaA _ _ _ (@qv _ 6 _ _ (by trivial)))) (@zaw _ _ _ _ _ _ _ _ _ zaE (by rfl) G.tuple (by rfl) (@zaa _ _ _ _ _ (@zig _ _ _ _ none _ _ _ (gTup K 2 (zi7 (zdt 0) (zi7 (zdt 1) gNil))) _ _ ["_law_a","_law_b"] [none,none] rfl (@zgj _ _ _ _ (@qv _ 8 _ _ (by trivial))) (CapOk.of (by kernel_rfl)) (λ_ _ _ _ _=>(@zaU _ _ _ _ _ _ rfl (@zak _ _ _ _ _ (@zaj _ _ 0 _ (show (["_law_a","_law_b"]:List Str).Nodup from by decide +kernel) rfl (.inl rfl) (.inr rfl)) (@zak _ _ _ _ _ (@zaj _ _ 1 _ (show (["_law_a","_law_b"]:List Str).Nodup from by decide +kernel) rfl (.inl rfl) (.inr rfl)) zaL (by rfl)) (by rfl)) (by rfl) (by rfl))) (λ_ _ _ _ _=>zcb) (λ_ _ _ _ _=>(@zaB _ _ _ _ _ (@zaa _ _ _ _ _ (@qv _ 1 _ _ (by trivial)) (@zaa _ _ _ _ _ (@qv _ 0 _ _ (by trivial)) zac (by rfl)) (by rfl)))) (by intro _;rfl)) zac (by rfl)) (by decide) (by decide) (by rfl) (by rfl))) (@zaF _ _ _ _ _ _ _ _ _ _ za7 (@qv _ 3 _ _ (by trivial)) (@zaA _ _ _ (@zao _ _ _ _ _ _ _ _ zaW (@qv _ 6 _ _ (by trivial)) zae)) zaP)) (@zaa _ _ _ _ _ (@qv _ 4 _ _ (by trivial)) zac (by rfl)) (by rfl)) (by rfl))))) zaI) (@zad _ _ _ _ _ (@zbc _ _ _ _ _ _ _ _ (@zaz _ _ _ _ _ _ _ _ zbQ (@qv _ 5 _ _ (by trivial)) zae (zaG _)) (@zai _ _ _ (@zat _ _ _ _ (@zaB _ _ _ _ _ (@zaa _ _ _ _ _ (@qv _ 2 _ _ (by trivial)) (@zaa _ _ _ _ _ (@zao _ _ _ _ _ _ _ _ zbh (@zaF _ _ _ _ _ _ _ _ _ _ za7 (@qv _ 3 _ _ (by trivial)) zaP (@zaA _ _ _ (@qv _ 6 _ _ (by trivial)))) (@zaF _ _ _ _ _ _ _ _ _ _ za7 (@qv _ 3 _ _ (by trivial)) (@zaA _ _ _ (@zao _ _ _ _ _ _ _ _ zaW (@qv _ 6 _ _ (by trivial)) zae)) zaP)) (@zaa _ _ _ _ _ (@qv _ 4 _ _ (by trivial)) zac (by rfl)) (by rfl)) (by rfl))))) zaI) (@zad _ _ _ _ _ (@zbc _ _ _ _ _ _ _ _ (@zaz _ _ _ _ _ _ _ _ zbQ (@qv _ 5 _ _ (by trivial)) zae (zaG _)) (@zai _ _ _ (@zat _ _ _ _ (@zaB _ _ _ _ _ (@zaa _ _ _ _ _ (@qv _ 2 _ _ (by trivial)) (@zaa _ _ _ _ _ (@zao _ _ _ _ _ _ _ _ zbh (@zao _ _ _ _ _ _ _ _ zbh (@zaF _ _ _ _ _ _ _ _ _ _ za7 (@qv _ 3 _ _ (by trivial)) zaP (@zaA _ _ _ (@qv _ 6 _ _ (by trivial)))) (@qv _ 8 _ _ (by trivial))) (@zaF _ _ _ _ _ _ _ _ _ _ za7 (@qv _ 3 _ _ (by trivial)) (@zaA _ _ _ (@qv _ 6 _ _ (by trivial))) zaP)) (@zaa _ _ _ _ _ (@qv _ 4 _ _ (by trivial)) zac (by rfl)) (by rfl)) (by rfl))))) zaI) (@zad _ _ _ _ _ (@zbc _ _ _ _ _ _ _ _ (@zaz _ _ _ _ _ _ _ _ zbQ (@qv _ 5 _ _ (by trivial)) zae (zaG _)) (@zai _ _ _ (@zat _ _ _ _ (@zaB _ _ _ _ _ (@zaa _ _ _ _ _ (@qv _ 2 _ _ (by trivial)) (@zaa _ _ _ _ _ (@zao _ _ _ _ _ _ _ _ zbh (@zao _ _ _ _ _ _ _ _ zbh (@zao _ _ _ _ _ _ _ _ zbh (@zaF _ _ _ _ _ _ _ _ _ _ za7 (@qv _ 3 _ _ (by trivial)) zaP (@zaA _ _ _ (@qv _ 6 _ _ (by trivial)))) (@zaF _ _ _ _ _ _ _ _ _ _ za7 (@qv _ 3 _ _ (by trivial)) (@zaA _ _ _ (@zao _ _ _ _ _ _ _ _ zaW (@qv _ 6 _ _ (by trivial)) zae)) (@zaA _ _ _ (@zao _ _ _ _ _ _ _ _ zaW (@qv _ 6 _ _ (by trivial)) zae)))) (@qv _ 8 _ _ (by trivial))) (@zaF _ _ _ _ _ _ _ _ _ _ za7 (@qv _ 3 _ _ (by trivial)) (@zaA _ _ _ (@zao _ _ _ _ _ _ _ _ zaW (@qv _ 6 _ _ (by trivial)) zae)) zaP)) (@zaa _ _ _ _ _ (@qv _ 4 _ _ (by trivial)) zac (by rfl)) (by rfl)) (by rfl))))) zaI) (@zad _ _ _ _ _ (@zav _ _ 9 _ _ _ _ scCh.nd rfl (.inl rfl) (@zaw _ _ _ _ _ _ _ _ _ za2 (by rfl) G.list (by rfl) (@zaa _ _ _ _ _ (@qv _ 4 _ _ (by trivial)) zac (by rfl)) (by decide) (by decide) (by rfl) (by rfl)) (by rfl) (by trivial)) (@zad _ _ _ _ _ (@zaV _ _ _ _ _ _ (@zaB _ _ _ _ _ (@zaa _ _ _ _ _ (@zay _ _ _ _ _ _ _ zaK (@qv _ 4 _ _ (by trivial)) (@qv _ 7 _ _ (by trivial)) (λ_ _=>rfl)) (@zaa _ _ _ _ _ (@zay _ _ _ _ _ _ _ zaK (@qv _ 4 _ _ (by trivial)) zae (λ_ _=>rfl)) zac (by rfl)) (by rfl))) (@zaU _ _ _ _ _ _ rfl (@zak _ _ _ _ _ (@zcZ _ _ _ _ _ _ _ (@qv _ 9 _ _ (by trivial)) zae zbm (by intro _;rfl)) (@zak _ _ _ _ _ (@zcZ _ _ _ _ _ _ _ (@qv _ 9 _ _ (by trivial)) (@qv _ 7 _ _ (by trivial)) zbm (by intro _;rfl)) zaL (by rfl)) (by rfl)) (by rfl) (by rfl)) (by rfl) (by rfl) (by rfl)) (@zai _ _ _ (@zat _ _ _ _ (@zaB _ _ _ _ _ (@zaa _ _ _ _ _ (@qv _ 2 _ _ (by trivial)) (@zaa _ _ _ _ _ (@qv _ 3 _ _ (by trivial)) (@zaa _ _ _ _ _ (@zaw _ _ _ _ _ _ _ _ _ zaE (by rfl) G.tuple (by rfl) (@zaa _ _ _ _ _ (@qv _ 9 _ _ (by trivial)) zac (by rfl)) (by decide) (by decide) (by rfl) (by rfl)) zac (by rfl)) (by rfl)) (by rfl)))))))))))))),?_⟩
 have ok:=few.ok
 have l16:=ok.l16
 have l1:=ok.l1
 have fk:=few.fk
 have pl:=na.prs.len
 refine⟨_,rfl,r,_,rfl,SqT.of na.net,rfl,_,_,rfl,_,_,rfl,_,_,rfl,rfl,?_⟩
 refine⟨_,rfl,l,5,rfl,by decide,by decide,S,λway H1 hw S1 B1=>?_⟩
 have ae:=na.tups (B1.tups3 S)
 refine⟨_,rfl,_,rfl,fr,ps,rfl,.inr (SqT.of ae.forks),_,_,rfl,rfl,l,_,rfl,by lia,by lia,S1,λd H2 ax S2 B2=>?_⟩
 refine⟨_,rfl,_,rfl,l,_,rfl,by lia,by lia,S2,λM H3 hk S3 B3=>⟨_,_,_,rfl,?_⟩⟩
 have C:=(ae.tups (B2.tups3 S1)).tups (B3.tups3 S2)
 have B':But l H H3:=(B1.trans B2).trans B3
 clear ae B1 B2 B3 S1 S2
 have p2:d<=ps.length:=by lia
 refine⟨_,rfl,_,rfl,_,rfl,_,rfl,_,_,rfl,rfl,_,rfl,fr,ps,rfl,C.forks,λhh H4 s4 ad=>?_⟩
 have e1:((d:Nat):Int)+1=((d+1:Nat):Int):=rfl
 have e2:((d:Nat):Int)+2=((d+2:Nat):Int):=rfl
 rw[e1,znb,show d+1-d=1 by lia]at ad
 have v:FksOk N.lanes N.forks:=ok.fk
 have aj:=few.ln
 have bl:N.forks.length<=100:=by lia
 have fin:∀ (a:Addr) (qs:List V) (gs:List (Nat × Nat)) (Z:Hp),Same H3 Z->Z a=some (.tup qs)->Prs Z qs gs->FksOk N.lanes gs->gs.length<=fb+1->(gs.length<=N.forks.length\/∃ A f B,gs=A++f::f::B)->∀ q,Z q=none->Q (.ref q) (L2.upd Z q (.tup [.int (N.lanes:Nat),.ref a,.ref er])):=λa qs gs Z L ha pr go gl tw q hq=>by
  have W:=zab hq (.tup [.int (N.lanes:Nat),.ref a,.ref er])
  have u:=L.trans W
  exact k q a er qs ⟨N.lanes,gs,N.ends⟩ _ ⟨⟨l1,l16,by show gs.length<=128;lia,go,ok.en⟩,aj,gl⟩ rfl tw ⟨zap hq _,W _ _ ha,pr.tups (Tups.of W),u _ _ C.ends⟩ (S3.keep u) (B'.trans (But.of u))
 have J:=C.prs
 have f4:=s4 _ _ C.forks
 have ay:((ps.drop d).take 1).length<=1:=by rw[Jw];lia
 have aa:=zc7 1 (zbH d J)
 have az:((N.forks.drop d).take 1).length<=1:=by rw[Jw];lia
 have pA:=zc7 d J
 have lA:(N.forks.take d).length=d:=by rw[Jw];lia
 have aw:(ps.take d).length=d:=by rw[Jw];lia
 have lD:∀ n,(N.forks.drop n).length=N.forks.length-n:=λn=>Y6
 have ab:∀ n,(ps.drop n).length=N.forks.length-n:=λn=>by rw[Y6,pl]
 dsimp only[zdt]
 refine⟨_,rfl,rfl,_,rfl,ite2 (λ_=>?_) (λ_=>?_)⟩
 ·refine⟨_,rfl,_,rfl,_,rfl,_,rfl,fr,ps,rfl,f4,λp1 Z L Y=>?_⟩
  rw[zkP]at Y
  have u5:=s4.trans L
  have am:=L _ _ ad
  have aq:=aa.tups (Tups.of u5)
  refine⟨_,rfl,hh,rfl,⟨_,SqT.of am⟩,λlc ag=>?_⟩
  have W:=zab ag (.lst [])
  refine zlf (K:=K) (a:=hh) (xs:=(ps.drop d).take 1) (λi acc σ H6=>(∃ v0 v1,σ=[v0,v1])/\Same Z H6/\H6 lc=some (.lst acc)/\acc.length=i/\Prs H6 acc ((((N.forks.drop d).take 1).take i).map λg=>(g.2,g.1))) ⟨⟨_,_,rfl⟩,W,zap ag _,rfl,trivial⟩ (λi acc σ H6 z=>⟨z.2.2.1,SqT.of (z.2.1 _ _ am)⟩) ?_ ?_
  ·rintro i x acc σ H6 hx ⟨⟨v0,v1,rfl⟩,s7,h7,al,p7⟩
   obtain⟨a,g,rfl,eg,ha⟩:=(aq.tups (Tups.of s7)).get hx
   have gi:=(Jd.mp eg).1
   refine⟨a,_,rfl,SqT.of ha,rfl,_,_,rfl,_,_,rfl,rfl,?_⟩
   refine⟨_,rfl,_,rfl,(by show 2<=sizeLine;decide),λt ht=>?_⟩
   have s8:=zab ht (.tup [.int (g.2:Nat),.int (g.1:Nat)])
   have h8:=s8 _ _ h7
   refine⟨h8,by rw[JE];lia,nx (Jd.mp hx).1 ⟨⟨_,_,rfl⟩,λb o e=>?_,zaf,by rw[Jb,al];rfl,?_⟩⟩
   ·rw[zah (zag e ag)];exact s8 _ _ (s7 b o e)
   ·rw[<- Yx gi,Y2,(Jd.mp eg).2]
    exact Prs.add (f:=(g.2,g.1)) (Tups.lst h8 _ _ (zap ht _)) ((p7.tups (Tups.of s8)).tups (Tups.lst h8))
  rintro acc σ H6 ⟨⟨v0,v1,rfl⟩,s7,h7,al,p7⟩
  rw[JG (by rw[aa.len];exact Jg _)]at p7
  refine⟨lc,_,rfl,.inl ⟨SqL.of h7,λt8 ak=>?_⟩⟩
  have s8:=zab ak (.tup acc)
  refine⟨p1,t8,_,_,rfl,rfl,s8 _ _ (s7 _ _ Y),zap ak _,by rw[JE];lia,λp9 H9 s9 h9=>?_⟩
  have u9:=((u5.trans s7).trans s8).trans s9
  refine⟨_,rfl,_,rfl,_,_,rfl,rfl,_,rfl,fr,ps,rfl,u9 _ _ C.forks,λR ai p D=>?_⟩
  rw[e1,zkQ]at D
  refine⟨p9,R,_,_,rfl,rfl,p _ _ h9,D,by rw[JE,Jb,ab (d+1)];lia,λO ah I U=>?_⟩
  have m:=(u9.trans p).trans I
  refine⟨_,rfl,(by show 3<=sizeLine;decide),fin O _ _ _ m U (Prs.app (Prs.app (pA.tups (Tups.of m)) (p7.tups (Tups.of (((s8.trans s9).trans p).trans I)))) ((zbH (d+1) J).tups (Tups.of m))) ?_ ?_ ?_⟩
  ·refine((v.take _).app λf hf=>?_).app (v.drop _)
   obtain⟨g,hg,rfl⟩:=JD.mp hf
   obtain⟨a,b,c⟩:=v g (Zv (YC hg))
   exact⟨b,a,c.symm⟩
  ·rw[Jb,Jb,Jh,lA,lD];lia
  ·refine .inl ?_
   have c7:((N.forks.drop d).take 1).length=min 1 (N.forks.length-d):=by rw[Jw,lD]
   rw[Jb,Jb,Jh,lA,lD,c7];lia
 refine⟨_,rfl,rfl,_,rfl,ite2 (λ_=>?_) (λ_=>?_)⟩
 ·refine⟨_,rfl,_,rfl,_,rfl,_,rfl,fr,ps,rfl,f4,λp1 Z L Y=>?_⟩
  rw[zkP]at Y
  have u5:=s4.trans L
  refine⟨_,rfl,_,rfl,_,_,rfl,rfl,_,rfl,fr,ps,rfl,u5 _ _ C.forks,λR ai p D=>?_⟩
  rw[e1,zkQ]at D
  refine⟨p1,R,_,_,rfl,rfl,p _ _ Y,D,by rw[JE,ab (d+1)];lia,λO ah I U=>?_⟩
  have m:=(u5.trans p).trans I
  refine⟨_,rfl,(by show 3<=sizeLine;decide),fin O _ _ _ m U (Prs.app (pA.tups (Tups.of m)) ((zbH (d+1) J).tups (Tups.of m))) ((v.take _).app (v.drop _)) ?_ (.inl ?_)⟩
  ·rw[Jb,lA,lD];lia
  ·rw[Jb,lA,lD];lia
 refine⟨_,rfl,rfl,_,rfl,ite2 (λ_=>?_) (λ_=>?_)⟩
 ·refine⟨_,rfl,_,rfl,_,rfl,_,rfl,fr,ps,rfl,f4,λp1 Z L Y=>?_⟩
  rw[zkP]at Y
  have u5:=s4.trans L
  refine⟨_,rfl,p1,hh,_,_,rfl,rfl,Y,L _ _ ad,by rw[JE];lia,λp9 H9 s9 h9=>?_⟩
  have u9:=u5.trans s9
  refine⟨_,rfl,_,rfl,_,rfl,fr,ps,rfl,u9 _ _ C.forks,λR ai p D=>?_⟩
  rw[zkQ]at D
  refine⟨p9,R,_,_,rfl,rfl,p _ _ h9,D,by rw[JE,Jb,ab d];lia,λO ah I U=>?_⟩
  have m:=(u9.trans p).trans I
  refine⟨_,rfl,(by show 3<=sizeLine;decide),fin O _ _ _ m U (Prs.app (Prs.app (pA.tups (Tups.of m)) (aa.tups (Tups.of m))) ((zbH d J).tups (Tups.of m))) (((v.take _).app ((v.drop _).take _)).app (v.drop _)) ?_ ?_⟩
  ·rw[Jb,Jb,lA,lD];lia
  ·by_cases y:d<N.forks.length
   ·refine .inr ⟨N.forks.take d,N.forks[d],N.forks.drop (d+1),?_⟩
    rw[Yv y,JQ];rfl
   ·refine .inl ?_
    rw[Jb,Jb,lA,lD,List.drop_eq_nil_of_le (by lia)]
    show d+0+_<=_
    lia
 refine⟨_,rfl,rfl,_,rfl,ite2 (λ_=>?_) (λ_=>?_)⟩
 ·refine⟨_,rfl,_,rfl,_,rfl,_,rfl,fr,ps,rfl,f4,λp1 Z L Y=>?_⟩
  rw[zkP]at Y
  have u5:=s4.trans L
  refine⟨_,rfl,_,rfl,_,_,rfl,rfl,_,rfl,_,rfl,_,_,rfl,rfl,_,rfl,fr,ps,rfl,u5 _ _ C.forks,λp6 H6 W h6=>?_⟩
  rw[e1,e2,znb,show d+2-(d+1)=1 by lia]at h6
  have l6:((ps.drop (d+1)).take 1).length<=1:=by rw[Jw];lia
  have g6:((N.forks.drop (d+1)).take 1).length<=1:=by rw[Jw];lia
  refine⟨p1,p6,_,_,rfl,rfl,W _ _ Y,h6,by rw[JE];lia,λp7 H7 s7 h7=>?_⟩
  have u7:=(u5.trans W).trans s7
  refine⟨_,rfl,p7,hh,_,_,rfl,rfl,h7,s7 _ _ (W _ _ (L _ _ ad)),by rw[JE,Jb];lia,λp9 H9 s9 h9=>?_⟩
  have u9:=u7.trans s9
  refine⟨_,rfl,_,rfl,_,_,rfl,rfl,_,rfl,fr,ps,rfl,u9 _ _ C.forks,λR ai p D=>?_⟩
  rw[e2,zkQ]at D
  refine⟨p9,R,_,_,rfl,rfl,p _ _ h9,D,by rw[JE,Jb,Jb,ab (d+2)];lia,λO ah I U=>?_⟩
  have m:=(u9.trans p).trans I
  have c6:((N.forks.drop (d+1)).take 1).length=min 1 (N.forks.length-(d+1)):=by rw[Jw,lD]
  have c7:((N.forks.drop d).take 1).length=min 1 (N.forks.length-d):=by rw[Jw,lD]
  have ll:(N.forks.take d++(N.forks.drop (d+1)).take 1++(N.forks.drop d).take 1++N.forks.drop (d+2)).length<=N.forks.length:=by
   rw[Jb,Jb,Jb,lA,lD,c6,c7];lia
  exact⟨_,rfl,(by show 3<=sizeLine;decide),fin O _ _ _ m U (Prs.app (Prs.app (Prs.app (pA.tups (Tups.of m)) ((zc7 1 (zbH (d+1) J)).tups (Tups.of m))) (aa.tups (Tups.of m))) ((zbH (d+2) J).tups (Tups.of m))) ((((v.take _).app ((v.drop _).take _)).app ((v.drop _).take _)).app (v.drop _)) (JW ll (by lia)) (.inl ll)⟩
 have ap:=s4 _ _ C.ends
 have el:N.ends.length=N.lanes:=by rw[ok.en.length_eq,Y0]
 have av:=zar N.ends
 have k1:M<N.ends.length:=by lia
 refine⟨_,rfl,er,_,rfl,.inr (SqT.of ap),λlr af=>?_⟩
 have L:=zab af (.lst (nums N.ends))
 have ao:=L _ _ ap
 have a1:=zaR (m_at N.ends M k1)
 have a0:=zaR (j:=0) (m_at N.ends 0 (by lia))
 refine⟨_,rfl,_,rfl,er,_,_,_,rfl,rfl,SqT.of ao,a1,_,rfl,er,_,0,_,rfl,rfl,SqT.of ao,a0,(by show 2<=sizeLine;decide),λT hT=>?_⟩
 have W:=zab hT (.tup [.int ((N.ends.getD M 0:Nat):Int),.int ((N.ends.getD 0 0:Nat):Int)])
 have h6:=W _ _ (zap af (.lst (nums N.ends)))
 refine⟨T,_,rfl,SqT.of zaf,rfl,_,_,rfl,?_⟩
 have u6:=(s4.trans L).trans W
 let d1:List Nat:=N.ends.set 0 (N.ends.getD M 0)
 let d2:List Nat:=d1.set M (N.ends.getD 0 0)
 have z1:(nums N.ends).set 0 (.int ((N.ends.getD M 0:Nat):Int))=nums d1:=List.map_set.symm
 have z2:(nums d1).set M (.int ((N.ends.getD 0 0:Nat):Int))=nums d2:=List.map_set.symm
 have au:(nums d1).length=N.ends.length:=by rw[zar];exact Z5
 have pd:d2.Perm N.ends:=by
  have:=List.set_set_perm (as:=N.ends) (i:=0) (j:=M) (by lia) k1
  have g1:N.ends.getD M 0=N.ends[M]:=by rw[J9,J7 k1];rfl
  have g0:N.ends.getD 0 0=N.ends[0]:=by rw[J9,J7 (by lia)];rfl
  show ((N.ends.set 0 (N.ends.getD M 0)).set M (N.ends.getD 0 0)).Perm N.ends
  rw[g1,g0];exact this
 refine⟨_,rfl,lr,_,0,0,rfl,rfl,h6,zhf (i:=0) (by lia),?_⟩
 rw[z1]
 have ar:L2.upd (L2.upd (L2.upd H4 lr (.lst (nums N.ends))) T (.tup [.int ((N.ends.getD M 0:Nat):Int),.int ((N.ends.getD 0 0:Nat):Int)])) lr (.lst (nums d1)) lr=some (.lst (nums d1)):=zaf
 have n3:H3 lr=none:=zcs s4 af
 have sm:∀ (xs ys:List V),Same H3 (L2.upd (L2.upd (L2.upd (L2.upd H4 lr (.lst (nums N.ends))) T (.tup [.int ((N.ends.getD M 0:Nat):Int),.int ((N.ends.getD 0 0:Nat):Int)])) lr (.lst xs)) lr (.lst ys)):=λxs ys b o e=>by
  rw[zah (zag e n3),zah (zag e n3)];exact u6 b o e
 refine⟨_,_,rfl,_,rfl,_,rfl,lr,_,_,M,rfl,rfl,ar,by rw[au];exact zhf k1,?_⟩
 rw[z2]
 refine⟨rfl,_,rfl,_,rfl,_,rfl,lr,_,rfl,.inl ⟨SqL.of zaf,λt ht=>⟨(by show 3<=sizeLine;decide),λq hq=>?_⟩⟩⟩
 have s7:=zab ht (.tup (nums d2))
 have s8:=zab hq (.tup [.int (N.lanes:Nat),.ref fr,.ref t])
 have u:=((sm (nums d1) (nums d2)).trans s7).trans s8
 exact k q fr t ps ⟨N.lanes,N.forks,d2⟩ _ ⟨⟨l1,l16,ok.fm,ok.fk,pd.trans ok.en⟩,aj,by show N.forks.length<=fb+1;lia⟩ rfl (.inl (Jg _)) ⟨zap hq _,u _ _ C.forks,J.tups (Tups.of u),s8 _ _ (zap ht _)⟩ (S3.keep u) (B'.trans (But.of u))
end
abbrev zhX:Stmt:=top 22
def zeH (m:Nat):Sp:=λvs H Q _=>∃ p row,vs=[.ref p]/\H p=some (.lst (nums row))/\row.length=2 ^ m/\m<=4/\∀ c lf le ps H',Same H H'->H' c=some (.tup [.ref lf,.ref le])->H' lf=some (.lst ps)->Prs H' ps (zbN m row).1->H' le=some (.lst (nums (zbN m row).2))->Q (.ref c) H'
section
variable {P:Program}{w:World}{K:PySem.W.Frag}{mg:Str->Option Value}{base:Heap}
theorem scSo:FnScope ["_law_row","_law_half","_law_forks","_law_one","_law_more","_law_other","_law_last","_law_ends_here"] ["_law_row"] (zal zhX):=by trivial
theorem zgp {f fB:Addr}{fd dB:FuncData}(F:Fun K "_law_stairway" "_law_stairway" zhX f fd) (G:Mgs mg) (C:Use P w K mg base "_law_merger" ["_law_one","_law_other"] 5 zcm fB dB) (bS:Binds K fd ["_law_row"] []) (mS:mg "_law_stairway" = some (.ref f)) (n:Nat)
  (GS:FnOk P w K mg base CX0 (n+5) f fd ["_law_row"] (λvs H Q E=>∃ m,n=m+1/\zeH m vs H Q E)):FnOk P w K mg base CX0 (n+6) f fd ["_law_row"] (zeH n):=by
 have a:Use P w K mg base "_law_stairway" ["_law_row"] (n+5) (λvs H Q E=>∃ m,n=m+1/\zeH m vs H Q E) f fd:=⟨GS,bS,F.kp,mS⟩
 refine F.ok scSo (λvs H Q E h=>?_) (λcdv A outer s H vs Q E J h=>?_)
 ·obtain⟨p,row,rfl,_⟩:=h
  rfl
 obtain⟨p,row,rfl,e,I,O,k⟩:=h
 have W:Room 5 _:=J.mono (by lia)
 refine⟨_,(@zad _ _ _ _ _ (@zbc _ _ _ _ _ _ _ _ (@zaz _ _ _ _ _ _ _ _ zbQ (@zaq _ _ _ _ _ _ _ _ _ zas (by rfl) G.len Yn (@zaa _ _ _ _ _ (@qv _ 0 _ _ (by trivial)) zac (by rfl)) (by decide) (by decide) (by rfl) (by rfl)) zae (zaG _)) (@zai _ _ _ (@zat _ _ _ _ (@zaB _ _ _ _ _ (@zaa _ _ _ _ _ (@zaO _ _ _ _ zac) (@zaa _ _ _ _ _ (@zaw _ _ _ _ _ _ _ _ _ za2 (by rfl) G.list (by rfl) (@zaa _ _ _ _ _ (@qv _ 0 _ _ (by trivial)) zac (by rfl)) (by decide) (by decide) (by rfl) (by rfl)) zac (by rfl)) (by rfl))))) zaI) (@zad _ _ _ _ _ (@zav _ _ 1 _ _ _ _ scSo.nd rfl (.inl rfl) (@zao _ _ _ _ _ _ _ _ zce (@zaq _ _ _ _ _ _ _ _ _ zas (by rfl) G.len Yn (@zaa _ _ _ _ _ (@qv _ 0 _ _ (by trivial)) zac (by rfl)) (by decide) (by decide) (by rfl) (by rfl)) zae) (by rfl) (by trivial)) (@zad _ _ _ _ _ (@zaV _ _ _ _ _ _ (@zam _ _ _ _ _ _ _ _ _ _ _ _ _ _ _ _ a.ok J (by rfl) a.m a.kp a.b .nil zaD (@zaa _ _ _ _ _ (@zaF _ _ _ _ _ _ _ _ _ _ zb9 (@qv _ 0 _ _ (by trivial)) zaP (@zaA _ _ _ (@qv _ 1 _ _ (by trivial)))) zac (by rfl)) (by decide) (by rfl) (by rfl)) (@zaU _ _ _ _ _ _ rfl (@zak _ _ _ _ _ (@zaj _ _ 2 _ scSo.nd rfl (.inl rfl) (by trivial)) (@zak _ _ _ _ _ (@zaj _ _ 3 _ scSo.nd rfl (.inl rfl) (by trivial)) zaL (by rfl)) (by rfl)) (by rfl) (by rfl)) (by rfl) (by rfl) (by rfl)) (@zad _ _ _ _ _ (@zaV _ _ _ _ _ _ (@zam _ _ _ _ _ _ _ _ _ _ _ _ _ _ _ _ a.ok J (by rfl) a.m a.kp a.b .nil zaD (@zaa _ _ _ _ _ (@zaF _ _ _ _ _ _ _ _ _ _ zb9 (@qv _ 0 _ _ (by trivial)) (@zaA _ _ _ (@qv _ 1 _ _ (by trivial))) zaP) zac (by rfl)) (by decide) (by rfl) (by rfl)) (@zaU _ _ _ _ _ _ rfl (@zak _ _ _ _ _ (@zaj _ _ 4 _ scSo.nd rfl (.inl rfl) (by trivial)) (@zak _ _ _ _ _ (@zaj _ _ 5 _ scSo.nd rfl (.inl rfl) (by trivial)) zaL (by rfl)) (by rfl)) (by rfl) (by rfl)) (by rfl) (by rfl) (by rfl)) (@zad _ _ _ _ _ (@zaV _ _ _ _ _ _ (@zam _ _ _ _ _ _ _ _ _ _ _ _ _ _ _ _ C.ok W (by rfl) C.m C.kp C.b .nil zaD (@zaa _ _ _ _ _ (@qv _ 3 _ _ (by trivial)) (@zaa _ _ _ _ _ (@qv _ 5 _ _ (by trivial)) zac (by rfl)) (by rfl)) (by decide) (by rfl) (by rfl)) (@zaU _ _ _ _ _ _ rfl (@zak _ _ _ _ _ (@zaj _ _ 6 _ scSo.nd rfl (.inl rfl) (by trivial)) (@zak _ _ _ _ _ (@zaj _ _ 7 _ scSo.nd rfl (.inl rfl) (by trivial)) zaL (by rfl)) (by rfl)) (by rfl) (by rfl)) (by rfl) (by rfl) (by rfl)) (@zai _ _ _ (@zat _ _ _ _ (@zaB _ _ _ _ _ (@zaa _ _ _ _ _ (@zao _ _ _ _ _ _ _ _ zc0 (@zao _ _ _ _ _ _ _ _ zc0 (@qv _ 2 _ _ (by trivial)) (@qv _ 4 _ _ (by trivial))) (@qv _ 6 _ _ (by trivial))) (@zaa _ _ _ _ _ (@qv _ 7 _ _ (by trivial)) zac (by rfl)) (by rfl)))))))))),?_⟩
 have nl:=zar row
 have p8:2 ^ n<=2 ^ 4:=YK (by decide) O
 have e8:2 ^ 4=16:=rfl
 refine⟨_,rfl,p,_,rfl,.inl (SqL.of e),rfl,_,rfl,?_⟩
 cases n with
 | zero =>
  have M:row.length=1:=I
  rw[JB (show V.int (((nums row).length:Nat):Int)=V.int 1 by rw[nl,M];rfl)]
  refine iteT ⟨(by show 0<=sizeLine;decide),λl L=>⟨_,rfl,p,_,rfl,.inl (SqL.of (zab L _ _ _ e)),λle hle=>⟨(by show 2<=sizeLine;decide),λc g=>?_⟩⟩⟩
  have s1:=zab L (.lst [])
  have s2:=zab hle (.lst (nums row))
  have d:=zab g (.tup [.ref l,.ref le])
  exact k c l le [] _ ((s1.trans s2).trans d) (zap g _) (d _ _ (s2 _ _ (zap L _))) trivial (d _ _ (zap hle _))
 | succ m =>
  obtain⟨t1,t2,t3⟩:=zc3 I
  obtain⟨la,lb⟩:=zcw I
  have pw:2 ^ (m+1)=2 ^ m*2:=Zh ..
  have p0:=ZU (n:=m)
  rw[Jt (show ¬ V.int (((nums row).length:Nat):Int)=V.int 1 by intro z;injection z with z;lia)]
  refine iteF ⟨_,rfl,p,_,rfl,.inl (SqL.of e),_,_,rfl,rfl,⟨by decide,by decide⟩,?_⟩
  have eh:(((nums row).length:Nat):Int) / 2=((row.length / 2:Nat):Int):=by rw[nl];lia
  simp only[eh]
  refine⟨_,rfl,_,rfl,_,rfl,p,_,rfl,SqL.of e,λp1 v=>?_⟩
  rw[ziL row _ t3]
  have s1:=zab v (.lst (nums (row.take (row.length / 2))))
  refine⟨m,rfl,p1,row.take (row.length / 2),rfl,zap v _,la,by lia,λc2 T le2 j H2 s2 ag Z r ad=>?_⟩
  have u2:=s1.trans s2
  refine⟨c2,_,rfl,SqT.of ag,rfl,_,_,rfl,_,_,rfl,rfl,?_⟩
  refine⟨_,rfl,_,rfl,_,rfl,p,_,rfl,SqL.of (u2 _ _ e),λp3 u=>?_⟩
  rw[ziM row _ t3]
  have d:=zab u (.lst (nums (row.drop (row.length / 2))))
  refine⟨m,rfl,p3,row.drop (row.length / 2),rfl,zap u _,lb,by lia,λc4 S U i H4 s4 af Y q ab=>?_⟩
  have B:=d.trans s4
  refine⟨c4,_,rfl,SqT.of af,rfl,_,_,rfl,_,_,rfl,rfl,?_⟩
  obtain⟨xl,xf⟩:=zck m _ la
  obtain⟨yl,yf⟩:=zck m _ lb
  obtain⟨zl,zf⟩:=zbx m _ _ xl yl
  have aj:=r.len
  have ai:=q.len
  obtain⟨am,ak⟩:=zcW m (by lia)
  refine⟨_,rfl,_,rfl,m,by lia,le2,U,_,_,rfl,B _ _ ad,ab,xl,yl,by lia,λc6 R t N H6 b _ ae X o aa=>?_⟩
  refine⟨c6,_,rfl,SqT.of ae,rfl,_,_,rfl,_,_,rfl,rfl,?_⟩
  have ah:=o.len
  refine⟨_,rfl,_,rfl,T,S,_,_,rfl,rfl,b _ _ (B _ _ Z),b _ _ Y,by rw[JE];lia,λl7 y=>?_⟩
  have s7:=zab y (.lst (j++i))
  refine⟨_,rfl,l7,R,_,_,rfl,rfl,zap y _,s7 _ _ X,by rw[JE,Jb];lia,λl8 x=>?_⟩
  have s8:=zab x (.lst ((j++i)++N))
  refine⟨_,rfl,(by show 2<=sizeLine;decide),λc g=>?_⟩
  have s9:=zab g (.tup [.ref l8,.ref t])
  have D:=(s7.trans s8).trans s9
  refine k c l8 t _ _ ((u2.trans B).trans (b.trans D)) (zap g _) (s9 _ _ (zap x _)) ?_ (D _ _ aa)
  refine Prs.tups (Tups.of D) ?_
  exact Prs.app (Prs.app ((r.tups (Tups.of B)).tups (Tups.of b)) (q.tups (Tups.of b))) o
theorem zim {f d:Addr}{fd e:FuncData}(F:Fun K "_law_stairway" "_law_stairway" zhX f fd) (G:Mgs mg) (c:Use P w K mg base "_law_merger" ["_law_one","_law_other"] 5 zcm d e) (b:Binds K fd ["_law_row"] []) (a:mg "_law_stairway" = some (.ref f)):∀ n:Nat,FnOk P w K mg base CX0 (n+6) f fd ["_law_row"] (zeH n)
 | 0=>zgp F G c b a 0 ⟨λvs H Q E ⟨m,h,_⟩=>by lia,λA outer s H args us vs Q E _ _ _ _ ⟨m,h,_⟩=>by lia⟩
 | m+1=>zgp F G c b a (m+1) ((zim F G c b a m).imp λvs H Q E ⟨g,h,q⟩=>by cases h;exact q)
abbrev zd6:Sp:=λvs H Q E=>∃ m,m<=4/\zeH m vs H Q E
theorem zin {f b:Addr}{fd c:FuncData}(F:Fun K "_law_stairway" "_law_stairway" zhX f fd) (G:Mgs mg) (e:Use P w K mg base "_law_merger" ["_law_one","_law_other"] 5 zcm b c) (d:Binds K fd ["_law_row"] []) (a:mg "_law_stairway" = some (.ref f)):FnOk P w K mg base CX0 10 f fd ["_law_row"] zd6 :=
 FnOk.any 4 λm g=>(zim F G e d a m).mono (by lia)
end
abbrev zhW:Stmt:=top 24
def zeG (m:Nat):Sp:=λvs H Q _=>∃ p row,vs=[.ref p]/\H p=some (.lst (nums row))/\row.length=2 ^ m/\m<=4/\∀ c lf le ps H',Same H H'->H' c=some (.tup [.ref lf,.ref le])->H' lf=some (.lst ps)->Prs H' ps (zb7 m row).1->H' le=some (.lst (nums (zb7 m row).2))->Q (.ref c) H'
section
variable {P:Program}{w:World}{K:PySem.W.Frag}{mg:Str->Option Value}{base:Heap}
theorem scTo:FnScope ["_law_row","_law_half","_law_forks","_law_one","_law_more","_law_other","_law_ends_here","_law_x","_law_y"] ["_law_row"] (zal zhW):=by trivial
theorem zgo {f:Addr}{fd:FuncData}(F:Fun K "_law_tree" "_law_tree" zhW f fd) (G:Mgs mg) (bS:Binds K fd ["_law_row"] []) (mS:mg "_law_tree" = some (.ref f)) (n:Nat)
  (GS:FnOk P w K mg base CX0 n f fd ["_law_row"] (λvs H Q E=>∃ m,n=m+1/\zeG m vs H Q E)):FnOk P w K mg base CX0 (n+1) f fd ["_law_row"] (zeG n):=by
 have u:Use P w K mg base "_law_tree" ["_law_row"] n (λvs H Q E=>∃ m,n=m+1/\zeG m vs H Q E) f fd:=⟨GS,bS,F.kp,mS⟩
 refine F.ok scTo (λvs H Q E h=>?_) (λcdv A outer s H vs Q E hr h=>?_)
 ·obtain⟨p,row,rfl,_⟩:=h
  rfl
 obtain⟨p,row,rfl,D,rl,ai,k⟩:=h
 refine⟨_,(@zad _ _ _ _ _ (@zbc _ _ _ _ _ _ _ _ (@zaz _ _ _ _ _ _ _ _ zbQ (@zaq _ _ _ _ _ _ _ _ _ zas (by rfl) G.len Yn (@zaa _ _ _ _ _ (@qv _ 0 _ _ (by trivial)) zac (by rfl)) (by decide) (by decide) (by rfl) (by rfl)) zae (zaG _)) (@zai _ _ _ (@zat _ _ _ _ (@zaB _ _ _ _ _ (@zaa _ _ _ _ _ (@zaO _ _ _ _ zac) (@zaa _ _ _ _ _ (@zaw _ _ _ _ _ _ _ _ _ za2 (by rfl) G.list (by rfl) (@zaa _ _ _ _ _ (@qv _ 0 _ _ (by trivial)) zac (by rfl)) (by decide) (by decide) (by rfl) (by rfl)) zac (by rfl)) (by rfl))))) zaI) (@zad _ _ _ _ _ (@zav _ _ 1 _ _ _ _ scTo.nd rfl (.inl rfl) (@zao _ _ _ _ _ _ _ _ zce (@zaq _ _ _ _ _ _ _ _ _ zas (by rfl) G.len Yn (@zaa _ _ _ _ _ (@qv _ 0 _ _ (by trivial)) zac (by rfl)) (by decide) (by decide) (by rfl) (by rfl)) zae) (by rfl) (by trivial)) (@zad _ _ _ _ _ (@zaV _ _ _ _ _ _ (@zam _ _ _ _ _ _ _ _ _ _ _ _ _ _ _ _ u.ok hr (by rfl) u.m u.kp u.b .nil zaD (@zaa _ _ _ _ _ (@zaF _ _ _ _ _ _ _ _ _ _ zb9 (@qv _ 0 _ _ (by trivial)) zaP (@zaA _ _ _ (@qv _ 1 _ _ (by trivial)))) zac (by rfl)) (by decide) (by rfl) (by rfl)) (@zaU _ _ _ _ _ _ rfl (@zak _ _ _ _ _ (@zaj _ _ 2 _ scTo.nd rfl (.inl rfl) (by trivial)) (@zak _ _ _ _ _ (@zaj _ _ 3 _ scTo.nd rfl (.inl rfl) (by trivial)) zaL (by rfl)) (by rfl)) (by rfl) (by rfl)) (by rfl) (by rfl) (by rfl)) (@zad _ _ _ _ _ (@zaV _ _ _ _ _ _ (@zam _ _ _ _ _ _ _ _ _ _ _ _ _ _ _ _ u.ok hr (by rfl) u.m u.kp u.b .nil zaD (@zaa _ _ _ _ _ (@zaF _ _ _ _ _ _ _ _ _ _ zb9 (@qv _ 0 _ _ (by trivial)) (@zaA _ _ _ (@qv _ 1 _ _ (by trivial))) zaP) zac (by rfl)) (by decide) (by rfl) (by rfl)) (@zaU _ _ _ _ _ _ rfl (@zak _ _ _ _ _ (@zaj _ _ 4 _ scTo.nd rfl (.inl rfl) (by trivial)) (@zak _ _ _ _ _ (@zaj _ _ 5 _ scTo.nd rfl (.inl rfl) (by trivial)) zaL (by rfl)) (by rfl)) (by rfl) (by rfl)) (by rfl) (by rfl) (by rfl)) (@zad _ _ _ _ _ (@zav _ _ 6 _ _ _ _ scTo.nd rfl (.inl rfl) (@zaO _ _ _ _ zac) (by rfl) (by trivial)) (@zad _ _ _ _ _ (@zbP _ _ _ _ _ _ _ _ Yw rfl (@zk7 _ _ _ _ _ _ _ _ _ true true rfl G.zip (@zaa _ _ _ _ _ (@qv _ 3 _ _ (by trivial)) (@zaa _ _ _ _ _ (@qv _ 5 _ _ (by trivial)) zac (by rfl)) (by rfl)) (by rfl) (by rfl)) (@zaU _ _ _ _ _ _ rfl (@zak _ _ _ _ _ (@zaj _ _ 7 _ scTo.nd rfl (.inl rfl) (by trivial)) (@zak _ _ _ _ _ (@zaj _ _ 8 _ scTo.nd rfl (.inl rfl) (by trivial)) zaL (by rfl)) (by rfl)) (by rfl) (by rfl)) (@zai _ _ _ (@zbG _ _ _ _ (@zek _ _ _ _ _ _ _ _ _ _ _ _ YB PySem.F.slot_list_extend PySem.F.type_list_extend zdo (@qv _ 6 _ _ (by trivial)) (@zaa _ _ _ _ _ (@zaO _ _ _ _ (@zaa _ _ _ _ _ (@qv _ 7 _ _ (by trivial)) (@zaa _ _ _ _ _ (@qv _ 8 _ _ (by trivial)) zac (by rfl)) (by rfl))) zac (by rfl)) (by rfl) (by rfl) (by rfl) (by rfl) (by rfl)) (by rfl))) (by intro _;rfl)) (@zai _ _ _ (@zat _ _ _ _ (@zaB _ _ _ _ _ (@zaa _ _ _ _ _ (@zao _ _ _ _ _ _ _ _ zc0 (@zao _ _ _ _ _ _ _ _ zc0 (@zaO _ _ _ _ (@zaa _ _ _ _ _ (@zaB _ _ _ _ _ (@zaa _ _ _ _ _ (@zay _ _ _ _ _ _ _ zax (@qv _ 0 _ _ (by trivial)) zae (λ_ _=>rfl)) (@zaa _ _ _ _ _ (@zay _ _ _ _ _ _ _ zax (@qv _ 0 _ _ (by trivial)) (@qv _ 1 _ _ (by trivial)) (λ_ _=>rfl)) zac (by rfl)) (by rfl))) zac (by rfl))) (@qv _ 2 _ _ (by trivial))) (@qv _ 4 _ _ (by trivial))) (@zaa _ _ _ _ _ (@qv _ 6 _ _ (by trivial)) zac (by rfl)) (by rfl))))))))))),?_⟩
 have nl:=zar row
 have p8:2 ^ n<=2 ^ 4:=YK (by decide) ai
 have e8:2 ^ 4=16:=rfl
 refine⟨_,rfl,p,_,rfl,.inl (SqL.of D),rfl,_,rfl,?_⟩
 cases n with
 | zero =>
  have ag:row.length=1:=rl
  rw[JB (show V.int (((nums row).length:Nat):Int)=V.int 1 by rw[nl,ag];rfl)]
  refine iteT ⟨(by show 0<=sizeLine;decide),λl hl=>⟨_,rfl,p,_,rfl,.inl (SqL.of (zab hl _ _ _ D)),λle hle=>⟨(by show 2<=sizeLine;decide),λc J=>?_⟩⟩⟩
  have s1:=zab hl (.lst [])
  have s2:=zab hle (.lst (nums row))
  have I:=zab J (.tup [.ref l,.ref le])
  exact k c l le [] _ ((s1.trans s2).trans I) (zap J _) (I _ _ (s2 _ _ (zap hl _))) trivial (I _ _ (zap hle _))
 | succ m =>
  obtain⟨t1,t2,t3⟩:=zc3 rl
  obtain⟨la,lb⟩:=zcw rl
  have pw:2 ^ (m+1)=2 ^ m*2:=Zh ..
  have p0:=ZU (n:=m)
  rw[Jt (show ¬ V.int (((nums row).length:Nat):Int)=V.int 1 by intro z;injection z with z;lia)]
  refine iteF ⟨_,rfl,p,_,rfl,.inl (SqL.of D),_,_,rfl,rfl,⟨by decide,by decide⟩,?_⟩
  have eh:(((nums row).length:Nat):Int) / 2=((row.length / 2:Nat):Int):=by rw[nl];lia
  simp only[eh]
  refine⟨_,rfl,_,rfl,_,rfl,p,_,rfl,SqL.of D,λp1 ad=>?_⟩
  rw[ziL row _ t3]
  have s1:=zab ad (.lst (nums (row.take (row.length / 2))))
  refine⟨m,rfl,p1,row.take (row.length / 2),rfl,zap ad _,la,by lia,λc2 W le2 O H2 s2 aq am S ao=>?_⟩
  have u2:=s1.trans s2
  refine⟨c2,_,rfl,SqT.of aq,rfl,_,_,rfl,_,_,rfl,rfl,?_⟩
  refine⟨_,rfl,_,rfl,_,rfl,p,_,rfl,SqL.of (u2 _ _ D),λp3 Z=>?_⟩
  rw[ziM row _ t3]
  have I:=zab Z (.lst (nums (row.drop (row.length / 2))))
  refine⟨m,rfl,p3,row.drop (row.length / 2),rfl,zap Z _,lb,by lia,λc4 U g ah H4 s4 ap ak R C=>?_⟩
  have u4:=I.trans s4
  refine⟨c4,_,rfl,SqT.of ap,rfl,_,_,rfl,_,_,rfl,rfl,?_⟩
  have B:=u2.trans u4
  obtain⟨xl,xf⟩:=zc4 m _ la
  obtain⟨yl,yf⟩:=zc4 m _ lb
  have au:=S.len
  have ar:=R.len
  have b:=u4 _ _ ao
  have ab:=u4 _ _ am
  have aa:=S.tups (Tups.of u4)
  have aj:=B _ _ D
  generalize hF:(zb7 m (row.take (row.length / 2))).2=fst at *
  generalize hS:(zb7 m (row.drop (row.length / 2))).2=snd at *
  refine⟨(by show 0<=sizeLine;decide),λr a=>?_⟩
  have s8:=zab a (.lst [])
  have ax:H r=none:=zcs B a
  have aw:le2≠r:=zag b a
  have av:g≠r:=zag C a
  refine⟨_,rfl,_,rfl,le2,g,_,_,rfl,SqL.of (s8 _ _ b),SqL.of (s8 _ _ C),?_⟩
  refine zja (K:=K) (b1:=true) (b2:=true) (a1:=le2) (a2:=g) (xs:=nums fst) (ys:=nums snd) (by rw[zar,zar,xl,yl]) (λj σ M=>(∃ v7 v8,σ=[some (.ref p),some (.int ((row.length / 2:Nat):Int)),some (.ref W),some (.ref le2),some (.ref U),some (.ref g),some (.ref r),v7,v8])/\Same H4 M/\M r=some (.lst (nums (za0 (fst.take j) (snd.take j))))) ⟨⟨_,_,rfl⟩,s8,zap a _⟩ (λj σ M _ z=>⟨SqL.of (z.2.1 _ _ b),SqL.of (z.2.1 _ _ C)⟩) ?_ ?_
  ·rintro j x y T σ M hx hy hT ⟨⟨v7,v8,rfl⟩,i,L⟩
   obtain⟨j1,rfl⟩:=num_at hx
   obtain⟨j2,rfl⟩:=num_at hy
   have sT:=zab hT (.tup [.int ((fst.getD j 0:Nat):Int),.int ((snd.getD j 0:Nat):Int)])
   refine⟨T,_,rfl,SqT.of zaf,rfl,_,_,rfl,_,_,rfl,rfl,?_⟩
   refine⟨_,rfl,.inl ⟨rfl,_,SqL.of (sT _ _ L)⟩,_,rfl,_,rfl,(by show 2<=sizeLine;decide),λq hq=>?_⟩
   have sq:=zab hq (.lst [.int ((fst.getD j 0:Nat):Int),.int ((snd.getD j 0:Nat):Int)])
   have tl:=zbw (fst.take j) (snd.take j) (by rw[Jw,Jw];lia)
   rw[Jw]at tl
   refine⟨r,q,_,_,rfl,rfl,sq _ _ (sT _ _ L),zap hq _,by rw[zar,JE,tl];show _+2<=_;lia,?_⟩
   refine⟨⟨_,_,rfl⟩,λc o e=>?_,?_⟩
   ·rw[zah (zag e a)];exact sq _ _ (sT _ _ (i c o e))
   ·rw[zcH fst snd j j1 j2]
    have e:nums (za0 (fst.take j) (snd.take j)++[fst.getD j 0,snd.getD j 0])=nums (za0 (fst.take j) (snd.take j))++[.int ((fst.getD j 0:Nat):Int),.int ((snd.getD j 0:Nat):Int)]:=by rw[<- zkx];rfl
    rw[e];exact zaf
  ·rintro σ M ⟨⟨v7,v8,rfl⟩,i,L⟩
   rw[JG (by rw[zar];exact Jg _),JG (by rw[zar];lia)]at L
   have Y:=i _ _ aj
   refine⟨_,rfl,p,_,0,_,rfl,rfl,SqL.of Y,zaR (j:=0) (m_at row 0 (by lia)),?_⟩
   refine⟨_,rfl,_,rfl,p,_,_,_,rfl,rfl,SqL.of Y,zaR (m_at row (row.length / 2) (by lia)),(by show 2<=sizeLine;decide),λt ht=>?_⟩
   have s5:=zab ht (.tup [.int ((row.getD 0 0:Nat):Int),.int ((row.getD (row.length / 2) 0:Nat):Int)])
   refine⟨(by show 1<=sizeLine;decide),λl6 af=>?_⟩
   have s6:=zab af (.lst [.ref t])
   refine⟨_,rfl,l6,W,_,_,rfl,rfl,zap af _,s6 _ _ (s5 _ _ (i _ _ ab)),by rw[JE];simp only[JK,YH];lia,λl7 ae=>?_⟩
   have s7:=zab ae (.lst ([.ref t]++O))
   refine⟨_,rfl,l7,U,_,_,rfl,rfl,zap ae _,s7 _ _ (s6 _ _ (s5 _ _ (i _ _ ak))),by rw[JE,Jb];simp only[JK,YH];lia,λX v=>?_⟩
   have N:=zab v (.lst (([.ref t]++O)++ah))
   have u8:=((s5.trans s6).trans s7).trans N
   refine⟨_,rfl,(by show 2<=sizeLine;decide),λc J=>?_⟩
   have d:=zab J (.tup [.ref X,.ref r])
   have t8:=N _ _ (s7 _ _ (s6 _ _ (zap ht (.tup [.int ((row.getD 0 0:Nat):Int),.int ((row.getD (row.length / 2) 0:Nat):Int)]))))
   have eN:zb7 (m+1) row=((row.getD 0 0,row.getD (row.length / 2) 0)::((zb7 m (row.take (row.length / 2))).1++(zb7 m (row.drop (row.length / 2))).1),za0 fst snd):=by rw[<- hF,<- hS];rfl
   refine k c X r _ _ (B.trans (i.trans (u8.trans d))) (zap J _) (d _ _ (zap v _)) ?_ (by rw[eN];exact d _ _ (u8 _ _ L))
   refine Prs.tups (Tups.of d) ?_
   rw[JQ,eN]
   exact Prs.app (ps:=[.ref t]) (fs:=[(row.getD 0 0,row.getD (row.length / 2) 0)]) (show Prs _ [.ref t] [(row.getD 0 0,row.getD (row.length / 2) 0)] from⟨⟨t,rfl,t8⟩,trivial⟩) (Prs.app ((aa.tups (Tups.of i)).tups (Tups.of u8)) ((R.tups (Tups.of i)).tups (Tups.of u8)))
theorem zik {f:Addr}{fd:FuncData}(F:Fun K "_law_tree" "_law_tree" zhW f fd) (G:Mgs mg) (b:Binds K fd ["_law_row"] []) (a:mg "_law_tree" = some (.ref f)):∀ n:Nat,FnOk P w K mg base CX0 (n+1) f fd ["_law_row"] (zeG n)
 | 0=>zgo F G b a 0 ⟨λvs H Q E ⟨m,h,_⟩=>by lia,λA outer s H args us vs Q E _ _ _ _ ⟨m,h,_⟩=>by lia⟩
 | m+1=>zgo F G b a (m+1) ((zik F G b a m).imp λvs H Q E ⟨c,h,q⟩=>by cases h;exact q)
abbrev zd5:Sp:=λvs H Q E=>∃ m,m<=4/\zeG m vs H Q E
theorem zil {f:Addr}{fd:FuncData}(F:Fun K "_law_tree" "_law_tree" zhW f fd) (G:Mgs mg) (b:Binds K fd ["_law_row"] []) (a:mg "_law_tree" = some (.ref f)):FnOk P w K mg base CX0 5 f fd ["_law_row"] zd5 :=
 FnOk.any 4 λm c=>(zik F G b a m).mono (by lia)
end
end K36
namespace K36
open PySem L2 Own Bn
abbrev zh4:Stmt:=top 23
def zeJ (m:Nat):Sp:=λvs H Q _=>∃ p row,vs=[.ref p]/\H p=some (.lst (nums row))/\row.length=2 ^ m/\m<=4/\∀ l ps H',Same H H'->H' l=some (.lst ps)->Prs H' ps (zb6 m row)->Q (.ref l) H'
theorem zmC (row:List Nat) (j:Nat) (h:j<row.length):row.reverse.getD j 0=row.getD (row.length-1-j) 0:=by
 rw[J9,List.getElem?_reverse h,J9]
section
variable {P:Program}{w:World}{K:PySem.W.Frag}{mg:Str->Option Value}{base:Heap}
theorem scBL:FnScope ["_law_row","_law_half","_law_forks"] ["_law_row"] (zal zh4):=by trivial
theorem zgr {f:Addr}{fd:FuncData}(F:Fun K "_law_block" "_law_block" zh4 f fd) (G:Mgs mg) (bS:Binds K fd ["_law_row"] []) (mS:mg "_law_block" = some (.ref f)) (n:Nat)
  (GS:FnOk P w K mg base CX0 n f fd ["_law_row"] (λvs H Q E=>∃ m,n=m+1/\zeJ m vs H Q E)):FnOk P w K mg base CX0 (n+1) f fd ["_law_row"] (zeJ n):=by
 have d:Use P w K mg base "_law_block" ["_law_row"] n (λvs H Q E=>∃ m,n=m+1/\zeJ m vs H Q E) f fd:=⟨GS,bS,F.kp,mS⟩
 refine F.ok scBL (λvs H Q E h=>?_) (λcdv A outer s H vs Q E hr h=>?_)
 ·obtain⟨p,row,rfl,_⟩:=h
  rfl
 obtain⟨p,row,rfl,v,U,ad,k⟩:=h
 refine⟨_,(@zad _ _ _ _ _ (@zbc _ _ _ _ _ _ _ _ (@zaz _ _ _ _ _ _ _ _ zbQ (@zaq _ _ _ _ _ _ _ _ _ zas (by rfl) G.len Yn (@zaa _ _ _ _ _ (@qv _ 0 _ _ (by trivial)) zac (by rfl)) (by decide) (by decide) (by rfl) (by rfl)) zae (zaG _)) (@zai _ _ _ (@zat _ _ _ _ (@zaO _ _ _ _ zac))) zaI) (@zad _ _ _ _ _ (@zav _ _ 1 _ _ _ _ scBL.nd rfl (.inl rfl) (@zao _ _ _ _ _ _ _ _ zce (@zaq _ _ _ _ _ _ _ _ _ zas (by rfl) G.len Yn (@zaa _ _ _ _ _ (@qv _ 0 _ _ (by trivial)) zac (by rfl)) (by decide) (by decide) (by rfl) (by rfl)) zae) (by rfl) (by trivial)) (@zad _ _ _ _ _ (@zeh _ 2 _ _ _ _ none _ _ _ _ _ _ _ _ ["_law_i","_law_row"] [none,some 0] scBL.nd rfl rfl rfl (@zbb _ _ _ _ _ _ rfl G.range (@zaa _ _ _ _ _ (@qv _ 1 _ _ (by trivial)) zac (by rfl)) (by rfl)) (CapOk.of (by kernel_rfl)) (λ_ _ _ _ _=>(@zaj _ _ 0 _ (show (["_law_i","_law_row"]:List Str).Nodup from by decide +kernel) rfl (.inl rfl) (.inr rfl))) (λ_ _ _ _ _=>zcb) (λ_ _ _ _ _=>(@zaB _ _ _ _ _ (@zaa _ _ _ _ _ (@zay _ _ _ _ _ _ (rIxL K) zax (@qv _ 1 _ _ (by trivial)) (@qv _ 0 _ _ (by trivial)) (λ_ _=>rfl)) (@zaa _ _ _ _ _ (@zay _ _ _ _ _ _ (rIxL K) zax (@qv _ 1 _ _ (by trivial)) (@zao _ _ _ _ _ _ _ _ zbS (@zao _ _ _ _ _ _ _ _ zbS (@zaq _ _ _ _ _ _ _ _ (zmE K) zjx (by rfl) G.len Yn (@zaa _ _ _ _ _ (@qv _ 1 _ _ (by trivial)) zac (by rfl)) (by decide) (by decide) (by rfl) (by rfl)) zae) (@qv _ 0 _ _ (by trivial))) (λ_ _=>rfl)) zac (by rfl)) (by rfl)))) (by intro _;rfl) (by with_unfolding_all rfl)) (@zai _ _ _ (@zat _ _ _ _ (@zao _ _ _ _ _ _ _ _ zc0 (@zao _ _ _ _ _ _ _ _ zc0 (@qv _ 2 _ _ (by trivial)) (@zam _ _ _ _ _ _ _ _ _ _ _ _ _ _ _ _ d.ok hr (by rfl) d.m d.kp d.b .nil zaD (@zaa _ _ _ _ _ (@zaF _ _ _ _ _ _ _ _ _ _ zb9 (@qv _ 0 _ _ (by trivial)) zaP (@zaA _ _ _ (@qv _ 1 _ _ (by trivial)))) zac (by rfl)) (by decide) (by rfl) (by rfl))) (@zam _ _ _ _ _ _ _ _ _ _ _ _ _ _ _ _ d.ok hr (by rfl) d.m d.kp d.b .nil zaD (@zaa _ _ _ _ _ (@zaF _ _ _ _ _ _ _ _ _ _ zb9 (@qv _ 0 _ _ (by trivial)) (@zaA _ _ _ (@qv _ 1 _ _ (by trivial))) zaP) zac (by rfl)) (by decide) (by rfl) (by rfl)))))))),?_⟩
 have nl:=zar row
 have p8:2 ^ n<=2 ^ 4:=YK (by decide) ad
 have e8:2 ^ 4=16:=rfl
 refine⟨_,rfl,p,_,rfl,.inl (SqL.of v),rfl,_,rfl,?_⟩
 cases n with
 | zero =>
  have aa:row.length=1:=U
  rw[JB (show V.int (((nums row).length:Nat):Int)=V.int 1 by rw[nl,aa];rfl)]
  exact iteT ⟨(by show 0<=sizeLine;decide),λl hl=>k l [] _ (zab hl _) (zap hl _) trivial⟩
 | succ m =>
  obtain⟨t1,t2,t3⟩:=zc3 U
  obtain⟨la,lb⟩:=zcw U
  have pw:2 ^ (m+1)=2 ^ m*2:=Zh ..
  have p0:=ZU (n:=m)
  rw[Jt (show ¬ V.int (((nums row).length:Nat):Int)=V.int 1 by intro z;injection z with z;lia)]
  refine iteF ⟨_,rfl,p,_,rfl,.inl (SqL.of v),_,_,rfl,rfl,⟨by decide,by decide⟩,?_⟩
  have eh:(((nums row).length:Nat):Int) / 2=((row.length / 2:Nat):Int):=by rw[nl];lia
  simp only[eh]
  refine⟨_,rfl,((row.length / 2:Nat):Int),rfl,by lia,by lia,λlc J=>?_⟩
  refine zkz (lo:=0) (n:=((row.length / 2:Nat):Int).toNat) (λj acc σ r=>(∃ v0,σ=[v0,some (.ref p)])/\Same H r/\r lc=some (.lst acc)/\acc.length=j/\Prs r acc (((row.take (row.length / 2)).zip row.reverse).take j)) ⟨⟨_,rfl⟩,zab J _,zaf,rfl,trivial⟩ (λj acc σ r z=>z.2.2.1) ?_ ?_
  ·rintro j acc σ r hj ⟨⟨v0,rfl⟩,u,X,al,a⟩
   have jl:j<row.length / 2:=by lia
   have b:=u _ _ v
   have e0:(0:Int)+((j:Nat):Int)=((j:Nat):Int):=Int.zero_add _
   refine⟨_,rfl,_,rfl,p,_,_,_,rfl,rfl,SqL.of b,(by rw[e0];exact zaR (m_at row j (by lia))),?_⟩
   refine⟨_,rfl,_,rfl,p,_,rfl,.inl (SqL.of b),_,_,rfl,rfl,_,rfl,_,_,rfl,rfl,?_⟩
   have ei:(((nums row).length:Nat):Int)-1-(0+((j:Nat):Int))=((row.length-1-j:Nat):Int):=by rw[nl];lia
   refine⟨p,_,_,_,rfl,rfl,SqL.of b,(by rw[ei];exact zaR (m_at row (row.length-1-j) (by lia))),?_⟩
   rw[<- zmC row j (by lia)]
   refine⟨(by show 2<=sizeLine;decide),λt ht=>?_⟩
   have T:=zab ht (.tup [.int ((row.getD j 0:Nat):Int),.int ((row.reverse.getD j 0:Nat):Int)])
   have W:=T _ _ X
   refine⟨W,by rw[JE];lia,nx hj ⟨⟨_,rfl⟩,λc o e=>?_,zaf,by rw[Jb,al];rfl,?_⟩⟩
   ·rw[zah (zag e J)];exact T _ _ (u c o e)
   ·rw[zf5 (by rw[Jw];lia) (by rw[List.length_reverse];lia)]
    refine Prs.add (f:=((row.take (row.length / 2)).getD j 0,row.reverse.getD j 0)) ?_ ((a.tups (Tups.of T)).tups (Tups.lst W))
    rw[Tups.lst W _ _ (zap ht _),J9 (l:=row.take _),Zb jl,<- J9]
  rintro acc σ r ⟨⟨v0,rfl⟩,u,X,al,a⟩
  rw[Yi]at al a
  rw[JG (by rw[ZQ,Jw,List.length_reverse];lia)]at a
  have b:=u _ _ v
  refine⟨_,rfl,_,rfl,_,rfl,_,rfl,p,_,rfl,SqL.of b,λp5 I=>?_⟩
  rw[ziL row _ t3]
  have s5:=zab I (.lst (nums (row.take (row.length / 2))))
  refine⟨m,rfl,p5,row.take (row.length / 2),rfl,zap I _,la,by lia,λl6 q H7 Z af g=>?_⟩
  have R:=s5.trans Z
  have b6:=zbW m (row.take (row.length / 2))
  rw[la]at b6
  have ai:m*2 ^ m<=4*16:=Ww (by lia) (by lia)
  have ah:=g.len
  refine⟨lc,l6,_,_,rfl,rfl,R _ _ X,af,by rw[JE];lia,λl7 L=>?_⟩
  have S:=zab L (.lst (acc++q))
  have B:=(Prs.app (a.tups (Tups.of R)) g).tups (Tups.of S)
  have O:=u.trans (R.trans S)
  have D:=O _ _ v
  have h8:=zap L (.lst (acc++q))
  generalize L2.upd H7 l7 _=H8 at S B O D h8 ⊢
  refine⟨_,rfl,_,rfl,_,rfl,p,_,rfl,SqL.of D,λp9 C=>?_⟩
  rw[ziM row _ t3]
  have s9:=zab C (.lst (nums (row.drop (row.length / 2))))
  refine⟨m,rfl,p9,row.drop (row.length / 2),rfl,zap C _,lb,by lia,λl9 ab H9 Y h9 y=>?_⟩
  have N:=s9.trans Y
  have b9:=zbW m (row.drop (row.length / 2))
  rw[lb]at b9
  have ag:=y.len
  refine⟨l7,l9,_,_,rfl,rfl,N _ _ h8,h9,by rw[Jb,JE];lia,λae i=>?_⟩
  have x:=zab i (.lst ((acc++q)++ab))
  have M:=(Prs.app (B.tups (Tups.of N)) y).tups (Tups.of x)
  refine k ae _ _ (O.trans (N.trans x)) (zap i _) ?_
  have e:zb6 (m+1) row=(row.take (row.length / 2)).zip row.reverse++zb6 m (row.take (row.length / 2))++zb6 m (row.drop (row.length / 2)):=by
   conv=>lhs;unfold zb6
   rw[Jc (by lia)]
  rw[e];exact M
theorem ziv {f:Addr}{fd:FuncData}(F:Fun K "_law_block" "_law_block" zh4 f fd) (G:Mgs mg) (b:Binds K fd ["_law_row"] []) (a:mg "_law_block" = some (.ref f)):∀ n:Nat,FnOk P w K mg base CX0 (n+1) f fd ["_law_row"] (zeJ n)
 | 0=>zgr F G b a 0 ⟨λvs H Q E ⟨m,h,_⟩=>by lia,λA outer s H args us vs Q E _ _ _ _ ⟨m,h,_⟩=>by lia⟩
 | m+1=>zgr F G b a (m+1) ((ziv F G b a m).imp λvs H Q E ⟨c,h,q⟩=>by cases h;exact q)
abbrev zeb:Sp:=λvs H Q E=>∃ m,m<=4/\zeJ m vs H Q E
theorem ziw {f:Addr}{fd:FuncData}(F:Fun K "_law_block" "_law_block" zh4 f fd) (G:Mgs mg) (b:Binds K fd ["_law_row"] []) (a:mg "_law_block" = some (.ref f)):FnOk P w K mg base CX0 5 f fd ["_law_row"] zeb :=
 FnOk.any 4 λm c=>(ziv F G b a m).mono (by lia)
end
abbrev zlz:Stmt:=top 25
def zb3 (way k:Nat):Nt:=if way=0 then zcl k else if way=1 then zd4 k else zbF k
theorem zl3 {way k:Nat}(h:k<5):(zb3 way k).Ok:=by
 unfold zb3
 split
 ·exact zjQ h
 ·split
  ·exact zlo h
  ·exact zh7 h
theorem zhc (way k:Nat):(zb3 way k).lanes=2 ^ k:=by
 unfold zb3
 split
 ·rfl
 ·split<;>rfl
def zhK:Sp:=λvs H Q _=>∃ way k:Nat,vs=[.int (way:Nat),.int (k:Nat)]/\k<5/\∀ r fr er ps H',Same H H'->NetAt H' r fr er ps (zb3 way k)->Q (.ref r) H'
theorem zfE {H:Hp}{ps:List V}{fs:List Fk}(h:Prs H ps fs):∀ n:Nat,Prs H (List.replicate n ps).flatten (List.replicate n fs).flatten
 | 0=>trivial
 | n+1=>by
  rw[Ys,Ys,ZZ,ZZ]
  exact Prs.app h (zfE h n)
section
variable {P:Program}{w:World}{K:PySem.W.Frag}{mg:Str->Option Value}{base:Heap}
theorem scMd:FnScope ["_law_way","_law_k","_law_row","_law_forks","_law_ends_here"] ["_law_way","_law_k"] (zal zlz):=by trivial
theorem zlT {f fB fS fT:Addr}{fd dB dS dT:FuncData}(F:Fun K "_law_made" "_law_made" zlz f fd) (G:Mgs mg) (Y:Use P w K mg base "_law_block" ["_law_row"] 5 zeb fB dB) (X:Use P w K mg base "_law_stairway" ["_law_row"] 10 zd6 fS dS) (W:Use P w K mg base "_law_tree" ["_law_row"] 5 zd5 fT dT):FnOk P w K mg base CX0 11 f fd ["_law_way","_law_k"] zhK:=by
 refine F.ok scMd (λvs H Q E h=>?_) (λcdv A outer s H vs Q E hr h=>?_)
 ·obtain⟨way,k,rfl,_⟩:=h
  rfl
 obtain⟨way,k,rfl,k5,q⟩:=h
 have J:Room 5 _:=hr.mono (by decide)
 refine⟨_,(@zad _ _ _ _ _ (@zav _ _ 2 _ _ _ _ scMd.nd rfl (.inl rfl) (@zeR _ _ _ _ _ _ _ rfl (by rfl) G.list (by rfl) G.range (@zaa _ _ _ _ _ (@zay _ _ _ _ _ _ _ zax (@zaO _ _ _ _ (@zaa _ _ _ _ _ zae (@zaa _ _ _ _ _ zae (@zaa _ _ _ _ _ zae (@zaa _ _ _ _ _ zae (@zaa _ _ _ _ _ zae zac (by rfl)) (by rfl)) (by rfl)) (by rfl)) (by rfl))) (@qv _ 1 _ _ (by trivial)) (λ_ _=>rfl)) zac (by rfl)) (by rfl) (by rfl)) (by rfl) (by trivial)) (@zad _ _ _ _ _ (@zgi _ _ 3 4 _ _ _ _ _ _ _ _ _ _ _ rfl scMd.nd rfl rfl (by decide) rfl rfl (@zaa _ _ _ _ _ (@zao _ _ _ _ _ _ _ _ zk9 (@zam _ _ _ _ _ _ _ _ _ _ _ _ _ _ _ _ Y.ok J (by rfl) Y.m Y.kp Y.b .nil zaD (@zaa _ _ _ _ _ (@qv _ 2 _ _ (by trivial)) zac (by rfl)) (by decide) (by rfl) (by rfl)) (@qv _ 1 _ _ (by trivial))) (@zaa _ _ _ _ _ (@qv _ 2 _ _ (by trivial)) zac (by rfl)) (by rfl)) (by rfl) (by rfl)) (@zad _ _ _ _ _ (@zbc _ _ _ _ _ _ _ _ (@zaz _ _ _ _ _ _ _ _ zbQ (@qv _ 0 _ _ (by trivial)) zae (zaG _)) (@zai _ _ _ (@zaV _ _ _ _ _ _ (@zam _ _ _ _ _ _ _ _ _ _ _ _ _ _ _ _ X.ok hr (by rfl) X.m X.kp X.b .nil zaD (@zaa _ _ _ _ _ (@qv _ 2 _ _ (by trivial)) zac (by rfl)) (by decide) (by rfl) (by rfl)) (@zaU _ _ _ _ _ _ rfl (@zak _ _ _ _ _ (@zaj _ _ 3 _ scMd.nd rfl (.inl rfl) (by trivial)) (@zak _ _ _ _ _ (@zaj _ _ 4 _ scMd.nd rfl (.inl rfl) (by trivial)) zaL (by rfl)) (by rfl)) (by rfl) (by rfl)) (by rfl) (by rfl) (by rfl))) zaI) (@zad _ _ _ _ _ (@zbc _ _ _ _ _ _ _ _ (@zaz _ _ _ _ _ _ _ _ zbQ (@qv _ 0 _ _ (by trivial)) zae (zaG _)) (@zai _ _ _ (@zaV _ _ _ _ _ _ (@zam _ _ _ _ _ _ _ _ _ _ _ _ _ _ _ _ W.ok J (by rfl) W.m W.kp W.b .nil zaD (@zaa _ _ _ _ _ (@qv _ 2 _ _ (by trivial)) zac (by rfl)) (by decide) (by rfl) (by rfl)) (@zaU _ _ _ _ _ _ rfl (@zak _ _ _ _ _ (@zaj _ _ 3 _ scMd.nd rfl (.inl rfl) (by trivial)) (@zak _ _ _ _ _ (@zaj _ _ 4 _ scMd.nd rfl (.inl rfl) (by trivial)) zaL (by rfl)) (by rfl)) (by rfl) (by rfl)) (by rfl) (by rfl) (by rfl))) zaI) (@zai _ _ _ (@zat _ _ _ _ (@zaB _ _ _ _ _ (@zaa _ _ _ _ _ (@zaq _ _ _ _ _ _ _ _ _ zas (by rfl) G.len Yn (@zaa _ _ _ _ _ (@qv _ 2 _ _ (by trivial)) zac (by rfl)) (by decide) (by decide) (by rfl) (by rfl)) (@zaa _ _ _ _ _ (@zaw _ _ _ _ _ _ _ _ _ zaE (by rfl) G.tuple (by rfl) (@zaa _ _ _ _ _ (@qv _ 3 _ _ (by trivial)) zac (by rfl)) (by decide) (by decide) (by rfl) (by rfl)) (@zaa _ _ _ _ _ (@zaw _ _ _ _ _ _ _ _ _ zaE (by rfl) G.tuple (by rfl) (@zaa _ _ _ _ _ (@qv _ 4 _ _ (by trivial)) zac (by rfl)) (by decide) (by decide) (by rfl) (by rfl)) zac (by rfl)) (by rfl)) (by rfl))))))))),?_⟩
 have aa:2 ^ k<=2 ^ 4:=YK (by decide) (by lia)
 have ab:2 ^ 4=16:=rfl
 have M:atI [V.int 1,V.int 2,V.int 4,V.int 8,V.int 16] ((k:Nat):Int)=some (.int ((2 ^ k:Nat):Int)):=by
  have:∀ k,k<5->atI [V.int 1,V.int 2,V.int 4,V.int 8,V.int 16] ((k:Nat):Int)=some (.int ((2 ^ k:Nat):Int)):=by decide
  exact this k k5
 refine⟨(by show 5<=sizeLine;decide),λt ht=>?_⟩
 have s0:=zab ht (.lst [.int 1,.int 2,.int 4,.int 8,.int 16])
 refine⟨_,rfl,t,_,_,_,rfl,rfl,SqL.of zaf,M,?_⟩
 refine⟨2 ^ k,rfl,by lia,λp hp=>?_⟩
 have s1:=zab hp (.lst (nums (List.range (2 ^ k))))
 have Z:=s0.trans s1
 have g:=zap hp (.lst (nums (List.range (2 ^ k))))
 show tSeq _ _ _ _ (L2.upd _ p (.lst (nums (List.range (2 ^ k)))))
 generalize L2.upd _ p (.lst (nums (List.range (2 ^ k))))=H1 at Z g ⊢
 clear s0 s1 hp
 refine⟨_,rfl,k,by lia,p,List.range (2 ^ k),rfl,g,Y0,by lia,λl ps H2 s2 hl pr=>?_⟩
 have pl:=pr.len
 have bl:=zbW k (List.range (2 ^ k))
 rw[Y0]at bl
 have b2:k*2 ^ k<=4*2 ^ 4:=Ww (by lia) aa
 have b3:ps.length*k<=(4*2 ^ 4)*4:=Ww (by lia) (by lia)
 refine⟨_,rfl,l,k,ps,rfl,rfl,hl,by lia,by lia,by rw[Yi,JE];lia,λl2 v=>?_⟩
 rw[Yi]
 have j:=zab v (.lst (List.replicate k ps).flatten)
 refine⟨_,rfl,_,_,rfl,?_⟩
 let I:Nt->St->Hp->Prop:=λN σ G=>∃ lf le m,σ=[some (.int (way:Nat)),some (.int (k:Nat)),some (.ref p),some (.ref lf),some (.ref le)]/\Same H G/\G p=some (.lst (nums (List.range (2 ^ k))))/\G lf=some (.lst m)/\Prs G m N.forks/\G le=some (.lst (nums N.ends))
 have i0:I (zbF k) [some (.int (way:Nat)),some (.int (k:Nat)),some (.ref p),some (.ref l2),some (.ref p)] (L2.upd H2 l2 (.lst (List.replicate k ps).flatten)):=⟨l2,p,_,rfl,(Z.trans s2).trans j,j _ _ (s2 _ _ g),zap v _,(zfE pr k).tups (Tups.of j),j _ _ (s2 _ _ g)⟩
 dsimp only
 refine ze3 (I (if way=0 then zcl k else zbF k)) ?_ λD i _=>?_
 ·rintro σ G ⟨lf,le,m,rfl,B,d,T,S,U⟩
  refine ze3 (I (zb3 way k)) ?_ λD i _=>?_
  ·rintro σ G ⟨lf,le,m,rfl,B,d,T,S,U⟩
   refine⟨_,rfl,p,_,rfl,.inl (SqL.of d),_,rfl,lf,_,rfl,.inl ⟨SqL.of T,λa ha=>?_⟩⟩
   have s4:=zab ha (.tup m)
   refine⟨_,rfl,le,_,rfl,.inl ⟨SqL.of (s4 _ _ U),λb hb=>?_⟩⟩
   have s5:=zab hb (.tup (nums (zb3 way k).ends))
   refine⟨(by show 3<=sizeLine;decide),λr L=>?_⟩
   rw[zar,Y0]
   have R:=zab L (.tup [.int ((2 ^ k:Nat):Int),.ref a,.ref b])
   refine q r a b m _ (((B.trans s4).trans s5).trans R) ⟨?_,R _ _ (s5 _ _ (zap ha _)),S.tups (Tups.of ((s4.trans s5).trans R)),R _ _ (zap hb _)⟩
   rw[zhc];exact zap L _
  ·refine⟨_,rfl,rfl,_,rfl,?_⟩
   by_cases O:way=1
   ·rw[JB (show V.int ((way:Nat):Int)=V.int 1 by rw[O];rfl)]
    refine iteT ⟨_,rfl,k,by lia,p,List.range (2 ^ k),rfl,d,Y0,by lia,λc u le2 n G2 s2 hc x o y=>?_⟩
    refine⟨c,_,rfl,SqT.of hc,rfl,_,_,rfl,_,_,rfl,rfl,?_⟩
    refine i _ _ ⟨u,le2,n,rfl,B.trans s2,s2 _ _ d,x,?_,?_⟩
    ·rw[show zb3 way k=zd4 k from by unfold zb3;rw[Jc (by lia),Jf O]];exact o
    ·rw[show zb3 way k=zd4 k from by unfold zb3;rw[Jc (by lia),Jf O]];exact y
   ·rw[Jt (show ¬ V.int ((way:Nat):Int)=V.int 1 by intro z;injection z with z;lia)]
    have e:zb3 way k=if way=0 then zcl k else zbF k:=by unfold zb3;rw[Jc O]
    refine iteF (i _ _ ⟨lf,le,m,rfl,B,d,T,?_,?_⟩)
    ·rw[e];exact S
    ·rw[e];exact U
 ·obtain⟨lf,le,m,e,B,d,T,S,U⟩:=i0
  refine⟨_,rfl,rfl,_,rfl,?_⟩
  by_cases C:way=0
  ·rw[JB (show V.int ((way:Nat):Int)=V.int 0 by rw[C];rfl)]
   refine iteT ⟨_,rfl,k,by lia,p,List.range (2 ^ k),rfl,d,Y0,by lia,λc u le2 n G2 s2 hc x o y=>?_⟩
   refine⟨c,_,rfl,SqT.of hc,rfl,_,_,rfl,_,_,rfl,rfl,?_⟩
   refine i _ _ ⟨u,le2,n,rfl,B.trans s2,s2 _ _ d,x,?_,?_⟩
   ·rw[Jf C];exact o
   ·rw[Jf C];exact y
  ·rw[Jt (show ¬ V.int ((way:Nat):Int)=V.int 0 by intro z;injection z with z;lia)]
   refine iteF (i _ _ ⟨l2,p,_,rfl,(Z.trans s2).trans j,j _ _ (s2 _ _ g),zap v _,?_,?_⟩)
   ·rw[Jc C];exact(zfE pr k).tups (Tups.of j)
   ·rw[Jc C];exact j _ _ (s2 _ _ g)
end
abbrev zly:Stmt:=top 28
abbrev zhY:Stmt:=top 29
def Sml (N:Nt):Prop:=N.forks.length<=8/\N.lanes<=6\/N.lanes<=4/\(N.forks.length<=9\/N.forks.length<=10/\∃ A f B,N.forks=A++f::f::B)
def zhJ:Sp:=λvs H Q _=>∃ l:Addr,vs=[.ref l]/\Pk3 H l/\∀ r fr er ps N H',Few 6 10 N->Sml N->NetAt H' r fr er ps N->Pk3 H' l->But l H H'->Q (.ref r) H'
structure Lns (lanes:Nat) (moves:List Nat):Prop where
 ne:moves≠[]
 lt:∀ m∈moves,m<lanes
 up:moves.Pairwise (· < ·)
def zfs:Sp:=λvs H Q _=>∃ l r fr er ps N,vs=[.ref l,.ref r]/\Pk3 H l/\Nt.Ok N/\NetAt H r fr er ps N/\∀ p moves H',Lns N.lanes moves->H' p=some (.tup (nums moves))->Pk3 H' l->But l H H'->Q (.ref p) H'
theorem zkv (way:Nat) {k:Nat}(h:k<3):(zb3 way k).forks.length<=8/\(zb3 way k).lanes<=4:=by
 have s:∀ k,k<3->(zcl k).forks.length<=8/\(zcl k).lanes<=4:=by decide
 have t:∀ k,k<3->(zd4 k).forks.length<=8/\(zd4 k).lanes<=4:=by decide
 have r:∀ k,k<3->(zbF k).forks.length<=8/\(zbF k).lanes<=4:=by decide
 unfold zb3
 split
 ·exact s k h
 ·split
  ·exact t k h
  ·exact r k h
theorem Lns.all {lanes:Nat}(h:1<=lanes):Lns lanes (List.range lanes):=⟨λz=>by have:=JS List.length z;rw[Y0,YH]at this;lia,λm a=>Yd.mp a,List.pairwise_lt_range⟩
section
variable {P:Program}{w:World}{K:PySem.W.Frag}{mg:Str->Option Value}{base:Heap}
theorem scNd:FnScope ["_law_left_here","_law_way","_law_net_here","_law_k"] ["_law_left_here"] (zal zly):=by trivial
theorem zlS {f fK fA fM fC:Addr}{fd dK dA dM dC:FuncData}(F:Fun K "_law_net" "_law_net" zly f fd) (G:Mgs mg) (a:Use P w K mg base "_law_pick" ["_law_left_here","_law_many"] 1 zb8 fK dK) (y:Use P w K mg base "_law_any" ["_law_left_here"] 3 zhN fA dA) (u:Use P w K mg base "_law_made" ["_law_way","_law_k"] 11 zhK fM dM) (x:Use P w K mg base "_law_changed" ["_law_left_here","_law_net_here"] 2 zlu fC dC):FnOk P w K mg base CX0 12 f fd ["_law_left_here"] zhJ:=by
 refine F.ok scNd (λvs H Q E h=>?_) (λcdv A outer s H vs Q E q h=>?_)
 ·obtain⟨l,rfl,_⟩:=h
  rfl
 obtain⟨l,rfl,S,k⟩:=h
 have c:Room 1 _:=q.mono (by decide)
 have U:Room 2 _:=q.mono (by decide)
 have T:Room 3 _:=q.mono (by decide)
 refine⟨_,(@zad _ _ _ _ _ (@zav _ _ 1 _ _ _ _ scNd.nd rfl (.inl rfl) (@zam _ _ _ _ _ _ _ _ _ _ _ _ _ _ _ _ a.ok c (by rfl) a.m a.kp a.b .nil zaD (@zaa _ _ _ _ _ (@qv _ 0 _ _ (by trivial)) (@zaa _ _ _ _ _ zae zac (by rfl)) (by rfl)) (by decide) (by rfl) (by rfl)) (by rfl) (by trivial)) (@zad _ _ _ _ _ (@zbc _ _ _ _ _ _ _ _ (@zaz _ _ _ _ _ _ _ _ zbQ (@qv _ 1 _ _ (by trivial)) zae (zaG _)) (@zai _ _ _ (@zat _ _ _ _ (@zam _ _ _ _ _ _ _ _ _ _ _ _ _ _ _ _ y.ok T (by rfl) y.m y.kp y.b .nil zaD (@zaa _ _ _ _ _ (@qv _ 0 _ _ (by trivial)) zac (by rfl)) (by decide) (by rfl) (by rfl)))) zaI) (@zad _ _ _ _ _ (@zav _ _ 2 _ _ _ _ scNd.nd rfl (.inl rfl) (@zam _ _ _ _ _ _ _ _ _ _ _ _ _ _ _ _ u.ok q (by rfl) u.m u.kp u.b .nil zaD (@zaa _ _ _ _ _ (@zam _ _ _ _ _ _ _ _ _ _ _ _ _ _ _ _ a.ok c (by rfl) a.m a.kp a.b .nil zaD (@zaa _ _ _ _ _ (@qv _ 0 _ _ (by trivial)) (@zaa _ _ _ _ _ zae zac (by rfl)) (by rfl)) (by decide) (by rfl) (by rfl)) (@zaa _ _ _ _ _ (@zay _ _ _ _ _ _ _ zax (@zaO _ _ _ _ (@zaa _ _ _ _ _ zae (@zaa _ _ _ _ _ zae (@zaa _ _ _ _ _ zae (@zaa _ _ _ _ _ zae zac (by rfl)) (by rfl)) (by rfl)) (by rfl))) (@zam _ _ _ _ _ _ _ _ _ _ _ _ _ _ _ _ a.ok c (by rfl) a.m a.kp a.b .nil zaD (@zaa _ _ _ _ _ (@qv _ 0 _ _ (by trivial)) (@zaa _ _ _ _ _ zae zac (by rfl)) (by rfl)) (by decide) (by rfl) (by rfl)) (λ_ _=>rfl)) zac (by rfl)) (by rfl)) (by decide) (by rfl) (by rfl)) (by rfl) (by trivial)) (@zad _ _ _ _ _ (@zbP _ _ _ _ _ _ _ _ Yw rfl (@zbb _ _ _ _ _ _ rfl G.range (@zaa _ _ _ _ _ (@zao _ _ _ _ _ _ _ _ zcq (@zay _ _ _ _ _ _ _ zax (@zaO _ _ _ _ (@zaa _ _ _ _ _ zae (@zaa _ _ _ _ _ zae (@zaa _ _ _ _ _ zae (@zaa _ _ _ _ _ zae zac (by rfl)) (by rfl)) (by rfl)) (by rfl))) (@qv _ 1 _ _ (by trivial)) (λ_ _=>rfl)) (@zam _ _ _ _ _ _ _ _ _ _ _ _ _ _ _ _ a.ok c (by rfl) a.m a.kp a.b .nil zaD (@zaa _ _ _ _ _ (@qv _ 0 _ _ (by trivial)) (@zaa _ _ _ _ _ zae zac (by rfl)) (by rfl)) (by decide) (by rfl) (by rfl))) zac (by rfl)) (by rfl)) (@zaj _ _ 3 _ scNd.nd rfl (.inl rfl) (by trivial)) (@zai _ _ _ (@zav _ _ 2 _ _ _ _ scNd.nd rfl (.inl rfl) (@zam _ _ _ _ _ _ _ _ _ _ _ _ _ _ _ _ x.ok U (by rfl) x.m x.kp x.b .nil zaD (@zaa _ _ _ _ _ (@qv _ 0 _ _ (by trivial)) (@zaa _ _ _ _ _ (@qv _ 2 _ _ (by trivial)) zac (by rfl)) (by rfl)) (by decide) (by rfl) (by rfl)) (by rfl) (by trivial))) (by intro _;rfl)) (@zai _ _ _ (@zat _ _ _ _ (@qv _ 2 _ _ (by trivial)))))))),?_⟩
 refine⟨_,rfl,l,4,rfl,by decide,by decide,S,λway H1 hw S1 B1=>?_⟩
 refine⟨_,rfl,rfl,_,rfl,ite2 (λ_=>?_) (λz=>?_)⟩
 ·exact⟨_,rfl,l,rfl,S1,λr fr er ps N b few na S2 g=>k r fr er ps N b ⟨few.ok,few.ln,by have:=few.fk;lia⟩ (.inl ⟨few.fk,few.ln⟩) na S2 (B1.trans g)⟩
 refine⟨_,rfl,l,3,rfl,by decide,by decide,S1,λkd b hk S2 g=>?_⟩
 refine⟨(by show 4<=sizeLine;decide),λt d=>⟨_,rfl,l,4,rfl,by decide,by decide,S2.keep (zab d _),λv H3 hv I m=>?_⟩⟩
 obtain⟨sz,Z,za⟩:=zei (xs:=[1,2,2,0]) (v:=v) (by show v<4;lia)
 have zb:sz<3:=(show ∀ n∈[1,2,2,0],n<3 by decide) sz Z
 refine⟨t,_,_,_,rfl,rfl,SqL.of (m t _ (zap d _) (S2.ne d).symm),za,?_⟩
 have Y:But l H H3:=((B1.trans g).trans (But.of (zab d _))).trans m
 clear d m za Z
 refine⟨kd,sz,rfl,by lia,λr fr er ps H4 s4 O=>?_⟩
 obtain⟨m1,m2⟩:=zkv kd zb
 have S4:=I.keep s4
 have B4:=Y.trans (But.of (l:=l) s4)
 refine⟨(by show 4<=sizeLine;decide),λt d=>?_⟩
 have p:=zab d (.lst [.int 0,.int 1,.int 1,.int 2])
 obtain⟨e,mm,ma⟩:=zei (xs:=[0,1,1,2]) (v:=way) (by show way<4;lia)
 have mb:e<=2:=(show ∀ n∈[0,1,1,2],n<=2 by decide) e mm
 refine⟨_,rfl,t,_,_,_,rfl,rfl,SqL.of (zap d _),ma,?_⟩
 refine⟨_,rfl,l,2,rfl,by decide,by decide,S4.keep p,λj H5 aa S5 B5=>?_⟩
 have M:=(O.tups (Tups.of p)).tups (B5.tups3 (S4.keep p))
 have X:=(B4.trans (But.of (l:=l) p)).trans B5
 have pb:e*j<=2:=by
  have:e*j<=2*1:=Ww mb (by lia)
  lia
 have D:((e:Nat):Int)*((j:Nat):Int)=((e*j:Nat):Int):=(Int.natCast_mul _ _).symm
 refine⟨_,_,rfl,rfl,.inl ⟨by lia,by lia⟩,?_⟩
 refine⟨_,rfl,by rw[D];lia,by rw[D];lia,?_⟩
 rw[D]
 generalize e*j=cnt at pb
 refine zbU (lo:=0) (n:=((cnt:Nat):Int).toNat) (λi σ b=>∃ C r fr er ps N,σ=[some (.ref l),some (.int (way:Nat)),some (.ref r),C]/\Pk3 b l/\But l H b/\NetAt b r fr er ps N/\Few 4 (8+i) N/\(N.forks.length<=9\/∃ A f B,N.forks=A++f::f::B)) ⟨_,r,fr,er,ps,_,rfl,S5,X,M,⟨zl3 (by lia),by lia,by lia⟩,.inl (by lia)⟩ ?_ ?_
 ·rintro i σ b hi ⟨C,r,fr,er,ps,N,rfl,S2,g,na,few,tw⟩
  refine⟨_,rfl,_,rfl,l,r,fr,er,ps,N,4,8+i,rfl,S2,few,by lia,na,λr' V W L N' H3 o _ J R I m=>?_⟩
  refine⟨_,r',V,W,L,N',rfl,I,g.trans m,R,o,?_⟩
  rcases J with z|z
  ·have:=few.fk
   exact .inl (by lia)
  ·exact .inr z
 ·rintro σ b ⟨C,r,fr,er,ps,N,rfl,S2,g,na,few,tw⟩
  have fk:=few.fk
  have fl:=few.ln
  refine⟨_,rfl,k r fr er ps N b ⟨few.ok,by lia,by lia⟩ (.inr ⟨fl,?_⟩) na S2 g⟩
  rcases tw with z|z
  ·exact .inl z
  ·exact .inr ⟨by lia,z⟩
theorem scSm:FnScope ["_law_left_here","_law_net_here","_law_some_here"] ["_law_left_here","_law_net_here"] (zal zhY):=by trivial
theorem zkc {f fK:Addr}{fd dK:FuncData}(F:Fun K "_law_some" "_law_some" zhY f fd) (G:Mgs mg) (d:Use P w K mg base "_law_pick" ["_law_left_here","_law_many"] 1 zb8 fK dK):FnOk P w K mg base CX0 2 f fd ["_law_left_here","_law_net_here"] zfs:=by
 refine F.ok scSm (λvs H Q E h=>?_) (λcdv A outer s H vs Q E hr h=>?_)
 ·obtain⟨l,r,fr,er,ps,N,rfl,_⟩:=h
  rfl
 obtain⟨l,r,fr,er,ps,N,rfl,S,ok,na,k⟩:=h
 have l16:=ok.l16
 have l1:=ok.l1
 refine⟨_,(@zad _ _ _ _ _ (@zeh _ 2 _ _ _ _ (some _) _ _ _ _ _ _ _ _ ["_law_lane","_law_left_here"] [none,some 0] scSm.nd rfl rfl rfl (@zbb _ _ _ _ _ _ rfl G.range (@zaa _ _ _ _ _ (@zay _ _ _ _ _ _ _ zaK (@qv _ 1 _ _ (by trivial)) zae (λ_ _=>rfl)) zac (by rfl)) (by rfl)) (CapOk.of (by kernel_rfl)) (λ_ _ _ _ _=>(@zaj _ _ 0 _ (show (["_law_lane","_law_left_here"]:List Str).Nodup from by decide +kernel) rfl (.inl rfl) (.inr rfl))) (λ_ _ _ _ _=>(@zh9 _ _ _ (@zaz _ _ _ _ _ _ _ _ zbQ (@zam _ _ _ _ _ _ _ _ _ _ _ _ _ _ _ _ d.ok hr (by rfl) d.m d.kp d.b .nil zaD (@zaa _ _ _ _ _ (@qv _ 1 _ _ (by trivial)) (@zaa _ _ _ _ _ zae zac (by rfl)) (by rfl)) (by decide) (by rfl) (by rfl)) zae (zaG _)))) (λ_ _ _ _ _=>(@qv _ 0 _ _ (by trivial))) (by intro _;rfl) (by with_unfolding_all rfl)) (@zai _ _ _ (@zat _ _ _ _ (@zay _ _ _ _ _ _ _ zax (@zaO _ _ _ _ (@zaa _ _ _ _ _ (@zeQ _ _ _ _ _ _ _ rfl (by rfl) G.tuple (by rfl) G.range (@zaa _ _ _ _ _ (@zay _ _ _ _ _ _ _ zaK (@qv _ 1 _ _ (by trivial)) zae (λ_ _=>rfl)) zac (by rfl)) (by rfl) (by rfl)) (@zaa _ _ _ _ _ (@zej _ _ _ _ _ _ _ _ (@zaz _ _ _ _ _ _ _ _ (zlb hr.units0) (@qv _ 2 _ _ (by trivial)) (@zaO _ _ _ _ zac) (zaG _)) (@zaw _ _ _ _ _ _ _ _ _ zaE (by rfl) G.tuple (by rfl) (@zaa _ _ _ _ _ (@qv _ 2 _ _ (by trivial)) zac (by rfl)) (by decide) (by decide) (by rfl) (by rfl)) (@zaB _ _ _ _ _ (@zaa _ _ _ _ _ (@zam _ _ _ _ _ _ _ _ _ _ _ _ _ _ _ _ d.ok hr (by rfl) d.m d.kp d.b .nil zaD (@zaa _ _ _ _ _ (@qv _ 0 _ _ (by trivial)) (@zaa _ _ _ _ _ (@zay _ _ _ _ _ _ _ zaK (@qv _ 1 _ _ (by trivial)) zae (λ_ _=>rfl)) zac (by rfl)) (by rfl)) (by decide) (by rfl) (by rfl)) zac (by rfl)))) zac (by rfl)) (by rfl))) (@zam _ _ _ _ _ _ _ _ _ _ _ _ _ _ _ _ d.ok hr (by rfl) d.m d.kp d.b .nil zaD (@zaa _ _ _ _ _ (@qv _ 0 _ _ (by trivial)) (@zaa _ _ _ _ _ zae zac (by rfl)) (by rfl)) (by decide) (by rfl) (by rfl)) (λ_ _=>rfl))))),?_⟩
 refine⟨_,rfl,r,_,_,_,rfl,rfl,SqT.of na.net,rfl,_,rfl,by lia,by lia,λlc u=>?_⟩
 have L:=S.ne u
 have ae:Frs l H lc:=λb o e _=>zag e u
 refine ze1 (lo:=0) (n:=((N.lanes:Nat):Int).toNat) (λi acc σ C=>(∃ v0,σ=[v0,some (.ref l)])/\Pk3 C l/\But l H C/\C lc=some (.lst acc)/\∃ ms:List Nat,acc=nums ms/\ms.length<=i/\(∀ m∈ms,m<i)/\ms.Pairwise (· < ·)) ⟨⟨_,rfl⟩,S.upd L,But.of (zab u _),zap u _,[],rfl,Jg _,λm I=>(nomatch I),.nil⟩ (λi acc σ C z=>z.2.2.2.1) ?_ ?_
 ·rintro i acc σ C hi ⟨⟨v0,rfl⟩,S2,W,T,ms,rfl,ml,mlt,mp⟩
  refine⟨_,rfl,l,2,rfl,by decide,by decide,S2,λv H3 X S3 B3=>⟨rfl,_,rfl,?_⟩⟩
  have h3:=B3 lc _ T L.symm
  have e0:(0:Int)+((i:Nat):Int)=((i:Nat):Int):=Int.zero_add _
  refine ite2 (λ_=>?_) (λ_=>?_)
  ·refine⟨_,rfl,h3,by rw[zar,JE];lia,nx (by lia) ⟨⟨_,rfl⟩,S3.upd L,(W.trans B3).upd ae,zaf,ms++[i],?_,by rw[Jb];show _+1<=_;lia,λm I=>?_,?_⟩⟩
   ·rw[<- zkx,e0];rfl
   ·rcases Jz.mp I with y|y
    ·have:=mlt m y;lia
    ·rw[Je.mp y];lia
   ·refine Yu.mpr ⟨mp,List.pairwise_singleton _ _,λa ha b hb=>?_⟩
    rw[Je.mp hb];exact mlt a ha
  ·exact nx (by lia) ⟨⟨_,rfl⟩,S3,W.trans B3,h3,ms,rfl,by lia,λm I=>by have:=mlt m I;lia,mp⟩
 rintro acc σ C ⟨⟨v0,rfl⟩,S2,W,T,ms,rfl,ml,mlt,mp⟩
 rw[Yi]at ml mlt
 have M:=na.tups (W.tups3 S)
 refine⟨_,rfl,r,_,_,_,rfl,rfl,SqT.of M.net,rfl,N.lanes,rfl,by lia,λt1 O=>?_⟩
 have s1:=zab O (.tup (nums (List.range N.lanes)))
 have h1:=zap O (.tup (nums (List.range N.lanes)))
 have R:=s1 _ _ T
 have S1:=S2.keep s1
 have B1:=W.trans (But.of (l:=l) s1)
 have Z:=M.tups (Tups.of s1)
 show zlr _ _ _ (L2.upd C t1 (.tup (nums (List.range N.lanes)))) _
 generalize L2.upd C t1 (.tup (nums (List.range N.lanes)))=H3 at *
 clear T s1 S2 W M O
 refine⟨_,rfl,(by show 0<=sizeLine;decide),λe he=>?_⟩
 have D:=zab he (.lst [])
 refine⟨lc,e,_,rfl,rfl,SqL.of (D _ _ R),SqL.of (zap he _),_,rfl,?_⟩
 have ad:=D _ _ R
 have aa:=D _ _ h1
 have S4:=S1.keep D
 have B4:=B1.trans (But.of (l:=l) D)
 have ab:=Z.tups (Tups.of D)
 generalize L2.upd H3 e (.lst [])=H4 at *
 clear R h1 S1 B1 Z D he
 have fin:∀ (t2:Addr) (moves:List Nat) (B:Hp),Lns N.lanes moves->B t2=some (.tup (nums moves))->B t1=some (.tup (nums (List.range N.lanes)))->Pk3 B l->But l H B->∀ q,B q=none->∀ (v:Nat) (g:Hp),(v:Int)<2->Pk3 g l->But l (L2.upd B q (.lst [.ref t1,.ref t2])) g->∃ a xs j x,V.ref q=.ref a/\V.int (v:Nat)=.int j/\SqL K g a xs/\atI xs j=some x/\Q x g:=λt2 moves B ln T h1 Y B5 q c v g X U J=>by
  have s5:=zab c (.lst [.ref t1,.ref t2])
  have t6:=(Tups.of s5).trans (J.tups3 (Y.keep s5))
  have B':=(B5.trans (But.of (l:=l) s5)).trans J
  have hx:∃ x,[V.ref t1,V.ref t2][v]?=some x/\Q x g:=by
   rcases v with _|_|v
   ·exact⟨_,rfl,k t1 _ g (Lns.all l1) (t6 _ _ h1) U B'⟩
   ·exact⟨_,rfl,k t2 moves g ln (t6 _ _ T) U B'⟩
   ·lia
  obtain⟨x,ex,qx⟩:=hx
  exact⟨q,_,_,x,rfl,rfl,SqL.of (J q _ (zap c _) (Y.ne c).symm),zaR ex,qx⟩
 by_cases un:ms=[]
 ·rw[show (!(nums ms).isEmpty)=false by rw[un];rfl]
  refine iteF ⟨_,rfl,_,rfl,r,_,_,_,rfl,rfl,SqT.of ab.net,rfl,l,_,rfl,by lia,by lia,S4,λone B ho Y B5=>⟨(by show 1<=sizeLine;decide),λt2 p=>?_⟩⟩
  have t:=zab p (.tup [.int (one:Nat)])
  have t5:=B5.tups3 S4
  refine⟨(by show 2<=sizeLine;decide),λq c=>⟨_,rfl,l,2,rfl,by decide,by decide,(Y.keep t).keep (zab c _),λv g X U J=>?_⟩⟩
  exact fin t2 [one] _ ⟨by simp,λm I=>by rw[Je.mp I];lia,List.pairwise_singleton _ _⟩ (zap p _) (t _ _ (t5 _ _ aa)) (Y.keep t) ((B4.trans B5).trans (But.of t)) q c v g X U J
 ·rw[show (!(nums ms).isEmpty)=true by cases ms with
   | nil=>exact absurd rfl un
   | cons a b=>rfl]
  refine iteT ⟨_,rfl,lc,_,rfl,.inl ⟨SqL.of ad,λt2 p=>?_⟩⟩
  have t:=zab p (.tup (nums ms))
  refine⟨(by show 2<=sizeLine;decide),λq c=>⟨_,rfl,l,2,rfl,by decide,by decide,(S4.keep t).keep (zab c _),λv g X U J=>?_⟩⟩
  exact fin t2 ms _ ⟨un,mlt,mp⟩ (zap p _) (t _ _ aa) (S4.keep t) (B4.trans (But.of t)) q c v g X U J
end
end K36
namespace L2
open PySem PySem.Spec PyProof.Rows Own Bn
theorem ze9:∀ x:List Int,cmpR x x=.eq
 | []=>rfl
 | a::x=>by show (compare a a).then (cmpR x x)=.eq;rw[YS.mpr rfl,ze9 x];rfl
theorem zdz:∀ x y:List Int,cmpR y x=(cmpR x y).swap
 | [],[]=>rfl
 | [],_::_=>rfl
 | _::_,[]=>rfl
 | a::x,b::y=>by
  show (compare b a).then (cmpR y x)=((compare a b).then (cmpR x y)).swap
  rw[zdz x y]
  rcases Zr a b with h|h|h
  ·rw[YA.mpr h,YG.mpr h];rfl
  ·subst h
   rw[YS.mpr (rfl:a=a)];rfl
  ·rw[YG.mpr h,YA.mpr h];rfl
def leR (x y:List Int):Prop:=cmpR x y≠.gt
theorem zc8 (x:List Int):leR x x:=by unfold leR;rw[ze9];exact λh=>by cases h
theorem zby:∀ {x y z:List Int},leR x y->leR y z->leR x z
 | [],[],[],_,_=>λh=>by cases h
 | [],_,_::_,_,_=>λh=>by cases h
 | [],_::_,[],_,h=>absurd rfl h
 | _::_,[],_,h,_=>absurd rfl h
 | _::_,_::_,[],_,h=>absurd rfl h
 | a::x,b::y,c::z,h1,f=>by
  have e:(compare a b).then (cmpR x y)≠.gt:=h1
  have d:(compare b c).then (cmpR y z)≠.gt:=f
  show (compare a c).then (cmpR x z)≠.gt
  rcases Zr a b with p|p|p
  ·rcases Zr b c with q|q|q
   ·rw[YA.mpr (show a<c by lia)];exact λh=>by cases h
   ·rw[YA.mpr (show a<c by lia)];exact λh=>by cases h
   ·rw[YG.mpr q]at d;exact absurd rfl d
  ·subst p
   rw[YS.mpr (rfl:a=a)]at e
   rcases Zr a c with q|q|q
   ·rw[YA.mpr q];exact λh=>by cases h
   ·subst q
    rw[YS.mpr (rfl:a=a)]at d ⊢
    exact zby (x:=x) (y:=y) (z:=z) e d
   ·rw[YG.mpr q]at d;exact absurd rfl d
  ·rw[YG.mpr p]at e;exact absurd rfl e
theorem ziK (x y:List Int):leR (minR x y) x/\leR (minR x y) y:=by
 unfold minR
 by_cases h:cmpR y x=.lt
 ·rw[Jf h];exact⟨(by unfold leR;rw[h];exact λz=>by cases z),zc8 y⟩
 ·rw[Jc h]
  refine⟨zc8 x,λz=>h ?_⟩
  rw[zdz x y,z];rfl
theorem zkr:∀ {l:List (List Int)},l≠[]->minL l∈l
 | [],h=>absurd rfl h
 | x::r,_=>by
  have key:∀ (r:List (List Int)) (x:List Int),r.foldl minR x∈x::r:=by
   intro r
   induction r with
   | nil=>intro x;exact .head _
   | cons y r ih =>
    intro x
    show r.foldl minR (minR x y)∈x::y::r
    rcases Ju.mp (ih (minR x y)) with z|z
    ·rw[z]
     rcases zfK x y with e|e
     ·rw[e];exact .head _
     ·rw[e];exact .tail _ (.head _)
    ·exact .tail _ (.tail _ z)
  exact key r x
theorem zl1:∀ {l:List (List Int)}{x:List Int},x∈l->leR (minL l) x
 | [],x,h=>by cases h
 | a::r,x,h=>by
  have key:∀ (r:List (List Int)) (a:List Int),leR (r.foldl minR a) a/\∀ x∈r,leR (r.foldl minR a) x:=by
   intro r
   induction r with
   | nil=>intro a;exact⟨zc8 a,λx b=>(nomatch b)⟩
   | cons y r ih =>
    intro a
    obtain⟨h1,e⟩:=ih (minR a y)
    obtain⟨d,c⟩:=ziK a y
    refine⟨zby h1 d,λx b=>?_⟩
    rcases Ju.mp b with rfl|z
    ·exact zby h1 c
    ·exact e x z
  rcases Ju.mp h with rfl|z
  ·exact(key r _).1
  ·exact(key r a).2 x z
theorem zfG:∀ {c d:List Int}{m:Nat},c.length=d.length->leR c d->leR (oneM c m) (oneM d m)
 | [],[],m,_,h=>by unfold oneM zaM;exact h
 | a::c,b::d,0,_,h=>by
  have h':(compare a b).then (cmpR c d)≠.gt:=h
  show (compare (a+1) (b+1)).then (cmpR c d)≠.gt
  have e:compare (a+1) (b+1)=compare a b:=by
   rcases Zr a b with p|p|p
   ·rw[YA.mpr p,YA.mpr (by lia)]
   ·subst p;rw[YS.mpr (rfl:a=a),YS.mpr rfl]
   ·rw[YG.mpr p,YG.mpr (by lia)]
  rw[e];exact h'
 | a::c,b::d,m+1,l,h=>by
  have h':(compare a b).then (cmpR c d)≠.gt:=h
  show (compare a b).then (cmpR (oneM c m) (oneM d m))≠.gt
  cases z:compare a b with
  | lt=>exact λh=>by cases h
  | gt=>rw[z]at h';exact absurd rfl h'
  | eq=>rw[z]at h';exact zfG (c:=c) (d:=d) (by simpa using l) h'
theorem zcx (ps:LvL) (k:KN) (r:List Int):getL (putL ps k r) k=some r:=by
 unfold putL
 split
 ·rename_i h
  have key:∀ ps:LvL,(getL ps k).isSome=true->getL (ps.map λx=>if x.1=k then (x.1,r) else x) k=some r:=by
   intro ps
   induction ps with
   | nil=>intro h;cases h
   | cons p ps ih =>
    intro h
    unfold getL at ih h ⊢
    rw[JZ,YU]
    rw[YU]at h
    by_cases z:p.1=k
    ·rw[Jf z]
     show (match decide (p.1=k) with|true=>some (p.1,r)|false=>_).map _=_
     rw[JB z];rfl
    ·rw[Jc z,Jt z]
     rw[Jt z]at h
     exact ih h
  exact key ps h
 ·rename_i h
  have e:getL ps k=none:=by
   cases g:getL ps k with
   | none=>rfl
   | some x=>rw[g]at h;exact absurd rfl h
  unfold getL at e ⊢
  rw[Option.map_eq_none_iff]at e
  rw[List.find?_append,e]
  show Option.map _ ((none:Option (KN × List Int)).or (List.find? _ [(k,r)]))=_
  rw[YU]
  show Option.map _ ((none:Option (KN × List Int)).or (match decide (k=k) with|true=>some (k,r)|false=>_))=_
  rw[JB rfl];rfl
theorem zfT {k j:KN}(r:List Int) (h:j≠k):∀ ps:LvL,getL (ps.map λx=>if x.1=k then (x.1,r) else x) j=getL ps j:=by
 intro ps
 induction ps with
 | nil=>rfl
 | cons p ps ih =>
  unfold getL at ih ⊢
  rw[JZ,YU,YU]
  by_cases z:p.1=k
  ·rw[Jf z]
   have n:¬ p.1=j:=λy=>h (y.symm.trans z)
   show (match decide (p.1=j) with|true=>_|false=>_:Option (KN × List Int)).map _=_
   rw[Jt n];exact ih
  ·rw[Jc z]
   by_cases y:p.1=j
   ·rw[JB y]
   ·rw[Jt y];exact ih
theorem zds (ps:LvL) {k j:KN}(r:List Int) (h:j≠k):getL (putL ps k r) j=getL ps j:=by
 unfold putL
 split
 ·exact zfT r h ps
 ·unfold getL
  rw[List.find?_append]
  cases e:List.find? (λx=>decide (x.1=j)) ps with
  | some x=>rfl
  | none =>
   show Option.map _ ((none:Option (KN × List Int)).or (List.find? _ [(k,r)]))=_
   rw[YU]
   show Option.map _ ((none:Option (KN × List Int)).or (match decide (k=j) with|true=>some (k,r)|false=>_))=_
   rw[Jt (λz=>h z.symm)];rfl
abbrev Tri:=KN × List Int × Nat
structure Met (step:KN->Nat->Option KN) (seen:LvL) (T:List Tri) (a:LAcc):Prop where
 on:∀ t c,getL a.on t=some c->∃ x∈T,step x.1 x.2.2=some t/\c=oneM x.2.1 x.2.2
 has:∀ x∈T,∀ t,step x.1 x.2.2=some t->getL seen t=none->∃ c,getL a.on t=some c/\leR c (oneM x.2.1 x.2.2)
 fl1:∀ r∈a.fl,∃ x∈T,step x.1 x.2.2=none/\r=oneM x.2.1 x.2.2
 fl2:∀ x∈T,step x.1 x.2.2=none->oneM x.2.1 x.2.2∈a.fl
theorem zfS {α:Type}{o:Option α}(h:¬ o.isSome=true):o=none:=by
 cases o with
 | none=>rfl
 | some x=>exact absurd rfl h
section
variable {step:KN->Nat->Option KN}{seen:LvL}
theorem Met.go {T:List Tri}{a:LAcc}(h:Met step seen T a) (s:KN) (c:List Int) (m:Nat):Met step seen (T++[(s,c,m)]) (go1 step seen s c a m):=by
 have last:∀ {p:Tri->Prop}{x:Tri},x∈T++[(s,c,m)]->(x∈T->p x)->p (s,c,m)->p x:=λb h1 D=>by
  rcases Jz.mp b with z|z
  ·exact h1 z
  ·rw[Je.mp z];exact D
 have d:∀ {x:Tri},x∈T->x∈T++[(s,c,m)]:=λz=>Yh _ z
 have l:((s,c,m):Tri)∈T++[(s,c,m)]:=Jy _ (Je.mpr rfl)
 unfold go1
 cases e:step s m with
 | none =>
  refine⟨λt j g=>?_,λx b t f sn=>?_,λr n=>?_,λx b ex=>?_⟩
  ·obtain⟨x,b,q⟩:=h.on t j g;exact⟨x,d b,q⟩
  ·refine last (p:=λx=>step x.1 x.2.2=some t->∃ j,getL a.on t=some j/\leR j (oneM x.2.1 x.2.2)) b (λz f=>h.has x z t f sn) (λf=>?_) f
   have i:step s m=some t:=f
   rw[e]at i;cases i
  ·rcases Jz.mp n with z|z
   ·obtain⟨x,b,q⟩:=h.fl1 r z;exact⟨x,d b,q⟩
   ·exact⟨_,l,e,Je.mp z⟩
  ·exact last (p:=λx=>step x.1 x.2.2=none->oneM x.2.1 x.2.2∈a.fl++[oneM c m]) b (λz ex=>Yh _ (h.fl2 x z ex)) (λ_=>Jy _ (Je.mpr rfl)) ex
 | some u =>
  dsimp only
  by_cases o:(getL seen u).isSome=true
  ·rw[Jf o]
   refine⟨λt j g=>?_,λx b t f sn=>?_,λr n=>?_,λx b ex=>?_⟩
   ·obtain⟨x,b,q⟩:=h.on t j g;exact⟨x,d b,q⟩
   ·refine last (p:=λx=>step x.1 x.2.2=some t->∃ j,getL a.on t=some j/\leR j (oneM x.2.1 x.2.2)) b (λz f=>h.has x z t f sn) (λf=>?_) f
    have i:step s m=some t:=f
    rw[e]at i
    cases i
    rw[sn]at o;cases o
   ·obtain⟨x,b,q⟩:=h.fl1 r n;exact⟨x,d b,q⟩
   ·refine last (p:=λx=>step x.1 x.2.2=none->oneM x.2.1 x.2.2∈a.fl) b (λz ex=>h.fl2 x z ex) (λex=>?_) ex
    have k:step s m=none:=ex
    rw[e]at k;cases k
  ·rw[Jc o]
   obtain⟨C,w⟩:=ziK (oneM c m) ((getL a.on u).getD (oneM c m))
   refine⟨λt j g=>?_,λx b t f sn=>?_,λr n=>?_,λx b ex=>?_⟩
   ·by_cases tt:t=u
    ·subst tt
     rw[zcx]at g
     cases g
     rcases zfK (oneM c m) ((getL a.on t).getD (oneM c m)) with q|q
     ·exact⟨_,l,e,q⟩
     ·cases v:getL a.on t with
      | none=>rw[v]at q;exact⟨_,l,e,by rw[Option.getD_none]at q ⊢;exact q⟩
      | some y =>
       rw[v]at q
       obtain⟨x,b,B,A⟩:=h.on t y v
       exact⟨x,d b,B,by rw[ZA]at q ⊢;rw[q];exact A⟩
    ·rw[zds _ _ tt]at g
     obtain⟨x,b,q⟩:=h.on t j g;exact⟨x,d b,q⟩
   ·by_cases tt:t=u
    ·subst tt
     rw[zcx]
     refine⟨_,rfl,?_⟩
     refine last (p:=λx=>step x.1 x.2.2=some t->leR (minR (oneM c m) ((getL a.on t).getD (oneM c m))) (oneM x.2.1 x.2.2)) b (λz f=>?_) (λ_=>C) f
     obtain⟨y,E,l2⟩:=h.has x z t f sn
     rw[E,ZA]at w ⊢
     exact zby w l2
    ·rw[zds _ _ tt]
     refine last (p:=λx=>step x.1 x.2.2=some t->∃ j,getL a.on t=some j/\leR j (oneM x.2.1 x.2.2)) b (λz f=>h.has x z t f sn) (λf=>?_) f
     have i:step s m=some t:=f
     rw[e]at i
     exact absurd (Jr i).symm tt
   ·obtain⟨x,b,q⟩:=h.fl1 r n;exact⟨x,d b,q⟩
   ·refine last (p:=λx=>step x.1 x.2.2=none->oneM x.2.1 x.2.2∈a.fl) b (λz ex=>h.fl2 x z ex) (λex=>?_) ex
    have k:step s m=none:=ex
    rw[e]at k;cases k
theorem Met.row (s:KN) (c:List Int):∀ (ms:List Nat) {T:List Tri}{a:LAcc},Met step seen T a->Met step seen (T++ms.map λm=>(s,c,m)) (ms.foldl (go1 step seen s c) a)
 | [],T,a,h=>by rw[List.map_nil,Y5];exact h
 | m::r,T,a,h=>by
  have:=Met.row s c r (h.go s c m)
  rwa [JQ]at this
def tris (moves:List Nat) (level:LvL):List Tri:=level.flatMap λp=>moves.map λm=>(p.1,p.2,m)
theorem Met.lev (moves:List Nat):∀ (level:LvL) {T:List Tri}{a:LAcc},Met step seen T a->Met step seen (T++tris moves level) (level.foldl (goS step seen moves) a)
 | [],T,a,h=>by show Met step seen (T++[]) a;rw[Y5];exact h
 | p::r,T,a,h=>by
  have:=Met.lev moves r (Met.row p.1 p.2 moves h)
  rwa [JQ]at this
theorem zel (moves:List Nat) (level:LvL):Met step seen (tris moves level) (zbe step seen moves level) :=
 Met.lev moves level (T:=[]) (a:=⟨[],[]⟩) ⟨λt c g=>(by cases g),λx b=>absurd b Jv,λr d=>absurd d Jv,λx b=>absurd b Jv⟩
end
theorem zch {moves:List Nat}{level:LvL}{x:Tri}:x∈tris moves level↔(x.1,x.2.1)∈level/\x.2.2∈moves:=by
 unfold tris
 rw[List.mem_flatMap]
 constructor
 ·rintro⟨p,b,a⟩
  obtain⟨m,c,rfl⟩:=JD.mp a
  exact⟨b,c⟩
 ·rintro⟨h1,d⟩
  exact⟨_,h1,JD.mpr ⟨_,d,rfl⟩⟩
def runK (step:KN->Nat->Option KN):KN->List Nat->Option KN
 | s,[]=>some s
 | s,m::r=>(step s m).bind λt=>runK step t r
def cntL (c:List Int) (row:List Nat):List Int:=row.foldl oneM c
theorem zba (step:KN->Nat->Option KN):∀ (r:List Nat) (s:KN) (m:Nat),runK step s (r++[m])=(runK step s r).bind λt=>step t m
 | [],s,m=>by
  show (step s m).bind (λt=>some t)=step s m
  cases step s m<;>rfl
 | a::r,s,m=>by
  show (step s a).bind (λt=>runK step t (r++[m]))=((step s a).bind λt=>runK step t r).bind λt=>step t m
  cases step s a with
  | none=>rfl
  | some t=>exact zba step r t m
theorem zbB (c:List Int) (r:List Nat) (m:Nat):cntL c (r++[m])=oneM (cntL c r) m:=by unfold cntL;rw[Zp];rfl
theorem zew (c:List Int) (r:List Nat):(cntL c r).length=c.length:=by
 unfold cntL
 induction r generalizing c with
 | nil=>rfl
 | cons m r ih=>show (r.foldl oneM (oneM c m)).length=_;rw[ih,zcr]
theorem zef {r:List Nat}{n:Nat}(h:r.length=n+1):∃ q m,r=q++[m]/\q.length=n:=by
 have ne:r≠[]:=λz=>by rw[z]at h;cases h
 refine⟨r.dropLast,r.getLast ne,(List.dropLast_concat_getLast ne).symm,?_⟩
 rw[List.length_dropLast];lia
def Over (moves row:List Nat):Prop:=∀ m∈row,m∈moves
structure Clm (step:KN->Nat->Option KN) (moves:List Nat) (k0:KN) (c0:List Int) (n:Nat) (level seen:LvL):Prop where
 fst:(getL (seen++level) k0).isSome=true
 way:∀ t c,getL level t=some c->∃ row,row.length=n/\Over moves row/\runK step k0 row=some t/\cntL c0 row=c
 all:∀ row,row.length<=n->Over moves row->∃ s,runK step k0 row=some s/\(getL (seen++level) s).isSome=true
 cls:∀ s,(getL seen s).isSome=true->∀ m∈moves,∃ t,step s m=some t/\(getL (seen++level) t).isSome=true
 new:∀ s,(getL level s).isSome=true->getL seen s=none
 lst:∀ row s c,row.length=n->Over moves row->runK step k0 row=some s->getL level s=some c->leR c (cntL c0 row)
 nd:LvNd level
 num:n<=seen.length
 rch:∀ s,(getL seen s).isSome=true->∃ row,Over moves row/\runK step k0 row=some s
section
variable {step:KN->Nat->Option KN}{moves:List Nat}{k0:KN}{c0:List Int}{n:Nat}{level seen:LvL}
theorem zbz:∀ {ps:LvL},LvNd ps->∀ {s:KN}{c:List Int},(s,c)∈ps->getL ps s=some c
 | [],_,s,c,h=>by cases h
 | p::ps,nd,s,c,h=>by
  unfold LvNd at nd
  rw[JZ,JR]at nd
  unfold getL
  rw[YU]
  rcases Ju.mp h with z|z
  ·rw[<- z]
   show (match decide (s=s) with|true=>some (s,c)|false=>_:Option (KN × List Int)).map _=_
   rw[JB rfl];rfl
  ·have n:¬ p.1=s:=λy=>nd.1 (JD.mpr ⟨_,z,y.symm⟩)
   rw[Jt n]
   exact zbz nd.2 z
theorem Clm.step_of (h:Clm step moves k0 c0 n level seen) {row:List Nat}(d:row.length=n) (b:Over moves row):∃ s,runK step k0 row=some s/\((getL seen s).isSome=true\/∃ c,getL level s=some c):=by
 obtain⟨s,h1,a⟩:=h.all row (by lia) b
 refine⟨s,h1,?_⟩
 rw[zbJ,Wf]at a
 rcases a with z|z
 ·exact .inl z
 ·exact .inr (ZH.mp z)
theorem Clm.next (h:Clm step moves k0 c0 n level seen) (ne:level≠[]) (cl:∀ p∈level,p.2.length=c0.length) (fl:(zbe step (seen++level) moves level).fl=[]):Clm step moves k0 c0 (n+1) (zbe step (seen++level) moves level).on (seen++level):=by
 have M:=zel (step:=step) (seen:=seen++level) moves level
 have W:=zdn (step:=step) (seen:=seen++level) (moves:=moves) (Ok:=λ_=>True) level λ_ _ _ _ _ _=>trivial
 have f:∀ s,(getL (zbe step (seen++level) moves level).on s).isSome=true->getL (seen++level) s=none:=λs a=>by
  obtain⟨r,E⟩:=zbT a
  exact W.new _ E
 have l:∀ s c,getL level s=some c->∀ m∈moves,∃ t,step s m=some t/\((getL (seen++level) t).isSome=true\/∃ u,getL (zbe step (seen++level) moves level).on t=some u/\leR u (oneM c m)):=λs c g m b=>by
  have B:((s,c,m):Tri)∈tris moves level:=zch.mpr ⟨zbp g,b⟩
  cases e:step s m with
  | none =>
   have:=M.fl2 _ B e
   rw[fl]at this;cases this
  | some t =>
   refine⟨t,rfl,?_⟩
   by_cases z:(getL (seen++level) t).isSome=true
   ·exact .inl z
   ·exact .inr (M.has _ B t e (zfS z))
 have lead:∀ s,(getL (seen++level) s).isSome=true->∀ m∈moves,∃ t,step s m=some t/\(getL ((seen++level)++(zbe step (seen++level) moves level).on) t).isSome=true:=λs a m b=>by
  rw[zbJ,Wf]at a
  rcases a with z|z
  ·obtain⟨t,e,q⟩:=h.cls s z m b
   exact⟨t,e,by rw[zbJ,q];rfl⟩
  ·obtain⟨c,g⟩:=ZH.mp z
   obtain⟨t,e,q⟩:=l s c g m b
   refine⟨t,e,?_⟩
   rw[zbJ]
   rcases q with q|⟨u,q,_⟩
   ·rw[q];rfl
   ·rw[q];exact Bool.or_true _
 refine⟨by rw[zbJ,h.fst];rfl,λt c g=>?_,λrow E j=>?_,lead,f,λrow s c L j a g=>?_,W.nd,?_,λs a=>?_⟩
 ·obtain⟨x,K,e,N⟩:=M.on t c g
  obtain⟨H,G⟩:=zch.mp K
  obtain⟨row,J,w,v,I⟩:=h.way x.1 x.2.1 (zbz h.nd H)
  refine⟨row++[x.2.2],by rw[Jb,J];rfl,λm b=>?_,by rw[zba,v];exact e,by rw[zbB,I,N]⟩
  rcases Jz.mp b with z|z
  ·exact w m z
  ·rw[Je.mp z];exact G
 ·rcases Nat.lt_or_ge n row.length with z|z
  ·obtain⟨q,m,rfl,A⟩:=zef (show row.length=n+1 by lia)
   obtain⟨s,h1,k⟩:=h.all q (by lia) λm b=>j m (Yh _ b)
   obtain⟨t,e,i⟩:=lead s k m (j m (Jy _ (Je.mpr rfl)))
   exact⟨t,by rw[zba,h1];exact e,i⟩
  ·obtain⟨s,h1,k⟩:=h.all row z j
   exact⟨s,h1,by rw[zbJ,k];rfl⟩
 ·obtain⟨q,m,rfl,A⟩:=zef L
  have D:m∈moves:=j m (Jy _ (Je.mpr rfl))
  have C:Over moves q:=λm b=>j m (Yh _ b)
  obtain⟨t,h1,k⟩:=h.step_of A C
  rw[zba,h1]at a
  have o:step t m=some s:=a
  have sn:=f s (by rw[g];rfl)
  rcases k with z|⟨d,gd⟩
  ·obtain⟨t',e,i⟩:=h.cls t z m D
   rw[o]at e
   rw[<- Jr e,sn]at i;cases i
  ·obtain⟨t',e,i⟩:=l t d gd m D
   rw[o]at e
   rw[<- Jr e]at i
   rcases i with y|⟨u,F,lc⟩
   ·rw[sn]at y;cases y
   ·rw[g]at F
    rw[Jr F,zbB]
    refine zby lc (zfG ?_ (h.lst q t d A C h1 gd))
    rw[zew];exact cl _ (zbp gd)
 ·rw[Jb]
  have:=h.num
  have:0<level.length:=Wn.mpr ne
  lia
 ·rw[zbJ,Wf]at a
  rcases a with z|z
  ·exact h.rch s z
  ·obtain⟨c,g⟩:=ZH.mp z
   obtain⟨row,_,w,v,_⟩:=h.way s c g
   exact⟨row,w,v⟩
structure Broke (step:KN->Nat->Option KN) (moves:List Nat) (k0:KN) (c0:List Int) (n:Nat) (c:List Int):Prop where
 ex:∃ row m,row.length=n/\Over moves (row++[m])/\cntL c0 (row++[m])=c/\runK step k0 (row++[m])=none
 few:∀ row,row.length<=n->Over moves row->∃ s,runK step k0 row=some s
 lst:∀ row,row.length=n+1->Over moves row->runK step k0 row=none->leR c (cntL c0 row)
theorem Clm.brk (h:Clm step moves k0 c0 n level seen) (cl:∀ p∈level,p.2.length=c0.length) (fl:(zbe step (seen++level) moves level).fl≠[]):Broke step moves k0 c0 n (minL (zbe step (seen++level) moves level).fl):=by
 have M:=zel (step:=step) (seen:=seen++level) moves level
 obtain⟨x,y,e,D⟩:=M.fl1 _ (zkr fl)
 obtain⟨l,k⟩:=zch.mp y
 obtain⟨row,w,v,u,r⟩:=h.way x.1 x.2.1 (zbz h.nd l)
 refine⟨⟨row,x.2.2,w,λm c=>?_,by rw[zbB,r,D],by rw[zba,u];exact e⟩,λrow A b=>?_,λrow B b j=>?_⟩
 ·rcases Jz.mp c with z|z
  ·exact v m z
  ·rw[Je.mp z];exact k
 ·obtain⟨s,h1,_⟩:=h.all row A b
  exact⟨s,h1⟩
 ·obtain⟨q,m,rfl,f⟩:=zef B
  have i:m∈moves:=b m (Jy _ (Je.mpr rfl))
  have g:Over moves q:=λm c=>b m (Yh _ c)
  obtain⟨t,h1,C⟩:=h.step_of f g
  rw[zba,h1]at j
  have a:step t m=none:=j
  rcases C with z|⟨d,gd⟩
  ·obtain⟨t',e,_⟩:=h.cls t z m i
   rw[a]at e;cases e
  ·have o:((t,d,m):Tri)∈tris moves level:=zch.mpr ⟨zbp gd,i⟩
   rw[zbB]
   refine zby (zl1 (M.fl2 _ o a)) (zfG ?_ (h.lst q t d f g h1 gd))
   rw[zew];exact cl _ (zbp gd)
end
structure Shut (step:KN->Nat->Option KN) (moves:List Nat) (k0:KN) (ks:List KN):Prop where
 fst:k0∈ks
 cls:∀ s∈ks,∀ m∈moves,∃ t∈ks,step s m=some t
def zcv (ls:List LvL):List KN:=ls.flatMap λlv=>lv.map (·.1)
theorem ziY (a b:List LvL):zcv (a++b)=zcv a++zcv b:=by unfold zcv;rw[List.flatMap_append]
theorem zbZ {ps:LvL}{s:KN}:(getL ps s).isSome=true↔s∈ps.map (·.1):=by
 constructor
 ·intro h
  obtain⟨r,a⟩:=zbT h
  exact JD.mpr ⟨_,a,rfl⟩
 ·intro h
  obtain⟨p,b,rfl⟩:=JD.mp h
  exact zb0 b
section
variable {step:KN->Nat->Option KN}{moves:List Nat}{k0:KN}{c0:List Int}{most:Nat}
theorem zgH:∀ (m n:Nat) (level seen:LvL) (ls:List LvL),Clm step moves k0 c0 n level seen->(∀ p∈level,p.2.length=c0.length)->zcv ls=seen.map (·.1)->LvNd (seen++level)->seen.length<=most ->
  match za4 step moves most m level seen ls with
  | .opn=>True
  | .brk c=>∃ l,l<=most/\Broke step moves k0 c0 l c
  | .whl d=>Shut step moves k0 (zcv d)/\(zcv d).Nodup/\(zcv d).length<=most/\∀ s∈zcv d,∃ row,Over moves row/\runK step k0 row=some s
 | 0,_,_,_,_,_,_,_,_,_=>trivial
 | m+1,n,level,seen,ls,h,cl,k,nd,le=>by
  by_cases g:level=[]
  ·subst g
   rw[zcE]
   have e:zcv ls=(seen++([]:LvL)).map (λp:KN × List Int=>p.1):=by rw[Y5];exact k
   refine⟨⟨by rw[e];exact zbZ.mp h.fst,λs i m j=>?_⟩,by rw[e];exact nd,by rw[k,Jh];exact le,λs i=>?_⟩
   ·rw[k]at i
    obtain⟨t,q,o⟩:=h.cls s (zbZ.mpr i) m j
    exact⟨t,by rw[e];exact zbZ.mp o,q⟩
   ·rw[k]at i
    exact h.rch s (zbZ.mpr i)
  by_cases j:most<seen.length+level.length
  ·rw[zdC g j];trivial
  by_cases f:(zbe step (seen++level) moves level).fl=[]
  ·rw[zda g j f]
   have na:=zgx (step:=step) (seen:=seen++level) (moves:=moves) (n:=c0.length) level cl
   have W:=zdn (step:=step) (seen:=seen++level) (moves:=moves) (Ok:=λ_=>True) level λ_ _ _ _ _ _=>trivial
   refine zgH m (n+1) _ _ _ (h.next g cl f) na.on ?_ ?_ (by rw[Jb];lia)
   ·rw[ziY,k,Y2]
    congr 1
    show level.map (λp:KN × List Int=>p.1)++[]=level.map (λp:KN × List Int=>p.1)
    rw[Y5]
   ·unfold LvNd
    rw[Y2]
    refine Wz.mpr ⟨nd,W.nd,λa ha b hb e=>?_⟩
    subst e
    obtain⟨p,r,rfl⟩:=JD.mp hb
    have:=W.new p r
    have z:=zbZ.mpr ha
    rw[this]at z;cases z
  ·rw[zcF g j f]
   exact⟨n,by have:=h.num;lia,h.brk cl f⟩
theorem zjq:Clm step moves k0 c0 0 [(k0,c0)] []:=by
 have b:getL [(k0,c0)] k0=some c0:=zbz (show LvNd [(k0,c0)] from JR.mpr ⟨Jv,Z3⟩) (.head _)
 have only:∀ {t:KN}{c:List Int},getL [(k0,c0)] t=some c->t=k0/\c=c0:=λg=>by
  have e:=Je.mp (zbp g)
  injection e with j e2
  exact⟨j,e2⟩
 have nil:∀ {row:List Nat},row.length<=0->row=[]:=λh=>ZX.mp (by lia)
 refine⟨by rw[ZN,b];rfl,λt c g=>?_,λrow d _=>?_,λs a=>(by cases a),λs _=>rfl,λrow s c i _ a g=>?_,JR.mpr ⟨Jv,Z3⟩,Jg _,λs a=>(by cases a)⟩
 ·obtain⟨rfl,rfl⟩:=only g
  exact⟨[],rfl,λm f=>absurd f Jv,rfl,rfl⟩
 ·rw[nil d]
  exact⟨k0,rfl,by rw[ZN,b];rfl⟩
 ·obtain⟨_,rfl⟩:=only g
  rw[nil (Nat.le_of_eq i)]
  exact zc8 _
theorem zjs:match za4 step moves most (most+1) [(k0,c0)] [] [] with
  | .opn=>True
  | .brk c=>∃ b,b<=most/\Broke step moves k0 c0 b c
  | .whl a=>Shut step moves k0 (zcv a)/\(zcv a).Nodup/\(zcv a).length<=most/\∀ s∈zcv a,∃ row,Over moves row/\runK step k0 row=some s :=
 zgH (most+1) 0 _ _ _ zjq (λp d=>by rw[Je.mp d]) rfl (JR.mpr ⟨Jv,Z3⟩) (JL _)
theorem zfO {α:Type} [DecidableEq α]:∀ {l ks:List α},l.Nodup->(∀ x∈l,x∈ks)->l.length<=ks.length
 | [],_,_,_=>JL _
 | a::l,ks,nd,h=>by
  rw[JR]at nd
  have ha:=h a (.head _)
  have:=zfO (l:=l) (ks:=ks.erase a) nd.2 λx b=>(List.mem_erase_of_ne λ(z:x=a)=>nd.1 (z ▸ b)).mpr (h x (.tail _ b))
  rw[List.length_erase_of_mem ha]at this
  have:0<ks.length:=List.length_pos_of_mem ha
  rw[JK];lia
theorem Shut.run {ks:List KN}(b:Shut step moves k0 ks):∀ (row:List Nat) {s:KN},s∈ks->Over moves row->∃ t∈ks,runK step s row=some t
 | [],s,a,_=>⟨s,a,rfl⟩
 | m::r,s,a,c=>by
  obtain⟨t,g,e⟩:=b.cls s a m (c m (.head _))
  obtain⟨u,f,e2⟩:=Shut.run b r g λx d=>c x (.tail _ d)
  exact⟨u,f,by show (step s m).bind _=_;rw[e];exact e2⟩
end
def zF (N:Nt):List Int:=List.replicate N.forks.length 0
def zL (N:Nt):List Int:=List.replicate N.lanes 0
def tsAt (N:Nt) (row:List Nat) (i:Nat):List Int:=(row.take i).foldl (zc2 N) (zF N)
def okAt (N:Nt) (row:List Nat) (i:Nat):Prop:=passE N (tsAt N row i) (row.getD i 0)=i%N.lanes
def zfQ (N:Nt) (row:List Nat) (i:Nat):KN:=stK (tsAt N row i) [((i%N.lanes:Nat):Int)]
def k0P (N:Nt):KN:=stK (zF N) [0]
theorem zeC (N:Nt) {row:List Nat}{i:Nat}(h:i<row.length):tsAt N row (i+1)=zc2 N (tsAt N row i) (row.getD i 0):=by
 unfold tsAt
 rw[<- Yx h,Zp,J9,J7 h];rfl
theorem za9 {row:List Nat}{i:Nat}(h:i<row.length):row.take (i+1)=row.take i++[row.getD i 0]:=by
 rw[<- Yx h,J9,J7 h];rfl
theorem zeE (N:Nt) (row:List Nat) (i:Nat):za6 N (zfQ N row i) (row.getD i 0)=if ((passE N (tsAt N row i) (row.getD i 0):Nat):Int)=((i%N.lanes:Nat):Int) then some (stK (zc2 N (tsAt N row i) (row.getD i 0)) [(((i%N.lanes:Nat):Int)+1)%(N.lanes:Nat)]) else none:=rfl
theorem zh6 (N:Nt) (row:List Nat):∀ i,i<=row.length->(∀ j,j<i->okAt N row j)->runK (za6 N) (k0P N) (row.take i)=some (zfQ N row i)
 | 0,_,_=>by
  rw[Zf]
  show some (k0P N)=some (zfQ N row 0)
  unfold zfQ
  rw[Nat.zero_mod];rfl
 | i+1,h,ok=>by
  rw[za9 h,zba,zh6 N row i (by lia) λj a=>ok j (by lia)]
  show za6 N (zfQ N row i) (row.getD i 0)=_
  rw[zeE,Jf (by rw[show passE N (tsAt N row i) (row.getD i 0)=i%N.lanes from ok i (Zy _)])]
  unfold zfQ
  rw[zeC N h]
  congr 2
  congr 1
  rw[show ((i%N.lanes:Nat):Int)+1=((i%N.lanes+1:Nat):Int) from rfl,<- Int.natCast_emod,Nat.mod_add_mod]
theorem zjT (N:Nt) {row:List Nat}{i:Nat}(h:i<row.length) (ok:∀ j,j<i->okAt N row j) (no:¬ okAt N row i):runK (za6 N) (k0P N) (row.take (i+1))=none:=by
 rw[za9 h,zba,zh6 N row i (by lia) ok]
 show za6 N (zfQ N row i) (row.getD i 0)=none
 rw[zeE]
 exact Jc λz=>no (Int.ofNat.inj z)
theorem zjH (N:Nt) (row:List Nat):∀ i,i<=row.length->(∀ j,j<=i->runK (za6 N) (k0P N) (row.take j)≠none)->∀ j,j<i->okAt N row j
 | 0,_,_,j,b=>by lia
 | i+1,h,a,j,b=>by
  have ih:=zjH N row i (by lia) λj b=>a j (by lia)
  by_cases z:j<i
  ·exact ih j z
  ·have:j=i:=by lia
   subst this
   exact Classical.byContradiction λno=>a (j+1) (Jg _) (zjT N h ih no)
section
variable {N:Nt}
theorem zbu (N:Nt) (row:List Nat):(cntL (zL N) row).length=N.lanes:=by rw[zew];exact Y3
theorem zhB (ok:Nt.Ok N) (row:List Nat) (a:∀ m∈row,m<N.lanes):∀ i,i<=row.length->tsAt N row i=zbg N (cntL (zL N) (row.take i))
 | 0,_=>by
  rw[Zf]
  show zF N=zbg N (zL N)
  unfold zL
  rw[zgL];rfl
 | i+1,h=>by
  have b:row.getD i 0<N.lanes:=by
   rw[J9,J7 h];exact a _ (Yb h)
  rw[zeC N h,zhB ok row a i (by lia),za9 h,zbB]
  exact(ball ok false (zbu N _) b).1.symm
theorem zcC (ok:Nt.Ok N) {row:List Nat}(a:∀ m∈row,m<N.lanes) {i:Nat}(h:i<row.length):zbj N (cntL (zL N) (row.take (i+1)))=zaM (zbj N (cntL (zL N) (row.take i))) (passE N (tsAt N row i) (row.getD i 0)) 1:=by
 have b:row.getD i 0<N.lanes:=by
  rw[J9,J7 h];exact a _ (Yb h)
 rw[zhB ok row a i (by lia),za9 h,zbB]
 exact(ball ok false (zbu N _) b).2.1
theorem zgl (ok:Nt.Ok N) {row:List Nat}(a:∀ m∈row,m<N.lanes) {i:Nat}(h:i<row.length):passE N (tsAt N row i) (row.getD i 0)<N.lanes:=by
 have c:row.getD i 0<N.lanes:=by
  rw[J9,J7 h];exact a _ (Yb h)
 have b:=(ball ok false (zbu N (row.take i)) c).2.2
 unfold passE
 rw[zhB ok row a i (by lia)]
 have:=Wp (ok.en.mem_iff.mpr (Yd.mpr b))
 rw[ok.en.length_eq,Y0]at this
 exact this
def dueE (N:Nt):Nat->List Int
 | 0=>List.replicate N.lanes 0
 | i+1=>zaM (dueE N i) (i%N.lanes) 1
theorem zbK (N:Nt):∀ i,(dueE N i).length=N.lanes
 | 0=>Y3
 | i+1=>by show (zaM _ _ _).length=_;rw[zaS,zbK N i]
theorem zcD (ok:Nt.Ok N) {row:List Nat}(a:∀ m∈row,m<N.lanes):∀ i,i<=row.length->(∀ j,j<i->okAt N row j)->zbj N (cntL (zL N) (row.take i))=dueE N i
 | 0,_,_=>by rw[Zf];exact zjg N ok
 | i+1,h,b=>by
  rw[zcC ok a h,zcD ok a i (by lia) λj c=>b j (by lia),show passE N (tsAt N row i) (row.getD i 0)=i%N.lanes from b i (Zy _)];rfl
theorem zjJ {xs:List Int}{i j:Nat}(hi:i<xs.length) (c:j<xs.length) (e:zaM xs i 1=zaM xs j 1):i=j:=by
 apply Classical.byContradiction
 intro ne
 have a:(zaM xs i 1).getD i 0=xs.getD i 0+1:=by
  unfold zaM
  rw[J9,List.getElem?_set_self hi];rfl
 have b:(zaM xs j 1).getD i 0=xs.getD i 0:=by
  unfold zaM
  rw[J9,Z7 (λz=>ne z.symm),<- J9]
 rw[e,b]at a
 lia
theorem zbA:∀ (row:List Nat) (c:List Int) (p:Nat),p<c.length->(cntL c row).getD p 0=c.getD p 0+(row.count p:Nat)
 | [],c,p,h=>by show c.getD p 0=_;rw[List.count_nil];lia
 | m::r,c,p,h=>by
  show (cntL (oneM c m) r).getD p 0=_
  rw[zbA r (oneM c m) p (by rw[zcr];exact h),List.count_cons]
  unfold oneM zaM
  by_cases z:m=p
  ·subst z
   rw[J9,List.getElem?_set_self h,ZB,Jf rfl]
   show c.getD m 0+1+_=_
   rw[Int.natCast_add];lia
  ·rw[J9,Z7 z,<- J9,Jc (by simpa using z),YR]
theorem zfl (N:Nt) (p:Nat):(zL N).getD p 0=0:=zbv _ _
theorem zkS {a b:List Nat}(p:a.Perm b) (N:Nt):cntL (zL N) a=cntL (zL N) b:=by
 refine zb1 (by rw[zbu,zbu]) λi hi=>?_
 rw[zbu]at hi
 have c:(zL N).length=N.lanes:=Y3
 rw[zbA a _ i (by lia),zbA b _ i (by lia),p.count_eq]
def rowC (c:List Int):List Nat:=(List.range c.length).flatMap λi=>List.replicate (c.getD i 0).toNat i
theorem zcP (c:List Int) (a:Nat):(rowC c).count a=if a<c.length then (c.getD a 0).toNat else 0:=by
 unfold rowC
 generalize c.length=n
 induction n with
 | zero=>rfl
 | succ n ih =>
  rw[List.range_succ,List.flatMap_append,List.count_append,ih]
  show _+(List.replicate (c.getD n 0).toNat n++[]).count a=_
  rw[Y5,List.count_replicate]
  by_cases z:n=a
  ·subst z
   rw[ZB,Jf rfl,Jc (YL _),Jf (Zy _),Yy]
  ·have nb:(n == a)=false:=by simpa using z
   rw[nb,Jc (show ¬(false=true) by decide),YR]
   by_cases y:a<n
   ·rw[Jf y,Jf (by lia)]
   ·rw[Jc y,Jc (by lia)]
theorem zgd {row:List Nat}(b:∀ m∈row,m<N.lanes):(rowC (cntL (zL N) row)).Perm row:=by
 rw[List.perm_iff_count]
 intro a
 have c:(zL N).length=N.lanes:=Y3
 rw[zcP,zbu]
 by_cases h:a<N.lanes
 ·rw[Jf h,zbA row _ a (by lia),zfl];lia
 ·rw[Jc h]
  exact(List.count_eq_zero.mpr λz=>h (b a z)).symm
theorem zjC (ok:Nt.Ok N) {moves:List Nat}(v:∀ m∈moves,m<N.lanes) {n:Nat}{c:List Int}(B:Broke (za6 N) moves (k0P N) (zL N) n c) {row:List Nat}(A:row.Perm (rowC c)) :
  row.length=n+1/\(∀ m∈row,m<N.lanes)/\(∀ j,j<n->okAt N row j)/\¬ okAt N row n:=by
 obtain⟨d,m,h1,h,F,E⟩:=B.ex
 have a:∀ x∈d++[m],x<N.lanes:=λx b=>v x (h x b)
 have g:row.Perm (d++[m]):=A.trans (F ▸ zgd a)
 have p:row.length=n+1:=by rw[g.length_eq,Jb,h1];rfl
 have t:Over moves row:=λx b=>h x (g.mem_iff.mp b)
 have lt:∀ x∈row,x<N.lanes:=λx b=>v x (t x b)
 have f:∀ {r:List Nat},r.length=n+1->Over moves r->∀ j,j<n->okAt N r j:=λ{r} G C=>zjH N r n (by lia) λj D=>by
  obtain⟨s,e⟩:=B.few (r.take j) (by rw[Jw];lia) λx b=>C x (YC b)
  rw[e];exact λz=>by cases z
 have o1:=f p t
 have w:(d++[m]).length=n+1:=by rw[Jb,h1];rfl
 have u:=f w h
 have o:¬ okAt N (d++[m]) n:=λz=>by
  have:=zh6 N (d++[m]) (n+1) (by lia) λj D=>by
   by_cases y:j<n
   ·exact u j y
   ·rw[show j=n by lia];exact z
  rw[JG (by lia),E]at this;cases this
 refine⟨p,lt,o1,λz=>?_⟩
 have k:=zcC ok lt (i:=n) (by lia)
 have l:=zcC ok a (i:=n) (by lia)
 rw[zcD ok lt n (by lia) o1,JG (by lia)]at k
 rw[zcD ok a n (by lia) u,JG (by lia)]at l
 rw[zkS g N]at k
 rw[k]at l
 have q:=zjJ (by rw[zbK];exact zgl ok lt (by lia)) (by rw[zbK];exact zgl ok a (by lia)) l
 exact o (by unfold okAt;rw[<- q];exact z)
end
def zcJ (cs:List Int):List Bool:=List.zipWith (λa b:Int=>decide (b<=a)) cs (cs.drop 1)
def zbO (cs:List Int):Bool:=(zcJ cs).all id && decide (cs.getD 0 0-cs.getD (cs.length-1) 0<2)
theorem zhS {cs:List Int}:(zcJ cs).all id=true↔∀ i,i+1<cs.length->cs.getD (i+1) 0<=cs.getD i 0:=by
 have at_:∀ i,i+1<cs.length->(zcJ cs)[i]?=some (decide (cs.getD (i+1) 0<=cs.getD i 0)):=λi hi=>by
  unfold zcJ
  rw[List.getElem?_zipWith,Wt,J7 (show i<cs.length by lia),J7 (show 1+i<cs.length by lia)]
  rw[J9,J9,J7 (show i<cs.length by lia),J7 hi]
  have e:cs[1+i]'(by lia)=cs[i+1]'hi:=by congr 1;lia
  rw[e];rfl
 have sl:(zcJ cs).length=cs.length-1:=by unfold zcJ;rw[ZF,Y6];lia
 constructor
 ·intro h i hi
  exact YF (Ze.mp h _ (JT (at_ i hi)))
 ·intro h
  refine Ze.mpr λb hb=>?_
  obtain⟨k,a,c⟩:=Wj hb
  have q:=at_ k (by lia)
  rw[J7 a,c]at q
  rw[Jr q]
  exact JB (h k (by lia))
theorem zeF {cs:List Int}:zbO cs=true↔(∀ i,i+1<cs.length->cs.getD (i+1) 0<=cs.getD i 0)/\cs.getD 0 0-cs.getD (cs.length-1) 0<2:=by
 unfold zbO
 rw[Zw,zhS]
 exact and_congr Iff.rfl ⟨YF,λh=>JB h⟩
theorem zdX (N:Nt):∀ (n j:Nat),j<N.lanes->(dueE N n).getD j 0=((n / N.lanes:Nat):Int)+if j<n%N.lanes then 1 else 0
 | 0,j,h=>by
  show (List.replicate N.lanes (0:Int)).getD j 0=_
  rw[Nat.zero_div,Nat.zero_mod,Jc (Wg j),zbv];rfl
 | n+1,j,h=>by
  show (zaM (dueE N n) (n%N.lanes) 1).getD j 0=_
  rw[zaQ (by rw[zbK];exact h),zdX N n j h]
  have a:n%N.lanes<N.lanes:=Nat.mod_lt _ (by lia)
  have b:=Nat.div_add_mod n N.lanes
  by_cases z:n%N.lanes+1=N.lanes
  ·have e:n+1=N.lanes*(n / N.lanes+1)+0:=by rw[Nat.mul_add];lia
   have q:(n+1) / N.lanes=n / N.lanes+1:=by rw[e,YR,Nat.mul_div_cancel_left _ (by lia)]
   have r:(n+1)%N.lanes=0:=by rw[e,YR,Nat.mul_mod_right]
   rw[q,r,Jc (Wg j)]
   by_cases y:j<n%N.lanes
   ·rw[Jf y,Jc (by lia)];lia
   ·rw[Jc y,Jf (by lia)];lia
  ·have e:n+1=N.lanes*(n / N.lanes)+(n%N.lanes+1):=by lia
   have q:(n+1) / N.lanes=n / N.lanes:=by
    rw[e,Nat.mul_add_div (by lia),Nat.div_eq_of_lt (show n%N.lanes+1<N.lanes by lia),YR]
   have r:(n+1)%N.lanes=n%N.lanes+1:=by rw[e,Nat.mul_add_mod,Nat.mod_eq_of_lt (by lia)]
   rw[q,r]
   by_cases y:j<n%N.lanes
   ·rw[Jf y,Jc (by lia),Jf (by lia)];lia
   ·by_cases x:j=n%N.lanes
    ·rw[Jc y,Jf x.symm,Jf (by lia)];lia
    ·rw[Jc y,Jc (λt=>x t.symm),Jc (by lia)];lia
theorem zjh {N:Nt}(ok:N.Ok) (n:Nat):zbO (dueE N n)=true:=by
 have l1:=ok.l1
 refine zeF.mpr ⟨λi hi=>?_,?_⟩
 ·rw[zbK]at hi
  rw[zdX N n _ hi,zdX N n i (by lia)]
  split<;>split<;>lia
 ·rw[zbK,zdX N n _ (show 0<N.lanes by lia),zdX N n _ (by lia)]
  split<;>split<;>lia
theorem ziI {N:Nt}(n e:Nat) (c:e<N.lanes) (ne:e≠n%N.lanes):zbO (zaM (dueE N n) e 1)=false:=by
 apply Bool.eq_false_iff.mpr
 intro h
 obtain⟨h1,d⟩:=zeF.mp h
 have dl:=zbK N n
 rw[zaS,dl]at h1 d
 have f:n%N.lanes<N.lanes:=Nat.mod_lt _ (by lia)
 have at_:∀ j,j<N.lanes->(zaM (dueE N n) e 1).getD j 0=((n / N.lanes:Nat):Int)+(if j<n%N.lanes then 1 else 0)+if e=j then 1 else 0:=λj b=>by rw[zaQ (by rw[dl];exact b),zdX N n j b]
 rcases e with _|e
 ·have a:=at_ 0 c
  have a1:=at_ (N.lanes-1) (by lia)
  rw[Jf (show 0<n%N.lanes by lia),Jf rfl]at a
  rw[Jc (show ¬(N.lanes-1<n%N.lanes) by lia),Jc (show ¬(0=N.lanes-1) by lia)]at a1
  lia
 ·have q:=h1 e (by lia)
  have a:=at_ e (by lia)
  have a1:=at_ (e+1) c
  rw[Jc (show ¬(e+1=e) by lia)]at a
  rw[Jf rfl]at a1
  rw[a,a1]at q
  by_cases y:e<n%N.lanes
  ·rw[Jf y,Jf (show e+1<n%N.lanes by lia)]at q;lia
  ·rw[Jc y,Jc (show ¬(e+1<n%N.lanes) by lia)]at q;lia
structure Rw (moves:List Nat) (n:Nat) (t:Int) (row:List Int):Prop where
 len:row.length=n
 nn:∀ x∈row,0<=x
 sum:row.sum=t
 oth:∀ i,i<n->i∉moves->row.getD i 0=0
theorem Rw.snoc {moves:List Nat}{n:Nat}{t m:Int}{row:List Int}(h:Rw moves n (t-m) row) (b:0<=m) (a:m=0\/n∈moves):Rw moves (n+1) t (row++[m]):=by
 refine⟨by rw[Jb,h.len];rfl,λx c=>?_,?_,λi hi no=>?_⟩
 ·rcases Jz.mp c with z|z
  ·exact h.nn x z
  ·rw[Je.mp z];exact b
 ·rw[List.sum_append,h.sum]
  show t-m+(m+0)=t
  lia
 ·by_cases z:i<n
  ·rw[J9,YE (by rw[h.len];exact z),<- J9];exact h.oth i z no
  ·have:i=n:=by lia
   subst this
   rcases a with a|a
   ·rw[J9,Ye (by rw[h.len];exact Jg _),h.len,Nat.sub_self];exact a
   ·exact absurd a no
theorem zle:∀ {row:List Int},(∀ x∈row,0<=x)->0<=row.sum/\∀ x∈row,x<=row.sum
 | [],_=>⟨by decide,λx b=>absurd b Jv⟩
 | a::row,h=>by
  obtain⟨h1,c⟩:=zle λx b=>h x (.tail _ b)
  have ha:=h a (.head _)
  rw[List.sum_cons]
  refine⟨by lia,λx b=>?_⟩
  rcases Ju.mp b with z|z
  ·lia
  ·have:=c x z;lia
def bnd:Nat->Nat->Nat
 | 0,_=>1
 | n+1,t=>((List.range (t+1)).map λm=>bnd n (t-m)).sum
theorem zmn:∀ n,n<=6->∀ t,t<=9->bnd n t<=5005:=by decide +kernel
def bndS (n t i:Nat):Nat:=((List.range i).map λm=>bnd n (t-m)).sum
theorem zdE (n t i:Nat):bndS n t (i+1)=bndS n t i+bnd n (t-i):=by
 unfold bndS
 rw[List.range_succ,Y2,List.sum_append];rfl
theorem zf3 (n t:Nat) {i:Nat}:∀ {j:Nat},i<=j->bndS n t i<=bndS n t j
 | 0,h=>by rw[show i=0 by lia];exact Jg _
 | j+1,h=>by
  by_cases z:i<=j
  ·have:=zf3 n t z
   rw[zdE];lia
  ·rw[show i=j+1 by lia];exact Jg _
def AllAt (H:Hp) (xs:List V) (P:List Int->Prop):Prop:=∀ x∈xs,∃ b row,x=V.ref b/\H b=some (.tup (row.map V.int))/\P row
theorem AllAt.tups {H H':Hp}{xs:List V}{P:List Int->Prop}(t:Tups H H') (h:AllAt H xs P):AllAt H' xs P:=λx a=>by
 obtain⟨b,row,e,hb,c⟩:=h x a
 exact⟨b,row,e,t _ _ hb,c⟩
theorem AllAt.app {H:Hp}{xs ys:List V}{P:List Int->Prop}(h:AllAt H xs P) (g:AllAt H ys P):AllAt H (xs++ys) P:=λx a=>by
 rcases Jz.mp a with z|z
 ·exact h x z
 ·exact g x z
theorem zmB {H:Hp}{xs:List V}{n:Nat}(h:AllAt H xs λrow=>row.length=n+1/\Small row):Rk H xs λx=>zdl 0 (rowH H x):=by
 refine .inr ⟨1,by decide,λx j=>?_⟩
 obtain⟨b,row,rfl,hb,g,rs⟩:=h x j
 refine⟨?_,λy i=>?_⟩
 ·cases row with
  | nil=>cases g
  | cons f r=>exact⟨b,f,_,rfl,hb⟩
 ·obtain⟨c,e,rfl,d,k,a⟩:=h y i
  show Lx H 1 (.ref b) (.ref c) (compare (zdl 0 (rowH H (.ref b))) (zdl 0 (rowH H (.ref c))))
  rw[zca hb,zca d,zgG (by lia) rs a]
  exact zeo hb d (by lia)
end L2
namespace Own
open PySem PySem.Spec PyProof.Rows
section
variable {prog:Program}{w:World}{A:Around}{E:Value->Shared->Prop}{s:Shared}{z TI TO i1 i2:Addr}{f1 f2:List Addr}{n1 n2:Nat}{P1 P2:Nat->Value->Prop}{S1 S2:Nat->Heap->Prop}{a b:Value}
theorem zhp (S:Sep z TI TO i1 i2 f1 f2) (t:Draws prog w A i1 f1 n1 P1 S1) (r:Draws prog w A i2 f2 n2 P2 S2) {Q:Fin->Shared->Prop}(f:IsZip s.heap z TI TO .none) (G:IsPair s.heap TI (.ref i1) (.ref i2)) (F:IsPair s.heap TO a b) (I:S1 n2 s.heap) (H:S2 n2 s.heap) (l1:n2<n1)
  (h:∀ h' x tk,(∀ c o,c∉[z,TO,i1,i2]->s.heap.get? c=some o->h'.get? c=some o)->(∃ o,h'.get? x=some o/\o.cls=.type "StopIteration")->E (.ref x) { s with heap:=h',toks:=tk }):wpAny (model prog w) A (Builtin.«zip.__next__» ⟨[.ref z],[]⟩) Q E s:=by
 have nd:=S.all
 simp only[JR,Ju,Jv,Zd,WB]at nd
 obtain⟨⟨L,k,z1,z2⟩,⟨IO,R,P⟩,⟨J,O⟩,K,_⟩:=nd
 refine rf 2 f rfl rfl (rf 3 f rfl rfl (J0 (Yk G rfl (J0 (rf 0 f rfl rfl (Ja ?_))))))
 simp only[Yr]
 refine J0 (YY (rf 4 f rfl rfl (J0 (Yf f (show 0<5 by decide) λha v sa=>J0 ?_))))
 have i:IsZip ha z TI TO .ellipsis:=v;simp only[List.zipIdx_cons,List.zipIdx_nil,YZ,Zs]
 refine J0 (J0 (wpAny_onRaise (J0 (t.item n2 _ _ _ l1 (t.frame _ _ _ I λc g o e=>(sa.2 c λq=>S.z1 (q ▸ g)).trans e) λx hb tb M db sb=>Ja ?_))))
 have p:IsPair hb TO a b:=(sb.2 TO J).trans ((sa.2 TO (Ne.symm k)).trans F)
 refine J0 (Yk p rfl (J0 (wpAny_updateSeq_pair p λg N sc=>J0 (ZV (Ja ?_)))))
 have st2:S2 n2 g:=r.frame _ _ _ H λc d o e=>(sc.2 c λq=>S.t2 (q ▸ d)).trans ((sb.2 c λq=>S.o2 (q ▸ d)).trans ((sa.2 c λq=>S.z2 (q ▸ d)).trans e))
 refine J0 (J0 (wpAny_onRaise (J0 (r.done _ _ _ st2 λhd y m ⟨C,ex,n⟩=>?_))))
 have u:IsZip g z TI TO .ellipsis:=(sc.2 z k).trans ((sb.2 z z1).trans i)
 have j:IsZip hd z TI TO .ellipsis:=m z _ z2 u
 have B:y≠z:=λq=>by rw[q,j]at ex;cases ex;exact absurd (show Value.type "zip" = Value.type "StopIteration" from n) (by decide)
 refine Yf j (show 0<5 by decide) λD _ l=>h D y _ (λc o d e=>?_) ⟨C,(l.2 y B).trans ex,n⟩
 simp only[Ju,Jv,Zd,WB]at d
 exact(l.2 c d.1).trans (m c o d.2.2.2 ((sc.2 c d.2.1).trans ((sb.2 c d.2.2.1).trans ((sa.2 c d.1).trans e))))
end
end Own
namespace L2
open PySem PySem.Spec PyProof.Rows Own
def Itq (K:PySem.W.Frag) (b1 b2:Bool) (a1 a2:Addr):It :=
 ⟨(Itz K b1 b2 a1 a2).go,(Itz K b1 b2 a1 a2).yld,λi H=>(Itz K b1 b2 a1 a2).stop i H\/∃ xs ys,SqB b1 K H a1 xs/\SqB b2 K H a2 ys/\ys.length=i/\i<xs.length⟩
theorem zhv {P:Program}{w:World}{K:PySem.W.Frag}{es:List Expr}{k1} {p1:Pos}(b1 b2:Bool) (a1 a2 z TI TO i1 i2:Addr) (nd:[z,TI,TO,i1,i2].Nodup) :
  Turn P w K (.Tuple es k1 p1) (Itq K b1 b2 a1 a2) [z,TI,TO,i1,i2] z (λi h=>IsZip h z TI TO .none/\IsPair h TI (.ref i1) (.ref i2)/\(∃ a b,IsPair h TO a b)/\RIt b1 h i1 a1 i/\RIt b2 h i2 a2 i) where
 mem:=(zbC (P:=P) (w:=w) (K:=K) (es:=es) (k1:=k1) (p1:=p1) b1 b2 a1 a2 z TI TO i1 i2 nd).mem
 obj:=(zbC (P:=P) (w:=w) (K:=K) (es:=es) (k1:=k1) (p1:=p1) b1 b2 a1 a2 z TI TO i1 i2 nd).obj
 keep:=(zbC (P:=P) (w:=w) (K:=K) (es:=es) (k1:=k1) (p1:=p1) b1 b2 a1 a2 z TI TO i1 i2 nd).keep
 item:=(zbC (P:=P) (w:=w) (K:=K) (es:=es) (k1:=k1) (p1:=p1) b1 b2 a1 a2 z TI TO i1 i2 nd).item
 done:=by
  intro X B v C y i pins s σ H E I l st n
  rcases n with n|⟨xs,ys,t,r,L,M⟩
  ·exact(zbC (P:=P) (w:=w) (K:=K) (es:=es) (k1:=k1) (p1:=p1) b1 b2 a1 a2 z TI TO i1 i2 nd).done X B v C y i pins s σ H E I l st n
  obtain⟨u,Q,⟨a,b,O⟩,h1,D⟩:=st
  subst B v C
  obtain⟨p,J,p1⟩:=I.sq t
  obtain⟨m,G,p2⟩:=I.sq r
  have j:=nd
  simp only[JR,Ju,Jv,Zd,WB]at j
  obtain⟨⟨Y,W,z1,z2⟩,⟨IO,I1,Z⟩,⟨V,U⟩,k,_⟩:=j
  have f:∀ c∈[z,TI,TO,i1,i2],c≠a1:=λc d=>I.sq_ne t (l c d)
  have e:∀ c∈[z,TI,TO,i1,i2],c≠a2:=λc d=>I.sq_ne r (l c d)
  have S:Sep z TI TO i1 i2 [i1,a1] [i2,a2]:=⟨nd,by simp[z1,f z (by simp)],by simp[V,f TO (by simp)],by simp[Ne.symm k,f i2 (by simp)],by simp[z2,e z (by simp)],by simp[U,e TO (by simp)],by simp[k,e i1 (by simp)]⟩
  have hsz:i=m.toArray.size:=by rw[Jj,<- G.length,L]
  have l1:m.toArray.size<p.toArray.size:=by rw[<- hsz,Jj,<- J.length];exact M
  have hd:=I.ok.hd y
  have g:s.TypeIs (.ref z) "zip":=⟨_,u,rfl⟩
  unfold pyNext
  refine J0 (ZJ (wpAny_callSpecial?_slot (name:="__next__") g We (Y7 We g F.entry_zip_next
   (zhp S (draws (prog:=X.prog) (w:=X.w) (A:=X.A.in1) hd b1 i1 a1 p.toArray (p1.ne h1)) (draws (prog:=X.prog) (w:=X.w) (A:=X.A.in1) hd b2 i2 a2 m.toArray (p2.ne D)) u Q O ⟨by rw[<- hsz];exact h1,p1⟩ ⟨by rw[<- hsz];exact D,p2⟩ l1 λh' x tk N ⟨o,R,co⟩=>?_) (F.args_zip_next_1 _))))
  refine J0 (Zx (T:="StopIteration") (b:=true) ⟨o,R,co⟩ isSubtype_stop (Ja ⟨rfl,I.spun (t':=tk) (fp:=[z,TI,TO,i1,i2]) (λc o d q=>N c o ?_ q) l⟩))
  simp only[Ju,Jv,Zd,WB]at d ⊢
  exact⟨d.1,d.2.2.1,d.2.2.2.1,d.2.2.2.2⟩
 self:=(zbC (P:=P) (w:=w) (K:=K) (es:=es) (k1:=k1) (p1:=p1) b1 b2 a1 a2 z TI TO i1 i2 nd).self
def znG (K:PySem.W.Frag) (b1 b2:Bool) (ta:TA):TI:=λσ H R=>ta σ H λvs H1=>∃ a1 a2 xs ys,vs=[.ref a1,.ref a2]/\SqB b1 K H1 a1 xs/\SqB b2 K H1 a2 ys/\R (Itq K b1 b2 a1 a2) H1
theorem zlJ {X:Cx}{a b:Expr}{ta:TA}{p pos p1:Pos}{es:List Expr}{k1} (b1 b2:Bool) (B:Gl X "zip") (y:X.mg "zip" = none) (ha:PA X [a,b] ta) (x:starEach [a,b] X.env=[(false,eval a X.env),(false,eval b X.env)]:=by rfl) (e:starEach [b] X.env=[(false,eval b X.env)]:=by rfl) :
  PI X (.Tuple es k1 p1) (.Call (.Name "zip" p) [a,b] [] pos) (znG X.K b1 b2 ta):=by
 intro pins s σ H R I h
 refine Call_ (zb5 I B y (u:=.type "zip") (by rfl) (Yq (thn (ha pos pins s σ H _ I h) λus s1 ⟨vs,H1,d,t,w⟩=>?_) (by rw[x,e]) (by rw[e];rfl)))
 obtain⟨a1,a2,xs,ys,rfl,m,l,q⟩:=w
 obtain⟨u,v,rfl,r,o⟩:=t.two
 cases r
 cases o
 obtain⟨its,_,j⟩:=d.sq m
 obtain⟨k,_,i⟩:=d.sq l
 refine callType_new F.called_zip (by decide) (F.typeCall_zip_2 _ _) (F.newCall_zip_2 _ _) (λobj=>F.args_object_init_3 obj _ _) F.entry_zip_new (zhq b1 b2 a1 a2 its.toArray k.toArray) ⟨j,i,λh' z ⟨TI,TO,i1,i2,nd,f,g,D,C,h1,E⟩ A=>⟨⟨_,g,rfl⟩,?_⟩⟩
 exact wpAny_pyIter_zip g ⟨_,[z,TI,TO,i1,i2],_,_,H1,rfl,d.kept (t':=s1.toks) A,zhv b1 b2 a1 a2 z TI TO i1 i2 nd,⟨g,D,⟨_,_,C⟩,h1,E⟩,λc n=>d.fpOk (f c n) (d.hok.fresh (f c n)),q⟩
theorem zl8 {K:PySem.W.Frag}{b1 b2:Bool}{a1 a2:Addr}{xs ys:List V}(u:ys.length<=xs.length) {g:TG}{te:TE}{l:Addr}{σ:St}{H:Hp}{Q:VK}(a:Nat->List V->St->Hp->Prop) (q:a 0 [] σ H)
  (n:∀ i acc σ H,a i acc σ H->H l=some (.lst acc)/\SqB b1 K H a1 xs/\SqB b2 K H a2 ys)
  (k:∀ i acc σ H x y T,xs[i]?=some x->ys[i]?=some y->H T=none->a i acc σ H->g (.ref T) σ (upd H T (.tup [x,y])) λb t=>te b t λz h=>h l=some (.lst acc)/\acc.length<sizeLine/\Nx ys.length i (a (i+1) (acc++[z]) b (upd h l (.lst (acc++[z])))))
  (hd:∀ acc σ H,a ys.length acc σ H->Q (.ref l) H):∃ W:Nat->Nat->List V->St->Hp->Prop,(∃ m,W 0 m [] σ H)/\LCW (Itq K b1 b2 a1 a2) g tYes te l Q W:=by
 refine⟨λi m acc σ H=>m=ys.length-i/\i<=ys.length/\a i acc σ H,⟨ys.length,by simp,JL _,q⟩,?_⟩
 rintro i m acc σ H ⟨rfl,hi,p⟩
 obtain⟨j,c,d⟩:=n i acc σ H p
 refine⟨j,?_⟩
 by_cases f:i<ys.length
 ·refine .inr ⟨⟨xs,ys,_,_,c,d,J7 (by lia),J7 f⟩,λv w ⟨x,y,ex,r,T,o,s,e2⟩=>?_⟩
  subst s e2
  exact k i acc σ H x y T (ex xs c) (r ys d) o p
 ·have e:i=ys.length:=by lia
  subst e
  by_cases eq:xs.length=ys.length
  ·exact .inl ⟨.inl ⟨xs,c,eq⟩,hd acc σ H p⟩
  ·exact .inl ⟨.inr ⟨xs,ys,c,d,rfl,by lia⟩,hd acc σ H p⟩
end L2
namespace K36
open PySem L2 Own Bn
abbrev zh2:Stmt:=top 30
abbrev zfz:Stmt:=top 31
theorem zi6 (c:Int):c-c / 2=(c+1) / 2:=by lia
def zd7:Sp:=λvs H Q _=>∃ (c:Addr) (cs:List Int),vs=[.ref c]/\H c=some (.tup (cs.map V.int))/\1<=cs.length/\cs.length<=16/\∀ H',Same H H'->Q (.bl (zbO cs)) H'
section
variable {P:Program}{w:World}{K:PySem.W.Frag}{mg:Str->Option Value}{base:Heap}
theorem scLe:FnScope ["_law_net_here","_law_counts","_law_row","_law_a","_law_b","_law_total"] ["_law_net_here","_law_counts"] (zal zh2):=by trivial
theorem zkf {f:Addr}{fd:FuncData}(F:Fun K "_law_ends" "_law_ends" zh2 f fd) (G:Mgs mg):FnOk P w K mg base CX0 1 f fd ["_law_net_here","_law_counts"] zhL:=by
 refine F.ok scLe (λvs H Q E h=>?_) (λcdv A outer s H vs Q E U h=>?_)
 ·obtain⟨r,fr,er,ps,N,c,cs,rfl,_⟩:=h
  rfl
 obtain⟨r,fr,er,ps,N,c,cs,rfl,ok,na,R,cl,k⟩:=h
 refine⟨_,(@zad _ _ _ _ _ (@zav _ _ 2 _ _ _ _ scLe.nd rfl (.inr rfl) (@zaw _ _ _ _ _ _ _ _ _ za2 (by rfl) G.list (by rfl) (@zaa _ _ _ _ _ (@qv _ 1 _ _ (by trivial)) zac (by rfl)) (by decide) (by decide) (by rfl) (by rfl)) (by rfl) (by trivial)) (@zad _ _ _ _ _ (@zbP _ _ _ _ _ _ _ _ Yw rfl (@zgj _ _ _ _ (@zay _ _ _ _ _ _ _ zaK (@qv _ 0 _ _ (by trivial)) zae (λ_ _=>rfl))) (@zaU _ _ _ _ _ _ rfl (@zak _ _ _ _ _ (@zaj _ _ 3 _ scLe.nd rfl (.inl rfl) (by trivial)) (@zak _ _ _ _ _ (@zaj _ _ 4 _ scLe.nd rfl (.inl rfl) (by trivial)) zaL (by rfl)) (by rfl)) (by rfl) (by rfl)) (@zad _ _ _ _ _ (@zav _ _ 5 _ _ _ _ scLe.nd rfl (.inl rfl) (@zao _ _ _ _ _ _ _ _ zaW (@zay _ _ _ _ _ _ _ zax (@qv _ 2 _ _ (by trivial)) (@qv _ 3 _ _ (by trivial)) (λ_ _=>rfl)) (@zay _ _ _ _ _ _ _ zax (@qv _ 2 _ _ (by trivial)) (@qv _ 4 _ _ (by trivial)) (λ_ _=>rfl))) (by rfl) (by trivial)) (@zad _ _ _ _ _ (@zaV _ _ _ _ _ _ (@zao _ _ _ _ _ _ _ _ zbS (@qv _ 5 _ _ (by trivial)) (@zao _ _ _ _ _ _ _ _ zce (@qv _ 5 _ _ (by trivial)) zae)) (@zcZ _ _ _ _ _ _ _ (@qv _ 2 _ _ (by trivial)) (@qv _ 3 _ _ (by trivial)) zbm (by intro _;rfl)) (by rfl) (by rfl) (by rfl)) (@zai _ _ _ (@zaV _ _ _ _ _ _ (@zao _ _ _ _ _ _ _ _ zce (@qv _ 5 _ _ (by trivial)) zae) (@zcZ _ _ _ _ _ _ _ (@qv _ 2 _ _ (by trivial)) (@qv _ 4 _ _ (by trivial)) zbm (by intro _;rfl)) (by rfl) (by rfl) (by rfl))))) (by intro _;rfl)) (@zai _ _ _ (@zat _ _ _ _ (@zaw _ _ _ _ _ _ _ _ _ zaE (by rfl) G.tuple (by rfl) (@zaa _ _ _ _ _ (@zig _ _ _ _ none _ _ _ _ _ _ ["_law_lane","_law_row"] [none,some 2] rfl (@zgj _ _ _ _ (@zay _ _ _ _ _ _ _ zaK (@qv _ 0 _ _ (by trivial)) zae (λ_ _=>rfl))) (CapOk.of (by kernel_rfl)) (λ_ _ _ _ _=>(@zaj _ _ 0 _ (show (["_law_lane","_law_row"]:List Str).Nodup from by decide +kernel) rfl (.inl rfl) (.inr rfl))) (λ_ _ _ _ _=>zcb) (λ_ _ _ _ _=>(@zay _ _ _ _ _ _ (rIxL K) zax (@qv _ 1 _ _ (by trivial)) (@qv _ 0 _ _ (by trivial)) (λ_ _=>rfl))) (by intro _;rfl)) zac (by rfl)) (by decide) (by decide) (by rfl) (by rfl)))))),?_⟩
 refine⟨_,rfl,c,_,rfl,.inr (SqT.of R),λlo j=>?_⟩
 have s1:=zab j (.lst (cs.map V.int))
 refine⟨_,rfl,r,_,_,_,rfl,rfl,SqT.of (s1 _ _ na.net),rfl,fr,rfl,⟨_,SqT.of (s1 _ _ na.forks)⟩,?_⟩
 refine zjb (K:=K) (a:=fr) (xs:=ps) (λi σ m=>(∃ J I D,σ=[some (.ref r),some (.ref c),some (.ref lo),J,I,D])/\Same H m/\m lo=some (.lst ((flow (N.forks.take i) cs).1.map V.int))) ⟨⟨_,_,_,rfl⟩,s1,zaf⟩ (λi σ m _ q=>SqT.of (q.2.1 _ _ na.forks)) ?_ ?_
 ·rintro i p σ m L ⟨⟨J,I,D,rfl⟩,d,h1⟩
  obtain⟨a,g,rfl,O,ha⟩:=(na.prs.tups (Tups.of d)).get L
  have T:=ok.fk g (JT O)
  have fl:(flow (N.forks.take i) cs).1.length=N.lanes:=by rw[zc9,cl]
  have S:=zcz O cs
  generalize flow (N.forks.take i) cs=st at *
  refine⟨a,_,rfl,SqT.of ha,rfl,_,_,rfl,_,_,rfl,rfl,?_⟩
  refine⟨_,rfl,_,rfl,lo,_,_,_,rfl,rfl,SqL.of h1,zd0 (by lia),_,rfl,_,rfl,lo,_,_,_,rfl,rfl,SqL.of h1,zd0 (by lia),_,_,rfl,rfl,?_⟩
  refine⟨_,rfl,_,rfl,_,_,rfl,rfl,⟨by decide,by decide⟩,_,_,rfl,rfl,?_⟩
  refine⟨_,rfl,_,rfl,lo,_,_,g.1,rfl,rfl,h1,zhf (by rw[Jh];lia),?_⟩
  refine⟨_,rfl,_,_,rfl,rfl,⟨by decide,by decide⟩,_,rfl,_,rfl,lo,_,_,g.2,rfl,rfl,zaf,zhf (by rw[Z5,Jh];lia),⟨_,_,_,rfl⟩,λb o e=>?_,?_⟩
  ·rw[zah (zag e j),zah (zag e j)];exact d b o e
  ·rw[zaf,S]
   dsimp only
   rw[zi6]
   unfold zaY
   rw[zee,zee]
 ·rintro σ m ⟨⟨J,I,D,rfl⟩,d,h1⟩
  have e:N.forks.take ps.length=N.forks:=by rw[na.prs.len];exact YJ
  rw[e]at h1
  have fl:(flow N.forks cs).1.length=N.lanes:=by rw[zc9,cl]
  have W:N.ends.length=N.lanes:=by rw[ok.en.length_eq,Y0]
  have l16:=ok.l16
  refine⟨_,rfl,r,_,_,_,rfl,rfl,SqT.of (d _ _ na.net),rfl,er,rfl,⟨_,SqT.of (d _ _ na.ends)⟩,λl M=>?_⟩
  refine zlf (K:=K) (a:=er) (xs:=nums N.ends) (λi acc σ t=>(∃ v,σ=[v,some (.ref lo)])/\Same m t/\t l=some (.lst acc)/\acc=((N.ends.take i).map λe=>(flow N.forks cs).1.getD e 0).map V.int) ⟨⟨_,rfl⟩,zab M _,zaf,rfl⟩ (λi acc σ t z=>⟨z.2.2.1,SqT.of (z.2.1 _ _ (d _ _ na.ends))⟩) ?_ ?_
  ·rintro i x acc σ t B ⟨⟨v,rfl⟩,u,C,n⟩
   have y:i<N.ends.length:=by have:=(Jd.mp B).1;rwa [zar]at this
   have ex:x=.int N.ends[i]:=by
    unfold nums at B
    rw[JP,J7 y]at B;exact(Jr B).symm
   subst ex
   have lane:N.ends[i]<N.lanes:=Yd.mp (ok.en.mem_iff.mp (Yb y))
   refine⟨_,rfl,_,rfl,lo,_,_,_,rfl,rfl,SqL.of (u _ _ h1),zd0 (by lia),C,?_,nx (by rw[zar];exact y) ⟨⟨_,rfl⟩,λb o e=>?_,zaf,?_⟩⟩
   ·rw[n,Jh,Jh,Jw,JE];lia
   ·rw[zah (zag e M)];exact u b o e
   ·rw[n,YQ y,Y2,Y2];rfl
  rintro acc σ t ⟨⟨v,rfl⟩,u,C,n⟩
  rw[zar,YJ]at n
  rw[n]at C
  exact⟨l,_,rfl,.inl ⟨SqL.of C,λp L=>k p _ ((d.trans u).trans (zab L _)) zaf⟩⟩
theorem scSr:FnScope ["_law_counts","_law_sinks"] ["_law_counts"] (zal zfz):=by trivial
theorem zis {f:Addr}{fd:FuncData}(F:Fun K "_law_stair" "_law_stair" zfz f fd) (G:Mgs mg):FnOk P w K mg base CX0 1 f fd ["_law_counts"] zd7:=by
 refine F.ok scSr (λvs H Q E h=>?_) (λcdv A outer s H vs Q E S h=>?_)
 ·obtain⟨c,cs,rfl,_⟩:=h
  rfl
 obtain⟨c,cs,rfl,j,U,R,k⟩:=h
 refine⟨_,(@zad _ _ _ _ _ (@zav _ _ 1 _ _ _ _ scSr.nd rfl (.inl rfl) (@zaq _ _ _ _ _ _ _ _ _ (zjA rfl true) (by rfl) G.all (by rfl) (@zaa _ _ _ _ _ (@zig _ _ _ _ none _ _ _ (gTup K 2 (zi7 (zdt 0) (zi7 (zdt 1) gNil))) _ _ ["_law_one","_law_other"] [none,none] rfl (@zlJ _ _ _ _ _ _ _ _ _ false false rfl G.zip (@zaa _ _ _ _ _ (@qv _ 0 _ _ (by trivial)) (@zaa _ _ _ _ _ (@zaF _ _ _ _ _ _ _ _ _ _ za7 (@qv _ 0 _ _ (by trivial)) (@zaA _ _ _ zae) zaP) zac (by rfl)) (by rfl)) (by rfl) (by rfl)) (CapOk.of (by kernel_rfl)) (λ_ _ _ _ _=>(@zaU _ _ _ _ _ _ rfl (@zak _ _ _ _ _ (@zaj _ _ 0 _ (show (["_law_one","_law_other"]:List Str).Nodup from by decide +kernel) rfl (.inl rfl) (.inr rfl)) (@zak _ _ _ _ _ (@zaj _ _ 1 _ (show (["_law_one","_law_other"]:List Str).Nodup from by decide +kernel) rfl (.inl rfl) (.inr rfl)) zaL (by rfl)) (by rfl)) (by rfl) (by rfl))) (λ_ _ _ _ _=>zcb) (λ_ _ _ _ _=>(@zbt _ _ _ _ _ _ _ _ zmP (@qv _ 0 _ _ (by trivial)) (@qv _ 1 _ _ (by trivial)) (zaG _))) (by intro _;rfl)) zac (by rfl)) (by decide) (by decide) (by rfl) (by rfl)) (by rfl) (by trivial)) (@zai _ _ _ (@zat _ _ _ _ (@zmL _ _ _ _ _ _ _ (@qv _ 1 _ _ (by trivial)) (@zk8 _ _ _ _ _ (@zbt _ _ _ _ _ _ _ _ zlO (@zao _ _ _ _ _ _ _ _ zbS (@zay _ _ _ _ _ _ _ zaK (@qv _ 0 _ _ (by trivial)) zae (λ_ _=>rfl)) (@zay _ _ _ _ _ _ _ zaK (@qv _ 0 _ _ (by trivial)) (@znz _ _ _ _ _ _ zmq zae) (λ_ _=>rfl))) zae (zaG _))))))),?_⟩
 refine⟨_,rfl,_,rfl,_,rfl,c,_,rfl,j,λI H1 s1 h1=>?_⟩
 have O:cutV (cs.map V.int) (some 1) none=(cs.drop 1).map V.int:=by
  cases cs with
  | nil=>rfl
  | cons x cs=>exact(zeu ((x::cs).map V.int) 1 (by simp)).trans (List.map_drop).symm
 rw[O]at h1
 refine⟨c,I,_,_,rfl,SqT.of (s1 _ _ j),SqT.of h1,λl D=>?_⟩
 have n:(zcJ cs).length=(cs.drop 1).length:=by unfold zcJ;rw[ZF,Y6];lia
 refine zl8 (K:=K) (b1:=false) (b2:=false) (a1:=c) (a2:=I) (xs:=cs.map V.int) (ys:=(cs.drop 1).map V.int) (by rw[Jh,Jh,Y6];lia) (λi acc σ d=>(∃ v0 u,σ=[v0,u])/\Same H1 d/\d l=some (.lst acc)/\acc=((zcJ cs).take i).map V.bl) ⟨⟨_,_,rfl⟩,zab D _,zaf,rfl⟩ (λi acc σ d z=>⟨z.2.2.1,SqT.of (z.2.1 _ _ (s1 _ _ j)),SqT.of (z.2.1 _ _ h1)⟩) ?_ ?_
 ·rintro i acc σ d x y T C B N ⟨⟨v0,u,rfl⟩,s2,m,rfl⟩
  rw[JP]at C B
  obtain⟨a,J,rfl⟩:=Ym.mp C
  obtain⟨b,t,rfl⟩:=Ym.mp B
  have q:=(Jd.mp t).1
  have v:=zab N (.tup [.int a,.int b])
  refine⟨T,_,rfl,SqT.of zaf,rfl,_,_,rfl,_,_,rfl,rfl,?_⟩
  refine⟨_,rfl,_,rfl,_,_,rfl,rfl,v _ _ m,?_,nx (by rw[Jh];exact q) ⟨⟨_,_,rfl⟩,λb o e=>?_,zaf,?_⟩⟩
  ·rw[Jh,Jw,n,JE];rw[Y6]at q ⊢;lia
  ·rw[zah (zag e D)];exact v _ _ (s2 _ _ e)
  ·have M:i<(zcJ cs).length:=by rw[n];exact q
   have e2:(zcJ cs)[i]?=some (decide (b<=a)):=by unfold zcJ;rw[List.getElem?_zipWith,J,t]
   rw[YQ M,Y2,(Jd.mp e2).2];rfl
 rintro acc σ d ⟨_,s2,m,rfl⟩
 rw[Jh,<- n,YJ]at m
 have g:=s2 _ _ (s1 _ _ j)
 refine⟨l,_,rfl,SqL.of m,?_⟩
 have p:=k d (s1.trans s2)
 unfold zbO at p
 generalize (zcJ cs).all id=L at *
 cases L with
 | false=>exact⟨_,rfl,_,rfl,iteF p⟩
 | true =>
  have dl:∀ i,i<cs.length->(cs.map V.int)[i]?=some (.int (cs.getD i 0)):=λi hi=>by rw[JP,J9,J7 hi];rfl
  have r:atI (cs.map V.int) (-1)=some (.int (cs.getD (cs.length-1) 0)):=zne (by rw[Jh];exact dl _ (by lia))
  exact⟨_,rfl,_,rfl,iteT ⟨_,rfl,c,_,0,_,rfl,rfl,SqT.of g,zaR (dl 0 (by lia)),_,rfl,_,rfl,c,_,(-1),_,rfl,rfl,SqT.of g,r,_,_,rfl,rfl,_,_,rfl,rfl,p⟩⟩
end
abbrev sAll:Stmt:=top 32
def zhO (n:Nat):Sp:=λvs H Q _=>∃ (a:Addr) (moves:List Nat) (t:Nat),vs=[.int (n:Nat),.ref a,.int (t:Nat)]/\n<=6/\t<=9/\H a=some (.tup (nums moves))/\moves.length<=16 /\
 ∀ l xs H',Same H H'->H' l=some (.lst xs)->xs.length<=bnd n t->AllAt H' xs (Rw moves n t)->Q (.ref l) H'
theorem zgB (x:Nat) (a:List Nat):inV (.int (x:Nat)) (nums a)=decide (x∈a):=by
 rw[Yt,decide_eq_true_iff]
 unfold inV nums
 rw[List.any_map,List.any_eq_true]
 constructor
 ·rintro⟨y,b,e⟩
  have z:((y:Nat):Int)=(x:Nat):=by simpa [eqV] using e
  have:y=x:=by lia
  exact this ▸ b
 ·intro h
  exact⟨x,h,by simp[eqV]⟩
theorem ze8 (a:List Nat):(nums a).all zes=true:=Ze.mpr λx b=>by
 obtain⟨m,_,rfl⟩:=JD.mp b
 rfl
section
variable {P:Program}{w:World}{K:PySem.W.Frag}{mg:Str->Option Value}{base:Heap}
theorem scAl:FnScope ["_law_lanes","_law_some_here","_law_total","_law_found","_law_most","_law_many"] ["_law_lanes","_law_some_here","_law_total"] (zal sAll):=by trivial
theorem ziy {f:Addr}{fd:FuncData}(F:Fun K "_law_all_of" "_law_all_of" sAll f fd) (G:Mgs mg) (bS:Binds K fd ["_law_lanes","_law_some_here","_law_total"] []) (mS:mg "_law_all_of" = some (.ref f)) (n:Nat)
  (GS:FnOk P w K mg base CX0 n f fd ["_law_lanes","_law_some_here","_law_total"] (λvs H Q E=>∃ m,n=m+1/\zhO m vs H Q E)):FnOk P w K mg base CX0 (n+1) f fd ["_law_lanes","_law_some_here","_law_total"] (zhO n):=by
 have T:Use P w K mg base "_law_all_of" ["_law_lanes","_law_some_here","_law_total"] n (λvs H Q E=>∃ m,n=m+1/\zhO m vs H Q E) f fd:=⟨GS,bS,F.kp,mS⟩
 refine F.ok scAl (λvs H Q E h=>?_) (λcdv A outer s H vs Q E hr h=>?_)
 ·obtain⟨B,moves,t,rfl,_⟩:=h
  rfl
 obtain⟨B,moves,t,rfl,n6,t9,I,ml,k⟩:=h
 refine⟨_,(@zad _ _ _ _ _ (@zbc _ _ _ _ _ _ _ _ (@zaz _ _ _ _ _ _ _ _ zbQ (@qv _ 0 _ _ (by trivial)) zae (zaG _)) (@zai _ _ _ (@zat _ _ _ _ (@zao _ _ _ _ _ _ _ _ zk9 (@zaO _ _ _ _ (@zaa _ _ _ _ _ (@zaB _ _ _ _ _ zac) zac (by rfl))) (@zaw _ _ _ _ _ _ _ _ _ zcG (by rfl) G.int (by rfl) (@zaa _ _ _ _ _ (@zbt _ _ _ _ _ _ _ _ zbQ (@qv _ 2 _ _ (by trivial)) zae (zaG _)) zac (by rfl)) (by decide) (by decide) (by rfl) (by rfl))))) zaI) (@zad _ _ _ _ _ (@zgi _ _ 3 4 _ _ _ _ _ _ _ _ _ _ _ rfl scAl.nd rfl rfl (by decide) rfl rfl (@zaa _ _ _ _ _ (@zaO _ _ _ _ zac) (@zaa _ _ _ _ _ (@zao _ _ _ _ _ _ _ _ zcq (@qv _ 2 _ _ (by trivial)) (@zaw _ _ _ _ _ _ _ _ _ zcG (by rfl) G.int (by rfl) (@zaa _ _ _ _ _ (@zbt _ _ _ _ _ _ _ _ zeU (@zao _ _ _ _ _ _ _ _ zbS (@qv _ 0 _ _ (by trivial)) zae) (@qv _ 1 _ _ (by trivial)) (by rfl)) zac (by rfl)) (by decide) (by decide) (by rfl) (by rfl))) zac (by rfl)) (by rfl)) (by rfl) (by rfl)) (@zad _ _ _ _ _ (@zbP _ _ _ _ _ _ _ _ Yw rfl (@zbb _ _ _ _ _ _ rfl G.range (@zaa _ _ _ _ _ (@zao _ _ _ _ _ _ _ _ zaW (@qv _ 4 _ _ (by trivial)) zae) zac (by rfl)) (by rfl)) (@zaj _ _ 5 _ scAl.nd rfl (.inr rfl) (by trivial)) (@zai _ _ _ (@zbG _ _ _ _ (@zek _ _ _ _ _ _ _ _ _ _ _ _ YB PySem.F.slot_list_extend PySem.F.type_list_extend zdo (@qv _ 3 _ _ (by trivial)) (@zaa _ _ _ _ _ (@zig _ _ _ _ none _ _ _ _ _ _ ["_law_counts","_law_many"] [none,some 5] rfl (@zdj _ _ _ _ (@zam _ _ _ _ _ _ _ _ _ _ _ _ _ _ _ _ T.ok hr (by rfl) T.m T.kp T.b .nil zaD (@zaa _ _ _ _ _ (@zao _ _ _ _ _ _ _ _ zbS (@qv _ 0 _ _ (by trivial)) zae) (@zaa _ _ _ _ _ (@qv _ 1 _ _ (by trivial)) (@zaa _ _ _ _ _ (@zao _ _ _ _ _ _ _ _ zbS (@qv _ 2 _ _ (by trivial)) (@qv _ 5 _ _ (by trivial))) zac (by rfl)) (by rfl)) (by rfl)) (by decide) (by rfl) (by rfl))) (CapOk.of (by kernel_rfl)) (λ_ _ _ _ _=>(@zaj _ _ 0 _ (show (["_law_counts","_law_many"]:List Str).Nodup from by decide +kernel) rfl (.inl rfl) (.inr rfl))) (λ_ _ _ _ _=>zcb) (λ_ _ _ _ _=>(@zao _ _ _ _ _ _ _ _ zbh (@qv _ 0 _ _ (by trivial)) (@zaB _ _ _ _ _ (@zaa _ _ _ _ _ (@qv _ 1 _ _ (by trivial)) zac (by rfl))))) (by intro _;rfl)) zac (by rfl)) (by rfl) (by rfl) (by rfl) (by rfl) (by rfl)) (by rfl))) (by intro _;rfl)) (@zai _ _ _ (@zat _ _ _ _ (@zaq _ _ _ _ _ _ _ _ _ (zfb true (by exact hr.units)) (by rfl) G.sorted (by rfl) (@zaa _ _ _ _ _ (@qv _ 3 _ _ (by trivial)) zac (by rfl)) (by decide) (by decide) (by rfl) (by rfl))))))),?_⟩
 cases n with
 | zero =>
  refine⟨_,rfl,rfl,true,JS V.bl (JB rfl),iteT ?_⟩
  refine⟨by show 0<=sizeLine;decide,λb hb=>⟨by show 1<=sizeLine;decide,λl C=>?_⟩⟩
  have s1:=zab hb (.tup [])
  have s2:=zab C (.lst [.ref b])
  refine⟨_,rfl,rfl,.inr ⟨_,rfl,l,_,[.ref b],rfl,rfl,zaf,?_,?_,?_,λp O=>?_⟩⟩
  ·split<;>decide
  ·split<;>decide
  ·rw[JE]
   split
   ·show 1*Int.toNat 1<=16777216;decide
   ·show 1*Int.toNat 0<=16777216;decide
  have N:=zab O (.lst (List.replicate (if decide (V.int ((t:Nat):Int)=V.int 0)=true then (1:Int) else 0).toNat [V.ref b]).flatten)
  refine k p _ _ ((s1.trans s2).trans N) zaf ?_ ?_
  ·show _<=1
   split
   ·exact Jg 1
   ·exact JL 1
  ·intro x d
   by_cases z:t=0
   ·rw[Jf (JB (by rw[z];rfl))]at d
    have e:x=.ref b:=Je.mp d
    refine⟨b,[],e,N _ _ (s2 _ _ (zap hb _)),rfl,λx d=>absurd d Jv,by rw[z];rfl,λi hi=>absurd hi (Wg i)⟩
   ·rw[Jc (λy=>z (by have:=V.int.inj (YF y);lia))]at d
    exact absurd d Jv
 | succ n =>
  refine⟨_,rfl,rfl,false,JS V.bl (Jt λz=>absurd (V.int.inj z) (by lia)),iteF ?_⟩
  refine⟨by show 0<=sizeLine;decide,λl C=>?_⟩
  have s1:=zab C (.lst [])
  refine⟨_,rfl,_,rfl,_,_,rfl,rfl,_,rfl,B,_,rfl,.inr (SqT.of (s1 _ _ I)),rfl,ze8 moves,.inr ⟨_,rfl,_,_,rfl,rfl,.inl ⟨by lia,by lia⟩,_,_,rfl,?_⟩⟩
  have en:((n+1:Nat):Int)-1=(n:Nat):=by lia
  dsimp only
  rw[Jc (show ¬(false=true) by decide),en,zgB]
  generalize u:((t:Nat):Int)*(if decide (n∈moves)=true then (1:Int) else 0)=most
  have ab:most=((if n∈moves then t else 0:Nat):Int):=by
   rw[<- u]
   by_cases z:n∈moves
   ·rw[Jf (JB z),Jf z];lia
   ·rw[Jc (λy=>z (YF y)),Jc z];lia
  generalize Y:(if n∈moves then t else 0:Nat)=c at ab
  have ct:c<=t:=by rw[<- Y];split<;>lia
  have cm:c=0\/n∈moves:=by
   by_cases z:n∈moves
   ·exact .inr z
   ·rw[Jc z]at Y;exact .inl Y.symm
  have bn:=zmn (n+1) n6 t t9
  have ae:bnd (n+1) t=bndS n t (t+1):=rfl
  refine⟨_,rfl,_,_,rfl,rfl,_,rfl,by lia,by lia,?_⟩
  refine zbU (lo:=0) (n:=(most+1).toNat) (λi σ D=>(∃ U,σ=[some (.int (n+1:Nat)),some (.ref B),some (.int (t:Nat)),some (.ref l),some (.int most),U])/\Same H D/\∃ xs,D l=some (.lst xs)/\xs.length<=bndS n t i/\AllAt D xs (Rw moves (n+1) t)) ⟨⟨_,rfl⟩,s1,[],zap C _,JL _,λx d=>absurd d Jv⟩ ?_ ?_
  ·rintro i σ D hi ⟨⟨U,rfl⟩,s2,xs,S,xl,L⟩
   have it:i<=t:=by lia
   have bi:=zf3 n t (show i+1<=t+1 by lia)
   rw[zdE]at bi
   refine⟨_,rfl,.inl ⟨rfl,xs,SqL.of S⟩,?_⟩
   refine⟨_,rfl,_,_,rfl,rfl,_,rfl,_,rfl,_,rfl,_,_,rfl,rfl,n,rfl,B,moves,t-i,?_,by lia,by lia,s2 _ _ I,ml,λl1 ys H3 N h3 yl ya=>?_⟩
   ·show [V.int (((n+1:Nat):Int)-1),V.ref B,V.int (((t:Nat):Int)-(0+(i:Nat)))]=_
    rw[show ((n+1:Nat):Int)-1=(n:Nat) by lia,show ((t:Nat):Int)-(0+(i:Nat))=((t-i:Nat):Int) by lia]
   refine⟨l1,rfl,⟨_,SqL.of h3⟩,λl2 g=>?_⟩
   refine ziT (K:=K) (a:=l1) (xs:=ys) (λj acc σ v=>(∃ v0,σ=[v0,some (.int (0+(i:Nat)))])/\Same H3 v/\v l2=some (.lst acc)/\acc.length=j/\AllAt v acc (Rw moves (n+1) t)) ⟨⟨_,rfl⟩,zab g _,zap g _,rfl,λx d=>absurd d Jv⟩ (λj acc σ v z=>⟨z.2.2.1,SqL.of (z.2.1 _ _ h3)⟩) ?_ ?_
   ·rintro j x acc σ v d ⟨⟨v0,rfl⟩,M,Z,al,aa⟩
    obtain⟨b,row,rfl,hb,R⟩:=ya x (JT d)
    have jl:=(Jd.mp d).1
    have rl:=R.len
    refine⟨_,rfl,_,rfl,by show 1<=sizeLine;decide,λq hq=>?_⟩
    have s5:=zab hq (.tup [.int (0+(i:Nat))])
    refine⟨b,q,_,_,rfl,rfl,s5 _ _ (M _ _ hb),zaf,by rw[Jh,rl,JE];show n+1<=_;lia,λr H6 s6 ad=>?_⟩
    have W:=s5.trans s6
    have h6:=W _ _ Z
    refine⟨h6,by rw[al,JE];lia,nx jl ⟨⟨_,rfl⟩,λc o e=>?_,zaf,by rw[Jb,al];rfl,?_⟩⟩
    ·rw[zah (zag e g)];exact W _ _ (M c o e)
    ·refine(AllAt.tups (Tups.lst h6) (AllAt.app (aa.tups (Tups.of W)) λx d=>?_))
     refine⟨r,row++[((i:Nat):Int)],Je.mp d,?_,Rw.snoc ?_ (by lia) ?_⟩
     ·rw[ad,Y2,Int.zero_add];rfl
     ·rw[show ((t:Nat):Int)-(i:Nat)=((t-i:Nat):Int) by lia];exact R
     ·rcases cm with z|z
      ·exact .inl (by lia)
      ·exact .inr z
   rintro acc σ v ⟨⟨v0,rfl⟩,M,Z,al,aa⟩
   have X:=N.trans M
   have J:=X _ _ S
   refine⟨l,l2,xs,acc,rfl,rfl,J,Z,by rw[JE];lia,⟨_,rfl⟩,λc o e=>?_,_,zaf,by rw[zdE,Jb];lia,?_⟩
   ·rw[zah (zag e C)];exact X _ _ (s2 c o e)
   ·exact AllAt.tups (Tups.lst J) (AllAt.app (L.tups (Tups.of X)) aa)
  ·rintro σ D ⟨⟨U,rfl⟩,s2,xs,S,xl,L⟩
   have bi:=zf3 n t (show (most+1).toNat<=t+1 by lia)
   refine⟨_,rfl,l,xs,_,rfl,SqL.of S,by lia,zmB (n:=n) λx d=>?_,λp ys O py _=>?_⟩
   ·obtain⟨b,row,e,hb,R⟩:=L x d
    obtain⟨q0,q1⟩:=zle R.nn
    exact⟨b,row,e,hb,R.len,λy hy=>⟨R.nn y hy,by have:=q1 y hy;have:=R.sum;lia⟩⟩
   ·refine k p ys _ (s2.trans (zab O _)) zaf (by rw[py.length_eq];lia) λx d=>?_
    obtain⟨b,row,e,hb,R⟩:=L x (py.mem_iff.mp d)
    exact⟨b,row,e,zab O _ _ _ hb,R⟩
theorem zlc {f:Addr}{fd:FuncData}(F:Fun K "_law_all_of" "_law_all_of" sAll f fd) (G:Mgs mg) (b:Binds K fd ["_law_lanes","_law_some_here","_law_total"] []) (a:mg "_law_all_of" = some (.ref f)):∀ n:Nat,FnOk P w K mg base CX0 (n+1) f fd ["_law_lanes","_law_some_here","_law_total"] (zhO n)
 | 0=>ziy F G b a 0 ⟨λvs H Q E ⟨m,h,_⟩=>by lia,λA outer s H args us vs Q E _ _ _ _ ⟨m,h,_⟩=>by lia⟩
 | m+1=>ziy F G b a (m+1) ((zlc F G b a m).imp λvs H Q E ⟨c,h,q⟩=>by cases h;exact q)
abbrev zec:Sp:=λvs H Q E=>∃ m,m<=6/\zhO m vs H Q E
theorem zix {f:Addr}{fd:FuncData}(F:Fun K "_law_all_of" "_law_all_of" sAll f fd) (G:Mgs mg) (b:Binds K fd ["_law_lanes","_law_some_here","_law_total"] []) (a:mg "_law_all_of" = some (.ref f)):FnOk P w K mg base CX0 7 f fd ["_law_lanes","_law_some_here","_law_total"] zec :=
 FnOk.any 6 λm c=>(zlc F G b a m).mono (by lia)
end
end K36
namespace Bn
open PySem L2 Own
theorem zcK {back:Bool}{fs:List (Nat × Nat)}{ts:List Int}{lane:Nat}:∀ (i k:Nat),i<=k->(zaC back fs ts lane i).1.getD k 0=ts.getD k 0
 | 0,_,_=>rfl
 | i+1,k,h=>by
  have ih:=zcK (back:=back) (fs:=fs) (ts:=ts) (lane:=lane) i k (by lia)
  show (zau back (zaC back fs ts lane i) i (fs.getD i (0,0))).1.getD k 0=_
  unfold zau
  split
  ·simp only
   rw[J9,Z7 (by lia),<- J9];exact ih
  ·exact ih
theorem zcL {back:Bool}{fs:List (Nat × Nat)}{ts:List Int}{lane:Nat}(k:Nat):∀ n,k<n->(zaC back fs ts lane n).1.getD k 0=(zaC back fs ts lane (k+1)).1.getD k 0
 | 0,h=>absurd h (Wg _)
 | n+1,h=>by
  by_cases e:k=n
  ·subst e;rfl
  ·have ih:=zcL (back:=back) (fs:=fs) (ts:=ts) (lane:=lane) k n (by lia)
   rw[<- ih]
   show (zau back (zaC back fs ts lane n) n (fs.getD n (0,0))).1.getD k 0=_
   unfold zau
   split
   ·simp only
    rw[J9,Z7 (by lia),<- J9]
   ·rfl
end Bn
namespace L2
open PySem PySem.Spec PyProof.Rows Own Bn
section
variable {step:KN->Nat->Option KN}{moves:List Nat}{most:Nat}
theorem zdR {S:KN->Prop}{ks:List KN}(cls:∀ s,S s->∀ m∈moves,∀ t,step s m=some t->S t) (sub:∀ s,S s->s∈ks) (k:ks.length<=most):∀ (m:Nat) (level seen:LvL) (ls:List LvL),(∀ p∈seen++level,S p.1)->LvNd (seen++level)->most+1<=m+seen.length->za4 step moves most m level seen ls≠.opn
 | m,level,seen,ls,h,nd,q=>by
  have sl:=zfO (l:=(seen++level).map (λp:KN × List Int=>p.1)) (ks:=ks) nd λx g=>by
   obtain⟨p,c,rfl⟩:=JD.mp g
   exact sub _ (h p c)
  rw[Jh,Jb]at sl
  cases m with
  | zero=>lia
  | succ m =>
   by_cases d:level=[]
   ·rw[d,zcE];exact λz=>by cases z
   have o:0<level.length:=Wn.mpr d
   by_cases f:(zbe step (seen++level) moves level).fl=[]
   ·rw[zda d (by lia) f]
    have M:=zel (step:=step) (seen:=seen++level) moves level
    have W:=zdn (step:=step) (seen:=seen++level) (moves:=moves) (Ok:=λ_=>True) level λ_ _ _ _ _ _=>trivial
    refine zdR cls sub k m _ _ _ (λp c=>?_) ?_ (by rw[Jb];lia)
    ·rcases Jz.mp c with z|z
     ·exact h p z
     ·obtain⟨x,g,n,_⟩:=M.on p.1 p.2 (zbz W.nd z)
      obtain⟨j,i⟩:=zch.mp g
      exact cls _ (h _ (Jy _ j)) _ i _ n
    ·unfold LvNd
     rw[Y2]
     refine Wz.mpr ⟨nd,W.nd,λa ha b hb e=>?_⟩
     subst e
     obtain⟨p,c,rfl⟩:=JD.mp hb
     have z:=zbZ.mpr ha
     rw[W.new p c]at z;cases z
   ·rw[zcF d (by lia) f]
    exact λz=>by cases z
end
def allB:Nat->List (List Int)
 | 0=>[[]]
 | n+1=>(allB n).map (0::·)++(allB n).map (1::·)
theorem zeA:∀ n,(allB n).length=2 ^ n
 | 0=>rfl
 | n+1=>by
  show ((allB n).map (0::·)++(allB n).map (1::·)).length=_
  rw[Jb,Jh,Jh,zeA n,Zh];lia
theorem zem:∀ {ts:List Int},Bits ts->ts∈allB ts.length
 | [],_=>.head _
 | t::ts,h=>by
  have ih:=zem (ts:=ts) λx a=>h x (.tail _ a)
  show t::ts∈(allB ts.length).map (0::·)++(allB ts.length).map (1::·)
  rcases h t (.head _) with rfl|rfl
  ·exact Yh _ (JD.mpr ⟨ts,ih,rfl⟩)
  ·exact Jy _ (JD.mpr ⟨ts,ih,rfl⟩)
def zc5 (T:List (List Int)) (L:Nat):List KN:=T.flatMap λts=>(List.range L).map λr=>stK ts [((r:Nat):Int)]
theorem zgU (T:List (List Int)) (L:Nat):(zc5 T L).length=T.length*L:=by
 unfold zc5
 induction T with
 | nil=>rw[List.flatMap_nil,YH,YH,Nat.zero_mul]
 | cons t T ih=>rw[List.flatMap_cons,Jb,ih,Jh,Y0,JK,Nat.succ_mul];lia
theorem zg8 {T:List (List Int)}{L:Nat}{ts:List Int}{r:Nat}(h:ts∈T) (a:r<L):stK ts [((r:Nat):Int)]∈zc5 T L :=
 List.mem_flatMap.mpr ⟨ts,h,JD.mpr ⟨r,Yd.mpr a,rfl⟩⟩
theorem zgs {N:Nt}(ok:Nt.Ok N) (T:List (List Int)) (P:List Int->Prop) (sub:∀ ts,ts.length=N.forks.length->Bits ts->P ts->ts∈T) (g:P (zF N)) (kp:∀ ts lane,ts.length=N.forks.length->P ts->P (zc2 N ts lane)) (moves:List Nat) (most:Nat) (few:T.length*N.lanes<=most):zbk N moves most≠.opn:=by
 have l1:=ok.l1
 refine zdR (S:=λk=>∃ (ts:List Int) (r:Nat),k=stK ts [((r:Nat):Int)]/\ts.length=N.forks.length/\Bits ts/\r<N.lanes/\P ts) (ks:=zc5 T N.lanes) ?_ ?_ (by rw[zgU];exact few) _ _ _ _ ?_ ?_ ?_
 ·rintro s ⟨ts,r,rfl,h1,c,f,b⟩ m _ t e
  have a:(if ((passE N ts m:Nat):Int)=(r:Nat) then some (stK (zc2 N ts m) [((r:Nat)+1)%(N.lanes:Nat)]) else none)=some t:=e
  by_cases z:((passE N ts m:Nat):Int)=(r:Nat)
  ·rw[Jf z]at a
   cases a
   refine⟨zc2 N ts m,(r+1)%N.lanes,?_,(zeS _ _ _).trans h1,zdP c,Nat.mod_lt _ (by lia),kp ts m h1 b⟩
   rw[Int.natCast_emod];rfl
  ·rw[Jc z]at a;cases a
 ·rintro s ⟨ts,r,rfl,h1,c,f,b⟩
  exact zg8 (sub ts h1 c b) f
 ·intro p d
  rw[ZN]at d
  rw[Je.mp d]
  exact⟨zF N,0,rfl,Y3,λt h=>.inl (List.eq_of_mem_replicate h),l1,g⟩
 ·exact JR.mpr ⟨Jv,Z3⟩
 ·exact Jg _
theorem zfn {fs:List (Nat × Nat)}{ts:List Int}{lane a:Nat}(al:a+1<fs.length) (tl:ts.length=fs.length) (e:fs.getD a (0,0)=fs.getD (a+1) (0,0)) (h:ts.getD a 0=ts.getD (a+1) 0) :
  (zaC false fs ts lane fs.length).1.getD a 0=(zaC false fs ts lane fs.length).1.getD (a+1) 0:=by
 rw[zcL a _ (by lia),zcL (a+1) _ al]
 have d:=zcK (back:=false) (fs:=fs) (ts:=ts) (lane:=lane) a a (Jg _)
 have b:=zcK (back:=false) (fs:=fs) (ts:=ts) (lane:=lane) a (a+1) (by lia)
 have ln:=zcn (back:=false) (fs:=fs) (ts:=ts) (lane:=lane) a
 show (zau false (zaC false fs ts lane a) a (fs.getD a (0,0))).1.getD a 0=(zau false (zau false (zaC false fs ts lane a) a (fs.getD a (0,0))) (a+1) (fs.getD (a+1) (0,0))).1.getD (a+1) 0
 rw[<- e]
 generalize zaC false fs ts lane a=st at *
 generalize fs.getD a (0,0)=f at *
 unfold zau
 by_cases z:st.2=f.1\/st.2=f.2
 ·have two:∀ (c:Prop) [Decidable c],(if c then f.1 else f.2)=f.1\/(if c then f.1 else f.2)=f.2:=λc _=>by
   by_cases y:c
   ·exact .inl (Jf y)
   ·exact .inr (Jc y)
  rw[Jf z]
  dsimp only
  rw[Jf (two _),zbE (by lia),Jf rfl,zbE (by rw[Z5];lia),Jf rfl,zbE (by lia),Jc (by lia),d,b,h]
 ·rw[Jc z,Jc z,d,b,h]
def zmj (a:Nat) (us:List Int):List Int:=us.take (a+1)++us.drop a
theorem zmi {ts:List Int}{a n:Nat}(i:ts.length=n+1) (al:a+1<ts.length) (b:Bits ts) (h:ts.getD a 0=ts.getD (a+1) 0):ts∈(allB n).map (zmj a):=by
 have g:Bits (ts.take (a+1)++ts.drop (a+2)):=λt d=>by
  rcases Jz.mp d with z|z
  ·exact b t (YC z)
  ·exact b t (Zv z)
 have c:(ts.take (a+1)++ts.drop (a+2)).length=n:=by rw[Jb,Jw,Y6];lia
 have m:=zem g
 rw[c]at m
 refine JD.mpr ⟨_,m,?_⟩
 have f:ts.take a++[ts[a]'(by lia)]=ts.take (a+1):=Yx (by lia)
 have e2:ts[a]'(by lia)=ts[a+1]'al:=by
  rw[J9,J9,J7 (show a<ts.length by lia),J7 al]at h
  exact h
 unfold zmj
 rw[List.take_left' (by rw[Jw];lia)]
 have e:(ts.take (a+1)++ts.drop (a+2)).drop a=ts.drop (a+1):=by
  rw[<- f,JQ,List.drop_left' (by rw[Jw];lia),e2,Yv al];rfl
 rw[e,Zk]
theorem zeK {N:Nt}(ok:Nt.Ok N) (h:N.forks.length<=8/\N.lanes<=6\/N.lanes<=4/\(N.forks.length<=9\/N.forks.length<=10/\∃ A f B,N.forks=A++f::f::B)) (moves:List Nat):zbk N moves 4000≠.opn:=by
 have all:∀ n l,N.forks.length<=n->N.lanes<=l->2 ^ n*l<=4000->zbk N moves 4000≠.opn:=λn l c d hb=>by
  refine zgs ok (allB N.forks.length) (λ_=>True) (λts e b _=>e ▸ zem b) trivial (λ_ _ _ _=>trivial) moves 4000 ?_
  rw[zeA]
  exact JW (Ww (YK (by decide) c) d) hb
 rcases h with ⟨h1,a⟩|⟨a,h1|⟨h1,A,f,B,e⟩⟩
 ·exact all 8 6 h1 a (by decide)
 ·exact all 9 4 h1 a (by decide)
 ·have fl:N.forks.length=A.length+B.length+2:=by rw[e,Jb,JK,JK];lia
  have al:A.length+1<N.forks.length:=by lia
  have g:N.forks.getD A.length (0,0)=N.forks.getD (A.length+1) (0,0):=by
   rw[e,J9,J9,Ye (Jg _),Ye (Nat.le_succ _),Nat.sub_self,show A.length.succ-A.length=1 by lia];rfl
  refine zgs ok ((allB (A.length+B.length+1)).map (zmj A.length)) (λts=>ts.getD A.length 0=ts.getD (A.length+1) 0) (λts l b q=>zmi (by lia) (by lia) b q) ?_ (λts lane l q=>zfn al l g q) moves 4000 ?_
  ·unfold zF
   rw[zbv,zbv]
  ·rw[Jh,zeA]
   exact JW (Ww (YK (by decide) (show A.length+B.length+1<=9 by lia)) a) (by decide)
theorem zhT {a u:TS}{D:Ends}{σ:St}{H:Hp}(I:St->Hp->Prop) (key:∀ σ H,I σ H->u D σ H) (h:∀ b:Ends,(∀ σ H,I σ H->b.nx σ H)->b.rt=D.rt->a b σ H):tSeq a u D σ H:=h { D with nx:=u D } key rfl
theorem gset {i:Nat}{v:V}{σ:St}{H:Hp}{a u:TS}{D:Ends}(R:VK) (h:tSeq a u D (σ.set i (some v)) H):(λx H1=>zdt i x σ H1 ({ nx:=tSeq a u D,rt:=R }:Ends).nx) v H:=h
theorem znK {i:Nat}{v:V}{σ:St}{H:Hp}{a u:TS}{D:Ends}(h:tSeq a u D (σ.set i (some v)) H):zdt i v σ H (λb c=>tSeq a u D b c):=h
theorem cut_mem {xs:List V}{lo hi:Option Int}{x:V}(h:x∈cutV xs lo hi):x∈xs:=Zv (YC h)
theorem ziR:∀ {x y:List Int},HT.lexLt x y=true->x.length=y.length->cmpR x y=.lt
 | [],[],h,_=>by cases h
 | a::x,b::y,h,l=>by
  show (compare a b).then (cmpR x y)=.lt
  rw[HT.lexLt_cons]at h
  by_cases z:a=b
  ·rw[Jf z]at h
   rw[YS.mpr z,ziR h (by simpa using l)];rfl
  ·rw[Jc z]at h
   rw[YA.mpr (YF h)];rfl
theorem ziF:∀ {c:List Int},(∀ x∈c,0<=x)->(((c.map Int.toNat).sum:Nat):Int)=c.sum
 | [],_=>rfl
 | a::c,h=>by
  have ih:=ziF λx b=>h x (.tail _ b)
  have ha:=h a (.head _)
  rw[JZ,List.sum_cons,List.sum_cons];lia
theorem zge {c:List Int}(h:∀ x∈c,0<=x):(((rowC c).length:Nat):Int)=c.sum:=by
 rw[<- ziF h]
 unfold rowC
 rw[List.length_flatMap]
 congr 2
 refine List.ext_getElem (by rw[Jh,Jh,Y0]) λi h1 a=>?_
 rw[Jh]at a
 rw[W9,W9,List.getElem_range,Y3,J9,J7 a];rfl
section
variable {N:Nt}{moves:List Nat}{t:Int}{row:List Int}
theorem Rw.at (R:Rw moves N.lanes t row) (i:Nat):0<=row.getD i 0:=by
 rw[show row.getD i 0=row[i]?.getD 0 from J9]
 cases e:row[i]? with
 | none=>exact ZW _
 | some x=>exact R.nn x (JT e)
theorem Rw.cnt (R:Rw moves N.lanes t row):cntL (zL N) (rowC row)=row:=by
 refine zb1 (by rw[zbu,R.len]) λi hi=>?_
 rw[zbu]at hi
 have a:(zL N).length=N.lanes:=Y3
 have:=R.at i
 rw[zbA _ _ i (by lia),zcP,zfl,Jf (by rw[R.len];exact hi)];lia
theorem Rw.many (R:Rw moves N.lanes t row):(((rowC row).length:Nat):Int)=t:=(zge R.nn).trans R.sum
theorem Rw.over (R:Rw moves N.lanes t row):Over moves (rowC row):=λm a=>by
 have:=List.count_pos_iff.mpr a
 rw[zcP,R.len]at this
 by_cases z:m<N.lanes
 ·rw[Jf z]at this
  apply Classical.byContradiction
  intro no
  rw[R.oth m z no]at this
  exact absurd this (by decide)
 ·rw[Jc z]at this;lia
theorem Rw.stair (ok:Nt.Ok N) (a:∀ m∈moves,m<N.lanes) (R:Rw moves N.lanes t row) (h:∀ j,j<=(rowC row).length->runK (za6 N) (k0P N) ((rowC row).take j)≠none):zbO (zbj N row)=true:=by
 have e:=zcD ok (λm b=>a m (R.over m b)) (rowC row).length (Jg _) (zjH N _ _ (Jg _) h)
 rw[YJ,R.cnt]at e
 rw[e]
 exact zjh ok _
theorem Rw.shut (ok:Nt.Ok N) (b:∀ m∈moves,m<N.lanes) (R:Rw moves N.lanes t row) {ks:List KN}(a:Shut (za6 N) moves (k0P N) ks):zbO (zbj N row)=true :=
 R.stair ok b λj _=>by
  obtain⟨s,_,e⟩:=a.run ((rowC row).take j) a.fst λx c=>R.over x (YC c)
  rw[e];exact λz=>by cases z
variable {n:Nat}{c:List Int}
theorem zff (B:Broke (za6 N) moves (k0P N) (zL N) n c) (R:Rw moves N.lanes t row) (j:Nat) (b:j<=n):runK (za6 N) (k0P N) ((rowC row).take j)≠none:=by
 obtain⟨s,e⟩:=B.few ((rowC row).take j) (by rw[Jw];lia) λx a=>R.over x (YC a)
 rw[e];exact λz=>by cases z
theorem Rw.fewer (ok:Nt.Ok N) (a:∀ m∈moves,m<N.lanes) (R:Rw moves N.lanes t row) (B:Broke (za6 N) moves (k0P N) (zL N) n c) (h:t<=n):zbO (zbj N row)=true :=
 R.stair ok a λj b=>zff B R j (by have:=R.many;lia)
theorem Rw.less (ok:Nt.Ok N) (a:∀ m∈moves,m<N.lanes) (R:Rw moves N.lanes t row) (B:Broke (za6 N) moves (k0P N) (zL N) n c) (cl:c.length=N.lanes) (h:t=n+1) (lt:HT.lexLt row c=true):zbO (zbj N row)=true :=
 R.stair ok a λj b=>by
  have many:=R.many
  by_cases z:j<=n
  ·exact zff B R j z
  ·rw[JG (by lia)]
   intro no
   have le:=B.lst (rowC row) (by lia) R.over no
   rw[R.cnt]at le
   have q:=ziR lt (R.len.trans cl.symm)
   unfold leR at le
   rw[zdz row c,q]at le
   exact le rfl
theorem zdd (g:∀ m∈moves,m<N.lanes) (B:Broke (za6 N) moves (k0P N) (zL N) n c):Rw moves N.lanes (n+1) c:=by
 obtain⟨d,m,h1,e,b,_⟩:=B.ex
 have l:(zL N).length=N.lanes:=Y3
 have cl:c.length=N.lanes:=by rw[<- b];exact zbu N _
 have f:∀ i,i<N.lanes->c.getD i 0=((d++[m]).count i:Nat):=λi hi=>by
  rw[<- b,zbA _ _ i (by lia),zfl];lia
 have nn:∀ x∈c,0<=x:=λx a=>by
  obtain⟨k,h,j⟩:=Wj a
  have:=f k (by lia)
  rw[J9,J7 h,j]at this
  have:x=_:=this
  lia
 refine⟨cl,nn,?_,λi hi no=>?_⟩
 ·have p:=zgd (N:=N) (row:=d++[m]) λx a=>g x (e x a)
  rw[b]at p
  rw[<- zge nn,p.length_eq,Jb,h1]
  show (((n+1:Nat)):Int)=_
  lia
 ·rw[f i hi,List.count_eq_zero.mpr λz=>no (e i z)];rfl
theorem zhn (ok:Nt.Ok N) (b:∀ m∈moves,m<N.lanes) (B:Broke (za6 N) moves (k0P N) (zL N) n c):zbO (zbj N c)=false:=by
 obtain⟨h1,a,g,f⟩:=zjC ok b B (List.Perm.refl (rowC c))
 have e:=zcC ok a (i:=n) (by lia)
 rw[zcD ok a n (by lia) g,JG (by lia),(zdd b B).cnt]at e
 rw[e]
 refine ziI n _ ?_ f
 have d:(rowC c).getD n 0<N.lanes:=by
  rw[J9,J7 (by lia)];exact a _ (Yb _)
 have here:=zcM (back:=false) (ts:=tsAt N (rowC c) n) ok.fk d N.forks.length (Jg _)
 have h:N.ends.length=N.lanes:=by rw[ok.en.length_eq,Y0]
 have:=Wp (ok.en.mem_iff.mpr (Yd.mpr here))
 rw[h]at this
 exact this
end
end L2
namespace K36
open PySem L2 Own Bn
abbrev sLaw:Stmt:=top 33
def zjS (K:PySem.W.Frag) (Pt:Addr):Sp:=λvs H Q _=>∃ (a:Addr) (ns:List Int),vs=[.ref a]/\SqL K H a (ns.map V.int)/\ns.length<=63/\H Pt=some (.tbl #[])/\∀ H',Q (.bl true) H'
def Scr (K:PySem.W.Frag) (a:Addr) (xs:List V) (H:Hp):Prop:=H a=some (.lst xs)\/(∃ o,H a=some (.frz o (.lst xs)))\/∀ H',SqL K H' a xs
theorem Scr.of {K:PySem.W.Frag}{a:Addr}{xs:List V}{H:Hp}(h:SqL K H a xs):Scr K a xs H:=by
 rcases h with (h|h)|h
 ·exact .inl h
 ·exact .inr (.inl h)
 ·exact .inr (.inr λH'=>.inr h)
theorem Scr.sq {K:PySem.W.Frag}{a:Addr}{xs:List V}{H:Hp}(h:Scr K a xs H):SqL K H a xs:=by
 rcases h with h|h|h
 ·exact .inl (.inl h)
 ·exact .inl (.inr h)
 ·exact h H
theorem Scr.keep {K:PySem.W.Frag}{a:Addr}{xs:List V}{H H':Hp}(h:Scr K a xs H) (k:∀ o,H a=some o->(o=.lst xs\/∃ u,o=.frz u (.lst xs))->(∀ H',SqL K H' a xs)\/H' a=some o):Scr K a xs H':=by
 rcases h with h|⟨o,h⟩|h
 ·rcases k _ h (.inl rfl) with z|z
  ·exact .inr (.inr z)
  ·exact .inl z
 ·rcases k _ h (.inr ⟨o,rfl⟩) with z|z
  ·exact .inr (.inr z)
  ·exact .inr (.inl ⟨o,z⟩)
 ·exact .inr (.inr h)
structure LE (K:PySem.W.Frag) (a l Pt:Addr) (xs:List V) (H:Hp):Prop where
 S:Pk3 H l
 tab:TabQ qV Pt H
 scr:Scr K a xs H
 al:a≠l\/∀ H',SqL K H' a xs
section
variable {K:PySem.W.Frag}{a l Pt:Addr}{xs:List V}{H H':Hp}
theorem LE.same (h:LE K a l Pt xs H) (s:Same H H'):LE K a l Pt xs H':=⟨h.S.keep s,h.tab.same s,h.scr.keep λo e _=>.inr (s _ _ e),h.al⟩
theorem LE.pick (h:LE K a l Pt xs H) (d:Pk3 H' l) (b:But l H H'):LE K a l Pt xs H':=by
 obtain⟨ys,c⟩:=h.S.lst
 refine⟨d,h.tab.but b c,h.scr.keep λo e _=>?_,h.al⟩
 rcases h.al with z|z
 ·exact .inr (b _ _ e z)
 ·exact .inl z
theorem LE.ver (h:LE K a l Pt xs H) (t:TabQ qV Pt H') (b:But Pt H H'):LE K a l Pt xs H':=by
 obtain⟨ls,f,_⟩:=h.tab
 obtain⟨x,y,z,d,r⟩:=h.S.ex
 refine⟨⟨x,y,z,b _ _ d (zcQ d f λq=>by cases q),r⟩,t,h.scr.keep λo e c=>.inr (b _ _ e λq=>?_),h.al⟩
 rw[q,f]at e
 cases e
 rcases c with c|⟨u,c⟩<;>cases c
theorem zjP {q:Str}(t:TabQ q Pt H) (b:But Pt H H'):Tups H H':=λc ys e=>by
 obtain⟨ls,a,_⟩:=t
 exact b _ _ e (zcQ e a λq=>by cases q)
end
theorem Lns.len {lanes:Nat}{moves:List Nat}(h:Lns lanes moves):moves.length<=lanes:=by
 have:=zfO (l:=moves) (ks:=List.range lanes) (h.up.imp λz=>JF z) λx a=>Yd.mpr (h.lt x a)
 rwa [Y0]at this
def ToldAt (N:Nt) (moves:List Nat) (H:Hp) (q:Addr) (a:Nat):Prop :=
 (∃ d c n,H q=some (.tup [.str "breaks",.ref d])/\H d=some (.tup (c.map V.int))/\Broke (za6 N) moves (k0P N) (zL N) n c/\n<=4000/\a=n+1) \/
 ∃ b ks,H q=some (.tup [.str "stair",.ref b])/\Shut (za6 N) moves (k0P N) ks/\a=3
theorem ToldAt.tups {N:Nt}{moves:List Nat}{H H':Hp}{q:Addr}{a:Nat}(t:Tups H H') (h:ToldAt N moves H q a):ToldAt N moves H' q a:=by
 rcases h with ⟨e,c,n,h1,d,r⟩|⟨b,ks,h1,r⟩
 ·exact .inl ⟨e,c,n,t _ _ h1,t _ _ d,r⟩
 ·exact .inr ⟨b,ks,t _ _ h1,r⟩
section
variable {P:Program}{w:World}{K:PySem.W.Frag}{mg:Str->Option Value}{base:Heap}
theorem scLw:FnScope ["_law_script","_law_k","_law_left_here","_law_net_here","_law_some_here","_law_told","_law_total","_law_others","_law_gone","_law_many","_law_counts","_law_ahead"] ["_law_script"] (zal sLaw):=by trivial
theorem zmS {f fL fN fS fV fE fR fA Pt:Addr}{fd dL dN dS dV dE dR dA:FuncData}(F:Fun K "law" "law" sLaw f fd) (G:Mgs mg) (GA:MgA mg) (UL:Use P w K mg base "_law_left" ["_law_script","_law_k"] 1 (zfu K) fL dL) (UN:Use P w K mg base "_law_net" ["_law_left_here"] 12 zhJ fN dN) (US:Use P w K mg base "_law_some" ["_law_left_here","_law_net_here"] 2 zfs fS dS)
  (UV:Use P w K mg base "verdict" ["net","some","most"] 8 (zfr qV Pt) fV dV) (UE:Use P w K mg base "_law_ends" ["_law_net_here","_law_counts"] 1 zhL fE dE) (UR:Use P w K mg base "_law_stair" ["_law_counts"] 1 zd7 fR dR) (UA:Use P w K mg base "_law_all_of" ["_law_lanes","_law_some_here","_law_total"] 7 zec fA dA):FnOk P w K mg base CX0 13 f fd ["_law_script"] (zjS K Pt):=by
 refine F.ok scLw (λvs H Q E h=>?_) (λcdv A outer s H vs Q E hr h=>?_)
 ·obtain⟨a,ns,rfl,_⟩:=h
  rfl
 obtain⟨a,ns,rfl,hS,aP,aO,k⟩:=h
 have tab:TabQ qV Pt H:=⟨[],aO,λp hp=>absurd hp Jv⟩
 have U:Room 1 _:=hr.mono (by decide)
 have aN:Room 2 _:=hr.mono (by decide)
 have aM:Room 7 _:=hr.mono (by decide)
 have aL:Room 8 _:=hr.mono (by decide)
 refine⟨_,(@zad _ _ _ _ _ (@zbP _ _ _ _ _ _ _ _ Yw rfl (@zbb _ _ _ _ _ _ rfl G.range (@zaa _ _ _ _ _ (@zaq _ _ _ _ _ _ _ _ _ (zfe rfl) (by rfl) G.max (by rfl) (@zaa _ _ _ _ _ zae (@zaa _ _ _ _ _ (@zaq _ _ _ _ _ _ _ _ _ (zfd rfl) (by rfl) G.min (by rfl) (@zaa _ _ _ _ _ (@zaq _ _ _ _ _ _ _ _ _ zas (by rfl) G.len Yn (@zaa _ _ _ _ _ (@qv _ 0 _ _ (by trivial)) zac (by rfl)) (by decide) (by decide) (by rfl) (by rfl)) (@zaa _ _ _ _ _ zae zac (by rfl)) (by rfl)) (by decide) (by decide) (by rfl) (by rfl)) zac (by rfl)) (by rfl)) (by decide) (by decide) (by rfl) (by rfl)) zac (by rfl)) (by rfl)) (@zaj _ _ 1 _ scLw.nd rfl (.inl rfl) (by trivial)) (@zad _ _ _ _ _ (@zav _ _ 2 _ _ _ _ scLw.nd rfl (.inl rfl) (@zam _ _ _ _ _ _ _ _ _ _ _ _ _ _ _ _ UL.ok U (by rfl) UL.m UL.kp UL.b .nil zaD (@zaa _ _ _ _ _ (@qv _ 0 _ _ (by trivial)) (@zaa _ _ _ _ _ (@qv _ 1 _ _ (by trivial)) zac (by rfl)) (by rfl)) (by decide) (by rfl) (by rfl)) (by rfl) (by trivial)) (@zad _ _ _ _ _ (@zav _ _ 3 _ _ _ _ scLw.nd rfl (.inl rfl) (@zam _ _ _ _ _ _ _ _ _ _ _ _ _ _ _ _ UN.ok hr (by rfl) UN.m UN.kp UN.b .nil zaD (@zaa _ _ _ _ _ (@qv _ 2 _ _ (by trivial)) zac (by rfl)) (by decide) (by rfl) (by rfl)) (by rfl) (by trivial)) (@zad _ _ _ _ _ (@zav _ _ 4 _ _ _ _ scLw.nd rfl (.inr rfl) (@zam _ _ _ _ _ _ _ _ _ _ _ _ _ _ _ _ US.ok aN (by rfl) US.m US.kp US.b .nil zaD (@zaa _ _ _ _ _ (@qv _ 2 _ _ (by trivial)) (@zaa _ _ _ _ _ (@qv _ 3 _ _ (by trivial)) zac (by rfl)) (by rfl)) (by decide) (by rfl) (by rfl)) (by rfl) (by trivial)) (@zad _ _ _ _ _ (@zav _ _ 5 _ _ _ _ scLw.nd rfl (.inr rfl) (@zam _ _ _ _ _ _ _ _ _ _ _ _ _ _ _ _ UV.ok aL (by rfl) UV.m UV.kp UV.b .nil zaD (@zaa _ _ _ _ _ (@qv _ 3 _ _ (by trivial)) (@zaa _ _ _ _ _ (@qv _ 4 _ _ (by trivial)) (@zaa _ _ _ _ _ zae zac (by rfl)) (by rfl)) (by rfl)) (by decide) (by rfl) (by rfl)) (by rfl) (by trivial)) (@zad _ _ _ _ _ (@zav _ _ 6 _ _ _ _ scLw.nd rfl (.inl rfl) (@zej _ _ _ _ _ _ _ _ (@zaz _ _ _ _ _ _ _ _ zbQ (@zay _ _ _ _ _ _ _ zaK (@qv _ 5 _ _ (by trivial)) zae (λ_ _=>rfl)) zcp (zaG _)) (@zaq _ _ _ _ _ _ _ _ _ (zjt rfl false) (by rfl) G.sum (by rfl) (@zaa _ _ _ _ _ (@zay _ _ _ _ _ _ _ zaK (@qv _ 5 _ _ (by trivial)) zae (λ_ _=>rfl)) zac (by rfl)) (by decide) (by decide) (by rfl) (by rfl)) zae) (by rfl) (by trivial)) (@zad _ _ _ _ _ (@zbc _ _ _ _ _ _ _ _ (@zaz _ _ _ _ _ _ _ _ zbQ (@zay _ _ _ _ _ _ _ zaK (@qv _ 5 _ _ (by trivial)) zae (λ_ _=>rfl)) zcp (zaG _)) (@zad _ _ _ _ _ (@zeh _ 7 _ _ _ _ (some _) _ _ _ _ _ _ _ _ ["_law_lane","_law_some_here"] [none,some 4] scLw.nd rfl rfl rfl (@zbb _ _ _ _ _ _ rfl G.range (@zaa _ _ _ _ _ (@zay _ _ _ _ _ _ _ zaK (@qv _ 3 _ _ (by trivial)) zae (λ_ _=>rfl)) zac (by rfl)) (by rfl)) (CapOk.of (by kernel_rfl)) (λ_ _ _ _ _=>(@zaj _ _ 0 _ (show (["_law_lane","_law_some_here"]:List Str).Nodup from by decide +kernel) rfl (.inl rfl) (.inr rfl))) (λ_ _ _ _ _=>(@zh9 _ _ _ (@zaz _ _ _ _ _ _ _ (rIn K true) zeT (@qv _ 0 _ _ (by trivial)) (@qv _ 1 _ _ (by trivial)) (by rfl)))) (λ_ _ _ _ _=>(@qv _ 0 _ _ (by trivial))) (by intro _;rfl) (by with_unfolding_all rfl)) (@zad _ _ _ _ _ (@zbc _ _ _ _ _ _ _ _ (@zmF _ _ _ _ _ _ _ (@zaz _ _ _ _ _ _ _ _ zj8 (@zaq _ _ _ _ _ _ _ _ _ zas (by rfl) G.len Yn (@zaa _ _ _ _ _ (@zay _ _ _ _ _ _ _ zaK (@qv _ 5 _ _ (by trivial)) zae (λ_ _=>rfl)) zac (by rfl)) (by decide) (by decide) (by rfl) (by rfl)) (@zay _ _ _ _ _ _ _ zaK (@qv _ 3 _ _ (by trivial)) zae (λ_ _=>rfl)) (zaG _)) (@zk4 _ _ _ _ (@zk6 _ _ _ (@zaq _ _ _ _ _ _ _ _ _ (zjz rfl true) (by rfl) GA.any (by rfl) (@zaa _ _ _ _ _ (@zig _ _ _ _ none _ _ _ _ _ _ ["_law_lane","_law_told"] [none,some 5] rfl (@zdj _ _ _ _ (@qv _ 7 _ _ (by trivial))) (CapOk.of (by kernel_rfl)) (λ_ _ _ _ _=>(@zaj _ _ 0 _ (show (["_law_lane","_law_told"]:List Str).Nodup from by decide +kernel) rfl (.inl rfl) (.inr rfl))) (λ_ _ _ _ _=>zcb) (λ_ _ _ _ _=>(@zbt _ _ _ _ _ _ _ _ zj8 (@zay _ _ _ _ _ _ (rIxT K) zaK (@zay _ _ _ _ _ _ (rIxT K) zaK (@qv _ 1 _ _ (by trivial)) zae (λ_ _=>rfl)) (@qv _ 0 _ _ (by trivial)) (λ_ _=>rfl)) zae (zaG _))) (by intro _;rfl)) zac (by rfl)) (by decide) (by decide) (by rfl) (by rfl)) (by intro _;rfl)))).pt (@zai _ _ _ (@zat _ _ _ _ zih)) zaI) (@zai _ _ _ (@zbc _ _ _ _ _ _ _ _ (@zmF _ _ _ _ _ _ _ (@zaz _ _ _ _ _ _ _ _ zlO (@zaq _ _ _ _ _ _ _ _ _ (zjw rfl false) (by rfl) G.min (by rfl) (@zaa _ _ _ _ _ (@zay _ _ _ _ _ _ _ zaK (@qv _ 5 _ _ (by trivial)) zae (λ_ _=>rfl)) zac (by rfl)) (by decide) (by decide) (by rfl) (by rfl)) zae (zaG _)) (@zk4 _ _ _ _ (@zc6 _ _ _ (@zam _ _ _ _ _ _ _ _ _ _ _ _ _ _ _ _ UR.ok U (by rfl) UR.m UR.kp UR.b .nil zaD (@zaa _ _ _ _ _ (@zam _ _ _ _ _ _ _ _ _ _ _ _ _ _ _ _ UE.ok U (by rfl) UE.m UE.kp UE.b .nil zaD (@zaa _ _ _ _ _ (@qv _ 3 _ _ (by trivial)) (@zaa _ _ _ _ _ (@zay _ _ _ _ _ _ _ zaK (@qv _ 5 _ _ (by trivial)) zae (λ_ _=>rfl)) zac (by rfl)) (by rfl)) (by decide) (by rfl) (by rfl)) zac (by rfl)) (by decide) (by rfl) (by rfl)) (λ_=>rfl)))).pt (@zai _ _ _ (@zat _ _ _ _ zih)) zaI)))) zaI) (@zad _ _ _ _ _ (@zav _ _ 8 _ _ _ _ scLw.nd rfl (.inl rfl) zae (by rfl) (by trivial)) (@zai _ _ _ (@zbP _ _ _ _ _ _ _ _ Yw rfl (@zbb _ _ _ _ _ _ rfl G.range (@zaa _ _ _ _ _ (@zao _ _ _ _ _ _ _ _ zaW (@zaq _ _ _ _ _ _ _ _ _ (zfd rfl) (by rfl) G.min (by rfl) (@zaa _ _ _ _ _ (@qv _ 6 _ _ (by trivial)) (@zaa _ _ _ _ _ zae zac (by rfl)) (by rfl)) (by decide) (by decide) (by rfl) (by rfl)) zae) zac (by rfl)) (by rfl)) (@zaj _ _ 9 _ scLw.nd rfl (.inl rfl) (by trivial)) (@zai _ _ _ (@zbP _ _ _ _ _ _ _ _ Yw rfl (@zdj _ _ _ _ (@zaF _ _ _ _ _ _ _ _ _ _ zb9 (@zam _ _ _ _ _ _ _ _ _ _ _ _ _ _ _ _ UA.ok aM (by rfl) UA.m UA.kp UA.b .nil zaD (@zaa _ _ _ _ _ (@zay _ _ _ _ _ _ _ zaK (@qv _ 3 _ _ (by trivial)) zae (λ_ _=>rfl)) (@zaa _ _ _ _ _ (@qv _ 4 _ _ (by trivial)) (@zaa _ _ _ _ _ (@qv _ 9 _ _ (by trivial)) zac (by rfl)) (by rfl)) (by rfl)) (by decide) (by rfl) (by rfl)) zaP (@zaA _ _ _ (@zaq _ _ _ _ _ _ _ _ _ (zfe rfl) (by rfl) G.max (by rfl) (@zaa _ _ _ _ _ zae (@zaa _ _ _ _ _ (@zao _ _ _ _ _ _ _ _ zbS zae (@qv _ 8 _ _ (by trivial))) zac (by rfl)) (by rfl)) (by decide) (by decide) (by rfl) (by rfl))))) (@zaj _ _ 10 _ scLw.nd rfl (.inl rfl) (by trivial)) (@zad _ _ _ _ _ (@zav _ _ 11 _ _ _ _ scLw.nd rfl (.inl rfl) (@zmI _ _ _ _ _ _ _ (@zbt _ _ _ _ _ _ _ _ zlO (@qv _ 9 _ _ (by trivial)) (@qv _ 6 _ _ (by trivial)) (zaG _)) (@zmI _ _ _ _ _ _ _ (@zbt _ _ _ _ _ _ _ _ zbQ (@zay _ _ _ _ _ _ _ zaK (@qv _ 5 _ _ (by trivial)) zae (λ_ _=>rfl)) zcp (zaG _)) (@zk8 _ _ _ _ _ (@zbt _ _ _ _ _ _ _ _ (zmM (by exact hr.units0)) (@qv _ 10 _ _ (by trivial)) (@zay _ _ _ _ _ _ _ zaK (@qv _ 5 _ _ (by trivial)) zae (λ_ _=>rfl)) (zaG _))))) (by rfl) (by trivial)) (@zad _ _ _ _ _ (@zbc _ _ _ _ _ _ _ _ (@zk5 _ _ _ _ _ _ _ (@zc6 _ _ _ (@qv _ 11 _ _ (by trivial)) (λ_=>rfl)) (@zk5 _ _ _ _ _ _ _ (@zaz _ _ _ _ _ _ _ _ zj8 (@zay _ _ _ _ _ _ _ zaK (@qv _ 5 _ _ (by trivial)) zae (λ_ _=>rfl)) zcp (zaG _)) (@zlF _ _ _ _ (@zmG _ _ _ _ (@zc6 _ _ _ (@zam _ _ _ _ _ _ _ _ _ _ _ _ _ _ _ _ UR.ok U (by rfl) UR.m UR.kp UR.b .nil zaD (@zaa _ _ _ _ _ (@zam _ _ _ _ _ _ _ _ _ _ _ _ _ _ _ _ UE.ok U (by rfl) UE.m UE.kp UE.b .nil zaD (@zaa _ _ _ _ _ (@qv _ 3 _ _ (by trivial)) (@zaa _ _ _ _ _ (@qv _ 10 _ _ (by trivial)) zac (by rfl)) (by rfl)) (by decide) (by rfl) (by rfl)) zac (by rfl)) (by decide) (by rfl) (by rfl)) (λ_=>rfl)))))).pt (@zai _ _ _ (@zat _ _ _ _ zih)) zaI) (@zai _ _ _ (@zav _ _ 8 _ _ _ _ scLw.nd rfl (.inl rfl) (@zao _ _ _ _ _ _ _ _ zaW (@qv _ 8 _ _ (by trivial)) zae) (by rfl) (by trivial))))) (by intro _;rfl))) (by intro _;rfl)))))))))) (by intro _;rfl)) (@zai _ _ _ (@zat _ _ _ _ zih))),?_⟩
 have ml:(ns.map V.int).length=ns.length:=Jh _
 refine⟨_,rfl,a,_,rfl,.inl hS,_,_,rfl,_,_,rfl,?_⟩
 rw[ml]
 have e6:(if (if (5:Int)<(ns.length:Nat) then (5:Int) else (ns.length:Nat)) > 1 then (if (5:Int)<(ns.length:Nat) then (5:Int) else (ns.length:Nat)) else 1)<=5/\(1:Int)<=(if (if (5:Int)<(ns.length:Nat) then (5:Int) else (ns.length:Nat)) > 1 then (if (5:Int)<(ns.length:Nat) then (5:Int) else (ns.length:Nat)) else 1):=by
  split<;>split at *<;>lia
 refine⟨_,rfl,by lia,by lia,?_⟩
 generalize (if (if (5:Int)<(ns.length:Nat) then (5:Int) else (ns.length:Nat)) > 1 then (if (5:Int)<(ns.length:Nat) then (5:Int) else (ns.length:Nat)) else 1)=cnt at e6
 refine zbU (lo:=0) (n:=cnt.toNat) (λi σ O=>(∃ v1 v2 v3 v4 v5 v6 v7 v8 v9 v10 v11,σ=[some (.ref a),v1,v2,v3,v4,v5,v6,v7,v8,v9,v10,v11])/\Scr K a (ns.map V.int) O/\TabQ qV Pt O) ⟨⟨_,_,_,_,_,_,_,_,_,_,_,rfl⟩,Scr.of hS,tab⟩ ?_ ?_
 ·rintro i σ O hi ⟨⟨v1,v2,v3,v4,v5,v6,v7,v8,v9,v10,v11,rfl⟩,scr,tab⟩
  have i6:i<5:=by lia
  refine⟨_,rfl,_,rfl,a,ns,_,rfl,scr.sq,aP,by lia,by lia,λl H3 hl S S3=>?_⟩
  have am:LE K a l Pt (ns.map V.int) H3:=⟨S3,tab.same S,scr.keep λo e _=>.inr (S _ _ e),by
   rcases scr with z|⟨o,z⟩|z
   ·exact .inl (zag z hl)
   ·exact .inl (zag z hl)
   ·exact .inr z⟩
  clear scr tab S hl S3
  refine⟨_,rfl,l,rfl,am.S,λr fr er ps N H9 few aE na S9 B9=>?_⟩
  have ak:=am.pick S9 B9
  clear am B9
  have ok:=few.ok
  have l16:=ok.l16
  have l1:=ok.l1
  have l6:=few.ln
  refine⟨_,rfl,_,rfl,l,r,fr,er,ps,N,rfl,S9,ok,na,λp moves aW ln hp aD ar=>?_⟩
  have I:=ak.pick aD ar
  have Z:=na.tups (ar.tups3 ak.S)
  have aT:=ln.len
  refine⟨_,rfl,_,rfl,r,fr,er,ps,N,p,moves,4000,rfl,ok,Z,hp,ln.lt,by lia,by decide,by decide,I.tab,λq Y aq aa tell=>?_⟩
  have ad:=I.ver aa aq
  have aj:=zjP I.tab aq
  have v:=Z.tups aj
  have ae:=aj _ _ hp
  clear na Z hp ak I ar aq S9 aD aj aa
  obtain⟨d,told⟩:∃ d,ToldAt N moves Y q d:=by
   have no:=zeK ok aE moves
   have ca:=zjs (step:=za6 N) (moves:=moves) (k0:=k0P N) (c0:=zL N) (most:=4000)
   cases hR:zbk N moves 4000 with
   | opn=>exact absurd hR no
   | brk c =>
    rw[hR]at tell
    rw[show za4 (za6 N) moves 4000 (4000+1) [(k0P N,zL N)] [] []=.brk c from hR]at ca
    obtain⟨L,g,tc⟩:=tell
    obtain⟨n,nm,B⟩:=ca
    exact⟨n+1,.inl ⟨L,c,n,g,tc,B,nm,rfl⟩⟩
   | whl ls =>
    rw[hR]at tell
    rw[show za4 (za6 N) moves 4000 (4000+1) [(k0P N,zL N)] [] []=.whl ls from hR]at ca
    obtain⟨bk,g⟩:=tell
    exact⟨3,.inr ⟨bk,_,g,ca.1,rfl⟩⟩
  clear tell
  refine gset (λ_ _=>True) ?_
  refine zhT (λσ X=>σ=[some (.ref a),some (.int (0+(i:Nat))),some (.ref l),some (.ref r),some (.ref p),some (.ref q),some (.int (d:Nat)),v7,v8,v9,v10,v11]/\X=Y) ?_ λD t _=>?_
  rotate_left
  ·rcases told with ⟨L,c,n,g,tc,B,nm,rfl⟩|⟨b,ks,g,sh,rfl⟩
   ·refine⟨_,rfl,q,_,_,_,rfl,rfl,SqT.of g,rfl,rfl,true,JS V.bl (JB rfl),iteT ⟨_,rfl,q,_,_,_,rfl,rfl,SqT.of g,rfl,L,c,rfl,SqT.of tc,t _ _ ⟨?_,rfl⟩⟩⟩
    have e:=(zdd ln.lt B).sum
    rw[e];rfl
   ·exact⟨_,rfl,q,_,_,_,rfl,rfl,SqT.of g,rfl,rfl,false,JS V.bl (Jt λz=>absurd (V.str.inj z) (by decide)),iteF (t _ _ ⟨rfl,rfl⟩)⟩
  rintro σ X ⟨rfl,eH⟩
  rw[eH]
  clear eH
  refine ze3 (λσ X=>(∃ v7,σ=[some (.ref a),some (.int (0+(i:Nat))),some (.ref l),some (.ref r),some (.ref p),some (.ref q),some (.int (d:Nat)),v7,v8,v9,v10,v11])/\Same Y X) ?_ λD t rt=>?_
  rotate_left
  ·rcases told with ⟨L,c,n,g,tc,B,nm,rfl⟩|⟨b,ks,g,sh,rfl⟩
   ·refine⟨_,rfl,q,_,_,_,rfl,rfl,SqT.of g,rfl,rfl,true,JS V.bl (JB rfl),iteT ?_⟩
    have R:=zdd ln.lt B
    refine⟨_,rfl,r,_,_,_,rfl,rfl,SqT.of v.net,rfl,_,rfl,by lia,by lia,λlc ao=>?_⟩
    refine ze1 (lo:=0) (n:=((N.lanes:Nat):Int).toNat) (λj acc σ O=>(∃ v0,σ=[v0,some (.ref p)])/\Same Y O/\O lc=some (.lst acc)/\∃ ms:List Nat,acc=nums ms/\ms.length<=j/\∀ m∈ms,m<N.lanes/\m∉moves) ⟨⟨_,rfl⟩,zab ao _,zap ao _,[],rfl,Jg _,λm hm=>(nomatch hm)⟩ (λj acc σ O z=>z.2.2.1) ?_ ?_
    ·rintro j acc σ O hj ⟨⟨v0,rfl⟩,s2,h2,ms,rfl,ml,mo⟩
     have e0:(0:Int)+((j:Nat):Int)=((j:Nat):Int):=Int.zero_add _
     refine⟨_,rfl,_,rfl,p,_,rfl,.inr (SqT.of (s2 _ _ ae)),rfl,ze8 moves,_,rfl,ite2 (λy=>?_) (λ_=>?_)⟩
     ·refine⟨_,rfl,h2,by rw[zar,JE];lia,nx (by lia) ⟨⟨_,rfl⟩,λb o e=>?_,zaf,ms++[j],?_,by rw[Jb];show _+1<=_;lia,λm hm=>?_⟩⟩
      ·rw[zah (zag e ao)];exact s2 b o e
      ·rw[<- zkx,e0];rfl
      ·rcases Jz.mp hm with z|z
       ·exact mo m z
       ·rw[Je.mp z]
        rw[Jf rfl,e0,zgB]at y
        refine⟨by lia,λx=>?_⟩
        rw[JB x]at y;cases y
     ·exact nx (by lia) ⟨⟨_,rfl⟩,s2,h2,ms,rfl,by lia,mo⟩
    rintro acc σ O ⟨⟨v0,rfl⟩,s2,h2,ms,rfl,ml,mo⟩
    have ag:=s2 _ _ g
    have ai:=s2 _ _ tc
    have aK:=v.tups (Tups.of s2)
    have cl:=R.len
    have aR:(c.map V.int).length=c.length:=Jh _
    refine⟨_,rfl,q,_,_,_,rfl,rfl,SqT.of ag,rfl,L,_,rfl,.inr (SqT.of ai),_,rfl,r,_,_,_,rfl,rfl,SqT.of aK.net,rfl,rfl,false,?_,iteF ?_⟩
    ·rw[aR,cl]
     show V.bl (!decide (V.int ((N.lanes:Nat):Int)=V.int ((N.lanes:Nat):Int)))=V.bl false
     rw[JB rfl];rfl
    refine⟨_,rfl,lc,rfl,⟨_,SqL.of h2⟩,λaA ab=>?_⟩
    refine ziT (K:=K) (a:=lc) (xs:=nums ms) (λj acc σ H3=>(∃ v0,σ=[v0,some (.ref q)])/\Same O H3/\H3 aA=some (.lst acc)/\acc=List.map V.bl (List.replicate j false)) ⟨⟨_,rfl⟩,zab ab _,zap ab _,rfl⟩ (λj acc σ H3 z=>⟨z.2.2.1,SqL.of (z.2.1 _ _ h2)⟩) ?_ ?_
    ·rintro j x acc σ H3 hx ⟨⟨v0,rfl⟩,S,h3,rfl⟩
     have jl:=(Jd.mp hx).1
     obtain⟨m,hm,rfl⟩:=JD.mp (JT hx)
     obtain⟨m1,m2⟩:=mo m hm
     have cz:=R.oth m m1 m2
     have ca:(c.map V.int)[m]?=some (.int 0):=by
      rw[JP,J7 (by lia)]
      rw[J9,J7 (by lia)]at cz
      exact JS (λz=>some (V.int z)) cz
     rw[zar]at jl
     refine⟨_,rfl,q,_,_,_,rfl,rfl,SqT.of (S _ _ ag),rfl,_,rfl,L,_,_,_,rfl,rfl,SqT.of (S _ _ ai),zaR ca,rfl,h3,by rw[Jh,Y3,JE];lia,nx (by rw[zar];exact jl) ⟨⟨_,rfl⟩,λb o e=>?_,zaf,by rw[List.replicate_succ',Y2];rfl⟩⟩
     rw[zah (zag e ab)];exact S b o e
    rintro acc σ H3 ⟨⟨v0,rfl⟩,S,h3,rfl⟩
    refine⟨aA,_,rfl,SqL.of h3,false,JS V.bl (List.any_eq_false.mpr λx hx=>by rw[List.eq_of_mem_replicate hx];exact λz=>by cases z),iteF ?_⟩
    have u3:=s2.trans S
    have ax:=S _ _ ag
    have ay:=S _ _ ai
    refine⟨_,rfl,q,_,_,_,rfl,rfl,SqT.of ax,rfl,L,c,rfl,SqT.of ay,by lia,λM mM _=>?_⟩
    refine⟨_,_,rfl,rfl,false,JS V.bl (Jt (by have:=R.nn M mM;lia)),iteF ?_⟩
    refine⟨_,rfl,_,rfl,q,_,_,_,rfl,rfl,SqT.of ax,rfl,r,fr,er,ps,N,L,c,rfl,ok,v.tups (Tups.of u3),ay,cl,λpe H4 s4 he=>?_⟩
    have el:(zbj N c).length=N.lanes:=by unfold zbj;rw[Jh,ok.en.length_eq,Y0]
    refine⟨pe,_,rfl,he,by lia,by lia,λH5 s5=>?_⟩
    rw[zhn ok ln.lt B]
    exact⟨false,rfl,iteF (t _ _ ⟨⟨_,rfl⟩,(u3.trans s4).trans s5⟩)⟩
   ·exact⟨_,rfl,q,_,_,_,rfl,rfl,SqT.of g,rfl,rfl,false,JS V.bl (Jt λz=>absurd (V.str.inj z) (by decide)),iteF (t _ _ ⟨⟨_,rfl⟩,λ_ _ e=>e⟩)⟩
  rintro σ X ⟨⟨v7,rfl⟩,aJ⟩
  refine znf ?_
  refine⟨_,rfl,_,_,rfl,_,_,rfl,rfl,_,rfl,?_,?_,?_⟩
  ·split<;>lia
  ·split<;>lia
  have tp:((if (9:Int)<((d:Nat):Int) then (9:Int) else ((d:Nat):Int))+1)<=10/\((if (9:Int)<((d:Nat):Int) then (9:Int) else ((d:Nat):Int))+1)<=d+1:=by split<;>lia
  generalize ((if (9:Int)<((d:Nat):Int) then (9:Int) else ((d:Nat):Int))+1)=top at tp
  refine zbU (lo:=0) (n:=top.toNat) (λj σ ap=>(∃ (gone:Int) (v9 v10 v11:Option V),σ=[some (.ref a),some (.int (0+(i:Nat))),some (.ref l),some (.ref r),some (.ref p),some (.ref q),some (.int (d:Nat)),v7,some (.int gone),v9,v10,v11])/\Same Y ap) ⟨⟨_,_,_,_,rfl⟩,aJ⟩ ?_ ?_
  ·rintro j σ ap hj ⟨⟨gone,v9,v10,v11,rfl⟩,J⟩
   have jt:j<=d:=by lia
   refine⟨_,rfl,r,_,_,_,rfl,rfl,SqT.of (J _ _ v.net),rfl,_,rfl,_,rfl,N.lanes,l6,p,moves,j,by rw[Int.zero_add];rfl,l6,by lia,J _ _ ae,by lia,λlr xs aS aI aQ xl xa=>?_⟩
   refine⟨_,rfl,_,_,rfl,rfl,_,_,rfl,_,rfl,lr,xs,rfl,SqL.of aQ,λp2 aB=>?_⟩
   generalize (some (if 3000-gone > 0 then 3000-gone else 0):Option Int)=cut
   have az:=zab aB (.lst (cutV xs none cut))
   have aC:=zap aB (.lst (cutV xs none cut))
   have aw:=(J.trans aI).trans az
   refine⟨p2,rfl,⟨_,SqL.of aC⟩,?_⟩
   refine zkJ (K:=K) (a:=p2) (xs:=cutV xs none cut) (λm σ C=>(∃ (gone:Int) (v10 v11:Option V),σ=[some (.ref a),some (.int (0+(i:Nat))),some (.ref l),some (.ref r),some (.ref p),some (.ref q),some (.int (d:Nat)),v7,some (.int gone),some (.int (0+(j:Nat))),v10,v11])/\Same (L2.upd aS p2 (.lst (cutV xs none cut))) C) ⟨⟨_,_,_,rfl⟩,λ_ _ e=>e⟩ (λm σ C _ z=>SqL.of (z.2 _ _ aC)) ?_ ?_
   ·rintro m x σ C hx ⟨⟨gone,v10,v11,rfl⟩,T⟩
    obtain⟨b,row,rfl,hb,R⟩:=xa x (cut_mem (JT hx))
    have av:=aw.trans T
    have af:=T _ _ (az _ _ hb)
    have u:=told.tups (Tups.of av)
    refine znK ?_
    refine zhT (λσ W=>∃ ah:Bool,σ=[some (.ref a),some (.int (0+(i:Nat))),some (.ref l),some (.ref r),some (.ref p),some (.ref q),some (.int (d:Nat)),v7,some (.int gone),some (.int (0+(j:Nat))),some (.ref b),some (.bl ah)]/\(ah=true->zbO (zbj N row)=true)/\W=C) ?_ λD t _=>?_
    rotate_left
    ·refine⟨_,rfl,_,rfl,_,_,rfl,rfl,_,rfl,ite2 (λy=>?_) (λy=>?_)⟩
     ·have lt:=YF y
      refine t _ _ ⟨true,rfl,λ_=>?_,rfl⟩
      rcases u with ⟨L,c,n,g,tc,B,nm,rfl⟩|⟨b,ks,g,sh,rfl⟩
      ·exact R.fewer ok ln.lt B (by lia)
      ·exact R.shut ok ln.lt sh
     ·have ge:¬((0:Int)+(j:Nat)<(d:Nat)):=λz=>y (JB z)
      rcases u with ⟨L,c,n,g,tc,B,nm,rfl⟩|⟨b,ks,g,sh,rfl⟩
      ·refine⟨_,rfl,q,_,_,_,rfl,rfl,SqT.of g,rfl,rfl,false,JS V.bl (Jt λz=>absurd (V.str.inj z) (by decide)),iteF ?_⟩
       refine⟨_,rfl,_,rfl,q,_,_,_,rfl,rfl,SqT.of g,rfl,b,L,row,c,rfl,rfl,SqT.of af,SqT.of tc,?_⟩
       exact t _ _ ⟨_,rfl,λz=>R.less ok ln.lt B (zdd ln.lt B).len (by lia) z,rfl⟩
      ·exact⟨_,rfl,q,_,_,_,rfl,rfl,SqT.of g,rfl,rfl,true,JS V.bl (JB rfl),iteT (t _ _ ⟨true,rfl,λ_=>R.shut ok ln.lt sh,rfl⟩)⟩
    rintro σ W ⟨ah,rfl,st,eH⟩
    rw[eH]
    clear eH
    refine ze3 (λσ W=>σ=[some (.ref a),some (.int (0+(i:Nat))),some (.ref l),some (.ref r),some (.ref p),some (.ref q),some (.int (d:Nat)),v7,some (.int gone),some (.int (0+(j:Nat))),some (.ref b),some (.bl ah)]/\Same C W) ?_ λD t _=>?_
    ·rintro σ W ⟨rfl,aH⟩
     exact⟨_,rfl,_,_,rfl,rfl,⟨_,_,_,rfl⟩,T.trans aH⟩
    cases ah with
    | false=>exact⟨_,rfl,false,rfl,iteF (iteF (t _ _ ⟨rfl,λ_ _ e=>e⟩))⟩
    | true =>
     have tagged:∃ tag w,C q=some (.tup [.str tag,w])/\tag≠"open":=by
      rcases u with ⟨L,c,n,g,_⟩|⟨b,ks,g,_⟩
      ·exact⟨_,_,g,by decide⟩
      ·exact⟨_,_,g,by decide⟩
     obtain⟨tag,wv,g,au⟩:=tagged
     refine⟨_,rfl,true,rfl,iteT ⟨_,rfl,q,_,_,_,rfl,rfl,SqT.of g,rfl,rfl,true,?_,iteT ?_⟩⟩
     ·show V.bl (!decide (V.str tag=V.str "open"))=V.bl true
      rw[Jt λz=>au (V.str.inj z)];rfl
     have rl:=R.len
     have el:(zbj N row).length=N.lanes:=by unfold zbj;rw[Jh,ok.en.length_eq,Y0]
     refine⟨_,rfl,_,rfl,r,fr,er,ps,N,b,row,rfl,ok,v.tups (Tups.of av),af,rl,λpe aV aG he=>?_⟩
     refine⟨pe,_,rfl,he,by lia,by lia,λaU aF=>?_⟩
     rw[st rfl]
     exact⟨true,rfl,iteF (t _ _ ⟨rfl,aG.trans aF⟩)⟩
   ·rintro σ C ⟨⟨gone,v10,v11,rfl⟩,T⟩
    exact⟨⟨_,_,_,_,rfl⟩,aw.trans T⟩
  ·rintro σ ap ⟨⟨gone,v9,v10,v11,rfl⟩,J⟩
   exact⟨⟨_,_,_,_,_,_,_,_,_,_,_,rfl⟩,(ad.same J).scr,(ad.same J).tab⟩
 ·rintro σ O _
  exact k O
end
structure FnAt (K:PySem.W.Frag) (x:Str) (st:Stmt) (f:Addr) (fd:FuncData):Prop where
 ns:PySem.W.nsIn K mainGlobals x=some (some (.ref f))
 fn:Fun K x x st f fd
theorem za8 {K:PySem.W.Frag}{x:Str}{st:Stmt}{f:Addr}{oc:Value}{od an:Option Addr}{osl:Array (Option Value)}{kV doc pm cdv ct:Value}(a:PySem.W.nsIn K mainGlobals x=some (some (.ref f)))
  (l:K.lookup f=some ⟨oc,od,.func (PySem.W.fnOf x x (zbM st) (zbd st) (zal st) .none kV doc pm an cdv ct),osl⟩) (c:PySem.W.codeIn K cdv x=true) (k:PySem.W.keepIn K (.ref f)=true):FnAt K x st f (PySem.W.fnOf x x (zbM st) (zbd st) (zal st) .none kV doc pm an cdv ct):=⟨a,zm7 l c k⟩
structure FnAtC (K:PySem.W.Frag) (x:Str) (st:Stmt) (f:Addr) (fd:FuncData) (c:Addr):Prop where
 ns:PySem.W.nsIn K mainGlobals x=some (some (.ref f))
 fn:FunC K x x st f fd c
theorem zm9 {K:PySem.W.Frag}{x:Str}{st:Stmt}{f c:Addr}{oc:Value}{od an:Option Addr}{osl:Array (Option Value)}{kV doc pm ct:Value}(a:PySem.W.nsIn K mainGlobals x=some (some (.ref f)))
  (l:K.lookup f=some ⟨oc,od,.func (PySem.W.fnOf x x (zbM st) (zbd st) (zal st) .none kV doc pm an (.ref c) ct),osl⟩) (cd:PySem.W.codeIn K (.ref c) x=true) (k:PySem.W.keepIn K (.ref f)=true):FnAtC K x st f (PySem.W.fnOf x x (zbM st) (zbd st) (zal st) .none kV doc pm an (.ref c) ct) c:=⟨a,⟨⟨_,_,_,_,_,_,_,_,rfl,l,cd⟩,k⟩⟩
theorem _root_.L2.FunC.fun {K:PySem.W.Frag}{x qual:Str}{st:Stmt}{f:Addr}{fd:FuncData}{c:Addr}(F:FunC K x qual st f fd c):Fun K x qual st f fd:=by
 obtain⟨oc,od,kV,doc,pm,an,ct,osl,e,l,q⟩:=F.ex
 exact⟨⟨oc,od,kV,doc,pm,an,.ref c,ct,osl,e,l,q⟩,F.kp⟩
theorem zjo {K:PySem.W.Frag}{c P:Addr}{od:Option Addr}{vs:Array Value}{osl:Array (Option Value)}(l:K.lookup c=some ⟨.type "code",od,.fields vs,osl⟩) (e:PySem.W.codeHdIn [(c,⟨.type "code",od,.fields vs,osl⟩)] c P=true):PySem.W.codeHdIn K c P=true:=by
 have q:List.lookup c [(c,(⟨.type "code",od,.fields vs,osl⟩:Obj))]=some ⟨.type "code",od,.fields vs,osl⟩:=by rw[YD,ZB]
 unfold PySem.W.codeHdIn at e ⊢
 rw[q]at e
 rw[l];exact e
theorem us1 {us:List Value}(h:us.length=1):∃ a,us=[a]:=by
 match us,h with
 | [a],_=>exact⟨a,rfl⟩
theorem us2 {us:List Value}(h:us.length=2):∃ b a,us=[b,a]:=by
 match us,h with
 | [b,a],_=>exact⟨b,a,rfl⟩
theorem us3 {us:List Value}(h:us.length=3):∃ c b a,us=[c,b,a]:=by
 match us,h with
 | [c,b,a],_=>exact⟨c,b,a,rfl⟩
theorem us4 {us:List Value}(h:us.length=4):∃ c b a u3,us=[c,b,a,u3]:=by
 match us,h with
 | [c,b,a,u3],_=>exact⟨c,b,a,u3,rfl⟩
theorem us5 {us:List Value}(h:us.length=5):∃ d c b u3 a,us=[d,c,b,u3,a]:=by
 match us,h with
 | [d,c,b,u3,a],_=>exact⟨d,c,b,u3,a,rfl⟩
set_option maxHeartbeats 4000001 in
theorem zng {l:PySem.W.OpenLaw}{w:World}{K:PySem.W.Frag}{h:Heap}{mg:Str->Option Value}{fa f1 f2 f3 f4 f5 f6 f7 f8 f9 ah a9 ag af ae ad ab aa Z Y W V U T S R Q P a8:Addr}{d1 d2 d3 d4 d5 d6 d7 d8 d9 aD ba aC aB aA az ay ax aw av au ar aq ap ao am ak aj ai:FuncData}(X:K.In h) (G:h.Ns mainGlobals mg) (a7:mg "law" = some (.ref fa))
  {f Pt:Addr}
  (A1:FnAt K "end_of" sEnd f1 d1)
  (A2:FnAt K "run_through" sRun f2 d2)
  (A3:FnAt K "passed" zfy f3 d3)
  (A4:FnAt K "given_at" zh3 f4 d4)
  (A5:FnAt K "added" zh5 f5 d5)
  (A6:FnAt K "first_turns" zfA f6 d6)
  (A7:FnAt K "first_pair" zfB f7 d7)
  (A8:FnAt K "pair_behind" zhZ f8 d8)
  (A9:FnAt K "next_level" sNxl f9 d9)
  (E:FnAt K "climbed" sClm ah aD)
  (D:FnAt K "book_of" zlB a9 ba)
  (C:FnAtC K "verdict" zhV ag aC f)
  (B:FnAt K "_law_left" zlA af aB)
  (A:FnAt K "_law_pick" zlx ae aA)
  (z:FnAt K "_law_mixed" zh1 ad az)
  (y:FnAt K "_law_merger" zh0 ab ay)
  (x:FnAt K "_law_stairway" zhX aa ax)
  (u:FnAt K "_law_block" zh4 Z aw)
  (t:FnAt K "_law_tree" zhW Y av)
  (r:FnAt K "_law_made" zlz W au)
  (q:FnAt K "_law_any" zlC V ar)
  (o:FnAt K "_law_changed" sChg U aq)
  (n:FnAt K "_law_net" zly T ap)
  (m:FnAt K "_law_some" zhY S ao)
  (k:FnAt K "_law_ends" zh2 R am)
  (j:FnAt K "_law_stair" zfz Q ak)
  (i:FnAt K "_law_all_of" sAll P aj)
  (H:FnAt K "law" sLaw a8 ai)
  (z1:PySem.W.nsIn K mainGlobals "len" = some none)
  (z2:PySem.W.nsIn K mainGlobals "range" = some none)
  (z3:PySem.W.nsIn K mainGlobals "tuple" = some none)
  (z4:PySem.W.nsIn K mainGlobals "enumerate" = some none)
  (z5:PySem.W.nsIn K mainGlobals "abs" = some none)
  (z6:PySem.W.nsIn K mainGlobals "zip" = some none)
  (z7:PySem.W.nsIn K mainGlobals "isinstance" = some none)
  (z8:PySem.W.nsIn K mainGlobals "all" = some none)
  (z9:PySem.W.nsIn K mainGlobals "sum" = some none)
  (aQ:PySem.W.nsIn K mainGlobals "bool" = some none)
  (aP:PySem.W.nsIn K mainGlobals "int" = some none)
  (aO:PySem.W.nsIn K mainGlobals "str" = some none)
  (aN:PySem.W.nsIn K mainGlobals "max" = some none)
  (aM:PySem.W.nsIn K mainGlobals "min" = some none)
  (aL:PySem.W.nsIn K mainGlobals "sorted" = some none)
  (aK:PySem.W.nsIn K mainGlobals "list" = some none)
  (aJ:PySem.W.nsIn K mainGlobals "any" = some none)
  (cH:PySem.W.codeHdIn K f Pt=true) (aR:mainGlobals≠Pt) (kP:K.lookup Pt=none)
  : (K.lookup Pt=none/\∃ c,PySem.W.codeHdIn K c Pt=true)/\∃ fd:FuncData,(∀ (s:Shared) (v:Value),BindsTo s fd ⟨[v],[]⟩ [("_law_script",v)])/\∀ base:Heap,K.In base->base.Ns mainGlobals mg->(∀ p∈[Pt],base.BuiltinsAt mg p)->FnOk l.prog w K mg base CX0 13 fa fd ["_law_script"] (zjS K Pt):=by
 have e:=a7.symm.trans (JV X G H.ns)
 cases e
 have M:Mgs mg:=⟨Y1 X G z1,Y1 X G z2,Y1 X G z3,Y1 X G z4,Y1 X G z5,Y1 X G z6,Y1 X G z7,Y1 X G z8,Y1 X G z9,Y1 X G aQ,Y1 X G aP,Y1 X G aO,Y1 X G aN,Y1 X G aM,Y1 X G aL,Y1 X G aK⟩
 have M2:MgA mg:=⟨Y1 X G aJ⟩
 have b1:=A1.fn.binds (ps:=["net","lane"]) λ_ _ _ _ _ _ us a=>by obtain⟨b,d,rfl⟩:=us2 a;rfl
 have m1:=JV X G A1.ns
 have b2:=A2.fn.binds (ps:=["net","turns","lane","back"]) λ_ _ _ _ _ _ us a=>by obtain⟨b,d,F,u3,rfl⟩:=us4 a;rfl
 have m2:=JV X G A2.ns
 have b3:=A3.fn.binds (ps:=["net","turns","lane"]) λ_ _ _ _ _ _ us a=>by obtain⟨b,d,F,rfl⟩:=us3 a;rfl
 have m3:=JV X G A3.ns
 have b4:=A4.fn.binds (ps:=["row","place","value"]) λ_ _ _ _ _ _ us a=>by obtain⟨b,d,F,rfl⟩:=us3 a;rfl
 have m4:=JV X G A4.ns
 have b5:=A5.fn.binds (ps:=["counts","place","many"]) λ_ _ _ _ _ _ us a=>by obtain⟨b,d,F,rfl⟩:=us3 a;rfl
 have m5:=JV X G A5.ns
 have b6:=A6.fn.binds (ps:=["net"]) λ_ _ _ _ _ _ us a=>by obtain⟨b,rfl⟩:=us1 a;rfl
 have m6:=JV X G A6.ns
 have b7:=A7.fn.binds (ps:=["net"]) λ_ _ _ _ _ _ us a=>by obtain⟨b,rfl⟩:=us1 a;rfl
 have m7:=JV X G A7.ns
 have b8:=A8.fn.binds (ps:=["net","pair","lane"]) λ_ _ _ _ _ _ us a=>by obtain⟨b,d,F,rfl⟩:=us3 a;rfl
 have m8:=JV X G A8.ns
 have b9:=A9.fn.binds (ps:=["level","seen","moves","led"]) λ_ _ _ _ _ _ us a=>by obtain⟨b,d,F,u3,rfl⟩:=us4 a;rfl
 have m9:=JV X G A9.ns
 have bt:=E.fn.binds (ps:=["first","counts","moves","led","most"]) λ_ _ _ _ _ _ us a=>by obtain⟨b,d,F,u3,u4,rfl⟩:=us5 a;rfl
 have a6:=JV X G E.ns
 have br:=D.fn.binds (ps:=["levels"]) λ_ _ _ _ _ _ us a=>by obtain⟨b,rfl⟩:=us1 a;rfl
 have a5:=JV X G D.ns
 have bq:=C.fn.fun.binds (ps:=["net","some","most"]) λ_ _ _ _ _ _ us a=>by obtain⟨b,d,F,rfl⟩:=us3 a;rfl
 have a4:=JV X G C.ns
 have bp:=B.fn.binds (ps:=["_law_script","_law_k"]) λ_ _ _ _ _ _ us a=>by obtain⟨b,d,rfl⟩:=us2 a;rfl
 have a3:=JV X G B.ns
 have bo:=A.fn.binds (ps:=["_law_left_here","_law_many"]) λ_ _ _ _ _ _ us a=>by obtain⟨b,d,rfl⟩:=us2 a;rfl
 have a0:=JV X G A.ns
 have bl:=z.fn.binds (ps:=["_law_left_here","_law_row"]) λ_ _ _ _ _ _ us a=>by obtain⟨b,d,rfl⟩:=us2 a;rfl
 have aZ:=JV X G z.ns
 have aI:=y.fn.binds (ps:=["_law_one","_law_other"]) λ_ _ _ _ _ _ us a=>by obtain⟨b,d,rfl⟩:=us2 a;rfl
 have O:=JV X G y.ns
 have aH:=x.fn.binds (ps:=["_law_row"]) λ_ _ _ _ _ _ us a=>by obtain⟨b,rfl⟩:=us1 a;rfl
 have N:=JV X G x.ns
 have aG:=u.fn.binds (ps:=["_law_row"]) λ_ _ _ _ _ _ us a=>by obtain⟨b,rfl⟩:=us1 a;rfl
 have L:=JV X G u.ns
 have aF:=t.fn.binds (ps:=["_law_row"]) λ_ _ _ _ _ _ us a=>by obtain⟨b,rfl⟩:=us1 a;rfl
 have J:=JV X G t.ns
 have bj:=r.fn.binds (ps:=["_law_way","_law_k"]) λ_ _ _ _ _ _ us a=>by obtain⟨b,d,rfl⟩:=us2 a;rfl
 have aY:=JV X G r.ns
 have bh:=q.fn.binds (ps:=["_law_left_here"]) λ_ _ _ _ _ _ us a=>by obtain⟨b,rfl⟩:=us1 a;rfl
 have aX:=JV X G q.ns
 have bg:=o.fn.binds (ps:=["_law_left_here","_law_net_here"]) λ_ _ _ _ _ _ us a=>by obtain⟨b,d,rfl⟩:=us2 a;rfl
 have aW:=JV X G o.ns
 have bf:=n.fn.binds (ps:=["_law_left_here"]) λ_ _ _ _ _ _ us a=>by obtain⟨b,rfl⟩:=us1 a;rfl
 have aV:=JV X G n.ns
 have be:=m.fn.binds (ps:=["_law_left_here","_law_net_here"]) λ_ _ _ _ _ _ us a=>by obtain⟨b,d,rfl⟩:=us2 a;rfl
 have aU:=JV X G m.ns
 have bc:=k.fn.binds (ps:=["_law_net_here","_law_counts"]) λ_ _ _ _ _ _ us a=>by obtain⟨b,d,rfl⟩:=us2 a;rfl
 have aT:=JV X G k.ns
 have bb:=j.fn.binds (ps:=["_law_counts"]) λ_ _ _ _ _ _ us a=>by obtain⟨b,rfl⟩:=us1 a;rfl
 have aS:=JV X G j.ns
 have aE:=i.fn.binds (ps:=["_law_lanes","_law_some_here","_law_total"]) λ_ _ _ _ _ _ us a=>by obtain⟨b,d,F,rfl⟩:=us3 a;rfl
 have I:=JV X G i.ns
 obtain⟨oc,od,kV,doc,pm,an,cdv,ct,osl,ed,_,_⟩:=id H.fn.ex
 refine⟨⟨kP,f,cH⟩,ai,λs v=>by rw[ed];exact .of_eq rfl,λbase _ _ bB=>?_⟩
 have CK:CodeK K mg base f Pt:=⟨cH,bB Pt (.head _),aR⟩
 have U1:Use l.prog w K mg base "end_of" ["net","lane"] 1 zlt f1 d1:=⟨zmT A1.fn,b1,A1.fn.kp,m1⟩
 have U2:Use l.prog w K mg base "run_through" ["net","turns","lane","back"] 2 zls f2 d2:=⟨zmR A2.fn M U1,b2,A2.fn.kp,m2⟩
 have U3:Use l.prog w K mg base "passed" ["net","turns","lane"] 3 (zhH false) f3 d3:=⟨zio A3.fn U2,b3,A3.fn.kp,m3⟩
 have U4:Use l.prog w K mg base "given_at" ["row","place","value"] 1 zfv f4 d4:=⟨zkg A4.fn M,b4,A4.fn.kp,m4⟩
 have U5:Use l.prog w K mg base "added" ["counts","place","many"] 2 zfx f5 d5:=⟨zkh A5.fn M U4,b5,A5.fn.kp,m5⟩
 have U6:Use l.prog w K mg base "first_turns" ["net"] 1 zd9 f6 d6:=⟨zit A6.fn M,b6,A6.fn.kp,m6⟩
 have U7:Use l.prog w K mg base "first_pair" ["net"] 2 zea f7 d7:=⟨ziu A7.fn U6,b7,A7.fn.kp,m7⟩
 have U8:Use l.prog w K mg base "pair_behind" ["net","pair","lane"] 4 zd8 f8 d8:=⟨zkd A8.fn U3,b8,A8.fn.kp,m8⟩
 have U9:Use l.prog w K mg base "next_level" ["level","seen","moves","led"] 6 (zhI l.prog w K (lamV qV) ["net"] zcT) f9 d9:=⟨zlR A9.fn M U5 (zkE qV U8),b9,A9.fn.kp,m9⟩
 have bL:Use l.prog w K mg base "climbed" ["first","counts","moves","led","most"] 7 (zfw l.prog w K (lamV qV) ["net"] zcT) ah aD:=⟨zg4 E.fn M U9,bt,E.fn.kp,a6⟩
 have bK:Use l.prog w K mg base "verdict" ["net","some","most"] 8 (zfr qV Pt) ag aC:=⟨zg3 C.fn CK bL U7 (λF0=>⟨zlV F0 1 D.fn M,br,D.fn.kp,a5⟩),bq,C.fn.kp,a4⟩
 have bJ:Use l.prog w K mg base "_law_left" ["_law_script","_law_k"] 1 (zfu K) af aB:=⟨zlU B.fn M,bp,B.fn.kp,a3⟩
 have g:Use l.prog w K mg base "_law_pick" ["_law_left_here","_law_many"] 1 zb8 ae aA:=⟨zlQ A.fn,bo,A.fn.kp,a0⟩
 have bI:Use l.prog w K mg base "_law_mixed" ["_law_left_here","_law_row"] 2 zft ad az:=⟨zke z.fn M g,bl,z.fn.kp,aZ⟩
 have bH:Use l.prog w K mg base "_law_merger" ["_law_one","_law_other"] 5 zcm ab ay:=⟨zir y.fn M aI O,aI,y.fn.kp,O⟩
 have bG:Use l.prog w K mg base "_law_stairway" ["_law_row"] 10 zd6 aa ax:=⟨zin x.fn M bH aH N,aH,x.fn.kp,N⟩
 have bF:Use l.prog w K mg base "_law_block" ["_law_row"] 5 zeb Z aw:=⟨ziw u.fn M aG L,aG,u.fn.kp,L⟩
 have bE:Use l.prog w K mg base "_law_tree" ["_law_row"] 5 zd5 Y av:=⟨zil t.fn M aF J,aF,t.fn.kp,J⟩
 have bD:Use l.prog w K mg base "_law_made" ["_law_way","_law_k"] 11 zhK W au:=⟨zlT r.fn M bF bG bE,bj,r.fn.kp,aY⟩
 have bC:Use l.prog w K mg base "_law_any" ["_law_left_here"] 3 zhN V ar:=⟨zlW q.fn M g bI,bh,q.fn.kp,aX⟩
 have bA:Use l.prog w K mg base "_law_changed" ["_law_left_here","_law_net_here"] 2 zlu U aq:=⟨zmU o.fn M g,bg,o.fn.kp,aW⟩
 have bz:Use l.prog w K mg base "_law_net" ["_law_left_here"] 12 zhJ T ap:=⟨zlS n.fn M g bC bD bA,bf,n.fn.kp,aV⟩
 have bx:Use l.prog w K mg base "_law_some" ["_law_left_here","_law_net_here"] 2 zfs S ao:=⟨zkc m.fn M g,be,m.fn.kp,aU⟩
 have bw:Use l.prog w K mg base "_law_ends" ["_law_net_here","_law_counts"] 1 zhL R am:=⟨zkf k.fn M,bc,k.fn.kp,aT⟩
 have bv:Use l.prog w K mg base "_law_stair" ["_law_counts"] 1 zd7 Q ak:=⟨zis j.fn M,bb,j.fn.kp,aS⟩
 have bu:Use l.prog w K mg base "_law_all_of" ["_law_lanes","_law_some_here","_law_total"] 7 zec P aj:=⟨zix i.fn M aE I,aE,i.fn.kp,I⟩
 exact zmS H.fn M M2 bJ bz bx bK bw bv bu
theorem walk {l:PySem.W.OpenLaw}{q:Program}{loose:List Str}{y:(Str->Option Value)->Heap->Prop}{i:World->Heap->Prop}{d:DefRec}{K:Params->PySem.W.Frag}{Pt:Addr}(o:l.most=some 63) (g:d.params.defaults=[])
  (t:∀ (w:World) (h:Heap),i w h->(K w.params).In h/\∀ p∈[Pt],h.get? p=some (PySem.W.tabObj #[]))
  (F:∀ (w:World) (mg:Str->Option Value) (e:Addr) (h:Heap),(K w.params).In h->h.Ns mainGlobals mg->mg d.name=some (.ref e)->((K w.params).lookup Pt=none/\∃ c,PySem.W.codeHdIn (K w.params) c Pt=true) /\
   ∃ fd:FuncData,(∀ (s:Shared) (u:Value),BindsTo s fd ⟨[u],[]⟩ [("_law_script",u)])/\∀ base:Heap,(K w.params).In base->base.Ns mainGlobals mg->(∀ p∈[Pt],base.BuiltinsAt mg p)->FnOk l.prog w (K w.params) mg base CX0 13 e fd ["_law_script"] (zjS (K w.params) Pt)) :
  PySem.W.WalkO q loose y i l.row.toRowW d [] (λf vs=>PySem.call f vs) :=
 L2.zjM (n:=63) (k:=13) (x:="_law_script") (CX:=CX0) (sp:=λK=>zjS K Pt) [Pt] o (by decide) g ⟨rfl,by decide,by decide,rfl⟩ t (λw mg e h a b c=>⟨λp m=>Je.mp m ▸ (F w mg e h a b c).1,(F w mg e h a b c).2⟩) (λ_ _ a ns r v j=>⟨a,ns,rfl,v,r,j Pt (.head _),λ_=>rfl⟩) λ_ _ _ _ z=>z
end K36
theorem PySem.W.Fast.tw10877462453141077271:True:=trivial
theorem PySem.W.Fast.tw1009386382850997878:True:=trivial
theorem PySem.W.Fast.tw3500797988078853408:True:=trivial
theorem PySem.W.Fast.tw9141965342717704850:True:=trivial
theorem PySem.W.Fast.tw13530404433516774518:True:=trivial
theorem PySem.W.Fast.tw10098910295567076021:True:=trivial
theorem PySem.W.Fast.tw18018602567732227746:True:=trivial
theorem PySem.W.Fast.tw7375240958648236758:True:=trivial
theorem PySem.W.Fast.tw6704204214472701304:True:=trivial
theorem PySem.W.Fast.tw1747468353661800489:True:=trivial
theorem PySem.W.Fast.tw9175505545889193657:True:=trivial
theorem PySem.W.Fast.tw5318459909290194587:True:=trivial
theorem PySem.W.Fast.tw1874149587908266378:True:=trivial
theorem PySem.W.Fast.tw430344896022123638:True:=trivial
theorem PySem.W.Fast.tw12956319392125156532:True:=trivial
theorem PySem.W.Fast.tw16543749321631695900:True:=trivial
theorem PySem.W.Fast.tw11848701797696377644:True:=trivial
theorem PySem.W.Fast.tw18369026568671551208:True:=trivial
theorem PySem.W.Fast.tw9276895853185933895:True:=trivial
theorem PySem.W.Fast.tw11678749380144288452:True:=trivial
theorem PySem.W.Fast.tw5904294190867519719:True:=trivial
theorem PySem.W.Fast.tw16843268133372027989:True:=trivial
theorem PySem.W.Fast.tw16632121611686249034:True:=trivial
theorem PySem.W.Fast.tw8747980538956987225:True:=trivial
theorem PySem.W.Fast.tw13630920607583024263:True:=trivial
theorem PySem.W.Fast.tw3466983323337236236:True:=trivial
theorem PySem.W.Fast.tw854691570748545078:True:=trivial
theorem PySem.W.Fast.tw3816893749209211215:True:=trivial
theorem PySem.W.Fast.tw13573869025575181896:True:=trivial
theorem PySem.W.Fast.tw6821994327264705666:True:=trivial
theorem PySem.W.Fast.tw9391482366144731683:True:=trivial
theorem PySem.W.Fast.tw1643728133644762633:True:=trivial
theorem PySem.W.Fast.tw12181002443247573551:True:=trivial
theorem PySem.W.Fast.tw3844455611764485933:True:=trivial
theorem PySem.W.Fast.tw11650577920173217947:True:=trivial
theorem PySem.W.Fast.tw6600448131038113248:True:=trivial
open PySem PySem.W PyProof.Rows
set_option maxRecDepth 100000 in
set_option maxHeartbeats 0 in
theorem PySem.Challenge.cw_stairlanes_k36_fewest_balls_that_break_holds : PySem.Challenge.rw_stairlanes_k36_fewest_balls_that_break.Holds := by
 w_on;o_law;k_head;(case hw=>w_witness2)
 k_fill
 refine K36.walk (l:=PySem.Challenge.rw_stairlanes_k36_fewest_balls_that_break) rfl rfl (fun w h Y=>⟨PySem.W.km_in_of Y,PySem.W.km_tabs_of Y⟩) ?F
 case F =>
  intro w mg fa h KX G hmg
  refine' K36.zng KX G hmg (K36.za8 ?a1 ?l1 ?c1 ?k1) (K36.za8 ?a2 ?l2 ?c2 ?k2) (K36.za8 ?a3 ?l3 ?c3 ?k3) (K36.za8 ?a4 ?l4 ?c4 ?k4) (K36.za8 ?a5 ?l5 ?c5 ?k5) (K36.za8 ?a6 ?l6 ?c6 ?k6) (K36.za8 ?a7 ?l7 ?c7 ?k7) (K36.za8 ?a8 ?l8 ?c8 ?k8) (K36.za8 ?a9 ?l9 ?c9 ?k9) (K36.za8 ?a10 ?l10 ?c10 ?k10) (K36.za8 ?a11 ?l11 ?c11 ?k11) (K36.zm9 ?a12 ?l12 ?c12 ?k12) (K36.za8 ?a13 ?l13 ?c13 ?k13) (K36.za8 ?a14 ?l14 ?c14 ?k14) (K36.za8 ?a15 ?l15 ?c15 ?k15) (K36.za8 ?a16 ?l16 ?c16 ?k16) (K36.za8 ?a17 ?l17 ?c17 ?k17) (K36.za8 ?a18 ?l18 ?c18 ?k18) (K36.za8 ?a19 ?l19 ?c19 ?k19) (K36.za8 ?a20 ?l20 ?c20 ?k20) (K36.za8 ?a21 ?l21 ?c21 ?k21) (K36.za8 ?a22 ?l22 ?c22 ?k22) (K36.za8 ?a23 ?l23 ?c23 ?k23) (K36.za8 ?a24 ?l24 ?c24 ?k24) (K36.za8 ?a25 ?l25 ?c25 ?k25) (K36.za8 ?a26 ?l26 ?c26 ?k26) (K36.za8 ?a27 ?l27 ?c27 ?k27) (K36.za8 ?a28 ?l28 ?c28 ?k28) ?z1 ?z2 ?z3 ?z4 ?z5 ?z6 ?z7 ?z8 ?z9 ?z10 ?z11 ?z12 ?z13 ?z14 ?z15 ?z16 ?z17 (K36.zjo ?lH2 ?eH2) ?nB4 ?kP
  (case a1=>k_is);(case l1=>k_is);(case c1=>k_is);(case k1=>k_is)
  (case a2=>k_is);(case l2=>k_is);(case c2=>k_is);(case k2=>k_is)
  (case a3=>k_is);(case l3=>k_is);(case c3=>k_is);(case k3=>k_is)
  (case a4=>k_is);(case l4=>k_is);(case c4=>k_is);(case k4=>k_is)
  (case a5=>k_is);(case l5=>k_is);(case c5=>k_is);(case k5=>k_is)
  (case a6=>k_is);(case l6=>k_is);(case c6=>k_is);(case k6=>k_is)
  (case a7=>k_is);(case l7=>k_is);(case c7=>k_is);(case k7=>k_is)
  (case a8=>k_is);(case l8=>k_is);(case c8=>k_is);(case k8=>k_is)
  (case a9=>k_is);(case l9=>k_is);(case c9=>k_is);(case k9=>k_is)
  (case a10=>k_is);(case l10=>k_is);(case c10=>k_is);(case k10=>k_is)
  (case a11=>k_is);(case l11=>k_is);(case c11=>k_is);(case k11=>k_is)
  (case a12=>k_is);(case l12=>k_is);(case c12=>k_is);(case k12=>k_is)
  (case a13=>k_is);(case l13=>k_is);(case c13=>k_is);(case k13=>k_is)
  (case a14=>k_is);(case l14=>k_is);(case c14=>k_is);(case k14=>k_is)
  (case a15=>k_is);(case l15=>k_is);(case c15=>k_is);(case k15=>k_is)
  (case a16=>k_is);(case l16=>k_is);(case c16=>k_is);(case k16=>k_is)
  (case a17=>k_is);(case l17=>k_is);(case c17=>k_is);(case k17=>k_is)
  (case a18=>k_is);(case l18=>k_is);(case c18=>k_is);(case k18=>k_is)
  (case a19=>k_is);(case l19=>k_is);(case c19=>k_is);(case k19=>k_is)
  (case a20=>k_is);(case l20=>k_is);(case c20=>k_is);(case k20=>k_is)
  (case a21=>k_is);(case l21=>k_is);(case c21=>k_is);(case k21=>k_is)
  (case a22=>k_is);(case l22=>k_is);(case c22=>k_is);(case k22=>k_is)
  (case a23=>k_is);(case l23=>k_is);(case c23=>k_is);(case k23=>k_is)
  (case a24=>k_is);(case l24=>k_is);(case c24=>k_is);(case k24=>k_is)
  (case a25=>k_is);(case l25=>k_is);(case c25=>k_is);(case k25=>k_is)
  (case a26=>k_is);(case l26=>k_is);(case c26=>k_is);(case k26=>k_is)
  (case a27=>k_is);(case l27=>k_is);(case c27=>k_is);(case k27=>k_is)
  (case a28=>k_is);(case l28=>k_is);(case c28=>k_is);(case k28=>k_is)
  (case z1=>k_is)
  (case z2=>k_is)
  (case z3=>k_is)
  (case z4=>k_is)
  (case z5=>k_is)
  (case z6=>k_is)
  (case z7=>k_is)
  (case z8=>k_is)
  (case z9=>k_is)
  (case z10=>k_is)
  (case z11=>k_is)
  (case z12=>k_is)
  (case z13=>k_is)
  (case z14=>k_is)
  (case z15=>k_is)
  (case z16=>k_is)
  (case z17=>k_is)
  (case lH2=>k_is);(case eH2=>rfl);(case nB4=>decide);(case kP=>rfl)
