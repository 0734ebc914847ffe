import PyProof.Rows.All
import Wide.All
import OpenK.AllK
import Wide.FinOn
import Lean
import PyProof.EqAt
import PyProof.EqKinds
import PyProof.TupleCall
import PyProof.NeKinds
import KE.KIntText
import PyProof.TupleOfStr
import PyProof.ReprRoads
import PyProof.NeData
import PyProof.DictKinds
import PyProof.AttrMiss
import PyProof.IsiH_list
import KE.KDictOf
import KE.KSortTup
import KE.KItemsList
import KE.KDictSum
import PyProof.DictWalks
import PyProof.DictItems
import KE.KDictList
import KE.KEqDict
import KE.KPairComp
import PyProof.DictTruth
import PyProof.MeetsDict
import KE.KLam
import KE.KNestM
import PyProof.Defs
import PyProof.P3In
import PyProof.Rows.SortRev
import PyProof.Rows.Range3
import PyProof.AutoIntG2
import PySem.Challenge.RW_stairlanes_k41_whole_each_next_end
set_option Elab.async false
set_option linter.all false
set_option maxRecDepth 100000
local macro_rules|`(tactic|trivial)=>`(tactic|first|exact⟨by rfl,by first|exact Or.inl rfl|exact Or.inr (.inl rfl)|exact Or.inr (.inr rfl),by decide,by decide⟩|exact⟨rfl,rfl,rfl,by decide +kernel,rfl,by decide +kernel,by decide +kernel⟩|exact True.intro|rfl|assumption)
section
open PySem PySem.Spec PyProof.Rows
theorem J0:type_of% @wpAny_bind:=@wpAny_bind
theorem J7:type_of% @List.getElem?_eq_getElem:=@List.getElem?_eq_getElem
theorem J8:type_of% @Heap.get?_push_of_some:=@Heap.get?_push_of_some
theorem J9:type_of% @wpAny_pure:=@wpAny_pure
theorem Ja:type_of% @List.length_append:=@List.length_append
theorem Jb:type_of% @List.getD_eq_getElem?_getD:=@List.getD_eq_getElem?_getD
theorem Jc:type_of% @if_neg:=@if_neg
theorem Jd:type_of% @List.mem_singleton:=@List.mem_singleton
theorem Je:type_of% @List.getElem?_eq_some_iff:=@List.getElem?_eq_some_iff
theorem Jf:type_of% @if_pos:=@if_pos
theorem Jg:type_of% @Nat.le_refl:=@Nat.le_refl
theorem Jh:type_of% @Bool.false_ne_true:=@Bool.false_ne_true
theorem Jj:type_of% @List.size_toArray:=@List.size_toArray
theorem Jm:type_of% @List.length_map:=@List.length_map
theorem Jn:type_of% @Heap.lt_size:=@Heap.lt_size
theorem Jp:type_of% @Heap.get?_push_size:=@Heap.get?_push_size
theorem Jq:type_of% @decide_eq_false:=@decide_eq_false
theorem Jr:type_of% @Array.size_append:=@Array.size_append
theorem Js:type_of% @List.mem_append:=@List.mem_append
theorem Jt:type_of% @List.not_mem_nil:=@List.not_mem_nil
theorem Ju:type_of% @List.mem_append_right:=@List.mem_append_right
theorem Jv:type_of% @Array.size_push:=@Array.size_push
theorem Jw:type_of% @List.length_take:=@List.length_take
theorem Jx:type_of% @Array.length_toList:=@Array.length_toList
theorem Jy:type_of% @sizeLine_eq:=@sizeLine_eq
theorem Jz:type_of% @decide_eq_true:=@decide_eq_true
theorem JA:type_of% @List.mem_map:=@List.mem_map
theorem JB:type_of% @Nat.ne_of_lt:=@Nat.ne_of_lt
theorem JC:type_of% @List.mem_cons_of_mem:=@List.mem_cons_of_mem
theorem JD:type_of% @List.mem_cons_self:=@List.mem_cons_self
theorem JE:type_of% @List.take_of_length_le:=@List.take_of_length_le
theorem JF:type_of% @Nat.lt_of_lt_of_le:=@Nat.lt_of_lt_of_le
theorem JG:type_of% @wpAny_newObj_type:=@wpAny_newObj_type
theorem JH:type_of% @Nat.zero_le:=@Nat.zero_le
theorem JJ:type_of% @congrArg:=@congrArg
theorem JK:type_of% @wpAny_mono:=@wpAny_mono
theorem JL:type_of% @List.nodup_cons:=@List.nodup_cons
theorem JM:type_of% @List.append_assoc:=@List.append_assoc
theorem JN:type_of% @List.length_cons:=@List.length_cons
theorem JP:type_of% @PySem.W.mg_of:=@PySem.W.mg_of
theorem JQ:type_of% @decide_eq_false_iff_not:=@decide_eq_false_iff_not
theorem JR:type_of% @List.getElem?_map:=@List.getElem?_map
theorem JS:type_of% @Array.getElem?_eq_some_iff:=@Array.getElem?_eq_some_iff
theorem JT:type_of% @List.append_nil:=@List.append_nil
theorem JU:type_of% @List.length_replicate:=@List.length_replicate
theorem JV:type_of% @List.map_cons:=@List.map_cons
theorem JW:type_of% @decide_eq_true_eq:=@decide_eq_true_eq
theorem JX:type_of% @PySem.W.mg_none_of:=@PySem.W.mg_none_of
theorem JY:type_of% @Nat.le_trans:=@Nat.le_trans
theorem JZ:type_of% @List.mem_of_getElem?:=@List.mem_of_getElem?
theorem Y0:type_of% @Array.getElem?_toList:=@Array.getElem?_toList
theorem Y1:type_of% @Bool.false_eq_true:=@Bool.false_eq_true
theorem Y2:type_of% @List.map_append:=@List.map_append
theorem Y3:type_of% @List.replicate_succ:=@List.replicate_succ
theorem Y4:type_of% @Array.toList_append:=@Array.toList_append
theorem Y5:type_of% @Option.map_eq_some_iff:=@Option.map_eq_some_iff
theorem Y6:type_of% @List.mem_append_left:=@List.mem_append_left
theorem Y7:type_of% @Int.toNat_natCast:=@Int.toNat_natCast
theorem Y8:type_of% @List.getElem_mem:=@List.getElem_mem
theorem Y9:type_of% @List.length_range:=@List.length_range
theorem Ya:type_of% @wpAny_holding:=@wpAny_holding
theorem Yb:type_of% @List.pairwise_append:=@List.pairwise_append
theorem Yc:type_of% @Heap.get?_update_other:=@Heap.get?_update_other
theorem Yd:type_of% @Nat.zero_add:=@Nat.zero_add
theorem Ye:type_of% @Bool.eq_iff_iff:=@Bool.eq_iff_iff
theorem Yf:type_of% @List.length_drop:=@List.length_drop
theorem Yg:type_of% @List.lookup_cons:=@List.lookup_cons
theorem Yh:type_of% @Int.compare_eq_lt:=@Int.compare_eq_lt
theorem Yi:type_of% @Int.compare_eq_gt:=@Int.compare_eq_gt
theorem Yj:type_of% @List.mem_range:=@List.mem_range
theorem Yk:type_of% @List.take_append_getElem:=@List.take_append_getElem
theorem Ym:type_of% @Nat.lt_irrefl:=@Nat.lt_irrefl
theorem Yn:type_of% @List.getElem?_append_right:=@List.getElem?_append_right
theorem Yp:type_of% @List.flatten_cons:=@List.flatten_cons
theorem Yq:type_of% @List.take_zero:=@List.take_zero
theorem Yr:type_of% @List.find?_cons:=@List.find?_cons
theorem Ys:type_of% @List.getElem?_append_left:=@List.getElem?_append_left
theorem Yt:type_of% @List.drop_eq_getElem_cons:=@List.drop_eq_getElem_cons
theorem Yu:type_of% @List.mem_of_mem_take:=@List.mem_of_mem_take
theorem Yv:type_of% @Int.compare_eq_eq:=@Int.compare_eq_eq
theorem Yw:type_of% @List.nodup_nil:=@List.nodup_nil
theorem Yx:type_of% @List.extract_eq_take_drop:=@List.extract_eq_take_drop
theorem Yy:type_of% @List.forIn_cons:=@List.forIn_cons
theorem Yz:type_of% @Nat.ne_of_gt:=@Nat.ne_of_gt
theorem YA:type_of% @Nat.add_zero:=@Nat.add_zero
theorem YB:type_of% @List.mem_iff_getElem:=@List.mem_iff_getElem
theorem YC:type_of% @Nat.pow_le_pow_right:=@Nat.pow_le_pow_right
theorem YD:type_of% @List.getElem?_take_of_lt:=@List.getElem?_take_of_lt
theorem YE:type_of% @Nat.min_eq_left:=@Nat.min_eq_left
theorem YF:type_of% @Nat.add_assoc:=@Nat.add_assoc
theorem YG:type_of% @List.mem_iff_getElem?:=@List.mem_iff_getElem?
theorem YH:type_of% @wpAny_truthy_bool:=@wpAny_truthy_bool
theorem YJ:type_of% @List.foldl_append:=@List.foldl_append
theorem YK:type_of% @Array.toList_push:=@Array.toList_push
theorem YL:type_of% @Int.lt_trichotomy:=@Int.lt_trichotomy
theorem YM:type_of% @Array.toList_extract:=@Array.toList_extract
theorem YN:type_of% @List.all_eq_true:=@List.all_eq_true
theorem YQ:type_of% @List.map_map:=@List.map_map
theorem YR:type_of% @List.take_length:=@List.take_length
theorem YS:type_of% @Option.getD_some:=@Option.getD_some
theorem YT:type_of% @beq_self_eq_true:=@beq_self_eq_true
theorem YU:type_of% @Int.le_trans:=@Int.le_trans
theorem YV:type_of% @Nat.pow_succ:=@Nat.pow_succ
theorem YW:type_of% @Array.getElem?_eq_getElem:=@Array.getElem?_eq_getElem
theorem YX:type_of% @List.take_succ_cons:=@List.take_succ_cons
theorem YY:type_of% @Option.isSome_iff_exists:=@Option.isSome_iff_exists
theorem YZ:type_of% @List.length_set:=@List.length_set
theorem Z0:type_of% @codeAny_builtin:=@codeAny_builtin
theorem Z1:type_of% @List.length_nil:=@List.length_nil
theorem Z2:type_of% @List.length_zip:=@List.length_zip
theorem Z3:type_of% @List.filterMap_map:=@List.filterMap_map
theorem Z4:type_of% @Nat.one_le_two_pow:=@Nat.one_le_two_pow
theorem Z5:type_of% @Int.le_refl:=@Int.le_refl
theorem Z6:type_of% @List.length_eq_zero_iff:=@List.length_eq_zero_iff
theorem Z7:type_of% @List.forIn_nil:=@List.forIn_nil
theorem Z8:type_of% @List.take_succ_eq_append_getElem:=@List.take_succ_eq_append_getElem
theorem Z9:type_of% @List.drop_zero:=@List.drop_zero
theorem Za:type_of% @Bool.not_eq_true':=@Bool.not_eq_true'
theorem Zb:type_of% @of_decide_eq_true:=@of_decide_eq_true
theorem Zc:type_of% @List.take_append_drop:=@List.take_append_drop
theorem Zd:type_of% @List.perm_append_comm:=@List.perm_append_comm
theorem Ze:type_of% @Bool.and_eq_true:=@Bool.and_eq_true
theorem Zf:type_of% @List.getElem?_set_ne:=@List.getElem?_set_ne
theorem Zg:type_of% @wpAny_letGo:=@wpAny_letGo
theorem Zh:type_of% @List.nil_append:=@List.nil_append
theorem Zi:type_of% @Bool.or_eq_true:=@Bool.or_eq_true
theorem Zj:type_of% @Int.emod_nonneg:=@Int.emod_nonneg
theorem Zk:type_of% @List.map_congr_left:=@List.map_congr_left
theorem Zm:type_of% @Array.toList_modify:=@Array.toList_modify
theorem Zn:type_of% @List.length_pos_iff:=@List.length_pos_iff
theorem Zp:type_of% @Bool.not_eq_false':=@Bool.not_eq_false'
theorem Zq:type_of% @Int.emod_lt_of_pos:=@Int.emod_lt_of_pos
theorem Zr:type_of% @List.getElem?_zip_eq_some:=@List.getElem?_zip_eq_some
theorem Zs:type_of% @Nat.lt_succ_of_lt:=@Nat.lt_succ_of_lt
theorem Zt:type_of% @List.nodup_append:=@List.nodup_append
theorem Zu:type_of% @List.take_nil:=@List.take_nil
theorem Zv:type_of% @List.eq_of_mem_replicate:=@List.eq_of_mem_replicate
end
namespace L2
open PySem PySem.Spec PyProof.Rows
abbrev Key:=Sum Int Str
def zeE:Key→Value→Bool
  | .inl k,v=>Value.isInt k v
  | .inr x,v=>Value.isStrOf x v
def keyH (w:World):Key→Int
  | .inl k=>hashInt k
  | .inr x=>hashStr w x
theorem zan:∀ {k:Key}{v:Value},zeE k v=true→(∃ i t,k=Sum.inl i∧v=Value.int i t)∨(∃ x t,k=Sum.inr x∧v=Value.str x t)
  | .inl i,v,h=>by
    obtain⟨t,e⟩:=Value.isInt_shape (k:=i) (v:=v) h
    exact .inl ⟨i,t,rfl,e⟩
  | .inr x,v,h=>by
    obtain⟨t,e⟩:=Value.isStrOf_shape (x:=x) (v:=v) h
    exact .inr ⟨x,t,rfl,e⟩
theorem zhy (i:Int) (t:Tok):zeE (.inl i) (.int i t)=true:=by simp[zeE,Value.isInt]
theorem zhx (x:Str) (t:Tok):zeE (.inr x) (.str x t)=true:=by simp[zeE,Value.isStrOf]
theorem zlh (a b:Int):decide ((Sum.inl a:Key)=Sum.inl b)=(a == b):=by
  by_cases e:a=b
  · subst e;simp
  · have h:¬(Sum.inl a:Key)=Sum.inl b:=fun q=>e (Sum.inl.inj q)
    rw[Jq h]
    exact(beq_eq_false_iff_ne.mpr e).symm
theorem zld (a b:Str):decide ((Sum.inr a:Key)=Sum.inr b)=decide (a=b):=by
  by_cases e:a=b
  · subst e;simp
  · have h:¬(Sum.inr a:Key)=Sum.inr b:=fun q=>e (Sum.inr.inj q)
    rw[Jq h,Jq e]
theorem zlg (a:Int) (b:Str):decide ((Sum.inl a:Key)=Sum.inr b)=false:=Jq (fun q=>nomatch q)
theorem zle (a:Str) (b:Int):decide ((Sum.inr a:Key)=Sum.inl b)=false:=Jq (fun q=>nomatch q)
def zau (prog:Program) (w:World):PySem.KeyKind prog w Key where
  is:=zeE
  hash:=keyH w
  inj:=fun v a b ha hb=>by
    rcases zan ha with ⟨i,t,rfl,rfl⟩|⟨x,t,rfl,rfl⟩
    · rcases zan hb with ⟨j,u,rfl,e⟩|⟨y,u,rfl,e⟩
      · injection e with e1 _;rw[e1]
      · exact nomatch e
    · rcases zan hb with ⟨j,u,rfl,e⟩|⟨y,u,rfl,e⟩
      · exact nomatch e
      · injection e with e1 _;rw[e1]
  byValue:=fun k v h=>by
    rcases zan h with ⟨i,t,rfl,rfl⟩|⟨x,t,rfl,rfl⟩<;>rfl
  pyHash:=fun hv h=>by
    rcases zan hv with ⟨i,t,rfl,rfl⟩|⟨x,t,rfl,rfl⟩
    · exact wpAny_pyHash_int h
    · exact wpAny_pyHash_str h
  eqBool:=fun hu hv h=>by
    rcases zan hu with ⟨i,t,rfl,rfl⟩|⟨x,t,rfl,rfl⟩
    · rcases zan hv with ⟨j,u,rfl,rfl⟩|⟨y,u,rfl,rfl⟩
      · rw[zlh]at h;exact wpAny_eqBool_int h
      · rw[zlg]at h;exact SeqAt.EqAt.int_str i t y u _ _ _ _ h
    · rcases zan hv with ⟨j,u,rfl,rfl⟩|⟨y,u,rfl,rfl⟩
      · rw[zle]at h;exact SeqAt.EqAt.str_int x t j u _ _ _ _ h
      · rw[zld]at h;exact wpAny_eqBool_str h
  «strs»:=fun k x t v h=>by
    rcases zan h with ⟨i,u,rfl,e⟩|⟨y,u,rfl,e⟩
    · exact nomatch e
    · injection e with e1 _
      subst e1
      cases v<;>rfl
theorem zf3 (prog:Program) (w:World) (k:Key) (v:Value):(zau prog w).is k v=zeE k v:=rfl
theorem zex (prog:Program) (w:World) (i:Int) (t:Tok):(zau prog w).is (.inl i) (.int i t)=true:=zhy i t
theorem zew (prog:Program) (w:World) (x:Str) (t:Tok):(zau prog w).is (.inr x) (.str x t)=true:=zhx x t
inductive V where
  | non|bl (b:Bool)|int (i:Int)|str (x:Str)|byt (b:Array UInt8)|flt (b:UInt64)|ref (a:Addr)|ty (n:String)
  deriving DecidableEq
def RelV:V→Value→Prop
  | .non,u=>u=Value.none
  | .bl b,u=>u=Value.bool b
  | .int i,u=>∃ t,u=Value.int i t
  | .str x,u=>∃ t,u=Value.str x t
  | .byt b,u=>∃ t,u=Value.bytes b t
  | .flt b,u=>∃ t,u=Value.float b t
  | .ref a,u=>u=Value.ref a
  | .ty n,u=>u=Value.type n
abbrev Vals:List V→List Value→Prop:=Paired RelV
theorem Vals.length {xs:List V}{us:List Value}(r:Vals xs us):xs.length=us.length:=Paired.length r
theorem Vals.get:∀ {xs:List V}{us:List Value}{i:Nat}{x:V},Vals xs us→xs[i]?=some x→∃ u,us[i]?=some u∧RelV x u
  | _,_,_,_,.nil,e=>by simp at e
  | _,_,0,_,.cons r _,e=>by simp at e;subst e;exact⟨_,rfl,r⟩
  | _,_,i+1,x,.cons _ t,e=>by
    obtain⟨u,h1,h2⟩:=Vals.get (i:=i) (x:=x) t (by simpa using e)
    exact⟨u,by simpa using h1,h2⟩
theorem Vals.set {x:V}{u:Value}(r:RelV x u):∀ {xs:List V}{us:List Value}(i:Nat),Vals xs us→Vals (xs.set i x) (us.set i u)
  | _,_,_,.nil=>.nil
  | _,_,0,.cons _ t=>.cons r t
  | _,_,i+1,.cons q t=>.cons q (Vals.set r i t)
theorem Vals.append:∀ {xs ys:List V}{us ws:List Value},Vals xs us→Vals ys ws→Vals (xs++ys) (us++ws)
  | _,_,_,_,.nil,s=>s
  | _,_,_,_,.cons r t,s=>.cons r (Vals.append t s)
theorem Vals.take:∀ {xs:List V}{us:List Value}(n:Nat),Vals xs us→Vals (xs.take n) (us.take n)
  | _,_,0,_=>.nil
  | _,_,_+1,.nil=>.nil
  | _,_,n+1,.cons r t=>.cons r (Vals.take n t)
theorem Vals.drop:∀ {xs:List V}{us:List Value}(n:Nat),Vals xs us→Vals (xs.drop n) (us.drop n)
  | _,_,0,r=>r
  | _,_,_+1,.nil=>.nil
  | _,_,n+1,.cons _ t=>Vals.drop n t
def RelO:Option V→Option Value→Prop
  | some v,some u=>RelV v u
  | none,none=>True
  | _,_=>False
def KV {κ:Type}:List (κ × V)→List (κ × Value)→Prop:=Paired fun (p:κ × V) (q:κ × Value)=>p.1=q.1∧RelV p.2 q.2
def kV:Key→V
  | .inl i=>.int i
  | .inr x=>.str x
inductive HO where
  | lst (xs:List V)
  | tup (xs:List V)
  | dK (kvs:List (Key × V))|dT (kvs:List (List Key × V))
  | set (S:Int→Bool) (n:Nat)
  | ins (C dx:Addr) (fs:List (Str × V))
  | own (x:Addr)
  | xd (fs:List (Str × V))
  | met (f x:Addr)
  | rng (lo hi:Int)
  | frz (o:Obj) (u:HO)
  | tbl (ps:Array Value)
  | ext (φ:Heap→Prop)
abbrev Hp:=Addr→Option HO
def upd (H:Hp) (a:Addr) (o:HO):Hp:=fun b=>if b=a then some o else H b
theorem zac {H:Hp}{a:Addr}{o:HO}:upd H a o a=some o:=by unfold upd;rw[Jf rfl]
theorem zad {H:Hp}{a b:Addr}{o:HO}(h:b≠a):upd H a o b=H b:=by unfold upd;rw[Jc h]
theorem zbC {H:Hp}{a b:Addr}{o u:HO}(h:H a=some o) (h':H b=some u) (d:o≠u):a≠b:=by
  intro e;subst e;rw[h]at h';exact d (Option.some.inj h')
theorem zab {H:Hp}{a b:Addr}{o:HO}(h:H a=some o) (h':H b=none):a≠b:=by
  intro e;subst e;rw[h]at h';cases h'
def TupX (h:Heap) (a:Addr) (items:Array Value):Prop:=∃ o,h.get? a=some o∧o.cls=.type "tuple"∧∃ n,o.data=.seq items n∧o.dict=none
theorem TupX.tup {h:Heap}{a:Addr}{items:Array Value}(x:TupX h a items):IsTup h a items:=let ⟨o,e,c,n,d,_⟩:=x;⟨o,e,c,n,d⟩
theorem TupX.new (h:Heap) (items:Array Value):TupX (h.push { cls:=.type "tuple",data:=.seq items }) h.objs.size items:=⟨_,Jp _ rfl,rfl,0,rfl,rfl⟩
section
variable (P:Program) (w:World)
def ObjOk (H:Hp) (h:Heap) (a:Addr):HO→Prop
  | .lst xs=>xs.length≤sizeLine∧∃ (its:List Value) (n:Nat),Vals xs its∧h.get? a=some { cls:=.type "list",data:=.seq its.toArray n }
  | .tup xs=>xs.length≤sizeLine∧∃ its:List Value,Vals xs its∧TupX h a its.toArray
  | .dK kvs=>kvs.length≤sizeLine∧(a == sysModules)=false∧∃ vs,KV kvs vs∧h.DictOf (zau P w) a vs
  | .dT kvs=>kvs.length≤sizeLine∧(a == sysModules)=false∧∃ xs:List (List Key × Addr × Value),
      Paired (fun (p:List Key × V) (q:List Key × Addr × Value)=>p.1=q.1∧H q.2.1=some (.tup (p.1.map kV))∧RelV p.2 q.2.2) kvs xs ∧
      ∃ o es ep,h.get? a=some o∧o.ExactDict∧o.data=.dict es ep∧es.toList=xs.map (entryOfKey (tupleKind (zau P w)))∧(xs.map (·.1)).Nodup
  | .set S n=>h.SetOf (intKind P w) a S n
  | .ins C dx fs=>H dx=some (.own a)∧fs.length≤1000∧dx≠a∧h.get? a=some (PySem.W.instObj C dx) ∧
      ∃ mA,h.Ns1 dx mA∧(∀ f,RelO (fs.lookup f) (mA f))∧PySem.Within mA (fs.map (·.1))
  | .own _=>∃ o,h.get? a=some o
  | .xd fs=>∃ mA,h.Ns1 a mA∧∀ f,RelO (fs.lookup f) (mA f)
  | .rng lo hi=>∃ t u v,h.get? a=some { cls:=.type "range",data:=.fields #[.int lo t,.int hi u,.int 1 v] }
  | .frz o u=>h.get? a=some o∧ObjOk H h a u
  | .tbl ps=>h.get? a=some { cls:=.none,data:=.fields ps }
  | .met f x=>h.get? a=some (PySem.W.methodObj (.ref f) (.ref x))
  | .ext φ=>φ h∧(∃ o,h.get? a=some o)∧∀ h1 h2:Heap,φ h1→(∀ o,h1.get? a=some o→h2.get? a=some o)→φ h2
def HOk (H:Hp) (h:Heap):Prop:=∀ a o,H a=some o→ObjOk P w H h a o
end
section
variable {P:Program}{w:World}{H H':Hp}{h h':Heap}{a:Addr}{o:HO}
theorem ObjOk.lt (x:ObjOk P w H h a o):a<h.objs.size:=by
  cases o with
  | lst xs=>obtain⟨_,_,_,_,e⟩:=x;exact Jn e
  | tup xs=>obtain⟨_,_,_,p⟩:=x;exact p.tup.lt
  | dK kvs=>obtain⟨_,_,_,_,o,_,_,e,_⟩:=x;exact Jn e
  | dT kvs=>obtain⟨_,_,_,_,o,_,_,e,_⟩:=x;exact Jn e
  | set S n=>obtain⟨o,_,_,_,e,_⟩:=x;exact Jn e
  | ins C dx fs=>obtain⟨_,_,_,e,_⟩:=x;exact Jn e
  | own y=>obtain⟨_,e⟩:=x;exact Jn e
  | xd fs=>obtain⟨_,⟨_,_,_,e,_⟩,_⟩:=x;exact Jn e
  | rng lo hi=>obtain⟨_,_,_,e⟩:=x;exact Jn e
  | frz ob u=>obtain⟨e,_⟩:=x;exact Jn e
  | tbl ps=>exact Jn (show h.get? a=some _ from x)
  | met f y=>exact Jn (show h.get? a=some _ from x)
  | ext φ=>obtain⟨_,⟨_,e⟩,_⟩:=x;exact Jn e
theorem Paired.mapP {α β:Type}{F G:α→β→Prop}:∀ {l₁:List α}{l₂:List β},Paired F l₁ l₂→(∀ a b,F a b→G a b)→Paired G l₁ l₂
  | _,_,.nil,_=>.nil
  | _,_,.cons r t,f=>.cons (f _ _ r) (Paired.mapP t f)
theorem ObjOk.stay (x:ObjOk P w H h a o) (k:∀ b u,(b=a∨H b=some (.own a))→h.get? b=some u→h'.get? b=some u)
    (ho:∀ b,H b=some (.own a)→H' b=some (.own a)) (ht:∀ b xs,H b=some (.tup xs)→H' b=some (.tup xs)):ObjOk P w H' h' a o:=by
  induction o with
  | lst xs=>obtain⟨z,its,n,r,e⟩:=x;exact⟨z,its,n,r,k _ _ (.inl rfl) e⟩
  | tup xs=>obtain⟨z,its,r,ob,e,c⟩:=x;exact⟨z,its,r,ob,k _ _ (.inl rfl) e,c⟩
  | dK kvs=>obtain⟨z,y,vs,r,ob,es,ep,e,c⟩:=x;exact⟨z,y,vs,r,ob,es,ep,k _ _ (.inl rfl) e,c⟩
  | dT kvs =>
    obtain⟨z,y,xs,r,ob,es,ep,e,c⟩:=x
    exact⟨z,y,xs,Paired.mapP r fun p q z=>⟨z.1,ht _ _ z.2.1,z.2.2⟩,ob,es,ep,k _ _ (.inl rfl) e,c⟩
  | set S n=>obtain⟨ob,es,ep,t,e,c⟩:=x;exact⟨ob,es,ep,t,k _ _ (.inl rfl) e,c⟩
  | ins C dx fs =>
    obtain⟨d,z,ne,e,mA,⟨od,es,ep,e2,c⟩,r⟩:=x
    exact⟨ho _ d,z,ne,k _ _ (.inl rfl) e,mA,⟨od,es,ep,k _ _ (.inr d) e2,c⟩,r⟩
  | own y=>obtain⟨ob,e⟩:=x;exact⟨ob,k _ _ (.inl rfl) e⟩
  | xd fs=>obtain⟨mA,⟨od,es,ep,e,c⟩,r⟩:=x;exact⟨mA,⟨od,es,ep,k _ _ (.inl rfl) e,c⟩,r⟩
  | rng lo hi=>obtain⟨t,u,v,e⟩:=x;exact⟨t,u,v,k _ _ (.inl rfl) e⟩
  | frz ob u ih=>obtain⟨e,q⟩:=x;exact⟨k _ _ (.inl rfl) e,ih q⟩
  | tbl ps =>
    have e:h.get? a=some { cls:=.none,data:=.fields ps }:=x
    show h'.get? a=some { cls:=.none,data:=.fields ps }
    exact k a _ (.inl rfl) e
  | met f y =>
    have e:h.get? a=some (PySem.W.methodObj (.ref f) (.ref y)):=x
    show h'.get? a=some (PySem.W.methodObj (.ref f) (.ref y))
    exact k a _ (.inl rfl) e
  | ext φ=>obtain⟨p,⟨o,e⟩,st⟩:=x;exact⟨st _ _ p fun o q=>k _ _ (.inl rfl) q,⟨o,k _ _ (.inl rfl) e⟩,st⟩
theorem HOk.lt (x:HOk P w H h) (e:H a=some o):a<h.objs.size:=(x a o e).lt
theorem HOk.fresh (x:HOk P w H h) (e:h.objs.size≤a):H a=none:=by
  cases q:H a with
  | none=>rfl
  | some u=>exact absurd (JF (x.lt q) e) (Ym _)
theorem HOk.kept (x:HOk P w H h) (k:∀ b u,h.get? b=some u→h'.get? b=some u):HOk P w H h':=fun a o e =>
  (x a o e).stay (fun b u _ q=>k b u q) (fun _ q=>q) fun _ _ q=>q
theorem HOk.laid (x:HOk P w H h) (k:∀ b u,h.get? b=some u→h'.get? b=some u) (hp:h.objs.size≤a) (new:ObjOk P w (upd H a o) h' a o):HOk P w (upd H a o) h':=fun b u e=>by
  have hn:=x.fresh hp
  by_cases hb:b=a
  · subst hb;rw[zac]at e;cases e;exact new
  · rw[zad hb]at e
    exact(x b u e).stay (fun c v _ q=>k c v q) (fun c q=>by rw[zad (zab q hn)];exact q) fun c xs q=>by rw[zad (zab q hn)];exact q
end
def Rd (H:Hp) (a:Addr) (u:HO):Prop:=H a=some u∨∃ o,H a=some (.frz o u)
theorem Rd.ok {P:Program}{w:World}{H:Hp}{h:Heap}{a:Addr}{u:HO}(r:Rd H a u) (x:HOk P w H h):ObjOk P w H h a u:=by
  rcases r with r|⟨o,r⟩
  · exact x a u r
  · obtain⟨_,q⟩:=x a _ r
    exact q
def Mut:Option HO→Prop
  | some (.lst _)=>True
  | some (.dK _)=>True
  | some (.dT _)=>True
  | some (.set _ _)=>True
  | some (.ins _ _ _)=>True
  | some (.ext _)=>True
  | _=>False
section
variable {P:Program}{w:World}{H:Hp}{h h':Heap}{x e:Addr}{o':HO}
theorem HOk.write (ok:HOk P w H h) (mu:Mut (H x)) (he:e=x∨H e=some (.own x)) (k:∀ b u,b≠e→h.get? b=some u→h'.get? b=some u) (heo:∃ u,h'.get? e=some u)
    (new:ObjOk P w (upd H x o') h' x o'):HOk P w (upd H x o') h':=fun b u q=>by
  have nown:∀ c y,H c=some (.own y)→c≠x:=fun c y r z=>by subst z;rw[r]at mu;exact mu
  have ntup:∀ c xs,H c=some (.tup xs)→c≠x:=fun c xs r z=>by subst z;rw[r]at mu;exact mu
  by_cases hb:b=x
  · subst hb;rw[zac]at q;cases q;exact new
  · rw[zad hb]at q
    by_cases hbe:b=e
    · have q':H b=some (.own x):=by
        rcases he with z|z
        · exact absurd (hbe.trans z) hb
        · rw[hbe];exact z
      rw[q]at q';cases q'
      obtain⟨v,hv⟩:=heo
      exact⟨v,by rw[hbe];exact hv⟩
    · refine(ok b u q).stay (fun c v hc r=>k c v ?_ r) (fun c r=>by rw[zad (nown c b r)];exact r) fun c xs r=>by rw[zad (ntup c xs r)];exact r
      rcases hc with rfl|hc
      · exact hbe
      · rintro rfl
        rcases he with z|z
        · exact nown c b hc z
        · rw[hc]at z;cases z;exact hb rfl
end
structure Un (fs ex:List Addr) (H H':Hp) (h h':Heap):Prop where
  keep:∀ b o,h.get? b=some o→H b=none→b∉fs→b∉ex→h'.get? b=some o
  slot:∀ b o,h.get? b=some o→H b=none→b∈fs→b∉ex→∃ sl,h'.get? b=some { o with slots:=sl }
  free:∀ b o,h.get? b=some o→H b=none→b∉ex→H' b=none
  there:∀ b o,h.get? b=some o→b∉ex→∃ o',h'.get? b=some o'
  tups:∀ b xs,H b=some (.tup xs)→H' b=some (.tup xs)
  frzs:∀ b o u,H b=some (.frz o u)→H' b=some (.frz o u)
  tbls:∀ b ps,H b=some (.tbl ps)→∃ more,H' b=some (.tbl (ps++more))
section
variable {fs fs' ex ex':List Addr}{H H1 H2:Hp}{h h1 h2 h':Heap}{a x e:Addr}{o:HO}
theorem Un.any (u:Un fs ex H H1 h h1) {b:Addr}{ob:Obj}(q:h.get? b=some ob) (n:H b=none) (hx:b∉ex):∃ sl,h1.get? b=some { ob with slots:=sl }:=by
  by_cases hb:b∈fs
  · exact u.slot b ob q n hb hx
  · exact⟨ob.slots,u.keep b ob q n hb hx⟩
theorem Un.kept (k:∀ b u,h.get? b=some u→h'.get? b=some u):Un fs ex H H h h' :=
  ⟨fun b ob q _ _ _=>k b ob q,fun b ob q _ _ _=>⟨ob.slots,k b ob q⟩,fun _ _ _ n _=>n,fun b ob q _=>⟨ob,k b ob q⟩,fun _ _ q=>q,fun _ _ _ q=>q,fun _ ps q=>⟨#[],by rw[q];simp⟩⟩
theorem Un.refl:Un fs ex H H h h:=Un.kept fun _ _ q=>q
theorem Un.laid (k:∀ b u,h.get? b=some u→h'.get? b=some u) (hp:h.objs.size≤a) (hn:H a=none):Un fs ex H (upd H a o) h h' where
  keep:=fun b u q _ _ _=>k b u q
  slot:=fun b u q _ _ _=>⟨u.slots,k b u q⟩
  free:=fun b u q n _=>by rw[zad (JB (JF (Jn q) hp))];exact n
  there:=fun b u q _=>⟨u,k b u q⟩
  tups:=fun b xs q=>by rw[zad (zab q hn)];exact q
  frzs:=fun b u xs q=>by rw[zad (zab q hn)];exact q
  tbls:=fun b ps q=>⟨#[],by rw[zad (zab q hn),q];simp⟩
theorem Un.write (mu:Mut (H x)) (he:e=x∨H e=some (.own x)) (k:∀ b u,b≠e→h.get? b=some u→h'.get? b=some u) (heo:∃ u,h'.get? e=some u):Un fs ex H (upd H x o) h h':=by
  have hx:∀ b,H b=none→b≠x:=fun b n z=>by subst z;rw[n]at mu;exact mu
  have hb:∀ b,H b=none→b≠e:=fun b n z=>by
    subst z
    rcases he with r|r
    · exact hx b n r
    · rw[n]at r;cases r
  have hm:∀ b u,H b=some u→¬ Mut (some u)→b≠x:=fun b u q nm z=>by subst z;rw[q]at mu;exact nm mu
  refine⟨fun b u q n _ _=>k b u (hb b n) q,fun b u q n _ _=>⟨u.slots,k b u (hb b n) q⟩,fun b u q n _=>by rw[zad (hx b n)];exact n,fun b u q _=>?_,
    fun b xs q=>by rw[zad (hm b _ q fun z=>z)];exact q,fun b u xs q=>by rw[zad (hm b _ q fun z=>z)];exact q,fun b ps q=>⟨#[],by rw[zad (hm b _ q fun z=>z),q];simp⟩⟩
  by_cases hbe:b=e
  · subst hbe;exact heo
  · exact⟨u,k b u hbe q⟩
end
def trk (h:Heap) (H:Hp):List Addr:=(List.range h.objs.size).filter fun a=>(H a).isSome
def hidT (h:Heap) (H:Hp):Heap:=PySem.W.hideAll h (trk h H)
theorem zhC (h:Heap) (H:Hp):(hidT h H).objs.size=h.objs.size:=PySem.W.hideAll_size _ _
theorem zi7 {h:Heap}{H:Hp}{b:Addr}{o:Obj}(e:h.get? b=some o) (n:H b=none):(hidT h H).get? b=some o :=
  PySem.W.hideAll_get _ e fun hm=>by
    have q:(H b).isSome=true:=(List.mem_filter.mp hm).2
    rw[n]at q;simp at q
theorem zkj {h:Heap}{H:Hp}{b:Addr}{o:Obj}(e:(hidT h H).get? b=some o):h.get? b=some o∧H b=none:=by
  have e':h.get? b=some o:=PySem.W.of_hideAll (trk h H) e
  refine⟨e',?_⟩
  cases q:H b with
  | none=>rfl
  | some x =>
    have hm:b∈trk h H:=List.mem_filter.mpr ⟨Yj.mpr (Jn e'),by simp[q]⟩
    have z:(hidT h H).get? b=none:=PySem.W.hideAll_none (trk h H) hm
    rw[z]at e;cases e
def zkJ (g h:Heap) (L:Addr):List (Addr × Obj):=(List.range h.objs.size).filterMap fun a=>if a=L∨(g.get? a).isSome=true then none else (h.get? a).map fun o=>(a,o)
def rest (g h:Heap) (L d:Addr):List (Addr × Obj):=(zkJ g h L).filter fun p=>decide (p.1≠d)
structure Mod (K:PySem.W.Frag) (mg:Str→Option Value) (base:Heap):Prop where
  kin:K.In base
  glob:base.Ns mainGlobals mg
  blt:∃ mb,base.Ns builtinsNs mb∧∀ x:Str,x≠"__name__"→mb x=bootBuiltins x
  nolimit:base.NoLimit
/-- the context: a def's body (or a comprehension's block) running. base: fixed through the whole law;s₀,H₀: the entry;outer: the frames whose slots others may change (a def's callers);stack: all frames that run;
   ex: iterators that were made ahead of the entry and are walked here (a comprehension's);fn: the names whose cells were made at the entry (a def: all;a comprehension's block: its own);calm: not within an except suite;pn: pins that every state bears;xe: what is wanted of an exception that leaves the code -/
structure Cx where
  prog:Program
  w:World
  K:PySem.W.Frag
  mg:Str→Option Value
  base:Heap
  A:Around
  N:List Str
  s₀:Shared
  H₀:Hp
  env:Env
  outer:List Env
  stack:List Env
  ex:List Addr
  fn:Str→Bool
  calm:Bool
  pn:List (Addr × Obj)
  xe:Value→Shared→Prop
def frs (l:List Env):List Addr:=l.filterMap (·.frame)
abbrev Cx.fs (X:Cx):List Addr:=frs X.outer
def Vis (sc:Scope) (x:Str):Prop:=sc.names.lookup x=some .local ∨ sc.names.lookup x=some .cell∨sc.names.lookup x=some .free
def Loc (sc:Scope) (x:Str):Prop:=sc.names.lookup x=some .local ∨ sc.names.lookup x=some .cell
def Look (env:Env) (h:Heap) (m:Str→Option Value) (x:Str) (u:Value):Prop :=
  (env.kindOf x=some .local ∧ m x=some u)∨((env.kindOf x=some .cell∨env.kindOf x=some .free)∧∃ c,env.cells.lookup x=some c∧h.IsCell c (some u))
structure Cx.Ok (X:Cx):Prop where
  mod:Mod X.K X.mg X.base
  kind:X.env.scope.kind=.function
  glob:X.env.globals=mainGlobals
  blt:X.env.builtins=builtinsNs
  above:X.s₀.heap.objs.size≤X.env.locals
  inj:∀ x y c,X.env.cells.lookup x=some c→X.env.cells.lookup y=some c→x=y
  has:∀ x,(X.env.kindOf x=some .cell∨X.env.kindOf x=some .free)→∃ c,X.env.cells.lookup x=some c
  cab:∀ x c,X.fn x=true→X.env.cells.lookup x=some c→X.s₀.heap.objs.size≤c
  hd:X.calm=true→X.A.handled=none
  frames:X.A.frames=some X.stack
  stk:X.stack=X.outer∨(X.stack=X.env::X.outer∧X.env.frame=some X.env.locals)
  exf:∀ b∈X.ex,b≠X.env.locals∧∀ x c,X.env.cells.lookup x=some c→c≠b
  bs:∀ b o,X.base.get? b=some o→X.s₀.heap.get? b=some o∧X.H₀ b=none
  bsz:X.base.objs.size≤X.s₀.heap.objs.size
  noex:∀ b o,X.base.get? b=some o→b∉X.ex
  exfs:∀ b∈X.ex,b∉X.fs
  funs:X.s₀.heap.FunFrames X.base X.outer
  frf:∀ b∈X.fs,X.H₀ b=none
structure Inv (X:Cx) (pins:List (Addr × Obj)) (σ:List (Option V)) (H:Hp) (s:Shared):Prop where
  ok:X.Ok
  os:s.os=X.s₀.os
  bare:AllBare s.gens
  base:Un X.fs X.ex X.H₀ H X.s₀.heap s.heap
  loc:∃ m,s.heap.Ns X.env.locals m∧∀ (i:Nat) (x:Str) (v:V),X.N[i]?=some x→σ[i]?=some (some v)→Vis X.env.scope x→∃ u,RelV v u∧Look X.env s.heap m x u
  cell:∀ x c,X.env.cells.lookup x=some c→∃ v,s.heap.IsCell c v
  free:H X.env.locals=none
  freeC:∀ x c,X.env.cells.lookup x=some c→H c=none
  pin:∀ p∈X.pn++pins,s.heap.get? p.1=some p.2∧H p.1=none∧p.1≠X.env.locals∧p.1∉X.fs∧∀ v,p.2.data≠.cell v
  hok:HOk X.prog X.w H s.heap
  len:σ.length=X.N.length
section
variable {X:Cx}{pins:List (Addr × Obj)}{σ:List (Option V)}{H H':Hp}{s:Shared}{h':Heap}
theorem Cx.Ok.nofr (ok:X.Ok) {b:Addr}{o:Obj}(e:X.base.get? b=some o):b∉X.fs:=fun hb=>by
  have:=(ok.funs.mem hb).1
  rw[e]at this;cases this
theorem Inv.bs (I:Inv X pins σ H s):∀ b o,X.base.get? b=some o→s.heap.get? b=some o∧H b=none:=fun b o e =>
  ⟨I.base.keep b o (I.ok.bs b o e).1 (I.ok.bs b o e).2 (I.ok.nofr e) (I.ok.noex b o e),I.base.free b o (I.ok.bs b o e).1 (I.ok.bs b o e).2 (I.ok.noex b o e)⟩
theorem Inv.bk (I:Inv X pins σ H s):∀ b o,X.base.get? b=some o→s.heap.get? b=some o:=fun b o e=>(I.bs b o e).1
theorem Inv.mod (I:Inv X pins σ H s):Mod X.K X.mg X.base:=I.ok.mod
theorem Inv.kIn (I:Inv X pins σ H s):X.K.In s.heap:=I.ok.mod.kin.keeps I.bk
theorem Inv.lt (I:Inv X pins σ H s):X.env.locals<s.heap.objs.size:=let ⟨_,hn,_⟩:=I.loc;hn.lt
theorem Inv.sz (I:Inv X pins σ H s):X.s₀.heap.objs.size≤s.heap.objs.size:=JY I.ok.above (Nat.le_of_lt I.lt)
theorem Inv.nofs (I:Inv X pins σ H s) {a:Addr}(h:s.heap.objs.size≤a):a∉X.fs:=fun hb=>by
  obtain⟨_,o,ho,_⟩:=I.ok.funs.mem hb
  exact absurd (JF (Jn ho) (JY I.sz h)) (Ym _)
theorem Inv.cne (I:Inv X pins σ H s):∀ x c,X.env.cells.lookup x=some c→c≠X.env.locals:=fun x c e z=>by
  obtain⟨v,o,ho,hd⟩:=I.cell x c e
  obtain⟨m,⟨o',es,ep,ho',hd',_⟩,_⟩:=I.loc
  rw[z,ho']at ho;cases ho;rw[hd']at hd;cases hd
theorem Inv.funs (I:Inv X pins σ H s):s.heap.FunFrames X.base X.outer:=by
  have all:∀ (l:List Env),(∀ b∈frs l,b∈X.fs)→X.s₀.heap.FunFrames X.base l→s.heap.FunFrames X.base l:=by
    intro l
    induction l with
    | nil=>intro _ _;trivial
    | cons env r ih =>
      intro hs hl
      obtain⟨hk,⟨L,o,hf,hn,ho,hd⟩,hr⟩:=hl
      have hL:L∈X.fs:=hs L (by unfold frs;rw[List.filterMap_cons,hf];exact JD)
      obtain⟨sl,e⟩:=I.base.slot L o ho (I.ok.frf L hL) hL fun z=>I.ok.exfs L z hL
      exact⟨hk,⟨L,_,hf,hn,e,hd⟩,ih (fun b hb=>hs b (by unfold frs;rw[List.filterMap_cons,hf];exact JC _ hb)) hr⟩
  exact all X.outer (fun _ hb=>hb) I.ok.funs
theorem Inv.stack (I:Inv X pins σ H s):s.heap.FunFrames X.base X.stack:=by
  rcases I.ok.stk with e|⟨e,hf⟩
  · rw[e];exact I.funs
  · rw[e]
    obtain⟨m,hn,_⟩:=I.loc
    refine .cons (by rw[I.ok.kind];decide) hf hn ?_ I.funs
    exact Heap.get?_none_of_le (JY I.ok.bsz I.ok.above)
theorem Inv.stkSub (I:Inv X pins σ H s):∀ b∈frs X.stack,b∈X.env.locals::X.fs:=fun b hb=>by
  rcases I.ok.stk with e|⟨e,hf⟩
  · rw[e]at hb;exact JC _ hb
  · rw[e]at hb
    unfold frs at hb
    rw[List.filterMap_cons,hf]at hb
    exact hb
theorem Inv.stkFree (I:Inv X pins σ H s):∀ b∈frs X.stack,H b=none:=fun b hb=>by
  rcases List.mem_cons.mp (I.stkSub b hb) with e|hb
  · rw[e];exact I.free
  · obtain⟨_,o,ho,_⟩:=I.ok.funs.mem hb
    exact I.base.free b o ho (I.ok.frf b hb) fun z=>I.ok.exfs b z hb
theorem Inv.step {g':Array GenState}{t':Nat}{d':Drawn}{ch:List Addr}(I:Inv X pins σ H s)
    (hch:∀ b∈ch,(b∈X.ex∨X.s₀.heap.objs.size≤b)∧b≠X.env.locals∧(∀ x c,X.env.cells.lookup x=some c→c≠b)∧∀ p∈X.pn++pins,p.1≠b)
    (keep:∀ b o,b≠X.env.locals→b∉X.fs→b∉ch→s.heap.get? b=some o→H b=none→h'.get? b=some o)
    (slot:∀ b o,b≠X.env.locals→b∈X.fs→b∉ch→s.heap.get? b=some o→H b=none→∃ sl,h'.get? b=some { o with slots:=sl }) (free:∀ b o,b∉ch→s.heap.get? b=some o→H b=none→H' b=none)
    (there:∀ b o,b∉ch→s.heap.get? b=some o→∃ o',h'.get? b=some o')
    (tups:∀ b xs,H b=some (.tup xs)→H' b=some (.tup xs)) (frzs:∀ b o u,H b=some (.frz o u)→H' b=some (.frz o u)) (tbls:∀ b ps,H b=some (.tbl ps)→∃ more,H' b=some (.tbl (ps++more)))
    (ns:∀ m,s.heap.Ns X.env.locals m→h'.Ns X.env.locals m) (hok:HOk X.prog X.w H' h') (hg:AllBare g') :
    Inv X pins σ H' { s with heap:=h',gens:=g',drawn:=d',toks:=t' }:=by
  have neL:∀ b o,X.s₀.heap.get? b=some o→b≠X.env.locals:=fun b o e=>JB (JF (Jn e) I.ok.above)
  have neC:∀ b o,X.s₀.heap.get? b=some o→b∉X.ex→b∉ch:=fun b o e hx hb=>by
    rcases (hch b hb).1 with z|z
    · exact hx z
    · exact absurd (JF (Jn e) z) (Ym _)
  have cellK:∀ x c,X.env.cells.lookup x=some c→∀ v,s.heap.IsCell c v→h'.IsCell c v:=fun x c e v ⟨o,ho,hd⟩=>by
    have nch:c∉ch:=fun z=>(hch c z).2.2.1 x c e rfl
    by_cases hc:c∈X.fs
    · obtain⟨sl,q⟩:=slot c o (I.cne x c e) hc nch ho (I.freeC x c e)
      exact⟨_,q,hd⟩
    · exact⟨o,keep c o (I.cne x c e) hc nch ho (I.freeC x c e),hd⟩
  refine⟨I.ok,I.os,hg,⟨fun b o e n hb hx=>?_,fun b o e n hb hx=>?_,fun b o e n hx=>?_,fun b o e hx=>?_,fun b xs e=>tups b xs (I.base.tups b xs e),fun b o xs e=>frzs b o xs (I.base.frzs b o xs e),fun b ps e=>?_⟩,?_,fun x c e=>?_,?_,fun x c e=>?_,fun p hp=>?_,hok,I.len⟩
  · exact keep b o (neL b o e) hb (neC b o e hx) (I.base.keep b o e n hb hx) (I.base.free b o e n hx)
  · obtain⟨sl,e1⟩:=I.base.slot b o e n hb hx
    obtain⟨sl',e2⟩:=slot b _ (neL b o e) hb (neC b o e hx) e1 (I.base.free b o e n hx)
    exact⟨sl',e2⟩
  · obtain⟨o',e1⟩:=I.base.there b o e hx
    exact free b o' (neC b o e hx) e1 (I.base.free b o e n hx)
  · obtain⟨o',e1⟩:=I.base.there b o e hx
    exact there b o' (neC b o e hx) e1
  · obtain⟨m1,e1⟩:=I.base.tbls b ps e
    obtain⟨m2,e2⟩:=tbls b _ e1
    exact⟨m1++m2,by rw[e2,Array.append_assoc]⟩
  · obtain⟨m,hn,hl⟩:=I.loc
    refine⟨m,ns m hn,fun i x v e1 e2 e3=>?_⟩
    obtain⟨u,r,l⟩:=hl i x v e1 e2 e3
    refine⟨u,r,?_⟩
    rcases l with l|⟨k,c,e,z⟩
    · exact .inl l
    · exact .inr ⟨k,c,e,cellK x c e _ z⟩
  · obtain⟨v,z⟩:=I.cell x c e
    exact⟨v,cellK x c e v z⟩
  · obtain⟨m,⟨o,_,_,ho,_⟩,_⟩:=I.loc
    exact free _ o (fun z=>(hch _ z).2.1 rfl) ho I.free
  · obtain⟨v,o,ho,hd⟩:=I.cell x c e
    exact free c o (fun z=>(hch c z).2.2.1 x c e rfl) ho (I.freeC x c e)
  · obtain⟨e,n,ne,nf,d⟩:=I.pin p hp
    have nch:p.1∉ch:=fun z=>(hch p.1 z).2.2.2 p hp rfl
    exact⟨keep p.1 p.2 ne nf nch e n,free p.1 p.2 nch e n,ne,nf,d⟩
theorem Inv.un {t':Nat}(I:Inv X pins σ H s) (u:Un X.fs [] H H' s.heap h') (hok:HOk X.prog X.w H' h'):Inv X pins σ H' { s with heap:=h',toks:=t' }:=by
  obtain⟨m,⟨o,es,ep,ho,r⟩,_⟩:=id I.loc
  obtain⟨sl,hL⟩:=u.any ho I.free (by simp)
  exact I.step (g':=s.gens) (d':=s.drawn) (ch:=[]) (fun _ z=>nomatch z) (fun b o _ hb _ e n=>u.keep b o e n hb (by simp)) (fun b o _ hb _ e n=>u.slot b o e n hb (by simp)) (fun b o _ e n=>u.free b o e n (by simp)) (fun b o _ e=>u.there b o e (by simp)) u.tups u.frzs u.tbls (fun m' hm=>by
    obtain⟨o',es',ep',ho',r'⟩:=hm
    rw[ho]at ho';cases ho'
    exact⟨_,es',ep',hL,r'⟩) hok I.bare
theorem Inv.call {g':Array GenState}{t':Nat}{d':Drawn}{ch:List Addr}(I:Inv X pins σ H s) (u:Un (frs X.stack) ch H H' s.heap h') (hok:HOk X.prog X.w H' h') (hg:AllBare g')
    (hch:∀ b∈ch,(b∈X.ex∨X.s₀.heap.objs.size≤b)∧b≠X.env.locals∧(∀ x c,X.env.cells.lookup x=some c→c≠b)∧∀ p∈X.pn++pins,p.1≠b) :
    Inv X pins σ H' { s with heap:=h',gens:=g',drawn:=d',toks:=t' }:=by
  obtain⟨m,⟨o,es,ep,ho,r⟩,_⟩:=id I.loc
  obtain⟨sl,hL⟩:=u.any ho I.free fun z=>(hch _ z).2.1 rfl
  exact I.step (ch:=ch) hch (fun b o hL hb hc e n=>u.keep b o e n (fun z=>(List.mem_cons.mp (I.stkSub b z)).elim hL hb) hc) (fun b o _ _ hc e n=>u.any e n hc) (fun b o hc e n=>u.free b o e n hc) (fun b o hc e=>u.there b o e hc) u.tups u.frzs u.tbls (fun m' hm=>by
    obtain⟨o',es',ep',ho',r'⟩:=hm
    rw[ho]at ho';cases ho'
    exact⟨_,es',ep',hL,r'⟩) hok hg
theorem Inv.turned {t':Nat}{it:Addr}(I:Inv X pins σ H s) (k:∀ b o,b≠it→s.heap.get? b=some o→h'.get? b=some o) (hn:H it=none) (hL:it≠X.env.locals)
    (h1:it∈X.ex∨X.s₀.heap.objs.size≤it) (h2:∀ x c,X.env.cells.lookup x=some c→c≠it) (h3:∀ p∈X.pn++pins,p.1≠it):Inv X pins σ H { s with heap:=h',toks:=t' }:=by
  have nit:∀ b u,H b=some u→b≠it:=fun b u e z=>by rw[z,hn]at e;cases e
  refine I.step (g':=s.gens) (d':=s.drawn) (ch:=[it]) (fun b hb=>?_) (fun b o _ _ hc e _=>k b o (fun z=>hc (by simp[z])) e) (fun b o _ _ hc e _=>⟨o.slots,k b o (fun z=>hc (by simp[z])) e⟩) (fun _ _ _ _ n=>n)
    (fun b o hc e=>⟨o,k b o (fun z=>hc (by simp[z])) e⟩) (fun _ _ e=>e) (fun _ _ _ e=>e) (fun b ps e=>⟨#[],by rw[e];simp⟩) (fun m hm=>?_) (fun b u e=>?_) I.bare
  · have e:b=it:=by simpa using hb
    subst e
    exact⟨h1,hL,h2,h3⟩
  · obtain⟨o,es,ep,ho,r⟩:=hm
    exact⟨o,es,ep,k _ o (Ne.symm hL) ho,r⟩
  · refine(I.hok b u e).stay (fun c v hc q=>k c v ?_ q) (fun _ q=>q) fun _ _ q=>q
    rcases hc with z|z
    · rw[z];exact nit b u e
    · exact nit c _ z
theorem Inv.tok (I:Inv X pins σ H s) (t:Nat):Inv X pins σ H { s with toks:=t }:=I.un (h':=s.heap) (t':=t) Un.refl I.hok
theorem Inv.kept {t':Nat}(I:Inv X pins σ H s) (k:∀ b u,s.heap.get? b=some u→h'.get? b=some u):Inv X pins σ H { s with heap:=h',toks:=t' }:=I.un (Un.kept k) (I.hok.kept k)
theorem Inv.laid {a:Addr}{o:HO}{t':Nat}(I:Inv X pins σ H s) (k:∀ b u,s.heap.get? b=some u→h'.get? b=some u) (hp:s.heap.objs.size≤a) (new:ObjOk X.prog X.w (upd H a o) h' a o) :
    Inv X pins σ (upd H a o) { s with heap:=h',toks:=t' }:=I.un (Un.laid k hp (I.hok.fresh hp)) (I.hok.laid k hp new)
theorem Inv.write {x e:Addr}{o:HO}{t':Nat}(I:Inv X pins σ H s) (mu:Mut (H x)) (he:e=x∨H e=some (.own x)) (k:∀ b u,b≠e→s.heap.get? b=some u→h'.get? b=some u) (heo:∃ u,h'.get? e=some u)
    (new:ObjOk X.prog X.w (upd H x o) h' x o):Inv X pins σ (upd H x o) { s with heap:=h',toks:=t' }:=I.un (Un.write mu he k heo) (I.hok.write mu he k heo new)
theorem Inv.pins_of {pins':List (Addr × Obj)}(I:Inv X pins σ H s) (h:∀ p∈pins',s.heap.get? p.1=some p.2∧H p.1=none∧p.1≠X.env.locals∧p.1∉X.fs∧∀ v,p.2.data≠.cell v):Inv X pins' σ H s :=
  ⟨I.ok,I.os,I.bare,I.base,I.loc,I.cell,I.free,I.freeC,fun p hp=>(Js.mp hp).elim (fun z=>I.pin p (Y6 _ z)) (h p),I.hok,I.len⟩
theorem zfo {N:List Str}(hN:N.Nodup) {i j:Nat}{x:Str}(a:N[i]?=some x) (b:N[j]?=some x):i=j:=by
  obtain⟨h1,e1⟩:=Je.mp a
  obtain⟨h2,e2⟩:=Je.mp b
  exact(List.getElem_inj hN).mp (e1.trans e2.symm)
theorem zdu {M:Model}{A:Around}{E:Value→Shared→Prop}{i:Nat}{x:Str}{v:V}{u:Value}{Q:Unit→Shared→Prop}(I:Inv X pins σ H s) (hN:X.N.Nodup) (hi:X.N[i]?=some x) (hx:Loc X.env.scope x) (r:RelV v u)
    (h:∀ s',Inv X pins (σ.set i (some v)) H s'→(∃ a,Heap.SameBut a s.heap s'.heap∧(a=X.env.locals∨X.env.cells.lookup x=some a))→Q () s') (hf:X.fn x=true∨X.env.scope.names.lookup x=some .local:=by first|exact .inl rfl|exact .inr rfl|assumption):wpAny M A (storeName X.env x u) Q E s:=by
  obtain⟨m,hn,hl⟩:=id I.loc
  have hcls:(X.env.scope.kind == .class || (X.env.scope.kind == .module && X.env.locals != X.env.globals))=false:=by rw[I.ok.kind];rfl
  have hiσ:i<σ.length:=by rw[I.len];exact(Je.mp hi).1
  have cne:=I.cne
  have tracked:∀ {a:Addr}{h':Heap},(∃ o,s.heap.get? a=some o∧H a=none)→Heap.SameBut a s.heap h'→HOk X.prog X.w H h':=fun {a h'} ha hs b ob e=>by
    obtain⟨_,_,hfree⟩:=ha
    refine(I.hok b ob e).stay (fun c w' hc q=>(hs.2 c ?_).trans q) (fun _ q=>q) fun _ _ q=>q
    rintro rfl
    rcases hc with rfl|hc
    · rw[hfree]at e;cases e
    · rw[hfree]at hc;cases hc
  rcases hx with hk|hk
  · refine wpAny_storeName_local hk hn (fun h' hn' hs=>?_) hcls
    obtain⟨oL,_,_,hoL,_⟩:=id hn
    refine h _ ⟨I.ok,I.os,I.bare,⟨fun b o e n hb hx=>?_,fun b o e n hb hx=>?_,I.base.free,fun b o e hx=>?_,I.base.tups,I.base.frzs,I.base.tbls⟩,⟨_,hn',fun j y v' e1 e2 e3=>?_⟩,fun y c e=>?_,I.free,I.freeC,fun p hp=>?_,tracked ⟨oL,hoL,I.free⟩ hs,by simpa using I.len⟩ ⟨_,hs,.inl rfl⟩
    · exact(hs.2 b (JB (JF (Jn e) I.ok.above))).trans (I.base.keep b o e n hb hx)
    · obtain⟨sl,e1⟩:=I.base.slot b o e n hb hx
      exact⟨sl,(hs.2 b (JB (JF (Jn e) I.ok.above))).trans e1⟩
    · obtain⟨o',e1⟩:=I.base.there b o e hx
      exact⟨o',(hs.2 b (JB (JF (Jn e) I.ok.above))).trans e1⟩
    · by_cases hj:j=i
      · subst hj
        rw[hi]at e1;cases e1
        rw[List.getElem?_set_self hiσ]at e2
        cases e2
        exact⟨u,r,.inl ⟨hk,by simp⟩⟩
      · rw[Zf (Ne.symm hj)]at e2
        obtain⟨u',r',q⟩:=hl j y v' e1 e2 e3
        refine⟨u',r',?_⟩
        rcases q with ⟨k,e⟩|⟨k,c,e,z⟩
        · refine .inl ⟨k,?_⟩
          have:y≠x:=fun e=>hj (zfo hN e1 (e ▸ hi))
          simp[this,e]
        · exact .inr ⟨k,c,e,z.sameBut hs (cne y c e)⟩
    · obtain⟨w',z⟩:=I.cell y c e
      exact⟨w',z.sameBut hs (cne y c e)⟩
    · obtain⟨e,n,ne,nf,d⟩:=I.pin p hp
      exact⟨(hs.2 p.1 ne).trans e,n,ne,nf,d⟩
  · have hfn:X.fn x=true:=by
      rcases hf with z|z
      · exact z
      · rw[z]at hk;cases hk
    obtain⟨c,hc⟩:=I.ok.has x (.inl hk)
    obtain⟨w',z⟩:=I.cell x c hc
    refine wpAny_storeName_cell I.ok.kind hk hc z (fun h' hc' hs=>?_)
    obtain⟨oc,hoc,hocd⟩:=id z
    refine h { s with heap:=h' } ⟨I.ok,I.os,I.bare,⟨fun b o e n hb hx=>?_,fun b o e n hb hx=>?_,I.base.free,fun b o e hx=>?_,I.base.tups,I.base.frzs,I.base.tbls⟩,⟨m,hn.sameBut hs (Ne.symm (cne x c hc)),fun j y v' e1 e2 e3=>?_⟩,fun y c' e=>?_,I.free,I.freeC,fun p hp=>?_,tracked ⟨oc,hoc,I.freeC x c hc⟩ hs,by simpa using I.len⟩ ⟨c,hs,.inr hc⟩
    · exact(hs.2 b (JB (JF (Jn e) (I.ok.cab x c hfn hc)))).trans (I.base.keep b o e n hb hx)
    · obtain⟨sl,e1⟩:=I.base.slot b o e n hb hx
      exact⟨sl,(hs.2 b (JB (JF (Jn e) (I.ok.cab x c hfn hc)))).trans e1⟩
    · obtain⟨o',e1⟩:=I.base.there b o e hx
      exact⟨o',(hs.2 b (JB (JF (Jn e) (I.ok.cab x c hfn hc)))).trans e1⟩
    · by_cases hj:j=i
      · subst hj
        rw[hi]at e1;cases e1
        rw[List.getElem?_set_self hiσ]at e2
        cases e2
        exact⟨u,r,.inr ⟨.inl hk,c,hc,hc'⟩⟩
      · rw[Zf (Ne.symm hj)]at e2
        obtain⟨u',r',q⟩:=hl j y v' e1 e2 e3
        refine⟨u',r',?_⟩
        rcases q with q|⟨k,c',e,z'⟩
        · exact .inl q
        · refine .inr ⟨k,c',e,z'.sameBut hs ?_⟩
          rintro rfl
          exact hj (zfo hN e1 (I.ok.inj _ _ _ e hc ▸ hi))
    · by_cases hcc:c'=c
      · subst hcc;exact⟨_,hc'⟩
      · obtain⟨w2,z2⟩:=I.cell y c' e
        exact⟨w2,z2.sameBut hs hcc⟩
    · obtain⟨e,n,ne,nf,d⟩:=I.pin p hp
      refine⟨(hs.2 p.1 ?_).trans e,n,ne,nf,d⟩
      intro q
      rw[q,hoc]at e
      have q':oc=p.2:=Option.some.inj e
      exact d w' (by rw[← q'];exact hocd)
theorem zaX {M:Model}{A:Around}{E:Value→Shared→Prop}{i:Nat}{x:Str}{v:V}{u:Value}{Q:Unit→Shared→Prop}(I:Inv X pins σ H s) (hN:X.N.Nodup) (hi:X.N[i]?=some x) (hx:Loc X.env.scope x) (r:RelV v u)
    (h:∀ s',Inv X pins (σ.set i (some v)) H s'→Q () s') (hf:X.fn x=true∨X.env.scope.names.lookup x=some .local:=by first|exact .inl rfl|exact .inr rfl|assumption):wpAny M A (storeName X.env x u) Q E s :=
  zdu I hN hi hx r (fun s' I' _=>h s' I') hf
theorem Inv.call' {s':Shared}{ch:List Addr}(I:Inv X pins σ H s) (ho:s'.os=s.os) (u:Un (frs X.stack) ch H H' s.heap s'.heap) (hok:HOk X.prog X.w H' s'.heap) (hg:AllBare s'.gens)
    (hch:∀ b∈ch,(b∈X.ex∨X.s₀.heap.objs.size≤b)∧b≠X.env.locals∧(∀ x c,X.env.cells.lookup x=some c→c≠b)∧∀ p∈X.pn++pins,p.1≠b):Inv X pins σ H' s':=by
  obtain⟨h',g',d',t',o'⟩:=s'
  have e:o'=s.os:=ho
  subst e
  exact I.call (g':=g') (t':=t') (d':=d') u hok hg hch
end
abbrev XK:=Value→Option Addr→Hp→Prop
abbrev St:=List (Option V)
abbrev VK:=V→Hp→Prop
abbrev TE:=St→Hp→VK→Prop
abbrev TT:=St→Hp→(Bool→Hp→Prop)→Prop
abbrev TA:=St→Hp→(List V→Hp→Prop)→Prop
structure Ends where
  nx:St→Hp→Prop
  rt:VK
  bk:St→Hp→Prop:=fun _ _=>False
  ct:St→Hp→Prop:=fun _ _=>False
abbrev TS:=Ends→St→Hp→Prop
def EP (X:Cx) (pins:List (Addr × Obj)) (σ:St) (Q:VK) (u:Value) (s':Shared):Prop:=∃ v H',Inv X pins σ H' s'∧RelV v u∧Q v H'
def TP (X:Cx) (pins:List (Addr × Obj)) (σ:St) (Q:Bool→Hp→Prop) (b:Bool) (s':Shared):Prop:=∃ H',Inv X pins σ H' s'∧Q b H'
def AP (X:Cx) (pins:List (Addr × Obj)) (σ:St) (Q:List V→Hp→Prop) (us:List Value) (s':Shared):Prop:=∃ vs H',Inv X pins σ H' s'∧Vals vs us∧Q vs H'
def SP (X:Cx) (pins:List (Addr × Obj)) (D:Ends) (f:Flow) (s':Shared):Prop :=
  match f with
  | .next=>∃ σ' H',Inv X pins σ' H' s'∧D.nx σ' H'
  | .brk=>∃ σ' H',Inv X pins σ' H' s'∧D.bk σ' H'
  | .cont=>∃ σ' H',Inv X pins σ' H' s'∧D.ct σ' H'
  | .ret u=>∃ v σ' H',Inv X pins σ' H' s'∧RelV v u∧D.rt v H'
def PE (X:Cx) (e:Expr) (t:TE):Prop :=
  ∀ (pins:List (Addr × Obj)) (s:Shared) (σ:St) (H:Hp) (Q:VK),Inv X pins σ H s→t σ H Q→wpAny (model X.prog X.w) X.A (eval e X.env) (EP X pins σ Q) X.xe s
def PT (X:Cx) (e:Expr) (t:TT):Prop :=
  ∀ (pins:List (Addr × Obj)) (s:Shared) (σ:St) (H:Hp) (Q:Bool→Hp→Prop),Inv X pins σ H s→t σ H Q→wpAny (model X.prog X.w) X.A (isTrue e X.env (eval e X.env)) (TP X pins σ Q) X.xe s
def PW (X:Cx) (e:Expr) (t:TT):Prop :=
  ∀ (whole:Sem Value) (pins:List (Addr × Obj)) (s:Shared) (σ:St) (H:Hp) (Q:Bool→Hp→Prop),Inv X pins σ H s→t σ H Q→wpAny (model X.prog X.w) X.A (isTrue e X.env whole) (TP X pins σ Q) X.xe s
theorem PW.pt {X:Cx}{e:Expr}{t:TT}(h:PW X e t):PT X e t:=h _
def PA (X:Cx) (es:List Expr) (t:TA):Prop :=
  ∀ (pos:Pos) (pins:List (Addr × Obj)) (s:Shared) (σ:St) (H:Hp) (Q:List V→Hp→Prop),Inv X pins σ H s→t σ H Q→wpAny (model X.prog X.w) X.A (spliced (backTo pos (starEach es X.env))) (AP X pins σ Q) X.xe s
def PS (X:Cx) (st:Stmt) (t:TS):Prop :=
  ∀ (pins:List (Addr × Obj)) (s:Shared) (σ:St) (H:Hp) (D:Ends),Inv X pins σ H s→t D σ H→wpAny (model X.prog X.w) X.A (exec st X.env) (SP X pins D) X.xe s
def PSs (X:Cx) (st:List Stmt) (t:TS):Prop :=
  ∀ (pins:List (Addr × Obj)) (s:Shared) (σ:St) (H:Hp) (D:Ends),Inv X pins σ H s→t D σ H→wpAny (model X.prog X.w) X.A (execs st X.env) (SP X pins D) X.xe s
theorem thn {α:Type}{t:Sem α}{Q Q':α→Shared→Prop}{M:Model}{A:Around}{E:Value→Shared→Prop}{s:Shared}(h:wpAny M A t Q E s) (hQ:∀ a s,Q a s→Q' a s):wpAny M A t Q' E s:=JK h hQ fun _ _ x=>x
section
variable {X:Cx}
def tVar (i:Nat):TE:=fun σ H Q=>∃ v,σ[i]?=some (some v)∧Q v H
def tC (v:V):TE:=fun _ H Q=>Q v H
theorem zkX {i:Nat}{x:Str}{pos:Pos}(hN:X.N[i]?=some x) (hv:Vis X.env.scope x) (hd:(x == ("__debug__":Str))=false:=by decide) (hcd:(x == ("__classdict__":Str))=false:=by decide):PE X (.Name x pos) (tVar i):=by
  intro pins s σ H Q I h
  obtain⟨v,e,h⟩:=h
  obtain⟨m,hn,hl⟩:=I.loc
  obtain⟨u,r,l⟩:=hl i x v hN e hv
  have fin:EP X pins σ Q u s:=⟨v,H,I,r,h⟩
  rcases l with ⟨hk,hm⟩|⟨hk,c,hc,hcell⟩
  · exact wpAny_Name (wpAny_loadName_local I.ok.kind hk hn hm fin) hd
  · rcases hk with hk|hk
    · exact wpAny_Name (wpAny_loadName_cell I.ok.kind hk hc hcell fin) hd
    · exact wpAny_Name (wpAny_loadName_free I.ok.kind hk hc hcell fin hcd) hd
theorem pe_int {i j pos}:PE X (.Constant (.int i) j pos) (tC (.int i)):=fun _ _ _ H _ I h=>wpAny_Constant_int ⟨.int i,H,I.tok _,⟨_,rfl⟩,h⟩
theorem pe_bl {b j pos}:PE X (.Constant (.bool b) j pos) (tC (.bl b)):=fun _ _ _ H _ I h=>Constant_bool ⟨.bl b,H,I,rfl,h⟩
theorem pe_non {j pos}:PE X (.Constant .none j pos) (tC .non):=fun _ _ _ H _ I h=>Constant_none ⟨.non,H,I,rfl,h⟩
theorem zb2 {x j pos}:PE X (.Constant (.str x) j pos) (tC (.str x)):=fun _ _ _ H _ I h=>Calls.Constant_str ⟨.str x,H,I.tok _,⟨_,rfl⟩,h⟩
def Gl (X:Cx) (x:Str):Prop:=X.env.kindOf x=some .globalImplicit
theorem zhp {E:Value→Shared→Prop}{pins:List (Addr × Obj)}{s:Shared}{σ:St}{H:Hp}{x:Str}{u:Value}{pos:Pos}{Q:Value→Shared→Prop}(I:Inv X pins σ H s) (hg:Gl X x) (hm:X.mg x=some u) (h:Q u s)
    (hd:(x == ("__debug__":Str))=false:=by decide):wpAny (model X.prog X.w) X.A (eval (.Name x pos) X.env) Q E s :=
  Calls.Name_function_global I.ok.kind hg (Calls.loadGlobal_global (by rw[I.ok.glob];exact I.mod.glob.keeps I.bk) hm h) hd
theorem zbD {E:Value→Shared→Prop}{pins:List (Addr × Obj)}{s:Shared}{σ:St}{H:Hp}{x:Str}{u:Value}{pos:Pos}{Q:Value→Shared→Prop}(I:Inv X pins σ H s) (hg:Gl X x) (hm:X.mg x=none) (hv:bootBuiltins x=some u) (h:Q u s)
    (hn:x≠"__name__":=by decide) (hd:(x == ("__debug__":Str))=false:=by decide):wpAny (model X.prog X.w) X.A (eval (.Name x pos) X.env) Q E s:=by
  obtain⟨mb,h1,h2⟩:=I.mod.blt
  exact Calls.Name_function_global I.ok.kind hg (Calls.loadGlobal_builtin (by rw[I.ok.glob];exact I.mod.glob.keeps I.bk) hm (by rw[I.ok.blt];exact h1.keeps I.bk) ((h2 x hn).trans hv) h) hd
variable {a b:Expr}{ta tb:TE}{pos:Pos}
def tB (t:TE):TT:=fun σ H Q=>t σ H fun x H1=>∃ c,x=.bl c∧Q c H1
theorem pt_val {e:Expr}{t:TE}(h:PE X e t) (he:∀ whole,isTrue e X.env whole=(do let v ← whole;standAt e.pos;holding [v] (truthy v)):=by intro _;rfl):PT X e (tB t):=by
  intro pins s σ H Q I hw
  refine isTrue_plain (thn (h pins s σ H _ I hw) fun v s1 ⟨x,H1,I1,r1,q1⟩=>?_) (he _)
  obtain⟨d,rfl,q⟩:=q1
  cases r1
  exact YH ⟨H1,I1,q⟩
variable {tA tB':TT}{rest:List Expr}
def tOr (t u:TT):TT:=fun σ H Q=>t σ H fun c H1=>if c=true then Q true H1 else u σ H1 Q
def tNot (t:TT):TT:=fun σ H Q=>t σ H fun c H1=>Q (!c) H1
theorem pw_or1 (ha:PT X a tA):PW X (.BoolOp .Or [a] pos) tA:=by
  intro wh pins s σ H Q I h
  refine isTrue_or (thn (ha pins s σ H Q I h) fun c s1 e=>?_)
  cases c with
  | false=>exact isTrue_or_nil e
  | true=>exact e
theorem pw_or (ha:PT X a tA) (hb:PW X (.BoolOp .Or (b::rest) pos) tB'):PW X (.BoolOp .Or (a::b::rest) pos) (tOr tA tB'):=by
  intro wh pins s σ H Q I h
  refine isTrue_or (thn (ha pins s σ H _ I h) fun c s1 ⟨H1,I1,q1⟩=>?_)
  cases c with
  | true=>exact⟨H1,I1,q1⟩
  | false=>exact hb wh pins s1 σ H1 Q I1 q1
theorem pt_not (ha:PT X a tA):PT X (.UnaryOp .Not a pos) (tNot tA):=by
  intro pins s σ H Q I h
  exact isTrue_not (ha pins s σ H (fun c H1=>Q (!c) H1) I h)
def tIf (t:TT) (ta tb:TE):TE:=fun σ H Q=>t σ H fun c H1=>if c=true then ta σ H1 Q else tb σ H1 Q
theorem pe_ifExp {c:Expr}(hc:PT X c tA) (ha:PE X a ta) (hb:PE X b tb):PE X (.IfExp c a b pos) (tIf tA ta tb):=by
  intro pins s σ H Q I h
  refine wpAny_IfExp (thn (hc pins s σ H _ I h) fun d s1 ⟨H1,I1,q1⟩=>?_)
  cases d with
  | true=>exact ha pins s1 σ H1 Q I1 q1
  | false=>exact hb pins s1 σ H1 Q I1 q1
end
def SqL (K:PySem.W.Frag) (H:Hp) (a:Addr) (xs:List V):Prop :=
  Rd H a (.lst xs) ∨
    ∃ (o:Obj) (its:Array Value) (n:Nat),K.lookup a=some o∧o.cls=.type "list"∧o.dict=none∧o.data=.seq its n∧its.size≤sizeLine∧Vals xs its.toList
def SqT (K:PySem.W.Frag) (H:Hp) (a:Addr) (xs:List V):Prop :=
  Rd H a (.tup xs) ∨
    ∃ (o:Obj) (its:Array Value) (n:Nat),K.lookup a=some o∧o.cls=.type "tuple"∧o.data=.seq its n∧its.size≤sizeLine∧Vals xs its.toList
def absV:Value→Option V
  | .none=>some .non
  | .bool b=>some (.bl b)
  | .int i _=>some (.int i)
  | .str x _=>some (.str x)
  | .bytes b _=>some (.byt b)
  | .float b _=>some (.flt b)
  | .ref a=>some (.ref a)
  | .type n=>some (.ty n)
  | _=>none
theorem RelV.abs {x:V}{u:Value}(r:RelV x u):absV u=some x:=by
  cases x with
  | non=>cases r;rfl
  | bl _=>cases r;rfl
  | int _=>obtain⟨t,rfl⟩:=r;rfl
  | str _=>obtain⟨t,rfl⟩:=r;rfl
  | byt _=>obtain⟨t,rfl⟩:=r;rfl
  | flt _=>obtain⟨t,rfl⟩:=r;rfl
  | ref _=>cases r;rfl
  | ty _=>cases r;rfl
theorem RelV.inj {x y:V}{u:Value}(r:RelV x u) (q:RelV y u):x=y:=Option.some.inj (r.abs.symm.trans q.abs)
theorem Vals.inj:∀ {xs ys:List V}{us:List Value},Vals xs us→Vals ys us→xs=ys
  | _,_,_,.nil,.nil=>rfl
  | _,_,_,.cons r t,.cons r' t'=>by rw[r.inj r',Vals.inj t t']
section
variable {X:Cx}{pins:List (Addr × Obj)}{σ:St}{H:Hp}{s:Shared}{a:Addr}{xs ys:List V}
theorem SqL.of {K:PySem.W.Frag}(h:H a=some (.lst xs)):SqL K H a xs:=.inl (.inl h)
theorem SqT.of {K:PySem.W.Frag}(h:H a=some (.tup xs)):SqT K H a xs:=.inl (.inl h)
theorem Inv.list (I:Inv X pins σ H s) (h:SqL X.K H a xs):∃ its:List Value,Vals xs its∧PlainL s.heap a its.toArray∧xs.length≤sizeLine:=by
  rcases h with h|⟨o,its,n,hk,hc,hd,hs,hz,r⟩
  · obtain⟨z,its,n,r,e⟩:=h.ok I.hok
    exact⟨its,r,⟨_,n,e,rfl,rfl,rfl⟩,z⟩
  · refine⟨its.toList,r,⟨o,n,I.kIn a o hk,hc,hd,by simpa using hs⟩,?_⟩
    have e:=r.length
    simp only[Jx]at e
    omega
theorem Inv.tuple (I:Inv X pins σ H s) (h:SqT X.K H a xs):∃ its:List Value,Vals xs its∧IsTup s.heap a its.toArray∧xs.length≤sizeLine:=by
  rcases h with h|⟨o,its,n,hk,hc,hs,hz,r⟩
  · obtain⟨z,its,r,p⟩:=h.ok I.hok
    exact⟨its,r,p.tup,z⟩
  · refine⟨its.toList,r,⟨o,I.kIn a o hk,hc,n,by simpa using hs⟩,?_⟩
    have e:=r.length
    simp only[Jx]at e
    omega
theorem Inv.list_inj (I:Inv X pins σ H s) (h:SqL X.K H a xs) (h':SqL X.K H a ys):xs=ys:=by
  obtain⟨its,r,⟨o,n,e,_,_,d⟩,_⟩:=I.list h
  obtain⟨its',r',⟨o',n',e',_,_,d'⟩,_⟩:=I.list h'
  rw[e]at e';cases e'
  rw[d]at d'
  injection d' with d1 _
  have:its=its':=by simpa using JJ Array.toList d1
  subst this
  exact r.inj r'
theorem Inv.tuple_inj (I:Inv X pins σ H s) (h:SqT X.K H a xs) (h':SqT X.K H a ys):xs=ys:=by
  obtain⟨its,r,⟨o,e,_,n,d⟩,_⟩:=I.tuple h
  obtain⟨its',r',⟨o',e',_,n',d'⟩,_⟩:=I.tuple h'
  rw[e]at e';cases e'
  rw[d]at d'
  injection d' with d1 _
  have:its=its':=by simpa using JJ Array.toList d1
  subst this
  exact r.inj r'
end
abbrev Cx.wish (X:Cx) (E:Value→Shared→Prop):Cx:={ X with xe:=E }
abbrev Cx.nox (X:Cx):Cx:=X.wish fun _ _=>False
theorem Cx.Ok.wish {X:Cx}(ok:X.Ok) (E:Value→Shared→Prop):(X.wish E).Ok :=
  ⟨ok.mod,ok.kind,ok.glob,ok.blt,ok.above,ok.inj,ok.has,ok.cab,ok.hd,ok.frames,ok.stk,ok.exf,ok.bs,ok.bsz,ok.noex,ok.exfs,ok.funs,ok.frf⟩
theorem Cx.Ok.unwish {X:Cx}{E:Value→Shared→Prop}(ok:(X.wish E).Ok):X.Ok :=
  ⟨ok.mod,ok.kind,ok.glob,ok.blt,ok.above,ok.inj,ok.has,ok.cab,ok.hd,ok.frames,ok.stk,ok.exf,ok.bs,ok.bsz,ok.noex,ok.exfs,ok.funs,ok.frf⟩
section
variable {X:Cx}{pins:List (Addr × Obj)}{σ:St}{H:Hp}{s:Shared}{E:Value→Shared→Prop}
theorem Inv.wish (I:Inv X pins σ H s) (E:Value→Shared→Prop):Inv (X.wish E) pins σ H s:=⟨I.ok.wish E,I.os,I.bare,I.base,I.loc,I.cell,I.free,I.freeC,I.pin,I.hok,I.len⟩
theorem Inv.unwish (I:Inv (X.wish E) pins σ H s):Inv X pins σ H s:=⟨I.ok.unwish,I.os,I.bare,I.base,I.loc,I.cell,I.free,I.freeC,I.pin,I.hok,I.len⟩
theorem SP.unwish {D:Ends}{f:Flow}{s':Shared}(h:SP (X.wish E) pins D f s'):SP X pins D f s':=by
  cases f with
  | next=>obtain⟨σ',H',I,q⟩:=h;exact⟨σ',H',I.unwish,q⟩
  | brk=>obtain⟨σ',H',I,q⟩:=h;exact⟨σ',H',I.unwish,q⟩
  | cont=>obtain⟨σ',H',I,q⟩:=h;exact⟨σ',H',I.unwish,q⟩
  | ret u=>obtain⟨v,σ',H',I,r,q⟩:=h;exact⟨v,σ',H',I.unwish,r,q⟩
theorem PSs.nox {st:List Stmt}{t:TS}(h:PSs X.nox st t):PSs X st t:=fun pins s σ H D I hw =>
  JK (h pins s σ H D (I.wish _) hw) (fun _ _ q=>q.unwish) fun _ _ z=>False.elim z
end
section
variable {X:Cx}{st:Stmt}{rest:List Stmt}{t u:TS}{e:Expr}{te:TE}{pos:Pos}
def zlz:TS:=fun D σ H=>D.nx σ H
def tSeq (t u:TS):TS:=fun D σ H=>t { D with nx:=u D } σ H
theorem pss_nil:PSs X [] zlz:=fun _ _ σ H _ I h=>wpAny_execs_nil ⟨σ,H,I,h⟩
theorem pss_cons (h1:PS X st t) (h2:PSs X rest u):PSs X (st::rest) (tSeq t u):=by
  intro pins s σ H D I h
  refine wpAny_execs_cons (thn (h1 pins s σ H { D with nx:=u D } I h) fun f s1 q=>?_)
  cases f with
  | next =>
    obtain⟨σ',H',I',q⟩:=q
    exact h2 pins s1 σ' H' D I' q
  | ret v=>exact q
  | brk=>exact q
  | cont=>exact q
theorem pss_one (h1:PS X st t):PSs X [st] t:=by
  intro pins s σ H D I h
  refine wpAny_execs_cons (thn (h1 pins s σ H D I h) fun f s1 q=>?_)
  cases f with
  | next=>exact wpAny_execs_nil q
  | ret v=>exact q
  | brk=>exact q
  | cont=>exact q
def zlF:TS:=fun D σ H=>D.ct σ H
theorem zeo:PS X (.Continue pos) zlF:=fun _ _ σ H _ I h=>wpAny_Continue ⟨σ,H,I,h⟩
theorem Inv.quiet {pins:List (Addr × Obj)}{σ:St}{H:Hp}{s:Shared}(I:Inv X pins σ H s):interactive X.env=false:=by simp[interactive,I.ok.kind]
def zlE (te:TE):TS:=fun D σ H=>te σ H fun _ H1=>D.nx σ H1
theorem zaZ (he:PE X e te) (hs:swapsWith e none pos.line X.env=pure false:=by rfl):PS X (.Expr e pos) (zlE te):=by
  intro pins s σ H D I h
  exact wpAny_Expr_any (thn (he pins s σ H _ I h) fun v s1 ⟨x,H1,I1,r1,q1⟩=>⟨σ,H1,I1,q1⟩) I.quiet hs
def tRet (te:TE):TS:=fun D σ H=>te σ H D.rt
theorem ps_ret (he:PE X e te):PS X (.Return (some e) pos) (tRet te):=by
  intro pins s σ H D I h
  exact wpAny_Return_some (thn (he pins s σ H _ I h) fun v s1 ⟨x,H1,I1,r1,q1⟩=>⟨x,σ,H1,I1,r1,q1⟩)
def tIfS (c:TT) (t u:TS):TS:=fun D σ H=>c σ H fun b H1=>if b=true then t D σ H1 else u D σ H1
theorem ps_if {c:Expr}{a b:List Stmt}{tc:TT}(hc:PT X c tc) (ha:PSs X a t) (hb:PSs X b u):PS X (.If c a b pos) (tIfS tc t u):=by
  intro pins s σ H D I h
  refine wpAny_If (thn (hc pins s σ H _ I h) fun d s1 ⟨H1,I1,q1⟩=>?_)
  cases d with
  | true=>exact ha pins s1 σ H1 D I1 q1
  | false=>exact hb pins s1 σ H1 D I1 q1
end
abbrev TG:=V→St→Hp→(St→Hp→Prop)→Prop
abbrev TGs:=List V→St→Hp→(St→Hp→Prop)→Prop
def PG (X:Cx) (target:Expr) (t:TG):Prop :=
  ∀ (pins:List (Addr × Obj)) (s:Shared) (σ:St) (H:Hp) (v:V) (u:Value) (Q:St→Hp→Prop),Inv X pins σ H s→RelV v u→t v σ H Q →
    wpAny (model X.prog X.w) X.A (assign target X.env u) (fun _ s'=>∃ σ' H',Inv X pins σ' H' s'∧Q σ' H') X.xe s
def PGs (X:Cx) (ts:List Expr) (t:TGs):Prop :=
  ∀ (pins:List (Addr × Obj)) (s:Shared) (σ:St) (H:Hp) (vs:List V) (us:List Value) (Q:St→Hp→Prop),Inv X pins σ H s→Vals vs us→t vs σ H Q →
    wpAny (model X.prog X.w) X.A (assignInOrder ((assignEach ts X.env).map (·.2)) us) (fun _ s'=>∃ σ' H',Inv X pins σ' H' s'∧Q σ' H') X.xe s
abbrev TSet:=V→V→V→Hp→(Hp→Prop)→Prop
def PSet (X:Cx) (t:TSet):Prop :=
  ∀ (pins:List (Addr × Obj)) (s:Shared) (σ:St) (H:Hp) (o i v:V) (ov iv u:Value) (Q:Hp→Prop),Inv X pins σ H s→RelV o ov→RelV i iv→RelV v u→t o i v H Q →
    wpAny (model X.prog X.w) X.A (setItem ov iv u) (fun _ s'=>∃ H',Inv X pins σ H' s'∧Q H') X.xe s
section
variable {X:Cx}{pos:Pos}
def zeJ (i:Nat):TG:=fun v σ H Q=>Q (σ.set i (some v)) H
theorem pg_name {i:Nat}{x:Str}(hN:X.N.Nodup) (hi:X.N[i]?=some x) (hx:Loc X.env.scope x) (hf:X.fn x=true∨X.env.scope.names.lookup x=some .local:=by first|exact .inl rfl|exact .inr rfl|assumption):PG X (.Name x pos) (zeJ i):=by
  intro pins s σ H v u Q I r h
  exact wpAny_assign_Name (zaX I hN hi hx r (fun s' I'=>⟨_,H,I',h⟩) hf)
def gNil:TGs:=fun vs σ H Q=>vs=[]∧Q σ H
def zkA (t:TG) (u:TGs):TGs:=fun vs σ H Q=>∃ v r,vs=v::r∧t v σ H fun σ' H'=>u r σ' H' Q
theorem pgs_nil:PGs X [] gNil:=by
  intro pins s σ H vs us Q I r h
  obtain⟨e,h⟩:=h
  subst e
  cases r
  exact assignInOrder_nil ⟨σ,H,I,h⟩
theorem pgs_cons {e:Expr}{es:List Expr}{t:TG}{u:TGs}(h1:PG X e t) (h2:PGs X es u)
    (hs:(assignEach (e::es) X.env).map (·.2)=assign e X.env::(assignEach es X.env).map (·.2):=by rfl):PGs X (e::es) (zkA t u):=by
  intro pins s σ H vs us Q I r h
  obtain⟨v,vr,e1,h⟩:=h
  subst e1
  cases r with
  | cons r rr =>
    rw[hs]
    refine assignInOrder_cons (thn (h1 pins s σ H _ _ _ I r h) fun _ s1 ⟨σ1,H1,I1,q1⟩=>?_)
    exact h2 pins s1 σ1 H1 _ _ Q I1 rr q1
def gTup (K:PySem.W.Frag) (n:Nat) (t:TGs):TG:=fun v σ H Q=>∃ a xs,v=.ref a∧SqT K H a xs∧xs.length=n∧t xs σ H Q
theorem pg_tup {es:List Expr}{k:Nat}{t:TGs}{n:Nat}(hc:X.calm=true) (h:PGs X es t)
    (hn:(assignEach es X.env).length=n:=by rfl) (hst:(assignEach es X.env).findIdx? (·.1)=none:=by rfl):PG X (.Tuple es k pos) (gTup X.K n t):=by
  intro pins s σ H v u Q I r hw
  obtain⟨a,xs,e1,hq,hl,hw⟩:=hw
  subst e1
  cases r
  obtain⟨its,rv,ht,hz⟩:=I.tuple hq
  refine assign_Tuple_tuple (I.ok.hd hc) ht (by simp[hn,← hl,rv.length]) hst fun h' hx=>?_
  have I1:Inv X pins σ H { s with heap:=h' }:=I.kept (t':=s.toks) fun b o e=>hx b o (JB (Jn e)) e
  exact h pins _ σ H xs _ Q I1 (by simpa using rv) hw
def gSub (to ti:TE) (t:TSet):TG:=fun v σ H Q=>to σ H fun o H1=>ti σ H1 fun i H2=>t o i v H2 fun H3=>Q σ H3
theorem pg_sub {o i:Expr}{to ti:TE}{t:TSet}(ho:PE X o to) (hi:PE X i ti) (hs:PSet X t)
    (ha:∀ v,assign (.Subscript o i pos) X.env v=(do
      let ov ← holding [v] (eval o X.env)
      let iv ← holding [v,ov] (eval i X.env)
      standAt pos
      holding [v,ov,iv] (setItem ov iv v)
      release [v,ov,iv] []):=by intro _;rfl):PG X (.Subscript o i pos) (gSub to ti t):=by
  intro pins s σ H v u Q I r h
  rw[ha]
  refine J0 (Ya (thn (ho pins s σ H _ I h) fun ov s1 ⟨x,H1,I1,r1,q1⟩=>?_))
  refine J0 (Ya (thn (hi pins s1 σ H1 _ I1 q1) fun iv s2 ⟨y,H2,I2,r2,q2⟩=>?_))
  refine J0 (wpAny_standAt (J0 (Ya (thn (hs pins s2 σ H2 x y v ov iv u _ I2 r1 r2 r q2) fun _ s3 ⟨H3,I3,q3⟩=>?_))))
  exact wpAny_release ⟨σ,H3,I3,q3⟩
def tAsg (te:TE) (g:TG):TS:=fun D σ H=>te σ H fun x H1=>g x σ H1 D.nx
theorem ps_asg {tg e:Expr}{te:TE}{g:TG}(he:PE X e te) (hg:PG X tg g) (hs:swapsWithSole [tg] e pos.line X.env=pure false:=by rfl) (hw:swappedStores [tg] e X.env=pure none:=by rfl)
    (h1:(assignEach [tg] X.env).map (·.2)=[assign tg X.env]:=by rfl):PS X (.Assign [tg] e pos) (tAsg te g):=by
  intro pins s σ H D I h
  refine wpAny_Assign_stores (thn (he pins s σ H _ I h) fun v s1 ⟨x,H1,I1,r1,q1⟩=>?_) hs hw
  rw[h1]
  exact thn (hg pins s1 σ H1 x v _ I1 r1 q1) fun _ s2 q=>q
theorem ps_set {i:Nat}{x:Str}{e:Expr}{te:TE}{pos':Pos}(hN:X.N.Nodup) (hi:X.N[i]?=some x) (hx:Loc X.env.scope x) (he:PE X e te) (hs:swapsWith e (some (.Name x pos')) pos.line X.env=pure false:=by rfl) (hf:X.fn x=true∨X.env.scope.names.lookup x=some .local:=by first|exact .inl rfl|exact .inr rfl|assumption) :
    PS X (.Assign [.Name x pos'] e pos) (tAsg te (zeJ i)):=by
  intro pins s σ H D I h
  refine wpAny_Assign_Name (thn (he pins s σ H _ I h) fun v s1 ⟨y,H1,I1,r1,q1⟩=>?_) hs
  exact zaX I1 hN hi hx r1 (fun s2 I2=>⟨_,H1,I2,q1⟩) hf
def tPar (i j:Nat) (ta:TA):TS:=fun D σ H=>ta σ H fun vs H1=>∃ v w,vs=[v,w]∧D.nx ((σ.set i (some v)).set j (some w)) H1
theorem zff {i j:Nat}{x y:Str}{a b:Expr}{ta:TA}{px py pt:Pos}{kt k2 pt2} (hc:X.calm=true) (hN:X.N.Nodup) (hi:X.N[i]?=some x) (hj:X.N[j]?=some y) (hij:i≠j)
    (hx:X.env.scope.names.lookup x=some .local) (hy:X.env.scope.names.lookup y=some .local) (ha:PA X [a,b] ta)
    (hw:swappedStores [.Tuple [.Name x px,.Name y py] kt pt] (.Tuple [a,b] k2 pt2) X.env=pure (some [x,y]))
    (hs:swapsWithSole [.Tuple [.Name x px,.Name y py] kt pt] (.Tuple [a,b] k2 pt2) pos.line X.env=pure false:=by rfl) :
    PS X (.Assign [.Tuple [.Name x px,.Name y py] kt pt] (.Tuple [a,b] k2 pt2) pos) (tPar i j ta):=by
  intro pins s σ H D I h
  rw[exec_Assign_arm]
  refine J0 (wpAny_standAt ?_)
  rw[hs]
  refine J0 (J9 ?_)
  rw[Jc (by decide)]
  refine J0 (Tuple_ (thn (ha _ pins s σ H _ I h) fun us s1 ⟨vs,H1,I1,r1,q1⟩=>?_))
  obtain⟨v,w,e1,q1⟩:=q1
  subst e1
  obtain⟨u1,u2,rfl,rv,rw'⟩:∃ u1 u2,us=[u1,u2]∧RelV v u1∧RelV w u2:=by
    cases r1 with
    | cons p q =>
      cases q with
      | cons p' q' =>
        cases q'
        exact⟨_,_,rfl,p,p'⟩
  refine JG ?_ (by show 2≤sizeLine;decide)
  have I2:Inv X pins σ H1 { s1 with heap:=s1.heap.push { cls:=.type "tuple",data:=.seq [u1,u2].toArray } }:=I1.kept (t':=s1.toks) fun b o e=>J8 _ e
  rw[hw]
  refine J0 (J9 ?_)
  show wpAny (model X.prog X.w) X.A (do rule "assign.swapped-stores";let items ← unpackItems (.ref s1.heap.objs.size) 2 none;assignInOrder [fun v=>bindName X.env y v,fun v=>bindName X.env x v] items.reverse;pure Flow.next) _ _ _
  refine J0 (wpAny_rule (J0 (unpackItems_tuple (items:=#[u1,u2]) (I.ok.hd hc) (IsTup.new s1.heap _) fun h' hx'=>?_)))
  have I3:=I2.kept (h':=h') (t':=s1.toks) fun b o e=>hx' b o (JB (Jn e)) e
  show wpAny _ _ (assignInOrder [fun v=>bindName X.env y v,fun v=>bindName X.env x v] [u2,u1] >>= fun _=>pure Flow.next) _ _ _
  refine J0 (assignInOrder_cons (wpAny_bindName (zaX I3 hN hj (.inl hy) rw' (fun s2 I4=>?_) (.inr hy))))
  refine assignInOrder_cons (wpAny_bindName (zaX I4 hN hi (.inl hx) rv (fun s3 I5=>assignInOrder_nil (J9 ?_)) (.inr hx)))
  rw[List.set_comm _ _ (Ne.symm hij)]at I5
  exact⟨_,H1,I5,q1⟩
end
section
variable {X:Cx}{pos:Pos}
def zkO (c:TT) (tb:TS):TS:=fun D σ H=>∃ W:Nat→St→Hp→Prop,(∃ m,W m σ H)∧∀ m σ H,W m σ H →
  c σ H fun b H1=>if b=true then ∃ N:St→Hp→Prop,(∀ σ' H',N σ' H'→∃ m',m'<m∧W m' σ' H')∧tb { D with nx:=N,ct:=N,bk:=D.nx } σ H1 else D.nx σ H1
theorem zfe {c:Expr}{body:List Stmt}{tc:TT}{tb:TS}(hp:PassesOwn (model X.prog X.w) X.A X.env X.xe) (hc:PT X c tc) (hb:PSs X body tb):PS X (.While c body [] pos) (zkO tc tb):=by
  intro pins s σ H D I h
  obtain⟨W,⟨m0,w0⟩,turn⟩:=h
  refine wpAny_While (codeAny_whileLoop (fun n s'=>∃ σ' H',Inv X pins σ' H' s'∧W n σ' H') ?_ m0 ⟨σ,H,I,w0⟩)
  rintro n s1 ⟨σ1,H1,I1,w1⟩
  refine wpAny_passesOwn hp (thn (hc pins s1 σ1 H1 _ I1 (turn n σ1 H1 w1)) fun b s2 ⟨H2,I2,q2⟩=>?_)
  cases b with
  | true =>
    obtain⟨N,hN,q2⟩:=q2
    rw[Jf rfl]
    refine wpAny_passesOwn hp (thn (hb pins s2 σ1 H2 _ I2 q2) fun f s3 q3=>?_)
    cases f with
    | next =>
      obtain⟨σ3,H3,I3,n3⟩:=q3
      obtain⟨m',hm,w3⟩:=hN σ3 H3 n3
      exact⟨m',hm,σ3,H3,I3,w3⟩
    | cont =>
      obtain⟨σ3,H3,I3,n3⟩:=q3
      obtain⟨m',hm,w3⟩:=hN σ3 H3 n3
      exact⟨m',hm,σ3,H3,I3,w3⟩
    | brk=>exact q3
    | ret v=>exact q3
  | false =>
    rw[Jc Jh]
    exact wpAny_execs_nil ⟨σ1,H2,I2,q2⟩
end
structure It where
  go:Nat→Hp→Prop
  yld:Nat→Hp→V→Hp→Prop
  stop:Nat→Hp→Prop
def FpOk (X:Cx) (pins:List (Addr × Obj)) (H:Hp) (b:Addr):Prop :=
  H b=none∧b≠X.env.locals∧b∉X.fs∧(b∈X.ex∨X.s₀.heap.objs.size≤b)∧(∀ x c,X.env.cells.lookup x=some c→c≠b)∧∀ p∈X.pn++pins,p.1≠b
theorem Inv.fpOk {X:Cx}{pins:List (Addr × Obj)}{σ:St}{H H':Hp}{s:Shared}{b:Addr}(I:Inv X pins σ H s) (hb:s.heap.objs.size≤b) (hn:H' b=none):FpOk X pins H' b:=by
  refine⟨hn,Yz (JF I.lt hb),I.nofs hb,.inr (JY I.sz hb),fun x c e z=>?_,fun p hp z=>?_⟩
  · obtain⟨v,q⟩:=I.cell x c e
    exact absurd (JF q.lt (by rw[z];exact hb)) (Ym _)
  · exact absurd (JF (Jn (I.pin p hp).1) (by rw[z];exact hb)) (Ym _)
structure Turn (P:Program) (w:World) (K:PySem.W.Frag) (tg:Expr) (J:It) (fp:List Addr) (it:Addr) (tn:Nat→Heap→Prop):Prop where
  mem:it∈fp
  obj:∀ i h,tn i h→∀ b∈fp,∃ o,h.get? b=some o∧∀ v,o.data≠.cell v
  keep:∀ i h h',tn i h→(∀ b∈fp,∀ o,h.get? b=some o→h'.get? b=some o)→tn i h'
  item:∀ (X:Cx),X.prog=P→X.w=w→X.K=K→X.calm=true→∀ (i:Nat) (pins:List (Addr × Obj)) (s:Shared) (σ:St) (H:Hp) (E:Value→Shared→Prop),Inv X pins σ H s→(∀ b∈fp,FpOk X pins H b)→tn i s.heap→J.go i H →
    wpAny (model P w) X.A (pyNext (.ref it)) (fun r s1=>∃ u,r=some u ∧
      wpAny (model P w) X.A (letOwnedTupleGo tg (.ref it) u) (fun _ s2=>∃ x H',Inv X pins σ H' s2∧RelV x u∧J.yld i H x H'∧tn (i+1) s2.heap∧∀ b∈fp,H' b=none) E s1) E s
  done:∀ (X:Cx),X.prog=P→X.w=w→X.K=K→X.calm=true→∀ (i:Nat) (pins:List (Addr × Obj)) (s:Shared) (σ:St) (H:Hp) (E:Value→Shared→Prop),Inv X pins σ H s→(∀ b∈fp,FpOk X pins H b)→tn i s.heap→J.stop i H →
    wpAny (model P w) X.A (pyNext (.ref it)) (fun r s1=>r=none∧Inv X pins σ H s1) E s
  self:∀ (A:Around) (i:Nat) (s:Shared) (Q:Value→Shared→Prop) (E:Value→Shared→Prop),tn i s.heap→Q (.ref it) s→wpAny (model P w) A (pyIter (.ref it)) Q E s
abbrev TI:=St→Hp→(It→Hp→Prop)→Prop
def PIE (X:Cx) (pins:List (Addr × Obj)) (σ:St) (tg:Expr) (R:It→Hp→Prop) (itv:Value) (s2:Shared):Prop :=
  ∃ (it:Addr) (fp:List Addr) (tn:Nat→Heap→Prop) (J:It) (H':Hp),itv=.ref it∧Inv X pins σ H' s2∧Turn X.prog X.w X.K tg J fp it tn∧tn 0 s2.heap∧(∀ b∈fp,FpOk X pins H' b)∧R J H'
def PI (X:Cx) (tg iter:Expr) (wi:TI):Prop :=
  ∀ (pins:List (Addr × Obj)) (s:Shared) (σ:St) (H:Hp) (R:It→Hp→Prop),Inv X pins σ H s→wi σ H R →
    wpAny (model X.prog X.w) X.A (eval iter X.env) (fun v s1=>wpAny (model X.prog X.w) X.A (pyIter v) (PIE X pins σ tg R) X.xe s1) X.xe s
theorem zkx {M:Model}{A:Around}{E:Value→Shared→Prop}{s:Shared}{tg:Expr}{it:Addr}{u:Value}{o:Obj}{n:String}{vs:Array Value}{Q:Unit→Shared→Prop}(ho:s.heap.get? it=some o) (hc:o.cls=.type n) (hd:o.data=.fields vs)
    (hn:["enumerate","zip","dict_itemiterator","dict_reverseitemiterator","odict_iterator","itertools.zip_longest","itertools.pairwise"].contains n=false) (hQ:Q () s):wpAny M A (letOwnedTupleGo tg (.ref it) u) Q E s:=by
  unfold letOwnedTupleGo
  cases tg<;>first
    | exact J9 hQ
    | (cases u<;>first
        | exact J9 hQ
        | (refine J0 (wpAny_load ho ?_)
           rw[hc,hd]
           show wpAny M A (if (["enumerate","zip","dict_itemiterator","dict_reverseitemiterator","odict_iterator","itertools.zip_longest","itertools.pairwise"].contains n && vs[0]? == some (rawInt _))=true then _ else _) Q E s
           rw[Jc (by intro h;rw[hn,Bool.false_and]at h;cases h)]
           exact J9 hQ))
def Itl (K:PySem.W.Frag) (a:Addr):It :=
  ⟨fun i H=>∃ xs x,SqL K H a xs∧xs[i]?=some x,fun i H x H'=>H'=H∧∀ xs,SqL K H a xs→xs[i]?=some x,fun i H=>∃ xs,SqL K H a xs∧xs.length≤i⟩
def Itt (K:PySem.W.Frag) (a:Addr):It :=
  ⟨fun i H=>∃ xs x,SqT K H a xs∧xs[i]?=some x,fun i H x H'=>H'=H∧∀ xs,SqT K H a xs→xs[i]?=some x,fun i H=>∃ xs,SqT K H a xs∧xs.length≤i⟩
def Itr (lo:Int) (n:Nat):It:=⟨fun i _=>i<n,fun i H x H'=>H'=H∧x=.int (lo+i),fun i _=>n≤i⟩
theorem zgp {P:Program}{w:World}{K:PySem.W.Frag}{tg:Expr}(a it:Addr):Turn P w K tg (Itl K a) [it] it (fun i h=>h.IsListIter it a i) where
  mem:=by simp
  obj:=fun i h st b hb=>by
    have e:b=it:=by simpa using hb
    subst e
    obtain⟨o,e,c,d⟩:=st
    exact⟨o,e,fun v z=>by rw[d]at z;cases z⟩
  keep:=fun i h h' st k=>st.at fun o e=>k it (by simp) o e
  item:=by
    intro X hP hw hK hc i pins s σ H E I hf st hg
    subst hP hw hK
    obtain⟨xs,x,hq,hx⟩:=hg
    obtain⟨its,rv,p,hz⟩:=I.list hq
    obtain⟨u,hu,ru⟩:=rv.get hx
    obtain⟨f0,f1,f2,f3,f4,f5⟩:=hf it (by simp)
    refine wpAny_pyNext_list_item st p.isList (x:=u) (by simpa using hu) fun h' st' sb=>?_
    have I1:Inv X pins σ H { s with heap:=h' }:=I.turned (t':=s.toks) (fun b o hb e=>(sb.2 b hb).trans e) f0 f1 f3 f4 f5
    obtain⟨o,e,c,d⟩:=id st'
    exact⟨u,rfl,zkx (s:={ s with heap:=h' }) e c d (by decide) ⟨x,H,I1,ru,⟨rfl,fun ys hy=>by rw[I.list_inj hy hq];exact hx⟩,st',fun b hb=>(hf b hb).1⟩⟩
  done:=by
    intro X hP hw hK hc i pins s σ H E I hf st hg
    subst hP hw hK
    obtain⟨xs,hq,hx⟩:=hg
    obtain⟨its,rv,p,hz⟩:=I.list hq
    obtain⟨f0,f1,f2,f3,f4,f5⟩:=hf it (by simp)
    have hl:=rv.length
    exact wpAny_pyNext_list_end (I.ok.hd hc) st p.isList (by simp;omega) fun h' eb=>⟨rfl,I.turned (t':=s.toks) (fun b o hb e=>eb b o hb e) f0 f1 f3 f4 f5⟩
  self:=fun _ _ _ _ _ st h=>wpAny_pyIter_listiter st h
theorem zfL {P:Program}{w:World}{K:PySem.W.Frag}{tg:Expr}(a it:Addr):Turn P w K tg (Itt K a) [it] it (fun i h=>h.IsTupleIter it a i) where
  mem:=by simp
  obj:=fun i h st b hb=>by
    have e:b=it:=by simpa using hb
    subst e
    obtain⟨o,e,c,d⟩:=st
    exact⟨o,e,fun v z=>by rw[d]at z;cases z⟩
  keep:=fun i h h' st k=>st.at fun o e=>k it (by simp) o e
  item:=by
    intro X hP hw hK hc i pins s σ H E I hf st hg
    subst hP hw hK
    obtain⟨xs,x,hq,hx⟩:=hg
    obtain⟨its,rv,p,hz⟩:=I.tuple hq
    obtain⟨u,hu,ru⟩:=rv.get hx
    obtain⟨f0,f1,f2,f3,f4,f5⟩:=hf it (by simp)
    refine wpAny_pyNext_tuple_item st (show s.heap.IsTuple a its.toArray from p) (x:=u) (by simpa using hu) fun h' st' sb=>?_
    have I1:Inv X pins σ H { s with heap:=h' }:=I.turned (t':=s.toks) (fun b o hb e=>(sb.2 b hb).trans e) f0 f1 f3 f4 f5
    obtain⟨o,e,c,d⟩:=id st'
    exact⟨u,rfl,zkx (s:={ s with heap:=h' }) e c d (by decide) ⟨x,H,I1,ru,⟨rfl,fun ys hy=>by rw[I.tuple_inj hy hq];exact hx⟩,st',fun b hb=>(hf b hb).1⟩⟩
  done:=by
    intro X hP hw hK hc i pins s σ H E I hf st hg
    subst hP hw hK
    obtain⟨xs,hq,hx⟩:=hg
    obtain⟨its,rv,p,hz⟩:=I.tuple hq
    obtain⟨f0,f1,f2,f3,f4,f5⟩:=hf it (by simp)
    have hl:=rv.length
    exact wpAny_pyNext_tuple_end (I.ok.hd hc) st (show s.heap.IsTuple a its.toArray from p) (by simp;omega) fun h' eb=>⟨rfl,I.turned (t':=s.toks) (fun b o hb e=>eb b o hb e) f0 f1 f3 f4 f5⟩
  self:=fun _ _ _ _ _ st h=>wpAny_pyIter_tupleiter st h
theorem zfM {P:Program}{w:World}{K:PySem.W.Frag}{tg:Expr}(it:Addr) (lo:Int) (n:Nat):Turn P w K tg (Itr lo n) [it] it (fun i h=>IsRangeIter h it (lo+(i:Nat)*1) ((n:Int)-(i:Nat)) 1) where
  mem:=by simp
  obj:=fun i h st b hb=>by
    have e:b=it:=by simpa using hb
    subst e
    exact⟨_,st,fun v z=>by
      have z':Data.fields _=Data.cell v:=z
      cases z'⟩
  keep:=fun i h h' st k=>k it (by simp) _ st
  item:=by
    intro X hP hw hK hc i pins s σ H E I hf st hg
    subst hP hw hK
    obtain⟨f0,f1,f2,f3,f4,f5⟩:=hf it (by simp)
    have W:=Walks.range (prog:=X.prog) (w:=X.w) (I.ok.hd hc) it lo 1 n
    refine W.item i s _ _ hg st fun v h' tk hv st' kk=>?_
    obtain⟨t,rfl⟩:=hv
    have I1:Inv X pins σ H { s with heap:=h',toks:=tk }:=I.turned (fun b o hb e=>kk b o (by simpa using hb) e) f0 f1 f3 f4 f5
    refine⟨_,rfl,zkx (s:={ s with heap:=h',toks:=tk }) (n:="range_iterator") st' rfl rfl (by decide) ⟨.int (lo+i),H,I1,⟨t,?_⟩,⟨rfl,rfl⟩,st',fun b hb=>(hf b hb).1⟩⟩
    rw[Int.mul_one]
  done:=by
    intro X hP hw hK hc i pins s σ H E I hf st hg
    subst hP hw hK
    obtain⟨f0,f1,f2,f3,f4,f5⟩:=hf it (by simp)
    exact wpAny_pyNext_range_end (I.ok.hd hc) st (by have:n≤i:=hg;omega) fun h' eb=>⟨rfl,I.turned (t':=s.toks) (fun b o hb e=>eb b o hb e) f0 f1 f3 f4 f5⟩
  self:=fun _ _ _ _ _ st h=>wpAny_pyIter_rangeiter st h
section
variable {X:Cx}{tg:Expr}
def zlj (K:PySem.W.Frag) (tl:TE):TI:=fun σ H R=>tl σ H fun x H1=>∃ a,x=.ref a∧(∃ xs,SqL K H1 a xs)∧R (Itl K a) H1
def iTup (K:PySem.W.Frag) (tl:TE):TI:=fun σ H R=>tl σ H fun x H1=>∃ a,x=.ref a∧(∃ xs,SqT K H1 a xs)∧R (Itt K a) H1
theorem zeq {l:Expr}{tl:TE}(hl:PE X l tl):PI X tg l (zlj X.K tl):=by
  intro pins s σ H R I h
  refine thn (hl pins s σ H _ I h) fun v s1 ⟨x,H1,I1,r1,q1⟩=>?_
  obtain⟨a,e,⟨xs,hq⟩,q⟩:=q1
  subst e
  cases r1
  obtain⟨its,rv,p,hz⟩:=I1.list hq
  refine wpAny_pyIter_list p.isList ?_
  refine⟨s1.heap.objs.size,[s1.heap.objs.size],_,_,H1,rfl,I1.kept (t':=s1.toks) fun b o e=>J8 _ e,zgp a _,⟨_,Jp _ rfl,rfl,rfl⟩,fun b hb=>?_,q⟩
  have e:b=s1.heap.objs.size:=by simpa using hb
  subst e
  exact I1.fpOk (Jg _) (I1.hok.fresh (Jg _))
theorem zgT {l:Expr}{tl:TE}(hl:PE X l tl):PI X tg l (iTup X.K tl):=by
  intro pins s σ H R I h
  refine thn (hl pins s σ H _ I h) fun v s1 ⟨x,H1,I1,r1,q1⟩=>?_
  obtain⟨a,e,⟨xs,hq⟩,q⟩:=q1
  subst e
  cases r1
  obtain⟨its,rv,p,hz⟩:=I1.tuple hq
  refine wpAny_pyIter_tuple (show s1.heap.IsTuple a its.toArray from p) ?_
  refine⟨s1.heap.objs.size,[s1.heap.objs.size],_,_,H1,rfl,I1.kept (t':=s1.toks) fun b o e=>J8 _ e,zfL a _,⟨_,Jp _ rfl,rfl,rfl⟩,fun b hb=>?_,q⟩
  have e:b=s1.heap.objs.size:=by simpa using hb
  subst e
  exact I1.fpOk (Jg _) (I1.hok.fresh (Jg _))
theorem zin {pins:List (Addr × Obj)}{σ:St}{H:Hp}{s:Shared}{R:It→Hp→Prop}{E:Value→Shared→Prop}{lo hi:Int}{t u v:Tok}{tk:Nat}(I:Inv X pins σ H s) (h1:-(2 ^ 62)≤lo) (h2:lo<2 ^ 62) (h3:-(2 ^ 62)≤hi) (h4:hi<2 ^ 62)
    (q:R (Itr lo (hi-lo).toNat) H):wpAny (model X.prog X.w) X.A (pyIter (.ref s.heap.objs.size)) (PIE X pins σ tg R) E { s with heap:=s.heap.push { cls:=.type "range",data:=.fields #[.int lo t,.int hi u,.int 1 v] },toks:=tk }:=by
  refine wpAny_pyIter_range (IsRange.new ..) (small_one h1 h2 h3 h4) ?_
  have I1:Inv X pins σ H { s with heap:=s.heap.push { cls:=.type "range",data:=.fields #[.int lo t,.int hi u,.int 1 v] },toks:=tk }:=I.kept fun b o e=>J8 _ e
  refine⟨(s.heap.push { cls:=.type "range",data:=.fields #[.int lo t,.int hi u,.int 1 v] }).objs.size,[(s.heap.push { cls:=.type "range",data:=.fields #[.int lo t,.int hi u,.int 1 v] }).objs.size],_,_,H,rfl,
    I1.kept (t':=tk) fun b o e=>J8 _ e,zfM _ lo (hi-lo).toNat,?_,fun b hb=>?_,q⟩
  · have e1:lo+((0:Nat):Int)*1=lo:=by simp
    have e2:(((hi-lo).toNat:Nat):Int)-((0:Nat):Int)=Builtin.Range.rangeSize lo hi 1:=by rw[rangeSize_one];split<;>omega
    show IsRangeIter _ _ (lo+((0:Nat):Int)*1) ((((hi-lo).toNat:Nat):Int)-((0:Nat):Int)) 1
    rw[e1,e2]
    exact Jp _ rfl
  · have e:b=(s.heap.push { cls:=.type "range",data:=.fields #[.int lo t,.int hi u,.int 1 v] }).objs.size:=by simpa using hb
    subst e
    exact I1.fpOk (Jg _) (I1.hok.fresh (Jg _))
def zlS (ta:TA):TI:=fun σ H R=>ta σ H fun vs H1=>∃ j:Int,vs=[.int j]∧-(2 ^ 62)≤j∧j<2 ^ 62∧R (Itr 0 j.toNat) H1
theorem pi_range1 {a:Expr}{ta:TA}{p pos:Pos}(hg:Gl X "range") (hm:X.mg "range" = none) (ha:PA X [a] ta) (hs:starEach [a] X.env=[(false,eval a X.env)]:=by rfl):PI X tg (.Call (.Name "range" p) [a] [] pos) (zlS ta):=by
  intro pins s σ H R I h
  refine Call_ (zbD I hg hm boot_range (PyProof.Rows.callWith_type1 (thn (ha pos pins s σ H _ I h) fun us s1 ⟨vs,H1,I1,r1,q1⟩=>?_) hs rfl))
  obtain⟨j,e,q1,q2,q⟩:=q1
  subst e
  cases r1 with
  | cons r rr =>
    cases rr
    obtain⟨t,rfl⟩:=r
    exact call_range_1 (zin I1 (by omega) (by omega) q1 q2 (by simpa using q))
def tFor (wi:TI) (g:TG) (tb:TS):TS:=fun D σ H=>wi σ H fun J H1=>∃ W:Nat→Nat→St→Hp→Prop,(∃ m,W 0 m σ H1)∧∀ i m σ H,W i m σ H →
  (J.stop i H∧D.nx σ H)∨(J.go i H∧∃ N:St→Hp→Prop,(∀ σ' H',N σ' H'→∃ m',m'<m∧W (i+1) m' σ' H')∧∀ x H',J.yld i H x H'→g x σ H' fun σ2 H2=>tb { D with nx:=N,ct:=N,bk:=D.nx } σ2 H2)
def zb1 (fp:List Addr) (h:Heap):List (Addr × Obj):=fp.filterMap fun b=>(h.get? b).map fun o=>(b,o)
theorem zaw {fp:List Addr}{h:Heap}{b:Addr}{o:Obj}(hb:b∈fp) (e:h.get? b=some o):(b,o)∈zb1 fp h:=List.mem_filterMap.mpr ⟨b,hb,by rw[e];rfl⟩
theorem zg8 {fp:List Addr}{h:Heap}{p:Addr × Obj}(hp:p∈zb1 fp h):p.1∈fp∧h.get? p.1=some p.2:=by
  obtain⟨b,hb,e⟩:=List.mem_filterMap.mp hp
  cases q:h.get? b with
  | none=>rw[q]at e;cases e
  | some o =>
    rw[q]at e
    have e':(b,o)=p:=Option.some.inj e
    subst e'
    exact⟨hb,q⟩
theorem Inv.pinned {pins:List (Addr × Obj)}{σ:St}{H:Hp}{s:Shared}{fp:List Addr}(I:Inv X pins σ H s) (hf:∀ b∈fp,FpOk X pins H b) (ho:∀ b∈fp,∃ o,s.heap.get? b=some o∧∀ v,o.data≠.cell v):Inv X (pins++zb1 fp s.heap) σ H s :=
  I.pins_of fun p hp=>(Js.mp hp).elim (fun z=>I.pin p (Ju _ z)) fun z=>by
    obtain⟨hb,e⟩:=zg8 z
    obtain⟨f0,f1,f2,_⟩:=hf p.1 hb
    obtain⟨o,e',d⟩:=ho p.1 hb
    rw[e]at e';cases e'
    exact⟨e,f0,f1,f2,d⟩
theorem Inv.unpinned {pins pl:List (Addr × Obj)}{σ:St}{H:Hp}{s:Shared}(I:Inv X (pins++pl) σ H s):Inv X pins σ H s:=I.pins_of fun p hp=>I.pin p (Ju _ (Y6 _ hp))
theorem ps_for {iter:Expr}{body:List Stmt}{wi:TI}{g:TG}{tb:TS}{pos:Pos}(hp:PassesOwn (model X.prog X.w) X.A X.env X.xe) (hc:X.calm=true) (hi:PI X tg iter wi) (hg:PG X tg g) (hb:PSs X body tb)
    (hs:∀ x,foldedSetIterable iter X.env x=pure x:=by intro _;rfl):PS X (.For tg iter body [] pos) (tFor wi g tb):=by
  intro pins s σ H D I h
  refine wpAny_For (thn (hi pins s σ H _ I h) fun v s1 h1=>thn h1 fun itv s2 h2=>?_) hs
  obtain⟨it,fp,tn,J,H2,e,I2,T,st2,f2,W,⟨m0,w0⟩,turn⟩:=h2
  subst e
  have stat:∀ {H':Hp},(∀ b∈fp,H' b=none)→∀ b∈fp,FpOk X pins H' b:=fun hn b hb=>⟨hn b hb,(f2 b hb).2⟩
  refine codeAny_forLoop_any (fun n s'=>∃ i σ' H',Inv X pins σ' H' s'∧tn i s'.heap∧(∀ b∈fp,H' b=none)∧W i n σ' H') ?_ m0 ⟨0,σ,H2,I2,st2,fun b hb=>(f2 b hb).1,w0⟩
  rintro n s3 ⟨i,σ3,H3,I3,st3,fr3,w3⟩
  rcases turn i n σ3 H3 w3 with ⟨stop,qn⟩|⟨go,N,hN,step⟩
  · refine wpAny_passesOwn hp (thn (T.done X rfl rfl rfl hc i pins s3 σ3 H3 X.xe I3 (stat fr3) st3 stop) fun r s4 ⟨hr,I4⟩=>?_)
    subst hr
    exact wpAny_execs_nil ⟨σ3,H3,I4,qn⟩
  · refine wpAny_passesOwn hp (thn (T.item X rfl rfl rfl hc i pins s3 σ3 H3 X.xe I3 (stat fr3) st3 go) fun r s4 ⟨u,hr,h4⟩=>?_)
    subst hr
    refine wpAny_passesOwn hp (thn h4 fun _ s5 ⟨x,H5,I5,r5,y5,st5,fr5⟩=>?_)
    have I5':=I5.pinned (stat fr5) (T.obj _ _ st5)
    refine wpAny_passesOwn hp (thn (hg _ s5 σ3 H5 x u _ I5' r5 (step x H5 y5)) fun _ s6 ⟨σ6,H6,I6,q6⟩=>?_)
    refine wpAny_passesOwn hp (thn (hb _ s6 σ6 H6 _ I6 q6) fun f s7 q7=>?_)
    have again:∀ {σ7:St}{H7:Hp},Inv X (pins++zb1 fp s5.heap) σ7 H7 s7→N σ7 H7→∃ m,m<n∧∃ i σ' H',Inv X pins σ' H' s7∧tn i s7.heap∧(∀ b∈fp,H' b=none)∧W i m σ' H':=fun {σ7 H7} I7 n7=>by
      obtain⟨m',hm,w7⟩:=hN σ7 H7 n7
      refine⟨m',hm,i+1,σ7,H7,I7.unpinned,T.keep _ _ _ st5 fun b hb o e=>(I7.pin (b,o) (Ju _ (Ju _ (zaw hb e)))).1,fun b hb=>?_,w7⟩
      obtain⟨o,e,d⟩:=T.obj _ _ st5 b hb
      exact(I7.pin (b,o) (Ju _ (Ju _ (zaw hb e)))).2.1
    cases f with
    | next=>obtain⟨σ7,H7,I7,n7⟩:=q7;exact again I7 n7
    | cont=>obtain⟨σ7,H7,I7,n7⟩:=q7;exact again I7 n7
    | brk=>obtain⟨σ7,H7,I7,q7⟩:=q7;exact⟨σ7,H7,I7.unpinned,q7⟩
    | ret v=>obtain⟨x7,σ7,H7,I7,r7,q7⟩:=q7;exact⟨x7,σ7,H7,I7.unpinned,r7,q7⟩
end
theorem zkB {K:PySem.W.Frag}{a:Addr}{xs:List V}{g:TG}{tb:TS}{D:Ends}{σ:St}{H:Hp}(Pv:Nat→St→Hp→Prop) (h0:Pv 0 σ H) (hl:∀ i σ H,i≤xs.length→Pv i σ H→SqT K H a xs)
    (hs:∀ i x σ H,xs[i]?=some x→Pv i σ H→g x σ H fun σ2 H2=>tb { D with nx:=Pv (i+1),ct:=Pv (i+1),bk:=D.nx } σ2 H2) (hd:∀ σ H,Pv xs.length σ H→D.nx σ H) :
    ∃ W:Nat→Nat→St→Hp→Prop,(∃ m,W 0 m σ H)∧∀ i m σ H,W i m σ H →
      ((Itt K a).stop i H∧D.nx σ H)∨((Itt K a).go i H∧∃ N:St→Hp→Prop,(∀ σ' H',N σ' H'→∃ m',m'<m∧W (i+1) m' σ' H')∧∀ x H',(Itt K a).yld i H x H'→g x σ H' fun σ2 H2=>tb { D with nx:=N,ct:=N,bk:=D.nx } σ2 H2):=by
  refine⟨fun i m σ H=>m=xs.length-i∧i≤xs.length∧Pv i σ H,⟨xs.length,by simp,JH _,h0⟩,?_⟩
  rintro i m σ H ⟨rfl,hi,p⟩
  have q:=hl i σ H hi p
  by_cases hlt:i<xs.length
  · refine .inr ⟨⟨xs,xs[i],q,by simp[hlt]⟩,Pv (i+1),fun σ' H' p'=>⟨xs.length-(i+1),by omega,rfl,hlt,p'⟩,fun x H' y=>?_⟩
    obtain⟨e,y⟩:=y
    subst e
    exact hs i x σ _ (y xs q) p
  · have e:i=xs.length:=by omega
    subst e
    exact .inl ⟨⟨xs,q,Jg _⟩,hd σ H p⟩
theorem za9 {lo:Int}{n:Nat}{g:TG}{tb:TS}{D:Ends}{σ:St}{H:Hp}(Pv:Nat→St→Hp→Prop) (h0:Pv 0 σ H)
    (hs:∀ i σ H,i<n→Pv i σ H→g (.int (lo+i)) σ H fun σ2 H2=>tb { D with nx:=Pv (i+1),ct:=Pv (i+1),bk:=D.nx } σ2 H2) (hd:∀ σ H,Pv n σ H→D.nx σ H) :
    ∃ W:Nat→Nat→St→Hp→Prop,(∃ m,W 0 m σ H)∧∀ i m σ H,W i m σ H →
      ((Itr lo n).stop i H∧D.nx σ H)∨((Itr lo n).go i H∧∃ N:St→Hp→Prop,(∀ σ' H',N σ' H'→∃ m',m'<m∧W (i+1) m' σ' H')∧∀ x H',(Itr lo n).yld i H x H'→g x σ H' fun σ2 H2=>tb { D with nx:=N,ct:=N,bk:=D.nx } σ2 H2):=by
  refine⟨fun i m σ H=>m=n-i∧i≤n∧Pv i σ H,⟨n,by simp,JH _,h0⟩,?_⟩
  rintro i m σ H ⟨rfl,hi,p⟩
  by_cases hlt:i<n
  · refine .inr ⟨hlt,Pv (i+1),fun σ' H' p'=>⟨n-(i+1),by omega,rfl,hlt,p'⟩,fun x H' y=>?_⟩
    obtain⟨e,y⟩:=y
    subst e y
    exact hs i σ _ hlt p
  · have e:i=n:=by omega
    subst e
    exact .inl ⟨Jg _,hd σ H p⟩
abbrev R2:=V→V→Hp→VK→Prop
def OpR (X:Cx) (f:Value→Value→Sem Value) (r:R2):Prop :=
  ∀ (pins:List (Addr × Obj)) (s:Shared) (σ:St) (H:Hp) (x y:V) (v u:Value) (Q:VK),Inv X pins σ H s→RelV x v→RelV y u→r x y H Q →
    wpAny (model X.prog X.w) X.A (f v u) (EP X pins σ Q) X.xe s
def CallR (X:Cx) (f:Value) (r:List V→Hp→VK→Prop):Prop :=
  ∀ (pins:List (Addr × Obj)) (s:Shared) (σ:St) (H:Hp) (xs:List V) (us:List Value) (Q:VK),Inv X pins σ H s→Vals xs us→r xs H Q →
    wpAny (model X.prog X.w) X.A (call f us) (EP X pins σ Q) X.xe s
def TruR (X:Cx) (r:V→Hp→(Bool→Hp→Prop)→Prop):Prop :=
  ∀ (pins:List (Addr × Obj)) (s:Shared) (σ:St) (H:Hp) (x:V) (v:Value) (Q:Bool→Hp→Prop),Inv X pins σ H s→RelV x v→r x H Q →
    wpAny (model X.prog X.w) X.A (truthy v) (TP X pins σ Q) X.xe s
def tOp (r:R2) (ta tb:TE):TE:=fun σ H Q=>ta σ H fun x H1=>tb σ H1 fun y H2=>r x y H2 Q
def rI (C:Int→Int→Prop) (g:Int→Int→V):R2:=fun x y H Q=>∃ i j,x=.int i∧y=.int j∧C i j∧Q (g i j) H
def rI0 (g:Int→Int→V):R2:=fun x y H Q=>∃ i j,x=.int i∧y=.int j∧Q (g i j) H
section
variable {X:Cx}{a b c:Expr}{ta tb tc:TE}{pos:Pos}
theorem binT (ha:PE X a ta) (hb:PE X b tb) {pins:List (Addr × Obj)}{s:Shared}{σ:St}{H:Hp}{R:V→V→Hp→Prop}(I:Inv X pins σ H s)
    (h:ta σ H fun x H1=>tb σ H1 fun y H2=>R x y H2) {Q:Value→Shared→Prop}{f:Value→Value→Sem Value}
    (hf:∀ v u s2 x y H2,Inv X pins σ H2 s2→RelV x v→RelV y u→R x y H2→wpAny (model X.prog X.w) X.A (f v u) Q X.xe s2) :
    wpAny (model X.prog X.w) X.A (eval a X.env) (fun v s₁=>wpAny (model X.prog X.w) X.A (eval b X.env) (fun u s₂=>wpAny (model X.prog X.w) X.A (f v u) Q X.xe s₂) X.xe s₁) X.xe s:=by
  refine thn (ha pins s σ H _ I h) fun v s1 ⟨x,H1,I1,r1,q1⟩=>?_
  refine thn (hb pins s1 σ H1 _ I1 q1) fun u s2 ⟨y,H2,I2,r2,q2⟩=>?_
  exact hf v u s2 x y H2 I2 r1 r2 q2
theorem pe_op {op:Operator}{r:R2}(ho:OpR X (binaryOp op) r) (ha:PE X a ta) (hb:PE X b tb):PE X (.BinOp a op b pos) (tOp r ta tb):=by
  intro pins s σ H Q I h
  exact wpAny_BinOp (binT ha hb I h fun v u s2 x y H2 I2 rx ry q=>ho pins s2 σ H2 x y v u Q I2 rx ry q)
theorem opI {f:Value→Value→Sem Value}{C:Int→Int→Prop}{g:Int→Int→Int}
    (rule:∀ (i j:Int) (t u:Tok) (s:Shared) (Q:Value→Shared→Prop) (E:Value→Shared→Prop),C i j→Q (.int (g i j) s.toks) { s with toks:=s.toks+1 }→wpAny (model X.prog X.w) X.A (f (.int i t) (.int j u)) Q E s) :
    OpR X f (rI C fun i j=>.int (g i j)):=by
  intro pins s σ H x y v u Q I rx ry h
  obtain⟨i,j,rfl,rfl,hc,q⟩:=h
  obtain⟨t,rfl⟩:=rx
  obtain⟨t',rfl⟩:=ry
  exact rule i j t t' s _ _ hc ⟨.int (g i j),H,I.tok _,⟨_,rfl⟩,q⟩
theorem opI0 {f:Value→Value→Sem Value}{g:Int→Int→Int}
    (rule:∀ (i j:Int) (t u:Tok) (s:Shared) (Q:Value→Shared→Prop) (E:Value→Shared→Prop),Q (.int (g i j) s.toks) { s with toks:=s.toks+1 }→wpAny (model X.prog X.w) X.A (f (.int i t) (.int j u)) Q E s) :
    OpR X f (rI0 fun i j=>.int (g i j)):=by
  intro pins s σ H x y v u Q I rx ry h
  obtain⟨i,j,rfl,rfl,q⟩:=h
  obtain⟨t,rfl⟩:=rx
  obtain⟨t',rfl⟩:=ry
  exact rule i j t t' s _ _ ⟨.int (g i j),H,I.tok _,⟨_,rfl⟩,q⟩
theorem opB0 {f:Value→Value→Sem Value}{g:Int→Int→Bool}
    (rule:∀ (i j:Int) (t u:Tok) (s:Shared) (Q:Value→Shared→Prop) (E:Value→Shared→Prop),Q (.bool (g i j)) s→wpAny (model X.prog X.w) X.A (f (.int i t) (.int j u)) Q E s) :
    OpR X f (rI0 fun i j=>.bl (g i j)):=by
  intro pins s σ H x y v u Q I rx ry h
  obtain⟨i,j,rfl,rfl,q⟩:=h
  obtain⟨t,rfl⟩:=rx
  obtain⟨t',rfl⟩:=ry
  exact rule i j t t' s _ _ ⟨.bl (g i j),H,I,rfl,q⟩
def CDiv (i j:Int):Prop:=0<j∧j<1073741824
def CPow (i j:Int):Prop:=0≤j∧j≤1000000∧i.natAbs<2 ^ 64
def CMul (i j:Int):Prop:=(-(2 ^ 64)<i∧i<2 ^ 64)∨(-(2 ^ 64)<j∧j<2 ^ 64)
theorem CMul.ok {i j:Int}(h:CMul i j):IntMulOk i j:=by
  rcases h with ⟨h1,h2⟩|⟨h1,h2⟩
  · exact .of_left (intBits_le_64 h1 h2)
  · exact .of_right (intBits_le_64 h1 h2)
theorem op_add:OpR X (binaryOp .Add) (rI0 fun i j=>.int (i+j)):=opI0 fun _ _ _ _ _ _ _ q=>add_int q
theorem op_sub:OpR X (binaryOp .Sub) (rI0 fun i j=>.int (i-j)):=opI0 fun _ _ _ _ _ _ _ q=>sub_int q
theorem op_mul:OpR X (binaryOp .Mult) (rI CMul fun i j=>.int (i*j)):=opI fun _ _ _ _ _ _ _ hc q=>mul_int q hc.ok
theorem op_fdiv:OpR X (binaryOp .FloorDiv) (rI CDiv fun i j=>.int (i / j)):=opI fun i j _ _ _ _ _ hc q=>by
  have h1:(0:Int)<j:=hc.1
  have h2:j<1073741824:=hc.2
  exact floordiv_int (by omega) (by rw[Int.fdiv_eq_ediv_of_nonneg i (by omega)];exact q) (.inl (PyProof.noPylong_small (by omega)))
theorem op_mod:OpR X (binaryOp .Mod) (rI (fun _ j=>0<j) fun i j=>.int (i%j)):=opI fun i j _ _ _ _ _ hc q=>by
  have h1:(0:Int)<j:=hc
  exact mod_int' (by omega) (by rw[Int.fmod_eq_emod_of_nonneg i (by omega)];exact q)
theorem zjv:OpR X (binaryOp .Pow) (rI CPow fun i j=>.int (i ^ j.toNat)):=opI fun _ _ _ _ _ _ _ hc q=>pow_int_small hc.1 hc.2.1 hc.2.2 q
end
def scal:V→V→Bool
  | .non,.non=>true|.non,.int _=>true|.int _,.non=>true|.non,.bl _=>true|.bl _,.non=>true|.non,.str _=>true|.str _,.non=>true
  | .int _,.int _=>true|.bl _,.bl _=>true|.str _,.str _=>true|.byt _,.byt _=>true
  | .int _,.str _=>true|.str _,.int _=>true|.bl _,.str _=>true|.str _,.bl _=>true
  | _,_=>false
def rEq:R2:=fun x y H Q=>scal x y=true∧Q (.bl (decide (x=y))) H
def rNe:R2:=fun x y H Q=>scal x y=true∧Q (.bl (!decide (x=y))) H
theorem zhO {i j:Int}:decide (V.int i=V.int j)=(i == j):=by
  rw[Ye]
  simp
theorem zjC {i j:Bool}:decide (V.bl i=V.bl j)=(i == j):=by
  rw[Ye]
  simp
theorem zhN {i j:Str}:decide (V.str i=V.str j)=(i == j):=by
  rw[Ye]
  simp
theorem zhP {i j:Array UInt8}:decide (V.byt i=V.byt j)=(i.toList == j.toList):=by
  rw[Ye]
  cases i
  cases j
  simp
section
variable {X:Cx}{a b c:Expr}{ta tb tc:TE}{pos:Pos}
theorem zal {pins:List (Addr × Obj)}{σ:St}{H:Hp}{s:Shared}{Q:VK}{k k':Bool}(I:Inv X pins σ H s) (q:Q (.bl k) H) (e:k=k'):EP X pins σ Q (.bool k') s:=by
  subst e
  exact⟨.bl k,H,I,rfl,q⟩
theorem op_eq:OpR X (compareOp .Eq) rEq:=by
  intro pins s σ H x y v u Q I rx ry h
  obtain⟨hs,q⟩:=h
  cases x with
  | non =>
    cases rx
    cases y with
    | non=>cases ry;exact PySem.EqNone.eq_none_none (zal I q (by simp))
    | bl j=>cases ry;exact PySem.EqNone.eq_none_bool (zal I q (by simp))
    | int j=>obtain⟨t',rfl⟩:=ry;exact PySem.EqNone.eq_none_int (zal I q (by simp))
    | str j=>obtain⟨t',rfl⟩:=ry;exact PySem.EqNone.eq_none_str (zal I q (by simp))
    | _=>exact absurd (show false=true from hs) Jh
  | bl i =>
    cases rx
    cases y with
    | non=>cases ry;exact PySem.EqNone.eq_bool_none (zal I q (by simp))
    | bl j=>cases ry;exact eq_bool (zal I q zjC)
    | str j=>obtain⟨t',rfl⟩:=ry;exact PySem.EqMixed.eq_bool_str (zal I q (by simp))
    | _=>exact absurd (show false=true from hs) Jh
  | int i =>
    obtain⟨t,rfl⟩:=rx
    cases y with
    | non=>cases ry;exact PySem.EqNone.eq_int_none (zal I q (by simp))
    | int j=>obtain⟨t',rfl⟩:=ry;exact eq_int (zal I q zhO)
    | str j=>obtain⟨t',rfl⟩:=ry;exact PySem.EqMixed.eq_int_str (zal I q (by simp))
    | _=>exact absurd (show false=true from hs) Jh
  | str i =>
    obtain⟨t,rfl⟩:=rx
    cases y with
    | non=>cases ry;exact PySem.EqNone.eq_str_none (zal I q (by simp))
    | bl j=>cases ry;exact PySem.EqMixed.eq_str_bool (zal I q (by simp))
    | int j=>obtain⟨t',rfl⟩:=ry;exact PySem.EqMixed.eq_str_int (zal I q (by simp))
    | str j=>obtain⟨t',rfl⟩:=ry;exact eq_str (zal I q zhN)
    | _=>exact absurd (show false=true from hs) Jh
  | byt i =>
    obtain⟨t,rfl⟩:=rx
    cases y with
    | byt j=>obtain⟨t',rfl⟩:=ry;exact PySem.W.eq_bytes (zal I q zhP)
    | _=>exact absurd (show false=true from hs) Jh
  | _=>cases y<;>exact absurd (show false=true from hs) Jh
theorem op_ne:OpR X (compareOp .NotEq) rNe:=by
  intro pins s σ H x y v u Q I rx ry h
  obtain⟨hs,q⟩:=h
  cases x with
  | non =>
    cases rx
    cases y with
    | non=>cases ry;exact PySem.EqNone.ne_none_none (zal I q (by simp))
    | bl j=>cases ry;exact PySem.EqNone.ne_none_bool (zal I q (by simp))
    | int j=>obtain⟨t',rfl⟩:=ry;exact PySem.EqNone.ne_none_int (zal I q (by simp))
    | str j=>obtain⟨t',rfl⟩:=ry;exact PySem.EqNone.ne_none_str (zal I q (by simp))
    | _=>exact absurd (show false=true from hs) Jh
  | bl i =>
    cases rx
    cases y with
    | non=>cases ry;exact PySem.EqNone.ne_bool_none (zal I q (by simp))
    | bl j=>cases ry;exact ne_bool (zal I q (JJ not zjC))
    | str j=>obtain⟨t',rfl⟩:=ry;exact PySem.EqMixed.ne_bool_str (zal I q (by simp))
    | _=>exact absurd (show false=true from hs) Jh
  | int i =>
    obtain⟨t,rfl⟩:=rx
    cases y with
    | non=>cases ry;exact PySem.EqNone.ne_int_none (zal I q (by simp))
    | int j=>obtain⟨t',rfl⟩:=ry;exact ne_int (zal I q (JJ not zhO))
    | str j=>obtain⟨t',rfl⟩:=ry;exact PySem.EqMixed.ne_int_str (zal I q (by simp))
    | _=>exact absurd (show false=true from hs) Jh
  | str i =>
    obtain⟨t,rfl⟩:=rx
    cases y with
    | non=>cases ry;exact PySem.EqNone.ne_str_none (zal I q (by simp))
    | bl j=>cases ry;exact PySem.EqMixed.ne_str_bool (zal I q (by simp))
    | int j=>obtain⟨t',rfl⟩:=ry;exact PySem.EqMixed.ne_str_int (zal I q (by simp))
    | str j=>obtain⟨t',rfl⟩:=ry;exact ne_str (zal I q (JJ not zhN))
    | _=>exact absurd (show false=true from hs) Jh
  | byt i =>
    obtain⟨t,rfl⟩:=rx
    cases y with
    | byt j=>obtain⟨t',rfl⟩:=ry;exact PySem.W.ne_bytes (zal I q (JJ not zhP))
    | _=>exact absurd (show false=true from hs) Jh
  | _=>cases y<;>exact absurd (show false=true from hs) Jh
theorem ziA:OpR X (compareOp .Gt) (rI0 fun i j=>.bl (decide (j<i))):=opB0 fun _ _ _ _ _ _ _ q=>gt_int q
theorem zlL:OpR X (compareOp .GtE) (rI0 fun i j=>.bl (decide (j≤i))):=opB0 fun _ _ _ _ _ _ _ q=>ge_int q
theorem zk0:OpR X (compareOp .Is) (fun x y H Q=>y=.non∧Q (.bl (decide (x=.non))) H):=by
  intro pins s σ H x y v u Q I rx ry h
  obtain⟨rfl,q⟩:=h
  cases ry
  refine is_none_gen (zal I q ?_)
  cases x<;>first
    | (cases rx;rfl)
    | (obtain⟨t,rfl⟩:=rx;rfl)
theorem op_notN:OpR X (compareOp .IsNot) (fun x y H Q=>y=.non∧Q (.bl (!decide (x=.non))) H):=by
  intro pins s σ H x y v u Q I rx ry h
  obtain⟨rfl,q⟩:=h
  cases ry
  refine isnot_none_gen (zal I q ?_)
  cases x<;>first
    | (cases rx;rfl)
    | (obtain⟨t,rfl⟩:=rx;rfl)
theorem nomark (b:Expr) {op:CmpOp}(h:op≠.In:=by decide) (h2:op≠.NotIn:=by decide):behindInMarks op b=false:=by
  have e1:(op == CmpOp.In)=false:=by cases op<;>first|rfl|exact absurd rfl h
  have e2:(op == CmpOp.NotIn)=false:=by cases op<;>first|rfl|exact absurd rfl h2
  cases b<;>simp[behindInMarks,e1,e2]
theorem zda {op:CmpOp}{r:R2}(ho:OpR X (compareOp op) r) (ha:PE X a ta) (hb:PE X b tb) (hm:behindInMarks op b=false):PE X (.Compare a [op] [b] pos) (tOp r ta tb):=by
  intro pins s σ H Q I h
  exact wpAny_Compare1 (binT ha hb I h fun v u s2 x y H2 I2 rx ry q=>ho pins s2 σ H2 x y v u Q I2 rx ry q) hm
def zlw (t:TE):TT:=fun σ H Q=>t σ H fun x H'=>∃ k,x=.bl k∧Q k H'
theorem pt_cmpR {op:CmpOp}{r:R2}(ho:OpR X (compareOp op) r) (ha:PE X a ta) (hb:PE X b tb) (hm:behindInMarks op b=false):PT X (.Compare a [op] [b] pos) (zlw (tOp r ta tb)):=by
  intro pins s σ H Q I h
  refine wpAny_isTrue_Compare1 (thn (ha pins s σ H _ I h) fun v s1 ⟨x,H1,I1,r1,q1⟩=>thn (hb pins s1 σ H1 _ I1 q1) fun u s2 ⟨y,H2,I2,r2,q2⟩ =>
    thn (ho pins s2 σ H2 x y v u _ I2 r1 r2 q2) fun c s3 ⟨z,H3,I3,r3,k,e,q3⟩=>?_) hm
  subst e
  cases r3
  exact YH ⟨H3,I3,q3⟩
def TruV (K:PySem.W.Frag) (x:V) (H:Hp) (k:Bool):Prop :=
  match x with
  | .non=>k=false
  | .bl b=>k=b
  | .int i=>k=(i != 0)
  | .str y=>y.length≤sizeLine∧k=((y.length:Int) != 0)
  | .byt y=>y.size≤sizeLine∧k=((y.size:Int) != 0)
  | .ref p=>(∃ xs,SqL K H p xs∧k = !xs.isEmpty)∨(∃ xs,SqT K H p xs∧k = !xs.isEmpty)∨∃ kvs,H p=some (.dK kvs)∧k = !kvs.isEmpty
  | _=>False
theorem zge {κ:Type}{kvs:List (κ × V)}{vs:List (κ × Value)}(r:KV kvs vs):(!vs.isEmpty) = !kvs.isEmpty:=by
  cases r<;>rfl
theorem zcO {xs:List V}{its:List Value}(r:Vals xs its):(!its.toArray.isEmpty) = !xs.isEmpty:=by
  cases r<;>simp
theorem zdP:(sizeLine:Nat)<2 ^ 63:=by rw[Jy];decide
theorem zkN:TruR X (fun x H Q=>∃ k,TruV X.K x H k∧Q k H):=by
  intro pins s σ H x v Q I rx h
  obtain⟨k,e,q⟩:=h
  have hl:=zdP
  have hs:sizeLine=16777216:=Jy
  cases x with
  | non =>
    cases rx
    have e':k=false:=e
    subst e'
    exact truthy_none ⟨H,I,q⟩
  | bl b =>
    cases rx
    have e':k=b:=e
    subst e'
    exact YH ⟨H,I,q⟩
  | int i =>
    obtain⟨t,rfl⟩:=rx
    have e':k=(i != 0):=e
    subst e'
    exact PySem.P.truthy_int ⟨H,I,q⟩
  | str y =>
    obtain⟨t,rfl⟩:=rx
    obtain⟨hy,e'⟩:y.length≤sizeLine∧k=((y.length:Int) != 0):=e
    subst e'
    exact PySem.P.truthy_str (by omega) ⟨H,I.tok _,q⟩
  | byt y =>
    obtain⟨t,rfl⟩:=rx
    obtain⟨hy,e'⟩:y.size≤sizeLine∧k=((y.size:Int) != 0):=e
    subst e'
    exact PySem.W.truthy_bytes (by omega) ⟨H,I.tok _,q⟩
  | ref p =>
    cases rx
    have e':(∃ xs,SqL X.K H p xs∧k = !xs.isEmpty)∨(∃ xs,SqT X.K H p xs∧k = !xs.isEmpty)∨∃ kvs,H p=some (.dK kvs)∧k = !kvs.isEmpty:=e
    rcases e' with ⟨xs,hx,e'⟩|⟨xs,hx,e'⟩|⟨kvs,hx,e'⟩
    · subst e'
      obtain⟨its,r,pl,hz⟩:=I.list hx
      have hlen:=r.length
      exact wpAny_truthy_list pl.isList (by simp only[Jj];omega) ⟨H,I.tok _,by rw[zcO r];exact q⟩
    · subst e'
      obtain⟨its,r,pl,hz⟩:=I.tuple hx
      have hlen:=r.length
      exact truthy_tuple pl (by simp only[Jj];omega) ⟨H,I.tok _,by rw[zcO r];exact q⟩
    · subst e'
      obtain⟨hz,hS,vs,r,m⟩:kvs.length≤sizeLine∧(p == sysModules)=false∧∃ vs,KV kvs vs∧s.heap.DictOf (zau X.prog X.w) p vs:=I.hok p _ hx
      have hlen:kvs.length=vs.length:=Paired.length r
      exact wpAny_truthy_dict hS m (by omega) ⟨H,I.tok _,by rw[zge r];exact q⟩
  | _=>exact(show False from e).elim
theorem zir (ha:PE X a ta) (he:∀ whole,isTrue a X.env whole=(do let v ← whole;standAt a.pos;holding [v] (truthy v))) :
    PT X a (fun σ H Q=>ta σ H fun x H'=>∃ k,TruV X.K x H' k∧Q k H'):=by
  intro pins s σ H Q I h
  exact isTrue_plain (thn (ha pins s σ H _ I h) fun v s1 ⟨x,H1,I1,r1,q1⟩=>zkN pins s1 σ H1 x v Q I1 r1 q1) (he _)
theorem zfI {x:V}{us:List Value}(r:Vals [x] us):∃ u,us=[u]∧RelV x u:=by
  cases r with
  | cons r1 r2=>cases r2;exact⟨_,rfl,r1⟩
theorem zjG {x y:V}{us:List Value}(r:Vals [x,y] us):∃ u w',us=[u,w']∧RelV x u∧RelV y w':=by
  cases r with
  | cons r1 r2 =>
    cases r2 with
    | cons r3 r4=>cases r4;exact⟨_,_,rfl,r1,r3⟩
theorem zfH:CallR X (.builtin "abs") (fun xs H Q=>∃ i,xs=[.int i]∧Q (.int (if i<0 then -i else i)) H):=by
  intro pins s σ H xs us Q I r h
  obtain⟨i,rfl,q⟩:=h
  obtain⟨u,rfl,t,rfl⟩:=zfI r
  exact call_abs_int fun u tk=>⟨.int (if i<0 then -i else i),H,I.tok _,⟨_,rfl⟩,q⟩
theorem zh0 (hc:X.calm=true):CallR X (.builtin "max") (fun xs H Q=>∃ i j,xs=[.int i,.int j]∧Q (.int (if j > i then j else i)) H):=by
  intro pins s σ H xs us Q I r h
  obtain⟨i,j,rfl,q⟩:=h
  obtain⟨u,w',rfl,⟨t,rfl⟩,⟨t',rfl⟩⟩:=zjG r
  refine max_two_ints (I.ok.hd hc) fun h' tk k=>⟨_,H,I.kept k,?_,q⟩
  by_cases hj:j > i
  · rw[Jf hj,Jf hj];exact⟨_,rfl⟩
  · rw[Jc hj,Jc hj];exact⟨_,rfl⟩
theorem zhZ (hc:X.calm=true):CallR X (.builtin "min") (fun xs H Q=>∃ i j,xs=[.int i,.int j]∧Q (.int (if j<i then j else i)) H):=by
  intro pins s σ H xs us Q I r h
  obtain⟨i,j,rfl,q⟩:=h
  obtain⟨u,w',rfl,⟨t,rfl⟩,⟨t',rfl⟩⟩:=zjG r
  refine min_two_ints (I.ok.hd hc) fun h' tk k=>⟨_,H,I.kept k,?_,q⟩
  by_cases hj:j<i
  · rw[Jf hj,Jf hj];exact⟨_,rfl⟩
  · rw[Jc hj,Jc hj];exact⟨_,rfl⟩
theorem zd3:CallR X (.type "int") (fun xs H Q=>(∃ i,xs=[.int i]∧Q (.int i) H)∨∃ k,xs=[.bl k]∧Q (.int (if k then 1 else 0)) H):=by
  intro pins s σ H xs us Q I r h
  rcases h with ⟨i,rfl,q⟩|⟨k,rfl,q⟩
  · obtain⟨u,rfl,t,rfl⟩:=zfI r
    exact call_int_int ⟨.int i,H,I,⟨_,rfl⟩,q⟩
  · obtain⟨u,rfl,r1⟩:=zfI r
    cases r1
    exact call_int_bool ⟨.int (if k then 1 else 0),H,I.tok _,⟨_,rfl⟩,q⟩
end
section
variable {prog:Program}{w:World}{A:Around}{E:Value→Shared→Prop}{s:Shared}{K:PySem.W.Frag}{x dx C f:Addr}{mA:Str→Option Value}{name:Str}{v:Value}
end
section
variable {P:Program}{w:World}{H H':Hp}{h h':Heap}{a C dx:Addr}{fs fs':List (Str × V)}
end
section
variable {X:Cx}{pins:List (Addr × Obj)}{σ:St}{H:Hp}{s:Shared}{a C dx:Addr}{fs:List (Str × V)}{f:Str}{v:V}{A:Around}{E:Value→Shared→Prop}
end
section
variable {X:Cx}{o e value:Expr}{f:Str}{pos pos' tpos:Pos}{ta tv:TE}
end
section
variable {X:Cx}{pins:List (Addr × Obj)}{σ:St}{H:Hp}{s:Shared}{A:Around}{E:Value→Shared→Prop}{Q:Value→Shared→Prop}{c:Value}{b:Bool}
end
structure Room (k:Nat) (A:Around):Prop where
  hd:A.handled=none
  dp:A.depth+3*k+5<recursionLimit
  un:A.units+16*k+200<cLine
  gd:A.guards=some []
theorem Room.mono {j k:Nat}{A:Around}(r:Room k A) (h:j≤k):Room j A:=⟨r.hd,by have:=r.dp;omega,by have:=r.un;omega,r.gd⟩
theorem Room.deeper {k:Nat}{A:Around}(r:Room (k+1) A) (env:Env):Room k (A.deeper env) :=
  ⟨r.hd,by have:=r.dp;show A.depth+1+3*k+5<_;omega,by have:=r.un;show A.units+3+16*k+200<_;omega,r.gd⟩
theorem Room.depth {k:Nat}{A:Around}(r:Room k A):A.depth<recursionLimit:=by have:=r.dp;omega
theorem Room.units {k:Nat}{A:Around}(r:Room k A):A.units+64<cLine:=by have:=r.un;omega
theorem Room.units0 {k:Nat}{A:Around}(r:Room k A):A.units<cLine:=by have:=r.un;omega
def tNil:TA:=fun _ H Q=>Q [] H
def zjM (ta:TE) (tr:TA):TA:=fun σ H Q=>ta σ H fun x H1=>tr σ H1 fun xs H2=>Q (x::xs) H2
section
variable {X:Cx}{e:Expr}{es:List Expr}{te:TE}{t:TA}{pos:Pos}
theorem pa_nil:PA X [] tNil:=fun _ _ _ _ H Q I h=>Calls.spliced_nil ⟨[],H,I,.nil,h⟩
theorem pa_cons (ha:PE X e te) (hr:PA X es t) (hs:starEach (e::es) X.env=(false,eval e X.env)::starEach es X.env:=by rfl):PA X (e::es) (zjM te t):=by
  intro pos pins s σ H Q I h
  rw[hs]
  show wpAny _ _ (spliced ((false,eval e X.env)::backTo pos (starEach es X.env))) _ _ s
  refine Calls.spliced_cons (thn (ha pins s σ H _ I h) fun u s1 ⟨x,H1,I1,r1,q1⟩=>?_)
  exact thn (hr pos pins s1 σ H1 _ I1 q1) fun us s2 ⟨xs,H2,I2,r2,q2⟩=>⟨x::xs,H2,I2,.cons r1 r2,q2⟩
def tTup (t:TA):TE:=fun σ H Q=>t σ H fun xs H1=>xs.length≤sizeLine∧∀ p,H1 p=none→Q (.ref p) (upd H1 p (.tup xs))
def tLst (t:TA):TE:=fun σ H Q=>t σ H fun xs H1=>xs.length≤sizeLine∧∀ p,H1 p=none→Q (.ref p) (upd H1 p (.lst xs))
theorem pe_tup {x1} (h:PA X es t):PE X (.Tuple es x1 pos) (tTup t):=by
  intro pins s σ H Q I hq
  refine wpAny_Tuple_spliced (thn (h pos pins s σ H _ I hq) fun us s1 ⟨xs,H1,I1,r,z,q⟩=>⟨by rw[← r.length];exact z,?_⟩)
  have hf:H1 s1.heap.objs.size=none:=I1.hok.fresh (Jg _)
  refine⟨.ref s1.heap.objs.size,upd H1 s1.heap.objs.size (.tup xs),I1.laid (t':=s1.toks) (fun b u e=>J8 _ e) (Jg _) ?_,rfl,q _ hf⟩
  exact⟨z,us,r,TupX.new _ _⟩
theorem pe_lst (h:PA X es t):PE X (.List es pos) (tLst t):=by
  intro pins s σ H Q I hq
  refine wpAny_List_spliced (thn (h pos pins s σ H _ I hq) fun us s1 ⟨xs,H1,I1,r,z,q⟩=>⟨by rw[← r.length];exact z,?_⟩)
  have hf:H1 s1.heap.objs.size=none:=I1.hok.fresh (Jg _)
  refine⟨.ref s1.heap.objs.size,upd H1 s1.heap.objs.size (.lst xs),I1.laid (t':=s1.toks) (fun b u e=>J8 _ e) (Jg _) ?_,rfl,q _ hf⟩
  exact⟨z,us,0,r,Jp _ rfl⟩
end
abbrev Sp:=List V→Hp→VK→XK→Prop
abbrev CXT:=List Env→Hp→Shared→XK→Value→Shared→Prop
structure Env0 (P:Program) (w:World) (K:PySem.W.Frag) (mg:Str→Option Value) (base:Heap) (A:Around) (outer:List Env) (s:Shared) (H:Hp):Prop where
  frames:A.frames=some outer
  mod:Mod K mg base
  bs:∀ b o,base.get? b=some o→s.heap.get? b=some o∧H b=none
  bsz:base.objs.size≤s.heap.objs.size
  funs:s.heap.FunFrames base outer
  frf:∀ b∈frs outer,H b=none
  hok:HOk P w H s.heap
  bare:AllBare s.gens
def CE (outer:List Env) (P:Program) (w:World) (H:Hp) (s:Shared) (Q:VK) (u:Value) (s':Shared):Prop :=
  ∃ v H',s'.os=s.os∧AllBare s'.gens∧Un (frs outer) [] H H' s.heap s'.heap∧HOk P w H' s'.heap∧RelV v u∧Q v H'
def CR (CX:CXT) (outer:List Env) (P:Program) (w:World) (H:Hp) (s:Shared) (Q:VK) (E:XK) (r:Result) (s':Shared):Prop :=
  match r with
  | .ok (.ret u)=>CE outer P w H s Q u s'
  | .ok _=>False
  | .error e=>CX outer H s E e s'
structure FnOk (P:Program) (w:World) (K:PySem.W.Frag) (mg:Str→Option Value) (base:Heap) (CX:CXT) (k:Nat) (f:Addr) (fd:FuncData) (ps:List Str) (sp:Sp):Prop where
  len:∀ vs H Q E,sp vs H Q E→vs.length=ps.length
  run:∀ (A:Around) (outer:List Env) (s:Shared) (H:Hp) (args:Args) (us:List Value) (vs:List V) (Q:VK) (E:XK),Room k A→Env0 P w K mg base A outer s H→BindsTo s fd args (ps.zip us)→Vals vs us→sp vs H Q E →
    codeAny (model P w) A (.call (.ref f) args) (CR CX outer P w H s Q E) s
theorem FnOk.mono {P:Program}{w:World}{K:PySem.W.Frag}{mg:Str→Option Value}{base:Heap}{CX:CXT}{j k:Nat}{f:Addr}{fd:FuncData}{ps:List Str}{sp:Sp}(F:FnOk P w K mg base CX j f fd ps sp) (h:j≤k) :
    FnOk P w K mg base CX k f fd ps sp:=⟨F.len,fun A outer s H args us vs Q E hr=>F.run A outer s H args us vs Q E (hr.mono h)⟩
theorem FnOk.imp {P:Program}{w:World}{K:PySem.W.Frag}{mg:Str→Option Value}{base:Heap}{CX:CXT}{k:Nat}{f:Addr}{fd:FuncData}{ps:List Str}{sp sp':Sp}(F:FnOk P w K mg base CX k f fd ps sp)
    (h:∀ vs H Q E,sp' vs H Q E→sp vs H Q E):FnOk P w K mg base CX k f fd ps sp' :=
  ⟨fun vs H Q E q=>F.len vs H Q E (h _ _ _ _ q),fun A outer s H args us vs Q E hr he hb hv hs=>F.run A outer s H args us vs Q E hr he hb hv (h _ _ _ _ hs)⟩
section
variable {X:Cx}{pins:List (Addr × Obj)}{σ:St}{H:Hp}{s s':Shared}
theorem Inv.env0 (I:Inv X pins σ H s):Env0 X.prog X.w X.K X.mg X.base X.A X.stack s H :=
  ⟨I.ok.frames,I.ok.mod,I.bs,JY I.ok.bsz I.sz,I.stack,I.stkFree,I.hok,I.bare⟩
theorem Inv.after {Q:VK}{u:Value}(I:Inv X pins σ H s) (h:CE X.stack X.prog X.w H s Q u s'):EP X pins σ Q u s':=by
  obtain⟨v,H',os,bare,un,hok,r,q⟩:=h
  obtain⟨hh,g,d,t,os'⟩:=s'
  obtain rfl:os'=s.os:=os
  exact⟨v,H',I.call (h':=hh) (g':=g) (d':=d) (t':=t) (ch:=[]) un hok bare (fun b z=>absurd z (by simp)),r,q⟩
end
def zlG (sp:Sp) (dvs:List V) (E:XK) (t:TA):TE:=fun σ H Q=>t σ H fun vs H1=>sp (vs++dvs) H1 Q E
def Binds (K:PySem.W.Frag) (fd:FuncData) (ps:List Str) (ds:List Value):Prop :=
  ∀ (s:Shared) (us:List Value),K.In s.heap→(us++ds).length=ps.length→BindsTo s fd ⟨us,[]⟩ (ps.zip (us++ds))
theorem Binds.all {K:PySem.W.Frag}{fd:FuncData}{ps:List Str}(h:∀ us:List Value,us.length=ps.length→bindArgs fd ⟨us,[]⟩=pure (ps.zip us)):Binds K fd ps []:=fun s us _ hl=>by
  rw[JT]at hl ⊢
  exact .of_eq (h us hl)
def Passes (CX:CXT) (X:Cx) (E:XK):Prop:=∀ (pins:List (Addr × Obj)) (σ:St) (H:Hp) (s:Shared) (e:Value) (s':Shared),Inv X pins σ H s→CX X.stack H s E e s'→X.xe e s'
section
variable {X:Cx}{CX:CXT}{k:Nat}{f C:Addr}{fd:FuncData}{ps:List Str}{sp:Sp}{dvs:List V}{ds:List Value}{E:XK}{x m:Str}{p pos apos:Pos}{e o:Expr}{es:List Expr}{ta:TE}{t:TA}
theorem zkU {pins:List (Addr × Obj)}{σ:St}{H:Hp}{s:Shared}{Q:VK}{us:List Value}{vs:List V}(F:FnOk X.prog X.w X.K X.mg X.base CX k f fd ps sp) (hr:Room k X.A) (hb:Binds X.K fd ps ds) (hd:Vals dvs ds) (hx:Passes CX X E)
    (I:Inv X pins σ H s) (r:Vals vs us) (h:sp (vs++dvs) H Q E):wpAny (model X.prog X.w) X.A (call (.ref f) us) (EP X pins σ Q) X.xe s:=by
  have r2:Vals (vs++dvs) (us++ds):=r.append hd
  have hl:(us++ds).length=ps.length:=by rw[← r2.length];exact F.len _ _ _ _ h
  refine wpAny_call (codeAny_mono (F.run X.A X.stack s H ⟨us,[]⟩ (us++ds) (vs++dvs) Q E hr I.env0 (hb s us I.kIn hl) r2 h) fun r s' hq=>?_)
  cases r with
  | error e=>exact hx pins σ H s e s' I hq
  | ok fl =>
    cases fl with
    | ret u=>exact I.after hq
    | next=>exact False.elim hq
    | brk=>exact False.elim hq
    | cont=>exact False.elim hq
theorem pe_call (F:FnOk X.prog X.w X.K X.mg X.base CX k f fd ps sp) (hr:Room k X.A) (hg:Gl X x) (hm:X.mg x=some (.ref f)) (hk:PySem.W.keepIn X.K (.ref f)=true) (hb:Binds X.K fd ps ds) (hd:Vals dvs ds) (hx:Passes CX X E)
    (ha:PA X (e::es) t) (hdb:(x == ("__debug__":Str))=false:=by decide) (he:starEach (e::es) X.env=(false,eval e X.env)::starEach es X.env:=by rfl) (hpl:(backTo pos (starEach es X.env)).any (·.1)=false:=by rfl) :
    PE X (.Call (.Name x p) (e::es) [] pos) (zlG sp dvs E t):=by
  intro pins s σ H Q I h
  refine wpAny_Call_Name_kw (zhp I hg hm ?_ hdb)
  refine PySem.W.callWith_K (h₀:=X.base) I.ok.mod.kin hk (thn (ha pos pins s σ H _ I h) fun us s1 ⟨vs,H1,I1,r,q⟩=>⟨I1.kIn,?_⟩) he hpl
  exact zkU F hr hb hd hx I1 r q
end
section
variable {X:Cx}{CX:CXT}{k:Nat}{f C:Addr}{fd:FuncData}{ps ks:List Str}{sp:Sp}{E:XK}{x m:Str}{p pos apos kpos:Pos}{e o:Expr}{es:List Expr}{kws:List Keyword}{te ta:TE}{t tk:TA}{nm:Option Str}
variable {g:List Value→List Value→List Value}{gV:List V→List V→List V}
end
structure FnScope (N P:List Str) (sc:Scope):Prop where
  kind:sc.kind=.function
  co:sc.isCoroutine=false
  gen:sc.isGenerator=false
  nd:N.Nodup
  pre:N.take P.length=P
  par:∀ x∈P,sc.names.lookup x=some .local ∨ sc.names.lookup x=some .cell
  nofree:∀ y∈sc.names,y.2≠.free
theorem zd5 {kindOf:Str→Option NameKind}{x:Str}:∀ {binds:List (Str × Value)}{m:Str→Option Value},(∀ v,(x,v)∉binds)→bindL kindOf binds m x=m x
  | [],_,_=>rfl
  | (n,v)::r,m,h=>by
    unfold bindL
    rw[zd5 fun w hw=>h w (JC _ hw)]
    split
    · have:x≠n:=by rintro rfl;exact h v JD
      simp[this]
    · rfl
theorem zd7 {kindOf:Str→Option NameKind}{x:Str}:∀ {binds:List (Str × Value)}{m:Str→Option Value},(∀ v,(x,v)∉binds)→bindC kindOf binds m x=m x
  | [],_,_=>rfl
  | (n,v)::r,m,h=>by
    unfold bindC
    rw[zd7 fun w hw=>h w (JC _ hw)]
    split
    · rfl
    · have:x≠n:=by rintro rfl;exact h v JD
      simp[this]
theorem zd6 {kindOf:Str→Option NameKind}{x:Str}{v:Value}:∀ {P:List Str}{vs:List Value}{i:Nat}{m:Str→Option Value},P.Nodup→P[i]?=some x→vs[i]?=some v→kindOf x=some .local →
    bindL kindOf (P.zip vs) m x=some v
  | [],_,_,_,_,h,_,_=>by simp at h
  | _::_,[],_,_,_,_,h,_=>by simp at h
  | p::P,w::vs,0,m,nd,h1,h2,hk=>by
    simp at h1 h2;subst h1;subst h2
    show bindL kindOf ((p,w)::P.zip vs) m p=_
    unfold bindL
    rw[zd5 fun v hv=>(JL.mp nd).1 (List.of_mem_zip hv).1,Jf hk]
    simp
  | p::P,w::vs,i+1,m,nd,h1,h2,hk=>by
    show bindL kindOf ((p,w)::P.zip vs) m x=_
    unfold bindL
    exact zd6 (i:=i) (JL.mp nd).2 (by simpa using h1) (by simpa using h2) hk
theorem zd8 {kindOf:Str→Option NameKind}{x:Str}{v:Value}:∀ {P:List Str}{vs:List Value}{i:Nat}{m:Str→Option Value},P.Nodup→P[i]?=some x→vs[i]?=some v→kindOf x≠some .local →
    bindC kindOf (P.zip vs) m x=some v
  | [],_,_,_,_,h,_,_=>by simp at h
  | _::_,[],_,_,_,_,h,_=>by simp at h
  | p::P,w::vs,0,m,nd,h1,h2,hk=>by
    simp at h1 h2;subst h1;subst h2
    show bindC kindOf ((p,w)::P.zip vs) m p=_
    unfold bindC
    rw[zd7 fun v hv=>(JL.mp nd).1 (List.of_mem_zip hv).1,Jc hk]
    simp
  | p::P,w::vs,i+1,m,nd,h1,h2,hk=>by
    show bindC kindOf ((p,w)::P.zip vs) m x=_
    unfold bindC
    exact zd8 (i:=i) (JL.mp nd).2 (by simpa using h1) (by simpa using h2) hk
def zcB (N:List Str) (vs:List V):St:=vs.map some++List.replicate (N.length-vs.length) none
def cxOf (CX:CXT) (P:Program) (w:World) (K:PySem.W.Frag) (mg:Str→Option Value) (base:Heap) (N:List Str) (qual:Str) (scope:Scope) (f:Addr) (cd:Value) (A:Around) (outer:List Env) (s:Shared) (H:Hp) (E:XK):Cx where
  prog:=P
  w:=w
  K:=K
  mg:=mg
  base:=base
  A:=A.deeper (envOfC qual scope s.heap.objs.size f cd)
  N:=N
  s₀:=s
  H₀:=H
  env:=envOfC qual scope s.heap.objs.size f cd
  outer:=outer
  stack:=envOfC qual scope s.heap.objs.size f cd::outer
  ex:=[]
  calm:=true
  fn:=fun _=>true
  pn:=[]
  xe:=fun e s'=>wpAny (model P w) (A.deeper (envOfC qual scope s.heap.objs.size f cd)) (leaving (envOfC qual scope s.heap.objs.size f cd) e) (fun _ s''=>CX outer H s E e s'') (fun e' s''=>CX outer H s E e' s'') s'
theorem zfG {sc:Scope}{n:Nat}{x:Str}(h:sc.names.lookup x=some .cell):∃ c,(cellsFrom n sc.names []).lookup x=some c:=by
  have q:=PySem.W.cellsFrom_some sc.names n [] (.inl h)
  exact YY.mp q
theorem zhA {CX:CXT}{P:Program}{w:World}{K:PySem.W.Frag}{mg:Str→Option Value}{base:Heap}{N ps:List Str}{qual:Str}{scope:Scope}{f:Addr}{cd:Value}{A:Around}{outer:List Env}{s s1:Shared}{H:Hp}{E:XK}{us:List Value}{vs:List V}
    (S:FnScope N ps scope) (hd:A.handled=none) (e0:Env0 P w K mg base A outer s H) (hl:vs.length=ps.length) (r:Vals vs us)
    (x:InCallC s s.heap.objs.size (bindL (envOfC qual scope s.heap.objs.size f cd).kindOf (ps.zip us) fun _=>none) (cellsFrom (s.heap.objs.size+1) scope.names []) (bindC (envOfC qual scope s.heap.objs.size f cd).kindOf (ps.zip us) fun _=>none) s1) :
    Inv (cxOf CX P w K mg base N qual scope f cd A outer s H E) [] (zcB N vs) H s1:=by
  have hpl:ps.length≤N.length:=by have:=JJ List.length S.pre;rw[Jw]at this;omega
  obtain⟨h1,tk,rfl,hk⟩:=x.done
  have noA:∀ b:Addr,b∉(cxOf CX P w K mg base N qual scope f cd A outer s H E).ex:=fun b z=>absurd (show b∈([]:List Addr) from z) (by simp)
  refine⟨⟨e0.mod,S.kind,rfl,rfl,Jg _,fun y z c h1 h2=>?_,fun y hy=>?_,fun y c _ h=>?_,fun _=>hd,Around.frames_deeper e0.frames,.inr ⟨rfl,rfl⟩,fun b z=>absurd z (noA b),e0.bs,e0.bsz,fun b _ _=>noA b,fun b z=>absurd z (noA b),e0.funs,e0.frf⟩,
    rfl,e0.bare,Un.kept hk,⟨_,x.toInCall.ns,fun i y v h1 h2 h3=>?_⟩,fun y c h=>⟨_,x.cell y c h⟩,e0.hok.fresh (Jg _),fun y c h=>?_,fun p hp=>absurd (show p∈([]:List (Addr × Obj)) from hp) (by simp),e0.hok.kept hk,?_⟩
  · exact name_of_addr x.apart (PySem.mem_of_lookup h1) (PySem.mem_of_lookup h2)
  · have hy:scope.names.lookup y=some .cell∨scope.names.lookup y=some .free:=hy
    rcases hy with hy|hy
    · exact zfG hy
    · exact absurd rfl (S.nofree _ (PySem.mem_of_lookup hy))
  · exact Nat.le_of_lt (x.above y c (PySem.mem_of_lookup h))
  · have hi:i<vs.length:=by
      unfold zcB at h2
      by_cases hi:i<vs.length
      · exact hi
      · rw[Yn (by simpa using hi)]at h2
        rw[List.getElem?_replicate]at h2
        split at h2<;>cases h2
    have ha:vs[i]?=some v:=by
      unfold zcB at h2
      rw[Ys (by simpa using hi),JR]at h2
      cases e:vs[i]? with
      | none=>rw[e]at h2;cases h2
      | some a=>rw[e]at h2;cases h2;rfl
    obtain⟨u,hu,rv⟩:=r.get ha
    have hp:ps[i]?=some y:=by
      rw[← S.pre,YD (by omega)];exact h1
    have ndP:ps.Nodup:=by rw[← S.pre];exact S.nd.sublist (List.take_sublist _ _)
    refine⟨u,rv,?_⟩
    rcases S.par y (JZ hp) with k|k
    · exact .inl ⟨k,zd6 ndP hp hu k⟩
    · obtain⟨c,e⟩:=zfG (n:=s.heap.objs.size+1) k
      refine .inr ⟨.inl k,c,e,?_⟩
      have q:=x.cell y c e
      rw[zd8 ndP hp hu (by show scope.names.lookup y≠_;rw[k];decide)]at q
      exact q
  · exact e0.hok.fresh (Nat.le_of_lt (x.above y c (PySem.mem_of_lookup h)))
  · unfold zcB
    show _=N.length
    rw[Ja,Jm,JU]
    omega
theorem zlm {CX:CXT}{P:Program}{w:World}{K:PySem.W.Frag}{mg:Str→Option Value}{base:Heap}{k:Nat}{f:Addr}{name qual:Str}{params:Arguments}{body:List Stmt}{scope:Scope}{dV kV doc pm cdv ct oc:Value}{an od:Option Addr}
    {osl:Array (Option Value)}{N ps:List Str}{sp:Sp}(lk:K.lookup f=some ⟨oc,od,.func (PySem.W.fnOf name qual params body scope dV kV doc pm an cdv ct),osl⟩) (hcd:PySem.W.codeIn K cdv qual=true) (S:FnScope N ps scope)
    (len:∀ vs H Q E,sp vs H Q E→vs.length=ps.length)
    (hbody:∀ (A:Around) (outer:List Env) (s:Shared) (H:Hp) (vs:List V) (Q:VK) (E:XK),Room k (A.deeper (envOfC qual scope s.heap.objs.size f cdv))→sp vs H Q E →
      ∃ t,PSs (cxOf CX P w K mg base N qual scope f cdv A outer s H E) body t∧t { nx:=fun _ H'=>Q .non H',rt:=Q } (zcB N vs) H) :
    FnOk P w K mg base CX (k+1) f (PySem.W.fnOf name qual params body scope dV kV doc pm an cdv ct) ps sp:=by
  refine⟨len,fun A outer s H args us vs Q E hr e0 hb r hsp=>?_⟩
  have hl:=len _ _ _ _ hsp
  have KX:K.In s.heap:=e0.mod.kin.keeps fun b o e=>(e0.bs b o e).1
  have lim:s.heap.NoLimit:=e0.mod.nolimit.keeps fun b o e=>(e0.bs b o e).1
  have hkind:∀ y∈ps.zip us,scope.names.lookup y.1=some .local ∨ (scope.names.lookup y.1=some .cell∧((cellsFrom (s.heap.objs.size+1) scope.names []).lookup y.1).isSome=true):=fun ⟨n,v⟩ hy=>by
    rcases S.par n (List.of_mem_zip hy).1 with q|q
    · exact .inl q
    · exact .inr ⟨q,PySem.W.cellsFrom_some _ _ _ (.inl q)⟩
  refine codeAny_call_function hr.depth (KX _ _ lk) rfl S.co S.gen rfl (PySem.W.codeRec_of KX hcd) (hb _ _ _ _ ?_)
  refine wpAny_newFunctionEnv_cells S.kind hkind fun env he s1 x=>?_
  subst he
  refine⟨lim.keeps x.toInCall.keep,codeAny_func ?_⟩
  obtain⟨t,ht,hq⟩:=hbody A outer s H vs Q E (hr.deeper _) hsp
  have I:Inv (cxOf CX P w K mg base N qual scope f cdv A outer s H E) [] (zcB N vs) H s1:=zhA S hr.hd e0 hl r x
  refine JK (ht [] s1 (zcB N vs) H _ I hq) (fun fl s' hs=>?_) fun e s' hs=>hs
  have fin:∀ {σ':St}{H':Hp}{v:V}{u:Value},Inv (cxOf CX P w K mg base N qual scope f cdv A outer s H E) [] σ' H' s'→RelV v u→Q v H'→CE outer P w H s Q u s' :=
    fun {σ' H' v u} J rv q=>⟨v,H',J.os,J.bare,J.base,J.hok,rv,q⟩
  cases fl with
  | ret u =>
    obtain⟨v,σ',H',J,rv,q⟩:=hs
    exact fin J rv q
  | next =>
    obtain⟨σ',H',J,q⟩:=hs
    exact fin (v:=V.non) (u:=Value.none) J rfl q
  | brk =>
    obtain⟨_,_,_,q⟩:=hs
    exact False.elim q
  | cont =>
    obtain⟨_,_,_,q⟩:=hs
    exact False.elim q
section
variable {X:Cx}{x:Str}{p pos:Pos}{e:Expr}{es:List Expr}{t:TA}{id T:String}{r:List V→Hp→VK→Prop}
def tCB (r:List V→Hp→VK→Prop) (t:TA):TE:=fun σ H Q=>t σ H fun vs H1=>r vs H1 Q
theorem pe_callB (hc:CallR X (.builtin id) r) (hg:Gl X x) (hm:X.mg x=none) (hv:bootBuiltins x=some (.builtin id)) (ha:PA X (e::es) t) (hn:x≠"__name__":=by decide) (hdb:(x == ("__debug__":Str))=false:=by decide)
    (he:starEach (e::es) X.env=(false,eval e X.env)::starEach es X.env:=by rfl) (hpl:(backTo pos (starEach es X.env)).any (·.1)=false:=by rfl):PE X (.Call (.Name x p) (e::es) [] pos) (tCB r t):=by
  intro pins s σ H Q I h
  refine wpAny_Call_Name_kw (zbD I hg hm hv ?_ hn hdb)
  exact PyProof.Rows.callWith_builtin1 (thn (ha pos pins s σ H _ I h) fun us s1 ⟨vs,H1,I1,r1,q1⟩=>hc pins s1 σ H1 vs us Q I1 r1 q1) he hpl
theorem pe_callTy (hc:CallR X (.type T) r) (hg:Gl X x) (hm:X.mg x=none) (hv:bootBuiltins x=some (.type T)) (ha:PA X (e::es) t) (hn:x≠"__name__":=by decide) (hdb:(x == ("__debug__":Str))=false:=by decide)
    (he:starEach (e::es) X.env=(false,eval e X.env)::starEach es X.env:=by rfl) (hpl:(backTo pos (starEach es X.env)).any (·.1)=false:=by rfl):PE X (.Call (.Name x p) (e::es) [] pos) (tCB r t):=by
  intro pins s σ H Q I h
  refine wpAny_Call_Name_kw (zbD I hg hm hv ?_ hn hdb)
  exact PyProof.Rows.callWith_type1 (thn (ha pos pins s σ H _ I h) fun us s1 ⟨vs,H1,I1,r1,q1⟩=>hc pins s1 σ H1 vs us Q I1 r1 q1) he hpl
end
end L2
namespace HT
open PySem PyProof.Rows
section
open PySem.SeqAt
open PySem.AutoSeq1 (wpAny_loadPart')
open PySem.MeetsSeq PySem.MeetsSeq2 PySem.MeetsSeq3
end
section
variable {prog:Program}{w:World}{A:Around}{E:Value→Shared→Prop}{s:Shared}
theorem cat_tup {t b:Addr}{vs ws:List Value}{Q:Value→Shared→Prop}(ht:IsTup s.heap t vs.toArray) (hb:IsTup s.heap b ws.toArray) (hv:vs≠[])
    (h1:ws=[]→Q (.ref t) s) (h2:ws≠[]→Q (.ref s.heap.objs.size) { s with heap:=s.heap.push { cls:=.type "tuple",data:=.seq (vs++ws).toArray } })
    (hsz:vs.length+ws.length≤sizeLine):wpAny (model prog w) A (binaryOp .Add (.ref t) (.ref b)) Q E s:=by
  obtain⟨⟨cls,dd,data,sl⟩,ho,hc,n,hd⟩:=id ht
  obtain⟨⟨cls2,dd2,data2,sl2⟩,ho2,hc2,n2,hd2⟩:=id hb
  simp only at hc hd hc2 hd2
  subst hc hd hc2 hd2
  have e:vs.toArray++ws.toArray=(vs++ws).toArray:=by simp
  by_cases hw:ws=[]
  · exact concat_meets ⟨_,ho,rfl⟩ ⟨_,ho2,rfl⟩ noFill_tuple_add seq_tuple_add PySem.F.slot_tuple_add PySem.F.entry_tuple_add (PySem.F.args_tuple_add_2 _ _)
      (tuple_addW1 t b vs.toArray ws.toArray n n2 dd dd2 sl sl2 (by simpa using hv) (by simp[hw])) ⟨ho,ho2,h1 hw⟩
  · refine concat_meets ⟨_,ho,rfl⟩ ⟨_,ho2,rfl⟩ noFill_tuple_add seq_tuple_add PySem.F.slot_tuple_add PySem.F.entry_tuple_add (PySem.F.args_tuple_add_2 _ _)
      (tuple_addW2 t b vs.toArray ws.toArray n n2 dd dd2 sl sl2 (by simpa using hv) (by simpa using hw) (by rw[Jj,Jj];exact hsz)) ⟨ho,ho2,?_⟩
    rw[e]
    exact h2 hw
def sIx (n d:Nat):Option Int→Nat
  | none=>d
  | some v=>if v<0 then (v+(n:Int)).toNat else min v.toNat n
theorem sIx_none (n d:Nat):sIx n d none=d:=rfl
theorem sIx_nat (n d k:Nat):sIx n d (some (k:Int))=min k n:=by
  show (if (k:Int)<0 then ((k:Int)+(n:Int)).toNat else min (k:Int).toNat n)=min k n
  rw[Jc (by omega),Y7]
theorem zkT (n d:Nat) (hd:d≤n) (o:Option Int):sIx n d o≤n:=by
  cases o with
  | none=>exact hd
  | some v =>
    show (if v<0 then (v+(n:Int)).toNat else min v.toNat n)≤n
    by_cases hv:v<0
    · rw[Jf hv];omega
    · rw[Jc hv];exact Nat.min_le_right _ _
theorem zhW (v:Int) (n d:Nat):(if v<0 then max (v+(n:Int)) 0 else min v (n:Int))=((sIx n d (some v):Nat):Int):=by
  show (if v<0 then max (v+(n:Int)) 0 else min v (n:Int))=(((if v<0 then (v+(n:Int)).toNat else min v.toNat n):Nat):Int)
  by_cases hv:v<0
  · simp only[Jf hv];omega
  · simp only[Jc hv];omega
theorem zgi (lo hi:Option Int) (n:Nat):Builtin.Slice.sliceAdjust lo hi 1 (n:Int)=(((sIx n 0 lo:Nat):Int),((sIx n n hi:Nat):Int)):=by
  have h1:¬((1:Int)<0):=by omega
  unfold Builtin.Slice.sliceAdjust
  simp only[h1,if_false]
  refine Prod.ext ?_ ?_
  · cases lo with
    | none=>rfl
    | some v=>exact zhW v n 0
  · cases hi with
    | none=>rfl
    | some v=>exact zhW v n n
theorem zfY (i j:Nat):Builtin.Slice.slicePlaces (i:Int) (j:Int) 1=j-i:=by
  unfold Builtin.Slice.slicePlaces
  have h1:(1:Int) > 0:=by omega
  simp only[h1,if_true,Int.ediv_one]
  split<;>omega
theorem zcF {v:Value}{o:Option Int}{Q:Option Int→Shared→Prop}(p:IsPart v o) (h:Q o s):wpAny (model prog w) A (Builtin.Slice.slicePartIndex v) Q E s:=by
  cases p with
  | none=>exact slicePart_none h
  | int i t=>exact slicePart_int h
theorem sliceApplied_gen {sl:Addr}{vl vu:Value}{lo hi:Option Int}{n:Nat}{Q:Int × Int × Nat→Shared→Prop}(hs:s.heap.IsSliceOf sl vl vu .none) (pl:IsPart vl lo) (pu:IsPart vu hi)
    (h:Q (((sIx n 0 lo:Nat):Int),1,sIx n n hi-sIx n 0 lo) s):wpAny (model prog w) A (Builtin.Slice.sliceApplied (.ref sl) (pure (n:Int))) Q E s:=by
  obtain⟨os,hos,hcs,hds⟩:=id hs
  unfold Builtin.Slice.sliceApplied Builtin.Slice.sliceFields
  refine J0 (J0 (wpAny_field hos hds (x:=vl) rfl (J0 (wpAny_field hos hds (x:=vu) rfl (J0 (wpAny_field hos hds (x:=.none) rfl (J9 ?_)))))))
  refine J0 (slicePart_none ?_)
  show wpAny _ _ (if ((1:Int) == 0)=true then _ else _) _ _ s
  rw[Jc (by decide)]
  refine J0 (zcF pl (J0 (zcF pu (J0 (J9 ?_)))))
  show wpAny _ _ (match Builtin.Slice.sliceAdjust lo hi 1 (n:Int) with|(lo,hi)=>pure (lo,(1:Int),Builtin.Slice.slicePlaces lo hi 1)) _ _ s
  rw[zgi lo hi n]
  show wpAny _ _ (pure (((sIx n 0 lo:Nat):Int),(1:Int),Builtin.Slice.slicePlaces ((sIx n 0 lo:Nat):Int) ((sIx n n hi:Nat):Int) 1)) _ _ s
  rw[zfY]
  exact J9 h
theorem ziv (xs:Array Value) (i k:Nat):((List.range k).filterMap fun (m:Nat)=>xs[((i:Int)+(m:Int)*1).toNat]?).toArray=((xs.toList.drop i).take k).toArray:=by
  have e:(fun (m:Nat)=>xs[((i:Int)+(m:Int)*1).toNat]?)=fun m=>xs[i+m]?:=by
    funext m
    have:((i:Int)+(m:Int)*1).toNat=i+m:=by omega
    rw[this]
  rw[e]
  have:=pick_run xs i k
  rw[Z3]at this
  have e2:((fun x=>xs[x]?)∘fun x=>i+x)=fun m=>xs[i+m]?:=rfl
  rw[e2]at this
  rw[this]
theorem getItem_tuple_cut {t sl:Addr}{items:Array Value}{vl vu:Value}{lo hi:Option Int}{Q:Value→Shared→Prop}(ht:IsTup s.heap t items) (hs:s.heap.IsSliceOf sl vl vu .none) (pl:IsPart vl lo) (pu:IsPart vu hi)
    (hw:¬(sIx items.size 0 lo=0∧sIx items.size items.size hi=items.size))
    (h:Q (.ref s.heap.objs.size) { s with heap:=s.heap.push { cls:=.type "tuple",data:=.seq ((items.toList.drop (sIx items.size 0 lo)).take (sIx items.size items.size hi-sIx items.size 0 lo)).toArray } })
    (hsz:items.size≤sizeLine):wpAny (model prog w) A (getItem (.ref t) (.ref sl)) Q E s:=by
  have htake:sizeOk (.seq ((items.toList.drop (sIx items.size 0 lo)).take (sIx items.size items.size hi-sIx items.size 0 lo)).toArray):=by
    show ((items.toList.drop (sIx items.size 0 lo)).take (sIx items.size items.size hi-sIx items.size 0 lo)).toArray.size≤sizeLine
    rw[Jj,Jw,Yf,Jx]
    omega
  have hj:sIx items.size items.size hi≤items.size:=zkT _ _ (Jg _) hi
  obtain⟨os,hos,hcs,hds⟩:=id hs
  have hTs:s.TypeIs (.ref sl) "slice":=⟨os,hos,hcs⟩
  unfold getItem
  try with_reducible refine Ya ?_
  first|refine J0 (J9 ?_)|skip
  refine J0 (wpAny_sequenceKey ht.typeIs (by decide) ?_)
  refine J0 (wpAny_callSpecial?_slot (name:=Str.ofString "__getitem__") ht.typeIs PyProof.Rows.slot_tuple_getitem
    (wpAny_call_entry PyProof.Rows.slot_tuple_getitem ht.typeIs entry_tuple_getitem ?_ (args_tuple_getitem _ _)))
  show wpAny _ _ (Builtin.Tuple.tupleItemsOf (.ref t) >>= _) _ _ s
  refine J0 (tupleItemsOf_ ht ?_)
  refine J0 (wpAny_typeOf hTs ?_)
  rw[Jf (by decide)]
  refine J0 (sliceApplied_gen hs pl pu ?_)
  have hno:¬((((sIx items.size 0 lo:Nat):Int) == 0 && (1:Int) == 1 && (sIx items.size items.size hi-sIx items.size 0 lo) == items.size)=true):=by
    intro q
    rw[Ze,Ze]at q
    have q1:((sIx items.size 0 lo:Nat):Int)=0:=eq_of_beq q.1.1
    have q2:sIx items.size items.size hi-sIx items.size 0 lo=items.size:=eq_of_beq q.2
    exact hw ⟨by omega,by omega⟩
  show wpAny _ _ (if (((sIx items.size 0 lo:Nat):Int) == 0 && (1:Int) == 1 && (sIx items.size items.size hi-sIx items.size 0 lo) == items.size)=true then _ else _) _ _ s
  rw[Jc hno,ziv]
  first
    | exact J0 (m:=Builtin.Tuple.tupleExact _) (JG (J9 ⟨_,rfl,J9 h⟩) htake)
    | exact J0 (m:=Builtin.Tuple.tupleExact _) (JG (J0 (J9 (J9 ⟨_,rfl,J9 h⟩))) htake)
    | exact J0 (J0 (m:=Builtin.Tuple.tupleExact _) (JG (J9 (J9 ⟨_,rfl,J9 h⟩)) htake))
    | exact J0 (J0 (m:=Builtin.Tuple.tupleExact _) (JG (J9 ⟨_,rfl,J9 h⟩) htake))
end
end HT
namespace L2
open PySem PySem.Spec PyProof.Rows
abbrev TO:=St→Hp→(Option Int→Hp→Prop)→Prop
def PO (X:Cx) (e:Option Expr) (t:TO):Prop :=
  ∀ (pins:List (Addr × Obj)) (s:Shared) (σ:St) (H:Hp) (Q:Option Int→Hp→Prop),Inv X pins σ H s→t σ H Q →
    wpAny (model X.prog X.w) X.A (evalPart e X.env) (fun u s'=>∃ o H',Inv X pins σ H' s'∧IsPart u o∧Q o H') X.xe s
def zjL:TO:=fun _ H Q=>Q none H
def zlx (t:TE):TO:=fun σ H Q=>t σ H fun x H1=>∃ i,x=.int i∧Q (some i) H1
section
variable {X:Cx}{e:Expr}{te:TE}{lo hi:Option Expr}{tl th:TO}{pos p2:Pos}
theorem po_none:PO X none zjL:=by
  intro pins s σ H Q I h
  rw[evalPart_none]
  exact J9 ⟨none,H,I,.none,h⟩
theorem po_some (h:PE X e te):PO X (some e) (zlx te):=by
  intro pins s σ H Q I hw
  rw[evalPart_some]
  refine thn (h pins s σ H _ I hw) fun u s1 ⟨x,H1,I1,r1,q1⟩=>?_
  obtain⟨i,rfl,q⟩:=q1
  obtain⟨t,rfl⟩:=r1
  exact⟨some i,H1,I1,.int i t,q⟩
def SlR (X:Cx) (r:V→Option Int→Option Int→Hp→VK→Prop):Prop :=
  ∀ (pins:List (Addr × Obj)) (s:Shared) (σ:St) (H:Hp) (x:V) (v vl vu:Value) (lo hi:Option Int) (sl:Addr) (Q:VK),Inv X pins σ H s→RelV x v→s.heap.IsSliceOf sl vl vu .none→IsPart vl lo→IsPart vu hi→r x lo hi H Q →
    ∃ T id,typeLookup (.type T) "__getitem__" = pure (some (.builtin id))∧s.TypeIs v T∧wpAny (model X.prog X.w) X.A (getItem v (.ref sl)) (EP X pins σ Q) X.xe s
def tSl (r:V→Option Int→Option Int→Hp→VK→Prop) (te:TE) (tl th:TO):TE:=fun σ H Q=>te σ H fun x H1=>tl σ H1 fun l H2=>th σ H2 fun u H3=>r x l u H3 Q
theorem pe_slice {r:V→Option Int→Option Int→Hp→VK→Prop}(hr:SlR X r) (he:PE X e te) (hl:PO X lo tl) (hu:PO X hi th):PE X (.Subscript e (.Slice lo hi none p2) pos) (tSl r te tl th):=by
  intro pins s σ H Q I h
  refine Subscript_ (thn (he pins s σ H _ I h) fun v s1 ⟨x,H1,I1,r1,q1⟩=>?_)
  refine wpAny_Slice (thn (hl pins s1 σ H1 _ I1 q1) fun vl s2 ⟨l,H2,I2,pl,q2⟩=>thn (hu pins s2 σ H2 _ I2 q2) fun vu s3 ⟨u,H3,I3,pu,q3⟩=>?_)
  rw[evalPart_none]
  refine J9 ?_
  have I4:Inv X pins σ H3 { s3 with heap:=s3.heap.push { cls:=.type "slice",data:=.fields #[vl,vu,.none] } }:=I3.kept (t':=s3.toks) fun b ob q=>J8 _ q
  obtain⟨T,id,hT,ht,hg⟩:=hr pins { s3 with heap:=s3.heap.push { cls:=.type "slice",data:=.fields #[vl,vu,.none] } } σ H3 x v vl vu l u s3.heap.objs.size Q I4 r1 (Heap.IsSliceOf.new ..) pl pu q3
  show wpAny (model X.prog X.w) X.A (subscriptTail e (.Slice lo hi none p2) v (.ref s3.heap.objs.size)) (EP X pins σ Q) X.xe { s3 with heap:=s3.heap.push { cls:=.type "slice",data:=.fields #[vl,vu,.none] } }
  exact tail_any (ops:=[.ref s3.heap.objs.size,v]) ht hT hg (by with_unfolding_all rfl)
def cutV (xs:List V) (lo hi:Option Int):List V:=(xs.drop (HT.sIx xs.length 0 lo)).take (HT.sIx xs.length xs.length hi-HT.sIx xs.length 0 lo)
theorem zcw (xs:List V) (lo hi:Option Int):(cutV xs lo hi).length≤xs.length:=by
  unfold cutV
  rw[Jw,Yf]
  omega
def rSlT (K:PySem.W.Frag):V→Option Int→Option Int→Hp→VK→Prop:=fun x lo hi H Q=>∃ a xs,x=.ref a∧SqT K H a xs ∧
  ¬(HT.sIx xs.length 0 lo=0∧HT.sIx xs.length xs.length hi=xs.length)∧∀ p,H p=none→Q (.ref p) (upd H p (.tup (cutV xs lo hi)))
theorem zkR:SlR X (rSlT X.K):=by
  intro pins s σ H x v vl vu lo hi sl Q I rx hs pl pu h
  obtain⟨a,xs,rfl,hx,hw,q⟩:=h
  cases rx
  obtain⟨its,r,ht,hz⟩:=I.tuple hx
  have hlen:its.toArray.size=xs.length:=by rw[Jj];exact r.length.symm
  refine⟨"tuple",_,PyProof.Rows.slot_tuple_getitem.lookup,ht.typeIs,?_⟩
  refine HT.getItem_tuple_cut ht hs pl pu (by rw[hlen];exact hw) ?_ (by rw[hlen];exact hz)
  rw[hlen]
  refine⟨.ref s.heap.objs.size,_,I.laid (t':=s.toks) (o:=.tup (cutV xs lo hi)) (fun b ob q=>J8 _ q) (Jg _) ?_,rfl,q _ (I.hok.fresh (Jg _))⟩
  exact⟨JY (zcw xs lo hi) hz,_,(r.drop (HT.sIx xs.length 0 lo)).take (HT.sIx xs.length xs.length hi-HT.sIx xs.length 0 lo),TupX.new _ _⟩
def zlJ (K:PySem.W.Frag):R2:=fun x y H Q=>∃ a b xs ys,x=.ref a∧y=.ref b∧SqT K H a xs∧SqT K H b ys∧xs≠[]∧xs.length+ys.length≤sizeLine ∧
  (ys=[]→Q (.ref a) H)∧(ys≠[]→∀ p,H p=none→Q (.ref p) (upd H p (.tup (xs++ys))))
theorem Vals.nil_iff {xs:List V}{us:List Value}(r:Vals xs us):us=[]↔xs=[]:=by
  cases r with
  | nil=>simp
  | cons _ _=>simp
theorem zka:OpR X (binaryOp .Add) (zlJ X.K):=by
  intro pins s σ H x y v u Q I rx ry h
  obtain⟨a,b,xs,ys,rfl,rfl,ha,hb,hx,hz,q1,q2⟩:=h
  cases rx
  cases ry
  obtain⟨its,r1,p1,_⟩:=I.tuple ha
  obtain⟨its2,r2,p2,_⟩:=I.tuple hb
  refine HT.cat_tup p1 p2 (fun z=>hx (r1.nil_iff.mp z)) (fun z=>⟨.ref a,H,I,rfl,q1 (r2.nil_iff.mp z)⟩) (fun z=>?_) (by rw[← r1.length,← r2.length];exact hz)
  refine⟨.ref s.heap.objs.size,_,I.laid (t':=s.toks) (o:=.tup (xs++ys)) (fun b ob q=>J8 _ q) (Jg _) ?_,rfl,q2 (fun w=>z (r2.nil_iff.mpr w)) _ (I.hok.fresh (Jg _))⟩
  exact⟨by rw[Ja];exact hz,_,r1.append r2,TupX.new _ _⟩
end
def ixN (n:Nat) (i:Int):Option Nat:=if 0≤i then (if i<n then some i.toNat else none) else if -(n:Int)≤i then some (i+n).toNat else none
def atI {α:Type}(xs:List α) (i:Int):Option α:=(ixN xs.length i).bind fun j=>xs[j]?
theorem zeF {n:Nat}{i:Int}{j:Nat}(h:ixN n i=some j):seqIndex? i n=some j∧j<n∧-(n:Int)≤i∧i<n:=by
  unfold ixN at h
  by_cases h0:0≤i
  · rw[Jf h0]at h
    by_cases h1:i<n
    · rw[Jf h1]at h
      have e:i.toNat=j:=Option.some.inj h
      exact⟨by rw[seqIndex_of h0 h1,e],by omega,by omega,h1⟩
    · rw[Jc h1]at h;cases h
  · rw[Jc h0]at h
    by_cases h1:-(n:Int)≤i
    · rw[Jf h1]at h
      have e:(i+n).toNat=j:=Option.some.inj h
      exact⟨by rw[seqIndex_neg (by omega) h1,e],by omega,h1,by omega⟩
    · rw[Jc h1]at h;cases h
theorem zh7 {α:Type}{xs:List α}{i:Int}{v:α}(h:atI xs i=some v):∃ j,seqIndex? i xs.length=some j∧xs[j]?=some v∧j<xs.length∧-(xs.length:Int)≤i∧i<xs.length:=by
  unfold atI at h
  cases e:ixN xs.length i with
  | none=>rw[e]at h;cases h
  | some j =>
    rw[e]at h
    obtain⟨h1,h2,h3,h4⟩:=zeF e
    exact⟨j,h1,h,h2,h3,h4⟩
theorem zap {α:Type}{xs:List α}{j:Nat}{v:α}(h:xs[j]?=some v):atI xs (j:Int)=some v:=by
  have hj:j<xs.length:=(Je.mp h).1
  have e:ixN xs.length (j:Int)=some j:=by
    unfold ixN
    rw[Jf (by omega),Jf (by omega)];simp
  unfold atI;rw[e];exact h
def PlainIx (b:Expr):Prop:=∀ o i,subscripted b false o i=operate [o,i] (getItem o i)
def IxR (X:Cx) (r:R2):Prop :=
  ∀ (value slice:Expr) (pins:List (Addr × Obj)) (s:Shared) (σ:St) (H:Hp) (x y:V) (v u:Value) (Q:VK),Inv X pins σ H s→RelV x v→RelV y u→r x y H Q →
    subscripted slice false v u=operate [v,u] (getItem v u)→wpAny (model X.prog X.w) X.A (subscriptTail value slice v u) (EP X pins σ Q) X.xe s
def MtR (X:Cx) (id:String) (r:V→List V→Hp→VK→Prop):Prop :=
  ∀ (pins:List (Addr × Obj)) (s:Shared) (σ:St) (H:Hp) (x:V) (xs:List V) (v:Value) (us:List Value) (Q:VK),Inv X pins σ H s→RelV x v→Vals xs us→r x xs H Q →
    wpAny (model X.prog X.w) X.A (call (.builtin id) (v::us)) (EP X pins σ Q) X.xe s
section
variable {X:Cx}{a b:Expr}{ta tb:TE}{pos:Pos}
theorem pe_ix {r:R2}(hr:IxR X r) (ha:PE X a ta) (hb:PE X b tb) (hs:PlainIx b):PE X (.Subscript a b pos) (tOp r ta tb):=by
  intro pins s σ H Q I h
  exact Subscript_ (binT ha hb I h fun v u s2 x y H2 I2 rx ry q=>hr a b pins s2 σ H2 x y v u Q I2 rx ry q (hs _ _))
def rIxL (K:PySem.W.Frag):R2:=fun x y H Q=>∃ p xs i v,x=.ref p∧y=.int i∧SqL K H p xs∧atI xs i=some v∧Q v H
def rIxT (K:PySem.W.Frag):R2:=fun x y H Q=>∃ p xs i v,x=.ref p∧y=.int i∧SqT K H p xs∧atI xs i=some v∧Q v H
theorem ix_list:IxR X (rIxL X.K):=by
  intro value slice pins s σ H x y v u Q I rx ry h hs
  obtain⟨p,xs,i,z,rfl,rfl,hq,he,q⟩:=h
  cases rx
  obtain⟨t,rfl⟩:=ry
  obtain⟨its,r,pl,hz⟩:=I.list hq
  obtain⟨j,h1,h2,h3,h4,h5⟩:=zh7 he
  obtain⟨w,ew,rw'⟩:=r.get h2
  have hl:=r.length
  have hn:=zdP
  have fin:EP X pins σ Q w s:=⟨z,H,I,rw',q⟩
  by_cases h0:0≤i
  · have hj:i.toNat=j:=by
      rw[seqIndex_of h0 h5]at h1
      exact Option.some.inj h1
    exact item_listR pl.isList h0 (by omega) (by rw[hj];simpa using ew) fin hs
  · have hj:(i+(its.toArray.size:Int)).toNat=j:=by
      rw[seqIndex_neg (by omega) h4]at h1
      rw[Jj,← hl]
      exact Option.some.inj h1
    exact subscriptTail_builtinR (x:=w) pl.isList.typeIs slot_list_getitem.lookup
      (wpAny_getItem_list_neg (Q:=fun r s'=>r=w∧EP X pins σ Q r s') pl.isList (by omega) (by rw[Jj]<;>omega) (by omega) (by rw[hj];simpa using ew) ⟨rfl,fin⟩) hs
theorem ix_tup:IxR X (rIxT X.K):=by
  intro value slice pins s σ H x y v u Q I rx ry h hs
  obtain⟨p,xs,i,z,rfl,rfl,hq,he,q⟩:=h
  cases rx
  obtain⟨t,rfl⟩:=ry
  obtain⟨its,r,pl,hz⟩:=I.tuple hq
  obtain⟨j,h1,h2,h3,h4,h5⟩:=zh7 he
  obtain⟨w,ew,rw'⟩:=r.get h2
  have hl:=r.length
  have hn:=zdP
  have fin:EP X pins σ Q w s:=⟨z,H,I,rw',q⟩
  exact subscriptTail_builtinR (x:=w) pl.typeIs slot_tuple_getitem.lookup
    (getItem_tuple (j:=j) (Q:=fun r s'=>r=w∧EP X pins σ Q r s') pl (by omega) (by omega) (by rw[Jj,← hl];exact h1) (by simpa using ew) ⟨rfl,fin⟩) hs
theorem zf7 (its:List Value) (n j:Nat) (u:Value):Obj.mapSeq (·.setIfInBounds j u) { cls:=.type "list",data:=.seq its.toArray n }={ cls:=.type "list",data:=.seq (its.set j u).toArray n }:=by
  simp[Obj.mapSeq]
theorem Inv.lst {pins:List (Addr × Obj)}{σ:St}{H:Hp}{s:Shared}{p:Addr}{xs:List V}(I:Inv X pins σ H s) (h:H p=some (.lst xs)) :
    ∃ (its:List Value) (n:Nat),Vals xs its∧s.heap.get? p=some { cls:=.type "list",data:=.seq its.toArray n }∧xs.length≤sizeLine:=by
  obtain⟨z,its,n,r,e⟩:=I.hok p _ h
  exact⟨its,n,r,e,z⟩
theorem Inv.lstUpd {pins:List (Addr × Obj)}{σ:St}{H:Hp}{s:Shared}{p:Addr}{xs ys:List V}{its its':List Value}{n n':Nat}{f:Obj→Obj}(I:Inv X pins σ H s) (h:H p=some (.lst xs))
    (ho:s.heap.get? p=some { cls:=.type "list",data:=.seq its.toArray n }) (hf:f { cls:=.type "list",data:=.seq its.toArray n }={ cls:=.type "list",data:=.seq its'.toArray n' }) (r:Vals ys its') (hz:ys.length≤sizeLine) (t:Nat) :
    Inv X pins σ (upd H p (.lst ys)) { s with heap:=s.heap.update p f,toks:=t }:=by
  have e:(s.heap.update p f).get? p=some { cls:=.type "list",data:=.seq its'.toArray n' }:=by
    rw[Heap.get?_update_self f ho (by rw[hf]<;>rfl),hf]
  refine I.write (x:=p) (e:=p) (by rw[h];trivial) (.inl rfl) (fun b u hb q=>(Yc _ _ (Ne.symm hb)).trans q) ⟨_,e⟩ ?_
  exact⟨hz,its',n',r,e⟩
def zlI:V→V→V→Hp→(Hp→Prop)→Prop:=fun o i v H Q=>∃ p xs k j,o=.ref p∧i=.int k∧H p=some (.lst xs)∧ixN xs.length k=some j∧Q (upd H p (.lst (xs.set j v)))
theorem set_list:PSet X zlI:=by
  intro pins s σ H o i v ov iv u Q I ro ri rv h
  obtain⟨p,xs,k,j,rfl,rfl,hp,hj,q⟩:=h
  cases ro
  obtain⟨t,rfl⟩:=ri
  obtain⟨its,n,r,ho,hz⟩:=I.lst hp
  obtain⟨h1,h2,h3,h4⟩:=zeF hj
  have hl:=r.length
  have hn:=zdP
  have I':Inv X pins σ (upd H p (.lst (xs.set j v))) { s with heap:=s.heap.update p (Obj.mapSeq (·.setIfInBounds j u)) } :=
    I.lstUpd hp ho (zf7 its n j u) (r.set rv j) (by rw[YZ];exact hz) s.toks
  by_cases h0:0≤k
  · have hk:k.toNat=j:=by
      rw[seqIndex_of h0 h4]at h1
      exact Option.some.inj h1
    exact PySem.W.ki_setAt ho h0 (by omega) (by rw[Jj,← hl];exact h4) (by rw[hk];exact⟨_,I',q⟩)
  · have hk:(k+(its.toArray.size:Int)).toNat=j:=by
      rw[seqIndex_neg (by omega) h3]at h1
      rw[Jj,← hl]
      exact Option.some.inj h1
    exact PySem.W.ki_setBack ho (by omega) (by rw[Jj,← hl];exact h3) (by omega) (by rw[hk];exact⟨_,I',q⟩)
theorem zdA (lo hi:Option Int) (n:Nat):(sliceBounds lo hi none n).1=((HT.sIx n 0 lo:Nat):Int)∧(sliceBounds lo hi none n).2.1=((HT.sIx n n hi:Nat):Int)∧(sliceBounds lo hi none n).2.2=1:=by
  refine⟨?_,?_,rfl⟩
  · cases lo with
    | none=>simp[sliceBounds,HT.sIx]
    | some i =>
      simp only[sliceBounds,HT.sIx,Option.getD_none,show (1:Int) > 0 by decide,if_true]
      by_cases h:i<0
      · simp only[h,if_true]<;>omega
      · simp only[h,if_false]<;>omega
  · cases hi with
    | none=>simp[sliceBounds,HT.sIx]
    | some i =>
      simp only[sliceBounds,HT.sIx,Option.getD_none,show (1:Int) > 0 by decide,if_true]
      by_cases h:i<0
      · simp only[h,if_true]<;>omega
      · simp only[h,if_false]<;>omega
theorem zc5 (its:List Value) (lo hi:Option Int):slicePick its.toArray lo hi none=((its.drop (HT.sIx its.length 0 lo)).take (HT.sIx its.length its.length hi-HT.sIx its.length 0 lo)).toArray:=by
  obtain⟨h1,h2,h3⟩:=zdA lo hi its.toArray.size
  unfold slicePick
  rw[h1,h2,h3]
  simp only[sliceRange_one,pick_run,Jj]<;>rfl
def rSlL (K:PySem.W.Frag):V→Option Int→Option Int→Hp→VK→Prop:=fun x lo hi H Q=>∃ a xs,x=.ref a∧SqL K H a xs∧∀ p,H p=none→Q (.ref p) (upd H p (.lst (cutV xs lo hi)))
theorem sl_list:SlR X (rSlL X.K):=by
  intro pins s σ H x v vl vu lo hi sl Q I rx hs pl pu h
  obtain⟨a,xs,rfl,hx,q⟩:=h
  cases rx
  obtain⟨its,r,ht,hz⟩:=I.list hx
  have hlen:=r.length
  refine⟨"list",_,slot_list_getitem.lookup,ht.isList.typeIs,?_⟩
  refine wpAny_getItem_list_slice ht.isList hs pl pu .none (by simp) ?_ (by rw[Jj]<;>omega)
  rw[zc5,← hlen]
  refine⟨.ref s.heap.objs.size,_,I.laid (t':=s.toks) (o:=.lst (cutV xs lo hi)) (fun b ob q=>J8 _ q) (Jg _) ?_,rfl,q _ (I.hok.fresh (Jg _))⟩
  exact⟨JY (zcw xs lo hi) hz,_,0,(r.drop (HT.sIx xs.length 0 lo)).take (HT.sIx xs.length xs.length hi-HT.sIx xs.length 0 lo),Jp _ rfl⟩
def zdX:V→Bool
  | .non=>true
  | .bl _=>true
  | .int _=>true
  | .str _=>true
  | _=>false
def eqV:V→V→Bool
  | .non,.non=>true
  | .bl a,.bl b=>a == b
  | .bl a,.int b=>(if a then 1 else 0) == b
  | .int a,.bl b=>a == (if b then 1 else 0)
  | .int a,.int b=>a == b
  | .str a,.str b=>a == b
  | _,_=>false
theorem zjB {A:Around}{s:Shared}{y x:V}{u v:Value}(ry:RelV y u) (rx:RelV x v) (fy:zdX y=true) (fx:zdX x=true):SeqAt.EqAt A s u v (eqV y x):=by
  cases y with
  | non =>
    cases ry
    cases x with
    | non=>cases rx;exact SeqAt.EqAt.same _
    | bl b=>cases rx;exact SeqAt.EqAt.none_bool b
    | int b=>obtain⟨t,rfl⟩:=rx;exact SeqAt.EqAt.none_int b t
    | str b=>obtain⟨t,rfl⟩:=rx;exact SeqAt.EqAt.none_str b t
    | _=>exact absurd (show false=true from fx) Jh
  | bl a =>
    cases ry
    cases x with
    | non=>cases rx;exact SeqAt.EqAt.bool_none a
    | bl b=>cases rx;exact SeqAt.EqAt.bool_bool a b
    | int b=>obtain⟨t,rfl⟩:=rx;exact SeqAt.EqAt.bool_int a b t
    | str b=>obtain⟨t,rfl⟩:=rx;exact SeqAt.EqAt.bool_str a b t
    | _=>exact absurd (show false=true from fx) Jh
  | int a =>
    obtain⟨t',rfl⟩:=ry
    cases x with
    | non=>cases rx;exact SeqAt.EqAt.int_none a t'
    | bl b=>cases rx;exact SeqAt.EqAt.int_bool a t' b
    | int b=>obtain⟨t,rfl⟩:=rx;exact SeqAt.EqAt.int_int a t' b t
    | str b=>obtain⟨t,rfl⟩:=rx;exact SeqAt.EqAt.int_str a t' b t
    | _=>exact absurd (show false=true from fx) Jh
  | str a =>
    obtain⟨t',rfl⟩:=ry
    cases x with
    | non=>cases rx;exact SeqAt.EqAt.str_none a t'
    | bl b=>cases rx;exact SeqAt.EqAt.str_bool a t' b
    | int b=>obtain⟨t,rfl⟩:=rx;exact SeqAt.EqAt.str_int a t' b t
    | str b=>obtain⟨t,rfl⟩:=rx;exact SeqAt.EqAt.str_str a t' b t
    | _=>exact absurd (show false=true from fx) Jh
  | _=>exact absurd (show false=true from fy) Jh
def eqU (x:V) (u:Value):Bool:=match u with
  | .none=>eqV .non x
  | .bool b=>eqV (.bl b) x
  | .int i _=>eqV (.int i) x
  | .str z _=>eqV (.str z) x
  | _=>false
theorem zjA {x y:V}{u:Value}(r:RelV y u) (f:zdX y=true):eqU x u=eqV y x:=by
  cases y with
  | non=>cases r;rfl
  | bl b=>cases r;rfl
  | int i=>obtain⟨t,rfl⟩:=r;rfl
  | str z=>obtain⟨t,rfl⟩:=r;rfl
  | _=>exact absurd (show false=true from f) Jh
theorem zeU {x:V}:∀ {xs:List V}{us:List Value},Vals xs us→xs.all zdX=true→us.any (eqU x)=xs.any fun y=>eqV y x
  | _,_,.nil,_=>rfl
  | y::xs,u::us,.cons r t,f=>by
    rw[List.all_cons,Ze]at f
    rw[List.any_cons,List.any_cons,zjA r f.1,zeU t f.2]
theorem zde {A:Around}{s:Shared}{x:V}{v:Value}(rx:RelV x v) (fx:zdX x=true):∀ {xs:List V}{us:List Value},Vals xs us→xs.all zdX=true→∀ u∈us,SeqAt.EqAt A s u v (eqU x u)
  | _,_,.nil,_=>fun u hu=>by cases hu
  | y::xs,u::us,.cons r t,f=>fun u' hu=>by
    rw[List.all_cons,Ze]at f
    rcases List.mem_cons.mp hu with rfl|hu
    · rw[zjA r f.1];exact zjB r rx f.1 fx
    · exact zde rx fx t f.2 u' hu
def inV (x:V) (xs:List V):Bool:=xs.any fun y=>eqV y x
def rIn (K:PySem.W.Frag) (neg:Bool):R2:=fun x y H Q=>∃ p xs,y=.ref p∧(SqL K H p xs∨SqT K H p xs)∧zdX x=true∧xs.all zdX=true∧Q (.bl (if neg then !inV x xs else inV x xs)) H
theorem zgW:OpR X (compareOp .In) (rIn X.K false):=by
  intro pins s σ H x y v u Q I rx ry h
  obtain⟨p,xs,rfl,hq,fx,fs,q⟩:=h
  cases ry
  rcases hq with hq|hq
  · obtain⟨its,r,pl,hz⟩:=I.list hq
    refine SeqAt.in_listAt (eqU x) pl.isList (fun w hw=>zde rx fx r fs w (by simpa using hw)) ⟨.bl _,H,I,rfl,?_⟩
    rw[show its.toArray.any (eqU x)=its.any (eqU x) by simp,zeU r fs]
    exact q
  · obtain⟨its,r,pl,hz⟩:=I.tuple hq
    refine SeqAt.in_tupleAt (eqU x) pl (fun w hw=>zde rx fx r fs w (by simpa using hw)) ⟨.bl _,H,I,rfl,?_⟩
    rw[show its.toArray.any (eqU x)=its.any (eqU x) by simp,zeU r fs]
    exact q
theorem zah:CallR X (.builtin "len") (fun xs H Q=>∃ p ys,xs=[.ref p]∧(SqL X.K H p ys∨SqT X.K H p ys)∧Q (.int ys.length) H):=by
  intro pins s σ H xs us Q I r h
  obtain⟨p,ys,rfl,hq,q⟩:=h
  obtain⟨u,rfl,rx⟩:=zfI r
  cases rx
  have hn:=zdP
  rcases hq with hq|hq
  · obtain⟨its,r',pl,hz⟩:=I.list hq
    have hlen:=r'.length
    exact Calls.call_len_list pl.isList (by simp only[Jj]<;>omega) ⟨.int ys.length,H,I.tok _,⟨s.toks+1,by rw[Jj,hlen]⟩,q⟩
  · obtain⟨its,r',pl,hz⟩:=I.tuple hq
    have hlen:=r'.length
    exact len_tuple pl (by simp only[Jj]<;>omega) ⟨.int ys.length,H,I.tok _,⟨s.toks+1,by rw[Jj,hlen]⟩,q⟩
theorem call_list_of:CallR X (.type "list") (fun xs H Q=>∃ p ys,xs=[.ref p]∧(SqL X.K H p ys∨SqT X.K H p ys)∧∀ l,H l=none→Q (.ref l) (upd H l (.lst ys))):=by
  intro pins s σ H xs us Q I r h
  obtain⟨p,ys,rfl,hq,q⟩:=h
  obtain⟨u,rfl,rx⟩:=zfI r
  cases rx
  have fin:∀ (its:List Value),Vals ys its→ys.length≤sizeLine→∀ (h':Heap) (c':Nat),(∀ b o',s.heap.get? b=some o'→h'.get? b=some o') →
      h'.get? s.heap.objs.size=some { cls:=.type "list",dict:=none,data:=.seq its.toArray c',slots:=#[] }→EP X pins σ Q (.ref s.heap.objs.size) { s with heap:=h' }:=fun its r' hz h' c' kp e =>
    ⟨.ref s.heap.objs.size,_,I.laid (t':=s.toks) kp (Jg _) (show ObjOk X.prog X.w _ h' _ (.lst ys) from⟨hz,its,c',r',e⟩),rfl,q _ (I.hok.fresh (Jg _))⟩
  rcases hq with hq|hq
  · obtain⟨its,r',pl,hz⟩:=I.list hq
    have hlen:=r'.length
    obtain⟨o,ho,hc,n,hd⟩:=pl.isList
    exact call_list_seq p (.inl rfl) ho hc hd (fun h' c' kp e=>fin its r' hz h' c' kp e) (by simp only[Jj]<;>omega)
  · obtain⟨its,r',pl,hz⟩:=I.tuple hq
    have hlen:=r'.length
    obtain⟨o,ho,hc,n,hd⟩:=pl
    exact call_list_seq p (.inr rfl) ho hc hd (fun h' c' kp e=>fin its r' hz h' c' kp e) (by simp only[Jj]<;>omega)
theorem call_tuple_of:CallR X (.type "tuple") (fun xs H Q=>∃ p ys,xs=[.ref p]∧((SqL X.K H p ys∧∀ l,H l=none→Q (.ref l) (upd H l (.tup ys)))∨(SqT X.K H p ys∧Q (.ref p) H))):=by
  intro pins s σ H xs us Q I r h
  obtain⟨p,ys,rfl,h⟩:=h
  obtain⟨u,rfl,rx⟩:=zfI r
  cases rx
  rcases h with ⟨hq,q⟩|⟨hq,q⟩
  · obtain⟨its,r',pl,hz⟩:=I.list hq
    have hlen:=r'.length
    refine call_tuple_list pl.isList (fun h' kp=>?_) (by simp only[Jj]<;>omega)
    have I1:Inv X pins σ H { s with heap:=h' }:=I.kept (t':=s.toks) kp
    have I2:Inv X pins σ (upd H h'.objs.size (.tup ys)) { s with heap:=h'.push { cls:=.type "tuple",data:=.seq its.toArray } } :=
      I1.laid (t':=s.toks) (fun b o e=>J8 _ e) (Jg _) (show ObjOk X.prog X.w _ _ _ (.tup ys) from⟨hz,its,r',TupX.new _ _⟩)
    exact⟨.ref h'.objs.size,_,I2,rfl,q _ (I1.hok.fresh (Jg _))⟩
  · obtain⟨its,r',pl,hz⟩:=I.tuple hq
    exact call_tuple_same pl ⟨.ref p,H,I,rfl,q⟩
def tyV (K:PySem.W.Frag) (T:String) (x:V) (H:Hp):Prop:=match x with
  | .str _=>T = "str"
  | .int _=>T = "int"
  | .ref p=>(T = "list"∧∃ xs,SqL K H p xs)∨(T = "tuple"∧∃ o,K.lookup p=some o∧o.cls=.type "tuple"∧o.dict=none) ∨
      (T = "dict"∧((∃ kvs,H p=some (.dK kvs))∨∃ kvs,H p=some (.dT kvs)))∨(T = "set"∧∃ S n,H p=some (.set S n))
  | _=>False
theorem zkL {pins:List (Addr × Obj)}{σ:St}{H:Hp}{s:Shared}{T:String}{x:V}{v:Value}(I:Inv X pins σ H s) (r:RelV x v) (ty:tyV X.K T x H) :
    s.TypeIs v T∧∀ a,v=.ref a→∃ ob,s.heap.get? a=some ob∧ob.dict=none:=by
  cases x with
  | str z =>
    obtain⟨t,rfl⟩:=r
    cases (show T = "str" from ty)
    exact⟨typeIs_str s z t,fun _ e=>nomatch e⟩
  | int i =>
    obtain⟨t,rfl⟩:=r
    cases (show T = "int" from ty)
    exact⟨typeIs_int s i t,fun _ e=>nomatch e⟩
  | ref p =>
    cases r
    rcases ty with ⟨rfl,xs,hq⟩|⟨rfl,o,hk,hc,hd⟩|⟨rfl,hk⟩|⟨rfl,S,n,hk⟩
    · obtain⟨its,_,pl,_⟩:=I.list hq
      refine⟨pl.isList.typeIs,fun a e=>?_⟩
      cases e
      obtain⟨o,n,e,c,hd,_⟩:=pl
      exact⟨o,e,hd⟩
    · refine⟨⟨o,I.kIn p o hk,hc⟩,fun a e=>?_⟩
      cases e
      exact⟨o,I.kIn _ o hk,hd⟩
    · have z:∃ o,s.heap.get? p=some o∧o.ExactDict:=by
        rcases hk with ⟨kvs,hk⟩|⟨kvs,hk⟩
        · obtain⟨_,_,_,_,o,_,_,e,ex,_⟩:=I.hok p _ hk
          exact⟨o,e,ex⟩
        · obtain⟨_,_,_,_,o,_,_,e,ex,_⟩:=I.hok p _ hk
          exact⟨o,e,ex⟩
      obtain⟨o,e,ex⟩:=z
      refine⟨⟨o,e,ex.1⟩,fun a e2=>?_⟩
      cases e2
      exact⟨o,e,ex.2.1⟩
    · obtain⟨o,_,_,_,e,ex,_⟩:=I.hok p _ hk
      refine⟨⟨o,e,ex.1⟩,fun a e2=>?_⟩
      cases e2
      exact⟨o,e,ex.2.1⟩
  | _=>exact False.elim ty
def tBM (K:PySem.W.Frag) (T:String) (r:V→List V→Hp→VK→Prop) (to:TE) (t:TA):TE:=fun σ H Q=>to σ H fun x H1=>tyV K T x H1∧t σ H1 fun xs H2=>r x xs H2 Q
variable {o e:Expr}{es:List Expr}{to:TE}{t:TA}{name:Str}{apos cpos:Pos}{T id:String}{r:V→List V→Hp→VK→Prop}
theorem zdb (pa:PlainAttrs T) (slot:Slot T name id) (hty:typeOf (.builtin id)=pure (.type "method_descriptor")) (hm:MtR X id r) (ho:PE X o to) (ha:PA X (e::es) t)
    (hbase:attributeBase o name X.env (eval o X.env)=eval o X.env:=by rfl)
    (hfew:((backTo cpos (starEach (e::es) X.env)).all (fun x=>!x.1) && (backToKw cpos (keywordEach [] X.env)).all (fun x=>x.1.isSome)
      && decide ((e::es).length+([]:List Keyword).length+(if ([]:List Keyword).isEmpty then 0 else 1)<30))=true:=by rfl)
    (hline:(apos.endLine == cpos.line)=true:=by rfl) (hs:starEach (e::es) X.env=(false,eval e X.env)::starEach es X.env:=by rfl) (hplain:(backTo cpos (starEach es X.env)).any (·.1)=false:=by rfl) :
    PE X (.Call (.Attribute o name apos) (e::es) [] cpos) (tBM X.K T r to t):=by
  intro pins s σ H Q I h
  refine wpAny_Call_method_late hbase hfew hline rfl (thn (ho pins s σ H _ I h) fun v s1 ⟨x,H1,I1,r1,ty,q1⟩=>?_)
  obtain⟨h1,h2⟩:=zkL I1 r1 ty
  refine⟨T,id,pa,slot,hty,h1,h2,?_⟩
  have hA:=ha cpos pins s1 σ H1 _ I1 q1
  rw[hs]at hA ⊢
  refine Calls.callWith_builtin (by show (false || (backTo cpos (starEach es X.env)).any (·.1))=false;rw[hplain]<;>rfl) (Calls.evalArgs_plain ?_)
  exact thn hA fun us s2 ⟨vs,H2,I2,r2,q2⟩=>hm pins s2 σ H2 x vs v us Q I2 r1 r2 q2
/- xs.append(e),list.index on a module's tuple .. are MtR facts of 06m -/
end
def MtM (X:Cx) (id:String) (r:V→List V→Hp→VK→Prop):Prop :=
  ∀ (pins:List (Addr × Obj)) (s:Shared) (σ:St) (H:Hp) (x:V) (xs:List V) (v:Value) (us:List Value) (Q:VK),Inv X pins σ H s→RelV x v→Vals xs us→r x xs H Q →
    wpAny (model X.prog X.w) X.A (call (.builtin id) (v::us)) (EP X pins σ Q) X.xe s
theorem Vals.one:∀ {x:V}{us:List Value},Vals [x] us→∃ u,us=[u]∧RelV x u
  | _,_,.cons r .nil=>⟨_,rfl,r⟩
theorem Vals.two:∀ {x y:V}{us:List Value},Vals [x,y] us→∃ u v,us=[u,v]∧RelV x u∧RelV y v
  | _,_,_,.cons r (.cons q .nil)=>⟨_,_,rfl,r,q⟩
theorem Vals.eraseIdx:∀ {xs:List V}{us:List Value}(i:Nat),Vals xs us→Vals (xs.eraseIdx i) (us.eraseIdx i)
  | _,_,_,.nil=>.nil
  | _,_,0,.cons _ t=>t
  | _,_,i+1,.cons r t=>.cons r (Vals.eraseIdx i t)
theorem Vals.rep {xs:List V}{us:List Value}(h:Vals xs us):∀ k:Nat,Vals (List.replicate k xs).flatten (List.replicate k us).flatten
  | 0=>.nil
  | k+1=>by
    rw[Y3,Y3,Yp,Yp]
    exact Vals.append h (Vals.rep h k)
theorem zdQ {α:Type}:∀ (l:List α) (i:Nat),(l.eraseIdx i).length≤l.length
  | [],_=>Jg _
  | _::_,0=>Nat.le_succ _
  | _::r,i+1=>Nat.succ_le_succ (zdQ r i)
theorem zdV (its:List Value):∀ (k:Nat) (acc:List Value),
    List.foldl (fun x1 x2=>x1++x2) acc.toArray (List.replicate k its.toArray)=(acc++(List.replicate k its).flatten).toArray
  | 0,acc=>by simp
  | k+1,acc=>by
    have e:acc.toArray++its.toArray=(acc++its).toArray:=by simp
    have e2:(acc++its)++(List.replicate k its).flatten=acc++(List.replicate (k+1) its).flatten:=by
      rw[Y3,Yp,JM]
    rw[← e2,← zdV its k (acc++its),← e,Y3,List.foldl_cons]
section
variable {X:Cx}{pins:List (Addr × Obj)}{σ:St}{H:Hp}{s:Shared}{l b:Addr}{xs ys zs:List V}
theorem Inv.lset {its its':List Value}{n:Nat}{f:Array Value→Array Value}{t':Nat}(I:Inv X pins σ H s) (hH:H l=some (.lst xs))
    (e:s.heap.get? l=some { cls:=.type "list",data:=.seq its.toArray n }) (hf:f its.toArray=its'.toArray) (hv:Vals ys its') (hz:ys.length≤sizeLine) :
    Inv X pins σ (upd H l (.lst ys)) { s with heap:=s.heap.update l (Obj.mapSeq f),toks:=t' }:=by
  have q:=PySem.IsL.update e f
  rw[hf]at q
  refine I.write (x:=l) (e:=l) (by rw[hH];exact trivial) (.inl rfl) (fun b' u hb hu=>(Yc s.heap (Obj.mapSeq f) (Ne.symm hb)).trans hu) ⟨_,q⟩ ?_
  exact⟨hz,its',_,hv,q⟩
theorem Inv.lnew {its:List Value}{t':Nat}(I:Inv X pins σ H s) (hv:Vals ys its) (hz:ys.length≤sizeLine) :
    Inv X pins σ (upd H s.heap.objs.size (.lst ys)) { s with heap:=s.heap.push { cls:=.type "list",data:=.seq its.toArray },toks:=t' } :=
  I.laid (fun _ _ q=>J8 _ q) (Jg _) ⟨hz,its,0,hv,Jp _ rfl⟩
theorem Inv.fresh (I:Inv X pins σ H s):H s.heap.objs.size=none:=I.hok.fresh (Jg _)
theorem Inv.lstM (I:Inv X pins σ H s) (hH:H l=some (.lst xs)):xs.length≤sizeLine∧∃ (its:List Value) (n:Nat),Vals xs its∧xs.length=its.length∧s.heap.get? l=some { cls:=.type "list",data:=.seq its.toArray n }:=by
  obtain⟨z,its,n,r,e⟩:=I.hok l _ hH
  exact⟨z,its,n,r,r.length,e⟩
theorem zfn {n:Nat}(h:n≤sizeLine):Builtin.List.listTooLong n=false:=by
  unfold Builtin.List.listTooLong
  exact Jq (by omega)
end
section
variable {X:Cx}
def rAppend:V→List V→Hp→VK→Prop:=fun x vs H Q=>∃ l xs y,x=.ref l∧vs=[y]∧H l=some (.lst xs)∧xs.length<sizeLine∧Q .non (upd H l (.lst (xs++[y])))
theorem zaE:MtM X "list.append" rAppend:=by
  intro pins s σ H x vs v us Q I rx rv h
  obtain⟨l,xs,y,rfl,rfl,hH,hz,q⟩:=h
  cases rx
  obtain⟨u,rfl,ru⟩:=rv.one
  obtain⟨z,its,n,r,hl,e⟩:=I.lstM hH
  refine call_meets F.slot_list_append ⟨_,e,rfl⟩ F.entry_list_append (F.args_list_append_2 _ _) (PySem.list_append l its.toArray n u (by rw[Jj];omega)) ⟨e,?_⟩
  refine⟨.non,_,I.lset (its':=its++[u]) hH e (by simp) (r.append (.cons ru .nil)) ?_,rfl,q⟩
  rw[Ja,List.length_singleton]
  omega
def rExtend:V→List V→Hp→VK→Prop:=fun x vs H Q=>∃ l b xs zs,x=.ref l∧vs=[.ref b]∧H l=some (.lst xs)∧H b=some (.lst zs)∧xs.length+zs.length≤sizeLine∧Q .non (upd H l (.lst (xs++zs)))
theorem zdL:MtM X "list.extend" rExtend:=by
  intro pins s σ H x vs v us Q I rx rv h
  obtain⟨l,b,xs,zs,rfl,rfl,hH,hB,hz,q⟩:=h
  cases rx
  obtain⟨u,rfl,ru⟩:=rv.one
  cases ru
  obtain⟨z,its,n,r,hl,e⟩:=I.lstM hH
  obtain⟨z2,its2,n2,r2,hl2,e2⟩:=I.lstM hB
  have hsz:its.toArray.size+its2.toArray.size≤sizeLine:=by rw[Jj,Jj];omega
  have hlong:¬(!its.toArray.isEmpty && Builtin.List.listTooLong (its.toArray.size+its2.toArray.size))=true:=by
    rw[zfn hsz,Bool.and_false]
    exact Jh
  refine call_meets F.slot_list_extend ⟨_,e,rfl⟩ F.entry_list_extend (F.args_list_extend_2 _ _)
    (AutoSeq1.list_extend_list_list_0 l its.toArray n b its2.toArray n2 hlong (by rw[Jj];omega) (by omega)) ⟨e,e2,?_⟩
  refine⟨.non,_,I.lset (its':=its++its2) hH e (by simp) (r.append r2) ?_,rfl,q⟩
  rw[Ja]
  omega
def rPopAt:V→List V→Hp→VK→Prop:=fun x vs H Q=>∃ l xs i k y,x=.ref l∧vs=[.int i]∧H l=some (.lst xs)∧-(2 ^ 63)≤i∧i<2 ^ 63∧seqIndex? i xs.length=some k∧xs[k]?=some y∧Q y (upd H l (.lst (xs.eraseIdx k)))
theorem ziR:MtM X "list.pop" rPopAt:=by
  intro pins s σ H x vs v us Q I rx rv h
  obtain⟨l,xs,i,k,y,rfl,rfl,hH,h1,h2,hk,hy,q⟩:=h
  cases rx
  obtain⟨u,rfl,ru⟩:=rv.one
  obtain⟨t,rfl⟩:=ru
  obtain⟨z,its,n,r,hl,e⟩:=I.lstM hH
  obtain⟨w,hw,rw'⟩:=r.get hy
  refine call_meets F.slot_list_pop ⟨_,e,rfl⟩ F.entry_list_pop (F.args_list_pop_2 _ _)
    (MeetsSeq.list_pop_at l its.toArray n i t k w (fitsIndex_both h1 h2) (by rw[Jj,← hl];exact hk) (by rw[← Y0];exact hw) (by rw[Jj];omega)) ⟨e,?_⟩
  refine⟨y,_,I.lset (its':=its.eraseIdx k) hH e ?_ (r.eraseIdx k) ?_,rw',q⟩
  · show its.toArray.eraseIdxIfInBounds k=(its.eraseIdx k).toArray
    rw[List.eraseIdxIfInBounds_toArray]
  · have:=zdQ xs k
    omega
def rCat:R2:=fun x y H Q=>∃ l b xs zs,x=.ref l∧y=.ref b∧H l=some (.lst xs)∧H b=some (.lst zs)∧xs.length+zs.length≤sizeLine∧∀ p,H p=none→Q (.ref p) (upd H p (.lst (xs++zs)))
theorem op_cat:OpR X (binaryOp .Add) rCat:=by
  intro pins s σ H x y v u Q I rx ry h
  obtain⟨l,b,xs,zs,rfl,rfl,hH,hB,hz,q⟩:=h
  cases rx
  cases ry
  obtain⟨z,its,n,r,hl,e⟩:=I.lstM hH
  obtain⟨z2,its2,n2,r2,hl2,e2⟩:=I.lstM hB
  refine PySem.P.add_list e e2 ?_ (by rw[Jj,Jj];omega)
  have ea:its.toArray++its2.toArray=(its++its2).toArray:=by simp
  rw[ea]
  exact⟨.ref _,_,I.lnew (t':=s.toks) (r.append r2) (by rw[Ja];omega),rfl,q _ I.fresh⟩
def rRep:R2:=fun x y H Q=>∃ l k xs,x=.ref l∧y=.int k∧H l=some (.lst xs)∧-(2 ^ 63)≤k∧k<2 ^ 63∧xs.length*k.toNat≤sizeLine ∧
  ∀ p,H p=none→Q (.ref p) (upd H p (.lst (List.replicate k.toNat xs).flatten))
theorem zkr {α:Type}(xs:List α) (k:Nat):(List.replicate k xs).flatten.length=k*xs.length:=by
  induction k with
  | zero=>simp
  | succ k ih=>rw[Y3,Yp,Ja,ih,Nat.succ_mul,Nat.add_comm]
theorem zju:OpR X (binaryOp .Mult) rRep:=by
  intro pins s σ H x y v u Q I rx ry h
  obtain⟨l,k,xs,rfl,rfl,hH,h1,h2,hz,q⟩:=h
  cases rx
  obtain⟨t,rfl⟩:=ry
  obtain⟨z,its,n,r,hl,e⟩:=I.lstM hH
  have hlen:its.toArray.size*k.toNat≤sizeLine:=by rw[Jj,← hl];exact hz
  have hcap:¬ its.toArray.size*k.toNat > (2 ^ 63-1) / 8:=by
    have:(sizeLine:Nat)≤(2 ^ 63-1) / 8:=by decide
    omega
  have hfit:¬(!Builtin.List.listFitsIndex k)=true:=by
    rw[fitsIndex_both h1 h2]
    exact Jh
  have hlong:¬ Builtin.List.listTooLong (its.toArray.size*k.toNat)=true:=by
    rw[zfn hlen]
    exact Jh
  have hnew:List.foldl (fun x1 x2=>x1++x2) #[] (List.replicate (if its.toArray.isEmpty=true then 0 else k.toNat) its.toArray)=(List.replicate k.toNat its).flatten.toArray:=by
    have f0:∀ m:Nat,List.foldl (fun x1 x2=>x1++x2) #[] (List.replicate m its.toArray)=(List.replicate m its).flatten.toArray:=fun m=>by
      have:=zdV its m []
      rw[Zh]at this
      exact this
    rw[f0]
    cases its with
    | nil=>simp
    | cons a r'=>rw[Jc (by simp)]
  refine wpAny_binaryOp_repeat_ref (T:="list") (U:="int") (by decide) ⟨_,e,rfl⟩ (fun s'=>typeIs_int s' k t) noFill_list_mul F.fills_int_mul F.slot_int_rmul repeat_list F.slot_int_index.lookup
    (call_meets F.slot_int_rmul (typeIs_int s k t) F.entry_int_rmul (F.args_int_rmul_2 _ _) (int___rmul___int_list k t l its.toArray n)
      ⟨e,rfl,⟨_,e,rfl⟩,call_meets F.slot_list_mul ⟨_,e,rfl⟩ F.entry_list_mul (F.args_list_mul_2 _ _) (AutoListH.list___mul___list_int_3 l its.toArray n k t hfit hcap hlong) ⟨e,?_⟩⟩)
  rw[hnew]
  exact⟨.ref _,_,I.lnew (t':=s.toks) (r.rep k.toNat) (by rw[zkr,Nat.mul_comm];exact hz),rfl,q _ I.fresh⟩
end
section
variable {prog:Program}{w:World}{A:Around}{E:Value→Shared→Prop}{s:Shared}
end
section
variable {X:Cx}
end
end L2
namespace Att
open PySem PySem.W PySem.Calls PyProof.Rows
theorem zcm {P:Params}{h:Heap}:∀ (ns:List Int) (vs:List Value),WellAll P h vs (ns.map WData.int)→IntsAre vs ns:=by
  intro ns
  induction ns with
  | nil =>
    intro vs w
    rw[List.map_nil]at w
    cases w
    exact .nil
  | cons n ns ih =>
    intro vs w
    rw[JV]at w
    cases w with
    | cons a b =>
      cases a
      exact .cons _ _ (ih _ b)
theorem zgD {l:OpenLaw}{n:Nat}(hn:l.most=some n) {P:Params}{h:Heap}{args:List WData}{vals:List Value}
    (hpre:l.row.toRowW.claim.pre args=true) (hwl:WellAll P h vals args) :
    ∃ a vs ns,vals=[Value.ref a]∧args=[WData.list (ns.map WData.int)]∧h.get? a=some { cls:=.type "list",data:=.seq vs.toArray }∧IntsAre vs ns∧ns.length≤n:=by
  have hsh:WShape.hasAll [] args [.list .int]=true:=(pre_splitW hpre).1
  have hc:l.pre.holds [] { args:=args }=true:=(pre_splitW hpre).2
  obtain⟨d,r,rfl,h1,h2⟩:=hasAllW_cons hsh
  obtain rfl:=hasAllW_nil h2
  obtain⟨xs,rfl,h3⟩:=hasW_list h1
  obtain⟨ns,rfl⟩:=items_int h3
  have hlen:ns.length≤n:=by
    unfold OpenLaw.pre at hc
    have h4:(WTm.not (.lt (.lit (.int (n:Int))) (.len (.arg 0)))).holds [] { args:=[.list (ns.map .int)] }=true:=by
      have h4:=(holds_andW hc).1
      rw[hn]at h4
      exact h4
    have h5:=condW_of h4 (w_not (w_lt w_lit (w_len_list (w_arg rfl))))
    rw[Jm]at h5
    refine Nat.le_of_not_lt fun q=>?_
    have q':(n:Int)<((ns.length:Nat):Int):=by omega
    first
      | (rw[Jz q']at h5;exact absurd h5 (by decide))
      | (simp at h5;omega)
  cases hwl with
  | cons w1 w2 =>
    cases w2
    cases w1 with
    | list ho hall=>exact⟨_,_,ns,rfl,rfl,ho,zcm ns _ hall,hlen⟩
theorem zgR (l:OpenLaw) (args:List WData):l.row.toRowW.claim.post args (.bool true) args=true :=
  postW_of (r:=l.row.toRowW) (X:=(true == true))
    (show WShape.has [] (.bool true) .bool=true by first|rfl|decide|simp[WShape.has,WShape.arms,WShape.armsAll])
    (show (WTm.eq .res (.lit (.bool true))).value [] { args:=args,res:=some (.bool true),after:=args }=some (.bool (true == true)) from w_eq_bool (w_res rfl) w_lit) rfl
theorem attach_call {l:OpenLaw}{n:Nat}{q:Program}{loose:List Str}{XP:(Str→Option Value)→Heap→Prop}{YP:World→Heap→Prop}{d:DefRec}
    (hn:l.most=some n) (hdf:d.params.defaults=[])
    (call:∀ (w:World) (s₀ s₁:Shared) (mg mb:Str→Option Value) (fa:Addr) (o:Obj) (pm cd doc:Value) (a:Addr) (vs:List Value) (ns:List Int),
      Ground q loose [] XP w s₀ mg mb s₁.heap→YP w s₁.heap →
      s₁.heap.get? fa=some o→o.data=.func (docDef d.name d.params d.body d.scope pm cd doc)→s₁.heap.CodeRec cd d.name→mg d.name=some (.ref fa) →
      s₁.heap.get? a=some { cls:=.type "list",data:=.seq vs.toArray }→IntsAre vs ns→ns.length≤n→s₁.gens = #[] →
      codeAny (model l.prog w) callerA (.call (.ref fa) ⟨[.ref a],[]⟩) (fun r s'=>r=.ok (.ret (.bool true))∧OldK s₁.heap s'.heap∧s'.os=s₁.os∧AllBare s'.gens) s₁) :
    WalkO q loose XP YP l.row.toRowW d [] (fun f vs=>PySem.call f vs):=by
  intro w s₀ s₁ mg mb G Y fa o pm cd doc dV kV ho hd hcd hD hmg hg args vals as hpre hlay hrd hwl hlo
  obtain rfl:dV=.none:=Dflts.none hD hdf
  obtain rfl:kV=.none:=Dflts.noKw hD
  obtain⟨a,vs,ns,rfl,rfl,hobj,hints,hlen⟩:=zgD hn hpre hwl
  refine enter_call (codeAny_mono (call w s₀ s₁ mg mb fa o pm cd doc a vs ns G Y ho (fd_plain hd) hcd hmg hobj hints hlen hg) fun r s' hq=>?_)
  obtain⟨rfl,h2,h3,h4⟩:=hq
  exact⟨.inl ⟨.bool true,.bool true,[],rfl,fun _=>rfl,.bool true,zgR l _,fun _=>⟨List.Pairwise.nil,fun _ hm=>(nomatch hm)⟩⟩,h2,h3,h4⟩
section
variable {prog:Program}{w:World}{A:Around}{E:Value→Shared→Prop}{s:Shared}{K:Frag}
def zlY (h:Heap) (L d:Addr):List (Addr × Obj):=(List.range h.objs.size).filterMap fun a=>if a=L∨a=d then none else (h.get? a).map fun o=>(a,o)
end
end Att
namespace L2
open PySem PySem.Spec PyProof.Rows
theorem zdr:∀ {vs:List Value}{ns:List Int},IntsAre vs ns→Vals (ns.map V.int) vs
  | _,_,.nil=>.nil
  | _,_,.cons n t h=>.cons ⟨t,rfl⟩ (zdr h)
abbrev KOf {K:PySem.W.Frag}{h:Heap}(_:K.In h):PySem.W.Frag:=K
end L2
/- THE LAST THEOREM (shape;LID,My.* are yours):
   My.Adr: a structure of the addresses that your layer names (classes,functions);My.Txt K t: a structure (Prop) of the equations over K;
   My.txt_mk:{K} {implicit addresses ..} (e1:nsIn K mainGlobals "law" = some (some (.ref f))) (e2:K.lookup f=some ⟨oc,od,.func (fnOf "law" "law" params body scope dV kV doc pm an cdv ct),sl⟩) (e3:codeIn K cdv "law" = true) ..:∃ t,My.Txt K t
set_option maxRecDepth 100000 in
set_option maxHeartbeats 0 in
theorem PySem.Challenge.cw_LID_holds : PySem.Challenge.rw_LID.Holds := by
  w_on;o_law;k_head;(case hw=>w_witness2)
  k_fill
  refine L2.walk_of (l:=PySem.Challenge.rw_LID) (n:=63) (k:=40) (x:="script") (CX:=fun w=>..) (sp:=fun _=>My.sp_law) rfl (by decide) rfl ⟨rfl,by decide,by decide⟩ (fun w h Y=>PySem.W.kIn_of Y) ?F ?S ?C
  case F =>
    intro w mg fa h KX G hmg
    have T:∃ t,My.Txt (L2.KOf KX) t:=by
      dsimp only[L2.KOf]                          -- K must stand as «<heap const> w.params» for k_is
      refine' My.txt_mk ?e1 ?e2 ?e3 ..
      (case e1=>PySem.W.k_is)                    -- in the order: a name -> its address -> its object -> its parts
      (case e2=>PySem.W.k_is)
      ..
    obtain⟨t,T⟩:=T
    have e0:=hmg.symm.trans (JP KX G T.law)
    cases e0                                       -- fa is the law's own address
    exact⟨_,fun s u=>.of_eq rfl,fun base kb nb=>My.law_fn T kb nb⟩     -- if «.of_eq rfl» comes too early: refine' ⟨_,?b,fun base kb nb=>My.law_fn T kb nb⟩;exact fun s u=>.of_eq rfl
  case S=>exact fun w H a ns hl hO hS=>..
  case C=>exact ..
(the tactic k_is has no namespace: write k_is) -/
namespace L2
open PySem PySem.Spec PyProof.Rows
def za3 (s:Stmt):Arguments:=match s with
  | .FunctionDef _ a _ _ _ _ _ _ _ _=>a
  | _=>{ posonlyargs:=[],args:=[],vararg:=none,kwonlyargs:=[],kw_defaults:=[],kwarg:=none,defaults:=[] }
def zaH (s:Stmt):List Stmt:=match s with
  | .FunctionDef _ _ b _ _ _ _ _ _ _=>b
  | _=>[]
def zae (s:Stmt):Scope:=match s with
  | .FunctionDef _ _ _ _ _ _ sc _ _ _=>sc
  | _=>{ kind:=.function,names:=[],isGenerator:=false,isCoroutine:=false }
abbrev CX0:CXT:=fun _ _ _ _ _ _=>False
abbrev E0:XK:=fun _ _ _=>False
theorem pass0 {X:Cx}:Passes CX0 X E0:=fun _ _ _ _ _ _ _ h=>h.elim
structure Fun (K:PySem.W.Frag) (x qual:Str) (st:Stmt) (f:Addr) (fd:FuncData):Prop where
  ex:∃ (oc:Value) (od:Option Addr) (kV doc pm:Value) (an:Option Addr) (cdv ct:Value) (osl:Array (Option Value)),
    fd=PySem.W.fnOf x qual (za3 st) (zaH st) (zae st) .none kV doc pm an cdv ct∧K.lookup f=some ⟨oc,od,.func fd,osl⟩∧PySem.W.codeIn K cdv qual=true
  kp:PySem.W.keepIn K (.ref f)=true
section
variable {P:Program}{w:World}{K:PySem.W.Frag}{mg:Str→Option Value}{base:Heap}
theorem Fun.ok {x qual:Str}{st:Stmt}{f:Addr}{fd:FuncData}{N ps:List Str}{k:Nat}{sp:Sp}(F:Fun K x qual st f fd) (S:FnScope N ps (zae st)) (len:∀ vs H Q E,sp vs H Q E→vs.length=ps.length)
    (hbody:∀ (cdv:Value) (A:Around) (outer:List Env) (s:Shared) (H:Hp) (vs:List V) (Q:VK) (E:XK),Room k (A.deeper (envOfC qual (zae st) s.heap.objs.size f cdv))→sp vs H Q E →
      ∃ t,PSs (cxOf CX0 P w K mg base N qual (zae st) f cdv A outer s H E).nox (zaH st) t∧t { nx:=fun _ H'=>Q .non H',rt:=Q } (zcB N vs) H):FnOk P w K mg base CX0 (k+1) f fd ps sp:=by
  obtain⟨oc,od,kV,doc,pm,an,cdv,ct,osl,rfl,lk,hcd⟩:=F.ex
  refine zlm lk hcd S len fun A outer s H vs Q E hr hsp=>?_
  obtain⟨t,h,q⟩:=hbody cdv A outer s H vs Q E hr hsp
  exact⟨t,h.nox,q⟩
theorem Fun.binds {x qual:Str}{st:Stmt}{f:Addr}{fd:FuncData}{ps:List Str}(F:Fun K x qual st f fd)
    (h:∀ (kV doc pm:Value) (an:Option Addr) (cdv ct:Value) (us:List Value),us.length=ps.length→bindArgs (PySem.W.fnOf x qual (za3 st) (zaH st) (zae st) .none kV doc pm an cdv ct) ⟨us,[]⟩=pure (ps.zip us)):Binds K fd ps []:=by
  obtain⟨oc,od,kV,doc,pm,an,cdv,ct,osl,rfl,lk,hcd⟩:=F.ex
  exact .all (h kV doc pm an cdv ct)
theorem zll {x qual:Str}{st:Stmt}{f:Addr}{oc:Value}{od an:Option Addr}{osl:Array (Option Value)}{kV doc pm cdv ct:Value}(l:K.lookup f=some ⟨oc,od,.func (PySem.W.fnOf x qual (za3 st) (zaH st) (zae st) .none kV doc pm an cdv ct),osl⟩)
    (c:PySem.W.codeIn K cdv qual=true) (k:PySem.W.keepIn K (.ref f)=true):Fun K x qual st f (PySem.W.fnOf x qual (za3 st) (zaH st) (zae st) .none kV doc pm an cdv ct):=⟨⟨oc,od,kV,doc,pm,an,cdv,ct,osl,rfl,l,c⟩,k⟩
end
section
variable {X:Cx}
theorem pv (i:Nat) {x:Str}{pos:Pos}(hN:X.N[i]?=some x:=by rfl) (hv:Vis X.env.scope x:=by first|exact Or.inl rfl|exact Or.inr (.inl rfl)|exact Or.inr (.inr rfl)) (hd:(x == ("__debug__":Str))=false:=by decide)
    (hcd:(x == ("__classdict__":Str))=false:=by decide):PE X (.Name x pos) (tVar i):=zkX hN hv hd hcd
theorem qv (i:Nat) {x:Str}{pos:Pos}(h:X.N[i]?=some x∧Vis X.env.scope x∧(x == ("__debug__":Str))=false∧(x == ("__classdict__":Str))=false):PE X (.Name x pos) (tVar i):=zkX h.1 h.2.1 h.2.2.1 h.2.2.2
end
theorem iteF {A B:Prop}(h:B):if false=true then A else B:=by
  rw[Jc Jh]
  exact h
theorem iteT {A B:Prop}(h:A):if true=true then A else B:=by
  rw[Jf rfl]
  exact h
theorem ite2 {c A B:Prop} [Decidable c] (h1:c→A) (h2:¬ c→B):if c then A else B:=by
  by_cases h:c
  · rw[Jf h]
    exact h1 h
  · rw[Jc h]
    exact h2 h
def Same (H H':Hp):Prop:=∀ b o,H b=some o→H' b=some o
theorem Same.refl (H:Hp):Same H H:=fun _ _ h=>h
theorem Same.trans {H H1 H2:Hp}(a:Same H H1) (b:Same H1 H2):Same H H2:=fun c o h=>b c o (a c o h)
end L2
set_option maxHeartbeats 4000001
namespace L2
open PySem PySem.Spec PyProof.Rows
def clOf (cells:List (Str × Addr)):List (Str × NameKind)→List (Str × Addr)→List (Str × Addr)
 | [],cs=>cs
 | (n,k)::r,cs=>if k == .free then clOf cells r ((n,(cells.lookup n).getD 0)::cs) else clOf cells r cs
theorem zdp {env:Env}:∀ (names:List (Str × NameKind)) (cs:List (Str × Addr)),(∀ y∈names,y.2=.free→∃ c,env.cells.lookup y.1=some c) →
  (forIn names cs fun x r=>match x with|(name,kind)=>if (kind == NameKind.free)=true then (do let a ← cellOf env name;pure (ForInStep.yield ((name,a)::r))) else pure (ForInStep.yield r):Sem (List (Str × Addr)))=pure (clOf env.cells names cs)
 | [],cs,_=>rfl
 | (n,k)::r,cs,h=>by
  rw[Yy]
  by_cases e:(k == NameKind.free)=true
  ·obtain⟨c,hc⟩:=h (n,k) JD (by simpa using e)
   have hcell:cellOf env n=pure c:=by
    have hc':env.cells.lookup n=some c:=hc
    unfold cellOf;rw[hc']
   simp only[e,if_true,hcell,pure_bind]
   rw[zdp r _ fun y hy=>h y (JC _ hy)]
   have hc':env.cells.lookup n=some c:=hc
   show _=pure (if (k == NameKind.free)=true then _ else _)
   rw[Jf e,hc']
   rfl
  ·have ef:(k == NameKind.free)=false:=by simpa using e
   simp only[ef,Y1,if_false,pure_bind]
   rw[zdp r _ fun y hy=>h y (JC _ hy)]
   show _=pure (if (k == NameKind.free)=true then _ else _)
   rw[Jc e]
theorem zcT {scope:Scope}{env:Env}(h:∀ y∈scope.names,y.2=.free→∃ c,env.cells.lookup y.1=some c):closureFor scope env=pure (clOf env.cells scope.names []):=by
 unfold closureFor
 show (forIn scope.names [] _ >>= fun r=>pure r)=_
 rw[bind_pure]
 exact zdp _ _ h
theorem zb9 {cells:List (Str × Addr)}:∀ (names:List (Str × NameKind)) (cs:List (Str × Addr)) (x:Str) (c:Addr),(∀ y∈names,y.2=.free→∃ c,cells.lookup y.1=some c) →
  (∀ x c,cs.lookup x=some c→cells.lookup x=some c)→(clOf cells names cs).lookup x=some c→cells.lookup x=some c
 | [],cs,x,c,_,hs,e=>hs x c e
 | (n,k)::r,cs,x,c,h,hs,e=>by
  unfold clOf at e
  by_cases q:(k == NameKind.free)=true
  ·rw[Jf q]at e
   obtain⟨c0,hc0⟩:=h (n,k) JD (by simpa using q)
   refine zb9 r _ x c (fun y hy=>h y (JC _ hy)) (fun x' c' e'=>?_) e
   rw[Yg]at e'
   cases hx:x' == n with
   | true =>
    rw[hx]at e'
    have hx':x'=n:=by simpa using hx
    subst hx'
    have hc0':cells.lookup x'=some c0:=hc0
    rw[hc0']at e' ⊢
    exact e'
   | false =>
    rw[hx]at e'
    exact hs x' c' e'
  ·rw[Jc q]at e
   exact zb9 r _ x c (fun y hy=>h y (JC _ hy)) hs e
theorem zcA {cells:List (Str × Addr)}:∀ (names:List (Str × NameKind)) (cs:List (Str × Addr)) (x:Str),(∃ c,cs.lookup x=some c)→∃ c,(clOf cells names cs).lookup x=some c
 | [],cs,x,e=>e
 | (n,k)::r,cs,x,e=>by
  unfold clOf
  by_cases q:(k == NameKind.free)=true
  ·rw[Jf q]
   refine zcA r _ x ?_
   rw[Yg]
   cases hx:x == n with
   | true=>exact⟨_,rfl⟩
   | false=>exact e
  ·rw[Jc q]
   exact zcA r _ x e
theorem zbm {cells:List (Str × Addr)}:∀ (names:List (Str × NameKind)) (cs:List (Str × Addr)) (x:Str),names.lookup x=some .free→∃ c,(clOf cells names cs).lookup x=some c
 | [],cs,x,e=>by simp at e
 | (n,k)::r,cs,x,e=>by
  rw[Yg]at e
  unfold clOf
  cases hx:x == n with
  | true =>
   rw[hx]at e
   have e':k=.free:=Option.some.inj e
   subst e'
   rw[Jf (by decide)]
   refine zcA r _ x ?_
   rw[Yg,hx]
   exact⟨_,rfl⟩
  | false =>
   rw[hx]at e
   by_cases q:(k == NameKind.free)=true
   ·rw[Jf q];exact zbm r _ x e
   ·rw[Jc q];exact zbm r _ x e
def zjD (env:Env) (p:Str × NameKind):Bool:=p.2 == .free && env.scope.kind == .function && env.kindOf p.1 == some .cell
def zbY (env:Env) (p:Str × NameKind):Str × NameKind:=if zjD env p=true then (p.1,.cell) else p
theorem zco (env:Env) (p:Str × NameKind):(zbY env p).1=p.1:=by unfold zbY;split<;>rfl
theorem zcn (env:Env) (p:Str × NameKind):(zbY env p).2=p.2∨((zbY env p).2=.cell∧p.2=.free):=by
 unfold zbY
 split
 ·rename_i h
  refine .inr ⟨rfl,?_⟩
  unfold zjD at h
  cases e:p.2<;>simp[e]at h<;>rfl
 ·exact .inl rfl
theorem zbA (scope:Scope) (env:Env):(relabel scope env).names=scope.names.map (zbY env):=rfl
theorem zdg {f:Str × NameKind→Str × NameKind}(hf:∀ p,(f p).1=p.1):∀ (l:List (Str × NameKind)) (x:Str),(l.map f).lookup x=none∧l.lookup x=none∨∃ p∈l,(l.map f).lookup x=some (f p).2∧l.lookup x=some p.2
 | [],_=>.inl ⟨rfl,rfl⟩
 | p::r,x=>by
  have e1:((p::r).map f).lookup x=if x == p.1 then some (f p).2 else (r.map f).lookup x:=by
   show List.lookup x (((f p).1,(f p).2)::r.map f)=_
   rw[Yg,hf p];cases x == p.1<;>rfl
  have e2:(p::r).lookup x=if x == p.1 then some p.2 else r.lookup x:=by
   show List.lookup x ((p.1,p.2)::r)=_
   rw[Yg];cases x == p.1<;>rfl
  rw[e1,e2]
  cases x == p.1
  ·rcases zdg hf r x with z|⟨q,hq,z⟩
   ·exact .inl z
   ·exact .inr ⟨q,JC _ hq,z⟩
  ·exact .inr ⟨p,JD,rfl,rfl⟩
theorem zaM {scope:Scope}{env:Env}{x:Str}{k':NameKind}(h:(relabel scope env).names.lookup x=some k'):scope.names.lookup x=some k'∨(k'=.cell∧scope.names.lookup x=some .free):=by
 rw[zbA]at h
 rcases zdg (zco env) scope.names x with ⟨z,_⟩|⟨p,_,z,e⟩
 ·rw[z]at h;cases h
 ·rw[z]at h
  obtain rfl:=Option.some.inj h
  rcases zcn env p with q|⟨q,q'⟩
  ·rw[q];exact .inl e
  ·exact .inr ⟨q,by rw[e,q']⟩
theorem zb0 {scope:Scope}{env:Env}{x:Str}(h:scope.names.lookup x=some .free):(relabel scope env).names.lookup x=some .cell∨(relabel scope env).names.lookup x=some .free:=by
 rw[zbA]
 rcases zdg (zco env) scope.names x with ⟨_,z⟩|⟨p,_,z,e⟩
 ·rw[z]at h;cases h
 ·rw[e]at h
  rcases zcn env p with q|⟨q,_⟩
  ·rw[z,q,h];exact .inr rfl
  ·rw[z,q];exact .inl rfl
def zar (X:Cx) (N':List Str) (scope:Scope) (C:Addr) (s₀:Shared) (H₀:Hp) (fp:List Addr) (pins:List (Addr × Obj)):Cx :=
 { X with N:=N',s₀:=s₀,H₀:=H₀,env:=compEnvC scope (clOf X.env.cells scope.names []) C X.env,outer:=X.stack,stack:=X.stack,ex:=fp,fn:=fun _=>false,pn:=X.pn++pins,xe:=fun _ _=>False }
def capσ (cap:List (Option Nat)) (σ:St):St:=cap.map fun o=>match o with|some i=>(match σ[i]? with|some v=>v|none=>none)|none=>none
def tst (M:Model) (A:Around) (env:Env) (E:Value→Shared→Prop) (o:Option Expr) (Q:Bool→Shared→Prop) (s:Shared):Prop:=match o with
 | none=>Q true s
 | some c=>wpAny M A (isTrue c env (eval c env)) Q E s
theorem zeZ {M:Model}{A:Around}{env:Env}{E:Value→Shared→Prop}{o:Option Expr}{Q Q':Bool→Shared→Prop}{s:Shared}(h:tst M A env E o Q s) (k:∀ b z,Q b z→Q' b z):tst M A env E o Q' s:=by
 cases o with
 | none=>exact k _ _ h
 | some c=>exact thn h k
def PTo (X:Cx) (o:Option Expr) (t:TT):Prop :=
 ∀ (pins:List (Addr × Obj)) (s:Shared) (σ:St) (H:Hp) (Q:Bool→Hp→Prop),Inv X pins σ H s→t σ H Q→tst (model X.prog X.w) X.A X.env X.xe o (TP X pins σ Q) s
def tYes:TT:=fun _ H Q=>Q true H
theorem zbS {X:Cx}:PTo X none tYes:=fun _ _ _ H _ I h=>⟨H,I,h⟩
theorem zj3 {X:Cx}{c:Expr}{t:TT}(h:PT X c t):PTo X (some c) t:=fun pins s σ H Q I hw=>h pins s σ H Q I hw
abbrev NoX:Value→Shared→Prop:=fun _ _=>False
def Go (M:Model) (A:Around) (tg elt:Expr) (o:Option Expr) (it acc:Value) (env:Env) (R:Result→Shared→Prop) (onward:Shared→Prop) (s:Shared):Prop :=
 wpAny M A (pyNext it) (fun r a=>match r with
  | none=>R (.ok .next) a
  | some v=>wpAny M A (letOwnedTupleGo tg it v) (fun _ b=>wpAny M A (assign tg env v) (fun _ c=>tst M A env NoX o (fun yes d =>
    if yes=true then wpAny M A (eval elt env) (fun x e=>wpAny M A (call (.builtin "list.append") [acc,x]) (fun _ f=>onward f) NoX e) NoX d else onward d) c) NoX b) NoX a) NoX s
theorem zhS {prog:Program}{w:World}{A:Around}{R:Result→Shared→Prop}{s:Shared}{elt tg iter:Expr}{o:Option Expr}{scope:Scope}{pos:Pos}{it acc:Value}{env:Env}(J:Nat→Shared→Prop)
  (turn:∀ n s,J n s→Go (model prog w) A tg elt o it acc env R (fun z=>∃ m,m<n∧J m z) s) (n:Nat) (h:J n s) :
  codeAny (model prog w) A (.compLoop (.ListComp elt [⟨tg,iter,o.toList,0⟩] scope pos) 0 it acc env) R s:=by
 cases o with
 | none =>
  refine PySem.W.kcp_loop J (fun n a ha=>JK (turn n a ha) (fun r b hb=>?_) fun _ _ z=>z.elim) n h
  cases r with
  | none=>exact hb
  | some v=>exact JK hb (fun _ c hc=>JK hc (fun _ d hd=>JK (show wpAny _ _ _ _ _ d from hd) (fun x e he=>JK he (fun _ _ q=>q) fun _ _ z=>z.elim) fun _ _ z=>z.elim) fun _ _ z=>z.elim) fun _ _ z=>z.elim
 | some t =>
  refine PySem.W.kct_loop J (fun n a ha=>JK (turn n a ha) (fun r b hb=>?_) fun _ _ z=>z.elim) n h
  cases r with
  | none=>exact hb
  | some v =>
   refine JK hb (fun _ c hc=>JK hc (fun _ d hd=>JK (show wpAny _ _ _ _ _ d from hd) (fun yes e he=>?_) fun _ _ z=>z.elim) fun _ _ z=>z.elim) fun _ _ z=>z.elim
   cases yes
   ·exact he
   ·exact JK (show wpAny _ _ _ _ _ e from he) (fun x f hf=>JK hf (fun _ _ q=>q) fun _ _ z=>z.elim) fun _ _ z=>z.elim
structure CapOk (N N':List Str) (sc scope:Scope) (cap:List (Option Nat)):Prop where
 kind:scope.kind=.function
 nocell:∀ y∈scope.names,y.2≠.cell
 names:∀ y∈scope.names,y.2=.local → scope.names.lookup y.1=some .local
 free:∀ y∈scope.names,y.2=.free→sc.names.lookup y.1=some .cell∨sc.names.lookup y.1=some .free
 len:cap.length=N'.length
 cap:∀ p∈N'.zip cap,∀ i,p.2=some i→N[i]?=some p.1∧scope.names.lookup p.1=some .free∧(sc.names.lookup p.1=some .cell∨sc.names.lookup p.1=some .free)
theorem zbW {α:Type}:∀ {l:List (Str × α)}{x:Str}{a:α},l.lookup x=some a→(x,a)∈l
 | [],_,_,h=>by simp at h
 | (n,k)::r,x,a,h=>by
  rw[Yg]at h
  cases hx:x == n with
  | true =>
   rw[hx]at h
   have e:k=a:=Option.some.inj h
   have e2:x=n:=by simpa using hx
   subst e e2
   exact JD
  | false=>rw[hx]at h;exact JC _ (zbW h)
def LCW (J:It) (g:TG) (tt:TT) (te:TE) (l:Addr) (Q:VK) (W:Nat→Nat→List V→St→Hp→Prop):Prop :=
 ∀ i m acc σ' H',W i m acc σ' H'→H' l=some (.lst acc) ∧
  ((J.stop i H'∧Q (.ref l) H')∨(J.go i H'∧∀ x H2,J.yld i H' x H2→g x σ' H2 fun σ3 H3=>tt σ3 H3 fun b H4 =>
   if b=true then te σ3 H4 fun y H5=>H5 l=some (.lst acc)∧acc.length<sizeLine∧∃ m',m'<m∧W (i+1) m' (acc++[y]) σ3 (upd H5 l (.lst (acc++[y])))
   else ∃ m',m'<m∧W (i+1) m' acc σ3 H4))
def tLC (cap:List (Option Nat)) (wi:TI) (g:TG) (tt:TT) (te:TE):TE:=fun σ H Q=>wi σ H fun J H1=>∀ l,H1 l=none →
 ∃ W:Nat→Nat→List V→St→Hp→Prop,(∃ m,W 0 m [] (capσ cap σ) (upd H1 l (.lst [])))∧LCW J g tt te l Q W
theorem zhr {X:Cx}{elt tg iter:Expr}{o:Option Expr}{scope:Scope}{pos ppos:Pos}{wi:TI}{g:TG}{tt:TT}{te:TE}{N':List Str}{cap:List (Option Nat)}{use:Option (Value→Sem Unit)}{Q0:Value→Shared→Prop}
  (hc:X.calm=true) (hi:PI X tg iter wi) (ck:CapOk X.N N' X.env.scope scope cap)
  (hg:∀ C s₀ H₀ fp pins,PG (zar X N' scope C s₀ H₀ fp pins) tg g)
  (ht:∀ C s₀ H₀ fp pins,PTo (zar X N' scope C s₀ H₀ fp pins) o tt)
  (he:∀ C s₀ H₀ fp pins,PE (zar X N' scope C s₀ H₀ fp pins) elt te)
  (hs:∀ x,foldedSetIterable iter X.env x=pure x) {pins:List (Addr × Obj)}{s:Shared}{σ:St}{H:Hp}{Q:VK}(I:Inv X pins σ H s) (h:tLC cap wi g tt te σ H Q)
  (fin:∀ (l C:Addr) (H4:Hp) (s5:Shared) (m:Str→Option Value),Inv X pins σ H4 s5→Q (.ref l) H4→s5.heap.Ns C m→FpOk X pins H4 C→compPost (model X.prog X.w) X.A X.xe use Q0 (.ref l) C (.ok .next) s5) :
  wpAny (model X.prog X.w) X.A (comprehension (.ListComp elt [⟨tg,iter,o.toList,0⟩] scope pos) scope X.env ppos (newList []) false (eval iter X.env) use) Q0 X.xe s:=by
 have hcells:∀ y∈scope.names,y.2=.free→∃ c,X.env.cells.lookup y.1=some c:=fun y hy hf=>I.ok.has y.1 (ck.free y hy hf)
 refine wpAny_comprehension_free (use:=use) rfl hs (zcT hcells) ck.kind ck.names (thn (hi pins s σ H _ I h) fun v s1 h1=>thn h1 fun itv s2 h2=>?_)
 obtain⟨it,fp,tn,J,H2,e,I2,T,st2,f2,body⟩:=h2
 subst e
 have hfr2:H2 s2.heap.objs.size=none:=I2.hok.fresh (Jg _)
 obtain⟨W,⟨m0,w0⟩,turn⟩:=body s2.heap.objs.size hfr2
 have I3:Inv X pins σ (upd H2 s2.heap.objs.size (.lst [])) { s2 with heap:=s2.heap.push { cls:=.type "list",data:=.seq ([]:List Value).toArray },toks:=s2.toks }:=I2.lnew (its:=[]) (t':=s2.toks) .nil (JH _)
 refine JG (wpAny_newFunctionEnv ck.nocell (by intro y hy;simp at hy) (fun h₁ hns₁ hsb₁=>?_) ck.kind)
 dsimp only at hns₁ hsb₁ ⊢
 generalize hl:s2.heap.objs.size=l at *
 generalize hP:s2.heap.push { cls:=.type "list",dict:=none,data:=.seq ([]:List Value).toArray }=P2 at *
 generalize hH3:upd H2 l (.lst [])=H3 at *
 have old:∀ b o,P2.get? b=some o→h₁.get? b=some o:=fun b o e=>hsb₁.extBut b o (JB (Jn e)) (J8 _ e)
 have old2:∀ b o,s2.heap.get? b=some o→P2.get? b=some o:=fun b o e=>hP ▸ J8 _ e
 have fpl:∀ b∈fp,b<l:=fun b hb=>by
  obtain⟨o,e,_⟩:=T.obj _ _ st2 b hb
  rw[← hl];exact Jn e
 have fp3:∀ b∈fp,H3 b=none:=fun b hb=>by
  rw[← hH3,zad (JB (fpl b hb))];exact(f2 b hb).1
 have hPs:P2.objs.size=l+1:=by rw[← hP,Heap.size_push,hl]
 have subc:∀ x c,(clOf X.env.cells scope.names []).lookup x=some c→X.env.cells.lookup x=some c:=fun x c e=>zb9 _ _ x c hcells (fun _ _ z=>by simp at z) e
 generalize hs3:({ s2 with heap:=P2,toks:=s2.toks }:Shared)=s3 at *
 have hs3h:s3.heap=P2:=by rw[← hs3]
 let Y:=zar X N' scope P2.objs.size s3 H3 fp pins
 have hYok:Y.Ok:=by
  refine⟨I3.ok.mod,ck.kind,I3.ok.glob,I3.ok.blt,by show s3.heap.objs.size≤P2.objs.size;rw[hs3h];exact Jg _,fun x y c e1 e2=>I3.ok.inj x y c (subc x c e1) (subc y c e2),fun x hx=>?_,fun x c hx=>absurd (show false=true from hx) Jh,I3.ok.hd,I3.ok.frames,.inl rfl,fun b hb=>⟨?_,fun x c e=>?_⟩,I3.bs,
   JY I3.ok.bsz I3.sz,fun b o e hb=>?_,fun b hb hz=>?_,I3.stack,I3.stkFree⟩
  ·have hx':scope.names.lookup x=some .free:=by
    rcases hx with hx|hx
    ·rcases zaM hx with z|z
     ·exact absurd rfl (ck.nocell _ (zbW z))
     ·exact z.2
    ·rcases zaM hx with z|z
     ·exact z
     ·exact z.2
   exact zbm _ _ x hx'
  ·exact JB (by show b<P2.objs.size;rw[hPs];exact Zs (fpl b hb))
  ·exact(f2 b hb).2.2.2.2.1 x c (subc x c e)
  ·rcases (f2 b hb).2.2.2.1 with z|z
   ·exact I3.ok.noex b o e z
   ·exact absurd (JF (Jn e) (JY I3.ok.bsz z)) (Ym _)
  ·rcases List.mem_cons.mp (I3.stkSub b hz) with z|z
   ·exact(f2 b hb).2.1 z
   ·exact(f2 b hb).2.2.1 z
 have hYi:Inv Y [] (capσ cap σ) H3 { s2 with heap:=h₁,toks:=s2.toks }:=by
  refine⟨hYok,by show s2.os=s3.os;rw[← hs3],I2.bare,by show Un _ _ _ _ s3.heap h₁;rw[hs3h];exact Un.kept old,⟨_,hns₁,fun j x v e1 e2 e3=>?_⟩,fun x c e=>?_,?_,fun x c e=>I3.freeC x c (subc x c e),fun p hp=>?_,fun b o e=>?_,?_⟩
  ·have e1':N'[j]?=some x:=e1
   unfold capσ at e2
   rw[JR]at e2
   cases ec:cap[j]? with
   | none=>rw[ec]at e2;cases e2
   | some oc =>
    rw[ec]at e2
    cases oc with
    | none=>cases e2
    | some i =>
     have e2':σ[i]?=some (some v):=by
      cases ei:σ[i]? with
      | none=>simp[ei]at e2
      | some v' =>
       simp[ei]at e2
       rw[e2]
     have hz:(x,some i)∈N'.zip cap:=by
      refine JZ (i:=j) ?_
      rw[Zr]
      exact⟨e1',ec⟩
     obtain⟨hN,hf,hk⟩:=ck.cap _ hz i rfl
     obtain⟨m,hn,hlo⟩:=I3.loc
     obtain⟨u,r,lk⟩:=hlo i x v hN e2' (by rcases hk with z|z;exact .inr (.inl z);exact .inr (.inr z))
     refine⟨u,r,.inr ⟨?_,?_⟩⟩
     ·exact zb0 hf
     ·rcases lk with ⟨z,_⟩|⟨_,c,hcx,hcell⟩
      ·have z':X.env.scope.names.lookup x=some .local:=z
       rcases hk with q|q
       ·rw[q]at z';cases z'
       ·rw[q]at z';cases z'
      ·obtain⟨c',hc'⟩:=zbm (cells:=X.env.cells) scope.names [] x hf
       have:=subc x c' hc'
       rw[hcx]at this;cases this
       obtain⟨ob,e,d⟩:=hcell
       rw[hs3h]at e
       exact⟨c,hc',ob,old c ob e,d⟩
  ·obtain⟨v,ob,e',d⟩:=I3.cell x c (subc x c e)
   rw[hs3h]at e'
   exact⟨v,ob,old c ob e',d⟩
  ·refine I3.hok.fresh ?_
   rw[hs3h];exact Jg _
  ·have hp':p∈X.pn++pins:=(Js.mp hp).elim (fun z=>z) (fun z=>nomatch z)
   obtain⟨e,n,ne,nf,d⟩:=I3.pin p hp'
   rw[hs3h]at e
   refine⟨old _ _ e,n,JB (Jn e),fun z=>?_,d⟩
   rcases List.mem_cons.mp (I3.stkSub _ z) with q|q
   ·exact ne q
   ·exact nf q
  ·have:=I3.hok.kept (h':=h₁) (fun b u q=>old b u (by rw[← hs3h];exact q))
   exact this b o e
  ·show (cap.map _).length=N'.length
   rw[Jm,ck.len]
 have stat:∀ {H':Hp},(∀ b∈fp,H' b=none)→∀ b∈fp,FpOk Y [] H' b:=fun {H'} hn b hb=>by
  refine⟨hn b hb,(hYok.exf b hb).1,hYok.exfs b hb,.inl hb,(hYok.exf b hb).2,fun p hp=>?_⟩
  have hp':p∈X.pn++pins:=(Js.mp hp).elim (fun z=>z) (fun z=>nomatch z)
  exact(f2 b hb).2.2.2.2.2 p hp'
 have st1:tn 0 h₁:=T.keep 0 _ _ st2 fun b hb o e=>old b o (old2 b o e)
 have loop:codeAny (model X.prog X.w) X.A (.compLoop (.ListComp elt [⟨tg,iter,o.toList,0⟩] scope pos) 0 (.ref it) (.ref l) Y.env) (compPost (model X.prog X.w) X.A X.xe use Q0 (.ref l) P2.objs.size) { s2 with heap:=h₁,toks:=s2.toks }:=by
  refine zhS (fun n s'=>∃ i acc σ' H',Inv Y [] σ' H' s'∧tn i s'.heap∧(∀ b∈fp,H' b=none)∧W i n acc σ' H') ?_ m0 ⟨0,[],_,H3,hYi,st1,fp3,w0⟩
  rintro n s4 ⟨i,acc,σ4,H4,I4,st4,fr4,w4⟩
  obtain⟨hlst,q4⟩:=turn i n acc σ4 H4 w4
  rcases q4 with ⟨stop,qn⟩|⟨go,step⟩
  ·refine thn (T.done Y rfl rfl rfl hc i [] s4 σ4 H4 Y.xe I4 (stat fr4) st4 stop) fun r s5 ⟨hr,I5⟩=>?_
   subst hr
   obtain⟨m,hn,_⟩:=id I5.loc
   have un:Un (frs X.stack) fp H3 H4 s3.heap s5.heap:=I5.base
   have sz3:s3.heap.objs.size≤P2.objs.size:=by rw[hs3h];exact Jg _
   have IX:Inv X pins σ H4 s5:=I3.call' (ch:=fp) I5.os un I5.hok I5.bare fun b hb=>⟨(f2 b hb).2.2.2.1,(f2 b hb).2.1,(f2 b hb).2.2.2.2.1,(f2 b hb).2.2.2.2.2⟩
   exact fin l P2.objs.size H4 s5 m IX qn hn (I3.fpOk sz3 I5.free)
  ·refine thn (T.item Y rfl rfl rfl hc i [] s4 σ4 H4 Y.xe I4 (stat fr4) st4 go) fun r s5 ⟨u,hr,h5⟩=>?_
   subst hr
   refine thn h5 fun _ s6 ⟨x,H6,I6,r6,y6,st6,fr6⟩=>?_
   have I6':=I6.pinned (stat fr6) (T.obj _ _ st6)
   refine thn (hg _ _ _ _ _ _ s6 σ4 H6 x u _ I6' r6 (step x H6 y6)) fun _ s7 ⟨σ7,H7,I7,q7⟩=>?_
   refine zeZ (ht _ _ _ _ _ _ s7 σ7 H7 _ I7 q7) fun b s8 ⟨H8,I8,q8⟩=>?_
   have again:∀ {σ9:St}{H9:Hp}{s9:Shared}{acc9:List V},Inv Y ([]++zb1 fp s6.heap) σ9 H9 s9→(∃ m',m'<n∧W (i+1) m' acc9 σ9 H9)→∃ m,m<n∧∃ i acc σ' H',Inv Y [] σ' H' s9∧tn i s9.heap∧(∀ b∈fp,H' b=none)∧W i m acc σ' H':=fun {σ9 H9 s9 acc9} I9 ⟨m',hm,w9⟩=>by
    refine⟨m',hm,i+1,acc9,σ9,H9,I9.unpinned,T.keep _ _ _ st6 fun b hb o e=>(I9.pin (b,o) (Ju _ (Ju _ (zaw hb e)))).1,fun b hb=>?_,w9⟩
    obtain⟨o,e,d⟩:=T.obj _ _ st6 b hb
    exact(I9.pin (b,o) (Ju _ (Ju _ (zaw hb e)))).2.1
   cases b with
   | false =>
    rw[Jc Jh]at q8 ⊢
    exact again I8 q8
   | true =>
    rw[Jf rfl]at q8 ⊢
    refine thn (he _ _ _ _ _ _ s8 σ7 H8 _ I8 q8) fun yv s9 ⟨y,H9,I9,r9,hl9,hz9,q9⟩=>?_
    refine thn (zaE (X:=Y) _ s9 σ7 H9 (.ref l) [y] (.ref l) [yv] (fun _ H'=>H'=upd H9 l (.lst (acc++[y]))) I9 rfl (.cons r9 .nil) ⟨l,acc,y,rfl,rfl,hl9,hz9,rfl⟩) fun _ s10 ⟨_,H10,I10,_,e10⟩=>?_
    subst e10
    exact again I10 q9
 exact codeAny_compStart_list loop (T.self X.A 0 _ _ _ st1 loop)
theorem Inv.gone {X:Cx}{pins:List (Addr × Obj)}{σ:St}{H:Hp}{s:Shared}{C:Addr}{h':Heap}(I:Inv X pins σ H s) (f:FpOk X pins H C) (sb:Heap.SameBut C s.heap h'):Inv X pins σ H { s with heap:=h' } :=
 I.turned (t':=s.toks) (fun b o hb e=>(sb.2 b hb).trans e) f.1 f.2.1 f.2.2.2.1 f.2.2.2.2.1 f.2.2.2.2.2
theorem pe_lc {X:Cx}{elt tg iter:Expr}{o:Option Expr}{scope:Scope}{pos:Pos}{wi:TI}{g:TG}{tt:TT}{te:TE}{N':List Str}{cap:List (Option Nat)}
  (hc:X.calm=true) (hi:PI X tg iter wi) (ck:CapOk X.N N' X.env.scope scope cap)
  (hg:∀ C s₀ H₀ fp pins,PG (zar X N' scope C s₀ H₀ fp pins) tg g)
  (ht:∀ C s₀ H₀ fp pins,PTo (zar X N' scope C s₀ H₀ fp pins) o tt)
  (he:∀ C s₀ H₀ fp pins,PE (zar X N' scope C s₀ H₀ fp pins) elt te)
  (hs:∀ x,foldedSetIterable iter X.env x=pure x:=by intro _;rfl) :
  PE X (.ListComp elt [⟨tg,iter,o.toList,0⟩] scope pos) (tLC cap wi g tt te):=by
 intro pins s σ H Q I h
 rw[eval_ListComp]
 exact zhr (use:=none) hc hi ck hg ht he hs I h fun l C H4 s5 m I5 q hn f=>⟨m,hn,fun h' sb=>⟨.ref l,H4,I5.gone f sb,rfl,q⟩⟩
theorem zc8 {X:Cx}{i:Nat}{y:Str}{elt tg iter:Expr}{o:Option Expr}{scope:Scope}{pos spos py:Pos}{wi:TI}{g:TG}{tt:TT}{te:TE}{N':List Str}{cap:List (Option Nat)}
  (hN:X.N.Nodup) (hi':X.N[i]?=some y) (hy:X.env.scope.names.lookup y=some .local) (hc:X.calm=true) (hi:PI X tg iter wi) (ck:CapOk X.N N' X.env.scope scope cap)
  (hg:∀ C s₀ H₀ fp pins,PG (zar X N' scope C s₀ H₀ fp pins) tg g)
  (ht:∀ C s₀ H₀ fp pins,PTo (zar X N' scope C s₀ H₀ fp pins) o tt)
  (he:∀ C s₀ H₀ fp pins,PE (zar X N' scope C s₀ H₀ fp pins) elt te)
  (hs:∀ x,foldedSetIterable iter X.env x=pure x:=by intro _;rfl)
  (hsw:swapsWith (.ListComp elt [⟨tg,iter,o.toList,0⟩] scope pos) (some (.Name y py)) spos.line X.env=pure true:=by with_unfolding_all rfl) :
  PS X (.Assign [.Name y py] (.ListComp elt [⟨tg,iter,o.toList,0⟩] scope pos) spos) (tAsg (tLC cap wi g tt te) (zeJ i)):=by
 intro pins s σ H D I h
 rw[exec_Assign_Name_used y py _ spos hsw]
 refine J0 (wpAny_standAt (J0 (J0 (thn (zhr (use:=some (assign (.Name y py) X.env)) (Q0:=fun _ z=>SP X pins D .next z) hc hi ck hg ht he hs I h fun l C H4 s5 m I5 q hn f=>?_) fun _ z hz=>J9 (J9 hz)))))
 refine wpAny_assign_Name (zdu (v:=.ref l) I5 hN hi' (.inl hy) rfl (fun s6 I6 ⟨a,sb,ha⟩=>?_) (.inr hy))
 have nC:C≠a:=by
  rcases ha with z|z
  ·rw[z];exact f.2.1
  ·exact fun w=>f.2.2.2.2.1 y a z w.symm
 have hn6:s6.heap.Ns C m:=hn.sameBut sb nC
 exact⟨m,hn6,fun h' sb'=>⟨_,H4,I6.gone f sb',q⟩⟩
end L2
namespace Own
open PySem PySem.Spec PyProof.Rows
section
variable {M:Model}{prog:Program}{w:World}{A:Around}{E:Value→Shared→Prop}{s:Shared}{α:Type}{Q:α→Shared→Prop}
theorem rf {a:Addr}{o:Obj}{vs:Array Value}{x:Value}{f:Value→Sem α}(k:Nat) (ho:s.heap.get? a=some o) (hd:o.data=.fields vs) (hx:vs[k]?=some x) (h:wpAny M A (f x) Q E s) :
  wpAny M A (field (.ref a) k >>= f) Q E s:=J0 (wpAny_field ho hd hx h)
theorem nx {T id:String}{B:Builtin}{it:Addr}{P:Value→Shared→Prop}(slot:Slot T "__next__" id) (ty:s.TypeIs (.ref it) T) (en:entryFor table id=some B) (ok:argsOk id ⟨[.ref it],[]⟩)
  (h:wpAny (model prog w) A.in1 (B ⟨[.ref it],[]⟩) (fun r s'=>∃ v,r=.done (.ret v)∧P v s') E s):wpAny (model prog w) A (Builtin.SmallTypes.nextOf (.ref it)) P E s:=by
 unfold Builtin.SmallTypes.nextOf;refine J0 (wpAny_callSpecial?_slot (name:="__next__") ty slot (wpAny_call_entry slot ty en (thn2 h) ok))
where
 thn2 {B':Sem Fin}{P:Value→Shared→Prop}{A':Around}(h:wpAny (model prog w) A' B' (fun r s'=>∃ v,r=.done (.ret v)∧P v s') E s) :
   wpAny (model prog w) A' B' (fun r s'=>∃ v,r=.done (.ret v)∧wpAny (model prog w) A (pure v) P E s') E s :=
  JK h (fun _ _ ⟨v,e,q⟩=>⟨v,e,J9 q⟩) fun _ _ z=>z
end
theorem ends {A:Around}{E:Value→Shared→Prop}{prog:Program}{w:World}{s:Shared}{α:Type}{Q:α→Shared→Prop}(hh:A.handled=none)
  (h:∀ h' x,(∀ b o,s.heap.get? b=some o→h'.get? b=some o)→(∃ o,h'.get? x=some o∧o.cls=.type "StopIteration")→E (.ref x) { s with heap:=h' }) :
  wpAny (model prog w) A (Builtin.SmallTypes.stopIteration:Sem α) Q E s:=by
 unfold Builtin.SmallTypes.stopIteration newExc newTuple
 refine J0 (J0 (JG ?_ (by size_fits)))
 refine J0 (wpAny_of_eq (a:=Value.none) (by rfl) (JG (wpAny_raiseNew_none hh (h _ _ (fun b o e=>?_) ⟨_,Jp _ rfl,rfl⟩)) (by size_fits)))
 exact J8 _ (J8 _ e)
def cN:Bool→String
 | true=>"list_iterator"
 | false=>"tuple_iterator"
abbrev RIt (b:Bool) (h:Heap) (it a:Addr) (i:Int):Prop:=h.get? it=some { cls:=.type (cN b),dict:=none,data:=.fields #[.ref a,.int i 0],slots:=#[] }
def SqO:Bool→Heap→Addr→Array Value→Prop
 | true,h,a,xs=>h.IsList a xs
 | false,h,a,xs=>h.IsTuple a xs
theorem SqO.ob {b:Bool}{h:Heap}{a:Addr}{xs:Array Value}(x:SqO b h a xs):∃ o n,h.get? a=some o∧o.data=.seq xs n:=by
 cases b<;>(obtain⟨o,e,_,n,d⟩:=x;exact⟨o,n,e,d⟩)
theorem SqO.mv {b:Bool}{h h':Heap}{a:Addr}{xs:Array Value}(x:SqO b h a xs) (k:∀ o,h.get? a=some o→h'.get? a=some o):SqO b h' a xs:=by
 cases b<;>(obtain⟨o,e,r⟩:=x;exact⟨o,k o e,r⟩)
theorem SqO.ne {b b':Bool}{h:Heap}{a it a':Addr}{i:Int}{xs:Array Value}(x:SqO b h a xs) (y:RIt b' h it a' i):a≠it:=fun z=>by
 obtain⟨o,n,e,d⟩:=x.ob
 rw[z,y]at e;cases e;cases d
section
variable {prog:Program}{w:World}{A:Around}{E:Value→Shared→Prop}{s:Shared}
theorem ty {b:Bool}{it a:Addr}{i:Int}(y:RIt b s.heap it a i):s.TypeIs (.ref it) (cN b):=⟨_,y,rfl⟩
theorem zen {b:Bool}{it a:Addr}{i:Nat}{xs:Array Value}{x:Value}{P:Value→Shared→Prop}{B:Builtin}(hB:B=match b with|true=>Builtin.«list_iterator.__next__»|false=>Builtin.«tuple_iterator.__next__»)
  (y:RIt b s.heap it a i) (sq:SqO b s.heap a xs) (hx:xs[i]?=some x) (h:∀ h',RIt b h' it a (i+1)→Heap.SameBut it s.heap h'→P x { s with heap:=h' }) :
  wpAny (model prog w) A (B ⟨[.ref it],[]⟩) (fun r s'=>∃ v,r=.done (.ret v)∧P v s') E s:=by
 obtain⟨o,n,e,d⟩:=sq.ob
 have fin:wpAny (model prog w) A (match xs[(i:Int).toNat]? with
   | some x=>(do setField (.ref it) 1 (rawInt ((i:Int)+1));ret x:Sem Fin)
   | none=>Builtin.SmallTypes.stopIteration) (fun r s'=>∃ v,r=.done (.ret v)∧P v s') E s:=by
  rw[Y7,hx]
  exact J0 (wpAny_setField_rec y (show 1<2 by decide) fun h' y' sb=>J9 ⟨x,rfl,h h' y' sb⟩)
 rw[Y7,hx]at fin
 subst hB
 cases b <;>
 ·refine rf 0 y rfl rfl (PyIte (show ¬((Value.ref a == Value.none)=true) from Jh) (rf 1 y rfl rfl (J0 (wpAny_seqItems e d ?_))))
  simp only[Y7,hx];exact fin
where
 PyIte {c:Prop} [Decidable c] {α:Type}{a b:Sem α}{M:Model}{A:Around}{Q:α→Shared→Prop}{E:Value→Shared→Prop}{s:Shared}(hc:¬ c) (h:wpAny M A b Q E s):wpAny M A (if c then a else b) Q E s:=by
  rw[Jc hc];exact h
theorem zdD {b:Bool}{it a:Addr}{i:Nat}{xs:Array Value}{Q:Fin→Shared→Prop}{B:Builtin}(hB:B=match b with|true=>Builtin.«list_iterator.__next__»|false=>Builtin.«tuple_iterator.__next__»)
  (hh:A.handled=none) (y:RIt b s.heap it a i) (sq:SqO b s.heap a xs) (hx:xs[i]?=none)
  (h:∀ h' x,(∀ c o,c≠it→s.heap.get? c=some o→h'.get? c=some o)→(∃ o,h'.get? x=some o∧o.cls=.type "StopIteration")→E (.ref x) { s with heap:=h' }) :
  wpAny (model prog w) A (B ⟨[.ref it],[]⟩) Q E s:=by
 obtain⟨o,n,e,d⟩:=sq.ob
 subst hB
 cases b <;>
 ·refine rf 0 y rfl rfl (zen.PyIte (show ¬((Value.ref a == Value.none)=true) from Jh) (rf 1 y rfl rfl (J0 (wpAny_seqItems e d ?_))))
  simp only[Y7,hx];refine J0 (wpAny_rule (J0 (wpAny_setField_rec y (show 0<2 by decide) fun h1 _ sb=>?_)))
  exact ends hh fun h2 x k z=>h h2 x (fun c o hc q=>k c o ((sb.2 c hc).trans q)) z
theorem zkl {b:Bool}{it a:Addr}{i:Nat}{xs:Array Value}{x:Value}{P:Value→Shared→Prop}(y:RIt b s.heap it a i) (sq:SqO b s.heap a xs) (hx:xs[i]?=some x)
  (h:∀ h',RIt b h' it a (i+1)→Heap.SameBut it s.heap h'→P x { s with heap:=h' }):wpAny (model prog w) A (Builtin.SmallTypes.nextOf (.ref it)) P E s:=by
 cases b
 ·exact nx F.slot_tuple_iterator_next (ty y) F.entry_tuple_iterator_next (F.args_tuple_iterator_next_1 _) (zen (b:=false) rfl y sq hx h)
 ·exact nx slot_listiter_next (ty y) entry_listiter_next (args_listiter_next _) (zen (b:=true) rfl y sq hx h)
theorem zhc {b:Bool}{it a:Addr}{i:Nat}{xs:Array Value}{P:Value→Shared→Prop}(hh:A.handled=none) (y:RIt b s.heap it a i) (sq:SqO b s.heap a xs) (hx:xs[i]?=none)
  (h:∀ h' x,(∀ c o,c≠it→s.heap.get? c=some o→h'.get? c=some o)→(∃ o,h'.get? x=some o∧o.cls=.type "StopIteration")→E (.ref x) { s with heap:=h' }) :
  wpAny (model prog w) A (Builtin.SmallTypes.nextOf (.ref it)) P E s:=by
 have inner:A.in1.handled=none:=hh
 cases b
 ·exact nx F.slot_tuple_iterator_next (ty y) F.entry_tuple_iterator_next (F.args_tuple_iterator_next_1 _) (zdD (b:=false) rfl inner y sq hx h)
 ·exact nx slot_listiter_next (ty y) entry_listiter_next (args_listiter_next _) (zdD (b:=true) rfl inner y sq hx h)
theorem zbX {b:Bool}{a:Addr}{xs:Array Value}{P:Value→Shared→Prop}(sq:SqO b s.heap a xs)
  (h:P (.ref s.heap.objs.size) { s with heap:=s.heap.push { cls:=.type (cN b),data:=.fields #[.ref a,.int 0 0] } }):wpAny (model prog w) A (pyIter (.ref a)) P E s:=by
 cases b
 ·exact wpAny_pyIter_tuple sq h
 ·exact wpAny_pyIter_list sq h
end
theorem draws {prog:Program}{w:World}{A:Around}(hh:A.handled=none) (b:Bool) (it a:Addr) (xs:Array Value) (hne:a≠it) :
  Draws prog w A it [it,a] xs.size (fun i v=>xs[i]?=some v) (fun i h=>RIt b h it a i∧SqO b h a xs) :=
 ⟨fun _ _ st=>⟨_,st.1⟩,fun _ _ _ st k=>⟨k it JD _ st.1,st.2.mv fun o e=>k a (JC _ JD) o e⟩,
  fun i s Q E hi st k=>zkl st.1 st.2 (YW hi) fun h' y sb=>k _ h' s.toks (YW hi) ⟨y,st.2.mv fun o e=>(sb.2 a hne).trans e⟩ sb,
  fun s Q E st k=>zhc hh st.1 st.2 (by simp) fun h' x kk z=>k h' x (fun c o hc q=>kk c o hc q) z⟩
theorem zja (b:Bool) (a:Addr) (o:Obj) (xs:Array Value) :
  Meets (Builtin.«enumerate.__new__» ⟨[.type "enumerate",.ref a],[]⟩) (fun _ R s=>s.heap.get? a=some o∧SqO b s.heap a xs ∧
   R (.ok (.ret (.ref (s.heap.push { cls:=.type (cN b),data:=.fields #[.ref a,.int 0 0] }).objs.size)))
    { s with heap:=(s.heap.push { cls:=.type (cN b),data:=.fields #[.ref a,.int 0 0] }).push { cls:=.type "enumerate",data:=.fields #[.none,.bool false,.ref s.heap.objs.size,rawInt 0,.none,.none] } }) :=
 .of_wp fun prog w A R s h=>by
  obtain⟨hp,g,d,tk,os⟩:=s;obtain⟨ho,sq,h⟩:=h
  have sub:=sub_enumerate
  have sq':SqO b (Shared.heap ⟨hp,g,d,tk,os⟩) a xs:=sq
  wp_walk using AutoSeq1.wpAny_loadPart' ho;refine wpAny_stack_any fun st=>J9 ?_
  split
  case h_1 c _ _ _ _ _ =>
   cases (c == Value.type "enumerate")<;>(wp_walk using AutoSeq1.wpAny_loadPart' ho,zbX sq';exact⟨_,rfl,h⟩)
  all_goals (wp_walk using AutoSeq1.wpAny_loadPart' ho,zbX sq';exact⟨_,rfl,h⟩)
theorem zh1 {prog:Program}{w:World}{A:Around}{E:Value→Shared→Prop}{s:Shared}{b:Bool}{a:Addr}{xs:Array Value}{P:Value→Shared→Prop}(sq:SqO b s.heap a xs)
  (h:∀ h' e it,s.heap.objs.size≤e→s.heap.objs.size≤it→e≠it→IsEnum h' e it 0 .none→RIt b h' it a 0→(∀ c o,s.heap.get? c=some o→h'.get? c=some o)→P (.ref e) { s with heap:=h' }) :
  wpAny (model prog w) A (call (.type "enumerate") [.ref a]) P E s:=by
 obtain⟨o,n,ho,_⟩:=sq.ob
 refine callType_new F.called_enumerate (by decide) (F.typeCall_enumerate_1 _) (F.newCall_enumerate_1 _) (fun obj=>F.args_object_init_2 obj _) F.entry_enumerate_new (zja b a o xs) ⟨ho,sq,⟨_,Jp _ rfl,rfl⟩,?_⟩
 refine h _ _ _ ?_ (Jg _) ?_ (Jp _ rfl) (J8 _ (Jp _ rfl)) fun c o e=>J8 _ (J8 _ e)
 ·rw[Heap.size_push];exact Nat.le_succ _
 ·rw[Heap.size_push];exact Nat.succ_ne_self _
structure Sep (z TI TO i1 i2:Addr) (f1 f2:List Addr):Prop where
 all:[z,TI,TO,i1,i2].Nodup
 z1:z∉f1
 t1:TO∉f1
 o1:i2∉f1
 z2:z∉f2
 t2:TO∉f2
 o2:i1∉f2
section
variable {prog:Program}{w:World}{A:Around}{E:Value→Shared→Prop}{s:Shared}{z TI TO i1 i2:Addr}{f1 f2:List Addr}{n1 n2 k:Nat}{P1 P2:Nat→Value→Prop}{S1 S2:Nat→Heap→Prop}{a b:Value}
theorem zic (S:Sep z TI TO i1 i2 f1 f2) (D1:Draws prog w A i1 f1 n1 P1 S1) (D2:Draws prog w A i2 f2 n2 P2 S2) {Q:Value→Shared→Prop}
  (hz:IsZip s.heap z TI TO .none) (hI:IsPair s.heap TI (.ref i1) (.ref i2)) (hO:IsPair s.heap TO a b) (d1:S1 k s.heap) (d2:S2 k s.heap) (l1:k<n1) (l2:k<n2)
  (h:∀ x y h' tk,P1 k x→P2 k y→IsZip h' z TI TO (rawInt s.heap.objs.size)→IsPair h' TO x y→S1 (k+1) h'→S2 (k+1) h'→IsPair h' s.heap.objs.size x y →
   (∀ c o,c∉[z,TO,i1,i2]→s.heap.get? c=some o→h'.get? c=some o)→Q (.ref s.heap.objs.size) { s with heap:=h',toks:=tk }) :
  wpAny (model prog w) A (Builtin.«zip.__next__» ⟨[.ref z],[]⟩) (fun r s'=>∃ v,r=.done (.ret v)∧Q v s') E s:=by
 have nd:=S.all
 simp only[JL,List.mem_cons,Jt,or_false,not_or]at nd
 obtain⟨⟨zI,zO,z1,z2⟩,⟨IO,I1,I2⟩,⟨O1,O2⟩,n12,_⟩:=nd
 refine rf 2 hz rfl rfl (rf 3 hz rfl rfl (J0 (wpAny_seqItems hI rfl (J0 (rf 0 hz rfl rfl (J9 ?_))))))
 simp only[if_true]
 refine J0 (wpAny_rule (rf 4 hz rfl rfl (J0 (wpAny_setField_rec hz (show 0<5 by decide) fun ha za sa=>J0 ?_))))
 have za':IsZip ha z TI TO .ellipsis:=za;simp only[List.zipIdx_cons,List.zipIdx_nil,Yy,Z7]
 refine J0 (J0 (wpAny_onRaise (J0 (D1.item k _ _ _ l1 (D1.frame _ _ _ d1 fun c hc o e=>(sa.2 c fun q=>S.z1 (q ▸ hc)).trans e) fun x hb tb px db sb=>J9 ?_))))
 have Ob:IsPair hb TO a b:=(sb.2 TO O1).trans ((sa.2 TO (Ne.symm zO)).trans hO)
 refine J0 (wpAny_seqItems Ob rfl (J0 (wpAny_updateSeq_pair Ob fun hc Oc sc=>J0 (Zg (J9 ?_)))))
 have Oc':IsPair hc TO x b:=Oc
 have st2:S2 k hc:=D2.frame _ _ _ d2 fun c hm o e=>(sc.2 c fun q=>S.t2 (q ▸ hm)).trans ((sb.2 c fun q=>S.o2 (q ▸ hm)).trans ((sa.2 c fun q=>S.z2 (q ▸ hm)).trans e))
 refine J0 (J0 (wpAny_onRaise (J0 (D2.item k _ _ _ l2 st2 fun y hd td py dd sd=>J9 ?_))))
 have Od:IsPair hd TO x b:=(sd.2 TO O2).trans Oc'
 refine J0 (wpAny_seqItems Od rfl (J0 (wpAny_updateSeq_pair Od fun he Oe se=>J0 (Zg (J9 (J9 ?_))))))
 have Oe':IsPair he TO x y:=Oe
 refine J0 (wpAny_seqItems Oe' rfl (J0 (wpAny_newTuple (J0 ?_))))
 have sz:he.objs.size=s.heap.objs.size:=by rw[se.1,sd.1,sc.1,sb.1,sa.1]
 have ze:IsZip he z TI TO .ellipsis:=(se.2 z zO).trans ((sd.2 z z2).trans ((sc.2 z zO).trans ((sb.2 z z1).trans za')))
 have zn:he.objs.size≠z:=Yz (Jn ze)
 unfold Builtin.SmallTypes.ownedTupleHandOut;refine J0 (wpAny_setField_rec (J8 _ ze) (show 0<5 by decide) fun hf zf sf=>wpAny_setField_rec zf (show 1<5 by decide) fun hg zg sg=>J9 ⟨_,rfl,?_⟩)
 have up:∀ c o,c≠z→he.get? c=some o→hg.get? c=some o:=fun c o q e=>(sg.2 c q).trans ((sf.2 c q).trans (J8 _ e))
 have new:IsPair hg he.objs.size x y:=(sg.2 _ zn).trans ((sf.2 _ zn).trans (Jp _ rfl))
 have zg':IsZip hg z TI TO (rawInt he.objs.size):=zg
 rw[sz]at new zg'
 show Q (.ref he.objs.size) _
 rw[sz]
 refine h x y hg td px py zg' (up _ _ (Ne.symm zO) Oe') ?_ ?_ new fun c o hc e=>?_
 ·exact D1.frame _ _ _ db fun c hm o e=>up c o (fun q=>S.z1 (q ▸ hm)) ((se.2 c fun q=>S.t1 (q ▸ hm)).trans ((sd.2 c fun q=>S.o1 (q ▸ hm)).trans ((sc.2 c fun q=>S.t1 (q ▸ hm)).trans e)))
 ·exact D2.frame _ _ _ dd fun c hm o e=>up c o (fun q=>S.z2 (q ▸ hm)) ((se.2 c fun q=>S.t2 (q ▸ hm)).trans e)
 ·simp only[List.mem_cons,Jt,or_false,not_or]at hc
  obtain⟨c1,c2,c3,c4⟩:=hc
  exact up c o c1 ((se.2 c c2).trans ((sd.2 c c4).trans ((sc.2 c c2).trans ((sb.2 c c3).trans ((sa.2 c c1).trans e)))))
end
section
variable {prog:Program}{w:World}{A:Around}{E:Value→Shared→Prop}{s:Shared}{z TI TO i1 i2:Addr}{f1 f2:List Addr}{n1 n2 k:Nat}{P1 P2:Nat→Value→Prop}{S1 S2:Nat→Heap→Prop}{a b:Value}
theorem zib (S:Sep z TI TO i1 i2 f1 f2) (D1:Draws prog w A i1 f1 n1 P1 S1) {Q:Fin→Shared→Prop}(hz:IsZip s.heap z TI TO .none) (hI:IsPair s.heap TI (.ref i1) (.ref i2)) (d1:S1 n1 s.heap)
  (h:∀ h' x,(∀ c o,c∉[z,TO,i1,i2]→s.heap.get? c=some o→h'.get? c=some o)→(∃ o,h'.get? x=some o∧o.cls=.type "StopIteration")→E (.ref x) { s with heap:=h' }):wpAny (model prog w) A (Builtin.«zip.__next__» ⟨[.ref z],[]⟩) Q E s:=by
 have nd:=S.all
 simp only[JL,List.mem_cons,Jt,or_false,not_or]at nd
 obtain⟨⟨zI,zO,z1,z2⟩,⟨IO,I1,I2⟩,⟨O1,O2⟩,n12,_⟩:=nd
 refine rf 2 hz rfl rfl (rf 3 hz rfl rfl (J0 (wpAny_seqItems hI rfl (J0 (rf 0 hz rfl rfl (J9 ?_))))))
 simp only[if_true]
 refine J0 (wpAny_rule (rf 4 hz rfl rfl (J0 (wpAny_setField_rec hz (show 0<5 by decide) fun ha za sa=>J0 ?_))))
 have za':IsZip ha z TI TO .ellipsis:=za;simp only[List.zipIdx_cons,List.zipIdx_nil,Yy,Z7]
 refine J0 (J0 (wpAny_onRaise (J0 (D1.done _ _ _ (D1.frame _ _ _ d1 fun c hc o e=>(sa.2 c fun q=>S.z1 (q ▸ hc)).trans e) fun hb x kb ⟨ox,ex,cx⟩=>?_))))
 have zb:IsZip hb z TI TO .ellipsis:=kb z _ z1 za'
 have xz:x≠z:=fun q=>by rw[q,zb]at ex;cases ex;exact absurd (show Value.type "zip" = Value.type "StopIteration" from cx) (by decide)
 refine wpAny_setField_rec zb (show 0<5 by decide) fun hc _ sc=>h hc x (fun c o hm e=>?_) ⟨ox,(sc.2 x xz).trans ex,cx⟩
 simp only[List.mem_cons,Jt,or_false,not_or]at hm
 exact(sc.2 c hm.1).trans (kb c o hm.2.2.1 ((sa.2 c hm.1).trans e))
end
theorem zjE (b1 b2:Bool) (a1 a2:Addr) (xs ys:Array Value):Meets (Builtin.«zip.__new__» ⟨[.type "zip",.ref a1,.ref a2],[]⟩) (fun _ R s=>SqO b1 s.heap a1 xs∧SqO b2 s.heap a2 ys ∧
  ∀ h' z,(∃ TI TO i1 i2,[z,TI,TO,i1,i2].Nodup∧(∀ c∈[z,TI,TO,i1,i2],s.heap.objs.size≤c)∧IsZip h' z TI TO .none∧IsPair h' TI (.ref i1) (.ref i2)∧IsPair h' TO .none .none∧RIt b1 h' i1 a1 0∧RIt b2 h' i2 a2 0) →
   (∀ c o,s.heap.get? c=some o→h'.get? c=some o)→R (.ok (.ret (.ref z))) { s with heap:=h' }) :=
 .of_wp fun prog w A R s h=>by
  obtain⟨hp,g,d,tk,os⟩:=s;obtain⟨q1,q2,h⟩:=h
  have sub:=sub_zip
  have r1:SqO b1 (Shared.heap ⟨hp,g,d,tk,os⟩) a1 xs:=q1
  have r2:SqO b2 (Shared.heap ⟨hp.push { cls:=.type (cN b1),data:=.fields #[.ref a1,.int 0 0] },g,d,tk,os⟩) a2 ys:=q2.mv fun o e=>J8 _ e
  wp_walk using zbX r1,zbX r2
  refine⟨_,rfl,h _ _ ⟨_,_,_,_,?_,?_,Jp _ rfl,J8 _ (J8 _ (Jp _ rfl)),J8 _ (Jp _ rfl),
   J8 _ (J8 _ (J8 _ (J8 _ (Jp _ rfl)))),J8 _ (J8 _ (J8 _ (Jp _ rfl)))⟩ fun c o e=>?_⟩
  ·simp only[Heap.size_push,JL,List.mem_cons,Jt,or_false,not_or]
   simp<;>lia
  ·simp only[Heap.size_push,List.mem_cons,Jt,or_false]
   intro c hc
   have:hp.objs.size≤c:=by lia
   exact this
  ·exact J8 _ (J8 _ (J8 _ (J8 _ (J8 _ e))))
end Own
namespace L2
open PySem PySem.Spec PyProof.Rows Own
section
variable {X:Cx}{pins:List (Addr × Obj)}{σ:St}{H:Hp}{s:Shared}{h':Heap}
theorem Inv.spunN {fp:List Addr}{T:Addr}{o:HO}{t':Nat}(I:Inv X pins σ H s) (k:∀ b o,b∉fp→s.heap.get? b=some o→h'.get? b=some o) (hf:∀ b∈fp,FpOk X pins H b) (hT:s.heap.objs.size≤T)
  (new:ObjOk X.prog X.w (upd H T o) h' T o):Inv X pins σ (upd H T o) { s with heap:=h',toks:=t' }:=by
 have hn:H T=none:=I.hok.fresh hT
 have neT:∀ b u,s.heap.get? b=some u→b≠T:=fun b u e=>JB (JF (Jn e) hT)
 have nfp:∀ b u,H b=some u→b∉fp:=fun b u e hb=>by rw[(hf b hb).1]at e;cases e
 refine I.step (g':=s.gens) (d':=s.drawn) (ch:=fp) (fun b hb=>?_) (fun b o _ _ hc e _=>k b o hc e) (fun b o _ _ hc e _=>⟨o.slots,k b o hc e⟩) (fun b o _ e n=>by rw[zad (neT b o e)];exact n)
  (fun b o hc e=>⟨o,k b o hc e⟩) (fun b xs e=>by rw[zad (zab e hn)];exact e) (fun b o u e=>by rw[zad (zab e hn)];exact e) (fun b ps e=>⟨#[],by rw[zad (zab e hn),e];simp⟩) (fun m hm=>?_) (fun b u e=>?_) I.bare
 ·obtain⟨f0,f1,f2,f3,f4,f5⟩:=hf b hb
  exact⟨f3,f1,f4,f5⟩
 ·obtain⟨o,es,ep,ho,r⟩:=hm
  exact⟨o,es,ep,k _ o (fun hb=>(hf _ hb).2.1 rfl) ho,r⟩
 ·by_cases hb:b=T
  ·subst hb;rw[zac]at e;cases e;exact new
  ·rw[zad hb]at e
   refine(I.hok b u e).stay (fun c v hc q=>k c v ?_ q) (fun c q=>by rw[zad (zab q hn)];exact q) fun c xs q=>by rw[zad (zab q hn)];exact q
   rcases hc with z|z
   ·rw[z];exact nfp b u e
   ·exact nfp c _ z
theorem Inv.spun {fp:List Addr}{t':Nat}(I:Inv X pins σ H s) (k:∀ b o,b∉fp→s.heap.get? b=some o→h'.get? b=some o) (hf:∀ b∈fp,FpOk X pins H b):Inv X pins σ H { s with heap:=h',toks:=t' }:=by
 have nfp:∀ b u,H b=some u→b∉fp:=fun b u e hb=>by rw[(hf b hb).1]at e;cases e
 refine I.step (g':=s.gens) (d':=s.drawn) (ch:=fp) (fun b hb=>?_) (fun b o _ _ hc e _=>k b o hc e) (fun b o _ _ hc e _=>⟨o.slots,k b o hc e⟩) (fun b o _ e n=>n)
  (fun b o hc e=>⟨o,k b o hc e⟩) (fun b xs e=>e) (fun b o u e=>e) (fun b ps e=>⟨#[],by rw[e];simp⟩) (fun m hm=>?_) (fun b u e=>?_) I.bare
 ·obtain⟨f0,f1,f2,f3,f4,f5⟩:=hf b hb
  exact⟨f3,f1,f4,f5⟩
 ·obtain⟨o,es,ep,ho,r⟩:=hm
  exact⟨o,es,ep,k _ o (fun hb=>(hf _ hb).2.1 rfl) ho,r⟩
 ·refine(I.hok b u e).stay (fun c v hc q=>k c v ?_ q) (fun c q=>q) fun c xs q=>q
  rcases hc with z|z
  ·rw[z];exact nfp b u e
  ·exact nfp c _ z
end
def SqB:Bool→PySem.W.Frag→Hp→Addr→List V→Prop
 | true,K,H,a,xs=>SqL K H a xs
 | false,K,H,a,xs=>SqT K H a xs
section
variable {X:Cx}{pins:List (Addr × Obj)}{σ:St}{H:Hp}{s:Shared}{a c:Addr}{xs ys:List V}{b:Bool}
theorem Inv.sq (I:Inv X pins σ H s) (h:SqB b X.K H a xs):∃ its:List Value,Vals xs its∧SqO b s.heap a its.toArray:=by
 cases b
 ·obtain⟨its,r,p,z⟩:=I.tuple h
  exact⟨its,r,p⟩
 ·obtain⟨its,r,p,z⟩:=I.list h
  exact⟨its,r,p.isList⟩
theorem Inv.sq_inj (I:Inv X pins σ H s) (h:SqB b X.K H a xs) (h':SqB b X.K H a ys):xs=ys:=by
 cases b
 ·exact I.tuple_inj h h'
 ·exact I.list_inj h h'
theorem Inv.sq_ne (I:Inv X pins σ H s) (h:SqB b X.K H a xs) (f:FpOk X pins H c):c≠a:=by
 rintro rfl
 have inK:∀ o,X.K.lookup c=some o→False:=fun o e=>by
  have e1:=I.ok.mod.kin c o e
  rcases f.2.2.2.1 with z|z
  ·exact I.ok.noex c o e1 z
  ·exact absurd (JF (Jn e1) (JY I.ok.bsz z)) (Ym _)
 cases b <;>
 ·rcases h with (h|⟨o,h⟩)|⟨o,_,_,e,_⟩
  ·rw[f.1]at h;cases h
  ·rw[f.1]at h;cases h
  ·exact inK o e
end
def Pr (v u:V) (H:Hp) (x:V) (H':Hp):Prop:=∃ T,H T=none∧x=.ref T∧H'=upd H T (.tup [v,u])
theorem zes {P:Program}{w:World}{H:Hp}{h:Heap}{T:Addr}{v u:V}{a b:Value}(e:IsPair h T a b) (rv:RelV v a) (ru:RelV u b):ObjOk P w (upd H T (.tup [v,u])) h T (.tup [v,u]) :=
 ⟨show 2≤sizeLine by decide,[a,b],.cons rv (.cons ru .nil),⟨_,e,rfl,_,rfl,rfl⟩⟩
def Ite (K:PySem.W.Frag) (b:Bool) (a:Addr):It :=
 ⟨fun i H=>∃ xs x,SqB b K H a xs∧xs[i]?=some x,fun i H x H'=>∃ y,(∀ xs,SqB b K H a xs→xs[i]?=some y)∧Pr (.int i) y H x H',fun i H=>∃ xs,SqB b K H a xs∧xs.length=i⟩
theorem zgq {P:Program}{w:World}{K:PySem.W.Frag}{es:List Expr}{k1} {p1:Pos}(b:Bool) (a e it:Addr) (hne:e≠it):Turn P w K (.Tuple es k1 p1) (Ite K b a) [e,it] e (fun i h=>(∃ old,IsEnum h e it i old)∧RIt b h it a i) where
 mem:=JD
 obj:=fun i h ⟨⟨old,he⟩,hi⟩ c hc=>by
  rcases List.mem_cons.mp hc with q|q
  ·rw[q];exact⟨_,he,fun v z=>by cases z⟩
  ·rw[Jd.mp q];exact⟨_,hi,fun v z=>by cases z⟩
 keep:=fun i h h' ⟨⟨old,he⟩,hi⟩ kk=>⟨⟨old,kk e (by simp) _ he⟩,kk it (by simp) _ hi⟩
 item:=by
  intro X hP hw hK hc i pins s σ H E I hf ⟨⟨old,he⟩,hi⟩ ⟨xs,x,hq,hx⟩
  subst hP hw hK
  obtain⟨its,rv,p⟩:=I.sq hq
  obtain⟨u,hu,ru⟩:=rv.get hx
  have hlt:i<its.toArray.size:=by simpa using (Je.mp hu).1
  refine wpAny_pyNext_enum_itemD (draws (prog:=X.prog) (w:=X.w) (A:=X.A.in1) (I.ok.hd hc) b it a its.toArray (p.ne hi)) he ⟨hi,p⟩ hlt hne (by simp[hne,I.sq_ne hq (hf e (by simp))]) fun v h1 tk hv ho hs hT _ hk=>?_
  obtain rfl:u=v:=Option.some.inj (hu.symm.trans (by simpa using hv))
  refine⟨_,rfl,wpAny_letOwnedTupleGo_enum ho fun h2 he2 s2=>?_⟩
  have nT:s.heap.objs.size≠e:=Yz (Jn he)
  have nI:s.heap.objs.size≠it:=Yz (Jn hi)
  refine⟨.ref s.heap.objs.size,_,I.spunN (fp:=[e,it]) (fun c o hm q=>?_) hf (Jg _) (zes (v:=.int i) (u:=x) ((s2.2 _ nT).trans hT) ⟨tk,rfl⟩ ru),rfl,⟨x,fun ys hy=>by rw[I.sq_inj hy hq];exact hx,_,I.fresh,rfl,rfl⟩,⟨⟨_,he2⟩,(s2.2 it (Ne.symm hne)).trans hs.1⟩,fun c hm=>?_⟩
  ·have c1:c≠e:=fun z=>hm (by simp[z])
   exact(s2.2 c c1).trans (hk c o c1 (fun z=>hm (by simp[z])) q)
  ·rw[zad,(hf c hm).1]
   rintro rfl
   rcases List.mem_cons.mp hm with z|z
   ·exact nT z
   ·exact nI (Jd.mp z)
 done:=by
  intro X hP hw hK hc i pins s σ H E I hf ⟨⟨old,he⟩,hi⟩ ⟨xs,hq,hx⟩
  subst hP hw hK
  obtain⟨its,rv,p⟩:=I.sq hq
  have hz:i=its.toArray.size:=by rw[Jj,← rv.length,hx]
  refine wpAny_pyNext_enum_endD (draws (prog:=X.prog) (w:=X.w) (A:=X.A.in1) (I.ok.hd hc) b it a its.toArray (p.ne hi)) he ⟨by rw[← hz];exact hi,p⟩ fun h' eb=>⟨rfl,I.spun (t':=s.toks) (fp:=[e,it]) (fun c o hm q=>eb c o (fun z=>hm (by simp[z])) q) hf⟩
 self:=fun _ _ _ _ _ ⟨⟨_,he⟩,_⟩ h=>wpAny_pyIter_enum he h
def zlT (K:PySem.W.Frag) (b:Bool) (ta:TA):TI:=fun σ H R=>ta σ H fun vs H1=>∃ a xs,vs=[.ref a]∧SqB b K H1 a xs∧R (Ite K b a) H1
theorem zer {X:Cx}{a:Expr}{ta:TA}{p pos p1:Pos}{es:List Expr}{k1} (b:Bool) (hg:Gl X "enumerate") (hm:X.mg "enumerate" = none) (ha:PA X [a] ta) (hs:starEach [a] X.env=[(false,eval a X.env)]:=by rfl) :
  PI X (.Tuple es k1 p1) (.Call (.Name "enumerate" p) [a] [] pos) (zlT X.K b ta):=by
 intro pins s σ H R I h
 refine Call_ (zbD I hg hm (u:=.type "enumerate") (by rfl) (PyProof.Rows.callWith_type1 (thn (ha pos pins s σ H _ I h) fun us s1 ⟨vs,H1,I1,r1,q1⟩=>?_) hs rfl))
 obtain⟨a',xs,rfl,hq,q⟩:=q1
 obtain⟨u,rfl,ru⟩:=r1.one
 cases ru
 obtain⟨its,rv,pl⟩:=I1.sq hq
 refine zh1 pl fun h' e it l1 l2 ne he hi hk=>wpAny_pyIter_enum he ⟨_,[e,it],_,_,H1,rfl,I1.kept (t':=s1.toks) hk,zgq b a' e it ne,⟨⟨_,he⟩,hi⟩,fun c hc=>?_,q⟩
 have hc':s1.heap.objs.size≤c:=by
  rcases List.mem_cons.mp hc with z|z
  ·rw[z];exact l1
  ·rw[Jd.mp z];exact l2
 exact I1.fpOk hc' (I1.hok.fresh hc')
def Itz (K:PySem.W.Frag) (b1 b2:Bool) (a1 a2:Addr):It :=
 ⟨fun i H=>∃ xs ys x y,SqB b1 K H a1 xs∧SqB b2 K H a2 ys∧xs[i]?=some x∧ys[i]?=some y,fun i H v H'=>∃ x y,(∀ xs,SqB b1 K H a1 xs→xs[i]?=some x)∧(∀ ys,SqB b2 K H a2 ys→ys[i]?=some y)∧Pr x y H v H',
  fun i H=>∃ xs,SqB b1 K H a1 xs∧xs.length=i⟩
theorem zie {P:Program}{w:World}{K:PySem.W.Frag}{es:List Expr}{k1} {p1:Pos}(b1 b2:Bool) (a1 a2 z TI TO i1 i2:Addr) (nd:[z,TI,TO,i1,i2].Nodup) :
  Turn P w K (.Tuple es k1 p1) (Itz K b1 b2 a1 a2) [z,TI,TO,i1,i2] z (fun i h=>IsZip h z TI TO .none∧IsPair h TI (.ref i1) (.ref i2)∧(∃ a b,IsPair h TO a b)∧RIt b1 h i1 a1 i∧RIt b2 h i2 a2 i) where
 mem:=JD
 obj:=fun i h ⟨hz,hI,⟨a,b,hO⟩,h1,h2⟩ c hc=>by
  simp only[List.mem_cons,Jt,or_false]at hc
  rcases hc with rfl|rfl|rfl|rfl|rfl
  ·exact⟨_,hz,fun v q=>by cases q⟩
  ·exact⟨_,hI,fun v q=>by cases q⟩
  ·exact⟨_,hO,fun v q=>by cases q⟩
  ·exact⟨_,h1,fun v q=>by cases q⟩
  ·exact⟨_,h2,fun v q=>by cases q⟩
 keep:=fun i h h' ⟨hz,hI,⟨a,b,hO⟩,h1,h2⟩ kk=>⟨kk z (by simp) _ hz,kk TI (by simp) _ hI,⟨a,b,kk TO (by simp) _ hO⟩,kk i1 (by simp) _ h1,kk i2 (by simp) _ h2⟩
 item:=by
  intro X hP hw hK hc i pins s σ H E I hf ⟨hz,hI,⟨a,b,hO⟩,h1,h2⟩ ⟨xs,ys,x,y,q1,q2,hx,hy⟩
  subst hP hw hK
  obtain⟨u1,r1,p1⟩:=I.sq q1
  obtain⟨u2,r2,p2⟩:=I.sq q2
  obtain⟨v1,e1,rx⟩:=r1.get hx
  obtain⟨v2,e2,ry⟩:=r2.get hy
  have nd':=nd
  simp only[JL,List.mem_cons,Jt,or_false,not_or]at nd'
  obtain⟨⟨zI,zO,z1,z2⟩,⟨IO,I1,I2⟩,⟨O1,O2⟩,n12,_⟩:=nd'
  have na1:∀ c∈[z,TI,TO,i1,i2],c≠a1:=fun c hm=>I.sq_ne q1 (hf c hm)
  have na2:∀ c∈[z,TI,TO,i1,i2],c≠a2:=fun c hm=>I.sq_ne q2 (hf c hm)
  have S:Sep z TI TO i1 i2 [i1,a1] [i2,a2]:=⟨nd,by simp[z1,na1 z (by simp)],by simp[O1,na1 TO (by simp)],by simp[Ne.symm n12,na1 i2 (by simp)],by simp[z2,na2 z (by simp)],by simp[O2,na2 TO (by simp)],by simp[n12,na2 i1 (by simp)]⟩
  have hd:=I.ok.hd hc
  have D1:=draws (prog:=X.prog) (w:=X.w) (A:=X.A.in1) hd b1 i1 a1 u1.toArray (p1.ne h1)
  have D2:=draws (prog:=X.prog) (w:=X.w) (A:=X.A.in1) hd b2 i2 a2 u2.toArray (p2.ne h2)
  have tyz:s.TypeIs (.ref z) "zip":=⟨_,hz,rfl⟩
  unfold pyNext
  refine J0 (wpAny_attempt (wpAny_callSpecial?_slot (name:="__next__") tyz F.slot_zip_next (wpAny_call_entry F.slot_zip_next tyz F.entry_zip_next (zic S D1 D2 hz hI hO ⟨h1,p1⟩ ⟨h2,p2⟩ (by simpa using (Je.mp e1).1) (by simpa using (Je.mp e2).1)
   fun w1 w2 h' tk hw1 hw2 zh Oh d1 d2 new hk=>J9 ?_) (F.args_zip_next_1 _))))
  obtain rfl:v1=w1:=Option.some.inj (e1.symm.trans (by simpa using hw1))
  obtain rfl:v2=w2:=Option.some.inj (e2.symm.trans (by simpa using hw2))
  refine⟨_,rfl,wpAny_letOwnedTupleGo_zip zh fun h3 z3 s3=>?_⟩
  have nz:s.heap.objs.size≠z:=Yz (Jn hz)
  have far:∀ c∈[z,TI,TO,i1,i2],c≠s.heap.objs.size:=fun c hm=>by
   simp only[List.mem_cons,or_false,Jt]at hm
   rcases hm with rfl|rfl|rfl|rfl|rfl
   ·exact JB (Jn hz)
   ·exact JB (Jn hI)
   ·exact JB (Jn hO)
   ·exact JB (Jn h1)
   ·exact JB (Jn h2)
  refine⟨.ref s.heap.objs.size,_,I.spunN (fp:=[z,TI,TO,i1,i2]) (fun c o hm q=>?_) hf (Jg _) (zes ((s3.2 _ nz).trans new) rx ry),rfl,⟨x,y,fun l hl=>by rw[I.sq_inj hl q1];exact hx,fun l hl=>by rw[I.sq_inj hl q2];exact hy,_,I.fresh,rfl,rfl⟩,
   ⟨z3,(s3.2 _ (Ne.symm zI)).trans (hk TI _ (by simp[Ne.symm zI,IO,I1,I2]) hI),⟨_,_,(s3.2 _ (Ne.symm zO)).trans Oh⟩,(s3.2 _ (Ne.symm z1)).trans d1.1,(s3.2 _ (Ne.symm z2)).trans d2.1⟩,fun c hm=>by rw[zad (far c hm),(hf c hm).1]⟩
  simp only[List.mem_cons,Jt,or_false,not_or]at hm
  exact(s3.2 c hm.1).trans (hk c o (by simp[hm]) q)
 done:=by
  intro X hP hw hK hc i pins s σ H E I hf ⟨hz,hI,⟨a,b,hO⟩,h1,h2⟩ ⟨xs,q1,hx⟩
  subst hP hw hK
  obtain⟨u1,r1,p1⟩:=I.sq q1
  have nd':=nd
  simp only[JL,List.mem_cons,Jt,or_false,not_or]at nd'
  obtain⟨⟨zI,zO,z1,z2⟩,⟨IO,I1,I2⟩,⟨O1,O2⟩,n12,_⟩:=nd'
  have na1:∀ c∈[z,TI,TO,i1,i2],c≠a1:=fun c hm=>I.sq_ne q1 (hf c hm)
  have S:Sep z TI TO i1 i2 [i1,a1] [i2]:=⟨nd,by simp[z1,na1 z (by simp)],by simp[O1,na1 TO (by simp)],by simp[Ne.symm n12,na1 i2 (by simp)],by simp[z2],by simp[O2],by simp[n12]⟩
  have hsz:i=u1.toArray.size:=by rw[Jj,← r1.length,hx]
  have tyz:s.TypeIs (.ref z) "zip":=⟨_,hz,rfl⟩
  unfold pyNext
  refine J0 (wpAny_attempt (wpAny_callSpecial?_slot (name:="__next__") tyz F.slot_zip_next (wpAny_call_entry F.slot_zip_next tyz F.entry_zip_next
   (zib S (draws (prog:=X.prog) (w:=X.w) (A:=X.A.in1) (I.ok.hd hc) b1 i1 a1 u1.toArray (p1.ne h1)) hz hI ⟨by rw[← hsz];exact h1,p1⟩ fun h' x hk ⟨o,eo,co⟩=>?_) (F.args_zip_next_1 _))))
  refine J0 (wpAny_isInstance (T:="StopIteration") (b:=true) ⟨o,eo,co⟩ isSubtype_stop (J9 ⟨rfl,I.spun (t':=s.toks) (fp:=[z,TI,TO,i1,i2]) (fun c o hm q=>hk c o ?_ q) hf⟩))
  simp only[List.mem_cons,Jt,or_false,not_or]at hm ⊢
  exact⟨hm.1,hm.2.2.1,hm.2.2.2.1,hm.2.2.2.2⟩
 self:=fun _ _ _ _ _ st h=>wpAny_pyIter_zip st.1 h
def iZip (K:PySem.W.Frag) (b1 b2:Bool) (ta:TA):TI:=fun σ H R=>ta σ H fun vs H1=>∃ a1 a2 xs ys,vs=[.ref a1,.ref a2]∧SqB b1 K H1 a1 xs∧SqB b2 K H1 a2 ys∧R (Itz K b1 b2 a1 a2) H1
theorem zjt {X:Cx}{a b:Expr}{ta:TA}{p pos p1:Pos}{es:List Expr}{k1} (b1 b2:Bool) (hg:Gl X "zip") (hm:X.mg "zip" = none) (ha:PA X [a,b] ta) (hs:starEach [a,b] X.env=[(false,eval a X.env),(false,eval b X.env)]:=by rfl) (hs2:starEach [b] X.env=[(false,eval b X.env)]:=by rfl) :
  PI X (.Tuple es k1 p1) (.Call (.Name "zip" p) [a,b] [] pos) (iZip X.K b1 b2 ta):=by
 intro pins s σ H R I h
 refine Call_ (zbD I hg hm (u:=.type "zip") (by rfl) (PyProof.Rows.callWith_type1 (thn (ha pos pins s σ H _ I h) fun us s1 ⟨vs,H1,I1,r1,q1⟩=>?_) (by rw[hs,hs2]) (by rw[hs2];rfl)))
 obtain⟨a1,a2,xs,ys,rfl,hq1,hq2,q⟩:=q1
 obtain⟨u,v,rfl,ru,rv⟩:=r1.two
 cases ru
 cases rv
 obtain⟨its,_,pl1⟩:=I1.sq hq1
 obtain⟨jts,_,pl2⟩:=I1.sq hq2
 refine callType_new F.called_zip (by decide) (F.typeCall_zip_2 _ _) (F.newCall_zip_2 _ _) (fun obj=>F.args_object_init_3 obj _ _) F.entry_zip_new (zjE b1 b2 a1 a2 its.toArray jts.toArray) ⟨pl1,pl2,fun h' z ⟨TI,TO,i1,i2,nd,far,hz,hI,hO,h1,h2⟩ hk=>⟨⟨_,hz,rfl⟩,?_⟩⟩
 exact wpAny_pyIter_zip hz ⟨_,[z,TI,TO,i1,i2],_,_,H1,rfl,I1.kept (t':=s1.toks) hk,zie b1 b2 a1 a2 z TI TO i1 i2 nd,⟨hz,hI,⟨_,_,hO⟩,h1,h2⟩,fun c hc=>I1.fpOk (far c hc) (I1.hok.fresh (far c hc)),q⟩
section
variable {X:Cx}
theorem zkK {prog:Program}{w:World}{A:Around}(hh:A.handled=none) (b:Bool) (I a:Addr) (hne:a≠I) (xs:Array Value) :
  Walks prog w A I [I,a] [I] xs.size (fun i v=>xs[i]?=some v) (fun i h=>(match b with|true=>h.IsListIter I a i|false=>h.IsTupleIter I a i)∧SqO b h a xs):=by
 cases b
 ·exact Walks.tuple hh I a hne xs
 ·exact Walks.list hh I a hne xs
theorem call_allB (hc:X.calm=true) (b:Bool):CallR X (.builtin "all") (fun vs H Q=>∃ a bs,vs=[.ref a]∧SqB b X.K H a (List.map V.bl bs)∧Q (.bl (bs.all id)) H):=by
 intro pins s σ H vs us Q I rv h
 obtain⟨a,bs,rfl,hq,q⟩:=h
 obtain⟨u,rfl,ru⟩:=rv.one
 cases ru
 obtain⟨its,r,p⟩:=I.sq hq
 have hne:a≠s.heap.objs.size:=by
  obtain⟨o,n,e,_⟩:=p.ob
  exact JB (Jn e)
 have hl:its.length=bs.length:=by rw[← r.length,Jm]
 refine call_all_walk (zbX p ⟨s.heap.objs.size,[s.heap.objs.size,a],[s.heap.objs.size],_,_,_,fun i=>bs.getD i true,rfl,zkK (show X.A.in1.handled=none from I.ok.hd hc) b _ a hne its.toArray,?_,?_,?_⟩)
 ·refine⟨?_,p.mv fun o e=>J8 _ e⟩
  cases b<;>exact⟨_,Jp _ rfl,rfl,rfl⟩
 ·intro i v s' Q' E' hv hQ
  have hv':its[i]?=some v:=by simpa using hv
  have hi:=(Je.mp hv').1
  have e:(List.map V.bl bs)[i]?=some (V.bl (bs.getD i true)):=by
   rw[JR,Jb,J7 (by lia)]
   rfl
  obtain⟨u',e',ru⟩:=r.get e
  rw[hv']at e'
  obtain rfl:=Option.some.inj e'
  obtain rfl:v=Value.bool (bs.getD i true):=ru
  exact YH hQ
 ·intro h' tk hk
  refine⟨.bl (bs.all id),H,I.kept (t':=tk) fun c o e=>hk c o ?_ (J8 _ e),?_,q⟩
  ·exact fun z=>JB (Jn e) (Jd.mp z)
  ·show Value.bool _=Value.bool _
   congr 1
   rw[Jj,hl,Ye,YN,YN]
   constructor
   ·intro h x hx
    obtain⟨j,hj,e⟩:=List.getElem_of_mem hx
    have at_j:=h j (Yj.mpr hj)
    rw[Jb,J7 hj]at at_j
    rw[← e];exact at_j
   ·intro h j hj
    rw[Jb,J7 (Yj.mp hj)]
    exact h _ (Y8 _)
end
example (K:PySem.W.Frag):PySem.W.kitOne K (.type "int") (.type "tuple")=some false:=by rfl
example (K:PySem.W.Frag):PySem.W.kitOne K (.type "int") (.type "bool")=some false:=by first|rfl|decide|(with_unfolding_all rfl)
theorem zaa {H:Hp}{p:Addr}(h:H p=none) (o:HO):Same H (upd H p o):=fun b u q=>by rw[zad (zab q h)];exact q
def capB (N N':List Str) (sc scope:Scope) (cap:List (Option Nat)):Bool :=
 decide (scope.kind=.function) && (scope.names.all fun y=>decide (y.2≠.cell) && (decide (y.2≠.local) || decide (scope.names.lookup y.1=some .local)) &&
  (decide (y.2≠.free) || (decide (sc.names.lookup y.1=some .cell) || decide (sc.names.lookup y.1=some .free)))) && decide (cap.length=N'.length) &&
 ((N'.zip cap).all fun p=>match p.2 with
  | none=>true
  | some i=>decide (N[i]?=some p.1) && (decide (scope.names.lookup p.1=some .free) && (decide (sc.names.lookup p.1=some .cell) || decide (sc.names.lookup p.1=some .free))))
theorem CapOk.of {N N':List Str}{sc scope:Scope}{cap:List (Option Nat)}(h:capB N N' sc scope cap=true):CapOk N N' sc scope cap:=by
 unfold capB at h
 simp only[Ze,YN,Zi,JW]at h
 obtain⟨⟨⟨h1,h2⟩,h3⟩,h4⟩:=h;refine⟨h1,fun y hy=>(h2 y hy).1.1,fun y hy e=>?_,fun y hy e=>?_,h3,fun p hp i e=>?_⟩
 ·rcases (h2 y hy).1.2 with z|z
  ·exact absurd e z
  ·exact z
 ·rcases (h2 y hy).2 with z|z
  ·exact absurd e z
  ·exact z
 ·have q:=h4 p hp
  rw[e]at q
  simp only[Ze,Zi,JW]at q
  exact q
def Nx (n i:Nat) (p:Prop):Prop:=∃ m',m'<n-i∧m'=n-(i+1)∧i+1≤n∧p
theorem nx {n i:Nat}{p:Prop}(h:i<n) (q:p):Nx n i p:=⟨n-(i+1),by lia,rfl,h,q⟩
theorem zfw {lo:Int}{n:Nat}{g:TG}{te:TE}{l:Addr}{σ:St}{H:Hp}{Q:VK}(Pv:Nat→List V→St→Hp→Prop) (h0:Pv 0 [] σ H) (hl:∀ i acc σ H,Pv i acc σ H→H l=some (.lst acc))
  (hs:∀ i acc σ H,i<n→Pv i acc σ H→g (.int (lo+i)) σ H fun σ3 H3=>te σ3 H3 fun y H5=>H5 l=some (.lst acc)∧acc.length<sizeLine∧Nx n i (Pv (i+1) (acc++[y]) σ3 (upd H5 l (.lst (acc++[y])))))
  (hd:∀ acc σ H,Pv n acc σ H→Q (.ref l) H):∃ W:Nat→Nat→List V→St→Hp→Prop,(∃ m,W 0 m [] σ H)∧LCW (Itr lo n) g tYes te l Q W:=by
 refine⟨fun i m acc σ H=>m=n-i∧i≤n∧Pv i acc σ H,⟨n,by simp,JH _,h0⟩,?_⟩
 rintro i m acc σ H ⟨rfl,hi,p⟩
 refine⟨hl i acc σ H p,?_⟩
 by_cases hlt:i<n
 ·refine .inr ⟨hlt,fun x H2 ⟨e,y⟩=>?_⟩
  subst e y
  exact hs i acc σ _ hlt p
 ·have e:i=n:=by lia
  subst e
  exact .inl ⟨Jg _,hd acc σ H p⟩
theorem zdh {K:PySem.W.Frag}{b:Bool}{a:Addr}{xs:List V}{g:TG}{tb:TS}{D:Ends}{σ:St}{H:Hp}(Pv:Nat→St→Hp→Prop) (h0:Pv 0 σ H) (hl:∀ i σ H,i≤xs.length→Pv i σ H→SqB b K H a xs)
  (hs:∀ i x σ H T,xs[i]?=some x→H T=none→Pv i σ H→g (.ref T) σ (upd H T (.tup [.int i,x])) fun σ2 H2=>tb { D with nx:=Pv (i+1),ct:=Pv (i+1),bk:=D.nx } σ2 H2) (hd:∀ σ H,Pv xs.length σ H→D.nx σ H) :
  ∃ W:Nat→Nat→St→Hp→Prop,(∃ m,W 0 m σ H)∧∀ i m σ H,W i m σ H →
   ((Ite K b a).stop i H∧D.nx σ H)∨((Ite K b a).go i H∧∃ N:St→Hp→Prop,(∀ σ' H',N σ' H'→∃ m',m'<m∧W (i+1) m' σ' H')∧∀ x H',(Ite K b a).yld i H x H'→g x σ H' fun σ2 H2=>tb { D with nx:=N,ct:=N,bk:=D.nx } σ2 H2):=by
 refine⟨fun i m σ H=>m=xs.length-i∧i≤xs.length∧Pv i σ H,⟨xs.length,by simp,JH _,h0⟩,?_⟩
 rintro i m σ H ⟨rfl,hi,p⟩
 have q:=hl i σ H hi p
 by_cases hlt:i<xs.length
 ·refine .inr ⟨⟨xs,xs[i],q,J7 hlt⟩,Pv (i+1),fun σ' H' p'=>⟨xs.length-(i+1),by lia,rfl,hlt,p'⟩,fun x H' ⟨y,ey,T,hT,e1,e2⟩=>?_⟩
  subst e1 e2
  exact hs i y σ H T (ey xs q) hT p
 ·have e:i=xs.length:=by lia
  subst e
  exact .inl ⟨⟨xs,q,rfl⟩,hd σ H p⟩
section
variable {X:Cx}
theorem zfz {ns:List Int}{i:Nat}(h:i<ns.length):ns.getD i 0∈ns:=by
 rw[Jb,J7 h];exact Y8 h
end
end L2
namespace Own
open PySem PySem.Spec PyProof.Rows
section
variable {prog:Program}{w:World}{A:Around}{E:Value→Shared→Prop}{s:Shared}
end
end Own
namespace L2
open PySem PySem.Spec PyProof.Rows Own
section
variable {X:Cx}
end
section
variable {X:Cx}
end
theorem zjz {K:PySem.W.Frag}{a:Addr}{xs:List V}{g:TG}{te:TE}{l:Addr}{σ:St}{H:Hp}{Q:VK}(Pv:Nat→List V→St→Hp→Prop) (h0:Pv 0 [] σ H) (hl:∀ i acc σ H,Pv i acc σ H→H l=some (.lst acc)∧SqT K H a xs)
  (hs:∀ i x acc σ H,xs[i]?=some x→Pv i acc σ H→g x σ H fun σ3 H3=>te σ3 H3 fun y H5=>H5 l=some (.lst acc)∧acc.length<sizeLine∧Nx xs.length i (Pv (i+1) (acc++[y]) σ3 (upd H5 l (.lst (acc++[y])))))
  (hd:∀ acc σ H,Pv xs.length acc σ H→Q (.ref l) H):∃ W:Nat→Nat→List V→St→Hp→Prop,(∃ m,W 0 m [] σ H)∧LCW (Itt K a) g tYes te l Q W:=by
 refine⟨fun i m acc σ H=>m=xs.length-i∧i≤xs.length∧Pv i acc σ H,⟨_,rfl,JH _,h0⟩,?_⟩
 rintro i m acc σ H ⟨rfl,hi,p⟩
 obtain⟨q0,q1⟩:=hl i acc σ H p
 refine⟨q0,?_⟩
 by_cases hlt:i<xs.length
 ·refine .inr ⟨⟨xs,xs[i],q1,J7 hlt⟩,fun x H2 ⟨e,y⟩=>?_⟩
  subst e
  exact hs i x acc σ _ (y xs q1) p
 ·obtain rfl:i=xs.length:=by lia
  exact .inl ⟨⟨xs,q1,Jg _⟩,hd acc σ H p⟩
theorem zks {K:PySem.W.Frag}{a:Addr}{xs:List V}{g:TG}{te:TE}{l:Addr}{σ:St}{H:Hp}{Q:VK}(Pv:Nat→List V→St→Hp→Prop) (h0:Pv 0 [] σ H) (hl:∀ i acc σ H,Pv i acc σ H→H l=some (.lst acc)∧SqL K H a xs)
  (hs:∀ i x acc σ H,xs[i]?=some x→Pv i acc σ H→g x σ H fun σ3 H3=>te σ3 H3 fun y H5=>H5 l=some (.lst acc)∧acc.length<sizeLine∧Nx xs.length i (Pv (i+1) (acc++[y]) σ3 (upd H5 l (.lst (acc++[y])))))
  (hd:∀ acc σ H,Pv xs.length acc σ H→Q (.ref l) H):∃ W:Nat→Nat→List V→St→Hp→Prop,(∃ m,W 0 m [] σ H)∧LCW (Itl K a) g tYes te l Q W:=by
 refine⟨fun i m acc σ H=>m=xs.length-i∧i≤xs.length∧Pv i acc σ H,⟨_,rfl,JH _,h0⟩,?_⟩
 rintro i m acc σ H ⟨rfl,hi,p⟩
 obtain⟨q0,q1⟩:=hl i acc σ H p
 refine⟨q0,?_⟩
 by_cases hlt:i<xs.length
 ·refine .inr ⟨⟨xs,xs[i],q1,J7 hlt⟩,fun x H2 ⟨e,y⟩=>?_⟩
  subst e
  exact hs i x acc σ _ (y xs q1) p
 ·obtain rfl:i=xs.length:=by lia
  exact .inl ⟨⟨xs,q1,Jg _⟩,hd acc σ H p⟩
theorem zhq {lo:Int}{n:Nat}{g:TG}{tt:TT}{te:TE}{l:Addr}{σ:St}{H:Hp}{Q:VK}(Pv:Nat→List V→St→Hp→Prop) (h0:Pv 0 [] σ H) (hl:∀ i acc σ H,Pv i acc σ H→H l=some (.lst acc))
  (hs:∀ i acc σ H,i<n→Pv i acc σ H→g (.int (lo+i)) σ H fun σ3 H3=>tt σ3 H3 fun b H4=>if b=true then te σ3 H4 fun y H5=>H5 l=some (.lst acc)∧acc.length<sizeLine∧Nx n i (Pv (i+1) (acc++[y]) σ3 (upd H5 l (.lst (acc++[y])))) else Nx n i (Pv (i+1) acc σ3 H4))
  (hd:∀ acc σ H,Pv n acc σ H→Q (.ref l) H):∃ W:Nat→Nat→List V→St→Hp→Prop,(∃ m,W 0 m [] σ H)∧LCW (Itr lo n) g tt te l Q W:=by
 refine⟨fun i m acc σ H=>m=n-i∧i≤n∧Pv i acc σ H,⟨_,rfl,JH _,h0⟩,?_⟩
 rintro i m acc σ H ⟨rfl,hi,p⟩
 refine⟨hl i acc σ H p,?_⟩
 by_cases hlt:i<n
 ·refine .inr ⟨hlt,fun x H2 ⟨e,y⟩=>?_⟩
  subst e y
  exact hs i acc σ _ hlt p
 ·obtain rfl:i=n:=by lia
  exact .inl ⟨Jg _,hd acc σ H p⟩
end L2
namespace L2
open PySem PySem.Spec PyProof.Rows PySem.Calls PySem.NumText Own
section
variable {X:Cx}
end
end L2
namespace L2
open PySem PySem.Spec PyProof.Rows Own
section
variable {prog:Program}{w:World}{A:Around}{E:Value→Shared→Prop}{s:Shared}
theorem zeP {Q:List Value→Shared→Prop}{r:Addr}{a b c:Int}{t u v:Tok}{n:Nat}(hh:A.handled=none) (hr:IsRange s.heap r a b c t u v) (sm:Builtin.Range.small a b c=true) (hn:Builtin.Range.rangeSize a b c=n) (hlen:n≤2 ^ 24)
  (q:∀ (h':Heap) (tk:Nat) (acc:Array Value),(∀ b o,s.heap.get? b=some o→h'.get? b=some o)→ItemsOf (fun i v=>∃ t,v=.int (a+i*c) t) acc n→Q acc.toList { s with heap:=h',toks:=tk }):wpAny (model prog w) A (collect (.ref r)) Q E s:=by
 have key:∀ R:Result→Shared→Prop,(∀ (h':Heap) (tk:Nat) (acc:Array Value) (c':Nat),(∀ b o,s.heap.get? b=some o→h'.get? b=some o)→h'.get? s.heap.objs.size=some { cls:=.type "list",data:=.seq acc c' }→ItemsOf (fun i v=>∃ t,v=.int (a+i*c) t) acc n→R (.ok (.ret (.ref s.heap.objs.size))) { s with heap:=h',toks:=tk }) →
   codeAny (model prog w) A (.builtin "proto.collect" ⟨[.ref r],[]⟩) R s:=by
  intro R hR
  have u1:=fun z=>Around.under_plainId (A:=A) F.plain_proto_collect z
  have u2:=fun z=>Around.under_plainId (A:=A) F.plain_list_iadd z
  refine Z0 F.entry_proto_collect ?_
  rw[u1]
  refine J0 (m:=newList []) (JG (J9 ⟨plainId_quiet F.plain_list_iadd _,Z0 F.entry_list_iadd ?_⟩))
  rw[u2]
  have e0:(s.heap.push { cls:=.type "list",data:=.seq ([]:List Value).toArray }).get? s.heap.objs.size=some { cls:=.type "list",data:=.seq #[] 0 }:=Jp _ rfl
  exact wpAny_extend_range (s:={ s with heap:=s.heap.push { cls:=.type "list",data:=.seq ([]:List Value).toArray } }) hh (J8 _ hr) sm hn hlen s.heap.objs.size (.ref s.heap.objs.size) _ e0 fun h' tk acc' c' kk e it=>hR h' tk acc' c' (fun b o z=>kk b o (JB (Jn z)) (J8 _ z)) e it
 unfold collect
 exact J0 (wpAny_runValue (key _ fun h' tk acc c' kk e it=>J0 (m:=load s.heap.objs.size) (wpAny_load e (J9 (q h' tk acc kk it)))))
theorem zdf (r:Addr) (a b c:Int) (t u v:Tok) (n:Nat) (sm:Builtin.Range.small a b c=true) (hn:Builtin.Range.rangeSize a b c=n) (hlen:n≤2 ^ 24) :
  Meets (Builtin.«tuple.__new__» ⟨[.type "tuple",.ref r],[]⟩) (fun A R s=>A.handled=none∧IsRange s.heap r a b c t u v∧∀ (h':Heap) (tk:Nat) (acc:Array Value),(∀ b o,s.heap.get? b=some o→h'.get? b=some o)→ItemsOf (fun i v=>∃ t,v=.int (a+i*c) t) acc n →
   R (.ok (.ret (.ref h'.objs.size))) { s with heap:=h'.push { cls:=.type "tuple",data:=.seq acc },toks:=tk }) :=
 .of_wp fun prog w A R s h=>by
  obtain⟨hh,hr,h⟩:=h
  have g1:=sub_tuple_self
  have g2:=init_tuple_lookup
  have g3:=madeHere_tuple
  have g4:s.TypeIs (.ref r) "range":=⟨_,hr,rfl⟩
  have g5:A.in1.handled=none:=hh
  wp_walk using wpAny_typeOf g4,zeP g5 hr sm hn hlen
  intro h' tk acc kk it
  rw[show acc.toList.toArray=acc by simp]
  exact J0 (m:=Builtin.Tuple.tupleExact acc) (JG (J9 ⟨_,rfl,h h' tk acc kk it⟩) (by show acc.size≤sizeLine;rw[it.1,Jy];exact hlen))
theorem zd0 {Q:Value→Shared→Prop}{r:Addr}{a b c:Int}{t u v:Tok}{n:Nat}(hh:A.handled=none) (hr:IsRange s.heap r a b c t u v) (sm:Builtin.Range.small a b c=true) (hn:Builtin.Range.rangeSize a b c=n) (hlen:n≤2 ^ 24)
  (q:∀ (h':Heap) (tk:Nat) (acc:Array Value),(∀ b o,s.heap.get? b=some o→h'.get? b=some o)→ItemsOf (fun i v=>∃ t,v=.int (a+i*c) t) acc n→Q (.ref h'.objs.size) { s with heap:=h'.push { cls:=.type "tuple",data:=.seq acc },toks:=tk }) :
  wpAny (model prog w) A (call (.type "tuple") [.ref r]) Q E s :=
 callType_new F.called_tuple (by decide) (F.typeCall_tuple_1 _) (F.newCall_tuple_1 _) (fun obj=>F.args_object_init_2 obj _) F.entry_tuple_new (zdf r a b c t u v n sm hn hlen) ⟨hh,hr,fun h' tk acc kk it=>⟨⟨_,Jp _ rfl,rfl⟩,q h' tk acc kk it⟩⟩
end
def upTo (n:Nat):List V:=(List.range n).map fun (i:Nat)=>V.int i
theorem zbt {acc:Array Value}{n:Nat}(h:ItemsOf (fun i v=>∃ t,v=Value.int (0+i*1) t) acc n):Vals (upTo n) acc.toList:=by
 obtain⟨h1,h2⟩:=h
 have go:∀ (l:List Value) (k:Nat),(∀ (j:Nat) (v:Value),l[j]?=some v→∃ t,v=Value.int ((k+j:Nat):Int) t)→Vals ((List.range l.length).map fun (i:Nat)=>V.int ((k+i:Nat):Int)) l:=by
  intro l
  induction l with
  | nil=>intro k _;exact .nil
  | cons x l ih =>
   intro k hx
   rw[JN,List.range_succ_eq_map,JV,YQ]
   refine .cons (by obtain⟨t,e⟩:=hx 0 x rfl;exact⟨t,e⟩) ?_
   have:=ih (k+1) fun j v hj=>by
    obtain⟨t,e⟩:=hx (j+1) v (by simpa using hj)
    exact⟨t,by rw[e];congr 1;lia⟩
   refine cast (JJ (fun z=>Vals z l) (Zk fun i _=>?_)) this
   show V.int ((k+1+i:Nat):Int)=V.int ((k+(i+1):Nat):Int)
   congr 2;lia
 have:=go acc.toList 0 fun j v hj=>by
  obtain⟨t,e⟩:=h2 j v (by simpa using hj)
  exact⟨t,by rw[e];congr 1;lia⟩
 rw[Jx,h1]at this
 unfold upTo
 refine cast (JJ (fun z=>Vals z acc.toList) (Zk fun i _=>?_)) this
 show V.int ((0+i:Nat):Int)=V.int (i:Int)
 rw[Yd]
theorem zeY (n:Nat):(upTo n).length=n:=by simp[upTo]
section
variable {X:Cx}
def zjo (b:Bool) (ta:TA):TE:=fun σ H Q=>ta σ H fun vs H1=>∃ j:Nat,vs=[.int j]∧j≤100000∧∀ l,H1 l=none→Q (.ref l) (upd H1 l (if b=true then .lst (upTo j) else .tup (upTo j)))
theorem ze6 {j:Nat}(h:j≤100000):Builtin.Range.small 0 (j:Int) 1=true:=small_one (by lia) (by lia) (by lia) (by lia)
theorem zgC {j:Nat}:Builtin.Range.rangeSize 0 (j:Int) 1=((j:Nat):Int):=by rw[rangeSize_one];split<;>lia
theorem pe_lstRng {a:Expr}{ta:TA}{p p2 pos pos2:Pos}(hc:X.calm=true) (hgl:Gl X "list") (hml:X.mg "list" = none) (hgr:Gl X "range") (hmr:X.mg "range" = none) (ha:PA X [a] ta) (hs:starEach [a] X.env=[(false,eval a X.env)]:=by rfl)
  (hs2:starEach [.Call (.Name "range" p2) [a] [] pos2] X.env=[(false,eval (.Call (.Name "range" p2) [a] [] pos2) X.env)]:=by rfl):PE X (.Call (.Name "list" p) [.Call (.Name "range" p2) [a] [] pos2] [] pos) (zjo true ta):=by
 intro pins s σ H Q I h
 refine wpAny_Call_Name_kw (zbD I hgl hml (u:=.type "list") (by rfl) (PyProof.Rows.callWith_type1 ?_ hs2 rfl))
 rw[hs2]
 refine Calls.spliced_cons (Call_ (zbD I hgr hmr boot_range (PyProof.Rows.callWith_type1 (thn (ha pos2 pins s σ H _ I h) fun us s1 ⟨vs,H1,I1,r1,q1⟩=>?_) hs rfl)))
 obtain⟨j,rfl,hj,q⟩:=q1
 obtain⟨u,rfl,t,rfl⟩:=r1.one
 refine call_range_1 (Calls.spliced_nil ?_)
 refine call_list_range (n:=j) (I1.ok.hd hc) (IsRange.new ..) (ze6 hj) zgC (JY hj (by decide)) fun h' tk acc' c' kk e it=>?_
 have k2:∀ b o,s1.heap.get? b=some o→h'.get? b=some o:=fun b o z=>kk b o (J8 _ z)
 refine⟨.ref _,_,I1.laid (t':=tk) (o:=.lst (upTo j)) k2 ?_ ⟨by rw[zeY];exact JY hj (by decide),acc'.toList,c',zbt it,by simpa using e⟩,rfl,q _ (I1.hok.fresh ?_)⟩
 all_goals (show s1.heap.objs.size≤(s1.heap.push _).objs.size;rw[Heap.size_push];exact Nat.le_succ _)
theorem pe_tupRng {a:Expr}{ta:TA}{p p2 pos pos2:Pos}(hc:X.calm=true) (hgl:Gl X "tuple") (hml:X.mg "tuple" = none) (hgr:Gl X "range") (hmr:X.mg "range" = none) (ha:PA X [a] ta) (hs:starEach [a] X.env=[(false,eval a X.env)]:=by rfl)
  (hs2:starEach [.Call (.Name "range" p2) [a] [] pos2] X.env=[(false,eval (.Call (.Name "range" p2) [a] [] pos2) X.env)]:=by rfl):PE X (.Call (.Name "tuple" p) [.Call (.Name "range" p2) [a] [] pos2] [] pos) (zjo false ta):=by
 intro pins s σ H Q I h
 refine wpAny_Call_Name_kw (zbD I hgl hml (u:=.type "tuple") (by rfl) (PyProof.Rows.callWith_type1 ?_ hs2 rfl))
 rw[hs2]
 refine Calls.spliced_cons (Call_ (zbD I hgr hmr boot_range (PyProof.Rows.callWith_type1 (thn (ha pos2 pins s σ H _ I h) fun us s1 ⟨vs,H1,I1,r1,q1⟩=>?_) hs rfl)))
 obtain⟨j,rfl,hj,q⟩:=q1
 obtain⟨u,rfl,t,rfl⟩:=r1.one
 refine call_range_1 (Calls.spliced_nil ?_)
 refine zd0 (n:=j) (I1.ok.hd hc) (IsRange.new ..) (ze6 hj) zgC (JY hj (by decide)) fun h' tk acc kk it=>?_
 have k2:∀ b o,s1.heap.get? b=some o→h'.get? b=some o:=fun b o z=>kk b o (J8 _ z)
 have I2:Inv X pins σ H1 { s1 with heap:=h',toks:=tk }:=I1.kept k2
 refine⟨.ref h'.objs.size,_,I2.laid (t':=tk) (o:=.tup (upTo j)) (fun b o e=>J8 _ e) (Jg _) ⟨by rw[zeY];exact JY hj (by decide),acc.toList,zbt it,?_⟩,rfl,q _ (I2.hok.fresh (Jg _))⟩
 exact⟨_,Jp _ rfl,rfl,0,by simp,rfl⟩
theorem zjw (hu:X.A.units<cLine):OpR X (compareOp .NotEq) (fun x y H Q=>∃ a b xs,x=.ref a∧y=.ref b∧SqL X.K H a xs∧SqL X.K H b []∧Q (.bl (!xs.isEmpty)) H):=by
 intro pins s σ H x y v u Q I rx ry h
 obtain⟨a,b,xs,rfl,rfl,ha,hb,q⟩:=h
 cases rx;cases ry
 obtain⟨its,r1,p1,_⟩:=I.list ha
 obtain⟨jts,r2,p2,_⟩:=I.list hb
 cases r2
 have l1:=r1.length
 cases xs with
 | nil =>
  cases r1
  exact SeqAt.RcNeAt.lists (e:=fun _=>true) p1.isList p2.isList rfl hu (fun j h=>absurd h (Nat.not_lt_zero _)) X.prog X.w _ _ ⟨.bl _,H,I,rfl,q⟩
 | cons z zs =>
  exact SeqAt.RcNeAt.lists_lengths p1.isList p2.isList (by rw[Jj,← l1];simp) hu X.prog X.w _ _ ⟨.bl _,H,I,rfl,q⟩
end
section
variable {prog:Program}{w:World}{A:Around}{E:Value→Shared→Prop}{s:Shared}
end
section
variable {X:Cx}
end
theorem zf6 (l:Addr) (o:Obj) (items:Array Value) (n:Nat) (x:Value) (j:Nat) (hc:o.cls=.type "tuple") (hd:o.data=.seq items n) (e:Nat→Bool) (h0:∀ i,i<j→e i=false) (h1:e j=true) (hj:j<items.size) :
  Meets (Builtin.«tuple.index» ⟨[.ref l,x],[]⟩) (fun A R s=>s.heap.get? l=some o∧(∀ i (h:i<items.size),SeqAt.EqAt A.in1 s items[i] x (e i))∧R (.ok (.ret (.int j s.toks))) { s with toks:=s.toks+1 }) :=
 .of_wp fun prog w A R s h=>by
  cases s with
  | mk hp gs dr tk os =>
  obtain⟨hl,he,h⟩:=h
  unfold Builtin.«tuple.index»
  simp only[Std.Legacy.Range.forIn_eq_forIn_range']
  wp_walk using wpAny_seqItems hl hd,wpAny_forIn_list _ (fun rest b s'=>s'=⟨hp,gs,dr,tk,os⟩∧b.1=none∧∃ i,i≤j∧rest=List.range' i (items.size-i)) _
  case turn =>
   rintro i rest b s' ⟨rfl,hb,i',hi,hz⟩
   have hs:items.size-i'=(items.size-(i'+1))+1:=by lia
   rw[hs,List.range'_succ]at hz
   injection hz with e1 e2
   subst e1
   have il:i<items.size:=by lia
   have hg:items[i]?=some items[i]:=by simp[il]
   simp only[hg]
   refine J0 (he i il prog w _ _ ?_)
   by_cases q:i=j
   ·subst q;rw[h1];wp_walk;exact⟨_,rfl,h⟩
   ·rw[h0 i (by lia)];wp_walk;exact⟨rfl,rfl,i+1,by lia,e2⟩
  case fin =>
   rintro b s' ⟨rfl,hb,i',hi,hz⟩
   have:=JJ List.length hz
   simp at this
   lia
  case h=>exact⟨rfl,rfl,0,JH _,by simp[Std.Legacy.Range.size]⟩
section
variable {X:Cx}
theorem zcP:∀ {ns:List Int}{k:Int}{i:Nat},i<ns.idxOf k→(ns.getD i 0 == k)=false
 | [],k,i,h=>by simp at h
 | n::ns,k,i,h=>by
  rw[List.idxOf_cons]at h
  cases e:n == k with
  | true=>rw[e]at h;simp at h
  | false =>
   rw[e]at h
   simp only[cond_false]at h
   cases i with
   | zero=>exact e
   | succ i=>exact zcP (ns:=ns) (i:=i) (by lia)
def zlv (to:TE) (t:TA):TE:=fun σ H Q=>to σ H fun x H1=>∃ a ns,x=.ref a∧H1 a=some (.tup (List.map V.int ns))∧t σ H1 fun vs H2=>∃ k:Int,vs=[.int k]∧H2 a=some (.tup (List.map V.int ns))∧k∈ns∧Q (.int (ns.idxOf k:Nat)) H2
theorem zj7 {o e:Expr}{to:TE}{t:TA}{apos cpos:Pos}(hu:X.A.units+64<cLine) (ho:PE X o to) (ha:PA X [e] t)
  (hbase:attributeBase o "index" X.env (eval o X.env)=eval o X.env:=by rfl)
  (hfew:((backTo cpos (starEach [e] X.env)).all (fun x=>!x.1) && (backToKw cpos (keywordEach [] X.env)).all (fun x=>x.1.isSome) && decide ([e].length+([]:List Keyword).length+(if ([]:List Keyword).isEmpty then 0 else 1)<30))=true:=by rfl)
  (hline:(apos.endLine == cpos.line)=true:=by rfl) (hs:starEach [e] X.env=(false,eval e X.env)::starEach [] X.env:=by rfl):PE X (.Call (.Attribute o "index" apos) [e] [] cpos) (zlv to t):=by
 intro pins s σ H Q I h
 refine wpAny_Call_method_late hbase hfew hline rfl (thn (ho pins s σ H _ I h) fun v s1 ⟨x,H1,I1,r1,a,ns,ex,hx,q1⟩=>?_)
 subst ex
 cases r1
 obtain⟨_,its,_,⟨ob,eo,c1,n1,d1,nd⟩⟩:=(show ObjOk X.prog X.w H1 s1.heap a (.tup (List.map V.int ns)) from I1.hok a _ hx)
 refine⟨"tuple","tuple.index",PySem.F.plainAttrs_tuple,PySem.F.slot_tuple_index,PySem.F.type_tuple_index,⟨ob,eo,c1⟩,fun a' e'=>by cases e';exact⟨ob,eo,nd⟩,?_⟩
 have hA:=ha cpos pins s1 σ H1 _ I1 q1
 rw[hs]at hA ⊢
 refine Calls.callWith_builtin rfl (Calls.evalArgs_plain ?_)
 refine thn hA fun us s2 ⟨vs,H2,I2,r2,k,ev,hx2,km,q⟩=>?_
 subst ev
 obtain⟨u,rfl,tk,rfl⟩:=r2.one
 obtain⟨_,jts,rj,⟨ob2,eo2,c2,n2,d2,nd2⟩⟩:=(show ObjOk X.prog X.w H2 s2.heap a (.tup (List.map V.int ns)) from I2.hok a _ hx2)
 have hlen:jts.toArray.size=ns.length:=by rw[Jj,← rj.length,Jm]
 have hj:=List.idxOf_lt_length_of_mem km
 refine call_meets PySem.F.slot_tuple_index ⟨ob2,eo2,c2⟩ PySem.F.entry_tuple_index (PySem.F.args_tuple_index_2 _ _)
  (zf6 a ob2 jts.toArray n2 (.int k tk) (ns.idxOf k) c2 d2 (fun i=>ns.getD i 0 == k) (fun i hi=>?_) ?_ (by rw[hlen];exact hj)) ⟨eo2,fun i hi=>?_,?_⟩
 ·exact zcP hi
 ·rw[Jb,J7 hj]
  simp
 ·have hi':i<ns.length:=by rw[← hlen];exact hi
  obtain⟨w1,e1,t1,rfl⟩:=rj.get (show (List.map V.int ns)[i]?=some (V.int (ns.getD i 0)) by rw[JR,Jb,J7 hi'];rfl)
  have g1:jts.toArray[i]=.int (ns.getD i 0) t1:=by simpa using (Je.mp e1).2
  rw[g1]
  exact(MeetsSeq.EqGives.int _ _ _ _).at _ _
 ·exact⟨.int _,H2,I2.tok _,⟨_,rfl⟩,q⟩
end
theorem zev:fillsNumberSlot (.type "tuple") "mul" = pure false :=
 PySem.fillsNumberSlot_seq (id:="tuple.__mul__") (r:=some (.builtin "tuple.__rmul__")) F.slot_tuple_mul.lookup (by decide +kernel) F.slot_tuple_rmul.lookup (by decide +kernel)
theorem zfV:seqRepeat? (.type "tuple")=pure (some (.builtin "tuple.__mul__")):=by
 unfold seqRepeat?;rw[PySem.seqSlot_of (T:="tuple") (name:="__mul__") (id:="tuple.__mul__") F.slot_tuple_mul.lookup (by decide +kernel),PySem.seqSlot_of (T:="tuple") (name:="__rmul__") (id:="tuple.__rmul__") F.slot_tuple_rmul.lookup (by decide +kernel)];rfl
theorem zjc (a:Int) (t:Tok) (l:Addr) (dd:Option Addr) (sl:Array (Option Value)) (items:Array Value) (n:Nat) :
  Meets (Builtin.«int.__rmul__» ⟨[.int a t,.ref l],[]⟩) (fun _ R s=>s.heap.get? l=some { cls:=.type "tuple",dict:=dd,data:=.seq items n,slots:=sl }∧R (.ok (.ret Value.notImplemented)) s) :=
 .of_wp fun prog w A R s h=>by
  cases s;obtain⟨hl,h⟩:=h
  wp_walk using AutoSeq1.wpAny_loadPart' hl
  exact⟨_,rfl,h⟩
theorem zf5 (l:Addr) (o:Obj) (x:Value) (n k:Nat) (t:Tok) (hc:o.cls=.type "tuple") (hd:o.data=.seq #[x] n) (hk:k≤100000) :
  Meets (Builtin.«tuple.__mul__» ⟨[.ref l,.int k t],[]⟩) (fun _ R s=>s.heap.get? l=some o ∧
   (k=1→R (.ok (.ret (.ref l))) s)∧(k≠1→R (.ok (.ret (.ref s.heap.objs.size))) { s with heap:=s.heap.push { cls:=.type "tuple",data:=.seq (List.replicate k x).toArray } })) :=
 .of_wp fun prog w A R s h=>by
  cases s with
  | mk hp gs dr tk os =>
  obtain⟨hl,g1,g2⟩:=h
  have ty:Shared.TypeIs ⟨hp,gs,dr,tk,os⟩ (.ref l) "tuple":=⟨o,hl,hc⟩
  wp_walk using wpAny_seqItems hl hd,wpAny_typeOf ty
  have c1:¬(decide ((k:Int) < -2 ^ 63) || decide ((k:Int)≥2 ^ 63))=true:=by
   rw[Jq (by lia),Jq (by lia)];exact Jh
  rw[Jc c1]
  wp_walk using wpAny_seqItems hl hd,wpAny_typeOf ty
  by_cases k1:k=1
  ·have c2:((#[x]:Array Value).isEmpty || (k:Int) == 1)=true:=by subst k1;rfl
   rw[Jf c2]
   wp_walk using wpAny_typeOf ty
   exact⟨_,rfl,g1 k1⟩
  ·have c2:¬((#[x]:Array Value).isEmpty || (k:Int) == 1)=true:=by
    have:((k:Int) == 1)=false:=by rw[beq_eq_false_iff_ne];lia
    rw[this];exact Jh
   rw[Jc c2]
   have fl:∀ (m:Nat) (acc:Array Value),(List.foldl (fun x1 x2=>x1++x2) acc (List.replicate m #[x]))=acc++(List.replicate m x).toArray:=fun m=>by
    induction m with
    | zero=>intro acc;simp
    | succ m ih=>intro acc;rw[Y3,List.foldl_cons,ih,Y3];apply Array.ext';simp
   by_cases k0:k=0
   ·subst k0
    have c3:(decide (((0:Nat):Int)≤0) || (#[x]:Array Value).isEmpty)=true:=rfl
    rw[Jf c3]
    wp_walk
    exact⟨_,rfl,g2 (by decide)⟩
   ·have c3:¬(decide ((k:Int)≤0) || (#[x]:Array Value).isEmpty)=true:=by
     rw[Jq (by lia)];exact Jh
    have c4:¬(((#[x]:Array Value).size:Int)*(k:Int) > (2 ^ 63-1) / 8):=by
     show ¬((1:Int)*(k:Int) > (2 ^ 63-1) / 8)
     lia
    have c5:¬ Builtin.Tuple.tupleTooMany (((#[x]:Array Value).size:Int)*(k:Int))=true:=by
     unfold Builtin.Tuple.tupleTooMany
     show ¬ decide ((1:Int)*(k:Int) > (sizeLine:Int))=true
     rw[Jq (by rw[Jy];lia)];exact Jh
    rw[Jc c3,Jc c4,Jc c5,Y7,fl]
    refine J0 (m:=Builtin.Tuple.tupleExact _) (JG (J9 ⟨_,rfl,?_⟩) ?_)
    ·have e:(#[]++(List.replicate k x).toArray:Array Value)=(List.replicate k x).toArray:=by simp
     rw[e];exact g2 k1
    ·show (#[]++(List.replicate k x).toArray:Array Value).size≤sizeLine
     rw[Jy];simp;lia
section
variable {X:Cx}
theorem Vals.same {v:V}{u:Value}(r:RelV v u):∀ k:Nat,Vals (List.replicate k v) (List.replicate k u)
 | 0=>.nil
 | k+1=>by rw[Y3,Y3];exact .cons r (Vals.same r k)
theorem zet:OpR X (binaryOp .Mult) (fun x y H Q=>∃ a v,∃ k:Nat,x=.ref a∧y=.int k∧H a=some (.tup [v])∧k≤100000∧∀ r H',Same H H'→H' r=some (.tup (List.replicate k v))→Q (.ref r) H'):=by
 intro pins s σ H x y vx vy Q I rx ry h
 obtain⟨a,v,k,rfl,rfl,ha,hk,q⟩:=h
 cases rx
 obtain⟨t,rfl⟩:=ry
 obtain⟨_,its,r,⟨⟨c,dd,d,sl⟩,eo,c1,n1,d1,nd⟩⟩:=(show ObjOk X.prog X.w H s.heap a (.tup [v]) from I.hok a _ ha)
 simp only at c1 d1 nd
 subst c1 d1 nd
 obtain⟨u,rfl,ru⟩:=r.one
 refine wpAny_binaryOp_repeat_ref (T:="tuple") (U:="int") (by decide) ⟨_,eo,rfl⟩ (fun s'=>typeIs_int s' k t) zev F.fills_int_mul F.slot_int_rmul zfV F.slot_int_index.lookup
  (call_meets F.slot_int_rmul (typeIs_int s k t) F.entry_int_rmul (F.args_int_rmul_2 _ _) (zjc k t a none sl _ n1)
   ⟨eo,rfl,⟨_,eo,rfl⟩,call_meets F.slot_tuple_mul ⟨_,eo,rfl⟩ F.entry_tuple_mul (F.args_tuple_mul_2 _ _) (zf5 a _ u n1 k t rfl rfl hk) ⟨eo,fun e=>?_,fun e=>?_⟩⟩)
 ·subst e
  exact⟨.ref a,H,I,rfl,q a H (Same.refl H) ha⟩
 ·have hz:(List.replicate k v).length≤sizeLine:=by rw[JU,Jy];lia
  exact⟨.ref s.heap.objs.size,_,I.laid (t':=s.toks) (o:=.tup (List.replicate k v)) (fun b ob z=>J8 _ z) (Jg _) ⟨hz,_,Vals.same ru k,TupX.new _ _⟩,rfl,q _ _ (zaa (I.hok.fresh (Jg _)) _) zac⟩
end
end L2
namespace Bn
open PySem L2 Own
def Tups (H H':Hp):Prop:=∀ a xs,H a=some (.tup xs)→H' a=some (.tup xs)
theorem Tups.refl (H:Hp):Tups H H:=fun _ _ e=>e
theorem Tups.trans {H H1 H2:Hp}(x:Tups H H1) (y:Tups H1 H2):Tups H H2:=fun a xs e=>y a xs (x a xs e)
theorem Tups.of {H H':Hp}(s:Same H H'):Tups H H':=fun a _ e=>s a _ e
theorem Tups.lst {H:Hp}{l:Addr}{xs ys:List V}(h:H l=some (.lst xs)):Tups H (upd H l (.lst ys)):=fun a zs e=>by
 rw[zad (by rintro rfl;rw[h]at e;cases e)];exact e
def But (l:Addr) (H H':Hp):Prop:=∀ b o,H b=some o→b≠l→H' b=some o
theorem But.trans {l:Addr}{H H1 H2:Hp}(x:But l H H1) (y:But l H1 H2):But l H H2:=fun b o e n=>y b o (x b o e n) n
theorem But.of {l:Addr}{H H1:Hp}(x:Same H H1):But l H H1:=fun b o e _=>x b o e
def Prs (H:Hp):List V→List (Nat × Nat)→Prop
 | [],[]=>True
 | p::ps,f::fs=>(∃ a,p=.ref a∧H a=some (.tup [.int f.1,.int f.2]))∧Prs H ps fs
 | _,_=>False
theorem Prs.tups {H H':Hp}(t:Tups H H'):∀ {ps:List V}{fs:List (Nat × Nat)},Prs H ps fs→Prs H' ps fs
 | [],[],_=>trivial
 | _::_,_::_,⟨⟨a,e,h⟩,r⟩=>⟨⟨a,e,t _ _ h⟩,r.tups t⟩
theorem Prs.len {H:Hp}:∀ {ps:List V}{fs:List (Nat × Nat)},Prs H ps fs→ps.length=fs.length
 | [],[],_=>rfl
 | _::_,_::_,⟨_,r⟩=>JJ (· + 1) r.len
theorem Prs.add {H:Hp}{a:Addr}{f:Nat × Nat}(h:H a=some (.tup [.int f.1,.int f.2])):∀ {ps:List V}{fs:List (Nat × Nat)},Prs H ps fs→Prs H (ps++[.ref a]) (fs++[f])
 | [],[],_=>⟨⟨a,rfl,h⟩,trivial⟩
 | _::_,_::_,⟨x,r⟩=>⟨x,r.add h⟩
theorem Prs.get {H:Hp}:∀ {ps:List V}{fs:List (Nat × Nat)}{i:Nat}{p:V},Prs H ps fs→ps[i]?=some p→∃ a f,p=.ref a∧fs[i]?=some f∧H a=some (.tup [.int f.1,.int f.2])
 | [],[],_,_,_,e=>by simp at e
 | _::_,f::_,0,p,⟨⟨a,e1,h⟩,_⟩,e=>by
  have:_=p:=Option.some.inj e
  subst this
  exact⟨a,f,e1,rfl,h⟩
 | _::_,_::_,i+1,p,⟨_,r⟩,e=>r.get (i:=i) (by simpa using e)
structure Nt where
 lanes:Nat
 forks:List (Nat × Nat)
 ends:List Nat
structure Nt.Ok (N:Nt):Prop where
 l1:1≤N.lanes
 l16:N.lanes≤16
 fm:N.forks.length≤128
 fk:∀ f∈N.forks,f.1<N.lanes∧f.2<N.lanes∧f.1≠f.2
 en:N.ends.Perm (List.range N.lanes)
def nums (es:List Nat):List V:=es.map fun (e:Nat)=>V.int e
structure NetAt (H:Hp) (r fr er:Addr) (ps:List V) (N:Nt):Prop where
 net:H r=some (.tup [.int N.lanes,.ref fr,.ref er])
 forks:H fr=some (.tup ps)
 prs:Prs H ps N.forks
 ends:H er=some (.tup (nums N.ends))
theorem NetAt.tups {H H':Hp}{r fr er:Addr}{ps:List V}{N:Nt}(t:Tups H H') (h:NetAt H r fr er ps N):NetAt H' r fr er ps N:=⟨t _ _ h.net,t _ _ h.forks,h.prs.tups t,t _ _ h.ends⟩
def zay (st:List Int × List Int) (f:Nat × Nat):List Int × List Int :=
 ((st.1.set f.1 ((st.1.getD f.1 0+st.1.getD f.2 0+1) / 2)).set f.2 ((st.1.getD f.1 0+st.1.getD f.2 0) / 2),st.2++[(st.1.getD f.1 0+st.1.getD f.2 0)%2])
def zaq (st:List Int × List Int) (fs:List (Nat × Nat)):List Int × List Int:=fs.foldl zay st
def flow (fs:List (Nat × Nat)) (cs:List Int):List Int × List Int:=zaq (cs,[]) fs
def zb4 (N:Nt) (cs:List Int):List Int:=N.ends.map fun e=>(flow N.forks cs).1.getD e 0
def zaJ (N:Nt) (cs:List Int):List Int:=(flow N.forks cs).2
theorem zhI (fs:List (Nat × Nat)) (f:Nat × Nat) (cs:List Int):flow (fs++[f]) cs=zay (flow fs cs) f:=by
 unfold flow zaq;rw[YJ];rfl
theorem zaz (st:List Int × List Int) (f:Nat × Nat):(zay st f).1.length=st.1.length:=by simp[zay]
theorem zba:∀ (fs:List (Nat × Nat)) (st:List Int × List Int),(zaq st fs).1.length=st.1.length∧(zaq st fs).2.length=st.2.length+fs.length
 | [],st=>⟨rfl,rfl⟩
 | f::fs,st=>by
  have h:=zba fs (zay st f)
  refine⟨h.1.trans (zaz st f),h.2.trans ?_⟩
  simp[zay];lia
theorem zfB (fs:List (Nat × Nat)) (cs:List Int):(flow fs cs).1.length=cs.length:=(zba fs (cs,[])).1
theorem zaI (fs:List (Nat × Nat)) (cs:List Int):(flow fs cs).2.length=fs.length:=by
 have:=(zba fs (cs,[])).2
 simpa [flow] using this
theorem zcq {fs:List (Nat × Nat)}{i:Nat}{f:Nat × Nat}(h:fs[i]?=some f) (cs:List Int):flow (fs.take (i+1)) cs=zay (flow (fs.take i) cs) f:=by
 have w:=Je.mp h;obtain⟨hi,e⟩:=w
 rw[Z8 hi,zhI,e]
theorem zb7 {xs:List Int}{i p:Nat}{a:Int}(h:p<xs.length):(xs.set i a).getD p 0=if i=p then a else xs.getD p 0:=by
 rw[Jb,List.getElem?_set]
 by_cases e:i=p
 ·subst e;simp[h]
 ·simp[e]
theorem zkD {N:Nt}(ok:N.Ok) {e:Nat}(h:e∈N.ends):e<N.lanes:=Yj.mp (ok.en.mem_iff.mp h)
theorem zjb {N:Nt}(ok:N.Ok):N.ends.length=N.lanes:=by rw[ok.en.length_eq,Y9]
theorem zh6 {cs:List Int}{i:Nat}(h:i<cs.length):atI (cs.map V.int) ((i:Nat):Int)=some (.int (cs.getD i 0)):=by
 refine zap ?_
 rw[JR,Jb,J7 h];rfl
theorem zi6 {α:Type}{xs:List α}{i:Nat}(h:i<xs.length):ixN xs.length ((i:Nat):Int)=some i:=by
 unfold ixN
 rw[Jf (by lia),Jf (by lia)];simp
theorem zik (cs:List Int) (i:Nat) (a:Int):(cs.map V.int).set i (.int a)=(cs.set i a).map V.int:=by rw[List.map_set]
structure Mgs (mg:Str→Option Value):Prop where
 len:mg "len" = none
 range:mg "range" = none
 tuple:mg "tuple" = none
 enum:mg "enumerate" = none
 abs:mg "abs" = none
 zip:mg "zip" = none
 isi:mg "isinstance" = none
 all:mg "all" = none
 sum:mg "sum" = none
 bool:mg "bool" = none
 int:mg "int" = none
 str:mg "str" = none
 max:mg "max" = none
 min:mg "min" = none
 sorted:mg "sorted" = none
 list:mg "list" = none
structure Use (P:Program) (w:World) (K:PySem.W.Frag) (mg:Str→Option Value) (base:Heap) (x:Str) (ps:List Str) (k:Nat) (sp:Sp) (f:Addr) (fd:FuncData):Prop where
 ok:FnOk P w K mg base CX0 k f fd ps sp
 b:Binds K fd ps []
 kp:PySem.W.keepIn K (.ref f)=true
 m:mg x=some (.ref f)
def Frs (l:Addr) (H:Hp) (x:Addr):Prop:=∀ b o,H b=some o→b≠l→b≠x
theorem But.frs {l x:Addr}{H H1:Hp}(B:But l H H1) (h:H1 x=none):Frs l H x:=fun b o e n=>zab (B b o e n) h
theorem But.upd {l x:Addr}{H H1:Hp}{o:HO}(B:But l H H1) (f:Frs l H x):But l H (upd H1 x o):=fun b u e n=>by rw[zad (f b u e n)];exact B b u e n
theorem zc9 {xs:List Nat}{v:Nat}(h:v<xs.length):∃ n,n∈xs∧atI (nums xs) ((v:Nat):Int)=some (.int n):=by
 refine⟨xs[v],Y8 h,zap ?_⟩
 unfold nums
 rw[JR,J7 h];rfl
theorem zai (es:List Nat):(nums es).length=es.length:=by simp[nums]
theorem ziz {one d lanes:Nat}(h1:one<lanes) (h2:d+1<lanes):(one+1+d)%lanes<lanes∧one≠(one+1+d)%lanes:=by
 refine⟨Nat.mod_lt _ (by lia),fun e=>?_⟩
 by_cases z:one+1+d<lanes
 ·rw[Nat.mod_eq_of_lt z]at e;lia
 ·rw[Nat.mod_eq_sub_mod (by lia),Nat.mod_eq_of_lt (by lia)]at e;lia
def nm (ns:List Nat) (i:Nat):Nat:=ns.getD i 0
section
variable {ns:List Nat}{n:Nat}(pm:ns.Perm (List.range n))
include pm
end
def Nt.again (N:Nt) (f:Nat × Nat):Nt:=⟨N.lanes,N.forks++[f],N.ends⟩
end Bn
namespace L2
open PySem PySem.Spec PyProof.Rows Own
section
variable {X:Cx}
end
section
variable {prog:Program}{w:World}{A:Around}{E:Value→Shared→Prop}{s:Shared}
theorem zeI {t sl:Addr}{items:Array Value}{vl vu:Value}{lo hi:Option Int}{Q:Value→Shared→Prop}(ht:IsTup s.heap t items) (hs:s.heap.IsSliceOf sl vl vu .none) (pl:IsPart vl lo) (pu:IsPart vu hi)
  (e0:HT.sIx items.size 0 lo=0) (e1:HT.sIx items.size items.size hi=items.size) (h:Q (.ref t) s):wpAny (model prog w) A (getItem (.ref t) (.ref sl)) Q E s:=by
 obtain⟨os,hos,hcs,hds⟩:=id hs
 have hTs:s.TypeIs (.ref sl) "slice":=⟨os,hos,hcs⟩
 unfold getItem
 try with_reducible refine Ya ?_
 first|refine J0 (J9 ?_)|skip
 refine J0 (wpAny_sequenceKey ht.typeIs (by decide) (J0 (wpAny_callSpecial?_slot (name:=Str.ofString "__getitem__") ht.typeIs PyProof.Rows.slot_tuple_getitem (wpAny_call_entry PyProof.Rows.slot_tuple_getitem ht.typeIs PyProof.Rows.entry_tuple_getitem ?_ (PyProof.Rows.args_tuple_getitem _ _)))))
 show wpAny _ _ (Builtin.Tuple.tupleItemsOf (.ref t) >>= _) _ _ s
 refine J0 (tupleItemsOf_ ht (J0 (wpAny_typeOf hTs ?_)))
 rw[Jf (by decide)]
 refine J0 (HT.sliceApplied_gen hs pl pu ?_)
 rw[e0,e1]
 show wpAny _ _ (if (((0:Nat):Int) == 0 && (1:Int) == 1 && (items.size-0) == items.size)=true then _ else _) _ _ s
 rw[Jf (by simp)]
 refine J0 ?_
 unfold Builtin.Tuple.tupleIsExact
 refine J0 (wpAny_typeOf ht.typeIs (J9 ?_))
 rw[Jf (by decide)]
 exact J0 (wpAny_rule (J9 ⟨_,rfl,J9 h⟩))
end
section
variable {X:Cx}
end
section
variable {prog:Program}{w:World}{A:Around}{R:Result→Shared→Prop}{I S:Addr}{fp wr:List Addr}{n:Nat}{P B:Nat→Value→Prop}{St:Nat→Heap→Prop}
end
section
variable {prog:Program}{w:World}{A:Around}{E:Value→Shared→Prop}{s:Shared}
end
section
variable {X:Cx}{e e2:Expr}{ta tb:TE}{p kp pos:Pos}
end
end L2
namespace K41
open PySem L2 Own Bn
def top (i:Nat):Stmt:=PySem.Challenge.pw_stairlanes_k41_whole_each_next_end.main.body.getD i (.Pass ⟨0,0,0,0⟩)
end K41
namespace L2
open PySem PySem.Spec PyProof.Rows Own
section
variable {X:Cx}
theorem op_catH:OpR X (binaryOp .Add) (fun x y H Q=>∃ a b xs ys,x=.ref a∧y=.ref b∧H a=some (.tup xs)∧H b=some (.tup ys)∧xs.length+ys.length≤sizeLine∧∀ r H',Same H H'→H' r=some (.tup (xs++ys))→Q (.ref r) H'):=by
 intro pins s σ H x y v u Q I rx ry h
 obtain⟨a,b,xs,ys,rfl,rfl,ha,hb,hz,q⟩:=h
 by_cases hx:xs=[]
 ·subst hx
  cases rx;cases ry
  obtain⟨its,r1,p1,_⟩:=I.tuple (SqT.of ha)
  obtain⟨jts,r2,p2,_⟩:=I.tuple (SqT.of hb)
  cases r1
  obtain⟨⟨c1,d1,e1,sl1⟩,o1,c1',n1,e1'⟩:=p1
  obtain⟨⟨c2,d2,e2,sl2⟩,o2,c2',n2,e2'⟩:=p2
  simp only at c1' e1' c2' e2'
  subst c1' e1' c2' e2'
  refine concat_meets ⟨_,o1,rfl⟩ ⟨_,o2,rfl⟩ noFill_tuple_add seq_tuple_add PySem.F.slot_tuple_add PySem.F.entry_tuple_add (PySem.F.args_tuple_add_2 _ _) (tuple_addW0 a b #[] jts.toArray n1 n2 d1 d2 sl1 sl2 rfl) ⟨o1,o2,?_⟩
  exact⟨.ref b,H,I,rfl,q b H (Same.refl H) (by rw[Zh];exact hb)⟩
 ·exact zka pins s σ H _ _ v u Q I rx ry ⟨a,b,xs,ys,rfl,rfl,SqT.of ha,SqT.of hb,hx,hz,fun e=>q a H (Same.refl H) (by rw[e,JT];exact ha),fun _ p hp=>q p _ (zaa hp _) zac⟩
theorem sl_tupH:SlR X (fun x lo hi H Q=>∃ a xs,x=.ref a∧H a=some (.tup xs)∧∀ p H',Same H H'→H' p=some (.tup (cutV xs lo hi))→Q (.ref p) H'):=by
 intro pins s σ H x v vl vu lo hi sl Q I rx hs pl pu h
 obtain⟨a,xs,rfl,hx,q⟩:=h
 by_cases hw:HT.sIx xs.length 0 lo=0∧HT.sIx xs.length xs.length hi=xs.length
 ·cases rx
  obtain⟨its,r,ht,hz⟩:=I.tuple (SqT.of hx)
  have hlen:its.toArray.size=xs.length:=by rw[Jj];exact r.length.symm
  refine⟨"tuple",_,PyProof.Rows.slot_tuple_getitem.lookup,ht.typeIs,zeI ht hs pl pu (by rw[hlen];exact hw.1) (by rw[hlen];exact hw.2) ⟨.ref a,H,I,rfl,q a H (Same.refl H) ?_⟩⟩
  unfold cutV
  rw[hw.1,hw.2,Z9,Nat.sub_zero,YR]
  exact hx
 ·exact zkR pins s σ H _ v vl vu lo hi sl Q I rx hs pl pu ⟨a,xs,rfl,SqT.of hx,hw,fun p hp=>q p _ (zaa hp _) zac⟩
end
theorem zfD (xs:List V) (i:Nat) (h:i≤xs.length):cutV xs none (some (i:Int))=xs.take i:=by
 unfold cutV
 rw[HT.sIx_none,HT.sIx_nat,Z9,Nat.sub_zero,YE h]
theorem zfE (xs:List V) (i:Nat) (h:i≤xs.length):cutV xs (some (i:Int)) none=xs.drop i:=by
 unfold cutV
 rw[HT.sIx_none,HT.sIx_nat,YE h]
 exact JE (by rw[Yf];exact Jg _)
section
variable {X:Cx}
end
section
variable {X:Cx}
end
end L2
namespace L2
open PySem PySem.Spec PyProof.Rows PySem.Calls PySem.NumText Own
section
variable {prog:Program}{w:World}{A:Around}{E:Value→Shared→Prop}{s:Shared}
end
section
variable {X:Cx}
end
end L2
namespace L2
open PySem PySem.Spec PyProof.Rows Own
section
variable {X:Cx}
end
def rowOf (H:Hp):V→Option (List V)
 | .ref a=>match H a with
  | some (.tup xs)=>some xs
  | _=>none
 | _=>none
end L2
namespace Bn
open PySem L2 Own
structure Grp where
 many:Int
 lane:Nat
 fork:Nat
def zaj (back:Bool) (st:List Int × Nat) (k:Nat) (f:Nat × Nat):List Int × Nat :=
 if st.2=f.1∨st.2=f.2 then (st.1.set k (1-st.1.getD k 0),if (if back then 1-st.1.getD k 0 else st.1.getD k 0)=0 then f.1 else f.2) else st
def zam (back:Bool) (fs:List (Nat × Nat)) (ts:List Int) (lane:Nat):Nat→List Int × Nat
 | 0=>(ts,lane)
 | i+1=>zaj back (zam back fs ts lane i) i (fs.getD i (0,0))
def zao (xs:List Int) (i:Nat) (d:Int):List Int:=xs.set i (xs.getD i 0+d)
theorem zat (xs:List Int) (i:Nat) (d:Int):(zao xs i d).length=xs.length:=by simp[zao]
theorem zax {xs:List Int}{i p:Nat}{d:Int}(h:p<xs.length):(zao xs i d).getD p 0=xs.getD p 0+if i=p then d else 0:=by
 unfold zao
 rw[zb7 h]
 by_cases e:i=p
 ·subst e;rw[Jf rfl,Jf rfl]
 ·rw[Jc e,Jc e,Int.add_zero]
theorem zbK {xs ys:List Int}(hl:xs.length=ys.length) (h:∀ p,p<xs.length→xs.getD p 0=ys.getD p 0):xs=ys:=by
 refine List.ext_getElem hl fun p h1 h2=>?_
 have:=h p h1
 rwa [Jb,Jb,J7 h1,J7 h2]at this
theorem zbw {L T:List Int}{f:Nat × Nat}{p:Nat}(hp:p<L.length):(zay (L,T) f).1.getD p 0=if f.2=p then (L.getD f.1 0+L.getD f.2 0) / 2 else if f.1=p then (L.getD f.1 0+L.getD f.2 0+1) / 2 else L.getD p 0:=by
 unfold zay
 simp only
 rw[zb7 (by rw[YZ];exact hp),zb7 hp]
theorem ziD (back:Bool) (L T:List Int) (f:Nat × Nat) (here k:Nat) (ts:List Int) (h1:f.1<L.length) (h2:f.2<L.length) (ne:f.1≠f.2) (hh:here<L.length) (ht:ts.getD k 0=(L.getD f.1 0+L.getD f.2 0)%2) :
  let d:Int:=if back then -1 else 1
  let r:=zaj back (ts,here) k f
  (zay (zao L here d,T) f).1=zao (zay (L,T) f).1 r.2 d∧r.2<L.length ∧
   ((here=f.1∨here=f.2)→((zao L here d).getD f.1 0+(zao L here d).getD f.2 0)%2=1-ts.getD k 0)∧(¬(here=f.1∨here=f.2)→((zao L here d).getD f.1 0+(zao L here d).getD f.2 0)%2=ts.getD k 0):=by
 intro d r
 have hd:d=if back then -1 else 1:=rfl
 have a1:=zax (xs:=L) (i:=here) (d:=d) h1
 have a2:=zax (xs:=L) (i:=here) (d:=d) h2
 generalize hc:L.getD f.1 0+L.getD f.2 0=c at *
 have hr:r=zaj back (ts,here) k f:=rfl
 unfold zaj at hr
 simp only at hr
 by_cases on:here=f.1∨here=f.2
 ·rw[Jf on]at hr
  have c':(zao L here d).getD f.1 0+(zao L here d).getD f.2 0=c+d:=by
   rw[a1,a2,← hc]
   rcases on with e|e
   ·subst e;rw[Jf rfl,Jc ne];lia
   ·subst e;rw[Jc (Ne.symm ne),Jf rfl];lia
  have hr2:r.2=if (if back then 1-c%2 else c%2)=0 then f.1 else f.2:=by rw[hr,ht]
  refine⟨zbK (by rw[zaz,zat,zat,zaz]) fun p hp=>?_,?_,fun _=>?_,fun z=>absurd on z⟩
  ·rw[zaz,zat]at hp
   have hp':p<L.length:=hp
   rw[zbw (by rw[zat];exact hp'),c',zax (xs:=(zay (L,T) f).1) (by rw[zaz];exact hp'),zbw hp',hc,zax (xs:=L) hp',hr2]
   cases back
   ·simp only[Y1,if_false]at hd ⊢
    rw[hd]
    by_cases p2:f.2=p
    ·subst p2
     simp only[if_true]
     by_cases z:c%2=0
     ·rw[Jf z,Jc ne];lia
     ·rw[Jc z,Jf rfl];lia
    ·rw[Jc p2,Jc p2]
     by_cases p1:f.1=p
     ·subst p1
      simp only[if_true]
      by_cases z:c%2=0
      ·rw[Jf z,Jf rfl];lia
      ·rw[Jc z,Jc (Ne.symm ne)];lia
     ·rw[Jc p1,Jc p1]
      have q1:¬ here=p:=by rcases on with e|e<;>lia
      have q2:¬(if c%2=0 then f.1 else f.2)=p:=by split<;>assumption
      rw[Jc q1,Jc q2]
   ·simp only[if_true]at hd ⊢
    rw[hd]
    by_cases p2:f.2=p
    ·subst p2
     simp only[if_true]
     by_cases z:1-c%2=0
     ·rw[Jf z,Jc ne];lia
     ·rw[Jc z,Jf rfl];lia
    ·rw[Jc p2,Jc p2]
     by_cases p1:f.1=p
     ·subst p1
      simp only[if_true]
      by_cases z:1-c%2=0
      ·rw[Jf z,Jf rfl];lia
      ·rw[Jc z,Jc (Ne.symm ne)];lia
     ·rw[Jc p1,Jc p1]
      have q1:¬ here=p:=by rcases on with e|e<;>lia
      have q2:¬(if 1-c%2=0 then f.1 else f.2)=p:=by split<;>assumption
      rw[Jc q1,Jc q2]
  ·rw[hr2]
   by_cases z:(if back=true then 1-c%2 else c%2)=0
   ·rw[Jf z];exact h1
   ·rw[Jc z];exact h2
  ·rw[c',ht]
   cases back<;>simp at hd<;>lia
 ·rw[Jc on]at hr
  have n1:¬ here=f.1:=fun z=>on (.inl z)
  have n2:¬ here=f.2:=fun z=>on (.inr z)
  rw[Jc n1]at a1
  rw[Jc n2]at a2
  have c':(zao L here d).getD f.1 0+(zao L here d).getD f.2 0=c:=by rw[a1,a2,← hc];lia
  have hr2:r.2=here:=by rw[hr]
  refine⟨zbK (by rw[zaz,zat,zat,zaz]) fun p hp=>?_,by rw[hr2];exact hh,fun z=>absurd z on,fun _=>by rw[c',ht]⟩
  rw[zaz,zat]at hp
  have hp':p<L.length:=hp
  rw[zbw (by rw[zat];exact hp'),c',zax (xs:=(zay (L,T) f).1) (by rw[zaz];exact hp'),zbw hp',hc,zax (xs:=L) hp',hr2]
  by_cases p2:f.2=p
  ·rw[Jf p2,Jf p2,Jc (by lia)];lia
  ·rw[Jc p2,Jc p2]
   by_cases p1:f.1=p
   ·rw[Jf p1,Jf p1,Jc (by lia)];lia
   ·rw[Jc p1,Jc p1]
structure Ran (back:Bool) (fs:List (Nat × Nat)) (cs ts:List Int) (lane i:Nat):Prop where
 flows:(flow (fs.take i) (zao cs lane (if back then -1 else 1))).1=zao (flow (fs.take i) cs).1 (zam back fs ts lane i).2 (if back then -1 else 1)
 turns:∀ k,k<i→(flow (fs.take i) (zao cs lane (if back then -1 else 1))).2.getD k 0=(zam back fs ts lane i).1.getD k 0
 rest:∀ k,i≤k→(zam back fs ts lane i).1.getD k 0=ts.getD k 0
 len:(zam back fs ts lane i).1.length=ts.length
 here:(zam back fs ts lane i).2<cs.length
 bits:∀ t∈(zam back fs ts lane i).1,t=0∨t=1
theorem zcr (cs:List Int) (T:List Int):∀ (gs:List (Nat × Nat)) (L:List Int) (k:Nat),k<T.length→(zaq (L,T) gs).2.getD k 0=T.getD k 0
 | [],_,_,_=>rfl
 | g::gs,L,k,h=>by
  have:=zcr cs (zay (L,T) g).2 gs (zay (L,T) g).1 k (by simp[zay];lia)
  rw[show zaq (L,T) (g::gs)=zaq ((zay (L,T) g).1,(zay (L,T) g).2) gs from rfl,this]
  show (T++[_]).getD k 0=T.getD k 0
  rw[Jb,Ys h,← Jb]
theorem zjI {fs:List (Nat × Nat)}{i:Nat}{f:Nat × Nat}(h:fs[i]?=some f) (cs:List Int):(flow fs cs).2.getD i 0=((flow (fs.take i) cs).1.getD f.1 0+(flow (fs.take i) cs).1.getD f.2 0)%2:=by
 have sp:fs=fs.take (i+1)++fs.drop (i+1):=(Zc _ _).symm
 have e:flow fs cs=zaq (flow (fs.take (i+1)) cs) (fs.drop (i+1)):=by
  conv=>lhs;rw[sp]
  unfold flow zaq;rw[YJ]
 have hi:i<fs.length:=(Je.mp h).1
 have tl:(flow (fs.take i) cs).2.length=i:=by rw[zaI,Jw];lia
 rw[e,zcq h]
 have:=zcr cs (zay (flow (fs.take i) cs) f).2 (fs.drop (i+1)) (zay (flow (fs.take i) cs) f).1 i (by simp[zay,tl])
 rw[this]
 unfold zay
 simp only
 rw[Jb,Yn (by lia),tl]
 simp
theorem ze7 {ts:List Int}{k:Nat}(h:∀ t∈ts,t=0∨t=1):∀ t∈ts.set k (1-ts.getD k 0),t=0∨t=1:=fun t ht=>by
 rcases List.mem_or_eq_of_mem_set ht with z|z
 ·exact h t z
 ·by_cases hk:k<ts.length
  ·have:=h _ (L2.zfz hk);lia
  ·rw[List.set_eq_of_length_le (by lia)]at ht;exact h t ht
theorem ran {back:Bool}{fs:List (Nat × Nat)}{cs:List Int}{lane:Nat}(ok:∀ f∈fs,f.1<cs.length∧f.2<cs.length∧f.1≠f.2) (hl:lane<cs.length) (hb:∀ t∈(flow fs cs).2,t=0∨t=1):∀ i,i≤fs.length→Ran back fs cs (flow fs cs).2 lane i
 | 0,_=>⟨rfl,fun k hk=>absurd hk (Nat.not_lt_zero _),fun _ _=>rfl,rfl,hl,hb⟩
 | i+1,hi=>by
  have ih:=ran (back:=back) ok hl hb i (by lia)
  have eg:fs[i]?=some fs[i]:=J7 (by lia)
  have gd:fs.getD i (0,0)=fs[i]:=by rw[Jb,eg];rfl
  have okf:=ok _ (Y8 (show i<fs.length by lia))
  have e1:=zcq eg (zao cs lane (if back then -1 else 1))
  have e2:=zcq eg cs
  have tt:=zjI eg cs
  generalize fs[i]=f at *
  have l1:(flow (fs.take i) cs).1.length=cs.length:=zfB _ _
  have tl:(flow (fs.take i) (zao cs lane (if back then -1 else 1))).2.length=i:=by rw[zaI,Jw];lia
  have tf:(flow fs cs).2.length=fs.length:=zaI _ _
  have of:=ziD back (flow (fs.take i) cs).1 (flow (fs.take i) (zao cs lane (if back then -1 else 1))).2 f (zam back fs (flow fs cs).2 lane i).2 i (zam back fs (flow fs cs).2 lane i).1 (by lia) (by lia) okf.2.2 (by rw[l1];exact ih.here) (by rw[ih.rest i (Jg _)];exact tt)
  obtain⟨o1,o2,o3,o4⟩:=of
  have rs:zam back fs (flow fs cs).2 lane (i+1)=zaj back ((zam back fs (flow fs cs).2 lane i).1,(zam back fs (flow fs cs).2 lane i).2) i f:=by show zaj _ _ _ _=_;rw[gd]
  have st:flow (fs.take i) (zao cs lane (if back then -1 else 1))=(zao (flow (fs.take i) cs).1 (zam back fs (flow fs cs).2 lane i).2 (if back then -1 else 1),(flow (fs.take i) (zao cs lane (if back then -1 else 1))).2):=by rw[← ih.flows]
  generalize hr:zam back fs (flow fs cs).2 lane i=r at *
  generalize hF:(flow (fs.take i) (zao cs lane (if back then -1 else 1))).2=T at *
  have tn:(zaj back (r.1,r.2) i f).1.getD i 0=(zay (zao (flow (fs.take i) cs).1 r.2 (if back then -1 else 1),T) f).2.getD i 0:=by
   unfold zay
   simp only
   rw[Jb (l:=T++_),Yn (by lia),tl]
   simp only[Nat.sub_self,List.getElem?_cons_zero,YS]
   unfold zaj
   by_cases on:r.2=f.1∨r.2=f.2
   ·rw[Jf on,o3 on]
    simp only
    rw[zb7 (by have z:=ih.len;rw[hr,tf]at z;lia),Jf rfl]
   ·rw[Jc on,o4 on]
  have keep:∀ k,k≠i→(zaj back (r.1,r.2) i f).1.getD k 0=r.1.getD k 0:=fun k hk=>by
   unfold zaj
   split
   ·simp only
    rw[Jb,Zf (Ne.symm hk),← Jb]
   ·rfl
  refine⟨?_,fun k hk=>?_,fun k hk=>?_,?_,?_,?_⟩
  ·rw[e1,st,o1,rs,e2,show flow (fs.take i) cs=((flow (fs.take i) cs).1,(flow (fs.take i) cs).2) from rfl];rfl
  ·rw[e1,st,rs]
   by_cases e:k=i
   ·subst e;exact tn.symm
   ·have z:=ih.turns k (by lia)
    rw[hr,hF]at z
    rw[keep k e,← z]
    unfold zay
    simp only
    rw[Jb,Ys (by lia),← Jb]
  ·have z:=ih.rest k (by lia)
   rw[hr]at z
   rw[rs,keep k (by lia),z]
  ·rw[rs]
   unfold zaj
   split
   ·simp only;rw[YZ,← ih.len,hr]
   ·rw[← ih.len,hr]
  ·rw[rs,← l1];exact o2
  ·rw[rs]
   unfold zaj
   split
   ·exact ze7 (by have z:=ih.bits;rw[hr]at z;exact z)
   ·have z:=ih.bits;rw[hr]at z;exact z
theorem zbQ {back:Bool}{fs:List (Nat × Nat)}{ts:List Int}{lane:Nat}(h:∀ t∈ts,t=0∨t=1):∀ i,∀ t∈(zam back fs ts lane i).1,t=0∨t=1
 | 0=>h
 | i+1=>by
  have ih:=zbQ (back:=back) (fs:=fs) (lane:=lane) h i
  show ∀ t∈(zaj back (zam back fs ts lane i) i (fs.getD i (0,0))).1,t=0∨t=1
  unfold zaj
  split
  ·exact ze7 ih
  ·exact ih
theorem zce {back:Bool}{fs:List (Nat × Nat)}{ts:List Int}{lane:Nat}:∀ i,(zam back fs ts lane i).1.length=ts.length
 | 0=>rfl
 | i+1=>by
  have ih:=zce (back:=back) (fs:=fs) (ts:=ts) (lane:=lane) i
  show (zaj back (zam back fs ts lane i) i (fs.getD i (0,0))).1.length=_
  unfold zaj
  split
  ·simp only;rw[YZ];exact ih
  ·exact ih
theorem zcI {back:Bool}{fs:List (Nat × Nat)}{ts:List Int}{lane n:Nat}(ok:∀ f∈fs,f.1<n∧f.2<n∧f.1≠f.2) (hl:lane<n):∀ i,i≤fs.length→(zam back fs ts lane i).2<n
 | 0,_=>hl
 | i+1,hi=>by
  have ih:=zcI (back:=back) (ts:=ts) ok hl i (by lia)
  have okf:=ok _ (Y8 (show i<fs.length by lia))
  have gd:fs.getD i (0,0)=fs[i]:=by rw[Jb,J7 (show i<fs.length by lia)];rfl
  show (zaj back (zam back fs ts lane i) i (fs.getD i (0,0))).2<n
  rw[gd]
  generalize fs[i]=f at *
  unfold zaj
  split
  ·simp only
   by_cases z:(if back=true then 1-(zam back fs ts lane i).1.getD i 0 else (zam back fs ts lane i).1.getD i 0)=0
   ·rw[Jf z];exact okf.1
   ·rw[Jc z];exact okf.2.1
  ·exact ih
theorem zfy (k:Nat):∀ es:List Nat,(es.map fun (e:Nat)=>(e:Int)).idxOf (k:Int)=es.idxOf k
 | []=>rfl
 | e::es=>by
  rw[JV,List.idxOf_cons,List.idxOf_cons,zfy k es]
  have:((e:Int) == (k:Int))=(e == k):=by
   rw[Ye,beq_iff_eq];rw[beq_iff_eq];lia
  rw[this]
theorem ziJ (es:List Nat):nums es=(es.map fun (e:Nat)=>(e:Int)).map V.int:=by unfold nums;rw[YQ];rfl
def zjO:Sp:=fun vs H Q _=>∃ r fr er ps N,∃ lane:Nat,vs=[.ref r,.int lane]∧Nt.Ok N∧NetAt H r fr er ps N∧lane<N.lanes∧Q (.int (N.ends.idxOf lane:Nat)) H
def RunQ (back:Bool) (vs:List V) (H:Hp) (Q:VK):Prop:=∃ r fr er ps N tr ts,∃ lane:Nat,vs=[.ref r,.ref tr,.int lane]∧Nt.Ok N∧NetAt H r fr er ps N∧H tr=some (.tup (List.map V.int ts))∧ts.length=N.forks.length∧(∀ t∈ts,t=0∨t=1)∧lane<N.lanes ∧
 ∀ p tr' H',Same H H'→H' p=some (.tup [.ref tr',.int (N.ends.idxOf (zam back N.forks ts lane N.forks.length).2:Nat)])→H' tr'=some (.tup ((zam back N.forks ts lane N.forks.length).1.map V.int))→Q (.ref p) H'
def ze4 (back:Bool):Sp:=fun vs H Q _=>RunQ back vs H Q
def zjN:Sp:=fun vs H Q _=>∃ (us:List V) (back:Bool),vs=us++[.bl back]∧RunQ back us H Q
theorem zjR (xs:List Int) (i:Nat) (v:Int) (h:i<xs.length):(xs.map V.int).take i++[V.int v]++(xs.map V.int).drop (i+1)=(xs.set i v).map V.int:=by
 rw[List.set_eq_take_append_cons_drop,Jf h,Y2,JV,List.map_take,List.map_drop,JM];rfl
def part (m:Int) (lane k:Nat):List Grp:=if m=0 then [] else [⟨m,lane,k⟩]
end Bn
namespace L2
open PySem PySem.Spec PyProof.Rows Own
section
variable {X:Cx}{pos:Pos}
theorem Inv.big {pins:List (Addr × Obj)}{σ:St}{H:Hp}{s:Shared}(I:Inv X pins σ H s):sysModules<s.heap.objs.size:=by
 have h:mainGlobals<s.heap.objs.size:=(I.mod.glob.keeps I.bk).lt
 exact Nat.lt_trans (by decide) h
end
end L2
namespace Bn
open PySem L2 Own
end Bn
namespace L2
open PySem PySem.Spec PyProof.Rows Own
def LtAt (A:Around) (s:Shared) (y x:Value) (b:Bool):Prop:=∀ (prog:Program) (w:World) (E:Value→Shared→Prop) (Q:Value→Shared→Prop),Q (.bool b) s→wpAny (model prog w) A (richCompare .Lt y x) Q E s
theorem LtAt.ints {A:Around}{s:Shared}(a b:Int) (t u:Tok):LtAt A s (.int a t) (.int b u) (decide (a<b)):=fun _ _ _ _ h=>lt_int h
theorem zeC (l b:Addr) (xs ys:Array Value) (n m:Nat) (d1 d2:Option Addr) (sl1 sl2:Array (Option Value)) (k:Nat) (k1:k<xs.size) (k2:k<ys.size) (c:Bool) :
  Meets (Builtin.«tuple.__lt__» ⟨[.ref l,.ref b],[]⟩)
   (fun A R s=>s.heap.get? l=some { cls:=.type "tuple",dict:=d1,data:=.seq xs n,slots:=sl1 }∧s.heap.get? b=some { cls:=.type "tuple",dict:=d2,data:=.seq ys m,slots:=sl2 } ∧
    (∀ j (h1:j<xs.size) (h2:j<ys.size),j<k→SeqAt.EqAt A.in1 s xs[j] ys[j] true)∧SeqAt.EqAt A.in1 s xs[k] ys[k] false∧LtAt A.in1 s xs[k] ys[k] c∧R (.ok (.ret (.bool c))) s) :=
 .of_wp fun prog w A R s h=>by
  obtain⟨hp,g,d,tk,os⟩:=s;obtain⟨hl,hb,he,hk,hc,h⟩:=h
  have kinds:=AutoSeq1.sub_tuple_tuple
  have zl:(xs.toList.zip ys.toList).length=min xs.size ys.size:=by simp
  wp_walk using wpAny_loadPart' hl,wpAny_loadPart' hb,wpAny_forIn_list _ (fun rest b s'=>b.1=none∧s'=⟨hp,g,d,tk,os⟩∧∃ i,i≤k∧rest=(xs.toList.zip ys.toList).drop i) _
  case turn =>
   rintro⟨y,x⟩ rest b s' ⟨hb',rfl,i,ik,hz⟩
   have i1:i<xs.size:=by lia
   have i2:i<ys.size:=by lia
   have il:i<(xs.toList.zip ys.toList).length:=by rw[zl];lia
   rw[Yt il]at hz
   obtain⟨e1,e2⟩:=List.cons.inj hz
   have ey:y=xs[i]:=by simpa using JJ Prod.fst e1
   have ex:x=ys[i]:=by simpa using JJ Prod.snd e1
   subst ey ex
   by_cases z:i=k
   ·subst z
    refine J0 (hk prog w _ _ ?_)
    simp only[if_true,Bool.not_false]
    refine J0 (wpAny_rule (J0 (hc prog w _ _ ?_)))
    wp_walk
    exact⟨_,rfl,h⟩
   ·refine J0 (he i i1 i2 (by lia) prog w _ _ ?_)
    wp_walk
    exact⟨rfl,rfl,i+1,by lia,e2⟩
  case fin =>
   rintro⟨b1,b2⟩ s' ⟨hb',rfl,i,ik,hz⟩
   have il:i<(xs.toList.zip ys.toList).length:=by rw[zl];lia
   rw[Yt il]at hz;cases hz
  case h =>
   exact⟨rfl,rfl,0,JH _,rfl⟩
theorem LtAt.tuples {A:Around}{s:Shared}{l b:Addr}{xs ys:Array Value}{k:Nat}{c:Bool}(hl:IsTup s.heap l xs) (hb:IsTup s.heap b ys) (hu:A.units<cLine) (k1:k<xs.size) (k2:k<ys.size)
  (he:∀ j (h1:j<xs.size) (h2:j<ys.size),j<k→SeqAt.EqAt A.in1 s xs[j] ys[j] true) (hk:SeqAt.EqAt A.in1 s xs[k] ys[k] false) (hc:LtAt A.in1 s xs[k] ys[k] c):LtAt A s (.ref l) (.ref b) c:=fun prog w E Q h=>by
 obtain⟨⟨cl1,dd1,da1,sl1⟩,o1,c1,n,e1⟩:=hl
 obtain⟨⟨cl2,dd2,da2,sl2⟩,o2,c2,m,e2⟩:=hb
 simp only at c1 e1 c2 e2;subst c1 e1 c2 e2
 exact richCompare_meets_room (op:=.Lt) ⟨_,o1,rfl⟩ ⟨_,o2,rfl⟩ F.slot_tuple_lt F.entry_tuple_lt (F.args_tuple_lt_2 _ _) (zeC l b xs ys n m dd1 dd2 sl1 sl2 k k1 k2 c) ⟨o1,o2,he,hk,hc,show Value.bool c≠Value.notImplemented∧Q (.bool c) s from⟨(fun x=>nomatch x),h⟩⟩ hu
section
variable {prog:Program}{w:World}{A:Around}{R:Result→Shared→Prop}{I S:Addr}{fp wr:List Addr}{n:Nat}{P:Nat→Value→Prop}{St:Nat→Heap→Prop}
end
section
variable {prog:Program}{w:World}{A:Around}{E:Value→Shared→Prop}{s:Shared}
end
section
variable {X:Cx}
end
section
variable {prog:Program}{w:World}{A:Around}{E:Value→Shared→Prop}{s:Shared}
end
section
variable {X:Cx}
end
section
variable {X:Cx}
end
end L2
namespace K41
open PySem L2 Own Bn
abbrev zgL:Stmt:=top 6
abbrev zgN:Stmt:=top 7
def zeg:Sp:=fun vs H Q _=>∃ a xs,∃ (place:Nat) (v:Int),vs=[.ref a,.int place,.int v]∧H a=some (.tup (List.map V.int xs))∧place<xs.length∧xs.length≤1000∧∀ p H',Same H H'→H' p=some (.tup ((xs.set place v).map V.int))→Q (.ref p) H'
def zei:Sp:=fun vs H Q _=>∃ a xs,∃ (place:Nat) (v:Int),vs=[.ref a,.int place,.int v]∧H a=some (.tup (List.map V.int xs))∧place<xs.length∧xs.length≤1000∧∀ p H',Same H H'→H' p=some (.tup ((xs.set place (xs.getD place 0+v)).map V.int))→Q (.ref p) H'
section
variable {P:Program}{w:World}{K:PySem.W.Frag}{mg:Str→Option Value}{base:Heap}
theorem scGi:FnScope ["row","place","value"] ["row","place","value"] (zae zgL):=by trivial
theorem ziH {f:Addr}{fd:FuncData}(F:Fun K "given_at" "given_at" zgL f fd) (G:Mgs mg):FnOk P w K mg base CX0 1 f fd ["row","place","value"] zeg:=by
 refine F.ok scGi (fun vs H Q E h=>?_) (fun cdv A outer s H vs Q E hr h=>?_)
 ·obtain⟨a,xs,place,v,rfl,_⟩:=h
  rfl
 obtain⟨a,xs,place,v,rfl,ha,pl,xl,k⟩:=h
 refine⟨_,(@pss_one _ _ _ (@ps_ret _ _ _ _ (@pe_op _ _ _ _ _ _ _ _ op_catH (@pe_op _ _ _ _ _ _ _ _ op_catH (@pe_slice _ _ _ _ _ _ _ _ _ _ sl_tupH (@qv _ 0 _ _ (by trivial)) po_none (@po_some _ _ _ (@qv _ 1 _ _ (by trivial)))) (@pe_tup _ _ _ _ _ (@pa_cons _ _ _ _ _ (@qv _ 2 _ _ (by trivial)) pa_nil (by rfl)))) (@pe_slice _ _ _ _ _ _ _ _ _ _ sl_tupH (@qv _ 0 _ _ (by trivial)) (@po_some _ _ _ (@pe_op _ _ _ _ _ _ _ _ op_add (@qv _ 1 _ _ (by trivial)) pe_int)) po_none)))),?_⟩
 have ml:(xs.map V.int).length=xs.length:=Jm _
 refine⟨_,rfl,_,rfl,_,rfl,a,_,rfl,ha,fun p1 H1 s1 h1=>?_⟩
 rw[zfD _ place (by lia)]at h1
 refine⟨_,rfl,(by show 1≤sizeLine;decide),fun p2 hp2=>?_⟩
 have s2:=zaa hp2 (.tup [.int v])
 refine⟨p1,p2,_,_,rfl,rfl,s2 _ _ h1,zac,?_,fun p3 H3 s3 h3=>?_⟩
 ·rw[Jw,Jy];show _+1≤_;lia
 have u3:=(s1.trans s2).trans s3
 refine⟨_,rfl,_,rfl,_,_,rfl,rfl,_,rfl,a,_,rfl,u3 _ _ ha,fun p4 H4 s4 h4=>?_⟩
 rw[show ((place:Int)+1)=((place+1:Nat):Int) from rfl,zfE _ (place+1) (by lia)]at h4
 refine⟨p3,p4,_,_,rfl,rfl,s4 _ _ h3,h4,?_,fun p5 H5 s5 h5=>?_⟩
 ·rw[Ja,Jw,Yf,Jy];show _+1+_≤_;lia
 exact k p5 H5 ((u3.trans s4).trans s5) (by rw[h5,zjR xs place v pl])
theorem scAd:FnScope ["counts","place","many"] ["counts","place","many"] (zae zgN):=by trivial
theorem ziI {f fG:Addr}{fd dG:FuncData}(F:Fun K "added" "added" zgN f fd) (G:Mgs mg) (UG:Use P w K mg base "given_at" ["row","place","value"] 1 zeg fG dG):FnOk P w K mg base CX0 2 f fd ["counts","place","many"] zei:=by
 refine F.ok scAd (fun vs H Q E h=>?_) (fun cdv A outer s H vs Q E hr h=>?_)
 ·obtain⟨a,xs,place,v,rfl,_⟩:=h
  rfl
 obtain⟨a,xs,place,v,rfl,ha,pl,xl,k⟩:=h
 refine⟨_,(@pss_one _ _ _ (@ps_ret _ _ _ _ (@pe_call _ _ _ _ _ _ _ _ _ _ _ _ _ _ _ _ UG.ok hr (by rfl) UG.m UG.kp UG.b .nil pass0 (@pa_cons _ _ _ _ _ (@qv _ 0 _ _ (by trivial)) (@pa_cons _ _ _ _ _ (@qv _ 1 _ _ (by trivial)) (@pa_cons _ _ _ _ _ (@pe_op _ _ _ _ _ _ _ _ op_add (@pe_ix _ _ _ _ _ _ _ ix_tup (@qv _ 0 _ _ (by trivial)) (@qv _ 1 _ _ (by trivial)) (fun _ _=>rfl)) (@qv _ 2 _ _ (by trivial))) pa_nil (by rfl)) (by rfl)) (by rfl)) (by decide) (by rfl) (by rfl)))),?_⟩
 exact⟨_,rfl,_,rfl,_,rfl,_,rfl,a,_,_,_,rfl,rfl,SqT.of ha,zh6 pl,_,rfl,_,_,rfl,rfl,a,xs,place,_,rfl,ha,pl,xl,k⟩
end
end K41
namespace L2
open PySem PySem.Spec PyProof.Rows
section
variable {κ:Type} [DecidableEq κ]
theorem RelO.isSome_eq {o:Option V}{u:Option Value}(r:RelO o u):o.isSome=u.isSome:=by
 cases o with
 | none=>cases u with
  | none=>rfl
  | some _=>exact(show False from r).elim
 | some _=>cases u with
  | none=>exact(show False from r).elim
  | some _=>rfl
theorem RelO.getD {o:Option V}{u:Option Value}{d:V}{d':Value}(r:RelO o u) (rd:RelV d d'):RelV (o.getD d) (u.getD d'):=by
 cases o with
 | none=>cases u with
  | none=>exact rd
  | some _=>exact(show False from r).elim
 | some _=>cases u with
  | none=>exact(show False from r).elim
  | some _=>exact r
end
theorem zlR {P:Program}{w:World}{k:Key}{u:Value}(r:RelV (kV k) u):(zau P w).is k u=true:=by
 cases k with
 | inl i=>obtain⟨t,e⟩:=(show ∃ t,u=Value.int i t from r);subst e;exact zex P w i t
 | inr x=>obtain⟨t,e⟩:=(show ∃ t,u=Value.str x t from r);subst e;exact zew P w x t
theorem zdS {P:Program}{w:World}:∀ {ks:List Key}{us:List Value},Vals (ks.map kV) us→ItemsAre (zau P w) ks us
 | [],_,r=>by rw[List.map_nil]at r;cases r;exact .nil
 | k::ks,_,r=>by
  rw[JV]at r
  cases r with
  | cons h t=>exact .cons (zlR h) (zdS t)
section
variable {P:Program}{w:World}{H:Hp}{h:Heap}{a:Addr}
theorem zkW {u:HO}(ok:HOk P w H h) (e:Rd H a u):ObjOk P w H h a u:=e.ok ok
theorem zlf {ks:List Key}(ok:HOk P w H h) (e:H a=some (.tup (ks.map kV))):(tupleKind (zau P w)).is h ks a:=by
 obtain⟨_,its,r,o,h1,h2,n,h3⟩:=(show ObjOk P w H h a (.tup (ks.map kV)) from ok a _ e)
 exact⟨o,its.toArray,n,h1,h2,h3.1,by simpa using zdS r⟩
end
section
variable {X:Cx}{pins:List (Addr × Obj)}{σ:St}{H:Hp}{s:Shared}{a:Addr}{y v:V}{u r:Value}{o:Option V}{A:Around}{E:Value→Shared→Prop}
theorem zeN {h':Heap}{t':Nat}{ob:HO}(I:Inv X pins σ H s) (mu:Mut (H a)) (hs:Heap.SameBut a s.heap h') (he:∃ q,h'.get? a=some q) (new:ObjOk X.prog X.w (upd H a ob) h' a ob) :
  Inv X pins σ (upd H a ob) { s with heap:=h',toks:=t' } :=
 I.write (x:=a) (e:=a) mu (.inl rfl) (fun b q hb z=>(hs.2 b hb).trans z) he new
end
section
variable {X:Cx}{pins:List (Addr × Obj)}{σ:St}{H:Hp}{s:Shared}{a:Addr}{kvs:List (Key × V)}{k:Key}{u:Value}{A:Around}{E:Value→Shared→Prop}
end
section
variable {X:Cx}{o i e value:Expr}{pos pos' tpos:Pos}{td ty tv:TE}
end
section
variable {X:Cx}{pos:Pos}
end
def zjp:List (TE × TE)→St→Hp→(List (V × V)→Hp→Prop)→Prop
 | [],_,H,Q=>Q [] H
 | (tk,tv)::r,σ,H,Q=>tk σ H fun x H1=>tv σ H1 fun y H2=>zjp r σ H2 fun ps H3=>Q ((x,y)::ps) H3
abbrev VV:List (V × V)→List (Value × Value)→Prop:=Paired fun p q=>RelV p.1 q.1∧RelV p.2 q.2
def PPs (X:Cx) (pos:Pos) (keys:List (Option Expr)) (values:List Expr) (trs:List (TE × TE)):Prop :=
 ∀ (pins:List (Addr × Obj)) (s:Shared) (σ:St) (H:Hp) (Q:List (V × V)→Hp→Prop),Inv X pins σ H s→zjp trs σ H Q →
  wpAny (model X.prog X.w) X.A (evalPairs (pairTrees keys values X.env pos)) (fun vs s'=>∃ ps H',Inv X pins σ H' s'∧VV ps vs∧Q ps H') X.xe s
theorem zj6 {X:Cx}{pos:Pos}:PPs X pos [] [] []:=fun pins s σ H Q I h=>pairTrees_nil_walk ⟨[],H,I,.nil,h⟩
theorem zit {X:Cx}{pos:Pos}{k v:Expr}{ks:List (Option Expr)}{vs:List Expr}{tk tv:TE}{trs:List (TE × TE)}(hk:PE X k tk) (hv:PE X v tv) (hr:PPs X pos ks vs trs) :
  PPs X pos (some k::ks) (v::vs) ((tk,tv)::trs):=fun pins s σ H Q I h =>
 pairTrees_cons_walk (thn (hk pins s σ H _ I h) fun u s1 ⟨x,H1,I1,rx,q1⟩=>thn (hv pins s1 σ H1 _ I1 q1) fun w2 s2 ⟨y,H2,I2,ry,q2⟩ =>
  thn (hr pins s2 σ H2 _ I2 q2) fun ws s3 ⟨ps,H3,I3,rel,q3⟩=>⟨(x,y)::ps,H3,I3,.cons ⟨rx,ry⟩ rel,q3⟩)
structure M1 (X:Cx) (o:Expr) (m:Str) (apos:Pos) (e:Expr) (cpos:Pos):Prop where
 base:attributeBase o m X.env (eval o X.env)=eval o X.env
 few:((backTo cpos (starEach [e] X.env)).all (fun x=>!x.1) && (backToKw cpos (keywordEach [] X.env)).all (fun x=>x.1.isSome)
  && decide (([e]:List Expr).length+([]:List Keyword).length+(if ([]:List Keyword).isEmpty then 0 else 1)<30))=true
 line:(apos.endLine == cpos.line)=true
 trees:backTo cpos (starEach [e] X.env)=[(false,eval e X.env)]
structure M2 (X:Cx) (o:Expr) (m:Str) (apos:Pos) (e f:Expr) (cpos:Pos):Prop where
 base:attributeBase o m X.env (eval o X.env)=eval o X.env
 few:((backTo cpos (starEach [e,f] X.env)).all (fun x=>!x.1) && (backToKw cpos (keywordEach [] X.env)).all (fun x=>x.1.isSome)
  && decide (([e,f]:List Expr).length+([]:List Keyword).length+(if ([]:List Keyword).isEmpty then 0 else 1)<30))=true
 line:(apos.endLine == cpos.line)=true
 trees:backTo cpos (starEach [e,f] X.env)=[(false,eval e X.env),(false,eval f X.env)]
section
variable {X:Cx}{pins:List (Addr × Obj)}{σ:St}{H:Hp}{s:Shared}{a:Addr}{y d:V}{u r:Value}{o:Option V}{A:Around}{E:Value→Shared→Prop}
end
section
variable {X:Cx}{o e f:Expr}{apos cpos:Pos}{td ty tx:TE}
end
section
variable {X:Cx}{pins:List (Addr × Obj)}{σ:St}{H:Hp}{s:Shared}{a:Addr}{kvs:List (Key × V)}{A:Around}{E:Value→Shared→Prop}
end
section
variable {X:Cx}{pins:List (Addr × Obj)}{σ:St}{H:Hp}{s:Shared}{a:Addr}{y:V}{u:Value}{A:Around}{E:Value→Shared→Prop}
end
end L2
namespace L2
open PySem PySem.Spec PyProof.Rows Own
theorem zh9:∀ {ds:List PyData}{n:Nat},(∀ e∈ds,e.canLay0=true∧e.depth≤n)→PyData.canLayAll0 ds=true∧PyData.depthAll ds≤n
 | [],_,_=>⟨rfl,JH _⟩
 | d::ds,n,h=>by
  obtain⟨a1,a2⟩:=h d JD
  obtain⟨b1,b2⟩:=zh9 (ds:=ds) fun e he=>h e (JC _ he)
  refine⟨?_,?_⟩
  ·show (d.canLay0 && PyData.canLayAll0 ds)=true
   rw[a1,b1];rfl
  ·show max d.depth (PyData.depthAll ds)≤n
   lia
section
variable {X:Cx}
end
abbrev KI:=Int ⊕ List Int
abbrev KN:=List KI
section
variable (prog:Program) (w:World)
def NIt (h:Heap):KI→Value→Prop
 | .inl i,v=>∃ t,v=.int i t
 | .inr xs,v=>∃ b,v=.ref b∧IsTupleKey (zau prog w) h (xs.map Sum.inl) b
def NIts (h:Heap):KN→List Value→Prop
 | [],vs=>vs=[]
 | k::ks,vs=>∃ v r,vs=v::r∧NIt prog w h k v∧NIts h ks r
def NIs (h:Heap) (ks:KN) (a:Addr):Prop:=∃ o items n,h.get? a=some o∧o.cls=.type "tuple"∧o.data=.seq items n∧NIts prog w h ks items.toList
def nh1:KI→Int
 | .inl i=>hashInt i
 | .inr xs=>tupleKeyHash (zau prog w) (xs.map Sum.inl)
def nd1:KI→Nat
 | .inl _=>1
 | .inr xs=>xs.length+1
def nds (ks:KN):Nat:=(ks.map nd1).sum
end
variable {prog:Program}{w:World}{A:Around}{E:Value→Shared→Prop}
theorem zkv {a b:List Int}(h:a.map (Sum.inl:Int→Key)=b.map Sum.inl):a=b :=
 List.map_inj_right (fun x y e=>Sum.inl.inj e) |>.mp h
theorem NIt.inj {h:Heap}{x y:KI}{v:Value}(a:NIt prog w h x v) (b:NIt prog w h y v):x=y:=by
 cases x with
 | inl i =>
  obtain⟨t,rfl⟩:=a
  cases y with
  | inl j=>obtain⟨u,e⟩:=b;cases e;rfl
  | inr ys=>obtain⟨b,e,_⟩:=b;cases e
 | inr xs =>
  obtain⟨c,rfl,hc⟩:=a
  cases y with
  | inl j=>obtain⟨u,e⟩:=b;cases e
  | inr ys =>
   obtain⟨d,e,hd⟩:=b
   cases e
   rw[zkv (hc.inj hd)]
theorem NIts.inj {h:Heap}:∀ {x y:KN}{vs:List Value},NIts prog w h x vs→NIts prog w h y vs→x=y
 | [],[],_,_,_=>rfl
 | [],_::_,_,a,b=>by obtain⟨v,r,e,_⟩:=b;rw[show _=[] from a]at e;cases e
 | _::_,[],_,a,b=>by obtain⟨v,r,e,_⟩:=a;rw[show _=[] from b]at e;cases e
 | x::xs,y::ys,_,a,b=>by
  obtain⟨v,r,rfl,a1,a2⟩:=a
  obtain⟨v',r',e,b1,b2⟩:=b
  cases e
  rw[a1.inj b1,NIts.inj a2 b2]
theorem NIs.inj {h:Heap}{x y:KN}{a:Addr}(p:NIs prog w h x a) (q:NIs prog w h y a):x=y:=by
 obtain⟨o,its,n,h1,_,h3,h4⟩:=p
 obtain⟨o',its',n',g1,_,g3,g4⟩:=q
 rw[h1]at g1
 cases g1
 rw[h3]at g3
 cases g3
 exact h4.inj g4
theorem NIt.keeps {h h':Heap}{d:Addr}{o:Obj}{es ep} (hd:h.get? d=some o) (ho:o.data=.dict es ep) (s:Heap.SameBut d h h') {k:KI}{v:Value}(a:NIt prog w h k v):NIt prog w h' k v:=by
 cases k with
 | inl i=>exact a
 | inr xs =>
  obtain⟨b,e,hb⟩:=a
  exact⟨b,e,hb.keeps hd ho s⟩
theorem NIts.keeps {h h':Heap}{d:Addr}{o:Obj}{es ep} (hd:h.get? d=some o) (ho:o.data=.dict es ep) (s:Heap.SameBut d h h'):∀ {ks:KN}{vs:List Value},NIts prog w h ks vs→NIts prog w h' ks vs
 | [],_,a=>a
 | k::ks,_,a=>by
  obtain⟨v,r,e,a1,a2⟩:=a
  exact⟨v,r,e,a1.keeps hd ho s,NIts.keeps hd ho s a2⟩
theorem NIs.keeps {h h':Heap}{ks:KN}{a d:Addr}{o:Obj}{es ep} (p:NIs prog w h ks a) (hd:h.get? d=some o) (ho:o.data=.dict es ep) (s:Heap.SameBut d h h'):NIs prog w h' ks a:=by
 obtain⟨o',its,n,h1,h2,h3,h4⟩:=p
 refine⟨o',its,n,?_,h2,h3,h4.keeps hd ho s⟩
 rw[s.2 a (by rintro rfl;rw[hd]at h1;cases h1;rw[ho]at h3;cases h3)]
 exact h1
theorem zcQ:∀ (ks:KN) (vs:List Value) (hs:Array Int) (s:Shared) (Q:Array Int→Shared→Prop),A.units<cLine→NIts prog w s.heap ks vs→Q (hs++(ks.map (nh1 prog w)).toArray) { s with toks:=s.toks+nds ks } →
  wpAny (model prog w) A (forIn vs hs fun x hs=>(do let r ← pyHash x;pure (ForInStep.yield (hs.push r)))) Q E s
 | [],vs,hs,s,Q,hu,a,q=>by
  rw[show vs=[] from a,Z7]
  refine J9 ?_
  simpa [nds] using q
 | k::ks,vs,hs,s,Q,hu,a,q=>by
  obtain⟨v,r,rfl,a1,a2⟩:=a
  rw[Yy]
  have e1:∀ (m:Nat),m=nd1 k→({ s with toks:=s.toks+m+nds ks }:Shared)={ s with toks:=s.toks+nds (k::ks) }:=fun m e=>by
   subst e
   unfold nds
   rw[JV,List.sum_cons,YF]
  have e2:hs.push (nh1 prog w k)++(ks.map (nh1 prog w)).toArray=hs++((k::ks).map (nh1 prog w)).toArray:=by simp
  have go:∀ (m:Nat),m=nd1 k→wpAny (model prog w) A (forIn r (hs.push (nh1 prog w k)) fun x hs=>(do let r ← pyHash x;pure (ForInStep.yield (hs.push r)))) Q E { s with toks:=s.toks+m }:=fun m e =>
   zcQ ks r (hs.push (nh1 prog w k)) { s with toks:=s.toks+m } Q hu a2 (by rw[e2];have:=e1 m e;simp only at this ⊢;rw[this];exact q)
  cases k with
  | inl i =>
   obtain⟨t,rfl⟩:=a1
   exact J0 (J0 (wpAny_pyHash_int (J9 (go 1 rfl))))
  | inr xs =>
   obtain⟨b,rfl,hb⟩:=a1
   exact J0 (J0 (wpAny_pyHash_tuple hu hb (J9 (go _ (by rw[Jm];rfl)))))
theorem zhE {s:Shared}{a:Addr}{ks:KN}{Q:Int→Shared→Prop}(hu:A.units+1<cLine) (hk:NIs prog w s.heap ks a)
  (q:Q (reduceHash (Builtin.Tuple.tupleHashOf (ks.map (nh1 prog w)))) { s with toks:=s.toks+(nds ks+1) }):wpAny (model prog w) A (pyHash (.ref a)) Q E s:=by
 obtain⟨o,its,n,ho,hc,hd,hi⟩:=hk
 show wpAny (model prog w) A (pyHashByItsType (.ref a)) Q E s
 refine W.pyHash_slot (T:="tuple") (id:="tuple.__hash__") (B:=Builtin.«tuple.__hash__») ⟨o,ho,hc⟩ F.slot_tuple_hash F.entry_tuple_hash (F.args_tuple_hash_1 _) (by decide) (.inr (by lia)) ?_
 unfold Builtin.«tuple.__hash__»
 refine J0 ?_
 show wpAny _ _ (pure _) _ _ _
 refine J9 (J0 (wpAny_tupleItemsOf ho hd ?_))
 rw[← Array.forIn_toList]
 refine J0 (zcQ ks _ _ s _ hu hi ?_)
 simp only[Array.empty_append]
 unfold retInt
 exact J0 (wpAny_mkInt (J9 ⟨_,_,rfl,q⟩))
theorem zdF {i:Int}{t:Tok}{n:Nat}{s:Shared}{Q:Bool→Shared→Prop}(q:Q true s):wpAny (model prog w) A (eqIsQuiet n (.int i t)) Q E s:=by
 cases n<;>exact J9 q
theorem zcg {n:Nat}{s:Shared}:∀ (vs:List Value) (Q:Option Bool × Unit→Shared→Prop),(∀ v∈vs,∀ R:Bool→Shared→Prop,R true s→wpAny (model prog w) A (eqIsQuiet n v) R E s)→Q (none,()) s →
  wpAny (model prog w) A (forIn vs ((none,()):Option Bool × Unit) fun y _=>(do
   let b ← eqIsQuiet n y
   if (!b)=true then pure (ForInStep.done (some false,())) else pure (ForInStep.yield (none,())))) Q E s
 | [],Q,_,q=>by rw[Z7];exact J9 q
 | v::vs,Q,h,q=>by
  rw[Yy]
  exact J0 (J0 (h v JD _ (J9 (zcg vs Q (fun u hu=>h u (JC _ hu)) q))))
theorem zdE {s:Shared}{a:Addr}{o:Obj}{its:Array Value}{m n:Nat}{Q:Bool→Shared→Prop}(ho:s.heap.get? a=some o) (hc:o.cls=.type "tuple") (hd:o.data=.seq its m)
  (h:∀ v∈its.toList,∀ R:Bool→Shared→Prop,R true s→wpAny (model prog w) A (eqIsQuiet n v) R E s) (q:Q true s):wpAny (model prog w) A (eqIsQuiet (n+1) (.ref a)) Q E s:=by
 have ty:s.TypeIs (.ref a) "tuple":=⟨o,ho,hc⟩
 unfold eqIsQuiet
 refine J0 (wpAny_specialOf (T:="tuple") ty F.slot_tuple_eq.lookup (J0 (wpAny_isInstance (T:="tuple") (b:=true) ty rfl ?_)))
 show wpAny _ _ (do let _ ← seqItems? _;_) _ _ _
 refine J0 (wpAny_seqItems ho hd (J0 ?_))
 rw[YS,← Array.forIn_toList]
 exact zcg _ _ h (J9 q)
theorem NIts.mem {h:Heap}:∀ {ks:KN}{vs:List Value},NIts prog w h ks vs→∀ v∈vs,∃ k,NIt prog w h k v
 | [],_,a,v,hv=>by rw[show _=[] from a]at hv;cases hv
 | k::ks,_,a,v,hv=>by
  obtain⟨x,r,rfl,a1,a2⟩:=a
  rcases List.mem_cons.mp hv with rfl|z
  ·exact⟨k,a1⟩
  ·exact NIts.mem a2 v z
theorem zfq {i:Int}{v:Value}(h:(zau prog w).is (.inl i) v=true):∃ t,v=.int i t:=by
 rw[zf3]at h
 rcases zan h with ⟨j,t,e,rfl⟩|⟨x,t,e,_⟩
 ·cases e;exact⟨t,rfl⟩
 ·cases e
theorem zgc {ks:List Key}{vs:List Value}(h:ItemsAre (zau prog w) ks vs):∀ xs:List Int,ks=xs.map Sum.inl→∀ v∈vs,∃ i t,v=.int i t:=by
 induction h with
 | nil=>intro xs _ v hv;cases hv
 | cons hk _ ih =>
  intro xs e v hv
  cases xs with
  | nil=>cases e
  | cons x xs =>
   rw[JV]at e
   injection e with e1 e2
   subst e1
   rcases List.mem_cons.mp hv with rfl|z
   ·obtain⟨t,e⟩:=zfq hk
    exact⟨x,t,e⟩
   ·exact ih xs e2 v z
theorem items_int {ks:List Int}{vs:List Value}(h:ItemsAre (zau prog w) (ks.map Sum.inl) vs):∀ v∈vs,∃ i t,v=.int i t:=zgc h ks rfl
theorem zcJ {s:Shared}{a:Addr}{ks:KN}{Q:Bool→Shared→Prop}(hk:NIs prog w s.heap ks a) (q:Q true s):wpAny (model prog w) A (eqIsQuiet 8 (.ref a)) Q E s:=by
 obtain⟨o,its,n,ho,hc,hd,hi⟩:=hk
 refine zdE ho hc hd (fun v hv R r=>?_) q
 obtain⟨k,hk⟩:=hi.mem v hv
 cases k with
 | inl i=>obtain⟨t,rfl⟩:=hk;exact zdF r
 | inr xs =>
  obtain⟨b,rfl,o2,it2,n2,ho2,hc2,hd2,hi2⟩:=hk
  refine zdE ho2 hc2 hd2 (fun u hu R r=>?_) r
  obtain⟨i,t,rfl⟩:=items_int hi2 u hu
  exact zdF r
def dI:KI→PyData
 | .inl i=>.int i
 | .inr xs=>.tuple (xs.map PyData.int)
def dN (ks:KN):PyData:=.tuple (ks.map dI)
theorem zfW {h:Heap}{ks:List Key}{vs:List Value}(a:ItemsAre (zau prog w) ks vs):∀ xs:List Int,ks=xs.map Sum.inl→∃ as,ReadsAll h vs (xs.map PyData.int) as:=by
 induction a with
 | nil =>
  intro xs e
  cases xs with
  | nil=>exact⟨_,.nil⟩
  | cons x xs=>cases e
 | cons hk _ ih =>
  intro xs e
  cases xs with
  | nil=>cases e
  | cons x xs =>
   rw[JV]at e
   injection e with e1 e2
   subst e1
   obtain⟨t,rfl⟩:=zfq hk
   obtain⟨as,r⟩:=ih xs e2
   exact⟨_,.cons (.int x t) r⟩
theorem NIt.reads {h:Heap}{k:KI}{v:Value}(a:NIt prog w h k v):∃ as,Reads h v (dI k) as:=by
 cases k with
 | inl i=>obtain⟨t,rfl⟩:=a;exact⟨_,.int i t⟩
 | inr xs =>
  obtain⟨b,rfl,o,its,n,h1,h2,h3,h4⟩:=a
  obtain⟨as,r⟩:=zfW (h:=h) h4 xs rfl
  exact⟨_,.tuple h1 h2 h3 r⟩
theorem NIts.reads {h:Heap}:∀ {ks:KN}{vs:List Value},NIts prog w h ks vs→∃ as,ReadsAll h vs (ks.map dI) as
 | [],_,a=>by rw[show _=[] from a];exact⟨_,.nil⟩
 | k::ks,_,a=>by
  obtain⟨v,r,rfl,a1,a2⟩:=a
  obtain⟨as,p⟩:=a1.reads
  obtain⟨bs,q⟩:=NIts.reads a2
  exact⟨_,.cons p q⟩
theorem NIs.reads {h:Heap}{ks:KN}{a:Addr}(p:NIs prog w h ks a):∃ as,Reads h (.ref a) (dN ks) as:=by
 obtain⟨o,its,n,h1,h2,h3,h4⟩:=p
 obtain⟨as,r⟩:=h4.reads
 exact⟨_,.tuple h1 h2 h3 r⟩
theorem zfC:∀ (x y:List Int),PyData.eqvAll (x.map PyData.int) (y.map PyData.int)=decide (x=y)
 | [],[]=>rfl
 | [],_::_=>rfl
 | _::_,[]=>rfl
 | a::x,b::y=>by
  show (PyData.eqv (.int a) (.int b) && PyData.eqvAll (x.map PyData.int) (y.map PyData.int))=_
  rw[zfC x y,show PyData.eqv (.int a) (.int b)=(a == b) from rfl,Ye]
  simp
theorem zlp (x y:KI):PyData.eqv (dI x) (dI y)=decide (x=y):=by
 cases x<;>cases y
 ·rw[show PyData.eqv (dI (.inl _)) (dI (.inl _))=(_ == _) from rfl,Ye];simp
 ·rfl
 ·rfl
 ·show PyData.eqvAll _ _=_
  rw[zfC,Ye];simp
theorem zeK:∀ (x y:KN),PyData.eqvAll (x.map dI) (y.map dI)=decide (x=y)
 | [],[]=>rfl
 | [],_::_=>rfl
 | _::_,[]=>rfl
 | a::x,b::y=>by
  show (PyData.eqv (dI a) (dI b) && PyData.eqvAll (x.map dI) (y.map dI))=_
  rw[zeK x y,zlp,Ye]
  simp
theorem zfx:∀ x:List Int,PyData.canLayAll0 (x.map PyData.int)=true∧PyData.depthAll (x.map PyData.int)≤0
 | []=>⟨rfl,Jg _⟩
 | a::x=>by
  obtain⟨p,q⟩:=zfx x
  refine⟨?_,?_⟩
  ·show (PyData.canLay0 (.int a) && PyData.canLayAll0 (x.map PyData.int))=true
   rw[p];rfl
  ·show max 0 (PyData.depthAll (x.map PyData.int))≤0
   lia
theorem zcN (ks:KN):(dN ks).canLay0=true∧(dN ks).depth≤2:=by
 have key:∀ e∈ks.map dI,e.canLay0=true∧e.depth≤1:=fun e he=>by
  obtain⟨k,_,rfl⟩:=JA.mp he
  cases k with
  | inl i=>exact⟨rfl,by show 0≤1;lia⟩
  | inr xs =>
   obtain⟨p,q⟩:=zfx xs
   refine⟨p,?_⟩
   show PyData.depthAll (xs.map PyData.int)+1≤1
   lia
 obtain⟨p,q⟩:=zh9 key
 refine⟨p,?_⟩
 show PyData.depthAll (ks.map dI)+1≤2
 lia
theorem zkC {s:Shared}{x y:KN}{a b:Addr}{Q:Bool→Shared→Prop}(hu:A.units+2<cLine) (hx:NIs prog w s.heap x a) (hy:NIs prog w s.heap y b) (q:Q (decide (x=y)) s):wpAny (model prog w) A (eqBool (.ref a) (.ref b)) Q E s:=by
 obtain⟨as,rx⟩:=hx.reads
 obtain⟨bs,ry⟩:=hy.reads
 obtain⟨p1,p2⟩:=zcN x
 obtain⟨q1,q2⟩:=zcN y
 refine PySem.SeqAt.eqBoolOverData prog w A E s _ _ _ _ as bs Q rx ry p1 q1 (by lia) ?_
 rw[show PyData.eqv (dN x) (dN y)=PyData.eqvAll (x.map dI) (y.map dI) from rfl,zeK]
 exact q
variable (prog w)
def zaN:HeapKind prog w KN where
 is:=NIs prog w
 hash:=fun ks=>reduceHash (Builtin.Tuple.tupleHashOf (ks.map (nh1 prog w)))
 draws:=fun ks=>nds ks+1
 room:=fun A=>A.units+2<cLine
 inj:=fun hx hy=>NIs.inj hx hy
 keeps:=fun x ho hd hs=>NIs.keeps x ho hd hs
 pyHash:=fun hu hk h=>zhE (by lia) hk h
 eqBool:=fun hu hx hy h=>zkC hu hx hy h
 quiet:=fun hk h=>zcJ hk h
end L2
namespace Own
open PySem PySem.Spec PyProof.Rows
section
variable {prog:Program}{w:World}{A:Around}{E:Value→Shared→Prop}{s:Shared}{l:Addr}{its:Array Value}{n:Nat}
end
section
variable {prog:Program}{w:World}{K:Type} [DecidableEq K] {knd:KeyKind prog w K}{A:Around}{E:Value→Shared→Prop}{d it l:Addr}{its:Array Value}{ps:List (K × Value)}{res:Value}
end
end Own
namespace L2
open PySem PySem.Spec PyProof.Rows Own
section
variable {X:Cx}{pins:List (Addr × Obj)}{σ:St}{H:Hp}{s:Shared}{A:Around}{E:Value→Shared→Prop}
end
section
variable {X:Cx}{o e:Expr}{td ty:TE}{apos cpos:Pos}
end
end L2
namespace Ts
open PySem PyProof.Rows
structure Cmp (prog:Program) (w:World) (A:Around) (s:Shared) (κ:SortKind) (P:Keyed→Prop) (rk:Keyed→Int):Prop where
 ask:∀ (x y:Keyed),P x→P y→∀ {Q:Bool→Shared→Prop}{E:Value→Shared→Prop},Q (decide (rk x<rk y)) s→wpAny (model prog w) A (keyLt' κ x.1 y.1) Q E s
def R (rk:Keyed→Int) (xs:Array Keyed) (i:Nat):Int:=match xs[i]? with
 | some p=>rk p
 | none=>0
theorem R_congr {rk:Keyed→Int}{xs ys:Array Keyed}{i j:Nat}(h:xs[i]?=ys[j]?):R rk xs i=R rk ys j:=by unfold R;rw[h]
def Up (rk:Keyed→Int) (xs:Array Keyed) (lo n:Nat):Prop:=∀ i j,lo≤i→i≤j→j<lo+n→R rk xs i≤R rk xs j
def Dn (rk:Keyed→Int) (xs:Array Keyed) (lo n:Nat):Prop:=∀ i j,lo≤i→i≤j→j<lo+n→R rk xs j≤R rk xs i
structure Bs (κ:SortKind) (P:Keyed→Prop) (a₀:Array Keyed) (st:SortSt):Prop where
 kind:kindOf st=κ
 fail:failedOf st=none
 perm:(arrOf st).Perm a₀
 all:∀ p∈a₀.toList,P p
theorem Bs.size {κ:SortKind}{P:Keyed→Prop}{a₀:Array Keyed}{st:SortSt}(h:Bs κ P a₀ st):(arrOf st).size=a₀.size:=h.perm.size_eq
theorem Bs.at {κ:SortKind}{P:Keyed→Prop}{a₀:Array Keyed}{st:SortSt}(h:Bs κ P a₀ st) {i:Nat}(hi:i<a₀.size) (rk:Keyed→Int):∃ p,(arrOf st)[i]?=some p∧P p∧R rk (arrOf st) i=rk p:=by
 have e:(arrOf st)[i]?=some ((arrOf st)[i]'(by rw[h.size];exact hi)):=getElem?_pos (arrOf st) i (by rw[h.size];exact hi)
 refine⟨_,e,h.all _ ((Array.perm_iff_toList_perm.mp h.perm).mem_iff.mp (by simp)),?_⟩
 unfold R;rw[e]
theorem Bs.arr {κ:SortKind}{P:Keyed→Prop}{a₀:Array Keyed}{st:SortSt}(h:Bs κ P a₀ st) {xs:Array Keyed}(hp:xs.Perm (arrOf st)):Bs κ P a₀ (setArr st xs):=⟨h.kind,h.fail,hp.trans h.perm,h.all⟩
section
variable {prog:Program}{w:World}{A:Around}{E:Value→Shared→Prop}{s:Shared}{κ:SortKind}{P:Keyed→Prop}{rk:Keyed→Int}{a₀:Array Keyed}
theorem zhm (C:Cmp prog w A s κ P rk) {st:SortSt}{x y:Keyed}{Q:Option Bool→SortSt→Prop}(hk:kindOf st=κ) (px:P x) (py:P y) (h:Q (some (decide (rk x<rk y))) st):wpS (model prog w) A E s (lt' x y) Q st:=by
 rw[lt'_eq]
 refine wpS_bind (wpS_get (wpS_bind (wpS_lift (wpAny_attempt ?_))))
 rw[hk]
 exact C.ask x y px py ⟨rfl,wpS_pure h⟩
theorem zbR {r:String}{st:SortSt}{Q:Unit→SortSt→Prop}(h:Q () st):wpS (model prog w) A E s (liftM (rule r):StateT SortSt Sem Unit) Q st:=wpS_lift (wpAny_rule ⟨rfl,h⟩)
theorem zaf {st:SortSt}{arr:Array Keyed}{i:Nat}{p:Keyed}{Q:Keyed→SortSt→Prop}(e:arr[i]?=some p) (h:Q p st):wpS (model prog w) A E s (elem' arr i) Q st:=by
 rw[elem'_eq,e];exact wpS_pure h
theorem zhn (C:Cmp prog w A s κ P rk) {st:SortSt}{i j:Nat}{Q:Option Bool→SortSt→Prop}(hB:Bs κ P a₀ st) (hi:i<a₀.size) (hj:j<a₀.size) (h:Q (some (decide (R rk (arrOf st) i<R rk (arrOf st) j))) st):wpS (model prog w) A E s (ltAt' i j) Q st:=by
 obtain⟨p,e1,pp,r1⟩:=hB.at hi rk
 obtain⟨q,e2,pq,r2⟩:=hB.at hj rk
 rw[r1,r2]at h
 rw[ltAt'_eq]
 exact wpS_bind (wpS_get (wpS_bind (zaf e1 (wpS_bind (zaf e2 (zhm C hB.kind pp pq h))))))
structure Keep (κ:SortKind) (P:Keyed→Prop) (rk:Keyed→Int) (a₀:Array Keyed) (lo:Nat) (st st':SortSt):Prop where
 b:Bs κ P a₀ st'
 pend:pendingOf st'=pendingOf st
 low:∀ k,k<lo→R rk (arrOf st') k=R rk (arrOf st) k
theorem Keep.refl {lo:Nat}{st:SortSt}(h:Bs κ P a₀ st):Keep κ P rk a₀ lo st st:=⟨h,rfl,fun _ _=>rfl⟩
theorem Keep.trans {lo:Nat}{st st1 st2:SortSt}(h:Keep κ P rk a₀ lo st st1) (g:Keep κ P rk a₀ lo st1 st2):Keep κ P rk a₀ lo st st2:=⟨g.b,g.pend.trans h.pend,fun k hk=>(g.low k hk).trans (h.low k hk)⟩
theorem R_mirror {xs:Array Keyed}{i j:Nat}(hj:j≤xs.size) (k:Nat):R rk (mirror xs i j ((j-i) / 2)) k=if i≤k∧k<j then R rk xs (i+j-1-k) else R rk xs k:=by
 have e:=getElem?_mirror_all (xs:=xs) (i:=i) hj k
 split at e
 ·next h=>rw[Jf h];exact R_congr e
 ·next h=>rw[Jc h];exact R_congr e
theorem zfb {lo i j:Nat}{st:SortSt}{Q:Unit→SortSt→Prop}(hB:Bs κ P a₀ st) (hl:lo≤i) (hj:j≤a₀.size)
  (h:∀ st',Keep κ P rk a₀ lo st st'→(∀ k,R rk (arrOf st') k=if i≤k∧k<j then R rk (arrOf st) (i+j-1-k) else R rk (arrOf st) k)→Q () st'):wpS (model prog w) A E s (reverseSlice' i j) Q st:=by
 rw[reverseSlice'_eq]
 refine wpS_modify (h _ ⟨hB.arr (mirror_perm _ _ _ _),rfl,fun k hk=>?_⟩ fun k=>?_)
 ·show R rk (mirror (arrOf st) i j ((j-i) / 2)) k=_
  rw[R_mirror (by rw[hB.size];exact hj),Jc (by lia)]
 ·exact R_mirror (by rw[hB.size];exact hj) k
theorem zje (C:Cmp prog w A s κ P rk) {st:SortSt}{lo nrem:Nat}{Q:Option Nat→SortSt→Prop}(hB:Bs κ P a₀ st) (h1:1≤nrem) (hn:lo+nrem≤a₀.size)
  (h:∀ st' m,Keep κ P rk a₀ lo st st'→1≤m→m≤nrem→Up rk (arrOf st') lo m→Q (some m) st'):wpS (model prog w) A E s (countRun' lo nrem) Q st:=by
 have asc:∀ (st:SortSt) (n0:Nat) {Q':Option (Option Nat) × Nat→SortSt→Prop},Bs κ P a₀ st→1≤n0→Up rk (arrOf st) lo n0 →
   (∀ n,n0≤n→n≤max n0 nrem→Up rk (arrOf st) lo n→(n<nrem→R rk (arrOf st) (lo+n)<R rk (arrOf st) (lo+n-1))→Q' (none,n) st)→
   ∀ f:Nat→Option (Option Nat) × Nat→StateT SortSt Sem (ForInStep (Option (Option Nat) × Nat)),(∀ i n,f i (none,n)=(do
    let some smaller ← ltAt' (lo+n) (lo+n-1)|pure (.done (some none,n))
    if smaller then pure (.done (none,n)) else pure (.yield (none,n+1))))→wpS (model prog w) A E s (forIn [n0:nrem] (none,n0) f) Q' st:=by
  intro st n0 Q' hB h0 hu hq f hf
  refine wpS_forRange (I:=fun i c st'=>st'=st∧c=(none,i)∧n0≤i∧Up rk (arrOf st) lo i) ?_ ?_ ⟨rfl,rfl,Jg _,hu⟩
  ·rintro i c st' hi hi2 ⟨rfl,rfl,h3,hu'⟩
   rw[hf]
   refine wpS_bind (zhn C hB (by lia) (by lia) ?_)
   by_cases z:R rk (arrOf st') (lo+i)<R rk (arrOf st') (lo+i-1)
   ·rw[Jz z]
    exact wpS_pure (hq i h3 (by lia) hu' fun _=>z)
   ·rw[Jq z]
    refine wpS_pure ⟨rfl,rfl,by lia,fun a b ha hab hb=>?_⟩
    by_cases q:b<lo+i
    ·exact hu' a b ha hab q
    ·obtain rfl:b=lo+i:=by lia
     by_cases q2:a=lo+i
     ·rw[q2];exact Z5 _
     ·have:=hu' a (lo+i-1) ha (by lia) (by lia)
      lia
  ·rintro c st' ⟨rfl,rfl,h3,hu'⟩
   exact hq _ h3 (Jg _) hu' fun q=>by lia
 rw[countRun'_eq]
 refine wpS_bind (asc st 1 hB (Jg _) (fun a b h1 h2 h3=>by rw[show a=b by lia];exact Z5 _) (fun n n1 n2 hu hs=>?_) _ (fun i n=>rfl))
 dsimp only
 by_cases z:n=nrem
 ·subst z
  rw[Jf (YT _)]
  exact wpS_pure (h _ _ (Keep.refl hB) n1 (Jg _) hu)
 rw[Jc (by simpa using z)]
 have nl:n<nrem:=by lia
 have hs:=hs nl
 generalize hT:(bind (liftM (rule "list.sort.descending-run")) _:StateT SortSt Sem (Option Nat))=T
 have tail:∀ st1,Keep κ P rk a₀ lo st st1→Dn rk (arrOf st1) lo n→R rk (arrOf st1) (lo+n)<R rk (arrOf st1) (lo+n-1)→wpS (model prog w) A E s T Q st1:=by
  intro st1 K1 d1 l1
  rw[← hT]
  refine wpS_bind (zbR ?_)
  have last:∀ st2 m,Keep κ P rk a₀ lo st st2→1≤m→m≤nrem→Dn rk (arrOf st2) lo m→∀ st3,Keep κ P rk a₀ lo st2 st3→(∀ k,R rk (arrOf st3) k=if lo≤k∧k<lo+m then R rk (arrOf st2) (lo+(lo+m)-1-k) else R rk (arrOf st2) k)→Up rk (arrOf st3) lo m:=by
   intro st2 m K2 m1 m2 d2 st3 K3 r3 a b ha hab hb
   rw[r3,r3,Jf ⟨by lia,by lia⟩,Jf ⟨by lia,by lia⟩]
   exact d2 _ _ (by lia) (by lia) (by lia)
  refine wpS_bind (wpS_mono (wpS_forRange (I:=fun i c st2=>∃ m q,c=(none,m,q)∧m=i∧q+1≤m∧Keep κ P rk a₀ lo st st2∧(i≤nrem→Dn rk (arrOf st2) lo m∧∀ k,lo+m-(q+1)≤k→k<lo+m→R rk (arrOf st2) k=R rk (arrOf st2) (lo+m-1)))
   (Q:=fun c st2=>∃ m q,c=(none,m,q)∧1≤m∧m≤nrem∧q+1≤m∧Keep κ P rk a₀ lo st st2∧Dn rk (arrOf st2) lo m∧∀ k,lo+m-(q+1)≤k→k<lo+m→R rk (arrOf st2) k=R rk (arrOf st2) (lo+m-1)) ?step ?fin ?init) ?post)
  case init =>
   refine⟨n+1,0,rfl,rfl,by lia,K1,fun _=>⟨fun a b ha hab hb=>?_,fun k k1 k2=>by rw[show k=lo+(n+1)-1 by lia]⟩⟩
   by_cases q:b<lo+n
   ·exact d1 a b ha hab q
   ·obtain rfl:b=lo+n:=by lia
    by_cases q2:a=lo+n
    ·rw[q2];exact Z5 _
    ·have:=d1 a (lo+n-1) ha (by lia) (by lia)
     lia
  case fin =>
   rintro c st2 ⟨m,q,rfl,e,hq,K2,hd⟩
   obtain⟨d2,eq2⟩:=hd (by lia)
   exact⟨m,q,rfl,by lia,by lia,hq,K2,d2,eq2⟩
  case step =>
   rintro i c st2 hi hi2 ⟨m,q,rfl,rfl,hq,K2,hd⟩
   obtain⟨d2,eq2⟩:=hd (by lia)
   dsimp only
   refine wpS_bind (zhn C K2.b (by lia) (by lia) ?_)
   have more:∀ st3,Dn rk (arrOf st3) lo m→R rk (arrOf st3) (lo+m)≤R rk (arrOf st3) (lo+m-1)→Dn rk (arrOf st3) lo (m+1):=by
    intro st3 d3 le a b ha hab hb
    by_cases q:b<lo+m
    ·exact d3 a b ha hab q
    ·obtain rfl:b=lo+m:=by lia
     by_cases q2:a=lo+m
     ·rw[q2];exact Z5 _
     ·have:=d3 a (lo+m-1) ha (by lia) (by lia)
      lia
   by_cases z1:R rk (arrOf st2) (lo+m)<R rk (arrOf st2) (lo+m-1)
   ·rw[Jz z1]
    dsimp only
    rw[Jf rfl]
    by_cases zq:q > 0
    ·rw[Jf zq]
     refine wpS_bind (zfb (rk:=rk) (lo:=lo) K2.b (by lia) (by lia) fun st3 K3 r3=>wpS_pure ?_)
     have same:∀ k,R rk (arrOf st3) k=R rk (arrOf st2) k:=fun k=>by
      rw[r3]
      split
      ·rw[eq2 _ (by lia) (by lia),eq2 k (by lia) (by lia)]
      ·rfl
     refine⟨m+1,0,rfl,rfl,by lia,K2.trans K3,fun _=>⟨more st3 (fun a b ha hab hb=>by rw[same,same];exact d2 a b ha hab hb) (by rw[same,same];lia),fun k k1 k2=>by rw[show k=lo+(m+1)-1 by lia]⟩⟩
    ·rw[Jc zq]
     exact wpS_pure ⟨m+1,0,rfl,rfl,by lia,K2,fun _=>⟨more st2 d2 (by lia),fun k k1 k2=>by rw[show k=lo+(m+1)-1 by lia]⟩⟩
   ·rw[Jq z1]
    dsimp only
    rw[Jc Jh]
    refine wpS_bind (zhn C K2.b (by lia) (by lia) ?_)
    by_cases z2:R rk (arrOf st2) (lo+m-1)<R rk (arrOf st2) (lo+m)
    ·rw[Jz z2]
     dsimp only
     rw[Jf rfl]
     exact wpS_pure ⟨m,q,rfl,by lia,by lia,hq,K2,d2,eq2⟩
    ·rw[Jq z2]
     dsimp only
     rw[Jc Jh]
     have e:R rk (arrOf st2) (lo+m)=R rk (arrOf st2) (lo+m-1):=by lia
     refine wpS_pure ⟨m+1,q+1,rfl,rfl,by lia,K2,fun _=>⟨more st2 d2 (by lia),fun k k1 k2=>?_⟩⟩
     rw[show lo+(m+1)-1=lo+m by lia]
     by_cases q3:k=lo+m
     ·rw[q3]
     ·rw[eq2 k (by lia) (by lia),e]
  case post =>
   rintro c st2 ⟨m,q,rfl,m1,m2,hq,K2,d2,eq2⟩
   dsimp only
   generalize hT2:(bind (reverseSlice' lo (lo+m)) _:StateT SortSt Sem (Option Nat))=T2
   have on:∀ st3,Keep κ P rk a₀ lo st st3→Dn rk (arrOf st3) lo m→wpS (model prog w) A E s T2 Q st3:=by
    intro st3 K3 d3
    rw[← hT2]
    refine wpS_bind (zfb (rk:=rk) (lo:=lo) K3.b (by lia) (by lia) fun st4 K4 r4=>?_)
    refine wpS_bind (asc st4 m K4.b m1 (last st3 m K3 m1 m2 d3 st4 K4 r4) (fun n' a1 a2 hu' _=>?_) _ (fun i n=>rfl))
    exact wpS_pure (h _ _ (K3.trans K4) (by lia) (by lia) hu')
   by_cases zq:q > 0
   ·rw[Jf zq]
    refine wpS_bind (zfb (rk:=rk) (lo:=lo) K2.b (by lia) (by lia) fun st3 K3 r3=>?_)
    have same:∀ k,R rk (arrOf st3) k=R rk (arrOf st2) k:=fun k=>by
     rw[r3]
     split
     ·rw[eq2 _ (by lia) (by lia),eq2 k (by lia) (by lia)]
     ·rfl
    exact on st3 (K2.trans K3) (fun a b ha hab hb=>by rw[same,same];exact d2 a b ha hab hb)
   ·rw[Jc zq]
    exact on st2 K2 d2
 by_cases z2:n > 1
 ·rw[Jf z2]
  refine wpS_bind (zhn C hB (by lia) (by lia) ?_)
  by_cases z3:R rk (arrOf st) lo<R rk (arrOf st) (lo+n-1)
  ·rw[Jz z3]
   exact wpS_pure (h _ _ (Keep.refl hB) n1 (by lia) hu)
  ·rw[Jq z3]
   dsimp only
   rw[Jc Jh]
   refine wpS_bind (zfb (rk:=rk) (lo:=lo) hB (by lia) (by lia) fun st1 K1 r1=>tail st1 K1 (fun a b ha hab hb=>?_) ?_)
   ·rw[r1,r1,Jf ⟨by lia,by lia⟩,Jf ⟨by lia,by lia⟩]
    exact hu _ _ (by lia) (by lia) (by lia)
   ·rw[r1,r1,Jc (by lia),Jf ⟨by lia,by lia⟩]
    have:=hu (lo+(lo+n)-1-(lo+n-1)) (lo+n-1) (by lia) (by lia) (by lia)
    have e:lo+(lo+n)-1-(lo+n-1)=lo:=by lia
    rw[e]at this ⊢
    have:=hu lo (lo+n-1) (by lia) (by lia) (by lia)
    lia
 ·rw[Jc z2]
  exact tail st (Keep.refl hB) (fun a b ha hab hb=>by rw[show a=b by lia];exact Z5 _) hs
end
section
variable {prog:Program}{w:World}{A:Around}{E:Value→Shared→Prop}{s:Shared}{κ:SortKind}{P:Keyed→Prop}{rk:Keyed→Int}{a₀:Array Keyed}
theorem R_bubble {xs:Array Keyed}{src d:Nat}(hs:src<xs.size) (hd:d≤src) (k:Nat):R rk (bubble xs src d) k=if k=src-d then R rk xs src else if src-d<k∧k≤src then R rk xs (k-1) else R rk xs k:=by
 have e:=getElem?_bubble (xs:=xs) hs d hd k
 by_cases h1:k=src-d
 ·rw[Jf h1]at e ⊢;exact R_congr e
 ·rw[Jc h1]at e ⊢
  by_cases h2:(src-d<k∧k≤src)
  ·rw[Jf h2]at e ⊢;exact R_congr e
  ·rw[Jc h2]at e ⊢;exact R_congr e
theorem zlr (C:Cmp prog w A s κ P rk) {st:SortSt}{lo n ok:Nat}{Q:Bool→SortSt→Prop}(hB:Bs κ P a₀ st) (h1:1≤ok) (hok:ok≤n) (hn:lo+n≤a₀.size) (hu:Up rk (arrOf st) lo ok)
  (h:∀ st',Keep κ P rk a₀ lo st st'→Up rk (arrOf st') lo n→Q true st'):wpS (model prog w) A E s (binarySort' lo n ok) Q st:=by
 rw[binarySort'_eq]
 rw[show max ok 1=ok by lia]
 refine wpS_bind (wpS_mono (wpS_forRange (I:=fun k c st1=>c=(none,())∧Keep κ P rk a₀ lo st st1∧Up rk (arrOf st1) lo (min k n)) (Q:=fun c st1=>c=(none,())∧Keep κ P rk a₀ lo st st1∧Up rk (arrOf st1) lo n) ?step ?fin ?init) ?post)
 case init=>exact⟨rfl,Keep.refl hB,by rwa [YE hok]⟩
 case fin =>
  rintro c st1 ⟨rfl,K1,u1⟩
  rw[show min (max ok n) n=n by lia]at u1
  exact⟨rfl,K1,u1⟩
 case post =>
  rintro c st1 ⟨rfl,K1,u1⟩
  exact wpS_pure (h st1 K1 u1)
 case step =>
  rintro k c st1 hk1 hk2 ⟨rfl,K1,u1⟩
  rw[show min k n=k by lia]at u1
  refine wpS_bind (wpS_mono (wpS_forRange (I:=fun x c st2=>st2=st1∧∃ l r,c=(none,l,r)∧l≤r∧r≤k∧r-l≤k-x∧(∀ i,lo≤i→i<lo+l→R rk (arrOf st1) i≤R rk (arrOf st1) (lo+k))∧(∀ i,lo+r≤i→i<lo+k→R rk (arrOf st1) (lo+k)≤R rk (arrOf st1) i))
   (Q:=fun c st2=>st2=st1∧∃ l r,c=(none,l,r)∧l≤k∧(∀ i,lo≤i→i<lo+l→R rk (arrOf st1) i≤R rk (arrOf st1) (lo+k))∧(∀ i,lo+l≤i→i<lo+k→R rk (arrOf st1) (lo+k)≤R rk (arrOf st1) i)) ?istep ?ifin ?iinit) ?ipost)
  case iinit=>exact⟨rfl,0,k,rfl,by lia,by lia,by lia,fun i _ _=>by lia,fun i _ _=>by lia⟩
  case ifin =>
   rintro c st2 ⟨rfl,l,r,rfl,lr,rk',m,h2,h3⟩
   obtain rfl:l=r:=by lia
   exact⟨rfl,l,l,rfl,rk',h2,h3⟩
  case istep =>
   rintro x c st2 _ hx ⟨rfl,l,r,rfl,lr,rk',m,h2,h3⟩
   dsimp only
   by_cases ge:l≥r
   ·rw[Jf ge]
    obtain rfl:l=r:=by lia
    exact wpS_pure ⟨rfl,l,l,rfl,rk',h2,h3⟩
   ·rw[Jc ge]
    refine wpS_bind (zhn C K1.b (by lia) (by lia) ?_)
    by_cases z:R rk (arrOf st2) (lo+k)<R rk (arrOf st2) (lo+(l+r) / 2)
    ·rw[Jz z]
     refine wpS_pure ⟨rfl,l,(l+r) / 2,rfl,by lia,by lia,by lia,h2,fun i i1 i2=>?_⟩
     have:=u1 (lo+(l+r) / 2) i (by lia) i1 (by lia)
     lia
    ·rw[Jq z]
     refine wpS_pure ⟨rfl,(l+r) / 2+1,r,rfl,by lia,by lia,by lia,fun i i1 i2=>?_,h3⟩
     have:=u1 i (lo+(l+r) / 2) i1 (by lia) (by lia)
     lia
  case ipost =>
   rintro c st2 ⟨rfl,l,r,rfl,lk,h2,h3⟩
   dsimp only
   rw[moveDown'_eq]
   have sz:=K1.b.size
   have rb:∀ j,R rk (arrOf (setArr st2 (bubble (arrOf st2) (lo+k) (lo+k-(lo+l))))) j=if j=lo+l then R rk (arrOf st2) (lo+k) else if lo+l<j∧j≤lo+k then R rk (arrOf st2) (j-1) else R rk (arrOf st2) j:=fun j=>by
    have:=R_bubble (rk:=rk) (xs:=arrOf st2) (src:=lo+k) (d:=lo+k-(lo+l)) (by rw[sz];lia) (by lia) j
    rw[show lo+k-(lo+k-(lo+l))=lo+l by lia]at this
    exact this
   refine wpS_bind (wpS_modify (wpS_pure ⟨rfl,K1.trans ⟨K1.b.arr (bubble_perm _ _ _),rfl,fun j hj=>?_⟩,fun i j hi hij hj=>?_⟩))
   ·rw[rb,Jc (by lia),Jc (by lia)]
   ·rw[show min (k+1) n=k+1 by lia]at hj
    rw[rb,rb]
    by_cases a1:i=lo+l
    ·rw[Jf a1]
     by_cases b1:j=lo+l
     ·rw[Jf b1];exact Z5 _
     ·rw[Jc b1,Jf ⟨by lia,by lia⟩]
      exact h3 _ (by lia) (by lia)
    ·rw[Jc a1]
     by_cases a2:lo+l<i∧i≤lo+k
     ·rw[Jf a2,Jc (by lia),Jf ⟨by lia,by lia⟩]
      exact u1 _ _ (by lia) (by lia) (by lia)
     ·rw[Jc a2]
      by_cases b1:j=lo+l
      ·rw[Jf b1];exact h2 _ hi (by lia)
      ·rw[Jc b1]
       by_cases b2:lo+l<j∧j≤lo+k
       ·rw[Jf b2];exact u1 _ _ hi (by lia) (by lia)
       ·rw[Jc b2];exact u1 _ _ hi hij (by lia)
end
def zkz:Bool→Keyed→Array Keyed→Nat→Nat→Nat→StateT SortSt Sem (Option Nat):=sortPriv% PySem.Builtin.gallop
def bd (left:Bool) (k r:Int):Bool:=if left=true then decide (r<k) else !decide (k<r)
theorem zkH {left:Bool}{k r r':Int}(h:r≤r') (b:bd left k r'=true):bd left k r=true:=by
 unfold bd at *
 cases left
 ·simp only[Y1,if_false,Za,JQ]at *;omega
 ·simp only[if_true,JW]at *;omega
section
variable {prog:Program}{w:World}{A:Around}{E:Value→Shared→Prop}{s:Shared}{κ:SortKind}{P:Keyed→Prop}{rk:Keyed→Int}{a₀:Array Keyed}
theorem zh2 (C:Cmp prog w A s κ P rk) {st:SortSt}{left:Bool}{key:Keyed}{arr:Array Keyed}{j:Nat}{Q:Option Bool→SortSt→Prop}(hk:kindOf st=κ) (pk:P key) (hat:∃ p,arr[j]?=some p∧P p) (h:Q (some (bd left (rk key) (R rk arr j))) st) :
  wpS (model prog w) A E s (elem' arr j >>= fun x=>if left=true then lt' x key else (lt' key x >>= fun r=>pure (r.map fun b=>!b))) Q st:=by
 obtain⟨p,e,pp⟩:=hat
 have r:R rk arr j=rk p:=by unfold R;rw[e]
 rw[r]at h
 refine wpS_bind (zaf e ?_)
 unfold bd at h
 cases left
 ·rw[Jc Jh]at h ⊢
  exact wpS_bind (zhm C hk pk pp (wpS_pure h))
 ·rw[Jf rfl]at h ⊢
  exact zhm C hk pp pk h
theorem zaP (C:Cmp prog w A s κ P rk) {st:SortSt}{left:Bool}{key:Keyed}{arr:Array Keyed}{base n hint:Nat}{Q:Option Nat→SortSt→Prop}(hk:kindOf st=κ) (pk:P key) (hat:∀ i,i<n→∃ p,arr[base+i]?=some p∧P p) (hu:Up rk arr base n) (hh:hint<n)
  (h:∀ k,k≤n→(∀ i,i<k→bd left (rk key) (R rk arr (base+i))=true)→(∀ i,k≤i→i<n→bd left (rk key) (R rk arr (base+i))=false)→Q (some k) st):wpS (model prog w) A E s (zkz left key arr base n hint) Q st:=by
 have dn:∀ i j,i≤j→j<n→bd left (rk key) (R rk arr (base+j))=true→bd left (rk key) (R rk arr (base+i))=true:=fun i j h1 h2 b=>zkH (hu _ _ (by omega) (by omega) (by omega)) b
 have up:∀ i j,i≤j→j<n→bd left (rk key) (R rk arr (base+i))=false→bd left (rk key) (R rk arr (base+j))=false:=fun i j h1 h2 b=>by
  cases q:bd left (rk key) (R rk arr (base+j)) with
  | false=>rfl
  | true=>rw[dn i j h1 h2 q]at b;cases b
 refine wpS_bind (zh2 C hk pk (hat hint hh) ?_)
 dsimp only
 have half:∀ (lo hi:Nat) (f:Nat→Option (Option Nat) × Nat × Nat→StateT SortSt Sem (ForInStep (Option (Option Nat) × Nat × Nat))),lo≤hi→hi≤n →
   (∀ i,i<lo→bd left (rk key) (R rk arr (base+i))=true)→(∀ i,hi≤i→i<n→bd left (rk key) (R rk arr (base+i))=false) →
   (∀ x l r (Q':ForInStep (Option (Option Nat) × Nat × Nat)→SortSt→Prop),(r≤l→Q' (.done (none,l,r)) st)→(l<r→r≤n→bd left (rk key) (R rk arr (base+(l+(r-l) / 2)))=true→Q' (.yield (none,l+(r-l) / 2+1,r)) st) →
    (l<r→r≤n→bd left (rk key) (R rk arr (base+(l+(r-l) / 2)))=false→Q' (.yield (none,l,l+(r-l) / 2)) st)→r≤n→wpS (model prog w) A E s (f x (none,l,r)) Q' st) →
   wpS (model prog w) A E s (forIn [:n] (none,lo,hi) f) (fun c st'=>st'=st∧∃ k,c=(none,k,k)∧Q (some k) st) st:=by
  intro lo hi f h1 h2 h3 h4 hf
  refine wpS_forRange (I:=fun x c st'=>st'=st∧∃ l r,c=(none,l,r)∧l≤r∧r≤n∧r-l≤n-x∧(∀ i,i<l→bd left (rk key) (R rk arr (base+i))=true)∧(∀ i,r≤i→i<n→bd left (rk key) (R rk arr (base+i))=false)) ?_ ?_ ⟨rfl,lo,hi,rfl,h1,h2,by omega,h3,h4⟩
  ·rintro x c st' _ hx ⟨rfl,l,r,rfl,lr,rn,m,a1,a2⟩
   refine hf x l r _ (fun z=>?_) (fun z1 z2 b=>?_) (fun z1 z2 b=>?_) rn
   ·obtain rfl:l=r:=by omega
    exact⟨rfl,l,rfl,h l rn a1 a2⟩
   ·exact⟨rfl,_,r,rfl,by omega,rn,by omega,fun i hi'=>dn i _ (by omega) (by omega) b,a2⟩
   ·exact⟨rfl,l,_,rfl,by omega,by omega,by omega,a1,fun i i1 i2=>up _ i i1 i2 b⟩
  ·rintro c st' ⟨rfl,l,r,rfl,lr,rn,m,a1,a2⟩
   obtain rfl:l=r:=by omega
   exact⟨rfl,l,rfl,h l rn a1 a2⟩
 cases hb:bd left (rk key) (R rk arr (base+hint)) with
 | true =>
  rw[Jf rfl]
  refine wpS_bind (wpS_mono (wpS_forRange (I:=fun x c st'=>st'=st∧∃ l o,c=(none,l,o)∧x+1≤o∧l<o∧hint+l<n∧bd left (rk key) (R rk arr (base+(hint+l)))=true)
   (Q:=fun c st'=>st'=st∧∃ l o,c=(none,l,o)∧l<o∧hint+l<n∧bd left (rk key) (R rk arr (base+(hint+l)))=true∧(o<n-hint→bd left (rk key) (R rk arr (base+(hint+o)))=false)) ?_ ?_ ⟨rfl,0,1,rfl,by omega,by omega,by omega,hb⟩) ?_)
  ·rintro x c st' _ hx ⟨rfl,l,o,rfl,xo,lo',ln,b⟩
   dsimp only
   by_cases z:o≥n-hint
   ·rw[Jf z]
    exact wpS_pure ⟨rfl,l,o,rfl,lo',ln,b,fun q=>by omega⟩
   ·rw[Jc z]
    refine wpS_bind (zh2 C hk pk (hat (hint+o) (by omega)) ?_)
    cases q:bd left (rk key) (R rk arr (base+(hint+o))) with
    | true=>exact wpS_pure ⟨rfl,o,2*o+1,rfl,by omega,by omega,by omega,q⟩
    | false=>exact wpS_pure ⟨rfl,l,o,rfl,lo',ln,b,fun _=>q⟩
  ·rintro c st' ⟨rfl,l,o,rfl,xo,lo',ln,b⟩
   exact⟨rfl,l,o,rfl,lo',ln,b,fun q=>by omega⟩
  ·rintro c st' ⟨rfl,l,o,rfl,lo',ln,b,nb⟩
   dsimp only
   refine wpS_bind (wpS_mono (half _ _ _ (by omega) (by omega) (fun i hi'=>dn i _ (by omega) ln b) (fun i i1 i2=>?_) ?_) ?_)
   ·have q:o<n-hint:=by omega
    exact up _ i (by omega) i2 (nb q)
   ·intro x l' r' Q' q1 q2 q3 rn
    dsimp only
    by_cases z:l'≥r'
    ·rw[Jf z];exact wpS_pure (q1 z)
    ·rw[Jc z]
     refine wpS_bind (zh2 C hk pk (hat _ (by omega)) ?_)
     cases q:bd left (rk key) (R rk arr (base+(l'+(r'-l') / 2))) with
     | true=>exact wpS_pure (q2 (by omega) rn q)
     | false=>exact wpS_pure (q3 (by omega) rn q)
   ·rintro c st' ⟨rfl,k,rfl,hq⟩
    exact wpS_pure hq
 | false =>
  rw[Jc Jh]
  refine wpS_bind (wpS_mono (wpS_forRange (I:=fun x c st'=>st'=st∧∃ l o,c=(none,l,o)∧x+1≤o∧l<o∧l≤hint∧bd left (rk key) (R rk arr (base+(hint-l)))=false)
   (Q:=fun c st'=>st'=st∧∃ l o,c=(none,l,o)∧l<o∧l≤hint∧bd left (rk key) (R rk arr (base+(hint-l)))=false∧(o<hint+1→bd left (rk key) (R rk arr (base+(hint-o)))=true)) ?_ ?_ ⟨rfl,0,1,rfl,by omega,by omega,by omega,hb⟩) ?_)
  ·rintro x c st' _ hx ⟨rfl,l,o,rfl,xo,lo',ln,b⟩
   dsimp only
   by_cases z:o≥hint+1
   ·rw[Jf z]
    exact wpS_pure ⟨rfl,l,o,rfl,lo',ln,b,fun q=>by omega⟩
   ·rw[Jc z]
    refine wpS_bind (zh2 C hk pk (hat (hint-o) (by omega)) ?_)
    cases q:bd left (rk key) (R rk arr (base+(hint-o))) with
    | true=>exact wpS_pure ⟨rfl,l,o,rfl,lo',ln,b,fun _=>q⟩
    | false=>exact wpS_pure ⟨rfl,o,2*o+1,rfl,by omega,by omega,by omega,q⟩
  ·rintro c st' ⟨rfl,l,o,rfl,xo,lo',ln,b⟩
   exact⟨rfl,l,o,rfl,lo',ln,b,fun q=>by omega⟩
  ·rintro c st' ⟨rfl,l,o,rfl,lo',ln,b,nb⟩
   dsimp only
   refine wpS_bind (wpS_mono (half _ _ _ (by omega) (by omega) (fun i hi'=>?_) (fun i i1 i2=>up _ i i1 i2 b) ?_) ?_)
   ·have q:o<hint+1:=by omega
    exact dn i _ (by omega) (by omega) (nb q)
   ·intro x l' r' Q' q1 q2 q3 rn
    dsimp only
    by_cases z:l'≥r'
    ·rw[Jf z];exact wpS_pure (q1 z)
    ·rw[Jc z]
     refine wpS_bind (zh2 C hk pk (hat _ (by omega)) ?_)
     cases q:bd left (rk key) (R rk arr (base+(l'+(r'-l') / 2))) with
     | true=>exact wpS_pure (q2 (by omega) rn q)
     | false=>exact wpS_pure (q3 (by omega) rn q)
   ·rintro c st' ⟨rfl,k,rfl,hq⟩
    exact wpS_pure hq
end
def Srt (rk:Keyed→Int) (l:List Keyed):Prop:=l.Pairwise fun x y=>rk x≤rk y
structure Lo (rk:Keyed→Int) (T out a b:List Keyed):Prop where
 so:Srt rk out
 sa:Srt rk a
 sb:Srt rk b
 oa:∀ x∈out,∀ y∈a,rk x≤rk y
 ob:∀ x∈out,∀ y∈b,rk x≤rk y
 pm:(out++(a++b)).Perm T
section
variable {rk:Keyed→Int}{T out a b c:List Keyed}
theorem Lo.swap (h:Lo rk T out a b):Lo rk T out b a:=⟨h.so,h.sb,h.sa,h.ob,h.oa,((Zd (l₁:=b) (l₂:=a)).append_left out).trans h.pm⟩
theorem Lo.take (h:Lo rk T out (c++a) b) (le:∀ x∈c,∀ y∈b,rk x≤rk y):Lo rk T (out++c) a b:=by
 obtain⟨s1,s2,s3⟩:=Yb.mp h.sa
 refine⟨Yb.mpr ⟨h.so,s1,fun x hx y hy=>h.oa x hx y (Y6 _ hy)⟩,s2,h.sb,fun x hx y hy=>?_,fun x hx y hy=>?_,?_⟩
 ·rcases Js.mp hx with q|q
  ·exact h.oa x q y (Ju _ hy)
  ·exact s3 x q y hy
 ·rcases Js.mp hx with q|q
  ·exact h.ob x q y hy
  ·exact le x q y hy
 ·have:=h.pm
  rw[JM]at this ⊢
  exact this
theorem Lo.end (h:Lo rk T out a []):(out++a).Perm T∧Srt rk (out++a):=by
 have:=h.pm
 rw[JT]at this
 exact⟨this,Yb.mpr ⟨h.so,h.sa,h.oa⟩⟩
theorem Lo.lone (h:Lo rk T out a b) (le:∀ x∈b,∀ y∈a,rk x≤rk y):(out++b++a).Perm T∧Srt rk (out++b++a):=by
 refine⟨?_,Yb.mpr ⟨Yb.mpr ⟨h.so,h.sb,h.ob⟩,h.sa,fun x hx y hy=>?_⟩⟩
 ·rw[JM]
  exact((Zd (l₁:=b) (l₂:=a)).append_left out).trans h.pm
 ·rcases Js.mp hx with q|q
  ·exact h.oa x q y hy
  ·exact le x q y hy
theorem zeL {arr:Array Keyed}{i:Nat}{p:Keyed}(e:arr[i]?=some p):arr.toList.drop i=p::arr.toList.drop (i+1):=by
 obtain⟨hi,e⟩:=JS.mp e
 have hl:i<arr.toList.length:=by rw[Jx];exact hi
 rw[Yt hl,Array.getElem_toList,e]
theorem zdk (arr:Array Keyed) (i k:Nat):arr.toList.drop i=(arr.extract i (i+k)).toList++arr.toList.drop (i+k):=by
 rw[YM,Yx,Nat.add_sub_cancel_left,← List.drop_drop,Zc]
theorem zcS (arr:Array Keyed) (i:Nat):(arr.extract i).toList=arr.toList.drop i:=by
 rw[YM,Yx]
 exact JE (by rw[Yf,Jx];exact Jg _)
theorem zkF {arr:Array Keyed}{i k:Nat}{x:Keyed}(h:x∈(arr.extract i (i+k)).toList):∃ j,j<k∧arr[i+j]?=some x:=by
 rw[YM,Yx,Nat.add_sub_cancel_left]at h
 obtain⟨j,hj⟩:=YG.mp h
 have jk:j<k:=by
  have:=(Je.mp hj).1
  rw[Jw]at this;lia
 rw[YD jk,List.getElem?_drop]at hj
 exact⟨j,jk,by rw[← Y0];exact hj⟩
theorem za2 {arr:Array Keyed}{i:Nat}{x:Keyed}(h:x∈arr.toList.drop i):∃ j,arr[i+j]?=some x:=by
 obtain⟨j,hj⟩:=YG.mp h
 rw[List.getElem?_drop]at hj
 exact⟨j,by rw[← Y0];exact hj⟩
theorem R_at {arr:Array Keyed}{i:Nat}{p:Keyed}(e:arr[i]?=some p):R rk arr i=rk p:=by unfold R;rw[e]
theorem zbu {arr:Array Keyed}(h:Srt rk arr.toList) {base n:Nat}(hn:base+n≤arr.size):Up rk arr base n:=by
 intro i j hi hij hj
 have h1:arr[i]?=some arr[i]:=getElem?_pos arr i (by lia)
 have h2:arr[j]?=some arr[j]:=getElem?_pos arr j (by lia)
 rw[R_at h1,R_at h2]
 by_cases z:i=j
 ·subst z;exact Z5 _
 ·have:=List.pairwise_iff_getElem.mp h i j (by rw[Jx];lia) (by rw[Jx];lia) (by lia)
  simpa using this
theorem za7 {arr:Array Keyed}{i:Nat}{p:Keyed}(h:Srt rk arr.toList) (e:arr[i]?=some p):∀ y∈arr.toList.drop i,rk p≤rk y:=by
 have hs:Srt rk (arr.toList.drop i):=List.Pairwise.drop h
 rw[zeL e]at hs ⊢
 obtain⟨h1,_⟩:=List.pairwise_cons.mp hs
 intro y hy
 rcases List.mem_cons.mp hy with rfl|q
 ·exact Z5 _
 ·exact h1 y q
end
section
variable {rk:Keyed→Int}{T:List Keyed}{out a b:Array Keyed}{ia ib k:Nat}{p q:Keyed}
abbrev At (rk:Keyed→Int) (T:List Keyed) (out a b:Array Keyed) (ia ib:Nat):Prop:=Lo rk T out.toList (a.toList.drop ia) (b.toList.drop ib)
theorem At.pushA (h:At rk T out a b ia ib) (e:a[ia]?=some p) (le:∀ y∈b.toList.drop ib,rk p≤rk y):At rk T (out.push p) a b (ia+1) ib:=by
 have h':=h
 unfold At at h' ⊢
 rw[zeL e]at h'
 rw[YK]
 exact Lo.take (c:=[p]) h' fun x hx y hy=>by rw[Jd.mp hx];exact le y hy
theorem At.pushB (h:At rk T out a b ia ib) (e:b[ib]?=some p) (le:∀ y∈a.toList.drop ia,rk p≤rk y):At rk T (out.push p) a b ia (ib+1):=(At.pushA (a:=b) (b:=a) h.swap e le).swap
theorem At.cutA (h:At rk T out a b ia ib) (le:∀ j x,j<k→a[ia+j]?=some x→∀ y∈b.toList.drop ib,rk x≤rk y):At rk T (out++a.extract ia (ia+k)) a b (ia+k) ib:=by
 have h':=h
 unfold At at h' ⊢
 rw[zdk a ia k]at h'
 rw[Y4]
 exact Lo.take h' fun x hx y hy=>by
  obtain⟨j,jk,e⟩:=zkF hx
  exact le j x jk e y hy
theorem At.cutB (h:At rk T out a b ia ib) (le:∀ j x,j<k→b[ib+j]?=some x→∀ y∈a.toList.drop ia,rk x≤rk y):At rk T (out++b.extract ib (ib+k)) a b ia (ib+k):=(At.cutA (a:=b) (b:=a) h.swap le).swap
theorem At.endB (h:At rk T out a b ia ib) (z:b.size≤ib):(out++a.extract ia++b.extract ib).toList.Perm T∧Srt rk (out++a.extract ia++b.extract ib).toList:=by
 have h':=h
 unfold At at h'
 have e:b.toList.drop ib=[]:=List.drop_eq_nil_iff.mpr (by rw[Jx];exact z)
 rw[e]at h'
 rw[Y4,Y4,zcS,zcS,e,JT]
 exact h'.end
theorem At.endA (h:At rk T out a b ia ib) (z:a.size≤ia):(out++a.extract ia++b.extract ib).toList.Perm T∧Srt rk (out++a.extract ia++b.extract ib).toList:=by
 have h':=h.swap
 have e:a.toList.drop ia=[]:=List.drop_eq_nil_iff.mpr (by rw[Jx];exact z)
 rw[e]at h'
 rw[Y4,Y4,zcS,zcS,e,JT]
 exact h'.end
theorem At.lastA (h:At rk T out a b ia ib) (le:∀ x∈b.toList.drop ib,∀ y∈a.toList.drop ia,rk x≤rk y):(out++b.extract ib++a.extract ia).toList.Perm T∧Srt rk (out++b.extract ib++a.extract ia).toList:=by
 rw[Y4,Y4,zcS,zcS]
 exact Lo.lone h le
end
def ziU:Array Keyed→Array Keyed→StateT SortSt Sem (Array Keyed):=sortPriv% PySem.Builtin.mergeLo
def zjS:Nat→StateT SortSt Sem Unit:=sortPriv% PySem.Builtin.setMinGallop
structure Sm (st st':SortSt):Prop where
 kind:kindOf st'=kindOf st
 arr:arrOf st'=arrOf st
 pend:pendingOf st'=pendingOf st
 fail:failedOf st'=failedOf st
theorem Sm.refl (st:SortSt):Sm st st:=⟨rfl,rfl,rfl,rfl⟩
theorem Sm.trans {a b c:SortSt}(h:Sm a b) (g:Sm b c):Sm a c:=⟨g.kind.trans h.kind,g.arr.trans h.arr,g.pend.trans h.pend,g.fail.trans h.fail⟩
section
variable {prog:Program}{w:World}{A:Around}{E:Value→Shared→Prop}{s:Shared}{κ:SortKind}{P:Keyed→Prop}{rk:Keyed→Int}{a₀:Array Keyed}
theorem zcM {st:SortSt}{g:Nat}{Q:Unit→SortSt→Prop}(h:∀ st',Sm st st'→Q () st'):wpS (model prog w) A E s (zjS g) Q st :=
 wpS_modify (h _ ⟨rfl,rfl,rfl,rfl⟩)
theorem zlP (C:Cmp prog w A s κ P rk) {st:SortSt}{a b:Array Keyed}{Q:Array Keyed→SortSt→Prop}(hk:kindOf st=κ) (pa:∀ x∈a.toList,P x) (pb:∀ x∈b.toList,P x) (sa:Srt rk a.toList) (sb:Srt rk b.toList) (a1:1≤a.size) (b1:1≤b.size)
  (first:∀ x,b[0]?=some x→∀ y∈a.toList,rk x≤rk y) (last:∀ x,a[a.size-1]?=some x→∀ y∈b.toList,rk y≤rk x)
  (h:∀ r st',Sm st st'→r.toList.Perm (a.toList++b.toList)→Srt rk r.toList→Q r st'):wpS (model prog w) A E s (ziU a b) Q st:=by
 have atA:∀ i,i<a.size→∃ x,a[i]?=some x∧P x:=fun i hi=>⟨_,getElem?_pos a i hi,pa _ (by simp)⟩
 have atB:∀ i,i<b.size→∃ x,b[i]?=some x∧P x:=fun i hi=>⟨_,getElem?_pos b i hi,pb _ (by simp)⟩
 obtain⟨b0,e0,_⟩:=atB 0 b1
 have lone:∀ {out:Array Keyed}{ia ib:Nat},At rk (a.toList++b.toList) out a b ia ib→ia+1=a.size→(out++b.extract ib++a.extract ia).toList.Perm (a.toList++b.toList)∧Srt rk (out++b.extract ib++a.extract ia).toList:=fun {out ia ib} L z=>L.lastA fun x hx y hy=>by
  obtain⟨j,ej⟩:=za2 hy
  have:=(JS.mp ej).1
  exact last y (by rw[show a.size-1=ia+j by lia];exact ej) x (List.mem_of_mem_drop hx)
 have L0:At rk (a.toList++b.toList) #[b0] a b 0 1:=by
  have e:=zeL e0
  rw[Z9]at e
  have hb:=sb
  unfold Srt at hb
  rw[e]at hb
  obtain⟨h1,h2⟩:=List.pairwise_cons.mp hb
  refine⟨List.pairwise_singleton _ _,by rw[Z9];exact sa,h2,fun x hx y hy=>?_,fun x hx y hy=>?_,?_⟩
  ·rw[Jd.mp hx];exact first b0 e0 y (List.mem_of_mem_drop hy)
  ·rw[Jd.mp hx];exact h1 y hy
  ·rw[Z9]
   conv=>rhs;rw[e]
   show (b0::(a.toList++b.toList.drop 1)).Perm (a.toList++b0::b.toList.drop 1)
   exact List.perm_middle.symm
 have size:∀ {out:Array Keyed}{ia ib:Nat},At rk (a.toList++b.toList) out a b ia ib→out.size≤a.size+b.size:=fun {out ia ib} L=>by
  have:=L.pm.length_eq
  simp only[Ja,Jx]at this
  lia
 refine wpS_bind (zbR ?_)
 refine wpS_bind (zaf e0 ?_)
 dsimp only
 by_cases z1:1=b.size
 ·rw[Jf (by simpa using z1)]
  obtain⟨q1,q2⟩:=L0.endB (by lia)
  exact wpS_pure (h _ _ (Sm.refl _) q1 q2)
 rw[Jc (by simpa using z1)]
 by_cases z2:0+1=a.size
 ·rw[Jf (by simpa using z2)]
  obtain⟨q1,q2⟩:=lone L0 z2
  exact wpS_pure (h _ _ (Sm.refl _) q1 q2)
 rw[Jc (by simpa using z2)]
 refine wpS_bind (wpS_get ?_)
 refine wpS_bind (wpS_mono (wpS_forRange (I:=fun i c st1=>Sm st st1∧∃ out ia ib g,c=(none,out,ia,ib,g)∧At rk (a.toList++b.toList) out a b ia ib∧ia+1<a.size∧ib<b.size∧i+1≤out.size)
  (Q:=fun c st1=>Sm st st1∧∃ r x,c=(some r,x)∧r.toList.Perm (a.toList++b.toList)∧Srt rk r.toList) ?step ?fin ⟨Sm.refl _,_,_,_,_,rfl,L0,by lia,by lia,by simp⟩) ?post)
 case post =>
  rintro c st1 ⟨S1,r,x,rfl,q1,q2⟩
  exact wpS_pure (h _ _ S1 q1 q2)
 case fin =>
  rintro c st1 ⟨S1,out,ia,ib,g,rfl,L,_,_,sz⟩
  have:=size L
  lia
 case step =>
  rintro i c st1 _ hi ⟨S1,out,ia,ib,g,rfl,L,la,lb,sz⟩
  dsimp only
  refine wpS_bind (wpS_mono (wpS_forRange (I:=fun j c st2=>st2=st1∧∃ out ia ib ca cb,c=(none,out,ia,ib,ca,cb)∧At rk (a.toList++b.toList) out a b ia ib∧ia+1<a.size∧ib<b.size∧i+1+j≤out.size)
   (Q:=fun c st2=>st2=st1∧((∃ r x,c=(some r,x)∧r.toList.Perm (a.toList++b.toList)∧Srt rk r.toList)∨∃ out ia ib ca cb,c=(none,out,ia,ib,ca,cb)∧At rk (a.toList++b.toList) out a b ia ib∧ia+1<a.size∧ib<b.size∧i+2≤out.size)) ?_ ?_ ⟨rfl,_,_,_,_,_,rfl,L,la,lb,by lia⟩) ?_)
  ·rintro j c st2 _ hj ⟨rfl,out,ia,ib,ca,cb,rfl,L,la,lb,sz⟩
   dsimp only
   obtain⟨x,ex,px⟩:=atA ia (by lia)
   obtain⟨y,ey,py⟩:=atB ib lb
   refine wpS_bind (zaf ey (wpS_bind (zaf ex (wpS_bind (zhm C (S1.kind.trans hk) py px ?_)))))
   by_cases z:rk y<rk x
   ·rw[Jz z]
    dsimp only
    rw[Jf rfl]
    have L':=L.pushB ey fun u hu=>YU (Int.le_of_lt z) (za7 sa ex u hu)
    refine wpS_bind (zaf ey ?_)
    by_cases zb:ib+1=b.size
    ·rw[Jf (by simpa using zb)]
     obtain⟨q1,q2⟩:=L'.endB (by lia)
     exact wpS_pure ⟨rfl,.inl ⟨_,_,rfl,q1,q2⟩⟩
    ·rw[Jc (by simpa using zb)]
     by_cases zg:cb+1≥g
     ·rw[Jf zg]
      exact wpS_pure ⟨rfl,.inr ⟨_,_,_,_,_,rfl,L',la,by lia,by rw[Jv];lia⟩⟩
     ·rw[Jc zg]
      exact wpS_pure ⟨rfl,_,_,_,_,_,rfl,L',la,by lia,by rw[Jv];lia⟩
   ·rw[Jq z]
    dsimp only
    rw[Jc Jh]
    have L':=L.pushA ex fun u hu=>YU (by lia) (za7 sb ey u hu)
    refine wpS_bind (zaf ex ?_)
    by_cases zb:ia+1+1=a.size
    ·rw[Jf (by simpa using zb)]
     obtain⟨q1,q2⟩:=lone L' zb
     exact wpS_pure ⟨rfl,.inl ⟨_,_,rfl,q1,q2⟩⟩
    ·rw[Jc (by simpa using zb)]
     by_cases zg:ca+1≥g
     ·rw[Jf zg]
      exact wpS_pure ⟨rfl,.inr ⟨_,_,_,_,_,rfl,L',by lia,lb,by rw[Jv];lia⟩⟩
     ·rw[Jc zg]
      exact wpS_pure ⟨rfl,_,_,_,_,_,rfl,L',by lia,lb,by rw[Jv];lia⟩
  ·rintro c st2 ⟨rfl,out,ia,ib,ca,cb,rfl,L,la,lb,sz⟩
   have:=size L
   lia
  ·rintro c st2 ⟨rfl,⟨r,x,rfl,q1,q2⟩|⟨out,ia,ib,ca,cb,rfl,L,la,lb,sz⟩⟩
   ·exact wpS_pure ⟨S1,r,_,rfl,q1,q2⟩
   dsimp only
   refine wpS_bind (zbR ?_)
   refine wpS_bind (wpS_mono (wpS_forRange (I:=fun j c st3=>Sm st st3∧∃ out ia ib g ca cb,c=(none,out,ia,ib,g,ca,cb)∧At rk (a.toList++b.toList) out a b ia ib∧ia+1<a.size∧ib<b.size∧i+2≤out.size)
    (Q:=fun c st3=>Sm st st3∧((∃ r x,c=(some r,x)∧r.toList.Perm (a.toList++b.toList)∧Srt rk r.toList)∨∃ out ia ib g ca cb,c=(none,out,ia,ib,g,ca,cb)∧At rk (a.toList++b.toList) out a b ia ib∧ia+1<a.size∧ib<b.size∧i+2≤out.size)) ?_ ?_ ⟨S1,_,_,_,_,_,_,rfl,L,la,lb,sz⟩) ?_)
   ·rintro j c st3 _ hj ⟨S3,out,ia,ib,g,ca,cb,rfl,L,la,lb,sz⟩
    dsimp only
    obtain⟨y,ey,py⟩:=atB ib lb
    by_cases zg:g > 1
    ·rw[Jf zg]
     refine wpS_bind (zcM fun st4 S4=>?_)
     have S4:=S3.trans S4
     refine wpS_bind (zaf ey (wpS_bind (zaP C (S4.kind.trans hk) py (fun t ht=>atA (ia+t) (by lia)) (zbu sa (by lia)) (by lia) fun k hk1 g1 g2=>?_)))
     dsimp only
     have L1:=L.cutA (k:=k) fun t u tk eu v hv=>by
      have:=g1 t tk
      rw[R_at eu]at this
      unfold bd at this
      simp only[Y1,if_false,Za,JQ]at this
      have:=za7 sb ey v hv
      lia
     have hle:∀ u∈a.toList.drop (ia+k),rk y≤rk u:=fun u hu=>by
      obtain⟨t,et⟩:=za2 hu
      have tl:=(JS.mp et).1
      have:=g2 (k+t) (by lia) (by lia)
      rw[← YF,R_at et]at this
      unfold bd at this
      simp only[Y1,if_false,Zp,JW]at this
      lia
     have sz1:i+2≤(out++a.extract ia (ia+k)).size:=by rw[Jr];lia
     by_cases zk:k > 0
     ·rw[Jf zk]
      by_cases za:ia+k+1=a.size
      ·rw[Jf (by simpa using za)]
       obtain⟨q1,q2⟩:=lone L1 za
       exact wpS_pure ⟨S4,.inl ⟨_,_,rfl,q1,q2⟩⟩
      rw[Jc (by simpa using za)]
      by_cases zc:ia+k=a.size
      ·rw[Jf (by simpa using zc)]
       obtain⟨q1,q2⟩:=L1.endA (by lia)
       exact wpS_pure ⟨S4,.inl ⟨_,_,rfl,q1,q2⟩⟩
      rw[Jc (by simpa using zc)]
      have la1:ia+k+1<a.size:=by lia
      generalize ia+k=ia1 at L1 hle la1 sz1 ⊢
      generalize out++a.extract ia ia1=out1 at L1 sz1 ⊢
      refine wpS_bind (zaf ey ?_)
      have L2:=L1.pushB ey hle
      by_cases zb:ib+1=b.size
      ·rw[Jf (by simpa using zb)]
       obtain⟨q1,q2⟩:=L2.endB (by lia)
       exact wpS_pure ⟨S4,.inl ⟨_,_,rfl,q1,q2⟩⟩
      rw[Jc (by simpa using zb)]
      obtain⟨x1,ex1,px1⟩:=atA _ (Nat.lt_of_succ_lt la1)
      refine wpS_bind (zaf ex1 (wpS_bind (zaP C (S4.kind.trans hk) px1 (fun t ht=>atB (ib+1+t) (by lia)) (zbu sb (by lia)) (by lia) fun k2 hk2 c1 c2=>?_)))
      dsimp only
      have L3:=L2.cutB (k:=k2) fun t u tk eu v hv=>by
       have:=c1 t tk
       rw[R_at eu]at this
       unfold bd at this
       simp only[if_true,JW]at this
       have:=za7 sa ex1 v hv
       lia
      have hle2:∀ u∈b.toList.drop (ib+1+k2),rk x1≤rk u:=fun u hu=>by
       obtain⟨t,et⟩:=za2 hu
       have tl:=(JS.mp et).1
       have:=c2 (k2+t) (by lia) (by lia)
       rw[← YF,R_at et]at this
       unfold bd at this
       simp only[if_true,JQ]at this
       lia
      have sz2:=sz1
      by_cases zk2:k2 > 0
      ·rw[Jf zk2]
       by_cases zd:ib+1+k2=b.size
       ·rw[Jf (by simpa using zd)]
        obtain⟨q1,q2⟩:=L3.endB (by lia)
        exact wpS_pure ⟨S4,.inl ⟨_,_,rfl,q1,q2⟩⟩
       rw[Jc (by simpa using zd)]
       have lb2:ib+1+k2<b.size:=by lia
       refine wpS_bind (zaf ex1 ?_)
       have L4:=L3.pushA ex1 hle2
       by_cases ze:ia1+1+1=a.size
       ·rw[Jf (by simpa using ze)]
        obtain⟨q1,q2⟩:=lone L4 ze
        exact wpS_pure ⟨S4,.inl ⟨_,_,rfl,q1,q2⟩⟩
       rw[Jc (by simpa using ze)]
       split
       ·exact wpS_pure ⟨S4,.inr ⟨_,_,_,_,_,_,rfl,L4,by lia,lb2,by simp only[Jv,Jr];lia⟩⟩
       ·exact wpS_pure ⟨S4,_,_,_,_,_,_,rfl,L4,by lia,lb2,by simp only[Jv,Jr];lia⟩
      ·rw[Jc zk2]
       obtain rfl:k2=0:=by lia
       rw[YA]at hle2
       refine wpS_bind (zaf ex1 ?_)
       have L4:=L2.pushA ex1 hle2
       by_cases ze:ia1+1+1=a.size
       ·rw[Jf (by simpa using ze)]
        obtain⟨q1,q2⟩:=lone L4 ze
        exact wpS_pure ⟨S4,.inl ⟨_,_,rfl,q1,q2⟩⟩
       rw[Jc (by simpa using ze)]
       split
       ·exact wpS_pure ⟨S4,.inr ⟨_,_,_,_,_,_,rfl,L4,by lia,by lia,by simp only[Jv,Jr];lia⟩⟩
       ·exact wpS_pure ⟨S4,_,_,_,_,_,_,rfl,L4,by lia,by lia,by simp only[Jv,Jr];lia⟩
     ·rw[Jc zk]
      obtain rfl:k=0:=by lia
      have L1:=L
      have la1:=la
      have sz1:=sz
      rw[YA]at hle
      refine wpS_bind (zaf ey ?_)
      have L2:=L1.pushB ey hle
      by_cases zb:ib+1=b.size
      ·rw[Jf (by simpa using zb)]
       obtain⟨q1,q2⟩:=L2.endB (by lia)
       exact wpS_pure ⟨S4,.inl ⟨_,_,rfl,q1,q2⟩⟩
      rw[Jc (by simpa using zb)]
      obtain⟨x1,ex1,px1⟩:=atA _ (Nat.lt_of_succ_lt la1)
      refine wpS_bind (zaf ex1 (wpS_bind (zaP C (S4.kind.trans hk) px1 (fun t ht=>atB (ib+1+t) (by lia)) (zbu sb (by lia)) (by lia) fun k2 hk2 c1 c2=>?_)))
      dsimp only
      have L3:=L2.cutB (k:=k2) fun t u tk eu v hv=>by
       have:=c1 t tk
       rw[R_at eu]at this
       unfold bd at this
       simp only[if_true,JW]at this
       have:=za7 sa ex1 v hv
       lia
      have hle2:∀ u∈b.toList.drop (ib+1+k2),rk x1≤rk u:=fun u hu=>by
       obtain⟨t,et⟩:=za2 hu
       have tl:=(JS.mp et).1
       have:=c2 (k2+t) (by lia) (by lia)
       rw[← YF,R_at et]at this
       unfold bd at this
       simp only[if_true,JQ]at this
       lia
      have sz2:=sz1
      by_cases zk2:k2 > 0
      ·rw[Jf zk2]
       by_cases zd:ib+1+k2=b.size
       ·rw[Jf (by simpa using zd)]
        obtain⟨q1,q2⟩:=L3.endB (by lia)
        exact wpS_pure ⟨S4,.inl ⟨_,_,rfl,q1,q2⟩⟩
       rw[Jc (by simpa using zd)]
       have lb2:ib+1+k2<b.size:=by lia
       refine wpS_bind (zaf ex1 ?_)
       have L4:=L3.pushA ex1 hle2
       by_cases ze:ia+1+1=a.size
       ·rw[Jf (by simpa using ze)]
        obtain⟨q1,q2⟩:=lone L4 ze
        exact wpS_pure ⟨S4,.inl ⟨_,_,rfl,q1,q2⟩⟩
       rw[Jc (by simpa using ze)]
       split
       ·exact wpS_pure ⟨S4,.inr ⟨_,_,_,_,_,_,rfl,L4,by lia,lb2,by simp only[Jv,Jr];lia⟩⟩
       ·exact wpS_pure ⟨S4,_,_,_,_,_,_,rfl,L4,by lia,lb2,by simp only[Jv,Jr];lia⟩
      ·rw[Jc zk2]
       obtain rfl:k2=0:=by lia
       rw[YA]at hle2
       refine wpS_bind (zaf ex1 ?_)
       have L4:=L2.pushA ex1 hle2
       by_cases ze:ia+1+1=a.size
       ·rw[Jf (by simpa using ze)]
        obtain⟨q1,q2⟩:=lone L4 ze
        exact wpS_pure ⟨S4,.inl ⟨_,_,rfl,q1,q2⟩⟩
       rw[Jc (by simpa using ze)]
       split
       ·exact wpS_pure ⟨S4,.inr ⟨_,_,_,_,_,_,rfl,L4,by lia,by lia,by simp only[Jv,Jr];lia⟩⟩
       ·exact wpS_pure ⟨S4,_,_,_,_,_,_,rfl,L4,by lia,by lia,by simp only[Jv,Jr];lia⟩
    ·rw[Jc zg]
     refine wpS_bind (zcM fun st4 S4=>?_)
     have S4:=S3.trans S4
     refine wpS_bind (zaf ey (wpS_bind (zaP C (S4.kind.trans hk) py (fun t ht=>atA (ia+t) (by lia)) (zbu sa (by lia)) (by lia) fun k hk1 g1 g2=>?_)))
     dsimp only
     have L1:=L.cutA (k:=k) fun t u tk eu v hv=>by
      have:=g1 t tk
      rw[R_at eu]at this
      unfold bd at this
      simp only[Y1,if_false,Za,JQ]at this
      have:=za7 sb ey v hv
      lia
     have hle:∀ u∈a.toList.drop (ia+k),rk y≤rk u:=fun u hu=>by
      obtain⟨t,et⟩:=za2 hu
      have tl:=(JS.mp et).1
      have:=g2 (k+t) (by lia) (by lia)
      rw[← YF,R_at et]at this
      unfold bd at this
      simp only[Y1,if_false,Zp,JW]at this
      lia
     have sz1:i+2≤(out++a.extract ia (ia+k)).size:=by rw[Jr];lia
     by_cases zk:k > 0
     ·rw[Jf zk]
      by_cases za:ia+k+1=a.size
      ·rw[Jf (by simpa using za)]
       obtain⟨q1,q2⟩:=lone L1 za
       exact wpS_pure ⟨S4,.inl ⟨_,_,rfl,q1,q2⟩⟩
      rw[Jc (by simpa using za)]
      by_cases zc:ia+k=a.size
      ·rw[Jf (by simpa using zc)]
       obtain⟨q1,q2⟩:=L1.endA (by lia)
       exact wpS_pure ⟨S4,.inl ⟨_,_,rfl,q1,q2⟩⟩
      rw[Jc (by simpa using zc)]
      have la1:ia+k+1<a.size:=by lia
      generalize ia+k=ia1 at L1 hle la1 sz1 ⊢
      generalize out++a.extract ia ia1=out1 at L1 sz1 ⊢
      refine wpS_bind (zaf ey ?_)
      have L2:=L1.pushB ey hle
      by_cases zb:ib+1=b.size
      ·rw[Jf (by simpa using zb)]
       obtain⟨q1,q2⟩:=L2.endB (by lia)
       exact wpS_pure ⟨S4,.inl ⟨_,_,rfl,q1,q2⟩⟩
      rw[Jc (by simpa using zb)]
      obtain⟨x1,ex1,px1⟩:=atA _ (Nat.lt_of_succ_lt la1)
      refine wpS_bind (zaf ex1 (wpS_bind (zaP C (S4.kind.trans hk) px1 (fun t ht=>atB (ib+1+t) (by lia)) (zbu sb (by lia)) (by lia) fun k2 hk2 c1 c2=>?_)))
      dsimp only
      have L3:=L2.cutB (k:=k2) fun t u tk eu v hv=>by
       have:=c1 t tk
       rw[R_at eu]at this
       unfold bd at this
       simp only[if_true,JW]at this
       have:=za7 sa ex1 v hv
       lia
      have hle2:∀ u∈b.toList.drop (ib+1+k2),rk x1≤rk u:=fun u hu=>by
       obtain⟨t,et⟩:=za2 hu
       have tl:=(JS.mp et).1
       have:=c2 (k2+t) (by lia) (by lia)
       rw[← YF,R_at et]at this
       unfold bd at this
       simp only[if_true,JQ]at this
       lia
      have sz2:=sz1
      by_cases zk2:k2 > 0
      ·rw[Jf zk2]
       by_cases zd:ib+1+k2=b.size
       ·rw[Jf (by simpa using zd)]
        obtain⟨q1,q2⟩:=L3.endB (by lia)
        exact wpS_pure ⟨S4,.inl ⟨_,_,rfl,q1,q2⟩⟩
       rw[Jc (by simpa using zd)]
       have lb2:ib+1+k2<b.size:=by lia
       refine wpS_bind (zaf ex1 ?_)
       have L4:=L3.pushA ex1 hle2
       by_cases ze:ia1+1+1=a.size
       ·rw[Jf (by simpa using ze)]
        obtain⟨q1,q2⟩:=lone L4 ze
        exact wpS_pure ⟨S4,.inl ⟨_,_,rfl,q1,q2⟩⟩
       rw[Jc (by simpa using ze)]
       split
       ·exact wpS_pure ⟨S4,.inr ⟨_,_,_,_,_,_,rfl,L4,by lia,lb2,by simp only[Jv,Jr];lia⟩⟩
       ·exact wpS_pure ⟨S4,_,_,_,_,_,_,rfl,L4,by lia,lb2,by simp only[Jv,Jr];lia⟩
      ·rw[Jc zk2]
       obtain rfl:k2=0:=by lia
       rw[YA]at hle2
       refine wpS_bind (zaf ex1 ?_)
       have L4:=L2.pushA ex1 hle2
       by_cases ze:ia1+1+1=a.size
       ·rw[Jf (by simpa using ze)]
        obtain⟨q1,q2⟩:=lone L4 ze
        exact wpS_pure ⟨S4,.inl ⟨_,_,rfl,q1,q2⟩⟩
       rw[Jc (by simpa using ze)]
       split
       ·exact wpS_pure ⟨S4,.inr ⟨_,_,_,_,_,_,rfl,L4,by lia,by lia,by simp only[Jv,Jr];lia⟩⟩
       ·exact wpS_pure ⟨S4,_,_,_,_,_,_,rfl,L4,by lia,by lia,by simp only[Jv,Jr];lia⟩
     ·rw[Jc zk]
      obtain rfl:k=0:=by lia
      have L1:=L
      have la1:=la
      have sz1:=sz
      rw[YA]at hle
      refine wpS_bind (zaf ey ?_)
      have L2:=L1.pushB ey hle
      by_cases zb:ib+1=b.size
      ·rw[Jf (by simpa using zb)]
       obtain⟨q1,q2⟩:=L2.endB (by lia)
       exact wpS_pure ⟨S4,.inl ⟨_,_,rfl,q1,q2⟩⟩
      rw[Jc (by simpa using zb)]
      obtain⟨x1,ex1,px1⟩:=atA _ (Nat.lt_of_succ_lt la1)
      refine wpS_bind (zaf ex1 (wpS_bind (zaP C (S4.kind.trans hk) px1 (fun t ht=>atB (ib+1+t) (by lia)) (zbu sb (by lia)) (by lia) fun k2 hk2 c1 c2=>?_)))
      dsimp only
      have L3:=L2.cutB (k:=k2) fun t u tk eu v hv=>by
       have:=c1 t tk
       rw[R_at eu]at this
       unfold bd at this
       simp only[if_true,JW]at this
       have:=za7 sa ex1 v hv
       lia
      have hle2:∀ u∈b.toList.drop (ib+1+k2),rk x1≤rk u:=fun u hu=>by
       obtain⟨t,et⟩:=za2 hu
       have tl:=(JS.mp et).1
       have:=c2 (k2+t) (by lia) (by lia)
       rw[← YF,R_at et]at this
       unfold bd at this
       simp only[if_true,JQ]at this
       lia
      have sz2:=sz1
      by_cases zk2:k2 > 0
      ·rw[Jf zk2]
       by_cases zd:ib+1+k2=b.size
       ·rw[Jf (by simpa using zd)]
        obtain⟨q1,q2⟩:=L3.endB (by lia)
        exact wpS_pure ⟨S4,.inl ⟨_,_,rfl,q1,q2⟩⟩
       rw[Jc (by simpa using zd)]
       have lb2:ib+1+k2<b.size:=by lia
       refine wpS_bind (zaf ex1 ?_)
       have L4:=L3.pushA ex1 hle2
       by_cases ze:ia+1+1=a.size
       ·rw[Jf (by simpa using ze)]
        obtain⟨q1,q2⟩:=lone L4 ze
        exact wpS_pure ⟨S4,.inl ⟨_,_,rfl,q1,q2⟩⟩
       rw[Jc (by simpa using ze)]
       split
       ·exact wpS_pure ⟨S4,.inr ⟨_,_,_,_,_,_,rfl,L4,by lia,lb2,by simp only[Jv,Jr];lia⟩⟩
       ·exact wpS_pure ⟨S4,_,_,_,_,_,_,rfl,L4,by lia,lb2,by simp only[Jv,Jr];lia⟩
      ·rw[Jc zk2]
       obtain rfl:k2=0:=by lia
       rw[YA]at hle2
       refine wpS_bind (zaf ex1 ?_)
       have L4:=L2.pushA ex1 hle2
       by_cases ze:ia+1+1=a.size
       ·rw[Jf (by simpa using ze)]
        obtain⟨q1,q2⟩:=lone L4 ze
        exact wpS_pure ⟨S4,.inl ⟨_,_,rfl,q1,q2⟩⟩
       rw[Jc (by simpa using ze)]
       split
       ·exact wpS_pure ⟨S4,.inr ⟨_,_,_,_,_,_,rfl,L4,by lia,by lia,by simp only[Jv,Jr];lia⟩⟩
       ·exact wpS_pure ⟨S4,_,_,_,_,_,_,rfl,L4,by lia,by lia,by simp only[Jv,Jr];lia⟩
   ·rintro c st3 ⟨S3,out,ia,ib,g,ca,cb,rfl,L,la,lb,sz⟩
    exact⟨S3,.inr ⟨_,_,_,_,_,_,rfl,L,la,lb,sz⟩⟩
   ·rintro c st3 ⟨S3,⟨r,x,rfl,q1,q2⟩|⟨out,ia,ib,g,ca,cb,rfl,L,la,lb,sz⟩⟩
    ·exact wpS_pure ⟨S3,r,_,rfl,q1,q2⟩
    dsimp only
    refine wpS_bind (zcM fun st4 S4=>?_)
    exact wpS_pure ⟨S3.trans S4,_,_,_,_,rfl,L,la,lb,by lia⟩
end
def ziV:Array Keyed→Array Keyed→StateT SortSt Sem (Array Keyed):=sortPriv% PySem.Builtin.mergeHi
structure Hi (rk:Keyed→Int) (T a b out:List Keyed):Prop where
 sa:Srt rk a
 sb:Srt rk b
 so:Srt rk out
 ao:∀ x∈a,∀ y∈out,rk x≤rk y
 bo:∀ x∈b,∀ y∈out,rk x≤rk y
 pm:(a++b++out).Perm T
section
variable {rk:Keyed→Int}{T out a b c:List Keyed}
theorem Hi.swap (h:Hi rk T a b out):Hi rk T b a out:=⟨h.sb,h.sa,h.so,h.bo,h.ao,((Zd (l₁:=b) (l₂:=a)).append_right out).trans h.pm⟩
theorem Hi.take (h:Hi rk T (a++c) b out) (le:∀ x∈b,∀ y∈c,rk x≤rk y):Hi rk T a b (c++out):=by
 obtain⟨s1,s2,s3⟩:=Yb.mp h.sa
 refine⟨s1,h.sb,Yb.mpr ⟨s2,h.so,fun x hx y hy=>h.ao x (Ju _ hx) y hy⟩,fun x hx y hy=>?_,fun x hx y hy=>?_,?_⟩
 ·rcases Js.mp hy with q|q
  ·exact s3 x hx y q
  ·exact h.ao x (Y6 _ hx) y q
 ·rcases Js.mp hy with q|q
  ·exact le x hx y q
  ·exact h.bo x hx y q
 ·refine List.Perm.trans ?_ h.pm
  rw[← JM]
  refine List.Perm.append_right out ?_
  rw[JM,JM]
  exact List.Perm.append_left a Zd
theorem Hi.end (h:Hi rk T [] b out):(b++out).Perm T∧Srt rk (b++out):=⟨h.pm,Yb.mpr ⟨h.sb,h.so,h.bo⟩⟩
theorem Hi.lone (h:Hi rk T a b out) (le:∀ x∈b,∀ y∈a,rk x≤rk y):(b++a++out).Perm T∧Srt rk (b++a++out):=by
 refine⟨((Zd (l₁:=b) (l₂:=a)).append_right out).trans h.pm,Yb.mpr ⟨Yb.mpr ⟨h.sb,h.sa,le⟩,h.so,fun x hx y hy=>?_⟩⟩
 rcases Js.mp hx with q|q
 ·exact h.bo x q y hy
 ·exact h.ao x q y hy
theorem zjK {arr:Array Keyed}{n:Nat}{p:Keyed}(h1:1≤n) (e:arr[n-1]?=some p):arr.toList.take n=arr.toList.take (n-1)++[p]:=by
 obtain⟨hi,e⟩:=JS.mp e
 have hl:n-1<arr.toList.length:=by rw[Jx];exact hi
 have:=Z8 hl
 rw[Nat.sub_add_cancel h1,Array.getElem_toList,e]at this
 exact this
theorem zig (arr:Array Keyed) {i n:Nat}(h:i≤n):arr.toList.take n=arr.toList.take i++(arr.extract i n).toList:=by
 rw[YM,Yx]
 have:=List.take_add (l:=arr.toList) (i:=i) (j:=n-i)
 rw[show i+(n-i)=n by lia]at this
 exact this
theorem zcu (arr:Array Keyed) (n:Nat):(arr.extract 0 n).toList=arr.toList.take n:=by
 rw[YM,Yx,Z9,Nat.sub_zero]
theorem zcv {arr:Array Keyed}{i n:Nat}{x:Keyed}(h:x∈(arr.extract i n).toList):∃ j,i≤j∧j<n∧arr[j]?=some x:=by
 rw[YM,Yx]at h
 obtain⟨j,hj⟩:=YG.mp h
 have jk:j<n-i:=by
  have:=(Je.mp hj).1
  rw[Jw]at this;lia
 rw[YD jk,List.getElem?_drop]at hj
 exact⟨i+j,by lia,by lia,by rw[← Y0];exact hj⟩
theorem zaL {arr:Array Keyed}{n:Nat}{x:Keyed}(h:x∈arr.toList.take n):∃ j,j<n∧arr[j]?=some x:=by
 obtain⟨j,hj⟩:=YG.mp h
 have jk:j<n:=by
  have:=(Je.mp hj).1
  rw[Jw]at this;lia
 rw[YD jk]at hj
 exact⟨j,jk,by rw[← Y0];exact hj⟩
theorem zaR {arr:Array Keyed}{n:Nat}{p:Keyed}(h:Srt rk arr.toList) (h1:1≤n) (e:arr[n-1]?=some p):∀ y∈arr.toList.take n,rk y≤rk p:=by
 intro y hy
 obtain⟨j,jn,ej⟩:=zaL hy
 have hn:=(JS.mp e).1
 have:=zbu h (base:=0) (n:=n) (by lia) j (n-1) (JH _) (by lia) (by lia)
 rw[R_at ej,R_at e]at this
 exact this
end
section
variable {rk:Keyed→Int}{T:List Keyed}{out a b:Array Keyed}{na nb i:Nat}{p q:Keyed}
abbrev Bt (rk:Keyed→Int) (T:List Keyed) (a b out:Array Keyed) (na nb:Nat):Prop:=Hi rk T (a.toList.take na) (b.toList.take nb) out.toList.reverse
theorem Bt.pushA (h:Bt rk T a b out na nb) (h1:1≤na) (e:a[na-1]?=some p) (le:∀ x∈b.toList.take nb,rk x≤rk p):Bt rk T a b (out.push p) (na-1) nb:=by
 have h':=h
 unfold Bt at h' ⊢
 rw[zjK h1 e]at h'
 rw[YK,List.reverse_append]
 exact Hi.take (c:=[p]) h' fun x hx y hy=>by rw[Jd.mp hy];exact le x hx
theorem Bt.pushB (h:Bt rk T a b out na nb) (h1:1≤nb) (e:b[nb-1]?=some p) (le:∀ x∈a.toList.take na,rk x≤rk p):Bt rk T a b (out.push p) na (nb-1):=(Bt.pushA (a:=b) (b:=a) h.swap h1 e le).swap
theorem Bt.cutA (h:Bt rk T a b out na nb) (hi:i≤na) (le:∀ j x,i≤j→j<na→a[j]?=some x→∀ y∈b.toList.take nb,rk y≤rk x):Bt rk T a b (out++(a.extract i na).reverse) i nb:=by
 have h':=h
 unfold Bt at h' ⊢
 rw[zig a hi]at h'
 rw[Y4,List.reverse_append,Array.toList_reverse,List.reverse_reverse]
 exact Hi.take h' fun y hy x hx=>by
  obtain⟨j,j1,j2,e⟩:=zcv hx
  exact le j x j1 j2 e y hy
theorem Bt.cutB (h:Bt rk T a b out na nb) (hi:i≤nb) (le:∀ j x,i≤j→j<nb→b[j]?=some x→∀ y∈a.toList.take na,rk y≤rk x):Bt rk T a b (out++(b.extract i nb).reverse) na i:=(Bt.cutA (a:=b) (b:=a) h.swap hi le).swap
theorem Bt.endA (h:Bt rk T a b out 0 nb):(a.extract 0 0++b.extract 0 nb++out.reverse).toList.Perm T∧Srt rk (a.extract 0 0++b.extract 0 nb++out.reverse).toList:=by
 rw[Y4,Y4,zcu,zcu,Yq,Zh,Array.toList_reverse]
 exact Hi.end h
theorem Bt.endB (h:Bt rk T a b out na 0):(a.extract 0 na++b.extract 0 0++out.reverse).toList.Perm T∧Srt rk (a.extract 0 na++b.extract 0 0++out.reverse).toList:=by
 rw[Y4,Y4,zcu,zcu,Yq,JT,Array.toList_reverse]
 exact Hi.end h.swap
theorem Bt.lone (h:Bt rk T a b out na nb) (le:∀ x∈b.toList.take nb,∀ y∈a.toList.take na,rk x≤rk y):(b.extract 0 nb++a.extract 0 na++out.reverse).toList.Perm T∧Srt rk (b.extract 0 nb++a.extract 0 na++out.reverse).toList:=by
 rw[Y4,Y4,zcu,zcu,Array.toList_reverse]
 exact Hi.lone h le
end
section
variable {prog:Program}{w:World}{A:Around}{E:Value→Shared→Prop}{s:Shared}{κ:SortKind}{P:Keyed→Prop}{rk:Keyed→Int}{a₀:Array Keyed}
theorem zlU (C:Cmp prog w A s κ P rk) {st:SortSt}{a b:Array Keyed}{Q:Array Keyed→SortSt→Prop}(hk:kindOf st=κ) (pa:∀ x∈a.toList,P x) (pb:∀ x∈b.toList,P x) (sa:Srt rk a.toList) (sb:Srt rk b.toList) (a1:1≤a.size) (b1:1≤b.size)
  (first:∀ x,b[0]?=some x→∀ y∈a.toList,rk x≤rk y) (last:∀ x,a[a.size-1]?=some x→∀ y∈b.toList,rk y≤rk x)
  (h:∀ r st',Sm st st'→r.toList.Perm (a.toList++b.toList)→Srt rk r.toList→Q r st'):wpS (model prog w) A E s (ziV a b) Q st:=by
 have atA:∀ i,i<a.size→∃ x,a[i]?=some x∧P x:=fun i hi=>⟨_,getElem?_pos a i hi,pa _ (by simp)⟩
 have atB:∀ i,i<b.size→∃ x,b[i]?=some x∧P x:=fun i hi=>⟨_,getElem?_pos b i hi,pb _ (by simp)⟩
 obtain⟨z0,e0,_⟩:=atA (a.size-1) (by lia)
 have lone:∀ {out:Array Keyed}{na:Nat},Bt rk (a.toList++b.toList) a b out na 1→(b.extract 0 1++a.extract 0 na++out.reverse).toList.Perm (a.toList++b.toList)∧Srt rk (b.extract 0 1++a.extract 0 na++out.reverse).toList:=fun {out na} L=>L.lone fun x hx y hy=>by
  obtain⟨j,j1,ej⟩:=zaL hx
  exact first x (by rw[show 0=j by lia];exact ej) y (Yu hy)
 have L0:Bt rk (a.toList++b.toList) a b #[z0] (a.size-1) b.size:=by
  have w0:Bt rk (a.toList++b.toList) a b #[] a.size b.size:=by
   have e1:a.toList.take a.size=a.toList:=JE (by rw[Jx];exact Jg _)
   have e2:b.toList.take b.size=b.toList:=JE (by rw[Jx];exact Jg _)
   unfold Bt
   rw[e1,e2]
   exact⟨sa,sb,List.Pairwise.nil,fun x hx y hy=>by simp at hy,fun x hx y hy=>by simp at hy,by simp⟩
  exact w0.pushA a1 e0 fun x hx=>last z0 e0 x (Yu hx)
 have size:∀ {out:Array Keyed}{na nb:Nat},Bt rk (a.toList++b.toList) a b out na nb→out.size≤a.size+b.size:=fun {out na nb} L=>by
  have:=L.pm.length_eq
  simp only[Ja,List.length_reverse,Jx]at this
  lia
 refine wpS_bind (zbR ?_)
 refine wpS_bind (zaf e0 ?_)
 dsimp only
 by_cases z1:a.size-1=0
 ·rw[Jf (by simpa using z1)]
  rw[z1]at L0 ⊢
  obtain⟨q1,q2⟩:=L0.endA
  exact wpS_pure (h _ _ (Sm.refl _) q1 q2)
 rw[Jc (by simpa using z1)]
 by_cases z2:b.size=1
 ·rw[Jf (by simpa using z2)]
  rw[z2]at L0 ⊢
  obtain⟨q1,q2⟩:=lone L0
  exact wpS_pure (h _ _ (Sm.refl _) q1 q2)
 rw[Jc (by simpa using z2)]
 refine wpS_bind (wpS_get ?_)
 refine wpS_bind (wpS_mono (wpS_forRange (I:=fun i c st1=>Sm st st1∧∃ na nb out g,c=(none,na,nb,out,g)∧Bt rk (a.toList++b.toList) a b out na nb∧1≤na∧na≤a.size∧2≤nb∧nb≤b.size∧i+1≤out.size)
  (Q:=fun c st1=>Sm st st1∧∃ r x,c=(some r,x)∧r.toList.Perm (a.toList++b.toList)∧Srt rk r.toList) ?step ?fin ⟨Sm.refl _,_,_,_,_,rfl,L0,by lia,by lia,by lia,by lia,by simp⟩) ?post)
 case post =>
  rintro c st1 ⟨S1,r,x,rfl,q1,q2⟩
  exact wpS_pure (h _ _ S1 q1 q2)
 case fin =>
  rintro c st1 ⟨S1,na,nb,out,g,rfl,L,_,_,_,_,sz⟩
  have:=size L
  lia
 case step =>
  rintro i c st1 _ hi ⟨S1,na,nb,out,g,rfl,L,la,la',lb,lb',sz⟩
  dsimp only
  refine wpS_bind (wpS_mono (wpS_forRange (I:=fun j c st2=>st2=st1∧∃ na nb out ca cb,c=(none,na,nb,out,ca,cb)∧Bt rk (a.toList++b.toList) a b out na nb∧1≤na∧na≤a.size∧2≤nb∧nb≤b.size∧i+1+j≤out.size)
   (Q:=fun c st2=>st2=st1∧((∃ r x,c=(some r,x)∧r.toList.Perm (a.toList++b.toList)∧Srt rk r.toList)∨∃ na nb out ca cb,c=(none,na,nb,out,ca,cb)∧Bt rk (a.toList++b.toList) a b out na nb∧1≤na∧na≤a.size∧2≤nb∧nb≤b.size∧i+2≤out.size)) ?_ ?_ ⟨rfl,_,_,_,_,_,rfl,L,la,la',lb,lb',by lia⟩) ?_)
  ·rintro j c st2 _ hj ⟨rfl,na,nb,out,ca,cb,rfl,L,la,la',lb,lb',sz⟩
   dsimp only
   obtain⟨x,ex,px⟩:=atA (na-1) (by lia)
   obtain⟨y,ey,py⟩:=atB (nb-1) (by lia)
   refine wpS_bind (zaf ey (wpS_bind (zaf ex (wpS_bind (zhm C (S1.kind.trans hk) py px ?_)))))
   by_cases z:rk y<rk x
   ·rw[Jz z]
    dsimp only
    rw[Jf rfl]
    have L':=L.pushA la ex fun u hu=>YU (zaR sb (by lia) ey u hu) (Int.le_of_lt z)
    refine wpS_bind (zaf ex ?_)
    by_cases zb:na-1=0
    ·rw[Jf (by simpa using zb)]
     rw[zb]at L' ⊢
     obtain⟨q1,q2⟩:=L'.endA
     exact wpS_pure ⟨rfl,.inl ⟨_,_,rfl,q1,q2⟩⟩
    ·rw[Jc (by simpa using zb)]
     by_cases zg:ca+1≥g
     ·rw[Jf zg]
      exact wpS_pure ⟨rfl,.inr ⟨_,_,_,_,_,rfl,L',by lia,by lia,lb,lb',by rw[Jv];lia⟩⟩
     ·rw[Jc zg]
      exact wpS_pure ⟨rfl,_,_,_,_,_,rfl,L',by lia,by lia,lb,lb',by rw[Jv];lia⟩
   ·rw[Jq z]
    dsimp only
    rw[Jc Jh]
    have L':=L.pushB (by lia) ey fun u hu=>YU (zaR sa la ex u hu) (by lia)
    refine wpS_bind (zaf ey ?_)
    by_cases zb:nb-1=1
    ·rw[Jf (by simpa using zb)]
     rw[zb]at L' ⊢
     obtain⟨q1,q2⟩:=lone L'
     exact wpS_pure ⟨rfl,.inl ⟨_,_,rfl,q1,q2⟩⟩
    ·rw[Jc (by simpa using zb)]
     by_cases zg:cb+1≥g
     ·rw[Jf zg]
      exact wpS_pure ⟨rfl,.inr ⟨_,_,_,_,_,rfl,L',la,la',by lia,by lia,by rw[Jv];lia⟩⟩
     ·rw[Jc zg]
      exact wpS_pure ⟨rfl,_,_,_,_,_,rfl,L',la,la',by lia,by lia,by rw[Jv];lia⟩
  ·rintro c st2 ⟨rfl,na,nb,out,ca,cb,rfl,L,la,la',lb,lb',sz⟩
   have:=size L
   lia
  ·rintro c st2 ⟨rfl,⟨r,x,rfl,q1,q2⟩|⟨na,nb,out,ca,cb,rfl,L,la,la',lb,lb',sz⟩⟩
   ·exact wpS_pure ⟨S1,r,_,rfl,q1,q2⟩
   dsimp only
   refine wpS_bind (zbR ?_)
   refine wpS_bind (wpS_mono (wpS_forRange (I:=fun j c st3=>Sm st st3∧∃ na nb out g ca cb,c=(none,na,nb,out,g,ca,cb)∧Bt rk (a.toList++b.toList) a b out na nb∧1≤na∧na≤a.size∧2≤nb∧nb≤b.size∧i+2≤out.size)
    (Q:=fun c st3=>Sm st st3∧((∃ r x,c=(some r,x)∧r.toList.Perm (a.toList++b.toList)∧Srt rk r.toList)∨∃ na nb out g ca cb,c=(none,na,nb,out,g,ca,cb)∧Bt rk (a.toList++b.toList) a b out na nb∧1≤na∧na≤a.size∧2≤nb∧nb≤b.size∧i+2≤out.size)) ?_ ?_ ⟨S1,_,_,_,_,_,_,rfl,L,la,la',lb,lb',sz⟩) ?_)
   ·rintro j c st3 _ hj ⟨S3,na,nb,out,g,ca,cb,rfl,L,la,la',lb,lb',sz⟩
    dsimp only
    obtain⟨y,ey,py⟩:=atB (nb-1) (by lia)
    by_cases zg:g > 1
    ·rw[Jf zg]
     refine wpS_bind (zcM fun st4 S4=>?_)
     have S4:=S3.trans S4
     refine wpS_bind (zaf ey (wpS_bind (zaP C (S4.kind.trans hk) py (fun t ht=>atA (0+t) (by lia)) (zbu sa (by lia)) (by lia) fun k hk1 g1 g2=>?_)))
     dsimp only
     have L1:=L.cutA (i:=k) hk1 fun t u tk tn eu v hv=>by
      have:=g2 t tk tn
      rw[Yd,R_at eu]at this
      unfold bd at this
      simp only[Y1,if_false,Zp,JW]at this
      have:=zaR sb (by lia) ey v hv
      lia
     have hle:∀ u∈a.toList.take k,rk u≤rk y:=fun u hu=>by
      obtain⟨t,tk,et⟩:=zaL hu
      have:=g1 t tk
      rw[Yd,R_at et]at this
      unfold bd at this
      simp only[Y1,if_false,Za,JQ]at this
      lia
     have sz1:i+2≤(out++(a.extract k na).reverse).size:=by rw[Jr];lia
     by_cases zk:na-k > 0
     ·rw[Jf zk]
      by_cases zc:k=0
      ·rw[Jf (by simpa using zc)]
       subst zc
       obtain⟨q1,q2⟩:=L1.endA
       exact wpS_pure ⟨S4,.inl ⟨_,_,rfl,q1,q2⟩⟩
      rw[Jc (by simpa using zc)]
      have ka:1≤k:=by lia
      generalize na-k=kk
      generalize out++(a.extract k na).reverse=out1 at L1 sz1 ⊢
      refine wpS_bind (zaf ey ?_)
      have L2:=L1.pushB (by lia) ey hle
      by_cases zb:nb-1=1
      ·rw[Jf (by simpa using zb)]
       rw[zb]at L2 ⊢
       obtain⟨q1,q2⟩:=lone L2
       exact wpS_pure ⟨S4,.inl ⟨_,_,rfl,q1,q2⟩⟩
      rw[Jc (by simpa using zb)]
      obtain⟨x1,ex1,px1⟩:=atA (k-1) (by lia)
      refine wpS_bind (zaf ex1 (wpS_bind (zaP C (S4.kind.trans hk) px1 (fun t ht=>atB (0+t) (by lia)) (zbu sb (by lia)) (by lia) fun k2 hk2 c1 c2=>?_)))
      dsimp only
      have L3:=L2.cutB (i:=k2) hk2 fun t u tk tn eu v hv=>by
       have:=c2 t tk tn
       rw[Yd,R_at eu]at this
       unfold bd at this
       simp only[if_true,JQ]at this
       have:=zaR sa ka ex1 v hv
       lia
      have hle2:∀ u∈b.toList.take k2,rk u≤rk x1:=fun u hu=>by
       obtain⟨t,tk,et⟩:=zaL hu
       have:=c1 t tk
       rw[Yd,R_at et]at this
       unfold bd at this
       simp only[if_true,JW]at this
       lia
      by_cases zk2:nb-1-k2 > 0
      ·rw[Jf zk2]
       by_cases zd:k2=1
       ·rw[Jf (by simpa using zd)]
        subst zd
        obtain⟨q1,q2⟩:=lone L3
        exact wpS_pure ⟨S4,.inl ⟨_,_,rfl,q1,q2⟩⟩
       rw[Jc (by simpa using zd)]
       by_cases zf:k2=0
       ·rw[Jf (by simpa using zf)]
        subst zf
        obtain⟨q1,q2⟩:=L3.endB
        exact wpS_pure ⟨S4,.inl ⟨_,_,rfl,q1,q2⟩⟩
       rw[Jc (by simpa using zf)]
       refine wpS_bind (zaf ex1 ?_)
       have L4:=L3.pushA ka ex1 hle2
       by_cases ze:k-1=0
       ·rw[Jf (by simpa using ze)]
        rw[ze]at L4 ⊢
        obtain⟨q1,q2⟩:=L4.endA
        exact wpS_pure ⟨S4,.inl ⟨_,_,rfl,q1,q2⟩⟩
       rw[Jc (by simpa using ze)]
       split
       ·exact wpS_pure ⟨S4,.inr ⟨_,_,_,_,_,_,rfl,L4,by lia,by lia,by lia,by lia,by simp only[Jv,Jr];lia⟩⟩
       ·exact wpS_pure ⟨S4,_,_,_,_,_,_,rfl,L4,by lia,by lia,by lia,by lia,by simp only[Jv,Jr];lia⟩
      ·rw[Jc zk2]
       obtain rfl:k2=nb-1:=by lia
       refine wpS_bind (zaf ex1 ?_)
       have L4:=L2.pushA ka ex1 hle2
       by_cases ze:k-1=0
       ·rw[Jf (by simpa using ze)]
        rw[ze]at L4 ⊢
        obtain⟨q1,q2⟩:=L4.endA
        exact wpS_pure ⟨S4,.inl ⟨_,_,rfl,q1,q2⟩⟩
       rw[Jc (by simpa using ze)]
       split
       ·exact wpS_pure ⟨S4,.inr ⟨_,_,_,_,_,_,rfl,L4,by lia,by lia,by lia,by lia,by simp only[Jv,Jr];lia⟩⟩
       ·exact wpS_pure ⟨S4,_,_,_,_,_,_,rfl,L4,by lia,by lia,by lia,by lia,by simp only[Jv,Jr];lia⟩
     ·rw[Jc zk]
      obtain rfl:k=na:=by lia
      have L1:=L
      have ka:=la
      have sz1:=sz
      generalize k-k=kk
      refine wpS_bind (zaf ey ?_)
      have L2:=L1.pushB (by lia) ey hle
      by_cases zb:nb-1=1
      ·rw[Jf (by simpa using zb)]
       rw[zb]at L2 ⊢
       obtain⟨q1,q2⟩:=lone L2
       exact wpS_pure ⟨S4,.inl ⟨_,_,rfl,q1,q2⟩⟩
      rw[Jc (by simpa using zb)]
      obtain⟨x1,ex1,px1⟩:=atA (k-1) (by lia)
      refine wpS_bind (zaf ex1 (wpS_bind (zaP C (S4.kind.trans hk) px1 (fun t ht=>atB (0+t) (by lia)) (zbu sb (by lia)) (by lia) fun k2 hk2 c1 c2=>?_)))
      dsimp only
      have L3:=L2.cutB (i:=k2) hk2 fun t u tk tn eu v hv=>by
       have:=c2 t tk tn
       rw[Yd,R_at eu]at this
       unfold bd at this
       simp only[if_true,JQ]at this
       have:=zaR sa ka ex1 v hv
       lia
      have hle2:∀ u∈b.toList.take k2,rk u≤rk x1:=fun u hu=>by
       obtain⟨t,tk,et⟩:=zaL hu
       have:=c1 t tk
       rw[Yd,R_at et]at this
       unfold bd at this
       simp only[if_true,JW]at this
       lia
      by_cases zk2:nb-1-k2 > 0
      ·rw[Jf zk2]
       by_cases zd:k2=1
       ·rw[Jf (by simpa using zd)]
        subst zd
        obtain⟨q1,q2⟩:=lone L3
        exact wpS_pure ⟨S4,.inl ⟨_,_,rfl,q1,q2⟩⟩
       rw[Jc (by simpa using zd)]
       by_cases zf:k2=0
       ·rw[Jf (by simpa using zf)]
        subst zf
        obtain⟨q1,q2⟩:=L3.endB
        exact wpS_pure ⟨S4,.inl ⟨_,_,rfl,q1,q2⟩⟩
       rw[Jc (by simpa using zf)]
       refine wpS_bind (zaf ex1 ?_)
       have L4:=L3.pushA ka ex1 hle2
       by_cases ze:k-1=0
       ·rw[Jf (by simpa using ze)]
        rw[ze]at L4 ⊢
        obtain⟨q1,q2⟩:=L4.endA
        exact wpS_pure ⟨S4,.inl ⟨_,_,rfl,q1,q2⟩⟩
       rw[Jc (by simpa using ze)]
       split
       ·exact wpS_pure ⟨S4,.inr ⟨_,_,_,_,_,_,rfl,L4,by lia,by lia,by lia,by lia,by simp only[Jv,Jr];lia⟩⟩
       ·exact wpS_pure ⟨S4,_,_,_,_,_,_,rfl,L4,by lia,by lia,by lia,by lia,by simp only[Jv,Jr];lia⟩
      ·rw[Jc zk2]
       obtain rfl:k2=nb-1:=by lia
       refine wpS_bind (zaf ex1 ?_)
       have L4:=L2.pushA ka ex1 hle2
       by_cases ze:k-1=0
       ·rw[Jf (by simpa using ze)]
        rw[ze]at L4 ⊢
        obtain⟨q1,q2⟩:=L4.endA
        exact wpS_pure ⟨S4,.inl ⟨_,_,rfl,q1,q2⟩⟩
       rw[Jc (by simpa using ze)]
       split
       ·exact wpS_pure ⟨S4,.inr ⟨_,_,_,_,_,_,rfl,L4,by lia,by lia,by lia,by lia,by simp only[Jv,Jr];lia⟩⟩
       ·exact wpS_pure ⟨S4,_,_,_,_,_,_,rfl,L4,by lia,by lia,by lia,by lia,by simp only[Jv,Jr];lia⟩
    ·rw[Jc zg]
     refine wpS_bind (zcM fun st4 S4=>?_)
     have S4:=S3.trans S4
     refine wpS_bind (zaf ey (wpS_bind (zaP C (S4.kind.trans hk) py (fun t ht=>atA (0+t) (by lia)) (zbu sa (by lia)) (by lia) fun k hk1 g1 g2=>?_)))
     dsimp only
     have L1:=L.cutA (i:=k) hk1 fun t u tk tn eu v hv=>by
      have:=g2 t tk tn
      rw[Yd,R_at eu]at this
      unfold bd at this
      simp only[Y1,if_false,Zp,JW]at this
      have:=zaR sb (by lia) ey v hv
      lia
     have hle:∀ u∈a.toList.take k,rk u≤rk y:=fun u hu=>by
      obtain⟨t,tk,et⟩:=zaL hu
      have:=g1 t tk
      rw[Yd,R_at et]at this
      unfold bd at this
      simp only[Y1,if_false,Za,JQ]at this
      lia
     have sz1:i+2≤(out++(a.extract k na).reverse).size:=by rw[Jr];lia
     by_cases zk:na-k > 0
     ·rw[Jf zk]
      by_cases zc:k=0
      ·rw[Jf (by simpa using zc)]
       subst zc
       obtain⟨q1,q2⟩:=L1.endA
       exact wpS_pure ⟨S4,.inl ⟨_,_,rfl,q1,q2⟩⟩
      rw[Jc (by simpa using zc)]
      have ka:1≤k:=by lia
      generalize na-k=kk
      generalize out++(a.extract k na).reverse=out1 at L1 sz1 ⊢
      refine wpS_bind (zaf ey ?_)
      have L2:=L1.pushB (by lia) ey hle
      by_cases zb:nb-1=1
      ·rw[Jf (by simpa using zb)]
       rw[zb]at L2 ⊢
       obtain⟨q1,q2⟩:=lone L2
       exact wpS_pure ⟨S4,.inl ⟨_,_,rfl,q1,q2⟩⟩
      rw[Jc (by simpa using zb)]
      obtain⟨x1,ex1,px1⟩:=atA (k-1) (by lia)
      refine wpS_bind (zaf ex1 (wpS_bind (zaP C (S4.kind.trans hk) px1 (fun t ht=>atB (0+t) (by lia)) (zbu sb (by lia)) (by lia) fun k2 hk2 c1 c2=>?_)))
      dsimp only
      have L3:=L2.cutB (i:=k2) hk2 fun t u tk tn eu v hv=>by
       have:=c2 t tk tn
       rw[Yd,R_at eu]at this
       unfold bd at this
       simp only[if_true,JQ]at this
       have:=zaR sa ka ex1 v hv
       lia
      have hle2:∀ u∈b.toList.take k2,rk u≤rk x1:=fun u hu=>by
       obtain⟨t,tk,et⟩:=zaL hu
       have:=c1 t tk
       rw[Yd,R_at et]at this
       unfold bd at this
       simp only[if_true,JW]at this
       lia
      by_cases zk2:nb-1-k2 > 0
      ·rw[Jf zk2]
       by_cases zd:k2=1
       ·rw[Jf (by simpa using zd)]
        subst zd
        obtain⟨q1,q2⟩:=lone L3
        exact wpS_pure ⟨S4,.inl ⟨_,_,rfl,q1,q2⟩⟩
       rw[Jc (by simpa using zd)]
       by_cases zf:k2=0
       ·rw[Jf (by simpa using zf)]
        subst zf
        obtain⟨q1,q2⟩:=L3.endB
        exact wpS_pure ⟨S4,.inl ⟨_,_,rfl,q1,q2⟩⟩
       rw[Jc (by simpa using zf)]
       refine wpS_bind (zaf ex1 ?_)
       have L4:=L3.pushA ka ex1 hle2
       by_cases ze:k-1=0
       ·rw[Jf (by simpa using ze)]
        rw[ze]at L4 ⊢
        obtain⟨q1,q2⟩:=L4.endA
        exact wpS_pure ⟨S4,.inl ⟨_,_,rfl,q1,q2⟩⟩
       rw[Jc (by simpa using ze)]
       split
       ·exact wpS_pure ⟨S4,.inr ⟨_,_,_,_,_,_,rfl,L4,by lia,by lia,by lia,by lia,by simp only[Jv,Jr];lia⟩⟩
       ·exact wpS_pure ⟨S4,_,_,_,_,_,_,rfl,L4,by lia,by lia,by lia,by lia,by simp only[Jv,Jr];lia⟩
      ·rw[Jc zk2]
       obtain rfl:k2=nb-1:=by lia
       refine wpS_bind (zaf ex1 ?_)
       have L4:=L2.pushA ka ex1 hle2
       by_cases ze:k-1=0
       ·rw[Jf (by simpa using ze)]
        rw[ze]at L4 ⊢
        obtain⟨q1,q2⟩:=L4.endA
        exact wpS_pure ⟨S4,.inl ⟨_,_,rfl,q1,q2⟩⟩
       rw[Jc (by simpa using ze)]
       split
       ·exact wpS_pure ⟨S4,.inr ⟨_,_,_,_,_,_,rfl,L4,by lia,by lia,by lia,by lia,by simp only[Jv,Jr];lia⟩⟩
       ·exact wpS_pure ⟨S4,_,_,_,_,_,_,rfl,L4,by lia,by lia,by lia,by lia,by simp only[Jv,Jr];lia⟩
     ·rw[Jc zk]
      obtain rfl:k=na:=by lia
      have L1:=L
      have ka:=la
      have sz1:=sz
      generalize k-k=kk
      refine wpS_bind (zaf ey ?_)
      have L2:=L1.pushB (by lia) ey hle
      by_cases zb:nb-1=1
      ·rw[Jf (by simpa using zb)]
       rw[zb]at L2 ⊢
       obtain⟨q1,q2⟩:=lone L2
       exact wpS_pure ⟨S4,.inl ⟨_,_,rfl,q1,q2⟩⟩
      rw[Jc (by simpa using zb)]
      obtain⟨x1,ex1,px1⟩:=atA (k-1) (by lia)
      refine wpS_bind (zaf ex1 (wpS_bind (zaP C (S4.kind.trans hk) px1 (fun t ht=>atB (0+t) (by lia)) (zbu sb (by lia)) (by lia) fun k2 hk2 c1 c2=>?_)))
      dsimp only
      have L3:=L2.cutB (i:=k2) hk2 fun t u tk tn eu v hv=>by
       have:=c2 t tk tn
       rw[Yd,R_at eu]at this
       unfold bd at this
       simp only[if_true,JQ]at this
       have:=zaR sa ka ex1 v hv
       lia
      have hle2:∀ u∈b.toList.take k2,rk u≤rk x1:=fun u hu=>by
       obtain⟨t,tk,et⟩:=zaL hu
       have:=c1 t tk
       rw[Yd,R_at et]at this
       unfold bd at this
       simp only[if_true,JW]at this
       lia
      by_cases zk2:nb-1-k2 > 0
      ·rw[Jf zk2]
       by_cases zd:k2=1
       ·rw[Jf (by simpa using zd)]
        subst zd
        obtain⟨q1,q2⟩:=lone L3
        exact wpS_pure ⟨S4,.inl ⟨_,_,rfl,q1,q2⟩⟩
       rw[Jc (by simpa using zd)]
       by_cases zf:k2=0
       ·rw[Jf (by simpa using zf)]
        subst zf
        obtain⟨q1,q2⟩:=L3.endB
        exact wpS_pure ⟨S4,.inl ⟨_,_,rfl,q1,q2⟩⟩
       rw[Jc (by simpa using zf)]
       refine wpS_bind (zaf ex1 ?_)
       have L4:=L3.pushA ka ex1 hle2
       by_cases ze:k-1=0
       ·rw[Jf (by simpa using ze)]
        rw[ze]at L4 ⊢
        obtain⟨q1,q2⟩:=L4.endA
        exact wpS_pure ⟨S4,.inl ⟨_,_,rfl,q1,q2⟩⟩
       rw[Jc (by simpa using ze)]
       split
       ·exact wpS_pure ⟨S4,.inr ⟨_,_,_,_,_,_,rfl,L4,by lia,by lia,by lia,by lia,by simp only[Jv,Jr];lia⟩⟩
       ·exact wpS_pure ⟨S4,_,_,_,_,_,_,rfl,L4,by lia,by lia,by lia,by lia,by simp only[Jv,Jr];lia⟩
      ·rw[Jc zk2]
       obtain rfl:k2=nb-1:=by lia
       refine wpS_bind (zaf ex1 ?_)
       have L4:=L2.pushA ka ex1 hle2
       by_cases ze:k-1=0
       ·rw[Jf (by simpa using ze)]
        rw[ze]at L4 ⊢
        obtain⟨q1,q2⟩:=L4.endA
        exact wpS_pure ⟨S4,.inl ⟨_,_,rfl,q1,q2⟩⟩
       rw[Jc (by simpa using ze)]
       split
       ·exact wpS_pure ⟨S4,.inr ⟨_,_,_,_,_,_,rfl,L4,by lia,by lia,by lia,by lia,by simp only[Jv,Jr];lia⟩⟩
       ·exact wpS_pure ⟨S4,_,_,_,_,_,_,rfl,L4,by lia,by lia,by lia,by lia,by simp only[Jv,Jr];lia⟩
   ·rintro c st3 ⟨S3,na,nb,out,g,ca,cb,rfl,L,la,la',lb,lb',sz⟩
    exact⟨S3,.inr ⟨_,_,_,_,_,_,rfl,L,la,la',lb,lb',sz⟩⟩
   ·rintro c st3 ⟨S3,⟨r,x,rfl,q1,q2⟩|⟨na,nb,out,g,ca,cb,rfl,L,la,la',lb,lb',sz⟩⟩
    ·exact wpS_pure ⟨S3,r,_,rfl,q1,q2⟩
    dsimp only
    refine wpS_bind (zcM fun st4 S4=>?_)
    exact wpS_pure ⟨S3.trans S4,_,_,_,_,rfl,L,la,la',lb,lb',by lia⟩
end
section
variable {rk:Keyed→Int}
theorem zcC (b:Nat):∀ (l:List Keyed) (o:Nat) (arr:Array Keyed),b+o+l.length≤arr.size→(List.foldl (fun (a:Array Keyed) (x:Keyed × Nat)=>a.setIfInBounds (b+x.2) x.1) arr (l.zipIdx o)).toList=arr.toList.take (b+o)++l++arr.toList.drop (b+o+l.length)
 | [],o,arr,_=>by
  show arr.toList=_
  rw[JT,Z1,YA,Zc]
 | x::l,o,arr,h=>by
  rw[JN]at h
  rw[List.zipIdx_cons,List.foldl_cons,zcC b l (o+1) _ (by rw[Array.size_setIfInBounds];lia)]
  have hl:b+o<arr.toList.length:=by rw[Jx];lia
  rw[Array.toList_setIfInBounds,← YF,List.drop_set_of_lt (by lia),JN,show b+o+1+l.length=b+o+(l.length+1) by lia]
  have e:(arr.toList.set (b+o) x).take (b+o+1)=arr.toList.take (b+o)++[x]:=by
   rw[Z8 (by rw[YZ];exact hl),List.getElem_set_self,List.take_set_of_le (Jg _)]
  rw[e,JM (arr.toList.take (b+o)) [x] l]
  rfl
theorem zhR {arr:Array Keyed}{i n j:Nat}(h:i+j<n) (hn:n≤arr.size):(arr.extract i n)[j]?=arr[i+j]?:=by
 rw[Array.getElem?_extract_of_lt (by lia)]
 exact(getElem?_pos arr (i+j) (by lia)).symm
theorem zgx {arr:Array Keyed}{lo n:Nat}(h:Up rk arr lo n) (hn:lo+n≤arr.size):Srt rk (arr.extract lo (lo+n)).toList:=by
 refine List.pairwise_iff_getElem.mpr fun i j hi hj ij=>?_
 have hs:(arr.extract lo (lo+n)).size=n:=by rw[Array.size_extract];lia
 rw[Jx,hs]at hi hj
 have:=h (lo+i) (lo+j) (by lia) (by lia) (by lia)
 rw[R_at (getElem?_pos arr (lo+i) (by lia)),R_at (getElem?_pos arr (lo+j) (by lia))]at this
 simpa using this
end
section
variable {prog:Program}{w:World}{A:Around}{E:Value→Shared→Prop}{s:Shared}{κ:SortKind}{P:Keyed→Prop}{rk:Keyed→Int}{a₀:Array Keyed}
theorem zlV (C:Cmp prog w A s κ P rk) {st:SortSt}{Q:Bool→SortSt→Prop}{i sa na p sb nb q:Nat}(hB:Bs κ P a₀ st) (e1:(pendingOf st)[i]?=some (sa,na,p)) (e2:(pendingOf st)[i+1]?=some (sb,nb,q)) (hs:sb=sa+na) (n1:1≤na) (n2:1≤nb) (hz:sb+nb≤a₀.size)
  (ua:Up rk (arrOf st) sa na) (ub:Up rk (arrOf st) sb nb)
  (h:∀ st',Bs κ P a₀ st'→pendingOf st'=((pendingOf st).setIfInBounds i (sa,na+nb,p)).eraseIdxIfInBounds (i+1)→(∀ k,k<sa∨sb+nb≤k→R rk (arrOf st') k=R rk (arrOf st) k)→Up rk (arrOf st') sa (na+nb)→Q true st'):wpS (model prog w) A E s (mergeAt' i) Q st:=by
 refine wpS_bind (wpS_get ?_)
 dsimp only
 rw[e1,e2]
 dsimp only
 obtain⟨b0,eb0,pb0,rb0⟩:=hB.at (i:=sb) (by lia) rk
 have sz:=hB.size
 have setS:∀ {st1 st2:SortSt}{Q':PUnit→SortSt→Prop},Q' ⟨⟩ st2→wpS (model prog w) A E s (set st2:StateT SortSt Sem PUnit) Q' st1:=fun {st1 st2 Q'} hq=>by
  unfold wpS;rw[StateT.run_set];exact J9 ⟨rfl,hq⟩
 refine wpS_bind (setS (st2:=SortSt.mk' (kindOf st) (arrOf st) (((pendingOf st).setIfInBounds i (sa,na+nb,p)).eraseIdxIfInBounds (i+1)) (gallopOf st) (failedOf st)) ?_)
 generalize hS1:SortSt.mk' (kindOf st) (arrOf st) (((pendingOf st).setIfInBounds i (sa,na+nb,p)).eraseIdxIfInBounds (i+1)) (gallopOf st) (failedOf st)=st1
 have hB1:Bs κ P a₀ st1:=by rw[← hS1];exact⟨hB.kind,hB.fail,hB.perm,hB.all⟩
 have ea:arrOf st1=arrOf st:=by rw[← hS1]
 have ep:pendingOf st1=((pendingOf st).setIfInBounds i (sa,na+nb,p)).eraseIdxIfInBounds (i+1):=by rw[← hS1]
 have pat:∀ j,j<a₀.size→∃ x,(arrOf st)[j]?=some x∧P x:=fun j hj=>by
  obtain⟨x,ex,px,_⟩:=hB.at hj rk
  exact⟨x,ex,px⟩
 refine wpS_bind (zaf eb0 (wpS_bind (zaP (arr:=arrOf st) C hB1.kind pb0 (fun t ht=>pat (sa+t) (by lia)) ua (by lia) fun k hk1 g1 g2=>?_)))
 dsimp only
 have f1:∀ j,sa≤j→j<sa+k→R rk (arrOf st) j≤rk b0:=fun j j1 j2=>by
  have:=g1 (j-sa) (by lia)
  rw[show sa+(j-sa)=j by lia]at this
  unfold bd at this
  simp only[Y1,if_false,Za,JQ]at this
  lia
 have f2:∀ j,sa+k≤j→j<sb→rk b0≤R rk (arrOf st) j:=fun j j1 j2=>by
  have:=g2 (j-sa) (by lia) (by lia)
  rw[show sa+(j-sa)=j by lia]at this
  unfold bd at this
  simp only[Y1,if_false,Zp,JW]at this
  lia
 have f0:∀ j,sb≤j→j<sb+nb→rk b0≤R rk (arrOf st) j:=fun j j1 j2=>by rw[← rb0];exact ub _ _ (Jg _) j1 j2
 by_cases zk:na-k=0
 ·rw[Jf (by simpa using zk)]
  refine wpS_pure (h st1 hB1 ep (fun j _=>by rw[ea]) fun x y hx hxy hy=>?_)
  rw[ea]
  by_cases q1:y<sb
  ·exact ua _ _ hx hxy (by lia)
  ·by_cases q2:sb≤x
   ·exact ub _ _ q2 hxy (by lia)
   ·exact YU (f1 x hx (by lia)) (f0 y (by lia) (by lia))
 rw[Jc (by simpa using zk)]
 have ka:sa+k+(na-k)-1=sb-1:=by lia
 rw[ka]
 obtain⟨l0,el0,pl0,rl0⟩:=hB.at (i:=sb-1) (by lia) rk
 refine wpS_bind (zaf el0 (wpS_bind (zaP (arr:=arrOf st) C hB1.kind pl0 (fun t ht=>pat (sb+t) (by lia)) ub (by lia) fun n hn1 c1 c2=>?_)))
 dsimp only
 have f3:∀ j,sb≤j→j<sb+n→R rk (arrOf st) j≤rk l0:=fun j j1 j2=>by
  have:=c1 (j-sb) (by lia)
  rw[show sb+(j-sb)=j by lia]at this
  unfold bd at this
  simp only[if_true,JW]at this
  lia
 have f4:∀ j,sb+n≤j→j<sb+nb→rk l0≤R rk (arrOf st) j:=fun j j1 j2=>by
  have:=c2 (j-sb) (by lia) (by lia)
  rw[show sb+(j-sb)=j by lia]at this
  unfold bd at this
  simp only[if_true,JQ]at this
  lia
 have f5:∀ j,sa≤j→j<sb→R rk (arrOf st) j≤rk l0:=fun j j1 j2=>by rw[← rl0];exact ua _ _ j1 (by lia) (by lia)
 by_cases zn:n=0
 ·rw[Jf (by simpa using zn)]
  refine wpS_pure (h st1 hB1 ep (fun j _=>by rw[ea]) fun x y hx hxy hy=>?_)
  rw[ea]
  by_cases q1:y<sb
  ·exact ua _ _ hx hxy (by lia)
  ·by_cases q2:sb≤x
   ·exact ub _ _ q2 hxy (by lia)
   ·exact YU (f5 x hx (by lia)) (f4 y (by lia) (by lia))
 rw[Jc (by simpa using zn)]
 have sx:((arrOf st).extract (sa+k) sb).size=na-k:=by rw[Array.size_extract];lia
 have sy:((arrOf st).extract sb (sb+n)).size=n:=by rw[Array.size_extract];lia
 have px:∀ x∈((arrOf st).extract (sa+k) sb).toList,P x:=fun x hx=>by
  obtain⟨j,j1,j2,ej⟩:=zcv hx
  obtain⟨y,ey,py⟩:=pat j (by lia)
  rw[ej]at ey;cases ey;exact py
 have py:∀ x∈((arrOf st).extract sb (sb+n)).toList,P x:=fun x hx=>by
  obtain⟨j,j1,j2,ej⟩:=zcv hx
  obtain⟨y,ey,py⟩:=pat j (by lia)
  rw[ej]at ey;cases ey;exact py
 have ox:Srt rk ((arrOf st).extract (sa+k) sb).toList:=by
  have:=zgx (rk:=rk) (arr:=arrOf st) (lo:=sa+k) (n:=na-k) (fun x y hx hxy hy=>ua x y (by lia) hxy (by lia)) (by lia)
  rwa [show sa+k+(na-k)=sb by lia]at this
 have oy:Srt rk ((arrOf st).extract sb (sb+n)).toList:=zgx (fun x y hx hxy hy=>ub x y (by lia) hxy (by lia)) (by lia)
 have first:∀ x,((arrOf st).extract sb (sb+n))[0]?=some x→∀ y∈((arrOf st).extract (sa+k) sb).toList,rk x≤rk y:=fun x ex y hy=>by
  rw[zhR (by lia) (by lia),YA,eb0]at ex
  obtain⟨j,j1,j2,ej⟩:=zcv hy
  have:=f2 j j1 j2
  rw[R_at ej]at this
  cases ex;exact this
 have last:∀ x,((arrOf st).extract (sa+k) sb)[((arrOf st).extract (sa+k) sb).size-1]?=some x→∀ y∈((arrOf st).extract sb (sb+n)).toList,rk y≤rk x:=fun x ex y hy=>by
  rw[sx,zhR (by lia) (by lia),show sa+k+(na-k-1)=sb-1 by lia,el0]at ex
  obtain⟨j,j1,j2,ej⟩:=zcv hy
  have:=f3 j j1 (by lia)
  rw[R_at ej]at this
  cases ex;exact this
 have fin:∀ (m:Array Keyed) (st2:SortSt),Sm st1 st2→m.toList.Perm (((arrOf st).extract (sa+k) sb).toList++((arrOf st).extract sb (sb+n)).toList)→Srt rk m.toList →
   wpS (model prog w) A E s (do
    modify fun s=>setArr s (m.toList.zipIdx.foldl (fun (a:Array Keyed) (x:Keyed × Nat)=>a.setIfInBounds (sa+k+x.2) x.1) (arrOf s))
    let s' ← get
    pure (failedOf s').isNone) Q st2:=by
  intro m st2 S2 pm sm
  have ea2:arrOf st2=arrOf st:=S2.arr.trans ea
  have ml:m.toList.length=na-k+n:=by rw[pm.length_eq,Ja,Jx,Jx,sx,sy]
  have wl:=zcC (sa+k) m.toList 0 (arrOf st2) (by rw[ea2,sz,ml];lia)
  generalize hW:List.foldl (fun (a:Array Keyed) (x:Keyed × Nat)=>a.setIfInBounds (sa+k+x.2) x.1) (arrOf st2) m.toList.zipIdx=W at wl
  rw[YA,ml,ea2,show sa+k+(na-k+n)=sb+n by lia]at wl
  have cutL:(arrOf st).toList=(arrOf st).toList.take (sa+k)++(((arrOf st).extract (sa+k) sb).toList++((arrOf st).extract sb (sb+n)).toList)++(arrOf st).toList.drop (sb+n):=by
   have d1:=zdk (arrOf st) (sa+k) (na-k)
   rw[show sa+k+(na-k)=sb by lia]at d1
   have d2:=zdk (arrOf st) sb n
   rw[JM,JM,← d2,← d1,Zc]
  have pw:W.Perm (arrOf st):=by
   rw[Array.perm_iff_toList_perm,wl]
   conv=>rhs;rw[cutL]
   exact((pm.append_left _).append_right _)
  have lt0:((arrOf st).toList.take (sa+k)).length=sa+k:=by rw[Jw,Jx,sz];lia
  have wsz:W.size=a₀.size:=by rw[pw.size_eq,sz]
  have out1:∀ j,j<sa+k→R rk W j=R rk (arrOf st) j:=fun j hj=>R_congr (by
   rw[← Y0,← Y0,wl,JM,Ys (by rw[lt0];exact hj),YD hj])
  have out2:∀ j,sb+n≤j→R rk W j=R rk (arrOf st) j:=fun j hj=>R_congr (by
   rw[← Y0,← Y0,wl,Yn (by rw[Ja,lt0,ml];lia),Ja,lt0,ml,List.getElem?_drop]
   congr 1;lia)
  have mid:∀ j,sa+k≤j→j<sb+n→∃ x,m[j-(sa+k)]?=some x∧R rk W j=rk x:=fun j j1 j2=>by
   have jl:j-(sa+k)<m.size:=by rw[← Jx,ml];lia
   refine⟨_,getElem?_pos m _ jl,R_at ?_⟩
   rw[← Y0,wl,JM,Yn (by rw[lt0];exact j1),lt0,Ys (by rw[ml];lia),Y0]
   exact getElem?_pos m _ jl
  have kids:∀ j x,m[j]?=some x→∃ t,((sa+k≤t∧t<sb)∨(sb≤t∧t<sb+n))∧R rk (arrOf st) t=rk x:=fun j x ex=>by
   have hm:x∈m.toList:=by
    obtain⟨hj,e⟩:=JS.mp ex
    rw[← e];simp
   rcases Js.mp (pm.mem_iff.mp hm) with u|u
   ·obtain⟨t,t1,t2,et⟩:=zcv u
    exact⟨t,.inl ⟨t1,t2⟩,R_at et⟩
   ·obtain⟨t,t1,t2,et⟩:=zcv u
    exact⟨t,.inr ⟨t1,t2⟩,R_at et⟩
  refine wpS_bind (wpS_modify (wpS_bind (wpS_get (wpS_pure ?_))))
  rw[hW]
  have ff:(failedOf (setArr st2 W)).isNone=true:=by
   show (failedOf st2).isNone=true
   rw[S2.fail,hB1.fail];rfl
  rw[ff]
  refine h _ ⟨S2.kind.trans hB1.kind,S2.fail.trans hB1.fail,pw.trans hB.perm,hB.all⟩ (S2.pend.trans ep) (fun j hj=>?_) fun x y hx hxy hy=>?_
  ·rcases hj with hj|hj
   ·exact out1 j (by lia)
   ·exact out2 j (by lia)
  ·show R rk W x≤R rk W y
   by_cases x1:x<sa+k
   ·rw[out1 x x1]
    by_cases y1:y<sa+k
    ·rw[out1 y y1];exact ua _ _ hx hxy (by lia)
    ·by_cases y2:y<sb+n
     ·obtain⟨v,ev,rv⟩:=mid y (by lia) y2
      obtain⟨t,ht,rt⟩:=kids _ v ev
      rw[rv,← rt]
      rcases ht with ⟨t1,t2⟩|⟨t1,t2⟩
      ·exact ua _ _ hx (by lia) (by lia)
      ·exact YU (f1 x hx x1) (f0 t t1 (by lia))
     ·rw[out2 y (by lia)]
      exact YU (f1 x hx x1) (f0 y (by lia) (by lia))
   ·by_cases x2:x<sb+n
    ·obtain⟨u,eu,ru⟩:=mid x (by lia) x2
     rw[ru]
     by_cases y2:y<sb+n
     ·obtain⟨v,ev,rv⟩:=mid y (by lia) y2
      rw[rv]
      have:=zbu sm (base:=0) (n:=m.size) (by lia) (x-(sa+k)) (y-(sa+k)) (JH _) (by lia) (by
       have:=(JS.mp ev).1
       lia)
      rwa [R_at eu,R_at ev]at this
     ·rw[out2 y (by lia)]
      obtain⟨t,ht,rt⟩:=kids _ u eu
      rw[← rt]
      rcases ht with ⟨t1,t2⟩|⟨t1,t2⟩
      ·exact YU (f5 t (by lia) t2) (f4 y (by lia) (by lia))
      ·exact ub _ _ t1 (by lia) (by lia)
    ·rw[out2 x (by lia),out2 y (by lia)]
     exact ub _ _ (by lia) hxy (by lia)
 split
 ·exact wpS_bind (zlP C hB1.kind px py ox oy (by rw[sx];lia) (by rw[sy];lia) first last fun m st2 S2 pm sm=>fin m st2 S2 pm sm)
 ·exact wpS_bind (zlU C hB1.kind px py ox oy (by rw[sx];lia) (by rw[sy];lia) first last fun m st2 S2 pm sm=>fin m st2 S2 pm sm)
end
abbrev Run:=Nat × Nat × Nat
def Runs:List Run→Nat→Nat→Prop
 | [],u,v=>u=v
 | x::r,u,v=>x.1=u∧1≤x.2.1∧Runs r (u+x.2.1) v
theorem Runs.cut:∀ {l r:List Run}{u v:Nat},Runs (l++r) u v→∃ m,Runs l u m∧Runs r m v
 | [],_,u,_,h=>⟨u,rfl,h⟩
 | x::l,r,u,v,⟨h1,h2,h3⟩=>by
  obtain⟨m,a,b⟩:=Runs.cut (l:=l) (r:=r) h3
  exact⟨m,⟨h1,h2,a⟩,b⟩
theorem Runs.app:∀ {l r:List Run}{u m v:Nat},Runs l u m→Runs r m v→Runs (l++r) u v
 | [],_,_,_,_,h,g=>by cases h;exact g
 | x::l,r,u,m,v,⟨h1,h2,h3⟩,g=>⟨h1,h2,Runs.app h3 g⟩
theorem Runs.len:∀ {l:List Run}{u v:Nat},Runs l u v→u+l.length≤v
 | [],_,_,h=>by cases h;exact Jg _
 | x::l,u,v,⟨h1,h2,h3⟩=>by
  have:=Runs.len h3
  rw[JN];lia
theorem Runs.mem:∀ {l:List Run}{u v:Nat}{x:Run},Runs l u v→x∈l→u≤x.1∧1≤x.2.1∧x.1+x.2.1≤v
 | y::l,u,v,x,⟨h1,h2,h3⟩,hx=>by
  rcases List.mem_cons.mp hx with rfl|hx2
  ·have:=Runs.len h3;lia
  ·have:=Runs.mem h3 hx2;lia
theorem Runs.modify {f:Run→Run}(hf:∀ x,(f x).1=x.1∧(f x).2.1=x.2.1):∀ {l:List Run}{i u v:Nat},Runs l u v→Runs (l.modify i f) u v
 | [],i,_,_,h=>by cases i<;>exact h
 | x::l,0,u,v,⟨h1,h2,h3⟩=>by
  rw[List.modify_zero_cons]
  refine⟨(hf x).1.trans h1,by rw[(hf x).2];exact h2,by rw[(hf x).2];exact h3⟩
 | x::l,i+1,u,v,⟨h1,h2,h3⟩=>by
  rw[List.modify_succ_cons]
  exact⟨h1,h2,Runs.modify hf h3⟩
theorem zbU {f:Run→Run}(hf:∀ x,(f x).1=x.1∧(f x).2.1=x.2.1):∀ {l:List Run}{i:Nat}{x:Run},x∈l.modify i f→∃ y∈l,x.1=y.1∧x.2.1=y.2.1
 | [],i,x,h=>by cases i<;>simp at h
 | y::l,0,x,h=>by
  rw[List.modify_zero_cons]at h
  rcases List.mem_cons.mp h with rfl|h2
  ·exact⟨y,JD,(hf y).1,(hf y).2⟩
  ·exact⟨x,JC _ h2,rfl,rfl⟩
 | y::l,i+1,x,h=>by
  rw[List.modify_succ_cons]at h
  rcases List.mem_cons.mp h with rfl|h2
  ·exact⟨x,JD,rfl,rfl⟩
  ·obtain⟨z,hz,e⟩:=zbU hf h2
   exact⟨z,JC _ hz,e⟩
section
variable {prog:Program}{w:World}{A:Around}{E:Value→Shared→Prop}{s:Shared}{κ:SortKind}{P:Keyed→Prop}{rk:Keyed→Int}{a₀:Array Keyed}
structure Ji (κ:SortKind) (P:Keyed→Prop) (rk:Keyed→Int) (a₀:Array Keyed) (lo:Nat) (st:SortSt):Prop where
 b:Bs κ P a₀ st
 runs:Runs (pendingOf st).toList 0 lo
 up:∀ x∈(pendingOf st).toList,Up rk (arrOf st) x.1 x.2.1
theorem zko (C:Cmp prog w A s κ P rk) {st:SortSt}{lo i:Nat}{Q:Bool→SortSt→Prop}(J:Ji κ P rk a₀ lo st) (hlo:lo≤a₀.size) (hi:i+1<(pendingOf st).size)
  (h:∀ st',Ji κ P rk a₀ lo st'→(∀ k,lo≤k→R rk (arrOf st') k=R rk (arrOf st) k)→(pendingOf st').size+1=(pendingOf st).size→Q true st'):wpS (model prog w) A E s (mergeAt' i) Q st:=by
 obtain⟨x,ex⟩:∃ x,(pendingOf st)[i]?=some x:=⟨_,getElem?_pos _ i (by lia)⟩
 obtain⟨y,ey⟩:∃ y,(pendingOf st)[i+1]?=some y:=⟨_,getElem?_pos _ (i+1) hi⟩
 have ex':(pendingOf st).toList[i]?=some x:=by rw[Y0];exact ex
 have ey':(pendingOf st).toList[i+1]?=some y:=by rw[Y0];exact ey
 obtain⟨hxl,hx⟩:=Je.mp ex'
 obtain⟨hyl,hy⟩:=Je.mp ey'
 have sp:(pendingOf st).toList=(pendingOf st).toList.take i++x::y::(pendingOf st).toList.drop (i+1+1):=by
  rw[← hx,← hy,← Yt hyl,← Yt hxl,Zc]
 have rr:=J.runs
 have up:=J.up
 generalize hpre:(pendingOf st).toList.take i=pre at sp
 generalize hpost:(pendingOf st).toList.drop (i+1+1)=post at sp
 have pl:pre.length=i:=by rw[← hpre,Jw];lia
 rw[sp]at rr up
 obtain⟨m,r1,r2⟩:=rr.cut
 obtain⟨s1,n1,s2,n2,r3⟩:=r2
 obtain⟨sa,na,p⟩:=x
 obtain⟨sb,nb,q⟩:=y
 simp only at s1 n1 s2 n2 r3
 have hl:=r3.len
 refine zlV C J.b ex ey (by lia) n1 n2 (by lia) (up (sa,na,p) (by simp)) (up (sb,nb,q) (by simp)) fun st' B' ep low u'=>?_
 have el:(pendingOf st').toList=pre++(sa,na+nb,p)::post:=by
  rw[ep,Array.toList_eraseIdxIfInBounds,Array.toList_setIfInBounds,sp,List.set_append_right _ _ (by lia),List.eraseIdx_append_of_length_le (by lia),pl,Nat.sub_self,Nat.add_sub_cancel_left]
  rfl
 refine h st' ⟨B',?_,?_⟩ (fun k hk=>low k (.inr (by lia))) ?_
 ·rw[el]
  refine r1.app ⟨s1,by show 1≤na+nb;lia,?_⟩
  show Runs post (m+(na+nb)) lo
  rw[← YF];exact r3
 ·rw[el]
  intro z hz
  rcases Js.mp hz with hz|hz
  ·have b1:=r1.mem hz
   intro c d hc hcd hd
   rw[low c (.inl (by lia)),low d (.inl (by lia))]
   exact up z (Y6 _ hz) c d hc hcd hd
  ·rcases List.mem_cons.mp hz with rfl|hz
   ·exact u'
   ·have b1:=r3.mem hz
    intro c d hc hcd hd
    rw[low c (.inr (by lia)),low d (.inr (by lia))]
    exact up z (Ju _ (by simp[hz])) c d hc hcd hd
 ·rw[← Jx,← Jx,el,sp]
  simp only[Ja,JN];lia
theorem zj0 (C:Cmp prog w A s κ P rk) {st:SortSt}{Q:Unit→SortSt→Prop}(hB:Bs κ P a₀ st) (hp:pendingOf st = #[])
  (h:∀ st',Bs κ P a₀ st'→Up rk (arrOf st') 0 a₀.size→Q () st'):wpS (model prog w) A E s sortRuns' Q st:=by
 rw[sortRuns'_eq]
 refine wpS_bind (wpS_get ?_)
 dsimp only
 rw[hB.size]
 generalize minRun' a₀.size a₀.size 0=mr
 refine wpS_bind (wpS_mono (wpS_forRange (I:=fun i c st1=>∃ lo,c=(none,lo)∧i≤lo∧lo≤a₀.size∧Ji κ P rk a₀ lo st1)
  (Q:=fun c st1=>∃ lo,c=(none,lo)∧lo=a₀.size∧Ji κ P rk a₀ lo st1) ?step ?fin ?init) ?post)
 case init=>exact⟨0,rfl,Jg _,JH _,hB,by rw[hp];rfl,fun x hx=>by rw[hp]at hx;simp at hx⟩
 case fin =>
  rintro c st1 ⟨lo,rfl,h1,h2,J⟩
  exact⟨lo,rfl,by lia,J⟩
 case step =>
  rintro i c st1 _ hi ⟨lo,rfl,h1,h2,J⟩
  dsimp only
  by_cases z:lo≥a₀.size
  ·rw[Jf z]
   exact wpS_pure ⟨lo,rfl,by lia,J⟩
  rw[Jc z]
  refine wpS_bind (zje C J.b (by lia) (by lia) fun st2 n K2 n1 n2 u2=>?_)
  dsimp only
  have Jk:∀ st3,Keep κ P rk a₀ lo st1 st3→Ji κ P rk a₀ lo st3:=fun st3 K3=>⟨K3.b,by rw[K3.pend];exact J.runs,fun x hx=>by
   rw[K3.pend]at hx
   have:=J.runs.mem hx
   intro c d hc hcd hd
   rw[K3.low c (by lia),K3.low d (by lia)]
   exact J.up x hx c d hc hcd hd⟩
  by_cases zm:n<mr
  ·rw[Jf zm]
   refine wpS_bind (zbR ?_)
   refine wpS_bind (zlr C K2.b n1 (by lia) (by lia) u2 fun st3 K3 u3=>?_)
   have n1:1≤min (a₀.size-lo) mr:=by lia
   have n2:min (a₀.size-lo) mr≤a₀.size-lo:=by lia
   have J3:=Jk st3 (K2.trans K3)
   generalize min (a₀.size-lo) mr=n at n1 n2 u3 ⊢
   rw[Jc (show ¬(!true)=true by decide)]
   refine wpS_bind (wpS_get ?_)
   have last:∀ st4,Ji κ P rk a₀ lo st4→Up rk (arrOf st4) lo n→wpS (model prog w) A E s (do
     modify fun st5=>setPending st5 ((pendingOf st5).push (lo,n,0))
     pure (ForInStep.yield ((none:Option Unit),lo+n))) (fun r st'=>match r with|.done c'=>∃ lo,c'=(none,lo)∧lo=a₀.size∧Ji κ P rk a₀ lo st'|.yield c'=>∃ lo,c'=(none,lo)∧i+1≤lo∧lo≤a₀.size∧Ji κ P rk a₀ lo st') st4:=by
    intro st4 J4 u4
    refine wpS_bind (wpS_modify (wpS_pure ⟨lo+n,rfl,by lia,by lia,⟨J4.b.kind,J4.b.fail,J4.b.perm,J4.b.all⟩,?_,?_⟩))
    ·show Runs ((pendingOf st4).push (lo,n,0)).toList 0 (lo+n)
     rw[YK]
     exact J4.runs.app ⟨rfl,n1,rfl⟩
    ·show ∀ x∈((pendingOf st4).push (lo,n,0)).toList,Up rk (arrOf st4) x.1 x.2.1
     rw[YK]
     intro x hx
     rcases Js.mp hx with hx1|hx1
     ·exact J4.up x hx1
     ·rw[Jd.mp hx1];exact u4
   split
   ·rename_i s1 m1 w1 hb
    refine wpS_bind (wpS_mono (wpS_forRange (I:=fun j c st4=>c=(none,())∧Ji κ P rk a₀ lo st4∧Up rk (arrOf st4) lo n) (Q:=fun c st4=>c=(none,())∧Ji κ P rk a₀ lo st4∧Up rk (arrOf st4) lo n) ?_ (fun c st4 hh=>hh) ⟨rfl,J3,u3⟩) ?_)
    ·rintro j c st4 _ hj ⟨rfl,J4,u4⟩
     refine wpS_bind (wpS_get ?_)
     split
     ·rename_i a1 a2 older ho
      split
      ·exact wpS_pure ⟨rfl,J4,u4⟩
      ·have sz:(pendingOf st4).size > 1:=by
        by_cases q:(pendingOf st4).size > 1
        ·exact q
        ·rw[Jc q]at ho;cases ho
       refine wpS_bind (zko C J4 h2 (by lia) fun st5 J5 low5 _=>?_)
       rw[Jc (show ¬(!true)=true by decide)]
       exact wpS_pure ⟨rfl,J5,fun c d hc hcd hd=>by rw[low5 c hc,low5 d (by lia)];exact u4 c d hc hcd hd⟩
     ·exact wpS_pure ⟨rfl,J4,u4⟩
    ·rintro c st4 ⟨rfl,J4,u4⟩
     dsimp only
     refine wpS_bind (wpS_modify ?_)
     refine last _ ⟨⟨J4.b.kind,J4.b.fail,J4.b.perm,J4.b.all⟩,?_,?_⟩ u4
     ·show Runs ((pendingOf st4).modify _ _).toList 0 lo
      rw[Zm]
      refine Runs.modify ?_ J4.runs
      exact fun x=>⟨rfl,rfl⟩
     ·show ∀ x∈((pendingOf st4).modify _ _).toList,Up rk (arrOf st4) x.1 x.2.1
      rw[Zm]
      intro x hx
      obtain⟨y,hy,e1,e2⟩:=zbU (by exact fun x=>⟨rfl,rfl⟩) hx
      rw[e1,e2];exact J4.up y hy
   ·exact last _ J3 u3
  ·rw[Jc zm]
   have J3:=Jk st2 K2
   have u3:=u2
   generalize st2=st3 at J3 u3 ⊢
   refine wpS_bind (wpS_get ?_)
   have last:∀ st4,Ji κ P rk a₀ lo st4→Up rk (arrOf st4) lo n→wpS (model prog w) A E s (do
     modify fun st5=>setPending st5 ((pendingOf st5).push (lo,n,0))
     pure (ForInStep.yield ((none:Option Unit),lo+n))) (fun r st'=>match r with|.done c'=>∃ lo,c'=(none,lo)∧lo=a₀.size∧Ji κ P rk a₀ lo st'|.yield c'=>∃ lo,c'=(none,lo)∧i+1≤lo∧lo≤a₀.size∧Ji κ P rk a₀ lo st') st4:=by
    intro st4 J4 u4
    refine wpS_bind (wpS_modify (wpS_pure ⟨lo+n,rfl,by lia,by lia,⟨J4.b.kind,J4.b.fail,J4.b.perm,J4.b.all⟩,?_,?_⟩))
    ·show Runs ((pendingOf st4).push (lo,n,0)).toList 0 (lo+n)
     rw[YK]
     exact J4.runs.app ⟨rfl,n1,rfl⟩
    ·show ∀ x∈((pendingOf st4).push (lo,n,0)).toList,Up rk (arrOf st4) x.1 x.2.1
     rw[YK]
     intro x hx
     rcases Js.mp hx with hx1|hx1
     ·exact J4.up x hx1
     ·rw[Jd.mp hx1];exact u4
   split
   ·rename_i s1 m1 w1 hb
    refine wpS_bind (wpS_mono (wpS_forRange (I:=fun j c st4=>c=(none,())∧Ji κ P rk a₀ lo st4∧Up rk (arrOf st4) lo n) (Q:=fun c st4=>c=(none,())∧Ji κ P rk a₀ lo st4∧Up rk (arrOf st4) lo n) ?_ (fun c st4 hh=>hh) ⟨rfl,J3,u3⟩) ?_)
    ·rintro j c st4 _ hj ⟨rfl,J4,u4⟩
     refine wpS_bind (wpS_get ?_)
     split
     ·rename_i a1 a2 older ho
      split
      ·exact wpS_pure ⟨rfl,J4,u4⟩
      ·have sz:(pendingOf st4).size > 1:=by
        by_cases q:(pendingOf st4).size > 1
        ·exact q
        ·rw[Jc q]at ho;cases ho
       refine wpS_bind (zko C J4 h2 (by lia) fun st5 J5 low5 _=>?_)
       rw[Jc (show ¬(!true)=true by decide)]
       exact wpS_pure ⟨rfl,J5,fun c d hc hcd hd=>by rw[low5 c hc,low5 d (by lia)];exact u4 c d hc hcd hd⟩
     ·exact wpS_pure ⟨rfl,J4,u4⟩
    ·rintro c st4 ⟨rfl,J4,u4⟩
     dsimp only
     refine wpS_bind (wpS_modify ?_)
     refine last _ ⟨⟨J4.b.kind,J4.b.fail,J4.b.perm,J4.b.all⟩,?_,?_⟩ u4
     ·show Runs ((pendingOf st4).modify _ _).toList 0 lo
      rw[Zm]
      refine Runs.modify ?_ J4.runs
      exact fun x=>⟨rfl,rfl⟩
     ·show ∀ x∈((pendingOf st4).modify _ _).toList,Up rk (arrOf st4) x.1 x.2.1
      rw[Zm]
      intro x hx
      obtain⟨y,hy,e1,e2⟩:=zbU (by exact fun x=>⟨rfl,rfl⟩) hx
      rw[e1,e2];exact J4.up y hy
   ·exact last _ J3 u3
 case post =>
  rintro c st1 ⟨lo,rfl,rfl,J⟩
  dsimp only
  refine wpS_bind (wpS_mono (wpS_forRange (I:=fun i c st2=>c=(none,())∧Ji κ P rk a₀ a₀.size st2∧(pendingOf st2).size≤a₀.size-i+1)
   (Q:=fun c st2=>c=(none,())∧Ji κ P rk a₀ a₀.size st2∧(pendingOf st2).size≤1) ?_ ?_ ⟨rfl,J,?_⟩) ?_)
  ·rintro i c st2 _ hi ⟨rfl,J2,sz⟩
   refine wpS_bind (wpS_get ?_)
   by_cases z:(pendingOf st2).size≤1
   ·rw[Jf z]
    exact wpS_pure ⟨rfl,J2,z⟩
   rw[Jc z]
   have go:∀ t,t+1<(pendingOf st2).size→wpS (model prog w) A E s (mergeAt' t) (fun b st3=>b=true∧Ji κ P rk a₀ a₀.size st3∧(pendingOf st3).size≤a₀.size-(i+1)+1) st2:=fun t ht =>
    zko C J2 (Jg _) ht fun st3 J3 _ sz3=>⟨rfl,J3,by lia⟩
   refine wpS_bind (wpS_mono (go _ ?_) ?_)
   ·repeat' split
    all_goals lia
   ·rintro b st3 ⟨rfl,J3,sz3⟩
    exact wpS_pure ⟨rfl,J3,sz3⟩
  ·rintro c st2 ⟨rfl,J2,sz⟩
   exact⟨rfl,J2,by lia⟩
  ·have:=J.runs.len
   rw[Jx]at this
   lia
  ·rintro c st2 ⟨rfl,J2,sz⟩
   refine wpS_pure (h st2 J2.b ?_)
   have rr:=J2.runs
   have up:=J2.up
   have ln:(pendingOf st2).toList.length≤1:=by rw[Jx];exact sz
   match hq:(pendingOf st2).toList,ln with
   | [],_ =>
    rw[hq]at rr
    intro c d hc hcd hd
    have:0=a₀.size:=rr
    lia
   | [x],_ =>
    rw[hq]at rr up
    obtain⟨r1,r2,r3⟩:=rr
    have:0+x.2.1=a₀.size:=r3
    have:=up x (by simp)
    rw[r1,show x.2.1=a₀.size by lia]at this
    exact this
end
section
variable {prog:Program}{w:World}{A:Around}{E:Value→Shared→Prop}{s:Shared}
theorem zgB {a:Addr}{vs:List Value}{n:Nat}{Pp:Fin→Shared→Prop}(ho:s.heap.get? a=some (seqObj "list" vs.toArray n)) (hz:vs.length≤10000) (κ:SortKind) (rv:Value→Int)
  (hkind:∀ h',(∀ c o,c≠a→s.heap.get? c=some o→h'.get? c=some o)→2≤vs.length→∀ {Q:SortKind→Shared→Prop}{E:Value→Shared→Prop},Q κ { s with heap:=h' }→wpAny (model prog w) A (keyKind' vs.toArray) Q E { s with heap:=h' })
  (hcmp:∀ h',(∀ c o,c≠a→s.heap.get? c=some o→h'.get? c=some o)→Cmp prog w A { s with heap:=h' } κ (fun p=>p.1∈vs) (fun p=>rv p.1))
  (h:∀ out:List Value,out.Perm vs→out.Pairwise (fun x y=>rv x≤rv y)→Pp (.done (.ret .none)) { s with heap:=sortedHeap s.heap a vs out.toArray }) :
  wpAny (model prog w) A (Builtin.«list.sort» ⟨[.ref a],[]⟩) Pp E s:=by
 have al:a<s.heap.objs.size:=Jn ho
 have ln:vs.toArray.size=vs.length:=Jj ..
 have sl:vs.length≤sizeLine:=JY hz (by decide)
 rw[list_sort_plain]
 refine J0 (listItems_at ho rfl (J0 (listUpdate_at ho rfl ?_ (hsz:=by rw[ln];exact sl))))
 obtain⟨ep,e1⟩:∃ ep,(s.heap.update a (Obj.mapSeq fun _=>#[])).get? a=some (seqObj "list" #[] ep):=⟨_,get?_update_seq ho fun _=>#[]⟩
 refine J0 (seqEpoch_at e1 rfl (J0 (wpAny_newTuple (J0 (wpAny_newList (Ya ?_))))))
 have e6:(((s.heap.update a (Obj.mapSeq fun _=>#[])).push (seqObj "tuple" vs.toArray 0)).push (seqObj "list" #[] 0)).get? a=some (seqObj "list" #[] ep) :=
  J8 _ (J8 _ e1)
 have old:∀ c o,c≠a→s.heap.get? c=some o→(((s.heap.update a (Obj.mapSeq fun _=>#[])).push (seqObj "tuple" vs.toArray 0)).push (seqObj "list" #[] 0)).get? c=some o:=fun c o nc q =>
  J8 _ (J8 _ ((Yc _ _ (Ne.symm nc)).trans q))
 show wpAny (model prog w) A _ Pp E { s with heap:=((s.heap.update a (Obj.mapSeq fun _=>#[])).push (seqObj "tuple" vs.toArray 0)).push (seqObj "list" #[] 0) }
 have lo:∀ out:List Value,out.Perm vs→out.toArray.size≤sizeLine+1:=fun out p1=>by rw[Jj,p1.length_eq];lia
 generalize hH:((s.heap.update a (Obj.mapSeq fun _=>#[])).push (seqObj "tuple" vs.toArray 0)).push (seqObj "list" #[] 0)=h6 at e6 old ⊢
 have back:∀ out:Array Value,sortedHeap s.heap a vs out=h6.update a (Obj.mapSeq fun _=>out):=fun out=>by rw[← hH];rfl
 by_cases few:vs.toArray.size<2
 ·rw[Jf few,Jf few]
  refine J0 (J9 (?_:wpAny _ _ _ _ _ _))
  refine J0 (J9 ?_)
  have em:(vs.toArray.zip vs.toArray).map (·.2)=vs.toArray:=by
   apply Array.ext'
   rw[Array.toList_map,Array.toList_zip]
   exact List.map_snd_zip (Jg _)
  have one:vs.Pairwise (fun x y=>rv x≤rv y):=by
   match vs,few with
   | [],_=>exact List.Pairwise.nil
   | [x],_=>exact List.pairwise_singleton _ _
   | _::_::_,z=>simp at z;lia
  have k:=h vs (List.Perm.refl _) one
  rw[back]at k
  dsimp only
  rw[em]
  refine J0 (seqEpoch_at e6 rfl (J0 (listUpdate_at e6 rfl ?_ (hsz:=JH _) (hsz2:=lo vs (List.Perm.refl _)))))
  simp only[if_false,bne_self_eq_false,Y1]
  exact J9 k
 rw[Jc few,Jc few]
 refine J0 (hkind h6 old (by lia) ?_)
 have C:=hcmp h6 old
 refine J0 (JK (zj0 C (a₀:=vs.toArray.zip vs.toArray) (st:=SortSt.mk' κ (vs.toArray.zip vs.toArray) #[] 7 none)
  (Q:=fun _ st'=>Bs κ (fun p=>p.1∈vs) (vs.toArray.zip vs.toArray) st'∧Up (fun p=>rv p.1) (arrOf st') 0 (vs.toArray.zip vs.toArray).size) ⟨rfl,rfl,Array.Perm.refl _,fun p hp=>?_⟩ rfl fun st' b u=>⟨b,u⟩) ?_ fun _ _ e=>e)
 ·have:(vs.toArray.zip vs.toArray).toList=vs.zip vs:=by simp
  rw[this]at hp
  exact(List.of_mem_zip hp).1
 rintro⟨⟨⟩,st'⟩ s' ⟨rfl,b,u⟩
 have pl:(arrOf st').toList.Perm (vs.zip vs):=by
  have:=Array.perm_iff_toList_perm.mp b.perm
  simpa using this
 have same:∀ p∈(arrOf st').toList,p.1=p.2:=fun p hp=>by
  have h1:=pl.mem_iff.mp hp
  obtain⟨i,hi⟩:=YG.mp h1
  rw[Zr]at hi
  have:=hi.1.symm.trans hi.2
  exact Option.some.inj this
 have so:Srt (fun p=>rv p.1) (arrOf st').toList:=by
  have:=zgx (arr:=arrOf st') (lo:=0) (n:=(arrOf st').size) (by rw[b.size];exact u) (by lia)
  rw[Yd,zcu,← Jx,YR]at this
  exact this
 have pm:((arrOf st').toList.map (·.2)).Perm vs:=by
  have:=pl.map (·.2)
  rwa [List.map_snd_zip (Jg _)]at this
 have em:(arrOf st').map (·.2)=((arrOf st').toList.map (·.2)).toArray:=by
  apply Array.ext';simp
 have k:=h _ pm (by
  refine List.pairwise_map.mpr (List.Pairwise.imp_of_mem ?_ so)
  intro x y hx hy le
  rw[← same x hx,← same y hy];exact le)
 rw[back]at k
 dsimp only
 rw[em,b.fail]
 refine J0 (seqEpoch_at e6 rfl (J0 (listUpdate_at e6 rfl ?_ (hsz:=JH _) (hsz2:=lo _ pm))))
 simp only[if_false,bne_self_eq_false,Y1]
 exact J9 k
end
end Ts
namespace Own
open PySem PySem.Spec PyProof.Rows
section
variable {prog:Program}{w:World}{A:Around}{E:Value→Shared→Prop}{s:Shared}{z TI TO i1 i2:Addr}{f1 f2:List Addr}{n1 n2 k:Nat}{P1 P2:Nat→Value→Prop}{S1 S2:Nat→Heap→Prop}{a b:Value}
end
section
variable {prog:Program}{w:World}{A:Around}{E:Value→Shared→Prop}{s:Shared}{z TI TO i1 i2 L:Addr}{f1 f2:List Addr}{n n2 k:Nat}{P1 P2:Nat→Value→Prop}{S1 S2:Nat→Heap→Prop}
end
end Own
namespace Own
open PySem PySem.Spec PyProof.Rows Ts
section
variable {prog:Program}{w:World}{A:Around}{E:Value→Shared→Prop}{s:Shared}
theorem zjQ {x:Value}{Q:Value→Shared→Prop}
  (h:wpAny (model prog w) A.in1 (collect x) (fun vs s1=>∃ (κ:SortKind) (rv:Value→Int),vs.length≤10000 ∧
   (∀ h':Heap,(∀ c o,s1.heap.get? c=some o→h'.get? c=some o)→2≤vs.length→∀ (A':Around) {Q:SortKind→Shared→Prop}{E:Value→Shared→Prop},Q κ { s1 with heap:=h' }→wpAny (model prog w) A' (keyKind' vs.toArray) Q E { s1 with heap:=h' }) ∧
   (∀ h':Heap,(∀ c o,s1.heap.get? c=some o→h'.get? c=some o)→∀ (A':Around),A'.units≤A.units+8→Cmp prog w A' { s1 with heap:=h' } κ (fun p=>p.1∈vs) (fun p=>rv p.1)) ∧
   ∀ (h':Heap) (l:Addr) (e:Nat) (out:List Value),s1.heap.objs.size≤l→h'.get? l=some (seqObj "list" out.toArray e)→out.Perm vs→out.Pairwise (fun x y=>rv x≤rv y)→(∀ c o,s1.heap.get? c=some o→h'.get? c=some o)→Q (.ref l) { s1 with heap:=h' }) E s) :
  wpAny (model prog w) A (call (.builtin "sorted") [x]) Q E s:=by
 refine Calls.call_function_entry kind_sorted plain_sorted entry_sorted (args_sorted1 _) ?_;unfold Builtin.«sorted»
 refine J0 (m:=checkCount "sorted" 1 1 _) (J9 (J0 (JK h (fun vs s1 z=>?_) fun _ _ e=>e)))
 obtain⟨κ,rv,hz,hk,hc,fin⟩:=z
 have sl:vs.length≤sizeLine:=JY hz (by decide)
 refine J0 (wpAny_newList ?_ (hsz:=sl))
 have new:(s1.heap.push (seqObj "list" vs.toArray 0)).get? s1.heap.objs.size=some (seqObj "list" vs.toArray 0):=Jp _ rfl
 have up:∀ h':Heap,(∀ c o,c≠s1.heap.objs.size→(s1.heap.push (seqObj "list" vs.toArray 0)).get? c=some o→h'.get? c=some o)→∀ c o,s1.heap.get? c=some o→h'.get? c=some o:=fun h' k c o e=>k c o (JB (Jn e)) (J8 _ e)
 refine J0 (Ya (wpAny_call_entry slot_list_sort ⟨_,new,rfl⟩ entry_list_sort (zgB new hz κ rv (fun h' k l2=>hk h' (up h' k) l2 _) (fun h' k=>hc h' (up h' k) _ ?_) fun out p1 p2=>⟨_,rfl,?_⟩) (args_list_sort _)))
 ·show A.units+1+1≤A.units+8
  lia
 obtain⟨e,he⟩:=sortedHeap_at (out:=out.toArray) new
 refine J9 ⟨_,rfl,fin _ _ e out (Jg _) he p1 p2 fun c o q=>?_⟩
 have lt:=Jn q
 rw[sortedHeap_old (JB lt) (by rw[size_push'];exact Zs lt)]
 exact J8 _ q
end
end Own
namespace L2
open PySem PySem.Spec PyProof.Rows Own Ts
inductive Lx (H:Hp):Nat→V→V→Ordering→Prop where
 | int (n:Nat) (i j:Int):Lx H n (.int i) (.int j) (compare i j)
 | row {n:Nat}{a b:Addr}{xs ys:List V}{cs:List Ordering}(ha:H a=some (.tup xs)) (hb:H b=some (.tup ys)) (l1:xs.length=cs.length) (l2:ys.length=cs.length) (h:∀ (i:Nat) u v c,xs[i]?=some u→ys[i]?=some v→cs[i]?=some c→Lx H n u v c) :
   Lx H (n+1) (.ref a) (.ref b) (cs.foldr Ordering.then .eq)
theorem zcc:∀ {cs:List Ordering},cs.foldr Ordering.then .eq=.eq↔∀ c∈cs,c=.eq
 | []=>by simp
 | c::cs=>by
  rw[List.foldr_cons]
  constructor
  ·intro h
   cases c<;>simp[Ordering.then]at h
   intro d hd
   rcases List.mem_cons.mp hd with rfl|hd2
   ·rfl
   ·exact zcc.mp h d hd2
  ·intro h
   rw[h c JD]
   exact zcc.mpr fun d hd=>h d (JC _ hd)
theorem zec:∀ {cs:List Ordering},cs.foldr Ordering.then .eq≠.eq→∃ (k:Nat) (c:Ordering),cs[k]?=some c∧c≠.eq∧cs.foldr Ordering.then .eq=c∧∀ j:Nat,j<k→cs[j]?=some Ordering.eq
 | [],h=>absurd rfl h
 | c::cs,h=>by
  by_cases z:c=.eq
  ·subst z
   have e:(Ordering.eq::cs).foldr Ordering.then .eq=cs.foldr Ordering.then .eq:=rfl
   rw[e]at h ⊢
   obtain⟨k,d,h1,h2,h3,h4⟩:=zec h
   refine⟨k+1,d,by simpa using h1,h2,h3,fun j hj=>?_⟩
   cases j with
   | zero=>rfl
   | succ j=>simpa using h4 j (by lia)
  ·refine⟨0,c,rfl,z,?_,fun j hj=>by lia⟩
   rw[List.foldr_cons]
   cases c<;>first|rfl|exact absurd rfl z
section
variable {X:Cx}
theorem zci (i j:Int):(compare i j == .eq)=decide (i=j)∧(compare i j == .lt)=decide (i<j):=by
 rw[show compare i j=compareOfLessAndEq i j from rfl]
 unfold compareOfLessAndEq
 by_cases h1:i<j
 ·rw[Jf h1,Jz h1,Jq (by lia)];exact⟨rfl,rfl⟩
 ·rw[Jc h1,Jq h1]
  by_cases h2:i=j
  ·rw[Jf h2,Jz h2];exact⟨rfl,rfl⟩
  ·rw[Jc h2,Jq h2];exact⟨rfl,rfl⟩
theorem Lx.refl {H:Hp}{n:Nat}{x y:V}{c:Ordering}(h:Lx H n x y c):x=y→c=.eq:=by
 induction h with
 | int n i j =>
  intro e
  cases e
  have:=(zci i i).1
  rw[Jz rfl]at this
  simpa using this
 | @row n a b xs ys cs ha hb l1 l2 h ih =>
  intro e
  cases e
  rw[ha]at hb
  cases hb
  refine zcc.mpr fun c hc=>?_
  obtain⟨i,hi⟩:=YG.mp hc
  have il:=(Je.mp hi).1
  exact ih i _ _ c (J7 (by lia)) (J7 (by lia)) hi rfl
theorem ziY {pins:List (Addr × Obj)}{σ:St}{H:Hp}{s:Shared}(I:Inv X pins σ H s) {n:Nat}{x y:V}{c:Ordering}(h:Lx H n x y c):∀ (A:Around) (u v:Value),A.units+n<cLine→RelV x u→RelV y v→SeqAt.EqAt A s u v (c == .eq):=by
 induction h with
 | int n i j =>
  intro A u v _ r1 r2
  have:=zjB (A:=A) (s:=s) (x:=.int j) (y:=.int i) r1 r2 rfl rfl
  rw[(zci i j).1]
  have e:eqV (.int i) (.int j)=decide (i=j):=by
   show (i == j)=decide (i=j)
   by_cases z:i=j<;>simp[z]
  rwa [e]at this
 | @row n a b xs ys cs ha hb l1 l2 h ih =>
  intro A u v hu r1 r2
  cases r1;cases r2
  by_cases ab:a=b
  ·subst ab
   have:cs.foldr Ordering.then .eq=.eq:=Lx.refl (.row ha hb l1 l2 h) rfl
   rw[this];exact SeqAt.EqAt.same _
  ·obtain⟨its,g1,p1,_⟩:=I.tuple (SqT.of ha)
   obtain⟨jts,g2,p2,_⟩:=I.tuple (SqT.of hb)
   have m1:=g1.length
   have m2:=g2.length
   refine SeqAt.EqAt.of_refs ab ?_
   have e:((List.range (min its.toArray.size jts.toArray.size)).all (fun j=>(cs.getD j .eq) == .eq) && its.toArray.size == jts.toArray.size)=(cs.foldr Ordering.then .eq == .eq):=by
    rw[Jj,Jj,← m1,← m2,l1,l2,YT,Bool.and_true,Nat.min_self]
    by_cases z:cs.foldr Ordering.then .eq=.eq
    ·rw[z]
     refine(YN.mpr fun j hj=>?_).trans rfl
     have jl:=Yj.mp hj
     rw[Jb,J7 jl,YS,zcc.mp z _ (Y8 jl)];rfl
    ·obtain⟨k,d,h1,h2,h3,_⟩:=zec z
     have kl:=(Je.mp h1).1
     rw[h3]
     have f1:(d == Ordering.eq)=false:=by simpa using h2
     rw[f1]
     refine Bool.eq_false_iff.mpr fun t=>?_
     have:=YN.mp t k (Yj.mpr kl)
     rw[Jb,h1,YS,f1]at this
     cases this
   have:=SeqAt.RcAt.tuples (e:=fun j=>(cs.getD j .eq) == .eq) p1 p2 (A:=A) (s:=s) (by lia) (fun j k1 k2=>?_)
   ·rwa [e]at this
   ·have k1':j<xs.length:=by simpa [m1] using k1
    have k2':j<ys.length:=by simpa [m2] using k2
    obtain⟨w1,e1,q1⟩:=g1.get (J7 k1')
    obtain⟨w2,e2,q2⟩:=g2.get (J7 k2')
    have z1:its.toArray[j]=w1:=by simpa using (Je.mp e1).2
    have z2:jts.toArray[j]=w2:=by simpa using (Je.mp e2).2
    have kc:j<cs.length:=by lia
    rw[z1,z2,Jb,J7 kc,YS]
    exact ih j _ _ _ (J7 k1') (J7 k2') (J7 kc) A.in1 _ _ (by show A.units+1+n<cLine;lia) q1 q2
theorem zk9 {pins:List (Addr × Obj)}{σ:St}{H:Hp}{s:Shared}(I:Inv X pins σ H s) {n:Nat}{x y:V}{c:Ordering}(h:Lx H n x y c):c≠.eq→∀ (A:Around) (u v:Value),A.units+n<cLine→RelV x u→RelV y v→LtAt A s u v (c == .lt):=by
 induction h with
 | int n i j =>
  intro _ A u v _ ⟨t1,e1⟩ ⟨t2,e2⟩
  subst e1 e2
  rw[(zci i j).2]
  exact LtAt.ints i j t1 t2
 | @row n a b xs ys cs ha hb l1 l2 h ih =>
  intro ne A u v hu r1 r2
  cases r1;cases r2
  obtain⟨its,g1,p1,_⟩:=I.tuple (SqT.of ha)
  obtain⟨jts,g2,p2,_⟩:=I.tuple (SqT.of hb)
  have m1:=g1.length
  have m2:=g2.length
  obtain⟨k,d,h1,h2,h3,h4⟩:=zec ne
  have kl:=(Je.mp h1).1
  have at_:∀ j (k1:j<its.toArray.size) (k2:j<jts.toArray.size),∃ (j1:j<xs.length) (j2:j<ys.length),RelV xs[j] its.toArray[j]∧RelV ys[j] jts.toArray[j]:=fun j k1 k2=>by
   have k1':j<xs.length:=by simpa [m1] using k1
   have k2':j<ys.length:=by simpa [m2] using k2
   obtain⟨w1,e1,q1⟩:=g1.get (J7 k1')
   obtain⟨w2,e2,q2⟩:=g2.get (J7 k2')
   have z1:its.toArray[j]=w1:=by simpa using (Je.mp e1).2
   have z2:jts.toArray[j]=w2:=by simpa using (Je.mp e2).2
   rw[z1,z2]
   exact⟨k1',k2',q1,q2⟩
  rw[h3]
  have b1:k<its.toArray.size:=by rw[Jj];lia
  have b2:k<jts.toArray.size:=by rw[Jj];lia
  obtain⟨j1,j2,r1,r2⟩:=at_ k b1 b2
  refine LtAt.tuples (k:=k) p1 p2 (by lia) b1 b2 (fun j k1 k2 hj=>?_) ?_ ?_
  ·obtain⟨j1,j2,r1,r2⟩:=at_ j k1 k2
   exact ziY I (h j _ _ _ (J7 j1) (J7 j2) (h4 j hj)) A.in1 _ _ (by show A.units+1+n<cLine;lia) r1 r2
  ·have:=ziY I (h k _ _ _ (J7 j1) (J7 j2) h1) A.in1 _ _ (by show A.units+1+n<cLine;lia) r1 r2
   rwa [show (d == Ordering.eq)=false from by simpa using h2]at this
  ·exact ih k _ _ _ (J7 j1) (J7 j2) h1 h2 A.in1 _ _ (by show A.units+1+n<cLine;lia) r1 r2
end
def vOf:Value→V
 | .int i _=>.int i
 | .ref a=>.ref a
 | _=>.non
theorem zd9:∀ {xs:List V}{us:List Value},Vals xs us→(∀ x∈xs,(∃ i,x=.int i)∨∃ a,x=.ref a)→xs=us.map vOf∧∀ u∈us,RelV (vOf u) u
 | _,_,.nil,_=>⟨rfl,fun u hu=>by simp at hu⟩
 | x::xs,u::us,.cons r rs,h=>by
  obtain⟨e,f⟩:=zd9 rs fun y hy=>h y (JC _ hy)
  have one:vOf u=x∧RelV (vOf u) u:=by
   rcases h x JD with ⟨i,rfl⟩|⟨a,rfl⟩
   ·obtain⟨t,rfl⟩:=r;exact⟨rfl,t,rfl⟩
   ·cases r;exact⟨rfl,rfl⟩
  refine⟨by rw[JV,one.1,← e],fun v hv=>?_⟩
  rcases List.mem_cons.mp hv with rfl|hv2
  ·exact one.2
  ·exact f v hv2
theorem zds:∀ {us:List Value},(∀ u∈us,RelV (vOf u) u)→Vals (us.map vOf) us
 | [],_=>.nil
 | u::us,h=>.cons (h u JD) (zds fun v hv=>h v (JC _ hv))
section
variable {prog:Program}{w:World}{A:Around}{E:Value→Shared→Prop}{s:Shared}
theorem ziC {u v:Value}{b:Bool}{Q:Bool→Shared→Prop}(l:LtAt A s u v b) (h:Q b s):wpAny (model prog w) A (oneLt' false u v) Q E s:=by
 rw[oneLt'_eq,Jc Jh]
 exact J0 (l prog w _ _ (YH h))
end
section
variable {X:Cx}
end
section
variable {X:Cx}
end
section
variable {X:Cx}{pins:List (Addr × Obj)}{σ:St}{H:Hp}{s:Shared}
theorem Inv.adopt {T:Addr}{o:HO}(I:Inv X pins σ H s) (hf:FpOk X pins H T) (new:ObjOk X.prog X.w (upd H T o) s.heap T o):Inv X pins σ (upd H T o) s:=by
 have hn:=hf.1
 have J:Inv X pins σ (upd H T o) { s with heap:=s.heap,gens:=s.gens,drawn:=s.drawn,toks:=s.toks }:=by
  refine I.step (ch:=[T]) (fun b hb=>?_) (fun b u _ _ _ e _=>e) (fun b u _ _ _ e _=>⟨u.slots,e⟩) (fun b u hc _ n=>by rw[zad fun q=>hc (Jd.mpr q)];exact n)
   (fun b u _ e=>⟨u,e⟩) (fun b xs e=>by rw[zad (zab e hn)];exact e) (fun b u x e=>by rw[zad (zab e hn)];exact e) (fun b ps e=>⟨#[],by rw[zad (zab e hn),e];simp⟩) (fun m hm=>hm) (fun b u e=>?_) I.bare
  ·have only:=Jd.mp hb
   subst only
   exact⟨hf.2.2.2.1,hf.2.1,hf.2.2.2.2.1,hf.2.2.2.2.2⟩
  ·by_cases hb:b=T
   ·subst hb;rw[zac]at e;cases e;exact new
   ·rw[zad hb]at e
    exact(I.hok b u e).stay (fun c v _ q=>q) (fun c q=>by rw[zad (zab q hn)];exact q) fun c xs q=>by rw[zad (zab q hn)];exact q
 exact J
end
end L2
namespace L2
open PySem PySem.Spec PyProof.Rows Own Ts PySem.W
section
variable {X:Cx}
end
end L2
namespace L2
open PySem PySem.Spec PyProof.Rows Own
section
variable {X:Cx}{pins:List (Addr × Obj)}{σ:St}{H:Hp}{s:Shared}{d:Addr}{o:Obj}{kvs:List (Key × V)}
theorem Inv.reword {u v:HO}(I:Inv X pins σ H s) (hd:H d=some u) (nt:∀ xs,u≠.tup xs) (nb:∀ ps,u≠.tbl ps) (no:∀ a,u≠.own a) (nz:∀ o' u',X.H₀ d≠some (.frz o' u')) (new:ObjOk X.prog X.w (upd H d v) s.heap d v):Inv X pins σ (upd H d v) s:=by
 have ne:∀ {b},H b=none→b≠d:=fun e z=>by rw[z,hd]at e;cases e
 have oth:∀ {b} {q:HO},H b=some q→q≠u→upd H d v b=some q:=fun {b q} e n=>by
  rw[zad];· exact e
  ·intro z
   rw[z,hd]at e
   exact n (Option.some.inj e).symm
 refine⟨I.ok,I.os,I.bare,⟨I.base.keep,I.base.slot,fun b q e n hx=>?_,I.base.there,fun b xs e=>oth (I.base.tups b xs e) fun z=>nt xs z.symm,fun b q w e=>?_,fun b ps e=>?_⟩,I.loc,I.cell,?_,fun x c e=>?_,fun p hp=>?_,fun b q e=>?_,I.len⟩
 ·have z:=I.base.free b q e n hx
  rw[zad (ne z)];exact z
 ·rw[zad]
  ·exact I.base.frzs b q w e
  ·rintro rfl;exact nz q w e
 ·obtain⟨more,z⟩:=I.base.tbls b ps e
  exact⟨more,oth z fun q=>nb _ q.symm⟩
 ·rw[zad (ne I.free)];exact I.free
 ·have z:=I.freeC x c e
  rw[zad (ne z)];exact z
 ·obtain⟨p1,p2,p3⟩:=I.pin p hp
  exact⟨p1,by rw[zad (ne p2)];exact p2,p3⟩
 ·by_cases z:b=d
  ·subst z
   rw[zac]at e
   cases e;exact new
  ·rw[zad z]at e
   exact(I.hok b q e).stay (fun c w _ r=>r) (fun c r=>oth r fun z=>no _ z.symm) fun c xs r=>oth r fun z=>nt _ z.symm
end
section
variable {X:Cx}{tg:Expr}
end
def NIv (H:Hp):KI→V→Prop
 | .inl i,v=>v=.int i
 | .inr xs,v=>∃ b,v=.ref b∧H b=some (.tup (xs.map V.int))
def NIvs (H:Hp):KN→List V→Prop
 | [],vs=>vs=[]
 | k::ks,vs=>∃ v r,vs=v::r∧NIv H k v∧NIvs H ks r
def NKey (H:Hp) (k:KN) (b:Addr):Prop:=∃ ys,H b=some (.tup ys)∧NIvs H k ys
theorem NIvs.tups {H H':Hp}(t:∀ b ys,H b=some (.tup ys)→H' b=some (.tup ys)):∀ {k:KN}{ys:List V},NIvs H k ys→NIvs H' k ys
 | [],_,h=>h
 | .inl i::k,_,h=>by
  obtain⟨v,r,e,h1,h2⟩:=h
  exact⟨v,r,e,h1,NIvs.tups t h2⟩
 | .inr xs::k,_,h=>by
  obtain⟨v,r,e,⟨b,h1,h3⟩,h2⟩:=h
  exact⟨v,r,e,⟨b,h1,t _ _ h3⟩,NIvs.tups t h2⟩
theorem NKey.tups {H H':Hp}(t:∀ b ys,H b=some (.tup ys)→H' b=some (.tup ys)) {k:KN}{b:Addr}(h:NKey H k b):NKey H' k b:=by
 obtain⟨ys,h1,h2⟩:=h
 exact⟨ys,t _ _ h1,h2.tups t⟩
section
variable {P:Program}{w:World}{H:Hp}{h:Heap}
theorem zfp (ok:HOk P w H h):∀ {k:KN}{ys:List V}{its:List Value},NIvs H k ys→Vals ys its→NIts P w h k its
 | [],_,its,a,r=>by
  rw[show _=[] from a]at r
  cases r;rfl
 | k::ks,_,its,a,r=>by
  obtain⟨v,q,rfl,a1,a2⟩:=a
  cases r with
  | @cons _ u _ us hu r =>
   refine⟨u,us,rfl,?_,zfp ok a2 r⟩
   cases k with
   | inl i=>rw[show v=.int i from a1]at hu;exact hu
   | inr xs =>
    obtain⟨b,rfl,hb⟩:=a1
    refine⟨b,hu,?_⟩
    have e:xs.map V.int=(xs.map (Sum.inl:Int→Key)).map kV:=by rw[YQ];rfl
    rw[e]at hb
    exact zlf ok hb
theorem zbs (ok:HOk P w H h) {k:KN}{b:Addr}(a:NKey H k b):NIs P w h k b:=by
 obtain⟨ys,hb,a⟩:=a
 obtain⟨_,its,r,o,h1,h2,n,h3⟩:=(show ObjOk P w H h b (.tup ys) from ok b _ hb)
 exact⟨o,its.toArray,n,h1,h2,h3.1,by simpa using zfp ok a r⟩
end
abbrev KVN:=List (KN × Addr × V)
def PrN:KN × Addr × V→KN × Addr × Value→Prop:=fun p q=>p.1=q.1∧p.2.1=q.2.1∧RelV p.2.2 q.2.2
def valN (xs:KVN) (k:KN):Option V:=(xs.find? fun x=>decide (x.1=k)).map (·.2.2)
def putN (xs:KVN) (k:KN) (b:Addr) (v:V):KVN:=if (valN xs k).isSome then xs.map fun x=>if x.1=k then (x.1,x.2.1,v) else x else xs++[(k,b,v)]
theorem zcW {xs:KVN}{vs:List (KN × Addr × Value)}(r:Paired PrN xs vs) (k:KN):RelO (valN xs k) ((atKey vs k).map (·.2)):=by
 induction r with
 | nil=>exact True.intro
 | @cons p q ps qs h t ih =>
  unfold valN atKey at ih ⊢
  rw[Yr,Yr,h.1]
  by_cases c:q.1=k
  ·rw[Jz c];exact h.2.2
  ·rw[Jq c];exact ih
theorem ziq {xs:KVN}{vs:List (KN × Addr × Value)}(r:Paired PrN xs vs) (k:KN) {v:V}{u:Value}(rv:RelV v u):Paired PrN (xs.map fun x=>if x.1=k then (x.1,x.2.1,v) else x) (vs.map (putAt k u)):=by
 induction r with
 | nil=>exact .nil
 | @cons p q ps qs h t ih =>
  refine .cons ?_ ih
  unfold putAt
  dsimp only
  by_cases c:q.1=k
  ·rw[Jf (h.1.trans c),Jf c];exact⟨h.1,h.2.1,rv⟩
  ·rw[Jc (fun z=>c (h.1.symm.trans z)),Jc c];exact h
theorem putN_rel {xs:KVN}{vs:List (KN × Addr × Value)}(r:Paired PrN xs vs) (k:KN) (b:Addr) {v:V}{u:Value}(rv:RelV v u):Paired PrN (putN xs k b v) (storedH vs k b u):=by
 have e:=(zcW r k).isSome_eq
 rw[Option.isSome_map]at e
 unfold putN storedH
 rw[← e]
 by_cases c:(valN xs k).isSome=true
 ·rw[Jf c,Jf c];exact ziq r k rv
 ·rw[Jc c,Jc c];exact Paired.snoc r ⟨rfl,rfl,rv⟩
theorem zfc (xs:KVN) (k:KN) (b:Addr) (v:V):(putN xs k b v).length≤xs.length+1:=by
 unfold putN
 split
 ·rw[Jm];lia
 ·rw[Ja];exact Jg _
def PhN (P:Program) (w:World) (a:Addr) (xs:KVN):Heap→Prop:=fun h=>xs.length≤sizeLine∧(a == sysModules)=false∧∃ vs,Paired PrN xs vs ∧
 ∃ o es ep,h.get? a=some o∧o.ExactDict∧o.data=.dict es ep∧es.toList=vs.map (entryOfKey (zaN P w))∧(vs.map (·.1)).Nodup
def DN (P:Program) (w:World) (a:Addr) (xs:KVN):HO:=.ext (PhN P w a xs)
def KsIn (H:Hp) (xs:KVN):Prop:=∀ x∈xs,NKey H x.1 x.2.1
theorem KsIn.tups {H H':Hp}{xs:KVN}(t:∀ b ys,H b=some (.tup ys)→H' b=some (.tup ys)) (h:KsIn H xs):KsIn H' xs:=fun x hx=>(h x hx).tups t
section
variable {P:Program}{w:World}{H H':Hp}{h h':Heap}{a:Addr}{xs:KVN}
theorem dn_new (z:xs.length≤sizeLine) (hd:(a == sysModules)=false) {vs:List (KN × Addr × Value)}(r:Paired PrN xs vs) (d:h'.DictOfH (zaN P w) a vs):ObjOk P w H' h' a (DN P w a xs):=by
 obtain⟨o,es,ep,h1,h2,h3,h4,_,h5⟩:=d
 refine⟨⟨z,hd,vs,r,o,es,ep,h1,h2,h3,h4,h5⟩,⟨o,h1⟩,fun k1 k2 ⟨z,hd,vs,r,o,es,ep,h1,h2,h3,h4,h5⟩ s=>⟨z,hd,vs,r,o,es,ep,s o h1,h2,h3,h4,h5⟩⟩
theorem zeM (ok:HOk P w H h) (e:Rd H a (DN P w a xs)) (ks:KsIn H xs):xs.length≤sizeLine∧(a == sysModules)=false∧∃ vs,Paired PrN xs vs∧h.DictOfH (zaN P w) a vs:=by
 obtain⟨⟨z,hd,vs,r,o,es,ep,h1,h2,h3,h4,h5⟩,c1,c2⟩:=(show ObjOk P w H h a (DN P w a xs) from zkW ok e)
 refine⟨z,hd,vs,r,o,es,ep,h1,h2,h3,h4,?_,h5⟩
 clear h4 h5 e z c1 c2
 induction r with
 | nil=>intro x hx;exact nomatch hx
 | @cons p q ps qs hq t ih =>
  intro x hx
  rcases List.mem_cons.mp hx with here|there
  ·have:=zbs ok (ks p JD)
   rw[hq.1,hq.2.1,← here]at this
   exact this
  ·exact ih (fun y hy=>ks y (JC _ hy)) x there
end
section
variable {X:Cx}{pins:List (Addr × Obj)}{σ:St}{H:Hp}{s:Shared}{a b:Addr}{xs:KVN}{k:KN}{v d:V}{u r:Value}{A:Around}{E:Value→Shared→Prop}
theorem ziK (hu:A.units+3<cLine):(zaN X.prog X.w).room A.in1:=by show A.in1.units+2<cLine;rw[Around.in1_units];lia
theorem n_in {Q:Value→Shared→Prop}(hu:A.units+3<cLine) (I:Inv X pins σ H s) (e:Rd H a (DN X.prog X.w a xs)) (ks:KsIn H xs) (kb:NKey H k b) (h:∀ s',Inv X pins σ H s'→Q (.bool (valN xs k).isSome) s') :
  wpAny (model X.prog X.w) A (compareOp .In (.ref b) (.ref a)) Q E s:=by
 obtain⟨z,hd,vs,rel,dd⟩:=zeM I.hok e ks
 refine wpAny_in_heap (ziK hu) (zbs I.hok kb) hd dd ?_
 have q:=(zcW rel k).isSome_eq
 rw[Option.isSome_map]at q
 rw[← q]
 exact h _ (I.tok _)
theorem zk8 {Q:Value→Shared→Prop}(hu:A.units+3<cLine) (I:Inv X pins σ H s) (e:Rd H a (DN X.prog X.w a xs)) (ks:KsIn H xs) (kb:NKey H k b) (rd:RelV d r) (h:∀ w' s',Inv X pins σ H s'→RelV ((valN xs k).getD d) w'→Q w' s') :
  wpAny (model X.prog X.w) A (call (.builtin "dict.get") [.ref a,.ref b,r]) Q E s:=by
 obtain⟨z,hd,vs,rel,dd⟩:=zeM I.hok e ks
 exact call_meetsIn PySem.F.slot_dict_get dd.typeIs PySem.F.entry_dict_get (PySem.F.args_dict_get_3 _ _ _) (meetsH_dict_get_default (zaN X.prog X.w) a b hd r) ⟨ziK hu,k,vs,zbs I.hok kb,dd,h _ _ (I.tok _) ((zcW rel k).getD rd)⟩
theorem zhf {Q:Unit→Shared→Prop}(hu:A.units+3<cLine) (I:Inv X pins σ H s) (e:H a=some (DN X.prog X.w a xs)) (ks:KsIn H xs) (kb:NKey H k b) (rv:RelV v r) (l:xs.length<sizeLine) (h:∀ s',Inv X pins σ (upd H a (DN X.prog X.w a (putN xs k b v))) s'→Q () s') :
  wpAny (model X.prog X.w) A (setItem (.ref a) (.ref b) r) Q E s:=by
 obtain⟨z,hd,vs,rel,dd⟩:=zeM I.hok (.inl e) ks
 have hz:vs.length≤sizeLine:=by rw[← Paired.length rel];exact z
 have hl:(putN xs k b v).length≤sizeLine:=by have:=zfc xs k b v;lia
 refine wpAny_setItem_heap (hsz:=hz) (ziK hu) (zbs I.hok kb) dd fun h' dd' hs=>h _ ?_
 have he:∃ q,h'.get? a=some q:=let ⟨q,_,_,hq,_⟩:=dd';⟨q,hq⟩
 exact zeN I (by rw[e];exact True.intro) hs he (dn_new hl hd (putN_rel rel k b rv) dd')
end
section
variable {prog:Program}{w:World}{A:Around}{E:Value→Shared→Prop}{s:Shared}{d:Addr}
theorem zhM {o:Obj}{es:Array DictEntry}{ep:Nat}{Q:Value→Shared→Prop}(ho:s.heap.get? d=some o) (hx:o.ExactDict) (hd:o.data=.dict es ep) (hs:(d == sysModules)=false) (h:Q (.int es.size s.toks) { s with toks:=s.toks+1 }) :
  wpAny (model prog w) A (Builtin.«dict.__len__» ⟨[.ref d],[]⟩) (fun fin s'=>∃ r,fin=.done (.ret r)∧Q r s') E s:=by
 have ty:s.TypeIs (.ref d) "dict":=⟨o,ho,hx.1⟩
 unfold Builtin.«dict.__len__» Builtin.Dict.dictSlotNone
 refine J0 (J0 (wpAny_notOrdered_dict ty ?_))
 refine J0 ?_
 show wpAny _ _ (pure ((.ref d,[]):Value × List Value)) _ _ _
 refine J9 (J9 (J0 ?_))
 show wpAny _ _ (pure d) _ _ _
 unfold dictSize
 refine J9 (J0 (J0 (wpAny_dictEntries ho hd (J9 (J0 (wpAny_pendingCount_other hs ?_))))))
 unfold retInt
 have g:Q (.int ((es.size:Int)+((0:Nat):Int)) s.toks) { s with toks:=s.toks+1 }:=by
  rw[show ((es.size:Int)+((0:Nat):Int))=es.size from Int.add_zero _]
  exact h
 exact J0 (wpAny_mkInt (J9 ⟨_,rfl,g⟩))
theorem zfv {o:Obj}{es:Array DictEntry}{ep:Nat}{Q:Value→Shared→Prop}(ho:s.heap.get? d=some o) (hx:o.ExactDict) (hd:o.data=.dict es ep) (hs:(d == sysModules)=false) (hf:(es.size:Int)<2 ^ 63) (h:∀ t,Q (.int es.size t) { s with toks:=s.toks+1+1 }) :
  wpAny (model prog w) A (Builtin.«len» ⟨[.ref d],[]⟩) (fun fin s'=>∃ r,fin=.done (.ret r)∧Q r s') E s:=by
 have ty:s.TypeIs (.ref d) "dict":=⟨o,ho,hx.1⟩
 unfold Builtin.«len»
 refine J0 ?_
 show wpAny _ _ (pure (Value.ref d)) _ _ _
 refine J9 (J0 (wpAny_callSpecial?_slot ty PySem.F.slot_dict_len (wpAny_call_entry PySem.F.slot_dict_len ty PySem.F.entry_dict_len (zhM ho hx hd hs ?_) (PySem.F.args_dict_len_1 _))))
 show wpAny _ _ (holding [Value.int (es.size:Int) s.toks] (asIndex (.int (es.size:Int) s.toks)) >>= _) _ _ _
 refine J0 (Ya (show wpAny _ _ (pure (es.size:Int)) _ _ _ from J9 (J0 (Zg ?_))))
 dsimp only
 rw[Jc (by lia),Jc (by lia)]
 unfold retInt
 exact J0 (wpAny_mkInt (J9 ⟨_,rfl,h _⟩))
end
section
variable {X:Cx}{pins:List (Addr × Obj)}{σ:St}{H:Hp}{s:Shared}{a:Addr}{xs:KVN}{A:Around}{E:Value→Shared→Prop}
theorem ziP {P:Program}{w:World}{h:Heap}(ok:HOk P w H h) (e:Rd H a (DN P w a xs)):(a == sysModules)=false∧∃ o es ep,h.get? a=some o∧o.ExactDict∧o.data=.dict es ep∧es.size=xs.length∧(es.size:Int)<2 ^ 63:=by
 obtain⟨⟨z,hd,vs,r,o,es,ep,h1,h2,h3,h4,h5⟩,_,_⟩:=(show ObjOk P w H h a (DN P w a xs) from zkW ok e)
 have l:es.size=xs.length:=by rw[size_of_entries h4,← Paired.length r]
 refine⟨hd,o,es,ep,h1,h2,h3,l,?_⟩
 rw[Jy]at z
 lia
theorem zlM {Q:Value→Shared→Prop}(I:Inv X pins σ H s) (e:Rd H a (DN X.prog X.w a xs)) (h:∀ t s',Inv X pins σ H s'→Q (.int xs.length t) s'):wpAny (model X.prog X.w) A (call (.builtin "len") [.ref a]) Q E s:=by
 obtain⟨hd,o,es,ep,h1,h2,h3,l,f⟩:=ziP I.hok e
 refine Calls.call_function_entry kind_len plain_len entry_len (args_len1 _) (zfv h1 h2 h3 hd f fun t=>?_)
 rw[l]
 exact h _ _ (I.tok _)
theorem zkm {Q:Bool→Shared→Prop}(I:Inv X pins σ H s) (e:Rd H a (DN X.prog X.w a xs)) (h:∀ s',Inv X pins σ H s'→Q (!xs.isEmpty) s'):wpAny (model X.prog X.w) A (truthy (.ref a)) Q E s:=by
 obtain⟨hd,o,es,ep,h1,h2,h3,l,f⟩:=ziP I.hok e
 have ty:s.TypeIs (.ref a) "dict":=⟨o,h1,h2.1⟩
 have q:∀ (n:Nat) (b:Bool),n=xs.length→b=((n:Int) != 0)→b = !xs.isEmpty:=fun n b e1 e2=>by
  subst e1 e2
  cases xs with
  | nil=>rfl
  | cons x r=>rw[Ye];simp;lia
 unfold truthy
 show wpAny _ _ (callSpecial? (Value.ref a) (Str.ofString "__bool__") >>= _) _ _ _
 refine J0 (wpAny_callSpecial?_none (T:="dict") ty noBool_dict ?_)
 show wpAny _ _ (specialOf (Value.ref a) (Str.ofString "__len__") >>= _) _ _ _
 refine J0 (wpAny_specialOf (T:="dict") ty PySem.F.slot_dict_len.lookup ?_)
 show wpAny _ _ (runValue (Code.builtin "len" { pos:=[Value.ref a] }) >>= _) _ _ _
 refine J0 (wpAny_runValue (Z0 entry_len ?_))
 refine JK (zfv (Q:=fun r s'=>(∃ t,r=.int es.size t)∧Inv X pins σ H s') h1 h2 h3 hd f fun t=>⟨⟨t,rfl⟩,I.tok _⟩) ?_ fun _ _ z=>z
 rintro fin s' ⟨r,rfl,⟨t,rfl⟩,I'⟩
 refine J9 ?_
 rw[q es.size _ l rfl]
 exact h s' I'
end
def NAt (P:Program) (w:World) (H:Hp) (a:Addr) (xs:KVN):Prop:=Rd H a (DN P w a xs)∧KsIn H xs
def zkP (P:Program) (w:World) (td ty tx:TE):TE:=fun σ H Q=>td σ H fun x H1=>∃ a,x=.ref a∧(∃ xs,Rd H1 a (DN P w a xs))∧ty σ H1 fun y H2=>tx σ H2 fun z H3=>∃ b xs k,y=.ref b∧NAt P w H3 a xs∧NKey H3 k b∧Q ((valN xs k).getD z) H3
def zlH (P:Program) (w:World) (td ty tv:TE):TS:=fun D σ H=>tv σ H fun v H1=>td σ H1 fun x H2=>ty σ H2 fun y H3=>∃ a b xs k,x=.ref a∧y=.ref b∧H3 a=some (DN P w a xs)∧KsIn H3 xs∧NKey H3 k b∧xs.length<sizeLine∧D.nx σ (upd H3 a (DN P w a (putN xs k b v)))
section
variable {X:Cx}{o i e f value:Expr}{pos pos' tpos apos cpos:Pos}{td ty tv tx:TE}
theorem zhe {pins:List (Addr × Obj)}{σ:St}{H:Hp}{s:Shared}{a:Addr}{xs:KVN}(I:Inv X pins σ H s) (d:Rd H a (DN X.prog X.w a xs)) :
  s.TypeIs (.ref a) "dict"∧∀ b,Value.ref a=.ref b→∃ ob,s.heap.get? b=some ob∧ob.dict=none:=by
 obtain⟨_,q,es,ep,h1,h2,_⟩:=ziP I.hok d
 refine⟨⟨q,h1,h2.1⟩,fun b z=>?_⟩
 cases z
 exact⟨q,h1,h2.2.1⟩
theorem zix (hu:X.A.units+3<cLine) (ho:PE X o td) (he:PE X e ty) (hf:PE X f tx) (m:M2 X o "get" apos e f cpos):PE X (.Call (.Attribute o "get" apos) [e,f] [] cpos) (zkP X.prog X.w td ty tx):=by
 intro pins s σ H Q I h
 refine wpAny_Call_method m.base m.few m.line PySem.F.plainAttrs_dict PySem.F.slot_dict_get PySem.F.type_dict_get (thn (ho pins s σ H _ I h) fun u s1 ⟨x,H1,I1,rx,a,ex,⟨ys,d⟩,q1⟩=>?_)
 subst ex
 cases (show u=Value.ref a from rx)
 obtain⟨t1,t2⟩:=zhe I1 d
 refine⟨t1,t2,?_⟩
 rw[m.trees]
 refine Calls.callWith_builtin rfl (Calls.evalArgs_plain (Calls.spliced_cons (thn (he pins s1 σ H1 _ I1 q1) fun iv s2 ⟨y,H2,I2,ry,q2⟩ =>
  Calls.spliced_cons (thn (hf pins s2 σ H2 _ I2 q2) fun fv s3 ⟨z,H3,I3,rz,b,xs,k,ey,n,kb,q3⟩=>Calls.spliced_nil ?_))))
 subst ey
 cases (show iv=Value.ref b from ry)
 exact zk8 hu I3 n.1 n.2 kb rz fun w' s4 I4 rw'=>⟨_,H3,I4,rw',q3⟩
theorem zj5 (hu:X.A.units+3<cLine) (ho:PE X o td) (hi:PE X i ty) (hv:PE X value tv) (hs:swapsWith value (some (.Subscript o i pos')) pos.line X.env=pure false) :
  PS X (.Assign [.Subscript o i pos'] value pos) (zlH X.prog X.w td ty tv):=by
 intro pins s σ H D I h
 refine wpAny_Assign_Subscript (thn (hv pins s σ H _ I h) fun r s1 ⟨v,H1,I1,rv,q1⟩=>thn (ho pins s1 σ H1 _ I1 q1) fun u s2 ⟨x,H2,I2,rx,q2⟩=>thn (hi pins s2 σ H2 _ I2 q2) fun iv s3 ⟨y,H3,I3,ry,a,b,xs,k,ex,ey,hd,ks,kb,l,q3⟩=>?_) hs
 subst ex ey
 cases (show u=Value.ref a from rx)
 cases (show iv=Value.ref b from ry)
 exact zhf hu I3 hd ks kb rv l fun s4 I4=>⟨σ,_,I4,q3⟩
theorem zhX:CallR X (.builtin "len") (fun vs H Q=>∃ a xs,vs=[.ref a]∧Rd H a (DN X.prog X.w a xs)∧Q (.int xs.length) H):=by
 intro pins s σ H vs us Q I rv ⟨a,xs,e,d,q⟩
 subst e
 obtain⟨u,rfl,ru⟩:=rv.one
 cases (show u=Value.ref a from ru)
 exact zlM I d fun t s' I'=>⟨.int xs.length,H,I',⟨t,rfl⟩,q⟩
theorem zlu:TruR X (fun x H Q=>∃ a xs,x=.ref a∧Rd H a (DN X.prog X.w a xs)∧Q (!xs.isEmpty) H):=by
 intro pins s σ H x v Q I rx ⟨a,xs,e,d,q⟩
 subst e
 cases (show v=Value.ref a from rx)
 exact zkm I d fun s' I'=>⟨H,I',q⟩
theorem pt_n (ha:PE X o td) (he:∀ whole,isTrue o X.env whole=(do let v ← whole;standAt o.pos;holding [v] (truthy v))) :
  PT X o (fun σ H Q=>td σ H fun x H'=>∃ a xs,x=.ref a∧Rd H' a (DN X.prog X.w a xs)∧Q (!xs.isEmpty) H'):=by
 intro pins s σ H Q I h
 exact isTrue_plain (thn (ha pins s σ H _ I h) fun v s1 ⟨x,H1,I1,r1,q1⟩=>zlu pins s1 σ H1 x v Q I1 r1 q1) (he _)
def zlC (P:Program) (w:World):TE:=fun _ H Q=>∀ p,H p=none→Q (.ref p) (upd H p (DN P w p []))
theorem zgV:PE X (.Dict [] [] pos) (zlC X.prog X.w):=fun pins s σ H Q I h =>
 wpAny_Dict_empty ⟨.ref s.heap.objs.size,_,I.laid (a:=s.heap.objs.size) (o:=DN X.prog X.w s.heap.objs.size []) (t':=s.toks) (fun _ _ q=>J8 _ q) (Jg _)
  (dn_new (vs:=[]) (JH _) (beq_eq_false_iff_ne.mpr (Yz I.big)) .nil (Heap.DictOfH.new _)),rfl,h _ (I.hok.fresh (Jg _))⟩
end
def rOne (P:Program) (w:World) (p:Addr) (Q:VK):List (V × V)→Hp→Prop
 | [(y,v)],H2=>∃ b k,y=.ref b∧H2 p=some (DN P w p [])∧NKey H2 k b∧Q (.ref p) (upd H2 p (DN P w p [(k,b,v)]))
 | _,_=>False
def zlB (P:Program) (w:World) (ty tv:TE):TE:=fun σ H Q=>∀ p,H p=none→ty σ (upd H p (DN P w p [])) fun y H1=>tv σ H1 fun v H2=>∃ b k,y=.ref b∧H2 p=some (DN P w p [])∧NKey H2 k b∧Q (.ref p) (upd H2 p (DN P w p [(k,b,v)]))
section
variable {X:Cx}{e f:Expr}{pos:Pos}{ty tv:TE}
theorem ziw (hu:X.A.units+3<cLine) (hk:PE X e ty) (hv:PE X f tv):PE X (.Dict [some e] [f] pos) (zlB X.prog X.w ty tv):=by
 intro pins s σ H Q I q
 have hn:=I.hok.fresh (Jg s.heap.objs.size)
 have I1:=I.laid (a:=s.heap.objs.size) (o:=DN X.prog X.w s.heap.objs.size []) (h':=s.heap.push { cls:=.type "dict",data:=.dict #[] }) (t':=s.toks) (fun _ _ q=>J8 _ q) (Jg _)
  (dn_new (vs:=[]) (JH _) (beq_eq_false_iff_ne.mpr (Yz I.big)) .nil (Heap.DictOfH.new _))
 refine wpAny_Dict_any rfl rfl (by simp) (by show 1≤15;lia) (thn ((zit hk hv zj6) pins _ σ _ (rOne X.prog X.w s.heap.objs.size Q) I1 (q _ hn)) ?_)
 rintro vs s2 ⟨ps,H2,I2,rel,r⟩
 match ps,rel,r with
 | [(y,v)],rel,r =>
  obtain⟨b,k,rfl,hp,kb,q2⟩:=r
  cases rel with
  | @cons _ uv _ us h t =>
   cases t
   obtain⟨u1,u2⟩:=uv
   cases (show u1=Value.ref b from h.1)
   obtain⟨z,hd,vs,rl,dd⟩:=zeM I2.hok (.inl hp) (fun x hx=>nomatch hx)
   cases rl
   unfold storeAll
   rw[Yy]
   refine J0 (J0 (wpAny_dictSet_heap (knd:=zaN X.prog X.w) (k:=k) (hsz:=JH _) (show X.A.units+2<cLine by lia) (zbs I2.hok kb) dd fun h' dd' hs=>J9 ?_))
   dsimp only
   rw[Z7]
   refine J9 ⟨.ref s.heap.objs.size,_,?_,rfl,q2⟩
   have he:∃ q,h'.get? s.heap.objs.size=some q:=let ⟨q,_,_,hq,_⟩:=dd';⟨q,hq⟩
   exact zeN I2 (by rw[hp];exact True.intro) hs he (dn_new (by show 1≤sizeLine;decide) hd (.cons ⟨rfl,rfl,h.2⟩ .nil) dd')
 | [],_,r=>exact r.elim
 | _::_::_,_,r=>exact r.elim
end
section
variable {prog:Program}{w:World}{A:Around}{E:Value→Shared→Prop}{s:Shared}{d:Addr}
theorem zhD {Q:Int→Shared→Prop}(q:Q (reduceHash 0xFCA86420) { s with toks:=s.toks+1 }):wpAny (model prog w) A (pyHash .none) Q E s:=by
 show wpAny (model prog w) A (pyHashByItsType .none) Q E s
 refine W.pyHash_slot (T:="NoneType") (id:="NoneType.__hash__") (B:=Builtin.«NoneType.__hash__») rfl F.slot_NoneType_hash F.entry_NoneType_hash (F.args_NoneType_hash_1 _) (by decide) (.inl rfl) ?_
 unfold Builtin.«NoneType.__hash__»
 refine J0 ?_
 show wpAny _ _ (pure _) _ _ _
 unfold retInt
 exact J9 (J0 (wpAny_mkInt (J9 ⟨_,_,rfl,q⟩)))
theorem zcs {a:Addr}{k:KN}{Q:Bool→Shared→Prop}(hu:A.units<cLine) (hx:NIs prog w s.heap k a) (q:Q false s):wpAny (model prog w) A (eqBool (.ref a) .none) Q E s:=by
 obtain⟨as,rx⟩:=hx.reads
 exact PySem.SeqAt.eqBoolOverData prog w A E s _ _ _ .none as [] Q rx .none (zcN k).1 rfl (by show A.units+min _ 0<cLine;lia) q
theorem zfX {n:Nat}{Q:Bool→Shared→Prop}(q:Q true s):wpAny (model prog w) A (eqIsQuiet n .none) Q E s:=by
 cases n<;>exact J9 q
theorem zfR {α β:Type}{f:α→β→Sem (ForInStep β)}{b:β}:∀ (l:List α) {Q:β→Shared→Prop},(∀ i∈l,∀ R:ForInStep β→Shared→Prop,R (.yield b) s→wpAny (model prog w) A (f i b) R E s)→Q b s→wpAny (model prog w) A (forIn l b f) Q E s
 | [],Q,_,q=>by rw[Z7];exact J9 q
 | i::l,Q,h,q=>by
  rw[Yy]
  exact J0 (h i JD _ (zfR l (fun j hj=>h j (JC _ hj)) q))
theorem zgt {stored:List Value}{Q:Bool→Shared→Prop}(h:∀ v∈stored,∃ a k,v=.ref a∧NIs prog w s.heap k a) (q:Q false s):wpAny (model prog w) A (tableMayTell .none stored) Q E s:=by
 unfold tableMayTell
 by_cases c:stored.isEmpty=true
 ·rw[Jf c];exact J9 q
 rw[Jc c]
 refine J0 (zfX (J0 (zfR stored (fun v hv R r=>?_) (J9 q))))
 obtain⟨a,k,rfl,hk⟩:=h v hv
 exact J0 (zcJ hk (J9 r))
theorem zhK {o:Obj}{es:Array DictEntry}{ep:Nat}{h:Int}{Q:Option Nat→Shared→Prop}(hu:A.units<cLine) (ho:s.heap.get? d=some o) (hd:o.data=.dict es ep) (hk:∀ e∈es.toList,∃ a k,e.key=.ref a∧NIs prog w s.heap k a) (q:Q none s) :
  wpAny (model prog w) A (dictFind d .none h) Q E s:=by
 have key:∀ (i:Nat) (e:DictEntry),es[i]?=some e→∃ a k,e.key=.ref a∧NIs prog w s.heap k a:=fun i e he=>hk e (by
  obtain⟨l,z⟩:=JS.mp he
  rw[← z];exact Array.getElem_mem_toList l)
 unfold dictFind
 refine Ya (J0 (wpAny_dictEntries ho hd ?_))
 by_cases c:(Value.none::List.filterMap (fun i=>Option.map (fun x=>x.key) es[i]?) (placesWithHash es.size (fun i=>Option.map (fun x=>x.hash) es[i]?) h)).all carriedByValue=true
 ·refine(JJ (fun m=>wpAny (model prog w) A m Q E s) (Jf c)).mpr ?_
  unfold dictWalkPlain
  refine J0 (zfR _ (fun i hi R r=>?_) (J9 q))
  cases he:es[i]? with
  | none=>exact J9 r
  | some e =>
   obtain⟨a,k,ea,ka⟩:=key i e he
   by_cases ch:(e.hash == h)=true
   ·refine(JJ (fun m=>wpAny (model prog w) A m R E s) (Jf ch)).mpr (J0 (wpAny_dictEpoch ho hd (J0 ?_)))
    rw[ea]
    refine zcs hu ka (J0 (wpAny_dictEpoch ho hd ?_))
    dsimp only
    rw[Jc (c:=(ep != ep)=true) (by simp),Jc Jh]
    exact J0 (wpAny_rule (J9 r))
   ·exact(JJ (fun m=>wpAny (model prog w) A m R E s) (Jc ch)).mpr (J9 r)
 ·refine(JJ (fun m=>wpAny (model prog w) A m Q E s) (Jc c)).mpr ?_
  have hst:∀ v∈List.filterMap (fun i=>Option.map (fun x=>x.key) es[i]?) (placesWithHash es.size (fun i=>Option.map (fun x=>x.hash) es[i]?) h),∃ a k,v=.ref a∧NIs prog w s.heap k a:=fun v hv=>by
   obtain⟨i,-,e,he,rfl⟩:∃ i:Nat,True∧∃ e:DictEntry,es[i]?=some e∧e.key=v:=by
    obtain⟨i,p⟩:=List.mem_filterMap.mp hv
    exact⟨i,True.intro,Y5.mp p.2⟩
   exact key i e he
  by_cases c2:(List.filterMap (fun i=>Option.map (fun x=>x.key) es[i]?) (placesWithHash es.size (fun i=>Option.map (fun x=>x.hash) es[i]?) h) == [Value.none])=true
  ·refine(JJ (fun m=>wpAny (model prog w) A m Q E s) (Jf c2)).mpr (J0 (J9 ?_))
   dsimp only
   rw[Jc (by simp)]
   refine J0 (zfR _ (fun i hi R r=>?_) (J9 q))
   cases he:es[i]? with
   | none=>exact J9 r
   | some e =>
    obtain⟨a,k,ea,ka⟩:=key i e he
    by_cases ch:(e.hash == h)=true
    ·refine(JJ (fun m=>wpAny (model prog w) A m R E s) (Jf ch)).mpr (J0 (wpAny_dictEpoch ho hd (J0 ?_)))
     rw[ea]
     refine zcs hu ka (J0 (wpAny_dictEpoch ho hd ?_))
     rw[Jc (c:=(ep != ep)=true) (by simp),Jc Jh]
     refine J0 (wpAny_rule ?_)
     rw[Jc (by simp)]
     exact J9 r
    ·exact(JJ (fun m=>wpAny (model prog w) A m R E s) (Jc ch)).mpr (J9 r)
  ·refine(JJ (fun m=>wpAny (model prog w) A m Q E s) (Jc c2)).mpr (J0 (zgt hst ?_))
   dsimp only
   rw[Jc (by simp)]
   refine J0 (zfR _ (fun i hi R r=>?_) (J9 q))
   cases he:es[i]? with
   | none=>exact J9 r
   | some e =>
    obtain⟨a,k,ea,ka⟩:=key i e he
    by_cases ch:(e.hash == h)=true
    ·refine(JJ (fun m=>wpAny (model prog w) A m R E s) (Jf ch)).mpr (J0 (wpAny_dictEpoch ho hd (J0 ?_)))
     rw[ea]
     refine zcs hu ka (J0 (wpAny_dictEpoch ho hd ?_))
     rw[Jc (c:=(ep != ep)=true) (by simp),Jc Jh]
     refine J0 (wpAny_rule ?_)
     rw[Jc (by simp)]
     exact J9 r
    ·exact(JJ (fun m=>wpAny (model prog w) A m R E s) (Jc ch)).mpr (J9 r)
theorem zi8 {o:Obj}{es:Array DictEntry}{ep:Nat}{Q:Option Value→Shared→Prop}(hu:A.units<cLine) (ho:s.heap.get? d=some o) (hd:o.data=.dict es ep) (hk:∀ e∈es.toList,∃ a k,e.key=.ref a∧NIs prog w s.heap k a) (q:Q none { s with toks:=s.toks+1 }) :
  wpAny (model prog w) A (dictGet d .none) Q E s:=by
 unfold dictGet
 exact Ya (J0 (zhD (J0 (zhK (s:={ s with toks:=s.toks+1 }) hu ho hd hk (J9 q)))))
theorem zdl {o:Obj}{es:Array DictEntry}{ep:Nat}{Q:Value→Shared→Prop}(hu:A.units<cLine) (ho:s.heap.get? d=some o) (hx:o.ExactDict) (hd:o.data=.dict es ep) (hs:(d == sysModules)=false) (hk:∀ e∈es.toList,∃ a k,e.key=.ref a∧NIs prog w s.heap k a) (q:Q (.bool false) { s with toks:=s.toks+1 }) :
  wpAny (model prog w) A (Builtin.«dict.__contains__» ⟨[.ref d,.none],[]⟩) (fun fin s'=>∃ r,fin=.done (.ret r)∧Q r s') E s:=by
 unfold Builtin.«dict.__contains__»
 refine J0 ?_
 show wpAny _ _ (pure (d,Value.none)) _ _ _
 refine J9 (J0 (zi8 hu ho hd hk ?_))
 show wpAny _ _ (Builtin.Dict.pendingKey? d .none >>= _) _ _ _
 exact J0 (wpAny_pendingKey_other hs (J9 ⟨_,rfl,q⟩))
section
variable {X:Cx}{pins:List (Addr × Obj)}{σ:St}{H:Hp}{a:Addr}{xs:KVN}
theorem ziQ {Q:Value→Shared→Prop}(hu:A.units+3<cLine) (I:Inv X pins σ H s) (e:Rd H a (DN X.prog X.w a xs)) (ks:KsIn H xs) (h:∀ s',Inv X pins σ H s'→Q (.bool false) s') :
  wpAny (model X.prog X.w) A (compareOp .In .none (.ref a)) Q E s:=by
 obtain⟨z,hd,vs,rel,o,es,ep,h1,h2,h3,h4,h5,h6⟩:=zeM I.hok e ks
 have hk:∀ e∈es.toList,∃ a k,e.key=.ref a∧NIs X.prog X.w s.heap k a:=fun e he=>by
  rw[h4]at he
  obtain⟨x,hx,rfl⟩:=JA.mp he
  exact⟨x.2.1,x.1,rfl,h5 x hx⟩
 have ty:s.TypeIs (.ref a) "dict":=⟨o,h1,h2.1⟩
 show wpAny _ _ (contains (.ref a) .none >>= _) _ _ _
 exact J0 (wpAny_contains_slot ty slot_dict_contains (wpAny_call_entry slot_dict_contains ty entry_dict_contains
  (zdl (by rw[Around.in1_units];lia) h1 h2 h3 hd hk (YH (J9 (h _ (I.tok _))))) (args_dict_contains _ _)))
end
def rInN (P:Program) (w:World):V→V→Hp→VK→Prop:=fun x y H Q=>∃ a xs,y=.ref a∧NAt P w H a xs∧((∃ b k,x=.ref b∧NKey H k b∧Q (.bl (valN xs k).isSome) H)∨(x=.non∧Q (.bl false) H))
theorem zk1 {X:Cx}(hu:X.A.units+3<cLine):OpR X (compareOp .In) (rInN X.prog X.w):=by
 intro pins s σ H x y v u Q I rx ry ⟨a,xs,ey,n,q⟩
 subst ey
 cases (show u=Value.ref a from ry)
 rcases q with ⟨b,k,ex,kb,q⟩|⟨ex,q⟩
 ·subst ex
  cases (show v=Value.ref b from rx)
  exact n_in hu I n.1 n.2 kb fun s3 I3=>⟨.bl (valN xs k).isSome,H,I3,rfl,q⟩
 ·subst ex
  cases (show v=Value.none from rx)
  exact ziQ hu I n.1 n.2 fun s3 I3=>⟨.bl false,H,I3,rfl,q⟩
end
section
variable {prog:Program}{w:World}{A:Around}{E:Value→Shared→Prop}{s:Shared}{d b:Addr}{K:Type} [DecidableEq K] {knd:HeapKind prog w K}{xs:List (K × Addr × Value)}{k:K}{v:Value}
theorem zcH {Q:Unit→Shared→Prop}(hu:knd.room A) (hk:knd.is s.heap k b) (hm:s.heap.DictOfH knd d xs) (hz:xs.length≤sizeLine)
  (q:∀ h',h'.DictOfH knd d (storedH xs k b v)→Heap.SameBut d s.heap h'→Q () { s with heap:=h' }):wpAny (model prog w) A (dictSetHashed d (.ref b) (knd.hash k) v) Q E s:=by
 obtain⟨o,es,ep,ho,hx,hd,he,his,hn⟩:=hm
 unfold dictSetHashed
 refine Ya (J0 (wpAny_dictFind_heap hu hk ho hd he his hn (fun no=>?_) (fun j p hj=>?_)))
 ·refine J0 (wpAny_rule (wpAny_updateDictKeys ho hd (q _ ?_ (Heap.SameBut.update _ _ _)) (by rw[size_of_entries he];exact hz) (by simp)))
  have sm:=Heap.SameBut.update s.heap d (Obj.mapDictKeys fun x=>x.push ⟨knd.hash k,.ref b,v⟩)
  refine⟨_,_,_,Heap.get?_update_self _ ho (Obj.isFreed_of_dict (Obj.data_mapDictKeys hd _)),hx.mapDictKeys _,Obj.data_mapDictKeys hd _,?_,?_,?_⟩
  ·rw[storedH_new (atKey_none_of_get no),Y2,YK,he];rfl
  ·rw[storedH_new (atKey_none_of_get no)]
   intro x hx'
   rcases Js.mp hx' with z|z
   ·exact knd.keeps (his x z) ho hd sm
   ·rw[Jd.mp z];exact knd.keeps hk ho hd sm
  ·rw[storedH_new (atKey_none_of_get no),Y2,Zt]
   refine⟨hn,by simp,fun a ha c hc=>?_⟩
   rw[List.map_singleton,Jd]at hc
   rintro rfl
   rw[hc]at ha
   exact not_mem_keys_of_get no ha
 ·refine J0 (wpAny_rule (J0 (wpAny_updateDict ho hd (wpAny_point (q _ ?_ (Heap.SameBut.update _ _ _))) (by simp))))
  have sm:=Heap.SameBut.update s.heap d (Obj.mapDict fun x=>x.modify j fun e=>{ e with val:=v })
  refine⟨_,_,_,Heap.get?_update_self _ ho (Obj.isFreed_of_dict (Obj.data_mapDict hd _)),hx.mapDict _,Obj.data_mapDict hd _,?_,?_,?_⟩
  ·rw[storedH_old (atKey_of_get hn hj),Zm,he]
   exact modify_map_putAt _ _ k v (fun a v₀=>rfl) hn hj
  ·have so:=storedH_old (atKey_of_get hn hj) b v
   rw[so]
   intro x hx'
   obtain⟨y,hy,rfl⟩:=JA.mp hx'
   have:=knd.keeps (his y hy) ho hd sm
   unfold putAt
   split
   ·exact this
   ·exact this
  ·rw[storedH_old (atKey_of_get hn hj),keys_map_putAt];exact hn
def mergeN (xs ys:List (K × Addr × Value)):List (K × Addr × Value):=ys.foldl (fun acc y=>storedH acc y.1 y.2.1 y.2.2) xs
theorem zgu (acc:List (K × Addr × Value)) (y:K × Addr × Value):(storedH acc y.1 y.2.1 y.2.2).length≤acc.length+1:=by
 unfold storedH
 split
 ·rw[Jm];lia
 ·rw[Ja];exact Jg _
theorem zbT {o:Addr}{ob:Obj}{ys:List (K × Addr × Value)}{Q:PUnit→Shared→Prop}{f:Nat→PUnit→Sem (ForInStep PUnit)}(ne:d≠o)
  (step:∀ (i:Nat) (il:i<ys.length) (s:Shared) (acc:List (K × Addr × Value)) (R:ForInStep PUnit→Shared→Prop),s.heap.get? o=some ob→s.heap.DictOfH knd d acc→knd.is s.heap ys[i].1 ys[i].2.1→acc.length≤sizeLine →
   (∀ h',h'.DictOfH knd d (storedH acc ys[i].1 ys[i].2.1 ys[i].2.2)→Heap.SameBut d s.heap h'→R (.yield PUnit.unit) { s with heap:=h' })→wpAny (model prog w) A (f i PUnit.unit) R E s) :
  ∀ (m i:Nat) (s:Shared) (acc:List (K × Addr × Value)),i+m=ys.length→s.heap.get? o=some ob→s.heap.DictOfH knd d acc→(∀ x∈ys,knd.is s.heap x.1 x.2.1)→acc.length+m≤sizeLine →
  (∀ h',h'.DictOfH knd d (mergeN acc (ys.drop i))→Heap.SameBut d s.heap h'→Q PUnit.unit { s with heap:=h' })→wpAny (model prog w) A (forIn (List.range' i m) PUnit.unit f) Q E s
 | 0,i,s,acc,hi,h1,hm,h5,hz,q=>by
  rw[List.range'_zero,Z7]
  refine J9 (q s.heap ?_ (Heap.SameBut.refl _ _))
  rw[List.drop_eq_nil_of_le (by lia)]
  exact hm
 | m+1,i,s,acc,hi,h1,hm,h5,hz,q=>by
  have il:i<ys.length:=by lia
  rw[show List.range' i (m+1)=i::List.range' (i+1) m from rfl,Yy]
  refine J0 (step i il s acc _ h1 hm (h5 _ (Y8 il)) (by lia) fun h' hm' sm=>?_)
  obtain⟨o2,es2,ep2,g1,g2,g3,g4,g5,g6⟩:=hm
  have h1':h'.get? o=some ob:=by rw[sm.2 o (fun z=>ne z.symm)];exact h1
  refine zbT ne step m (i+1) { s with heap:=h' } _ (by lia) h1' hm' (fun x hx=>knd.keeps (h5 x hx) g1 g3 sm) ?_ fun h2 hm2 sm2=>q h2 ?_ (sm.trans sm2)
  ·have:=zgu acc ys[i]
   lia
  ·rw[Yt il]
   exact hm2
end
section
variable {prog:Program}{w:World}{A:Around}{E:Value→Shared→Prop}{s:Shared}{d:Addr}{K:Type} [DecidableEq K] {knd:HeapKind prog w K}{xs ys:List (K × Addr × Value)}
theorem ziB {o:Addr}{ob:Obj}{es:Array DictEntry}{ep:Nat}{nm:String}{Q:Array DictEntry→Shared→Prop}(h1:s.heap.get? o=some ob) (h3:ob.data=.dict es ep) (h4:es.toList=ys.map (entryOfKey knd)) (y1:ys.length≤1)
  (hq:∀ x∈ys,∀ R:Bool→Shared→Prop,R false s→wpAny (model prog w) A (Builtin.Dict.quietEq (.ref x.2.1)) R E s) (q:Q es s):wpAny (model prog w) A (Builtin.Dict.entriesForEmpty nm o) Q E s:=by
 show wpAny _ _ (dictEntries o >>= _) _ _ _
 refine J0 (wpAny_dictEntries h1 h3 (J0 ?_))
 rw[← Array.forIn_toList]
 refine zfR _ (fun e he R r=>?_) (J9 q)
 rw[h4]at he
 obtain⟨x,hx,rfl⟩:=JA.mp he
 refine J0 (hq x hx _ ?_)
 have few1:¬(Array.filter (fun z=>z.hash == (entryOfKey knd x).hash) es).size > 1:=by
  have l1:=Array.size_filter_le (p:=fun z:DictEntry=>z.hash == (entryOfKey knd x).hash) (xs:=es)
  have l2:=size_of_entries h4
  lia
 rw[Jf (c:=(!false)=true) rfl,Jc few1]
 exact J9 r
theorem zk3 {o2:Obj}{es es2:Array DictEntry}{ep2:Nat}{y:K × Addr × Value}(g1:s.heap.get? d=some o2) (g2:o2.ExactDict) (g3:o2.data=.dict es2 ep2) (h4:es.toList=[y].map (entryOfKey knd)) (h5:knd.is s.heap y.1 y.2.1) :
  (s.heap.update d (Obj.mapDictKeys fun _=>es)).DictOfH knd d [y]:=by
 have sm:=Heap.SameBut.update s.heap d (Obj.mapDictKeys fun _=>es)
 refine⟨_,_,_,Heap.get?_update_self _ g1 (Obj.isFreed_of_dict (Obj.data_mapDictKeys g3 _)),g2.mapDictKeys _,Obj.data_mapDictKeys g3 _,h4,?_,by simp⟩
 intro x hx
 rw[Jd.mp hx]
 exact knd.keeps h5 g1 g3 sm
theorem zf4 {o:Addr}{nm:String}{Q:Unit→Shared→Prop}(hu:knd.room A) (ne:d≠o) (hS:(o == sysModules)=false) (hm:s.heap.DictOfH knd d xs) (hn:s.heap.DictOfH knd o ys) (hz:xs.length+ys.length≤sizeLine) (hl:xs≠[]∨ys.length=1)
  (hq:∀ x∈ys,∀ R:Bool→Shared→Prop,R false s→wpAny (model prog w) A (Builtin.Dict.quietEq (.ref x.2.1)) R E s)
  (q:∀ h',h'.DictOfH knd d (mergeN xs ys)→Heap.SameBut d s.heap h'→Q () { s with heap:=h' }):wpAny (model prog w) A (Builtin.Dict.mergeDict nm d o) Q E s:=by
 obtain⟨ob,es,ep,h1,h2,h3,h4,h5,h6⟩:=id hn
 obtain⟨o2,es2,ep2,g1,g2,g3,g4,g5,g6⟩:=id hm
 have sz:([:es.size]:Std.Legacy.Range).size=ys.length:=by
  rw[← size_of_entries h4]
  simp[Std.Legacy.Range.size]
 unfold Builtin.Dict.mergeDict
 rw[Jc (by simpa using ne)]
 refine J0 ?_
 unfold Builtin.Dict.showsAll
 rw[Jc (by rw[hS];simp)]
 refine J9 (J0 (wpAny_dictEntries h1 h3 ?_))
 dsimp only
 by_cases few:(!(decide (es.size≤8) && es.all fun e=>(keyPart e.key).isSome))=true
 ·rw[Jf few]
  refine J0 (wpAny_dictEntries g1 g3 ?_)
  by_cases em:es2.isEmpty=true
  ·rw[Jf em]
   have e2:es2.size=0:=by simpa using em
   have x0:xs=[]:=by
    rw[size_of_entries g4]at e2
    exact List.eq_nil_of_length_eq_zero e2
   have y1:ys.length=1:=hl.resolve_left fun z=>z x0
   have l2:es.size=1:=(size_of_entries h4).trans y1
   refine J0 (ziB h1 h3 h4 (by lia) hq ?_)
   rw[Jf (c:=(!es.isEmpty)=true) (by simp;intro z;rw[z]at l2;cases l2)]
   refine J0 (wpAny_updateDictKeys g1 g3 (J9 (q _ ?_ (Heap.SameBut.update _ _ _))) (by rw[e2];exact JH _) (by rw[l2];lia))
   obtain⟨y,rfl⟩:=List.length_eq_one_iff.mp y1
   subst x0
   exact zk3 g1 g2 g3 h4 (h5 y JD)
  ·rw[Jc em]
   refine J0 (wpAny_dictEpoch h1 h3 (J0 (wpAny_dictEntries h1 h3 (J0 ?_))))
   refine(JJ (fun m=>wpAny (model prog w) A m _ E s) (Std.Legacy.Range.forIn_eq_forIn_range' _ _ _)).mpr ?_
   rw[sz]
   refine zbT (ob:=ob) (ys:=ys) ne (fun i il s acc R k1 km ki kz kq=>?_) ys.length 0 s xs (by lia) h1 hm h5 hz fun h' hm' sm=>J9 (q h' hm' sm)
   have ei:es[i]?=some (entryOfKey knd ys[i]):=by rw[entry_at h4,J7 il];rfl
   refine J0 (wpAny_dictEntries k1 h3 ?_)
   rw[ei]
   refine J0 (Ya (zcH (k:=ys[i].1) hu ki km kz fun h' hm' sm=>?_))
   have k1':h'.get? o=some ob:=by rw[sm.2 o (fun z=>ne z.symm)];exact k1
   refine J0 (wpAny_dictEpoch (s:={ s with heap:=h' }) k1' h3 ?_)
   rw[Jc (c:=(ep != ep)=true) (by simp)]
   exact J9 (kq h' hm' sm)
 ·rw[Jc few]
  refine J0 (wpAny_dictEpoch h1 h3 (J0 (wpAny_dictEntries h1 h3 (J0 ?_))))
  refine(JJ (fun m=>wpAny (model prog w) A m _ E s) (Std.Legacy.Range.forIn_eq_forIn_range' _ _ _)).mpr ?_
  rw[sz]
  refine zbT (ob:=ob) (ys:=ys) ne (fun i il s acc R k1 km ki kz kq=>?_) ys.length 0 s xs (by lia) h1 hm h5 hz fun h' hm' sm=>J9 (q h' hm' sm)
  have ei:es[i]?=some (entryOfKey knd ys[i]):=by rw[entry_at h4,J7 il];rfl
  refine J0 (wpAny_dictEntries k1 h3 ?_)
  rw[ei]
  refine J0 (Ya (zcH (k:=ys[i].1) hu ki km kz fun h' hm' sm=>?_))
  have k1':h'.get? o=some ob:=by rw[sm.2 o (fun z=>ne z.symm)];exact k1
  refine J0 (wpAny_dictEpoch (s:={ s with heap:=h' }) k1' h3 ?_)
  rw[Jc (c:=(ep != ep)=true) (by simp)]
  exact J9 (kq h' hm' sm)
theorem zio {a:Addr}{k:KN}{R:Bool→Shared→Prop}(h:NIs prog w s.heap k a) (r:R false s):wpAny (model prog w) A (Builtin.Dict.quietEq (.ref a)) R E s:=by
 obtain⟨o,its,n,h1,h2,h3,h4⟩:=h
 exact J0 (wpAny_specialOf (T:="tuple") ⟨o,h1,h2⟩ F.slot_tuple_eq.lookup (J9 r))
theorem zea {o:Addr}{Q:Value→Shared→Prop}(hu:knd.room A) (ne:d≠o) (hS:(o == sysModules)=false) (hm:s.heap.DictOfH knd d xs) (hn:s.heap.DictOfH knd o ys) (hz:xs.length+ys.length≤sizeLine) (hl:xs≠[]∨ys.length=1)
  (hq:∀ x∈ys,∀ R:Bool→Shared→Prop,R false s→wpAny (model prog w) A (Builtin.Dict.quietEq (.ref x.2.1)) R E s)
  (q:∀ h',h'.DictOfH knd d (mergeN xs ys)→Heap.SameBut d s.heap h'→Q .none { s with heap:=h' }):wpAny (model prog w) A (Builtin.«dict.update» ⟨[.ref d,.ref o],[]⟩) (fun fin s'=>∃ r,fin=.done (.ret r)∧Q r s') E s:=by
 have ty:=hn.typeIs
 unfold Builtin.«dict.update»
 refine J0 ?_
 show wpAny _ _ (Builtin.Dict.notOrdered "update" ⟨[Value.ref d,Value.ref o],[]⟩ >>= _) _ _ _
 refine J0 (wpAny_notOrdered_dict (s:=s) hm.typeIs ?_)
 show wpAny _ _ (pure (d,[Value.ref o])) _ _ _
 refine J9 ?_
 show wpAny _ _ (Builtin.Dict.updateFrom "dict.update" d (.ref o) [] .none) _ _ _
 show wpAny _ _ (typeOf (Value.ref o) >>= _) _ _ _
 refine J0 (wpAny_typeOf ty ?_)
 rw[Jc (by simp)]
 refine J0 ?_
 unfold Builtin.Dict.merge Builtin.Dict.readDirectly
 refine J0 (J0 (wpAny_isInstance (T:="dict") (b:=true) ty rfl ?_))
 rw[Jc (by simp)]
 refine J0 (wpAny_specialOf (T:="dict") ty F.slot_dict_iter.lookup (J9 ?_))
 rw[Jf (by decide)]
 refine J0 ?_
 show wpAny _ _ (pure o) _ _ _
 refine J9 (zf4 hu ne hS hm hn hz hl hq fun h' hm' sm=>?_)
 refine J0 ?_
 show wpAny _ _ (pure ()) _ _ _
 exact J9 (J9 ⟨_,rfl,q h' hm' sm⟩)
end
def zb3 (xs ys:KVN):KVN:=ys.foldl (fun acc y=>putN acc y.1 y.2.1 y.2.2) xs
theorem mergeV_rel:∀ {ys:KVN}{us:List (KN × Addr × Value)}{xs:KVN}{vs:List (KN × Addr × Value)},Paired PrN ys us→Paired PrN xs vs→Paired PrN (zb3 xs ys) (mergeN vs us):=by
 intro ys us xs vs r
 induction r generalizing xs vs with
 | nil=>intro q;exact q
 | @cons p u ps us h t ih =>
  intro q
  have e:=putN_rel q p.1 p.2.1 h.2.2
  rw[show storedH vs p.1 p.2.1 u.2.2=storedH vs u.1 u.2.1 u.2.2 by rw[h.1,h.2.1]]at e
  exact ih e
theorem mergeV_len:∀ (ys xs:KVN),(zb3 xs ys).length≤xs.length+ys.length
 | [],xs=>Jg _
 | y::ys,xs=>by
  have h1:=mergeV_len ys (putN xs y.1 y.2.1 y.2.2)
  have h2:=zfc xs y.1 y.2.1 y.2.2
  show (zb3 (putN xs y.1 y.2.1 y.2.2) ys).length≤_
  rw[JN];lia
section
variable {X:Cx}{pins:List (Addr × Obj)}{σ:St}{H:Hp}{s:Shared}{a b:Addr}{xs ys:KVN}{A:Around}{E:Value→Shared→Prop}
theorem ziO {Q:Value→Shared→Prop}(hu:A.units+3<cLine) (ne:a≠b) (I:Inv X pins σ H s) (ea:H a=some (DN X.prog X.w a xs)) (ka:KsIn H xs) (eb:Rd H b (DN X.prog X.w b ys)) (kb:KsIn H ys) (hz:xs.length+ys.length≤sizeLine) (hl:xs≠[]∨ys.length=1)
  (h:∀ s',Inv X pins σ (upd H a (DN X.prog X.w a (zb3 xs ys))) s'→Q .none s'):wpAny (model X.prog X.w) A (call (.builtin "dict.update") [.ref a,.ref b]) Q E s:=by
 obtain⟨z,hd,vs,rel,dd⟩:=zeM I.hok (.inl ea) ka
 obtain⟨z2,hd2,us,rel2,dd2⟩:=zeM I.hok eb kb
 refine wpAny_call_entry PySem.F.slot_dict_update dd.typeIs PySem.F.entry_dict_update (zea (ziK hu) ne hd2 dd dd2 (by rw[← Paired.length rel,← Paired.length rel2];exact hz) ?_ ?_ fun h' dd' hs=>h _ ?_) (PySem.F.args_dict_update_2 _ _)
 ·rcases hl with z|z
  ·refine .inl fun e=>z ?_
   subst e
   cases rel;rfl
  ·exact .inr (by rw[← Paired.length rel2];exact z)
 ·intro x hx R r
  obtain⟨o,es,ep,h1,h2,h3,h4,h5,h6⟩:=dd2
  exact zio (h5 x hx) r
 ·have he:∃ q,h'.get? a=some q:=let ⟨q,_,_,hq,_⟩:=dd';⟨q,hq⟩
  exact zeN I (by rw[ea];exact True.intro) hs he (dn_new (JY (mergeV_len _ _) hz) hd (mergeV_rel rel2 rel) dd')
end
def zlA (P:Program) (w:World) (td ty:TE):TE:=fun σ H Q=>td σ H fun x H1=>∃ a,x=.ref a∧(∃ xs,Rd H1 a (DN P w a xs))∧ty σ H1 fun y H2=>∃ b xs ys,y=.ref b∧a≠b∧H2 a=some (DN P w a xs)∧KsIn H2 xs∧NAt P w H2 b ys∧xs.length+ys.length≤sizeLine∧(xs≠[]∨ys.length=1)∧Q .non (upd H2 a (DN P w a (zb3 xs ys)))
theorem zj8 {X:Cx}{o e:Expr}{apos cpos:Pos}{td ty:TE}(hu:X.A.units+3<cLine) (ho:PE X o td) (he:PE X e ty) (m:M1 X o "update" apos e cpos):PE X (.Call (.Attribute o "update" apos) [e] [] cpos) (zlA X.prog X.w td ty):=by
 intro pins s σ H Q I h
 refine wpAny_Call_method m.base m.few m.line PySem.F.plainAttrs_dict PySem.F.slot_dict_update PySem.F.type_dict_update (thn (ho pins s σ H _ I h) fun u s1 ⟨x,H1,I1,rx,a,ex,⟨zs,d⟩,q1⟩=>?_)
 subst ex
 cases (show u=Value.ref a from rx)
 obtain⟨t1,t2⟩:=zhe I1 d
 refine⟨t1,t2,?_⟩
 rw[m.trees]
 refine Calls.callWith_builtin rfl (Calls.evalArgs_plain (Calls.spliced_cons (thn (he pins s1 σ H1 _ I1 q1) fun iv s2 ⟨y,H2,I2,ry,b,xs,ys,ey,ne,ea,ka,n,hz,hl,q2⟩=>Calls.spliced_nil ?_)))
 subst ey
 cases (show iv=Value.ref b from ry)
 exact ziO hu ne I2 ea ka n.1 n.2 hz hl fun s3 I3=>⟨.non,_,I3,rfl,q2⟩
section
variable {prog:Program}{w:World}{A:Around}{E:Value→Shared→Prop}{s:Shared}{d:Addr}{o:Obj}{es:Array DictEntry}{ep:Nat}
theorem zhz {Q:Value→Shared→Prop}(ho:s.heap.get? d=some o) (hx:o.ExactDict) (hd:o.data=.dict es ep) (hs:(d == sysModules)=false)
  (q:Q (.ref s.heap.objs.size) { s with heap:=s.heap.push { cls:=.type "dict_keyiterator",data:=.fields #[.ref d,.int 0 0,.int es.size 0,.int ep 0] } }):wpAny (model prog w) A (pyIter (.ref d)) Q E s:=by
 have ty:s.TypeIs (.ref d) "dict":=⟨o,ho,hx.1⟩
 have nx:=F.slot_dict_keyiterator_next.lookup
 have body:wpAny (model prog w) A.in1 (Builtin.«dict.__iter__» ⟨[.ref d],[]⟩) (fun fin s'=>∃ v,fin=.done (.ret v)∧∃ T' r,s'.TypeIs v T'∧typeLookup (Value.type T') (Str.ofString "__next__")=pure (some r)∧Q v s') E s:=by
  unfold Builtin.«dict.__iter__» Builtin.Dict.dictSlotNone
  refine J0 (J0 (wpAny_notOrdered_dict ty (J0 ?_)))
  show wpAny _ _ (pure ((.ref d,[]):Value × List Value)) _ _ _
  refine J9 (J9 (J0 ?_))
  refine(show wpAny _ _ (pure d) _ _ _ from J9 (J0 ?_))
  unfold Builtin.Dict.showsAll
  rw[Jc (by rw[hs];simp)]
  refine J9 (J0 (wpAny_dictEntries ho hd (J0 (wpAny_dictEpoch ho hd (J0 ?_)))))
  exact JG (J9 ⟨_,rfl,_,_,⟨_,Jp _ rfl,rfl⟩,nx,q⟩)
 exact wpAny_pyIter_slot ty F.slot_dict_iter (wpAny_call_entry F.slot_dict_iter ty F.entry_dict_iter body (F.args_dict_iter_1 _))
end
section
variable {prog:Program}{w:World}{A:Around}{E:Value→Shared→Prop}{s:Shared}{d it:Addr}{o:Obj}{es:Array DictEntry}{ep i:Nat}{e:DictEntry}
theorem zhd {Q:Value→Shared→Prop}(ho:s.heap.get? d=some o) (hd:o.data=.dict es ep) (hi:s.heap.IsKeyIter it d i es.size ep) (he:es[i]?=some e)
  (q:∀ h',h'.IsKeyIter it d (i+1) es.size ep→(∀ b u,b≠it→s.heap.get? b=some u→h'.get? b=some u)→Q e.key { s with heap:=h' }) :
  wpAny (model prog w) A (Builtin.«dict_keyiterator.__next__» ⟨[.ref it],[]⟩) (fun fin s'=>∃ v,fin=.done (.ret v)∧Q v s') E s:=by
 obtain⟨q1,g1,g2,g3⟩:=id hi
 have ty:s.TypeIs (.ref it) "dict_keyiterator":=⟨q1,g1,g2⟩
 unfold Builtin.«dict_keyiterator.__next__»
 refine J0 ?_
 show wpAny _ _ (pure (Value.ref it)) _ _ _
 refine J9 (J0 (J0 (J0 (wpAny_typeNameOfWhole_keyiter ty (J9 (J0 (wpAny_fieldsOf g1 g3 ?_)))))))
 show wpAny _ _ (Builtin.Dict_items.addrOf (Value.ref d) >>= _) _ _ _
 refine J0 (show wpAny _ _ (pure d) _ _ _ from J9 (J0 (wpAny_dictEntries ho hd ?_)))
 dsimp only
 rw[Jc (c:=((es.size:Int) != (es.size:Int))=true) (by simp)]
 refine J0 (show wpAny _ _ (pure d) _ _ _ from J9 (J0 (wpAny_dictEpoch ho hd ?_)))
 rw[Jc (c:=((ep:Int) != (ep:Int))=true) (by simp)]
 refine J9 ?_
 dsimp only
 rw[Jc (c:=(i:Int)<0) (by lia),Y7,he]
 refine J0 (J0 (wpAny_typeNameOfWhole_keyiter ty (J9 (J0 (wpAny_isOneOf_keyiter ty ?_)))))
 show wpAny _ _ (setField (.ref it) 1 (rawInt ((i:Int)+1)) >>= _) _ _ _
 refine J0 (wpAny_setField g1 g3 (by show 1<4;lia) ?_)
 have nd:(q1.mapFields (·.setIfInBounds 1 (rawInt ((i:Int)+1)))).data=.fields #[.ref d,.int ((i+1:Nat):Int) 0,.int es.size 0,.int ep 0]:=Obj.data_mapFields g3 _
 have sm:=Heap.SameBut.update s.heap it (Obj.mapFields (·.setIfInBounds 1 (rawInt ((i:Int)+1))))
 have g1':=Heap.get?_update_self (Obj.mapFields (·.setIfInBounds 1 (rawInt ((i:Int)+1)))) g1 (Obj.isFreed_of_fields nd)
 have hi':(s.heap.update it (Obj.mapFields (·.setIfInBounds 1 (rawInt ((i:Int)+1))))).IsKeyIter it d (i+1) es.size ep:=⟨_,g1',(Obj.cls_mapFields ..).trans g2,nd⟩
 refine J0 (Ya (J0 (wpAny_isOneOf_keyiter ⟨_,g1',(Obj.cls_mapFields ..).trans g2⟩ ?_)))
 exact J9 (J9 ⟨_,rfl,q _ hi' fun b u nb hb=>(sm.2 b nb).trans hb⟩)
theorem ziL {Q:Option Value→Shared→Prop}(ho:s.heap.get? d=some o) (hd:o.data=.dict es ep) (hi:s.heap.IsKeyIter it d i es.size ep) (he:es[i]?=some e)
  (q:∀ h',h'.IsKeyIter it d (i+1) es.size ep→(∀ b u,b≠it→s.heap.get? b=some u→h'.get? b=some u)→Q (some e.key) { s with heap:=h' }):wpAny (model prog w) A (pyNext (.ref it)) Q E s:=by
 obtain⟨q1,g1,g2,g3⟩:=id hi
 have ty:s.TypeIs (.ref it) "dict_keyiterator":=⟨q1,g1,g2⟩
 unfold pyNext
 exact J0 (wpAny_attempt (wpAny_callSpecial?_slot ty F.slot_dict_keyiterator_next (wpAny_call_entry F.slot_dict_keyiterator_next ty F.entry_dict_keyiterator_next (zhd ho hd hi he fun h' hi' k=>J9 (q h' hi' k)) (F.args_dict_keyiterator_next_1 _))))
theorem zhu {Q:Fin→Shared→Prop}(hh:A.handled=none) (ho:s.heap.get? d=some o) (hd:o.data=.dict es ep) (hi:s.heap.IsKeyIter it d i es.size ep) (he:es[i]?=none)
  (q:∀ h' ev,Heap.ExtBut it s.heap h'→({ s with heap:=h' }:Shared).TypeIs ev "StopIteration"→E ev { s with heap:=h' }) :
  wpAny (model prog w) A (Builtin.«dict_keyiterator.__next__» ⟨[.ref it],[]⟩) Q E s:=by
 obtain⟨q1,g1,g2,g3⟩:=id hi
 have ty:s.TypeIs (.ref it) "dict_keyiterator":=⟨q1,g1,g2⟩
 unfold Builtin.«dict_keyiterator.__next__»
 refine J0 ?_
 show wpAny _ _ (pure (Value.ref it)) _ _ _
 refine J9 (J0 (J0 (J0 (wpAny_typeNameOfWhole_keyiter ty (J9 (J0 (wpAny_fieldsOf g1 g3 ?_)))))))
 show wpAny _ _ (Builtin.Dict_items.addrOf (Value.ref d) >>= _) _ _ _
 refine J0 (show wpAny _ _ (pure d) _ _ _ from J9 (J0 (wpAny_dictEntries ho hd ?_)))
 dsimp only
 rw[Jc (c:=((es.size:Int) != (es.size:Int))=true) (by simp)]
 refine J0 (show wpAny _ _ (pure d) _ _ _ from J9 (J0 (wpAny_dictEpoch ho hd ?_)))
 rw[Jc (c:=((ep:Int) != (ep:Int))=true) (by simp)]
 refine J9 ?_
 dsimp only
 rw[Jc (c:=(i:Int)<0) (by lia),Y7,he]
 refine J0 (J0 (wpAny_typeNameOfWhole_keyiter ty (J9 (J0 ?_))))
 show wpAny _ _ (setField (.ref it) 0 .none) _ _ _
 refine wpAny_setField g1 g3 (by show 0<4;lia) (J0 ?_)
 unfold newExc newTuple
 refine J0 (JG ?_ (by show 0≤sizeLine;exact JH _))
 unfold firstArgMember
 refine J0 (J0 (J9 (J9 (JG (wpAny_raiseNew_none hh ?_) ?_))))
 rotate_left
 ·show (_++_:Array Value).size≤sizeLine+2
  rw[Jr]
  show 6+0≤sizeLine+2
  rw[Jy];lia
 refine q _ _ (fun b u nb hb=>?_) ⟨_,Jp _ rfl,rfl⟩
 exact J8 _ (J8 _ (((Heap.SameBut.update s.heap it _).2 b nb).trans hb))
theorem ziN {Q:Option Value→Shared→Prop}(hh:A.handled=none) (ho:s.heap.get? d=some o) (hd:o.data=.dict es ep) (hi:s.heap.IsKeyIter it d i es.size ep) (he:es[i]?=none)
  (q:∀ h',Heap.ExtBut it s.heap h'→Q none { s with heap:=h' }):wpAny (model prog w) A (pyNext (.ref it)) Q E s:=by
 obtain⟨q1,g1,g2,g3⟩:=id hi
 have ty:s.TypeIs (.ref it) "dict_keyiterator":=⟨q1,g1,g2⟩
 unfold pyNext
 refine J0 (wpAny_attempt (wpAny_callSpecial?_slot ty F.slot_dict_keyiterator_next (wpAny_call_entry F.slot_dict_keyiterator_next ty F.entry_dict_keyiterator_next (zhu hh ho hd hi he fun h' ev k te=>?_) (F.args_dict_keyiterator_next_1 _))))
 exact J0 (wpAny_isInstance te isSubtype_stop (J9 (q h' k)))
end
section
variable {X:Cx}{pins:List (Addr × Obj)}{σ:St}{H:Hp}{s:Shared}{d:Addr}{o:Obj}{xs:KVN}
theorem Inv.freezeN (I:Inv X pins σ H s) (hd:H d=some (DN X.prog X.w d xs)):∃ o es ep,s.heap.get? d=some o∧o.ExactDict∧o.data=.dict es ep∧es.size=xs.length∧(d == sysModules)=false∧Inv X pins σ (upd H d (.frz o (DN X.prog X.w d xs))) s:=by
 obtain⟨hs,o,es,ep,h1,h2,h3,l,_⟩:=ziP I.hok (.inl hd)
 refine⟨o,es,ep,h1,h2,h3,l,hs,I.reword hd (fun xs q=>by cases q) (fun xs q=>by cases q) (fun xs q=>by cases q) (fun o' u' q=>?_) ⟨h1,(show ObjOk X.prog X.w H s.heap d (DN X.prog X.w d xs) from I.hok d _ hd)⟩⟩
 have:=I.base.frzs d o' u' q
 rw[hd]at this;cases this
theorem Inv.thawN (I:Inv X pins σ H s) (hd:H d=some (.frz o (DN X.prog X.w d xs))) (nz:∀ o' u',X.H₀ d≠some (.frz o' u')):Inv X pins σ (upd H d (DN X.prog X.w d xs)) s:=by
 obtain⟨_,r⟩:=(show ObjOk X.prog X.w H s.heap d (.frz o (DN X.prog X.w d xs)) from I.hok d _ hd)
 exact I.reword hd (fun xs q=>by cases q) (fun xs q=>by cases q) (fun xs q=>by cases q) nz r
theorem Inv.meltedN (I:Inv X pins σ H s) {ys:KVN}(hd:H d=some (DN X.prog X.w d ys)):∀ o' u',X.H₀ d≠some (.frz o' u'):=fun o' u' q=>by
 have:=I.base.frzs d o' u' q
 rw[hd]at this;cases this
theorem Inv.walkedN {es:Array DictEntry}{ep:Nat}(I:Inv X pins σ H s) (hd:H d=some (.frz o (DN X.prog X.w d xs))) (ho:o.data=.dict es ep):s.heap.get? d=some o∧∃ vs,Paired PrN xs vs∧es.toList=vs.map (entryOfKey (zaN X.prog X.w)):=by
 obtain⟨g,⟨z,hm,vs,r,o2,es2,ep2,h1,h2,h3,h4,h5⟩,_,_⟩:=(show ObjOk X.prog X.w H s.heap d (.frz o (DN X.prog X.w d xs)) from I.hok d _ hd)
 rw[g]at h1
 obtain rfl:=Option.some.inj h1
 rw[ho]at h3
 cases h3
 exact⟨g,vs,r,h4⟩
end
theorem zlK {xs:KVN}{vs:List (KN × Addr × Value)}(r:Paired PrN xs vs):∀ {i:Nat}{p:KN × Addr × V},xs[i]?=some p→∃ q,vs[i]?=some q∧PrN p q:=by
 induction r with
 | nil=>intro i p h;cases h
 | cons q t ih =>
  intro i p h
  cases i with
  | zero=>cases Option.some.inj h;exact⟨_,rfl,q⟩
  | succ i=>exact ih h
section
variable {X:Cx}{tg:Expr}
end
section
variable {prog:Program}{w:World}{A:Around}{E:Value→Shared→Prop}{s:Shared}{d it:Addr}{o:Obj}{es:Array DictEntry}{ep i:Nat}{e:DictEntry}{k0 v0:Value}
theorem zf2 {Q:Value→Shared→Prop}(ho:s.heap.get? d=some o) (hd:o.data=.dict es ep) (hi:IsItemIter s.heap it d i es.size ep k0 v0) (he:es[i]?=some e)
  (q:∀ h',IsItemIterOut h' it d (i+1) es.size ep e.key e.val s.heap.objs.size→h'.get? s.heap.objs.size=some { cls:=.type "tuple",data:=.seq #[e.key,e.val] }→(∀ b u,b≠it→s.heap.get? b=some u→h'.get? b=some u)→Q (.ref s.heap.objs.size) { s with heap:=h' }) :
  wpAny (model prog w) A (Builtin.«dict_itemiterator.__next__» ⟨[.ref it],[]⟩) (fun fin s'=>∃ v,fin=.done (.ret v)∧Q v s') E s:=by
 have ty:s.TypeIs (.ref it) "dict_itemiterator":=⟨_,hi,rfl⟩
 unfold Builtin.«dict_itemiterator.__next__»
 refine J0 ?_
 show wpAny _ _ (pure (Value.ref it)) _ _ _
 refine J9 (J0 (J0 (J0 (wpAny_typeNameOfWhole_itemiter ty (J9 (J0 (wpAny_fieldsOf hi rfl ?_)))))))
 show wpAny _ _ (Builtin.Dict_items.addrOf (Value.ref d) >>= _) _ _ _
 refine J0 (show wpAny _ _ (pure d) _ _ _ from J9 (J0 (wpAny_dictEntries ho hd ?_)))
 dsimp only
 rw[Jc (c:=((es.size:Int) != (es.size:Int))=true) (by simp)]
 refine J0 (show wpAny _ _ (pure d) _ _ _ from J9 (J0 (wpAny_dictEpoch ho hd ?_)))
 rw[Jc (c:=((ep:Int) != (ep:Int))=true) (by simp)]
 refine J9 ?_
 dsimp only
 rw[Jc (c:=(i:Int)<0) (by lia),Y7,he]
 refine J0 (J0 (wpAny_typeNameOfWhole_itemiter ty (J9 (J0 (wpAny_isOneOf_itemiter ty ?_)))))
 show wpAny _ _ (setField (.ref it) 3 (rawInt ((i:Int)+1)) >>= _) _ _ _
 refine J0 (wpAny_setField_rec hi (by show 3<8;lia) fun h1 g1 sm1=>J0 (Ya (J0 (wpAny_isOneOf_itemiter ⟨_,g1,rfl⟩ ?_))))
 show wpAny _ _ (Builtin.Dict_items.isOneOf _ _ >>= _) _ _ _
 refine J0 (wpAny_isOneOf_itemiter ⟨_,g1,rfl⟩ ?_)
 show wpAny _ _ (Builtin.Dict_items.pairFromOwner (.ref it) 6 e.key e.val) _ _ _
 unfold Builtin.Dict_items.pairFromOwner newTuple
 refine J0 (JG ?_ (by show 2≤sizeLine;decide))
 have g2:=J8 { cls:=Value.type "tuple",data:=Data.seq #[e.key,e.val] } g1
 have g3:=Jp h1 (o:={ cls:=Value.type "tuple",data:=Data.seq #[e.key,e.val] }) rfl
 have nT:h1.objs.size≠it:=Yz (Jn g1)
 have sz:h1.objs.size=s.heap.objs.size:=sm1.1
 have k2:∀ b u,b≠it→s.heap.get? b=some u→(h1.push { cls:=Value.type "tuple",data:=Data.seq #[e.key,e.val] }).get? b=some u:=fun b u nb hb=>J8 _ ((sm1.2 b nb).trans hb)
 show wpAny (model prog w) A _ _ E { s with heap:=h1.push { cls:=Value.type "tuple",data:=Data.seq #[e.key,e.val] } }
 generalize h1.push { cls:=Value.type "tuple",data:=Data.seq #[e.key,e.val] }=h2 at g2 g3 k2
 show wpAny _ _ ((field (.ref it) 0 >>= _) >>= _) _ _ _
 refine J0 (J0 (wpAny_field g2 rfl rfl ?_))
 show wpAny _ _ (pure true) _ _ _
 refine J9 ?_
 show wpAny _ _ (field (.ref it) 6 >>= _) _ _ _
 refine J0 (wpAny_field g2 rfl rfl (J0 (wpAny_field g2 rfl rfl ?_)))
 refine J0 (wpAny_setField_rec g2 (by show 6<8;lia) fun h3 g4 sm3=>J0 (wpAny_setField_rec g4 (by show 7<8;lia) fun h4 g5 sm4=>J0 (wpAny_setField_rec g5 (by show 0<8;lia) fun h5 g6 sm5=>J0 (wpAny_setField_rec g6 (by show 1<8;lia) fun h6 g7 sm6=>J0 (Zg ?_)))))
 have sm:=((sm3.trans sm4).trans sm5).trans sm6
 refine J9 (J9 ⟨_,rfl,?_⟩)
 show Q (.ref h1.objs.size) _
 rw[sz]at g3 g7 nT ⊢
 exact q h6 g7 ((sm.2 _ nT).trans g3) fun b u nb hb=>(sm.2 b nb).trans (k2 b u nb hb)
theorem zha {Q:Option Value→Shared→Prop}(ho:s.heap.get? d=some o) (hd:o.data=.dict es ep) (hi:IsItemIter s.heap it d i es.size ep k0 v0) (he:es[i]?=some e)
  (q:∀ h',IsItemIterOut h' it d (i+1) es.size ep e.key e.val s.heap.objs.size→h'.get? s.heap.objs.size=some { cls:=.type "tuple",data:=.seq #[e.key,e.val] }→(∀ b u,b≠it→s.heap.get? b=some u→h'.get? b=some u)→Q (some (.ref s.heap.objs.size)) { s with heap:=h' }):wpAny (model prog w) A (pyNext (.ref it)) Q E s:=by
 have ty:s.TypeIs (.ref it) "dict_itemiterator":=⟨_,hi,rfl⟩
 unfold pyNext
 exact J0 (wpAny_attempt (wpAny_callSpecial?_slot ty F.slot_dict_itemiterator_next (wpAny_call_entry F.slot_dict_itemiterator_next ty F.entry_dict_itemiterator_next (zf2 ho hd hi he fun h' a1 a2 a3=>J9 (q h' a1 a2 a3)) (F.args_dict_itemiterator_next_1 _))))
theorem zga {Q:Fin→Shared→Prop}(hh:A.handled=none) (ho:s.heap.get? d=some o) (hd:o.data=.dict es ep) (hi:IsItemIter s.heap it d i es.size ep k0 v0) (he:es[i]?=none)
  (q:∀ h' ev,Heap.ExtBut it s.heap h'→({ s with heap:=h' }:Shared).TypeIs ev "StopIteration"→E ev { s with heap:=h' }) :
  wpAny (model prog w) A (Builtin.«dict_itemiterator.__next__» ⟨[.ref it],[]⟩) Q E s:=by
 have ty:s.TypeIs (.ref it) "dict_itemiterator":=⟨_,hi,rfl⟩
 unfold Builtin.«dict_itemiterator.__next__»
 refine J0 ?_
 show wpAny _ _ (pure (Value.ref it)) _ _ _
 refine J9 (J0 (J0 (J0 (wpAny_typeNameOfWhole_itemiter ty (J9 (J0 (wpAny_fieldsOf hi rfl ?_)))))))
 show wpAny _ _ (Builtin.Dict_items.addrOf (Value.ref d) >>= _) _ _ _
 refine J0 (show wpAny _ _ (pure d) _ _ _ from J9 (J0 (wpAny_dictEntries ho hd ?_)))
 dsimp only
 rw[Jc (c:=((es.size:Int) != (es.size:Int))=true) (by simp)]
 refine J0 (show wpAny _ _ (pure d) _ _ _ from J9 (J0 (wpAny_dictEpoch ho hd ?_)))
 rw[Jc (c:=((ep:Int) != (ep:Int))=true) (by simp)]
 refine J9 ?_
 dsimp only
 rw[Jc (c:=(i:Int)<0) (by lia),Y7,he]
 refine J0 (J0 (wpAny_typeNameOfWhole_itemiter ty (J9 (J0 ?_))))
 show wpAny _ _ (setField (.ref it) 2 .none) _ _ _
 refine wpAny_setField hi rfl (by show 2<8;lia) (J0 ?_)
 unfold newExc newTuple
 refine J0 (JG ?_ (by show 0≤sizeLine;exact JH _))
 unfold firstArgMember
 refine J0 (J0 (J9 (J9 (JG (wpAny_raiseNew_none hh ?_) ?_))))
 rotate_left
 ·show (_++_:Array Value).size≤sizeLine+2
  rw[Jr]
  show 6+0≤sizeLine+2
  rw[Jy];lia
 refine q _ _ (fun b u nb hb=>?_) ⟨_,Jp _ rfl,rfl⟩
 exact J8 _ (J8 _ (((Heap.SameBut.update s.heap it _).2 b nb).trans hb))
theorem zhb {Q:Option Value→Shared→Prop}(hh:A.handled=none) (ho:s.heap.get? d=some o) (hd:o.data=.dict es ep) (hi:IsItemIter s.heap it d i es.size ep k0 v0) (he:es[i]?=none)
  (q:∀ h',Heap.ExtBut it s.heap h'→Q none { s with heap:=h' }):wpAny (model prog w) A (pyNext (.ref it)) Q E s:=by
 have ty:s.TypeIs (.ref it) "dict_itemiterator":=⟨_,hi,rfl⟩
 unfold pyNext
 refine J0 (wpAny_attempt (wpAny_callSpecial?_slot ty F.slot_dict_itemiterator_next (wpAny_call_entry F.slot_dict_itemiterator_next ty F.entry_dict_itemiterator_next (zga hh ho hd hi he fun h' ev k te=>?_) (F.args_dict_itemiterator_next_1 _))))
 exact J0 (wpAny_isInstance te isSubtype_stop (J9 (q h' k)))
theorem zgb {v:Addr}{Q:Value→Shared→Prop}(hv:s.heap.IsItemsView v d) (ho:s.heap.get? d=some o) (hd:o.data=.dict es ep)
  (q:Q (.ref s.heap.objs.size) { s with heap:=s.heap.push { cls:=.type "dict_itemiterator",data:=.fields #[.none,.bool false,.ref d,.int 0 0,.int es.size 0,.int ep 0,.none,.none] } }):wpAny (model prog w) A (pyIter (.ref v)) Q E s:=by
 obtain⟨ov,v1,v2,v3⟩:=id hv
 have ty:=hv.typeIs
 have nx:=F.slot_dict_itemiterator_next.lookup
 have body:wpAny (model prog w) A.in1 (Builtin.«dict_items.__iter__» ⟨[.ref v],[]⟩) (fun fin s'=>∃ v,fin=.done (.ret v)∧∃ T' r,s'.TypeIs v T'∧typeLookup (Value.type T') (Str.ofString "__next__")=pure (some r)∧Q v s') E s:=by
  unfold Builtin.«dict_items.__iter__» Builtin.Dict_items.newIterator
  refine J0 (show wpAny _ _ (pure (Value.ref v)) _ _ _ from J9 (J0 (J0 (wpAny_field v1 v3 rfl ?_))))
  refine(show wpAny _ _ (pure d) _ _ _ from J9 (J0 ?_))
  refine J0 (wpAny_dictEntries ho hd (J0 (wpAny_dictEpoch ho hd ?_)))
  refine JG (J9 ⟨_,rfl,_,_,⟨_,Jp _ rfl,rfl⟩,nx,q⟩) ?_
  show 8≤sizeLine+2
  rw[Jy];lia
 exact wpAny_pyIter_slot ty F.slot_dict_items_iter (wpAny_call_entry F.slot_dict_items_iter ty F.entry_dict_items_iter body (F.args_dict_items_iter_1 _))
end
def Itni (P:Program) (w:World) (d:Addr) (o:Obj) (xs:KVN):It:=⟨fun i H=>H d=some (.frz o (DN P w d xs))∧i<xs.length,fun i H x H'=>∃ p T,xs[i]?=some p∧H T=none∧x=.ref T∧H'=upd H T (.tup [.ref p.2.1,p.2.2]),fun i H=>H d=some (.frz o (DN P w d xs))∧i=xs.length⟩
theorem zeb {P:Program}{w:World}{K:PySem.W.Frag}{els:List Expr}{k1} {p1:Pos}(d it:Addr) (o:Obj) (xs:KVN) {es:Array DictEntry}{ep:Nat}(ho:o.data=.dict es ep) (hl:es.size=xs.length):Turn P w K (.Tuple els k1 p1) (Itni P w d o xs) [it] it (fun i h=>∃ a b,IsItemIter h it d i es.size ep a b) where
 mem:=Jd.mpr rfl
 obj:=fun i h ⟨a,b,st⟩ c hc=>by
  cases Jd.mp hc
  exact⟨_,st,fun v z=>by cases z⟩
 keep:=fun i h h' ⟨a,b,st⟩ k=>⟨a,b,k it (Jd.mpr rfl) _ st⟩
 item:=by
  intro X hP hw hK hc i pins s σ H E I hf ⟨a,b,st⟩ ⟨hd,il⟩
  subst hP hw hK
  obtain⟨g,vs,r,e4⟩:=I.walkedN hd ho
  have f:=hf it (Jd.mpr rfl)
  obtain⟨p,hp⟩:∃ p,xs[i]?=some p:=⟨_,J7 il⟩
  obtain⟨q,hq,pq⟩:=zlK r hp
  have ei:es[i]?=some (entryOfKey (zaN X.prog X.w) q):=by rw[entry_at e4,hq];rfl
  have nT:s.heap.objs.size≠it:=Yz (Jn st)
  refine zha g ho st ei fun h1 ht hT kk=>⟨_,rfl,wpAny_letOwnedTupleGo_items ht fun h2 he2 s2=>?_⟩
  have rk:RelV (.ref p.2.1) (Value.ref q.2.1):=by show Value.ref q.2.1=Value.ref p.2.1;rw[pq.2.1]
  refine⟨.ref s.heap.objs.size,upd H s.heap.objs.size (.tup [.ref p.2.1,p.2.2]),I.spunN (t':=s.toks) (fp:=[it]) (fun c u hm e=>?_) hf (Jg _) (zes ((s2.2 _ nT).trans hT) rk pq.2.2),rfl,⟨p,_,hp,I.fresh,rfl,rfl⟩,⟨_,_,he2⟩,fun c hm=>?_⟩
  ·have ne:c≠it:=fun z=>hm (Jd.mpr z)
   exact(s2.2 c ne).trans (kk c u ne e)
  ·cases Jd.mp hm
   rw[zad nT.symm];exact f.1
 done:=by
  intro X hP hw hK hc i pins s σ H E I hf ⟨a,b,st⟩ ⟨hd,il⟩
  subst hP hw hK
  obtain⟨g,vs,r,e4⟩:=I.walkedN hd ho
  obtain⟨f0,f1,f2,f3,f4,f5⟩:=hf it (Jd.mpr rfl)
  exact zhb (I.ok.hd hc) g ho st (Array.getElem?_eq_none (by lia)) fun h' kk=>⟨rfl,I.turned (t':=s.toks) (fun c u hb e=>kk c u hb e) f0 f1 f3 f4 f5⟩
 self:=fun _ _ _ _ _ ⟨_,_,st⟩ h=>PySem.W.kcp_self st h
section
variable {X:Cx}
def zkw (P:Program) (w:World) (te:TE):TI:=fun σ H R=>te σ H fun x H1=>∃ d xs,x=.ref d∧H1 d=some (DN P w d xs)∧∀ o,R (Itni P w d o xs) (upd H1 d (.frz o (DN P w d xs)))
theorem zgd {prog:Program}{w:World}{A:Around}{E:Value→Shared→Prop}{s:Shared}{d:Addr}{o:Obj}{Q:Value→Shared→Prop}(ho:s.heap.get? d=some o) (hx:o.ExactDict) (hs:(d == sysModules)=false)
  (q:Q (.ref s.heap.objs.size) { s with heap:=s.heap.push { cls:=.type "dict_items",data:=.fields #[.ref d] } }):wpAny (model prog w) A (call (.builtin "dict.items") [.ref d]) Q E s:=by
 have ty:s.TypeIs (.ref d) "dict":=⟨o,ho,hx.1⟩
 refine wpAny_call_entry F.slot_dict_items ty F.entry_dict_items ?_ (F.args_dict_items_1 _)
 unfold Builtin.«dict.items» Builtin.Dict.showsAll
 refine J0 ?_
 show wpAny _ _ (Builtin.Dict.notOrdered "items" ⟨[Value.ref d],[]⟩ >>= _) _ _ _
 refine J0 (wpAny_notOrdered_dict (s:=s) ty ?_)
 refine(show wpAny _ _ (pure d) _ _ _ from J9 ?_)
 rw[Jc (by rw[hs];simp)]
 refine J0 (J9 (J0 (JG (J9 ⟨_,rfl,q⟩) ?_)))
 show 1≤sizeLine+2
 rw[Jy];lia
theorem zgU {l:Expr}{tl:TE}{apos cpos p1:Pos}{els:List Expr}{k1} (hl:PE X l tl) (hbase:attributeBase l "items" X.env (eval l X.env)=eval l X.env:=by rfl) (hline:(apos.endLine == cpos.line)=true:=by rfl):PI X (.Tuple els k1 p1) (.Call (.Attribute l "items" apos) [] [] cpos) (zkw X.prog X.w tl):=by
 intro pins s σ H R I h
 refine wpAny_Call_method0_late hbase hline (thn (hl pins s σ H _ I h) fun v s1 ⟨x,H1,I1,r1,d,xs,ex,hd,q⟩=>?_)
 subst ex
 cases r1
 obtain⟨t1,t2⟩:=zhe I1 (.inl hd)
 obtain⟨o,es,ep,g,hx,ho,le,hs,I2⟩:=I1.freezeN hd
 refine⟨"dict","dict.items",PySem.F.plainAttrs_dict,PySem.F.slot_dict_items,PySem.F.type_dict_items,t1,t2,Calls.callWith_builtin rfl (PySem.evalArgs_none ?_)⟩
 refine zgd g hx hs ?_
 have I3:=I2.kept (t':=s1.toks) (h':=s1.heap.push { cls:=.type "dict_items",data:=.fields #[.ref d] }) fun b u e=>J8 _ e
 have g3:=J8 { cls:=.type "dict_items",data:=.fields #[.ref d] } g
 refine zgb (s:={ s1 with heap:=s1.heap.push { cls:=.type "dict_items",data:=.fields #[.ref d] } }) ⟨_,Jp _ rfl,rfl,rfl⟩ g3 ho ?_
 refine⟨_,[_],_,_,_,rfl,I3.kept (t':=s1.toks) fun b u e=>J8 _ e,zeb d _ o xs ho le,⟨_,_,Jp _ rfl⟩,fun b hb=>?_,q o⟩
 cases Jd.mp hb
 exact I3.fpOk (Jg _) (I3.hok.fresh (Jg _))
end
end L2
namespace L2
open PySem PySem.Spec PyProof.Rows Own PySem.W
section
variable {prog:Program}{w:World}{d:Addr}{o:Obj}{es:Array DictEntry}{ep:Nat}
theorem zii (hx:o.ExactDict) (hd:o.data=.dict es ep) (hs:(d == sysModules)=false):KdlSrc prog w "dict" d d es.size (fun i v=>∃ e,es[i]?=some e∧v=e.key) (fun h=>h.get? d=some o) where
 type:=fun s ho=>⟨o,ho,hx.1⟩
 there:=fun h ho=>⟨Jn ho,Jn ho⟩
 keep:=fun h h' ho k=>k d (.inl rfl) _ ho
 notList:=by decide
 notTuple:=by decide
 hint:=fun A E s Q ho q=>by
  have ty:s.TypeIs (.ref d) "dict":=⟨o,ho,hx.1⟩
  show wpAny _ _ (specialOf (.ref d) _ >>= _) _ _ _
  refine J0 (wpAny_specialOf (T:="dict") ty F.slot_dict_len.lookup ?_)
  show wpAny _ _ (isInstance (.ref d) (.type "dict") >>= _) _ _ _
  refine J0 (wpAny_isInstance (T:="dict") (b:=true) ty rfl ?_)
  show wpAny _ _ (typeOf (.ref d) >>= _) _ _ _
  exact J0 (wpAny_typeOf ty (J9 q))
 iter:=fun A s hh ho=>by
  refine⟨{ cls:=.type "dict_keyiterator",data:=.fields #[.ref d,.int 0 0,.int es.size 0,.int ep 0] },fun i h=>h.IsKeyIter s.heap.objs.size d i es.size ep∧h.get? d=some o,fun E Q q=>zhz ho hx hd hs q,?_,⟨_,Jp _ rfl,rfl,rfl⟩,J8 _ ho⟩
  have nd:d≠s.heap.objs.size:=JB (Jn ho)
  refine⟨fun b hb=>List.mem_cons.mpr (.inl (Jd.mp hb)),fun i h h' st k=>⟨st.1.at (k _ JD),k d (JC _ JD) _ st.2⟩,fun i s1 Q E il st q=>?_,fun s1 Q E st q=>?_,fun i s1 Q E st q=>wpAny_pyIter_keyiter st.1 q⟩
  ·have ei:es[i]?=some es[i]:=YW il
   exact ziL st.2 hd st.1 ei fun h' st' k=>q _ h' s1.toks ⟨_,ei,rfl⟩ ⟨st',k d o nd st.2⟩ fun b u nb hb=>k b u (fun z=>nb (Jd.mpr z)) hb
  ·exact ziN hh st.2 hd st.1 (Array.getElem?_eq_none (Jg _)) fun h' k=>q h' s1.toks fun b u nb hb=>k b u (fun z=>nb (Jd.mpr z)) hb
end
end L2
namespace L2
open PySem PySem.Spec PyProof.Rows Own Ts PySem.W
section
variable {prog:Program}{w:World}{A:Around}{E:Value→Shared→Prop}{s:Shared}
theorem zi5 {Q:Bool→Shared→Prop}(cs:List Ordering):∀ (us vs:List Value) (i:Nat),us.length=cs.length→vs.length=cs.length→(∀ (j:Nat) u v c,us[j]?=some u→vs[j]?=some v→cs[j]?=some c→SeqAt.EqAt A s u v (c == .eq)∧(c≠.eq→LtAt A s u v (c == .lt))) →
  Q (cs.foldr Ordering.then .eq == .lt) s→PySem.W.KatLex prog w A false false Q (us.zip vs) i s:=by
 induction cs with
 | nil =>
  intro us vs i l1 l2 _ q
  rw[Z6.mp l1]
  exact PySem.W.kat_nil q
 | cons c cs ih =>
  intro us vs i l1 l2 h q
  obtain⟨u,us,rfl⟩:∃ u us',us=u::us':=by
   cases us with
   | nil=>simp at l1
   | cons u us=>exact⟨u,us,rfl⟩
  obtain⟨v,vs,rfl⟩:∃ v vs',vs=v::vs':=by
   cases vs with
   | nil=>simp at l2
   | cons v vs=>exact⟨v,vs,rfl⟩
  have hh:=h 0 u v c rfl rfl rfl
  refine PySem.W.kat_cons (hh.1 prog w _ _ ?_)
  by_cases z:c=.eq
  ·subst z
   refine PySem.W.kat_yes (ih us vs (i+1) (by simpa using l1) (by simpa using l2) (fun j u v c a1 a2 a3=>h (j+1) u v c (by simpa using a1) (by simpa using a2) (by simpa using a3)) q)
  ·have e1:(c == Ordering.eq)=false:=by simpa using z
   have e2:(c::cs).foldr Ordering.then .eq=c:=by
    rw[List.foldr_cons]
    cases c<;>first|rfl|exact absurd rfl z
   rw[e2]at q
   rw[e1]
   refine PySem.W.kat_no ?_
   rw[Bool.false_and]
   exact ziC (hh.2 z) q
end
def RkN (H:Hp) (xs:List V) (rk:V→Int):Prop:=∃ n,n≤20∧∀ x∈xs,(∃ a b r ys,x=.ref a∧H a=some (.tup (.ref b::r))∧H b=some (.tup ys))∧∀ y∈xs,Lx H n x y (compare (rk x) (rk y))
section
variable {X:Cx}
theorem zlW {pins:List (Addr × Obj)}{σ:St}{H:Hp}{s1:Shared}(I:Inv X pins σ H s1) (hu:X.A.units+64<cLine) {xs:List V}{vs:List Value}{rk:V→Int}(r:Vals xs vs) (R:RkN H xs rk) :
  ∃ κ:SortKind,(∀ h':Heap,(∀ c o,s1.heap.get? c=some o→h'.get? c=some o)→2≤vs.length→∀ (A':Around) {Q:SortKind→Shared→Prop}{E:Value→Shared→Prop},Q κ { s1 with heap:=h' }→wpAny (model X.prog X.w) A' (keyKind' vs.toArray) Q E { s1 with heap:=h' }) ∧
   (∀ h':Heap,(∀ c o,s1.heap.get? c=some o→h'.get? c=some o)→∀ (A':Around),A'.units≤X.A.units+8→Cmp X.prog X.w A' { s1 with heap:=h' } κ (fun p=>p.1∈vs) (fun p=>rk (vOf p.1))):=by
 obtain⟨n,hn,R⟩:=R
 obtain⟨ex,rel⟩:=zd9 r fun x hx=>by
  obtain⟨⟨a,b,r,ys,e,_⟩,_⟩:=R x hx
  exact .inr ⟨a,e⟩
 have mem:∀ u∈vs,vOf u∈xs:=fun u hu=>by rw[ex];exact JA.mpr ⟨u,hu,rfl⟩
 refine⟨tuples' (Value.type "tuple" != Value.type "tuple"),fun h' k l2 A' Q E q=>?_,fun h' k A' hA=>⟨fun x y hx hy Q E q=>?_⟩⟩
 ·have I':Inv X pins σ H { s1 with heap:=h',toks:=s1.toks }:=I.kept k
  have kt:∀ us:List Value,(∀ u∈us,vOf u∈xs∧RelV (vOf u) u)→∃ fs,PySem.W.KatTups h' us fs∧fs.length=us.length∧∀ f∈fs,∃ b ys,f=Value.ref b∧H b=some (.tup ys):=by
   intro us
   induction us with
   | nil=>intro _;exact⟨[],PySem.W.KatTups.nil,rfl,fun f hf=>by simp at hf⟩
   | cons u us ih =>
    intro h
    obtain⟨fs,k1,k2,k3⟩:=ih fun v hv=>h v (JC _ hv)
    obtain⟨m1,r1⟩:=h u JD
    obtain⟨⟨a,b,rr,ys,e,ha,hb⟩,_⟩:=R _ m1
    rw[e]at r1
    cases r1
    obtain⟨its,g,⟨o,eo,co,no,dt⟩,_⟩:=I'.tuple (SqT.of ha)
    obtain⟨f0,ef,rf⟩:=g.get (i:=0) (x:=.ref b) rfl
    cases rf
    exact⟨_,PySem.W.KatTups.cons eo co dt (by simpa using ef) k1,by rw[JN,JN,k2],fun f' hf=>by
     rcases List.mem_cons.mp hf with here|hf
     ·exact⟨b,ys,here,hb⟩
     ·exact k3 f' hf⟩
  obtain⟨fs,k1,k2,k3⟩:=kt vs fun u hu=>⟨mem u hu,rel u hu⟩
  refine PySem.W.kat_kind (T:=.type "tuple") k1 (by lia) (fun v hv=>?_) (by decide) q
  obtain⟨b,ys,rfl,hb⟩:=k3 v hv
  obtain⟨its,g,⟨o,eo,co,no,dt⟩,_⟩:=I'.tuple (SqT.of hb)
  exact fun A Q E s ks q=>wpAny_typeOf ⟨o,ks _ _ eo,co⟩ q
 ·have I':Inv X pins σ H { s1 with heap:=h',toks:=s1.toks }:=I.kept k
  obtain⟨x1,x2⟩:=x
  obtain⟨y1,y2⟩:=y
  have rx:=rel x1 hx
  have ry:=rel y1 hy
  obtain⟨⟨a,a2,xr,_,ea,ha,_⟩,lx⟩:=R _ (mem x1 hx)
  obtain⟨⟨b,b2,yr,_,eb,hb,_⟩,_⟩:=R _ (mem y1 hy)
  have L:=lx _ (mem y1 hy)
  simp only at q
  rw[ea]at rx L q
  rw[eb]at ry L q
  cases rx;cases ry
  generalize hc:compare (rk (V.ref a)) (rk (V.ref b))=c at L
  rw[← (zci (rk (V.ref a)) (rk (V.ref b))).2,hc]at q
  cases L with
  | @row n _ _ xs' ys' cs ha' hb' l1 l2 hL =>
   rw[ha]at ha';cases ha'
   rw[hb]at hb';cases hb'
   obtain⟨its,g1,⟨o1,eo1,co1,no1,dt1⟩,_⟩:=I'.tuple (SqT.of ha)
   obtain⟨jts,g2,⟨o2,eo2,co2,no2,dt2⟩,_⟩:=I'.tuple (SqT.of hb)
   have m1:=g1.length
   have m2:=g2.length
   show wpAny _ _ (keyLt' (tuples' false) (.ref a) (.ref b)) _ _ _
   refine PySem.W.kat_lt eo1 dt1 eo2 dt2 ?_
   have ds:decide (its.toArray.size<jts.toArray.size)=false:=Jq (by rw[Jj,Jj];lia)
   rw[ds]
   refine zi5 cs its jts 0 (by lia) (by lia) (fun j u v c hu' hv hc'=>?_) q
   have j1:j<(V.ref a2::xr).length:=by have:=(Je.mp hu').1;lia
   have j2:j<(V.ref b2::yr).length:=by have:=(Je.mp hv).1;lia
   obtain⟨u',e1,q1⟩:=g1.get (J7 j1)
   obtain⟨v',e2,q2⟩:=g2.get (J7 j2)
   rw[hu']at e1;obtain rfl:=Option.some.inj e1
   rw[hv]at e2;obtain rfl:=Option.some.inj e2
   have LL:=hL j _ _ c (J7 j1) (J7 j2) hc'
   exact⟨ziY I' LL A' _ _ (by lia) q1 q2,fun ne=>zk9 I' LL ne A' _ _ (by lia) q1 q2⟩
theorem zjF {xs:KVN}{ws:List (KN × Addr × Value)}(r:Paired PrN xs ws):Vals (xs.map fun p=>V.ref p.2.1) (ws.map fun q=>Value.ref q.2.1):=by
 induction r with
 | nil=>exact .nil
 | @cons p q ps qs h t ih=>exact .cons (by show Value.ref q.2.1=Value.ref p.2.1;rw[h.2.1]) ih
theorem zjn {es:Array DictEntry}{acc:Array Value}(a1:acc.size=es.size) (a2:∀ (j:Nat) (v:Value),acc[j]?=some v→∃ e,es[j]?=some e∧v=e.key):acc.toList=es.toList.map (·.key):=by
 refine List.ext_getElem (by rw[Jm,Jx,Jx,a1]) fun j j1 j2=>?_
 obtain⟨e,h1,h2⟩:=a2 j acc[j] (YW _)
 rw[List.getElem_map,Array.getElem_toList,Array.getElem_toList,h2]
 rw[YW (by rw[← a1];exact j1)]at h1
 rw[Option.some.inj h1]
theorem zd1 (hc:X.calm=true) (hu:X.A.units+64<cLine):CallR X (.builtin "sorted") (fun vs H Q=>∃ a xs rk,vs=[.ref a]∧H a=some (DN X.prog X.w a xs)∧xs.length≤10000∧RkN H (xs.map fun p=>.ref p.2.1) rk∧∀ (l:Addr) (ys:List V),H l=none→ys.Perm (xs.map fun p=>.ref p.2.1)→ys.Pairwise (fun x y=>rk x≤rk y)→Q (.ref l) (upd H l (.lst ys))):=by
 intro pins s σ H vs us Q I rv h
 obtain⟨a,xs,rk,rfl,hd,hz,R,q⟩:=h
 obtain⟨u,rfl,ru⟩:=rv.one
 cases ru
 obtain⟨⟨z,hS,ws,r,o,es,ep,h1,h2,h3,h4,h5⟩,_,_⟩:=(show ObjOk X.prog X.w H s.heap a (DN X.prog X.w a xs) from I.hok a _ hd)
 have wl:es.size=xs.length:=by rw[size_of_entries h4,← Paired.length r]
 refine zjQ (kdu_collect (zii h2 h3 hS) (I.ok.hd hc) h1 (by rw[wl];exact z) fun h1 tk acc k1 hacc=>?_)
 obtain⟨a1,a2⟩:=hacc
 have al:acc.toList=ws.map fun q=>Value.ref q.2.1:=by
  rw[zjn a1 a2,h4,YQ];rfl
 have vs:Vals (xs.map fun p=>V.ref p.2.1) acc.toList:=by rw[al];exact zjF r
 have ll:acc.toList.length=xs.length:=by rw[Jx,a1,wl]
 have I1:Inv X pins σ H { s with heap:=h1,toks:=tk }:=I.kept k1
 obtain⟨κ,hk',hc'⟩:=zlW I1 hu vs R
 obtain⟨ex,rel⟩:=zd9 vs fun x hx=>by
  obtain⟨p,_,rfl⟩:=JA.mp hx
  exact .inr ⟨_,rfl⟩
 refine⟨κ,fun u=>rk (vOf u),by lia,hk',hc',fun h' l e out lo eo pm so kk=>?_⟩
 have vo:Vals (out.map vOf) out:=zds fun u hu=>rel u (pm.mem_iff.mp hu)
 have pv:(out.map vOf).Perm (xs.map fun p=>V.ref p.2.1):=by rw[ex];exact pm.map vOf
 refine⟨.ref l,_,I1.laid (t':=tk) (o:=.lst (out.map vOf)) (fun c o q=>kk c o q) lo ⟨?_,out,e,vo,eo⟩,rfl,?_⟩
 ·rw[Jm,pm.length_eq,ll];exact z
 ·exact q l _ (I1.hok.fresh lo) pv (List.pairwise_map.mpr so)
end
end L2
namespace L2
open PySem PySem.Spec PyProof.Rows Own
section
variable {prog:Program}{w:World}{A:Around}{R:Result→Shared→Prop}{I S:Addr}{fp wr:List Addr}{n:Nat}{P:Nat→Value→Prop}{St:Nat→Heap→Prop}
end
section
variable {prog:Program}{w:World}{A:Around}{E:Value→Shared→Prop}{s:Shared}
end
section
variable {X:Cx}
def le2 (p q p' q':Int):Prop:=p<p'∨p=p'∧q≤q'
end
theorem zf9 (l b:Addr) (xs ys:Array Value) (n m:Nat) (d1 d2:Option Addr) (sl1 sl2:Array (Option Value)) (sz:xs.size=ys.size) :
  Meets (Builtin.«tuple.__lt__» ⟨[.ref l,.ref b],[]⟩)
   (fun A R s=>s.heap.get? l=some { cls:=.type "tuple",dict:=d1,data:=.seq xs n,slots:=sl1 }∧s.heap.get? b=some { cls:=.type "tuple",dict:=d2,data:=.seq ys m,slots:=sl2 } ∧
    (∀ j (h1:j<xs.size) (h2:j<ys.size),SeqAt.EqAt A.in1 s xs[j] ys[j] true)∧R (.ok (.ret (.bool false))) s) :=
 .of_wp fun prog w A R s h=>by
  rcases h with ⟨hl,hb,he,h⟩
  rcases s with ⟨hp,g,d,tk,os⟩
  have kinds:=AutoSeq1.sub_tuple_tuple
  have zl:(xs.toList.zip ys.toList).length=min xs.size ys.size:=by simp
  wp_walk using wpAny_loadPart' hl,wpAny_loadPart' hb,wpAny_forIn_list _ (fun rest b s'=>b.1=none∧s'=⟨hp,g,d,tk,os⟩∧∃ i,i≤(xs.toList.zip ys.toList).length∧rest=(xs.toList.zip ys.toList).drop i) _
  case turn =>
   rintro⟨y,x⟩ rest b s' ⟨hb',rfl,i,ik,hz⟩
   have il:i<(xs.toList.zip ys.toList).length:=by
    rcases Nat.lt_or_ge i (xs.toList.zip ys.toList).length with z|z
    ·exact z
    ·rw[List.drop_eq_nil_of_le z]at hz;cases hz
   have i1:i<xs.size:=by lia
   have i2:i<ys.size:=by lia
   rw[Yt il]at hz
   obtain⟨e1,e2⟩:=List.cons.inj hz
   have ey:y=xs[i]:=by simpa using JJ Prod.fst e1
   have ex:x=ys[i]:=by simpa using JJ Prod.snd e1
   subst ey ex
   refine J0 (he i i1 i2 prog w _ _ ?_)
   wp_walk
   exact⟨rfl,rfl,i+1,by lia,e2⟩
  case fin =>
   rintro⟨b1,b2⟩ s' ⟨hb',rfl,i,ik,hz⟩
   have hb2:b1=none:=hb'
   subst hb2
   have fl:Builtin.Tuple.tupleCompareSizes CmpOp.Lt xs.size ys.size=.bool false:=by rw[sz];simp[Builtin.Tuple.tupleCompareSizes]
   show wpAny _ _ (ret (Builtin.Tuple.tupleCompareSizes CmpOp.Lt xs.size ys.size)) _ _ _
   rw[fl]
   exact J9 ⟨_,rfl,h⟩
  case h =>
   exact⟨rfl,rfl,0,JH _,rfl⟩
theorem LtAt.tuplesS {A:Around}{s:Shared}{l b:Addr}{xs ys:Array Value}(hl:IsTup s.heap l xs) (hb:IsTup s.heap b ys) (hu:A.units<cLine) (sz:xs.size=ys.size)
  (he:∀ j (h1:j<xs.size) (h2:j<ys.size),SeqAt.EqAt A.in1 s xs[j] ys[j] true):LtAt A s (.ref l) (.ref b) false:=fun prog w E Q h=>by
 obtain⟨⟨cl1,dd1,da1,sl1⟩,o1,c1,n,e1⟩:=hl
 obtain⟨⟨cl2,dd2,da2,sl2⟩,o2,c2,m,e2⟩:=hb
 simp only at c1 e1 c2 e2;subst c1 e1 c2 e2
 exact richCompare_meets_room (op:=.Lt) ⟨_,o1,rfl⟩ ⟨_,o2,rfl⟩ F.slot_tuple_lt F.entry_tuple_lt (F.args_tuple_lt_2 _ _) (zf9 l b xs ys n m dd1 dd2 sl1 sl2 sz) ⟨o1,o2,he,show Value.bool false≠Value.notImplemented∧Q (.bool false) s from⟨(fun x=>nomatch x),h⟩⟩ hu
section
variable {X:Cx}
theorem zkp {pins:List (Addr × Obj)}{σ:St}{H:Hp}{s:Shared}(I:Inv X pins σ H s) {n:Nat}{x y:V}{c:Ordering}(h:Lx H n x y c) (A:Around) (u v:Value) (hu:A.units+n<cLine) (rx:RelV x u) (ry:RelV y v):LtAt A s u v (c == .lt):=by
 by_cases z:c=.eq
 ·cases h with
  | int n i j =>
   obtain⟨t1,rfl⟩:=rx
   obtain⟨t2,rfl⟩:=ry
   rw[(zci i j).2]
   exact LtAt.ints i j t1 t2
  | @row n a b xs ys cs ha hb l1 l2 h =>
   cases rx;cases ry
   obtain⟨its,g1,p1,_⟩:=I.tuple (SqT.of ha)
   obtain⟨jts,g2,p2,_⟩:=I.tuple (SqT.of hb)
   have m1:=g1.length
   have m2:=g2.length
   rw[z]
   refine LtAt.tuplesS p1 p2 (by lia) (by rw[Jj,Jj];lia) fun j k1 k2=>?_
   have k1':j<xs.length:=by simpa [m1] using k1
   have k2':j<ys.length:=by simpa [m2] using k2
   have kc:j<cs.length:=by lia
   obtain⟨w1,e1,q1⟩:=g1.get (J7 k1')
   obtain⟨w2,e2,q2⟩:=g2.get (J7 k2')
   have z1:its.toArray[j]=w1:=by simpa using (Je.mp e1).2
   have z2:jts.toArray[j]=w2:=by simpa using (Je.mp e2).2
   have ce:cs[j]=.eq:=zcc.mp z _ (Y8 kc)
   have:=ziY I (h j _ _ _ (J7 k1') (J7 k2') (J7 kc)) A.in1 _ _ (by show A.units+1+n<cLine;lia) q1 q2
   rw[ce]at this
   rw[z1,z2]
   exact this
 ·exact zk9 I h z A u v hu rx ry
end
section
variable {prog:Program}{w:World}{A:Around}{R:Result→Shared→Prop}{I S:Addr}{fp wr:List Addr}{n:Nat}{P:Nat→Value→Prop}{St:Nat→Heap→Prop}
def AskM (prog:Program) (w:World) (A:Around) (s0:Shared) (wr:List Addr) (S:Addr) (v vb:Value) (c:Bool):Prop :=
 ∀ (h:Heap) (tk:Nat) (Q:Value→Shared→Prop) (E:Value→Shared→Prop),(∀ b o,b∉wr→b≠S→s0.heap.get? b=some o→h.get? b=some o)→Q (.bool c) { s0 with heap:=h,toks:=tk }→wpAny (model prog w) A.in1 (richCompare .Lt v vb) Q E { s0 with heap:=h,toks:=tk }
theorem zdM (W:Walks prog w A.in1 I fp wr n P St) (away:S∉fp) (s0:Shared) (Bst:Nat→Value→Prop)
  (more:∀ j v vb,0<j→P j v→Bst j vb→∃ c:Bool,Bst (j+1) (if c=true then v else vb)∧AskM prog w A s0 wr S v vb c) :
  ∀ (m j:Nat) (h:Heap) (tk:Nat) (c:Nat) (vb:Value),j+m=n→0<j→Bst j vb→St j h→h.get? S=some { cls:=.type "list",dict:=none,data:=.seq #[vb,vb] c,slots:=#[] }→(∀ b o,b∉wr→b≠S→s0.heap.get? b=some o→h.get? b=some o) →
   (∀ u h' tk',Bst n u→(∀ b o,b∉wr→b≠S→s0.heap.get? b=some o→h'.get? b=some o)→R (.ok (.ret u)) { s0 with heap:=h',toks:=tk' })→codeAny (model prog w) A (.builtin "min.loop" ⟨[.ref I,.none,.ref S],[]⟩) R { s0 with heap:=h,toks:=tk }:=by
 have out:S∉wr:=fun z=>away (W.sub _ z)
 have nm:(toString "min"++toString ".loop":String) = "min.loop":=by decide
 intro m
 induction m with
 | zero =>
  intro j h tk c vb jm jp bs st hs old k
  have ej:j=n:=by lia
  subst ej
  refine Z0 F.entry_min_loop (by
   refine Around.under_plainId F.plain_min_loop _ ▸ (show wpAny _ A.in1 (seqItems? (.ref S) >>= _) _ _ _ from ?_)
   refine J0 (wpAny_seqItems hs rfl (show wpAny _ A.in1 (tryCatch (pyNext (.ref I)) _ >>= _) _ _ _ from J0 (wpAny_tryCatch (W.done { s0 with heap:=h,toks:=tk } _ _ st fun h1 tk1 keep=>?_))))
   have hs1:=keep S _ out hs
   show wpAny _ A.in1 (updateSeq S (fun _=>#[]) >>= _) _ _ _;exact J0 (wpAny_updateSeq hs1 rfl (J0 (Zg (J9 (k _ _ tk1 bs fun b o hb bS e=>(Yc _ _ (Ne.symm bS)).trans (keep b o hb (old b o hb bS e))))))))
 | succ m ih =>
  intro j h tk c vb jm jp bs st hs old k
  refine Z0 F.entry_min_loop (by
   refine Around.under_plainId F.plain_min_loop _ ▸ (show wpAny _ A.in1 (seqItems? (.ref S) >>= _) _ _ _ from ?_)
   refine J0 (wpAny_seqItems hs rfl (show wpAny _ A.in1 (tryCatch (pyNext (.ref I)) _ >>= _) _ _ _ from J0 (wpAny_tryCatch (W.item j { s0 with heap:=h,toks:=tk } _ _ (by lia) st fun v h1 tk1 pv st1 keep=>?_))))
   have hs1:=keep S _ out hs
   have old1:∀ b o,b∉wr→b≠S→s0.heap.get? b=some o→h1.get? b=some o:=fun b o hb bS e=>keep b o hb (old b o hb bS e)
   obtain⟨c',bs',ask⟩:=more j v vb jp pv bs
   show wpAny _ A.in1 (tryCatch (holding [v,v] (richCompare .Lt v vb >>= _)) _ >>= _) _ _ _;refine J0 (wpAny_tryCatch (Ya (J0 (ask h1 tk1 _ _ old1 (J0 (Ya (YH (J0 (Zg (J9 ?_))))))))))
   cases c' with
   | false =>
    rw[Jc Jh]at bs'
    rw[Jc Jh]
    refine J0 (Zg ?_)
    rw[nm]
    exact J9 ⟨plainId_quiet F.plain_min_loop _,ih (j+1) _ _ _ vb (by lia) (by lia) bs' st1 hs1 old1 k⟩
   | true =>
    rw[Jf rfl]at bs'
    rw[Jf rfl]
    refine J0 (wpAny_updateSeq hs1 rfl (J0 (Zg ?_)))
    rw[nm]
    exact J9 ⟨plainId_quiet F.plain_min_loop _,ih (j+1) _ _ _ v (by lia) (by lia) bs' (W.frame _ _ _ st1 fun b hb o e=>(Yc _ _ (fun z=>away (by rw[z];exact hb))).trans e) (Heap.get?_update_self _ hs1 rfl) (fun b o hb bS e=>(Yc _ _ (Ne.symm bS)).trans (old1 b o hb bS e)) k⟩)
end
section
variable {prog:Program}{w:World}{A:Around}{E:Value→Shared→Prop}{s:Shared}
def WalkM (prog:Program) (w:World) (A:Around) (Q:Value→Shared→Prop) (it:Value) (s2:Shared):Prop :=
 ∃ (I:Addr) (fp wr:List Addr) (n:Nat) (P:Nat→Value→Prop) (St:Nat→Heap→Prop),it=.ref I∧Walks prog w A.in1 I fp wr n P St∧St 0 s2.heap∧(∀ b∈fp,b<s2.heap.objs.size)∧0<n ∧
   ∃ Bst:Nat→Value→Prop,(∀ v,P 0 v→Bst 1 v)∧(∀ j v vb,0<j→P j v→Bst j vb→∃ c:Bool,Bst (j+1) (if c=true then v else vb)∧AskM prog w A s2 wr s2.heap.objs.size v vb c) ∧
   ∀ u h' tk,Bst n u→(∀ b o,b∉wr→s2.heap.get? b=some o→h'.get? b=some o)→Q u { s2 with heap:=h',toks:=tk }
theorem zhg {x:Value}{Q:Value→Shared→Prop}(h:wpAny (model prog w) A.in1 (pyIter x) (WalkM prog w A Q) E s):wpAny (model prog w) A (call (.builtin "min") [x]) Q E s:=by
 have nm:(toString "min"++toString ".loop":String) = "min.loop":=by decide
 refine call_function_tree F.kind_min F.plain_min F.entry_min (F.args_min1 _) ?_;show wpAny _ A.in1 (Builtin.Builtins.bindParams "min" ["key","default"] 0 ⟨[],[]⟩ >>= _) _ _ s
 refine J0 (wpAny_of_eq (show Builtin.Builtins.bindParams "min" ["key","default"] 0 ⟨[],[]⟩=pure [none,none] from rfl) (J0 (J9 (J0 (JK h (fun it s2 z=>?_) fun _ _ e=>e)))))
 obtain⟨I,fp,wr,n,P,St,rfl,W,st,low,pos,Bst,first,more,k⟩:=z
 have away:s2.heap.objs.size∉fp:=fun z=>Ym _ (low _ z)
 have out:s2.heap.objs.size∉wr:=fun z=>away (W.sub _ z)
 refine J0 (JG ?_);rw[nm]
 refine J9 ⟨plainId_quiet F.plain_min_loop _,Z0 F.entry_min_loop ?_⟩
 have new:(s2.heap.push { cls:=.type "list",data:=.seq #[] }).get? s2.heap.objs.size=some { cls:=.type "list",dict:=none,data:=.seq #[] 0,slots:=#[] }:=Jp _ rfl
 have st':St 0 (s2.heap.push { cls:=.type "list",data:=.seq #[] }):=W.frame _ _ _ st fun b _ o e=>J8 _ e
 refine Around.under_plainId F.plain_min_loop _ ▸ (show wpAny _ A.in1 (seqItems? (.ref s2.heap.objs.size) >>= _) _ _ _ from ?_)
 refine J0 (wpAny_seqItems new rfl (show wpAny _ A.in1 (tryCatch (pyNext (.ref I)) _ >>= _) _ _ _ from J0 (wpAny_tryCatch (W.item 0 _ _ _ pos st' fun v h1 tk1 pv st1 keep=>?_))))
 have b1:=first v pv
 have new1:=keep _ _ out new
 show wpAny _ A.in1 (updateSeq s2.heap.objs.size (fun _=>#[v,v]) >>= _) _ _ _
 refine J0 (wpAny_updateSeq new1 rfl ?_)
 rw[nm]
 have up:∀ b o,b∉wr→b≠s2.heap.objs.size→s2.heap.get? b=some o→(h1.update s2.heap.objs.size (Obj.mapSeq fun _=>#[v,v])).get? b=some o:=fun b o hb bS e=>(Yc _ _ (Ne.symm bS)).trans (keep b o hb (J8 _ e))
 exact J9 ⟨plainId_quiet F.plain_min_loop _,zdM W away s2 Bst more (n-1) 1 _ _ _ v (by lia) (by lia) b1 (W.frame _ _ _ st1 fun b hb o e=>(Yc _ _ (fun z=>away (by rw[z];exact hb))).trans e) (Heap.get?_update_self _ new1 rfl) up fun u h2 tk2 bu keep2=>k u h2 tk2 bu fun b o hb e=>keep2 b o hb (JB (Jn e)) e⟩
theorem ziS {x y:Value}{Q:Value→Shared→Prop}(h:wpAny (model prog w) A.in1 (pyIter (.ref s.heap.objs.size)) (WalkM prog w A Q) E { s with heap:=s.heap.push { cls:=.type "tuple",data:=.seq #[x,y] } }):wpAny (model prog w) A (call (.builtin "min") [x,y]) Q E s:=by
 have nm:(toString "min"++toString ".loop":String) = "min.loop":=by decide
 refine call_function_tree F.kind_min F.plain_min F.entry_min (F.args_min2 _ _) ?_;show wpAny _ A.in1 (Builtin.Builtins.bindParams "min" ["key","default"] 0 ⟨[],[]⟩ >>= _) _ _ s
 refine J0 (wpAny_of_eq (show Builtin.Builtins.bindParams "min" ["key","default"] 0 ⟨[],[]⟩=pure [none,none] from rfl) (J0 ?_))
 refine wpAny_newTuple (J0 (JK h (fun it s2 z=>?_) fun _ _ e=>e))
 obtain⟨I,fp,wr,n,P,St,rfl,W,st,low,pos,Bst,first,more,k⟩:=z
 have away:s2.heap.objs.size∉fp:=fun z=>Ym _ (low _ z)
 have out:s2.heap.objs.size∉wr:=fun z=>away (W.sub _ z)
 refine J0 (JG ?_);rw[nm]
 refine J9 ⟨plainId_quiet F.plain_min_loop _,Z0 F.entry_min_loop ?_⟩
 have new:(s2.heap.push { cls:=.type "list",data:=.seq #[] }).get? s2.heap.objs.size=some { cls:=.type "list",dict:=none,data:=.seq #[] 0,slots:=#[] }:=Jp _ rfl
 have st':St 0 (s2.heap.push { cls:=.type "list",data:=.seq #[] }):=W.frame _ _ _ st fun b _ o e=>J8 _ e
 refine Around.under_plainId F.plain_min_loop _ ▸ (show wpAny _ A.in1 (seqItems? (.ref s2.heap.objs.size) >>= _) _ _ _ from ?_)
 refine J0 (wpAny_seqItems new rfl (show wpAny _ A.in1 (tryCatch (pyNext (.ref I)) _ >>= _) _ _ _ from J0 (wpAny_tryCatch (W.item 0 _ _ _ pos st' fun v h1 tk1 pv st1 keep=>?_))))
 have b1:=first v pv
 have new1:=keep _ _ out new
 show wpAny _ A.in1 (updateSeq s2.heap.objs.size (fun _=>#[v,v]) >>= _) _ _ _
 refine J0 (wpAny_updateSeq new1 rfl ?_)
 rw[nm]
 have up:∀ b o,b∉wr→b≠s2.heap.objs.size→s2.heap.get? b=some o→(h1.update s2.heap.objs.size (Obj.mapSeq fun _=>#[v,v])).get? b=some o:=fun b o hb bS e=>(Yc _ _ (Ne.symm bS)).trans (keep b o hb (J8 _ e))
 exact J9 ⟨plainId_quiet F.plain_min_loop _,zdM W away s2 Bst more (n-1) 1 _ _ _ v (by lia) (by lia) b1 (W.frame _ _ _ st1 fun b hb o e=>(Yc _ _ (fun z=>away (by rw[z];exact hb))).trans e) (Heap.get?_update_self _ new1 rfl) up fun u h2 tk2 bu keep2=>k u h2 tk2 bu fun b o hb e=>keep2 b o hb (JB (Jn e)) e⟩
end
def zbq (cmp:V→V→Ordering) (b y:V):V:=if cmp y b=.lt then y else b
def zbf (cmp:V→V→Ordering):List V→V
 | []=>.non
 | x::r=>r.foldl (zbq cmp) x
theorem zh5 (cmp:V→V→Ordering) {l:List V}(h:l≠[]) (y:V):zbf cmp (l++[y])=zbq cmp (zbf cmp l) y:=by
 cases l with
 | nil=>exact absurd rfl h
 | cons x r=>show List.foldl _ _ (r++[y])=_;rw[YJ];rfl
theorem zfA (cmp:V→V→Ordering):∀ (r:List V) (x:V),r.foldl (zbq cmp) x∈x::r
 | [],x=>.head _
 | y::r,x=>by
  have:=zfA cmp r (zbq cmp x y)
  show List.foldl (zbq cmp) (zbq cmp x y) r∈x::y::r
  rcases List.mem_cons.mp this with z|z
  ·rw[z]
   unfold zbq
   split
   ·exact .tail _ (.head _)
   ·exact .head _
  ·exact .tail _ (.tail _ z)
theorem zjm (cmp:V→V→Ordering) {l:List V}(h:l≠[]):zbf cmp l∈l:=by
 cases l with
 | nil=>exact absurd rfl h
 | cons x r=>exact zfA cmp r x
section
variable {X:Cx}{pins:List (Addr × Obj)}{σ:St}{H:Hp}{s:Shared}
theorem zeX {b:Bool}{a:Addr}{xs:List V}{its:List Value}{n:Nat}{cmp:V→V→Ordering}{Q:VK}(hc:X.calm=true) (hu:X.A.units+64<cLine) (I:Inv X pins σ H s) (rr:Vals xs its) (pp:SqO b s.heap a its.toArray) (al:a<s.heap.objs.size) (xp:0<xs.length) (n20:n≤20) (hL:∀ x∈xs,∀ y∈xs,Lx H n x y (cmp x y)) (q:Q (zbf cmp xs) H) :
  wpAny (model X.prog X.w) X.A.in1 (pyIter (.ref a)) (WalkM X.prog X.w X.A (EP X pins σ Q)) X.xe s:=by
 have hl:its.length=xs.length:=rr.length.symm
 refine zbX pp ⟨s.heap.objs.size,[s.heap.objs.size,a],[s.heap.objs.size],its.toArray.size,(fun i v=>its.toArray[i]?=some v),_,rfl,zkK (show X.A.in1.handled=none from I.ok.hd hc) b _ a (JB al) its.toArray,⟨?_,pp.mv fun o e=>J8 _ e⟩,fun c hm=>?_,by rw[Jj];lia,(fun j v=>0<j∧j≤xs.length∧RelV (zbf cmp (xs.take j)) v),fun v hv=>?_,fun j v vb jp hv ⟨_,jl,rb⟩=>?_,fun u h' tk ⟨_,_,ru⟩ hk=>?_⟩
 ·cases b<;>exact⟨_,Jp _ rfl,rfl,rfl⟩
 ·show c<(s.heap.push _).objs.size
  rw[Heap.size_push]
  rcases List.mem_cons.mp hm with z|z
  ·exact z ▸ Nat.lt_succ_self _
  ·exact Jd.mp z ▸ Zs al
 ·have hx:xs[0]?=some xs[0]:=J7 xp
  obtain⟨u',e',ru⟩:=rr.get hx
  have hv':its[0]?=some v:=by simpa using hv
  rw[hv']at e'
  cases e'
  refine⟨by lia,xp,?_⟩
  cases xs with
  | nil=>cases xp
  | cons x r=>exact ru
 ·have hv':its[j]?=some v:=by simpa using hv
  have jx:j<xs.length:=by
   have:=(Je.mp hv').1
   lia
  obtain⟨u',e',ru⟩:=rr.get (J7 jx)
  rw[hv']at e'
  cases e'
  have ne:xs.take j≠[]:=fun z=>by
   have:=JJ List.length z
   rw[Jw,Z1]at this
   lia
  have bm:zbf cmp (xs.take j)∈xs:=Yu (zjm cmp ne)
  have L:=hL _ (Y8 jx) _ bm
  refine⟨cmp xs[j] (zbf cmp (xs.take j)) == .lt,⟨by lia,by lia,?_⟩,fun h tk Q' E' old q'=>?_⟩
  ·rw[← Yk jx,zh5 cmp ne]
   unfold zbq
   by_cases z:cmp xs[j] (zbf cmp (xs.take j))=.lt
   ·rw[Jf z,Jf (by rw[z];rfl)];exact ru
   ·rw[Jc z,Jc (fun y=>z (by simpa using y))];exact rb
  ·have I':Inv X pins σ H { s with heap:=h,toks:=tk }:=I.kept fun c o e=>old c o (fun z=>JB (Jn e) (Jd.mp z)) (fun z=>by
    have h1:=Jn e
    have h2:c=(s.heap.push { cls:=.type (cN b),data:=.fields #[.ref a,.int 0 0] }).objs.size:=z
    rw[Heap.size_push]at h2
    exact absurd h2 (JB (Zs h1))) (J8 _ e)
   exact zkp I' L X.A.in1 v vb (by show X.A.units+1+n<cLine;lia) ru rb X.prog X.w E' Q' q'
 ·refine⟨zbf cmp xs,H,I.kept (t':=tk) fun c o e=>hk c o (fun z=>JB (Jn e) (Jd.mp z)) (J8 _ e),?_,q⟩
  have:xs.take its.toArray.size=xs:=JE (by rw[Jj];lia)
  rw[this]at ru
  exact ru
theorem zhY (hc:X.calm=true) (b:Bool) (hu:X.A.units+64<cLine):CallR X (.builtin "min") (fun vs H Q=>∃ a xs n cmp,vs=[.ref a]∧SqB b X.K H a xs∧0<xs.length∧n≤20∧(∀ x∈xs,∀ y∈xs,Lx H n x y (cmp x y))∧Q (zbf cmp xs) H):=by
 rintro pins s σ H vs us Q I rv ⟨a,xs,n,cmp,rfl,hq,xp,n20,hL,q⟩
 obtain⟨u,rfl,ru⟩:=rv.one
 cases ru
 obtain⟨its,rr,pp⟩:=I.sq (b:=b) hq
 obtain⟨o,m,eo,_⟩:=pp.ob
 exact zhg (zeX hc hu I rr pp (Jn eo) xp n20 hL q)
theorem zgh (hc:X.calm=true) (hu:X.A.units+64<cLine):CallR X (.builtin "min") (fun vs H Q=>∃ x y n cmp,vs=[x,y]∧n≤20∧(∀ u∈[x,y],∀ v∈[x,y],Lx H n u v (cmp u v))∧Q (zbq cmp x y) H):=by
 rintro pins s σ H vs us Q I rv ⟨x,y,n,cmp,rfl,n20,hL,q⟩
 obtain⟨u,w',rfl,r1,r2⟩:=zjG rv
 refine ziS ?_
 have I1:=I.kept (t':=s.toks) (h':=s.heap.push { cls:=.type "tuple",data:=.seq #[u,w'] }) fun b u e=>J8 _ e
 refine zeX (s:={ s with heap:=s.heap.push { cls:=.type "tuple",data:=.seq #[u,w'] } }) (b:=false) (xs:=[x,y]) (its:=[u,w']) hc hu I1 (.cons r1 (.cons r2 .nil)) ⟨_,Jp _ rfl,rfl,_,rfl⟩ ?_ (by show 0<2;lia) n20 hL q
 show s.heap.objs.size<(s.heap.push _).objs.size
 rw[Heap.size_push];lia
end
def cmpR:List Int→List Int→Ordering
 | [],[]=>.eq
 | [],_::_=>.lt
 | _::_,[]=>.gt
 | a::x,b::y=>(compare a b).then (cmpR x y)
theorem zcx:∀ {x y:List Int},x.length=y.length→(List.zipWith compare x y).foldr Ordering.then .eq=cmpR x y
 | [],[],_=>rfl
 | a::x,b::y,h=>by
  show (compare a b).then _=(compare a b).then _
  rw[zcx (x:=x) (y:=y) (by simpa using h)]
theorem zeA {H:Hp}{a b:Addr}{x y:List Int}(ha:H a=some (.tup (x.map V.int))) (hb:H b=some (.tup (y.map V.int))) (l:x.length=y.length):Lx H 1 (.ref a) (.ref b) (cmpR x y):=by
 rw[← zcx l]
 refine .row ha hb (by rw[Jm,List.length_zipWith];lia) (by rw[Jm,List.length_zipWith];lia) fun i u v c hu hv hc=>?_
 rw[JR]at hu hv
 obtain⟨p,hp,rfl⟩:=Y5.mp hu
 obtain⟨q,hq,rfl⟩:=Y5.mp hv
 rw[List.getElem?_zipWith,hp,hq]at hc
 cases hc
 exact .int 0 p q
def minR (x y:List Int):List Int:=if cmpR y x=.lt then y else x
def minL:List (List Int)→List Int
 | []=>[]
 | x::r=>r.foldl minR x
def zkS (P:Program) (w:World) (t:TS):TS:=fun D σ H=>t { D with nx:=fun σ' H'=>∃ d o xs xs',H d=some (DN P w d xs')∧H' d=some (.frz o (DN P w d xs))∧D.nx σ' (upd H' d (DN P w d xs)) } σ H
section
variable {X:Cx}
theorem zis {st:Stmt}{t:TS}(h:PS X st t):PS X st (zkS X.prog X.w t):=by
 intro pins s σ H D I hw
 refine thn (h pins s σ H _ I hw) fun f s1 q=>?_
 cases f with
 | next =>
  obtain⟨σ',H',I1,d,o,xs,xs',hd,hz,q⟩:=q
  exact⟨σ',_,I1.thawN hz (I.meltedN hd),q⟩
 | brk=>exact q
 | cont=>exact q
 | ret u=>exact q
end
theorem zgg {P:Program}{w:World}{d:Addr}{o:Obj}{xs:KVN}{g:TG}{tb:TS}{D:Ends}{σ:St}{H:Hp}(Pv:Nat→St→Hp→Prop) (h0:Pv 0 σ H) (hl:∀ i σ H,i≤xs.length→Pv i σ H→H d=some (.frz o (DN P w d xs)))
  (hs:∀ i p σ H T,xs[i]?=some p→H T=none→Pv i σ H→g (.ref T) σ (upd H T (.tup [.ref p.2.1,p.2.2])) fun σ2 H2=>tb { D with nx:=Pv (i+1),ct:=Pv (i+1),bk:=D.nx } σ2 H2) (hd:∀ σ H,Pv xs.length σ H→D.nx σ H) :
  ∃ W:Nat→Nat→St→Hp→Prop,(∃ m,W 0 m σ H)∧∀ i m σ H,W i m σ H →
   ((Itni P w d o xs).stop i H∧D.nx σ H)∨((Itni P w d o xs).go i H∧∃ N:St→Hp→Prop,(∀ σ' H',N σ' H'→∃ m',m'<m∧W (i+1) m' σ' H')∧∀ x H',(Itni P w d o xs).yld i H x H'→g x σ H' fun σ2 H2=>tb { D with nx:=N,ct:=N,bk:=D.nx } σ2 H2):=by
 refine⟨fun i m σ H=>m=xs.length-i∧i≤xs.length∧Pv i σ H,⟨xs.length,by simp,JH _,h0⟩,fun i m σ H ⟨em,hi,p⟩=>?_⟩
 subst em
 have q:=hl i σ H hi p
 by_cases lt:i<xs.length
 ·refine .inr ⟨⟨q,lt⟩,Pv (i+1),fun σ' H' p'=>⟨xs.length-(i+1),by lia,rfl,lt,p'⟩,fun x H' ⟨y,T,ey,hT,e1,e2⟩=>?_⟩
  subst e1 e2
  exact hs i y σ H T ey hT p
 ·have e:i=xs.length:=by lia
  subst e
  exact .inl ⟨⟨q,rfl⟩,hd σ H p⟩
end L2
namespace Bn
open PySem L2 Own
theorem zbJ:∀ (fs:List (Nat × Nat)) (st:List Int × List Int),(∀ t∈st.2,t=0∨t=1)→∀ t∈(zaq st fs).2,t=0∨t=1
 | [],_,h=>h
 | f::fs,st,h=>zbJ fs (zay st f) fun t ht=>by
  unfold zay at ht
  simp only at ht
  rcases Js.mp ht with z|z
  ·exact h t z
  ·rw[Jd.mp z];lia
theorem zhJ (fs:List (Nat × Nat)) (cs:List Int):∀ t∈(flow fs cs).2,t=0∨t=1:=zbJ fs (cs,[]) fun t ht=>by simp at ht
theorem zcb (n p:Nat):(List.replicate n (0:Int)).getD p 0=0:=by
 rw[Jb,List.getElem?_replicate];split<;>rfl
theorem zeW (n p:Nat):(List.replicate n (0:Int)).set p 0=List.replicate n 0:=by
 refine List.ext_getElem (by simp) fun i h1 h2=>?_
 rw[List.getElem_set]
 split<;>simp
theorem zbI (n:Nat):∀ (fs:List (Nat × Nat)) (T:List Int),zaq (List.replicate n 0,T) fs=(List.replicate n 0,T++List.replicate fs.length 0)
 | [],T=>by simp[zaq]
 | f::fs,T=>by
  have e:zay (List.replicate n 0,T) f=(List.replicate n 0,T++[0]):=by
   unfold zay
   simp only[zcb]
   rw[show ((0:Int)+0+1) / 2=0 by decide,show ((0:Int)+0) / 2=0 by decide,show ((0:Int)+0)%2=0 by decide,zeW,zeW]
  show zaq (zay (List.replicate n 0,T) f) fs=_
  rw[e,zbI n fs (T++[0]),JN,Y3,JM];rfl
theorem zdW (n:Nat) (fs:List (Nat × Nat)):flow fs (List.replicate n 0)=(List.replicate n 0,List.replicate fs.length 0):=by
 unfold flow;rw[zbI,Zh]
theorem zhL (N:Nt) (ok:N.Ok):zb4 N (List.replicate N.lanes 0)=List.replicate N.lanes 0:=by
 unfold zb4
 rw[zdW]
 refine List.ext_getElem (by rw[Jm,JU,zjb ok]) fun i h1 h2=>?_
 rw[List.getElem_map,List.getElem_replicate];exact zcb _ _
theorem zfJ (N:Nt):zaJ N (List.replicate N.lanes 0)=List.replicate N.forks.length 0:=by unfold zaJ;rw[zdW]
theorem ball {N:Nt}(ok:N.Ok) (back:Bool) {cs:List Int}(cl:cs.length=N.lanes) {lane:Nat}(hl:lane<N.lanes) :
  zaJ N (zao cs lane (if back then -1 else 1))=(zam back N.forks (zaJ N cs) lane N.forks.length).1 ∧
  zb4 N (zao cs lane (if back then -1 else 1))=zao (zb4 N cs) (N.ends.idxOf (zam back N.forks (zaJ N cs) lane N.forks.length).2) (if back then -1 else 1) ∧
  (zam back N.forks (zaJ N cs) lane N.forks.length).2<N.lanes:=by
 have R:=ran (back:=back) (fs:=N.forks) (cs:=cs) (lane:=lane) (fun f hf=>by rw[cl];exact ok.fk f hf) (by lia) (zhJ _ _) N.forks.length (Jg _)
 have tk:N.forks.take N.forks.length=N.forks:=YR
 have f1:=R.flows
 have t1:=R.turns
 rw[tk]at f1 t1
 have hh:=R.here
 rw[cl]at hh
 refine⟨?_,?_,hh⟩
 ·refine zbK ?_ fun p hp=>?_
  ·unfold zaJ;rw[zaI,R.len,zaI]
  ·unfold zaJ at hp;rw[zaI]at hp;exact t1 p hp
 ·have ne:(zam back N.forks (zaJ N cs) lane N.forks.length).2∈N.ends:=ok.en.mem_iff.mpr (Yj.mpr hh)
  have nd:N.ends.Nodup:=ok.en.nodup_iff.mpr List.nodup_range
  have el:(zb4 N cs).length=N.ends.length:=by unfold zb4;rw[Jm]
  refine zbK (by rw[zat];unfold zb4;rw[Jm,Jm]) fun p hp=>?_
  have hp':p<N.ends.length:=by unfold zb4 at hp;rwa [Jm]at hp
  rw[zax (by rw[el];exact hp')]
  have g:∀ xs:List Int,(N.ends.map fun e=>xs.getD e 0).getD p 0=xs.getD N.ends[p] 0:=fun xs=>by
   rw[Jb (l:=List.map _ _),JR,J7 hp'];rfl
  unfold zb4
  rw[g,g,f1]
  have lt':N.ends[p]<(flow N.forks cs).1.length:=by rw[zfB,cl];exact zkD ok (Y8 hp')
  rw[zax lt']
  congr 1
  show (if (zam back N.forks (zaJ N cs) lane N.forks.length).2=N.ends[p] then _ else _)=_
  have iff:(zam back N.forks (zaJ N cs) lane N.forks.length).2=N.ends[p]↔N.ends.idxOf (zam back N.forks (zaJ N cs) lane N.forks.length).2=p:=by
   constructor
   ·intro e;rw[e];exact nd.idxOf_getElem p hp'
   ·intro e
    have:=List.getElem_idxOf (List.idxOf_lt_length_of_mem ne)
    subst e
    exact this.symm
  by_cases e:(zam back N.forks (zaJ N cs) lane N.forks.length).2=N.ends[p]
  ·rw[Jf e,Jf (iff.mp e)]
  ·rw[Jc e,Jc fun z=>e (iff.mpr z)]
end Bn
namespace L2
open PySem PySem.Spec PyProof.Rows Own
section
variable {X:Cx}
end
end L2
namespace Bn
open PySem L2 Own
def big (x y:Int):Int:=if y > x then y else x
def zkt (st:List Int × List Int) (f:Nat × Nat):List Int × List Int :=
 ((st.1.set f.1 (1+big (st.1.getD f.1 0) (st.1.getD f.2 0))).set f.2 (1+big (st.1.getD f.1 0) (st.1.getD f.2 0)),st.2++[1+big (st.1.getD f.1 0) (st.1.getD f.2 0)])
def lay (n:Nat) (fs:List (Nat × Nat)):List Int × List Int:=fs.foldl zkt (List.replicate n 0,[])
def zlN (g f:Nat × Nat):Bool:=decide (g.1=f.1∨g.1=f.2) || decide (g.2=f.1∨g.2=f.2)
def ahead (fs:List (Nat × Nat)) (fo:List Int) (f:Nat × Nat) (i:Nat):List Int:=((List.range i).filter fun j=>zlN (fs.getD j (0,0)) f).map fun j=>fo.getD j 0
def zlZ (N:Nt):List Int:=(lay N.lanes N.forks).2
abbrev Fk:=Nat × Nat
def rnk (x:Int × Fk):Int:=x.1*1024+x.2.1*32+x.2.2
def ins (x:Int × Fk):List (Int × Fk)→List (Int × Fk)
 | []=>[x]
 | y::l=>if rnk x≤rnk y then x::y::l else y::ins x l
theorem zag {H:Hp}{a:Addr}(_:H a=none) (o:HO):L2.upd H a o a=some o:=zac
theorem Prs.app {H:Hp}:∀ {ps qs:List V}{fs gs:List Fk},Prs H ps fs→Prs H qs gs→Prs H (ps++qs) (fs++gs)
 | [],_,[],_,_,h=>h
 | _::_,_,_::_,_,⟨x,r⟩,h=>⟨x,Prs.app r h⟩
end Bn
namespace L2
open PySem PySem.Spec PyProof.Rows Own
section
variable {X:Cx}
end
end L2
namespace Bn
open PySem L2 Own
end Bn
namespace L2
open PySem PySem.Spec PyProof.Rows Own
section
variable {prog:Program}{w:World}{A:Around}{E:Value→Shared→Prop}{it l:Addr}{items:Array Value}
end
section
variable {X:Cx}
end
end L2
namespace L2
open PySem
end L2
namespace Bn
open PySem L2 Own
section
variable {H0 H H':Hp}{l d lt lg lo:Addr}{qa:List Addr}{ts os:List Int}{gs:List Grp}
end
section
variable {H0 H:Hp}{l d lt lg lo:Addr}{qa:List Addr}{ts os:List Int}{gs:List Grp}
end
end Bn
namespace L2
open PySem Own
section
variable {X:Cx}
end
end L2
namespace L2
open PySem
end L2
namespace L2
open PySem Own PyProof.Rows PySem.Spec
section
variable {X:Cx}
def zly (i j k:Nat) (ta:TA):TS:=fun D σ H=>ta σ H fun vs H1=>∃ u v w,vs=[u,v,w]∧D.nx (((σ.set i (some u)).set j (some v)).set k (some w)) H1
theorem zfN {u v w:V}{us:List Value}(r:Vals [u,v,w] us):∃ a b c,us=[a,b,c]∧RelV u a∧RelV v b∧RelV w c:=by
 cases r with
 | cons p r =>
  obtain⟨b,c,rfl,q,t⟩:=Vals.two r
  exact⟨_,b,c,rfl,p,q,t⟩
theorem zj4 {i j k:Nat}{x y z:Str}{a b c:Expr}{ta:TA}{pos px py pz pt:Pos}{kt k2 pt2} (hc:X.calm=true) (hN:X.N.Nodup) (hi:X.N[i]?=some x) (hj:X.N[j]?=some y) (hk:X.N[k]?=some z) (ij:i≠j) (ik:i≠k) (jk:j≠k)
  (hx:X.env.scope.names.lookup x=some .local) (hy:X.env.scope.names.lookup y=some .local) (hz:X.env.scope.names.lookup z=some .local) (ha:PA X [a,b,c] ta)
  (hw:swappedStores [.Tuple [.Name x px,.Name y py,.Name z pz] kt pt] (.Tuple [a,b,c] k2 pt2) X.env=pure (some [x,y,z]))
  (hs:swapsWithSole [.Tuple [.Name x px,.Name y py,.Name z pz] kt pt] (.Tuple [a,b,c] k2 pt2) pos.line X.env=pure false:=by rfl) :
  PS X (.Assign [.Tuple [.Name x px,.Name y py,.Name z pz] kt pt] (.Tuple [a,b,c] k2 pt2) pos) (zly i j k ta):=fun pins s σ H D I h=>by
 rw[exec_Assign_arm];refine J0 (wpAny_standAt ?_);rw[hs];refine J0 (J9 ?_);rw[Jc Jh]
 refine J0 (PyProof.Rows.Tuple_ (thn (ha _ pins s σ H _ I h) fun us s1 q=>?_))
 obtain⟨vs,H1,I1,r1,u,v,w,rfl,q1⟩:=q
 obtain⟨u1,u2,u3,rfl,rA,rB,rC⟩:=zfN r1
 refine JG ?_ (by show 3≤sizeLine;decide)
 have J:Inv X pins σ H1 { s1 with heap:=s1.heap.push { cls:=.type "tuple",data:=.seq [u1,u2,u3].toArray } }:=I1.kept (t':=s1.toks) fun _ _ g=>J8 _ g
 rw[hw];refine J0 (J9 ?_)
 show wpAny (model X.prog X.w) X.A (do rule "assign.swapped-stores";let items ← unpackItems (.ref s1.heap.objs.size) 3 none;assignInOrder [fun v=>bindName X.env z v,fun v=>bindName X.env y v,fun v=>bindName X.env x v] items.reverse;pure Flow.next) _ _ _
 refine J0 (wpAny_rule (J0 (PyProof.Rows.unpackItems_tuple (items:=#[u1,u2,u3]) (I.ok.hd hc) (IsTup.new s1.heap _) fun hp hq=>?_)))
 have J3:=J.kept (h':=hp) (t':=s1.toks) fun b o g=>hq b o (JB (Jn g)) g
 show wpAny _ _ (assignInOrder [fun v=>bindName X.env z v,fun v=>bindName X.env y v,fun v=>bindName X.env x v] [u3,u2,u1] >>= fun _=>pure Flow.next) _ _ _
 refine J0 (assignInOrder_cons (wpAny_bindName (zaX J3 hN hk (.inl hz) rC (fun s2 J4=>?_) (.inr hz))))
 refine assignInOrder_cons (wpAny_bindName (zaX J4 hN hj (.inl hy) rB (fun s3 J5=>?_) (.inr hy)))
 refine assignInOrder_cons (wpAny_bindName (zaX J5 hN hi (.inl hx) rA (fun s4 J6=>assignInOrder_nil (J9 ?_)) (.inr hx)))
 have eσ:((σ.set k (some w)).set j (some v)).set i (some u)=((σ.set i (some u)).set j (some v)).set k (some w):=by
  rw[List.set_comm _ _ (Ne.symm ij),List.set_comm _ _ (Ne.symm ik),List.set_comm _ _ (Ne.symm jk)]
 rw[eσ]at J6
 exact⟨_,H1,J6,q1⟩
end
end L2
namespace Bn
open PySem L2 Own
abbrev Sn:=List Int × List Grp × List Int
abbrev Sn.none (N:Nt):Sn:=(List.replicate N.forks.length 0,[],List.replicate N.lanes 0)
section
variable {H0 H H':Hp}{l d lt lg lo:Addr}{qa qa':List Addr}{ts os ts' os':List Int}{gs gs':List Grp}
end
end Bn
namespace L2
open PySem PySem.Spec PyProof.Rows
section
variable {P:Program}{w:World}{K:PySem.W.Frag}{mg:Str→Option Value}{base:Heap}{N:List Str}{qual:Str}{scope:Scope}{f:Addr}{cd:Value}{A:Around}{outer:List Env}{s:Shared}{H:Hp}{E:XK}{pins:List (Addr × Obj)}{σ:St}
end
end L2
namespace L2
open PySem PySem.Spec PyProof.Rows Own
abbrev FZ (o:Obj):HO:=.frz o (.ext fun _=>True)
theorem zhF {P:Program}{w:World}{H:Hp}{h:Heap}{a:Addr}{o:Obj}(e:h.get? a=some o):ObjOk P w H h a (FZ o):=⟨e,trivial,⟨o,e⟩,fun _ _ _ _=>trivial⟩
structure Lam where
 params:Arguments
 body:Expr
 scope:Scope
 qual:Str
def lamO (L:Lam) (cl:List (Str × Addr)) (pm:Value) (c:Addr) (ct:Value):Obj:=PySem.W.kla_obj "<lambda>" L.qual L.params L.body L.scope cl pm c ct
structure LamAt (H:Hp) (f:Addr) (L:Lam) (cl:List (Str × Addr)) (vs:List V):Prop where
 ex:∃ (pm:Value) (c:Addr) (ct:Value) (oc:Obj) (fs:Array Value) (t:Tok),H f=some (FZ (lamO L cl pm c ct))∧H c=some (FZ oc)∧oc.data=.fields fs∧fs[1]?=some (.str L.qual t)
 len:cl.length=vs.length
 cell:∀ (i:Nat) x c v,cl[i]?=some (x,c)→vs[i]?=some v→∃ o u,H c=some (FZ o)∧o.data=.cell (some u)∧RelV v u
 nd1:(cl.map (·.1)).Nodup
 nd2:(cl.map (·.2)).Nodup
theorem LamAt.frz {H H':Hp}{f:Addr}{L:Lam}{cl:List (Str × Addr)}{vs:List V}(h:LamAt H f L cl vs) (z:∀ b o u,H b=some (.frz o u)→H' b=some (.frz o u)):LamAt H' f L cl vs:=by
 obtain⟨pm,c,ct,oc,fs,t,h1,h2,h3,h4⟩:=h.ex
 refine⟨⟨pm,c,ct,oc,fs,t,z _ _ _ h1,z _ _ _ h2,h3,h4⟩,h.len,fun i x c v a b=>?_,h.nd1,h.nd2⟩
 obtain⟨o,u,q1,q2,q3⟩:=h.cell i x c v a b
 exact⟨o,u,z _ _ _ q1,q2,q3⟩
def zaA (cl:List (Str × Addr)) (H:Hp):Hp:=fun b=>if b∈cl.map (·.2) then none else H b
def back (cl:List (Str × Addr)) (H H':Hp):Hp:=fun b=>if b∈cl.map (·.2) then H b else H' b
theorem zbv {cl:List (Str × Addr)}{H:Hp}{b:Addr}(h:b∈cl.map (·.2)):zaA cl H b=none:=Jf h
theorem zak {cl:List (Str × Addr)}{H:Hp}{b:Addr}(h:b∉cl.map (·.2)):zaA cl H b=H b:=Jc h
theorem zeT {cl:List (Str × Addr)}{H H':Hp}{b:Addr}(h:b∈cl.map (·.2)):back cl H H' b=H b:=Jf h
theorem zaQ {cl:List (Str × Addr)}{H H':Hp}{b:Addr}(h:b∉cl.map (·.2)):back cl H H' b=H' b:=Jc h
theorem zfP {cl:List (Str × Addr)}{H:Hp}{b:Addr}{o:HO}(h:zaA cl H b=some o):b∉cl.map (·.2)∧H b=some o:=by
 by_cases c:b∈cl.map (·.2)
 ·rw[zbv c]at h;cases h
 ·rw[zak c]at h;exact⟨c,h⟩
def CellsFz (cl:List (Str × Addr)) (H:Hp):Prop:=∀ b∈cl.map (·.2),∃ o,H b=some (FZ o)
theorem LamAt.fz {H:Hp}{f:Addr}{L:Lam}{cl:List (Str × Addr)}{vs:List V}(h:LamAt H f L cl vs):CellsFz cl H:=fun b hb=>by
 obtain⟨⟨x,c⟩,hc,rfl⟩:=JA.mp hb
 obtain⟨i,il,e⟩:=YB.mp hc
 have iv:i<vs.length:=by rw[← h.len];exact il
 obtain⟨o,u,q1,_⟩:=h.cell i x c vs[i] (by rw[J7 il,e]) (J7 iv)
 exact⟨o,q1⟩
section
variable {P:Program}{w:World}{H H':Hp}{h h':Heap}{cl:List (Str × Addr)}
theorem zdT (x:HOk P w H h) (fz:CellsFz cl H):HOk P w (zaA cl H) h:=fun b u e=>by
 obtain⟨nb,e'⟩:=zfP e
 have keep:∀ {c:Addr}{o:HO},H c=some o→(∀ q,o≠FZ q)→zaA cl H c=some o:=fun {c o} z n=>by
  rw[zak];· exact z
  ·intro hc
   obtain⟨q,hq⟩:=fz c hc
   rw[z]at hq
   exact n q (Option.some.inj hq)
 exact(x b u e').stay (fun c v _ q=>q) (fun c q=>keep q fun z y=>by cases y) fun c xs q=>keep q fun z y=>by cases y
theorem zjH {fs:List Addr}(un:Un fs [] (zaA cl H) H' h h') (fz:CellsFz cl H) (nf:∀ b∈fs,H b=none) (there:∀ b o,H b=some (FZ o)→h.get? b=some o) (low:∀ b∈cl.map (·.2),H' b=none) (ok:HOk P w H' h'):Un fs [] H (back cl H H') h h'∧HOk P w (back cl H H') h':=by
 have nc:∀ {b:Addr},H b=none→b∉cl.map (·.2):=fun e hb=>by
  obtain⟨o,q⟩:=fz _ hb
  rw[e]at q;cases q
 have kept:∀ b∈cl.map (·.2),∀ o,h.get? b=some o→h'.get? b=some o:=fun b hb o e=>un.keep b o e (zbv hb) (fun z=>nc (nf b z) hb) (by simp)
 have oth:∀ {b:Addr}{o:HO},H b=some o→(∀ q,o≠FZ q)→b∉cl.map (·.2):=fun z n hb=>by
  obtain⟨q,hq⟩:=fz _ hb
  rw[z]at hq
  exact n q (Option.some.inj hq)
 refine⟨⟨fun b o e n x y=>un.keep b o e (by rw[zak (nc n)];exact n) x y,fun b o e n x y=>un.slot b o e (by rw[zak (nc n)];exact n) x y,fun b o e n y=>?_,un.there,fun b xs e=>?_,fun b o u e=>?_,fun b ps e=>?_⟩,fun b u e=>?_⟩
 ·rw[zaQ (nc n)]
  exact un.free b o e (by rw[zak (nc n)];exact n) y
 ·have nb:=oth e fun q z=>by cases z
  rw[zaQ nb];exact un.tups b xs (by rw[zak nb];exact e)
 ·by_cases c:b∈cl.map (·.2)
  ·rw[zeT c];exact e
  ·rw[zaQ c];exact un.frzs b o u (by rw[zak c];exact e)
 ·have nb:=oth e fun q z=>by cases z
  rw[zaQ nb];exact un.tbls b ps (by rw[zak nb];exact e)
 ·by_cases c:b∈cl.map (·.2)
  ·rw[zeT c]at e
   obtain⟨o,q⟩:=fz b c
   rw[q]at e
   cases e
   exact zhF (kept b c o (there b o q))
  ·rw[zaQ c]at e
   have old:∀ {x:Addr}{o:HO},H' x=some o→back cl H H' x=some o:=fun {x o} z=>by
    rw[zaQ];· exact z
    ·intro hx
     rw[low x hx]at z;cases z
   exact(ok b u e).stay (fun x v _ q=>q) (fun x q=>old q) fun x xs q=>old q
end
def envL (L:Lam) (cl:List (Str × Addr)) (Lc f c:Addr):Env:={ scope:=L.scope,locals:=Lc,globals:=mainGlobals,cells:=cl,qual:=L.qual++".<locals>.",func:=some f,code:=.ref c,frame:=some Lc,builtins:=builtinsNs }
def zkE (CX:CXT) (P:Program) (w:World) (K:PySem.W.Frag) (mg:Str→Option Value) (base:Heap) (N:List Str) (L:Lam) (cl:List (Str × Addr)) (f c:Addr) (A:Around) (outer:List Env) (s:Shared) (H:Hp) (E:XK):Cx where
 prog:=P
 w:=w
 K:=K
 mg:=mg
 base:=base
 A:=A.deeper (envL L cl s.heap.objs.size f c)
 N:=N
 s₀:=s
 H₀:=zaA cl H
 env:=envL L cl s.heap.objs.size f c
 outer:=outer
 stack:=envL L cl s.heap.objs.size f c::outer
 ex:=[]
 calm:=true
 fn:=fun _=>false
 pn:=[]
 xe:=fun e s'=>wpAny (model P w) (A.deeper (envL L cl s.heap.objs.size f c)) (leaving (envL L cl s.heap.objs.size f c) e) (fun _ s''=>CX outer H s E e s'') (fun e' s''=>CX outer H s E e' s'') s'
structure LamScope (ps fr:List Str) (sc:Scope):Prop where
 kind:sc.kind=.function
 co:sc.isCoroutine=false
 gen:sc.isGenerator=false
 nd:(ps++fr).Nodup
 par:∀ x∈ps,sc.names.lookup x=some .local
 fre:∀ x∈fr,sc.names.lookup x=some .free
 noc:∀ y∈sc.names,y.2≠.cell
 all:∀ x,sc.names.lookup x=some .free→x∈fr
section
variable {CX:CXT}{P:Program}{w:World}{K:PySem.W.Frag}{mg:Str→Option Value}{base:Heap}{L:Lam}{cl:List (Str × Addr)}{vals vs:List V}{ps:List Str}{f c:Addr}{A:Around}{outer:List Env}{s:Shared}{H:Hp}{us:List Value}{Q:VK}{E:XK}
theorem zho {cl:List (Str × Addr)}(nd:(cl.map (·.1)).Nodup):∀ {i:Nat}{x:Str}{c:Addr},cl[i]?=some (x,c)→cl.lookup x=some c:=by
 induction cl with
 | nil=>intro i x c h;cases h
 | cons p r ih =>
  intro i x c h
  rw[JV,JL]at nd
  cases i with
  | zero =>
   cases Option.some.inj h
   rw[Yg,YT]
  | succ i =>
   have m:=JZ (show r[i]?=some (x,c) from h)
   rw[Yg,show (x == p.1)=false from beq_eq_false_iff_ne.mpr fun z=>nd.1 (JA.mpr ⟨_,m,z⟩)]
   exact ih nd.2 (show r[i]?=some (x,c) from h)
theorem zfU {ps:List Str}{us:List Value}(nd:ps.Nodup) (hl:us.length=ps.length) {i:Nat}{x:Str}{u:Value}(hx:ps[i]?=some x) (hu:us[i]?=some u):(ps.zip us).reverse.lookup x=some u:=by
 have nd':((ps.zip us).reverse.map (·.1)).Nodup:=by
  rw[List.map_reverse,List.map_fst_zip (by lia)]
  exact List.pairwise_reverse.mpr (nd.imp fun h=>h.symm)
 have m:(x,u)∈(ps.zip us).reverse:=List.mem_reverse.mpr (JZ (i:=i) (by rw[Zr];exact⟨hx,hu⟩))
 generalize (ps.zip us).reverse=l at nd' m
 induction l with
 | nil=>cases m
 | cons p r ih =>
  rw[JV,JL]at nd'
  rcases List.mem_cons.mp m with e|z
  ·rw[← e,Yg,YT]
  ·rw[Yg,show (x == p.1)=false from beq_eq_false_iff_ne.mpr fun y=>nd'.1 (JA.mpr ⟨_,z,y⟩)]
   exact ih nd'.2 z
theorem zku {h':Heap}{tk:Nat}(S:LamScope ps (cl.map (·.1)) L.scope) (hd:A.handled=none) (e0:Env0 P w K mg base A outer s H) (la:LamAt H f L cl vals) (r:Vals vs us) (hl:vs.length=ps.length)
  (ns:h'.Ns s.heap.objs.size (fun x=>(ps.zip us).reverse.lookup x)) (kp:∀ b o,s.heap.get? b=some o→h'.get? b=some o) :
  Inv (zkE CX P w K mg base (ps++cl.map (·.1)) L cl f c A outer s H E) [] ((vs++vals).map some) (zaA cl H) { s with heap:=h',toks:=tk }:=by
 have fz:=la.fz
 have ndA:=Zt.mp S.nd
 have ul:us.length=ps.length:=by rw[← r.length];exact hl
 have mem_cl:∀ {x:Str}{a:Addr},cl.lookup x=some a→(x,a)∈cl:=fun h=>PySem.mem_of_lookup h
 have cellOf:∀ {x:Str}{a:Addr},(x,a)∈cl→∃ (i:Nat) (v:V) (o:Obj) (u:Value),cl[i]?=some (x,a)∧vals[i]?=some v∧H a=some (FZ o)∧o.data=.cell (some u)∧RelV v u∧s.heap.get? a=some o:=fun {x a} m=>by
  obtain⟨i,il,e⟩:=YB.mp m
  have e':cl[i]?=some (x,a):=by rw[J7 il,e]
  have iv:i<vals.length:=by rw[← la.len];exact il
  obtain⟨o,u,q1,q2,q3⟩:=la.cell i x a vals[i] e' (J7 iv)
  exact⟨i,_,o,u,e',J7 iv,q1,q2,q3,(e0.hok a _ q1).1⟩
 refine⟨⟨e0.mod,S.kind,rfl,rfl,Jg _,fun y z a h1 h2=>?_,fun y hy=>?_,fun y a q=>(by cases q),fun _=>hd,Around.frames_deeper e0.frames,.inr ⟨rfl,rfl⟩,fun b z=>(Jt z).elim,fun b o e=>⟨(e0.bs b o e).1,?_⟩,e0.bsz,fun b _ _=>Jt,fun b z=>(Jt z).elim,e0.funs,fun b hb=>?_⟩,
  rfl,e0.bare,Un.kept kp,⟨_,ns,fun i y v h1 h2 h3=>?_⟩,fun y a h=>?_,?_,fun y a h=>zbv (JA.mpr ⟨_,mem_cl h,rfl⟩),fun p hp=>(Jt hp).elim,(zdT e0.hok fz).kept kp,?_⟩
 ·-- one cell,one name
  have m1:=mem_cl h1
  have m2:=mem_cl h2
  obtain⟨i,il,ei⟩:=YB.mp m1
  obtain⟨j,jl,ej⟩:=YB.mp m2
  have:i=j:=(List.getElem_inj (h₀:=by rw[Jm];exact il) (h₁:=by rw[Jm];exact jl) la.nd2).mp (by rw[List.getElem_map,List.getElem_map,ei,ej])
  subst this
  rw[ei]at ej
  exact JJ Prod.fst ej
 ·have hy:L.scope.names.lookup y=some .cell∨L.scope.names.lookup y=some .free:=hy
  rcases hy with q|q
  ·exact absurd rfl (S.noc _ (PySem.mem_of_lookup q))
  ·obtain⟨p,hp,e⟩:=JA.mp (S.all y q)
   obtain⟨i,il,ei⟩:=YB.mp hp
   exact⟨p.2,zho la.nd1 (i:=i) (by rw[J7 il,ei,← e])⟩
 ·show zaA cl H b=none
  unfold zaA
  split
  ·rfl
  ·exact(e0.bs b o e).2
 ·show zaA cl H b=none
  unfold zaA
  split
  ·rfl
  ·exact e0.frf b hb
 ·have h2':(vs++vals)[i]?=some v:=by
   rw[JR]at h2
   cases e:(vs++vals)[i]? with
   | none=>rw[e]at h2;cases h2
   | some z=>rw[e]at h2;cases h2;rfl
  replace h1:(ps++cl.map (·.1))[i]?=some y:=h1
  by_cases ci:i<vs.length
  ·rw[Ys ci]at h2'
   rw[Ys (by lia)]at h1
   obtain⟨u,hu,rv⟩:=r.get h2'
   exact⟨u,rv,.inl ⟨S.par y (JZ h1),zfU ndA.1 ul h1 hu⟩⟩
  ·rw[Yn (by lia)]at h2'
   rw[Yn (by lia),JR,← hl]at h1
   obtain⟨⟨x,a⟩,e1,rfl⟩:=Y5.mp h1
   obtain⟨o,u,q1,q2,q3⟩:=la.cell _ x a v e1 h2'
   exact⟨u,q3,.inr ⟨.inr (S.fre x (JA.mpr ⟨_,JZ e1,rfl⟩)),a,zho la.nd1 e1,o,kp _ _ (e0.hok a _ q1).1,q2⟩⟩
 ·obtain⟨i,v,o,u,_,_,_,q2,_,q4⟩:=cellOf (mem_cl h)
  exact⟨some u,o,kp _ _ q4,q2⟩
 ·show zaA cl H s.heap.objs.size=none
  unfold zaA
  split
  ·rfl
  ·exact e0.hok.fresh (Jg _)
 ·show ((vs++vals).map some).length=(ps++cl.map (·.1)).length
  rw[Jm,Ja,Ja,Jm,hl,la.len]
end
section
variable {X:Cx}{CX:CXT}{k:Nat}{L:Lam}{fr ps:List Str}{sp:List V→List V→Hp→VK→XK→Prop}{E:XK}{x:Str}{i:Nat}{p pos:Pos}{e:Expr}{es:List Expr}{t:TA}
end
theorem zeR {sc:Scope}{env:Env}(h:∀ x,(x,NameKind.free)∈sc.names→∃ c,env.cells.lookup x=some c) :
  ∃ cl,closureFor sc env=pure cl∧cl.map (·.1)=((sc.names.filter fun y=>y.2 == .free).map (·.1)).reverse∧∀ p∈cl,env.cells.lookup p.1=some p.2:=by
 unfold closureFor
 have key:∀ (l:List (Str × NameKind)) (acc:List (Str × Addr)),(∀ x,(x,NameKind.free)∈l→∃ c,env.cells.lookup x=some c)→(∀ p∈acc,env.cells.lookup p.1=some p.2) →
   ∃ cl,(forIn l acc fun (y:Str × NameKind) (r:List (Str × Addr))=>(match y with|(name,kind)=>if (kind == NameKind.free)=true then do let a ← cellOf env name;pure (ForInStep.yield ((name,a)::r)) else pure (ForInStep.yield r):Sem (ForInStep (List (Str × Addr)))))=pure cl∧cl.map (·.1)=((l.filter fun y=>y.2 == .free).map (·.1)).reverse++acc.map (·.1)∧∀ p∈cl,env.cells.lookup p.1=some p.2:=by
  intro l
  induction l with
  | nil=>intro acc _ ha;exact⟨acc,rfl,rfl,ha⟩
  | cons y l ih =>
   intro acc hl ha
   obtain⟨x,kd⟩:=y
   rw[Yy]
   by_cases c:(kd == NameKind.free)=true
   ·have ek:kd=.free:=by
     cases kd<;>first|rfl|cases c
    subst ek
    obtain⟨a,ea⟩:=hl x (.head _)
    obtain⟨cl,e1,e2,e3⟩:=ih ((x,a)::acc) (fun z hz=>hl z (.tail _ hz)) (fun p hp=>by
     rcases List.mem_cons.mp hp with rfl|q
     ·exact ea
     ·exact ha p q)
    refine⟨cl,?_,?_,e3⟩
    ·have ec:cellOf env x=pure a:=by unfold cellOf;rw[ea]
     simp only[ec,pure_bind]
     exact e1
    ·rw[e2,List.filter_cons,Jf (show ((x,NameKind.free).2 == NameKind.free)=true from rfl),JV (l:=List.filter _ l),List.reverse_cons,JM];rfl
   ·obtain⟨cl,e1,e2,e3⟩:=ih acc (fun z hz=>hl z (.tail _ hz)) ha
    refine⟨cl,?_,?_,e3⟩
    ·simp only[c,pure_bind]
     exact e1
    ·rw[e2,List.filter_cons,Jc c]
 obtain⟨cl,e1,e2,e3⟩:=key sc.names [] h (fun p hp=>(Jt hp).elim)
 refine⟨cl,?_,by rw[e2,List.map_nil,JT],e3⟩
 have e4:=JJ (fun (m:Sem (List (Str × Addr)))=>m >>= fun r=>pure r) e1
 exact e4.trans (pure_bind _ _)
def TabOk (H:Hp) (qual:Str) (l:List (Pos × Addr)):Prop:=∀ p∈l,∃ (oc:Obj) (fs:Array Value) (t:Tok),H p.2=some (FZ oc)∧oc.data=.fields fs∧fs[1]?=some (.str qual t)
theorem TabOk.frz {H H':Hp}{qual:Str}{l:List (Pos × Addr)}(h:TabOk H qual l) (z:∀ b o u,H b=some (.frz o u)→H' b=some (.frz o u)):TabOk H' qual l:=fun p hp=>by
 obtain⟨oc,fs,t,h1,h2⟩:=h p hp
 exact⟨oc,fs,t,z _ _ _ h1,h2⟩
theorem zcV (pos:Pos):∀ l:List (Pos × Addr),codeAmong pos (triples l)=none∨∃ p∈l,codeAmong pos (triples l)=some (.ref p.2)
 | []=>.inl rfl
 | (q,a)::l=>by
  show (if (((q.line:Int) == pos.line && (q.col:Int) == pos.col)=true) then some (Value.ref a) else codeAmong pos (triples l))=none∨∃ p∈(q,a)::l,(if (((q.line:Int) == pos.line && (q.col:Int) == pos.col)=true) then some (Value.ref a) else codeAmong pos (triples l))=some (.ref p.2)
  split
  ·exact .inr ⟨_,.head _,rfl⟩
  ·rcases zcV pos l with h|⟨p,hp,h⟩
   ·exact .inl h
   ·exact .inr ⟨p,.tail _ hp,h⟩
theorem zbP:∀ l:List (Pos × Addr),TriplesOk (triples l)
 | []=>trivial
 | (q,a)::l=>zbP l
structure CodeK (K:PySem.W.Frag) (mg:Str→Option Value) (base:Heap) (c P:Addr):Prop where
 hd:PySem.W.codeHdIn K c P=true
 blt:base.BuiltinsAt mg P
 gP:mainGlobals≠P
structure LamRaw (H:Hp) (f:Addr) (L:Lam) (cl:List (Str × Addr)):Prop where
 ex:∃ (pm:Value) (c:Addr) (ct:Value) (oc:Obj) (fs:Array Value) (t:Tok),H f=some (FZ (lamO L cl pm c ct))∧H c=some (FZ oc)∧oc.data=.fields fs∧fs[1]?=some (.str L.qual t)
def CellsOf (env:Env) (cl:List (Str × Addr)):Prop:=∀ p∈cl,env.cells.lookup p.1=some p.2
def tLam (env:Env) (P:Addr) (L:Lam) (fr:List Str):TE:=fun _ H Q=>∃ l,H P=some (.tbl (triples l).toArray)∧TabOk H L.qual l ∧
 ∀ f cl l' H',cl.map (·.1)=fr→CellsOf env cl→H f=none→LamRaw H' f L cl→H' P=some (.tbl (triples l').toArray)→TabOk H' L.qual l'→(∀ b o,H b=some o→b≠P→H' b=some o)→Q (.ref f) H'
section
variable {X:Cx}{pins:List (Addr × Obj)}{σ:St}{H:Hp}{s:Shared}{h':Heap}
theorem Inv.tab {P:Addr}{ps more:Array Value}{tk:Nat}(I:Inv X pins σ H s) (hP:H P=some (.tbl ps)) (k:Heap.ExtBut P s.heap h') (new:h'.get? P=some (PySem.W.tabObj (ps++more))):Inv X pins σ (upd H P (.tbl (ps++more))) { s with heap:=h',toks:=tk }:=by
 have ne:∀ {b:Addr},H b=none→b≠P:=fun e z=>by rw[z,hP]at e;cases e
 have oth:∀ {b:Addr}{o:HO},H b=some o→(∀ q,o≠.tbl q)→upd H P (.tbl (ps++more)) b=some o:=fun {b o} e n=>by
  rw[zad];· exact e
  ·intro z
   rw[z,hP]at e
   exact n ps (Option.some.inj e).symm
 refine I.step (g':=s.gens) (d':=s.drawn) (ch:=[]) (fun b hb=>(Jt hb).elim) (fun b o _ _ _ e n=>k b o (ne n) e) (fun b o _ _ _ e n=>⟨o.slots,k b o (ne n) e⟩) (fun b o _ e n=>by rw[zad (ne n)];exact n) (fun b o _ e=>?_) (fun b xs e=>oth e fun q z=>by cases z) (fun b o u e=>oth e fun q z=>by cases z) (fun b qs e=>?_) (fun m hm=>?_) (fun b u e=>?_) I.bare
 ·by_cases c:b=P
  ·subst c;exact⟨_,new⟩
  ·exact⟨o,k b o c e⟩
 ·by_cases c:b=P
  ·subst c
   rw[hP]at e
   cases e
   exact⟨more,zac⟩
  ·exact⟨#[],by rw[zad c,e];simp⟩
 ·obtain⟨o,es,ep,ho,r⟩:=hm
  exact⟨o,es,ep,k _ o (ne I.free) ho,r⟩
 ·by_cases c:b=P
  ·subst c
   rw[zac]at e
   cases e
   exact new
  ·rw[zad c]at e
   refine(I.hok b u e).stay (fun x v hx q=>k x v ?_ q) (fun x q=>oth q fun z y=>by cases y) fun x xs q=>oth q fun z y=>by cases y
   rcases hx with z|z
   ·rw[z];exact c
   ·rintro rfl
    rw[hP]at z;cases z
theorem zkZ {params:Arguments}{body:Expr}{scope:Scope}{pos:Pos}{c P:Addr}{fr:List Str}(CK:CodeK X.K X.mg X.base c P) (hcode:X.env.code=.ref c) (hdef:defaultsOf params X.env=([],[])) (hfree:∀ x,(x,NameKind.free)∈scope.names→X.env.kindOf x=some .cell∨X.env.kindOf x=some .free) (hfr:((scope.names.filter fun y=>y.2 == .free).map (·.1)).reverse=fr) :
  PE X (.Lambda params body scope pos) (tLam X.env P ⟨params,body,scope,X.env.qual++"<lambda>"⟩ fr):=by
 intro pins s σ H Q I h
 obtain⟨l,hP,tok,q⟩:=h
 obtain⟨cl,ecl,efr,hcl⟩:=zeR (sc:=scope) (env:=X.env) fun x hx=>I.ok.has x (hfree x hx)
 rw[hfr]at efr
 have hg:s.heap.Ns mainGlobals X.mg:=I.mod.glob.keeps I.bk
 have hb:s.heap.BuiltinsAt X.mg P:=CK.blt.keeps I.bk
 have C:=PySem.W.codeHd_of_K I.kIn CK.hd
 have tP:s.heap.get? P=some (PySem.W.tabObj (triples l).toArray):=I.hok P _ hP
 refine PySem.W.kla_eval hdef ?_
 rcases zcV pos l with hn|⟨p,hp,hy⟩
 ·refine PySem.W.kla_makeFunction ecl I.ok.glob hg hcode C tP (by rw[List.toList_toArray];exact zbP l) (by rw[List.toList_toArray];exact hn) CK.gP hb fun c' ctv h' tk ex lo hi cr tp=>?_
  obtain⟨c2,oc,fs,t,ec,g1,g2,g3⟩:=cr
  cases ec
  have pl:P<s.heap.objs.size:=Jn tP
  have sz:s.heap.objs.size≤h'.objs.size:=JY lo (Nat.le_of_lt hi)
  have cP:c'≠P:=Yz (JF pl lo)
  have fP:h'.objs.size≠P:=Yz (JF pl sz)
  have cf:c'≠h'.objs.size:=JB hi
  have e1:(triples l).toArray++#[rawInt pos.line,rawInt pos.col,.ref c']=(triples (l++[(pos,c')])).toArray:=by
   rw[triples_append];simp
  rw[e1]at tp
  have I1:=I.tab (tk:=tk) (h':=h'.push (lamO ⟨params,body,scope,X.env.qual++"<lambda>"⟩ cl ((X.mg "__name__").getD .none) c' ctv)) (more:=#[rawInt pos.line,rawInt pos.col,.ref c']) hP (fun b o n e=>J8 _ (ex b o n e)) (by rw[e1];exact J8 _ tp)
  rw[e1]at I1
  have n1:H c'=none:=I.hok.fresh lo
  have n2:H h'.objs.size=none:=I.hok.fresh sz
  have m1:upd H P (.tbl (triples (l++[(pos,c')])).toArray) c'=none:=by rw[zad cP];exact n1
  have I2:=I1.adopt (o:=FZ oc) (I.fpOk lo m1) (zhF (J8 _ g1))
  have m2:upd (upd H P (.tbl (triples (l++[(pos,c')])).toArray)) c' (FZ oc) h'.objs.size=none:=by rw[zad cf.symm,zad fP];exact n2
  have I3:=I2.adopt (o:=FZ (lamO ⟨params,body,scope,X.env.qual++"<lambda>"⟩ cl ((X.mg "__name__").getD .none) c' ctv)) (I.fpOk sz m2) (zhF (Jp _ rfl))
  have keep:∀ b o,H b=some o→b≠P→upd (upd (upd H P (.tbl (triples (l++[(pos,c')])).toArray)) c' (FZ oc)) h'.objs.size (FZ (lamO ⟨params,body,scope,X.env.qual++"<lambda>"⟩ cl ((X.mg "__name__").getD .none) c' ctv)) b=some o:=fun b o e n=>by
   rw[zad (zab e n2),zad (zab e n1),zad n];exact e
  refine⟨.ref h'.objs.size,_,I3,rfl,q _ cl (l++[(pos,c')]) _ efr hcl n2 ⟨_,c',ctv,oc,fs,t,zac,by rw[zad cf];exact zac,g2,g3⟩ (by rw[zad fP.symm,zad cP.symm];exact zac) (fun p hp=>?_) keep⟩
  rcases Js.mp hp with was|is
  ·obtain⟨oc',fs',t',o1,o2,o3⟩:=tok p was
   exact⟨oc',fs',t',keep _ _ o1 (zbC o1 hP (fun y=>by cases y)),o2,o3⟩
  ·rw[Jd.mp is]
   exact⟨oc,fs,t,by rw[zad cf];exact zac,g2,g3⟩
 ·obtain⟨oc,fs,t,o1,o2,o3⟩:=tok p hp
  refine PySem.W.kla_makeFunctionHit ecl I.ok.glob hg hcode C tP (by rw[List.toList_toArray];exact zbP l) (by rw[List.toList_toArray];exact hy) hb fun ctv h' tk k sz=>?_
  have kk:∀ b o,s.heap.get? b=some o→(h'.push (lamO ⟨params,body,scope,X.env.qual++"<lambda>"⟩ cl ((X.mg "__name__").getD .none) p.2 ctv)).get? b=some o:=fun b o e=>J8 _ (k b o e)
  have fr0:=I.hok.fresh (a:=h'.objs.size) sz
  have I1:=I.laid (a:=h'.objs.size) (o:=FZ (lamO ⟨params,body,scope,X.env.qual++"<lambda>"⟩ cl ((X.mg "__name__").getD .none) p.2 ctv)) (t':=tk) kk sz (zhF (Jp _ rfl))
  refine⟨.ref h'.objs.size,_,I1,rfl,q _ cl l _ efr hcl fr0 ⟨_,p.2,ctv,oc,fs,t,zac,by rw[zad (zab o1 fr0)];exact o1,o2,o3⟩ (by rw[zad (zab hP fr0)];exact hP) (tok.frz fun b o u e=>by rw[zad (zab e fr0)];exact e) fun b o e _=>by rw[zad (zab e fr0)];exact e⟩
end
def CellsAt (H:Hp) (cs:List (Str × Addr)) (vals:List V):Prop:=cs.length=vals.length∧∀ (i:Nat) x c v,cs[i]?=some (x,c)→vals[i]?=some v→∃ o u,H c=some (FZ o)∧o.data=.cell (some u)∧RelV v u
theorem CellsAt.fz {H:Hp}{cs:List (Str × Addr)}{vals:List V}(h:CellsAt H cs vals):CellsFz cs H:=fun b hb=>by
 obtain⟨⟨x,c⟩,hc,rfl⟩:=JA.mp hb
 obtain⟨i,il,e⟩:=YB.mp hc
 have iv:i<vals.length:=by rw[← h.1];exact il
 obtain⟨o,u,q1,_⟩:=h.2 i x c vals[i] (by rw[J7 il,e]) (J7 iv)
 exact⟨o,q1⟩
theorem LamRaw.at_ {H:Hp}{f:Addr}{L:Lam}{cl cs:List (Str × Addr)}{vals ws:List V}(r:LamRaw H f L cl) (h:CellsAt H cs vals) (n1:(cl.map (·.1)).Nodup) (n2:(cl.map (·.2)).Nodup) (len:cl.length=ws.length)
  (sub:∀ (i:Nat) x c v,cl[i]?=some (x,c)→ws[i]?=some v→∃ j:Nat,cs[j]?=some (x,c)∧vals[j]?=some v):LamAt H f L cl ws:=by
 refine⟨r.ex,len,fun i x c v a b=>?_,n1,n2⟩
 obtain⟨j,e1,e2⟩:=sub i x c v a b
 exact h.2 j x c v e1 e2
def zkQ (env:Env) (xs:List (Str × Nat)) (sp:Sp) (E:XK) (t:TA):TE:=fun σ H Q=>t σ H fun vs H1=>∃ vals:List V,vals.length=xs.length∧(∀ (j:Nat) x i v,xs[j]?=some (x,i)→vals[j]?=some v→σ[i]?=some (some v)) ∧
 ∀ cs H2,cs.map (·.1)=xs.map (·.1)→CellsOf env cs→(cs.map (·.2)).Nodup→CellsAt H2 cs vals→(∀ b,b∉cs.map (·.2)→H2 b=H1 b)→(∀ b∈cs.map (·.2),H1 b=none)→sp vs H2 (fun v H3=>Q v (zaA cs H3)) E
section
variable {X:Cx}{pins:List (Addr × Obj)}{σ:St}{H:Hp}{s:Shared}
theorem Inv.cells {xs:List (Str × Nat)}{vals:List V}(I:Inv X pins σ H s) (nd:(xs.map (·.1)).Nodup) (hk:∀ p∈xs,X.N[p.2]?=some p.1∧X.env.scope.names.lookup p.1=some .cell∧X.fn p.1=true) (hl:vals.length=xs.length)
  (hσ:∀ (j:Nat) x i v,xs[j]?=some (x,i)→vals[j]?=some v→σ[i]?=some (some v)):∃ cs:List (Str × Addr),cs.map (·.1)=xs.map (·.1)∧CellsOf X.env cs∧(cs.map (·.2)).Nodup∧cs.length=vals.length ∧
   ∀ (j:Nat) x c v,cs[j]?=some (x,c)→vals[j]?=some v→∃ o u,s.heap.get? c=some o∧o.data=.cell (some u)∧RelV v u∧X.s₀.heap.objs.size≤c:=by
 induction xs generalizing vals with
 | nil =>
  cases vals with
  | nil=>exact⟨[],rfl,fun p hp=>(Jt hp).elim,Yw,rfl,fun j x c v h=>by cases h⟩
  | cons a b=>cases hl
 | cons p xs ih =>
  cases vals with
  | nil=>cases hl
  | cons v0 vals =>
   rw[JV,JL]at nd
   obtain⟨cs,c1,c2,c3,c4,c5⟩:=ih (vals:=vals) nd.2 (fun q hq=>hk q (.tail _ hq)) (by simpa using hl) (fun j x i v a b=>hσ (j+1) x i v a b)
   obtain⟨x0,i0⟩:=p
   obtain⟨k1,k2,k3⟩:=hk (x0,i0) (.head _)
   have hv:=hσ 0 x0 i0 v0 rfl rfl
   obtain⟨m,hn,lo⟩:=I.loc
   obtain⟨u,ru,lk⟩:=lo i0 x0 v0 k1 hv (.inr (.inl k2))
   rcases lk with ⟨kk,_⟩|⟨_,c,hc,o,ho,hd⟩
   ·have kk':X.env.scope.names.lookup x0=some .local:=kk
    rw[k2]at kk';cases kk'
   refine⟨(x0,c)::cs,by rw[JV,JV,c1],fun q hq=>?_,?_,by rw[JN,JN,c4],fun j x c' v a b=>?_⟩
   ·rcases List.mem_cons.mp hq with rfl|z
    ·exact hc
    ·exact c2 q z
   ·rw[JV,JL]
    refine⟨fun hm=>?_,c3⟩
    obtain⟨q,hq,e⟩:=JA.mp hm
    have:=I.ok.inj q.1 x0 c (by rw[c2 q hq];exact JJ some e) hc
    exact nd.1 (by rw[← c1,← this];exact JA.mpr ⟨q,hq,rfl⟩)
   ·cases j with
    | zero =>
     cases Option.some.inj a
     cases Option.some.inj b
     exact⟨o,u,ho,hd,ru,I.ok.cab x0 c k3 hc⟩
    | succ j=>exact c5 j x c' v a b
variable {CX:CXT}{k:Nat}{f:Addr}{fd:FuncData}{ps:List Str}{sp:Sp}{x:Str}{p pos:Pos}{e:Expr}{es:List Expr}{t:TA}{E:XK}
theorem ziy (F:FnOk X.prog X.w X.K X.mg X.base CX0 k f fd ps sp) (hr:Room k X.A) (hg:Gl X x) (hm:X.mg x=some (.ref f)) (hkp:PySem.W.keepIn X.K (.ref f)=true) (hb:Binds X.K fd ps []) (xs:List (Str × Nat)) (nd:(xs.map (·.1)).Nodup)
  (hk:∀ p∈xs,X.N[p.2]?=some p.1∧X.env.scope.names.lookup p.1=some .cell∧X.fn p.1=true) (ha:PA X (e::es) t) (hdb:(x == ("__debug__":Str))=false:=by decide) (he:starEach (e::es) X.env=(false,eval e X.env)::starEach es X.env:=by rfl) (hpl:(backTo pos (starEach es X.env)).any (·.1)=false:=by rfl) :
  PE X (.Call (.Name x p) (e::es) [] pos) (zkQ X.env xs sp E t):=by
 intro pins s σ H Q I h
 refine wpAny_Call_Name_kw (zhp I hg hm ?_ hdb)
 refine PySem.W.callWith_K (h₀:=X.base) I.ok.mod.kin hkp (thn (ha pos pins s σ H _ I h) fun us s1 ⟨vs,H1,I1,r,vals,vl,hσ,q⟩=>⟨I1.kIn,?_⟩) he hpl
 obtain⟨cs,c1,c2,c3,c4,c5⟩:=I1.cells nd hk vl hσ
 have cell:∀ b∈cs.map (·.2),∃ y o u,X.env.cells.lookup y=some b∧s1.heap.get? b=some o∧o.data=.cell (some u)∧X.s₀.heap.objs.size≤b:=fun b hb=>by
  obtain⟨⟨y,c⟩,hc,rfl⟩:=JA.mp hb
  obtain⟨j,jl,ej⟩:=YB.mp hc
  have jv:j<vals.length:=by rw[← c4];exact jl
  obtain⟨o,u,g1,g2,_,g4⟩:=c5 j y c vals[j] (by rw[J7 jl,ej]) (J7 jv)
  exact⟨y,o,u,c2 (y,c) hc,g1,g2,g4⟩
 have free:∀ b∈cs.map (·.2),H1 b=none:=fun b hb=>by
  obtain⟨y,o,u,e1,_⟩:=cell b hb
  exact I1.freeC y b e1
 have nofr:∀ b∈cs.map (·.2),b∉frs X.stack:=fun b hb hf=>by
  obtain⟨y,o,u,e1,_,_,lo⟩:=cell b hb
  rcases List.mem_cons.mp (I1.stkSub b hf) with z|z
  ·exact I1.cne y b e1 z
  ·obtain⟨_,o',ho,_⟩:=I1.ok.funs.mem z
   exact absurd (JF (Jn ho) lo) (Ym _)
 let H2:Hp:=fun b=>if b∈cs.map (·.2) then (s1.heap.get? b).map FZ else H1 b
 have in2:∀ {b:Addr}{o:Obj},b∈cs.map (·.2)→s1.heap.get? b=some o→H2 b=some (FZ o):=fun {b o} hb e=>by
  show (if b∈cs.map (·.2) then (s1.heap.get? b).map FZ else H1 b)=_
  rw[Jf hb,e];rfl
 have out2:∀ b,b∉cs.map (·.2)→H2 b=H1 b:=fun b hb=>Jc hb
 have old2:∀ {b:Addr}{o:HO},H1 b=some o→H2 b=some o:=fun {b o} e=>by
  rw[out2 b fun hb=>by rw[free b hb]at e;cases e];exact e
 have ca:CellsAt H2 cs vals:=⟨c4,fun i y c v a b=>by
  obtain⟨o,u,g1,g2,g3,_⟩:=c5 i y c v a b
  exact⟨o,u,in2 (JA.mpr ⟨_,JZ a,rfl⟩) g1,g2,g3⟩⟩
 have ok2:HOk X.prog X.w H2 s1.heap:=fun b u e2=>by
  by_cases hb:b∈cs.map (·.2)
  ·obtain⟨y,o,u',_,g1,_⟩:=cell b hb
   rw[in2 hb g1]at e2
   cases e2
   exact zhF g1
  ·rw[out2 b hb]at e2
   exact(I1.hok b u e2).stay (fun _ _ _ z=>z) (fun _ z=>old2 z) fun _ _ z=>old2 z
 have e0:=I1.env0
 have e2:Env0 X.prog X.w X.K X.mg X.base X.A X.stack s1 H2:=⟨e0.frames,e0.mod,fun b o z=>⟨(e0.bs b o z).1,?_⟩,e0.bsz,e0.funs,fun b hb=>?_,ok2,e0.bare⟩
 rotate_left
 ·rw[out2 b fun hc=>?_];· exact(e0.bs b o z).2
  ·obtain⟨y,o',u,_,_,_,lo⟩:=cell b hc
   exact absurd (JF (Jn z) (JY I1.ok.bsz lo)) (Ym _)
 ·rw[out2 b fun hc=>nofr b hc hb];exact e0.frf b hb
 have z:=q cs H2 c1 c2 c3 ca out2 free
 have ul:us.length=ps.length:=by rw[← r.length];exact F.len _ _ _ _ z
 refine wpAny_call (codeAny_mono (F.run X.A X.stack s1 H2 ⟨us,[]⟩ us vs _ E hr e2 (by have:=hb s1 us I1.kIn (by rw[JT];exact ul);rwa [JT]at this) r z) fun rs s' hq=>?_)
 cases rs with
 | error e=>exact hq.elim
 | ok fl =>
  cases fl with
  | next=>exact False.elim hq
  | brk=>exact False.elim hq
  | cont=>exact False.elim hq
  | ret u =>
   obtain⟨v,H3,os,bare,un,hok,rv,qq⟩:=hq
   have fz3:CellsFz cs H3:=fun b hb=>by
    obtain⟨o,w⟩:=ca.fz b hb
    exact⟨o,un.frzs b o _ w⟩
   have same:∀ b∈cs.map (·.2),∀ o,s1.heap.get? b=some o→s'.heap.get? b=some o:=fun b hb o e=>by
    have:=un.frzs b o _ (in2 hb e)
    exact(hok b _ this).1
   refine I1.after ⟨v,zaA cs H3,os,bare,⟨fun b o e n x y=>?_,fun b o e n x y=>?_,fun b o e n y=>?_,un.there,fun b ys e=>?_,fun b o w e=>?_,fun b qs e=>?_⟩,zdT hok fz3,rv,qq⟩
   ·by_cases hb:b∈cs.map (·.2)
    ·exact same b hb o e
    ·exact un.keep b o e (by rw[out2 b hb];exact n) x y
   ·by_cases hb:b∈cs.map (·.2)
    ·exact⟨o.slots,same b hb o e⟩
    ·exact un.slot b o e (by rw[out2 b hb];exact n) x y
   ·by_cases hb:b∈cs.map (·.2)
    ·exact zbv hb
    ·rw[zak hb];exact un.free b o e (by rw[out2 b hb];exact n) y
   ·have hb:b∉cs.map (·.2):=fun hb=>by rw[free b hb]at e;cases e
    rw[zak hb];exact un.tups b ys (old2 e)
   ·have hb:b∉cs.map (·.2):=fun hb=>by rw[free b hb]at e;cases e
    rw[zak hb];exact un.frzs b o w (old2 e)
   ·have hb:b∉cs.map (·.2):=fun hb=>by rw[free b hb]at e;cases e
    rw[zak hb];exact un.tbls b qs (old2 e)
end
def lowQ (cl:List (Str × Addr)) (H:Hp) (Q:VK):VK:=fun v H1=>(∀ b∈cl.map (·.2),H1 b=none)→Q v (back cl H H1)
section
variable {CX:CXT}{P:Program}{w:World}{K:PySem.W.Frag}{mg:Str→Option Value}{base:Heap}{L:Lam}{cl:List (Str × Addr)}{vals vs:List V}{ps:List Str}{f c:Addr}{A:Around}{outer:List Env}{s:Shared}{H:Hp}{us:List Value}{Q:VK}{E:XK}
theorem zi3 {k:Nat}(S:LamScope ps (cl.map (·.1)) L.scope) (hr:Room (k+1) A) (e0:Env0 P w K mg base A outer s H) (la:LamAt H f L cl vals) (r:Vals vs us) (hl:vs.length=ps.length)
  (hb:∀ pm cdv ct,bindArgs (PySem.W.kla_fn "<lambda>" L.qual L.params L.body L.scope cl pm cdv ct) ⟨us,[]⟩=pure (ps.zip us))
  (hbody:∀ c,Room k (A.deeper (envL L cl s.heap.objs.size f c))→∃ t,PE (zkE CX P w K mg base (ps++cl.map (·.1)) L cl f c A outer s H E) L.body t∧t ((vs++vals).map some) (zaA cl H) (lowQ cl H Q)) :
  codeAny (model P w) A (.call (.ref f) ⟨us,[]⟩) (CR CX outer P w H s Q E) s:=by
 obtain⟨pm,c,ct,oc,fs,tc,h1,h2,h3,h4⟩:=la.ex
 have lim:s.heap.NoLimit:=e0.mod.nolimit.keeps fun b o e=>(e0.bs b o e).1
 have ul:us.length=ps.length:=by rw[← r.length];exact hl
 refine PySem.W.kla_callFunE hr.depth (e0.hok f _ h1).1 rfl S.co S.gen rfl ⟨c,oc,fs,tc,rfl,(e0.hok c _ h2).1,h3,h4⟩ ?_
 rw[show bindArgs _ _=_ from hb pm (.ref c) ct]
 refine J9 (wpAny_newFunctionEnv S.noc (fun y hy=>S.par y.1 (List.of_mem_zip hy).1) (fun h' ns sb=>?_) S.kind)
 have kp:∀ b o,s.heap.get? b=some o→h'.get? b=some o:=fun b o e=>(sb.2 b (JB (Jn e))).trans (J8 _ e)
 refine⟨lim.keeps kp,PySem.W.kla_codeExpr ?_⟩
 obtain⟨t,ht,hq⟩:=hbody c (hr.deeper _)
 have I:=zku (CX:=CX) (E:=E) (c:=c) (tk:=s.toks+(ps.zip us).length) S hr.hd e0 la r hl ns kp
 refine JK (ht [] _ _ _ _ I hq) (fun u s' hs=>?_) fun e s' hs=>hs
 obtain⟨v,H1,J,rv,q⟩:=hs
 have fzl:=la.fz
 have low:∀ b∈cl.map (·.2),H1 b=none:=fun b hb=>by
  obtain⟨o,z⟩:=fzl b hb
  exact J.base.free b o (e0.hok b _ z).1 (zbv hb) Jt
 obtain⟨un,ok⟩:=zjH (H':=H1) J.base fzl e0.frf (fun b o z=>(e0.hok b _ z).1) low J.hok
 exact⟨v,_,J.os,J.bare,un,ok,rv,q low⟩
end
abbrev LSpc:=List V→List V→Hp→VK→XK→Prop
structure LamQ (CX:CXT) (P:Program) (w:World) (K:PySem.W.Frag) (mg:Str→Option Value) (base:Heap) (k:Nat) (L:Lam) (fr ps:List Str) (sp:LSpc):Prop where
 S:LamScope ps fr L.scope
 len:∀ vals vs H Q E,sp vals vs H Q E→vs.length=ps.length
 bind:∀ (cl:List (Str × Addr)) (us:List Value),us.length=ps.length→∀ pm cdv ct,bindArgs (PySem.W.kla_fn "<lambda>" L.qual L.params L.body L.scope cl pm cdv ct) ⟨us,[]⟩=pure (ps.zip us)
 body:∀ (cl:List (Str × Addr)) (f c:Addr) (A:Around) (outer:List Env) (s:Shared) (H:Hp) (vals vs:List V) (Q:VK) (E:XK),cl.map (·.1)=fr→Room k (A.deeper (envL L cl s.heap.objs.size f c))→CellsFz cl H→sp vals vs (zaA cl H) Q E →
  ∃ t,PE (zkE CX P w K mg base (ps++fr) L cl f c A outer s H E) L.body t∧t ((vs++vals).map some) (zaA cl H) Q
def zlD (L:Lam) (fr:List Str) (sp:LSpc) (E:XK) (i:Nat) (t:TA):TE:=fun σ H Q=>∃ f,σ[i]?=some (some (.ref f))∧(∃ cl pm c ct,H f=some (FZ (lamO L cl pm c ct)))∧t σ H fun vs H1=>∃ cl vals,cl.map (·.1)=fr∧LamAt H1 f L cl vals∧sp vals vs (zaA cl H1) (lowQ cl H1 Q) E
section
variable {X:Cx}{CX:CXT}{k:Nat}{L:Lam}{fr ps:List Str}{sp:LSpc}{E:XK}{x:Str}{i:Nat}{p pos:Pos}{e:Expr}{es:List Expr}{t:TA}
theorem zj9 (F:LamQ CX X.prog X.w X.K X.mg X.base k L fr ps sp) (hr:Room (k+1) X.A) (hN:PE X (.Name x p) (tVar i)) (hx:Passes CX X E) (ha:PA X (e::es) t) (he:starEach (e::es) X.env=(false,eval e X.env)::starEach es X.env:=by rfl) (hpl:(backTo pos (starEach es X.env)).any (·.1)=false:=by rfl) :
  PE X (.Call (.Name x p) (e::es) [] pos) (zlD L fr sp E i t):=by
 intro pins s σ H Q I h
 obtain⟨f,hf,⟨cl0,pm0,c0,ct0,hf0⟩,q⟩:=h
 refine wpAny_Call_Name_kw (thn (hN pins s σ H (fun v H'=>v=.ref f∧H'=H) I ⟨_,hf,rfl,rfl⟩) fun g s0 ⟨v,H0,I0,rv,ev,eh⟩=>?_)
 subst ev eh
 obtain rfl:g=.ref f:=rv
 refine PySem.W.callWith_F ⟨_,_,_,_,(I0.hok f _ hf0).1⟩ ?_ he hpl
 refine thn (ha pos pins s0 σ H0 _ I0 q) fun us s1 ⟨vs,H1,I1,r,cl,vals,ec,la,z⟩=>?_
 obtain⟨pm,c,ct,oc,fs,tc,h1,h2,h3,h4⟩:=la.ex
 have hl:=F.len _ _ _ _ _ z
 have ul:us.length=ps.length:=by rw[← r.length];exact hl
 have S':LamScope ps (cl.map (·.1)) L.scope:=by rw[ec];exact F.S
 refine⟨⟨_,_,_,_,(I1.hok f _ h1).1⟩,?_⟩
 refine wpAny_call (codeAny_mono (zi3 (CX:=CX) (E:=E) (Q:=Q) S' hr I1.env0 la r hl (F.bind cl us ul) fun c' hr'=>?_) fun rs s' hq=>?_)
 ·obtain⟨t',ht,hq⟩:=F.body cl f c' X.A X.stack s1 H1 vals vs _ E ec hr' la.fz z
  exact⟨t',by rw[ec];exact ht,hq⟩
 ·cases rs with
  | error e=>exact hx pins σ H1 s1 e s' I1 hq
  | ok fl =>
   cases fl with
   | ret u=>exact I1.after hq
   | next=>exact False.elim hq
   | brk=>exact False.elim hq
   | cont=>exact False.elim hq
end
abbrev LvL:=List (KN × List Int)
def getL (ps:LvL) (k:KN):Option (List Int):=(ps.find? fun x=>decide (x.1=k)).map (·.2)
def putL (ps:LvL) (k:KN) (c:List Int):LvL:=if (getL ps k).isSome then ps.map fun x=>if x.1=k then (x.1,c) else x else ps++[(k,c)]
def oneM (c:List Int) (m:Nat):List Int:=Bn.zao c m 1
structure LAcc where
 on:LvL
 fl:List (List Int)
section
variable (step:KN→Nat→Option KN) (seen:LvL)
def go1 (s:KN) (c:List Int) (a:LAcc) (m:Nat):LAcc :=
 match step s m with
 | none=>⟨a.on,a.fl++[oneM c m]⟩
 | some t=>if (getL seen t).isSome then a else ⟨putL a.on t (minR (oneM c m) ((getL a.on t).getD (oneM c m))),a.fl⟩
def goS (moves:List Nat) (a:LAcc) (p:KN × List Int):LAcc:=moves.foldl (go1 step seen p.1 p.2) a
def zaB (moves:List Nat) (level:LvL):LAcc:=level.foldl (goS step seen moves) ⟨[],[]⟩
end
inductive LRes
 | opn
 | brk (c:List Int)
 | whl (ls:List LvL)
def zas (step:KN→Nat→Option KN) (moves:List Nat) (most:Nat):Nat→LvL→LvL→List LvL→LRes
 | 0,_,_,_=>.opn
 | n+1,level,seen,ls =>
  if level=[] then .whl ls else
  if most<seen.length+level.length then .opn else
  if (zaB step (seen++level) moves level).fl≠[] then .brk (minL (zaB step (seen++level) moves level).fl) else
  zas step moves most n (zaB step (seen++level) moves level).on (seen++level) (ls++[level])
def LvX (H:Hp) (x:KN × Addr × V) (p:KN × List Int):Prop:=x.1=p.1∧∃ c,x.2.2=.ref c∧H c=some (.tup (p.2.map V.int))
structure LvE (H:Hp) (xs:KVN) (ps:LvL):Prop where
 ks:KsIn H xs
 pr:Paired (LvX H) xs ps
theorem zbr {α β:Type}{F G:α→β→Prop}(h:∀ a b,F a b→G a b) {l1:List α}{l2:List β}(p:Paired F l1 l2):Paired G l1 l2:=by
 induction p with
 | nil=>exact .nil
 | cons a _ ih=>exact .cons (h _ _ a) ih
theorem LvX.tups {H H':Hp}(t:∀ b ys,H b=some (.tup ys)→H' b=some (.tup ys)) {x:KN × Addr × V}{p:KN × List Int}(h:LvX H x p):LvX H' x p:=by
 obtain⟨e,c,e2,hc⟩:=h
 exact⟨e,c,e2,t _ _ hc⟩
theorem LvE.tups {H H':Hp}(t:∀ b ys,H b=some (.tup ys)→H' b=some (.tup ys)) {xs:KVN}{ps:LvL}(h:LvE H xs ps):LvE H' xs ps:=⟨h.ks.tups t,zbr (fun _ _ z=>z.tups t) h.pr⟩
theorem LvE.keep {H H':Hp}(s:Same H H') {xs:KVN}{ps:LvL}(h:LvE H xs ps):LvE H' xs ps:=h.tups fun b ys e=>s _ _ e
theorem LvE.nil {H:Hp}:LvE H [] []:=⟨fun x hx=>(nomatch hx),.nil⟩
theorem LvE.len {H:Hp}{xs:KVN}{ps:LvL}(h:LvE H xs ps):xs.length=ps.length:=Paired.length h.pr
theorem zjy {H:Hp}{xs:KVN}{ps:LvL}(h:Paired (LvX H) xs ps) (k:KN):(valN xs k=none∧getL ps k=none)∨∃ c r,valN xs k=some (.ref c)∧getL ps k=some r∧H c=some (.tup (r.map V.int)):=by
 induction h with
 | nil=>exact Or.inl (And.intro rfl rfl)
 | @cons x p xs ps a t ih =>
  obtain⟨e,c,e2,hc⟩:=a
  unfold valN getL at ih ⊢
  rw[Yr,Yr,e]
  by_cases z:p.1=k
  ·rw[Jz z]
   exact .inr ⟨c,p.2,JJ some e2,rfl,hc⟩
  ·rw[Jq z]
   exact ih
theorem zdO {H:Hp}{xs:KVN}{ps:LvL}(h:Paired (LvX H) xs ps) (k:KN):(valN xs k).isSome=(getL ps k).isSome:=by
 rcases zjy h k with ⟨a,b⟩|⟨c,r,a,b,_⟩<;>rw[a,b]<;>rfl
theorem zlb {H:Hp}{xs:KVN}{ps:LvL}(h:Paired (LvX H) xs ps) (k:KN) {c:Addr}{r:List Int}(hc:H c=some (.tup (r.map V.int))):Paired (LvX H) (xs.map fun x=>if x.1=k then (x.1,x.2.1,.ref c) else x) (ps.map fun x=>if x.1=k then (x.1,r) else x):=by
 induction h with
 | nil=>exact .nil
 | @cons x p xs ps a t ih =>
  refine .cons ?_ ih
  dsimp only
  by_cases z:p.1=k
  ·rw[Jf (a.1.trans z),Jf z];exact⟨a.1,c,rfl,hc⟩
  ·rw[Jc (fun y=>z (a.1.symm.trans y)),Jc z];exact a
theorem LvE.put {H:Hp}{xs:KVN}{ps:LvL}(h:LvE H xs ps) {k:KN}{b c:Addr}{r:List Int}(kb:NKey H k b) (hc:H c=some (.tup (r.map V.int))):LvE H (putN xs k b (.ref c)) (putL ps k r):=by
 unfold putN putL
 rw[zdO h.pr k]
 by_cases z:(getL ps k).isSome=true
 ·rw[Jf z,Jf z]
  refine⟨fun x hx=>?_,zlb h.pr k hc⟩
  obtain⟨y,ym,rfl⟩:=JA.mp hx
  have:=h.ks y ym
  split<;>exact this
 ·rw[Jc z,Jc z]
  refine⟨fun x hx=>?_,Paired.snoc h.pr ⟨rfl,c,rfl,hc⟩⟩
  rcases Js.mp hx with y|y
  ·exact h.ks x y
  ·rw[Jd.mp y];exact kb
theorem zcL {α β:Type}{F:α→β→Prop}{a1:List α}{b1:List β}(p:Paired F a1 b1) {a2:List α}{b2:List β}(q:Paired F a2 b2):Paired F (a1++a2) (b1++b2):=by
 induction p with
 | nil=>exact q
 | cons a _ ih=>exact .cons a ih
theorem LvE.app {H:Hp}{xs ys:KVN}{ps qs:LvL}(h:LvE H xs ps) (g:LvE H ys qs):LvE H (xs++ys) (ps++qs):=⟨fun x hx=>by
 rcases Js.mp hx with y|y
 ·exact h.ks x y
 ·exact g.ks x y,zcL h.pr g.pr⟩
theorem LvE.at_ {H:Hp}{xs:KVN}{ps:LvL}(h:LvE H xs ps) {i:Nat}{p:KN × Addr × V}(e:xs[i]?=some p):∃ r c,ps[i]?=some (p.1,r)∧NKey H p.1 p.2.1∧p.2.2=.ref c∧H c=some (.tup (r.map V.int)):=by
 have key:∀ {xs:KVN}{ps:LvL},Paired (LvX H) xs ps→∀ {i:Nat}{p:KN × Addr × V},xs[i]?=some p→∃ q,ps[i]?=some q∧LvX H p q:=by
  intro xs ps r
  induction r with
  | nil=>intro i p h;cases h
  | cons q t ih =>
   intro i p h
   cases i with
   | zero=>cases Option.some.inj h;exact⟨_,rfl,q⟩
   | succ i=>exact ih h
 obtain⟨q,e2,e3,c,e4,hc⟩:=key h.pr e
 refine⟨q.2,c,?_,h.ks p (JZ e),e4,hc⟩
 rw[e2,e3]
theorem zdU {ps:LvL}{k:KN}:getL ps k=none↔∀ p∈ps,p.1≠k:=by
 unfold getL
 rw[Option.map_eq_none_iff,List.find?_eq_none]
 constructor
 ·intro h p hp e;exact h p hp (Jz e)
 ·intro h p hp e;exact h p hp (Zb e)
theorem zaO {ps:LvL}{k:KN}{r:List Int}(h:getL ps k=some r):(k,r)∈ps:=by
 unfold getL at h
 obtain⟨p,hp,e⟩:=Y5.mp h
 have h1:=List.mem_of_find?_eq_some hp
 have h3:=List.find?_some (p:=fun x:KN × List Int=>decide (x.1=k)) hp
 have h2:=Zb h3
 rw[← h2,← e];exact h1
theorem za8 {ps:LvL}{k:KN}(h:(getL ps k).isSome=true):∃ r,(k,r)∈ps:=by
 obtain⟨r,e⟩:=YY.mp h
 exact⟨r,zaO e⟩
theorem zbl {ps:LvL}{k:KN}{r:List Int}(h:(k,r)∈ps):(getL ps k).isSome=true:=by
 cases e:getL ps k with
 | some r=>rfl
 | none=>exact absurd rfl (zdU.mp e _ h)
theorem za1 (a b:LvL) (k:KN):(getL (a++b) k).isSome=((getL a k).isSome || (getL b k).isSome):=by
 rw[Ye,Zi]
 constructor
 ·intro h
  obtain⟨r,hr⟩:=za8 h
  rcases Js.mp hr with y|y
  ·exact .inl (zbl y)
  ·exact .inr (zbl y)
 ·rintro (h|h)
  ·obtain⟨r,hr⟩:=za8 h;exact zbl (Y6 _ hr)
  ·obtain⟨r,hr⟩:=za8 h;exact zbl (Ju _ hr)
def LvNd (ps:LvL):Prop:=(ps.map (·.1)).Nodup
theorem zgQ (ps:LvL) (k:KN) (r:List Int):(putL ps k r).map (·.1)=if (getL ps k).isSome then ps.map (·.1) else ps.map (·.1)++[k]:=by
 unfold putL
 split
 ·rw[YQ]
  refine Zk fun x xm=>?_
  show (if x.1=k then (x.1,r) else x).1=x.1
  split<;>rfl
 ·rw[Y2];rfl
theorem LvNd.put {ps:LvL}(h:LvNd ps) (k:KN) (r:List Int):LvNd (putL ps k r):=by
 unfold LvNd
 rw[zgQ]
 split
 ·exact h
 ·rename_i z
  refine Zt.mpr ⟨h,JL.mpr ⟨Jt,Yw⟩,fun a ha b hb e=>?_⟩
  rw[Jd.mp hb]at e
  obtain⟨p,hp,rfl⟩:=JA.mp ha
  exact z (zbl (k:=k) (r:=p.2) (by rw[← e];exact hp))
theorem zc7 {ps:LvL}{k:KN}{r:List Int}{p:KN × List Int}(h:p∈putL ps k r):p∈ps∨p=(k,r):=by
 unfold putL at h
 split at h
 ·obtain⟨x,hx,rfl⟩:=JA.mp h
  by_cases z:x.1=k
  ·rw[Jf z,z];exact .inr rfl
  ·rw[Jc z];exact .inl hx
 ·rcases Js.mp h with y|y
  ·exact .inl y
  ·exact .inr (Jd.mp y)
theorem zfd (ps:LvL) (k:KN) (r:List Int):(putL ps k r).length≤ps.length+1:=by
 unfold putL
 split
 ·rw[Jm];lia
 ·rw[Ja];exact Jg _
theorem zdN:∀ (ys xs:KVN),(ys.map (·.1)).Nodup→(∀ y∈ys,∀ x∈xs,x.1≠y.1)→zb3 xs ys=xs++ys
 | [],xs,_,_=>by rw[JT];rfl
 | y::ys,xs,nd,ds=>by
  rw[JV,JL]at nd
  have e:putN xs y.1 y.2.1 y.2.2=xs++[y]:=by
   unfold putN
   have:valN xs y.1=none:=by
    unfold valN
    rw[Option.map_eq_none_iff,List.find?_eq_none]
    exact fun x hx z=>ds y (.head _) x hx (Zb z)
   rw[this];rfl
  show List.foldl _ (putN xs y.1 y.2.1 y.2.2) ys=_
  rw[e]
  have:=zdN ys (xs++[y]) nd.2 fun z hz x hx=>by
   rcases Js.mp hx with q|q
   ·exact ds z (.tail _ hz) x q
   ·rw[Jd.mp q]
    exact fun e=>nd.1 (JA.mpr ⟨z,hz,e.symm⟩)
  rw[show List.foldl (fun acc y=>putN acc y.1 y.2.1 y.2.2) (xs++[y]) ys=zb3 (xs++[y]) ys from rfl,this,JM];rfl
theorem zeB {H:Hp}{xs:KVN}{ps:LvL}(h:Paired (LvX H) xs ps):xs.map (·.1)=ps.map (·.1):=by
 induction h with
 | nil=>rfl
 | cons a _ ih=>rw[JV,JV,ih,a.1]
theorem LvE.merge {H:Hp}{xs ys:KVN}{ps qs:LvL}(h:LvE H xs ps) (g:LvE H ys qs) (nd:LvNd qs) (ds:∀ q∈qs,getL ps q.1=none):zb3 xs ys=xs++ys:=by
 refine zdN ys xs (by rw[zeB g.pr];exact nd) fun y hy x hx e=>?_
 have m1:y.1∈qs.map (·.1):=by rw[← zeB g.pr];exact JA.mpr ⟨y,hy,rfl⟩
 obtain⟨q,hq,eq⟩:=JA.mp m1
 have m2:x.1∈ps.map (·.1):=by rw[← zeB h.pr];exact JA.mpr ⟨x,hx,rfl⟩
 obtain⟨p,hp,ep⟩:=JA.mp m2
 exact zdU.mp (ds q hq) p hp (ep.trans (e.trans eq.symm))
end L2
namespace L2
open PySem PySem.Spec PyProof.Rows Own Bn
theorem Room.u3 {k:Nat}{A:Around}(r:Room k A):A.units+3<cLine:=by have:=r.un;lia
def RowsAt (H:Hp) (as:List Addr) (rs:List (List Int)):Prop:=Paired (fun a r=>H a=some (.tup (r.map V.int))) as rs
theorem RowsAt.tups {H H':Hp}(t:Tups H H') {as:List Addr}{rs:List (List Int)}(h:RowsAt H as rs):RowsAt H' as rs:=zbr (fun _ _ e=>t _ _ e) h
structure AccOk (n m:Nat) (a:LAcc):Prop where
 on:∀ p∈a.on,p.2.length=n
 fl:∀ r∈a.fl,r.length=n
 few:a.on.length+a.fl.length≤m
theorem zbB (c:List Int) (m:Nat):(oneM c m).length=c.length:=by unfold oneM zao;rw[YZ]
theorem zey (x y:List Int):minR x y=x∨minR x y=y:=by unfold minR;split<;>simp
theorem AccOk.go {step:KN→Nat→Option KN}{seen:LvL}{s:KN}{c:List Int}{a:LAcc}{n m k:Nat}(h:AccOk n m a) (hc:c.length=n):AccOk n (m+1) (go1 step seen s c a k):=by
 have hm:(oneM c k).length=n:=by rw[zbB,hc]
 have hf:=h.few
 unfold go1
 split
 ·refine⟨h.on,fun r hr=>?_,by show a.on.length+(a.fl++[oneM c k]).length≤_;rw[Ja];show _+(_+1)≤_;lia⟩
  rcases Js.mp hr with z|z
  ·exact h.fl r z
  ·rw[Jd.mp z];exact hm
 ·rename_i t ht
  split
  ·exact⟨h.on,h.fl,by lia⟩
  ·refine⟨fun p hp=>?_,h.fl,by have:=zfd a.on t (minR (oneM c k) ((getL a.on t).getD (oneM c k)));show (putL a.on t _).length+a.fl.length≤_;lia⟩
   rcases zc7 hp with z|z
   ·exact h.on p z
   ·rw[z]
    show (minR _ _).length=n
    rcases zey (oneM c k) ((getL a.on t).getD (oneM c k)) with e|e
    ·rw[e];exact hm
    ·rw[e]
     cases g:getL a.on t with
     | none=>exact hm
     | some r=>exact h.on _ (zaO g)
theorem AccOk.row {step:KN→Nat→Option KN}{seen:LvL}{s:KN}{c:List Int}{n:Nat}(hc:c.length=n):∀ (moves:List Nat) {a:LAcc}{m:Nat},AccOk n m a→AccOk n (m+moves.length) (moves.foldl (go1 step seen s c) a)
 | [],a,m,h=>h
 | k::r,a,m,h=>by
  have:=AccOk.row (step:=step) (seen:=seen) (s:=s) (c:=c) hc r (h.go (step:=step) (seen:=seen) (s:=s) (k:=k) hc)
  rw[JN,show m+(r.length+1)=m+1+r.length by lia]
  exact this
theorem AccOk.lev {step:KN→Nat→Option KN}{seen:LvL}{n:Nat}{moves:List Nat}:∀ (level:LvL) {a:LAcc}{m:Nat},(∀ p∈level,p.2.length=n)→AccOk n m a→AccOk n (m+level.length*moves.length) (level.foldl (goS step seen moves) a)
 | [],a,m,_,h=>by rw[Z1,Nat.zero_mul];exact h
 | p::r,a,m,hl,h=>by
  have:=AccOk.lev (step:=step) (seen:=seen) (moves:=moves) r (fun q hq=>hl q (.tail _ hq)) (AccOk.row (step:=step) (seen:=seen) (s:=p.1) (hl p (.head _)) moves h)
  rw[JN,Nat.add_mul,Nat.one_mul,show m+(r.length*moves.length+moves.length)=m+moves.length+r.length*moves.length by lia]
  exact this
def Led (lsp:LSpc) (vals:List V) (step:KN→Nat→Option KN) (Ok:KN→Prop) (moves:List Nat) (H:Hp):Prop :=
 ∀ (H1:Hp) (s:KN) (b:Addr) (m:Nat) (Q:VK),Tups H H1→Ok s→m∈moves→NKey H1 s b→(∀ H2,Same H1 H2→step s m=none→Q .non H2)→(∀ H2 b' t,Same H1 H2→step s m=some t→NKey H2 t b'→Q (.ref b') H2)→lsp vals [.ref b,.int (m:Nat)] H1 Q E0
theorem Led.tups {lsp:LSpc}{vals:List V}{step:KN→Nat→Option KN}{Ok:KN→Prop}{moves:List Nat}{H H':Hp}(h:Led lsp vals step Ok moves H) (t:Tups H H'):Led lsp vals step Ok moves H':=fun H1 s b m Q t1=>h H1 s b m Q (t.trans t1)
theorem zcD {H:Hp}{cl:List (Str × Addr)}(fz:CellsFz cl H):Tups H (zaA cl H):=fun a xs e=>by
 rw[zak]
 ·exact e
 ·intro hc
  obtain⟨o,q⟩:=fz a hc
  rw[e]at q;cases q
theorem zdB {H H2:Hp}{cl:List (Str × Addr)}(s:Same (zaA cl H) H2):Same H (back cl H H2):=fun b o e=>by
 by_cases c:b∈cl.map (·.2)
 ·rw[zeT c];exact e
 ·rw[zaQ c];exact s b o (by rw[zak c];exact e)
theorem zgr {H H2:Hp}{cl:List (Str × Addr)}(low:∀ b∈cl.map (·.2),H2 b=none):Tups H2 (back cl H H2):=fun b xs e=>by
 rw[zaQ]
 ·exact e
 ·intro hc
  rw[low b hc]at e;cases e
def MvAt (K:PySem.W.Frag) (H:Hp) (a:Addr) (xs:List V):Prop:=H a=some (.tup xs)∨∀ H',SqT K H' a xs
theorem MvAt.tups {K:PySem.W.Frag}{H H':Hp}(t:Tups H H') {a:Addr}{xs:List V}(h:MvAt K H a xs):MvAt K H' a xs:=h.imp (t _ _) id
theorem MvAt.sq {K:PySem.W.Frag}{H:Hp}{a:Addr}{xs:List V}(h:MvAt K H a xs):SqT K H a xs:=h.elim SqT.of fun z=>z H
structure Way (K:PySem.W.Frag) (H:Hp) (mv f:Addr) (L:Lam) (fr:List Str) (lsp:LSpc) (cl:List (Str × Addr)) (vals:List V) (step:KN→Nat→Option KN) (Ok:KN→Prop) (moves:List Nat) (n:Nat):Prop where
 mv:MvAt K H mv (moves.map fun m=>V.int (m:Nat))
 fr:cl.map (·.1)=fr
 la:LamAt H f L cl vals
 ld:Led lsp vals step Ok moves H
 lt:∀ m∈moves,m<n
 ok:∀ s m t,Ok s→m∈moves→step s m=some t→Ok t
 n1:n≤1000
theorem Way.keep {K:PySem.W.Frag}{H H':Hp}{mv f:Addr}{L:Lam}{fr:List Str}{lsp:LSpc}{cl:List (Str × Addr)}{vals:List V}{step:KN→Nat→Option KN}{Ok:KN→Prop}{moves:List Nat}{n:Nat}(h:Way K H mv f L fr lsp cl vals step Ok moves n) (t:Tups H H') (z:∀ b o u,H b=some (.frz o u)→H' b=some (.frz o u)):Way K H' mv f L fr lsp cl vals step Ok moves n :=
 ⟨h.mv.tups t,h.fr,h.la.frz z,h.ld.tups t,h.lt,h.ok,h.n1⟩
def zgy (P:Program) (w:World) (K:PySem.W.Frag) (L:Lam) (fr:List Str) (lsp:LSpc):Sp:=fun vs H Q _=>∃ dl ds mv f xs ys level seen moves cl vals step Ok n,vs=[.ref dl,.ref ds,.ref mv,.ref f]∧H dl=some (DN P w dl xs)∧LvE H xs level∧H ds=some (DN P w ds ys)∧LvE H ys seen∧dl≠ds ∧
 Way K H mv f L fr lsp cl vals step Ok moves n∧(∀ p∈level,Ok p.1∧p.2.length=n)∧level.length*moves.length≤10000000 ∧
 ∀ p o l zs fs H',Same H H'→H o=none→H' p=some (.tup [.ref o,.ref l])→H' o=some (DN P w o zs)→LvE H' zs (zaB step seen moves level).on→H' l=some (.lst (fs.map V.ref))→RowsAt H' fs (zaB step seen moves level).fl→Q (.ref p) H'
end L2
namespace K41
open PySem L2 Own Bn
abbrev sNxl:Stmt:=top 11
theorem zhG {d:Addr}{H H':Hp}{P:Program}{w:World}{xs:KVN}(b:But d H H') (hd:H d=some (DN P w d xs)):∀ c o u,H c=some (.frz o u)→H' c=some (.frz o u):=fun c o u e=>b c _ e fun z=>by
 rw[z,hd]at e;cases e
theorem zbh {d:Addr}{H H':Hp}{P:Program}{w:World}{xs:KVN}(b:But d H H') (hd:H d=some (DN P w d xs)):Tups H H':=fun c ys e=>b c _ e fun z=>by
 rw[z,hd]at e;cases e
theorem zez {a b:List Int}(h:a.map V.int=b.map V.int):a=b:=(List.map_inj_right fun x y (e:V.int x=V.int y)=>by injection e).mp h
section
variable {P:Program}{w:World}{K:PySem.W.Frag}{mg:Str→Option Value}{base:Heap}
theorem scNx:FnScope ["level","seen","moves","led","onward","faults","state","counts","move","there","more"] ["level","seen","moves","led"] (zae sNxl):=by trivial
theorem zkd {f fA:Addr}{fd dA:FuncData}{L:Lam}{fr lps:List Str}{lsp:LSpc}(F:Fun K "next_level" "next_level" sNxl f fd) (G:Mgs mg) (UA:Use P w K mg base "added" ["counts","place","many"] 2 zei fA dA) (LQ:LamQ CX0 P w K mg base 4 L fr lps lsp):FnOk P w K mg base CX0 6 f fd ["level","seen","moves","led"] (zgy P w K L fr lsp):=by
 refine F.ok scNx (fun vs H Q E h=>?_) (fun cdv A outer s H vs Q E hr h=>?_)
 ·obtain⟨dl,ds,mv,f,xs,ys,level,seen,moves,cl,vals,step,Ok,n,rfl,_⟩:=h
  rfl
 obtain⟨dl,ds,mv,f,xs,ys,level,seen,moves,cl,vals,step,Ok,n,rfl,hdl,lvl,hds,lvs,dne,W,lok,few,k⟩:=h
 refine⟨_,(@pss_cons _ _ _ _ _ (@ps_set _ _ 4 _ _ _ _ scNx.nd rfl (.inl rfl) zgV (by rfl) (by first|exact .inl rfl|exact .inr rfl|assumption)) (@pss_cons _ _ _ _ _ (@ps_set _ _ 5 _ _ _ _ scNx.nd rfl (.inl rfl) (@pe_lst _ _ _ _ pa_nil) (by rfl) (by first|exact .inl rfl|exact .inr rfl|assumption)) (@pss_cons _ _ _ _ _ (zis (@ps_for _ _ _ _ _ _ _ _ PassesOwn.never rfl (zgU (@qv _ 0 _ _ (by trivial))) (@pg_tup _ _ _ _ _ _ rfl (@pgs_cons _ _ _ _ _ (@pg_name _ _ 6 _ scNx.nd rfl (.inl rfl) (by first|exact .inl rfl|exact .inr rfl|assumption)) (@pgs_cons _ _ _ _ _ (@pg_name _ _ 7 _ scNx.nd rfl (.inl rfl) (by first|exact .inl rfl|exact .inr rfl|assumption)) pgs_nil (by rfl)) (by rfl)) (by rfl) (by rfl)) (@pss_one _ _ _ (@ps_for _ _ _ _ _ _ _ _ PassesOwn.never rfl (@zgT _ _ _ _ (@qv _ 2 _ _ (by trivial))) (@pg_name _ _ 8 _ scNx.nd rfl (.inl rfl) (by first|exact .inl rfl|exact .inr rfl|assumption)) (@pss_cons _ _ _ _ _ (@ps_set _ _ 9 _ _ _ _ scNx.nd rfl (.inl rfl) (zj9 LQ hr (@qv _ 3 _ _ (by trivial)) pass0 (@pa_cons _ _ _ _ _ (@qv _ 6 _ _ (by trivial)) (@pa_cons _ _ _ _ _ (@qv _ 8 _ _ (by trivial)) pa_nil (by rfl)) (by rfl))) (by rfl) (by first|exact .inl rfl|exact .inr rfl|assumption)) (@pss_cons _ _ _ _ _ (@ps_if _ _ _ _ _ _ _ _ (@pt_cmpR _ _ _ _ _ _ _ _ (zk1 hr.u3) (@qv _ 9 _ _ (by trivial)) (@qv _ 1 _ _ (by trivial)) (by rfl)) (@pss_one _ _ _ zeo) pss_nil) (@pss_cons _ _ _ _ _ (@ps_set _ _ 10 _ _ _ _ scNx.nd rfl (.inl rfl) (@pe_call _ _ _ _ _ _ _ _ _ _ _ _ _ _ _ _ UA.ok (hr.mono (by decide)) (by rfl) UA.m UA.kp UA.b .nil pass0 (@pa_cons _ _ _ _ _ (@qv _ 7 _ _ (by trivial)) (@pa_cons _ _ _ _ _ (@qv _ 8 _ _ (by trivial)) (@pa_cons _ _ _ _ _ pe_int pa_nil (by rfl)) (by rfl)) (by rfl)) (by decide) (by rfl) (by rfl)) (by rfl) (by first|exact .inl rfl|exact .inr rfl|assumption)) (@pss_one _ _ _ (@ps_if _ _ _ _ _ _ _ _ (@pt_cmpR _ _ _ _ _ _ _ _ zk0 (@qv _ 9 _ _ (by trivial)) pe_non (by rfl)) (@pss_one _ _ _ (@zaZ _ _ _ _ (@zdb _ _ _ _ _ _ _ _ _ _ _ _ PySem.F.plainAttrs_list PySem.F.slot_list_append PySem.F.type_list_append zaE (@qv _ 5 _ _ (by trivial)) (@pa_cons _ _ _ _ _ (@qv _ 10 _ _ (by trivial)) pa_nil (by rfl)) (by rfl) (by rfl) (by rfl) (by rfl) (by rfl)) (by rfl))) (@pss_one _ _ _ (zj5 hr.u3 (@qv _ 4 _ _ (by trivial)) (@qv _ 9 _ _ (by trivial)) (@pe_callB _ _ _ _ _ _ _ _ _ (zgh rfl hr.units) (by rfl) G.min (by rfl) (@pa_cons _ _ _ _ _ (@qv _ 10 _ _ (by trivial)) (@pa_cons _ _ _ _ _ (zix hr.u3 (@qv _ 4 _ _ (by trivial)) (@qv _ 9 _ _ (by trivial)) (@qv _ 10 _ _ (by trivial)) ⟨rfl,rfl,rfl,rfl⟩) pa_nil (by rfl)) (by rfl)) (by decide) (by decide) (by rfl) (by rfl)) (by rfl)))))))) (by intro _;rfl))) (by intro _;rfl))) (@pss_one _ _ _ (@ps_ret _ _ _ _ (@pe_tup _ _ _ _ _ (@pa_cons _ _ _ _ _ (@qv _ 4 _ _ (by trivial)) (@pa_cons _ _ _ _ _ (@qv _ 5 _ _ (by trivial)) pa_nil (by rfl)) (by rfl)))))))),?_⟩
 refine fun o ho=>⟨by show 0≤sizeLine;decide,fun l hl=>?_⟩
 have s1:=zaa ho (DN P w o [])
 have s2:=zaa (show L2.upd H o (DN P w o []) l=none from hl) (.lst [])
 have u2:=s1.trans s2
 have ol:o≠l:=fun z=>by
  have hl':L2.upd H o (DN P w o []) l=none:=hl
  rw[← z,zac]at hl';cases hl'
 have hl0:H l=none:=by
  have hl':L2.upd H o (DN P w o []) l=none:=hl
  rwa [zad ol.symm]at hl'
 have dlo:dl≠o:=zab hdl ho
 have dll:dl≠l:=zab hdl hl0
 have h2o:L2.upd (L2.upd H o (DN P w o [])) l (.lst []) o=some (DN P w o []):=by rw[zad ol];exact zac
 have h2l:L2.upd (L2.upd H o (DN P w o [])) l (.lst []) l=some (.lst []):=zac
 refine⟨_,rfl,dl,xs,rfl,u2 _ _ hdl,fun ob=>?_⟩
 let accO:Nat→LAcc:=fun i=>(level.take i).foldl (goS step seen moves) ⟨[],[]⟩
 have ll:xs.length=level.length:=lvl.len
 refine zgg (P:=P) (w:=w) (d:=dl) (o:=ob) (xs:=xs) (fun i σ H2=>(∃ v6 v7 v8 v9 v10,σ=[some (.ref dl),some (.ref ds),some (.ref mv),some (.ref f),some (.ref o),some (.ref l),v6,v7,v8,v9,v10])∧But dl H H2∧H2 dl=some (.frz ob (DN P w dl xs))∧∃ zs fs,H2 o=some (DN P w o zs)∧LvE H2 zs (accO i).on∧H2 l=some (.lst (fs.map V.ref))∧RowsAt H2 fs (accO i).fl∧AccOk n (i*moves.length) (accO i)) ?_ (fun i σ H2 _ q=>q.2.2.1) ?_ ?_
 ·refine⟨⟨_,_,_,_,_,rfl⟩,fun b u e ne=>?_,zac,[],[],?_,LvE.nil,?_,.nil,⟨fun p hp=>(nomatch hp),fun r hr=>(nomatch hr),by show 0+0≤_;lia⟩⟩
  ·rw[zad ne];exact u2 b u e
  ·rw[zad dlo.symm];exact h2o
  ·rw[zad dll.symm];exact h2l
 ·rintro i p σ H2 T hp hT ⟨⟨v6,v7,v8,v9,v10,rfl⟩,bt,hfz,zs,fs,hzo,lze,hfl,rws,aok⟩
  have il:i<level.length:=by rw[← ll];exact(Je.mp hp).1
  obtain⟨r,c,ep,kb,ec,hc⟩:=(lvl.tups (zbh bt hdl)).at_ hp
  have pin:(p.1,r)∈level:=JZ ep
  obtain⟨pok,rl⟩:=lok _ pin
  rw[ec]
  have sT:=zaa hT (.tup [.ref p.2.1,.ref c])
  refine⟨T,_,rfl,SqT.of zac,rfl,_,_,rfl,_,_,rfl,rfl,?_⟩
  have W2:=W.keep (zbh bt hdl) (zhG bt hdl)
  refine⟨_,rfl,mv,rfl,⟨_,(W2.mv.tups (Tups.of sT)).sq⟩,?_⟩
  have nxt:accO (i+1)=goS step seen moves (accO i) (p.1,r):=by
   show List.foldl _ _ (level.take (i+1))=_
   rw[← Yk il,YJ,show level[i]=(p.1,r) from (Je.mp ep).2];rfl
  generalize hA:accO i=a0 at *
  let accI:Nat→LAcc:=fun j=>(moves.take j).foldl (go1 step seen p.1 r) a0
  have fin:accI moves.length=accO (i+1):=by rw[nxt];show List.foldl _ _ (moves.take moves.length)=_;rw[YR];rfl
  have ml:(moves.map fun m=>V.int (m:Nat)).length=moves.length:=Jm _
  refine zkB (K:=K) (a:=mv) (xs:=moves.map fun m=>V.int (m:Nat)) (fun j σ H3=>(∃ v8 v9 v10,σ=[some (.ref dl),some (.ref ds),some (.ref mv),some (.ref f),some (.ref o),some (.ref l),some (.ref p.2.1),some (.ref c),v8,v9,v10])∧But dl H H3∧H3 dl=some (.frz ob (DN P w dl xs))∧∃ zs fs,H3 o=some (DN P w o zs)∧LvE H3 zs (accI j).on∧H3 l=some (.lst (fs.map V.ref))∧RowsAt H3 fs (accI j).fl∧AccOk n (i*moves.length+j) (accI j)) ?_ (fun j σ H3 _ q=>(W.mv.tups (zbh q.2.1 hdl)).sq) ?_ ?_
  ·exact⟨⟨_,_,_,rfl⟩,bt.trans (But.of sT),sT _ _ hfz,zs,fs,sT _ _ hzo,lze.keep sT,sT _ _ hfl,rws.tups (Tups.of sT),aok⟩
  ·rintro j x σ H3 hx ⟨⟨v8,v9,v10,rfl⟩,bt3,hf3,zs3,fs3,hz3,lz3,hl3,rw3,aok3⟩
   rw[JR]at hx
   obtain⟨m,em,rfl⟩:=Y5.mp hx
   have jl:j<moves.length:=(Je.mp em).1
   have mm:m∈moves:=JZ em
   have nxj:accI (j+1)=go1 step seen p.1 r (accI j) m:=by
    show List.foldl _ _ (moves.take (j+1))=_
    rw[← Yk jl,YJ,show moves[j]=m from (Je.mp em).2];rfl
   have aok4:=aok3.go (step:=step) (seen:=seen) (s:=p.1) (k:=m) rl
   rw[← nxj]at aok4
   have t3:=zbh bt3 hdl
   have W3:=W.keep t3 (zhG bt3 hdl)
   obtain⟨pm,cc,ct,oc,fz,tk,hf0,_⟩:=W3.la.ex
   have kb3:=lvl.tups t3
   obtain⟨r',c',ep',kb',ec',hc'⟩:=kb3.at_ hp
   have er:r'=r:=by rw[ep]at ep';cases ep';rfl
   have ecc:c'=c:=by rw[ec]at ec';cases ec';rfl
   subst er ecc
   have tS:=t3.trans (zcD W3.la.fz)
   have few2:(accI j).on.length+(accI j).fl.length≤10000000:=by
    have:=aok3.few
    have:(i+1)*moves.length≤level.length*moves.length:=Nat.mul_le_mul_right _ il
    rw[Nat.add_mul,Nat.one_mul]at this
    lia
   refine⟨f,rfl,⟨_,_,_,_,hf0⟩,_,rfl,_,rfl,cl,vals,W3.fr,W3.la,W.ld _ _ _ m _ tS pok mm (kb'.tups (zcD W3.la.fz)) (fun H4 s4 e4 low=>?_) fun H4 b4 t s4 e4 k4 low=>?_⟩
   ·-- elsewhere
    have s5:=zdB s4
    generalize back cl H3 H4=H5 at s5 ⊢
    have bt5:=bt3.trans (But.of (l:=dl) s5)
    have lv5:=lvs.tups (zbh bt5 hdl)
    have hd5:H5 ds=some (DN P w ds ys):=bt5 _ _ hds dne.symm
    have hc5:=s5 _ _ hc'
    have e1:accI (j+1)=⟨(accI j).on,(accI j).fl++[oneM r' m]⟩:=by rw[nxj];unfold go1;rw[e4]
    refine⟨_,rfl,_,rfl,ds,ys,rfl,⟨.inl hd5,lv5.ks⟩,.inr ⟨rfl,false,rfl,iteF ?_⟩⟩
    refine⟨_,rfl,_,rfl,c',r',m,1,rfl,hc5,by rw[rl];exact W.lt m mm,by rw[rl];exact W.n1,fun q H6 s6 h6=>?_⟩
    have hl6:=s6 _ _ (s5 _ _ hl3)
    refine⟨_,rfl,rfl,true,JJ V.bl (Jz rfl),iteT ?_⟩
    refine⟨_,rfl,.inl ⟨rfl,_,SqL.of hl6⟩,_,rfl,l,_,_,rfl,rfl,hl6,?_,?_⟩
    ·rw[Jm,Paired.length rw3,Jy];lia
    have lq:∀ {b:Addr}{u:HO},H6 b=some u→b≠l→L2.upd H6 l (.lst (fs3.map V.ref++[.ref q])) b=some u:=fun e ne=>by rw[zad ne];exact e
    have tq:Tups H6 (L2.upd H6 l (.lst (fs3.map V.ref++[.ref q]))):=fun b xs e=>lq e (zbC e hl6 (fun z=>by cases z))
    have bt6:=bt5.trans (But.of (l:=dl) s6)
    refine⟨⟨_,_,_,rfl⟩,fun b u e ne=>lq (bt6 b u e ne) (zab e hl0),lq (s6 _ _ (s5 _ _ hf3)) dll,zs3,fs3++[q],lq (s6 _ _ (s5 _ _ hz3)) ol,?_,?_,?_,aok4⟩
    ·rw[e1];exact((lz3.keep s5).keep s6).tups tq
    ·rw[Y2];exact zac
    ·rw[e1];exact Paired.snoc ((rw3.tups (Tups.of s5)).tups ((Tups.of s6).trans tq)) (tq _ _ h6)
   ·have s5:=zdB s4
    have k5:=k4.tups (zgr (H:=H3) low)
    generalize back cl H3 H4=H5 at s5 k5 ⊢
    have bt5:=bt3.trans (But.of (l:=dl) s5)
    have lv5:=lvs.tups (zbh bt5 hdl)
    have hd5:H5 ds=some (DN P w ds ys):=bt5 _ _ hds dne.symm
    have hc5:=s5 _ _ hc'
    refine⟨_,rfl,_,rfl,ds,ys,rfl,⟨.inl hd5,lv5.ks⟩,.inl ⟨b4,t,rfl,k5,_,rfl,?_⟩⟩
    rw[zdO lvs.pr t]
    by_cases sn:(getL seen t).isSome=true
    ·have e1:accI (j+1)=accI j:=by rw[nxj];unfold go1;rw[e4];exact Jf sn
     rw[sn]
     refine iteT ?_
     rw[e1]
     rw[e1]at aok4
     exact⟨⟨_,_,_,rfl⟩,bt5,s5 _ _ hf3,zs3,fs3,s5 _ _ hz3,lz3.keep s5,s5 _ _ hl3,rw3.tups (Tups.of s5),aok4⟩
    ·have e1:accI (j+1)=⟨putL (accI j).on t (minR (oneM r' m) ((getL (accI j).on t).getD (oneM r' m))),(accI j).fl⟩:=by rw[nxj];unfold go1;rw[e4];exact Jc sn
     rw[show (getL seen t).isSome=false by simpa using sn]
     refine iteF ?_
     refine⟨_,rfl,_,rfl,c',r',m,1,rfl,hc5,by rw[rl];exact W.lt m mm,by rw[rl];exact W.n1,fun q H6 s6 h6=>?_⟩
     have hz6:=s6 _ _ (s5 _ _ hz3)
     have lz6:=(lz3.keep s5).keep s6
     have k6:=k5.tups (Tups.of s6)
     have bt6:=bt5.trans (But.of (l:=dl) s6)
     refine⟨_,rfl,rfl,false,JJ V.bl (Jq (fun z=>by cases z)),iteF ?_⟩
     refine⟨_,rfl,_,rfl,o,rfl,⟨_,.inl hz6⟩,_,rfl,_,rfl,b4,zs3,t,rfl,⟨.inl hz6,lz6.ks⟩,k6,?_⟩
     have le:∃ g s,(valN zs3 t).getD (.ref q)=.ref g∧(getL (accI j).on t).getD (oneM r' m)=s∧H6 g=some (.tup (s.map V.int))∧s.length=n:=by
      rcases zjy lz6.pr t with ⟨a1,a2⟩|⟨g,s,a1,a2,a3⟩
      ·exact⟨q,oneM r' m,by rw[a1];rfl,by rw[a2];rfl,h6,by rw[zbB];exact rl⟩
      ·exact⟨g,s,by rw[a1];rfl,by rw[a2];rfl,a3,aok3.on _ (zaO a2)⟩
     obtain⟨g,sr,g1,g2,g3,g4⟩:=le
     rw[g1]
     rw[g2]at e1
     have ml':(oneM r' m).length=n:=by rw[zbB];exact rl
     have g6:H6 q=some (.tup ((oneM r' m).map V.int)):=h6
     let rowOf:V→List Int:=fun v=>if v=.ref q then oneM r' m else sr
     have rq:rowOf (.ref q)=oneM r' m:=Jf rfl
     have rg:H6 g=some (.tup ((rowOf (.ref g)).map V.int))∧(rowOf (.ref g)).length=n∧rowOf (.ref g)=sr:=by
      by_cases z:g=q
      ·subst z
       have es:sr=oneM r' m:=by
        have:=g6.symm.trans g3
        injection this with this
        injection this with this
        exact(zez this).symm
       rw[rq];exact⟨g6,ml',es.symm⟩
      ·rw[show rowOf (.ref g)=sr from Jc (fun y=>z (by cases y;rfl))];exact⟨g3,g4,rfl⟩
     refine⟨_,_,1,fun u v=>cmpR (rowOf u) (rowOf v),rfl,by decide,?_,?_⟩
     ·have two:∀ u∈[V.ref q,V.ref g],∃ a,u=.ref a∧H6 a=some (.tup ((rowOf u).map V.int))∧(rowOf u).length=n:=fun u hu=>by
       rcases List.mem_cons.mp hu with rfl|hu
       ·exact⟨q,rfl,by rw[rq];exact g6,by rw[rq];exact ml'⟩
       ·rw[Jd.mp hu];exact⟨g,rfl,rg.1,rg.2.1⟩
      intro u hu v hv
      obtain⟨a,rfl,a2,a3⟩:=two u hu
      obtain⟨b,rfl,b2,b3⟩:=two v hv
      exact zeA a2 b2 (by rw[a3,b3])
     have pk:∃ h,zbq (fun u v=>cmpR (rowOf u) (rowOf v)) (.ref q) (.ref g)=.ref h∧H6 h=some (.tup ((minR (oneM r' m) sr).map V.int)):=by
      unfold zbq minR
      have ee:cmpR (rowOf (.ref g)) (rowOf (.ref q))=cmpR sr (oneM r' m):=by rw[rq,rg.2.2]
      by_cases z:cmpR sr (oneM r' m)=.lt
      ·rw[Jf (ee.trans z),Jf z];exact⟨g,rfl,g3⟩
      ·rw[Jc (fun y=>z (ee.symm.trans y)),Jc z];exact⟨q,rfl,g6⟩
     obtain⟨h,p1,p2⟩:=pk
     rw[p1]
     refine⟨_,rfl,_,rfl,o,b4,zs3,t,rfl,rfl,hz6,lz6.ks,k6,?_,?_⟩
     ·rw[lz6.len,Jy];lia
     have tq:Tups H6 (L2.upd H6 o (DN P w o (putN zs3 t b4 (.ref h)))):=fun b xs e=>by rw[zad (zbC e hz6 (fun z=>by cases z))];exact e
     refine⟨⟨_,_,_,rfl⟩,fun b u e ne=>?_,?_,_,fs3,zac,?_,?_,?_,aok4⟩
     ·rw[zad (zab e ho)];exact bt6 b u e ne
     ·rw[zad dlo];exact s6 _ _ (s5 _ _ hf3)
     ·rw[e1];exact(lz6.put k6 p2).tups tq
     ·rw[zad ol.symm];exact s6 _ _ (s5 _ _ hl3)
     ·rw[e1];exact(rw3.tups (Tups.of s5)).tups ((Tups.of s6).trans tq)
  ·rintro σ H3 ⟨⟨v8,v9,v10,rfl⟩,bt3,hf3,zs3,fs3,hz3,lz3,hl3,rw3,aok3⟩
   have fin':accI (moves.map fun m=>V.int (m:Nat)).length=accO (i+1):=by rw[ml];exact fin
   rw[fin']at lz3 rw3 aok3
   refine⟨⟨_,_,_,_,_,rfl⟩,bt3,hf3,zs3,fs3,hz3,lz3,hl3,rw3,?_⟩
   rw[ml]at aok3
   rw[Nat.add_mul,Nat.one_mul];exact aok3
 ·rintro σ H2 ⟨⟨v6,v7,v8,v9,v10,rfl⟩,bt,hfz,zs,fs,hzo,lze,hfl,rws,aok⟩
  have e:accO xs.length=zaB step seen moves level:=by show List.foldl _ _ (level.take xs.length)=_;rw[ll,YR];rfl
  rw[e]at lze rws
  refine⟨dl,ob,xs,xs,u2 _ _ hdl,hfz,?_⟩
  have sm:Same H (L2.upd H2 dl (DN P w dl xs)):=fun b u e=>by
   by_cases z:b=dl
   ·rw[z]at e ⊢;rw[hdl]at e;rw[← e];exact zac
   ·rw[zad z];exact bt b u e z
  have tz:Tups H2 (L2.upd H2 dl (DN P w dl xs)):=fun b ys e=>by rw[zad (zbC e hfz (fun z=>by cases z))];exact e
  refine⟨_,rfl,_,rfl,by show 2≤sizeLine;decide,fun q hq=>?_⟩
  have s6:=zaa (show L2.upd H2 dl (DN P w dl xs) q=none from hq) (.tup [.ref o,.ref l])
  refine k q o l zs fs _ (sm.trans s6) ho zac (s6 _ _ ?_) ((lze.tups tz).keep s6) (s6 _ _ ?_) ((rws.tups tz).tups (Tups.of s6))
  ·rw[zad dlo.symm];exact hzo
  ·rw[zad dll.symm];exact hfl
end
end K41
namespace L2
open PySem PySem.Spec PyProof.Rows Own Bn
def zgf:V→Int
 | .int i=>i
 | _=>0
def rowH (H:Hp):V→List Int
 | .ref a=>match H a with
  | some (.tup xs)=>xs.map zgf
  | _=>[]
 | _=>[]
theorem zcf {H:Hp}{a:Addr}{r:List Int}(h:H a=some (.tup (r.map V.int))):rowH H (.ref a)=r:=by
 show (match H a with
  | some (.tup xs)=>xs.map zgf
  | _=>[])=r
 rw[h]
 show (r.map V.int).map zgf=r
 rw[YQ]
 exact List.map_id r
def cmpH (H:Hp):V→V→Ordering:=fun u v=>cmpR (rowH H u) (rowH H v)
theorem zjk {H:Hp}:∀ {fs:List Addr}{rs:List (List Int)}{a:Addr}{r:List Int},RowsAt H fs rs→H a=some (.tup (r.map V.int))→∃ h,(fs.map V.ref).foldl (zbq (cmpH H)) (.ref a)=.ref h∧H h=some (.tup ((rs.foldl minR r).map V.int)):=by
 intro fs rs a r h
 induction h generalizing a r with
 | nil=>intro ha;exact⟨a,rfl,ha⟩
 | @cons b q fs rs hb _ ih =>
  intro ha
  show ∃ h,(fs.map V.ref).foldl (zbq (cmpH H)) (zbq (cmpH H) (.ref a) (.ref b))=.ref h∧H h=some (.tup ((rs.foldl minR (minR r q)).map V.int))
  have e:cmpH H (.ref b) (.ref a)=cmpR q r:=by unfold cmpH;rw[zcf ha,zcf hb]
  unfold zbq minR
  by_cases z:cmpR q r=.lt
  ·rw[Jf (e.trans z),Jf z];exact ih hb
  ·rw[Jc (fun y=>z (e.symm.trans y)),Jc z];exact ih ha
theorem zjl {H:Hp}{fs:List Addr}{rs:List (List Int)}(h:RowsAt H fs rs) (ne:rs≠[]):∃ g,zbf (cmpH H) (fs.map V.ref)=.ref g∧H g=some (.tup ((minL rs).map V.int)):=by
 cases h with
 | nil=>exact absurd rfl ne
 | cons a t=>exact zjk t a
theorem zj1 {H:Hp}{n:Nat}{fs:List Addr}{rs:List (List Int)}(h:RowsAt H fs rs) (hl:∀ r∈rs,r.length=n):∀ x∈fs.map V.ref,∀ y∈fs.map V.ref,Lx H 1 x y (cmpH H x y):=by
 have at_:∀ {fs:List Addr}{rs:List (List Int)},RowsAt H fs rs→∀ a∈fs,∃ r∈rs,H a=some (.tup (r.map V.int)):=by
  intro fs rs h
  induction h with
  | nil=>intro a ha;cases ha
  | cons p _ ih =>
   intro a ha
   rcases List.mem_cons.mp ha with rfl|z
   ·exact⟨_,.head _,p⟩
   ·obtain⟨r,hr,e⟩:=ih a z
    exact⟨r,.tail _ hr,e⟩
 intro x hx y hy
 obtain⟨a,ha,rfl⟩:=JA.mp hx
 obtain⟨b,bm,rfl⟩:=JA.mp hy
 obtain⟨r,hr,e1⟩:=at_ h a ha
 obtain⟨q,hq,e2⟩:=at_ h b bm
 unfold cmpH
 rw[zcf e1,zcf e2]
 exact zeA e1 e2 (by rw[hl r hr,hl q hq])
structure NewOk (seen:LvL) (Ok:KN→Prop) (a:LAcc):Prop where
 nd:LvNd a.on
 new:∀ p∈a.on,getL seen p.1=none
 ok:∀ p∈a.on,Ok p.1
section
variable {step:KN→Nat→Option KN}{seen:LvL}{Ok:KN→Prop}{moves:List Nat}
theorem NewOk.go {s:KN}{c:List Int}{a:LAcc}{k:Nat}(h:NewOk seen Ok a) (hk:∀ t,step s k=some t→Ok t):NewOk seen Ok (go1 step seen s c a k):=by
 unfold go1
 split
 ·exact⟨h.nd,h.new,h.ok⟩
 ·rename_i t ht
  split
  ·exact h
  ·rename_i z
   refine⟨h.nd.put _ _,fun p hp=>?_,fun p hp=>?_⟩
   ·rcases zc7 hp with y|y
    ·exact h.new p y
    ·rw[y]
     cases e:getL seen t with
     | none=>rfl
     | some r=>rw[e]at z;exact absurd rfl z
   ·rcases zc7 hp with y|y
    ·exact h.ok p y
    ·rw[y];exact hk t ht
theorem NewOk.row {s:KN}{c:List Int}:∀ (ms:List Nat) {a:LAcc},NewOk seen Ok a→(∀ m∈ms,∀ t,step s m=some t→Ok t)→NewOk seen Ok (ms.foldl (go1 step seen s c) a)
 | [],a,h,_=>h
 | k::r,a,h,q=>NewOk.row r (h.go (q k (.head _))) fun m hm=>q m (.tail _ hm)
theorem NewOk.lev:∀ (level:LvL) {a:LAcc},NewOk seen Ok a→(∀ p∈level,∀ m∈moves,∀ t,step p.1 m=some t→Ok t)→NewOk seen Ok (level.foldl (goS step seen moves) a)
 | [],a,h,_=>h
 | p::r,a,h,q=>NewOk.lev r (NewOk.row moves h (q p (.head _))) fun m hm=>q m (.tail _ hm)
theorem zcj (level:LvL) (q:∀ p∈level,∀ m∈moves,∀ t,step p.1 m=some t→Ok t):NewOk seen Ok (zaB step seen moves level) :=
 NewOk.lev level ⟨Yw,fun p hp=>(nomatch hp),fun p hp=>(nomatch hp)⟩ q
theorem zfr {n:Nat}(level:LvL) (h:∀ p∈level,p.2.length=n):AccOk n (level.length*moves.length) (zaB step seen moves level):=by
 have:=AccOk.lev (step:=step) (seen:=seen) (moves:=moves) level (a:=⟨[],[]⟩) (m:=0) h ⟨fun p hp=>(nomatch hp),fun p hp=>(nomatch hp),Jg _⟩
 rwa [Yd]at this
end
section
variable {step:KN→Nat→Option KN}{moves:List Nat}{most m:Nat}{level seen:LvL}{ls:List LvL}
theorem zbd:zas step moves most (m+1) [] seen ls=.whl ls:=Jf rfl
theorem zbL (ne:level≠[]) (h:most<seen.length+level.length):zas step moves most (m+1) level seen ls=.opn:=by
 unfold zas
 rw[Jc ne,Jf h]
theorem zbN (ne:level≠[]) (h:¬ most<seen.length+level.length) (f:(zaB step (seen++level) moves level).fl≠[]):zas step moves most (m+1) level seen ls=.brk (minL (zaB step (seen++level) moves level).fl):=by
 unfold zas
 rw[Jc ne,Jc h,Jf f]
theorem zbM (ne:level≠[]) (h:¬ most<seen.length+level.length) (f:(zaB step (seen++level) moves level).fl=[]):zas step moves most (m+1) level seen ls=zas step moves most m (zaB step (seen++level) moves level).on (seen++level) (ls++[level]):=by
 rw[zas,Jc ne,Jc h,Jc (not_not_intro f)]
end
theorem zky (step:KN→Nat→Option KN) (seen:LvL) (s:KN) (c:List Int) (a:LAcc) (k:Nat):(go1 step seen s c a k).on.length≤a.on.length+1:=by
 unfold go1
 split
 ·exact Nat.le_succ _
 ·split
  ·exact Nat.le_succ _
  ·exact zfd _ _ _
theorem zgO (step:KN→Nat→Option KN) (seen:LvL) (s:KN) (c:List Int):∀ (ms:List Nat) (a:LAcc),(ms.foldl (go1 step seen s c) a).on.length≤a.on.length+ms.length
 | [],a=>Jg _
 | k::r,a=>by
  have h1:=zgO step seen s c r (go1 step seen s c a k)
  have h2:=zky step seen s c a k
  show (r.foldl (go1 step seen s c) (go1 step seen s c a k)).on.length≤a.on.length+(r.length+1)
  lia
theorem ziM (step:KN→Nat→Option KN) (seen:LvL) (moves:List Nat) (level:LvL):(zaB step seen moves level).on.length≤level.length*moves.length:=by
 have key:∀ (level:LvL) (a:LAcc),(level.foldl (goS step seen moves) a).on.length≤a.on.length+level.length*moves.length:=by
  intro level
  induction level with
  | nil=>intro a;exact Nat.le_add_right _ _
  | cons p r ih =>
   intro a
   have h1:=ih (goS step seen moves a p)
   have h2:=zgO step seen p.1 p.2 moves a
   show (r.foldl (goS step seen moves) (goS step seen moves a p)).on.length≤_
   rw[JN,Nat.add_mul,Nat.one_mul]
   have h3:(goS step seen moves a p).on.length≤a.on.length+moves.length:=h2
   lia
 have:=key level ⟨[],[]⟩
 unfold zaB
 have e:(⟨[],[]⟩:LAcc).on.length=0:=rfl
 lia
def LvsAt (P:Program) (w:World) (H:Hp) (as:List Addr) (ls:List LvL):Prop:=Paired (fun a lv=>∃ xs,H a=some (DN P w a xs)∧LvE H xs lv) as ls
theorem LvsAt.but {P:Program}{w:World}{H H':Hp}{as:List Addr}{ls:List LvL}(h:LvsAt P w H as ls) (t:Tups H H') (k:∀ a∈as,∀ o,H a=some o→H' a=some o):LvsAt P w H' as ls:=by
 induction h with
 | nil=>exact .nil
 | @cons a lv as ls q _ ih =>
  obtain⟨xs,e,le⟩:=q
  exact .cons ⟨xs,k a (.head _) _ e,le.tups t⟩ (ih fun b hb=>k b (.tail _ hb))
theorem LvsAt.keep {P:Program}{w:World}{H H':Hp}{as:List Addr}{ls:List LvL}(h:LvsAt P w H as ls) (s:Same H H'):LvsAt P w H' as ls:=h.but (Tups.of s) fun a _ o e=>s a o e
def TellR (P:Program) (w:World) (H:Hp) (p:Addr):LRes→Prop
 | .opn=>H p=some (.tup [.str "open",.non])
 | .brk c=>∃ b,H p=some (.tup [.str "breaks",.ref b])∧H b=some (.tup (c.map V.int))
 | .whl ls=>∃ l as,H p=some (.tup [.str "whole",.ref l])∧H l=some (.lst (as.map V.ref))∧LvsAt P w H as ls
def zeh (P:Program) (w:World) (K:PySem.W.Frag) (L:Lam) (fr:List Str) (lsp:LSpc):Sp:=fun vs H Q _=>∃ b0 c0 mv f k0 c moves cl vals step Ok n,∃ most:Nat,vs=[.ref b0,.ref c0,.ref mv,.ref f,.int (most:Nat)]∧NKey H k0 b0∧H c0=some (.tup (List.map V.int c))∧c.length=n∧Ok k0∧Way K H mv f L fr lsp cl vals step Ok moves n∧most≤500000∧moves.length≤16∧0<most ∧
 ∀ p H',Same H H'→TellR P w H' p (zas step moves most (most+1) [(k0,c)] [] [])→Q (.ref p) H'
end L2
namespace K41
open PySem L2 Own Bn
abbrev sClm:Stmt:=top 10
theorem zg9 {H H':Hp}{x:Addr}(s:Same H H') (h:H' x=none):H x=none:=by
 cases e:H x with
 | none=>rfl
 | some o=>rw[s _ _ e]at h;cases h
theorem zla {P:Program}{w:World}{H:Hp}{as:List Addr}{ls:List LvL}{a:Addr}{ys:List V}(h:LvsAt P w H as ls) (e:H a=some (.lst ys)):a∉as:=by
 induction h with
 | nil=>exact Jt
 | cons q _ ih =>
  intro z
  rcases List.mem_cons.mp z with rfl|y
  ·obtain⟨xs,e2,_⟩:=q
   rw[e]at e2;cases e2
  ·exact ih y
section
variable {P:Program}{w:World}{K:PySem.W.Frag}{mg:Str→Option Value}{base:Heap}
theorem scCl:FnScope ["first","counts","moves","led","most","level","levels","seen","faults"] ["first","counts","moves","led","most"] (zae sClm):=by trivial
theorem zf1 {f fN:Addr}{fd dN:FuncData}{L:Lam}{fr:List Str}{lsp:LSpc}(F:Fun K "climbed" "climbed" sClm f fd) (G:Mgs mg) (UN:Use P w K mg base "next_level" ["level","seen","moves","led"] 6 (zgy P w K L fr lsp) fN dN):FnOk P w K mg base CX0 7 f fd ["first","counts","moves","led","most"] (zeh P w K L fr lsp):=by
 refine F.ok scCl (fun vs H Q E h=>?_) (fun cdv A outer s H vs Q E hr h=>?_)
 ·obtain⟨b0,c0,mv,f,k0,c,moves,cl,vals,step,Ok,n,most,rfl,_⟩:=h
  rfl
 obtain⟨b0,c0,mv,f,k0,c,moves,cl,vals,step,Ok,n,most,rfl,kb0,hc0,cn,ok0,W,mb,mvl,mp,k⟩:=h
 refine⟨_,(@pss_cons _ _ _ _ _ (@ps_set _ _ 5 _ _ _ _ scCl.nd rfl (.inl rfl) (ziw hr.u3 (@qv _ 0 _ _ (by trivial)) (@qv _ 1 _ _ (by trivial))) (by rfl) (by first|exact .inl rfl|exact .inr rfl|assumption)) (@pss_cons _ _ _ _ _ (@ps_set _ _ 6 _ _ _ _ scCl.nd rfl (.inl rfl) (@pe_lst _ _ _ _ pa_nil) (by rfl) (by first|exact .inl rfl|exact .inr rfl|assumption)) (@pss_cons _ _ _ _ _ (@ps_set _ _ 7 _ _ _ _ scCl.nd rfl (.inl rfl) zgV (by rfl) (by first|exact .inl rfl|exact .inr rfl|assumption)) (@pss_cons _ _ _ _ _ (@zfe _ _ _ _ _ _ PassesOwn.never (pt_n (@qv _ 5 _ _ (by trivial)) (fun _=>rfl)) (@pss_cons _ _ _ _ _ (@zaZ _ _ _ _ (zj8 hr.u3 (@qv _ 7 _ _ (by trivial)) (@qv _ 5 _ _ (by trivial)) ⟨rfl,rfl,rfl,rfl⟩) (by rfl)) (@pss_cons _ _ _ _ _ (@ps_if _ _ _ _ _ _ _ _ (@pt_cmpR _ _ _ _ _ _ _ _ ziA (@pe_callB _ _ _ _ _ _ _ _ _ zhX (by rfl) G.len PySem.boot_len (@pa_cons _ _ _ _ _ (@qv _ 7 _ _ (by trivial)) pa_nil (by rfl)) (by decide) (by decide) (by rfl) (by rfl)) (@qv _ 4 _ _ (by trivial)) (nomark _)) (@pss_one _ _ _ (@ps_ret _ _ _ _ (@pe_tup _ _ _ _ _ (@pa_cons _ _ _ _ _ zb2 (@pa_cons _ _ _ _ _ pe_non pa_nil (by rfl)) (by rfl))))) pss_nil) (@pss_cons _ _ _ _ _ (@zaZ _ _ _ _ (@zdb _ _ _ _ _ _ _ _ _ _ _ _ PySem.F.plainAttrs_list PySem.F.slot_list_append PySem.F.type_list_append zaE (@qv _ 6 _ _ (by trivial)) (@pa_cons _ _ _ _ _ (@qv _ 5 _ _ (by trivial)) pa_nil (by rfl)) (by rfl) (by rfl) (by rfl) (by rfl) (by rfl)) (by rfl)) (@pss_cons _ _ _ _ _ (@ps_asg _ _ _ _ _ _ (@pe_call _ _ _ _ _ _ _ _ _ _ _ _ _ _ _ _ UN.ok hr (by rfl) UN.m UN.kp UN.b .nil pass0 (@pa_cons _ _ _ _ _ (@qv _ 5 _ _ (by trivial)) (@pa_cons _ _ _ _ _ (@qv _ 7 _ _ (by trivial)) (@pa_cons _ _ _ _ _ (@qv _ 2 _ _ (by trivial)) (@pa_cons _ _ _ _ _ (@qv _ 3 _ _ (by trivial)) pa_nil (by rfl)) (by rfl)) (by rfl)) (by rfl)) (by decide) (by rfl) (by rfl)) (@pg_tup _ _ _ _ _ _ rfl (@pgs_cons _ _ _ _ _ (@pg_name _ _ 5 _ scCl.nd rfl (.inl rfl) (by first|exact .inl rfl|exact .inr rfl|assumption)) (@pgs_cons _ _ _ _ _ (@pg_name _ _ 8 _ scCl.nd rfl (.inl rfl) (by first|exact .inl rfl|exact .inr rfl|assumption)) pgs_nil (by rfl)) (by rfl)) (by rfl) (by rfl)) (by rfl) (by rfl) (by rfl)) (@pss_one _ _ _ (@ps_if _ _ _ _ _ _ _ _ (@zir _ _ _ (@qv _ 8 _ _ (by trivial)) (fun _=>rfl)) (@pss_one _ _ _ (@ps_ret _ _ _ _ (@pe_tup _ _ _ _ _ (@pa_cons _ _ _ _ _ zb2 (@pa_cons _ _ _ _ _ (@pe_callB _ _ _ _ _ _ _ _ _ (zhY rfl true hr.units) (by rfl) G.min (by rfl) (@pa_cons _ _ _ _ _ (@qv _ 8 _ _ (by trivial)) pa_nil (by rfl)) (by decide) (by decide) (by rfl) (by rfl)) pa_nil (by rfl)) (by rfl))))) pss_nil))))))) (@pss_one _ _ _ (@ps_ret _ _ _ _ (@pe_tup _ _ _ _ _ (@pa_cons _ _ _ _ _ zb2 (@pa_cons _ _ _ _ _ (@qv _ 6 _ _ (by trivial)) pa_nil (by rfl)) (by rfl))))))))),?_⟩
 refine fun dl hdl=>⟨_,rfl,_,rfl,b0,k0,rfl,zac,kb0.tups (Tups.of (zaa hdl _)),?_⟩
 refine⟨by show 0≤sizeLine;decide,fun ll hll=>fun ds hds=>?_⟩
 have sA:Same H (L2.upd (L2.upd H dl (DN P w dl [])) dl (DN P w dl [(k0,b0,.ref c0)])):=fun b u e=>by
  rw[zad (zab e hdl),zad (zab e hdl)];exact e
 have hdA:L2.upd (L2.upd H dl (DN P w dl [])) dl (DN P w dl [(k0,b0,.ref c0)]) dl=some (DN P w dl [(k0,b0,.ref c0)]):=zac
 replace hll:L2.upd (L2.upd H dl (DN P w dl [])) dl (DN P w dl [(k0,b0,.ref c0)]) ll=none:=hll
 replace hds:L2.upd (L2.upd (L2.upd H dl (DN P w dl [])) dl (DN P w dl [(k0,b0,.ref c0)])) ll (.lst []) ds=none:=hds
 show tSeq _ _ _ _ (L2.upd (L2.upd (L2.upd (L2.upd H dl (DN P w dl [])) dl (DN P w dl [(k0,b0,.ref c0)])) ll (.lst [])) ds (DN P w ds []))
 generalize L2.upd (L2.upd H dl (DN P w dl [])) dl (DN P w dl [(k0,b0,.ref c0)])=HA at *
 have sB:=zaa hll (.lst [])
 have sC:=zaa hds (DN P w ds [])
 have hlB:L2.upd HA ll (.lst []) ll=some (.lst []):=zac
 have hlC:=sC _ _ hlB
 have hdC:=sC _ _ (sB _ _ hdA)
 have hsC:L2.upd (L2.upd HA ll (.lst [])) ds (DN P w ds []) ds=some (DN P w ds []):=zac
 have lds:ll≠ds:=zab hlB hds
 have ddl:dl≠ds:=zab (sB _ _ hdA) hds
 have llH:H ll=none:=zg9 sA hll
 have dsH:H ds=none:=zg9 (sA.trans sB) hds
 have sX:Same H (L2.upd (L2.upd HA ll (.lst [])) ds (DN P w ds [])):=(sA.trans sB).trans sC
 generalize L2.upd (L2.upd HA ll (.lst [])) ds (DN P w ds [])=HX at *
 clear sA sB sC hlB hll hds hdA
 refine⟨fun m σ H2=>∃ dl xs ys level seen as ls v8,σ=[some (.ref b0),some (.ref c0),some (.ref mv),some (.ref f),some (.int (most:Nat)),some (.ref dl),some (.ref ll),some (.ref ds),v8]∧Same H H2∧H2 dl=some (DN P w dl xs)∧LvE H2 xs level∧H2 ds=some (DN P w ds ys)∧LvE H2 ys seen∧dl≠ds∧H2 ll=some (.lst (as.map V.ref))∧LvsAt P w H2 as ls∧ds∉as ∧
  as.length≤seen.length∧LvNd level∧(∀ p∈level,getL seen p.1=none)∧(∀ p∈level,Ok p.1∧p.2.length=n)∧seen.length≤most∧(seen≠[]∨level.length=1)∧level.length≤16*most+1∧most+1≤m+seen.length∧zas step moves most (most+1) [(k0,c)] [] []=zas step moves most m level seen ls,⟨most+1,?_⟩,?_⟩
 ·exact⟨dl,_,[],[(k0,c)],[],[],[],_,rfl,sX,hdC,⟨fun x hx=>by rw[Jd.mp hx];exact kb0.tups (Tups.of sX),.cons ⟨rfl,c0,rfl,sX _ _ hc0⟩ .nil⟩,hsC,LvE.nil,ddl,hlC,.nil,Jt,Jg _,JL.mpr ⟨Jt,Yw⟩,fun p hp=>rfl,fun p hp=>by rw[Jd.mp hp];exact⟨ok0,cn⟩,JH _,.inr rfl,by show 1≤_;lia,Jg _,rfl⟩
 clear hlC hdC hsC sX lds ddl
 rintro m σ H2 ⟨dl,xs,ys,level,seen,as,ls,v8,rfl,s2,hd2,lv2,hs2,ls2,dne,hl2,lvs2,das,asl,nd,new,lok,sm,one,lle,em,ec⟩
 have e0:(!xs.isEmpty) = !level.isEmpty:=by
  have:=lv2.len
  cases xs<;>cases level<;>first|rfl|cases this
 refine⟨_,rfl,dl,xs,rfl,.inl hd2,?_⟩
 rw[e0]
 obtain⟨m,rfl⟩:∃ m',m=m'+1:=⟨m-1,by lia⟩
 by_cases le:level=[]
 ·rw[le]
  refine iteF ?_
  refine⟨_,rfl,by show 2≤sizeLine;decide,fun p hp=>?_⟩
  have s3:=zaa hp (.tup [.str "whole",.ref ll])
  refine k p _ (s2.trans s3) ?_
  rw[ec,le,zbd]
  exact⟨ll,as,zac,s3 _ _ hl2,lvs2.keep s3⟩
 rw[show (!level.isEmpty)=true by cases level;exact absurd rfl le;rfl]
 refine iteT ⟨_,fun σ' H' hN=>⟨m,Nat.lt_succ_self _,hN⟩,?_⟩
 have l2:=lv2.len
 have l3:=ls2.len
 refine⟨_,rfl,ds,rfl,⟨_,.inl hs2⟩,_,rfl,dl,ys,xs,rfl,dne.symm,hs2,ls2.ks,⟨.inl hd2,lv2.ks⟩,by rw[Jy];lia,?_,?_⟩
 ·rcases one with z|z
  ·exact .inl fun y=>z (by rw[y]at l3;exact Z6.mp l3.symm)
  ·exact .inr (by rw[l2];exact z)
 rw[ls2.merge lv2 nd new]
 have lls:ll≠ds:=zbC hl2 hs2 fun z=>by cases z
 have hs3:L2.upd H2 ds (DN P w ds (ys++xs)) ds=some (DN P w ds (ys++xs)):=zac
 have t3:Tups H2 (L2.upd H2 ds (DN P w ds (ys++xs))):=fun b zs e=>by rw[zad (zbC e hs2 fun z=>by cases z)];exact e
 have hd3:L2.upd H2 ds (DN P w ds (ys++xs)) dl=some (DN P w dl xs):=by rw[zad dne];exact hd2
 have hl3:L2.upd H2 ds (DN P w ds (ys++xs)) ll=some (.lst (as.map V.ref)):=by rw[zad lls];exact hl2
 have s3:Same H (L2.upd H2 ds (DN P w ds (ys++xs))):=fun b u e=>by rw[zad (zab e dsH)];exact s2 b u e
 have lvs3:LvsAt P w (L2.upd H2 ds (DN P w ds (ys++xs))) as ls:=lvs2.but t3 fun a ha o e=>by rw[zad (fun (z:a=ds)=>das (z ▸ ha))];exact e
 have lv3:=lv2.tups t3
 have ls3:=(ls2.tups t3).app lv3
 show tSeq _ _ _ _ (L2.upd H2 ds (DN P w ds (ys++xs)))
 generalize L2.upd H2 ds (DN P w ds (ys++xs))=H3 at *
 clear hs2 hl2 hd2 lvs2 lv2 ls2 t3 s2
 have yl:(ys++xs).length=seen.length+level.length:=by rw[Ja];lia
 refine⟨_,rfl,ds,_,rfl,.inl hs3,_,rfl,_,_,rfl,rfl,_,rfl,ite2 (fun z=>?_) (fun z=>?_)⟩
 ·have z1:most<seen.length+level.length:=by
   have:=Zb z
   rw[yl]at this;lia
  refine⟨by show 2≤sizeLine;decide,fun p hp=>?_⟩
  have s4:=zaa hp (.tup [.str "open",.non])
  refine k p _ (s3.trans s4) ?_
  rw[ec,zbL le z1]
  exact zac
 have z1:¬ most<seen.length+level.length:=fun y=>z (Jz (by rw[yl];lia))
 have lp:0<level.length:=Zn.mpr le
 refine⟨_,rfl,.inl ⟨rfl,_,SqL.of hl3⟩,_,rfl,ll,_,_,rfl,rfl,hl3,by rw[Jm,Jy];lia,?_⟩
 have hl4:L2.upd H3 ll (.lst (as.map V.ref++[.ref dl])) ll=some (.lst ((as++[dl]).map V.ref)):=by rw[Y2];exact zac
 have q4:∀ {b:Addr}{u:HO},H3 b=some u→b≠ll→L2.upd H3 ll (.lst (as.map V.ref++[.ref dl])) b=some u:=fun e ne=>by rw[zad ne];exact e
 have t4:Tups H3 (L2.upd H3 ll (.lst (as.map V.ref++[.ref dl]))):=fun b zs e=>q4 e (zbC e hl3 fun z=>by cases z)
 have hd4:=q4 hd3 (zbC hd3 hl3 fun z=>by cases z)
 have hs4:=q4 hs3 lls.symm
 have s4:Same H (L2.upd H3 ll (.lst (as.map V.ref++[.ref dl]))):=fun b u e=>q4 (s3 b u e) (zab e llH)
 have lvs4:LvsAt P w (L2.upd H3 ll (.lst (as.map V.ref++[.ref dl]))) (as++[dl]) (ls++[level]):=Paired.snoc (lvs3.but t4 fun a ha o e=>by
  by_cases y:a=ll
  ·exact absurd (y ▸ ha) (zla lvs3 hl3)
  ·exact q4 e y) ⟨xs,hd4,lv3.tups t4⟩
 have lv4:=lv3.tups t4
 have ls4:=ls3.tups t4
 show tSeq _ _ _ _ (L2.upd H3 ll (.lst (as.map V.ref++[.ref dl])))
 generalize L2.upd H3 ll (.lst (as.map V.ref++[.ref dl]))=H4 at *
 clear hs3 hl3 hd3 lvs3 lv3 ls3 t4 s3 q4
 have W4:=W.keep (Tups.of s4) fun b o u e=>s4 b _ e
 have nw:=zcj (step:=step) (seen:=seen++level) (moves:=moves) (Ok:=Ok) level fun p hp m hm t e=>W.ok _ _ _ (lok p hp).1 hm e
 have na:=zfr (step:=step) (seen:=seen++level) (moves:=moves) (n:=n) level fun p hp=>(lok p hp).2
 have few:level.length*moves.length≤level.length*16:=Nat.mul_le_mul_left _ mvl
 refine⟨_,rfl,_,rfl,_,rfl,_,rfl,dl,ds,mv,f,xs,ys++xs,level,seen++level,moves,cl,vals,step,Ok,n,rfl,hd4,lv4,hs4,ls4,dne,W4,lok,by lia,fun p o l zs fs H5 s5 ho hp ho5 lo5 hl5 rw5=>?_⟩
 refine⟨p,_,rfl,SqT.of hp,rfl,_,_,rfl,_,_,rfl,rfl,?_⟩
 have fl:=Paired.length rw5
 by_cases fe:(zaB step (seen++level) moves level).fl=[]
 ·have f0:fs=[]:=by rw[fe]at fl;exact Z6.mp fl
  refine⟨_,rfl,false,.inl ⟨_,SqL.of hl5,by rw[f0];rfl⟩,iteF ?_⟩
  refine⟨o,zs,ys++xs,_,seen++level,as++[dl],ls++[level],_,rfl,s4.trans s5,ho5,lo5,s5 _ _ hs4,ls4.keep s5,fun z=>?_,s5 _ _ hl4,lvs4.keep s5,?_,?_,nw.nd,nw.new,fun p hp=>⟨nw.ok p hp,na.on p hp⟩,by rw[Ja];lia,.inl ?_,?_,by rw[Ja];lia,?_⟩
  ·rw[z,hs4]at ho;cases ho
  ·intro z
   rcases Js.mp z with y|y
   ·exact das y
   ·exact dne (Jd.mp y).symm
  ·rw[Ja,Ja];show as.length+1≤_;lia
  ·intro y
   have:=JJ List.length y
   rw[Ja,Z1]at this
   lia
  ·have:=na.few;lia
  ·rw[ec,zbM le z1 fe]
 ·have fp:0<(fs.map V.ref).length:=by
   rw[Jm,fl];exact Zn.mpr fe
  refine⟨_,rfl,true,.inl ⟨_,SqL.of hl5,?_⟩,iteT ?_⟩
  ·cases fs with
   | nil=>exact absurd fp (by simp)
   | cons a b=>rfl
  obtain⟨g,g1,g2⟩:=zjl rw5 fe
  refine⟨_,rfl,l,_,1,cmpH H5,rfl,SqL.of hl5,fp,by decide,zj1 rw5 na.fl,?_⟩
  rw[g1]
  refine⟨by show 2≤sizeLine;decide,fun q hq=>?_⟩
  have s6:=zaa hq (.tup [.str "breaks",.ref g])
  refine k q _ ((s4.trans s5).trans s6) ?_
  rw[ec,zbN le z1 fe]
  exact⟨g,zac,s6 _ _ g2⟩
end
end K41
namespace L2
open PySem PySem.Spec PyProof.Rows
abbrev e2 (elt tg iter tg1 iter1:Expr) (ifs:List Expr) (scope:Scope) (pos:Pos):Expr:=.ListComp elt [⟨tg,iter,[],0⟩,⟨tg1,iter1,ifs,0⟩] scope pos
theorem zgo (elt tg iter tg1 iter1:Expr) (ifs:List Expr) (scope:Scope) (pos:Pos) (it acc:Value) (env:Env) :
  compTurn (e2 elt tg iter tg1 iter1 ifs scope pos) 0 it acc env=(standAt iter.pos >>= fun _=>pyNext it >>= fun r=>match r with
   | none=>pure (.done .next)
   | some v=>letOwnedTupleGo tg it v >>= fun _=>assign tg env v >>= fun _ =>
    (eval iter1 env >>= fun x=>standAt iter1.pos >>= fun _=>foldedSetIterable iter1 env x >>= fun x=>holding [x] (pyIter x) >>= fun i1=>runOwn (.compStart (e2 elt tg iter tg1 iter1 ifs scope pos) 1 i1 acc env) env >>= fun _ =>
     again (.compLoop (e2 elt tg iter tg1 iter1 ifs scope pos) 0 it acc env))):=by rfl
theorem zgn (elt tg iter tg1 iter1:Expr) (scope:Scope) (pos:Pos) (it acc:Value) (env:Env) :
  compTurn (e2 elt tg iter tg1 iter1 [] scope pos) 1 it acc env=(standAt iter1.pos >>= fun _=>pyNext it >>= fun r=>match r with
   | none=>pure (.done .next)
   | some v=>letOwnedTupleGo tg1 it v >>= fun _=>assign tg1 env v >>= fun _ =>
    ((eval elt env >>= fun x=>call (.builtin "list.append") [acc,x] >>= fun _=>pure ()) >>= fun _ =>
     again (.compLoop (e2 elt tg iter tg1 iter1 [] scope pos) 1 it acc env))):=by rfl
theorem zfK (elt tg iter tg1 iter1 c:Expr) (scope:Scope) (pos:Pos) (it acc:Value) (env:Env) :
  compTurn (e2 elt tg iter tg1 iter1 [c] scope pos) 1 it acc env=(standAt iter1.pos >>= fun _=>pyNext it >>= fun r=>match r with
   | none=>pure (.done .next)
   | some v=>letOwnedTupleGo tg1 it v >>= fun _=>assign tg1 env v >>= fun _=>(forIn [c] true fun c r=>if r=true then (isTrue c env (eval c env) >>= fun ok=>pure (ForInStep.yield ok)) else pure (ForInStep.yield r)) >>= fun ok =>
    if ok=true then
    ((eval elt env >>= fun x=>call (.builtin "list.append") [acc,x] >>= fun _=>pure ()) >>= fun _ =>
     again (.compLoop (e2 elt tg iter tg1 iter1 [c] scope pos) 1 it acc env)) else again (.compLoop (e2 elt tg iter tg1 iter1 [c] scope pos) 1 it acc env)):=by rfl
section
variable {prog:Program}{w:World}{A:Around}{R:Result→Shared→Prop}{s:Shared}{elt tg iter tg1 iter1:Expr}{scope:Scope}{pos:Pos}{it acc:Value}{env:Env}
theorem zeO {ifs:List Expr}
  (h0:codeAny (model prog w) A (.compLoop (e2 elt tg iter tg1 iter1 ifs scope pos) 1 it acc env) R s)
  (h:wpAny (model prog w) A (pyIter it) (fun i2 z=>codeAny (model prog w) A (.compLoop (e2 elt tg iter tg1 iter1 ifs scope pos) 1 i2 acc env) R z) NoX s) :
  codeAny (model prog w) A (.compStart (e2 elt tg iter tg1 iter1 ifs scope pos) 1 it acc env) R s:=by
 refine codeAny_of_tree ?_
 show wpAny _ A ((compStart (e2 elt tg iter tg1 iter1 ifs scope pos) 1 it acc env).onRaise (fun x=>do noteFrame x env;standAt theWindowsPlace)) _ _ s
 refine wpAny_notedAt ?_
 unfold compStart
 refine(show wpAny _ _ (ask >>= _) _ _ s from J0 (wpAny_askSetting (wpAny_ite ?_)))
 split
 ·first
   | exact J0 (J9 (J9 ⟨rfl,h0⟩))
   | exact J9 ⟨rfl,h0⟩
 ·apply J0;refine wpAny_rule ?_
  first
   | exact J0 (wpAny_standAt (J0 (JK h (fun it' s' h'=>J9 ⟨rfl,h'⟩) fun _ _ z=>z.elim)))
   | (show wpAny _ _ (standAt iter1.pos >>= _) _ _ s;exact J0 (wpAny_standAt (J0 (JK h (fun it' s' h'=>J9 ⟨rfl,h'⟩) fun _ _ z=>z.elim))))
theorem zgl {o:Option Expr}(J:Nat→Shared→Prop)
  (turn:∀ n s,J n s→Go (model prog w) A tg1 elt o it acc env R (fun z=>∃ m,m<n∧J m z) s) (n:Nat) (h:J n s) :
  codeAny (model prog w) A (.compLoop (.ListComp elt [⟨tg,iter,[],0⟩,⟨tg1,iter1,o.toList,0⟩] scope pos) 1 it acc env) R s:=by
 cases o with
 | none =>
  refine codeAny_loop rfl J (fun n s hI=>?_) n h
  show wpAny _ A ((compTurn (e2 elt tg iter tg1 iter1 [] scope pos) 1 it acc env).onRaise (fun x=>do noteFrame x env;theTreesLotGoes x)) _ _ s
  refine wpAny_noted ?_
  rw[zgn]
  refine J0 (wpAny_standAt (J0 (JK (turn n s hI) (fun r a h1=>?_) fun _ _ z=>z.elim)))
  cases r with
  | none=>exact J9 h1
  | some v =>
   refine J0 (JK h1 (fun _ b h2=>?_) fun _ _ z=>z.elim)
   refine J0 (JK h2 (fun _ c h3=>?_) fun _ _ z=>z.elim)
   have h3':wpAny (model prog w) A (eval elt env) (fun x e=>wpAny (model prog w) A (call (.builtin "list.append") [acc,x]) (fun _ f=>∃ m,m<n∧J m f) NoX e) NoX c:=h3
   exact J0 (J0 (JK h3' (fun x d h4=>J0 (JK h4 (fun _ e h5=>J9 (J9 ⟨rfl,h5⟩)) fun _ _ z=>z.elim)) fun _ _ z=>z.elim))
 | some t =>
  refine codeAny_loop rfl J (fun n s hI=>?_) n h
  show wpAny _ A ((compTurn (e2 elt tg iter tg1 iter1 [t] scope pos) 1 it acc env).onRaise (fun x=>do noteFrame x env;theTreesLotGoes x)) _ _ s
  refine wpAny_noted ?_
  rw[zfK]
  refine J0 (wpAny_standAt (J0 (JK (turn n s hI) (fun r a h1=>?_) fun _ _ z=>z.elim)))
  cases r with
  | none=>exact J9 h1
  | some v =>
   refine J0 (JK h1 (fun _ b h2=>?_) fun _ _ z=>z.elim)
   refine J0 (JK h2 (fun _ c h3=>?_) fun _ _ z=>z.elim)
   have h3':wpAny (model prog w) A (isTrue t env (eval t env)) (fun yes d=>if yes=true then wpAny (model prog w) A (eval elt env) (fun x e=>wpAny (model prog w) A (call (.builtin "list.append") [acc,x]) (fun _ f=>∃ m,m<n∧J m f) NoX e) NoX d else ∃ m,m<n∧J m d) NoX c:=h3
   refine J0 (wpAny_tests_one (JK h3' (fun yes d h4=>?_) fun _ _ z=>z.elim))
   cases yes with
   | false=>exact J9 ⟨rfl,h4⟩
   | true=>exact J0 (J0 (JK h4 (fun x e h5=>J0 (JK h5 (fun _ f h6=>J9 (J9 ⟨rfl,h6⟩)) fun _ _ z=>z.elim)) fun _ _ z=>z.elim))
theorem zgm {ifs:List Expr}(J:Nat→Shared→Prop)
  (turn:∀ n s,J n s→wpAny (model prog w) A (pyNext it) (fun r a=>match r with
   | none=>R (.ok .next) a
   | some v=>wpAny (model prog w) A (letOwnedTupleGo tg it v) (fun _ b=>wpAny (model prog w) A (assign tg env v) (fun _ c=>wpAny (model prog w) A (eval iter1 env) (fun x d=>wpAny (model prog w) A (pyIter x) (fun i1 e =>
     codeAny (model prog w) A (.compStart (e2 elt tg iter tg1 iter1 ifs scope pos) 1 i1 acc env) (fun r f=>match r with|.ok _=>∃ m,m<n∧J m f|.error _=>False) e) NoX d) NoX c) NoX b) NoX a) NoX s) (n:Nat) (h:J n s)
  (hs:∀ x,foldedSetIterable iter1 env x=pure x) :
  codeAny (model prog w) A (.compLoop (e2 elt tg iter tg1 iter1 ifs scope pos) 0 it acc env) R s:=by
 refine codeAny_loop rfl J (fun n s hI=>?_) n h
 show wpAny _ A ((compTurn (e2 elt tg iter tg1 iter1 ifs scope pos) 0 it acc env).onRaise (fun x=>do noteFrame x env;theTreesLotGoes x)) _ _ s
 refine wpAny_noted ?_
 rw[zgo]
 refine J0 (wpAny_standAt (J0 (JK (turn n s hI) (fun r a h1=>?_) fun _ _ z=>z.elim)))
 cases r with
 | none=>exact J9 h1
 | some v =>
  refine J0 (JK h1 (fun _ b h2=>?_) fun _ _ z=>z.elim)
  refine J0 (JK h2 (fun _ c h3=>?_) fun _ _ z=>z.elim)
  refine J0 (JK h3 (fun x d h4=>?_) fun _ _ z=>z.elim)
  refine J0 (wpAny_standAt (J0 (wpAny_of_eq (hs x) (J0 (Ya (JK h4 (fun i1 e h5=>?_) fun _ _ z=>z.elim))))))
  refine J0 (wpAny_runOwn (codeAny_mono h5 (fun r f h6=>?_)))
  cases r with
  | ok fl=>exact J9 ⟨rfl,h6⟩
  | error x=>exact h6.elim
end
def LCW1 (J:It) (g:TG) (tt:TT) (te:TE) (l:Addr) (Q:List V→St→Hp→Prop) (W:Nat→Nat→List V→St→Hp→Prop):Prop :=
 ∀ i m acc σ' H',W i m acc σ' H'→H' l=some (.lst acc) ∧
  ((J.stop i H'∧Q acc σ' H')∨(J.go i H'∧∀ x H2,J.yld i H' x H2→g x σ' H2 fun σ3 H3=>tt σ3 H3 fun b H4 =>
   if b=true then te σ3 H4 fun y H5=>H5 l=some (.lst acc)∧acc.length<sizeLine∧∃ m',m'<m∧W (i+1) m' (acc++[y]) σ3 (upd H5 l (.lst (acc++[y])))
   else ∃ m',m'<m∧W (i+1) m' acc σ3 H4))
def tLC2 (cap:List (Option Nat)) (wi:TI) (g:TG) (wi1:TI) (g1:TG) (tt:TT) (te:TE):TE:=fun σ H Q=>wi σ H fun J H1=>∀ l,H1 l=none →
 ∃ W:Nat→Nat→List V→St→Hp→Prop,(∃ m,W 0 m [] (capσ cap σ) (upd H1 l (.lst []))) ∧
  ∀ i m acc σ' H',W i m acc σ' H'→H' l=some (.lst acc)∧((J.stop i H'∧Q (.ref l) H')∨(J.go i H'∧∀ x H2,J.yld i H' x H2→g x σ' H2 fun σ3 H3=>wi1 σ3 H3 fun J1 H4 =>
   ∃ W1:Nat→Nat→List V→St→Hp→Prop,(∃ m1,W1 0 m1 acc σ3 H4)∧LCW1 J1 g1 tt te l (fun ac τ G=>∃ m',m'<m∧W (i+1) m' ac τ G) W1))
theorem zi0 {X:Cx}{elt tg iter tg1 iter1:Expr}{o:Option Expr}{scope:Scope}{pos ppos:Pos}{wi wi1:TI}{g g1:TG}{tt:TT}{te:TE}{N':List Str}{cap:List (Option Nat)}{use:Option (Value→Sem Unit)}{Q0:Value→Shared→Prop}
  (hc:X.calm=true) (hi:PI X tg iter wi) (ck:CapOk X.N N' X.env.scope scope cap)
  (hg:∀ C s₀ H₀ fp pins,PG (zar X N' scope C s₀ H₀ fp pins) tg g)
  (hi1:∀ C s₀ H₀ fp pins,PI (zar X N' scope C s₀ H₀ fp pins) tg1 iter1 wi1)
  (hg1:∀ C s₀ H₀ fp pins,PG (zar X N' scope C s₀ H₀ fp pins) tg1 g1)
  (ht:∀ C s₀ H₀ fp pins,PTo (zar X N' scope C s₀ H₀ fp pins) o tt)
  (he:∀ C s₀ H₀ fp pins,PE (zar X N' scope C s₀ H₀ fp pins) elt te)
  (hs:∀ x,foldedSetIterable iter X.env x=pure x) (hs1:∀ C x,foldedSetIterable iter1 (compEnvC scope (clOf X.env.cells scope.names []) C X.env) x=pure x) {pins:List (Addr × Obj)}{s:Shared}{σ:St}{H:Hp}{Q:VK}(I:Inv X pins σ H s) (h:tLC2 cap wi g wi1 g1 tt te σ H Q)
  (fin:∀ (l C:Addr) (H4:Hp) (s5:Shared) (m:Str→Option Value),Inv X pins σ H4 s5→Q (.ref l) H4→s5.heap.Ns C m→FpOk X pins H4 C→compPost (model X.prog X.w) X.A X.xe use Q0 (.ref l) C (.ok .next) s5) :
  wpAny (model X.prog X.w) X.A (comprehension (.ListComp elt [⟨tg,iter,[],0⟩,⟨tg1,iter1,o.toList,0⟩] scope pos) scope X.env ppos (newList []) false (eval iter X.env) use) Q0 X.xe s:=by
 have hcells:∀ y∈scope.names,y.2=.free→∃ c,X.env.cells.lookup y.1=some c:=fun y hy hf=>I.ok.has y.1 (ck.free y hy hf)
 refine wpAny_comprehension_free (use:=use) rfl hs (zcT hcells) ck.kind ck.names (thn (hi pins s σ H _ I h) fun v s1 h1=>thn h1 fun itv s2 h2=>?_)
 obtain⟨it,fp,tn,J,H2,e,I2,T,st2,f2,body⟩:=h2
 subst e
 have hfr2:H2 s2.heap.objs.size=none:=I2.hok.fresh (Jg _)
 obtain⟨W,⟨m0,w0⟩,turn⟩:=body s2.heap.objs.size hfr2
 have I3:Inv X pins σ (upd H2 s2.heap.objs.size (.lst [])) { s2 with heap:=s2.heap.push { cls:=.type "list",data:=.seq ([]:List Value).toArray },toks:=s2.toks }:=I2.lnew (its:=[]) (t':=s2.toks) .nil (JH _)
 refine JG (wpAny_newFunctionEnv ck.nocell (by intro y hy;simp at hy) (fun h₁ hns₁ hsb₁=>?_) ck.kind)
 dsimp only at hns₁ hsb₁ ⊢
 generalize hl:s2.heap.objs.size=l at *
 generalize hP:s2.heap.push { cls:=.type "list",dict:=none,data:=.seq ([]:List Value).toArray }=P2 at *
 generalize hH3:upd H2 l (.lst [])=H3 at *
 have old:∀ b o,P2.get? b=some o→h₁.get? b=some o:=fun b o e=>hsb₁.extBut b o (JB (Jn e)) (J8 _ e)
 have old2:∀ b o,s2.heap.get? b=some o→P2.get? b=some o:=fun b o e=>hP ▸ J8 _ e
 have fpl:∀ b∈fp,b<l:=fun b hb=>by
  obtain⟨o,e,_⟩:=T.obj _ _ st2 b hb
  rw[← hl];exact Jn e
 have fp3:∀ b∈fp,H3 b=none:=fun b hb=>by
  rw[← hH3,zad (JB (fpl b hb))];exact(f2 b hb).1
 have hPs:P2.objs.size=l+1:=by rw[← hP,Heap.size_push,hl]
 have subc:∀ x c,(clOf X.env.cells scope.names []).lookup x=some c→X.env.cells.lookup x=some c:=fun x c e=>zb9 _ _ x c hcells (fun _ _ z=>by simp at z) e
 generalize hs3:({ s2 with heap:=P2,toks:=s2.toks }:Shared)=s3 at *
 have hs3h:s3.heap=P2:=by rw[← hs3]
 let Y:=zar X N' scope P2.objs.size s3 H3 fp pins
 have hYok:Y.Ok:=by
  refine⟨I3.ok.mod,ck.kind,I3.ok.glob,I3.ok.blt,by show s3.heap.objs.size≤P2.objs.size;rw[hs3h];exact Jg _,fun x y c e1 e2=>I3.ok.inj x y c (subc x c e1) (subc y c e2),fun x hx=>?_,fun x c hx=>absurd (show false=true from hx) Jh,I3.ok.hd,I3.ok.frames,.inl rfl,fun b hb=>⟨?_,fun x c e=>?_⟩,I3.bs,
   JY I3.ok.bsz I3.sz,fun b o e hb=>?_,fun b hb hz=>?_,I3.stack,I3.stkFree⟩
  ·have hx':scope.names.lookup x=some .free:=by
    rcases hx with hx|hx
    ·rcases zaM hx with z|z
     ·exact absurd rfl (ck.nocell _ (zbW z))
     ·exact z.2
    ·rcases zaM hx with z|z
     ·exact z
     ·exact z.2
   exact zbm _ _ x hx'
  ·exact JB (by show b<P2.objs.size;rw[hPs];exact Zs (fpl b hb))
  ·exact(f2 b hb).2.2.2.2.1 x c (subc x c e)
  ·rcases (f2 b hb).2.2.2.1 with z|z
   ·exact I3.ok.noex b o e z
   ·exact absurd (JF (Jn e) (JY I3.ok.bsz z)) (Ym _)
  ·rcases List.mem_cons.mp (I3.stkSub b hz) with z|z
   ·exact(f2 b hb).2.1 z
   ·exact(f2 b hb).2.2.1 z
 have hYi:Inv Y [] (capσ cap σ) H3 { s2 with heap:=h₁,toks:=s2.toks }:=by
  refine⟨hYok,by show s2.os=s3.os;rw[← hs3],I2.bare,by show Un _ _ _ _ s3.heap h₁;rw[hs3h];exact Un.kept old,⟨_,hns₁,fun j x v e1 e2 e3=>?_⟩,fun x c e=>?_,?_,fun x c e=>I3.freeC x c (subc x c e),fun p hp=>?_,fun b o e=>?_,?_⟩
  ·have e1':N'[j]?=some x:=e1
   unfold capσ at e2
   rw[JR]at e2
   cases ec:cap[j]? with
   | none=>rw[ec]at e2;cases e2
   | some oc =>
    rw[ec]at e2
    cases oc with
    | none=>cases e2
    | some i =>
     have e2':σ[i]?=some (some v):=by
      cases ei:σ[i]? with
      | none=>simp[ei]at e2
      | some v' =>
       simp[ei]at e2
       rw[e2]
     have hz:(x,some i)∈N'.zip cap:=by
      refine JZ (i:=j) ?_
      rw[Zr]
      exact⟨e1',ec⟩
     obtain⟨hN,hf,hk⟩:=ck.cap _ hz i rfl
     obtain⟨m,hn,hlo⟩:=I3.loc
     obtain⟨u,r,lk⟩:=hlo i x v hN e2' (by rcases hk with z|z;exact .inr (.inl z);exact .inr (.inr z))
     refine⟨u,r,.inr ⟨?_,?_⟩⟩
     ·exact zb0 hf
     ·rcases lk with ⟨z,_⟩|⟨_,c,hcx,hcell⟩
      ·have z':X.env.scope.names.lookup x=some .local:=z
       rcases hk with q|q
       ·rw[q]at z';cases z'
       ·rw[q]at z';cases z'
      ·obtain⟨c',hc'⟩:=zbm (cells:=X.env.cells) scope.names [] x hf
       have:=subc x c' hc'
       rw[hcx]at this;cases this
       obtain⟨ob,e,d⟩:=hcell
       rw[hs3h]at e
       exact⟨c,hc',ob,old c ob e,d⟩
  ·obtain⟨v,ob,e',d⟩:=I3.cell x c (subc x c e)
   rw[hs3h]at e'
   exact⟨v,ob,old c ob e',d⟩
  ·refine I3.hok.fresh ?_
   rw[hs3h];exact Jg _
  ·have hp':p∈X.pn++pins:=(Js.mp hp).elim (fun z=>z) (fun z=>nomatch z)
   obtain⟨e,n,ne,nf,d⟩:=I3.pin p hp'
   rw[hs3h]at e
   refine⟨old _ _ e,n,JB (Jn e),fun z=>?_,d⟩
   rcases List.mem_cons.mp (I3.stkSub _ z) with q|q
   ·exact ne q
   ·exact nf q
  ·have:=I3.hok.kept (h':=h₁) (fun b u q=>old b u (by rw[← hs3h];exact q))
   exact this b o e
  ·show (cap.map _).length=N'.length
   rw[Jm,ck.len]
 have stat:∀ {H':Hp},(∀ b∈fp,H' b=none)→∀ b∈fp,FpOk Y [] H' b:=fun {H'} hn b hb=>by
  refine⟨hn b hb,(hYok.exf b hb).1,hYok.exfs b hb,.inl hb,(hYok.exf b hb).2,fun p hp=>?_⟩
  have hp':p∈X.pn++pins:=(Js.mp hp).elim (fun z=>z) (fun z=>nomatch z)
  exact(f2 b hb).2.2.2.2.2 p hp'
 have st1:tn 0 h₁:=T.keep 0 _ _ st2 fun b hb o e=>old b o (old2 b o e)
 have loop:codeAny (model X.prog X.w) X.A (.compLoop (.ListComp elt [⟨tg,iter,[],0⟩,⟨tg1,iter1,o.toList,0⟩] scope pos) 0 (.ref it) (.ref l) Y.env) (compPost (model X.prog X.w) X.A X.xe use Q0 (.ref l) P2.objs.size) { s2 with heap:=h₁,toks:=s2.toks }:=by
  refine zgm (fun n s'=>∃ i acc σ' H',Inv Y [] σ' H' s'∧tn i s'.heap∧(∀ b∈fp,H' b=none)∧W i n acc σ' H') ?_ m0 ⟨0,[],_,H3,hYi,st1,fp3,w0⟩ (hs1 _)
  rintro n s4 ⟨i,acc,σ4,H4,I4,st4,fr4,w4⟩
  obtain⟨hlst,q4⟩:=turn i n acc σ4 H4 w4
  rcases q4 with ⟨stop,qn⟩|⟨go,step⟩
  ·refine thn (T.done Y rfl rfl rfl hc i [] s4 σ4 H4 Y.xe I4 (stat fr4) st4 stop) fun r s5 ⟨hr,I5⟩=>?_
   subst hr
   obtain⟨m,hn,_⟩:=id I5.loc
   have un:Un (frs X.stack) fp H3 H4 s3.heap s5.heap:=I5.base
   have sz3:s3.heap.objs.size≤P2.objs.size:=by rw[hs3h];exact Jg _
   have IX:Inv X pins σ H4 s5:=I3.call' (ch:=fp) I5.os un I5.hok I5.bare fun b hb=>⟨(f2 b hb).2.2.2.1,(f2 b hb).2.1,(f2 b hb).2.2.2.2.1,(f2 b hb).2.2.2.2.2⟩
   exact fin l P2.objs.size H4 s5 m IX qn hn (I3.fpOk sz3 I5.free)
  ·refine thn (T.item Y rfl rfl rfl hc i [] s4 σ4 H4 Y.xe I4 (stat fr4) st4 go) fun r s5 ⟨u,hr,h5⟩=>?_
   subst hr
   refine thn h5 fun _ s6 ⟨x,H6,I6,r6,y6,st6,fr6⟩=>?_
   have I6':=I6.pinned (stat fr6) (T.obj _ _ st6)
   refine thn (hg _ _ _ _ _ _ s6 σ4 H6 x u _ I6' r6 (step x H6 y6)) fun _ s7 ⟨σ7,H7,I7,q7⟩=>?_
   have again:∀ {σ9:St}{H9:Hp}{s9:Shared}{acc9:List V},Inv Y ([]++zb1 fp s6.heap) σ9 H9 s9→(∃ m',m'<n∧W (i+1) m' acc9 σ9 H9)→∃ m,m<n∧∃ i acc σ' H',Inv Y [] σ' H' s9∧tn i s9.heap∧(∀ b∈fp,H' b=none)∧W i m acc σ' H':=fun {σ9 H9 s9 acc9} I9 ⟨m',hm,w9⟩=>by
    refine⟨m',hm,i+1,acc9,σ9,H9,I9.unpinned,T.keep _ _ _ st6 fun b hb o e=>(I9.pin (b,o) (Ju _ (Ju _ (zaw hb e)))).1,fun b hb=>?_,w9⟩
    obtain⟨o,e,d⟩:=T.obj _ _ st6 b hb
    exact(I9.pin (b,o) (Ju _ (Ju _ (zaw hb e)))).2.1
   generalize ([]++zb1 fp s6.heap:List (Addr × Obj))=pz at again I7
   refine thn (hi1 _ _ _ _ _ _ s7 σ7 H7 _ I7 q7) fun v1 s8 h8=>thn h8 fun itv1 s9 h9=>?_
   obtain⟨it1,fp1,tn1,J1,H9,e1,I9,T1,st9,f9,W1,⟨m1,w1⟩,turn1⟩:=h9
   subst e1
   have stat1:∀ {H':Hp},(∀ b∈fp1,H' b=none)→∀ b∈fp1,FpOk Y pz H' b:=fun hn b hb=>⟨hn b hb,(f9 b hb).2⟩
   have loop1:codeAny (model X.prog X.w) X.A (.compLoop (.ListComp elt [⟨tg,iter,[],0⟩,⟨tg1,iter1,o.toList,0⟩] scope pos) 1 (.ref it1) (.ref l) Y.env) (fun r z=>match r with|.ok _=>∃ m,m<n∧∃ i acc σ' H',Inv Y [] σ' H' z∧tn i z.heap∧(∀ b∈fp,H' b=none)∧W i m acc σ' H'|.error _=>False) s9:=by
    refine zgl (fun n s'=>∃ i acc σ' H',Inv Y pz σ' H' s'∧tn1 i s'.heap∧(∀ b∈fp1,H' b=none)∧W1 i n acc σ' H') ?_ m1 ⟨0,acc,σ7,H9,I9,st9,fun b hb=>(f9 b hb).1,w1⟩
    rintro k t4 ⟨j,ac,τ4,G4,K4,u4,v4,z4⟩
    obtain⟨glst,p4⟩:=turn1 j k ac τ4 G4 z4
    rcases p4 with ⟨stop1,pn⟩|⟨go1,step1⟩
    ·refine thn (T1.done Y rfl rfl rfl hc j pz t4 τ4 G4 Y.xe K4 (stat1 v4) u4 stop1) fun r t5 ⟨hr,K5⟩=>?_
     subst hr
     exact again K5 pn
    ·refine thn (T1.item Y rfl rfl rfl hc j pz t4 τ4 G4 Y.xe K4 (stat1 v4) u4 go1) fun r t5 ⟨u,hr,h5⟩=>?_
     subst hr
     refine thn h5 fun _ t6 ⟨y,G6,K6,e6,d6,u6,v6⟩=>?_
     have K6':=K6.pinned (stat1 v6) (T1.obj _ _ u6)
     refine thn (hg1 _ _ _ _ _ _ t6 τ4 G6 y u _ K6' e6 (step1 y G6 d6)) fun _ t7 ⟨τ7,G7,K7,p7⟩=>?_
     refine zeZ (ht _ _ _ _ _ _ t7 τ7 G7 _ K7 p7) fun b t8 ⟨G8,K8,p8⟩=>?_
     have again1:∀ {τ9:St}{G9:Hp}{t9:Shared}{ac9:List V},Inv Y (pz++zb1 fp1 t6.heap) τ9 G9 t9→(∃ m',m'<k∧W1 (j+1) m' ac9 τ9 G9)→∃ m,m<k∧∃ i acc σ' H',Inv Y pz σ' H' t9∧tn1 i t9.heap∧(∀ b∈fp1,H' b=none)∧W1 i m acc σ' H':=fun {τ9 G9 t9 ac9} K9 ⟨m',hm,z9⟩=>by
      refine⟨m',hm,j+1,ac9,τ9,G9,K9.unpinned,T1.keep _ _ _ u6 fun b hb o e=>(K9.pin (b,o) (Ju _ (Ju _ (zaw hb e)))).1,fun b hb=>?_,z9⟩
      obtain⟨o,e,d⟩:=T1.obj _ _ u6 b hb
      exact(K9.pin (b,o) (Ju _ (Ju _ (zaw hb e)))).2.1
     cases b with
     | false =>
      rw[Jc Jh]at p8 ⊢
      exact again1 K8 p8
     | true =>
      rw[Jf rfl]at p8 ⊢
      refine thn (he _ _ _ _ _ _ t8 τ7 G8 _ K8 p8) fun yv t9 ⟨yy,G9,K9,e9,hl9,hz9,p9⟩=>?_
      refine thn (zaE (X:=Y) _ t9 τ7 G9 (.ref l) [yy] (.ref l) [yv] (fun _ H'=>H'=upd G9 l (.lst (ac++[yy]))) K9 rfl (.cons e9 .nil) ⟨l,ac,yy,rfl,rfl,hl9,hz9,rfl⟩) fun _ t10 ⟨_,G10,K10,_,e10⟩=>?_
      subst e10
      exact again1 K10 p9
   exact zeO loop1 (T1.self X.A 0 _ _ _ st9 loop1)
 exact codeAny_compStart_list loop (T.self X.A 0 _ _ _ st1 loop)
theorem zkY {X:Cx}{elt tg iter tg1 iter1:Expr}{o:Option Expr}{scope:Scope}{pos:Pos}{wi wi1:TI}{g g1:TG}{tt:TT}{te:TE}{N':List Str}{cap:List (Option Nat)}
  (hc:X.calm=true) (hi:PI X tg iter wi) (ck:CapOk X.N N' X.env.scope scope cap)
  (hg:∀ C s₀ H₀ fp pins,PG (zar X N' scope C s₀ H₀ fp pins) tg g)
  (hi1:∀ C s₀ H₀ fp pins,PI (zar X N' scope C s₀ H₀ fp pins) tg1 iter1 wi1)
  (hg1:∀ C s₀ H₀ fp pins,PG (zar X N' scope C s₀ H₀ fp pins) tg1 g1)
  (ht:∀ C s₀ H₀ fp pins,PTo (zar X N' scope C s₀ H₀ fp pins) o tt)
  (he:∀ C s₀ H₀ fp pins,PE (zar X N' scope C s₀ H₀ fp pins) elt te)
  (hs:∀ x,foldedSetIterable iter X.env x=pure x:=by intro _;rfl)
  (hs1:∀ C x,foldedSetIterable iter1 (compEnvC scope (clOf X.env.cells scope.names []) C X.env) x=pure x:=by intro _ _;rfl) :
  PE X (.ListComp elt [⟨tg,iter,[],0⟩,⟨tg1,iter1,o.toList,0⟩] scope pos) (tLC2 cap wi g wi1 g1 tt te):=by
 intro pins s σ H Q I h
 rw[eval_ListComp]
 exact zi0 (use:=none) hc hi ck hg hi1 hg1 ht he hs hs1 I h fun l C H4 s5 m I5 q hn f=>⟨m,hn,fun h' sb=>⟨.ref l,H4,I5.gone f sb,rfl,q⟩⟩
end L2
namespace L2
open PySem PySem.Spec PyProof.Rows Own
section
variable {X:Cx}{e e2:Expr}{ta tb:TE}{p kp pos:Pos}
end
section
variable {X:Cx}
end
end L2
namespace Own
open PySem PySem.Spec PyProof.Rows
section
variable {prog:Program}{w:World}{A:Around}{E:Value→Shared→Prop}{s:Shared}{z TI TO i1 i2:Addr}{f1 f2:List Addr}{n1 n2 k:Nat}{P1 P2:Nat→Value→Prop}{S1 S2:Nat→Heap→Prop}{a b:Value}
end
end Own
namespace L2
open PySem PySem.Spec PyProof.Rows Own
section
variable {X:Cx}{tg:Expr}
end
end L2
namespace Bn
open PySem L2 Own
def pw (e:Nat):Int:=((2 ^ e:Nat):Int)
def more (cs xs:List Int) (k:Int):List Int:=(List.range cs.length).map fun i=>cs.getD i 0+k*xs.getD i 0
def zbo:Nat→List Nat→List Fk
 | 0,_=>[]
 | m+1,row=>if row.length<2 then [] else (row.take (row.length / 2)).zip row.reverse++zbo m (row.take (row.length / 2))++zbo m (row.drop (row.length / 2))
def zaY (k:Nat):Nt:=⟨2 ^ k,(List.replicate k (zbo k (List.range (2 ^ k)))).flatten,List.range (2 ^ k)⟩
theorem zfT:∀ k,k<5→(zaY k).forks.length≤128∧∀ f∈(zaY k).forks,f.1<2 ^ k∧f.2<2 ^ k∧f.1≠f.2:=by decide +kernel
theorem zgP {k:Nat}(h:k<5):(zaY k).Ok:=by
 obtain⟨a,b⟩:=zfT k h
 refine⟨Z4,?_,a,b,.refl _⟩
 show 2 ^ k≤2 ^ 4
 exact YC (show 0<2 by decide) (show k≤4 by lia)
theorem zbe:∀ (m:Nat) (row:List Nat),(zbo m row).length≤m*row.length
 | 0,_=>JH _
 | m+1,row=>by
  unfold zbo
  split
  ·exact JH _
  ·rw[Ja,Ja,Z2,Jw]
   have a:=zbe m (row.take (row.length / 2))
   have b:=zbe m (row.drop (row.length / 2))
   rw[Jw]at a
   rw[Yf]at b
   have c:m*min (row.length / 2) row.length+m*(row.length-row.length / 2)=m*row.length:=by
    rw[← Nat.mul_add];congr 1;lia
   rw[Nat.succ_mul]
   lia
end Bn
namespace L2
open PySem PySem.Spec PyProof.Rows Own
def zav {α:Type}(xs ys:List α):List α:=(xs.zip ys).flatMap fun p=>[p.1,p.2]
theorem zaS {α:Type}:∀ (xs ys:List α),xs.length=ys.length→(zav xs ys).length=2*xs.length
 | [],[],_=>rfl
 | x::xs,y::ys,h=>by
  have h':xs.length=ys.length:=by simpa using h
  have:=zaS xs ys h'
  show (zav xs ys).length+2=2*(xs.length+1)
  rw[this];lia
theorem zbH {α β:Type}{f g:α→Option β}:∀ (l:List α),(∀ x∈l,f x=g x)→l.filterMap f=l.filterMap g
 | [],_=>rfl
 | x::l,h=>by
  have e:=zbH l fun y hy=>h y (JC _ hy)
  simp only[List.filterMap_cons,h x JD,e]
def by2 {α:Type}(off:Nat) (xs:List α):List α:=(List.range ((xs.length+1-off) / 2)).filterMap fun k=>xs[off+2*k]?
theorem zeS {α:Type}(off:Nat) (ho:off≤1) (xs:List α):(by2 off xs).length=(xs.length+1-off) / 2:=by
 unfold by2
 have e:(List.range ((xs.length+1-off) / 2)).filterMap (fun k=>xs[off+2*k]?)=(List.range ((xs.length+1-off) / 2)).pmap (fun k (h:k<(xs.length+1-off) / 2)=>xs[off+2*k]'(by lia)) (fun k h=>Yj.mp h):=by
  rw[List.pmap_eq_map_attach,← List.filterMap_eq_map]
  conv=>lhs;rw[← List.attach_map_subtype_val (List.range ((xs.length+1-off) / 2)),Z3]
  refine zbH _ fun k hk=>?_
  have:=Yj.mp k.2
  show xs[off+2*k.1]?=some _
  rw[J7 (by lia)]
 rw[e,List.length_pmap,Y9]
theorem zkG {α β:Type}(f:α→β) (off:Nat) (xs:List α):by2 off (xs.map f)=(by2 off xs).map f:=by
 unfold by2
 rw[Jm,List.map_filterMap]
 refine zbH _ fun k _=>?_
 rw[JR]
theorem zgk {xs:List V}{us:List Value}(r:Vals xs us) (ix:List Nat):Vals (ix.filterMap fun k=>xs[k]?) (ix.filterMap fun k=>us[k]?):=by
 induction ix with
 | nil=>exact .nil
 | cons i ix ih =>
  cases e:xs[i]? with
  | none =>
   have e2:us[i]?=none:=List.getElem?_eq_none_iff.mpr (by rw[← r.length];exact List.getElem?_eq_none_iff.mp e)
   rw[List.filterMap_cons_none e,List.filterMap_cons_none e2];exact ih
  | some x =>
   obtain⟨u,e2,ru⟩:=r.get e
   rw[List.filterMap_cons_some e,List.filterMap_cons_some e2];exact .cons ru ih
theorem ziu (items:Array Value):slicePick items none none (some 2)=((List.range ((items.size+1) / 2)).filterMap fun k=>items.toList[2*k]?).toArray:=by
 have b:sliceBounds none none (some 2) items.size=(0,(items.size:Int),2):=rfl
 have c:sliceRange 0 (items.size:Int) 2=(List.range ((items.size+1) / 2)).map fun k=>2*k:=by
  unfold sliceRange
  have h2:(2:Int) > 0:=by decide
  by_cases h:(0:Int)<items.size
  ·have e:(((items.size:Int)-0+2-1) / 2).toNat=(items.size+1) / 2:=by lia
   simp only[h2,if_true,h,e]
   apply Zk;intro k _;lia
  ·have e:items.size=0:=by lia
   rw[e];rfl
 unfold slicePick
 rw[b]
 show ((sliceRange 0 (items.size:Int) 2).filterMap (items[·]?)).toArray=_
 rw[c,Z3]
 refine JJ List.toArray (zbH _ fun k _=>?_)
 simp
theorem zgS (items:Array Value):slicePick items (some 1) none (some 2)=((List.range (items.size / 2)).filterMap fun k=>items.toList[1+2*k]?).toArray:=by
 have b:sliceBounds (some 1) none (some 2) items.size=(max 0 (min 1 (items.size:Int)),(items.size:Int),2):=rfl
 have c:sliceRange (max 0 (min 1 (items.size:Int))) (items.size:Int) 2=(List.range (items.size / 2)).map fun k=>1+2*k:=by
  unfold sliceRange
  have h2:(2:Int) > 0:=by decide
  by_cases h:(1:Int)<items.size
  ·have m:max 0 (min 1 (items.size:Int))=1:=by lia
   rw[m]
   have e:(((items.size:Int)-1+2-1) / 2).toNat=items.size / 2:=by lia
   simp only[h2,if_true,h,e]
   apply Zk;intro k _;lia
  ·have e:items.size=0∨items.size=1:=by lia
   rcases e with e|e<;>rw[e]<;>rfl
 unfold slicePick
 rw[b]
 show ((sliceRange (max 0 (min 1 (items.size:Int))) (items.size:Int) 2).filterMap (items[·]?)).toArray=_
 rw[c,Z3]
 refine JJ List.toArray (zbH _ fun k _=>?_)
 simp
def tBy2 (K:PySem.W.Frag) (te:TE) (tl ts:TO):TE:=fun σ H Q=>te σ H fun x H1=>tl σ H1 fun lo H2=>ts σ H2 fun o H3=>o=some 2∧∃ off a xs,((lo=none∧off=0)∨(lo=some 1∧off=1))∧x=.ref a∧SqL K H3 a xs∧∀ p,H3 p=none→Q (.ref p) (upd H3 p (.lst (by2 off xs)))
theorem zfg {X:Cx}{e st:Expr}{lo:Option Expr}{te:TE}{tl ts:TO}{p2 pos:Pos}(he:PE X e te) (hl:PO X lo tl) (hs:PO X (some st) ts):PE X (.Subscript e (.Slice lo none (some st) p2) pos) (tBy2 X.K te tl ts):=by
 intro pins s σ H Q I h
 refine Subscript_ (thn (he pins s σ H _ I h) fun v s1 ⟨x,H1,I1,r1,q1⟩=>wpAny_Slice (thn (hl pins s1 σ H1 _ I1 q1) fun vl s0 ⟨ol,H0,I0,pl,q0⟩=>?_))
 rw[evalPart_none]
 refine J9 (thn (hs pins s0 σ H0 _ I0 q0) fun vst s2 ⟨o,H2,I2,po,q2⟩=>?_)
 obtain⟨rfl,off,a,xs,hoff,rfl,hq,k⟩:=q2
 cases r1
 have I3:Inv X pins σ H2 { s2 with heap:=s2.heap.push { cls:=.type "slice",data:=.fields #[vl,.none,vst] } }:=I2.kept (t':=s2.toks) fun b ob q=>J8 _ q
 obtain⟨its,r,ht,hz⟩:=I3.list hq
 have hlen:=r.length
 show wpAny (model X.prog X.w) X.A (subscriptTail e (.Slice lo none (some st) p2) (.ref a) (.ref s2.heap.objs.size)) (EP X pins σ Q) X.xe { s2 with heap:=s2.heap.push { cls:=.type "slice",data:=.fields #[vl,.none,vst] } }
 refine tail_any (ops:=[.ref a,.ref s2.heap.objs.size]) ht.isList.typeIs slot_list_getitem.lookup (wpAny_getItem_list_slice ht.isList (Heap.IsSliceOf.new ..) pl .none po (by simp) ?_ (by rw[Jj]<;>lia)) (by with_unfolding_all rfl)
 have pk:slicePick its.toArray ol none (some 2)=((List.range ((its.length+1-off) / 2)).filterMap fun k=>its[off+2*k]?).toArray:=by
  rcases hoff with ⟨rfl,rfl⟩|⟨rfl,rfl⟩
  ·rw[ziu];simp only[Jj,Nat.sub_zero,Yd]
  ·rw[zgS];simp only[Jj,Nat.add_sub_cancel]
 rw[pk]
 have ho1:off≤1:=by rcases hoff with ⟨_,rfl⟩|⟨_,rfl⟩<;>decide
 have vv:Vals (by2 off xs) ((List.range ((its.length+1-off) / 2)).filterMap fun k=>its[off+2*k]?):=by
  have:=zgk r ((List.range ((its.length+1-off) / 2)).map fun k=>off+2*k)
  rw[Z3,Z3]at this
  unfold by2
  rw[hlen];exact this
 refine⟨.ref _,_,I3.laid (t':=s2.toks) (o:=.lst (by2 off xs)) (fun b ob q=>J8 _ q) (Jg _) ⟨by rw[zeS off ho1];lia,_,0,vv,?_⟩,rfl,k _ (I3.hok.fresh (Jg _))⟩
 exact Jp _ rfl
theorem zi1 {K:PySem.W.Frag}{a:Addr}{xs:List V}{g g1:TG}{wi1:TI}{tt:TT}{te:TE}{l:Addr}{σ:St}{H:Hp}{Q:VK}(Pv:Nat→List V→St→Hp→Prop) (h0:Pv 0 [] σ H)
  (hl:∀ i acc σ H,Pv i acc σ H→H l=some (.lst acc)∧SqL K H a xs)
  (hs:∀ i acc σ H x,xs[i]?=some x→Pv i acc σ H→g x σ H fun σ3 H3=>wi1 σ3 H3 fun J1 H4 =>
   ∃ W1:Nat→Nat→List V→St→Hp→Prop,(∃ m1,W1 0 m1 acc σ3 H4)∧LCW1 J1 g1 tt te l (fun ac τ G=>Nx xs.length i (Pv (i+1) ac τ G)) W1)
  (hd:∀ acc σ H,Pv xs.length acc σ H→Q (.ref l) H):∃ W:Nat→Nat→List V→St→Hp→Prop,(∃ m,W 0 m [] σ H) ∧
   ∀ i m acc σ' H',W i m acc σ' H'→H' l=some (.lst acc)∧(((Itl K a).stop i H'∧Q (.ref l) H')∨((Itl K a).go i H'∧∀ x H2,(Itl K a).yld i H' x H2→g x σ' H2 fun σ3 H3=>wi1 σ3 H3 fun J1 H4 =>
    ∃ W1:Nat→Nat→List V→St→Hp→Prop,(∃ m1,W1 0 m1 acc σ3 H4)∧LCW1 J1 g1 tt te l (fun ac τ G=>∃ m',m'<m∧W (i+1) m' ac τ G) W1)):=by
 refine⟨fun i m acc σ H=>m=xs.length-i∧i≤xs.length∧Pv i acc σ H,⟨xs.length,by simp,JH _,h0⟩,?_⟩
 rintro i m acc σ H ⟨rfl,hi,p⟩
 obtain⟨q0,q1⟩:=hl i acc σ H p
 refine⟨q0,?_⟩
 by_cases hlt:i<xs.length
 ·refine .inr ⟨⟨xs,xs[i],q1,J7 hlt⟩,fun x H2 ⟨e,y⟩=>?_⟩
  subst e
  exact hs i acc σ _ x (y xs q1) p
 ·obtain rfl:i=xs.length:=by lia
  exact .inl ⟨⟨xs,q1,Jg _⟩,hd acc σ H p⟩
end L2
namespace L2
open PySem PySem.Spec PyProof.Rows Own Bn
def zd4 (ts:List Int):Int:=ts.foldl (fun a t=>2*a+t) 0
def zdJ (a:Int) (xs:List Int):Int:=xs.foldl (fun a x=>1000*a+x) a
def Bits (ts:List Int):Prop:=∀ t∈ts,t=0∨t=1
def Small (xs:List Int):Prop:=∀ x∈xs,0≤x∧x<1000
theorem zhU {a b c d m:Int}(m0:0<m) (c0:0≤c) (c1:c<m) (d0:0≤d) (d1:d<m):compare (m*a+c) (m*b+d)=(compare a b).then (compare c d):=by
 rcases YL a b with h|h|h
 ·have:m*a+c<m*b+d:=by
   have:=Int.mul_le_mul_of_nonneg_left (show a+1≤b by lia) (Int.le_of_lt m0)
   rw[Int.mul_add,Int.mul_one]at this
   lia
  rw[Yh.mpr this,Yh.mpr h];rfl
 ·subst h
  rw[Yv.mpr (rfl:a=a)]
  show _=compare c d
  rcases YL c d with z|z|z
  ·rw[Yh.mpr z,Yh.mpr (by lia)]
  ·rw[z]
   rw[Yv.mpr (rfl:d=d),Yv.mpr rfl]
  ·rw[Yi.mpr z,Yi.mpr (by lia)]
 ·have:m*b+d<m*a+c:=by
   have:=Int.mul_le_mul_of_nonneg_left (show b+1≤a by lia) (Int.le_of_lt m0)
   rw[Int.mul_add,Int.mul_one]at this
   lia
  rw[Yi.mpr this,Yi.mpr h];rfl
theorem zdo {m:Int}(m0:0<m):∀ {x y:List Int}{a b:Int},x.length=y.length→(∀ t∈x,0≤t∧t<m)→(∀ t∈y,0≤t∧t<m)→compare (x.foldl (fun a t=>m*a+t) a) (y.foldl (fun a t=>m*a+t) b)=(compare a b).then (cmpR x y)
 | [],[],a,b,_,_,_=>by
  show compare a b=(compare a b).then .eq
  cases compare a b<;>rfl
 | s::x,t::y,a,b,l,hx,hy=>by
  have h1:=hx s (.head _)
  have h2:=hy t (.head _)
  show compare (x.foldl _ (m*a+s)) (y.foldl _ (m*b+t))=(compare a b).then ((compare s t).then (cmpR x y))
  rw[zdo m0 (by simpa using l) (fun u hu=>hx u (.tail _ hu)) fun u hu=>hy u (.tail _ hu),zhU m0 h1.1 h1.2 h2.1 h2.2]
  cases compare a b<;>rfl
theorem zh4 {x:List Int}(h:Bits x):∀ t∈x,0≤t∧t<2:=fun t ht=>by rcases h t ht with e|e<;>lia
theorem zjh {x y:List Int}(l:x.length=y.length) (hx:Bits x) (hy:Bits y):compare (zd4 x) (zd4 y)=cmpR x y:=by
 unfold zd4
 rw[zdo (by decide) l (zh4 hx) (zh4 hy)];rfl
theorem zjg {a b:Int}{x y:List Int}(l:x.length=y.length) (hx:Small x) (hy:Small y):compare (zdJ a x) (zdJ b y)=(compare a b).then (cmpR x y):=zdo (by decide) l hx hy
def stK (ts is:List Int):KN:=.inr ts::is.map Sum.inl
structure StOk (F c:Nat) (k:KN):Prop where
 ex:∃ ts is,k=stK ts is∧ts.length=F∧Bits ts∧is.length=c∧Small is
def zdm:KN→Int
 | .inr ts::r=>zdJ (zd4 ts) (r.map fun x=>match x with|.inl i=>i|.inr _=>0)
 | _=>0
theorem zeQ (ts is:List Int):zdm (stK ts is)=zdJ (zd4 ts) is:=by
 unfold stK zdm
 show zdJ _ ((is.map Sum.inl).map _)=_
 rw[YQ]
 congr 1
 exact List.map_id is
def rkH (H:Hp):V→Int
 | .ref a=>match H a with
  | some (.tup (b::r))=>zdJ (zd4 (rowH H b)) (r.map zgf)
  | _=>0
 | _=>0
theorem zgw {H:Hp}{ts is:List Int}{b:Addr}(h:NKey H (stK ts is) b):∃ t,H b=some (.tup (.ref t::is.map V.int))∧H t=some (.tup (ts.map V.int)):=by
 obtain⟨ys,h1,h2⟩:=h
 obtain⟨v,r,e,⟨t,e1,ht⟩,h3⟩:=(show ∃ v r,ys=v::r∧(∃ t,v=.ref t∧H t=some (.tup (ts.map V.int)))∧NIvs H (is.map Sum.inl) r from h2)
 have key:∀ {is:List Int}{r:List V},NIvs H (is.map Sum.inl) r→r=is.map V.int:=by
  intro is
  induction is with
  | nil=>intro r h;exact h
  | cons i is ih =>
   intro r h
   obtain⟨v,q,e,e1,h2⟩:=(show ∃ v q,r=v::q∧v=.int i∧NIvs H (is.map Sum.inl) q from h)
   rw[e,e1,ih h2];rfl
 exact⟨t,by rw[h1,e,e1,key h3],ht⟩
theorem zkI {H:Hp}{ts is:List Int}{b t:Addr}(h1:H b=some (.tup (.ref t::is.map V.int))) (h2:H t=some (.tup (ts.map V.int))):NKey H (stK ts is) b:=by
 have key:∀ is:List Int,NIvs H (is.map Sum.inl) (is.map V.int):=by
  intro is
  induction is with
  | nil=>exact rfl
  | cons i is ih=>exact⟨_,_,rfl,rfl,ih⟩
 exact⟨_,h1,⟨_,_,rfl,⟨t,rfl,h2⟩,key is⟩⟩
theorem zfa {H:Hp}{ts is:List Int}{b:Addr}(h:NKey H (stK ts is) b):rkH H (.ref b)=zdm (stK ts is):=by
 obtain⟨t,h1,h2⟩:=zgw h
 show (match H b with
  | some (.tup (b::r))=>zdJ (zd4 (rowH H b)) (r.map zgf)
  | _=>0)=_
 rw[h1]
 show zdJ (zd4 (rowH H (.ref t))) ((is.map V.int).map zgf)=_
 rw[zcf h2,zeQ,YQ]
 congr 1
 exact List.map_id is
theorem zlO {H:Hp}{F c:Nat}{x y:KN}{a b:Addr}(hx:StOk F c x) (hy:StOk F c y) (ha:NKey H x a) (hb:NKey H y b):Lx H 2 (.ref a) (.ref b) (compare (rkH H (.ref a)) (rkH H (.ref b))):=by
 obtain⟨ts,is,rfl,h1,h2,h3,h4⟩:=hx.ex
 obtain⟨us,js,rfl,g1,g2,g3,g4⟩:=hy.ex
 rw[zfa ha,zfa hb,zeQ,zeQ,zjg (by lia) h4 g4,zjh (by lia) h2 g2]
 obtain⟨t,e1,e2⟩:=zgw ha
 obtain⟨u,f1,f2⟩:=zgw hb
 have l:is.length=js.length:=by lia
 rw[show (cmpR ts us).then (cmpR is js)=(cmpR ts us::List.zipWith compare is js).foldr Ordering.then .eq by rw[List.foldr_cons,zcx l]]
 refine .row e1 f1 (by rw[JN,JN,Jm,List.length_zipWith];lia) (by rw[JN,JN,Jm,List.length_zipWith];lia) fun i p q d hp hq hd=>?_
 cases i with
 | zero=>cases hp;cases hq;cases hd;exact zeA e2 f2 (by lia)
 | succ i =>
  rw[List.getElem?_cons_succ]at hp hq hd
  rw[JR]at hp hq
  obtain⟨p,pe,rfl⟩:=Y5.mp hp
  obtain⟨q,qe,rfl⟩:=Y5.mp hq
  rw[List.getElem?_zipWith,pe,qe]at hd
  cases hd
  exact .int 1 p q
def KeysAt (H:Hp) (bs:List Addr) (ks:List KN):Prop:=Paired (fun b k=>NKey H k b) bs ks
theorem KeysAt.tups {H H':Hp}(t:Tups H H') {bs:List Addr}{ks:List KN}(h:KeysAt H bs ks):KeysAt H' bs ks:=zbr (fun _ _ z=>z.tups t) h
theorem KeysAt.mem {H:Hp}{bs:List Addr}{ks:List KN}(h:KeysAt H bs ks):∀ b∈bs,∃ k∈ks,NKey H k b:=by
 induction h with
 | nil=>intro b hb;cases hb
 | cons q _ ih =>
  intro b hb
  rcases List.mem_cons.mp hb with rfl|z
  ·exact⟨_,.head _,q⟩
  ·obtain⟨k,hk,e⟩:=ih b z
   exact⟨k,.tail _ hk,e⟩
theorem LvE.keys {H:Hp}{xs:KVN}{ps:LvL}(h:LvE H xs ps):KeysAt H (xs.map fun p=>p.2.1) (ps.map (·.1)):=by
 obtain⟨ks,pr⟩:=h
 induction pr with
 | nil=>exact .nil
 | @cons x p xs ps a t ih =>
  refine .cons ?_ (ih fun y hy=>ks y (.tail _ hy))
  show NKey H p.1 x.2.1
  rw[← a.1];exact ks x (.head _)
theorem zhw {H:Hp}{bs cs:List Addr}(p:cs.Perm bs):∀ {ks:List KN},KeysAt H bs ks→∃ js,KeysAt H cs js∧js.Perm ks:=by
 induction p with
 | nil=>intro ks h;exact⟨ks,h,.refl _⟩
 | cons b _ ih =>
  intro ks h
  cases h with
  | cons q t =>
   obtain⟨js,h1,h2⟩:=ih t
   exact⟨_,.cons q h1,h2.cons _⟩
 | swap b c l =>
  intro ks h
  cases h with
  | cons q t=>cases t with
   | cons q2 t=>exact⟨_,.cons q2 (.cons q t),.swap _ _ _⟩
 | trans _ _ ih1 ih2 =>
  intro ks h
  obtain⟨js,h1,h2⟩:=ih2 h
  obtain⟨is,g1,g2⟩:=ih1 h1
  exact⟨is,g1,g2.trans h2⟩
theorem zeD {H:Hp}{F c:Nat}{bs:List Addr}{ks:List KN}(h:KeysAt H bs ks) (ok:∀ k∈ks,StOk F c k) (s:(bs.map V.ref).Pairwise fun x y=>rkH H x≤rkH H y):ks.Pairwise fun x y=>zdm x≤zdm y:=by
 induction h with
 | nil=>exact .nil
 | @cons b k bs ks q t ih =>
  rw[JV,List.pairwise_cons]at s
  refine List.pairwise_cons.mpr ⟨fun j hj=>?_,ih (fun j hj=>ok j (.tail _ hj)) s.2⟩
  have back:∀ {bs:List Addr}{ks:List KN},KeysAt H bs ks→∀ j∈ks,∃ b∈bs,NKey H j b:=by
   intro bs ks h
   induction h with
   | nil=>intro j hj;cases hj
   | cons q _ ih =>
    intro j hj
    rcases List.mem_cons.mp hj with rfl|z
    ·exact⟨_,.head _,q⟩
    ·obtain⟨b,hb,e⟩:=ih j z
     exact⟨b,.tail _ hb,e⟩
  obtain⟨d,hd,e⟩:=back t j hj
  have:=s.1 (.ref d) (JA.mpr ⟨d,hd,rfl⟩)
  obtain⟨ts,is,rfl,_⟩:=(ok k (.head _)).ex
  obtain⟨us,js,rfl,_⟩:=(ok j (.tail _ hj)).ex
  rwa [zfa q,zfa e]at this
def BookOf (ks:List KN) (ls:List LvL):Prop:=∃ kss:List (List KN),ks=kss.flatten∧Paired (fun js lv=>js.Perm (lv.map (·.1))∧js.Pairwise fun x y=>zdm x≤zdm y) kss ls
def zjs (P:Program) (w:World):List V→Hp→VK→Prop:=fun vs H Q=>∃ a xs rk,vs=[.ref a]∧H a=some (DN P w a xs)∧xs.length≤10000∧RkN H (xs.map fun p=>.ref p.2.1) rk∧∀ (l:Addr) (ys:List V),H l=none→ys.Perm (xs.map fun p=>.ref p.2.1)→ys.Pairwise (fun x y=>rk x≤rk y)→Q (.ref l) (upd H l (.lst ys))
theorem zdq {X:Cx}(hc:X.calm=true) (hu:X.A.units+64<cLine):CallR X (.builtin "sorted") (zjs X.prog X.w):=zd1 hc hu
theorem zim {H:Hp}{F c:Nat}{xs:KVN}{lv:LvL}(h:LvE H xs lv) (ok:∀ p∈lv,StOk F c p.1):RkN H (xs.map fun p=>.ref p.2.1) (rkH H):=by
 refine⟨2,by decide,fun x hx=>?_⟩
 have at_:∀ x∈xs.map fun p=>V.ref p.2.1,∃ b k,x=.ref b∧NKey H k b∧StOk F c k:=fun x hx=>by
  obtain⟨p,hp,rfl⟩:=JA.mp hx
  obtain⟨k,hk,e⟩:=h.keys.mem p.2.1 (JA.mpr ⟨p,hp,rfl⟩)
  obtain⟨q,hq,rfl⟩:=JA.mp hk
  exact⟨_,_,rfl,e,ok q hq⟩
 obtain⟨b,k,rfl,kb,ko⟩:=at_ x hx
 refine⟨?_,fun y hy=>?_⟩
 ·obtain⟨ts,is,rfl,_⟩:=ko.ex
  obtain⟨t,h1,h2⟩:=zgw kb
  exact⟨b,t,_,_,rfl,h1,h2⟩
 ·obtain⟨d,j,rfl,jd,jo⟩:=at_ y hy
  exact zlO ko jo kb jd
theorem zi2 {K:PySem.W.Frag}{a:Addr}{zs:List V}{g:TG}{te:TE}{l:Addr}{ac:List V}{σ:St}{H:Hp}{Q:List V→St→Hp→Prop}(Pv:Nat→List V→St→Hp→Prop) (h0:Pv 0 ac σ H) (hl:∀ i acc σ H,Pv i acc σ H→H l=some (.lst acc)∧SqL K H a zs)
  (hs:∀ i x acc σ H,zs[i]?=some x→Pv i acc σ H→g x σ H fun σ3 H3=>te σ3 H3 fun y H5=>H5 l=some (.lst acc)∧acc.length<sizeLine∧Nx zs.length i (Pv (i+1) (acc++[y]) σ3 (upd H5 l (.lst (acc++[y])))))
  (hd:∀ acc σ H,Pv zs.length acc σ H→Q acc σ H):∃ W:Nat→Nat→List V→St→Hp→Prop,(∃ m,W 0 m ac σ H)∧LCW1 (Itl K a) g tYes te l Q W:=by
 refine⟨fun i m acc σ H=>m=zs.length-i∧i≤zs.length∧Pv i acc σ H,⟨_,rfl,JH _,h0⟩,fun i m acc σ H ⟨em,hi,p⟩=>?_⟩
 subst em
 obtain⟨q0,q1⟩:=hl i acc σ H p
 refine⟨q0,?_⟩
 by_cases hlt:i<zs.length
 ·refine .inr ⟨⟨zs,zs[i],q1,J7 hlt⟩,fun x H2 ⟨e,y⟩=>?_⟩
  subst e
  exact hs i x acc σ _ (y zs q1) p
 ·obtain rfl:i=zs.length:=by lia
  exact .inl ⟨⟨zs,q1,Jg _⟩,hd acc σ H p⟩
theorem LvE.len_le {H:Hp}{xs:KVN}{ps:LvL}(h:LvE H xs ps) {n:Nat}(l:ps.length≤n):xs.length≤n:=by rw[h.len];exact l
theorem zfZ {α β:Type}{f:α→β}{ys l:List β}(p:ys.Perm l):∀ {zs:List α},l=zs.map f→∃ cs:List α,ys=cs.map f∧cs.Perm zs:=by
 induction p with
 | nil=>intro zs e;cases zs with
  | nil=>exact⟨[],rfl,.refl _⟩
  | cons a b=>cases e
 | cons b _ ih =>
  intro zs e
  cases zs with
  | nil=>cases e
  | cons a zs =>
   injection e with e1 e2
   obtain⟨cs,h1,h2⟩:=ih e2
   exact⟨a::cs,by rw[h1,e1];rfl,h2.cons _⟩
 | swap b c l =>
  intro zs e
  cases zs with
  | nil=>cases e
  | cons a zs=>cases zs with
   | nil=>cases e
   | cons d zs =>
    injection e with e1 e2
    injection e2 with e2 e3
    exact⟨d::a::zs,by rw[e1,e2,e3];rfl,.swap _ _ _⟩
 | trans _ _ ih1 ih2 =>
  intro zs e
  obtain⟨cs,h1,h2⟩:=ih2 e
  obtain⟨ds,g1,g2⟩:=ih1 h1
  exact⟨ds,g1,g2.trans h2⟩
def zjr (P:Program) (w:World) (F c:Nat):Sp:=fun vs H Q _=>∃ l as ls,vs=[.ref l]∧H l=some (.lst (List.map V.ref as))∧LvsAt P w H as ls∧(∀ lv∈ls,lv.length≤10000∧∀ p∈lv,StOk F c p.1)∧(ls.map List.length).sum≤1000000 ∧
 ∀ p bs ks H',Same H H'→H' p=some (.tup (bs.map V.ref))→KeysAt H' bs ks→BookOf ks ls→Q (.ref p) H'
end L2
namespace K41
open PySem L2 Own Bn
abbrev zjY:Stmt:=top 12
theorem zch {α β:Type}{F:α→β→Prop}{xs:List α}{ys:List β}(h:Paired F xs ys):∀ {i:Nat}{a:α},xs[i]?=some a→∃ b,ys[i]?=some b∧F a b:=by
 induction h with
 | nil=>intro i a e;cases e
 | cons q _ ih =>
  intro i a e
  cases i with
  | zero=>cases Option.some.inj e;exact⟨_,rfl,q⟩
  | succ i=>exact ih e
theorem zed (ls:List LvL) (i:Nat):((ls.take i).map List.length).sum≤(ls.map List.length).sum:=by
 induction ls generalizing i with
 | nil=>rw[Zu];exact Jg _
 | cons a ls ih =>
  cases i with
  | zero=>exact JH _
  | succ i=>show a.length+_≤a.length+_;exact Nat.add_le_add_left (ih i) _
theorem zkk {H:Hp}{a:Addr}{o:HO}(_:Same H (L2.upd H a o)) (h:H a=none):H a=none:=h
section
variable {P:Program}{w:World}{K:PySem.W.Frag}{mg:Str→Option Value}{base:Heap}
theorem scBo:FnScope ["levels"] ["levels"] (zae zjY):=by trivial
theorem zkh (F0 c0:Nat) {f:Addr}{fd:FuncData}(F:Fun K "book_of" "book_of" zjY f fd) (G:Mgs mg):FnOk P w K mg base CX0 1 f fd ["levels"] (zjr P w F0 c0):=by
 refine F.ok scBo (fun vs H Q E h=>?_) (fun cdv A outer s H vs Q E hr h=>?_)
 ·obtain⟨l,as,ls,rfl,_⟩:=h
  rfl
 obtain⟨l,as,ls,rfl,hl,lvs,lok,few,k⟩:=h
 refine⟨_,(@pss_one _ _ _ (@ps_ret _ _ _ _ (@pe_callTy _ _ _ _ _ _ _ _ _ call_tuple_of (by rfl) G.tuple (by rfl) (@pa_cons _ _ _ _ _ (@zkY _ _ _ _ _ _ none _ _ _ (zlj K (tCB (zjs P w) (zjM (tVar 0) tNil))) _ _ _ _ ["level","state"] [none,none] rfl (@zeq _ _ _ _ (@qv _ 0 _ _ (by trivial))) (CapOk.of (by kernel_rfl)) (fun _ _ _ _ _=>@pg_name _ _ 0 _ (show (["level","state"]:List Str).Nodup from by decide +kernel) rfl (.inl rfl) (.inr rfl)) (fun _ _ _ _ _=>@zeq _ _ _ _ (@pe_callB _ _ _ _ _ _ _ _ _ (zdq rfl hr.units) (by rfl) G.sorted (by rfl) (@pa_cons _ _ _ _ _ (@qv _ 0 _ _ (by trivial)) pa_nil (by rfl)) (by decide) (by decide) (by rfl) (by rfl))) (fun _ _ _ _ _=>@pg_name _ _ 1 _ (show (["level","state"]:List Str).Nodup from by decide +kernel) rfl (.inl rfl) (.inr rfl)) (fun _ _ _ _ _=>zbS) (fun _ _ _ _ _=>@qv _ 1 _ _ (by trivial)) (by intro _;rfl) (by intro _ _;rfl)) pa_nil (by rfl)) (by decide) (by decide) (by rfl) (by rfl)))),?_⟩
 refine⟨_,rfl,l,rfl,⟨_,SqL.of hl⟩,fun lr hlr=>?_⟩
 have al:as.length=ls.length:=Paired.length lvs
 have s1:=zaa hlr (.lst [])
 refine zi1 (K:=K) (a:=l) (xs:=as.map V.ref) (Q:=fun x H1=>tNil (L2.zcB ["levels"] [V.ref l]) H1 fun vs H2=>(∃ p ys,x::vs=[V.ref p]∧((SqL K H2 p ys∧∀ (l:Addr),H2 l=none→Q (V.ref l) (L2.upd H2 l (HO.tup ys)))∨SqT K H2 p ys∧Q (V.ref p) H2))) (fun i acc σ H2=>(∃ v0 v1,σ=[v0,v1])∧Same H H2∧H2 lr=some (.lst acc)∧∃ (bs:List Addr) (kss:List (List KN)),acc=bs.map V.ref∧KeysAt H2 bs kss.flatten∧bs.length=((ls.take i).map List.length).sum∧Paired (fun js lv=>js.Perm (lv.map (·.1))∧js.Pairwise fun x y=>zdm x≤zdm y) kss (ls.take i)) ⟨⟨_,_,rfl⟩,s1,zac,[],[],rfl,.nil,rfl,.nil⟩ (fun i acc σ H2 z=>⟨z.2.2.1,SqL.of (z.2.1 _ _ hl)⟩) ?_ ?_
 ·rintro i acc σ H2 x hx ⟨⟨v0,v1,rfl⟩,s2,h2,bs,kss,rfl,kat,bl,bk⟩
  rw[JR]at hx
  obtain⟨a,ea,rfl⟩:=Y5.mp hx
  have ia:i<as.length:=(Je.mp ea).1
  have il:i<ls.length:=by lia
  obtain⟨lv,el,xs,hd,le⟩:=zch lvs ea
  have lvm:lv∈ls:=JZ el
  have tk:ls.take (i+1)=ls.take i++[lv]:=by rw[← Yk il,(Je.mp el).2]
  have sum1:((ls.take (i+1)).map List.length).sum=bs.length+lv.length:=by rw[tk,Y2,List.sum_append,← bl];rfl
  have sum2:((ls.take (i+1)).map List.length).sum≤1000000:=JY (zed ls (i+1)) few
  have d2:=s2 _ _ hd
  have le2:=le.keep s2
  refine⟨_,rfl,a,xs,rkH H2,rfl,d2,le2.len_le (lok lv lvm).1,zim le2 (lok lv lvm).2,fun q ys hq pm so=>?_⟩
  have s3:=zaa hq (.lst ys)
  have lq:lr≠q:=zab h2 hq
  obtain⟨cs,rfl,pc⟩:=zfZ (f:=V.ref) (zs:=xs.map fun p=>p.2.1) pm (by rw[YQ];rfl)
  obtain⟨js,kj,pj⟩:=zhw pc le2.keys
  have sj:=zeD kj (fun k hk=>by
   obtain⟨p,hp,rfl⟩:=JA.mp (pj.mem_iff.mp hk)
   exact(lok lv lvm).2 p hp) so
  have cl:cs.length=lv.length:=by rw[pc.length_eq,Jm];exact le2.len
  refine⟨q,rfl,⟨_,SqL.of zac⟩,?_⟩
  refine zi2 (K:=K) (a:=q) (zs:=cs.map V.ref) (fun j acc σ H3=>(∃ v0 v1,σ=[v0,v1])∧Same H H3∧(∀ b o,H2 b=some o→b≠lr→H3 b=some o)∧H3 q=some (.lst (cs.map V.ref))∧acc=bs.map V.ref++(cs.map V.ref).take j∧H3 lr=some (.lst acc)) ?_ (fun j acc σ H3 z=>⟨z.2.2.2.2.2,SqL.of z.2.2.2.1⟩) ?_ ?_
  ·exact⟨⟨_,_,rfl⟩,s2.trans s3,fun b o e _=>s3 b o e,zac,by rw[Yq,JT],s3 _ _ h2⟩
  ·rintro j x acc σ H3 hx ⟨⟨v0,v1,rfl⟩,s4,k4,q4,rfl,h4⟩
   have jl:=(Je.mp hx).1
   refine⟨_,rfl,h4,?_,nx jl ⟨⟨_,_,rfl⟩,fun b o e=>?_,fun b o e ne=>?_,?_,?_,zac⟩⟩
   ·rw[Ja,Jw,Jm,Jm,Jy]
    rw[Jm]at jl
    lia
   ·rw[zad (zab e (zkk s1 hlr))];exact s4 b o e
   ·rw[zad ne];exact k4 b o e ne
   ·rw[zad lq.symm];exact q4
   ·rw[JM]
    congr 1
    rw[← Yk jl,(Je.mp hx).2]
  ·rintro acc σ H3 ⟨⟨v0,v1,rfl⟩,s4,k4,q4,rfl,h4⟩
   have t4:Tups H2 H3:=fun b ys e=>k4 b _ e (zbC e h2 fun z=>by cases z)
   refine nx (by rw[Jm];exact ia) ⟨⟨_,_,rfl⟩,s4,h4,bs++cs,kss++[js],?_,?_,?_,?_⟩
   ·rw[YR,Y2]
   ·rw[List.flatten_append]
    refine zcL (kat.tups t4) ?_
    show Paired _ cs (js++[])
    rw[JT];exact kj.tups t4
   ·rw[sum1,Ja,cl]
   ·rw[tk];exact Paired.snoc bk ⟨pj,sj⟩
 ·rintro acc σ H2 ⟨⟨v0,v1,rfl⟩,s2,h2,bs,kss,rfl,kat,bl,bk⟩
  rw[Jm,al,YR]at bk
  refine⟨lr,_,rfl,.inl ⟨SqL.of h2,fun p hp=>?_⟩⟩
  have s3:=zaa hp (.tup (bs.map V.ref))
  exact k p bs _ _ (s2.trans s3) zac (kat.tups (Tups.of s3)) ⟨kss,rfl,bk⟩
end
abbrev sEnd:Stmt:=top 1
abbrev zej:Stmt:=top 3
abbrev sRun:Stmt:=top 4
theorem zli (h a b:Nat):inV (V.int h) [V.int a,V.int b]=decide (h=a∨h=b):=by
 rw[Ye,decide_eq_true_iff]
 simp[inV,eqV]
 lia
section
variable {P:Program}{w:World}{K:PySem.W.Frag}{mg:Str→Option Value}{base:Heap}
theorem scD:FnScope ["net","lane"] ["net","lane"] (zae sEnd):=by trivial
theorem zk6 {f:Addr}{fd:FuncData}(F:Fun K "end_of" "end_of" sEnd f fd):FnOk P w K mg base CX0 1 f fd ["net","lane"] zjO:=by
 refine F.ok scD (fun vs H Q E h=>?_) (fun cdv A outer s H vs Q E hr h=>?_)
 ·obtain⟨r,fr,er,ps,N,lane,rfl,_⟩:=h
  rfl
 obtain⟨r,fr,er,ps,N,lane,rfl,ok,na,hl,k⟩:=h
 refine⟨_,(@pss_one _ _ _ (@ps_ret _ _ _ _ (@zj7 _ _ _ _ _ _ _ hr.units (@pe_ix _ _ _ _ _ _ _ ix_tup (@qv _ 0 _ _ (by trivial)) pe_int (fun _ _=>rfl)) (@pa_cons _ _ _ _ _ (@qv _ 1 _ _ (by trivial)) pa_nil (by rfl)) (by rfl) (by rfl) (by rfl) (by rfl)))),?_⟩
 have he:=na.ends
 rw[ziJ]at he
 refine⟨_,rfl,r,_,_,_,rfl,rfl,SqT.of na.net,rfl,er,_,rfl,he,_,rfl,(lane:Int),rfl,he,?_,?_⟩
 ·exact JA.mpr ⟨lane,ok.en.mem_iff.mpr (Yj.mpr hl),rfl⟩
 ·rw[zfy];exact k
theorem scR:FnScope ["net","turns","lane","back","behind","here","number","fork","turn"] ["net","turns","lane","back"] (zae sRun):=by trivial
theorem zk4 {f fD:Addr}{fd dD:FuncData}(F:Fun K "run_through" "run_through" sRun f fd) (G:Mgs mg) (UD:Use P w K mg base "end_of" ["net","lane"] 1 zjO fD dD):FnOk P w K mg base CX0 2 f fd ["net","turns","lane","back"] zjN:=by
 refine F.ok scR (fun vs H Q E h=>?_) (fun cdv A outer s H vs Q E hr h=>?_)
 ·obtain⟨us,back,rfl,r,fr,er,ps,N,tr,ts,lane,rfl,_⟩:=h
  rfl
 obtain⟨us,back,rfl,r,fr,er,ps,N,tr,ts,lane,rfl,ok,na,htr,tl,bits,hl,k⟩:=h
 refine⟨_,(@pss_cons _ _ _ _ _ (@ps_set _ _ 4 _ _ _ _ scR.nd rfl (.inl rfl) (@pe_callTy _ _ _ _ _ _ _ _ _ call_list_of (by rfl) G.list (by rfl) (@pa_cons _ _ _ _ _ (@qv _ 1 _ _ (by trivial)) pa_nil (by rfl)) (by decide) (by decide) (by rfl) (by rfl)) (by rfl) (by first|exact .inl rfl|exact .inr rfl|assumption)) (@pss_cons _ _ _ _ _ (@ps_set _ _ 5 _ _ _ _ scR.nd rfl (.inl rfl) (@qv _ 2 _ _ (by trivial)) (by rfl) (by first|exact .inl rfl|exact .inr rfl|assumption)) (@pss_cons _ _ _ _ _ (@ps_for _ _ _ _ _ _ _ _ PassesOwn.never rfl (@zer _ _ _ _ _ _ _ _ false rfl G.enum (@pa_cons _ _ _ _ _ (@pe_ix _ _ _ _ _ _ _ ix_tup (@qv _ 0 _ _ (by trivial)) pe_int (fun _ _=>rfl)) pa_nil (by rfl)) (by rfl)) (@pg_tup _ _ _ _ _ _ rfl (@pgs_cons _ _ _ _ _ (@pg_name _ _ 6 _ scR.nd rfl (.inl rfl) (by first|exact .inl rfl|exact .inr rfl|assumption)) (@pgs_cons _ _ _ _ _ (@pg_name _ _ 7 _ scR.nd rfl (.inl rfl) (by first|exact .inl rfl|exact .inr rfl|assumption)) pgs_nil (by rfl)) (by rfl)) (by rfl) (by rfl)) (@pss_one _ _ _ (@ps_if _ _ _ _ _ _ _ _ (@pt_cmpR _ _ _ _ _ _ _ _ zgW (@qv _ 5 _ _ (by trivial)) (@qv _ 7 _ _ (by trivial)) (by rfl)) (@pss_cons _ _ _ _ _ (@ps_set _ _ 8 _ _ _ _ scR.nd rfl (.inl rfl) (@pe_ix _ _ _ _ _ _ _ ix_list (@qv _ 4 _ _ (by trivial)) (@qv _ 6 _ _ (by trivial)) (fun _ _=>rfl)) (by rfl) (by first|exact .inl rfl|exact .inr rfl|assumption)) (@pss_cons _ _ _ _ _ (@ps_asg _ _ _ _ _ _ (@pe_op _ _ _ _ _ _ _ _ op_sub pe_int (@qv _ 8 _ _ (by trivial))) (@pg_sub _ _ _ _ _ _ _ (@qv _ 4 _ _ (by trivial)) (@qv _ 6 _ _ (by trivial)) set_list (by intro _;rfl)) (by rfl) (by rfl) (by rfl)) (@pss_one _ _ _ (@ps_set _ _ 5 _ _ _ _ scR.nd rfl (.inl rfl) (@pe_ix _ _ _ _ _ _ _ ix_tup (@qv _ 7 _ _ (by trivial)) (@pe_ifExp _ _ _ _ _ _ _ _ (@pt_val _ _ _ (@qv _ 3 _ _ (by trivial)) (by intro _;rfl)) (@pe_op _ _ _ _ _ _ _ _ op_sub pe_int (@qv _ 8 _ _ (by trivial))) (@qv _ 8 _ _ (by trivial))) (fun _ _=>rfl)) (by rfl) (by first|exact .inl rfl|exact .inr rfl|assumption))))) pss_nil)) (by intro _;rfl)) (@pss_one _ _ _ (@ps_ret _ _ _ _ (@pe_tup _ _ _ _ _ (@pa_cons _ _ _ _ _ (@pe_callTy _ _ _ _ _ _ _ _ _ call_tuple_of (by rfl) G.tuple (by rfl) (@pa_cons _ _ _ _ _ (@qv _ 4 _ _ (by trivial)) pa_nil (by rfl)) (by decide) (by decide) (by rfl) (by rfl)) (@pa_cons _ _ _ _ _ (@pe_call _ _ _ _ _ _ _ _ _ _ _ _ _ _ _ _ UD.ok hr (by rfl) UD.m UD.kp UD.b .nil pass0 (@pa_cons _ _ _ _ _ (@qv _ 0 _ _ (by trivial)) (@pa_cons _ _ _ _ _ (@qv _ 5 _ _ (by trivial)) pa_nil (by rfl)) (by rfl)) (by decide) (by rfl) (by rfl)) pa_nil (by rfl)) (by rfl)))))))),?_⟩
 refine⟨_,rfl,tr,_,rfl,.inr (SqT.of htr),fun lb hlb=>⟨_,rfl,?_⟩⟩
 have s1:=zaa hlb (.lst (ts.map V.int))
 refine⟨_,rfl,r,_,_,_,rfl,rfl,SqT.of (s1 _ _ na.net),rfl,fr,ps,rfl,SqT.of (s1 _ _ na.forks),?_⟩
 refine zdh (K:=K) (b:=false) (a:=fr) (xs:=ps) (fun i σ H2=>(∃ v6 v7 v8,σ=[some (.ref r),some (.ref tr),some (.int lane),some (.bl back),some (.ref lb),some (.int (zam back N.forks ts lane i).2),v6,v7,v8])∧Same H H2∧H2 lb=some (.lst ((zam back N.forks ts lane i).1.map V.int)))
  ⟨⟨_,_,_,rfl⟩,s1,zac⟩ (fun i σ H2 _ q=>SqT.of (q.2.1 _ _ na.forks)) ?_ ?_
 ·rintro i x σ H2 T hx hT ⟨⟨v6,v7,v8,rfl⟩,s2,h2⟩
  obtain⟨a,g,rfl,eg,ha⟩:=(na.prs.tups (Tups.of s2)).get hx
  have gi:i<N.forks.length:=(Je.mp eg).1
  have gd:N.forks.getD i (0,0)=g:=by rw[Jb,eg];rfl
  have rs:zam back N.forks ts lane (i+1)=zaj back (zam back N.forks ts lane i) i g:=by show zaj _ _ _ _=_;rw[gd]
  have rl:=zce (back:=back) (fs:=N.forks) (ts:=ts) (lane:=lane) i
  have rb:=zbQ (back:=back) (fs:=N.forks) (lane:=lane) bits i
  generalize zam back N.forks ts lane i=st at *
  have sT:=zaa hT (.tup [.int i,.ref a])
  have lT:lb≠T:=zab h2 hT
  refine⟨T,_,rfl,SqT.of zac,rfl,_,_,rfl,_,_,rfl,rfl,?_⟩
  refine⟨_,rfl,_,rfl,a,_,rfl,.inr (SqT.of (sT _ _ ha)),rfl,rfl,_,rfl,?_⟩
  show if (if false=true then !inV (V.int (st.2:Nat)) [V.int (g.1:Nat),V.int (g.2:Nat)] else inV (V.int (st.2:Nat)) [V.int (g.1:Nat),V.int (g.2:Nat)])=true then _ else _
  rw[Jc Jh,zli]
  by_cases on:st.2=g.1∨st.2=g.2
  ·rw[Jz on]
   refine iteT ?_
   have rsn:zaj back st i g=(st.1.set i (1-st.1.getD i 0),if (if back then 1-st.1.getD i 0 else st.1.getD i 0)=0 then g.1 else g.2):=by unfold zaj;rw[Jf on]
   have il:i<st.1.length:=by lia
   have tb:=rb _ (L2.zfz il)
   have hb:=sT _ _ h2
   refine⟨_,rfl,_,rfl,lb,_,_,_,rfl,rfl,SqL.of hb,zh6 il,?_⟩
   refine⟨_,rfl,_,_,rfl,rfl,_,rfl,_,rfl,lb,_,_,i,rfl,rfl,hb,zi6 (by rw[Jm];exact il),?_⟩
   have ha3:upd (upd H2 T (.tup [.int i,.ref a])) lb (.lst ((st.1.map V.int).set i (.int (1-st.1.getD i 0)))) a=some (.tup [.int g.1,.int g.2]):=by
    rw[zad (by rintro rfl;rw[h2]at ha;cases ha)];exact sT _ _ ha
   have fin:∀ nx:Nat,nx=(zaj back st i g).2→(∃ v6 v7 v8,([some (.ref r),some (.ref tr),some (.int lane),some (.bl back),some (.ref lb),some (.int nx),some (.int i),some (.ref a),some (.int (st.1.getD i 0))]:List (Option V))=[some (.ref r),some (.ref tr),some (.int lane),some (.bl back),some (.ref lb),some (.int (zam back N.forks ts lane (i+1)).2),v6,v7,v8]) ∧
     Same H (upd (upd H2 T (.tup [.int i,.ref a])) lb (.lst ((st.1.map V.int).set i (.int (1-st.1.getD i 0)))))∧upd (upd H2 T (.tup [.int i,.ref a])) lb (.lst ((st.1.map V.int).set i (.int (1-st.1.getD i 0)))) lb=some (.lst ((zam back N.forks ts lane (i+1)).1.map V.int)):=fun nx en=>by
    refine⟨⟨_,_,_,by rw[rs,en]⟩,fun b o e=>?_,?_⟩
    ·rw[zad (zab e hlb)];exact sT _ _ (s2 b o e)
    ·rw[zac,rs,rsn,zik]
   cases back with
   | false =>
    rcases tb with z|z
    ·exact⟨_,rfl,_,rfl,_,rfl,iteF ⟨_,rfl,a,_,_,_,rfl,rfl,SqT.of ha3,by rw[z];exact zap (j:=0) rfl,fin g.1 (by rw[rsn,z];rfl)⟩⟩
    ·exact⟨_,rfl,_,rfl,_,rfl,iteF ⟨_,rfl,a,_,_,_,rfl,rfl,SqT.of ha3,by rw[z];exact zap (j:=1) rfl,fin g.2 (by rw[rsn,z];rfl)⟩⟩
   | true =>
    rcases tb with z|z
    ·exact⟨_,rfl,_,rfl,_,rfl,iteT ⟨_,rfl,_,_,rfl,rfl,a,_,_,_,rfl,rfl,SqT.of ha3,by rw[z];exact zap (j:=1) rfl,fin g.2 (by rw[rsn,z];rfl)⟩⟩
    ·exact⟨_,rfl,_,rfl,_,rfl,iteT ⟨_,rfl,_,_,rfl,rfl,a,_,_,_,rfl,rfl,SqT.of ha3,by rw[z];exact zap (j:=0) rfl,fin g.1 (by rw[rsn,z];rfl)⟩⟩
  ·rw[Jq on]
   have rsn:zaj back st i g=st:=by unfold zaj;rw[Jc on]
   exact iteF ⟨⟨_,_,_,by rw[rs,rsn];rfl⟩,s2.trans sT,by rw[rs,rsn];exact sT _ _ h2⟩
 ·rintro σ H2 ⟨⟨v6,v7,v8,rfl⟩,s2,h2⟩
  have pl:=na.prs.len
  rw[pl]at h2
  have hh:=zcI (back:=back) (ts:=ts) ok.fk hl N.forks.length (Jg _)
  refine⟨_,rfl,lb,_,rfl,.inl ⟨SqL.of h2,fun t ht=>?_⟩⟩
  have s3:=zaa ht (.tup ((zam back N.forks ts lane N.forks.length).1.map V.int))
  refine⟨_,rfl,_,rfl,r,fr,er,ps,N,_,by rw[pl];rfl,ok,na.tups (Tups.of (s2.trans s3)),hh,(by show 2≤sizeLine;decide),fun p hp=>?_⟩
  exact k p t _ ((s2.trans s3).trans (zaa hp _)) zac (zaa hp _ _ _ zac)
theorem scP:FnScope ["net","turns","lane"] ["net","turns","lane"] (zae zej):=by trivial
theorem zg1 {f fR:Addr}{fd dR:FuncData}(F:Fun K "passed" "passed" zej f fd) (UR:Use P w K mg base "run_through" ["net","turns","lane","back"] 2 zjN fR dR):FnOk P w K mg base CX0 3 f fd ["net","turns","lane"] (ze4 false):=by
 refine F.ok scP (fun vs H Q E h=>?_) (fun cdv A outer s H vs Q E hr h=>?_)
 ·obtain⟨r,fr,er,ps,N,tr,ts,lane,rfl,_⟩:=h
  rfl
 obtain⟨r,fr,er,ps,N,tr,ts,lane,rfl,q⟩:=h
 refine⟨_,(@pss_one _ _ _ (@ps_ret _ _ _ _ (@pe_call _ _ _ _ _ _ _ _ _ _ _ _ _ _ _ _ UR.ok hr (by rfl) UR.m UR.kp UR.b .nil pass0 (@pa_cons _ _ _ _ _ (@qv _ 0 _ _ (by trivial)) (@pa_cons _ _ _ _ _ (@qv _ 1 _ _ (by trivial)) (@pa_cons _ _ _ _ _ (@qv _ 2 _ _ (by trivial)) (@pa_cons _ _ _ _ _ pe_bl pa_nil (by rfl)) (by rfl)) (by rfl)) (by rfl)) (by decide) (by rfl) (by rfl)))),?_⟩
 exact⟨_,rfl,_,rfl,_,rfl,[.ref r,.ref tr,.int lane],false,rfl,r,fr,er,ps,N,tr,ts,lane,rfl,q⟩
end
end K41
namespace L2
open PySem PySem.Spec PyProof.Rows Own
theorem zht {P:Program}{w:World}{K:PySem.W.Frag}{mg mb:Str→Option Value}{CX:CXT}{k:Nat}{fa a:Addr}{fd:FuncData}{x:Str}{sp:Sp}{s₁:Shared}{vs:List Value}{ns:List Int}(ts:List Addr)
  (KX:K.In s₁.heap) (hns:s₁.heap.Ns mainGlobals mg) (hb:s₁.heap.Ns builtinsNs mb) (hbb:∀ x:Str,x≠"__name__"→mb x=bootBuiltins x) (hlim:s₁.heap.NoLimit) (hg:s₁.gens = #[])
  (ha:s₁.heap.get? a=some { cls:=.type "list",data:=.seq vs.toArray }) (hi:IntsAre vs ns) (hl:ns.length≤sizeLine) (hr:Room k callerA)
  (ht:∀ p∈ts,s₁.heap.get? p=some (PySem.W.tabObj #[])∧K.lookup p=none∧∃ c,PySem.W.codeHdIn K c p=true)
  (hbm:∃ bm ob,mg "__builtins__" = some (.ref bm)∧bm≠builtinsNs∧s₁.heap.get? bm=some ob∧ob.cls=.type "module"∧ob.dict=some builtinsNs∧ob.data=.plain)
  (F:∀ base:Heap,K.In base→base.Ns mainGlobals mg→(∀ p∈ts,base.BuiltinsAt mg p)→FnOk P w K mg base CX k fa fd [x] sp) (hbind:∀ (s:Shared) (u:Value),BindsTo s fd ⟨[u],[]⟩ [(x,u)])
  (hsp:∀ H:Hp,SqL K H a (ns.map V.int)→(∀ p∈ts,H p=some (.tbl #[]))→sp [.ref a] H (fun v _=>v=.bl true) fun _ _ _=>False)
  (hCX:∀ H e s',CX [] H s₁ (fun _ _ _=>False) e s'→False) :
  codeAny (model P w) callerA (.call (.ref fa) ⟨[.ref a],[]⟩) (fun r s'=>r=.ok (.ret (.bool true))∧OldK s₁.heap s'.heap∧s'.os=s₁.os∧AllBare s'.gens) s₁:=by
 have rv:=zdr hi
 have lenV:=hi.length
 have aT:a∉ts:=fun h=>by
  have:=(ht a h).1
  rw[ha]at this;cases this
 have core:∀ H:Hp,(∀ b,H b=none∨(b=a∧∃ o xs,H b=some (.frz o (.lst xs)))∨(b∈ts∧H b=some (.tbl #[])))→(∀ p∈ts,H p=some (.tbl #[]))→SqL K H a (ns.map V.int)→HOk P w H s₁.heap→(H a≠none→K.lookup a=none) →
   codeAny (model P w) callerA (.call (.ref fa) ⟨[.ref a],[]⟩) (fun r s'=>r=.ok (.ret (.bool true))∧OldK s₁.heap s'.heap∧s'.os=s₁.os∧AllBare s'.gens) s₁:=by
  intro H hO hT hS hok hK
  have base_of:∀ {b:Addr}{o:Obj},s₁.heap.get? b=some o→H b=none→(hidT s₁.heap H).get? b=some o:=fun e n=>zi7 e n
  have noA:∀ {b:Addr}{o:Obj}{es:Array DictEntry}{ep:Nat},s₁.heap.get? b=some o→o.data=.dict es ep→H b=none:=fun {b o es ep} e d=>by
   rcases hO b with z|⟨z,_⟩|⟨z,_⟩
   ·exact z
   ·rw[z,ha]at e
    cases e
    cases (show Data.seq vs.toArray _=Data.dict es ep from d)
   ·rw[(ht b z).1]at e
    cases e
    cases (show Data.fields #[]=Data.dict es ep from d)
  have nsK:∀ {b:Addr}{m:Str→Option Value},s₁.heap.Ns b m→(hidT s₁.heap H).Ns b m:=fun {b m} ⟨o,es,ep,e,d,r⟩=>⟨o,es,ep,base_of e (noA e d),d,r⟩
  have hKb:K.In (hidT s₁.heap H):=fun b o e=>base_of (KX b o e) (by
   rcases hO b with z|⟨z,y⟩|⟨z,_⟩
   ·exact z
   ·obtain⟨o',xs,q⟩:=y
    rw[z]at e q
    rw[hK (by rw[q];simp)]at e;cases e
   ·rw[(ht b z).2.1]at e;cases e)
  have hM:Mod K mg (hidT s₁.heap H):=⟨hKb,nsK hns,⟨mb,nsK hb,hbb⟩,let ⟨mc,h1,h2⟩:=hlim;⟨mc,nsK h1,h2⟩⟩
  have e0:Env0 P w K mg (hidT s₁.heap H) callerA [] s₁ H:=⟨rfl,hM,fun b o e=>zkj e,Nat.le_of_eq (zhC _ _),trivial,fun b hb=>absurd (show b∈([]:List Addr) from hb) (by simp),hok,.of_eq hg⟩
  have hB:∀ p∈ts,(hidT s₁.heap H).BuiltinsAt mg p:=fun p hp=>by
   obtain⟨bm,ob,b1,b2,b3,b4,b5,b6⟩:=hbm
   refine⟨bm,ob,b1,b2,fun z=>?_,fun z=>?_,base_of b3 ?_,b4,b5,b6⟩
   ·obtain⟨og,es,ep,e,d,_⟩:=hns
    rw[← z,b3]at e
    rw[← Option.some.inj e,b6]at d;cases d
   ·have e:=(ht p hp).1
    rw[← z,b3]at e
    rw[Option.some.inj e]at b6;cases b6
   ·rcases hO bm with z|⟨z,_⟩|⟨z,_⟩
    ·exact z
    ·rw[z,ha]at b3
     rw[← Option.some.inj b3]at b6;cases b6
    ·rw[(ht bm z).1]at b3
     rw[← Option.some.inj b3]at b6;cases b6
  refine codeAny_mono ((F _ hKb (nsK hns) hB).run callerA [] s₁ H ⟨[.ref a],[]⟩ [.ref a] [.ref a] _ _ hr e0 (hbind s₁ (.ref a)) (.cons rfl .nil) (hsp H hS hT)) fun r s' h=>?_
  cases r with
  | error e=>exact(hCX H e s' h).elim
  | ok fl =>
   cases fl with
   | next=>exact False.elim h
   | brk=>exact False.elim h
   | cont=>exact False.elim h
   | ret u =>
    obtain⟨v,H',os,bare,un,hok',r',q⟩:=h
    have q':v=.bl true:=q
    subst q'
    obtain rfl:u=Value.bool true:=r'
    have kept:∀ b o,s₁.heap.get? b=some o→b∉ts→s'.heap.get? b=some o:=fun b o e nb=>by
     rcases hO b with z|⟨_,ob,xs,z⟩|⟨z,_⟩
     ·exact un.keep b o e z (fun y=>absurd (show b∈([]:List Addr) from y) (by simp)) (by simp)
     ·have z2:=un.frzs b ob _ z
      obtain⟨e1,_⟩:=hok b _ z
      obtain⟨e2,_⟩:=hok' b _ z2
      rw[e]at e1;cases e1
      exact e2
     ·exact absurd z nb
    have tabs:∀ b∈ts,∃ more,s'.heap.get? b=some (PySem.W.tabObj (#[]++more)):=fun b hb=>by
     obtain⟨more,z⟩:=un.tbls b _ (hT b hb)
     exact⟨more,hok' b _ z⟩
    refine⟨rfl,⟨fun b o e=>?_,fun b o e=>un.there b o e (by simp)⟩,os,bare⟩
    by_cases hb:b∈ts
    ·obtain⟨t1,_,c,t3⟩:=ht b hb
     rw[t1]at e
     cases e
     obtain⟨o2,ws,_,_,_,_,_,_,_,g1,g2,g3,g4,_⟩:=PySem.W.codeHd_of_K KX t3
     obtain⟨more,z⟩:=tabs b hb
     exact .inr (.inl ⟨⟨c,o2,ws,g1,g2,g3,g4⟩,rfl,#[],more,rfl,z⟩)
    ·exact .inl (kept b o e hb)
 have tab:∀ {H:Hp}{p:Addr},p∈ts→ObjOk P w H s₁.heap p (.tbl #[]):=fun hp=>(ht _ hp).1
 cases hk:K.lookup a with
 | some o =>
  have e:=KX a o hk
  rw[ha]at e
  cases e
  refine core (fun b=>if b∈ts then some (.tbl #[]) else none) (fun b=>?_) (fun p hp=>Jf hp) (.inr ⟨_,vs.toArray,_,hk,rfl,rfl,rfl,by rw[Jj,lenV];exact hl,by simpa using rv⟩) (fun b u z=>?_) fun z=>absurd (Jc aT) z
  ·by_cases hb:b∈ts
   ·exact .inr (.inr ⟨hb,Jf hb⟩)
   ·exact .inl (Jc hb)
  ·by_cases hb:b∈ts
   ·have z':=(Jf hb).symm.trans z
    cases z'
    exact tab hb
   ·have z':=(Jc hb).symm.trans z
    cases z'
 | none =>
  refine core (fun b=>if b∈ts then some (.tbl #[]) else if b=a then some (.frz { cls:=.type "list",data:=.seq vs.toArray } (.lst (ns.map V.int))) else none) (fun b=>?_) (fun p hp=>Jf hp) (.inl (.inr ⟨{ cls:=.type "list",data:=.seq vs.toArray },(Jc aT).trans (Jf rfl)⟩)) (fun b u z=>?_) fun _=>hk
  ·by_cases hb:b∈ts
   ·exact .inr (.inr ⟨hb,Jf hb⟩)
   ·by_cases ba:b=a
    ·exact .inr (.inl ⟨ba,_,_,(Jc hb).trans (Jf ba)⟩)
    ·exact .inl ((Jc hb).trans (Jc ba))
  ·by_cases hb:b∈ts
   ·have z':=(Jf hb).symm.trans z
    cases z'
    exact tab hb
   ·by_cases ba:b=a
    ·have z':=((Jc hb).trans (Jf ba)).symm.trans z
     cases z'
     subst ba
     exact⟨ha,by rw[Jm];exact hl,vs,_,rv,ha⟩
    ·have z':=((Jc hb).trans (Jc ba)).symm.trans z
     cases z'
theorem zid {l:PySem.W.OpenLaw}{n k:Nat}{q:Program}{loose:List Str}{XP:(Str→Option Value)→Heap→Prop}{YP:World→Heap→Prop}{d:DefRec}{K:Params→PySem.W.Frag}{CX:CXT}{sp:PySem.W.Frag→Sp}{x:Str}(ts:List Addr)
  (hn:l.most=some n) (hn2:n≤sizeLine) (hdf:d.params.defaults=[]) (hr:Room k callerA)
  (hY:∀ (w:World) (h:Heap),YP w h→(K w.params).In h∧∀ p∈ts,h.get? p=some (PySem.W.tabObj #[]))
  (F:∀ (w:World) (mg:Str→Option Value) (fa:Addr) (h:Heap),(K w.params).In h→h.Ns mainGlobals mg→mg d.name=some (.ref fa)→(∀ p∈ts,(K w.params).lookup p=none∧∃ c,PySem.W.codeHdIn (K w.params) c p=true) ∧
   ∃ fd:FuncData,(∀ (s:Shared) (u:Value),BindsTo s fd ⟨[u],[]⟩ [(x,u)]) ∧
    ∀ base:Heap,(K w.params).In base→base.Ns mainGlobals mg→(∀ p∈ts,base.BuiltinsAt mg p)→FnOk l.prog w (K w.params) mg base CX k fa fd [x] (sp (K w.params)))
  (hsp:∀ (K:PySem.W.Frag) (H:Hp) (a:Addr) (ns:List Int),ns.length≤n→SqL K H a (ns.map V.int)→(∀ p∈ts,H p=some (.tbl #[]))→sp K [.ref a] H (fun v _=>v=.bl true) fun _ _ _=>False)
  (hCX:∀ (H:Hp) (s:Shared) (e:Value) (s':Shared),CX [] H s (fun _ _ _=>False) e s'→False) :
  PySem.W.WalkO q loose XP YP l.row.toRowW d [] (fun f vs=>PySem.call f vs):=by
 refine Att.attach_call hn hdf fun w s₀ s₁ mg mb fa o pm cd doc a vs ns G Y ho hd hcd hmg hobj hints hlen hg=>?_
 obtain⟨KX,tb⟩:=hY w _ Y
 obtain⟨tk,fd,hb,hF⟩:=F w mg fa _ KX G.T.g hmg
 exact zht ts KX G.T.g G.T.b G.T.builtins G.T.nolimit hg hobj hints (JY hlen hn2) hr (fun p hp=>⟨tb p hp,(tk p hp).1,(tk p hp).2⟩) G.T.bmain hF hb (fun H hS hT=>hsp (K w.params) H a ns hlen hS hT) fun H e s'=>hCX H s₁ e s'
structure FunC (K:PySem.W.Frag) (x qual:Str) (st:Stmt) (f:Addr) (fd:FuncData) (c:Addr):Prop where
 ex:∃ (oc:Value) (od:Option Addr) (kV doc pm:Value) (an:Option Addr) (ct:Value) (osl:Array (Option Value)),
  fd=PySem.W.fnOf x qual (za3 st) (zaH st) (zae st) .none kV doc pm an (.ref c) ct∧K.lookup f=some ⟨oc,od,.func fd,osl⟩∧PySem.W.codeIn K (.ref c) qual=true
 kp:PySem.W.keepIn K (.ref f)=true
theorem FunC.ok {P:Program}{w:World}{K:PySem.W.Frag}{mg:Str→Option Value}{base:Heap}{x qual:Str}{st:Stmt}{f c:Addr}{fd:FuncData}{N ps:List Str}{k:Nat}{sp:Sp}(F:FunC K x qual st f fd c) (S:FnScope N ps (zae st)) (len:∀ vs H Q E,sp vs H Q E→vs.length=ps.length)
  (hbody:∀ (A:Around) (outer:List Env) (s:Shared) (H:Hp) (vs:List V) (Q:VK) (E:XK),Room k (A.deeper (envOfC qual (zae st) s.heap.objs.size f (.ref c)))→sp vs H Q E →
   ∃ t,PSs (cxOf CX0 P w K mg base N qual (zae st) f (.ref c) A outer s H E).nox (zaH st) t∧t { nx:=fun _ H'=>Q .non H',rt:=Q } (zcB N vs) H):FnOk P w K mg base CX0 (k+1) f fd ps sp:=by
 obtain⟨oc,od,kV,doc,pm,an,ct,osl,rfl,lk,hcd⟩:=F.ex
 refine zlm lk hcd S len fun A outer s H vs Q E hr hsp=>?_
 obtain⟨t,h,q⟩:=hbody A outer s H vs Q E hr hsp
 exact⟨t,h.nox,q⟩
end L2
namespace L2
open PySem PySem.Spec PyProof.Rows Own Bn
def zdc (N:Nt) (ts:List Int) (lane:Nat):List Int:=(zam false N.forks ts lane N.forks.length).1
def passE (N:Nt) (ts:List Int) (lane:Nat):Nat:=N.ends.idxOf (zam false N.forks ts lane N.forks.length).2
def zaK (N:Nt):KN→Nat→Option KN
 | [.inr ts,.inl r],m=>if ((passE N ts m:Nat):Int)=r then some (stK (zdc N ts m) [(r+1)%(N.lanes:Nat)]) else none
 | _,_=>none
def OkP (N:Nt) (k:KN):Prop:=∃ (ts:List Int) (r:Nat),k=stK ts [(r:Nat)]∧ts.length=N.forks.length∧Bits ts∧r<N.lanes
theorem OkP.st {N:Nt}(ok:Nt.Ok N) {k:KN}(h:OkP N k):StOk N.forks.length 1 k:=by
 obtain⟨ts,r,rfl,h1,h2,h3⟩:=h
 refine⟨ts,[(r:Nat)],rfl,h1,h2,rfl,fun x hx=>?_⟩
 rw[Jd.mp hx]
 have:=ok.l16
 lia
theorem zdH (N:Nt) (ts:List Int) (lane:Nat):(zdc N ts lane).length=ts.length:=zce _
theorem zcK {N:Nt}{ts:List Int}{lane:Nat}(h:Bits ts):Bits (zdc N ts lane):=zbQ h _
theorem ze2 {N:Nt}(ok:Nt.Ok N) {s t:KN}{m:Nat}(h:OkP N s) (e:zaK N s m=some t):OkP N t:=by
 obtain⟨ts,r,rfl,h1,h2,h3⟩:=h
 have e':(if ((passE N ts m:Nat):Int)=(r:Nat) then some (stK (zdc N ts m) [((r:Nat)+1)%(N.lanes:Nat)]) else none)=some t:=e
 split at e'
 ·cases e'
  refine⟨zdc N ts m,(r+1)%N.lanes,?_,(zdH _ _ _).trans h1,zcK h2,Nat.mod_lt _ (by have:=ok.l1;lia)⟩
  rw[Int.natCast_emod];rfl
 ·cases e'
def zc0:Sp:=fun vs H Q _=>∃ r fr er ps N b k,∃ lane:Nat,vs=[.ref r,.ref b,.int (lane:Nat)]∧Nt.Ok N∧NetAt H r fr er ps N∧NKey H k b∧OkP N k∧lane<N.lanes ∧
 (∀ H2,Same H H2→zaK N k lane=none→Q .non H2)∧(∀ H2 b' t,Same H H2→zaK N k lane=some t→NKey H2 t b'→Q (.ref b') H2)
def zbV:LSpc:=fun vals vs H Q E=>∃ r b,∃ lane:Nat,vals=[.ref r]∧vs=[.ref b,.int (lane:Nat)]∧zc0 [.ref r,.ref b,.int (lane:Nat)] H Q E
theorem ziZ {H:Hp}{r fr er:Addr}{ps:List V}{N:Nt}{moves:List Nat}(ok:Nt.Ok N) (na:NetAt H r fr er ps N) (lt:∀ m∈moves,m<N.lanes):Led zbV [.ref r] (zaK N) (OkP N) moves H:=fun H1 s b m Q t os mm kb q1 q2 =>
 ⟨r,b,m,rfl,rfl,r,fr,er,ps,N,b,s,m,rfl,ok,na.tups t,kb,os,lt m mm,q1,q2⟩
def TabQ (q:Str) (Pt:Addr) (H:Hp):Prop:=∃ l,H Pt=some (.tbl (triples l).toArray)∧TabOk H q l
theorem TabQ.keep {q:Str}{Pt:Addr}{H H':Hp}(t:TabQ q Pt H) (k:∀ b o,H b=some o→(∃ ps,o=.tbl ps)∨(∃ u v,o=.frz u v)→H' b=some o):TabQ q Pt H':=by
 obtain⟨l,h1,h2⟩:=t
 exact⟨l,k _ _ h1 (.inl ⟨_,rfl⟩),h2.frz fun b o u e=>k _ _ e (.inr ⟨_,_,rfl⟩)⟩
theorem TabQ.same {q:Str}{Pt:Addr}{H H':Hp}(t:TabQ q Pt H) (s:Same H H'):TabQ q Pt H':=t.keep fun b o e _=>s b o e
theorem TabQ.but {q:Str}{Pt l:Addr}{H H':Hp}{xs:List V}(t:TabQ q Pt H) (b:But l H H') (h:H l=some (.lst xs)):TabQ q Pt H':=t.keep fun c o e z=>b c o e fun y=>by
 rw[y,h]at e
 cases e
 rcases z with ⟨_,z⟩|⟨_,_,z⟩<;>cases z
def zbg (N:Nt) (moves:List Nat) (most:Nat):LRes:=zas (zaK N) moves most (most+1) [(stK (List.replicate N.forks.length 0) [0],List.replicate N.lanes 0)] [] []
def TellV (H:Hp) (p:Addr):LRes→Prop
 | .opn=>H p=some (.tup [.str "open",.non])
 | .brk c=>∃ b,H p=some (.tup [.str "breaks",.ref b])∧H b=some (.tup (c.map V.int))
 | .whl ls=>∃ b bs ks,H p=some (.tup [.str "stair",.ref b])∧H b=some (.tup (List.map V.ref bs))∧KeysAt H bs ks∧BookOf ks ls
def zc2:Sp:=fun vs H Q _=>∃ r fr er ps N,vs=[.ref r]∧Nt.Ok N∧NetAt H r fr er ps N∧∀ p H',Same H H'→H' p=some (.tup ((List.replicate N.forks.length (0:Int)).map V.int))→Q (.ref p) H'
def zc3:Sp:=fun vs H Q _=>∃ r fr er ps N,vs=[.ref r]∧Nt.Ok N∧NetAt H r fr er ps N∧∀ p H',Same H H'→NKey H' (stK (List.replicate N.forks.length 0) [0]) p→Q (.ref p) H'
def zcd (q:Str) (Pt:Addr):Sp:=fun vs H Q _=>∃ r fr er ps N sm,∃ (moves:List Nat) (most:Nat),vs=[.ref r,.ref sm,.int (most:Nat)]∧Nt.Ok N∧NetAt H r fr er ps N∧H sm=some (.tup (moves.map fun m=>V.int (m:Nat)))∧(∀ m∈moves,m<N.lanes)∧moves.length≤16∧0<most∧(most≤10000∨moves.length≤1∧most≤100000)∧TabQ q Pt H ∧
 ∀ p H',But Pt H H'→TabQ q Pt H'→TellV H' p (zbg N moves most)→Q (.ref p) H'
structure Whole (Ok:KN→Prop) (most:Nat) (ls:List LvL):Prop where
 ok:∀ lv∈ls,∀ p∈lv,Ok p.1
 few:(ls.map List.length).sum≤most
theorem zcy {step:KN→Nat→Option KN}{Ok:KN→Prop}{moves:List Nat}{most:Nat}(hs:∀ s m t,Ok s→m∈moves→step s m=some t→Ok t):∀ (m:Nat) (level seen:LvL) (ls ls':List LvL),Whole Ok most ls→(ls.map List.length).sum=seen.length→seen.length≤most→(∀ p∈level,Ok p.1)→zas step moves most m level seen ls=.whl ls'→Whole Ok most ls'
 | 0,_,_,_,_,_,_,_,_,e=>by cases e
 | m+1,level,seen,ls,ls',wh,sm,le,lo,e=>by
  by_cases l0:level=[]
  ·subst l0;rw[zbd]at e;cases e;exact wh
  by_cases h:most<seen.length+level.length
  ·rw[zbL l0 h]at e;cases e
  by_cases f:(zaB step (seen++level) moves level).fl=[]
  ·rw[zbM l0 h f]at e
   have e2:((ls++[level]).map List.length).sum=(seen++level).length:=by rw[Y2,List.sum_append,sm,Ja];rfl
   refine zcy hs m _ (seen++level) _ ls' ⟨fun lv hl p hp=>?_,?_⟩ e2 (by rw[Ja];lia) (fun p hp=>?_) e
   ·rcases Js.mp hl with z|z
    ·exact wh.ok lv z p hp
    ·rw[Jd.mp z]at hp;exact lo p hp
   ·rw[e2,Ja];lia
   ·exact(zcj (step:=step) (seen:=seen++level) (moves:=moves) (Ok:=Ok) level fun p hp k hk t e=>hs _ _ _ (lo p hp) hk e).ok p hp
  ·rw[zbN l0 h f]at e;cases e
theorem zcU {step:KN→Nat→Option KN}{moves:List Nat}{most:Nat}(h1:moves.length≤1):∀ (m:Nat) (level seen:LvL) (ls ls':List LvL),(∀ lv∈ls,lv.length≤1)→level.length≤1→zas step moves most m level seen ls=.whl ls'→∀ lv∈ls',lv.length≤1
 | 0,_,_,_,_,_,_,e=>by cases e
 | m+1,level,seen,ls,ls',hl,l1,e=>by
  by_cases l0:level=[]
  ·subst l0;rw[zbd]at e;cases e;exact hl
  by_cases h:most<seen.length+level.length
  ·rw[zbL l0 h]at e;cases e
  by_cases f:(zaB step (seen++level) moves level).fl=[]
  ·rw[zbM l0 h f]at e
   refine zcU h1 m _ (seen++level) _ ls' (fun lv hv=>?_) ?_ e
   ·rcases Js.mp hv with z|z
    ·exact hl lv z
    ·rw[Jd.mp z];exact l1
   ·have:=ziM step (seen++level) moves level
    have:level.length*moves.length≤1*1:=Nat.mul_le_mul l1 h1
    lia
  ·rw[zbN l0 h f]at e;cases e
theorem TellR.kept {P:Program}{w:World}{H H':Hp}{p:Addr}{R:LRes}(h:TellR P w H p R) (k:∀ b o,H b=some o→(∀ q,o≠FZ q)→H' b=some o):TellR P w H' p R:=by
 have t:Tups H H':=fun b xs e=>k b _ e fun q z=>by cases z
 cases R with
 | opn=>exact t _ _ h
 | brk c=>obtain⟨b,h1,h2⟩:=h;exact⟨b,t _ _ h1,t _ _ h2⟩
 | whl ls =>
  obtain⟨l,as,h1,h2,h3⟩:=h
  refine⟨l,as,t _ _ h1,k _ _ h2 (fun q z=>by cases z),?_⟩
  clear h1 h2
  induction h3 with
  | nil=>exact .nil
  | cons q _ ih =>
   obtain⟨xs,e,le⟩:=q
   exact .cons ⟨xs,k _ _ e (fun q z=>by cases z),le.tups t⟩ ih
theorem zfQ {cs:List (Str × Addr)}{H:Hp}(fz:CellsFz cs H):∀ b o,H b=some o→(∀ q,o≠FZ q)→zaA cs H b=some o:=fun b o e n=>by
 rw[zak];· exact e
 ·intro hb
  obtain⟨q,z⟩:=fz b hb
  rw[e]at z
  exact n q (Option.some.inj z)
theorem zdI {N:Nt}(ok:Nt.Ok N):OkP N (stK (List.replicate N.forks.length 0) [0]):=⟨_,0,rfl,JU,fun t ht=>.inl (Zv ht),ok.l1⟩
end L2
namespace K41
open PySem L2 Own Bn
abbrev zek:Stmt:=top 9
abbrev zel:Stmt:=top 15
abbrev zgI:Stmt:=top 16
abbrev zgE:Stmt:=top 14
theorem zft (n:Nat):List.replicate n (V.int 0)=(List.replicate n (0:Int)).map V.int:=(List.map_replicate).symm
theorem zfO {ls:List LvL}{lv:LvL}(h:lv∈ls):lv.length≤(ls.map List.length).sum:=by
 induction ls with
 | nil=>cases h
 | cons a ls ih =>
  show lv.length≤a.length+(ls.map List.length).sum
  rcases List.mem_cons.mp h with rfl|z
  ·exact Nat.le_add_right _ _
  ·exact JY (ih z) (Nat.le_add_left _ _)
section
variable {P:Program}{w:World}{K:PySem.W.Frag}{mg:Str→Option Value}{base:Heap}
theorem scFt:FnScope ["net"] ["net"] (zae zek):=by trivial
theorem zg4 {f:Addr}{fd:FuncData}(F:Fun K "first_turns" "first_turns" zek f fd) (G:Mgs mg):FnOk P w K mg base CX0 1 f fd ["net"] zc2:=by
 refine F.ok scFt (fun vs H Q E h=>?_) (fun cdv A outer s H vs Q E hr h=>?_)
 ·obtain⟨r,fr,er,ps,N,rfl,_⟩:=h
  rfl
 obtain⟨r,fr,er,ps,N,rfl,ok,na,k⟩:=h
 refine⟨_,(@pss_one _ _ _ (@ps_ret _ _ _ _ (@pe_op _ _ _ _ _ _ _ _ zet (@pe_tup _ _ _ _ _ (@pa_cons _ _ _ _ _ pe_int pa_nil (by rfl))) (@pe_callB _ _ _ _ _ _ _ _ _ zah (by rfl) G.len PySem.boot_len (@pa_cons _ _ _ _ _ (@pe_ix _ _ _ _ _ _ _ ix_tup (@qv _ 0 _ _ (by trivial)) pe_int (fun _ _=>rfl)) pa_nil (by rfl)) (by decide) (by decide) (by rfl) (by rfl))))),?_⟩
 refine⟨by show 1≤sizeLine;decide,fun t ht=>?_⟩
 have s1:=zaa ht (.tup [.int 0])
 have pl:=na.prs.len
 have fm:=ok.fm
 refine⟨_,rfl,r,_,_,_,rfl,rfl,SqT.of (s1 _ _ na.net),rfl,fr,ps,rfl,.inr (SqT.of (s1 _ _ na.forks)),t,_,ps.length,rfl,rfl,zac,by lia,fun p H' s' h'=>k p H' (s1.trans s') ?_⟩
 rw[h',zft,pl]
theorem scFp:FnScope ["net"] ["net"] (zae zel):=by trivial
theorem zg5 {f fT:Addr}{fd dT:FuncData}(F:Fun K "first_pair" "first_pair" zel f fd) (UT:Use P w K mg base "first_turns" ["net"] 1 zc2 fT dT):FnOk P w K mg base CX0 2 f fd ["net"] zc3:=by
 refine F.ok scFp (fun vs H Q E h=>?_) (fun cdv A outer s H vs Q E hr h=>?_)
 ·obtain⟨r,fr,er,ps,N,rfl,_⟩:=h
  rfl
 obtain⟨r,fr,er,ps,N,rfl,ok,na,k⟩:=h
 refine⟨_,(@pss_one _ _ _ (@ps_ret _ _ _ _ (@pe_tup _ _ _ _ _ (@pa_cons _ _ _ _ _ (@pe_call _ _ _ _ _ _ _ _ _ _ _ _ _ _ _ _ UT.ok hr (by rfl) UT.m UT.kp UT.b .nil pass0 (@pa_cons _ _ _ _ _ (@qv _ 0 _ _ (by trivial)) pa_nil (by rfl)) (by decide) (by rfl) (by rfl)) (@pa_cons _ _ _ _ _ pe_int pa_nil (by rfl)) (by rfl))))),?_⟩
 refine⟨_,rfl,r,fr,er,ps,N,rfl,ok,na,fun t H1 s1 h1=>⟨by show 2≤sizeLine;decide,fun p hp=>?_⟩⟩
 have s2:=zaa hp (.tup [.ref t,.int 0])
 exact k p _ (s1.trans s2) (zkI (is:=[0]) (t:=t) zac (s2 _ _ h1))
theorem scPb:FnScope ["net","pair","lane","turns","rest","onward","end"] ["net","pair","lane"] (zae zgI):=by trivial
theorem ziF {f fP:Addr}{fd dP:FuncData}(F:Fun K "pair_behind" "pair_behind" zgI f fd) (UP:Use P w K mg base "passed" ["net","turns","lane"] 3 (ze4 false) fP dP):FnOk P w K mg base CX0 4 f fd ["net","pair","lane"] zc0:=by
 refine F.ok scPb (fun vs H Q E h=>?_) (fun cdv A outer s H vs Q E hr h=>?_)
 ·obtain⟨r,fr,er,ps,N,b,k,lane,rfl,_⟩:=h
  rfl
 obtain⟨r,fr,er,ps,N,b,k,lane,rfl,ok,na,kb,⟨ts,rest,rfl,tl,bits,rl⟩,ll,q1,q2⟩:=h
 refine⟨_,(@pss_cons _ _ _ _ _ (@ps_asg _ _ _ _ _ _ (@qv _ 1 _ _ (by trivial)) (@pg_tup _ _ _ _ _ _ rfl (@pgs_cons _ _ _ _ _ (@pg_name _ _ 3 _ scPb.nd rfl (.inl rfl) (by first|exact .inl rfl|exact .inr rfl|assumption)) (@pgs_cons _ _ _ _ _ (@pg_name _ _ 4 _ scPb.nd rfl (.inl rfl) (by first|exact .inl rfl|exact .inr rfl|assumption)) pgs_nil (by rfl)) (by rfl)) (by rfl) (by rfl)) (by rfl) (by rfl) (by rfl)) (@pss_cons _ _ _ _ _ (@ps_asg _ _ _ _ _ _ (@pe_call _ _ _ _ _ _ _ _ _ _ _ _ _ _ _ _ UP.ok hr (by rfl) UP.m UP.kp UP.b .nil pass0 (@pa_cons _ _ _ _ _ (@qv _ 0 _ _ (by trivial)) (@pa_cons _ _ _ _ _ (@qv _ 3 _ _ (by trivial)) (@pa_cons _ _ _ _ _ (@qv _ 2 _ _ (by trivial)) pa_nil (by rfl)) (by rfl)) (by rfl)) (by decide) (by rfl) (by rfl)) (@pg_tup _ _ _ _ _ _ rfl (@pgs_cons _ _ _ _ _ (@pg_name _ _ 5 _ scPb.nd rfl (.inl rfl) (by first|exact .inl rfl|exact .inr rfl|assumption)) (@pgs_cons _ _ _ _ _ (@pg_name _ _ 6 _ scPb.nd rfl (.inl rfl) (by first|exact .inl rfl|exact .inr rfl|assumption)) pgs_nil (by rfl)) (by rfl)) (by rfl) (by rfl)) (by rfl) (by rfl) (by rfl)) (@pss_cons _ _ _ _ _ (@ps_if _ _ _ _ _ _ _ _ (@pt_cmpR _ _ _ _ _ _ _ _ op_ne (@qv _ 6 _ _ (by trivial)) (@qv _ 4 _ _ (by trivial)) (nomark _)) (@pss_one _ _ _ (@ps_ret _ _ _ _ pe_non)) pss_nil) (@pss_one _ _ _ (@ps_ret _ _ _ _ (@pe_tup _ _ _ _ _ (@pa_cons _ _ _ _ _ (@qv _ 5 _ _ (by trivial)) (@pa_cons _ _ _ _ _ (@pe_op _ _ _ _ _ _ _ _ op_mod (@pe_op _ _ _ _ _ _ _ _ op_add (@qv _ 4 _ _ (by trivial)) pe_int) (@pe_ix _ _ _ _ _ _ _ ix_tup (@qv _ 0 _ _ (by trivial)) pe_int (fun _ _=>rfl))) pa_nil (by rfl)) (by rfl)))))))),?_⟩
 obtain⟨t,hb,ht⟩:=zgw kb
 refine⟨_,rfl,b,_,rfl,SqT.of hb,rfl,_,_,rfl,_,_,rfl,rfl,?_⟩
 refine⟨_,rfl,_,rfl,_,rfl,r,fr,er,ps,N,t,ts,lane,rfl,ok,na,ht,tl,bits,ll,fun p tr' H1 s1 hp htr=>?_⟩
 refine⟨p,_,rfl,SqT.of hp,rfl,_,_,rfl,_,_,rfl,rfl,?_⟩
 have st:zaK N (stK ts [(rest:Nat)]) lane=if ((passE N ts lane:Nat):Int)=(rest:Nat) then some (stK (zdc N ts lane) [((rest:Nat)+1)%(N.lanes:Nat)]) else none:=rfl
 refine⟨_,rfl,_,rfl,rfl,_,rfl,?_⟩
 by_cases c:((passE N ts lane:Nat):Int)=(rest:Nat)
 ·rw[Jf c]at st
  have c':((List.idxOf (zam false N.forks ts lane N.forks.length).snd N.ends:Nat):Int)=(rest:Nat):=c
  rw[show (!decide (V.int ↑(List.idxOf (zam false N.forks ts lane N.forks.length).snd N.ends)=V.int ↑rest))=false from by rw[Jz (JJ V.int c')];rfl]
  refine iteF ⟨_,rfl,_,rfl,_,_,rfl,rfl,_,rfl,r,_,_,_,rfl,rfl,SqT.of (s1 _ _ na.net),rfl,_,_,rfl,rfl,by have:=ok.l1;lia,by show 2≤sizeLine;decide,fun q hq=>?_⟩
  have s2:=zaa hq (.tup [.ref tr',.int (((rest:Nat)+1)%(N.lanes:Nat))])
  exact q2 _ q _ (s1.trans s2) st (zkI (is:=[((rest:Nat)+1)%(N.lanes:Nat)]) (t:=tr') zac (s2 _ _ htr))
 ·rw[Jc c]at st
  rw[show (!decide (V.int ↑(List.idxOf (zam false N.forks ts lane N.forks.length).snd N.ends)=V.int ↑rest))=true from by rw[Jq (fun z=>c (by injection z))];rfl]
  exact iteT (q1 _ s1 st)
def zlQ (q:Str):Stmt→Lam
 | .Assign _ (.Call _ (_::_::_::.Lambda p b s _::_) _ _) _=>⟨p,b,s,q⟩
 | _=>⟨⟨[],[],none,[],[],none,[]⟩,.Name "" ⟨0,0,0,0⟩,zae zgE,q⟩
def lamV (q:Str):Lam:=zlQ q ((zaH zgE).getD 0 (.Pass ⟨0,0,0,0⟩))
theorem zkM {us:List Value}(h:us.length=2):∃ u v,us=[u,v]:=by
 match us,h with
 | [u,v],_=>exact⟨u,v,rfl⟩
theorem zkq {l:List (Str × NameKind)}{x:Str}{k:NameKind}(h:l.lookup x=some k):(x,k)∈l:=by
 obtain⟨a,c,e,_⟩:=List.lookup_eq_some_iff.mp h
 rw[e]
 exact Js.mpr (.inr (.head _))
theorem scLV:LamScope ["pair","lane"] ["net"] (lamV "").scope:=⟨rfl,rfl,rfl,by decide +kernel,by decide +kernel,by decide +kernel,by decide +kernel,fun x hx=>(show ∀ y∈(lamV "").scope.names,y.2=.free→y.1∈[("net":Str)] from by decide +kernel) _ (zkq hx) rfl⟩
theorem zi4 (q:Str) {f:Addr}{fd:FuncData}(UB:Use P w K mg base "pair_behind" ["net","pair","lane"] 4 zc0 f fd):LamQ CX0 P w K mg base 4 (lamV q) ["net"] ["pair","lane"] zbV:=by
 refine⟨scLV,fun vals vs H Q E h=>?_,fun cl us hl pm cdv ct=>by obtain⟨u,v,rfl⟩:=zkM hl;rfl,fun cl f' c A outer s H vals vs Q E ec hr fz h=>?_⟩
 ·obtain⟨r,b,lane,_,rfl,_⟩:=h
  rfl
 obtain⟨r,b,lane,rfl,rfl,h⟩:=h
 refine⟨_,pe_call UB.ok hr (by rfl) UB.m UB.kp UB.b .nil pass0 (pa_cons (pv 2) (pa_cons (pv 0) (pa_cons (pv 1) pa_nil))),?_⟩
 exact⟨_,rfl,_,rfl,_,rfl,h⟩
theorem zi9 {sc:Scope}{x0:Str}{env:Env}(h:(sc.names.filter fun y=>y.2 == .free)=[(x0,.free)]) (k:env.kindOf x0=some .cell):∀ x,(x,NameKind.free)∈sc.names→env.kindOf x=some .cell∨env.kindOf x=some .free:=fun x hx=>by
 have z:(x,NameKind.free)∈sc.names.filter fun y=>y.2 == .free:=List.mem_filter.mpr ⟨hx,rfl⟩
 rw[h]at z
 obtain⟨e,_⟩:=Prod.mk.inj (Jd.mp z)
 exact .inl (e ▸ k)
theorem zlk {X:Cx}{x:Str}{i:Nat}(h1:X.N[i]?=some x) (h2:X.env.scope.names.lookup x=some .cell) (h3:X.fn x=true):∀ p∈[(x,i)],X.N[p.2]?=some p.1∧X.env.scope.names.lookup p.1=some .cell∧X.fn p.1=true:=fun p hp=>by
 rw[Jd.mp hp]
 exact⟨h1,h2,h3⟩
theorem zfi {cs:List (Str × Addr)}{x:Str}(h:cs.map (·.1)=[x]):∃ c,cs=[(x,c)]:=by
 match cs,h with
 | [(y,c)],h=>exact⟨c,by rw[show y=x from (List.cons.inj h).1]⟩
def qV:Str:=("verdict":Str)++(".<locals>.":Str)++("<lambda>":Str)
theorem scVd:FnScope ["net","some","most","word","found"] ["net","some","most"] (zae zgE):=by trivial
theorem zf0 {f fC fF fB c Pt:Addr}{fd dC dF dB:FuncData}(F:FunC K "verdict" "verdict" zgE f fd c) (CK:CodeK K mg base c Pt) (UC:Use P w K mg base "climbed" ["first","counts","moves","led","most"] 7 (zeh P w K (lamV qV) ["net"] zbV) fC dC) (UF:Use P w K mg base "first_pair" ["net"] 2 zc3 fF dF)
  (UB:∀ F0,Use P w K mg base "book_of" ["levels"] 1 (zjr P w F0 1) fB dB):FnOk P w K mg base CX0 8 f fd ["net","some","most"] (zcd qV Pt):=by
 refine F.ok scVd (fun vs H Q E h=>?_) (fun A outer s H vs Q E hr h=>?_)
 ·obtain⟨r,fr,er,ps,N,sm,moves,most,rfl,_⟩:=h
  rfl
 obtain⟨r,fr,er,ps,N,sm,moves,most,rfl,ok,na,hsm,mlt,ml,mp,mb,tab,k⟩:=h
 refine⟨_,(@pss_cons _ _ _ _ _ (@ps_asg _ _ _ _ _ _ (ziy (E:=E0) UC.ok hr (by rfl) UC.m UC.kp UC.b [("net",0)] (by decide) (zlk rfl rfl rfl) (@pa_cons _ _ _ _ _ (@pe_call _ _ _ _ _ _ _ _ _ _ _ _ _ _ _ _ UF.ok (hr.mono (by decide)) (by rfl) UF.m UF.kp UF.b .nil pass0 (@pa_cons _ _ _ _ _ (@qv _ 0 _ _ (by trivial)) pa_nil (by rfl)) (by decide) (by rfl) (by rfl)) (@pa_cons _ _ _ _ _ (@pe_op _ _ _ _ _ _ _ _ zet (@pe_tup _ _ _ _ _ (@pa_cons _ _ _ _ _ pe_int pa_nil (by rfl))) (@pe_ix _ _ _ _ _ _ _ ix_tup (@qv _ 0 _ _ (by trivial)) pe_int (fun _ _=>rfl))) (@pa_cons _ _ _ _ _ (@qv _ 1 _ _ (by trivial)) (@pa_cons _ _ _ _ _ (zkZ (fr:=["net"]) CK rfl rfl (zi9 (x0:="net") rfl rfl) rfl) (@pa_cons _ _ _ _ _ (@qv _ 2 _ _ (by trivial)) pa_nil (by rfl)) (by rfl)) (by rfl)) (by rfl)) (by rfl))) (@pg_tup _ _ _ _ _ _ rfl (@pgs_cons _ _ _ _ _ (@pg_name _ _ 3 _ scVd.nd rfl (.inl rfl) (by first|exact .inl rfl|exact .inr rfl|assumption)) (@pgs_cons _ _ _ _ _ (@pg_name _ _ 4 _ scVd.nd rfl (.inl rfl) (by first|exact .inl rfl|exact .inr rfl|assumption)) pgs_nil (by rfl)) (by rfl)) (by rfl) (by rfl)) (by rfl) (by rfl) (by rfl)) (@pss_cons _ _ _ _ _ (@ps_if _ _ _ _ _ _ _ _ (@pt_cmpR _ _ _ _ _ _ _ _ op_eq (@qv _ 3 _ _ (by trivial)) zb2 (nomark _)) (@pss_one _ _ _ (@ps_ret _ _ _ _ (@pe_tup _ _ _ _ _ (@pa_cons _ _ _ _ _ zb2 (@pa_cons _ _ _ _ _ (@pe_call _ _ _ _ _ _ _ _ _ _ _ _ _ _ _ _ (UB N.forks.length).ok (hr.mono (by decide)) (by rfl) (UB 0).m (UB 0).kp (UB 0).b .nil pass0 (@pa_cons _ _ _ _ _ (@qv _ 4 _ _ (by trivial)) pa_nil (by rfl)) (by decide) (by rfl) (by rfl)) pa_nil (by rfl)) (by rfl))))) pss_nil) (@pss_one _ _ _ (@ps_ret _ _ _ _ (@pe_tup _ _ _ _ _ (@pa_cons _ _ _ _ _ (@qv _ 3 _ _ (by trivial)) (@pa_cons _ _ _ _ _ (@qv _ 4 _ _ (by trivial)) pa_nil (by rfl)) (by rfl))))))),?_⟩
 have l16:=ok.l16
 refine⟨_,rfl,r,fr,er,ps,N,rfl,ok,na,fun b0 H1 s1 k1=>⟨by show 1≤sizeLine;decide,fun t ht=>?_⟩⟩
 have s2:=zaa ht (.tup [.int 0])
 refine⟨_,rfl,r,_,_,_,rfl,rfl,SqT.of (s2 _ _ (s1 _ _ na.net)),rfl,t,_,N.lanes,rfl,rfl,zac,by lia,fun c0 H2 s3 h3=>?_⟩
 rw[zft]at h3
 have u2:=(s1.trans s2).trans s3
 obtain⟨l,hP,tok⟩:=tab.same u2
 refine⟨_,rfl,l,hP,tok,fun fL cl l' H3 ecl cof hf raw hP' tok' kp=>?_⟩
 refine⟨_,rfl,[.ref r],rfl,fun j x i v hx hv=>?_,fun cs H4 ecs cof2 nd ca out fre=>?_⟩
 ·cases j with
  | zero=>cases hx;cases hv;rfl
  | succ j=>cases hx
 obtain⟨c1,rfl⟩:=zfi ecl
 obtain⟨c2,rfl⟩:=zfi ecs
 have cc:c1=c2:=Option.some.inj ((cof _ (.head _)).symm.trans (cof2 _ (.head _)))
 subst cc
 have b3:But Pt H H3:=fun b o e n=>kp b o (u2 b o e) n
 have s34:Same H3 H4:=fun b o e=>by
  rw[out b fun hb=>by rw[fre b hb]at e;cases e];exact e
 have na4:NetAt H4 r fr er ps N:=(na.tups (Tups.of u2)).tups fun b xs e=>s34 _ _ (kp _ _ e (zbC e hP fun z=>by cases z))
 have t24:Tups H2 H4:=fun b xs e=>s34 _ _ (kp _ _ e (zbC e hP fun z=>by cases z))
 have raw4:LamRaw H4 fL (lamV qV) [("net",c1)]:=by
  obtain⟨pm,cd,ct,oc,fs,tk,r1,r2,r3,r4⟩:=raw.ex
  exact⟨pm,cd,ct,oc,fs,tk,s34 _ _ r1,s34 _ _ r2,r3,r4⟩
 have la:LamAt H4 fL (lamV qV) [("net",c1)] [.ref r]:=raw4.at_ ca (JL.mpr ⟨Jt,Yw⟩) (JL.mpr ⟨Jt,Yw⟩) rfl fun i x c v hx hv=>⟨i,hx,hv⟩
 have W:Way K H4 sm fL (lamV qV) ["net"] zbV [("net",c1)] [.ref r] (zaK N) (OkP N) moves N.lanes:=⟨.inl (t24 _ _ (u2 _ _ hsm)),rfl,la,ziZ ok na4 mlt,mlt,fun s m t os _ e=>ze2 ok os e,by lia⟩
 refine⟨b0,c0,sm,fL,_,List.replicate N.lanes 0,moves,[("net",c1)],[.ref r],zaK N,OkP N,N.lanes,most,rfl,(k1.tups (Tups.of (s2.trans s3))).tups t24,t24 _ _ h3,JU,zdI ok,W,by lia,ml,mp,fun p H5 s5 tell=>?_⟩
 have fz5:CellsFz [("net",c1)] H5:=fun b hb=>by
  obtain⟨o,z⟩:=ca.fz b hb
  exact⟨o,s5 _ _ z⟩
 replace tell:=TellR.kept tell (zfQ fz5)
 have s36:Same H3 (zaA [("net",c1)] H5):=fun b o e=>by
  rw[zak fun hb=>by rw[fre b hb]at e;cases e]
  exact s5 _ _ (s34 _ _ e)
 have b6:But Pt H (zaA [("net",c1)] H5):=b3.trans (But.of s36)
 have tab6:TabQ qV Pt (zaA [("net",c1)] H5):=TabQ.same ⟨l',hP',tok'⟩ s36
 show gTup _ _ _ _ _ (zaA [("net",c1)] H5) _
 generalize zaA [("net",c1)] H5=H6 at *
 have fin:∀ (q:Addr) (vs:List V) (R:LRes),H6 q=none→zbg N moves most=R→TellV (L2.upd H6 q (.tup vs)) q R→Q (.ref q) (L2.upd H6 q (.tup vs)):=fun q vs R hq e z=>by
  have s7:=zaa hq (.tup vs)
  refine k q _ (b6.trans (But.of s7)) (tab6.same s7) ?_
  rw[e];exact z
 change TellR P w H6 p (zbg N moves most) at tell
 cases hR:zbg N moves most with
 | opn =>
  rw[hR]at tell
  refine⟨p,_,rfl,SqT.of tell,rfl,_,_,rfl,_,_,rfl,rfl,?_⟩
  refine⟨_,rfl,rfl,false,JJ V.bl (Jq fun z=>absurd (V.str.inj z) (by decide)),iteF ?_⟩
  exact⟨_,rfl,_,rfl,by show 2≤sizeLine;decide,fun q hq=>fin q _ .opn hq hR zac⟩
 | brk bc =>
  rw[hR]at tell
  obtain⟨b,h1,h2⟩:=tell
  refine⟨p,_,rfl,SqT.of h1,rfl,_,_,rfl,_,_,rfl,rfl,?_⟩
  refine⟨_,rfl,rfl,false,JJ V.bl (Jq fun z=>absurd (V.str.inj z) (by decide)),iteF ?_⟩
  exact⟨_,rfl,_,rfl,by show 2≤sizeLine;decide,fun q hq=>fin q _ (.brk bc) hq hR ⟨b,zac,zaa hq _ _ _ h2⟩⟩
 | whl ls =>
  rw[hR]at tell
  obtain⟨ll,as,h1,h2,h3⟩:=tell
  refine⟨p,_,rfl,SqT.of h1,rfl,_,_,rfl,_,_,rfl,rfl,?_⟩
  refine⟨_,rfl,rfl,true,JJ V.bl (Jz rfl),iteT ?_⟩
  have wh:=zcy (Ok:=OkP N) (moves:=moves) (fun s m t os _ e=>ze2 ok os e) _ _ [] [] ls ⟨fun lv hl=>absurd hl Jt,JH _⟩ rfl (JH _) (fun p hp=>by rw[Jd.mp hp];exact zdI ok) hR
  have thin:moves.length≤1→∀ lv∈ls,lv.length≤1:=fun h1=>zcU h1 _ _ [] [] ls (fun lv hl=>absurd hl Jt) (Jg _) hR
  have wf:=wh.few
  refine⟨_,rfl,ll,as,ls,rfl,h2,h3,fun lv hl=>⟨?_,fun p hp=>(wh.ok lv hl p hp).st ok⟩,by lia,fun q bs ks H7 s7 hq kat bk=>?_⟩
  ·rcases mb with z|z
   ·have:=zfO hl
    lia
   ·have:=thin z.1 lv hl
    lia
  refine⟨by show 2≤sizeLine;decide,fun q2 hq2=>?_⟩
  have s8:=zaa hq2 (.tup [.str "stair",.ref q])
  refine k q2 _ ((b6.trans (But.of s7)).trans (But.of s8)) ((tab6.same s7).same s8) ?_
  rw[hR]
  exact⟨q,bs,ks,zac,s8 _ _ hq,kat.tups (Tups.of s8),bk⟩
end
end K41
namespace Bn
open PySem L2 Own
theorem zcR {α:Type}:∀ (xs:List α) (k:Nat) (h:k<xs.length),(xs[k]::xs.eraseIdx k).Perm xs
 | x::xs,0,_=>.refl _
 | x::xs,k+1,h=>by
  have hk:k<xs.length:=by simpa using h
  have ih:=zcR xs k hk
  exact(List.Perm.swap x xs[k] _).trans (ih.cons x)
end Bn
namespace L2
open PySem
theorem zhB {c:TT}{ta tb u:TS}{D:Ends}{σ:St}{H:Hp}(I:St→Hp→Prop) (key:∀ σ H,I σ H→u D σ H) (h:∀ D':Ends,(∀ σ H,I σ H→D'.nx σ H)→D'.rt=D.rt→tIfS c ta tb D' σ H):tSeq (tIfS c ta tb) u D σ H:=h { D with nx:=u D } key rfl
theorem zlX {v:V}{i:Nat}{u:TS}{D:Ends}{σ:St}{H:Hp}(h:u D (σ.set i (some v)) H):tSeq (tAsg (tC v) (zeJ i)) u D σ H:=h
theorem zbj {H H':Hp}{x:Addr}(s:Same H H') (h:H' x=none):H x=none:=by
 cases e:H x with
 | none=>rfl
 | some o=>rw[s _ _ e]at h;cases h
def zj2 (K:PySem.W.Frag):List V→Hp→VK→Prop:=fun xs H Q=>∃ p ys,xs=[V.ref p]∧(SqL K H p ys∨SqT K H p ys)∧Q (V.int ys.length) H
theorem zd2 {X:Cx}:CallR X (.builtin "len") (zj2 X.K):=zah
end L2
namespace Bn
open PySem L2 Own
structure Pk3 (H:Hp) (l:Addr):Prop where
 ex:∃ a b c:Int,H l=some (.lst [.int a,.int b,.int c])∧0≤a∧0≤b∧b<2 ^ 31
theorem Pk3.keep {H H':Hp}{l:Addr}(S:Pk3 H l) (s:Same H H'):Pk3 H' l:=by
 obtain⟨a,b,c,h,r⟩:=S.ex
 exact⟨a,b,c,s _ _ h,r⟩
theorem Pk3.lst {H:Hp}{l:Addr}(S:Pk3 H l):∃ xs,H l=some (.lst xs):=by
 obtain⟨a,b,c,h,_⟩:=S.ex
 exact⟨_,h⟩
theorem Pk3.ne {H:Hp}{l p:Addr}(S:Pk3 H l) (h:H p=none):l≠p:=by
 obtain⟨xs,e⟩:=S.lst
 exact zab e h
theorem Pk3.upd {H:Hp}{l p:Addr}{o:HO}(S:Pk3 H l) (h:l≠p):Pk3 (upd H p o) l:=by
 obtain⟨a,b,c,e,r⟩:=S.ex
 exact⟨a,b,c,by rw[zad h];exact e,r⟩
theorem But.tups3 {H H':Hp}{l:Addr}(x:But l H H') (S:Pk3 H l):Tups H H':=fun a xs e=>x a _ e (by
 rintro rfl
 obtain⟨_,z⟩:=S.lst
 rw[z]at e;cases e)
def zef (K:PySem.W.Frag):Sp:=fun vs H Q _=>∃ (a:Addr) (ns:List Int) (k:Int),vs=[.ref a,.int k]∧SqL K H a (ns.map V.int)∧ns.length≤63∧0≤k∧k≤1000∧∀ l H',H l=none→Same H H'→Pk3 H' l→Q (.ref l) H'
def za6:Sp:=fun vs H Q _=>∃ (l:Addr) (m:Int),vs=[.ref l,.int m]∧0<m∧m<1073741824∧Pk3 H l∧∀ (v:Nat) H',(v:Int)<m→Pk3 H' l→But l H H'→Q (.int v) H'
def zc1:Sp:=fun vs H Q _=>∃ (l p:Addr) (xs:List V),vs=[.ref l,.ref p]∧H p=some (.lst xs)∧xs.length≤100000∧Pk3 H l∧∀ t ys H',ys.Perm xs→H' t=some (.tup ys)→Pk3 H' l→But l H H'→Q (.ref t) H'
theorem zdG {ys:List V}{es:List Nat}(p:ys.Perm (nums es)):∃ ds:List Nat,ys=nums ds∧ds.Perm es:=by
 have key:∀ {ys zs:List V},ys.Perm zs→∀ {es:List Nat},zs=nums es→∃ ds:List Nat,ys=nums ds∧ds.Perm es:=by
  intro ys zs p
  induction p with
  | nil=>intro es e;cases es with
   | nil=>exact⟨[],rfl,.refl _⟩
   | cons a b=>cases e
  | cons b _ ih =>
   intro es e
   cases es with
   | nil=>cases e
   | cons a zs =>
    injection e with e1 e2
    obtain⟨cs,h1,h2⟩:=ih e2
    exact⟨a::cs,by rw[h1,e1];rfl,h2.cons _⟩
  | swap b c l =>
   intro es e
   cases es with
   | nil=>cases e
   | cons a zs=>cases zs with
    | nil=>cases e
    | cons d zs =>
     injection e with e1 e2
     injection e2 with e2 e3
     exact⟨d::a::zs,by rw[e1,e2,e3];rfl,.swap _ _ _⟩
  | trans _ _ ih1 ih2 =>
   intro es e
   obtain⟨cs,h1,h2⟩:=ih2 e
   obtain⟨ds,g1,g2⟩:=ih1 h1
   exact⟨ds,g1,g2.trans h2⟩
 exact key p rfl
end Bn
namespace K41
open PySem L2 Own Bn
abbrev zjX:Stmt:=top 18
abbrev zjU:Stmt:=top 19
abbrev zgK:Stmt:=top 20
section
variable {P:Program}{w:World}{K:PySem.W.Frag}{mg:Str→Option Value}{base:Heap}
theorem scK:FnScope ["_law_left_here","_law_many","_law_digit"] ["_law_left_here","_law_many"] (zae zjU):=by trivial
theorem zkc {f:Addr}{fd:FuncData}(F:Fun K "_law_pick" "_law_pick" zjU f fd):FnOk P w K mg base CX0 1 f fd ["_law_left_here","_law_many"] za6:=by
 refine F.ok scK (fun vs H Q E h=>?_) (fun cdv A outer s H vs Q E hr h=>?_)
 ·obtain⟨l,m,rfl,_⟩:=h
  rfl
 obtain⟨l,m,rfl,m0,m1,S,k⟩:=h
 obtain⟨a,b,c,hl,a0,b0,b1⟩:=S.ex
 refine⟨_,(@pss_cons _ _ _ _ _ (@ps_if _ _ _ _ _ _ _ _ (@pt_cmpR _ _ _ _ _ _ _ _ ziA (@pe_ix _ _ _ _ _ _ _ ix_list (@qv _ 0 _ _ (by trivial)) pe_int (fun _ _=>rfl)) pe_int (nomark _)) (@pss_cons _ _ _ _ _ (@ps_set _ _ 2 _ _ _ _ scK.nd rfl (.inl rfl) (@pe_op _ _ _ _ _ _ _ _ op_mod (@pe_ix _ _ _ _ _ _ _ ix_list (@qv _ 0 _ _ (by trivial)) pe_int (fun _ _=>rfl)) (@qv _ 1 _ _ (by trivial))) (by rfl) (by first|exact .inl rfl|exact .inr rfl|assumption)) (@pss_cons _ _ _ _ _ (@ps_asg _ _ _ _ _ _ (@pe_op _ _ _ _ _ _ _ _ op_fdiv (@pe_ix _ _ _ _ _ _ _ ix_list (@qv _ 0 _ _ (by trivial)) pe_int (fun _ _=>rfl)) (@qv _ 1 _ _ (by trivial))) (@pg_sub _ _ _ _ _ _ _ (@qv _ 0 _ _ (by trivial)) pe_int set_list (by intro _;rfl)) (by rfl) (by rfl) (by rfl)) (@pss_one _ _ _ (@ps_ret _ _ _ _ (@qv _ 2 _ _ (by trivial)))))) pss_nil) (@pss_cons _ _ _ _ _ (@ps_asg _ _ _ _ _ _ (@pe_op _ _ _ _ _ _ _ _ op_add (@pe_ix _ _ _ _ _ _ _ ix_list (@qv _ 0 _ _ (by trivial)) pe_int (fun _ _=>rfl)) pe_int) (@pg_sub _ _ _ _ _ _ _ (@qv _ 0 _ _ (by trivial)) pe_int set_list (by intro _;rfl)) (by rfl) (by rfl) (by rfl)) (@pss_cons _ _ _ _ _ (@ps_asg _ _ _ _ _ _ (@pe_op _ _ _ _ _ _ _ _ op_mod (@pe_op _ _ _ _ _ _ _ _ op_add (@pe_op _ _ _ _ _ _ _ _ op_add (@pe_op _ _ _ _ _ _ _ _ op_mul (@pe_ix _ _ _ _ _ _ _ ix_list (@qv _ 0 _ _ (by trivial)) pe_int (fun _ _=>rfl)) pe_int) pe_int) (@pe_ix _ _ _ _ _ _ _ ix_list (@qv _ 0 _ _ (by trivial)) pe_int (fun _ _=>rfl))) pe_int) (@pg_sub _ _ _ _ _ _ _ (@qv _ 0 _ _ (by trivial)) pe_int set_list (by intro _;rfl)) (by rfl) (by rfl) (by rfl)) (@pss_one _ _ _ (@ps_ret _ _ _ _ (@pe_op _ _ _ _ _ _ _ _ op_mod (@pe_op _ _ _ _ _ _ _ _ op_fdiv (@pe_op _ _ _ _ _ _ _ _ op_mod (@pe_op _ _ _ _ _ _ _ _ op_mul (@pe_ix _ _ _ _ _ _ _ ix_list (@qv _ 0 _ _ (by trivial)) pe_int (fun _ _=>rfl)) (@pe_ix _ _ _ _ _ _ _ ix_list (@qv _ 0 _ _ (by trivial)) pe_int (fun _ _=>rfl))) pe_int) pe_int) (@qv _ 1 _ _ (by trivial)))))))),?_⟩
 have fin:∀ (x:Int) (H':Hp),0≤x→x<m→Pk3 H' l→But l H H'→Q (.int x) H':=fun x H' x0 x1 S' B'=>by
  obtain⟨v,rfl⟩:=Int.eq_ofNat_of_zero_le x0
  exact k v H' x1 S' B'
 refine⟨_,rfl,l,_,_,_,rfl,rfl,SqL.of hl,rfl,_,_,rfl,rfl,_,rfl,ite2 (fun q=>?_) (fun q=>?_)⟩
 ·refine⟨_,rfl,l,_,_,_,rfl,rfl,SqL.of hl,rfl,_,rfl,_,_,rfl,rfl,m0,?_⟩
  refine⟨_,rfl,l,_,_,_,rfl,rfl,SqL.of hl,rfl,_,rfl,_,_,rfl,rfl,⟨m0,m1⟩,_,rfl,l,_,_,0,rfl,rfl,hl,rfl,_,rfl,?_⟩
  exact fin _ _ (Zj _ (by lia)) (Zq _ m0) ⟨a / m,b,c,zac,Int.ediv_nonneg a0 (by lia),b0,b1⟩ fun x o e ne=>by rw[zad ne];exact e
 ·refine⟨_,rfl,l,_,_,_,rfl,rfl,SqL.of hl,rfl,_,_,rfl,rfl,_,rfl,l,_,_,2,rfl,rfl,hl,rfl,?_⟩
  have h1:L2.upd H l (.lst ([V.int a,V.int b,V.int c].set 2 (V.int (c+1)))) l=some (.lst [.int a,.int b,.int (c+1)]):=zac
  have B1:But l H (L2.upd H l (.lst ([V.int a,V.int b,V.int c].set 2 (V.int (c+1))))):=fun x o e ne=>by rw[zad ne];exact e
  show tSeq _ _ _ _ (L2.upd H l (.lst ([V.int a,V.int b,V.int c].set 2 (V.int (c+1)))))
  generalize L2.upd H l (.lst ([V.int a,V.int b,V.int c].set 2 (V.int (c+1))))=H1 at *
  refine⟨_,rfl,l,_,_,_,rfl,rfl,SqL.of h1,rfl,_,_,rfl,rfl,.inr ⟨by decide,by decide⟩,_,_,rfl,rfl,_,rfl,l,_,_,_,rfl,rfl,SqL.of h1,rfl,_,_,rfl,rfl,_,_,rfl,rfl,(by show (0:Int)<2147483647;decide),_,rfl,l,_,_,1,rfl,rfl,h1,rfl,?_⟩
  have g0:0≤(b*48271+12345+(c+1))%2147483647:=Zj _ (by decide)
  have g1:(b*48271+12345+(c+1))%2147483647<2147483647:=Zq _ (by decide)
  generalize hH:L2.upd H1 l (HO.lst ([V.int a,V.int b,V.int (c+1)].set 1 (V.int ((b*48271+12345+(c+1))%2147483647))))=H2
  have h2:H2 l=some (.lst [.int a,.int ((b*48271+12345+(c+1))%2147483647),.int (c+1)]):=by rw[← hH];exact zac
  refine⟨_,rfl,l,_,_,_,rfl,rfl,SqL.of h2,rfl,_,rfl,l,_,_,_,rfl,rfl,SqL.of h2,rfl,_,_,rfl,rfl,.inl ⟨by lia,by lia⟩,_,_,rfl,rfl,(by show (0:Int)<1999999973;decide),_,_,rfl,rfl,⟨by decide,by decide⟩,_,rfl,_,_,rfl,rfl,m0,?_⟩
  exact fin _ _ (Zj _ (by lia)) (Zq _ m0) ⟨a,_,_,h2,a0,g0,by lia⟩ fun x o e ne=>by rw[← hH,zad ne];exact B1 x o e ne
theorem scL:FnScope ["_law_script","_law_k","_law_cell","_law_digits"] ["_law_script","_law_k"] (zae zjX):=by trivial
theorem zkg {f:Addr}{fd:FuncData}(F:Fun K "_law_left" "_law_left" zjX f fd) (G:Mgs mg):FnOk P w K mg base CX0 1 f fd ["_law_script","_law_k"] (zef K):=by
 refine F.ok scL (fun vs H Q E h=>?_) (fun cdv A outer s H vs Q E hr h=>?_)
 ·obtain⟨a,ns,k,rfl,_⟩:=h
  rfl
 obtain⟨a,ns,k,rfl,hS,h63,k0,k1,q⟩:=h
 refine⟨_,(@pss_cons _ _ _ _ _ (@ps_set _ _ 2 _ _ _ _ scL.nd rfl (.inl rfl) pe_int (by rfl) (by first|exact .inl rfl|exact .inr rfl|assumption)) (@pss_cons _ _ _ _ _ (@ps_if _ _ _ _ _ _ _ _ (@pt_cmpR _ _ _ _ _ _ _ _ ziA (@pe_callB _ _ _ _ _ _ _ _ _ zah (by rfl) G.len PySem.boot_len (@pa_cons _ _ _ _ _ (@qv _ 0 _ _ (by trivial)) pa_nil (by rfl)) (by decide) (by decide) (by rfl) (by rfl)) pe_int (nomark _)) (@pss_one _ _ _ (@ps_set _ _ 2 _ _ _ _ scL.nd rfl (.inl rfl) (@pe_ix _ _ _ _ _ _ _ ix_list (@qv _ 0 _ _ (by trivial)) (@pe_op _ _ _ _ _ _ _ _ op_mod (@qv _ 1 _ _ (by trivial)) (@pe_callB _ _ _ _ _ _ _ _ _ zah (by rfl) G.len PySem.boot_len (@pa_cons _ _ _ _ _ (@qv _ 0 _ _ (by trivial)) pa_nil (by rfl)) (by decide) (by decide) (by rfl) (by rfl))) (fun _ _=>rfl)) (by rfl) (by first|exact .inl rfl|exact .inr rfl|assumption))) pss_nil) (@pss_cons _ _ _ _ _ (@ps_set _ _ 3 _ _ _ _ scL.nd rfl (.inl rfl) (@pe_op _ _ _ _ _ _ _ _ op_mul (@pe_op _ _ _ _ _ _ _ _ op_mod (@pe_callB _ _ _ _ _ _ _ _ _ zfH (by rfl) G.abs (by rfl) (@pa_cons _ _ _ _ _ (@qv _ 2 _ _ (by trivial)) pa_nil (by rfl)) (by decide) (by decide) (by rfl) (by rfl)) (@pe_op _ _ _ _ _ _ _ _ zjv pe_int pe_int)) (@pe_callTy _ _ _ _ _ _ _ _ _ zd3 (by rfl) G.int (by rfl) (@pa_cons _ _ _ _ _ (@zda _ _ _ _ _ _ _ _ zlL (@pe_callB _ _ _ _ _ _ _ _ _ zfH (by rfl) G.abs (by rfl) (@pa_cons _ _ _ _ _ (@qv _ 2 _ _ (by trivial)) pa_nil (by rfl)) (by decide) (by decide) (by rfl) (by rfl)) (@pe_op _ _ _ _ _ _ _ _ zjv pe_int pe_int) (nomark _)) pa_nil (by rfl)) (by decide) (by decide) (by rfl) (by rfl))) (by rfl) (by first|exact .inl rfl|exact .inr rfl|assumption)) (@pss_one _ _ _ (@ps_ret _ _ _ _ (@pe_lst _ _ _ _ (@pa_cons _ _ _ _ _ (@qv _ 3 _ _ (by trivial)) (@pa_cons _ _ _ _ _ (@pe_op _ _ _ _ _ _ _ _ op_mod (@pe_op _ _ _ _ _ _ _ _ op_mul (@pe_op _ _ _ _ _ _ _ _ op_add (@pe_op _ _ _ _ _ _ _ _ op_add (@pe_op _ _ _ _ _ _ _ _ op_mod (@qv _ 2 _ _ (by trivial)) pe_int) (@pe_op _ _ _ _ _ _ _ _ op_mul (@pe_op _ _ _ _ _ _ _ _ op_mul pe_int (@qv _ 1 _ _ (by trivial))) (@qv _ 1 _ _ (by trivial)))) pe_int) pe_int) pe_int) (@pa_cons _ _ _ _ _ pe_int pa_nil (by rfl)) (by rfl)) (by rfl)))))))),?_⟩
 have ml:(ns.map V.int).length=ns.length:=Jm _
 refine zlX ?_
 refine zhB (fun σ H1=>H1=H∧∃ x:Int,σ=[some (.ref a),some (.int k),some (.int x),none]) ?_ fun D nxt _=>?_
 ·rintro σ H1 ⟨rfl,x,rfl⟩
  have g0:=Zj ((x%2305843009213693951+7919*k*k+11)*48271) (show (2147483647:Int)≠0 by decide)
  have g1:=Zq ((x%2305843009213693951+7919*k*k+11)*48271) (show (0:Int)<2147483647 by decide)
  have d0:∀ b:Bool,(0:Int)≤(if b=true then (1:Int) else 0):=by decide
  have d1:∀ b:Bool,-(2 ^ 64)<(if b=true then (1:Int) else 0)∧(if b=true then (1:Int) else 0)<2 ^ 64:=by decide
  refine⟨_,rfl,_,rfl,_,_,rfl,rfl,⟨by decide,by decide,by decide⟩,_,_,rfl,rfl,(by show (0:Int)<10 ^ 60;decide),?_⟩
  refine⟨_,rfl,_,rfl,_,_,rfl,rfl,⟨by decide,by decide,by decide⟩,_,_,rfl,rfl,.inr ⟨_,rfl,_,_,rfl,rfl,.inr (d1 _),?_⟩⟩
  refine⟨_,rfl,_,rfl,_,_,rfl,rfl,(by show (0:Int)<2305843009213693951;decide),_,rfl,_,_,rfl,rfl,.inl ⟨by decide,by decide⟩,_,rfl,_,_,rfl,rfl,.inr ⟨by lia,by lia⟩,_,_,rfl,rfl,_,_,rfl,rfl,_,_,rfl,rfl,.inr ⟨by decide,by decide⟩,_,_,rfl,rfl,(by show (0:Int)<2147483647;decide),(by show 3≤sizeLine;decide),fun l hl=>?_⟩
  refine q l _ hl (zaa hl _) ⟨_,_,_,zac,Int.mul_nonneg (Zj _ (by decide)) (d0 _),g0,by lia⟩
 refine⟨_,rfl,a,_,rfl,.inl hS,_,_,rfl,rfl,_,rfl,ite2 (fun z=>?_) (fun z=>?_)⟩
 ·have np:0<ns.length:=by
   have:=Zb z
   rw[ml]at this;lia
  refine⟨_,rfl,_,rfl,_,rfl,a,_,rfl,.inl hS,_,_,rfl,rfl,by rw[ml];lia,?_⟩
  have e0:=Zj k (show ((ns.length:Nat):Int)≠0 by lia)
  have e1:=Zq k (show (0:Int)<(ns.length:Nat) by lia)
  rw[ml]
  obtain⟨j,hj⟩:=Int.eq_ofNat_of_zero_le e0
  rw[hj]at e1
  exact⟨a,_,k%(ns.length:Nat),_,rfl,rfl,hS,(by rw[hj];exact zh6 (by lia)),nxt _ _ ⟨rfl,_,rfl⟩⟩
 ·exact nxt _ _ ⟨rfl,0,rfl⟩
theorem scMx:FnScope ["_law_left_here","_law_row","_law_some_here","_law_found"] ["_law_left_here","_law_row"] (zae zgK):=by trivial
theorem ziG {f fK:Addr}{fd dK:FuncData}(F:Fun K "_law_mixed" "_law_mixed" zgK f fd) (G:Mgs mg) (UK:Use P w K mg base "_law_pick" ["_law_left_here","_law_many"] 1 za6 fK dK):FnOk P w K mg base CX0 2 f fd ["_law_left_here","_law_row"] zc1:=by
 refine F.ok scMx (fun vs H Q E h=>?_) (fun cdv A outer s H vs Q E hr h=>?_)
 ·obtain⟨l,p,xs,rfl,_⟩:=h
  rfl
 obtain⟨l,p,xs,rfl,hp,xl,S,k⟩:=h
 refine⟨_,(@pss_cons _ _ _ _ _ (@zff _ _ 2 3 _ _ _ _ _ _ _ _ _ _ _ rfl scMx.nd rfl rfl (by decide) rfl rfl (@pa_cons _ _ _ _ _ (@pe_callTy _ _ _ _ _ _ _ _ _ call_list_of (by rfl) G.list (by rfl) (@pa_cons _ _ _ _ _ (@qv _ 1 _ _ (by trivial)) pa_nil (by rfl)) (by decide) (by decide) (by rfl) (by rfl)) (@pa_cons _ _ _ _ _ (@pe_lst _ _ _ _ pa_nil) pa_nil (by rfl)) (by rfl)) (by rfl) (by rfl)) (@pss_cons _ _ _ _ _ (@zfe _ _ _ _ _ _ PassesOwn.never (@pt_cmpR _ _ _ _ _ _ _ _ (zjw hr.units0) (@qv _ 2 _ _ (by trivial)) (@pe_lst _ _ _ _ pa_nil) (nomark _)) (@pss_one _ _ _ (@zaZ _ _ _ _ (@zdb _ _ _ _ _ _ _ _ _ _ _ _ PySem.F.plainAttrs_list PySem.F.slot_list_append PySem.F.type_list_append zaE (@qv _ 3 _ _ (by trivial)) (@pa_cons _ _ _ _ _ (@zdb _ _ _ _ _ _ _ _ _ _ _ _ PySem.F.plainAttrs_list PySem.F.slot_list_pop PySem.F.type_list_pop ziR (@qv _ 2 _ _ (by trivial)) (@pa_cons _ _ _ _ _ (@pe_call _ _ _ _ _ _ _ _ _ _ _ _ _ _ _ _ UK.ok hr (by rfl) UK.m UK.kp UK.b .nil pass0 (@pa_cons _ _ _ _ _ (@qv _ 0 _ _ (by trivial)) (@pa_cons _ _ _ _ _ (@pe_callB _ _ _ _ _ _ _ _ _ zah (by rfl) G.len PySem.boot_len (@pa_cons _ _ _ _ _ (@qv _ 2 _ _ (by trivial)) pa_nil (by rfl)) (by decide) (by decide) (by rfl) (by rfl)) pa_nil (by rfl)) (by rfl)) (by decide) (by rfl) (by rfl)) pa_nil (by rfl)) (by rfl) (by rfl) (by rfl) (by rfl) (by rfl)) pa_nil (by rfl)) (by rfl) (by rfl) (by rfl) (by rfl) (by rfl)) (by rfl)))) (@pss_one _ _ _ (@ps_ret _ _ _ _ (@pe_callTy _ _ _ _ _ _ _ _ _ call_tuple_of (by rfl) G.tuple (by rfl) (@pa_cons _ _ _ _ _ (@qv _ 3 _ _ (by trivial)) pa_nil (by rfl)) (by decide) (by decide) (by rfl) (by rfl)))))),?_⟩
 refine⟨_,rfl,p,_,rfl,.inl (SqL.of hp),fun lo hlo=>?_⟩
 have s1:=zaa hlo (.lst xs)
 have nlo:=S.ne hlo
 refine⟨(by show 0≤sizeLine;decide),fun lt hlt=>?_⟩
 have s2:=zaa hlt (.lst [])
 have nlt:=(S.keep s1).ne hlt
 have not:lo≠lt:=zab zac hlt
 have flo:Frs l H lo:=fun b o e _=>zab e hlo
 have flt:Frs l H lt:=fun b o e _=>zab (s1 _ _ e) hlt
 refine⟨_,_,rfl,?_⟩
 refine⟨fun m σ H3=>σ=[some (.ref l),some (.ref p),some (.ref lo),some (.ref lt)]∧Pk3 H3 l∧But l H H3∧∃ us ys,H3 lo=some (.lst us)∧us.length=m∧H3 lt=some (.lst ys)∧(ys++us).Perm xs,
  ⟨_,rfl,(S.keep s1).keep s2,(But.of s1).trans (But.of s2),xs,[],by rw[zad not];exact zac,rfl,zac,.refl _⟩,?_⟩
 rintro m σ H3 ⟨rfl,S3,B3,us,ys,hu,ul,hy,pm⟩
 refine⟨_,rfl,(by show 0≤sizeLine;decide),fun e he=>?_⟩
 have s4:=zaa he (.lst [])
 refine⟨lo,e,us,rfl,rfl,SqL.of (s4 _ _ hu),SqL.of zac,_,rfl,?_⟩
 have S4:=S3.keep s4
 have B4:But l H (L2.upd H3 e (.lst [])):=B3.trans (But.of s4)
 have hu4:=s4 _ _ hu
 have hy4:=s4 _ _ hy
 generalize L2.upd H3 e (.lst [])=H4 at *
 have tot:ys.length+us.length=xs.length:=by rw[← Ja];exact pm.length_eq
 by_cases un:us=[]
 ·rw[show (!us.isEmpty)=false by rw[un];rfl]
  rw[un,JT]at pm
  refine iteF ⟨_,rfl,lt,_,rfl,.inl ⟨SqL.of hy4,fun t ht=>k t ys _ pm zac (S4.keep (zaa ht _)) (B4.trans (But.of (zaa ht _)))⟩⟩
 have up:0<us.length:=Zn.mpr un
 rw[show (!us.isEmpty)=true by cases us with
  | nil=>exact absurd rfl un
  | cons a b=>rfl]
 refine iteT ⟨_,fun σ' H' hN=>⟨m-1,by lia,hN⟩,?_⟩
 refine⟨_,rfl,.inl ⟨rfl,_,SqL.of hy4⟩,_,rfl,.inl ⟨rfl,_,SqL.of hu4⟩,_,rfl,_,rfl,lo,_,rfl,.inl (SqL.of hu4),l,_,rfl,by lia,by lia,S4,fun kk H5 hk S5 B5=>?_⟩
 have kl:kk<us.length:=by lia
 have hu5:=B5 lo _ hu4 nlo.symm
 have hy5:=B5 lt _ hy4 nlt.symm
 refine⟨lo,_,_,kk,us[kk],rfl,rfl,hu5,by lia,by lia,(zeF (zi6 (xs:=us) (i:=kk) kl)).1,J7 kl,?_⟩
 have hy6:L2.upd H5 lo (.lst (us.eraseIdx kk)) lt=some (.lst ys):=by rw[zad not.symm];exact hy5
 refine⟨lt,_,_,rfl,rfl,hy6,by rw[Jy];lia,rfl,(S5.upd nlo).upd nlt,((B4.trans B5).upd flo).upd flt,us.eraseIdx kk,ys++[us[kk]],by rw[zad not];exact zac,by rw[List.length_eraseIdx,Jf kl];lia,zac,?_⟩
 refine List.Perm.trans ?_ pm
 rw[JM]
 refine List.Perm.append_left ys ?_
 exact zcR us kk kl
end
end K41
namespace L2
open PySem PySem.Spec PyProof.Rows Own
theorem FnOk.any {P:Program}{w:World}{K:PySem.W.Frag}{mg:Str→Option Value}{base:Heap}{CX:CXT}{k:Nat}{f:Addr}{fd:FuncData}{ps:List Str}{sp:Nat→Sp}(M:Nat) (F:∀ m,m≤M→FnOk P w K mg base CX k f fd ps (sp m)) :
  FnOk P w K mg base CX k f fd ps (fun vs H Q E=>∃ m,m≤M∧sp m vs H Q E) :=
 ⟨fun vs H Q E ⟨m,hm,q⟩=>(F m hm).len vs H Q E q,fun A outer s H args us vs Q E hr he hb hv ⟨m,hm,q⟩=>(F m hm).run A outer s H args us vs Q E hr he hb hv q⟩
end L2
namespace Bn
open PySem L2 Own
def zbp:Nat→List Nat→List Fk × List Nat
 | 0,row=>([],row)
 | m+1,row=>((row.getD 0 0,row.getD (row.length / 2) 0)::((zbp m (row.take (row.length / 2))).1++(zbp m (row.drop (row.length / 2))).1),zav (zbp m (row.take (row.length / 2))).2 (zbp m (row.drop (row.length / 2))).2)
def mergeN:Nat→List Nat→List Nat→List Fk × List Nat
 | 0,a,b=>(a.zip b,a++b)
 | m+1,a,b=>((mergeN m (by2 0 a) (by2 1 b)).1++(mergeN m (by2 1 a) (by2 0 b)).1++(mergeN m (by2 0 a) (by2 1 b)).2.zip (mergeN m (by2 1 a) (by2 0 b)).2,zav (mergeN m (by2 0 a) (by2 1 b)).2 (mergeN m (by2 1 a) (by2 0 b)).2)
def za4:Nat→List Nat→List Fk × List Nat
 | 0,row=>([],row)
 | m+1,row=>((za4 m (row.take (row.length / 2))).1++(za4 m (row.drop (row.length / 2))).1++(mergeN m (za4 m (row.take (row.length / 2))).2 (za4 m (row.drop (row.length / 2))).2).1,(mergeN m (za4 m (row.take (row.length / 2))).2 (za4 m (row.drop (row.length / 2))).2).2)
theorem zb5 {m n:Nat}(h:n=2 ^ (m+1)):n / 2=2 ^ m∧n-n / 2=2 ^ m∧n / 2≤n:=by
 rw[YV]at h;lia
theorem zbF {m:Nat}{row:List Nat}(h:row.length=2 ^ (m+1)):(row.take (row.length / 2)).length=2 ^ m∧(row.drop (row.length / 2)).length=2 ^ m:=by
 obtain⟨a,b,c⟩:=zb5 h
 rw[Jw,Yf]
 exact⟨by rw[YE c];exact a,b⟩
theorem zca {α:Type}{m:Nat}{a:List α}(h:a.length=2 ^ (m+1)):(by2 0 a).length=2 ^ m∧(by2 1 a).length=2 ^ m:=by
 rw[zeS 0 (by decide),zeS 1 (by decide),h,YV]
 lia
theorem zb6:∀ (m:Nat) (row:List Nat),row.length=2 ^ m→(zbp m row).2.length=2 ^ m∧(zbp m row).1.length+1=2 ^ m
 | 0,row,h=>⟨h,rfl⟩
 | m+1,row,h=>by
  obtain⟨a,b⟩:=zbF h
  obtain⟨x1,x2⟩:=zb6 m _ a
  obtain⟨y1,y2⟩:=zb6 m _ b
  show (zav _ _).length=_∧(_::(_++_)).length+1=_
  rw[zaS _ _ (x1.trans y1.symm),JN,Ja,x1,YV]
  exact⟨by lia,by lia⟩
theorem zaT:∀ (m:Nat) (a b:List Nat),a.length=2 ^ m→b.length=2 ^ m→(mergeN m a b).2.length=2 ^ (m+1)∧(mergeN m a b).1.length=(m+1)*2 ^ m
 | 0,a,b,ha,hb=>by
  show (a++b).length=_∧(a.zip b).length=_
  rw[Ja,Z2,ha,hb];exact⟨rfl,rfl⟩
 | m+1,a,b,ha,hb=>by
  obtain⟨a0,a1⟩:=zca ha
  obtain⟨b0,b1⟩:=zca hb
  obtain⟨x1,x2⟩:=zaT m _ _ a0 b1
  obtain⟨y1,y2⟩:=zaT m _ _ a1 b0
  show (zav _ _).length=_∧(_++_++List.zip _ _).length=_
  rw[zaS _ _ (x1.trans y1.symm),Ja,Ja,Z2,x1,y1,x2,y2,Nat.min_self]
  have e:(m+1)*2 ^ m+(m+1)*2 ^ m=(m+1)*2 ^ (m+1):=by rw[← Nat.two_mul,YV,Nat.mul_left_comm,Nat.mul_comm 2 (2 ^ m)]
  refine⟨by rw[YV 2 (m+1),Nat.mul_comm],?_⟩
  rw[e,← Nat.succ_mul]
def zcE:Nat→Nat
 | 0=>0
 | m+1=>zcE m+zcE m+(m+1)*2 ^ m
theorem zbZ:∀ m,m≤10→zcE m≤100000∧(m+1)*2 ^ m≤20000:=by decide +kernel
theorem zbx:∀ (m:Nat) (row:List Nat),row.length=2 ^ m→(za4 m row).2.length=2 ^ m∧(za4 m row).1.length=zcE m
 | 0,row,h=>⟨h,rfl⟩
 | m+1,row,h=>by
  obtain⟨a,b⟩:=zbF h
  obtain⟨x1,x2⟩:=zbx m _ a
  obtain⟨y1,y2⟩:=zbx m _ b
  obtain⟨z1,z2⟩:=zaT m _ _ x1 y1
  refine⟨z1,?_⟩
  show (List.append (List.append _ _) _).length=zcE m+zcE m+(m+1)*2 ^ m
  rw[List.append_eq,List.append_eq,Ja,Ja,z2,x2,y2]
def zcX (k:Nat):Nt:=⟨2 ^ k,(zbp k (List.range (2 ^ k))).1,(zbp k (List.range (2 ^ k))).2⟩
def zby (k:Nat):Nt:=⟨2 ^ k,(za4 k (List.range (2 ^ k))).1,(za4 k (List.range (2 ^ k))).2⟩
theorem zif:∀ k,k<5→(zcX k).forks.length≤128∧(∀ f∈(zcX k).forks,f.1<2 ^ k∧f.2<2 ^ k∧f.1≠f.2)∧(zcX k).ends.Perm (List.range (2 ^ k)):=by decide +kernel
theorem zgv:∀ k,k<5→(zby k).forks.length≤128∧(∀ f∈(zby k).forks,f.1<2 ^ k∧f.2<2 ^ k∧f.1≠f.2)∧(zby k).ends.Perm (List.range (2 ^ k)):=by decide +kernel
theorem zbE {k:Nat}(h:k<5):1≤2 ^ k∧2 ^ k≤16:=⟨Z4,YC (show 0<2 by decide) (show k≤4 by lia)⟩
theorem zjJ {k:Nat}(h:k<5):(zcX k).Ok:=let ⟨a,b,c⟩:=zif k h;⟨(zbE h).1,(zbE h).2,a,b,c⟩
theorem zih {k:Nat}(h:k<5):(zby k).Ok:=let ⟨a,b,c⟩:=zgv k h;⟨(zbE h).1,(zbE h).2,a,b,c⟩
end Bn
namespace L2
open PySem PySem.Spec PyProof.Rows Own
theorem zhH {K:PySem.W.Frag}{b1 b2:Bool}{a1 a2:Addr}{xs ys:List V}(hxy:xs.length=ys.length) {g:TG}{tb:TS}{D:Ends}{σ:St}{H:Hp}(Pv:Nat→St→Hp→Prop) (h0:Pv 0 σ H) (hl:∀ i σ H,i≤xs.length→Pv i σ H→SqB b1 K H a1 xs∧SqB b2 K H a2 ys)
  (hs:∀ i x y T σ H,xs[i]?=some x→ys[i]?=some y→H T=none→Pv i σ H→g (.ref T) σ (upd H T (.tup [x,y])) fun σ2 H2=>tb { D with nx:=Pv (i+1),ct:=Pv (i+1),bk:=D.nx } σ2 H2) (hd:∀ σ H,Pv xs.length σ H→D.nx σ H) :
  ∃ W:Nat→Nat→St→Hp→Prop,(∃ m,W 0 m σ H)∧∀ i m σ H,W i m σ H →
   ((Itz K b1 b2 a1 a2).stop i H∧D.nx σ H)∨((Itz K b1 b2 a1 a2).go i H∧∃ N:St→Hp→Prop,(∀ σ' H',N σ' H'→∃ m',m'<m∧W (i+1) m' σ' H')∧∀ x H',(Itz K b1 b2 a1 a2).yld i H x H'→g x σ H' fun σ2 H2=>tb { D with nx:=N,ct:=N,bk:=D.nx } σ2 H2):=by
 refine⟨fun i m σ H=>m=xs.length-i∧i≤xs.length∧Pv i σ H,⟨_,rfl,JH _,h0⟩,?_⟩
 rintro i m σ H ⟨rfl,hi,p⟩
 obtain⟨q1,q2⟩:=hl i σ H hi p
 by_cases more:i<xs.length
 ·refine .inr ⟨⟨xs,ys,_,_,q1,q2,J7 more,J7 (by lia)⟩,Pv (i+1),fun σ' H' p'=>⟨xs.length-(i+1),by lia,rfl,more,p'⟩,fun v H' ⟨x,y,ex,ey,T,hT,e1,e2⟩=>?_⟩
  subst e1 e2
  exact hs i x y T σ H (ex xs q1) (ey ys q2) hT p
 ·obtain rfl:i=xs.length:=by lia
  exact .inl ⟨⟨xs,q1,rfl⟩,hd σ H p⟩
end L2
namespace Bn
open PySem L2 Own
end Bn
namespace K41
open PySem L2 Own Bn
abbrev zgJ:Stmt:=top 21
def zdy (m:Nat):Sp:=fun vs H Q _=>∃ p1 p2 a b,vs=[.ref p1,.ref p2]∧H p1=some (.lst (nums a))∧H p2=some (.lst (nums b))∧a.length=2 ^ m∧b.length=2 ^ m∧m≤8∧∀ c lf le ps H',Same H H'→H lf=none→H' c=some (.tup [.ref lf,.ref le])→H' lf=some (.lst ps)→Prs H' ps (Bn.mergeN m a b).1→H' le=some (.lst (nums (Bn.mergeN m a b).2))→Q (.ref c) H'
theorem zhj (row:List Nat) (i:Nat) (h:i≤row.length):cutV (nums row) none (some (i:Int))=nums (row.take i):=by
 rw[zfD _ _ (by rw[zai];exact h)]
 unfold nums
 rw[List.map_take]
theorem zhk (row:List Nat) (i:Nat) (h:i≤row.length):cutV (nums row) (some (i:Int)) none=nums (row.drop i):=by
 rw[zfE _ _ (by rw[zai];exact h)]
 unfold nums
 rw[List.map_drop]
theorem ziX (off:Nat) (a:List Nat):by2 off (nums a)=nums (by2 off a):=by unfold nums;exact zkG _ off a
theorem zhl (a b:List Nat):nums a++nums b=nums (a++b):=by unfold nums;exact(Y2 ..).symm
theorem m_at (row:List Nat) (i:Nat) (h:i<row.length):(nums row)[i]?=some (.int ((row.getD i 0:Nat):Int)):=by
 unfold nums
 rw[JR,J7 h,Jb,J7 h];rfl
theorem zbO:∀ (a b:List Nat) (j:Nat),j<a.length→j<b.length→zav (a.take (j+1)) (b.take (j+1))=zav (a.take j) (b.take j)++[a.getD j 0,b.getD j 0]
 | x::a,y::b,0,_,_=>by rw[YX,YX,Yq,Yq];rfl
 | x::a,y::b,j+1,ha,hb=>by
  rw[YX,YX,YX,YX]
  show x::y::zav (a.take (j+1)) (b.take (j+1))=x::y::(zav (a.take j) (b.take j)++[a.getD j 0,b.getD j 0])
  rw[zbO a b j (by simpa using ha) (by simpa using hb)]
theorem zeV {a b:List Nat}{j:Nat}(ha:j<a.length) (hb:j<b.length):(a.zip b).take (j+1)=(a.zip b).take j++[(a.getD j 0,b.getD j 0)]:=by
 rw[Z8 (by rw[Z2];lia),List.getElem_zip,Jb,J7 ha,Jb,J7 hb];rfl
theorem zdK {a:List Nat}{j:Nat}{x:V}(h:(nums a)[j]?=some x):j<a.length∧x=.int ((a.getD j 0:Nat):Int):=by
 have jl:j<a.length:=by rw[← zai a];exact(Je.mp h).1
 rw[m_at a j jl]at h
 exact⟨jl,(Option.some.inj h).symm⟩
section
variable {P:Program}{w:World}{K:PySem.W.Frag}{mg:Str→Option Value}{base:Heap}
theorem scMo:FnScope ["_law_one","_law_other","_law_forks","_law_first","_law_more","_law_second","_law_ends","_law_x","_law_y"] ["_law_one","_law_other"] (zae zgJ):=by trivial
theorem zfl {f:Addr}{fd:FuncData}(F:Fun K "_law_merger" "_law_merger" zgJ f fd) (G:Mgs mg) (bS:Binds K fd ["_law_one","_law_other"] []) (mS:mg "_law_merger" = some (.ref f)) (n:Nat)
  (GS:FnOk P w K mg base CX0 n f fd ["_law_one","_law_other"] (fun vs H Q E=>∃ m,n=m+1∧zdy m vs H Q E)):FnOk P w K mg base CX0 (n+1) f fd ["_law_one","_law_other"] (zdy n):=by
 have UT:Use P w K mg base "_law_merger" ["_law_one","_law_other"] n (fun vs H Q E=>∃ m,n=m+1∧zdy m vs H Q E) f fd:=⟨GS,bS,F.kp,mS⟩
 refine F.ok scMo (fun vs H Q E h=>?_) (fun cdv A outer s H vs Q E hr h=>?_)
 ·obtain⟨p1,p2,a,b,rfl,_⟩:=h
  rfl
 obtain⟨p1,p2,a,b,rfl,h1,h2,al,bl,n20,k⟩:=h
 refine⟨_,(@pss_cons _ _ _ _ _ (@ps_if _ _ _ _ _ _ _ _ (@pt_cmpR _ _ _ _ _ _ _ _ op_eq (@pe_callB _ _ _ _ _ _ _ _ _ zah (by rfl) G.len PySem.boot_len (@pa_cons _ _ _ _ _ (@qv _ 0 _ _ (by trivial)) pa_nil (by rfl)) (by decide) (by decide) (by rfl) (by rfl)) pe_int (nomark _)) (@pss_one _ _ _ (@ps_ret _ _ _ _ (@pe_tup _ _ _ _ _ (@pa_cons _ _ _ _ _ (@pe_lst _ _ _ _ (@pa_cons _ _ _ _ _ (@pe_tup _ _ _ _ _ (@pa_cons _ _ _ _ _ (@pe_ix _ _ _ _ _ _ _ ix_list (@qv _ 0 _ _ (by trivial)) pe_int (fun _ _=>rfl)) (@pa_cons _ _ _ _ _ (@pe_ix _ _ _ _ _ _ _ ix_list (@qv _ 1 _ _ (by trivial)) pe_int (fun _ _=>rfl)) pa_nil (by rfl)) (by rfl))) pa_nil (by rfl))) (@pa_cons _ _ _ _ _ (@pe_lst _ _ _ _ (@pa_cons _ _ _ _ _ (@pe_ix _ _ _ _ _ _ _ ix_list (@qv _ 0 _ _ (by trivial)) pe_int (fun _ _=>rfl)) (@pa_cons _ _ _ _ _ (@pe_ix _ _ _ _ _ _ _ ix_list (@qv _ 1 _ _ (by trivial)) pe_int (fun _ _=>rfl)) pa_nil (by rfl)) (by rfl))) pa_nil (by rfl)) (by rfl))))) pss_nil) (@pss_cons _ _ _ _ _ (@ps_asg _ _ _ _ _ _ (@pe_call _ _ _ _ _ _ _ _ _ _ _ _ _ _ _ _ UT.ok hr (by rfl) UT.m UT.kp UT.b .nil pass0 (@pa_cons _ _ _ _ _ (@zfg _ _ _ _ _ _ _ _ _ (@qv _ 0 _ _ (by trivial)) po_none (@po_some _ _ _ pe_int)) (@pa_cons _ _ _ _ _ (@zfg _ _ _ _ _ _ _ _ _ (@qv _ 1 _ _ (by trivial)) (@po_some _ _ _ pe_int) (@po_some _ _ _ pe_int)) pa_nil (by rfl)) (by rfl)) (by decide) (by rfl) (by rfl)) (@pg_tup _ _ _ _ _ _ rfl (@pgs_cons _ _ _ _ _ (@pg_name _ _ 2 _ scMo.nd rfl (.inl rfl) (by first|exact .inl rfl|exact .inr rfl|assumption)) (@pgs_cons _ _ _ _ _ (@pg_name _ _ 3 _ scMo.nd rfl (.inl rfl) (by first|exact .inl rfl|exact .inr rfl|assumption)) pgs_nil (by rfl)) (by rfl)) (by rfl) (by rfl)) (by rfl) (by rfl) (by rfl)) (@pss_cons _ _ _ _ _ (@ps_asg _ _ _ _ _ _ (@pe_call _ _ _ _ _ _ _ _ _ _ _ _ _ _ _ _ UT.ok hr (by rfl) UT.m UT.kp UT.b .nil pass0 (@pa_cons _ _ _ _ _ (@zfg _ _ _ _ _ _ _ _ _ (@qv _ 0 _ _ (by trivial)) (@po_some _ _ _ pe_int) (@po_some _ _ _ pe_int)) (@pa_cons _ _ _ _ _ (@zfg _ _ _ _ _ _ _ _ _ (@qv _ 1 _ _ (by trivial)) po_none (@po_some _ _ _ pe_int)) pa_nil (by rfl)) (by rfl)) (by decide) (by rfl) (by rfl)) (@pg_tup _ _ _ _ _ _ rfl (@pgs_cons _ _ _ _ _ (@pg_name _ _ 4 _ scMo.nd rfl (.inl rfl) (by first|exact .inl rfl|exact .inr rfl|assumption)) (@pgs_cons _ _ _ _ _ (@pg_name _ _ 5 _ scMo.nd rfl (.inl rfl) (by first|exact .inl rfl|exact .inr rfl|assumption)) pgs_nil (by rfl)) (by rfl)) (by rfl) (by rfl)) (by rfl) (by rfl) (by rfl)) (@pss_cons _ _ _ _ _ (@zff _ _ 2 6 _ _ _ _ _ _ _ _ _ _ _ rfl scMo.nd rfl rfl (by decide) rfl rfl (@pa_cons _ _ _ _ _ (@pe_op _ _ _ _ _ _ _ _ op_cat (@qv _ 2 _ _ (by trivial)) (@qv _ 4 _ _ (by trivial))) (@pa_cons _ _ _ _ _ (@pe_lst _ _ _ _ pa_nil) pa_nil (by rfl)) (by rfl)) (by rfl) (by rfl)) (@pss_cons _ _ _ _ _ (@ps_for _ _ _ _ _ _ _ _ PassesOwn.never rfl (@zjt _ _ _ _ _ _ _ _ _ true true rfl G.zip (@pa_cons _ _ _ _ _ (@qv _ 3 _ _ (by trivial)) (@pa_cons _ _ _ _ _ (@qv _ 5 _ _ (by trivial)) pa_nil (by rfl)) (by rfl)) (by rfl) (by rfl)) (@pg_tup _ _ _ _ _ _ rfl (@pgs_cons _ _ _ _ _ (@pg_name _ _ 7 _ scMo.nd rfl (.inl rfl) (by first|exact .inl rfl|exact .inr rfl|assumption)) (@pgs_cons _ _ _ _ _ (@pg_name _ _ 8 _ scMo.nd rfl (.inl rfl) (by first|exact .inl rfl|exact .inr rfl|assumption)) pgs_nil (by rfl)) (by rfl)) (by rfl) (by rfl)) (@pss_cons _ _ _ _ _ (@zaZ _ _ _ _ (@zdb _ _ _ _ _ _ _ _ _ _ _ _ PySem.F.plainAttrs_list PySem.F.slot_list_append PySem.F.type_list_append zaE (@qv _ 2 _ _ (by trivial)) (@pa_cons _ _ _ _ _ (@pe_tup _ _ _ _ _ (@pa_cons _ _ _ _ _ (@qv _ 7 _ _ (by trivial)) (@pa_cons _ _ _ _ _ (@qv _ 8 _ _ (by trivial)) pa_nil (by rfl)) (by rfl))) pa_nil (by rfl)) (by rfl) (by rfl) (by rfl) (by rfl) (by rfl)) (by rfl)) (@pss_one _ _ _ (@zaZ _ _ _ _ (@zdb _ _ _ _ _ _ _ _ _ _ _ _ PySem.F.plainAttrs_list PySem.F.slot_list_extend PySem.F.type_list_extend zdL (@qv _ 6 _ _ (by trivial)) (@pa_cons _ _ _ _ _ (@pe_lst _ _ _ _ (@pa_cons _ _ _ _ _ (@qv _ 7 _ _ (by trivial)) (@pa_cons _ _ _ _ _ (@qv _ 8 _ _ (by trivial)) pa_nil (by rfl)) (by rfl))) pa_nil (by rfl)) (by rfl) (by rfl) (by rfl) (by rfl) (by rfl)) (by rfl)))) (by intro _;rfl)) (@pss_one _ _ _ (@ps_ret _ _ _ _ (@pe_tup _ _ _ _ _ (@pa_cons _ _ _ _ _ (@qv _ 2 _ _ (by trivial)) (@pa_cons _ _ _ _ _ (@qv _ 6 _ _ (by trivial)) pa_nil (by rfl)) (by rfl)))))))))),?_⟩
 have na:=zai a
 have nb:=zai b
 have p8:2 ^ n≤2 ^ 8:=YC (by decide) n20
 have e8:2 ^ 8=256:=rfl
 refine⟨_,rfl,p1,_,rfl,.inl (SqL.of h1),rfl,_,rfl,?_⟩
 cases n with
 | zero =>
  have al1:a.length=1:=al
  have bl1:b.length=1:=bl
  rw[Jz (show V.int (((nums a).length:Nat):Int)=V.int 1 by rw[na,al1];rfl)]
  obtain⟨x,rfl⟩:=List.length_eq_one_iff.mp al1
  obtain⟨y,rfl⟩:=List.length_eq_one_iff.mp bl1
  refine iteT ⟨_,rfl,p1,_,0,_,rfl,rfl,SqL.of h1,rfl,_,rfl,p2,_,0,_,rfl,rfl,SqL.of h2,rfl,(by show 2≤sizeLine;decide),fun t ht=>⟨(by show 1≤sizeLine;decide),fun lf hf=>?_⟩⟩
  have s1:=zaa ht (.tup [.int x,.int y])
  have s2:=zaa hf (.lst [.ref t])
  have u2:=s1.trans s2
  refine⟨_,rfl,p1,_,0,_,rfl,rfl,SqL.of (u2 _ _ h1),rfl,_,rfl,p2,_,0,_,rfl,rfl,SqL.of (u2 _ _ h2),rfl,(by show 2≤sizeLine;decide),fun le he=>⟨(by show 2≤sizeLine;decide),fun c hc=>?_⟩⟩
  have s3:=zaa he (.lst [.int x,.int y])
  have s4:=zaa hc (.tup [.ref lf,.ref le])
  exact k c lf le [.ref t] _ ((u2.trans s3).trans s4) (zbj s1 hf) (zag hc _) (s4 _ _ (s3 _ _ (zag hf _))) ⟨⟨t,rfl,s4 _ _ (s3 _ _ (s2 _ _ (zag ht _)))⟩,trivial⟩ (s4 _ _ (zag he _))
 | succ m =>
  obtain⟨a0,a1⟩:=zca al
  obtain⟨b0,b1⟩:=zca bl
  have pw:2 ^ (m+1)=2 ^ m*2:=YV ..
  have p0:=Z4 (n:=m)
  rw[Jq (show ¬ V.int (((nums a).length:Nat):Int)=V.int 1 by intro z;injection z with z;lia)]
  refine iteF ⟨_,rfl,2,rfl,rfl,0,p1,_,.inl ⟨rfl,rfl⟩,rfl,SqL.of h1,fun q1 hq1=>?_⟩
  rw[ziX]
  have s1:=zaa hq1 (.lst (nums (by2 0 a)))
  refine⟨_,rfl,1,rfl,2,rfl,rfl,1,p2,_,.inr ⟨rfl,rfl⟩,rfl,SqL.of (s1 _ _ h2),fun q2 hq2=>?_⟩
  rw[ziX]
  have s2:=zaa hq2 (.lst (nums (by2 1 b)))
  refine⟨m,rfl,q1,q2,by2 0 a,by2 1 b,rfl,s2 _ _ (zag hq1 _),zag hq2 _,a0,b1,by lia,fun c3 lf3 le3 ps3 H3 s3 _ hc3 hf3 pr3 he3=>?_⟩
  have u3:=(s1.trans s2).trans s3
  refine⟨c3,_,rfl,SqT.of hc3,rfl,_,_,rfl,_,_,rfl,rfl,?_⟩
  refine⟨_,rfl,1,rfl,2,rfl,rfl,1,p1,_,.inr ⟨rfl,rfl⟩,rfl,SqL.of (u3 _ _ h1),fun q4 hq4=>?_⟩
  rw[ziX]
  have s4:=zaa hq4 (.lst (nums (by2 1 a)))
  refine⟨_,rfl,2,rfl,rfl,0,p2,_,.inl ⟨rfl,rfl⟩,rfl,SqL.of (s4 _ _ (u3 _ _ h2)),fun q5 hq5=>?_⟩
  rw[ziX]
  have s5:=zaa hq5 (.lst (nums (by2 0 b)))
  refine⟨m,rfl,q4,q5,by2 1 a,by2 0 b,rfl,s5 _ _ (zag hq4 _),zag hq5 _,a1,b0,by lia,fun c6 lf6 le6 ps6 H6 s6 _ hc6 hf6 pr6 he6=>?_⟩
  have u6:=(s4.trans s5).trans s6
  refine⟨c6,_,rfl,SqT.of hc6,rfl,_,_,rfl,_,_,rfl,rfl,?_⟩
  obtain⟨xl,xf⟩:=zaT m _ _ a0 b1
  obtain⟨yl,yf⟩:=zaT m _ _ a1 b0
  have bd:=(zbZ m (by lia)).2
  have pl3:=pr3.len
  have pl6:=pr6.len
  have hu6:=u3.trans u6
  have he3':=u6 _ _ he3
  refine⟨_,rfl,_,rfl,lf3,lf6,_,_,rfl,rfl,u6 _ _ hf3,hf6,by rw[Jy];lia,fun l7 hl7=>⟨(by show 0≤sizeLine;decide),fun l8 hl8=>⟨_,_,rfl,?_⟩⟩⟩
  have s7:=zaa hl7 (.lst (ps3++ps6))
  have s8:=zaa hl8 (.lst [])
  have h78:l7≠l8:=zab (zag hl7 (.lst (ps3++ps6))) hl8
  have prA:=(Prs.app (pr3.tups (Tups.of u6)) pr6).tups (Tups.of (s7.trans s8))
  have hn7:H l7=none:=zbj hu6 hl7
  have hn8:H l8=none:=zbj (hu6.trans s7) hl8
  generalize hF:(Bn.mergeN m (by2 0 a) (by2 1 b)).2=fst at *
  generalize hS:(Bn.mergeN m (by2 1 a) (by2 0 b)).2=snd at *
  have e3:=s8 _ _ (s7 _ _ he3')
  have e6:=s8 _ _ (s7 _ _ he6)
  have n3:le3≠l7:=zab he3' hl7
  have n6:le6≠l7:=zab he6 hl7
  have n38:le3≠l8:=zab (s7 _ _ he3') hl8
  have n68:le6≠l8:=zab (s7 _ _ he6) hl8
  refine⟨_,rfl,_,rfl,le3,le6,_,_,rfl,SqL.of e3,SqL.of e6,?_⟩
  refine zhH (K:=K) (b1:=true) (b2:=true) (a1:=le3) (a2:=le6) (xs:=nums fst) (ys:=nums snd) (by rw[zai,zai,xl,yl]) (fun j σ H7=>(∃ v7 v8,σ=[some (.ref p1),some (.ref p2),some (.ref l7),some (.ref le3),some (.ref lf6),some (.ref le6),some (.ref l8),v7,v8])∧Same H H7∧H7 le3=some (.lst (nums fst))∧H7 le6=some (.lst (nums snd))∧(∃ ps,H7 l7=some (.lst ps)∧Prs H7 ps ((Bn.mergeN m (by2 0 a) (by2 1 b)).1++(Bn.mergeN m (by2 1 a) (by2 0 b)).1++(fst.zip snd).take j))∧H7 l8=some (.lst (nums (zav (fst.take j) (snd.take j))))) ?_ (fun j σ H7 _ z=>⟨SqL.of z.2.2.1,SqL.of z.2.2.2.1⟩) ?_ ?_
  ·refine⟨⟨_,_,rfl⟩,(hu6.trans s7).trans s8,e3,e6,⟨ps3++ps6,s8 _ _ (zag hl7 _),?_⟩,zag hl8 _⟩
   rw[Yq,JT];exact prA
  ·rintro j x y T σ H7 hx hy hT ⟨⟨v7,v8,rfl⟩,s9,e3,e6,⟨ps,h7,pr7⟩,h8⟩
   obtain⟨j1,rfl⟩:=zdK hx
   obtain⟨j2,rfl⟩:=zdK hy
   have pl:=pr7.len
   rw[Ja,Ja,Jw,Z2]at pl
   have sT:=zaa hT (.tup [.int ((fst.getD j 0:Nat):Int),.int ((snd.getD j 0:Nat):Int)])
   refine⟨T,_,rfl,SqT.of zac,rfl,_,_,rfl,_,_,rfl,rfl,?_⟩
   refine⟨_,rfl,.inl ⟨rfl,_,SqL.of (sT _ _ h7)⟩,_,rfl,_,rfl,(by show 2≤sizeLine;decide),fun t ht=>?_⟩
   have st:=zaa ht (.tup [.int ((fst.getD j 0:Nat):Int),.int ((snd.getD j 0:Nat):Int)])
   have ut:=sT.trans st
   refine⟨l7,ps,_,rfl,rfl,ut _ _ h7,by rw[Jy];lia,?_⟩
   have ht':=zag ht (.tup [.int ((fst.getD j 0:Nat):Int),.int ((snd.getD j 0:Nat):Int)])
   have h7':=ut _ _ h7
   have h8':=ut _ _ h8
   have e3':=ut _ _ e3
   have e6':=ut _ _ e6
   have s9':=s9.trans ut
   have pr7':=pr7.tups (Tups.of ut)
   generalize L2.upd (L2.upd H7 T (.tup [.int ((fst.getD j 0:Nat):Int),.int ((snd.getD j 0:Nat):Int)])) t (.tup [.int ((fst.getD j 0:Nat):Int),.int ((snd.getD j 0:Nat):Int)])=H9 at *
   have tq:=Tups.lst (ys:=ps++[.ref t]) h7'
   have h8q:L2.upd H9 l7 (.lst (ps++[.ref t])) l8=some (.lst (nums (zav (fst.take j) (snd.take j)))):=by rw[zad h78.symm];exact h8'
   refine⟨_,rfl,.inl ⟨rfl,_,SqL.of h8q⟩,_,rfl,_,rfl,(by show 2≤sizeLine;decide),fun q hq=>?_⟩
   have sq:=zaa hq (.lst [.int ((fst.getD j 0:Nat):Int),.int ((snd.getD j 0:Nat):Int)])
   have tl:=zaS (fst.take j) (snd.take j) (by rw[Jw,Jw];lia)
   rw[Jw]at tl
   refine⟨l8,q,_,_,rfl,rfl,sq _ _ h8q,zag hq _,by rw[zai,Jy,tl];show _+2≤_;lia,?_⟩
   have n8:∀ {c:Addr}{o:HO},L2.upd H9 l7 (.lst (ps++[.ref t])) c=some o→c≠l8→L2.upd (L2.upd (L2.upd H9 l7 (.lst (ps++[.ref t]))) q (.lst [.int ((fst.getD j 0:Nat):Int),.int ((snd.getD j 0:Nat):Int)])) l8 (.lst (nums (zav (fst.take j) (snd.take j))++[.int ((fst.getD j 0:Nat):Int),.int ((snd.getD j 0:Nat):Int)])) c=some o:=fun e ne=>by rw[zad ne];exact sq _ _ e
   refine⟨⟨_,_,rfl⟩,fun c o e=>n8 (by rw[zad (zab e hn7)];exact s9' c o e) (zab e hn8),n8 (by rw[zad n3];exact e3') n38,n8 (by rw[zad n6];exact e6') n68,⟨ps++[.ref t],n8 zac h78,?_⟩,?_⟩
   ·rw[zeV j1 j2,← JM]
    have tz:Tups (L2.upd H9 l7 (.lst (ps++[.ref t]))) _:=fun c xs e=>n8 e (zbC e h8q (fun z=>by cases z))
    exact(Prs.add (f:=(fst.getD j 0,snd.getD j 0)) (tq _ _ ht') (pr7'.tups tq)).tups tz
   ·rw[zbO fst snd j j1 j2]
    have e:nums (zav (fst.take j) (snd.take j)++[fst.getD j 0,snd.getD j 0])=nums (zav (fst.take j) (snd.take j))++[.int ((fst.getD j 0:Nat):Int),.int ((snd.getD j 0:Nat):Int)]:=by rw[← zhl];rfl
    rw[e];exact zac
  ·rintro σ H7 ⟨⟨v7,v8,rfl⟩,s9,e3,e6,⟨ps,h7,pr7⟩,h8⟩
   refine⟨_,rfl,_,rfl,(by show 2≤sizeLine;decide),fun c hc=>?_⟩
   have sc:=zaa hc (.tup [.ref l7,.ref l8])
   have eN:Bn.mergeN (m+1) a b=((Bn.mergeN m (by2 0 a) (by2 1 b)).1++(Bn.mergeN m (by2 1 a) (by2 0 b)).1++fst.zip snd,zav fst snd):=by rw[← hF,← hS];rfl
   refine k c l7 l8 ps _ (s9.trans sc) hn7 (zag hc _) (sc _ _ h7) ?_ ?_
   ·rw[eN]
    rw[JE (by rw[zai,Z2];lia)]at pr7
    exact pr7.tups (Tups.of sc)
   ·rw[eN]
    rw[JE (by rw[zai];exact Jg _),JE (by rw[zai];lia)]at h8
    exact sc _ _ h8
theorem zg2 {f:Addr}{fd:FuncData}(F:Fun K "_law_merger" "_law_merger" zgJ f fd) (G:Mgs mg) (bS:Binds K fd ["_law_one","_law_other"] []) (mS:mg "_law_merger" = some (.ref f)):∀ n:Nat,FnOk P w K mg base CX0 (n+1) f fd ["_law_one","_law_other"] (zdy n)
 | 0=>zfl F G bS mS 0 ⟨fun vs H Q E ⟨m,h,_⟩=>by lia,fun A outer s H args us vs Q E _ _ _ _ ⟨m,h,_⟩=>by lia⟩
 | m+1=>zfl F G bS mS (m+1) ((zg2 F G bS mS m).imp fun vs H Q E ⟨m',h,q⟩=>by cases h;exact q)
abbrev zbz:Sp:=fun vs H Q E=>∃ m,m≤4∧zdy m vs H Q E
theorem zg3 {f:Addr}{fd:FuncData}(F:Fun K "_law_merger" "_law_merger" zgJ f fd) (G:Mgs mg) (bS:Binds K fd ["_law_one","_law_other"] []) (mS:mg "_law_merger" = some (.ref f)):FnOk P w K mg base CX0 5 f fd ["_law_one","_law_other"] zbz :=
 FnOk.any 4 fun m hm=>(zg2 F G bS mS m).mono (by lia)
end
abbrev zjZ:Stmt:=top 26
structure Few (l f:Nat) (N:Nt):Prop where
 ok:N.Ok
 ln:N.lanes≤l
 fk:N.forks.length≤f
def zgA:Sp:=fun vs H Q _=>∃ l:Addr,vs=[.ref l]∧Pk3 H l∧∀ r fr er ps N H',Few 6 8 N→NetAt H' r fr er ps N→Pk3 H' l→But l H H'→Q (.ref r) H'
def FkOk (H:Hp) (lanes:Nat) (x:V):Prop:=∃ a g,x=.ref a∧H a=some (.tup [.int ((g:Nat × Nat).1:Nat),.int ((g.2:Nat))])∧g.1<lanes∧g.2<lanes∧g.1≠g.2
theorem FkOk.tups {H H':Hp}(t:Tups H H') {lanes:Nat}{x:V}(h:FkOk H lanes x):FkOk H' lanes x:=by
 obtain⟨a,g,e,h1,h2⟩:=h
 exact⟨a,g,e,t _ _ h1,h2⟩
section
variable {P:Program}{w:World}{K:PySem.W.Frag}{mg:Str→Option Value}{base:Heap}
theorem scAy:FnScope ["_law_left_here","_law_lanes","_law_forks","_law_k","_law_a","_law_b","_law_ends"] ["_law_left_here"] (zae zjZ):=by trivial
theorem zki {f fK fX:Addr}{fd dK dX:FuncData}(F:Fun K "_law_any" "_law_any" zjZ f fd) (G:Mgs mg) (UK:Use P w K mg base "_law_pick" ["_law_left_here","_law_many"] 1 za6 fK dK) (UX:Use P w K mg base "_law_mixed" ["_law_left_here","_law_row"] 2 zc1 fX dX):FnOk P w K mg base CX0 3 f fd ["_law_left_here"] zgA:=by
 refine F.ok scAy (fun vs H Q E h=>?_) (fun cdv A outer s H vs Q E hr h=>?_)
 ·obtain⟨l,rfl,_⟩:=h
  rfl
 obtain⟨l,rfl,S,k⟩:=h
 have hr1:Room 1 _:=hr.mono (by decide)
 refine⟨_,(@pss_cons _ _ _ _ _ (@ps_set _ _ 1 _ _ _ _ scAy.nd rfl (.inl rfl) (@pe_ix _ _ _ _ _ _ _ ix_list (@pe_lst _ _ _ _ (@pa_cons _ _ _ _ _ pe_int (@pa_cons _ _ _ _ _ pe_int (@pa_cons _ _ _ _ _ pe_int (@pa_cons _ _ _ _ _ pe_int (@pa_cons _ _ _ _ _ pe_int (@pa_cons _ _ _ _ _ pe_int (@pa_cons _ _ _ _ _ pe_int (@pa_cons _ _ _ _ _ pe_int pa_nil (by rfl)) (by rfl)) (by rfl)) (by rfl)) (by rfl)) (by rfl)) (by rfl)) (by rfl))) (@pe_call _ _ _ _ _ _ _ _ _ _ _ _ _ _ _ _ UK.ok hr1 (by rfl) UK.m UK.kp UK.b .nil pass0 (@pa_cons _ _ _ _ _ (@qv _ 0 _ _ (by trivial)) (@pa_cons _ _ _ _ _ pe_int pa_nil (by rfl)) (by rfl)) (by decide) (by rfl) (by rfl)) (fun _ _=>rfl)) (by rfl) (by first|exact .inl rfl|exact .inr rfl|assumption)) (@pss_cons _ _ _ _ _ (@ps_set _ _ 2 _ _ _ _ scAy.nd rfl (.inl rfl) (@pe_lst _ _ _ _ pa_nil) (by rfl) (by first|exact .inl rfl|exact .inr rfl|assumption)) (@pss_cons _ _ _ _ _ (@ps_for _ _ _ _ _ _ _ _ PassesOwn.never rfl (@pi_range1 _ _ _ _ _ _ rfl G.range (@pa_cons _ _ _ _ _ (@pe_op _ _ _ _ _ _ _ _ op_mul (@pe_ix _ _ _ _ _ _ _ ix_list (@pe_lst _ _ _ _ (@pa_cons _ _ _ _ _ pe_int (@pa_cons _ _ _ _ _ pe_int (@pa_cons _ _ _ _ _ pe_int (@pa_cons _ _ _ _ _ pe_int (@pa_cons _ _ _ _ _ pe_int (@pa_cons _ _ _ _ _ pe_int (@pa_cons _ _ _ _ _ pe_int (@pa_cons _ _ _ _ _ pe_int pa_nil (by rfl)) (by rfl)) (by rfl)) (by rfl)) (by rfl)) (by rfl)) (by rfl)) (by rfl))) (@pe_call _ _ _ _ _ _ _ _ _ _ _ _ _ _ _ _ UK.ok hr1 (by rfl) UK.m UK.kp UK.b .nil pass0 (@pa_cons _ _ _ _ _ (@qv _ 0 _ _ (by trivial)) (@pa_cons _ _ _ _ _ pe_int pa_nil (by rfl)) (by rfl)) (by decide) (by rfl) (by rfl)) (fun _ _=>rfl)) (@pe_callTy _ _ _ _ _ _ _ _ _ zd3 (by rfl) G.int (by rfl) (@pa_cons _ _ _ _ _ (@zda _ _ _ _ _ _ _ _ ziA (@qv _ 1 _ _ (by trivial)) pe_int (nomark _)) pa_nil (by rfl)) (by decide) (by decide) (by rfl) (by rfl))) pa_nil (by rfl)) (by rfl)) (@pg_name _ _ 3 _ scAy.nd rfl (.inl rfl) (by first|exact .inl rfl|exact .inr rfl|assumption)) (@pss_cons _ _ _ _ _ (@ps_set _ _ 4 _ _ _ _ scAy.nd rfl (.inl rfl) (@pe_call _ _ _ _ _ _ _ _ _ _ _ _ _ _ _ _ UK.ok hr1 (by rfl) UK.m UK.kp UK.b .nil pass0 (@pa_cons _ _ _ _ _ (@qv _ 0 _ _ (by trivial)) (@pa_cons _ _ _ _ _ (@qv _ 1 _ _ (by trivial)) pa_nil (by rfl)) (by rfl)) (by decide) (by rfl) (by rfl)) (by rfl) (by first|exact .inl rfl|exact .inr rfl|assumption)) (@pss_cons _ _ _ _ _ (@ps_set _ _ 5 _ _ _ _ scAy.nd rfl (.inl rfl) (@pe_op _ _ _ _ _ _ _ _ op_mod (@pe_op _ _ _ _ _ _ _ _ op_add (@pe_op _ _ _ _ _ _ _ _ op_add (@qv _ 4 _ _ (by trivial)) pe_int) (@pe_call _ _ _ _ _ _ _ _ _ _ _ _ _ _ _ _ UK.ok hr1 (by rfl) UK.m UK.kp UK.b .nil pass0 (@pa_cons _ _ _ _ _ (@qv _ 0 _ _ (by trivial)) (@pa_cons _ _ _ _ _ (@pe_op _ _ _ _ _ _ _ _ op_sub (@qv _ 1 _ _ (by trivial)) pe_int) pa_nil (by rfl)) (by rfl)) (by decide) (by rfl) (by rfl))) (@qv _ 1 _ _ (by trivial))) (by rfl) (by first|exact .inl rfl|exact .inr rfl|assumption)) (@pss_one _ _ _ (@zaZ _ _ _ _ (@zdb _ _ _ _ _ _ _ _ _ _ _ _ PySem.F.plainAttrs_list PySem.F.slot_list_append PySem.F.type_list_append zaE (@qv _ 2 _ _ (by trivial)) (@pa_cons _ _ _ _ _ (@pe_ix _ _ _ _ _ _ _ ix_list (@pe_lst _ _ _ _ (@pa_cons _ _ _ _ _ (@pe_tup _ _ _ _ _ (@pa_cons _ _ _ _ _ (@qv _ 4 _ _ (by trivial)) (@pa_cons _ _ _ _ _ (@qv _ 5 _ _ (by trivial)) pa_nil (by rfl)) (by rfl))) (@pa_cons _ _ _ _ _ (@pe_tup _ _ _ _ _ (@pa_cons _ _ _ _ _ (@qv _ 4 _ _ (by trivial)) (@pa_cons _ _ _ _ _ (@qv _ 5 _ _ (by trivial)) pa_nil (by rfl)) (by rfl))) (@pa_cons _ _ _ _ _ (@pe_ix _ _ _ _ _ _ _ ix_list (@pe_op _ _ _ _ _ _ _ _ op_cat (@qv _ 2 _ _ (by trivial)) (@pe_lst _ _ _ _ (@pa_cons _ _ _ _ _ (@pe_tup _ _ _ _ _ (@pa_cons _ _ _ _ _ (@qv _ 4 _ _ (by trivial)) (@pa_cons _ _ _ _ _ (@qv _ 5 _ _ (by trivial)) pa_nil (by rfl)) (by rfl))) pa_nil (by rfl)))) pe_int (fun _ _=>rfl)) pa_nil (by rfl)) (by rfl)) (by rfl))) (@pe_call _ _ _ _ _ _ _ _ _ _ _ _ _ _ _ _ UK.ok hr1 (by rfl) UK.m UK.kp UK.b .nil pass0 (@pa_cons _ _ _ _ _ (@qv _ 0 _ _ (by trivial)) (@pa_cons _ _ _ _ _ pe_int pa_nil (by rfl)) (by rfl)) (by decide) (by rfl) (by rfl)) (fun _ _=>rfl)) pa_nil (by rfl)) (by rfl) (by rfl) (by rfl) (by rfl) (by rfl)) (by rfl))))) (by intro _;rfl)) (@pss_cons _ _ _ _ _ (@ps_set _ _ 6 _ _ _ _ scAy.nd rfl (.inl rfl) (@pe_ix _ _ _ _ _ _ _ ix_list (@pe_lst _ _ _ _ (@pa_cons _ _ _ _ _ (@pe_tupRng _ _ _ _ _ _ _ rfl (by rfl) G.tuple (by rfl) G.range (@pa_cons _ _ _ _ _ (@qv _ 1 _ _ (by trivial)) pa_nil (by rfl)) (by rfl) (by rfl)) (@pa_cons _ _ _ _ _ (@pe_call _ _ _ _ _ _ _ _ _ _ _ _ _ _ _ _ UX.ok hr (by rfl) UX.m UX.kp UX.b .nil pass0 (@pa_cons _ _ _ _ _ (@qv _ 0 _ _ (by trivial)) (@pa_cons _ _ _ _ _ (@pe_lstRng _ _ _ _ _ _ _ rfl (by rfl) G.list (by rfl) G.range (@pa_cons _ _ _ _ _ (@qv _ 1 _ _ (by trivial)) pa_nil (by rfl)) (by rfl) (by rfl)) pa_nil (by rfl)) (by rfl)) (by decide) (by rfl) (by rfl)) pa_nil (by rfl)) (by rfl))) (@pe_call _ _ _ _ _ _ _ _ _ _ _ _ _ _ _ _ UK.ok hr1 (by rfl) UK.m UK.kp UK.b .nil pass0 (@pa_cons _ _ _ _ _ (@qv _ 0 _ _ (by trivial)) (@pa_cons _ _ _ _ _ pe_int pa_nil (by rfl)) (by rfl)) (by decide) (by rfl) (by rfl)) (fun _ _=>rfl)) (by rfl) (by first|exact .inl rfl|exact .inr rfl|assumption)) (@pss_one _ _ _ (@ps_ret _ _ _ _ (@pe_tup _ _ _ _ _ (@pa_cons _ _ _ _ _ (@qv _ 1 _ _ (by trivial)) (@pa_cons _ _ _ _ _ (@pe_callTy _ _ _ _ _ _ _ _ _ call_tuple_of (by rfl) G.tuple (by rfl) (@pa_cons _ _ _ _ _ (@qv _ 2 _ _ (by trivial)) pa_nil (by rfl)) (by decide) (by decide) (by rfl) (by rfl)) (@pa_cons _ _ _ _ _ (@qv _ 6 _ _ (by trivial)) pa_nil (by rfl)) (by rfl)) (by rfl))))))))),?_⟩
 refine⟨(by show 8≤sizeLine;decide),fun t ht=>⟨_,rfl,l,8,rfl,by decide,by decide,S.keep (zaa ht _),fun v H1 hv S1 B1=>?_⟩⟩
 obtain⟨lanes,lm,la⟩:=zc9 (xs:=[1,2,2,3,4,3,4,6]) (v:=v) (by show v<8;lia)
 have lb:1≤lanes∧lanes≤6:=(show ∀ n∈[1,2,2,3,4,3,4,6],1≤n∧n≤6 by decide) lanes lm
 obtain⟨l1,l6⟩:=lb
 refine⟨t,_,_,_,rfl,rfl,SqL.of (B1 t _ (zag ht _) (S.ne ht).symm),la,?_⟩
 have B1':But l H H1:=(But.of (zaa ht _)).trans B1
 clear ht B1 la lm
 refine⟨(by show 0≤sizeLine;decide),fun lf hlf=>?_⟩
 have nlf:=S1.ne hlf
 have sf:=zaa hlf (.lst [])
 have flf:Frs l H lf:=B1'.frs hlf
 refine⟨(by show 8≤sizeLine;decide),fun t ht=>⟨_,rfl,l,8,rfl,by decide,by decide,(S1.keep sf).keep (zaa ht _),fun v2 H2 hv2 S2 B2=>?_⟩⟩
 obtain⟨many,mm,ma⟩:=zc9 (xs:=[0,1,2,3,4,5,6,8]) (v:=v2) (by show v2<8;lia)
 have mb:many≤8:=(show ∀ n∈[0,1,2,3,4,5,6,8],n≤8 by decide) many mm
 refine⟨t,_,_,_,rfl,rfl,SqL.of (B2 t _ (zag ht _) ((S1.keep sf).ne ht).symm),ma,?_⟩
 have hf2:=B2 lf _ (zaa ht _ _ _ (zag hlf (.lst []))) nlf.symm
 have B2':But l H H2:=((B1'.trans (But.of sf)).trans (But.of (zaa ht _))).trans B2
 clear ht B2 ma mm hlf sf
 refine⟨_,rfl,_,_,rfl,rfl,.inr ⟨_,rfl,_,_,rfl,rfl,.inl ⟨by lia,by lia⟩,?_⟩⟩
 have cb:((many:Int)*(if decide ((1:Int)<lanes)=true then 1 else 0))=((if 1<lanes then many else 0:Nat):Int):=by
  by_cases z:1<lanes
  ·rw[Jf (Jz (by lia)),Jf z];lia
  ·rw[Jc (by rw[Jq (by lia)];exact Jh),Jc z];lia
 have cl:(if 1<lanes then many else 0)≤8:=by split<;>lia
 refine⟨_,rfl,by rw[cb];lia,by rw[cb];lia,?_⟩
 rw[cb]
 generalize hcnt:(if 1<lanes then many else 0)=cnt at cl
 refine za9 (lo:=0) (n:=((cnt:Nat):Int).toNat) (fun i σ H2=>(∃ w3 w4 w5 w6,σ=[some (.ref l),some (.int (lanes:Nat)),some (.ref lf),w3,w4,w5,w6])∧Pk3 H2 l∧But l H H2∧∃ ps fs,H2 lf=some (.lst ps)∧Prs H2 ps fs∧fs.length=i∧∀ f∈fs,f.1<lanes∧f.2<lanes∧f.1≠f.2)
  ⟨⟨_,_,_,_,rfl⟩,S2,B2',[],[],hf2,trivial,rfl,fun f hf=>by simp at hf⟩ ?_ ?_
 ·rintro i σ H2 hi ⟨⟨w3,w4,w5,w6,rfl⟩,S2,B2,ps,fs,h2,p2,fl,fok⟩
  have l2:1<lanes:=by
   by_cases z:1<lanes
   ·exact z
   ·rw[Jc z]at hcnt;lia
  refine⟨_,rfl,_,rfl,l,lanes,rfl,by lia,by lia,S2,fun one H3 ho S3 B3=>?_⟩
  refine⟨_,rfl,_,_,rfl,rfl,_,rfl,_,rfl,_,_,rfl,rfl,l,_,rfl,by lia,by lia,S3,fun d H4 hd S4 B4=>?_⟩
  refine⟨_,_,rfl,rfl,_,rfl,_,_,rfl,rfl,by lia,?_⟩
  have hone:one<lanes:=by lia
  obtain⟨ok1,ok2⟩:=ziz (one:=one) (d:=d) (lanes:=lanes) hone (by lia)
  have ec:((one:Int)+1+d)%lanes=(((one+1+d)%lanes:Nat):Int):=by rw[Int.natCast_emod,Int.natCast_add,Int.natCast_add];rfl
  dsimp only
  rw[ec]
  generalize (one+1+d)%lanes=oth at ok1 ok2
  have h4:=B4 lf _ (B3 lf _ h2 nlf.symm) nlf.symm
  have p4:=p2.tups ((B3.tups3 S2).trans (B4.tups3 S3))
  have B4':But l H H4:=(B2.trans B3).trans B4
  have pl:=p4.len
  refine⟨_,rfl,.inl ⟨rfl,_,SqL.of h4⟩,_,rfl,_,rfl,(by show 2≤sizeLine;decide),fun t1 ht1=>⟨_,rfl,_,rfl,(by show 2≤sizeLine;decide),fun t2 ht2=>?_⟩⟩
  have s1:=zaa ht1 (.tup [.int (one:Nat),.int (oth:Nat)])
  have s2:=zaa ht2 (.tup [.int (one:Nat),.int (oth:Nat)])
  have u2:=s1.trans s2
  refine⟨_,rfl,_,rfl,_,rfl,(by show 2≤sizeLine;decide),fun t3 ht3=>⟨(by show 1≤sizeLine;decide),fun l3 hl3=>?_⟩⟩
  have s3:=zaa ht3 (.tup [.int (one:Nat),.int (oth:Nat)])
  have s4:=zaa hl3 (.lst [.ref t3])
  have u4:=(u2.trans s3).trans s4
  refine⟨lf,l3,_,_,rfl,rfl,u4 _ _ h4,zag hl3 _,by rw[Jy];show ps.length+1≤_;lia,fun l4 hl4=>?_⟩
  have s5:=zaa hl4 (.lst (ps++[.ref t3]))
  have u5:=u4.trans s5
  have k1:FkOk _ lanes (.ref t1):=⟨t1,(one,oth),rfl,s5 _ _ (s4 _ _ (s3 _ _ (s2 _ _ (zag ht1 _)))),hone,ok1,ok2⟩
  have k2:FkOk _ lanes (.ref t2):=⟨t2,(one,oth),rfl,s5 _ _ (s4 _ _ (s3 _ _ (zag ht2 _))),hone,ok1,ok2⟩
  obtain⟨x0,e0,k0⟩:∃ x0,(ps++[V.ref t3])[0]?=some x0∧FkOk (L2.upd (L2.upd (L2.upd (L2.upd (L2.upd H4 t1 (.tup [.int (one:Nat),.int (oth:Nat)])) t2 (.tup [.int (one:Nat),.int (oth:Nat)])) t3 (.tup [.int (one:Nat),.int (oth:Nat)])) l3 (.lst [.ref t3])) l4 (.lst (ps++[.ref t3]))) lanes x0:=by
   cases ps with
   | nil=>exact⟨_,rfl,t3,(one,oth),rfl,s5 _ _ (s4 _ _ (zag ht3 _)),hone,ok1,ok2⟩
   | cons p ps =>
    obtain⟨a,g,e,eg,ha⟩:=p4.get (i:=0) (p:=p) rfl
    exact⟨p,rfl,a,g,e,u5 _ _ ha,fok g (JZ eg)⟩
  have h5:=u5 _ _ h4
  have p5:=p4.tups (Tups.of u5)
  have S5:=S4.keep u5
  have B5:=B4'.trans (But.of (l:=l) u5)
  refine⟨l4,_,0,x0,rfl,rfl,SqL.of (zag hl4 _),zap (j:=0) e0,?_⟩
  generalize L2.upd (L2.upd (L2.upd (L2.upd (L2.upd H4 t1 (.tup [.int (one:Nat),.int (oth:Nat)])) t2 (.tup [.int (one:Nat),.int (oth:Nat)])) t3 (.tup [.int (one:Nat),.int (oth:Nat)])) l3 (.lst [.ref t3])) l4 (.lst (ps++[.ref t3]))=H5 at *
  refine⟨(by show 3≤sizeLine;decide),fun l5 hl5=>⟨_,rfl,l,3,rfl,by decide,by decide,S5.keep (zaa hl5 _),fun v3 H6 hv3 S6 B6=>?_⟩⟩
  have s6:=zaa hl5 (.lst [.ref t1,.ref t2,x0])
  have v33:v3<3:=by lia
  have t6:=(Tups.of s6).trans (B6.tups3 (S5.keep s6))
  obtain⟨x,ex,kx⟩:∃ x,[V.ref t1,V.ref t2,x0][v3]?=some x∧FkOk H6 lanes x:=by
   rcases v3 with _|_|_|v3
   ·exact⟨_,rfl,k1.tups t6⟩
   ·exact⟨_,rfl,k2.tups t6⟩
   ·exact⟨_,rfl,k0.tups t6⟩
   ·lia
  refine⟨l5,_,_,x,rfl,rfl,SqL.of (B6 l5 _ (zag hl5 _) (S5.ne hl5).symm),zap ex,?_⟩
  have h6:=B6 lf _ (s6 _ _ h5) nlf.symm
  have p6:=p5.tups t6
  obtain⟨a,g,rfl,ha,gk⟩:=kx
  refine⟨lf,ps,_,rfl,rfl,h6,by rw[Jy];lia,⟨_,_,_,_,rfl⟩,S6.upd nlf,((B5.trans (But.of s6)).trans B6).upd flf,ps++[.ref a],fs++[g],zac,Prs.add (f:=g) (Tups.lst h6 _ _ ha) (p6.tups (Tups.lst h6)),by rw[Ja,fl];rfl,fun f hf=>?_⟩
  rcases Js.mp hf with z|z
  ·exact fok f z
  ·rw[Jd.mp z];exact gk
 ·rintro σ H2 ⟨⟨w3,w4,w5,w6,rfl⟩,S2,B2,ps,fs,h2,p2,fl,fok⟩
  have fl8:fs.length≤8:=by rw[fl];lia
  refine⟨_,rfl,lanes,rfl,by lia,fun t1 ht1=>?_⟩
  have s1:=zaa ht1 (.tup (nums (List.range lanes)))
  refine⟨_,rfl,_,rfl,lanes,rfl,by lia,fun l2 hl2=>?_⟩
  have s2:=zaa hl2 (.lst (nums (List.range lanes)))
  have u2:=s1.trans s2
  refine⟨l,l2,nums (List.range lanes),rfl,zag hl2 _,by rw[zai,Y9];lia,S2.keep u2,fun t3 ys H3 py ht3 S3 B3=>?_⟩
  have ht1':=B3 t1 _ (s2 _ _ (zag ht1 _)) (S2.ne ht1).symm
  have h3:=B3 lf _ (u2 _ _ h2) nlf.symm
  have p3:=p2.tups ((Tups.of u2).trans (B3.tups3 (S2.keep u2)))
  have B3':=(B2.trans (But.of u2)).trans B3
  refine⟨(by show 2≤sizeLine;decide),fun l5 hl5=>⟨_,rfl,l,2,rfl,by decide,by decide,S3.keep (zaa hl5 _),fun v3 H6 hv3 S6 B6=>?_⟩⟩
  have s6:=zaa hl5 (.lst [.ref t1,.ref t3])
  have t6:=(Tups.of s6).trans (B6.tups3 (S3.keep s6))
  obtain⟨x,ex,e,kx,pe⟩:∃ x,[V.ref t1,V.ref t3][v3]?=some (.ref x)∧∃ es:List Nat,H6 x=some (.tup (nums es))∧es.Perm (List.range lanes):=by
   rcases v3 with _|_|v3
   ·exact⟨_,rfl,_,t6 _ _ ht1',.refl _⟩
   ·obtain⟨es,rfl,pe⟩:=zdG py
    exact⟨_,rfl,es,t6 _ _ ht3,pe⟩
   ·lia
  refine⟨l5,_,_,.ref x,rfl,rfl,SqL.of (B6 l5 _ (zag hl5 _) (S3.ne hl5).symm),zap ex,?_⟩
  have h6:=B6 lf _ (s6 _ _ h3) nlf.symm
  have p6:=p3.tups t6
  refine⟨_,rfl,_,rfl,lf,_,rfl,.inl ⟨SqL.of h6,fun a ha=>?_⟩⟩
  have s7:=zaa ha (.tup ps)
  refine⟨_,rfl,(by show 3≤sizeLine;decide),fun r hr'=>?_⟩
  have s8:=zaa hr' (.tup [.int (lanes:Nat),.ref a,.ref x])
  refine k r a x ps ⟨lanes,fs,e⟩ _ ⟨⟨l1,by show lanes≤16;lia,by show fs.length≤128;lia,fok,pe⟩,l6,fl8⟩ ⟨zag hr' _,s8 _ _ (zag ha _),p6.tups (Tups.of (s7.trans s8)),s8 _ _ (s7 _ _ kx)⟩ ((S6.keep s7).keep s8) ((B3'.trans (But.of s6)).trans (B6.trans (But.of (s7.trans s8))))
end
abbrev sChg:Stmt:=top 27
def zjP:Sp:=fun vs H Q _=>∃ l r fr er ps N lb fb,vs=[.ref l,.ref r]∧Pk3 H l∧Few lb fb N∧fb≤100∧NetAt H r fr er ps N∧∀ r' fr' er' ps' N' H',Few lb (fb+1) N'→N'.lanes=N.lanes→NetAt H' r' fr' er' ps' N'→Pk3 H' l→But l H H'→Q (.ref r') H'
theorem zlq (xs:List V) (i j:Nat):cutV xs (some (i:Int)) (some (j:Int))=(xs.drop i).take (j-i):=by
 unfold cutV
 rw[HT.sIx_nat,HT.sIx_nat]
 by_cases c:i≤xs.length
 ·rw[YE c]
  by_cases d:j≤xs.length
  ·rw[YE d]
  ·rw[Nat.min_eq_right (by lia),JE (by rw[Yf];lia),JE (by rw[Yf];lia)]
 ·rw[List.drop_of_length_le (show xs.length≤i by lia),List.drop_of_length_le (by lia),Zu,Zu]
theorem zjd (xs:List V) (i:Nat):cutV xs (some (i:Int)) none=xs.drop i:=by
 unfold cutV
 rw[HT.sIx_none,HT.sIx_nat]
 by_cases c:i≤xs.length
 ·rw[YE c]
  exact JE (by rw[Yf];exact Jg _)
 ·rw[List.drop_of_length_le (show xs.length≤i by lia),List.drop_of_length_le (by lia),Zu]
theorem zhQ (xs:List V) (i:Nat):cutV xs none (some (i:Int))=xs.take i:=by
 unfold cutV
 rw[HT.sIx_none,HT.sIx_nat,Z9,Nat.sub_zero]
 by_cases c:i≤xs.length
 ·rw[YE c]
 ·rw[JE (by lia),JE (by lia)]
theorem zb8 {H:Hp}:∀ {ps:List V}{fs:List (Nat × Nat)}(n:Nat),Prs H ps fs→Prs H (ps.take n) (fs.take n)
 | [],[],n,_=>by rw[Zu,Zu];trivial
 | _::_,_::_,0,_=>trivial
 | _::_,_::_,n+1,⟨x,r⟩=>⟨x,zb8 n r⟩
theorem za0 {H:Hp}:∀ {ps:List V}{fs:List (Nat × Nat)}(n:Nat),Prs H ps fs→Prs H (ps.drop n) (fs.drop n)
 | [],[],n,_=>by rw[List.drop_nil,List.drop_nil];trivial
 | _::_,_::_,0,h=>h
 | _::_,_::_,n+1,⟨_,r⟩=>za0 n r
def FksOk (lanes:Nat) (gs:List (Nat × Nat)):Prop:=∀ f∈gs,f.1<lanes∧f.2<lanes∧f.1≠f.2
theorem FksOk.app {lanes:Nat}{a b:List (Nat × Nat)}(x:FksOk lanes a) (y:FksOk lanes b):FksOk lanes (a++b):=fun f hf=>(Js.mp hf).elim (x f) (y f)
theorem FksOk.take {lanes:Nat}{a:List (Nat × Nat)}(x:FksOk lanes a) (n:Nat):FksOk lanes (a.take n):=fun f hf=>x f (Yu hf)
theorem FksOk.drop {lanes:Nat}{a:List (Nat × Nat)}(x:FksOk lanes a) (n:Nat):FksOk lanes (a.drop n):=fun f hf=>x f (List.mem_of_mem_drop hf)
section
variable {P:Program}{w:World}{K:PySem.W.Frag}{mg:Str→Option Value}{base:Heap}
theorem scCh:FnScope ["_law_left_here","_law_net_here","_law_lanes","_law_forks","_law_ends","_law_way","_law_at","_law_k","_law_here","_law_row"] ["_law_left_here","_law_net_here"] (zae sChg):=by trivial
theorem zk7 {f fK:Addr}{fd dK:FuncData}(F:Fun K "_law_changed" "_law_changed" sChg f fd) (G:Mgs mg) (UK:Use P w K mg base "_law_pick" ["_law_left_here","_law_many"] 1 za6 fK dK):FnOk P w K mg base CX0 2 f fd ["_law_left_here","_law_net_here"] zjP:=by
 refine F.ok scCh (fun vs H Q E h=>?_) (fun cdv A outer s H vs Q E hr h=>?_)
 ·obtain⟨l,r,fr,er,ps,N,lb,fb,rfl,_⟩:=h
  rfl
 obtain⟨l,r,fr,er,ps,N,lb,fb,rfl,S,few,fb1,na,k⟩:=h
 refine⟨_,(@pss_cons _ _ _ _ _ (@ps_asg _ _ _ _ _ _ (@qv _ 1 _ _ (by trivial)) (@pg_tup _ _ _ _ _ _ rfl (@pgs_cons _ _ _ _ _ (@pg_name _ _ 2 _ scCh.nd rfl (.inl rfl) (by first|exact .inl rfl|exact .inr rfl|assumption)) (@pgs_cons _ _ _ _ _ (@pg_name _ _ 3 _ scCh.nd rfl (.inl rfl) (by first|exact .inl rfl|exact .inr rfl|assumption)) (@pgs_cons _ _ _ _ _ (@pg_name _ _ 4 _ scCh.nd rfl (.inl rfl) (by first|exact .inl rfl|exact .inr rfl|assumption)) pgs_nil (by rfl)) (by rfl)) (by rfl)) (by rfl) (by rfl)) (by rfl) (by rfl) (by rfl)) (@pss_cons _ _ _ _ _ (zj4 (i:=5) (j:=6) (k:=7) rfl scCh.nd rfl rfl rfl (by decide) (by decide) (by decide) rfl rfl rfl (@pa_cons _ _ _ _ _ (@pe_call _ _ _ _ _ _ _ _ _ _ _ _ _ _ _ _ UK.ok hr (by rfl) UK.m UK.kp UK.b .nil pass0 (@pa_cons _ _ _ _ _ (@qv _ 0 _ _ (by trivial)) (@pa_cons _ _ _ _ _ pe_int pa_nil (by rfl)) (by rfl)) (by decide) (by rfl) (by rfl)) (@pa_cons _ _ _ _ _ (@pe_call _ _ _ _ _ _ _ _ _ _ _ _ _ _ _ _ UK.ok hr (by rfl) UK.m UK.kp UK.b .nil pass0 (@pa_cons _ _ _ _ _ (@qv _ 0 _ _ (by trivial)) (@pa_cons _ _ _ _ _ (@pe_op _ _ _ _ _ _ _ _ op_add (@pe_callB _ _ _ _ _ _ _ _ _ zah (by rfl) G.len PySem.boot_len (@pa_cons _ _ _ _ _ (@qv _ 3 _ _ (by trivial)) pa_nil (by rfl)) (by decide) (by decide) (by rfl) (by rfl)) pe_int) pa_nil (by rfl)) (by rfl)) (by decide) (by rfl) (by rfl)) (@pa_cons _ _ _ _ _ (@pe_call _ _ _ _ _ _ _ _ _ _ _ _ _ _ _ _ UK.ok hr (by rfl) UK.m UK.kp UK.b .nil pass0 (@pa_cons _ _ _ _ _ (@qv _ 0 _ _ (by trivial)) (@pa_cons _ _ _ _ _ (@qv _ 2 _ _ (by trivial)) pa_nil (by rfl)) (by rfl)) (by decide) (by rfl) (by rfl)) pa_nil (by rfl)) (by rfl)) (by rfl)) (by rfl)) (@pss_cons _ _ _ _ _ (@ps_set _ _ 8 _ _ _ _ scCh.nd rfl (.inl rfl) (@pe_slice _ _ _ _ _ _ _ _ _ _ sl_tupH (@qv _ 3 _ _ (by trivial)) (@po_some _ _ _ (@qv _ 6 _ _ (by trivial))) (@po_some _ _ _ (@pe_op _ _ _ _ _ _ _ _ op_add (@qv _ 6 _ _ (by trivial)) pe_int))) (by rfl) (by first|exact .inl rfl|exact .inr rfl|assumption)) (@pss_cons _ _ _ _ _ (@ps_if _ _ _ _ _ _ _ _ (@pt_cmpR _ _ _ _ _ _ _ _ op_eq (@qv _ 5 _ _ (by trivial)) pe_int (nomark _)) (@pss_one _ _ _ (@ps_ret _ _ _ _ (@pe_tup _ _ _ _ _ (@pa_cons _ _ _ _ _ (@qv _ 2 _ _ (by trivial)) (@pa_cons _ _ _ _ _ (@pe_op _ _ _ _ _ _ _ _ op_catH (@pe_op _ _ _ _ _ _ _ _ op_catH (@pe_slice _ _ _ _ _ _ _ _ _ _ sl_tupH (@qv _ 3 _ _ (by trivial)) po_none (@po_some _ _ _ (@qv _ 6 _ _ (by trivial)))) (@pe_callTy _ _ _ _ _ _ _ _ _ call_tuple_of (by rfl) G.tuple (by rfl) (@pa_cons _ _ _ _ _ (@pe_lc _ _ _ _ none _ _ _ (gTup K 2 (zkA (zeJ 0) (zkA (zeJ 1) gNil))) _ _ ["_law_a","_law_b"] [none,none] rfl (@zgT _ _ _ _ (@qv _ 8 _ _ (by trivial))) (CapOk.of (by kernel_rfl)) (fun _ _ _ _ _=>(@pg_tup _ _ _ _ _ _ rfl (@pgs_cons _ _ _ _ _ (@pg_name _ _ 0 _ (show (["_law_a","_law_b"]:List Str).Nodup from by decide +kernel) rfl (.inl rfl) (.inr rfl)) (@pgs_cons _ _ _ _ _ (@pg_name _ _ 1 _ (show (["_law_a","_law_b"]:List Str).Nodup from by decide +kernel) rfl (.inl rfl) (.inr rfl)) pgs_nil (by rfl)) (by rfl)) (by rfl) (by rfl))) (fun _ _ _ _ _=>zbS) (fun _ _ _ _ _=>(@pe_tup _ _ _ _ _ (@pa_cons _ _ _ _ _ (@qv _ 1 _ _ (by trivial)) (@pa_cons _ _ _ _ _ (@qv _ 0 _ _ (by trivial)) pa_nil (by rfl)) (by rfl)))) (by intro _;rfl)) pa_nil (by rfl)) (by decide) (by decide) (by rfl) (by rfl))) (@pe_slice _ _ _ _ _ _ _ _ _ _ sl_tupH (@qv _ 3 _ _ (by trivial)) (@po_some _ _ _ (@pe_op _ _ _ _ _ _ _ _ op_add (@qv _ 6 _ _ (by trivial)) pe_int)) po_none)) (@pa_cons _ _ _ _ _ (@qv _ 4 _ _ (by trivial)) pa_nil (by rfl)) (by rfl)) (by rfl))))) pss_nil) (@pss_cons _ _ _ _ _ (@ps_if _ _ _ _ _ _ _ _ (@pt_cmpR _ _ _ _ _ _ _ _ op_eq (@qv _ 5 _ _ (by trivial)) pe_int (nomark _)) (@pss_one _ _ _ (@ps_ret _ _ _ _ (@pe_tup _ _ _ _ _ (@pa_cons _ _ _ _ _ (@qv _ 2 _ _ (by trivial)) (@pa_cons _ _ _ _ _ (@pe_op _ _ _ _ _ _ _ _ op_catH (@pe_slice _ _ _ _ _ _ _ _ _ _ sl_tupH (@qv _ 3 _ _ (by trivial)) po_none (@po_some _ _ _ (@qv _ 6 _ _ (by trivial)))) (@pe_slice _ _ _ _ _ _ _ _ _ _ sl_tupH (@qv _ 3 _ _ (by trivial)) (@po_some _ _ _ (@pe_op _ _ _ _ _ _ _ _ op_add (@qv _ 6 _ _ (by trivial)) pe_int)) po_none)) (@pa_cons _ _ _ _ _ (@qv _ 4 _ _ (by trivial)) pa_nil (by rfl)) (by rfl)) (by rfl))))) pss_nil) (@pss_cons _ _ _ _ _ (@ps_if _ _ _ _ _ _ _ _ (@pt_cmpR _ _ _ _ _ _ _ _ op_eq (@qv _ 5 _ _ (by trivial)) pe_int (nomark _)) (@pss_one _ _ _ (@ps_ret _ _ _ _ (@pe_tup _ _ _ _ _ (@pa_cons _ _ _ _ _ (@qv _ 2 _ _ (by trivial)) (@pa_cons _ _ _ _ _ (@pe_op _ _ _ _ _ _ _ _ op_catH (@pe_op _ _ _ _ _ _ _ _ op_catH (@pe_slice _ _ _ _ _ _ _ _ _ _ sl_tupH (@qv _ 3 _ _ (by trivial)) po_none (@po_some _ _ _ (@qv _ 6 _ _ (by trivial)))) (@qv _ 8 _ _ (by trivial))) (@pe_slice _ _ _ _ _ _ _ _ _ _ sl_tupH (@qv _ 3 _ _ (by trivial)) (@po_some _ _ _ (@qv _ 6 _ _ (by trivial))) po_none)) (@pa_cons _ _ _ _ _ (@qv _ 4 _ _ (by trivial)) pa_nil (by rfl)) (by rfl)) (by rfl))))) pss_nil) (@pss_cons _ _ _ _ _ (@ps_if _ _ _ _ _ _ _ _ (@pt_cmpR _ _ _ _ _ _ _ _ op_eq (@qv _ 5 _ _ (by trivial)) pe_int (nomark _)) (@pss_one _ _ _ (@ps_ret _ _ _ _ (@pe_tup _ _ _ _ _ (@pa_cons _ _ _ _ _ (@qv _ 2 _ _ (by trivial)) (@pa_cons _ _ _ _ _ (@pe_op _ _ _ _ _ _ _ _ op_catH (@pe_op _ _ _ _ _ _ _ _ op_catH (@pe_op _ _ _ _ _ _ _ _ op_catH (@pe_slice _ _ _ _ _ _ _ _ _ _ sl_tupH (@qv _ 3 _ _ (by trivial)) po_none (@po_some _ _ _ (@qv _ 6 _ _ (by trivial)))) (@pe_slice _ _ _ _ _ _ _ _ _ _ sl_tupH (@qv _ 3 _ _ (by trivial)) (@po_some _ _ _ (@pe_op _ _ _ _ _ _ _ _ op_add (@qv _ 6 _ _ (by trivial)) pe_int)) (@po_some _ _ _ (@pe_op _ _ _ _ _ _ _ _ op_add (@qv _ 6 _ _ (by trivial)) pe_int)))) (@qv _ 8 _ _ (by trivial))) (@pe_slice _ _ _ _ _ _ _ _ _ _ sl_tupH (@qv _ 3 _ _ (by trivial)) (@po_some _ _ _ (@pe_op _ _ _ _ _ _ _ _ op_add (@qv _ 6 _ _ (by trivial)) pe_int)) po_none)) (@pa_cons _ _ _ _ _ (@qv _ 4 _ _ (by trivial)) pa_nil (by rfl)) (by rfl)) (by rfl))))) pss_nil) (@pss_cons _ _ _ _ _ (@ps_set _ _ 9 _ _ _ _ scCh.nd rfl (.inl rfl) (@pe_callTy _ _ _ _ _ _ _ _ _ call_list_of (by rfl) G.list (by rfl) (@pa_cons _ _ _ _ _ (@qv _ 4 _ _ (by trivial)) pa_nil (by rfl)) (by decide) (by decide) (by rfl) (by rfl)) (by rfl) (by first|exact .inl rfl|exact .inr rfl|assumption)) (@pss_cons _ _ _ _ _ (@ps_asg _ _ _ _ _ _ (@pe_tup _ _ _ _ _ (@pa_cons _ _ _ _ _ (@pe_ix _ _ _ _ _ _ _ ix_tup (@qv _ 4 _ _ (by trivial)) (@qv _ 7 _ _ (by trivial)) (fun _ _=>rfl)) (@pa_cons _ _ _ _ _ (@pe_ix _ _ _ _ _ _ _ ix_tup (@qv _ 4 _ _ (by trivial)) pe_int (fun _ _=>rfl)) pa_nil (by rfl)) (by rfl))) (@pg_tup _ _ _ _ _ _ rfl (@pgs_cons _ _ _ _ _ (@pg_sub _ _ _ _ _ _ _ (@qv _ 9 _ _ (by trivial)) pe_int set_list (by intro _;rfl)) (@pgs_cons _ _ _ _ _ (@pg_sub _ _ _ _ _ _ _ (@qv _ 9 _ _ (by trivial)) (@qv _ 7 _ _ (by trivial)) set_list (by intro _;rfl)) pgs_nil (by rfl)) (by rfl)) (by rfl) (by rfl)) (by rfl) (by rfl) (by rfl)) (@pss_one _ _ _ (@ps_ret _ _ _ _ (@pe_tup _ _ _ _ _ (@pa_cons _ _ _ _ _ (@qv _ 2 _ _ (by trivial)) (@pa_cons _ _ _ _ _ (@qv _ 3 _ _ (by trivial)) (@pa_cons _ _ _ _ _ (@pe_callTy _ _ _ _ _ _ _ _ _ call_tuple_of (by rfl) G.tuple (by rfl) (@pa_cons _ _ _ _ _ (@qv _ 9 _ _ (by trivial)) pa_nil (by rfl)) (by decide) (by decide) (by rfl) (by rfl)) pa_nil (by rfl)) (by rfl)) (by rfl)))))))))))))),?_⟩
 have ok:=few.ok
 have l16:=ok.l16
 have l1:=ok.l1
 have fk:=few.fk
 have pl:=na.prs.len
 refine⟨_,rfl,r,_,rfl,SqT.of na.net,rfl,_,_,rfl,_,_,rfl,_,_,rfl,rfl,?_⟩
 refine⟨_,rfl,l,5,rfl,by decide,by decide,S,fun way H1 hw S1 B1=>?_⟩
 have na1:=na.tups (B1.tups3 S)
 refine⟨_,rfl,_,rfl,fr,ps,rfl,.inr (SqT.of na1.forks),_,_,rfl,rfl,l,_,rfl,by lia,by lia,S1,fun pl2 H2 hp2 S2 B2=>?_⟩
 refine⟨_,rfl,_,rfl,l,_,rfl,by lia,by lia,S2,fun kk H3 hk S3 B3=>⟨_,_,_,rfl,?_⟩⟩
 have na3:=(na1.tups (B2.tups3 S1)).tups (B3.tups3 S2)
 have B':But l H H3:=(B1.trans B2).trans B3
 clear na1 B1 B2 B3 S1 S2
 have p2:pl2≤ps.length:=by lia
 refine⟨_,rfl,_,rfl,_,rfl,_,rfl,_,_,rfl,rfl,_,rfl,fr,ps,rfl,na3.forks,fun hh H4 s4 hh4=>?_⟩
 have e1:((pl2:Nat):Int)+1=((pl2+1:Nat):Int):=rfl
 have e2:((pl2:Nat):Int)+2=((pl2+2:Nat):Int):=rfl
 rw[e1,zlq,show pl2+1-pl2=1 by lia]at hh4
 have fko:FksOk N.lanes N.forks:=ok.fk
 have lb1:=few.ln
 have bl:N.forks.length≤100:=by lia
 have fin:∀ (a:Addr) (qs:List V) (gs:List (Nat × Nat)) (H5:Hp),Same H3 H5→H5 a=some (.tup qs)→Prs H5 qs gs→FksOk N.lanes gs→gs.length≤fb+1→∀ q,H5 q=none→Q (.ref q) (L2.upd H5 q (.tup [.int (N.lanes:Nat),.ref a,.ref er])):=fun a qs gs H5 s5 ha pr go gl q hq=>by
  have s6:=zaa hq (.tup [.int (N.lanes:Nat),.ref a,.ref er])
  have u:=s5.trans s6
  exact k q a er qs ⟨N.lanes,gs,N.ends⟩ _ ⟨⟨l1,l16,by show gs.length≤128;lia,go,ok.en⟩,lb1,gl⟩ rfl ⟨zag hq _,s6 _ _ ha,pr.tups (Tups.of s6),u _ _ na3.ends⟩ (S3.keep u) (B'.trans (But.of u))
 have pr3:=na3.prs
 have f4:=s4 _ _ na3.forks
 have hl4:((ps.drop pl2).take 1).length≤1:=by rw[Jw];lia
 have prh:=zb8 1 (za0 pl2 pr3)
 have gl1:((N.forks.drop pl2).take 1).length≤1:=by rw[Jw];lia
 have pA:=zb8 pl2 pr3
 have lA:(N.forks.take pl2).length=pl2:=by rw[Jw];lia
 have lA':(ps.take pl2).length=pl2:=by rw[Jw];lia
 have lD:∀ n,(N.forks.drop n).length=N.forks.length-n:=fun n=>Yf
 have lD':∀ n,(ps.drop n).length=N.forks.length-n:=fun n=>by rw[Yf,pl]
 dsimp only[zeJ]
 refine⟨_,rfl,rfl,_,rfl,ite2 (fun _=>?_) (fun _=>?_)⟩
 ·refine⟨_,rfl,_,rfl,_,rfl,_,rfl,fr,ps,rfl,f4,fun p1 H5 s5 h5=>?_⟩
  rw[zhQ]at h5
  have u5:=s4.trans s5
  have hh5:=s5 _ _ hh4
  have pr5:=prh.tups (Tups.of u5)
  refine⟨_,rfl,hh,rfl,⟨_,SqT.of hh5⟩,fun lc hlc=>?_⟩
  have s6:=zaa hlc (.lst [])
  refine zjz (K:=K) (a:=hh) (xs:=(ps.drop pl2).take 1) (fun i acc σ H6=>(∃ v0 v1,σ=[v0,v1])∧Same H5 H6∧H6 lc=some (.lst acc)∧acc.length=i∧Prs H6 acc ((((N.forks.drop pl2).take 1).take i).map fun g=>(g.2,g.1))) ⟨⟨_,_,rfl⟩,s6,zag hlc _,rfl,trivial⟩ (fun i acc σ H6 z=>⟨z.2.2.1,SqT.of (z.2.1 _ _ hh5)⟩) ?_ ?_
  ·rintro i x acc σ H6 hx ⟨⟨v0,v1,rfl⟩,s7,h7,al,p7⟩
   obtain⟨a,g,rfl,eg,ha⟩:=(pr5.tups (Tups.of s7)).get hx
   have gi:=(Je.mp eg).1
   refine⟨a,_,rfl,SqT.of ha,rfl,_,_,rfl,_,_,rfl,rfl,?_⟩
   refine⟨_,rfl,_,rfl,(by show 2≤sizeLine;decide),fun t ht=>?_⟩
   have s8:=zaa ht (.tup [.int (g.2:Nat),.int (g.1:Nat)])
   have h8:=s8 _ _ h7
   refine⟨h8,by rw[Jy];lia,nx (Je.mp hx).1 ⟨⟨_,_,rfl⟩,fun b o e=>?_,zac,by rw[Ja,al];rfl,?_⟩⟩
   ·rw[zad (zab e hlc)];exact s8 _ _ (s7 b o e)
   ·rw[← Yk gi,Y2,(Je.mp eg).2]
    exact Prs.add (f:=(g.2,g.1)) (Tups.lst h8 _ _ (zag ht _)) ((p7.tups (Tups.of s8)).tups (Tups.lst h8))
  rintro acc σ H6 ⟨⟨v0,v1,rfl⟩,s7,h7,al,p7⟩
  rw[JE (by rw[prh.len];exact Jg _)]at p7
  refine⟨lc,_,rfl,.inl ⟨SqL.of h7,fun t8 ht8=>?_⟩⟩
  have s8:=zaa ht8 (.tup acc)
  refine⟨p1,t8,_,_,rfl,rfl,s8 _ _ (s7 _ _ h5),zag ht8 _,by rw[Jy];lia,fun p9 H9 s9 h9=>?_⟩
  have u9:=((u5.trans s7).trans s8).trans s9
  refine⟨_,rfl,_,rfl,_,_,rfl,rfl,_,rfl,fr,ps,rfl,u9 _ _ na3.forks,fun p10 H10 s10 h10=>?_⟩
  rw[e1,zjd]at h10
  refine⟨p9,p10,_,_,rfl,rfl,s10 _ _ h9,h10,by rw[Jy,Ja,lD' (pl2+1)];lia,fun p11 H11 s11 h11=>?_⟩
  have u11:=(u9.trans s10).trans s11
  refine⟨_,rfl,(by show 3≤sizeLine;decide),fin p11 _ _ _ u11 h11 (Prs.app (Prs.app (pA.tups (Tups.of u11)) (p7.tups (Tups.of (((s8.trans s9).trans s10).trans s11)))) ((za0 (pl2+1) pr3).tups (Tups.of u11))) ?_ ?_⟩
  ·refine((fko.take _).app fun f hf=>?_).app (fko.drop _)
   obtain⟨g,hg,rfl⟩:=JA.mp hf
   obtain⟨a,b,c⟩:=fko g (List.mem_of_mem_drop (Yu hg))
   exact⟨b,a,c.symm⟩
  ·rw[Ja,Ja,Jm,lA,lD];lia
 refine⟨_,rfl,rfl,_,rfl,ite2 (fun _=>?_) (fun _=>?_)⟩
 ·refine⟨_,rfl,_,rfl,_,rfl,_,rfl,fr,ps,rfl,f4,fun p1 H5 s5 h5=>?_⟩
  rw[zhQ]at h5
  have u5:=s4.trans s5
  refine⟨_,rfl,_,rfl,_,_,rfl,rfl,_,rfl,fr,ps,rfl,u5 _ _ na3.forks,fun p10 H10 s10 h10=>?_⟩
  rw[e1,zjd]at h10
  refine⟨p1,p10,_,_,rfl,rfl,s10 _ _ h5,h10,by rw[Jy,lD' (pl2+1)];lia,fun p11 H11 s11 h11=>?_⟩
  have u11:=(u5.trans s10).trans s11
  refine⟨_,rfl,(by show 3≤sizeLine;decide),fin p11 _ _ _ u11 h11 (Prs.app (pA.tups (Tups.of u11)) ((za0 (pl2+1) pr3).tups (Tups.of u11))) ((fko.take _).app (fko.drop _)) ?_⟩
  rw[Ja,lA,lD];lia
 refine⟨_,rfl,rfl,_,rfl,ite2 (fun _=>?_) (fun _=>?_)⟩
 ·refine⟨_,rfl,_,rfl,_,rfl,_,rfl,fr,ps,rfl,f4,fun p1 H5 s5 h5=>?_⟩
  rw[zhQ]at h5
  have u5:=s4.trans s5
  refine⟨_,rfl,p1,hh,_,_,rfl,rfl,h5,s5 _ _ hh4,by rw[Jy];lia,fun p9 H9 s9 h9=>?_⟩
  have u9:=u5.trans s9
  refine⟨_,rfl,_,rfl,_,rfl,fr,ps,rfl,u9 _ _ na3.forks,fun p10 H10 s10 h10=>?_⟩
  rw[zjd]at h10
  refine⟨p9,p10,_,_,rfl,rfl,s10 _ _ h9,h10,by rw[Jy,Ja,lD' pl2];lia,fun p11 H11 s11 h11=>?_⟩
  have u11:=(u9.trans s10).trans s11
  refine⟨_,rfl,(by show 3≤sizeLine;decide),fin p11 _ _ _ u11 h11 (Prs.app (Prs.app (pA.tups (Tups.of u11)) (prh.tups (Tups.of u11))) ((za0 pl2 pr3).tups (Tups.of u11))) (((fko.take _).app ((fko.drop _).take _)).app (fko.drop _)) ?_⟩
  rw[Ja,Ja,lA,lD];lia
 refine⟨_,rfl,rfl,_,rfl,ite2 (fun _=>?_) (fun _=>?_)⟩
 ·refine⟨_,rfl,_,rfl,_,rfl,_,rfl,fr,ps,rfl,f4,fun p1 H5 s5 h5=>?_⟩
  rw[zhQ]at h5
  have u5:=s4.trans s5
  refine⟨_,rfl,_,rfl,_,_,rfl,rfl,_,rfl,_,rfl,_,_,rfl,rfl,_,rfl,fr,ps,rfl,u5 _ _ na3.forks,fun p6 H6 s6 h6=>?_⟩
  rw[e1,e2,zlq,show pl2+2-(pl2+1)=1 by lia]at h6
  have l6:((ps.drop (pl2+1)).take 1).length≤1:=by rw[Jw];lia
  have g6:((N.forks.drop (pl2+1)).take 1).length≤1:=by rw[Jw];lia
  refine⟨p1,p6,_,_,rfl,rfl,s6 _ _ h5,h6,by rw[Jy];lia,fun p7 H7 s7 h7=>?_⟩
  have u7:=(u5.trans s6).trans s7
  refine⟨_,rfl,p7,hh,_,_,rfl,rfl,h7,s7 _ _ (s6 _ _ (s5 _ _ hh4)),by rw[Jy,Ja];lia,fun p9 H9 s9 h9=>?_⟩
  have u9:=u7.trans s9
  refine⟨_,rfl,_,rfl,_,_,rfl,rfl,_,rfl,fr,ps,rfl,u9 _ _ na3.forks,fun p10 H10 s10 h10=>?_⟩
  rw[e2,zjd]at h10
  refine⟨p9,p10,_,_,rfl,rfl,s10 _ _ h9,h10,by rw[Jy,Ja,Ja,lD' (pl2+2)];lia,fun p11 H11 s11 h11=>?_⟩
  have u11:=(u9.trans s10).trans s11
  refine⟨_,rfl,(by show 3≤sizeLine;decide),fin p11 _ _ _ u11 h11 (Prs.app (Prs.app (Prs.app (pA.tups (Tups.of u11)) ((zb8 1 (za0 (pl2+1) pr3)).tups (Tups.of u11))) (prh.tups (Tups.of u11))) ((za0 (pl2+2) pr3).tups (Tups.of u11))) ((((fko.take _).app ((fko.drop _).take _)).app ((fko.drop _).take _)).app (fko.drop _)) ?_⟩
  have c6:((N.forks.drop (pl2+1)).take 1).length=min 1 (N.forks.length-(pl2+1)):=by rw[Jw,lD]
  have c7:((N.forks.drop pl2).take 1).length=min 1 (N.forks.length-pl2):=by rw[Jw,lD]
  rw[Ja,Ja,Ja,lA,lD,c6,c7];lia
 have he4:=s4 _ _ na3.ends
 have el:N.ends.length=N.lanes:=by rw[ok.en.length_eq,Y9]
 have nel:=zai N.ends
 have k1:kk<N.ends.length:=by lia
 refine⟨_,rfl,er,_,rfl,.inr (SqT.of he4),fun lr hlr=>?_⟩
 have s5:=zaa hlr (.lst (nums N.ends))
 have he5:=s5 _ _ he4
 have a1:=zap (m_at N.ends kk k1)
 have a0:=zap (j:=0) (m_at N.ends 0 (by lia))
 refine⟨_,rfl,_,rfl,er,_,_,_,rfl,rfl,SqT.of he5,a1,_,rfl,er,_,0,_,rfl,rfl,SqT.of he5,a0,(by show 2≤sizeLine;decide),fun T hT=>?_⟩
 have s6:=zaa hT (.tup [.int ((N.ends.getD kk 0:Nat):Int),.int ((N.ends.getD 0 0:Nat):Int)])
 have h6:=s6 _ _ (zag hlr (.lst (nums N.ends)))
 refine⟨T,_,rfl,SqT.of zac,rfl,_,_,rfl,?_⟩
 have u6:=(s4.trans s5).trans s6
 let d1:List Nat:=N.ends.set 0 (N.ends.getD kk 0)
 let d2:List Nat:=d1.set kk (N.ends.getD 0 0)
 have z1:(nums N.ends).set 0 (.int ((N.ends.getD kk 0:Nat):Int))=nums d1:=List.map_set.symm
 have z2:(nums d1).set kk (.int ((N.ends.getD 0 0:Nat):Int))=nums d2:=List.map_set.symm
 have d1l:(nums d1).length=N.ends.length:=by rw[zai];exact YZ
 have pd:d2.Perm N.ends:=by
  have:=List.set_set_perm (as:=N.ends) (i:=0) (j:=kk) (by lia) k1
  have g1:N.ends.getD kk 0=N.ends[kk]:=by rw[Jb,J7 k1];rfl
  have g0:N.ends.getD 0 0=N.ends[0]:=by rw[Jb,J7 (by lia)];rfl
  show ((N.ends.set 0 (N.ends.getD kk 0)).set kk (N.ends.getD 0 0)).Perm N.ends
  rw[g1,g0];exact this
 refine⟨_,rfl,lr,_,0,0,rfl,rfl,h6,zi6 (i:=0) (by lia),?_⟩
 rw[z1]
 have hH1:L2.upd (L2.upd (L2.upd H4 lr (.lst (nums N.ends))) T (.tup [.int ((N.ends.getD kk 0:Nat):Int),.int ((N.ends.getD 0 0:Nat):Int)])) lr (.lst (nums d1)) lr=some (.lst (nums d1)):=zac
 have n3:H3 lr=none:=zbj s4 hlr
 have sm:∀ (xs ys:List V),Same H3 (L2.upd (L2.upd (L2.upd (L2.upd H4 lr (.lst (nums N.ends))) T (.tup [.int ((N.ends.getD kk 0:Nat):Int),.int ((N.ends.getD 0 0:Nat):Int)])) lr (.lst xs)) lr (.lst ys)):=fun xs ys b o e=>by
  rw[zad (zab e n3),zad (zab e n3)];exact u6 b o e
 refine⟨_,_,rfl,_,rfl,_,rfl,lr,_,_,kk,rfl,rfl,hH1,by rw[d1l];exact zi6 k1,?_⟩
 rw[z2]
 refine⟨rfl,_,rfl,_,rfl,_,rfl,lr,_,rfl,.inl ⟨SqL.of zac,fun t ht=>⟨(by show 3≤sizeLine;decide),fun q hq=>?_⟩⟩⟩
 have s7:=zaa ht (.tup (nums d2))
 have s8:=zaa hq (.tup [.int (N.lanes:Nat),.ref fr,.ref t])
 have u:=((sm (nums d1) (nums d2)).trans s7).trans s8
 exact k q fr t ps ⟨N.lanes,N.forks,d2⟩ _ ⟨⟨l1,l16,ok.fm,ok.fk,pd.trans ok.en⟩,lb1,by show N.forks.length≤fb+1;lia⟩ rfl ⟨zag hq _,u _ _ na3.forks,pr3.tups (Tups.of u),s8 _ _ (zag ht _)⟩ (S3.keep u) (B'.trans (But.of u))
end
abbrev zgG:Stmt:=top 22
def zdx (m:Nat):Sp:=fun vs H Q _=>∃ p row,vs=[.ref p]∧H p=some (.lst (nums row))∧row.length=2 ^ m∧m≤4∧∀ c lf le ps H',Same H H'→H' c=some (.tup [.ref lf,.ref le])→H' lf=some (.lst ps)→Prs H' ps (za4 m row).1→H' le=some (.lst (nums (za4 m row).2))→Q (.ref c) H'
section
variable {P:Program}{w:World}{K:PySem.W.Frag}{mg:Str→Option Value}{base:Heap}
theorem scSo:FnScope ["_law_row","_law_half","_law_forks","_law_one","_law_more","_law_other","_law_last","_law_ends"] ["_law_row"] (zae zgG):=by trivial
theorem zfk {f fB:Addr}{fd dB:FuncData}(F:Fun K "_law_stairway" "_law_stairway" zgG f fd) (G:Mgs mg) (UM:Use P w K mg base "_law_merger" ["_law_one","_law_other"] 5 zbz fB dB) (bS:Binds K fd ["_law_row"] []) (mS:mg "_law_stairway" = some (.ref f)) (n:Nat)
  (GS:FnOk P w K mg base CX0 (n+5) f fd ["_law_row"] (fun vs H Q E=>∃ m,n=m+1∧zdx m vs H Q E)):FnOk P w K mg base CX0 (n+6) f fd ["_law_row"] (zdx n):=by
 have UT:Use P w K mg base "_law_stairway" ["_law_row"] (n+5) (fun vs H Q E=>∃ m,n=m+1∧zdx m vs H Q E) f fd:=⟨GS,bS,F.kp,mS⟩
 refine F.ok scSo (fun vs H Q E h=>?_) (fun cdv A outer s H vs Q E hr h=>?_)
 ·obtain⟨p,row,rfl,_⟩:=h
  rfl
 obtain⟨p,row,rfl,hp,rl,n20,k⟩:=h
 have hr6:Room 5 _:=hr.mono (by lia)
 refine⟨_,(@pss_cons _ _ _ _ _ (@ps_if _ _ _ _ _ _ _ _ (@pt_cmpR _ _ _ _ _ _ _ _ op_eq (@pe_callB _ _ _ _ _ _ _ _ _ zah (by rfl) G.len PySem.boot_len (@pa_cons _ _ _ _ _ (@qv _ 0 _ _ (by trivial)) pa_nil (by rfl)) (by decide) (by decide) (by rfl) (by rfl)) pe_int (nomark _)) (@pss_one _ _ _ (@ps_ret _ _ _ _ (@pe_tup _ _ _ _ _ (@pa_cons _ _ _ _ _ (@pe_lst _ _ _ _ pa_nil) (@pa_cons _ _ _ _ _ (@pe_callTy _ _ _ _ _ _ _ _ _ call_list_of (by rfl) G.list (by rfl) (@pa_cons _ _ _ _ _ (@qv _ 0 _ _ (by trivial)) pa_nil (by rfl)) (by decide) (by decide) (by rfl) (by rfl)) pa_nil (by rfl)) (by rfl))))) pss_nil) (@pss_cons _ _ _ _ _ (@ps_set _ _ 1 _ _ _ _ scSo.nd rfl (.inl rfl) (@pe_op _ _ _ _ _ _ _ _ op_fdiv (@pe_callB _ _ _ _ _ _ _ _ _ zah (by rfl) G.len PySem.boot_len (@pa_cons _ _ _ _ _ (@qv _ 0 _ _ (by trivial)) pa_nil (by rfl)) (by decide) (by decide) (by rfl) (by rfl)) pe_int) (by rfl) (by first|exact .inl rfl|exact .inr rfl|assumption)) (@pss_cons _ _ _ _ _ (@ps_asg _ _ _ _ _ _ (@pe_call _ _ _ _ _ _ _ _ _ _ _ _ _ _ _ _ UT.ok hr (by rfl) UT.m UT.kp UT.b .nil pass0 (@pa_cons _ _ _ _ _ (@pe_slice _ _ _ _ _ _ _ _ _ _ sl_list (@qv _ 0 _ _ (by trivial)) po_none (@po_some _ _ _ (@qv _ 1 _ _ (by trivial)))) pa_nil (by rfl)) (by decide) (by rfl) (by rfl)) (@pg_tup _ _ _ _ _ _ rfl (@pgs_cons _ _ _ _ _ (@pg_name _ _ 2 _ scSo.nd rfl (.inl rfl) (by first|exact .inl rfl|exact .inr rfl|assumption)) (@pgs_cons _ _ _ _ _ (@pg_name _ _ 3 _ scSo.nd rfl (.inl rfl) (by first|exact .inl rfl|exact .inr rfl|assumption)) pgs_nil (by rfl)) (by rfl)) (by rfl) (by rfl)) (by rfl) (by rfl) (by rfl)) (@pss_cons _ _ _ _ _ (@ps_asg _ _ _ _ _ _ (@pe_call _ _ _ _ _ _ _ _ _ _ _ _ _ _ _ _ UT.ok hr (by rfl) UT.m UT.kp UT.b .nil pass0 (@pa_cons _ _ _ _ _ (@pe_slice _ _ _ _ _ _ _ _ _ _ sl_list (@qv _ 0 _ _ (by trivial)) (@po_some _ _ _ (@qv _ 1 _ _ (by trivial))) po_none) pa_nil (by rfl)) (by decide) (by rfl) (by rfl)) (@pg_tup _ _ _ _ _ _ rfl (@pgs_cons _ _ _ _ _ (@pg_name _ _ 4 _ scSo.nd rfl (.inl rfl) (by first|exact .inl rfl|exact .inr rfl|assumption)) (@pgs_cons _ _ _ _ _ (@pg_name _ _ 5 _ scSo.nd rfl (.inl rfl) (by first|exact .inl rfl|exact .inr rfl|assumption)) pgs_nil (by rfl)) (by rfl)) (by rfl) (by rfl)) (by rfl) (by rfl) (by rfl)) (@pss_cons _ _ _ _ _ (@ps_asg _ _ _ _ _ _ (@pe_call _ _ _ _ _ _ _ _ _ _ _ _ _ _ _ _ UM.ok hr6 (by rfl) UM.m UM.kp UM.b .nil pass0 (@pa_cons _ _ _ _ _ (@qv _ 3 _ _ (by trivial)) (@pa_cons _ _ _ _ _ (@qv _ 5 _ _ (by trivial)) pa_nil (by rfl)) (by rfl)) (by decide) (by rfl) (by rfl)) (@pg_tup _ _ _ _ _ _ rfl (@pgs_cons _ _ _ _ _ (@pg_name _ _ 6 _ scSo.nd rfl (.inl rfl) (by first|exact .inl rfl|exact .inr rfl|assumption)) (@pgs_cons _ _ _ _ _ (@pg_name _ _ 7 _ scSo.nd rfl (.inl rfl) (by first|exact .inl rfl|exact .inr rfl|assumption)) pgs_nil (by rfl)) (by rfl)) (by rfl) (by rfl)) (by rfl) (by rfl) (by rfl)) (@pss_one _ _ _ (@ps_ret _ _ _ _ (@pe_tup _ _ _ _ _ (@pa_cons _ _ _ _ _ (@pe_op _ _ _ _ _ _ _ _ op_cat (@pe_op _ _ _ _ _ _ _ _ op_cat (@qv _ 2 _ _ (by trivial)) (@qv _ 4 _ _ (by trivial))) (@qv _ 6 _ _ (by trivial))) (@pa_cons _ _ _ _ _ (@qv _ 7 _ _ (by trivial)) pa_nil (by rfl)) (by rfl)))))))))),?_⟩
 have nl:=zai row
 have p8:2 ^ n≤2 ^ 4:=YC (by decide) n20
 have e8:2 ^ 4=16:=rfl
 refine⟨_,rfl,p,_,rfl,.inl (SqL.of hp),rfl,_,rfl,?_⟩
 cases n with
 | zero =>
  have rl1:row.length=1:=rl
  rw[Jz (show V.int (((nums row).length:Nat):Int)=V.int 1 by rw[nl,rl1];rfl)]
  refine iteT ⟨(by show 0≤sizeLine;decide),fun l hl=>⟨_,rfl,p,_,rfl,.inl (SqL.of (zaa hl _ _ _ hp)),fun le hle=>⟨(by show 2≤sizeLine;decide),fun c hc=>?_⟩⟩⟩
  have s1:=zaa hl (.lst [])
  have s2:=zaa hle (.lst (nums row))
  have s3:=zaa hc (.tup [.ref l,.ref le])
  exact k c l le [] _ ((s1.trans s2).trans s3) (zag hc _) (s3 _ _ (s2 _ _ (zag hl _))) trivial (s3 _ _ (zag hle _))
 | succ m =>
  obtain⟨t1,t2,t3⟩:=zb5 rl
  obtain⟨la,lb⟩:=zbF rl
  have pw:2 ^ (m+1)=2 ^ m*2:=YV ..
  have p0:=Z4 (n:=m)
  rw[Jq (show ¬ V.int (((nums row).length:Nat):Int)=V.int 1 by intro z;injection z with z;lia)]
  refine iteF ⟨_,rfl,p,_,rfl,.inl (SqL.of hp),_,_,rfl,rfl,⟨by decide,by decide⟩,?_⟩
  have eh:(((nums row).length:Nat):Int) / 2=((row.length / 2:Nat):Int):=by rw[nl];lia
  simp only[eh]
  refine⟨_,rfl,_,rfl,_,rfl,p,_,rfl,SqL.of hp,fun p1 hp1=>?_⟩
  rw[zhj row _ t3]
  have s1:=zaa hp1 (.lst (nums (row.take (row.length / 2))))
  refine⟨m,rfl,p1,row.take (row.length / 2),rfl,zag hp1 _,la,by lia,fun c2 lf2 le2 ps2 H2 s2 hc2 hf2 pr2 he2=>?_⟩
  have u2:=s1.trans s2
  refine⟨c2,_,rfl,SqT.of hc2,rfl,_,_,rfl,_,_,rfl,rfl,?_⟩
  refine⟨_,rfl,_,rfl,_,rfl,p,_,rfl,SqL.of (u2 _ _ hp),fun p3 hp3=>?_⟩
  rw[zhk row _ t3]
  have s3:=zaa hp3 (.lst (nums (row.drop (row.length / 2))))
  refine⟨m,rfl,p3,row.drop (row.length / 2),rfl,zag hp3 _,lb,by lia,fun c4 lf4 le4 ps4 H4 s4 hc4 hf4 pr4 he4=>?_⟩
  have u4:=s3.trans s4
  refine⟨c4,_,rfl,SqT.of hc4,rfl,_,_,rfl,_,_,rfl,rfl,?_⟩
  obtain⟨xl,xf⟩:=zbx m _ la
  obtain⟨yl,yf⟩:=zbx m _ lb
  obtain⟨zl,zf⟩:=zaT m _ _ xl yl
  have pl2:=pr2.len
  have pl4:=pr4.len
  obtain⟨bd1,bd2⟩:=zbZ m (by lia)
  refine⟨_,rfl,_,rfl,m,by lia,le2,le4,_,_,rfl,u4 _ _ he2,he4,xl,yl,by lia,fun c6 lf6 le6 ps6 H6 s6 _ hc6 hf6 pr6 he6=>?_⟩
  refine⟨c6,_,rfl,SqT.of hc6,rfl,_,_,rfl,_,_,rfl,rfl,?_⟩
  have pl6:=pr6.len
  refine⟨_,rfl,_,rfl,lf2,lf4,_,_,rfl,rfl,s6 _ _ (u4 _ _ hf2),s6 _ _ hf4,by rw[Jy];lia,fun l7 hl7=>?_⟩
  have s7:=zaa hl7 (.lst (ps2++ps4))
  refine⟨_,rfl,l7,lf6,_,_,rfl,rfl,zag hl7 _,s7 _ _ hf6,by rw[Jy,Ja];lia,fun l8 hl8=>?_⟩
  have s8:=zaa hl8 (.lst ((ps2++ps4)++ps6))
  refine⟨_,rfl,(by show 2≤sizeLine;decide),fun c hc=>?_⟩
  have s9:=zaa hc (.tup [.ref l8,.ref le6])
  have u9:=(s7.trans s8).trans s9
  refine k c l8 le6 _ _ ((u2.trans u4).trans (s6.trans u9)) (zag hc _) (s9 _ _ (zag hl8 _)) ?_ (u9 _ _ he6)
  refine Prs.tups (Tups.of u9) ?_
  exact Prs.app (Prs.app ((pr2.tups (Tups.of u4)).tups (Tups.of s6)) (pr4.tups (Tups.of s6))) pr6
theorem zgZ {f fB:Addr}{fd dB:FuncData}(F:Fun K "_law_stairway" "_law_stairway" zgG f fd) (G:Mgs mg) (UM:Use P w K mg base "_law_merger" ["_law_one","_law_other"] 5 zbz fB dB) (bS:Binds K fd ["_law_row"] []) (mS:mg "_law_stairway" = some (.ref f)):∀ n:Nat,FnOk P w K mg base CX0 (n+6) f fd ["_law_row"] (zdx n)
 | 0=>zfk F G UM bS mS 0 ⟨fun vs H Q E ⟨m,h,_⟩=>by lia,fun A outer s H args us vs Q E _ _ _ _ ⟨m,h,_⟩=>by lia⟩
 | m+1=>zfk F G UM bS mS (m+1) ((zgZ F G UM bS mS m).imp fun vs H Q E ⟨m',h,q⟩=>by cases h;exact q)
abbrev zcZ:Sp:=fun vs H Q E=>∃ m,m≤4∧zdx m vs H Q E
theorem zg0 {f fB:Addr}{fd dB:FuncData}(F:Fun K "_law_stairway" "_law_stairway" zgG f fd) (G:Mgs mg) (UM:Use P w K mg base "_law_merger" ["_law_one","_law_other"] 5 zbz fB dB) (bS:Binds K fd ["_law_row"] []) (mS:mg "_law_stairway" = some (.ref f)):FnOk P w K mg base CX0 10 f fd ["_law_row"] zcZ :=
 FnOk.any 4 fun m hm=>(zgZ F G UM bS mS m).mono (by lia)
end
abbrev zgF:Stmt:=top 24
def zdw (m:Nat):Sp:=fun vs H Q _=>∃ p row,vs=[.ref p]∧H p=some (.lst (nums row))∧row.length=2 ^ m∧m≤4∧∀ c lf le ps H',Same H H'→H' c=some (.tup [.ref lf,.ref le])→H' lf=some (.lst ps)→Prs H' ps (zbp m row).1→H' le=some (.lst (nums (zbp m row).2))→Q (.ref c) H'
section
variable {P:Program}{w:World}{K:PySem.W.Frag}{mg:Str→Option Value}{base:Heap}
theorem scTo:FnScope ["_law_row","_law_half","_law_forks","_law_one","_law_more","_law_other","_law_ends","_law_x","_law_y"] ["_law_row"] (zae zgF):=by trivial
theorem zfj {f:Addr}{fd:FuncData}(F:Fun K "_law_tree" "_law_tree" zgF f fd) (G:Mgs mg) (bS:Binds K fd ["_law_row"] []) (mS:mg "_law_tree" = some (.ref f)) (n:Nat)
  (GS:FnOk P w K mg base CX0 n f fd ["_law_row"] (fun vs H Q E=>∃ m,n=m+1∧zdw m vs H Q E)):FnOk P w K mg base CX0 (n+1) f fd ["_law_row"] (zdw n):=by
 have UT:Use P w K mg base "_law_tree" ["_law_row"] n (fun vs H Q E=>∃ m,n=m+1∧zdw m vs H Q E) f fd:=⟨GS,bS,F.kp,mS⟩
 refine F.ok scTo (fun vs H Q E h=>?_) (fun cdv A outer s H vs Q E hr h=>?_)
 ·obtain⟨p,row,rfl,_⟩:=h
  rfl
 obtain⟨p,row,rfl,hp,rl,n20,k⟩:=h
 refine⟨_,(@pss_cons _ _ _ _ _ (@ps_if _ _ _ _ _ _ _ _ (@pt_cmpR _ _ _ _ _ _ _ _ op_eq (@pe_callB _ _ _ _ _ _ _ _ _ zah (by rfl) G.len PySem.boot_len (@pa_cons _ _ _ _ _ (@qv _ 0 _ _ (by trivial)) pa_nil (by rfl)) (by decide) (by decide) (by rfl) (by rfl)) pe_int (nomark _)) (@pss_one _ _ _ (@ps_ret _ _ _ _ (@pe_tup _ _ _ _ _ (@pa_cons _ _ _ _ _ (@pe_lst _ _ _ _ pa_nil) (@pa_cons _ _ _ _ _ (@pe_callTy _ _ _ _ _ _ _ _ _ call_list_of (by rfl) G.list (by rfl) (@pa_cons _ _ _ _ _ (@qv _ 0 _ _ (by trivial)) pa_nil (by rfl)) (by decide) (by decide) (by rfl) (by rfl)) pa_nil (by rfl)) (by rfl))))) pss_nil) (@pss_cons _ _ _ _ _ (@ps_set _ _ 1 _ _ _ _ scTo.nd rfl (.inl rfl) (@pe_op _ _ _ _ _ _ _ _ op_fdiv (@pe_callB _ _ _ _ _ _ _ _ _ zah (by rfl) G.len PySem.boot_len (@pa_cons _ _ _ _ _ (@qv _ 0 _ _ (by trivial)) pa_nil (by rfl)) (by decide) (by decide) (by rfl) (by rfl)) pe_int) (by rfl) (by first|exact .inl rfl|exact .inr rfl|assumption)) (@pss_cons _ _ _ _ _ (@ps_asg _ _ _ _ _ _ (@pe_call _ _ _ _ _ _ _ _ _ _ _ _ _ _ _ _ UT.ok hr (by rfl) UT.m UT.kp UT.b .nil pass0 (@pa_cons _ _ _ _ _ (@pe_slice _ _ _ _ _ _ _ _ _ _ sl_list (@qv _ 0 _ _ (by trivial)) po_none (@po_some _ _ _ (@qv _ 1 _ _ (by trivial)))) pa_nil (by rfl)) (by decide) (by rfl) (by rfl)) (@pg_tup _ _ _ _ _ _ rfl (@pgs_cons _ _ _ _ _ (@pg_name _ _ 2 _ scTo.nd rfl (.inl rfl) (by first|exact .inl rfl|exact .inr rfl|assumption)) (@pgs_cons _ _ _ _ _ (@pg_name _ _ 3 _ scTo.nd rfl (.inl rfl) (by first|exact .inl rfl|exact .inr rfl|assumption)) pgs_nil (by rfl)) (by rfl)) (by rfl) (by rfl)) (by rfl) (by rfl) (by rfl)) (@pss_cons _ _ _ _ _ (@ps_asg _ _ _ _ _ _ (@pe_call _ _ _ _ _ _ _ _ _ _ _ _ _ _ _ _ UT.ok hr (by rfl) UT.m UT.kp UT.b .nil pass0 (@pa_cons _ _ _ _ _ (@pe_slice _ _ _ _ _ _ _ _ _ _ sl_list (@qv _ 0 _ _ (by trivial)) (@po_some _ _ _ (@qv _ 1 _ _ (by trivial))) po_none) pa_nil (by rfl)) (by decide) (by rfl) (by rfl)) (@pg_tup _ _ _ _ _ _ rfl (@pgs_cons _ _ _ _ _ (@pg_name _ _ 4 _ scTo.nd rfl (.inl rfl) (by first|exact .inl rfl|exact .inr rfl|assumption)) (@pgs_cons _ _ _ _ _ (@pg_name _ _ 5 _ scTo.nd rfl (.inl rfl) (by first|exact .inl rfl|exact .inr rfl|assumption)) pgs_nil (by rfl)) (by rfl)) (by rfl) (by rfl)) (by rfl) (by rfl) (by rfl)) (@pss_cons _ _ _ _ _ (@ps_set _ _ 6 _ _ _ _ scTo.nd rfl (.inl rfl) (@pe_lst _ _ _ _ pa_nil) (by rfl) (by first|exact .inl rfl|exact .inr rfl|assumption)) (@pss_cons _ _ _ _ _ (@ps_for _ _ _ _ _ _ _ _ PassesOwn.never rfl (@zjt _ _ _ _ _ _ _ _ _ true true rfl G.zip (@pa_cons _ _ _ _ _ (@qv _ 3 _ _ (by trivial)) (@pa_cons _ _ _ _ _ (@qv _ 5 _ _ (by trivial)) pa_nil (by rfl)) (by rfl)) (by rfl) (by rfl)) (@pg_tup _ _ _ _ _ _ rfl (@pgs_cons _ _ _ _ _ (@pg_name _ _ 7 _ scTo.nd rfl (.inl rfl) (by first|exact .inl rfl|exact .inr rfl|assumption)) (@pgs_cons _ _ _ _ _ (@pg_name _ _ 8 _ scTo.nd rfl (.inl rfl) (by first|exact .inl rfl|exact .inr rfl|assumption)) pgs_nil (by rfl)) (by rfl)) (by rfl) (by rfl)) (@pss_one _ _ _ (@zaZ _ _ _ _ (@zdb _ _ _ _ _ _ _ _ _ _ _ _ PySem.F.plainAttrs_list PySem.F.slot_list_extend PySem.F.type_list_extend zdL (@qv _ 6 _ _ (by trivial)) (@pa_cons _ _ _ _ _ (@pe_lst _ _ _ _ (@pa_cons _ _ _ _ _ (@qv _ 7 _ _ (by trivial)) (@pa_cons _ _ _ _ _ (@qv _ 8 _ _ (by trivial)) pa_nil (by rfl)) (by rfl))) pa_nil (by rfl)) (by rfl) (by rfl) (by rfl) (by rfl) (by rfl)) (by rfl))) (by intro _;rfl)) (@pss_one _ _ _ (@ps_ret _ _ _ _ (@pe_tup _ _ _ _ _ (@pa_cons _ _ _ _ _ (@pe_op _ _ _ _ _ _ _ _ op_cat (@pe_op _ _ _ _ _ _ _ _ op_cat (@pe_lst _ _ _ _ (@pa_cons _ _ _ _ _ (@pe_tup _ _ _ _ _ (@pa_cons _ _ _ _ _ (@pe_ix _ _ _ _ _ _ _ ix_list (@qv _ 0 _ _ (by trivial)) pe_int (fun _ _=>rfl)) (@pa_cons _ _ _ _ _ (@pe_ix _ _ _ _ _ _ _ ix_list (@qv _ 0 _ _ (by trivial)) (@qv _ 1 _ _ (by trivial)) (fun _ _=>rfl)) pa_nil (by rfl)) (by rfl))) pa_nil (by rfl))) (@qv _ 2 _ _ (by trivial))) (@qv _ 4 _ _ (by trivial))) (@pa_cons _ _ _ _ _ (@qv _ 6 _ _ (by trivial)) pa_nil (by rfl)) (by rfl))))))))))),?_⟩
 have nl:=zai row
 have p8:2 ^ n≤2 ^ 4:=YC (by decide) n20
 have e8:2 ^ 4=16:=rfl
 refine⟨_,rfl,p,_,rfl,.inl (SqL.of hp),rfl,_,rfl,?_⟩
 cases n with
 | zero =>
  have rl1:row.length=1:=rl
  rw[Jz (show V.int (((nums row).length:Nat):Int)=V.int 1 by rw[nl,rl1];rfl)]
  refine iteT ⟨(by show 0≤sizeLine;decide),fun l hl=>⟨_,rfl,p,_,rfl,.inl (SqL.of (zaa hl _ _ _ hp)),fun le hle=>⟨(by show 2≤sizeLine;decide),fun c hc=>?_⟩⟩⟩
  have s1:=zaa hl (.lst [])
  have s2:=zaa hle (.lst (nums row))
  have s3:=zaa hc (.tup [.ref l,.ref le])
  exact k c l le [] _ ((s1.trans s2).trans s3) (zag hc _) (s3 _ _ (s2 _ _ (zag hl _))) trivial (s3 _ _ (zag hle _))
 | succ m =>
  obtain⟨t1,t2,t3⟩:=zb5 rl
  obtain⟨la,lb⟩:=zbF rl
  have pw:2 ^ (m+1)=2 ^ m*2:=YV ..
  have p0:=Z4 (n:=m)
  rw[Jq (show ¬ V.int (((nums row).length:Nat):Int)=V.int 1 by intro z;injection z with z;lia)]
  refine iteF ⟨_,rfl,p,_,rfl,.inl (SqL.of hp),_,_,rfl,rfl,⟨by decide,by decide⟩,?_⟩
  have eh:(((nums row).length:Nat):Int) / 2=((row.length / 2:Nat):Int):=by rw[nl];lia
  simp only[eh]
  refine⟨_,rfl,_,rfl,_,rfl,p,_,rfl,SqL.of hp,fun p1 hp1=>?_⟩
  rw[zhj row _ t3]
  have s1:=zaa hp1 (.lst (nums (row.take (row.length / 2))))
  refine⟨m,rfl,p1,row.take (row.length / 2),rfl,zag hp1 _,la,by lia,fun c2 lf2 le2 ps2 H2 s2 hc2 hf2 pr2 he2=>?_⟩
  have u2:=s1.trans s2
  refine⟨c2,_,rfl,SqT.of hc2,rfl,_,_,rfl,_,_,rfl,rfl,?_⟩
  refine⟨_,rfl,_,rfl,_,rfl,p,_,rfl,SqL.of (u2 _ _ hp),fun p3 hp3=>?_⟩
  rw[zhk row _ t3]
  have s3:=zaa hp3 (.lst (nums (row.drop (row.length / 2))))
  refine⟨m,rfl,p3,row.drop (row.length / 2),rfl,zag hp3 _,lb,by lia,fun c4 lf4 le4 ps4 H4 s4 hc4 hf4 pr4 he4=>?_⟩
  have u4:=s3.trans s4
  refine⟨c4,_,rfl,SqT.of hc4,rfl,_,_,rfl,_,_,rfl,rfl,?_⟩
  have u24:=u2.trans u4
  obtain⟨xl,xf⟩:=zb6 m _ la
  obtain⟨yl,yf⟩:=zb6 m _ lb
  have pl2:=pr2.len
  have pl4:=pr4.len
  have he2':=u4 _ _ he2
  have hf2':=u4 _ _ hf2
  have pr2':=pr2.tups (Tups.of u4)
  have hp4:=u24 _ _ hp
  generalize hF:(zbp m (row.take (row.length / 2))).2=fst at *
  generalize hS:(zbp m (row.drop (row.length / 2))).2=snd at *
  refine⟨(by show 0≤sizeLine;decide),fun l8 hl8=>?_⟩
  have s8:=zaa hl8 (.lst [])
  have hn8:H l8=none:=zbj u24 hl8
  have n38:le2≠l8:=zab he2' hl8
  have n68:le4≠l8:=zab he4 hl8
  refine⟨_,rfl,_,rfl,le2,le4,_,_,rfl,SqL.of (s8 _ _ he2'),SqL.of (s8 _ _ he4),?_⟩
  refine zhH (K:=K) (b1:=true) (b2:=true) (a1:=le2) (a2:=le4) (xs:=nums fst) (ys:=nums snd) (by rw[zai,zai,xl,yl]) (fun j σ H7=>(∃ v7 v8,σ=[some (.ref p),some (.int ((row.length / 2:Nat):Int)),some (.ref lf2),some (.ref le2),some (.ref lf4),some (.ref le4),some (.ref l8),v7,v8])∧Same H4 H7∧H7 l8=some (.lst (nums (zav (fst.take j) (snd.take j))))) ⟨⟨_,_,rfl⟩,s8,zag hl8 _⟩ (fun j σ H7 _ z=>⟨SqL.of (z.2.1 _ _ he2'),SqL.of (z.2.1 _ _ he4)⟩) ?_ ?_
  ·rintro j x y T σ H7 hx hy hT ⟨⟨v7,v8,rfl⟩,s9,h8⟩
   obtain⟨j1,rfl⟩:=zdK hx
   obtain⟨j2,rfl⟩:=zdK hy
   have sT:=zaa hT (.tup [.int ((fst.getD j 0:Nat):Int),.int ((snd.getD j 0:Nat):Int)])
   refine⟨T,_,rfl,SqT.of zac,rfl,_,_,rfl,_,_,rfl,rfl,?_⟩
   refine⟨_,rfl,.inl ⟨rfl,_,SqL.of (sT _ _ h8)⟩,_,rfl,_,rfl,(by show 2≤sizeLine;decide),fun q hq=>?_⟩
   have sq:=zaa hq (.lst [.int ((fst.getD j 0:Nat):Int),.int ((snd.getD j 0:Nat):Int)])
   have tl:=zaS (fst.take j) (snd.take j) (by rw[Jw,Jw];lia)
   rw[Jw]at tl
   refine⟨l8,q,_,_,rfl,rfl,sq _ _ (sT _ _ h8),zag hq _,by rw[zai,Jy,tl];show _+2≤_;lia,?_⟩
   refine⟨⟨_,_,rfl⟩,fun c o e=>?_,?_⟩
   ·rw[zad (zab e hl8)];exact sq _ _ (sT _ _ (s9 c o e))
   ·rw[zbO fst snd j j1 j2]
    have e:nums (zav (fst.take j) (snd.take j)++[fst.getD j 0,snd.getD j 0])=nums (zav (fst.take j) (snd.take j))++[.int ((fst.getD j 0:Nat):Int),.int ((snd.getD j 0:Nat):Int)]:=by rw[← zhl];rfl
    rw[e];exact zac
  ·rintro σ H7 ⟨⟨v7,v8,rfl⟩,s9,h8⟩
   rw[JE (by rw[zai];exact Jg _),JE (by rw[zai];lia)]at h8
   have hp7:=s9 _ _ hp4
   refine⟨_,rfl,p,_,0,_,rfl,rfl,SqL.of hp7,zap (j:=0) (m_at row 0 (by lia)),?_⟩
   refine⟨_,rfl,_,rfl,p,_,_,_,rfl,rfl,SqL.of hp7,zap (m_at row (row.length / 2) (by lia)),(by show 2≤sizeLine;decide),fun t ht=>?_⟩
   have s5:=zaa ht (.tup [.int ((row.getD 0 0:Nat):Int),.int ((row.getD (row.length / 2) 0:Nat):Int)])
   refine⟨(by show 1≤sizeLine;decide),fun l6 hl6=>?_⟩
   have s6:=zaa hl6 (.lst [.ref t])
   refine⟨_,rfl,l6,lf2,_,_,rfl,rfl,zag hl6 _,s6 _ _ (s5 _ _ (s9 _ _ hf2')),by rw[Jy];simp only[JN,Z1];lia,fun l7 hl7=>?_⟩
   have s7:=zaa hl7 (.lst ([.ref t]++ps2))
   refine⟨_,rfl,l7,lf4,_,_,rfl,rfl,zag hl7 _,s7 _ _ (s6 _ _ (s5 _ _ (s9 _ _ hf4))),by rw[Jy,Ja];simp only[JN,Z1];lia,fun l10 hl10=>?_⟩
   have s10:=zaa hl10 (.lst (([.ref t]++ps2)++ps4))
   have u8:=((s5.trans s6).trans s7).trans s10
   refine⟨_,rfl,(by show 2≤sizeLine;decide),fun c hc=>?_⟩
   have s11:=zaa hc (.tup [.ref l10,.ref l8])
   have t8:=s10 _ _ (s7 _ _ (s6 _ _ (zag ht (.tup [.int ((row.getD 0 0:Nat):Int),.int ((row.getD (row.length / 2) 0:Nat):Int)]))))
   have eN:zbp (m+1) row=((row.getD 0 0,row.getD (row.length / 2) 0)::((zbp m (row.take (row.length / 2))).1++(zbp m (row.drop (row.length / 2))).1),zav fst snd):=by rw[← hF,← hS];rfl
   refine k c l10 l8 _ _ (u24.trans (s9.trans (u8.trans s11))) (zag hc _) (s11 _ _ (zag hl10 _)) ?_ (by rw[eN];exact s11 _ _ (u8 _ _ h8))
   refine Prs.tups (Tups.of s11) ?_
   rw[JM,eN]
   exact Prs.app (ps:=[.ref t]) (fs:=[(row.getD 0 0,row.getD (row.length / 2) 0)]) (show Prs _ [.ref t] [(row.getD 0 0,row.getD (row.length / 2) 0)] from⟨⟨t,rfl,t8⟩,trivial⟩) (Prs.app ((pr2'.tups (Tups.of s9)).tups (Tups.of u8)) ((pr4.tups (Tups.of s9)).tups (Tups.of u8)))
theorem zgX {f:Addr}{fd:FuncData}(F:Fun K "_law_tree" "_law_tree" zgF f fd) (G:Mgs mg) (bS:Binds K fd ["_law_row"] []) (mS:mg "_law_tree" = some (.ref f)):∀ n:Nat,FnOk P w K mg base CX0 (n+1) f fd ["_law_row"] (zdw n)
 | 0=>zfj F G bS mS 0 ⟨fun vs H Q E ⟨m,h,_⟩=>by lia,fun A outer s H args us vs Q E _ _ _ _ ⟨m,h,_⟩=>by lia⟩
 | m+1=>zfj F G bS mS (m+1) ((zgX F G bS mS m).imp fun vs H Q E ⟨m',h,q⟩=>by cases h;exact q)
abbrev zcY:Sp:=fun vs H Q E=>∃ m,m≤4∧zdw m vs H Q E
theorem zgY {f:Addr}{fd:FuncData}(F:Fun K "_law_tree" "_law_tree" zgF f fd) (G:Mgs mg) (bS:Binds K fd ["_law_row"] []) (mS:mg "_law_tree" = some (.ref f)):FnOk P w K mg base CX0 5 f fd ["_law_row"] zcY :=
 FnOk.any 4 fun m hm=>(zgX F G bS mS m).mono (by lia)
end
end K41
namespace Bn
open PySem L2 Own
end Bn
namespace L2
open PySem PySem.Spec PyProof.Rows Own
end L2
namespace Bn
open PySem L2 Own
end Bn
namespace K41
open PySem L2 Own Bn
abbrev zgM:Stmt:=top 23
def zdz (m:Nat):Sp:=fun vs H Q _=>∃ p row,vs=[.ref p]∧H p=some (.lst (nums row))∧row.length=2 ^ m∧m≤4∧∀ l ps H',Same H H'→H' l=some (.lst ps)→Prs H' ps (zbo m row)→Q (.ref l) H'
theorem zkV (row:List Nat) (j:Nat) (h:j<row.length):row.reverse.getD j 0=row.getD (row.length-1-j) 0:=by
 rw[Jb,List.getElem?_reverse h,Jb]
section
variable {P:Program}{w:World}{K:PySem.W.Frag}{mg:Str→Option Value}{base:Heap}
theorem scBL:FnScope ["_law_row","_law_half","_law_forks"] ["_law_row"] (zae zgM):=by trivial
theorem zfm {f:Addr}{fd:FuncData}(F:Fun K "_law_block" "_law_block" zgM f fd) (G:Mgs mg) (bS:Binds K fd ["_law_row"] []) (mS:mg "_law_block" = some (.ref f)) (n:Nat)
  (GS:FnOk P w K mg base CX0 n f fd ["_law_row"] (fun vs H Q E=>∃ m,n=m+1∧zdz m vs H Q E)):FnOk P w K mg base CX0 (n+1) f fd ["_law_row"] (zdz n):=by
 have UB:Use P w K mg base "_law_block" ["_law_row"] n (fun vs H Q E=>∃ m,n=m+1∧zdz m vs H Q E) f fd:=⟨GS,bS,F.kp,mS⟩
 refine F.ok scBL (fun vs H Q E h=>?_) (fun cdv A outer s H vs Q E hr h=>?_)
 ·obtain⟨p,row,rfl,_⟩:=h
  rfl
 obtain⟨p,row,rfl,hp,rl,n20,k⟩:=h
 refine⟨_,(@pss_cons _ _ _ _ _ (@ps_if _ _ _ _ _ _ _ _ (@pt_cmpR _ _ _ _ _ _ _ _ op_eq (@pe_callB _ _ _ _ _ _ _ _ _ zah (by rfl) G.len PySem.boot_len (@pa_cons _ _ _ _ _ (@qv _ 0 _ _ (by trivial)) pa_nil (by rfl)) (by decide) (by decide) (by rfl) (by rfl)) pe_int (nomark _)) (@pss_one _ _ _ (@ps_ret _ _ _ _ (@pe_lst _ _ _ _ pa_nil))) pss_nil) (@pss_cons _ _ _ _ _ (@ps_set _ _ 1 _ _ _ _ scBL.nd rfl (.inl rfl) (@pe_op _ _ _ _ _ _ _ _ op_fdiv (@pe_callB _ _ _ _ _ _ _ _ _ zah (by rfl) G.len PySem.boot_len (@pa_cons _ _ _ _ _ (@qv _ 0 _ _ (by trivial)) pa_nil (by rfl)) (by decide) (by decide) (by rfl) (by rfl)) pe_int) (by rfl) (by first|exact .inl rfl|exact .inr rfl|assumption)) (@pss_cons _ _ _ _ _ (@zc8 _ 2 _ _ _ _ none _ _ _ _ _ _ _ _ ["_law_i","_law_row"] [none,some 0] scBL.nd rfl rfl rfl (@pi_range1 _ _ _ _ _ _ rfl G.range (@pa_cons _ _ _ _ _ (@qv _ 1 _ _ (by trivial)) pa_nil (by rfl)) (by rfl)) (CapOk.of (by kernel_rfl)) (fun _ _ _ _ _=>(@pg_name _ _ 0 _ (show (["_law_i","_law_row"]:List Str).Nodup from by decide +kernel) rfl (.inl rfl) (.inr rfl))) (fun _ _ _ _ _=>zbS) (fun _ _ _ _ _=>(@pe_tup _ _ _ _ _ (@pa_cons _ _ _ _ _ (@pe_ix _ _ _ _ _ _ (rIxL K) ix_list (@qv _ 1 _ _ (by trivial)) (@qv _ 0 _ _ (by trivial)) (fun _ _=>rfl)) (@pa_cons _ _ _ _ _ (@pe_ix _ _ _ _ _ _ (rIxL K) ix_list (@qv _ 1 _ _ (by trivial)) (@pe_op _ _ _ _ _ _ _ _ op_sub (@pe_op _ _ _ _ _ _ _ _ op_sub (@pe_callB _ _ _ _ _ _ _ _ (zj2 K) zd2 (by rfl) G.len PySem.boot_len (@pa_cons _ _ _ _ _ (@qv _ 1 _ _ (by trivial)) pa_nil (by rfl)) (by decide) (by decide) (by rfl) (by rfl)) pe_int) (@qv _ 0 _ _ (by trivial))) (fun _ _=>rfl)) pa_nil (by rfl)) (by rfl)))) (by intro _;rfl) (by with_unfolding_all rfl)) (@pss_one _ _ _ (@ps_ret _ _ _ _ (@pe_op _ _ _ _ _ _ _ _ op_cat (@pe_op _ _ _ _ _ _ _ _ op_cat (@qv _ 2 _ _ (by trivial)) (@pe_call _ _ _ _ _ _ _ _ _ _ _ _ _ _ _ _ UB.ok hr (by rfl) UB.m UB.kp UB.b .nil pass0 (@pa_cons _ _ _ _ _ (@pe_slice _ _ _ _ _ _ _ _ _ _ sl_list (@qv _ 0 _ _ (by trivial)) po_none (@po_some _ _ _ (@qv _ 1 _ _ (by trivial)))) pa_nil (by rfl)) (by decide) (by rfl) (by rfl))) (@pe_call _ _ _ _ _ _ _ _ _ _ _ _ _ _ _ _ UB.ok hr (by rfl) UB.m UB.kp UB.b .nil pass0 (@pa_cons _ _ _ _ _ (@pe_slice _ _ _ _ _ _ _ _ _ _ sl_list (@qv _ 0 _ _ (by trivial)) (@po_some _ _ _ (@qv _ 1 _ _ (by trivial))) po_none) pa_nil (by rfl)) (by decide) (by rfl) (by rfl)))))))),?_⟩
 have nl:=zai row
 have p8:2 ^ n≤2 ^ 4:=YC (by decide) n20
 have e8:2 ^ 4=16:=rfl
 refine⟨_,rfl,p,_,rfl,.inl (SqL.of hp),rfl,_,rfl,?_⟩
 cases n with
 | zero =>
  have rl1:row.length=1:=rl
  rw[Jz (show V.int (((nums row).length:Nat):Int)=V.int 1 by rw[nl,rl1];rfl)]
  exact iteT ⟨(by show 0≤sizeLine;decide),fun l hl=>k l [] _ (zaa hl _) (zag hl _) trivial⟩
 | succ m =>
  obtain⟨t1,t2,t3⟩:=zb5 rl
  obtain⟨la,lb⟩:=zbF rl
  have pw:2 ^ (m+1)=2 ^ m*2:=YV ..
  have p0:=Z4 (n:=m)
  rw[Jq (show ¬ V.int (((nums row).length:Nat):Int)=V.int 1 by intro z;injection z with z;lia)]
  refine iteF ⟨_,rfl,p,_,rfl,.inl (SqL.of hp),_,_,rfl,rfl,⟨by decide,by decide⟩,?_⟩
  have eh:(((nums row).length:Nat):Int) / 2=((row.length / 2:Nat):Int):=by rw[nl];lia
  simp only[eh]
  refine⟨_,rfl,((row.length / 2:Nat):Int),rfl,by lia,by lia,fun lc hlc=>?_⟩
  refine zfw (lo:=0) (n:=((row.length / 2:Nat):Int).toNat) (fun j acc σ H6=>(∃ v0,σ=[v0,some (.ref p)])∧Same H H6∧H6 lc=some (.lst acc)∧acc.length=j∧Prs H6 acc (((row.take (row.length / 2)).zip row.reverse).take j)) ⟨⟨_,rfl⟩,zaa hlc _,zac,rfl,trivial⟩ (fun j acc σ H6 z=>z.2.2.1) ?_ ?_
  ·rintro j acc σ H6 hj ⟨⟨v0,rfl⟩,s6,h6,al,pr6⟩
   have jl:j<row.length / 2:=by lia
   have hp6:=s6 _ _ hp
   have e0:(0:Int)+((j:Nat):Int)=((j:Nat):Int):=Int.zero_add _
   refine⟨_,rfl,_,rfl,p,_,_,_,rfl,rfl,SqL.of hp6,(by rw[e0];exact zap (m_at row j (by lia))),?_⟩
   refine⟨_,rfl,_,rfl,p,_,rfl,.inl (SqL.of hp6),_,_,rfl,rfl,_,rfl,_,_,rfl,rfl,?_⟩
   have ei:(((nums row).length:Nat):Int)-1-(0+((j:Nat):Int))=((row.length-1-j:Nat):Int):=by rw[nl];lia
   refine⟨p,_,_,_,rfl,rfl,SqL.of hp6,(by rw[ei];exact zap (m_at row (row.length-1-j) (by lia))),?_⟩
   rw[← zkV row j (by lia)]
   refine⟨(by show 2≤sizeLine;decide),fun t ht=>?_⟩
   have s7:=zaa ht (.tup [.int ((row.getD j 0:Nat):Int),.int ((row.reverse.getD j 0:Nat):Int)])
   have h7:=s7 _ _ h6
   refine⟨h7,by rw[Jy];lia,nx hj ⟨⟨_,rfl⟩,fun c o e=>?_,zac,by rw[Ja,al];rfl,?_⟩⟩
   ·rw[zad (zab e hlc)];exact s7 _ _ (s6 c o e)
   ·rw[zeV (by rw[Jw];lia) (by rw[List.length_reverse];lia)]
    refine Prs.add (f:=((row.take (row.length / 2)).getD j 0,row.reverse.getD j 0)) ?_ ((pr6.tups (Tups.of s7)).tups (Tups.lst h7))
    rw[Tups.lst h7 _ _ (zag ht _),Jb (l:=row.take _),YD jl,← Jb]
  rintro acc σ H6 ⟨⟨v0,rfl⟩,s6,h6,al,pr6⟩
  rw[Y7]at al pr6
  rw[JE (by rw[Z2,Jw,List.length_reverse];lia)]at pr6
  have hp6:=s6 _ _ hp
  refine⟨_,rfl,_,rfl,_,rfl,_,rfl,p,_,rfl,SqL.of hp6,fun p5 hp5=>?_⟩
  rw[zhj row _ t3]
  have s5:=zaa hp5 (.lst (nums (row.take (row.length / 2))))
  refine⟨m,rfl,p5,row.take (row.length / 2),rfl,zag hp5 _,la,by lia,fun l6 ps6 H7 s6' h6' pr6'=>?_⟩
  have u6:=s5.trans s6'
  have b6:=zbe m (row.take (row.length / 2))
  rw[la]at b6
  have b6':m*2 ^ m≤4*16:=Nat.mul_le_mul (by lia) (by lia)
  have pl6:=pr6'.len
  refine⟨lc,l6,_,_,rfl,rfl,u6 _ _ h6,h6',by rw[Jy];lia,fun l7 hl7=>?_⟩
  have s8:=zaa hl7 (.lst (acc++ps6))
  have pr8:=(Prs.app (pr6.tups (Tups.of u6)) pr6').tups (Tups.of s8)
  have u8:=s6.trans (u6.trans s8)
  have hp8:=u8 _ _ hp
  have h8:=zag hl7 (.lst (acc++ps6))
  generalize L2.upd H7 l7 _=H8 at s8 pr8 u8 hp8 h8 ⊢
  refine⟨_,rfl,_,rfl,_,rfl,p,_,rfl,SqL.of hp8,fun p9 hp9=>?_⟩
  rw[zhk row _ t3]
  have s9:=zaa hp9 (.lst (nums (row.drop (row.length / 2))))
  refine⟨m,rfl,p9,row.drop (row.length / 2),rfl,zag hp9 _,lb,by lia,fun l9 ps9 H9 s9' h9 pr9=>?_⟩
  have u9:=s9.trans s9'
  have b9:=zbe m (row.drop (row.length / 2))
  rw[lb]at b9
  have pl9:=pr9.len
  refine⟨l7,l9,_,_,rfl,rfl,u9 _ _ h8,h9,by rw[Ja,Jy];lia,fun l10 hl10=>?_⟩
  have s10:=zaa hl10 (.lst ((acc++ps6)++ps9))
  have pr10:=(Prs.app (pr8.tups (Tups.of u9)) pr9).tups (Tups.of s10)
  refine k l10 _ _ (u8.trans (u9.trans s10)) (zag hl10 _) ?_
  have e:zbo (m+1) row=(row.take (row.length / 2)).zip row.reverse++zbo m (row.take (row.length / 2))++zbo m (row.drop (row.length / 2)):=by
   conv=>lhs;unfold zbo
   rw[Jc (by lia)]
  rw[e];exact pr10
theorem zg6 {f:Addr}{fd:FuncData}(F:Fun K "_law_block" "_law_block" zgM f fd) (G:Mgs mg) (bS:Binds K fd ["_law_row"] []) (mS:mg "_law_block" = some (.ref f)):∀ n:Nat,FnOk P w K mg base CX0 (n+1) f fd ["_law_row"] (zdz n)
 | 0=>zfm F G bS mS 0 ⟨fun vs H Q E ⟨m,h,_⟩=>by lia,fun A outer s H args us vs Q E _ _ _ _ ⟨m,h,_⟩=>by lia⟩
 | m+1=>zfm F G bS mS (m+1) ((zg6 F G bS mS m).imp fun vs H Q E ⟨m',h,q⟩=>by cases h;exact q)
abbrev zc4:Sp:=fun vs H Q E=>∃ m,m≤4∧zdz m vs H Q E
theorem zg7 {f:Addr}{fd:FuncData}(F:Fun K "_law_block" "_law_block" zgM f fd) (G:Mgs mg) (bS:Binds K fd ["_law_row"] []) (mS:mg "_law_block" = some (.ref f)):FnOk P w K mg base CX0 5 f fd ["_law_row"] zc4 :=
 FnOk.any 4 fun m hm=>(zg6 F G bS mS m).mono (by lia)
end
abbrev zjW:Stmt:=top 25
def zbn (way k:Nat):Nt:=if way=0 then zby k else if way=1 then zcX k else zaY k
theorem zhi {way k:Nat}(h:k<5):(zbn way k).Ok:=by
 unfold zbn
 split
 ·exact zih h
 ·split
  ·exact zjJ h
  ·exact zgP h
theorem zf8 (way k:Nat):(zbn way k).lanes=2 ^ k:=by
 unfold zbn
 split
 ·rfl
 ·split<;>rfl
def ze5:Sp:=fun vs H Q _=>∃ way k:Nat,vs=[.int (way:Nat),.int (k:Nat)]∧k<5∧∀ r fr er ps H',Same H H'→NetAt H' r fr er ps (zbn way k)→Q (.ref r) H'
theorem zep {H:Hp}{ps:List V}{fs:List Fk}(h:Prs H ps fs):∀ n:Nat,Prs H (List.replicate n ps).flatten (List.replicate n fs).flatten
 | 0=>trivial
 | n+1=>by
  rw[Y3,Y3,Yp,Yp]
  exact Prs.app h (zep h n)
section
variable {P:Program}{w:World}{K:PySem.W.Frag}{mg:Str→Option Value}{base:Heap}
theorem scMd:FnScope ["_law_way","_law_k","_law_row","_law_forks","_law_ends"] ["_law_way","_law_k"] (zae zjW):=by trivial
theorem zkf {f fB fS fT:Addr}{fd dB dS dT:FuncData}(F:Fun K "_law_made" "_law_made" zjW f fd) (G:Mgs mg) (UB:Use P w K mg base "_law_block" ["_law_row"] 5 zc4 fB dB) (US:Use P w K mg base "_law_stairway" ["_law_row"] 10 zcZ fS dS) (UT:Use P w K mg base "_law_tree" ["_law_row"] 5 zcY fT dT):FnOk P w K mg base CX0 11 f fd ["_law_way","_law_k"] ze5:=by
 refine F.ok scMd (fun vs H Q E h=>?_) (fun cdv A outer s H vs Q E hr h=>?_)
 ·obtain⟨way,k,rfl,_⟩:=h
  rfl
 obtain⟨way,k,rfl,k5,q⟩:=h
 have hr5:Room 5 _:=hr.mono (by decide)
 refine⟨_,(@pss_cons _ _ _ _ _ (@ps_set _ _ 2 _ _ _ _ scMd.nd rfl (.inl rfl) (@pe_lstRng _ _ _ _ _ _ _ rfl (by rfl) G.list (by rfl) G.range (@pa_cons _ _ _ _ _ (@pe_ix _ _ _ _ _ _ _ ix_list (@pe_lst _ _ _ _ (@pa_cons _ _ _ _ _ pe_int (@pa_cons _ _ _ _ _ pe_int (@pa_cons _ _ _ _ _ pe_int (@pa_cons _ _ _ _ _ pe_int (@pa_cons _ _ _ _ _ pe_int pa_nil (by rfl)) (by rfl)) (by rfl)) (by rfl)) (by rfl))) (@qv _ 1 _ _ (by trivial)) (fun _ _=>rfl)) pa_nil (by rfl)) (by rfl) (by rfl)) (by rfl) (by first|exact .inl rfl|exact .inr rfl|assumption)) (@pss_cons _ _ _ _ _ (@zff _ _ 3 4 _ _ _ _ _ _ _ _ _ _ _ rfl scMd.nd rfl rfl (by decide) rfl rfl (@pa_cons _ _ _ _ _ (@pe_op _ _ _ _ _ _ _ _ zju (@pe_call _ _ _ _ _ _ _ _ _ _ _ _ _ _ _ _ UB.ok hr5 (by rfl) UB.m UB.kp UB.b .nil pass0 (@pa_cons _ _ _ _ _ (@qv _ 2 _ _ (by trivial)) pa_nil (by rfl)) (by decide) (by rfl) (by rfl)) (@qv _ 1 _ _ (by trivial))) (@pa_cons _ _ _ _ _ (@qv _ 2 _ _ (by trivial)) pa_nil (by rfl)) (by rfl)) (by rfl) (by rfl)) (@pss_cons _ _ _ _ _ (@ps_if _ _ _ _ _ _ _ _ (@pt_cmpR _ _ _ _ _ _ _ _ op_eq (@qv _ 0 _ _ (by trivial)) pe_int (nomark _)) (@pss_one _ _ _ (@ps_asg _ _ _ _ _ _ (@pe_call _ _ _ _ _ _ _ _ _ _ _ _ _ _ _ _ US.ok hr (by rfl) US.m US.kp US.b .nil pass0 (@pa_cons _ _ _ _ _ (@qv _ 2 _ _ (by trivial)) pa_nil (by rfl)) (by decide) (by rfl) (by rfl)) (@pg_tup _ _ _ _ _ _ rfl (@pgs_cons _ _ _ _ _ (@pg_name _ _ 3 _ scMd.nd rfl (.inl rfl) (by first|exact .inl rfl|exact .inr rfl|assumption)) (@pgs_cons _ _ _ _ _ (@pg_name _ _ 4 _ scMd.nd rfl (.inl rfl) (by first|exact .inl rfl|exact .inr rfl|assumption)) pgs_nil (by rfl)) (by rfl)) (by rfl) (by rfl)) (by rfl) (by rfl) (by rfl))) pss_nil) (@pss_cons _ _ _ _ _ (@ps_if _ _ _ _ _ _ _ _ (@pt_cmpR _ _ _ _ _ _ _ _ op_eq (@qv _ 0 _ _ (by trivial)) pe_int (nomark _)) (@pss_one _ _ _ (@ps_asg _ _ _ _ _ _ (@pe_call _ _ _ _ _ _ _ _ _ _ _ _ _ _ _ _ UT.ok hr5 (by rfl) UT.m UT.kp UT.b .nil pass0 (@pa_cons _ _ _ _ _ (@qv _ 2 _ _ (by trivial)) pa_nil (by rfl)) (by decide) (by rfl) (by rfl)) (@pg_tup _ _ _ _ _ _ rfl (@pgs_cons _ _ _ _ _ (@pg_name _ _ 3 _ scMd.nd rfl (.inl rfl) (by first|exact .inl rfl|exact .inr rfl|assumption)) (@pgs_cons _ _ _ _ _ (@pg_name _ _ 4 _ scMd.nd rfl (.inl rfl) (by first|exact .inl rfl|exact .inr rfl|assumption)) pgs_nil (by rfl)) (by rfl)) (by rfl) (by rfl)) (by rfl) (by rfl) (by rfl))) pss_nil) (@pss_one _ _ _ (@ps_ret _ _ _ _ (@pe_tup _ _ _ _ _ (@pa_cons _ _ _ _ _ (@pe_callB _ _ _ _ _ _ _ _ _ zah (by rfl) G.len PySem.boot_len (@pa_cons _ _ _ _ _ (@qv _ 2 _ _ (by trivial)) pa_nil (by rfl)) (by decide) (by decide) (by rfl) (by rfl)) (@pa_cons _ _ _ _ _ (@pe_callTy _ _ _ _ _ _ _ _ _ call_tuple_of (by rfl) G.tuple (by rfl) (@pa_cons _ _ _ _ _ (@qv _ 3 _ _ (by trivial)) pa_nil (by rfl)) (by decide) (by decide) (by rfl) (by rfl)) (@pa_cons _ _ _ _ _ (@pe_callTy _ _ _ _ _ _ _ _ _ call_tuple_of (by rfl) G.tuple (by rfl) (@pa_cons _ _ _ _ _ (@qv _ 4 _ _ (by trivial)) pa_nil (by rfl)) (by decide) (by decide) (by rfl) (by rfl)) pa_nil (by rfl)) (by rfl)) (by rfl))))))))),?_⟩
 have p16:2 ^ k≤2 ^ 4:=YC (by decide) (by lia)
 have e16:2 ^ 4=16:=rfl
 have at_k:atI [V.int 1,V.int 2,V.int 4,V.int 8,V.int 16] ((k:Nat):Int)=some (.int ((2 ^ k:Nat):Int)):=by
  have:∀ k,k<5→atI [V.int 1,V.int 2,V.int 4,V.int 8,V.int 16] ((k:Nat):Int)=some (.int ((2 ^ k:Nat):Int)):=by decide
  exact this k k5
 refine⟨(by show 5≤sizeLine;decide),fun t ht=>?_⟩
 have s0:=zaa ht (.lst [.int 1,.int 2,.int 4,.int 8,.int 16])
 refine⟨_,rfl,t,_,_,_,rfl,rfl,SqL.of zac,at_k,?_⟩
 refine⟨2 ^ k,rfl,by lia,fun p hp=>?_⟩
 have s1:=zaa hp (.lst (nums (List.range (2 ^ k))))
 have u1:=s0.trans s1
 have hp1:=zag hp (.lst (nums (List.range (2 ^ k))))
 show tSeq _ _ _ _ (L2.upd _ p (.lst (nums (List.range (2 ^ k)))))
 generalize L2.upd _ p (.lst (nums (List.range (2 ^ k))))=H1 at u1 hp1 ⊢
 clear s0 s1 hp
 refine⟨_,rfl,k,by lia,p,List.range (2 ^ k),rfl,hp1,Y9,by lia,fun l ps H2 s2 hl pr=>?_⟩
 have pl:=pr.len
 have bl:=zbe k (List.range (2 ^ k))
 rw[Y9]at bl
 have b2:k*2 ^ k≤4*2 ^ 4:=Nat.mul_le_mul (by lia) p16
 have b3:ps.length*k≤(4*2 ^ 4)*4:=Nat.mul_le_mul (by lia) (by lia)
 refine⟨_,rfl,l,k,ps,rfl,rfl,hl,by lia,by lia,by rw[Y7,Jy];lia,fun l2 hl2=>?_⟩
 rw[Y7]
 have s3:=zaa hl2 (.lst (List.replicate k ps).flatten)
 refine⟨_,rfl,_,_,rfl,?_⟩
 let I:Nt→St→Hp→Prop:=fun N σ G=>∃ lf le qs,σ=[some (.int (way:Nat)),some (.int (k:Nat)),some (.ref p),some (.ref lf),some (.ref le)]∧Same H G∧G p=some (.lst (nums (List.range (2 ^ k))))∧G lf=some (.lst qs)∧Prs G qs N.forks∧G le=some (.lst (nums N.ends))
 have i0:I (zaY k) [some (.int (way:Nat)),some (.int (k:Nat)),some (.ref p),some (.ref l2),some (.ref p)] (L2.upd H2 l2 (.lst (List.replicate k ps).flatten)):=⟨l2,p,_,rfl,(u1.trans s2).trans s3,s3 _ _ (s2 _ _ hp1),zag hl2 _,(zep pr k).tups (Tups.of s3),s3 _ _ (s2 _ _ hp1)⟩
 dsimp only
 refine zhB (I (if way=0 then zby k else zaY k)) ?_ fun D nxt _=>?_
 ·rintro σ G ⟨lf,le,qs,rfl,sG,hpG,hf,pq,he⟩
  refine zhB (I (zbn way k)) ?_ fun D nxt _=>?_
  ·rintro σ G ⟨lf,le,qs,rfl,sG,hpG,hf,pq,he⟩
   refine⟨_,rfl,p,_,rfl,.inl (SqL.of hpG),_,rfl,lf,_,rfl,.inl ⟨SqL.of hf,fun a ha=>?_⟩⟩
   have s4:=zaa ha (.tup qs)
   refine⟨_,rfl,le,_,rfl,.inl ⟨SqL.of (s4 _ _ he),fun b hb=>?_⟩⟩
   have s5:=zaa hb (.tup (nums (zbn way k).ends))
   refine⟨(by show 3≤sizeLine;decide),fun r hr'=>?_⟩
   rw[zai,Y9]
   have s6:=zaa hr' (.tup [.int ((2 ^ k:Nat):Int),.ref a,.ref b])
   refine q r a b qs _ (((sG.trans s4).trans s5).trans s6) ⟨?_,s6 _ _ (s5 _ _ (zag ha _)),pq.tups (Tups.of ((s4.trans s5).trans s6)),s6 _ _ (zag hb _)⟩
   rw[zf8];exact zag hr' _
  ·refine⟨_,rfl,rfl,_,rfl,?_⟩
   by_cases w1:way=1
   ·rw[Jz (show V.int ((way:Nat):Int)=V.int 1 by rw[w1];rfl)]
    refine iteT ⟨_,rfl,k,by lia,p,List.range (2 ^ k),rfl,hpG,Y9,by lia,fun c lf2 le2 ps2 G2 s2 hc hf2 pr2 he2=>?_⟩
    refine⟨c,_,rfl,SqT.of hc,rfl,_,_,rfl,_,_,rfl,rfl,?_⟩
    refine nxt _ _ ⟨lf2,le2,ps2,rfl,sG.trans s2,s2 _ _ hpG,hf2,?_,?_⟩
    ·rw[show zbn way k=zcX k from by unfold zbn;rw[Jc (by lia),Jf w1]];exact pr2
    ·rw[show zbn way k=zcX k from by unfold zbn;rw[Jc (by lia),Jf w1]];exact he2
   ·rw[Jq (show ¬ V.int ((way:Nat):Int)=V.int 1 by intro z;injection z with z;lia)]
    have e:zbn way k=if way=0 then zby k else zaY k:=by unfold zbn;rw[Jc w1]
    refine iteF (nxt _ _ ⟨lf,le,qs,rfl,sG,hpG,hf,?_,?_⟩)
    ·rw[e];exact pq
    ·rw[e];exact he
 ·obtain⟨lf,le,qs,e,sG,hpG,hf,pq,he⟩:=i0
  refine⟨_,rfl,rfl,_,rfl,?_⟩
  by_cases w0:way=0
  ·rw[Jz (show V.int ((way:Nat):Int)=V.int 0 by rw[w0];rfl)]
   refine iteT ⟨_,rfl,k,by lia,p,List.range (2 ^ k),rfl,hpG,Y9,by lia,fun c lf2 le2 ps2 G2 s2 hc hf2 pr2 he2=>?_⟩
   refine⟨c,_,rfl,SqT.of hc,rfl,_,_,rfl,_,_,rfl,rfl,?_⟩
   refine nxt _ _ ⟨lf2,le2,ps2,rfl,sG.trans s2,s2 _ _ hpG,hf2,?_,?_⟩
   ·rw[Jf w0];exact pr2
   ·rw[Jf w0];exact he2
  ·rw[Jq (show ¬ V.int ((way:Nat):Int)=V.int 0 by intro z;injection z with z;lia)]
   refine iteF (nxt _ _ ⟨l2,p,_,rfl,(u1.trans s2).trans s3,s3 _ _ (s2 _ _ hp1),zag hl2 _,?_,?_⟩)
   ·rw[Jc w0];exact(zep pr k).tups (Tups.of s3)
   ·rw[Jc w0];exact s3 _ _ (s2 _ _ hp1)
end
abbrev zjV:Stmt:=top 28
abbrev zgH:Stmt:=top 29
def zgz:Sp:=fun vs H Q _=>∃ l:Addr,vs=[.ref l]∧Pk3 H l∧∀ r fr er ps N H',Few 6 10 N→NetAt H' r fr er ps N→Pk3 H' l→But l H H'→Q (.ref r) H'
structure Lns (lanes:Nat) (moves:List Nat):Prop where
 ne:moves≠[]
 lt:∀ m∈moves,m<lanes
 up:moves.Pairwise (· < ·)
def zee:Sp:=fun vs H Q _=>∃ l r fr er ps N,vs=[.ref l,.ref r]∧Pk3 H l∧Nt.Ok N∧NetAt H r fr er ps N∧∀ p moves H',Lns N.lanes moves→H' p=some (.tup (nums moves))→Pk3 H' l→But l H H'→Q (.ref p) H'
theorem zfu (way:Nat) {k:Nat}(h:k<3):(zbn way k).forks.length≤8∧(zbn way k).lanes≤4:=by
 have s:∀ k,k<3→(zby k).forks.length≤8∧(zby k).lanes≤4:=by decide
 have t:∀ k,k<3→(zcX k).forks.length≤8∧(zcX k).lanes≤4:=by decide
 have r:∀ k,k<3→(zaY k).forks.length≤8∧(zaY k).lanes≤4:=by decide
 unfold zbn
 split
 ·exact s k h
 ·split
  ·exact t k h
  ·exact r k h
theorem Lns.all {lanes:Nat}(h:1≤lanes):Lns lanes (List.range lanes):=⟨fun z=>by have:=JJ List.length z;rw[Y9,Z1]at this;lia,fun m hm=>Yj.mp hm,List.pairwise_lt_range⟩
section
variable {P:Program}{w:World}{K:PySem.W.Frag}{mg:Str→Option Value}{base:Heap}
theorem scNd:FnScope ["_law_left_here","_law_way","_law_net_here","_law_k"] ["_law_left_here"] (zae zjV):=by trivial
theorem zke {f fK fA fM fC:Addr}{fd dK dA dM dC:FuncData}(F:Fun K "_law_net" "_law_net" zjV f fd) (G:Mgs mg) (UK:Use P w K mg base "_law_pick" ["_law_left_here","_law_many"] 1 za6 fK dK) (UA:Use P w K mg base "_law_any" ["_law_left_here"] 3 zgA fA dA) (UM:Use P w K mg base "_law_made" ["_law_way","_law_k"] 11 ze5 fM dM) (UC:Use P w K mg base "_law_changed" ["_law_left_here","_law_net_here"] 2 zjP fC dC):FnOk P w K mg base CX0 12 f fd ["_law_left_here"] zgz:=by
 refine F.ok scNd (fun vs H Q E h=>?_) (fun cdv A outer s H vs Q E hr h=>?_)
 ·obtain⟨l,rfl,_⟩:=h
  rfl
 obtain⟨l,rfl,S,k⟩:=h
 have hr1:Room 1 _:=hr.mono (by decide)
 have hr2:Room 2 _:=hr.mono (by decide)
 have hr3:Room 3 _:=hr.mono (by decide)
 refine⟨_,(@pss_cons _ _ _ _ _ (@ps_set _ _ 1 _ _ _ _ scNd.nd rfl (.inl rfl) (@pe_call _ _ _ _ _ _ _ _ _ _ _ _ _ _ _ _ UK.ok hr1 (by rfl) UK.m UK.kp UK.b .nil pass0 (@pa_cons _ _ _ _ _ (@qv _ 0 _ _ (by trivial)) (@pa_cons _ _ _ _ _ pe_int pa_nil (by rfl)) (by rfl)) (by decide) (by rfl) (by rfl)) (by rfl) (by first|exact .inl rfl|exact .inr rfl|assumption)) (@pss_cons _ _ _ _ _ (@ps_if _ _ _ _ _ _ _ _ (@pt_cmpR _ _ _ _ _ _ _ _ op_eq (@qv _ 1 _ _ (by trivial)) pe_int (nomark _)) (@pss_one _ _ _ (@ps_ret _ _ _ _ (@pe_call _ _ _ _ _ _ _ _ _ _ _ _ _ _ _ _ UA.ok hr3 (by rfl) UA.m UA.kp UA.b .nil pass0 (@pa_cons _ _ _ _ _ (@qv _ 0 _ _ (by trivial)) pa_nil (by rfl)) (by decide) (by rfl) (by rfl)))) pss_nil) (@pss_cons _ _ _ _ _ (@ps_set _ _ 2 _ _ _ _ scNd.nd rfl (.inl rfl) (@pe_call _ _ _ _ _ _ _ _ _ _ _ _ _ _ _ _ UM.ok hr (by rfl) UM.m UM.kp UM.b .nil pass0 (@pa_cons _ _ _ _ _ (@pe_call _ _ _ _ _ _ _ _ _ _ _ _ _ _ _ _ UK.ok hr1 (by rfl) UK.m UK.kp UK.b .nil pass0 (@pa_cons _ _ _ _ _ (@qv _ 0 _ _ (by trivial)) (@pa_cons _ _ _ _ _ pe_int pa_nil (by rfl)) (by rfl)) (by decide) (by rfl) (by rfl)) (@pa_cons _ _ _ _ _ (@pe_ix _ _ _ _ _ _ _ ix_list (@pe_lst _ _ _ _ (@pa_cons _ _ _ _ _ pe_int (@pa_cons _ _ _ _ _ pe_int (@pa_cons _ _ _ _ _ pe_int (@pa_cons _ _ _ _ _ pe_int pa_nil (by rfl)) (by rfl)) (by rfl)) (by rfl))) (@pe_call _ _ _ _ _ _ _ _ _ _ _ _ _ _ _ _ UK.ok hr1 (by rfl) UK.m UK.kp UK.b .nil pass0 (@pa_cons _ _ _ _ _ (@qv _ 0 _ _ (by trivial)) (@pa_cons _ _ _ _ _ pe_int pa_nil (by rfl)) (by rfl)) (by decide) (by rfl) (by rfl)) (fun _ _=>rfl)) pa_nil (by rfl)) (by rfl)) (by decide) (by rfl) (by rfl)) (by rfl) (by first|exact .inl rfl|exact .inr rfl|assumption)) (@pss_cons _ _ _ _ _ (@ps_for _ _ _ _ _ _ _ _ PassesOwn.never rfl (@pi_range1 _ _ _ _ _ _ rfl G.range (@pa_cons _ _ _ _ _ (@pe_op _ _ _ _ _ _ _ _ op_mul (@pe_ix _ _ _ _ _ _ _ ix_list (@pe_lst _ _ _ _ (@pa_cons _ _ _ _ _ pe_int (@pa_cons _ _ _ _ _ pe_int (@pa_cons _ _ _ _ _ pe_int (@pa_cons _ _ _ _ _ pe_int pa_nil (by rfl)) (by rfl)) (by rfl)) (by rfl))) (@qv _ 1 _ _ (by trivial)) (fun _ _=>rfl)) (@pe_call _ _ _ _ _ _ _ _ _ _ _ _ _ _ _ _ UK.ok hr1 (by rfl) UK.m UK.kp UK.b .nil pass0 (@pa_cons _ _ _ _ _ (@qv _ 0 _ _ (by trivial)) (@pa_cons _ _ _ _ _ pe_int pa_nil (by rfl)) (by rfl)) (by decide) (by rfl) (by rfl))) pa_nil (by rfl)) (by rfl)) (@pg_name _ _ 3 _ scNd.nd rfl (.inl rfl) (by first|exact .inl rfl|exact .inr rfl|assumption)) (@pss_one _ _ _ (@ps_set _ _ 2 _ _ _ _ scNd.nd rfl (.inl rfl) (@pe_call _ _ _ _ _ _ _ _ _ _ _ _ _ _ _ _ UC.ok hr2 (by rfl) UC.m UC.kp UC.b .nil pass0 (@pa_cons _ _ _ _ _ (@qv _ 0 _ _ (by trivial)) (@pa_cons _ _ _ _ _ (@qv _ 2 _ _ (by trivial)) pa_nil (by rfl)) (by rfl)) (by decide) (by rfl) (by rfl)) (by rfl) (by first|exact .inl rfl|exact .inr rfl|assumption))) (by intro _;rfl)) (@pss_one _ _ _ (@ps_ret _ _ _ _ (@qv _ 2 _ _ (by trivial)))))))),?_⟩
 refine⟨_,rfl,l,4,rfl,by decide,by decide,S,fun way H1 hw S1 B1=>?_⟩
 refine⟨_,rfl,rfl,_,rfl,ite2 (fun _=>?_) (fun z=>?_)⟩
 ·exact⟨_,rfl,l,rfl,S1,fun r fr er ps N H2 few na S2 B2=>k r fr er ps N H2 ⟨few.ok,few.ln,by have:=few.fk;lia⟩ na S2 (B1.trans B2)⟩
 refine⟨_,rfl,l,3,rfl,by decide,by decide,S1,fun kd H2 hk S2 B2=>?_⟩
 refine⟨(by show 4≤sizeLine;decide),fun t ht=>⟨_,rfl,l,4,rfl,by decide,by decide,S2.keep (zaa ht _),fun v H3 hv S3 B3=>?_⟩⟩
 obtain⟨sz,zm,za⟩:=zc9 (xs:=[1,2,2,0]) (v:=v) (by show v<4;lia)
 have zb:sz<3:=(show ∀ n∈[1,2,2,0],n<3 by decide) sz zm
 refine⟨t,_,_,_,rfl,rfl,SqL.of (B3 t _ (zag ht _) (S2.ne ht).symm),za,?_⟩
 have B3':But l H H3:=((B1.trans B2).trans (But.of (zaa ht _))).trans B3
 clear ht B3 za zm
 refine⟨kd,sz,rfl,by lia,fun r fr er ps H4 s4 na4=>?_⟩
 obtain⟨m1,m2⟩:=zfu kd zb
 have S4:=S3.keep s4
 have B4:=B3'.trans (But.of (l:=l) s4)
 refine⟨(by show 4≤sizeLine;decide),fun t ht=>?_⟩
 have s5:=zaa ht (.lst [.int 0,.int 1,.int 1,.int 2])
 obtain⟨tm,mm,ma⟩:=zc9 (xs:=[0,1,1,2]) (v:=way) (by show way<4;lia)
 have mb:tm≤2:=(show ∀ n∈[0,1,1,2],n≤2 by decide) tm mm
 refine⟨_,rfl,t,_,_,_,rfl,rfl,SqL.of (zag ht _),ma,?_⟩
 refine⟨_,rfl,l,2,rfl,by decide,by decide,S4.keep s5,fun v2 H5 hv2 S5 B5=>?_⟩
 have na5:=(na4.tups (Tups.of s5)).tups (B5.tups3 (S4.keep s5))
 have B5':=(B4.trans (But.of (l:=l) s5)).trans B5
 have pb:tm*v2≤2:=by
  have:tm*v2≤2*1:=Nat.mul_le_mul mb (by lia)
  lia
 have ec:((tm:Nat):Int)*((v2:Nat):Int)=((tm*v2:Nat):Int):=(Int.natCast_mul _ _).symm
 refine⟨_,_,rfl,rfl,.inl ⟨by lia,by lia⟩,?_⟩
 refine⟨_,rfl,by rw[ec];lia,by rw[ec];lia,?_⟩
 rw[ec]
 generalize tm*v2=cnt at pb
 refine za9 (lo:=0) (n:=((cnt:Nat):Int).toNat) (fun i σ H2=>∃ w3 r fr er ps N,σ=[some (.ref l),some (.int (way:Nat)),some (.ref r),w3]∧Pk3 H2 l∧But l H H2∧NetAt H2 r fr er ps N∧Few 6 (8+i) N) ⟨_,r,fr,er,ps,_,rfl,S5,B5',na5,zhi (by lia),by lia,by lia⟩ ?_ ?_
 ·rintro i σ H2 hi ⟨w3,r,fr,er,ps,N,rfl,S2,B2,na,few⟩
  refine⟨_,rfl,_,rfl,l,r,fr,er,ps,N,6,8+i,rfl,S2,few,by lia,na,fun r' fr' er' ps' N' H3 few' _ na' S3 B3=>?_⟩
  exact⟨_,r',fr',er',ps',N',rfl,S3,B2.trans B3,na',few'⟩
 ·rintro σ H2 ⟨w3,r,fr,er,ps,N,rfl,S2,B2,na,few⟩
  exact⟨_,rfl,k r fr er ps N H2 ⟨few.ok,few.ln,by have:=few.fk;lia⟩ na S2 B2⟩
theorem scSm:FnScope ["_law_left_here","_law_net_here","_law_some_here"] ["_law_left_here","_law_net_here"] (zae zgH):=by trivial
theorem ziE {f fK:Addr}{fd dK:FuncData}(F:Fun K "_law_some" "_law_some" zgH f fd) (G:Mgs mg) (UK:Use P w K mg base "_law_pick" ["_law_left_here","_law_many"] 1 za6 fK dK):FnOk P w K mg base CX0 2 f fd ["_law_left_here","_law_net_here"] zee:=by
 refine F.ok scSm (fun vs H Q E h=>?_) (fun cdv A outer s H vs Q E hr h=>?_)
 ·obtain⟨l,r,fr,er,ps,N,rfl,_⟩:=h
  rfl
 obtain⟨l,r,fr,er,ps,N,rfl,S,ok,na,k⟩:=h
 have l16:=ok.l16
 have l1:=ok.l1
 refine⟨_,(@pss_cons _ _ _ _ _ (@zc8 _ 2 _ _ _ _ (some _) _ _ _ _ _ _ _ _ ["_law_lane","_law_left_here"] [none,some 0] scSm.nd rfl rfl rfl (@pi_range1 _ _ _ _ _ _ rfl G.range (@pa_cons _ _ _ _ _ (@pe_ix _ _ _ _ _ _ _ ix_tup (@qv _ 1 _ _ (by trivial)) pe_int (fun _ _=>rfl)) pa_nil (by rfl)) (by rfl)) (CapOk.of (by kernel_rfl)) (fun _ _ _ _ _=>(@pg_name _ _ 0 _ (show (["_law_lane","_law_left_here"]:List Str).Nodup from by decide +kernel) rfl (.inl rfl) (.inr rfl))) (fun _ _ _ _ _=>(@zj3 _ _ _ (@pt_cmpR _ _ _ _ _ _ _ _ op_eq (@pe_call _ _ _ _ _ _ _ _ _ _ _ _ _ _ _ _ UK.ok hr (by rfl) UK.m UK.kp UK.b .nil pass0 (@pa_cons _ _ _ _ _ (@qv _ 1 _ _ (by trivial)) (@pa_cons _ _ _ _ _ pe_int pa_nil (by rfl)) (by rfl)) (by decide) (by rfl) (by rfl)) pe_int (nomark _)))) (fun _ _ _ _ _=>(@qv _ 0 _ _ (by trivial))) (by intro _;rfl) (by with_unfolding_all rfl)) (@pss_one _ _ _ (@ps_ret _ _ _ _ (@pe_ix _ _ _ _ _ _ _ ix_list (@pe_lst _ _ _ _ (@pa_cons _ _ _ _ _ (@pe_tupRng _ _ _ _ _ _ _ rfl (by rfl) G.tuple (by rfl) G.range (@pa_cons _ _ _ _ _ (@pe_ix _ _ _ _ _ _ _ ix_tup (@qv _ 1 _ _ (by trivial)) pe_int (fun _ _=>rfl)) pa_nil (by rfl)) (by rfl) (by rfl)) (@pa_cons _ _ _ _ _ (@pe_ifExp _ _ _ _ _ _ _ _ (@pt_cmpR _ _ _ _ _ _ _ _ (zjw hr.units0) (@qv _ 2 _ _ (by trivial)) (@pe_lst _ _ _ _ pa_nil) (nomark _)) (@pe_callTy _ _ _ _ _ _ _ _ _ call_tuple_of (by rfl) G.tuple (by rfl) (@pa_cons _ _ _ _ _ (@qv _ 2 _ _ (by trivial)) pa_nil (by rfl)) (by decide) (by decide) (by rfl) (by rfl)) (@pe_tup _ _ _ _ _ (@pa_cons _ _ _ _ _ (@pe_call _ _ _ _ _ _ _ _ _ _ _ _ _ _ _ _ UK.ok hr (by rfl) UK.m UK.kp UK.b .nil pass0 (@pa_cons _ _ _ _ _ (@qv _ 0 _ _ (by trivial)) (@pa_cons _ _ _ _ _ (@pe_ix _ _ _ _ _ _ _ ix_tup (@qv _ 1 _ _ (by trivial)) pe_int (fun _ _=>rfl)) pa_nil (by rfl)) (by rfl)) (by decide) (by rfl) (by rfl)) pa_nil (by rfl)))) pa_nil (by rfl)) (by rfl))) (@pe_call _ _ _ _ _ _ _ _ _ _ _ _ _ _ _ _ UK.ok hr (by rfl) UK.m UK.kp UK.b .nil pass0 (@pa_cons _ _ _ _ _ (@qv _ 0 _ _ (by trivial)) (@pa_cons _ _ _ _ _ pe_int pa_nil (by rfl)) (by rfl)) (by decide) (by rfl) (by rfl)) (fun _ _=>rfl))))),?_⟩
 refine⟨_,rfl,r,_,_,_,rfl,rfl,SqT.of na.net,rfl,_,rfl,by lia,by lia,fun lc hlc=>?_⟩
 have nlc:=S.ne hlc
 have flc:Frs l H lc:=fun b o e _=>zab e hlc
 refine zhq (lo:=0) (n:=((N.lanes:Nat):Int).toNat) (fun i acc σ H2=>(∃ v0,σ=[v0,some (.ref l)])∧Pk3 H2 l∧But l H H2∧H2 lc=some (.lst acc)∧∃ ms:List Nat,acc=nums ms∧ms.length≤i∧(∀ m∈ms,m<i)∧ms.Pairwise (· < ·)) ⟨⟨_,rfl⟩,S.upd nlc,But.of (zaa hlc _),zag hlc _,[],rfl,Jg _,fun m hm=>(nomatch hm),.nil⟩ (fun i acc σ H2 z=>z.2.2.2.1) ?_ ?_
 ·rintro i acc σ H2 hi ⟨⟨v0,rfl⟩,S2,B2,h2,ms,rfl,ml,mlt,mp⟩
  refine⟨_,rfl,l,2,rfl,by decide,by decide,S2,fun v H3 hv S3 B3=>⟨rfl,_,rfl,?_⟩⟩
  have h3:=B3 lc _ h2 nlc.symm
  have e0:(0:Int)+((i:Nat):Int)=((i:Nat):Int):=Int.zero_add _
  refine ite2 (fun _=>?_) (fun _=>?_)
  ·refine⟨_,rfl,h3,by rw[zai,Jy];lia,nx (by lia) ⟨⟨_,rfl⟩,S3.upd nlc,(B2.trans B3).upd flc,zac,ms++[i],?_,by rw[Ja];show _+1≤_;lia,fun m hm=>?_,?_⟩⟩
   ·rw[← zhl,e0];rfl
   ·rcases Js.mp hm with y|y
    ·have:=mlt m y;lia
    ·rw[Jd.mp y];lia
   ·refine Yb.mpr ⟨mp,List.pairwise_singleton _ _,fun a ha b hb=>?_⟩
    rw[Jd.mp hb];exact mlt a ha
  ·exact nx (by lia) ⟨⟨_,rfl⟩,S3,B2.trans B3,h3,ms,rfl,by lia,fun m hm=>by have:=mlt m hm;lia,mp⟩
 rintro acc σ H2 ⟨⟨v0,rfl⟩,S2,B2,h2,ms,rfl,ml,mlt,mp⟩
 rw[Y7]at ml mlt
 have na2:=na.tups (B2.tups3 S)
 refine⟨_,rfl,r,_,_,_,rfl,rfl,SqT.of na2.net,rfl,N.lanes,rfl,by lia,fun t1 ht1=>?_⟩
 have s1:=zaa ht1 (.tup (nums (List.range N.lanes)))
 have h1:=zag ht1 (.tup (nums (List.range N.lanes)))
 have hc1:=s1 _ _ h2
 have S1:=S2.keep s1
 have B1:=B2.trans (But.of (l:=l) s1)
 have na1:=na2.tups (Tups.of s1)
 show zjM _ _ _ (L2.upd H2 t1 (.tup (nums (List.range N.lanes)))) _
 generalize L2.upd H2 t1 (.tup (nums (List.range N.lanes)))=H3 at *
 clear h2 s1 S2 B2 na2 ht1
 refine⟨_,rfl,(by show 0≤sizeLine;decide),fun e he=>?_⟩
 have s4:=zaa he (.lst [])
 refine⟨lc,e,_,rfl,rfl,SqL.of (s4 _ _ hc1),SqL.of (zag he _),_,rfl,?_⟩
 have hc4:=s4 _ _ hc1
 have h14:=s4 _ _ h1
 have S4:=S1.keep s4
 have B4:=B1.trans (But.of (l:=l) s4)
 have na4:=na1.tups (Tups.of s4)
 generalize L2.upd H3 e (.lst [])=H4 at *
 clear hc1 h1 S1 B1 na1 s4 he
 have fin:∀ (t2:Addr) (moves:List Nat) (H5:Hp),Lns N.lanes moves→H5 t2=some (.tup (nums moves))→H5 t1=some (.tup (nums (List.range N.lanes)))→Pk3 H5 l→But l H H5→∀ l5,H5 l5=none→∀ (v:Nat) (H6:Hp),(v:Int)<2→Pk3 H6 l→But l (L2.upd H5 l5 (.lst [.ref t1,.ref t2])) H6→∃ a xs j x,V.ref l5=.ref a∧V.int (v:Nat)=.int j∧SqL K H6 a xs∧atI xs j=some x∧Q x H6:=fun t2 moves H5 ln h2 h1 S5 B5 l5 hl5 v H6 hv S6 B6=>by
  have s5:=zaa hl5 (.lst [.ref t1,.ref t2])
  have t6:=(Tups.of s5).trans (B6.tups3 (S5.keep s5))
  have B':=(B5.trans (But.of (l:=l) s5)).trans B6
  have hx:∃ x,[V.ref t1,V.ref t2][v]?=some x∧Q x H6:=by
   rcases v with _|_|v
   ·exact⟨_,rfl,k t1 _ H6 (Lns.all l1) (t6 _ _ h1) S6 B'⟩
   ·exact⟨_,rfl,k t2 moves H6 ln (t6 _ _ h2) S6 B'⟩
   ·lia
  obtain⟨x,ex,qx⟩:=hx
  exact⟨l5,_,_,x,rfl,rfl,SqL.of (B6 l5 _ (zag hl5 _) (S5.ne hl5).symm),zap ex,qx⟩
 by_cases un:ms=[]
 ·rw[show (!(nums ms).isEmpty)=false by rw[un];rfl]
  refine iteF ⟨_,rfl,_,rfl,r,_,_,_,rfl,rfl,SqT.of na4.net,rfl,l,_,rfl,by lia,by lia,S4,fun one H5 ho S5 B5=>⟨(by show 1≤sizeLine;decide),fun t2 ht2=>?_⟩⟩
  have s6:=zaa ht2 (.tup [.int (one:Nat)])
  have t5:=B5.tups3 S4
  refine⟨(by show 2≤sizeLine;decide),fun l5 hl5=>⟨_,rfl,l,2,rfl,by decide,by decide,(S5.keep s6).keep (zaa hl5 _),fun v H6 hv S6 B6=>?_⟩⟩
  exact fin t2 [one] _ ⟨by simp,fun m hm=>by rw[Jd.mp hm];lia,List.pairwise_singleton _ _⟩ (zag ht2 _) (s6 _ _ (t5 _ _ h14)) (S5.keep s6) ((B4.trans B5).trans (But.of s6)) l5 hl5 v H6 hv S6 B6
 ·rw[show (!(nums ms).isEmpty)=true by cases ms with
   | nil=>exact absurd rfl un
   | cons a b=>rfl]
  refine iteT ⟨_,rfl,lc,_,rfl,.inl ⟨SqL.of hc4,fun t2 ht2=>?_⟩⟩
  have s6:=zaa ht2 (.tup (nums ms))
  refine⟨(by show 2≤sizeLine;decide),fun l5 hl5=>⟨_,rfl,l,2,rfl,by decide,by decide,(S4.keep s6).keep (zaa hl5 _),fun v H6 hv S6 B6=>?_⟩⟩
  exact fin t2 ms _ ⟨un,mlt,mp⟩ (zag ht2 _) (s6 _ _ h14) (S4.keep s6) (B4.trans (But.of s6)) l5 hl5 v H6 hv S6 B6
end
end K41
namespace L2
open PySem PySem.Spec PyProof.Rows Own Bn
theorem zdZ:∀ x:List Int,cmpR x x=.eq
 | []=>rfl
 | a::x=>by show (compare a a).then (cmpR x x)=.eq;rw[Yv.mpr rfl,zdZ x];rfl
theorem zdY:∀ x y:List Int,cmpR y x=(cmpR x y).swap
 | [],[]=>rfl
 | [],_::_=>rfl
 | _::_,[]=>rfl
 | a::x,b::y=>by
  show (compare b a).then (cmpR y x)=((compare a b).then (cmpR x y)).swap
  rw[zdY x y]
  rcases YL a b with h|h|h
  ·rw[Yh.mpr h,Yi.mpr h];rfl
  ·subst h
   rw[Yv.mpr (rfl:a=a)];rfl
  ·rw[Yi.mpr h,Yh.mpr h];rfl
def leR (x y:List Int):Prop:=cmpR x y≠.gt
theorem leR_refl (x:List Int):leR x x:=by unfold leR;rw[zdZ];exact fun h=>by cases h
theorem zaU:∀ {x y z:List Int},leR x y→leR y z→leR x z
 | [],[],[],_,_=>fun h=>by cases h
 | [],_,_::_,_,_=>fun h=>by cases h
 | [],_::_,[],_,h=>absurd rfl h
 | _::_,[],_,h,_=>absurd rfl h
 | _::_,_::_,[],_,h=>absurd rfl h
 | a::x,b::y,c::z,h1,h2=>by
  have h1':(compare a b).then (cmpR x y)≠.gt:=h1
  have h2':(compare b c).then (cmpR y z)≠.gt:=h2
  show (compare a c).then (cmpR x z)≠.gt
  rcases YL a b with p|p|p
  ·rcases YL b c with q|q|q
   ·rw[Yh.mpr (show a<c by lia)];exact fun h=>by cases h
   ·rw[Yh.mpr (show a<c by lia)];exact fun h=>by cases h
   ·rw[Yi.mpr q]at h2';exact absurd rfl h2'
  ·subst p
   rw[Yv.mpr (rfl:a=a)]at h1'
   rcases YL a c with q|q|q
   ·rw[Yh.mpr q];exact fun h=>by cases h
   ·subst q
    rw[Yv.mpr (rfl:a=a)]at h2' ⊢
    exact zaU (x:=x) (y:=y) (z:=z) h1' h2'
   ·rw[Yi.mpr q]at h2';exact absurd rfl h2'
  ·rw[Yi.mpr p]at h1';exact absurd rfl h1'
theorem zhh (x y:List Int):leR (minR x y) x∧leR (minR x y) y:=by
 unfold minR
 by_cases h:cmpR y x=.lt
 ·rw[Jf h];exact⟨(by unfold leR;rw[h];exact fun z=>by cases z),leR_refl y⟩
 ·rw[Jc h]
  refine⟨leR_refl x,fun z=>h ?_⟩
  rw[zdY x y,z];rfl
theorem ziT:∀ {l:List (List Int)},l≠[]→minL l∈l
 | [],h=>absurd rfl h
 | x::r,_=>by
  have key:∀ (r:List (List Int)) (x:List Int),r.foldl minR x∈x::r:=by
   intro r
   induction r with
   | nil=>intro x;exact .head _
   | cons y r ih =>
    intro x
    show r.foldl minR (minR x y)∈x::y::r
    rcases List.mem_cons.mp (ih (minR x y)) with z|z
    ·rw[z]
     rcases zey x y with e|e
     ·rw[e];exact .head _
     ·rw[e];exact .tail _ (.head _)
    ·exact .tail _ (.tail _ z)
  exact key r x
theorem zkn:∀ {l:List (List Int)}{x:List Int},x∈l→leR (minL l) x
 | [],x,h=>by cases h
 | a::r,x,h=>by
  have key:∀ (r:List (List Int)) (a:List Int),leR (r.foldl minR a) a∧∀ x∈r,leR (r.foldl minR a) x:=by
   intro r
   induction r with
   | nil=>intro a;exact⟨leR_refl a,fun x hx=>(nomatch hx)⟩
   | cons y r ih =>
    intro a
    obtain⟨h1,h2⟩:=ih (minR a y)
    obtain⟨m1,m2⟩:=zhh a y
    refine⟨zaU h1 m1,fun x hx=>?_⟩
    rcases List.mem_cons.mp hx with rfl|z
    ·exact zaU h1 m2
    ·exact h2 x z
  rcases List.mem_cons.mp h with rfl|z
  ·exact(key r _).1
  ·exact(key r a).2 x z
theorem zeu:∀ {c d:List Int}{m:Nat},c.length=d.length→leR c d→leR (oneM c m) (oneM d m)
 | [],[],m,_,h=>by unfold oneM zao;exact h
 | a::c,b::d,0,_,h=>by
  have h':(compare a b).then (cmpR c d)≠.gt:=h
  show (compare (a+1) (b+1)).then (cmpR c d)≠.gt
  have e:compare (a+1) (b+1)=compare a b:=by
   rcases YL a b with p|p|p
   ·rw[Yh.mpr p,Yh.mpr (by lia)]
   ·subst p;rw[Yv.mpr (rfl:a=a),Yv.mpr rfl]
   ·rw[Yi.mpr p,Yi.mpr (by lia)]
  rw[e];exact h'
 | a::c,b::d,m+1,l,h=>by
  have h':(compare a b).then (cmpR c d)≠.gt:=h
  show (compare a b).then (cmpR (oneM c m) (oneM d m))≠.gt
  cases z:compare a b with
  | lt=>exact fun h=>by cases h
  | gt=>rw[z]at h';exact absurd rfl h'
  | eq=>rw[z]at h';exact zeu (c:=c) (d:=d) (by simpa using l) h'
theorem zbG (ps:LvL) (k:KN) (r:List Int):getL (putL ps k r) k=some r:=by
 unfold putL
 split
 ·rename_i h
  have key:∀ ps:LvL,(getL ps k).isSome=true→getL (ps.map fun x=>if x.1=k then (x.1,r) else x) k=some r:=by
   intro ps
   induction ps with
   | nil=>intro h;cases h
   | cons p ps ih =>
    intro h
    unfold getL at ih h ⊢
    rw[JV,Yr]
    rw[Yr]at h
    by_cases z:p.1=k
    ·rw[Jf z]
     show (match decide (p.1=k) with|true=>some (p.1,r)|false=>_).map _=_
     rw[Jz z];rfl
    ·rw[Jc z,Jq z]
     rw[Jq z]at h
     exact ih h
  exact key ps h
 ·rename_i h
  have e:getL ps k=none:=by
   cases g:getL ps k with
   | none=>rfl
   | some x=>rw[g]at h;exact absurd rfl h
  unfold getL at e ⊢
  rw[Option.map_eq_none_iff]at e
  rw[List.find?_append,e]
  show Option.map _ ((none:Option (KN × List Int)).or (List.find? _ [(k,r)]))=_
  rw[Yr]
  show Option.map _ ((none:Option (KN × List Int)).or (match decide (k=k) with|true=>some (k,r)|false=>_))=_
  rw[Jz rfl];rfl
theorem zeH {k j:KN}(r:List Int) (h:j≠k):∀ ps:LvL,getL (ps.map fun x=>if x.1=k then (x.1,r) else x) j=getL ps j:=by
 intro ps
 induction ps with
 | nil=>rfl
 | cons p ps ih =>
  unfold getL at ih ⊢
  rw[JV,Yr,Yr]
  by_cases z:p.1=k
  ·rw[Jf z]
   have n:¬ p.1=j:=fun y=>h (y.symm.trans z)
   show (match decide (p.1=j) with|true=>_|false=>_:Option (KN × List Int)).map _=_
   rw[Jq n];exact ih
  ·rw[Jc z]
   by_cases y:p.1=j
   ·rw[Jz y]
   ·rw[Jq y];exact ih
theorem zcp (ps:LvL) {k j:KN}(r:List Int) (h:j≠k):getL (putL ps k r) j=getL ps j:=by
 unfold putL
 split
 ·exact zeH r h ps
 ·unfold getL
  rw[List.find?_append]
  cases e:List.find? (fun x=>decide (x.1=j)) ps with
  | some x=>rfl
  | none =>
   show Option.map _ ((none:Option (KN × List Int)).or (List.find? _ [(k,r)]))=_
   rw[Yr]
   show Option.map _ ((none:Option (KN × List Int)).or (match decide (k=j) with|true=>some (k,r)|false=>_))=_
   rw[Jq (fun z=>h z.symm)];rfl
abbrev Tri:=KN × List Int × Nat
structure Met (step:KN→Nat→Option KN) (seen:LvL) (T:List Tri) (a:LAcc):Prop where
 on:∀ t c,getL a.on t=some c→∃ x∈T,step x.1 x.2.2=some t∧c=oneM x.2.1 x.2.2
 has:∀ x∈T,∀ t,step x.1 x.2.2=some t→getL seen t=none→∃ c,getL a.on t=some c∧leR c (oneM x.2.1 x.2.2)
 fl1:∀ r∈a.fl,∃ x∈T,step x.1 x.2.2=none∧r=oneM x.2.1 x.2.2
 fl2:∀ x∈T,step x.1 x.2.2=none→oneM x.2.1 x.2.2∈a.fl
theorem zeG {α:Type}{o:Option α}(h:¬ o.isSome=true):o=none:=by
 cases o with
 | none=>rfl
 | some x=>exact absurd rfl h
section
variable {step:KN→Nat→Option KN}{seen:LvL}
theorem Met.go {T:List Tri}{a:LAcc}(h:Met step seen T a) (s:KN) (c:List Int) (m:Nat):Met step seen (T++[(s,c,m)]) (go1 step seen s c a m):=by
 have last:∀ {p:Tri→Prop}{x:Tri},x∈T++[(s,c,m)]→(x∈T→p x)→p (s,c,m)→p x:=fun hx h1 h2=>by
  rcases Js.mp hx with z|z
  ·exact h1 z
  ·rw[Jd.mp z];exact h2
 have memL:∀ {x:Tri},x∈T→x∈T++[(s,c,m)]:=fun z=>Y6 _ z
 have memR:((s,c,m):Tri)∈T++[(s,c,m)]:=Ju _ (Jd.mpr rfl)
 unfold go1
 cases e:step s m with
 | none =>
  refine⟨fun t c' g=>?_,fun x hx t et sn=>?_,fun r hr=>?_,fun x hx ex=>?_⟩
  ·obtain⟨x,hx,q⟩:=h.on t c' g;exact⟨x,memL hx,q⟩
  ·refine last (p:=fun x=>step x.1 x.2.2=some t→∃ c',getL a.on t=some c'∧leR c' (oneM x.2.1 x.2.2)) hx (fun z et=>h.has x z t et sn) (fun et=>?_) et
   have et':step s m=some t:=et
   rw[e]at et';cases et'
  ·rcases Js.mp hr with z|z
   ·obtain⟨x,hx,q⟩:=h.fl1 r z;exact⟨x,memL hx,q⟩
   ·exact⟨_,memR,e,Jd.mp z⟩
  ·exact last (p:=fun x=>step x.1 x.2.2=none→oneM x.2.1 x.2.2∈a.fl++[oneM c m]) hx (fun z ex=>Y6 _ (h.fl2 x z ex)) (fun _=>Ju _ (Jd.mpr rfl)) ex
 | some t0 =>
  dsimp only
  by_cases z0:(getL seen t0).isSome=true
  ·rw[Jf z0]
   refine⟨fun t c' g=>?_,fun x hx t et sn=>?_,fun r hr=>?_,fun x hx ex=>?_⟩
   ·obtain⟨x,hx,q⟩:=h.on t c' g;exact⟨x,memL hx,q⟩
   ·refine last (p:=fun x=>step x.1 x.2.2=some t→∃ c',getL a.on t=some c'∧leR c' (oneM x.2.1 x.2.2)) hx (fun z et=>h.has x z t et sn) (fun et=>?_) et
    have et':step s m=some t:=et
    rw[e]at et'
    cases et'
    rw[sn]at z0;cases z0
   ·obtain⟨x,hx,q⟩:=h.fl1 r hr;exact⟨x,memL hx,q⟩
   ·refine last (p:=fun x=>step x.1 x.2.2=none→oneM x.2.1 x.2.2∈a.fl) hx (fun z ex=>h.fl2 x z ex) (fun ex=>?_) ex
    have ex':step s m=none:=ex
    rw[e]at ex';cases ex'
  ·rw[Jc z0]
   obtain⟨m1,m2⟩:=zhh (oneM c m) ((getL a.on t0).getD (oneM c m))
   refine⟨fun t c' g=>?_,fun x hx t et sn=>?_,fun r hr=>?_,fun x hx ex=>?_⟩
   ·by_cases tt:t=t0
    ·subst tt
     rw[zbG]at g
     cases g
     rcases zey (oneM c m) ((getL a.on t).getD (oneM c m)) with q|q
     ·exact⟨_,memR,e,q⟩
     ·cases gg:getL a.on t with
      | none=>rw[gg]at q;exact⟨_,memR,e,by rw[Option.getD_none]at q ⊢;exact q⟩
      | some c2 =>
       rw[gg]at q
       obtain⟨x,hx,q1,q2⟩:=h.on t c2 gg
       exact⟨x,memL hx,q1,by rw[YS]at q ⊢;rw[q];exact q2⟩
    ·rw[zcp _ _ tt]at g
     obtain⟨x,hx,q⟩:=h.on t c' g;exact⟨x,memL hx,q⟩
   ·by_cases tt:t=t0
    ·subst tt
     rw[zbG]
     refine⟨_,rfl,?_⟩
     refine last (p:=fun x=>step x.1 x.2.2=some t→leR (minR (oneM c m) ((getL a.on t).getD (oneM c m))) (oneM x.2.1 x.2.2)) hx (fun z et=>?_) (fun _=>m1) et
     obtain⟨c2,g2,l2⟩:=h.has x z t et sn
     rw[g2,YS]at m2 ⊢
     exact zaU m2 l2
    ·rw[zcp _ _ tt]
     refine last (p:=fun x=>step x.1 x.2.2=some t→∃ c',getL a.on t=some c'∧leR c' (oneM x.2.1 x.2.2)) hx (fun z et=>h.has x z t et sn) (fun et=>?_) et
     have et':step s m=some t:=et
     rw[e]at et'
     exact absurd (Option.some.inj et').symm tt
   ·obtain⟨x,hx,q⟩:=h.fl1 r hr;exact⟨x,memL hx,q⟩
   ·refine last (p:=fun x=>step x.1 x.2.2=none→oneM x.2.1 x.2.2∈a.fl) hx (fun z ex=>h.fl2 x z ex) (fun ex=>?_) ex
    have ex':step s m=none:=ex
    rw[e]at ex';cases ex'
theorem Met.row (s:KN) (c:List Int):∀ (ms:List Nat) {T:List Tri}{a:LAcc},Met step seen T a→Met step seen (T++ms.map fun m=>(s,c,m)) (ms.foldl (go1 step seen s c) a)
 | [],T,a,h=>by rw[List.map_nil,JT];exact h
 | m::r,T,a,h=>by
  have:=Met.row s c r (h.go s c m)
  rwa [JM]at this
def tris (moves:List Nat) (level:LvL):List Tri:=level.flatMap fun p=>moves.map fun m=>(p.1,p.2,m)
theorem Met.lev (moves:List Nat):∀ (level:LvL) {T:List Tri}{a:LAcc},Met step seen T a→Met step seen (T++tris moves level) (level.foldl (goS step seen moves) a)
 | [],T,a,h=>by show Met step seen (T++[]) a;rw[JT];exact h
 | p::r,T,a,h=>by
  have:=Met.lev moves r (Met.row p.1 p.2 moves h)
  rwa [JM]at this
theorem zdd (moves:List Nat) (level:LvL):Met step seen (tris moves level) (zaB step seen moves level) :=
 Met.lev moves level (T:=[]) (a:=⟨[],[]⟩) ⟨fun t c g=>(by cases g),fun x hx=>absurd hx Jt,fun r hr=>absurd hr Jt,fun x hx=>absurd hx Jt⟩
end
theorem zbi {moves:List Nat}{level:LvL}{x:Tri}:x∈tris moves level↔(x.1,x.2.1)∈level∧x.2.2∈moves:=by
 unfold tris
 rw[List.mem_flatMap]
 constructor
 ·rintro⟨p,hp,hx⟩
  obtain⟨m,hm,rfl⟩:=JA.mp hx
  exact⟨hp,hm⟩
 ·rintro⟨h1,h2⟩
  exact⟨_,h1,JA.mpr ⟨_,h2,rfl⟩⟩
def runK (step:KN→Nat→Option KN):KN→List Nat→Option KN
 | s,[]=>some s
 | s,m::r=>(step s m).bind fun t=>runK step t r
def cntL (c:List Int) (row:List Nat):List Int:=row.foldl oneM c
theorem zaD (step:KN→Nat→Option KN):∀ (r:List Nat) (s:KN) (m:Nat),runK step s (r++[m])=(runK step s r).bind fun t=>step t m
 | [],s,m=>by
  show (step s m).bind (fun t=>some t)=step s m
  cases step s m<;>rfl
 | a::r,s,m=>by
  show (step s a).bind (fun t=>runK step t (r++[m]))=((step s a).bind fun t=>runK step t r).bind fun t=>step t m
  cases step s a with
  | none=>rfl
  | some t=>exact zaD step r t m
theorem zaW (c:List Int) (r:List Nat) (m:Nat):cntL c (r++[m])=oneM (cntL c r) m:=by unfold cntL;rw[YJ];rfl
theorem zdn (c:List Int) (r:List Nat):(cntL c r).length=c.length:=by
 unfold cntL
 induction r generalizing c with
 | nil=>rfl
 | cons m r ih=>show (r.foldl oneM (oneM c m)).length=_;rw[ih,zbB]
theorem zc6 {r:List Nat}{n:Nat}(h:r.length=n+1):∃ q m,r=q++[m]∧q.length=n:=by
 have ne:r≠[]:=fun z=>by rw[z]at h;cases h
 refine⟨r.dropLast,r.getLast ne,(List.dropLast_concat_getLast ne).symm,?_⟩
 rw[List.length_dropLast];lia
def Over (moves row:List Nat):Prop:=∀ m∈row,m∈moves
structure Clm (step:KN→Nat→Option KN) (moves:List Nat) (k0:KN) (c0:List Int) (n:Nat) (level seen:LvL):Prop where
 fst:(getL (seen++level) k0).isSome=true
 way:∀ t c,getL level t=some c→∃ row,row.length=n∧Over moves row∧runK step k0 row=some t∧cntL c0 row=c
 all:∀ row,row.length≤n→Over moves row→∃ s,runK step k0 row=some s∧(getL (seen++level) s).isSome=true
 cls:∀ s,(getL seen s).isSome=true→∀ m∈moves,∃ t,step s m=some t∧(getL (seen++level) t).isSome=true
 new:∀ s,(getL level s).isSome=true→getL seen s=none
 lst:∀ row s c,row.length=n→Over moves row→runK step k0 row=some s→getL level s=some c→leR c (cntL c0 row)
 nd:LvNd level
 num:n≤seen.length
 rch:∀ s,(getL seen s).isSome=true→∃ row,Over moves row∧runK step k0 row=some s
section
variable {step:KN→Nat→Option KN}{moves:List Nat}{k0:KN}{c0:List Int}{n:Nat}{level seen:LvL}
theorem zaV:∀ {ps:LvL},LvNd ps→∀ {s:KN}{c:List Int},(s,c)∈ps→getL ps s=some c
 | [],_,s,c,h=>by cases h
 | p::ps,nd,s,c,h=>by
  unfold LvNd at nd
  rw[JV,JL]at nd
  unfold getL
  rw[Yr]
  rcases List.mem_cons.mp h with z|z
  ·rw[← z]
   show (match decide (s=s) with|true=>some (s,c)|false=>_:Option (KN × List Int)).map _=_
   rw[Jz rfl];rfl
  ·have n:¬ p.1=s:=fun y=>nd.1 (JA.mpr ⟨_,z,y.symm⟩)
   rw[Jq n]
   exact zaV nd.2 z
theorem Clm.step_of (h:Clm step moves k0 c0 n level seen) {row:List Nat}(hl:row.length=n) (ho:Over moves row):∃ s,runK step k0 row=some s∧((getL seen s).isSome=true∨∃ c,getL level s=some c):=by
 obtain⟨s,h1,h2⟩:=h.all row (by lia) ho
 refine⟨s,h1,?_⟩
 rw[za1,Zi]at h2
 rcases h2 with z|z
 ·exact .inl z
 ·exact .inr (YY.mp z)
theorem Clm.next (h:Clm step moves k0 c0 n level seen) (ne:level≠[]) (cl:∀ p∈level,p.2.length=c0.length) (fl:(zaB step (seen++level) moves level).fl=[]):Clm step moves k0 c0 (n+1) (zaB step (seen++level) moves level).on (seen++level):=by
 have M:=zdd (step:=step) (seen:=seen++level) moves level
 have W:=zcj (step:=step) (seen:=seen++level) (moves:=moves) (Ok:=fun _=>True) level fun _ _ _ _ _ _=>trivial
 have new2:∀ s,(getL (zaB step (seen++level) moves level).on s).isSome=true→getL (seen++level) s=none:=fun s hs=>by
  obtain⟨r,hr⟩:=za8 hs
  exact W.new _ hr
 have onw:∀ s c,getL level s=some c→∀ m∈moves,∃ t,step s m=some t∧((getL (seen++level) t).isSome=true∨∃ c',getL (zaB step (seen++level) moves level).on t=some c'∧leR c' (oneM c m)):=fun s c g m hm=>by
  have tm:((s,c,m):Tri)∈tris moves level:=zbi.mpr ⟨zaO g,hm⟩
  cases e:step s m with
  | none =>
   have:=M.fl2 _ tm e
   rw[fl]at this;cases this
  | some t =>
   refine⟨t,rfl,?_⟩
   by_cases z:(getL (seen++level) t).isSome=true
   ·exact .inl z
   ·exact .inr (M.has _ tm t e (zeG z))
 have lead:∀ s,(getL (seen++level) s).isSome=true→∀ m∈moves,∃ t,step s m=some t∧(getL ((seen++level)++(zaB step (seen++level) moves level).on) t).isSome=true:=fun s hs m hm=>by
  rw[za1,Zi]at hs
  rcases hs with z|z
  ·obtain⟨t,e,q⟩:=h.cls s z m hm
   exact⟨t,e,by rw[za1,q];rfl⟩
  ·obtain⟨c,g⟩:=YY.mp z
   obtain⟨t,e,q⟩:=onw s c g m hm
   refine⟨t,e,?_⟩
   rw[za1]
   rcases q with q|⟨c',q,_⟩
   ·rw[q];rfl
   ·rw[q];exact Bool.or_true _
 refine⟨by rw[za1,h.fst];rfl,fun t c g=>?_,fun row hr ho=>?_,lead,new2,fun row s c hl ho hs g=>?_,W.nd,?_,fun s hs=>?_⟩
 ·obtain⟨x,hx,e,ec⟩:=M.on t c g
  obtain⟨x1,x2⟩:=zbi.mp hx
  obtain⟨row,r1,r2,r3,r4⟩:=h.way x.1 x.2.1 (zaV h.nd x1)
  refine⟨row++[x.2.2],by rw[Ja,r1];rfl,fun m hm=>?_,by rw[zaD,r3];exact e,by rw[zaW,r4,ec]⟩
  rcases Js.mp hm with z|z
  ·exact r2 m z
  ·rw[Jd.mp z];exact x2
 ·rcases Nat.lt_or_ge n row.length with z|z
  ·obtain⟨q,m,rfl,ql⟩:=zc6 (show row.length=n+1 by lia)
   obtain⟨s,h1,h2⟩:=h.all q (by lia) fun m hm=>ho m (Y6 _ hm)
   obtain⟨t,e,q2⟩:=lead s h2 m (ho m (Ju _ (Jd.mpr rfl)))
   exact⟨t,by rw[zaD,h1];exact e,q2⟩
  ·obtain⟨s,h1,h2⟩:=h.all row z ho
   exact⟨s,h1,by rw[za1,h2];rfl⟩
 ·obtain⟨q,m,rfl,ql⟩:=zc6 hl
  have mm:m∈moves:=ho m (Ju _ (Jd.mpr rfl))
  have oq:Over moves q:=fun m hm=>ho m (Y6 _ hm)
  obtain⟨t,h1,h2⟩:=h.step_of ql oq
  rw[zaD,h1]at hs
  have hs':step t m=some s:=hs
  have sn:=new2 s (by rw[g];rfl)
  rcases h2 with z|⟨d,gd⟩
  ·obtain⟨t',e,q2⟩:=h.cls t z m mm
   rw[hs']at e
   rw[← Option.some.inj e,sn]at q2;cases q2
  ·obtain⟨t',e,q2⟩:=onw t d gd m mm
   rw[hs']at e
   rw[← Option.some.inj e]at q2
   rcases q2 with y|⟨c',gc,lc⟩
   ·rw[sn]at y;cases y
   ·rw[g]at gc
    rw[Option.some.inj gc,zaW]
    refine zaU lc (zeu ?_ (h.lst q t d ql oq h1 gd))
    rw[zdn];exact cl _ (zaO gd)
 ·rw[Ja]
  have:=h.num
  have:0<level.length:=Zn.mpr ne
  lia
 ·rw[za1,Zi]at hs
  rcases hs with z|z
  ·exact h.rch s z
  ·obtain⟨c,g⟩:=YY.mp z
   obtain⟨row,_,r2,r3,_⟩:=h.way s c g
   exact⟨row,r2,r3⟩
structure Broke (step:KN→Nat→Option KN) (moves:List Nat) (k0:KN) (c0:List Int) (n:Nat) (c:List Int):Prop where
 ex:∃ row m,row.length=n∧Over moves (row++[m])∧cntL c0 (row++[m])=c∧runK step k0 (row++[m])=none
 few:∀ row,row.length≤n→Over moves row→∃ s,runK step k0 row=some s
 lst:∀ row,row.length=n+1→Over moves row→runK step k0 row=none→leR c (cntL c0 row)
theorem Clm.brk (h:Clm step moves k0 c0 n level seen) (cl:∀ p∈level,p.2.length=c0.length) (fl:(zaB step (seen++level) moves level).fl≠[]):Broke step moves k0 c0 n (minL (zaB step (seen++level) moves level).fl):=by
 have M:=zdd (step:=step) (seen:=seen++level) moves level
 obtain⟨x,hx,e,ec⟩:=M.fl1 _ (ziT fl)
 obtain⟨x1,x2⟩:=zbi.mp hx
 obtain⟨row,r1,r2,r3,r4⟩:=h.way x.1 x.2.1 (zaV h.nd x1)
 refine⟨⟨row,x.2.2,r1,fun m hm=>?_,by rw[zaW,r4,ec],by rw[zaD,r3];exact e⟩,fun row hr ho=>?_,fun row hl ho hn=>?_⟩
 ·rcases Js.mp hm with z|z
  ·exact r2 m z
  ·rw[Jd.mp z];exact x2
 ·obtain⟨s,h1,_⟩:=h.all row hr ho
  exact⟨s,h1⟩
 ·obtain⟨q,m,rfl,ql⟩:=zc6 hl
  have mm:m∈moves:=ho m (Ju _ (Jd.mpr rfl))
  have oq:Over moves q:=fun m hm=>ho m (Y6 _ hm)
  obtain⟨t,h1,h2⟩:=h.step_of ql oq
  rw[zaD,h1]at hn
  have hn':step t m=none:=hn
  rcases h2 with z|⟨d,gd⟩
  ·obtain⟨t',e,_⟩:=h.cls t z m mm
   rw[hn']at e;cases e
  ·have tm:((t,d,m):Tri)∈tris moves level:=zbi.mpr ⟨zaO gd,mm⟩
   rw[zaW]
   refine zaU (zkn (M.fl2 _ tm hn')) (zeu ?_ (h.lst q t d ql oq h1 gd))
   rw[zdn];exact cl _ (zaO gd)
end
structure Shut (step:KN→Nat→Option KN) (moves:List Nat) (k0:KN) (ks:List KN):Prop where
 fst:k0∈ks
 cls:∀ s∈ks,∀ m∈moves,∃ t∈ks,step s m=some t
def zaF (ls:List LvL):List KN:=ls.flatMap fun lv=>lv.map (·.1)
theorem zdR (a b:List LvL):zaF (a++b)=zaF a++zaF b:=by unfold zaF;rw[List.flatMap_append]
theorem zbk {ps:LvL}{s:KN}:(getL ps s).isSome=true↔s∈ps.map (·.1):=by
 constructor
 ·intro h
  obtain⟨r,hr⟩:=za8 h
  exact JA.mpr ⟨_,hr,rfl⟩
 ·intro h
  obtain⟨p,hp,rfl⟩:=JA.mp h
  exact zbl hp
section
variable {step:KN→Nat→Option KN}{moves:List Nat}{k0:KN}{c0:List Int}{most:Nat}
theorem zfF:∀ (m n:Nat) (level seen:LvL) (ls:List LvL),Clm step moves k0 c0 n level seen→(∀ p∈level,p.2.length=c0.length)→zaF ls=seen.map (·.1)→LvNd (seen++level)→seen.length≤most →
  match zas step moves most m level seen ls with
  | .opn=>True
  | .brk c=>∃ n',n'≤most∧Broke step moves k0 c0 n' c
  | .whl ls'=>Shut step moves k0 (zaF ls')∧(zaF ls').Nodup∧(zaF ls').length≤most∧∀ s∈zaF ls',∃ row,Over moves row∧runK step k0 row=some s
 | 0,_,_,_,_,_,_,_,_,_=>trivial
 | m+1,n,level,seen,ls,h,cl,ek,nd,le=>by
  by_cases l0:level=[]
  ·subst l0
   rw[zbd]
   have e:zaF ls=(seen++([]:LvL)).map (fun p:KN × List Int=>p.1):=by rw[JT];exact ek
   refine⟨⟨by rw[e];exact zbk.mp h.fst,fun s hs m hm=>?_⟩,by rw[e];exact nd,by rw[ek,Jm];exact le,fun s hs=>?_⟩
   ·rw[ek]at hs
    obtain⟨t,q1,q2⟩:=h.cls s (zbk.mpr hs) m hm
    exact⟨t,by rw[e];exact zbk.mp q2,q1⟩
   ·rw[ek]at hs
    exact h.rch s (zbk.mpr hs)
  by_cases hm:most<seen.length+level.length
  ·rw[zbL l0 hm];trivial
  by_cases f:(zaB step (seen++level) moves level).fl=[]
  ·rw[zbM l0 hm f]
   have na:=zfr (step:=step) (seen:=seen++level) (moves:=moves) (n:=c0.length) level cl
   have W:=zcj (step:=step) (seen:=seen++level) (moves:=moves) (Ok:=fun _=>True) level fun _ _ _ _ _ _=>trivial
   refine zfF m (n+1) _ _ _ (h.next l0 cl f) na.on ?_ ?_ (by rw[Ja];lia)
   ·rw[zdR,ek,Y2]
    congr 1
    show level.map (fun p:KN × List Int=>p.1)++[]=level.map (fun p:KN × List Int=>p.1)
    rw[JT]
   ·unfold LvNd
    rw[Y2]
    refine Zt.mpr ⟨nd,W.nd,fun a ha b hb e=>?_⟩
    subst e
    obtain⟨p,hp,rfl⟩:=JA.mp hb
    have:=W.new p hp
    have z:=zbk.mpr ha
    rw[this]at z;cases z
  ·rw[zbN l0 hm f]
   exact⟨n,by have:=h.num;lia,h.brk cl f⟩
theorem zhV:Clm step moves k0 c0 0 [(k0,c0)] []:=by
 have g0:getL [(k0,c0)] k0=some c0:=zaV (show LvNd [(k0,c0)] from JL.mpr ⟨Jt,Yw⟩) (.head _)
 have only:∀ {t:KN}{c:List Int},getL [(k0,c0)] t=some c→t=k0∧c=c0:=fun g=>by
  have e:=Jd.mp (zaO g)
  injection e with e1 e2
  exact⟨e1,e2⟩
 have nil:∀ {row:List Nat},row.length≤0→row=[]:=fun h=>Z6.mp (by lia)
 refine⟨by rw[Zh,g0];rfl,fun t c g=>?_,fun row hr _=>?_,fun s hs=>(by cases hs),fun s _=>rfl,fun row s c hl _ hs g=>?_,JL.mpr ⟨Jt,Yw⟩,Jg _,fun s hs=>(by cases hs)⟩
 ·obtain⟨rfl,rfl⟩:=only g
  exact⟨[],rfl,fun m hm=>absurd hm Jt,rfl,rfl⟩
 ·rw[nil hr]
  exact⟨k0,rfl,by rw[Zh,g0];rfl⟩
 ·obtain⟨_,rfl⟩:=only g
  rw[nil (Nat.le_of_eq hl)]
  exact leR_refl _
theorem zcz:match zas step moves most (most+1) [(k0,c0)] [] [] with
  | .opn=>True
  | .brk c=>∃ n',n'≤most∧Broke step moves k0 c0 n' c
  | .whl ls'=>Shut step moves k0 (zaF ls')∧(zaF ls').Nodup∧(zaF ls').length≤most∧∀ s∈zaF ls',∃ row,Over moves row∧runK step k0 row=some s :=
 zfF (most+1) 0 _ _ _ zhV (fun p hp=>by rw[Jd.mp hp]) rfl (JL.mpr ⟨Jt,Yw⟩) (JH _)
theorem zck {α:Type} [DecidableEq α]:∀ {l ks:List α},l.Nodup→(∀ x∈l,x∈ks)→l.length≤ks.length
 | [],_,_,_=>JH _
 | a::l,ks,nd,h=>by
  rw[JL]at nd
  have ha:=h a (.head _)
  have:=zck (l:=l) (ks:=ks.erase a) nd.2 fun x hx=>(List.mem_erase_of_ne fun (z:x=a)=>nd.1 (z ▸ hx)).mpr (h x (.tail _ hx))
  rw[List.length_erase_of_mem ha]at this
  have:0<ks.length:=List.length_pos_of_mem ha
  rw[JN];lia
theorem zcG {ks:List KN}(sh:Shut step moves k0 ks) (kl:ks.length≤most):∀ (m:Nat) (level seen:LvL) (ls:List LvL),(∀ p∈level,p.1∈ks)→(∀ p∈seen,p.1∈ks)→(∀ s∈zaF ls,s∈ks)→LvNd (seen++level)→most+1≤m+seen.length→∃ ls',zas step moves most m level seen ls=.whl ls'∧∀ s∈zaF ls',s∈ks
 | 0,level,seen,ls,h1,h2,h3,nd,hm=>by
  have:=zck (l:=(seen++level).map (fun p:KN × List Int=>p.1)) (ks:=ks) nd fun x hx=>by
   obtain⟨p,hp,rfl⟩:=JA.mp hx
   exact(Js.mp hp).elim (h2 p) (h1 p)
  rw[Jm,Ja]at this
  lia
 | m+1,level,seen,ls,h1,h2,h3,nd,hm=>by
  have sl:=zck (l:=(seen++level).map (fun p:KN × List Int=>p.1)) (ks:=ks) nd fun x hx=>by
   obtain⟨p,hp,rfl⟩:=JA.mp hx
   exact(Js.mp hp).elim (h2 p) (h1 p)
  rw[Jm,Ja]at sl
  by_cases l0:level=[]
  ·subst l0
   exact⟨ls,zbd,h3⟩
  have lp:0<level.length:=Zn.mpr l0
  have M:=zdd (step:=step) (seen:=seen++level) moves level
  have W:=zcj (step:=step) (seen:=seen++level) (moves:=moves) (Ok:=fun _=>True) level fun _ _ _ _ _ _=>trivial
  have f:(zaB step (seen++level) moves level).fl=[]:=by
   cases e:(zaB step (seen++level) moves level).fl with
   | nil=>rfl
   | cons r rs =>
    obtain⟨x,hx,e1,_⟩:=M.fl1 r (by rw[e];exact .head _)
    obtain⟨x1,x2⟩:=zbi.mp hx
    obtain⟨t,_,e2⟩:=sh.cls _ (h1 _ x1) _ x2
    rw[e1]at e2;cases e2
  rw[zbM l0 (by lia) f]
  refine zcG sh kl m _ _ _ (fun p hp=>?_) (fun p hp=>(Js.mp hp).elim (h2 p) (h1 p)) (fun s hs=>?_) ?_ (by rw[Ja];lia)
  ·obtain⟨x,hx,e1,_⟩:=M.on p.1 p.2 (zaV W.nd hp)
   obtain⟨x1,x2⟩:=zbi.mp hx
   obtain⟨t,ht,e2⟩:=sh.cls _ (h1 _ x1) _ x2
   rw[e1]at e2
   rw[Option.some.inj e2];exact ht
  ·rw[zdR]at hs
   rcases Js.mp hs with z|z
   ·exact h3 s z
   ·have z':s∈level.map (fun p:KN × List Int=>p.1)++[]:=z
    rw[JT]at z'
    obtain⟨p,hp,rfl⟩:=JA.mp z'
    exact h1 p hp
  ·unfold LvNd
   rw[Y2]
   refine Zt.mpr ⟨nd,W.nd,fun a ha b hb e=>?_⟩
   subst e
   obtain⟨p,hp,rfl⟩:=JA.mp hb
   have z:=zbk.mpr ha
   rw[W.new p hp]at z;cases z
theorem Shut.fewer {moves':List Nat}{ks:List KN}(sh:Shut step moves k0 ks) (h:∀ m∈moves',m∈moves):Shut step moves' k0 ks:=⟨sh.fst,fun s hs m hm=>sh.cls s hs m (h m hm)⟩
theorem Shut.run {ks:List KN}(sh:Shut step moves k0 ks):∀ (row:List Nat) {s:KN},s∈ks→Over moves row→∃ t∈ks,runK step s row=some t
 | [],s,hs,_=>⟨s,hs,rfl⟩
 | m::r,s,hs,ho=>by
  obtain⟨t,ht,e⟩:=sh.cls s hs m (ho m (.head _))
  obtain⟨u,hu,e2⟩:=Shut.run sh r ht fun x hx=>ho x (.tail _ hx)
  exact⟨u,hu,by show (step s m).bind _=_;rw[e];exact e2⟩
end
def zF (N:Nt):List Int:=List.replicate N.forks.length 0
def zL (N:Nt):List Int:=List.replicate N.lanes 0
def tsAt (N:Nt) (row:List Nat) (i:Nat):List Int:=(row.take i).foldl (zdc N) (zF N)
def okAt (N:Nt) (row:List Nat) (i:Nat):Prop:=passE N (tsAt N row i) (row.getD i 0)=i%N.lanes
def zcl (N:Nt) (row:List Nat) (i:Nat):KN:=stK (tsAt N row i) [((i%N.lanes:Nat):Int)]
def k0P (N:Nt):KN:=stK (zF N) [0]
theorem za5 (N:Nt) {row:List Nat}{i:Nat}(h:i<row.length):tsAt N row (i+1)=zdc N (tsAt N row i) (row.getD i 0):=by
 unfold tsAt
 rw[← Yk h,YJ,Jb,J7 h];rfl
theorem zaC {row:List Nat}{i:Nat}(h:i<row.length):row.take (i+1)=row.take i++[row.getD i 0]:=by
 rw[← Yk h,Jb,J7 h];rfl
theorem zdv (N:Nt) (row:List Nat) (i:Nat):zaK N (zcl N row i) (row.getD i 0)=if ((passE N (tsAt N row i) (row.getD i 0):Nat):Int)=((i%N.lanes:Nat):Int) then some (stK (zdc N (tsAt N row i) (row.getD i 0)) [(((i%N.lanes:Nat):Int)+1)%(N.lanes:Nat)]) else none:=rfl
theorem ze8 (N:Nt) (row:List Nat):∀ i,i≤row.length→(∀ j,j<i→okAt N row j)→runK (zaK N) (k0P N) (row.take i)=some (zcl N row i)
 | 0,_,_=>by
  rw[Yq]
  show some (k0P N)=some (zcl N row 0)
  unfold zcl
  rw[Nat.zero_mod];rfl
 | i+1,h,ok=>by
  rw[zaC h,zaD,ze8 N row i (by lia) fun j hj=>ok j (by lia)]
  show zaK N (zcl N row i) (row.getD i 0)=_
  rw[zdv,Jf (by rw[show passE N (tsAt N row i) (row.getD i 0)=i%N.lanes from ok i (Nat.lt_succ_self _)])]
  unfold zcl
  rw[za5 N h]
  congr 2
  congr 1
  rw[show ((i%N.lanes:Nat):Int)+1=((i%N.lanes+1:Nat):Int) from rfl,← Int.natCast_emod,Nat.mod_add_mod]
theorem zil (N:Nt) {row:List Nat}{i:Nat}(h:i<row.length) (ok:∀ j,j<i→okAt N row j) (no:¬ okAt N row i):runK (zaK N) (k0P N) (row.take (i+1))=none:=by
 rw[zaC h,zaD,ze8 N row i (by lia) ok]
 show zaK N (zcl N row i) (row.getD i 0)=none
 rw[zdv]
 exact Jc fun z=>no (Int.ofNat.inj z)
theorem zh8 (N:Nt) (row:List Nat):∀ i,i≤row.length→(∀ j,j≤i→runK (zaK N) (k0P N) (row.take j)≠none)→∀ j,j<i→okAt N row j
 | 0,_,_,j,hj=>by lia
 | i+1,h,hr,j,hj=>by
  have ih:=zh8 N row i (by lia) fun j hj=>hr j (by lia)
  by_cases z:j<i
  ·exact ih j z
  ·have:j=i:=by lia
   subst this
   exact Classical.byContradiction fun no=>hr (j+1) (Jg _) (zil N h ih no)
section
variable {N:Nt}
theorem zbb (N:Nt) (row:List Nat):(cntL (zL N) row).length=N.lanes:=by rw[zdn];exact JU
theorem zgs (ok:Nt.Ok N) (row:List Nat) (hr:∀ m∈row,m<N.lanes):∀ i,i≤row.length→tsAt N row i=zaJ N (cntL (zL N) (row.take i))
 | 0,_=>by
  rw[Yq]
  show zF N=zaJ N (zL N)
  unfold zL
  rw[zfJ];rfl
 | i+1,h=>by
  have hl:row.getD i 0<N.lanes:=by
   rw[Jb,J7 h];exact hr _ (Y8 h)
  rw[za5 N h,zgs ok row hr i (by lia),zaC h,zaW]
  exact(ball ok false (zbb N _) hl).1.symm
theorem zct (ok:Nt.Ok N) {row:List Nat}(hr:∀ m∈row,m<N.lanes) {i:Nat}(h:i<row.length):zb4 N (cntL (zL N) (row.take (i+1)))=zao (zb4 N (cntL (zL N) (row.take i))) (passE N (tsAt N row i) (row.getD i 0)) 1:=by
 have hl:row.getD i 0<N.lanes:=by
  rw[Jb,J7 h];exact hr _ (Y8 h)
 rw[zgs ok row hr i (by lia),zaC h,zaW]
 exact(ball ok false (zbb N _) hl).2.1
theorem zfh (ok:Nt.Ok N) {row:List Nat}(hr:∀ m∈row,m<N.lanes) {i:Nat}(h:i<row.length):passE N (tsAt N row i) (row.getD i 0)<N.lanes:=by
 have hl:row.getD i 0<N.lanes:=by
  rw[Jb,J7 h];exact hr _ (Y8 h)
 have b:=(ball ok false (zbb N (row.take i)) hl).2.2
 unfold passE
 rw[zgs ok row hr i (by lia)]
 have:=List.idxOf_lt_length_of_mem (ok.en.mem_iff.mpr (Yj.mpr b))
 rw[ok.en.length_eq,Y9]at this
 exact this
def dueE (N:Nt):Nat→List Int
 | 0=>List.replicate N.lanes 0
 | i+1=>zao (dueE N i) (i%N.lanes) 1
theorem zdj (N:Nt):∀ i,(dueE N i).length=N.lanes
 | 0=>JU
 | i+1=>by show (zao _ _ _).length=_;rw[zat,zdj N i]
theorem zdi (ok:Nt.Ok N) {row:List Nat}(hr:∀ m∈row,m<N.lanes):∀ i,i≤row.length→(∀ j,j<i→okAt N row j)→zb4 N (cntL (zL N) (row.take i))=dueE N i
 | 0,_,_=>by rw[Yq];exact zhL N ok
 | i+1,h,hk=>by
  rw[zct ok hr h,zdi ok hr i (by lia) fun j hj=>hk j (by lia),show passE N (tsAt N row i) (row.getD i 0)=i%N.lanes from hk i (Nat.lt_succ_self _)];rfl
theorem zia {xs:List Int}{i j:Nat}(hi:i<xs.length) (hj:j<xs.length) (e:zao xs i 1=zao xs j 1):i=j:=by
 apply Classical.byContradiction
 intro ne
 have a:(zao xs i 1).getD i 0=xs.getD i 0+1:=by
  unfold zao
  rw[Jb,List.getElem?_set_self hi];rfl
 have b:(zao xs j 1).getD i 0=xs.getD i 0:=by
  unfold zao
  rw[Jb,Zf (fun z=>ne z.symm),← Jb]
 rw[e,b]at a
 lia
theorem zbc:∀ (row:List Nat) (c:List Int) (p:Nat),p<c.length→(cntL c row).getD p 0=c.getD p 0+(row.count p:Nat)
 | [],c,p,h=>by show c.getD p 0=_;rw[List.count_nil];lia
 | m::r,c,p,h=>by
  show (cntL (oneM c m) r).getD p 0=_
  rw[zbc r (oneM c m) p (by rw[zbB];exact h),List.count_cons]
  unfold oneM zao
  by_cases z:m=p
  ·subst z
   rw[Jb,List.getElem?_set_self h,YT,Jf rfl]
   show c.getD m 0+1+_=_
   rw[Int.natCast_add];lia
  ·rw[Jb,Zf z,← Jb,Jc (by simpa using z),YA]
theorem zgj (N:Nt) (p:Nat):(zL N).getD p 0=0:=zcb _ _
theorem zjf {a b:List Nat}(p:a.Perm b) (N:Nt):cntL (zL N) a=cntL (zL N) b:=by
 refine zbK (by rw[zbb,zbb]) fun i hi=>?_
 rw[zbb]at hi
 have zl:(zL N).length=N.lanes:=JU
 rw[zbc a _ i (by lia),zbc b _ i (by lia),p.count_eq]
def rowC (c:List Int):List Nat:=(List.range c.length).flatMap fun i=>List.replicate (c.getD i 0).toNat i
theorem zfS (c:List Int) (a:Nat):(rowC c).count a=if a<c.length then (c.getD a 0).toNat else 0:=by
 unfold rowC
 generalize c.length=n
 induction n with
 | zero=>rfl
 | succ n ih =>
  rw[List.range_succ,List.flatMap_append,List.count_append,ih]
  show _+(List.replicate (c.getD n 0).toNat n++[]).count a=_
  rw[JT,List.count_replicate]
  by_cases z:n=a
  ·subst z
   rw[YT,Jf rfl,Jc (Ym _),Jf (Nat.lt_succ_self _),Yd]
  ·have nb:(n == a)=false:=by simpa using z
   rw[nb,Jc (show ¬(false=true) by decide),YA]
   by_cases y:a<n
   ·rw[Jf y,Jf (by lia)]
   ·rw[Jc y,Jc (by lia)]
theorem ze9 {row:List Nat}(hr:∀ m∈row,m<N.lanes):(rowC (cntL (zL N) row)).Perm row:=by
 rw[List.perm_iff_count]
 intro a
 have zl:(zL N).length=N.lanes:=JU
 rw[zfS,zbb]
 by_cases h:a<N.lanes
 ·rw[Jf h,zbc row _ a (by lia),zgj];lia
 ·rw[Jc h]
  exact(List.count_eq_zero.mpr fun z=>h (hr a z)).symm
theorem zh3 (ok:Nt.Ok N) {moves:List Nat}(ml:∀ m∈moves,m<N.lanes) {n:Nat}{c:List Int}(B:Broke (zaK N) moves (k0P N) (zL N) n c) {row:List Nat}(hp:row.Perm (rowC c)) :
  row.length=n+1∧(∀ m∈row,m<N.lanes)∧(∀ j,j<n→okAt N row j)∧¬ okAt N row n:=by
 obtain⟨r0,m,h1,h2,h3,h4⟩:=B.ex
 have lt0:∀ x∈r0++[m],x<N.lanes:=fun x hx=>ml x (h2 x hx)
 have p0:row.Perm (r0++[m]):=hp.trans (h3 ▸ ze9 lt0)
 have rl:row.length=n+1:=by rw[p0.length_eq,Ja,h1];rfl
 have om:Over moves row:=fun x hx=>h2 x (p0.mem_iff.mp hx)
 have lt:∀ x∈row,x<N.lanes:=fun x hx=>ml x (om x hx)
 have okr:∀ {r:List Nat},r.length=n+1→Over moves r→∀ j,j<n→okAt N r j:=fun {r} hl ho=>zh8 N r n (by lia) fun j hj=>by
  obtain⟨s,e⟩:=B.few (r.take j) (by rw[Jw];lia) fun x hx=>ho x (Yu hx)
  rw[e];exact fun z=>by cases z
 have o1:=okr rl om
 have l0:(r0++[m]).length=n+1:=by rw[Ja,h1];rfl
 have o0:=okr l0 h2
 have no0:¬ okAt N (r0++[m]) n:=fun z=>by
  have:=ze8 N (r0++[m]) (n+1) (by lia) fun j hj=>by
   by_cases y:j<n
   ·exact o0 j y
   ·rw[show j=n by lia];exact z
  rw[JE (by lia),h4]at this;cases this
 refine⟨rl,lt,o1,fun z=>?_⟩
 have e1:=zct ok lt (i:=n) (by lia)
 have e0:=zct ok lt0 (i:=n) (by lia)
 rw[zdi ok lt n (by lia) o1,JE (by lia)]at e1
 rw[zdi ok lt0 n (by lia) o0,JE (by lia)]at e0
 rw[zjf p0 N]at e1
 rw[e1]at e0
 have q:=zia (by rw[zdj];exact zfh ok lt (by lia)) (by rw[zdj];exact zfh ok lt0 (by lia)) e0
 exact no0 (by unfold okAt;rw[← q];exact z)
end
theorem zhs:∀ kk:List KN,PyData.canLayAll0 (kk.map dN)=true
 | []=>rfl
 | k::ks=>by show (PyData.canLay0 (dN k) && _)=true;rw[(zcN k).1,zhs ks];rfl
def memK (k:KN) (ks:List KN):Bool:=ks.any fun j=>decide (j=k)
theorem zfs {k:KN}{ks:List KN}:memK k ks=true↔k∈ks:=by
 unfold memK
 rw[List.any_eq_true]
 constructor
 ·rintro⟨j,hj,e⟩
  exact(Zb e) ▸ hj
 ·intro h
  exact⟨k,h,Jz rfl⟩
def rInK:R2:=fun x y H Q=>∃ (b t:Addr) (bs:List Addr) (ks:List KN) (k:KN),x=.ref b∧y=.ref t∧H t=some (.tup (List.map V.ref bs))∧KeysAt H bs ks∧NKey H k b∧Q (.bl (memK k ks)) H
theorem zhv {P:Program}{w:World}{H:Hp}{h:Heap}(ok:HOk P w H h) {bs:List Addr}{ks:List KN}(ka:KeysAt H bs ks):∀ {us:List Value},Vals (bs.map V.ref) us→∃ as,ReadsAll h us (ks.map dN) as:=by
 induction ka with
 | nil=>intro us r;cases r;exact⟨_,.nil⟩
 | cons q _ ih =>
  intro us r
  cases r with
  | cons r1 r2 =>
   cases r1
   obtain⟨as,p⟩:=(zbs ok q).reads
   obtain⟨cs,p2⟩:=ih r2
   exact⟨_,.cons p p2⟩
theorem zlo (x y:KN):PyData.eqv (dN x) (dN y)=decide (x=y):=zeK x y
theorem zls (ks:List KN) (k:KN):(ks.map dN).any (fun y=>PyData.eqv y (dN k))=memK k ks:=by
 unfold memK
 rw[List.any_map]
 congr 1
 funext j
 exact zlo j k
theorem zjx {X:Cx}(hu:X.A.units+64<cLine):OpR X (compareOp .In) rInK:=by
 rintro pins s σ H x y vx vy Q I rx ry ⟨b,t,bs,ks,k,rfl,rfl,ht,ka,kb,q⟩
 cases rx;cases ry
 obtain⟨its,r,⟨o,eo,co,m,dt⟩,_⟩:=I.tuple (SqT.of ht)
 obtain⟨as,p⟩:=(zbs I.hok kb).reads
 obtain⟨cs,p2⟩:=zhv I.hok ka r
 refine PySem.SeqAt.in_tuple_reads (.tuple eo co dt (by simpa using p2)) p (zhs ks) (zcN k).1 (by have:=(zcN k).2;lia) ?_
 rw[zls]
 exact⟨.bl _,H,I,rfl,q⟩
end L2
namespace K41
open PySem L2 Own Bn
abbrev zjT:Stmt:=top 30
inductive Told (N:Nt) (row:List Nat):V→Nat→Prop
 | all (h:∀ j,j<row.length→okAt N row j):Told N row .non row.length
 | brk (n:Nat) (h1:n<row.length) (h2:∀ j,j<n→okAt N row j) (h3:¬ okAt N row n):Told N row (.int (n:Nat)) (n+1)
def zjq (K:PySem.W.Frag) (b:Bool):Sp:=fun vs H Q _=>∃ r fr er ps N rv row,vs=[.ref r,.ref rv]∧Nt.Ok N∧NetAt H r fr er ps N∧SqB b K H rv (nums row)∧(∀ m∈row,m<N.lanes)∧row.length≤100000 ∧
 ∀ p v n l bs H',Same H H'→Told N row v n→H' p=some (.tup [v,.ref l])→H' l=some (.lst (List.map V.ref bs))→KeysAt H' bs ((List.range n).map (zcl N row))→Q (.ref p) H'
theorem ze3 {b:Bool}{K:PySem.W.Frag}{H H':Hp}{a:Addr}{xs:List V}(s:Same H H') (h:SqB b K H a xs):SqB b K H' a xs:=by
 cases b
 ·rcases h with (h|⟨o,h⟩)|h
  ·exact .inl (.inl (s _ _ h))
  ·exact .inl (.inr ⟨o,s _ _ h⟩)
  ·exact .inr h
 ·rcases h with (h|⟨o,h⟩)|h
  ·exact .inl (.inl (s _ _ h))
  ·exact .inl (.inr ⟨o,s _ _ h⟩)
  ·exact .inr h
theorem ze0 (N:Nt) (row:List Nat):∀ i,i≤row.length→(tsAt N row i).length=N.forks.length
 | 0,_=>by unfold tsAt;rw[Yq];exact JU
 | i+1,h=>by rw[za5 N h,zdH,ze0 N row i (by lia)]
theorem zdt (N:Nt) (row:List Nat):∀ i,i≤row.length→Bits (tsAt N row i)
 | 0,_=>fun t ht=>by
  unfold tsAt at ht
  rw[Yq]at ht
  exact .inl (Zv ht)
 | i+1,h=>by rw[za5 N h];exact zcK (zdt N row i (by lia))
section
variable {P:Program}{w:World}{K:PySem.W.Frag}{mg:Str→Option Value}{base:Heap}
theorem scTn:FnScope ["_law_net_here","_law_row","_law_turns","_law_found","_law_n","_law_lane","_law_end"] ["_law_net_here","_law_row"] (zae zjT):=by trivial
theorem zkb (b:Bool) {f fP:Addr}{fd dP:FuncData}(F:Fun K "_law_in_turn" "_law_in_turn" zjT f fd) (G:Mgs mg) (UP:Use P w K mg base "passed" ["net","turns","lane"] 3 (ze4 false) fP dP):FnOk P w K mg base CX0 4 f fd ["_law_net_here","_law_row"] (zjq K b):=by
 refine F.ok scTn (fun vs H Q E h=>?_) (fun cdv A outer s H vs Q E hr h=>?_)
 ·obtain⟨r,fr,er,ps,N,rv,row,rfl,_⟩:=h
  rfl
 obtain⟨r,fr,er,ps,N,rv,row,rfl,ok,na,hq,lt,rl,k⟩:=h
 refine⟨_,(@pss_cons _ _ _ _ _ (@zff _ _ 2 3 _ _ _ _ _ _ _ _ _ _ _ rfl scTn.nd rfl rfl (by decide) rfl rfl (@pa_cons _ _ _ _ _ (@pe_op _ _ _ _ _ _ _ _ zet (@pe_tup _ _ _ _ _ (@pa_cons _ _ _ _ _ pe_int pa_nil (by rfl))) (@pe_callB _ _ _ _ _ _ _ _ _ zah (by rfl) G.len PySem.boot_len (@pa_cons _ _ _ _ _ (@pe_ix _ _ _ _ _ _ _ ix_tup (@qv _ 0 _ _ (by trivial)) pe_int (fun _ _=>rfl)) pa_nil (by rfl)) (by decide) (by decide) (by rfl) (by rfl))) (@pa_cons _ _ _ _ _ (@pe_lst _ _ _ _ pa_nil) pa_nil (by rfl)) (by rfl)) (by rfl) (by rfl)) (@pss_cons _ _ _ _ _ (@ps_for _ _ _ _ _ _ _ _ PassesOwn.never rfl (@zer _ _ _ _ _ _ _ _ b rfl G.enum (@pa_cons _ _ _ _ _ (@qv _ 1 _ _ (by trivial)) pa_nil (by rfl)) (by rfl)) (@pg_tup _ _ _ _ _ _ rfl (@pgs_cons _ _ _ _ _ (@pg_name _ _ 4 _ scTn.nd rfl (.inl rfl) (by first|exact .inl rfl|exact .inr rfl|assumption)) (@pgs_cons _ _ _ _ _ (@pg_name _ _ 5 _ scTn.nd rfl (.inl rfl) (by first|exact .inl rfl|exact .inr rfl|assumption)) pgs_nil (by rfl)) (by rfl)) (by rfl) (by rfl)) (@pss_cons _ _ _ _ _ (@zaZ _ _ _ _ (@zdb _ _ _ _ _ _ _ _ _ _ _ _ PySem.F.plainAttrs_list PySem.F.slot_list_append PySem.F.type_list_append zaE (@qv _ 3 _ _ (by trivial)) (@pa_cons _ _ _ _ _ (@pe_tup _ _ _ _ _ (@pa_cons _ _ _ _ _ (@qv _ 2 _ _ (by trivial)) (@pa_cons _ _ _ _ _ (@pe_op _ _ _ _ _ _ _ _ op_mod (@qv _ 4 _ _ (by trivial)) (@pe_ix _ _ _ _ _ _ _ ix_tup (@qv _ 0 _ _ (by trivial)) pe_int (fun _ _=>rfl))) pa_nil (by rfl)) (by rfl))) pa_nil (by rfl)) (by rfl) (by rfl) (by rfl) (by rfl) (by rfl)) (by rfl)) (@pss_cons _ _ _ _ _ (@ps_asg _ _ _ _ _ _ (@pe_call _ _ _ _ _ _ _ _ _ _ _ _ _ _ _ _ UP.ok hr (by rfl) UP.m UP.kp UP.b .nil pass0 (@pa_cons _ _ _ _ _ (@qv _ 0 _ _ (by trivial)) (@pa_cons _ _ _ _ _ (@qv _ 2 _ _ (by trivial)) (@pa_cons _ _ _ _ _ (@qv _ 5 _ _ (by trivial)) pa_nil (by rfl)) (by rfl)) (by rfl)) (by decide) (by rfl) (by rfl)) (@pg_tup _ _ _ _ _ _ rfl (@pgs_cons _ _ _ _ _ (@pg_name _ _ 2 _ scTn.nd rfl (.inl rfl) (by first|exact .inl rfl|exact .inr rfl|assumption)) (@pgs_cons _ _ _ _ _ (@pg_name _ _ 6 _ scTn.nd rfl (.inl rfl) (by first|exact .inl rfl|exact .inr rfl|assumption)) pgs_nil (by rfl)) (by rfl)) (by rfl) (by rfl)) (by rfl) (by rfl) (by rfl)) (@pss_one _ _ _ (@ps_if _ _ _ _ _ _ _ _ (@pt_cmpR _ _ _ _ _ _ _ _ op_ne (@qv _ 6 _ _ (by trivial)) (@pe_op _ _ _ _ _ _ _ _ op_mod (@qv _ 4 _ _ (by trivial)) (@pe_ix _ _ _ _ _ _ _ ix_tup (@qv _ 0 _ _ (by trivial)) pe_int (fun _ _=>rfl))) (nomark _)) (@pss_one _ _ _ (@ps_ret _ _ _ _ (@pe_tup _ _ _ _ _ (@pa_cons _ _ _ _ _ (@qv _ 4 _ _ (by trivial)) (@pa_cons _ _ _ _ _ (@qv _ 3 _ _ (by trivial)) pa_nil (by rfl)) (by rfl))))) pss_nil)))) (by intro _;rfl)) (@pss_one _ _ _ (@ps_ret _ _ _ _ (@pe_tup _ _ _ _ _ (@pa_cons _ _ _ _ _ pe_non (@pa_cons _ _ _ _ _ (@qv _ 3 _ _ (by trivial)) pa_nil (by rfl)) (by rfl))))))),?_⟩
 have l1:=ok.l1
 have l16:=ok.l16
 have fm:=ok.fm
 have pl:=na.prs.len
 refine⟨by show 1≤sizeLine;decide,fun t ht=>?_⟩
 have s1:=zaa ht (.tup [.int 0])
 refine⟨_,rfl,r,_,_,_,rfl,rfl,SqT.of (s1 _ _ na.net),rfl,fr,ps,rfl,.inr (SqT.of (s1 _ _ na.forks)),t,_,ps.length,rfl,rfl,zac,by lia,fun z0 H2 s2 h2=>?_⟩
 rw[show List.replicate ps.length (V.int 0)=(zF N).map V.int from by unfold zF;rw[List.map_replicate,pl]]at h2
 refine⟨by show 0≤sizeLine;decide,fun l hl=>⟨_,_,rfl,?_⟩⟩
 have s3:=zaa hl (.lst [])
 have u3:=(s1.trans s2).trans s3
 have hl0:H l=none:=zbj (s1.trans s2) hl
 have h23:=s3 _ _ h2
 have hlA:=zag hl (.lst [])
 generalize L2.upd H2 l (.lst [])=H3 at u3 h23 hlA ⊢
 have nl:=zai row
 refine⟨_,rfl,rv,_,rfl,ze3 u3 hq,?_⟩
 refine zdh (K:=K) (b:=b) (a:=rv) (xs:=nums row) (fun i σ H4=>(∃ z v4 v5 v6,σ=[some (.ref r),some (.ref rv),some (.ref z),some (.ref l),v4,v5,v6]∧H4 z=some (.tup ((tsAt N row i).map V.int)))∧Same H H4∧(∀ j,j<i→okAt N row j)∧∃ bs,H4 l=some (.lst (List.map V.ref bs))∧KeysAt H4 bs ((List.range i).map (zcl N row)))
  ⟨⟨z0,_,_,_,rfl,by unfold tsAt;rw[Yq];exact h23⟩,u3,fun j hj=>absurd hj (Nat.not_lt_zero _),[],hlA,.nil⟩ (fun i σ H4 _ q=>ze3 q.2.1 hq) ?_ ?_
 ·rintro i x σ H4 T hx hT ⟨⟨z,v4,v5,v6,rfl,hz⟩,s4,oks,bs,hl4,ka⟩
  obtain⟨il,rfl⟩:=zdK hx
  have sT:=zaa hT (.tup [.int (i:Nat),.int ((row.getD i 0:Nat):Int)])
  have u4:=s4.trans sT
  have bl:bs.length=i:=by rw[Paired.length ka,Jm,Y9]
  refine⟨T,_,rfl,SqT.of zac,rfl,_,_,rfl,_,_,rfl,rfl,?_⟩
  refine⟨_,rfl,.inl ⟨rfl,_,SqL.of (sT _ _ hl4)⟩,_,rfl,_,rfl,_,rfl,r,_,_,_,rfl,rfl,SqT.of (u4 _ _ na.net),rfl,_,_,rfl,rfl,by lia,by show 2≤sizeLine;decide,fun q hq'=>?_⟩
  have em:((i:Nat):Int)%((N.lanes:Nat):Int)=((i%N.lanes:Nat):Int):=(Int.natCast_emod _ _).symm
  have s5:=zaa hq' (.tup [.ref z,.int (((i:Nat):Int)%((N.lanes:Nat):Int))])
  have h5:=zag hq' (.tup [.ref z,.int (((i:Nat):Int)%((N.lanes:Nat):Int))])
  have hl5:=s5 _ _ (sT _ _ hl4)
  have u5:=u4.trans s5
  have hz5:=s5 _ _ (sT _ _ hz)
  have ka5:=(ka.tups (Tups.of sT)).tups (Tups.of s5)
  refine⟨l,_,_,rfl,rfl,hl5,by rw[Jm,Jy];lia,?_⟩
  generalize L2.upd (L2.upd H4 T (.tup [.int (i:Nat),.int ((row.getD i 0:Nat):Int)])) q (.tup [.ref z,.int (((i:Nat):Int)%((N.lanes:Nat):Int))])=H5 at *
  rw[em]at h5
  have t6:=Tups.lst (ys:=List.map V.ref bs++[.ref q]) hl5
  have kq:NKey (L2.upd H5 l (.lst (List.map V.ref bs++[.ref q]))) (zcl N row i) q:=zkI (is:=[((i%N.lanes:Nat):Int)]) (t:=z) (t6 _ _ h5) (t6 _ _ hz5)
  have ka6:KeysAt (L2.upd H5 l (.lst (List.map V.ref bs++[.ref q]))) (bs++[q]) ((List.range (i+1)).map (zcl N row)):=by
   rw[List.range_succ,Y2]
   exact Paired.snoc (ka5.tups t6) kq
  have u6:Same H (L2.upd H5 l (.lst (List.map V.ref bs++[.ref q]))):=fun c o e=>by rw[zad (zab e hl0)];exact u5 c o e
  have hl6:L2.upd H5 l (.lst (List.map V.ref bs++[.ref q])) l=some (.lst (List.map V.ref (bs++[q]))):=by rw[Y2];exact zac
  have hz6:=t6 _ _ hz5
  show tSeq _ _ _ _ (L2.upd H5 l (.lst (List.map V.ref bs++[.ref q])))
  generalize L2.upd H5 l (.lst (List.map V.ref bs++[.ref q]))=H6 at *
  have lane:row.getD i 0<N.lanes:=by
   rw[Jb,J7 il];exact lt _ (Y8 il)
  refine⟨_,rfl,_,rfl,_,rfl,r,fr,er,ps,N,z,tsAt N row i,row.getD i 0,rfl,ok,na.tups (Tups.of u6),hz6,ze0 N row i (by lia),zdt N row i (by lia),lane,fun p tr' H7 s7 hp htr=>?_⟩
  refine⟨p,_,rfl,SqT.of hp,rfl,_,_,rfl,_,_,rfl,rfl,?_⟩
  have u7:=u6.trans s7
  refine⟨_,rfl,_,rfl,_,rfl,r,_,_,_,rfl,rfl,SqT.of (u7 _ _ na.net),rfl,_,_,rfl,rfl,by lia,rfl,_,rfl,?_⟩
  have eo:okAt N row i↔V.int ↑(List.idxOf (zam false N.forks (tsAt N row i) (row.getD i 0) N.forks.length).snd N.ends)=V.int (((i:Nat):Int)%((N.lanes:Nat):Int)):=by
   rw[em]
   constructor
   ·intro z;exact JJ (fun n:Nat=>V.int (n:Int)) z
   ·intro z;injection z with z;exact Int.ofNat.inj z
  by_cases oi:okAt N row i
  ·rw[show (!decide (V.int ↑(List.idxOf (zam false N.forks (tsAt N row i) (row.getD i 0) N.forks.length).snd N.ends)=V.int (((i:Nat):Int)%((N.lanes:Nat):Int))))=false from by rw[Jz (eo.mp oi)];rfl]
   refine iteF ⟨⟨tr',_,_,_,rfl,by rw[za5 N il];exact htr⟩,u7,fun j hj=>?_,bs++[q],s7 _ _ hl6,ka6.tups (Tups.of s7)⟩
   by_cases y:j<i
   ·exact oks j y
   ·rw[show j=i by lia];exact oi
  ·rw[show (!decide (V.int ↑(List.idxOf (zam false N.forks (tsAt N row i) (row.getD i 0) N.forks.length).snd N.ends)=V.int (((i:Nat):Int)%((N.lanes:Nat):Int))))=true from by rw[Jq (fun z=>oi (eo.mpr z))];rfl]
   refine iteT ⟨_,rfl,_,rfl,by show 2≤sizeLine;decide,fun e he=>?_⟩
   have s8:=zaa he (.tup [.int (i:Nat),.ref l])
   exact k e _ _ l (bs++[q]) _ (u7.trans s8) (.brk i il oks oi) (zag he _) (s8 _ _ (s7 _ _ hl6)) ((ka6.tups (Tups.of s7)).tups (Tups.of s8))
 ·rintro σ H4 ⟨⟨z,v4,v5,v6,rfl,hz⟩,s4,oks,bs,hl4,ka⟩
  rw[nl]at oks ka
  refine⟨_,rfl,by show 2≤sizeLine;decide,fun e he=>?_⟩
  have s8:=zaa he (.tup [.non,.ref l])
  exact k e _ _ l bs _ (s4.trans s8) (.all oks) (zag he _) (s8 _ _ hl4) (ka.tups (Tups.of s8))
end
abbrev sLaw:Stmt:=top 31
def zij (K:PySem.W.Frag) (Pt:Addr):Sp:=fun vs H Q _=>∃ (a:Addr) (ns:List Int),vs=[.ref a]∧SqL K H a (ns.map V.int)∧ns.length≤63∧H Pt=some (.tbl #[])∧∀ H',Q (.bl true) H'
def Scr (K:PySem.W.Frag) (a:Addr) (xs:List V) (H:Hp):Prop:=H a=some (.lst xs)∨(∃ o,H a=some (.frz o (.lst xs)))∨∀ H',SqL K H' a xs
theorem Scr.of {K:PySem.W.Frag}{a:Addr}{xs:List V}{H:Hp}(h:SqL K H a xs):Scr K a xs H:=by
 rcases h with (h|h)|h
 ·exact .inl h
 ·exact .inr (.inl h)
 ·exact .inr (.inr fun H'=>.inr h)
theorem Scr.sq {K:PySem.W.Frag}{a:Addr}{xs:List V}{H:Hp}(h:Scr K a xs H):SqL K H a xs:=by
 rcases h with h|h|h
 ·exact .inl (.inl h)
 ·exact .inl (.inr h)
 ·exact h H
theorem Scr.keep {K:PySem.W.Frag}{a:Addr}{xs:List V}{H H':Hp}(h:Scr K a xs H) (k:∀ o,H a=some o→(o=.lst xs∨∃ u,o=.frz u (.lst xs))→(∀ H',SqL K H' a xs)∨H' a=some o):Scr K a xs H':=by
 rcases h with h|⟨o,h⟩|h
 ·rcases k _ h (.inl rfl) with z|z
  ·exact .inr (.inr z)
  ·exact .inl z
 ·rcases k _ h (.inr ⟨o,rfl⟩) with z|z
  ·exact .inr (.inr z)
  ·exact .inr (.inl ⟨o,z⟩)
 ·exact .inr (.inr h)
theorem zji {ks:List KN}{ls:List LvL}(h:BookOf ks ls) {s:KN}(hs:s∈zaF ls):s∈ks:=by
 obtain⟨kss,rfl,p⟩:=h
 unfold zaF at hs
 induction p with
 | nil=>exact hs
 | cons q _ ih =>
  rw[List.flatMap_cons]at hs
  rw[Yp]
  rcases Js.mp hs with z|z
  ·exact Y6 _ (q.1.mem_iff.mpr z)
  ·exact Ju _ (ih z)
theorem ziW {ks:List KN}{ls:List LvL}(h:BookOf ks ls) {s:KN}(hs:s∈ks):s∈zaF ls:=by
 obtain⟨kss,rfl,p⟩:=h
 unfold zaF
 induction p with
 | nil=>exact hs
 | cons q _ ih =>
  rw[Yp]at hs
  rw[List.flatMap_cons]
  rcases Js.mp hs with z|z
  ·exact Y6 _ (q.1.mem_iff.mp z)
  ·exact Ju _ (ih z)
theorem zjj {ks:List KN}{ls:List LvL}(h:BookOf ks ls):ks.length=(zaF ls).length:=by
 obtain⟨kss,rfl,p⟩:=h
 unfold zaF
 induction p with
 | nil=>rfl
 | cons q _ ih=>rw[Yp,List.flatMap_cons,Ja,Ja,ih,q.1.length_eq]
def rowP (c:List Int) (j:Nat):List Nat:=(List.range j).flatMap fun i=>List.replicate (c.getD i 0).toNat i
theorem zdC (c:List Int) (j:Nat):rowP c (j+1)=rowP c j++List.replicate (c.getD j 0).toNat j:=by
 unfold rowP
 rw[List.range_succ,List.flatMap_append]
 congr 1
 show List.replicate (c.getD j 0).toNat j++[]=_
 rw[JT]
theorem zem (c:List Int) {j:Nat}:∀ {n:Nat},j≤n→(rowP c j).length≤(rowP c n).length
 | 0,h=>by rw[show j=0 by lia];exact Jg _
 | n+1,h=>by
  by_cases z:j≤n
  ·have:=zem c z
   rw[zdC,Ja];lia
  ·rw[show j=n+1 by lia];exact Jg _
structure LE (K:PySem.W.Frag) (a l Pt:Addr) (xs:List V) (H:Hp):Prop where
 S:Pk3 H l
 tab:TabQ qV Pt H
 scr:Scr K a xs H
 al:a≠l∨∀ H',SqL K H' a xs
section
variable {K:PySem.W.Frag}{a l Pt:Addr}{xs:List V}{H H':Hp}
theorem LE.same (h:LE K a l Pt xs H) (s:Same H H'):LE K a l Pt xs H':=⟨h.S.keep s,h.tab.same s,h.scr.keep fun o e _=>.inr (s _ _ e),h.al⟩
theorem LE.pick (h:LE K a l Pt xs H) (S':Pk3 H' l) (b:But l H H'):LE K a l Pt xs H':=by
 obtain⟨ys,hl⟩:=h.S.lst
 refine⟨S',h.tab.but b hl,h.scr.keep fun o e _=>?_,h.al⟩
 rcases h.al with z|z
 ·exact .inr (b _ _ e z)
 ·exact .inl z
theorem LE.ver (h:LE K a l Pt xs H) (t:TabQ qV Pt H') (b:But Pt H H'):LE K a l Pt xs H':=by
 obtain⟨ls,hP,_⟩:=h.tab
 obtain⟨x,y,z,hl,r⟩:=h.S.ex
 refine⟨⟨x,y,z,b _ _ hl (zbC hl hP fun q=>by cases q),r⟩,t,h.scr.keep fun o e ho=>.inr (b _ _ e fun q=>?_),h.al⟩
 rw[q,hP]at e
 cases e
 rcases ho with ho|⟨u,ho⟩<;>cases ho
theorem zlc {lc:Addr}(h:LE K a l Pt xs H) (n:H lc=none):a≠lc∨∀ H',SqL K H' a xs:=by
 rcases h.scr with z|⟨o,z⟩|z
 ·exact .inl (zab z n)
 ·exact .inl (zab z n)
 ·exact .inr z
theorem LE.list {lc:Addr}{ys zs:List V}(h:LE K a l Pt xs H) (e:H lc=some (.lst ys)) (n:lc≠l) (ac:a≠lc∨∀ H',SqL K H' a xs):LE K a l Pt xs (L2.upd H lc (.lst zs)):=by
 refine⟨h.S.upd n.symm,h.tab.keep fun b o q z=>?_,h.scr.keep fun o q _=>?_,h.al⟩
 ·rw[zad];· exact q
  ·intro y
   rw[y,e]at q
   cases q
   rcases z with ⟨_,z⟩|⟨_,_,z⟩<;>cases z
 ·rcases ac with z|z
  ·exact .inr (by rw[zad z];exact q)
  ·exact .inl z
theorem ze1 {q:Str}(t:TabQ q Pt H) (b:But Pt H H'):Tups H H':=fun c ys e=>by
 obtain⟨ls,hP,_⟩:=t
 exact b _ _ e (zbC e hP fun q=>by cases q)
end
theorem Lns.len {lanes:Nat}{moves:List Nat}(h:Lns lanes moves):moves.length≤lanes:=by
 have:=zck (l:=moves) (ks:=List.range lanes) (h.up.imp fun z=>JB z) fun x hx=>Yj.mpr (h.lt x hx)
 rwa [Y9]at this
section
variable {P:Program}{w:World}{K:PySem.W.Frag}{mg:Str→Option Value}{base:Heap}
theorem scLw:FnScope ["_law_script","_law_k","_law_left_here","_law_net_here","_law_some_here","_law_told","_law_turn","_law_row","_law_broken","_law_pairs","_law_book","_law_lane","_law_many"] ["_law_script"] (zae sLaw):=by trivial
theorem zk5 {f fL fK fM fN fS fV fT fX Pt:Addr}{fd dL dK dM dN dS dV dT dX:FuncData}(F:Fun K "law" "law" sLaw f fd) (G:Mgs mg) (UL:Use P w K mg base "_law_left" ["_law_script","_law_k"] 1 (zef K) fL dL) (UK:Use P w K mg base "_law_pick" ["_law_left_here","_law_many"] 1 za6 fK dK) (UM:Use P w K mg base "_law_made" ["_law_way","_law_k"] 11 ze5 fM dM) (UN:Use P w K mg base "_law_net" ["_law_left_here"] 12 zgz fN dN) (US:Use P w K mg base "_law_some" ["_law_left_here","_law_net_here"] 2 zee fS dS)
  (UV:Use P w K mg base "verdict" ["net","some","most"] 8 (zcd qV Pt) fV dV) (UT:∀ b,Use P w K mg base "_law_in_turn" ["_law_net_here","_law_row"] 4 (zjq K b) fT dT) (UX:Use P w K mg base "_law_mixed" ["_law_left_here","_law_row"] 2 zc1 fX dX):FnOk P w K mg base CX0 13 f fd ["_law_script"] (zij K Pt):=by
 refine F.ok scLw (fun vs H Q E h=>?_) (fun cdv A outer s H vs Q E hr h=>?_)
 ·obtain⟨a,ns,rfl,_⟩:=h
  rfl
 obtain⟨a,ns,rfl,hS,h63,hP0,k⟩:=h
 have tab:TabQ qV Pt H:=⟨[],hP0,fun p hp=>absurd hp Jt⟩
 have hr1:Room 1 _:=hr.mono (by decide)
 have hr2:Room 2 _:=hr.mono (by decide)
 have hr4:Room 4 _:=hr.mono (by decide)
 have hr8:Room 8 _:=hr.mono (by decide)
 have hr11:Room 11 _:=hr.mono (by decide)
 have UT1:=UT true
 have UT2:=UT false
 refine⟨_,(@pss_cons _ _ _ _ _ (@ps_for _ _ _ _ _ _ _ _ PassesOwn.never rfl (@pi_range1 _ _ _ _ _ _ rfl G.range (@pa_cons _ _ _ _ _ (@pe_callB _ _ _ _ _ _ _ _ _ (zh0 rfl) (by rfl) G.max (by rfl) (@pa_cons _ _ _ _ _ pe_int (@pa_cons _ _ _ _ _ (@pe_callB _ _ _ _ _ _ _ _ _ (zhZ rfl) (by rfl) G.min (by rfl) (@pa_cons _ _ _ _ _ (@pe_callB _ _ _ _ _ _ _ _ _ zah (by rfl) G.len PySem.boot_len (@pa_cons _ _ _ _ _ (@qv _ 0 _ _ (by trivial)) pa_nil (by rfl)) (by decide) (by decide) (by rfl) (by rfl)) (@pa_cons _ _ _ _ _ pe_int pa_nil (by rfl)) (by rfl)) (by decide) (by decide) (by rfl) (by rfl)) pa_nil (by rfl)) (by rfl)) (by decide) (by decide) (by rfl) (by rfl)) pa_nil (by rfl)) (by rfl)) (@pg_name _ _ 1 _ scLw.nd rfl (.inl rfl) (by first|exact .inl rfl|exact .inr rfl|assumption)) (@pss_cons _ _ _ _ _ (@ps_set _ _ 2 _ _ _ _ scLw.nd rfl (.inr rfl) (@pe_call _ _ _ _ _ _ _ _ _ _ _ _ _ _ _ _ UL.ok hr1 (by rfl) UL.m UL.kp UL.b .nil pass0 (@pa_cons _ _ _ _ _ (@qv _ 0 _ _ (by trivial)) (@pa_cons _ _ _ _ _ (@qv _ 1 _ _ (by trivial)) pa_nil (by rfl)) (by rfl)) (by decide) (by rfl) (by rfl)) (by rfl) (by first|exact .inl rfl|exact .inr rfl|assumption)) (@pss_cons _ _ _ _ _ (@ps_set _ _ 3 _ _ _ _ scLw.nd rfl (.inl rfl) (@pe_ix _ _ _ _ _ _ _ ix_list (@pe_lst _ _ _ _ (@pa_cons _ _ _ _ _ (@pe_call _ _ _ _ _ _ _ _ _ _ _ _ _ _ _ _ UM.ok hr11 (by rfl) UM.m UM.kp UM.b .nil pass0 (@pa_cons _ _ _ _ _ (@pe_call _ _ _ _ _ _ _ _ _ _ _ _ _ _ _ _ UK.ok hr1 (by rfl) UK.m UK.kp UK.b .nil pass0 (@pa_cons _ _ _ _ _ (@qv _ 2 _ _ (by trivial)) (@pa_cons _ _ _ _ _ pe_int pa_nil (by rfl)) (by rfl)) (by decide) (by rfl) (by rfl)) (@pa_cons _ _ _ _ _ (@pe_call _ _ _ _ _ _ _ _ _ _ _ _ _ _ _ _ UK.ok hr1 (by rfl) UK.m UK.kp UK.b .nil pass0 (@pa_cons _ _ _ _ _ (@qv _ 2 _ _ (by trivial)) (@pa_cons _ _ _ _ _ pe_int pa_nil (by rfl)) (by rfl)) (by decide) (by rfl) (by rfl)) pa_nil (by rfl)) (by rfl)) (by decide) (by rfl) (by rfl)) (@pa_cons _ _ _ _ _ (@pe_call _ _ _ _ _ _ _ _ _ _ _ _ _ _ _ _ UN.ok hr (by rfl) UN.m UN.kp UN.b .nil pass0 (@pa_cons _ _ _ _ _ (@qv _ 2 _ _ (by trivial)) pa_nil (by rfl)) (by decide) (by rfl) (by rfl)) pa_nil (by rfl)) (by rfl))) (@pe_call _ _ _ _ _ _ _ _ _ _ _ _ _ _ _ _ UK.ok hr1 (by rfl) UK.m UK.kp UK.b .nil pass0 (@pa_cons _ _ _ _ _ (@qv _ 2 _ _ (by trivial)) (@pa_cons _ _ _ _ _ pe_int pa_nil (by rfl)) (by rfl)) (by decide) (by rfl) (by rfl)) (fun _ _=>rfl)) (by rfl) (by first|exact .inl rfl|exact .inr rfl|assumption)) (@pss_cons _ _ _ _ _ (@ps_set _ _ 4 _ _ _ _ scLw.nd rfl (.inr rfl) (@pe_call _ _ _ _ _ _ _ _ _ _ _ _ _ _ _ _ US.ok hr2 (by rfl) US.m US.kp US.b .nil pass0 (@pa_cons _ _ _ _ _ (@qv _ 2 _ _ (by trivial)) (@pa_cons _ _ _ _ _ (@qv _ 3 _ _ (by trivial)) pa_nil (by rfl)) (by rfl)) (by decide) (by rfl) (by rfl)) (by rfl) (by first|exact .inl rfl|exact .inr rfl|assumption)) (@pss_cons _ _ _ _ _ (@ps_set _ _ 5 _ _ _ _ scLw.nd rfl (.inr rfl) (@pe_call _ _ _ _ _ _ _ _ _ _ _ _ _ _ _ _ UV.ok hr8 (by rfl) UV.m UV.kp UV.b .nil pass0 (@pa_cons _ _ _ _ _ (@qv _ 3 _ _ (by trivial)) (@pa_cons _ _ _ _ _ (@qv _ 4 _ _ (by trivial)) (@pa_cons _ _ _ _ _ pe_int pa_nil (by rfl)) (by rfl)) (by rfl)) (by decide) (by rfl) (by rfl)) (by rfl) (by first|exact .inl rfl|exact .inr rfl|assumption)) (@pss_cons _ _ _ _ _ (@ps_if _ _ _ _ _ _ _ _ (@pt_cmpR _ _ _ _ _ _ _ _ op_eq (@pe_ix _ _ _ _ _ _ _ ix_tup (@qv _ 5 _ _ (by trivial)) pe_int (fun _ _=>rfl)) zb2 (nomark _)) (@pss_cons _ _ _ _ _ (@ps_for _ _ _ _ _ _ _ _ PassesOwn.never rfl (@pi_range1 _ _ _ _ _ _ rfl G.range (@pa_cons _ _ _ _ _ pe_int pa_nil (by rfl)) (by rfl)) (@pg_name _ _ 6 _ scLw.nd rfl (.inl rfl) (by first|exact .inl rfl|exact .inr rfl|assumption)) (@pss_cons _ _ _ _ _ (@zc8 _ 7 _ _ _ _ none _ _ _ _ _ _ _ _ ["_law_n","_law_some_here","_law_left_here"] [none,some 4,some 2] scLw.nd rfl rfl rfl (@pi_range1 _ _ _ _ _ _ rfl G.range (@pa_cons _ _ _ _ _ (@pe_call _ _ _ _ _ _ _ _ _ _ _ _ _ _ _ _ UK.ok hr1 (by rfl) UK.m UK.kp UK.b .nil pass0 (@pa_cons _ _ _ _ _ (@qv _ 2 _ _ (by trivial)) (@pa_cons _ _ _ _ _ pe_int pa_nil (by rfl)) (by rfl)) (by decide) (by rfl) (by rfl)) pa_nil (by rfl)) (by rfl)) (CapOk.of (by kernel_rfl)) (fun _ _ _ _ _=>(@pg_name _ _ 0 _ (show (["_law_n","_law_some_here","_law_left_here"]:List Str).Nodup from by decide +kernel) rfl (.inl rfl) (.inr rfl))) (fun _ _ _ _ _=>zbS) (fun _ _ _ _ _=>(@pe_ix _ _ _ _ _ _ (rIxT K) ix_tup (@qv _ 1 _ _ (by trivial)) (@pe_call _ _ _ _ _ _ _ _ _ _ _ _ _ _ _ _ UK.ok hr1 (by rfl) UK.m UK.kp UK.b .nil pass0 (@pa_cons _ _ _ _ _ (@qv _ 2 _ _ (by trivial)) (@pa_cons _ _ _ _ _ (@pe_callB _ _ _ _ _ _ _ _ (zj2 K) zd2 (by rfl) G.len PySem.boot_len (@pa_cons _ _ _ _ _ (@qv _ 1 _ _ (by trivial)) pa_nil (by rfl)) (by decide) (by decide) (by rfl) (by rfl)) pa_nil (by rfl)) (by rfl)) (by decide) (by rfl) (by rfl)) (fun _ _=>rfl))) (by intro _;rfl) (by with_unfolding_all rfl)) (@pss_cons _ _ _ _ _ (@ps_asg _ _ _ _ _ _ (@pe_call _ _ _ _ _ _ _ _ _ _ _ _ _ _ _ _ UT1.ok hr4 (by rfl) UT1.m UT1.kp UT1.b .nil pass0 (@pa_cons _ _ _ _ _ (@qv _ 3 _ _ (by trivial)) (@pa_cons _ _ _ _ _ (@qv _ 7 _ _ (by trivial)) pa_nil (by rfl)) (by rfl)) (by decide) (by rfl) (by rfl)) (@pg_tup _ _ _ _ _ _ rfl (@pgs_cons _ _ _ _ _ (@pg_name _ _ 8 _ scLw.nd rfl (.inl rfl) (by first|exact .inl rfl|exact .inr rfl|assumption)) (@pgs_cons _ _ _ _ _ (@pg_name _ _ 9 _ scLw.nd rfl (.inl rfl) (by first|exact .inl rfl|exact .inr rfl|assumption)) pgs_nil (by rfl)) (by rfl)) (by rfl) (by rfl)) (by rfl) (by rfl) (by rfl)) (@pss_one _ _ _ (@ps_if _ _ _ _ _ _ _ _ (@pw_or _ _ _ _ _ _ _ (@pt_cmpR _ _ _ _ _ _ _ _ op_notN (@qv _ 8 _ _ (by trivial)) pe_non (by rfl)) (@pw_or1 _ _ _ _ (@pt_not _ _ _ _ (@pt_val _ _ _ (@pe_callB _ _ _ _ _ _ _ _ _ (call_allB rfl true) (by rfl) G.all (by rfl) (@pa_cons _ _ _ _ _ (@pe_lc _ _ _ _ none _ _ _ _ _ _ ["_law_pair","_law_told"] [none,some 5] rfl (@zeq _ _ _ _ (@qv _ 9 _ _ (by trivial))) (CapOk.of (by kernel_rfl)) (fun _ _ _ _ _=>(@pg_name _ _ 0 _ (show (["_law_pair","_law_told"]:List Str).Nodup from by decide +kernel) rfl (.inl rfl) (.inr rfl))) (fun _ _ _ _ _=>zbS) (fun _ _ _ _ _=>(@zda _ _ _ _ _ _ _ _ (zjx (by exact hr.units)) (@qv _ 0 _ _ (by trivial)) (@pe_ix _ _ _ _ _ _ (rIxT K) ix_tup (@qv _ 1 _ _ (by trivial)) pe_int (fun _ _=>rfl)) (by rfl))) (by intro _;rfl)) pa_nil (by rfl)) (by decide) (by decide) (by rfl) (by rfl)) (by intro _;rfl))))).pt (@pss_one _ _ _ (@ps_ret _ _ _ _ pe_bl)) pss_nil)))) (by intro _;rfl)) (@pss_cons _ _ _ _ _ (@ps_set _ _ 10 _ _ _ _ scLw.nd rfl (.inl rfl) (@pe_call _ _ _ _ _ _ _ _ _ _ _ _ _ _ _ _ UV.ok hr8 (by rfl) UV.m UV.kp UV.b .nil pass0 (@pa_cons _ _ _ _ _ (@qv _ 3 _ _ (by trivial)) (@pa_cons _ _ _ _ _ (@pe_slice _ _ _ _ _ _ _ _ _ _ sl_tupH (@qv _ 4 _ _ (by trivial)) po_none (@po_some _ _ _ pe_int)) (@pa_cons _ _ _ _ _ pe_int pa_nil (by rfl)) (by rfl)) (by rfl)) (by decide) (by rfl) (by rfl)) (by rfl) (by first|exact .inl rfl|exact .inr rfl|assumption)) (@pss_one _ _ _ (@ps_if _ _ _ _ _ _ _ _ (@pw_or _ _ _ _ _ _ _ (@pt_cmpR _ _ _ _ _ _ _ _ op_ne (@pe_ix _ _ _ _ _ _ _ ix_tup (@qv _ 10 _ _ (by trivial)) pe_int (fun _ _=>rfl)) zb2 (nomark _)) (@pw_or1 _ _ _ _ (@pt_not _ _ _ _ (@pt_val _ _ _ (@pe_callB _ _ _ _ _ _ _ _ _ (call_allB rfl true) (by rfl) G.all (by rfl) (@pa_cons _ _ _ _ _ (@pe_lc _ _ _ _ none _ _ _ _ _ _ ["_law_pair","_law_told"] [none,some 5] rfl (@zgT _ _ _ _ (@pe_ix _ _ _ _ _ _ _ ix_tup (@qv _ 10 _ _ (by trivial)) pe_int (fun _ _=>rfl))) (CapOk.of (by kernel_rfl)) (fun _ _ _ _ _=>(@pg_name _ _ 0 _ (show (["_law_pair","_law_told"]:List Str).Nodup from by decide +kernel) rfl (.inl rfl) (.inr rfl))) (fun _ _ _ _ _=>zbS) (fun _ _ _ _ _=>(@zda _ _ _ _ _ _ _ _ (zjx (by exact hr.units)) (@qv _ 0 _ _ (by trivial)) (@pe_ix _ _ _ _ _ _ (rIxT K) ix_tup (@qv _ 1 _ _ (by trivial)) pe_int (fun _ _=>rfl)) (by rfl))) (by intro _;rfl)) pa_nil (by rfl)) (by decide) (by decide) (by rfl) (by rfl)) (by intro _;rfl))))).pt (@pss_one _ _ _ (@ps_ret _ _ _ _ pe_bl)) pss_nil)))) pss_nil) (@pss_one _ _ _ (@ps_if _ _ _ _ _ _ _ _ (@pt_cmpR _ _ _ _ _ _ _ _ op_eq (@pe_ix _ _ _ _ _ _ _ ix_tup (@qv _ 5 _ _ (by trivial)) pe_int (fun _ _=>rfl)) zb2 (nomark _)) (@pss_cons _ _ _ _ _ (@ps_set _ _ 7 _ _ _ _ scLw.nd rfl (.inl rfl) (@pe_lst _ _ _ _ pa_nil) (by rfl) (by first|exact .inl rfl|exact .inr rfl|assumption)) (@pss_cons _ _ _ _ _ (@ps_for _ _ _ _ _ _ _ _ PassesOwn.never rfl (@zer _ _ _ _ _ _ _ _ false rfl G.enum (@pa_cons _ _ _ _ _ (@pe_ix _ _ _ _ _ _ _ ix_tup (@qv _ 5 _ _ (by trivial)) pe_int (fun _ _=>rfl)) pa_nil (by rfl)) (by rfl)) (@pg_tup _ _ _ _ _ _ rfl (@pgs_cons _ _ _ _ _ (@pg_name _ _ 11 _ scLw.nd rfl (.inl rfl) (by first|exact .inl rfl|exact .inr rfl|assumption)) (@pgs_cons _ _ _ _ _ (@pg_name _ _ 12 _ scLw.nd rfl (.inl rfl) (by first|exact .inl rfl|exact .inr rfl|assumption)) pgs_nil (by rfl)) (by rfl)) (by rfl) (by rfl)) (@pss_one _ _ _ (@ps_set _ _ 7 _ _ _ _ scLw.nd rfl (.inl rfl) (@pe_op _ _ _ _ _ _ _ _ op_cat (@qv _ 7 _ _ (by trivial)) (@pe_op _ _ _ _ _ _ _ _ zju (@pe_lst _ _ _ _ (@pa_cons _ _ _ _ _ (@qv _ 11 _ _ (by trivial)) pa_nil (by rfl))) (@qv _ 12 _ _ (by trivial)))) (by rfl) (by first|exact .inl rfl|exact .inr rfl|assumption))) (by intro _;rfl)) (@pss_one _ _ _ (@ps_for _ _ _ _ _ _ _ _ PassesOwn.never rfl (@pi_range1 _ _ _ _ _ _ rfl G.range (@pa_cons _ _ _ _ _ pe_int pa_nil (by rfl)) (by rfl)) (@pg_name _ _ 6 _ scLw.nd rfl (.inl rfl) (by first|exact .inl rfl|exact .inr rfl|assumption)) (@pss_one _ _ _ (@ps_if _ _ _ _ _ _ _ _ (@pt_cmpR _ _ _ _ _ _ _ _ op_ne (@pe_ix _ _ _ _ _ _ _ ix_tup (@pe_call _ _ _ _ _ _ _ _ _ _ _ _ _ _ _ _ UT2.ok hr4 (by rfl) UT2.m UT2.kp UT2.b .nil pass0 (@pa_cons _ _ _ _ _ (@qv _ 3 _ _ (by trivial)) (@pa_cons _ _ _ _ _ (@pe_call _ _ _ _ _ _ _ _ _ _ _ _ _ _ _ _ UX.ok hr2 (by rfl) UX.m UX.kp UX.b .nil pass0 (@pa_cons _ _ _ _ _ (@qv _ 2 _ _ (by trivial)) (@pa_cons _ _ _ _ _ (@qv _ 7 _ _ (by trivial)) pa_nil (by rfl)) (by rfl)) (by decide) (by rfl) (by rfl)) pa_nil (by rfl)) (by rfl)) (by decide) (by rfl) (by rfl)) pe_int (fun _ _=>rfl)) (@pe_op _ _ _ _ _ _ _ _ op_sub (@pe_callB _ _ _ _ _ _ _ _ _ zah (by rfl) G.len PySem.boot_len (@pa_cons _ _ _ _ _ (@qv _ 7 _ _ (by trivial)) pa_nil (by rfl)) (by decide) (by decide) (by rfl) (by rfl)) pe_int) (nomark _)) (@pss_one _ _ _ (@ps_ret _ _ _ _ pe_bl)) pss_nil)) (by intro _;rfl))))) pss_nil))))))) (by intro _;rfl)) (@pss_one _ _ _ (@ps_ret _ _ _ _ pe_bl))),?_⟩
 have ml:(ns.map V.int).length=ns.length:=Jm _
 refine⟨_,rfl,a,_,rfl,.inl hS,_,_,rfl,_,_,rfl,?_⟩
 rw[ml]
 have e6:(if (if (6:Int)<(ns.length:Nat) then (6:Int) else (ns.length:Nat)) > 1 then (if (6:Int)<(ns.length:Nat) then (6:Int) else (ns.length:Nat)) else 1)≤6∧(1:Int)≤(if (if (6:Int)<(ns.length:Nat) then (6:Int) else (ns.length:Nat)) > 1 then (if (6:Int)<(ns.length:Nat) then (6:Int) else (ns.length:Nat)) else 1):=by
  split<;>split at *<;>lia
 refine⟨_,rfl,by lia,by lia,?_⟩
 generalize (if (if (6:Int)<(ns.length:Nat) then (6:Int) else (ns.length:Nat)) > 1 then (if (6:Int)<(ns.length:Nat) then (6:Int) else (ns.length:Nat)) else 1)=cnt at e6
 refine za9 (lo:=0) (n:=cnt.toNat) (fun i σ H2=>(∃ v1 v2 v3 v4 v5 v6 v7 v8 v9 v10 v11 v12,σ=[some (.ref a),v1,v2,v3,v4,v5,v6,v7,v8,v9,v10,v11,v12])∧Scr K a (ns.map V.int) H2∧TabQ qV Pt H2) ⟨⟨_,_,_,_,_,_,_,_,_,_,_,_,rfl⟩,Scr.of hS,tab⟩ ?_ ?_
 ·rintro i σ H2 hi ⟨⟨v1,v2,v3,v4,v5,v6,v7,v8,v9,v10,v11,v12,rfl⟩,scr,tab⟩
  have i6:i<6:=by lia
  refine⟨_,rfl,_,rfl,a,ns,_,rfl,scr.sq,h63,by lia,by lia,fun l H3 hl s3 S3=>?_⟩
  have le3:LE K a l Pt (ns.map V.int) H3:=⟨S3,tab.same s3,scr.keep fun o e _=>.inr (s3 _ _ e),by
   rcases scr with z|⟨o,z⟩|z
   ·exact .inl (zab z hl)
   ·exact .inl (zab z hl)
   ·exact .inr z⟩
  clear scr tab s3 hl S3
  refine⟨_,rfl,l,3,rfl,by decide,by decide,le3.S,fun w1 H4 hw1 S4 B4=>?_⟩
  have le4:=le3.pick S4 B4
  refine⟨_,rfl,l,3,rfl,by decide,by decide,S4,fun w2 H5 hw2 S5 B5=>?_⟩
  have le5:=le4.pick S5 B5
  refine⟨w1,w2,rfl,by lia,fun r1 fr1 er1 ps1 H6 s6 na1=>?_⟩
  have le6:=le5.same s6
  refine⟨_,rfl,l,rfl,le6.S,fun r2 fr2 er2 ps2 N2 H7 few2 na2 S7 B7=>?_⟩
  have le7:=le6.pick S7 B7
  have na1':=na1.tups (B7.tups3 le6.S)
  refine⟨(by show 2≤sizeLine;decide),fun t ht=>?_⟩
  have s8:=zaa ht (.lst [.ref r1,.ref r2])
  have le8:=le7.same s8
  refine⟨_,rfl,l,2,rfl,by decide,by decide,le8.S,fun w3 H9 hw3 S9 B9=>?_⟩
  have le9:=le8.pick S9 B9
  have t9:=(Tups.of s8).trans (B9.tups3 le8.S)
  obtain⟨r,fr,er,ps,N,er',few,na⟩:∃ r fr er ps N,[V.ref r1,V.ref r2][w3]?=some (.ref r)∧Few 6 10 N∧NetAt H9 r fr er ps N:=by
   rcases w3 with _|_|w3
   ·obtain⟨m1,m2⟩:=zfu w1 (show w2<3 by lia)
    exact⟨r1,fr1,er1,ps1,_,rfl,⟨zhi (by lia),by lia,by lia⟩,na1'.tups t9⟩
   ·exact⟨r2,fr2,er2,ps2,N2,rfl,few2,na2.tups t9⟩
   ·lia
  refine⟨t,_,_,.ref r,rfl,rfl,SqL.of (B9 t _ (zag ht _) (le7.S.ne ht).symm),zap er',?_⟩
  clear na1 na2 na1' le3 le4 le5 le6 le7 le8 B4 B5 B7 B9 t9 s6 s8 ht few2
  have ok:=few.ok
  have l16:=ok.l16
  refine⟨_,rfl,_,rfl,l,r,fr,er,ps,N,rfl,S9,ok,na,fun p moves H10 ln hp S10 B10=>?_⟩
  have le10:=le9.pick S10 B10
  have na10:=na.tups (B10.tups3 le9.S)
  have mlen:=ln.len
  refine⟨_,rfl,_,rfl,r,fr,er,ps,N,p,moves,4000,rfl,ok,na10,hp,ln.lt,by lia,by decide,.inl (by decide),le10.tab,fun q H11 B11 tab11 tell=>?_⟩
  have le11:=le10.ver tab11 B11
  have t11:=ze1 le10.tab B11
  have na11:=na10.tups t11
  have hp11:=t11 _ _ hp
  clear na na10 hp le9 le10 B10 B11 S9 S10 t11 tab11
  cases hR:zbg N moves 4000 with
  | opn =>
   rw[hR]at tell
   refine⟨_,rfl,q,_,_,_,rfl,rfl,SqT.of tell,rfl,rfl,false,JJ V.bl (Jq fun z=>absurd (V.str.inj z) (by decide)),iteF ?_⟩
   refine⟨_,rfl,q,_,_,_,rfl,rfl,SqT.of tell,rfl,rfl,false,JJ V.bl (Jq fun z=>absurd (V.str.inj z) (by decide)),iteF ?_⟩
   exact⟨⟨_,_,_,_,_,_,_,_,_,_,_,_,rfl⟩,le11.scr,le11.tab⟩
  | brk c =>
   rw[hR]at tell
   obtain⟨cb,tq,tc⟩:=tell
   have ca:=zcz (step:=zaK N) (moves:=moves) (k0:=k0P N) (c0:=zL N) (most:=4000)
   rw[show zas (zaK N) moves 4000 (4000+1) [(k0P N,zL N)] [] []=.brk c from hR]at ca
   obtain⟨n,nm,B⟩:=ca
   obtain⟨r0,m0,b1,b2,b3,_⟩:=B.ex
   have lt0:∀ x∈r0++[m0],x<N.lanes:=fun x hx=>ln.lt x (b2 x hx)
   have cl:c.length=N.lanes:=by rw[← b3];exact zbb N _
   have pc:(rowC c).Perm (r0++[m0]):=by rw[← b3];exact ze9 lt0
   have rlen:(rowC c).length=n+1:=by rw[pc.length_eq,Ja,b1];rfl
   have c0:∀ j,0≤c.getD j 0∧c.getD j 0≤4001:=fun j=>by
    by_cases z:j<c.length
    ·have zl:(zL N).length=N.lanes:=JU
     have e:=zbc (r0++[m0]) (zL N) j (by lia)
     rw[b3,zgj]at e
     have cm:=List.count_le_length (a:=j) (l:=r0++[m0])
     rw[Ja,b1]at cm
     have cm':(r0++[m0]).count j≤n+1:=cm
     lia
    ·rw[Jb,List.getElem?_eq_none (by lia)]
     exact⟨Z5 _,by decide⟩
   refine⟨_,rfl,q,_,_,_,rfl,rfl,SqT.of tq,rfl,rfl,false,JJ V.bl (Jq fun z=>absurd (V.str.inj z) (by decide)),iteF ?_⟩
   refine⟨_,rfl,q,_,_,_,rfl,rfl,SqT.of tq,rfl,rfl,true,JJ V.bl (Jz rfl),iteT ?_⟩
   refine⟨by show 0≤sizeLine;decide,fun lr hlr=>?_⟩
   have s12:=zaa hlr (.lst [])
   refine⟨_,rfl,q,_,_,_,rfl,rfl,SqT.of (s12 _ _ tq),rfl,cb,_,rfl,SqT.of (s12 _ _ tc),?_⟩
   refine zdh (K:=K) (b:=false) (a:=cb) (xs:=c.map V.int) (fun j σ H12=>(∃ lr v11 v12,σ=[some (.ref a),some (.int (0+(i:Nat))),some (.ref l),some (.ref r),some (.ref p),some (.ref q),v6,some (.ref lr),v8,v9,v10,v11,v12]∧H12 lr=some (.lst (nums (rowP c j)))∧lr≠l)∧Same H11 H12) ⟨⟨lr,_,_,rfl,zag hlr _,(le11.S.ne hlr).symm⟩,s12⟩ (fun j σ H12 _ z=>SqT.of (z.2 _ _ tc)) ?_ ?_
   ·rintro j x σ H12 T hx hT ⟨⟨lr,v11,v12,rfl,h12,_⟩,s12⟩
    have ep0:(rowP c c.length).length=n+1:=rlen
    rw[JR]at hx
    obtain⟨z,ez,rfl⟩:=Y5.mp hx
    have jl:=(Je.mp ez).1
    have ezd:c.getD j 0=z:=by rw[Jb,ez];rfl
    obtain⟨z0,z1⟩:=c0 j
    rw[ezd]at z0 z1
    have sT:=zaa hT (.tup [.int (j:Nat),.int z])
    refine⟨T,_,rfl,SqT.of zac,rfl,_,_,rfl,_,_,rfl,rfl,?_⟩
    refine⟨_,rfl,_,rfl,by show 1≤sizeLine;decide,fun l1 hl1=>?_⟩
    have s13:=zaa hl1 (.lst [.int (j:Nat)])
    refine⟨_,rfl,l1,z,_,rfl,rfl,zag hl1 _,by lia,by lia,by rw[Jy];show 1*z.toNat≤_;lia,fun l2 hl2=>?_⟩
    have s14:=zaa hl2 (.lst (List.replicate z.toNat [V.int (j:Nat)]).flatten)
    have e2:(List.replicate z.toNat [V.int (j:Nat)]).flatten=nums (List.replicate z.toNat j):=by
     unfold nums
     rw[List.map_replicate]
     generalize z.toNat=k
     induction k with
     | zero=>rfl
     | succ k ih=>rw[Y3,Yp,ih,Y3];rfl
    have r1:=zem c (show j≤c.length by lia)
    have r2:=zem c (show j+1≤c.length by lia)
    have er:rowP c (j+1)=rowP c j++List.replicate z.toNat j:=by rw[zdC,ezd]
    rw[er,Ja,JU]at r2
    rw[ep0]at r1 r2
    have u14:=(sT.trans s13).trans s14
    refine⟨lr,l2,_,_,rfl,rfl,u14 _ _ h12,zag hl2 _,?_,fun l3 hl3=>?_⟩
    ·rw[e2,zai,zai,JU,Jy];lia
    have s15:=zaa hl3 (.lst (nums (rowP c j)++(List.replicate z.toNat [V.int (j:Nat)]).flatten))
    refine⟨⟨l3,_,_,rfl,?_,((le11.same (s12.trans u14)).S.ne hl3).symm⟩,(s12.trans u14).trans s15⟩
    rw[er,← zhl,← e2];exact zag hl3 _
   ·rintro σ H12 ⟨⟨lr,v11,v12,rfl,h12,nlr⟩,s12⟩
    rw[Jm]at h12
    have ep:rowP c c.length=rowC c:=rfl
    rw[ep]at h12
    have nl:=zai (rowC c)
    refine⟨3,rfl,by decide,by decide,?_⟩
    refine za9 (lo:=0) (n:=3) (fun j σ H13=>(∃ v6,σ=[some (.ref a),some (.int (0+(i:Nat))),some (.ref l),some (.ref r),some (.ref p),some (.ref q),v6,some (.ref lr),v8,v9,v10,v11,v12])∧LE K a l Pt (ns.map V.int) H13∧Tups H11 H13∧H13 lr=some (.lst (nums (rowC c)))) ⟨⟨_,rfl⟩,le11.same s12,Tups.of s12,h12⟩ ?_ ?_
    ·rintro j σ H13 hj ⟨⟨v6,rfl⟩,le13,t13,h13⟩
     refine⟨_,rfl,_,rfl,_,rfl,l,lr,_,rfl,h13,by lia,le13.S,fun t ys H14 py ht S14 B14=>?_⟩
     obtain⟨ds,rfl,pd⟩:=zdG py
     have le14:=le13.pick S14 B14
     have t14:=t13.trans (B14.tups3 le13.S)
     have h14:=B14 lr _ h13 nlr
     obtain⟨dl,dlt,dok,dno⟩:=zh3 ok ln.lt B pd
     refine⟨r,fr,er,ps,N,t,ds,rfl,ok,na11.tups t14,SqT.of ht,dlt,by lia,fun pr v n2 lb cs H15 s15 told hpr hlb kc=>?_⟩
     have vn:v=.int (n:Nat):=by
      cases told with
      | all h=>exact absurd (h n (by lia)) dno
      | brk n2 g1 g2 g3 =>
       have:n2=n:=by
        rcases Nat.lt_trichotomy n2 n with z|z|z
        ·exact absurd (dok n2 z) g3
        ·exact z
        ·exact absurd (g2 n z) dno
       rw[this]
     subst vn
     refine⟨pr,_,_,_,rfl,rfl,SqT.of hpr,rfl,_,rfl,lr,_,rfl,.inl (SqL.of (s15 _ _ h14)),_,_,rfl,rfl,rfl,false,?_,iteF ⟨⟨_,rfl⟩,le14.same s15,t14.trans (Tups.of s15),s15 _ _ h14⟩⟩
     rw[nl,rlen]
     have e:V.int ((n:Nat):Int)=V.int (((n+1:Nat):Int)-1):=JJ V.int (by lia)
     show V.bl (!decide (V.int ((n:Nat):Int)=V.int (((n+1:Nat):Int)-1)))=V.bl false
     rw[Jz e];rfl
    ·rintro σ H13 ⟨⟨v6,rfl⟩,le13,_,_⟩
     exact⟨⟨_,_,_,_,_,_,_,_,_,_,_,_,rfl⟩,le13.scr,le13.tab⟩
  | whl ls =>
   rw[hR]at tell
   obtain⟨bk,bs,ks,tq,tb,ka,bof⟩:=tell
   have ca:=zcz (step:=zaK N) (moves:=moves) (k0:=k0P N) (c0:=zL N) (most:=4000)
   rw[show zas (zaK N) moves 4000 (4000+1) [(k0P N,zL N)] [] []=.whl ls from hR]at ca
   obtain⟨sh,knd,kl,_⟩:=ca
   have kin:∀ s,s∈zaF ls→s∈ks:=fun s hs=>zji bof hs
   refine⟨_,rfl,q,_,_,_,rfl,rfl,SqT.of tq,rfl,rfl,true,JJ V.bl (Jz rfl),iteT ?_⟩
   refine⟨4,rfl,by decide,by decide,?_⟩
   refine za9 (lo:=0) (n:=4) (fun j σ H12=>(∃ v6 v7 v8 v9 v10 v11 v12,σ=[some (.ref a),some (.int (0+(i:Nat))),some (.ref l),some (.ref r),some (.ref p),some (.ref q),v6,v7,v8,v9,v10,v11,v12])∧LE K a l Pt (ns.map V.int) H12∧Tups H11 H12) ⟨⟨_,_,_,_,_,_,_,rfl⟩,le11,Tups.refl _⟩ ?_ ?_
   ·rintro j σ H12 hj ⟨⟨v6,v7,v8,v9,v10,v11,v12,rfl⟩,le12,t12⟩
    refine⟨_,rfl,l,61,rfl,by decide,by decide,le12.S,fun cn H13 hcn S13 B13=>?_⟩
    have le13:=le12.pick S13 B13
    have t13:=t12.trans (B13.tups3 le12.S)
    refine⟨_,rfl,by lia,by lia,fun lc hlc=>?_⟩
    have s14:=zaa hlc (.lst [])
    have nlc:=S13.ne hlc
    refine zfw (lo:=0) (n:=((cn:Nat):Int).toNat) (fun m acc σ H14=>(∃ v0,σ=[v0,some (.ref p),some (.ref l)])∧LE K a l Pt (ns.map V.int) H14∧Tups H11 H14∧H14 lc=some (.lst acc)∧∃ row,acc=nums row∧row.length=m∧∀ x∈row,x∈moves) ⟨⟨_,rfl⟩,le13.same s14,t13.trans (Tups.of s14),zag hlc _,[],rfl,rfl,fun x hx=>absurd hx Jt⟩ (fun m acc σ H14 z=>z.2.2.2.1) ?_ ?_
    ·rintro m acc σ H14 hm ⟨⟨v0,rfl⟩,le14,t14,h14,row,rfl,rl,rm⟩
     have hp14:=t14 _ _ hp11
     have pm:moves.length≠0:=fun z=>ln.ne (Z6.mp z)
     have nml:=zai moves
     refine⟨_,rfl,_,rfl,_,rfl,p,_,rfl,.inr (SqT.of hp14),l,_,rfl,by lia,by lia,le14.S,fun y H15 hy S15 B15=>?_⟩
     have yl:y<moves.length:=by lia
     refine⟨p,_,_,_,rfl,rfl,SqT.of (B15.tups3 le14.S _ _ hp14),zap (m_at moves y yl),?_⟩
     have h15:=B15 lc _ h14 nlc.symm
     have le15:=le14.pick S15 B15
     refine⟨h15,by rw[zai,Jy];lia,nx (by lia) ⟨⟨_,rfl⟩,?_,(t14.trans (B15.tups3 le14.S)).trans (Tups.lst h15),zac,row++[moves.getD y 0],by rw[← zhl];rfl,by rw[Ja,rl];rfl,fun x hx=>?_⟩⟩
     ·exact le15.list h15 nlc.symm (zlc le13 hlc)
     ·rcases Js.mp hx with z|z
      ·exact rm x z
      ·rw[Jd.mp z,Jb,J7 yl];exact Y8 yl
    rintro acc σ H14 ⟨⟨v0,rfl⟩,le14,t14,h14,row,rfl,rl,rm⟩
    rw[Y7]at rl
    have rlt:∀ m∈row,m<N.lanes:=fun m hm=>ln.lt m (rm m hm)
    refine⟨_,rfl,_,rfl,r,fr,er,ps,N,lc,row,rfl,ok,na11.tups t14,SqL.of h14,rlt,by lia,fun pr v n lb cs H15 s15 told hpr hlb kc=>?_⟩
    have le15:=le14.same s15
    have t15:=t14.trans (Tups.of s15)
    have run:∀ m,∃ t∈zaF ls,runK (zaK N) (k0P N) (row.take m)=some t:=fun m=>sh.run (row.take m) sh.fst fun x hx=>rm x (Yu hx)
    have allok:∀ j,j<row.length→okAt N row j:=zh8 N row row.length (Jg _) fun m _=>by
     obtain⟨t,_,e⟩:=run m
     rw[e];exact fun z=>by cases z
    refine⟨pr,_,rfl,SqT.of hpr,rfl,_,_,rfl,_,_,rfl,rfl,?_⟩
    cases told with
    | brk n h1 h2 h3=>exact absurd (allok n h1) h3
    | all _ =>
     refine⟨_,rfl,rfl,false,JJ V.bl (by rw[Jz rfl];rfl),iteF ?_⟩
     refine⟨_,rfl,lb,rfl,⟨_,SqL.of hlb⟩,fun lc2 hlc2=>?_⟩
     have tq15:=t15 _ _ tq
     have tb15:=t15 _ _ tb
     have ka15:=ka.tups t15
     have kcl:=Paired.length kc
     rw[Jm,Y9]at kcl
     refine zks (K:=K) (a:=lb) (xs:=List.map V.ref cs) (fun m acc σ H16=>(∃ v0,σ=[v0,some (.ref q)])∧Same H15 H16∧H16 lc2=some (.lst acc)∧acc=List.map V.bl (List.replicate m true)) ⟨⟨_,rfl⟩,zaa hlc2 _,zag hlc2 _,rfl⟩ (fun m acc σ H16 z=>⟨z.2.2.1,SqL.of (z.2.1 _ _ hlb)⟩) ?_ ?_
     ·rintro m x acc σ H16 hx ⟨⟨v0,rfl⟩,s16,h16,rfl⟩
      rw[JR]at hx
      obtain⟨d,ed,rfl⟩:=Y5.mp hx
      have mc:=(Je.mp ed).1
      obtain⟨kk,ek,kd⟩:=zch kc ed
      have kmem:kk∈ks:=by
       rw[JR,List.getElem?_range (by lia)]at ek
       cases ek
       obtain⟨t,ht,e⟩:=run m
       rw[ze8 N row m (by lia) fun j hj=>allok j (by lia)]at e
       rw[Option.some.inj e];exact kin t ht
      refine⟨_,rfl,_,rfl,q,_,_,_,rfl,rfl,SqT.of (s16 _ _ tq15),rfl,d,bk,bs,ks,kk,rfl,rfl,s16 _ _ tb15,ka15.tups (Tups.of s16),kd.tups (Tups.of s16),?_⟩
      rw[zfs.mpr kmem]
      refine⟨h16,by rw[Jm,JU,Jy];lia,nx (by rw[Jm];exact mc) ⟨⟨_,rfl⟩,fun c o e=>?_,zac,by rw[List.replicate_succ',Y2];rfl⟩⟩
      rw[zad (zab e hlc2)];exact s16 c o e
     rintro acc σ H16 ⟨⟨v0,rfl⟩,s16,h16,rfl⟩
     refine⟨lc2,_,rfl,SqL.of h16,?_⟩
     rw[show (List.replicate (List.map V.ref cs).length true).all id=true from YN.mpr fun x hx=>Zv hx]
     exact⟨_,rfl,iteF ⟨⟨_,_,_,_,_,_,_,rfl⟩,le15.same s16,t15.trans (Tups.of s16)⟩⟩
   ·rintro σ H12 ⟨⟨v6,v7,v8,v9,v10,v11,v12,rfl⟩,le12,t12⟩
    have tq12:=t12 _ _ tq
    have hp12:=t12 _ _ hp11
    refine⟨_,rfl,_,rfl,_,rfl,p,_,rfl,hp12,fun p1 H13 s13 hp1=>?_⟩
    have e1:cutV (nums moves) none (some 1)=nums (moves.take 1):=by
     rw[show (1:Int)=((1:Nat):Int) from rfl,zhQ]
     unfold nums
     rw[List.map_take]
    rw[e1]at hp1
    have le13:=le12.same s13
    have t13:=t12.trans (Tups.of s13)
    have sub:∀ m∈moves.take 1,m∈moves:=fun m hm=>Yu hm
    refine⟨r,fr,er,ps,N,p1,moves.take 1,4000,rfl,ok,na11.tups t13,hp1,fun m hm=>ln.lt m (sub m hm),by rw[Jw];lia,by decide,.inl (by decide),le13.tab,fun q2 H14 B14 tab14 tell2=>?_⟩
    have le14:=le13.ver tab14 B14
    have t14:=t13.trans (ze1 le13.tab B14)
    have tq14:=t14 _ _ tq
    have tb14:=t14 _ _ tb
    have ka14:=ka.tups t14
    obtain⟨ls2,hR2,sub2⟩:=zcG (most:=4000) (sh.fewer sub) kl (4000+1) [(k0P N,zL N)] [] [] (fun p hp=>by rw[Jd.mp hp];exact sh.fst) (fun p hp=>absurd hp Jt) (fun s hs=>absurd hs Jt) (JL.mpr ⟨Jt,Yw⟩) (Jg _)
    rw[show zbg N (moves.take 1) 4000=.whl ls2 from hR2]at tell2
    obtain⟨bk2,bs2,ks2,tq2,tb2,ka2,bof2⟩:=tell2
    refine⟨_,rfl,q2,_,_,_,rfl,rfl,SqT.of tq2,rfl,rfl,false,JJ V.bl (by rw[Jz rfl];rfl),iteF ?_⟩
    refine⟨_,rfl,q2,_,_,_,rfl,rfl,SqT.of tq2,rfl,bk2,rfl,⟨_,SqT.of tb2⟩,fun lc2 hlc2=>?_⟩
    have kcl:=Paired.length ka2
    have kfew:ks2.length≤4000:=by
     have e:=zjj bof2
     have:=zck (l:=zaF ls2) (ks:=zaF ls) (by
      have ca2:=zcz (step:=zaK N) (moves:=moves.take 1) (k0:=k0P N) (c0:=zL N) (most:=4000)
      rw[show zas (zaK N) (moves.take 1) 4000 (4000+1) [(k0P N,zL N)] [] []=.whl ls2 from hR2]at ca2
      exact ca2.2.1) sub2
     lia
    refine zjz (K:=K) (a:=bk2) (xs:=List.map V.ref bs2) (fun m acc σ H16=>(∃ v0,σ=[v0,some (.ref q)])∧Same H14 H16∧H16 lc2=some (.lst acc)∧acc=List.map V.bl (List.replicate m true)) ⟨⟨_,rfl⟩,zaa hlc2 _,zag hlc2 _,rfl⟩ (fun m acc σ H16 z=>⟨z.2.2.1,SqT.of (z.2.1 _ _ tb2)⟩) ?_ ?_
    ·rintro m x acc σ H16 hx ⟨⟨v0,rfl⟩,s16,h16,rfl⟩
     rw[JR]at hx
     obtain⟨d,ed,rfl⟩:=Y5.mp hx
     have mc:=(Je.mp ed).1
     obtain⟨kk,ek,kd⟩:=zch ka2 ed
     have kmem:kk∈ks:=kin kk (sub2 kk (ziW bof2 (JZ ek)))
     refine⟨_,rfl,_,rfl,q,_,_,_,rfl,rfl,SqT.of (s16 _ _ tq14),rfl,d,bk,bs,ks,kk,rfl,rfl,s16 _ _ tb14,ka14.tups (Tups.of s16),kd.tups (Tups.of s16),?_⟩
     rw[zfs.mpr kmem]
     refine⟨h16,by rw[Jm,JU,Jy];lia,nx (by rw[Jm];exact mc) ⟨⟨_,rfl⟩,fun c o e=>?_,zac,by rw[List.replicate_succ',Y2];rfl⟩⟩
     rw[zad (zab e hlc2)];exact s16 c o e
    rintro acc σ H16 ⟨⟨v0,rfl⟩,s16,h16,rfl⟩
    refine⟨lc2,_,rfl,SqL.of h16,?_⟩
    rw[show (List.replicate (List.map V.ref bs2).length true).all id=true from YN.mpr fun x hx=>Zv hx]
    refine⟨_,rfl,iteF ?_⟩
    refine⟨_,rfl,q,_,_,_,rfl,rfl,SqT.of (s16 _ _ tq14),rfl,rfl,false,JJ V.bl (Jq fun z=>absurd (V.str.inj z) (by decide)),iteF ?_⟩
    exact⟨⟨_,_,_,_,_,_,_,_,_,_,_,_,rfl⟩,(le14.same s16).scr,(le14.same s16).tab⟩
 ·rintro σ H2 _
  exact k H2
end
structure FnAt (K:PySem.W.Frag) (x:Str) (st:Stmt) (f:Addr) (fd:FuncData):Prop where
 ns:PySem.W.nsIn K mainGlobals x=some (some (.ref f))
 fn:Fun K x x st f fd
theorem zaG {K:PySem.W.Frag}{x:Str}{st:Stmt}{f:Addr}{oc:Value}{od an:Option Addr}{osl:Array (Option Value)}{kV doc pm cdv ct:Value}(a:PySem.W.nsIn K mainGlobals x=some (some (.ref f)))
  (l:K.lookup f=some ⟨oc,od,.func (PySem.W.fnOf x x (za3 st) (zaH st) (zae st) .none kV doc pm an cdv ct),osl⟩) (c:PySem.W.codeIn K cdv x=true) (k:PySem.W.keepIn K (.ref f)=true):FnAt K x st f (PySem.W.fnOf x x (za3 st) (zaH st) (zae st) .none kV doc pm an cdv ct):=⟨a,zll l c k⟩
structure FnAtC (K:PySem.W.Frag) (x:Str) (st:Stmt) (f:Addr) (fd:FuncData) (c:Addr):Prop where
 ns:PySem.W.nsIn K mainGlobals x=some (some (.ref f))
 fn:FunC K x x st f fd c
theorem zln {K:PySem.W.Frag}{x:Str}{st:Stmt}{f c:Addr}{oc:Value}{od an:Option Addr}{osl:Array (Option Value)}{kV doc pm ct:Value}(a:PySem.W.nsIn K mainGlobals x=some (some (.ref f)))
  (l:K.lookup f=some ⟨oc,od,.func (PySem.W.fnOf x x (za3 st) (zaH st) (zae st) .none kV doc pm an (.ref c) ct),osl⟩) (cd:PySem.W.codeIn K (.ref c) x=true) (k:PySem.W.keepIn K (.ref f)=true):FnAtC K x st f (PySem.W.fnOf x x (za3 st) (zaH st) (zae st) .none kV doc pm an (.ref c) ct) c:=⟨a,⟨⟨_,_,_,_,_,_,_,_,rfl,l,cd⟩,k⟩⟩
theorem _root_.L2.FunC.fun {K:PySem.W.Frag}{x qual:Str}{st:Stmt}{f:Addr}{fd:FuncData}{c:Addr}(F:FunC K x qual st f fd c):Fun K x qual st f fd:=by
 obtain⟨oc,od,kV,doc,pm,an,ct,osl,e,l,q⟩:=F.ex
 exact⟨⟨oc,od,kV,doc,pm,an,.ref c,ct,osl,e,l,q⟩,F.kp⟩
theorem zhT {K:PySem.W.Frag}{c P:Addr}{od:Option Addr}{vs:Array Value}{osl:Array (Option Value)}(l:K.lookup c=some ⟨.type "code",od,.fields vs,osl⟩) (e:PySem.W.codeHdIn [(c,⟨.type "code",od,.fields vs,osl⟩)] c P=true):PySem.W.codeHdIn K c P=true:=by
 have q:List.lookup c [(c,(⟨.type "code",od,.fields vs,osl⟩:Obj))]=some ⟨.type "code",od,.fields vs,osl⟩:=by rw[Yg,YT]
 unfold PySem.W.codeHdIn at e ⊢
 rw[q]at e
 rw[l];exact e
theorem us1 {us:List Value}(h:us.length=1):∃ u0,us=[u0]:=by
 match us,h with
 | [u0],_=>exact⟨u0,rfl⟩
theorem us2 {us:List Value}(h:us.length=2):∃ u0 u1,us=[u0,u1]:=by
 match us,h with
 | [u0,u1],_=>exact⟨u0,u1,rfl⟩
theorem us3 {us:List Value}(h:us.length=3):∃ u0 u1 u2,us=[u0,u1,u2]:=by
 match us,h with
 | [u0,u1,u2],_=>exact⟨u0,u1,u2,rfl⟩
theorem us4 {us:List Value}(h:us.length=4):∃ u0 u1 u2 u3,us=[u0,u1,u2,u3]:=by
 match us,h with
 | [u0,u1,u2,u3],_=>exact⟨u0,u1,u2,u3,rfl⟩
theorem us5 {us:List Value}(h:us.length=5):∃ u0 u1 u2 u3 u4,us=[u0,u1,u2,u3,u4]:=by
 match us,h with
 | [u0,u1,u2,u3,u4],_=>exact⟨u0,u1,u2,u3,u4,rfl⟩
set_option maxHeartbeats 4000001 in
theorem zlt {l:PySem.W.OpenLaw}{w:World}{K:PySem.W.Frag}{h:Heap}{mg:Str→Option Value}{fa f1 f2 f3 f4 f5 f6 f7 f8 f9 f10 f11 f12 f13 f14 f15 f16 f17 f18 f19 f20 f21 f22 f23 f24 f25 f26:Addr}{d1 d2 d3 d4 d5 d6 d7 d8 d9 d10 d11 d12 d13 d14 d15 d16 d17 d18 d19 d20 d21 d22 d23 d24 d25 d26:FuncData}(X:K.In h) (G:h.Ns mainGlobals mg) (hfa:mg "law" = some (.ref fa))
  {cLaw Pt:Addr}
  (A1:FnAt K "end_of" sEnd f1 d1)
  (A2:FnAt K "run_through" sRun f2 d2)
  (A3:FnAt K "passed" zej f3 d3)
  (A4:FnAt K "given_at" zgL f4 d4)
  (A5:FnAt K "added" zgN f5 d5)
  (A6:FnAt K "first_turns" zek f6 d6)
  (A7:FnAt K "first_pair" zel f7 d7)
  (A8:FnAt K "pair_behind" zgI f8 d8)
  (A9:FnAt K "next_level" sNxl f9 d9)
  (A10:FnAt K "climbed" sClm f10 d10)
  (A11:FnAt K "book_of" zjY f11 d11)
  (A12:FnAtC K "verdict" zgE f12 d12 cLaw)
  (A13:FnAt K "_law_left" zjX f13 d13)
  (A14:FnAt K "_law_pick" zjU f14 d14)
  (A15:FnAt K "_law_mixed" zgK f15 d15)
  (A16:FnAt K "_law_merger" zgJ f16 d16)
  (A17:FnAt K "_law_stairway" zgG f17 d17)
  (A18:FnAt K "_law_block" zgM f18 d18)
  (A19:FnAt K "_law_tree" zgF f19 d19)
  (A20:FnAt K "_law_made" zjW f20 d20)
  (A21:FnAt K "_law_any" zjZ f21 d21)
  (A22:FnAt K "_law_changed" sChg f22 d22)
  (A23:FnAt K "_law_net" zjV f23 d23)
  (A24:FnAt K "_law_some" zgH f24 d24)
  (A25:FnAt K "_law_in_turn" zjT f25 d25)
  (A26:FnAt K "law" sLaw f26 d26)
  (z1:PySem.W.nsIn K mainGlobals "len" = some none)
  (z2:PySem.W.nsIn K mainGlobals "range" = some none)
  (z3:PySem.W.nsIn K mainGlobals "tuple" = some none)
  (z4:PySem.W.nsIn K mainGlobals "enumerate" = some none)
  (z5:PySem.W.nsIn K mainGlobals "abs" = some none)
  (z6:PySem.W.nsIn K mainGlobals "zip" = some none)
  (z7:PySem.W.nsIn K mainGlobals "isinstance" = some none)
  (z8:PySem.W.nsIn K mainGlobals "all" = some none)
  (z9:PySem.W.nsIn K mainGlobals "sum" = some none)
  (z10:PySem.W.nsIn K mainGlobals "bool" = some none)
  (z11:PySem.W.nsIn K mainGlobals "int" = some none)
  (z12:PySem.W.nsIn K mainGlobals "str" = some none)
  (z13:PySem.W.nsIn K mainGlobals "max" = some none)
  (z14:PySem.W.nsIn K mainGlobals "min" = some none)
  (z15:PySem.W.nsIn K mainGlobals "sorted" = some none)
  (z16:PySem.W.nsIn K mainGlobals "list" = some none)
  (cH:PySem.W.codeHdIn K cLaw Pt=true) (nB4:mainGlobals≠Pt) (kP:K.lookup Pt=none)
  : (K.lookup Pt=none∧∃ c,PySem.W.codeHdIn K c Pt=true)∧∃ fd:FuncData,(∀ (s:Shared) (v:Value),BindsTo s fd ⟨[v],[]⟩ [("_law_script",v)])∧∀ base:Heap,K.In base→base.Ns mainGlobals mg→(∀ p∈[Pt],base.BuiltinsAt mg p)→FnOk l.prog w K mg base CX0 13 fa fd ["_law_script"] (zij K Pt):=by
 have e:=hfa.symm.trans (JP X G A26.ns)
 cases e
 have M:Mgs mg:=⟨JX X G z1,JX X G z2,JX X G z3,JX X G z4,JX X G z5,JX X G z6,JX X G z7,JX X G z8,JX X G z9,JX X G z10,JX X G z11,JX X G z12,JX X G z13,JX X G z14,JX X G z15,JX X G z16⟩
 have b1:=A1.fn.binds (ps:=["net","lane"]) fun _ _ _ _ _ _ us hl=>by obtain⟨u0,u1,rfl⟩:=us2 hl;rfl
 have m1:=JP X G A1.ns
 have b2:=A2.fn.binds (ps:=["net","turns","lane","back"]) fun _ _ _ _ _ _ us hl=>by obtain⟨u0,u1,u2,u3,rfl⟩:=us4 hl;rfl
 have m2:=JP X G A2.ns
 have b3:=A3.fn.binds (ps:=["net","turns","lane"]) fun _ _ _ _ _ _ us hl=>by obtain⟨u0,u1,u2,rfl⟩:=us3 hl;rfl
 have m3:=JP X G A3.ns
 have b4:=A4.fn.binds (ps:=["row","place","value"]) fun _ _ _ _ _ _ us hl=>by obtain⟨u0,u1,u2,rfl⟩:=us3 hl;rfl
 have m4:=JP X G A4.ns
 have b5:=A5.fn.binds (ps:=["counts","place","many"]) fun _ _ _ _ _ _ us hl=>by obtain⟨u0,u1,u2,rfl⟩:=us3 hl;rfl
 have m5:=JP X G A5.ns
 have b6:=A6.fn.binds (ps:=["net"]) fun _ _ _ _ _ _ us hl=>by obtain⟨u0,rfl⟩:=us1 hl;rfl
 have m6:=JP X G A6.ns
 have b7:=A7.fn.binds (ps:=["net"]) fun _ _ _ _ _ _ us hl=>by obtain⟨u0,rfl⟩:=us1 hl;rfl
 have m7:=JP X G A7.ns
 have b8:=A8.fn.binds (ps:=["net","pair","lane"]) fun _ _ _ _ _ _ us hl=>by obtain⟨u0,u1,u2,rfl⟩:=us3 hl;rfl
 have m8:=JP X G A8.ns
 have b9:=A9.fn.binds (ps:=["level","seen","moves","led"]) fun _ _ _ _ _ _ us hl=>by obtain⟨u0,u1,u2,u3,rfl⟩:=us4 hl;rfl
 have m9:=JP X G A9.ns
 have b10:=A10.fn.binds (ps:=["first","counts","moves","led","most"]) fun _ _ _ _ _ _ us hl=>by obtain⟨u0,u1,u2,u3,u4,rfl⟩:=us5 hl;rfl
 have m10:=JP X G A10.ns
 have b11:=A11.fn.binds (ps:=["levels"]) fun _ _ _ _ _ _ us hl=>by obtain⟨u0,rfl⟩:=us1 hl;rfl
 have m11:=JP X G A11.ns
 have b12:=A12.fn.fun.binds (ps:=["net","some","most"]) fun _ _ _ _ _ _ us hl=>by obtain⟨u0,u1,u2,rfl⟩:=us3 hl;rfl
 have m12:=JP X G A12.ns
 have b13:=A13.fn.binds (ps:=["_law_script","_law_k"]) fun _ _ _ _ _ _ us hl=>by obtain⟨u0,u1,rfl⟩:=us2 hl;rfl
 have m13:=JP X G A13.ns
 have b14:=A14.fn.binds (ps:=["_law_left_here","_law_many"]) fun _ _ _ _ _ _ us hl=>by obtain⟨u0,u1,rfl⟩:=us2 hl;rfl
 have m14:=JP X G A14.ns
 have b15:=A15.fn.binds (ps:=["_law_left_here","_law_row"]) fun _ _ _ _ _ _ us hl=>by obtain⟨u0,u1,rfl⟩:=us2 hl;rfl
 have m15:=JP X G A15.ns
 have b16:=A16.fn.binds (ps:=["_law_one","_law_other"]) fun _ _ _ _ _ _ us hl=>by obtain⟨u0,u1,rfl⟩:=us2 hl;rfl
 have m16:=JP X G A16.ns
 have b17:=A17.fn.binds (ps:=["_law_row"]) fun _ _ _ _ _ _ us hl=>by obtain⟨u0,rfl⟩:=us1 hl;rfl
 have m17:=JP X G A17.ns
 have b18:=A18.fn.binds (ps:=["_law_row"]) fun _ _ _ _ _ _ us hl=>by obtain⟨u0,rfl⟩:=us1 hl;rfl
 have m18:=JP X G A18.ns
 have b19:=A19.fn.binds (ps:=["_law_row"]) fun _ _ _ _ _ _ us hl=>by obtain⟨u0,rfl⟩:=us1 hl;rfl
 have m19:=JP X G A19.ns
 have b20:=A20.fn.binds (ps:=["_law_way","_law_k"]) fun _ _ _ _ _ _ us hl=>by obtain⟨u0,u1,rfl⟩:=us2 hl;rfl
 have m20:=JP X G A20.ns
 have b21:=A21.fn.binds (ps:=["_law_left_here"]) fun _ _ _ _ _ _ us hl=>by obtain⟨u0,rfl⟩:=us1 hl;rfl
 have m21:=JP X G A21.ns
 have b22:=A22.fn.binds (ps:=["_law_left_here","_law_net_here"]) fun _ _ _ _ _ _ us hl=>by obtain⟨u0,u1,rfl⟩:=us2 hl;rfl
 have m22:=JP X G A22.ns
 have b23:=A23.fn.binds (ps:=["_law_left_here"]) fun _ _ _ _ _ _ us hl=>by obtain⟨u0,rfl⟩:=us1 hl;rfl
 have m23:=JP X G A23.ns
 have b24:=A24.fn.binds (ps:=["_law_left_here","_law_net_here"]) fun _ _ _ _ _ _ us hl=>by obtain⟨u0,u1,rfl⟩:=us2 hl;rfl
 have m24:=JP X G A24.ns
 have b25:=A25.fn.binds (ps:=["_law_net_here","_law_row"]) fun _ _ _ _ _ _ us hl=>by obtain⟨u0,u1,rfl⟩:=us2 hl;rfl
 have m25:=JP X G A25.ns
 obtain⟨oc,od,kV,doc,pm,an,cdv,ct,osl,ed,_,_⟩:=id A26.fn.ex
 refine⟨⟨kP,cLaw,cH⟩,d26,fun s v=>by rw[ed];exact .of_eq rfl,fun base _ _ bB=>?_⟩
 have CK:CodeK K mg base cLaw Pt:=⟨cH,bB Pt (.head _),nB4⟩
 have U1:Use l.prog w K mg base "end_of" ["net","lane"] 1 zjO f1 d1:=⟨zk6 A1.fn,b1,A1.fn.kp,m1⟩
 have U2:Use l.prog w K mg base "run_through" ["net","turns","lane","back"] 2 zjN f2 d2:=⟨zk4 A2.fn M U1,b2,A2.fn.kp,m2⟩
 have U3:Use l.prog w K mg base "passed" ["net","turns","lane"] 3 (ze4 false) f3 d3:=⟨zg1 A3.fn U2,b3,A3.fn.kp,m3⟩
 have U4:Use l.prog w K mg base "given_at" ["row","place","value"] 1 zeg f4 d4:=⟨ziH A4.fn M,b4,A4.fn.kp,m4⟩
 have U5:Use l.prog w K mg base "added" ["counts","place","many"] 2 zei f5 d5:=⟨ziI A5.fn M U4,b5,A5.fn.kp,m5⟩
 have U6:Use l.prog w K mg base "first_turns" ["net"] 1 zc2 f6 d6:=⟨zg4 A6.fn M,b6,A6.fn.kp,m6⟩
 have U7:Use l.prog w K mg base "first_pair" ["net"] 2 zc3 f7 d7:=⟨zg5 A7.fn U6,b7,A7.fn.kp,m7⟩
 have U8:Use l.prog w K mg base "pair_behind" ["net","pair","lane"] 4 zc0 f8 d8:=⟨ziF A8.fn U3,b8,A8.fn.kp,m8⟩
 have U9:Use l.prog w K mg base "next_level" ["level","seen","moves","led"] 6 (zgy l.prog w K (lamV qV) ["net"] zbV) f9 d9:=⟨zkd A9.fn M U5 (zi4 qV U8),b9,A9.fn.kp,m9⟩
 have U10:Use l.prog w K mg base "climbed" ["first","counts","moves","led","most"] 7 (zeh l.prog w K (lamV qV) ["net"] zbV) f10 d10:=⟨zf1 A10.fn M U9,b10,A10.fn.kp,m10⟩
 have U12:Use l.prog w K mg base "verdict" ["net","some","most"] 8 (zcd qV Pt) f12 d12:=⟨zf0 A12.fn CK U10 U7 (fun F0=>⟨zkh F0 1 A11.fn M,b11,A11.fn.kp,m11⟩),b12,A12.fn.kp,m12⟩
 have U13:Use l.prog w K mg base "_law_left" ["_law_script","_law_k"] 1 (zef K) f13 d13:=⟨zkg A13.fn M,b13,A13.fn.kp,m13⟩
 have U14:Use l.prog w K mg base "_law_pick" ["_law_left_here","_law_many"] 1 za6 f14 d14:=⟨zkc A14.fn,b14,A14.fn.kp,m14⟩
 have U15:Use l.prog w K mg base "_law_mixed" ["_law_left_here","_law_row"] 2 zc1 f15 d15:=⟨ziG A15.fn M U14,b15,A15.fn.kp,m15⟩
 have U16:Use l.prog w K mg base "_law_merger" ["_law_one","_law_other"] 5 zbz f16 d16:=⟨zg3 A16.fn M b16 m16,b16,A16.fn.kp,m16⟩
 have U17:Use l.prog w K mg base "_law_stairway" ["_law_row"] 10 zcZ f17 d17:=⟨zg0 A17.fn M U16 b17 m17,b17,A17.fn.kp,m17⟩
 have U18:Use l.prog w K mg base "_law_block" ["_law_row"] 5 zc4 f18 d18:=⟨zg7 A18.fn M b18 m18,b18,A18.fn.kp,m18⟩
 have U19:Use l.prog w K mg base "_law_tree" ["_law_row"] 5 zcY f19 d19:=⟨zgY A19.fn M b19 m19,b19,A19.fn.kp,m19⟩
 have U20:Use l.prog w K mg base "_law_made" ["_law_way","_law_k"] 11 ze5 f20 d20:=⟨zkf A20.fn M U18 U17 U19,b20,A20.fn.kp,m20⟩
 have U21:Use l.prog w K mg base "_law_any" ["_law_left_here"] 3 zgA f21 d21:=⟨zki A21.fn M U14 U15,b21,A21.fn.kp,m21⟩
 have U22:Use l.prog w K mg base "_law_changed" ["_law_left_here","_law_net_here"] 2 zjP f22 d22:=⟨zk7 A22.fn M U14,b22,A22.fn.kp,m22⟩
 have U23:Use l.prog w K mg base "_law_net" ["_law_left_here"] 12 zgz f23 d23:=⟨zke A23.fn M U14 U21 U20 U22,b23,A23.fn.kp,m23⟩
 have U24:Use l.prog w K mg base "_law_some" ["_law_left_here","_law_net_here"] 2 zee f24 d24:=⟨ziE A24.fn M U14,b24,A24.fn.kp,m24⟩
 exact zk5 A26.fn M U13 U14 U20 U23 U24 U12 (fun b=>⟨zkb b A25.fn M U3,b25,A25.fn.kp,m25⟩) U15
theorem walk {l:PySem.W.OpenLaw}{q:Program}{loose:List Str}{XP:(Str→Option Value)→Heap→Prop}{YP:World→Heap→Prop}{d:DefRec}{K:Params→PySem.W.Frag}{Pt:Addr}(hn:l.most=some 63) (hdf:d.params.defaults=[])
  (hY:∀ (w:World) (h:Heap),YP w h→(K w.params).In h∧∀ p∈[Pt],h.get? p=some (PySem.W.tabObj #[]))
  (F:∀ (w:World) (mg:Str→Option Value) (fa:Addr) (h:Heap),(K w.params).In h→h.Ns mainGlobals mg→mg d.name=some (.ref fa)→((K w.params).lookup Pt=none∧∃ c,PySem.W.codeHdIn (K w.params) c Pt=true) ∧
   ∃ fd:FuncData,(∀ (s:Shared) (u:Value),BindsTo s fd ⟨[u],[]⟩ [("_law_script",u)])∧∀ base:Heap,(K w.params).In base→base.Ns mainGlobals mg→(∀ p∈[Pt],base.BuiltinsAt mg p)→FnOk l.prog w (K w.params) mg base CX0 13 fa fd ["_law_script"] (zij (K w.params) Pt)) :
  PySem.W.WalkO q loose XP YP l.row.toRowW d [] (fun f vs=>PySem.call f vs) :=
 L2.zid (n:=63) (k:=13) (x:="_law_script") (CX:=CX0) (sp:=fun K=>zij K Pt) [Pt] hn (by decide) hdf ⟨rfl,by decide,by decide,rfl⟩ hY (fun w mg fa h a b c=>⟨fun p hp=>Jd.mp hp ▸ (F w mg fa h a b c).1,(F w mg fa h a b c).2⟩) (fun _ _ a ns hl hS ht=>⟨a,ns,rfl,hS,hl,ht Pt (.head _),fun _=>rfl⟩) fun _ _ _ _ z=>z
end K41
theorem PySem.W.Fast.tw2500173686609363364:True:=trivial
theorem PySem.W.Fast.tw7141838921094343145:True:=trivial
theorem PySem.W.Fast.tw7360374846181545261:True:=trivial
theorem PySem.W.Fast.tw14460477492974609289:True:=trivial
theorem PySem.W.Fast.tw8665374711837680971:True:=trivial
theorem PySem.W.Fast.tw825799086978062694:True:=trivial
theorem PySem.W.Fast.tw10482181325318890009:True:=trivial
theorem PySem.W.Fast.tw16282491161966249445:True:=trivial
open PySem PySem.W PyProof.Rows
set_option maxRecDepth 100000 in
set_option maxHeartbeats 0 in
theorem PySem.Challenge.cw_stairlanes_k41_whole_each_next_end_holds : PySem.Challenge.rw_stairlanes_k41_whole_each_next_end.Holds := by
 w_on;o_law;k_head;(case hw=>w_witness2)
 k_fill
 refine K41.walk (l:=PySem.Challenge.rw_stairlanes_k41_whole_each_next_end) rfl rfl (fun w h Y=>⟨PySem.W.km_in_of Y,PySem.W.km_tabs_of Y⟩) ?F
 case F =>
  intro w mg fa h KX G hmg
  refine' K41.zlt KX G hmg (K41.zaG ?a1 ?l1 ?c1 ?k1) (K41.zaG ?a2 ?l2 ?c2 ?k2) (K41.zaG ?a3 ?l3 ?c3 ?k3) (K41.zaG ?a4 ?l4 ?c4 ?k4) (K41.zaG ?a5 ?l5 ?c5 ?k5) (K41.zaG ?a6 ?l6 ?c6 ?k6) (K41.zaG ?a7 ?l7 ?c7 ?k7) (K41.zaG ?a8 ?l8 ?c8 ?k8) (K41.zaG ?a9 ?l9 ?c9 ?k9) (K41.zaG ?a10 ?l10 ?c10 ?k10) (K41.zaG ?a11 ?l11 ?c11 ?k11) (K41.zln ?a12 ?l12 ?c12 ?k12) (K41.zaG ?a13 ?l13 ?c13 ?k13) (K41.zaG ?a14 ?l14 ?c14 ?k14) (K41.zaG ?a15 ?l15 ?c15 ?k15) (K41.zaG ?a16 ?l16 ?c16 ?k16) (K41.zaG ?a17 ?l17 ?c17 ?k17) (K41.zaG ?a18 ?l18 ?c18 ?k18) (K41.zaG ?a19 ?l19 ?c19 ?k19) (K41.zaG ?a20 ?l20 ?c20 ?k20) (K41.zaG ?a21 ?l21 ?c21 ?k21) (K41.zaG ?a22 ?l22 ?c22 ?k22) (K41.zaG ?a23 ?l23 ?c23 ?k23) (K41.zaG ?a24 ?l24 ?c24 ?k24) (K41.zaG ?a25 ?l25 ?c25 ?k25) (K41.zaG ?a26 ?l26 ?c26 ?k26) ?z1 ?z2 ?z3 ?z4 ?z5 ?z6 ?z7 ?z8 ?z9 ?z10 ?z11 ?z12 ?z13 ?z14 ?z15 ?z16 (K41.zhT ?lH2 ?eH2) ?nB4 ?kP
  (case a1=>k_is);(case l1=>k_is);(case c1=>k_is);(case k1=>k_is)
  (case a2=>k_is);(case l2=>k_is);(case c2=>k_is);(case k2=>k_is)
  (case a3=>k_is);(case l3=>k_is);(case c3=>k_is);(case k3=>k_is)
  (case a4=>k_is);(case l4=>k_is);(case c4=>k_is);(case k4=>k_is)
  (case a5=>k_is);(case l5=>k_is);(case c5=>k_is);(case k5=>k_is)
  (case a6=>k_is);(case l6=>k_is);(case c6=>k_is);(case k6=>k_is)
  (case a7=>k_is);(case l7=>k_is);(case c7=>k_is);(case k7=>k_is)
  (case a8=>k_is);(case l8=>k_is);(case c8=>k_is);(case k8=>k_is)
  (case a9=>k_is);(case l9=>k_is);(case c9=>k_is);(case k9=>k_is)
  (case a10=>k_is);(case l10=>k_is);(case c10=>k_is);(case k10=>k_is)
  (case a11=>k_is);(case l11=>k_is);(case c11=>k_is);(case k11=>k_is)
  (case a12=>k_is);(case l12=>k_is);(case c12=>k_is);(case k12=>k_is)
  (case a13=>k_is);(case l13=>k_is);(case c13=>k_is);(case k13=>k_is)
  (case a14=>k_is);(case l14=>k_is);(case c14=>k_is);(case k14=>k_is)
  (case a15=>k_is);(case l15=>k_is);(case c15=>k_is);(case k15=>k_is)
  (case a16=>k_is);(case l16=>k_is);(case c16=>k_is);(case k16=>k_is)
  (case a17=>k_is);(case l17=>k_is);(case c17=>k_is);(case k17=>k_is)
  (case a18=>k_is);(case l18=>k_is);(case c18=>k_is);(case k18=>k_is)
  (case a19=>k_is);(case l19=>k_is);(case c19=>k_is);(case k19=>k_is)
  (case a20=>k_is);(case l20=>k_is);(case c20=>k_is);(case k20=>k_is)
  (case a21=>k_is);(case l21=>k_is);(case c21=>k_is);(case k21=>k_is)
  (case a22=>k_is);(case l22=>k_is);(case c22=>k_is);(case k22=>k_is)
  (case a23=>k_is);(case l23=>k_is);(case c23=>k_is);(case k23=>k_is)
  (case a24=>k_is);(case l24=>k_is);(case c24=>k_is);(case k24=>k_is)
  (case a25=>k_is);(case l25=>k_is);(case c25=>k_is);(case k25=>k_is)
  (case a26=>k_is);(case l26=>k_is);(case c26=>k_is);(case k26=>k_is)
  (case z1=>k_is)
  (case z2=>k_is)
  (case z3=>k_is)
  (case z4=>k_is)
  (case z5=>k_is)
  (case z6=>k_is)
  (case z7=>k_is)
  (case z8=>k_is)
  (case z9=>k_is)
  (case z10=>k_is)
  (case z11=>k_is)
  (case z12=>k_is)
  (case z13=>k_is)
  (case z14=>k_is)
  (case z15=>k_is)
  (case z16=>k_is)
  (case lH2=>k_is);(case eH2=>rfl);(case nB4=>decide);(case kP=>rfl)
