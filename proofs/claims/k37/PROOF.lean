import PyProof.Rows.All
import Wide.All
import OpenK.AllK
import Wide.FinOn
import Lean
import PyProof.EqAt
import PyProof.EqKinds
import PyProof.TupleCall
import PyProof.NeKinds
import KE.KIntText
import PyProof.TupleOfStr
import PyProof.ReprRoads
import PyProof.NeData
import PyProof.DictKinds
import PyProof.AttrMiss
import PyProof.IsiH_list
import KE.KDictOf
import KE.KSortTup
import KE.KItemsList
import KE.KDictSum
import PyProof.DictWalks
import PyProof.DictItems
import KE.KDictList
import KE.KEqDict
import KE.KPairComp
import PyProof.DictTruth
import PyProof.MeetsDict
import KE.KLam
import KE.KNestM
import PyProof.Defs
import PyProof.P3In
import PyProof.Rows.SortRev
import PyProof.Rows.Range3
import PyProof.AutoIntG2
import PyProof.StrBlockL
import PyProof.StrLawsTight
import PyProof.StrWalks
import PyProof.SliceStr2
import PyProof.StrLawsIdx
import PyProof.Rows.ReprOcc
import PyProof.Rows.StrBin
import PyProof.CollectIter
import PyProof.Rows.FStr
import PyProof.Rows.SetFrom
import PySem.Challenge.RW_stairlanes_k37_lanes_told_and_not
set_option Elab.async false
set_option linter.all false
local macro_rules|`(tactic| lia)=>`(tactic| first|with_reducible(first|assumption|exact Nat.le_of_lt ‹_›|exact Nat.lt_succ_of_le ‹_›|exact Nat.le_succ_of_le ‹_›|exact Nat.le_of_not_lt ‹_›|exact Nat.le_trans ‹_› ‹_›|exact Nat.lt_of_lt_of_le ‹_› ‹_›|exact Nat.sub_one_lt_of_le ‹_› ‹_›)|lia -verbose)
set_option maxRecDepth 100000
local macro_rules|`(tactic|rfl')=>`(tactic|first|exact⟨by rfl,by first|exact Or.inl rfl|exact Or.inr (.inl rfl)|exact Or.inr (.inr rfl),by decide,by decide⟩|exact⟨rfl,rfl,rfl,by decide +kernel,rfl,by decide +kernel,by decide +kernel⟩|exact True.intro|rfl|assumption|exact .inl rfl|exact .inr rfl|trivial)
section
open PySem PySem.Spec PyProof.Rows
def J0:=@wpAny_bind
def J7:=@wpAny_pure
def J8:=@Heap.get?_push_of_some
def J9:=@List.getElem?_eq_getElem
def Ja:=@List.mem_singleton
def Jb:=@List.length_append
def Jc:=@List.getElem?_eq_some_iff
def Jd:=@if_neg
def Je:=@Nat.le_refl
def Jf:=@if_pos
def Jg:=@List.length_map
def Jh:=@wpS_pure
def Jj:=@wpS_bind
def Jm:=@Option.some.inj
def Jn:=@List.size_toArray
def Jp:=@Bool.false_ne_true
def Jq:=@Heap.get?_push_size
def Jr:=@Heap.lt_size
def Js:=@List.mem_cons
def Jt:=@decide_eq_false
def Ju:=@List.getD_eq_getElem?_getD
def Jv:=@List.mem_map
def Jw:=@Array.size_append
def Jx:=@Array.length_toList
def Jy:=@List.mem_append
def Jz:=@List.not_mem_nil
def JA:=@Array.size_push
def JB:=@List.mem_append_right
def JC:=@List.length_take
def JD:=@decide_eq_true
def JE:=@List.mem_cons_of_mem
def JF:=@List.mem_cons_self
def JG:=@sizeLine_eq
def JH:=@Nat.ne_of_lt
def JJ:=@Nat.zero_le
def JK:=@wpAny_newObj_type
def JL:=@Nat.lt_of_lt_of_le
def JM:=@List.length_cons
def JN:=@wpAny_mono
def JP:=@List.nodup_cons
def JQ:=@List.mem_of_getElem?
def JR:=@Nat.le_trans
def JS:=@List.take_of_length_le
def JT:=@List.map_cons
def JU:=@Array.getElem?_eq_some_iff
def JV:=@PySem.W.mg_of
def JW:=@congrArg
def JX:=@wpAny_holding
def JY:=@decide_eq_false_iff_not
def JZ:=@PySem.W.mg_none_of
def Y0:=@List.append_assoc
def Y1:=@wpAny_call_entry
def Y2:=@List.map_append
def Y3:=@List.append_nil
def Y4:=@decide_eq_true_eq
def Y5:=@wpAny_dictEntries
def Y6:=@List.getElem?_map
def Y7:=@Array.toList_append
def Y8:=@Heap.SameBut.update
def Y9:=@Option.map_eq_some_iff
def Ya:=@Paired.length
def Yb:=@wpAny_dictEpoch
def Yc:=@Bool.false_eq_true
def Yd:=@PySem.boot_len
def Ye:=@Array.getElem?_toList
def Yf:=@Int.toNat_natCast
def Yg:=@Heap.get?_update_self
def Yh:=@List.length_drop
def Yi:=@wpAny_seqItems
def Yj:=@List.mem_append_left
def Yk:=@List.pairwise_append
def Ym:=@Heap.get?_update_other
def Yn:=@wpAny_setField_rec
def Yp:=@PassesOwn.never
def Yq:=@List.take_append_getElem
def Yr:=@List.replicate_succ
def Ys:=@PyProof.Rows.callWith_type1
def Yt:=@wpS_forRange
def Yu:=@Int.compare_eq_eq
def Yv:=@Around.under_plainId
def Yw:=@Bool.eq_iff_iff
def Yx:=@wpAny_ite_split
def Yy:=@if_true
def Yz:=@List.lookup_cons
def YA:=@wpAny_isInstance
def YB:=@Nat.zero_add
def YC:=@List.drop_eq_getElem_cons
def YD:=@Int.compare_eq_lt
def YE:=@Int.compare_eq_gt
def YF:=@wpAny_typeOf
def YG:=@codeAny_builtin
def YH:=@List.find?_cons
def YJ:=@wpAny_rule
def YK:=@PySem.F.plainAttrs_list
def YL:=@Array.getElem?_eq_getElem
def YM:=@List.getElem_mem
def YN:=@List.take_length
def YQ:=@F.plain_min_loop
def YR:=@Nat.lt_irrefl
def YS:=@List.nodup_nil
def YT:=@Nat.pow_le_pow_right
def YU:=@List.pairwise_singleton
def YV:=@List.length_eq_zero_iff
def YW:=@List.length_range
def YX:=@wpAny_setState_of
def YY:=@List.length_pos_iff
def YZ:=@Nat.ne_of_gt
def Z0:=@Array.getElem?_eq_none
def Z1:=@Heap.size_push
def Z2:=@wpS_mono
def Z3:=@List.length_replicate
def Z4:=@List.extract_eq_take_drop
def Z5:=@List.forIn_cons
def Z6:=@List.length_nil
def Z7:=@size_of_entries
def Z8:=@wpAny_truthy_bool
def Z9:=@if_false
def Za:=@List.flatten_cons
def Zb:=@List.map_map
def Zc:=@Array.toList_push
def Zd:=@List.mem_iff_getElem
def Ze:=@of_decide_eq_true
def Zf:=@wpAny_standAt
def Zg:=@List.getElem?_take_of_lt
def Zh:=@plainId_quiet
def Zi:=@beq_eq_false_iff_ne
def Zj:=@PySem.mem_of_lookup
def Zk:=@List.take_succ_cons
def Zm:=@List.mem_range
def Zn:=@Bool.and_eq_true
def Zp:=@wpAny_Call_Name_kw
def Zq:=@Nat.add_zero
def Zr:=@Nat.min_eq_left
def Zs:=@wpAny_attempt
def Zt:=@Nat.add_assoc
def Zu:=@List.mem_iff_getElem?
def Zv:=@wpAny_notOrdered_dict
def Zw:=@Int.lt_trichotomy
def Zx:=@List.getElem?_append_right
def Zy:=@List.forIn_nil
def Zz:=@Std.Legacy.Range.forIn_eq_forIn_range'
def ZA:=@Int.le_refl
def ZB:=@Array.getElem_toList
def ZC:=@Array.toList_extract
def ZD:=@codeAny_mono
def ZE:=@Int.le_trans
def ZF:=@Nat.pow_succ
def ZG:=@List.getElem?_append_left
def ZH:=@Option.isSome_iff_exists
def ZJ:=@PySem.F.slot_list_append
def ZK:=@PySem.F.type_list_append
def ZL:=@wpAny_passesOwn
def ZM:=@wpAny_specialOf
def ZN:=@List.length_zip
def ZP:=@assignInOrder_cons
def ZQ:=@Calls.spliced_cons
def ZR:=@List.filterMap_map
def ZS:=@Nat.one_le_two_pow
def ZT:=@Paired.snoc
def ZU:=@Int.eq_ofNat_of_zero_le
def ZV:=@Calls.callWith_builtin
def ZW:=@Nat.lt_succ_of_lt
def ZX:=@or_false
def ZY:=@List.drop_zero
def ZZ:=@Bool.not_eq_true'
def W0:=@List.take_succ_eq_append_getElem
def W5:=@List.foldl_append
def W6:=@PyProof.Rows.slot_tuple_getitem
def W7:=@List.perm_append_comm
def W8:=@List.all_eq_true
def W9:=@Option.getD_some
def Wa:=@beq_self_eq_true
def Wb:=@wpAny_typeNameOfWhole_itemiter
def Wc:=@wpAny_askSetting
def Wd:=@List.take_nil
def We:=@wpAny_field
def Wf:=@wpAny_letGo
def Wg:=@List.mem_of_mem_drop
def Wh:=@List.mem_of_mem_take
def Wi:=@wpAny_typeNameOfWhole_keyiter
def Wj:=@F.slot_dict_itemiterator_next
def Wk:=@Bool.or_eq_true
def Wm:=@F.slot_dict_keyiterator_next
def Wn:=@Int.emod_nonneg
def Wp:=@List.map_congr_left
def Wq:=@Array.toList_modify
def Wr:=@wpS_get
def Ws:=@wpS_modify
def Wt:=@List.pairwise_cons
def Wu:=@Bool.not_eq_false'
def Wv:=@List.take_zero
def Ww:=@wpAny_fieldsOf
def Wx:=@wpAny_setField
def Wy:=@wpAny_tryCatch
def Wz:=@Int.emod_lt_of_pos
def WA:=@Nat.lt_of_le_of_lt
def WB:=@List.getElem?_zip_eq_some
def WC:=@Calls.spliced_nil
def WD:=@List.nodup_append
def WE:=@AutoSeq1.wpAny_loadPart'
end
namespace L2
open PySem PySem.Spec PyProof.Rows
abbrev Key:=Sum Int Str
def tR:Key->Value->Bool
  | .inl k,v=>Value.isInt k v
  | .inr x,v=>Value.isStrOf x v
def zbC (w:World):Key->Int
  | .inl k=>hashInt k
  | .inr x=>hashStr w x
theorem yK:∀ {k:Key}{v:Value},tR k v=true->(∃ i t,k=Sum.inl i/\v=Value.int i t)\/(∃ x t,k=Sum.inr x/\v=Value.str x t)
  | .inl i,v,h=>by
    obtain⟨t,e⟩:=Value.isInt_shape (k:=i) (v:=v) h
    exact .inl ⟨i,t,rfl,e⟩
  | .inr x,v,h=>by
    obtain⟨t,e⟩:=Value.isStrOf_shape (x:=x) (v:=v) h;exact .inr ⟨x,t,rfl,e⟩
theorem j8 (i:Int)(t:Tok):tR (.inl i) (.int i t)=true:=by simp[tR,Value.isInt]
theorem j7 (x:Str)(t:Tok):tR (.inr x) (.str x t)=true:=by simp[tR,Value.isStrOf]
theorem zad (a b:Int):decide ((Sum.inl a:Key)=Sum.inl b)=(a == b):=by
  by_cases e:a=b
  · subst e;simp
  · have h:¬(Sum.inl a:Key)=Sum.inl b:=λq=>e (Sum.inl.inj q)
    rw[Jt h];exact(Zi.mpr e).symm
theorem az (a b:Str):decide ((Sum.inr a:Key)=Sum.inr b)=decide (a=b):=by
  by_cases e:a=b
  · subst e;simp
  · have h:¬(Sum.inr a:Key)=Sum.inr b:=λq=>e (Sum.inr.inj q)
    rw[Jt h,Jt e]
theorem zac (a:Int)(b:Str):decide ((Sum.inl a:Key)=Sum.inr b)=false:=Jt (λq=>nomatch q)
theorem zaa (a:Str)(b:Int):decide ((Sum.inr a:Key)=Sum.inl b)=false:=Jt (λq=>nomatch q)
def yZ (prog:Program)(w:World):PySem.KeyKind prog w Key where
  is:=tR
  hash:=zbC w
  inj:=λv a b l f=>by
    rcases yK l with ⟨i,t,rfl,rfl⟩|⟨x,t,rfl,rfl⟩
    · rcases yK f with ⟨j,u,rfl,e⟩|⟨y,u,rfl,e⟩
      · injection e with c _;rw[c]
      · exact nomatch e
    · rcases yK f with ⟨j,u,rfl,e⟩|⟨y,u,rfl,e⟩
      · exact nomatch e
      · injection e with c _;rw[c]
  byValue:=λk v h=>by
    rcases yK h with ⟨i,t,rfl,rfl⟩|⟨x,t,rfl,rfl⟩<;>rfl
  pyHash:=λd h=>by
    rcases yK d with ⟨i,t,rfl,rfl⟩|⟨x,t,rfl,rfl⟩
    · exact wpAny_pyHash_int h
    · exact wpAny_pyHash_str h
  eqBool:=λg d h=>by
    rcases yK g with ⟨i,t,rfl,rfl⟩|⟨x,t,rfl,rfl⟩
    · rcases yK d with ⟨j,u,rfl,rfl⟩|⟨y,u,rfl,rfl⟩
      · rw[zad]at h;exact wpAny_eqBool_int h
      · rw[zac]at h;exact SeqAt.EqAt.int_str i t y u _ _ _ _ h
    · rcases yK d with ⟨j,u,rfl,rfl⟩|⟨y,u,rfl,rfl⟩
      · rw[zaa]at h;exact SeqAt.EqAt.str_int x t j u _ _ _ _ h
      · rw[az]at h;exact wpAny_eqBool_str h
  «strs»:=λk x t v h=>by
    rcases yK h with ⟨i,u,rfl,e⟩|⟨y,u,rfl,e⟩
    · exact nomatch e
    · injection e with c _
      subst c;cases v<;>rfl
theorem mT (prog:Program)(w:World)(k:Key)(v:Value):(yZ prog w).is k v=tR k v:=rfl
theorem oZ (prog:Program)(w:World)(i:Int)(t:Tok):(yZ prog w).is (.inl i) (.int i t)=true:=j8 i t
theorem oY (prog:Program)(w:World)(x:Str)(t:Tok):(yZ prog w).is (.inr x) (.str x t)=true:=j7 x t
inductive V where
  | non|bl (b:Bool)|int (i:Int)|str (x:Str)|byt (b:Array UInt8)|flt (b:UInt64)|ref (a:Addr)|ty (n:String)
  deriving DecidableEq
def RelV:V->Value->Prop
  | .non,u=>u=Value.none
  | .bl b,u=>u=Value.bool b
  | .int i,u=>∃ t,u=Value.int i t
  | .str x,u=>∃ t,u=Value.str x t
  | .byt b,u=>∃ t,u=Value.bytes b t
  | .flt b,u=>∃ t,u=Value.float b t
  | .ref a,u=>u=Value.ref a
  | .ty n,u=>u=Value.type n
abbrev Vals:List V->List Value->Prop:=Paired RelV
theorem Vals.length {xs:List V}{us:List Value}(r:Vals xs us):xs.length=us.length:=Ya r
theorem Vals.get:∀ {xs:List V}{us:List Value}{i:Nat}{x:V},Vals xs us->xs[i]?=some x->∃ u,us[i]?=some u/\RelV x u
  | _,_,_,_,.nil,e=>by simp at e
  | _,_,0,_,.cons r _,e=>by simp at e;subst e;exact⟨_,rfl,r⟩
  | _,_,i+1,x,.cons _ t,e=>by
    obtain⟨u,b,a⟩:=Vals.get (i:=i) (x:=x) t (by simpa using e);exact⟨u,by simpa using b,a⟩
theorem Vals.set {x:V}{u:Value}(r:RelV x u):∀ {xs:List V}{us:List Value}(i:Nat),Vals xs us->Vals (xs.set i x) (us.set i u)
  | _,_,_,.nil=>.nil
  | _,_,0,.cons _ t=>.cons r t
  | _,_,i+1,.cons q t=>.cons q (Vals.set r i t)
theorem Vals.append:∀ {xs ys:List V}{us ws:List Value},Vals xs us->Vals ys ws->Vals (xs++ys) (us++ws)
  | _,_,_,_,.nil,s=>s
  | _,_,_,_,.cons r t,s=>.cons r (Vals.append t s)
theorem Vals.take:∀ {xs:List V}{us:List Value}(n:Nat),Vals xs us->Vals (xs.take n) (us.take n)
  | _,_,0,_=>.nil
  | _,_,_+1,.nil=>.nil
  | _,_,n+1,.cons r t=>.cons r (Vals.take n t)
theorem Vals.drop:∀ {xs:List V}{us:List Value}(n:Nat),Vals xs us->Vals (xs.drop n) (us.drop n)
  | _,_,0,r=>r
  | _,_,_+1,.nil=>.nil
  | _,_,n+1,.cons _ t=>Vals.drop n t
def RelO:Option V->Option Value->Prop
  | some v,some u=>RelV v u
  | none,none=>True
  | _,_=>False
def KV {κ:Type}:List (κ × V)->List (κ × Value)->Prop:=Paired λ(p:κ × V) (q:κ × Value)=>p.1=q.1/\RelV p.2 q.2
def kV:Key->V
  | .inl i=>.int i
  | .inr x=>.str x
inductive HO where
  | lst (xs:List V)
  | tup (xs:List V)
  | dK (kvs:List (Key × V))|dT (kvs:List (List Key × V))
  | set (S:Int->Bool) (n:Nat)
  | ins (C dx:Addr) (fs:List (Str × V))
  | own (x:Addr)
  | xd (fs:List (Str × V))
  | met (f x:Addr)
  | rng (lo hi:Int)
  | frz (o:Obj) (u:HO)
  | tbl (ps:Array Value)
  | ext (φ:Heap->Prop)
abbrev Hp:=Addr->Option HO
def upd (H:Hp)(a:Addr)(o:HO):Hp:=λb=>if b=a then some o else H b
theorem zD {H:Hp}{a:Addr}{o:HO}:upd H a o a=some o:=by unfold upd;rw[Jf rfl]
theorem zG {H:Hp}{a b:Addr}{o:HO}(h:b≠a):upd H a o b=H b:=by unfold upd;rw[Jd h]
theorem yQ {H:Hp}{a b:Addr}{o u:HO}(h:H a=some o)(h':H b=some u)(d:o≠u):a≠b:=by
  intro e;subst e;rw[h]at h';exact d (Jm h')
theorem zF {H:Hp}{a b:Addr}{o:HO}(h:H a=some o)(h':H b=none):a≠b:=by
  intro e;subst e;rw[h]at h';cases h'
def TupX (h:Heap)(a:Addr)(items:Array Value):Prop:=∃ o,h.get? a=some o/\o.cls=.type "tuple"/\∃ n,o.data=.seq items n/\o.dict=none
theorem TupX.tup {h:Heap}{a:Addr}{items:Array Value}(x:TupX h a items):IsTup h a items:=let ⟨o,e,c,n,d,_⟩:=x;⟨o,e,c,n,d⟩
theorem TupX.new (h:Heap)(items:Array Value):TupX (h.push { cls:=.type "tuple",data:=.seq items }) h.objs.size items:=⟨_,Jq _ rfl,rfl,0,rfl,rfl⟩
section
variable (P:Program)(w:World)
def ObjOk (H:Hp)(h:Heap)(a:Addr):HO->Prop
  | .lst xs=>xs.length<=sizeLine/\∃ (its:List Value) (n:Nat),Vals xs its/\h.get? a=some { cls:=.type "list",data:=.seq its.toArray n }
  | .tup xs=>xs.length<=sizeLine/\∃ its:List Value,Vals xs its/\TupX h a its.toArray
  | .dK b=>b.length<=sizeLine/\(a == sysModules)=false/\∃ g,KV b g/\h.DictOf (yZ P w) a g
  | .dT b=>b.length<=sizeLine/\(a == sysModules)=false/\∃ xs:List (List Key × Addr × Value),
      Paired (λ(p:List Key × V) (q:List Key × Addr × Value)=>p.1=q.1/\H q.2.1=some (.tup (p.1.map kV))/\RelV p.2 q.2.2) b xs /\
      ∃ o k m,h.get? a=some o/\o.ExactDict/\o.data=.dict k m/\k.toList=xs.map (entryOfKey (tupleKind (yZ P w)))/\(xs.map (·.1)).Nodup
  | .set S n=>h.SetOf (intKind P w) a S n
  | .ins C d fs=>H d=some (.own a)/\fs.length<=1000/\d≠a/\h.get? a=some (PySem.W.instObj C d) /\
      ∃ c,h.Ns1 d c/\(∀ f,RelO (fs.lookup f) (c f))/\PySem.Within c (fs.map (·.1))
  | .own _=>∃ o,h.get? a=some o
  | .xd fs=>∃ c,h.Ns1 a c/\∀ f,RelO (fs.lookup f) (c f)
  | .rng lo hi=>∃ t u v,h.get? a=some { cls:=.type "range",data:=.fields #[.int lo t,.int hi u,.int 1 v] }
  | .frz o u=>h.get? a=some o/\ObjOk H h a u
  | .tbl l=>h.get? a=some { cls:=.none,data:=.fields l }
  | .met f x=>h.get? a=some (PySem.W.methodObj (.ref f) (.ref x))
  | .ext e=>e h/\(∃ o,h.get? a=some o)/\∀ j i:Heap,e j->(∀ o,j.get? a=some o->i.get? a=some o)->e i
def HOk (H:Hp)(h:Heap):Prop:=∀ a o,H a=some o->ObjOk P w H h a o
end
section
variable {P:Program}{w:World}{H H':Hp}{h h':Heap}{a:Addr}{o:HO}
theorem ObjOk.lt (x:ObjOk P w H h a o):a<h.objs.size:=by
  cases o with
  | lst c=>obtain⟨_,_,_,_,e⟩:=x;exact Jr e
  | tup c=>obtain⟨_,_,_,p⟩:=x;exact p.tup.lt
  | dK b=>obtain⟨_,_,_,_,o,_,_,e,_⟩:=x;exact Jr e
  | dT b=>obtain⟨_,_,_,_,o,_,_,e,_⟩:=x;exact Jr e
  | set S n=>obtain⟨o,_,_,_,e,_⟩:=x;exact Jr e
  | ins C i fs=>obtain⟨_,_,_,e,_⟩:=x;exact Jr e
  | own y=>obtain⟨_,e⟩:=x;exact Jr e
  | xd fs=>obtain⟨_,⟨_,_,_,e,_⟩,_⟩:=x;exact Jr e
  | rng lo hi=>obtain⟨_,_,_,e⟩:=x;exact Jr e
  | frz ob u=>obtain⟨e,_⟩:=x;exact Jr e
  | tbl g=>exact Jr (show h.get? a=some _ from x)
  | met f y=>exact Jr (show h.get? a=some _ from x)
  | ext d=>obtain⟨_,⟨_,e⟩,_⟩:=x;exact Jr e
theorem Paired.mapP {α β:Type}{F G:α->β->Prop}:∀ {l₁:List α}{l₂:List β},Paired F l₁ l₂->(∀ a b,F a b->G a b)->Paired G l₁ l₂
  | _,_,.nil,_=>.nil
  | _,_,.cons r t,f=>.cons (f _ _ r) (Paired.mapP t f)
theorem ObjOk.stay (x:ObjOk P w H h a o)(k:∀ b u,(b=a\/H b=some (.own a))->h.get? b=some u->h'.get? b=some u)(E:∀ b,H b=some (.own a)->H' b=some (.own a))(D:∀ b xs,H b=some (.tup xs)->H' b=some (.tup xs)):ObjOk P w H' h' a o:=by
  induction o with
  | lst xs=>obtain⟨z,j,n,r,e⟩:=x;exact⟨z,j,n,r,k _ _ (.inl rfl) e⟩
  | tup xs=>obtain⟨z,j,r,ob,e,c⟩:=x;exact⟨z,j,r,ob,k _ _ (.inl rfl) e,c⟩
  | dK s=>obtain⟨z,y,B,r,ob,g,i,e,c⟩:=x;exact⟨z,y,B,r,ob,g,i,k _ _ (.inl rfl) e,c⟩
  | dT s =>
    obtain⟨z,y,xs,r,ob,g,i,e,c⟩:=x
    exact⟨z,y,xs,Paired.mapP r λp q z=>⟨z.1,D _ _ z.2.1,z.2.2⟩,ob,g,i,k _ _ (.inl rfl) e,c⟩
  | set S n=>obtain⟨ob,g,i,t,e,c⟩:=x;exact⟨ob,g,i,t,k _ _ (.inl rfl) e,c⟩
  | ins C G fs =>
    obtain⟨d,z,ne,e,m,⟨l,g,i,e2,c⟩,r⟩:=x
    exact⟨E _ d,z,ne,k _ _ (.inl rfl) e,m,⟨l,g,i,k _ _ (.inr d) e2,c⟩,r⟩
  | own y=>obtain⟨ob,e⟩:=x;exact⟨ob,k _ _ (.inl rfl) e⟩
  | xd fs=>obtain⟨m,⟨l,g,i,e,c⟩,r⟩:=x;exact⟨m,⟨l,g,i,k _ _ (.inl rfl) e,c⟩,r⟩
  | rng lo hi=>obtain⟨t,u,v,e⟩:=x;exact⟨t,u,v,k _ _ (.inl rfl) e⟩
  | frz ob u ih=>obtain⟨e,q⟩:=x;exact⟨k _ _ (.inl rfl) e,ih q⟩
  | tbl A =>
    have e:h.get? a=some { cls:=.none,data:=.fields A }:=x;show h'.get? a=some { cls:=.none,data:=.fields A }
    exact k a _ (.inl rfl) e
  | met f y =>
    have e:h.get? a=some (PySem.W.methodObj (.ref f) (.ref y)):=x;show h'.get? a=some (PySem.W.methodObj (.ref f) (.ref y))
    exact k a _ (.inl rfl) e
  | ext F=>obtain⟨p,⟨o,e⟩,st⟩:=x;exact⟨st _ _ p λo q=>k _ _ (.inl rfl) q,⟨o,k _ _ (.inl rfl) e⟩,st⟩
theorem HOk.lt (x:HOk P w H h)(e:H a=some o):a<h.objs.size:=(x a o e).lt
theorem HOk.fresh (x:HOk P w H h)(e:h.objs.size<=a):H a=none:=by
  cases q:H a with
  | none=>rfl
  | some u=>exact absurd (JL (x.lt q) e) (YR _)
theorem HOk.kept (x:HOk P w H h)(k:∀ b u,h.get? b=some u->h'.get? b=some u):HOk P w H h':=λa o e =>
  (x a o e).stay (λb u _ q=>k b u q) (λ_ q=>q) λ_ _ q=>q
theorem HOk.laid (x:HOk P w H h)(k:∀ b u,h.get? b=some u->h'.get? b=some u)(g:h.objs.size<=a)(new:ObjOk P w (upd H a o) h' a o):HOk P w (upd H a o) h':=λb u e=>by
  have d:=x.fresh g;by_cases f:b=a
  · subst f;rw[zD]at e;cases e;exact new
  · rw[zG f]at e
    exact(x b u e).stay (λc v _ q=>k c v q) (λc q=>by rw[zG (zF q d)];exact q) λc i q=>by rw[zG (zF q d)];exact q
end
def Rd (H:Hp)(a:Addr)(u:HO):Prop:=H a=some u\/∃ o,H a=some (.frz o u)
theorem Rd.ok {P:Program}{w:World}{H:Hp}{h:Heap}{a:Addr}{u:HO}(r:Rd H a u)(x:HOk P w H h):ObjOk P w H h a u:=by
  rcases r with r|⟨o,r⟩
  · exact x a u r
  · obtain⟨_,q⟩:=x a _ r
    exact q
def Mut:Option HO->Prop
  | some (.lst _)=>True
  | some (.dK _)=>True
  | some (.dT _)=>True
  | some (.set _ _)=>True
  | some (.ins _ _ _)=>True
  | some (.ext _)=>True
  | _=>False
section
variable {P:Program}{w:World}{H:Hp}{h h':Heap}{x e:Addr}{o':HO}
theorem HOk.write (ok:HOk P w H h)(i:Mut (H x))(o:e=x\/H e=some (.own x))(k:∀ b u,b≠e->h.get? b=some u->h'.get? b=some u)(m:∃ u,h'.get? e=some u)(new:ObjOk P w (upd H x o') h' x o'):HOk P w (upd H x o') h':=λb u q=>by
  have d:∀ c y,H c=some (.own y)->c≠x:=λc y r z=>by subst z;rw[r]at i;exact i
  have f:∀ c g,H c=some (.tup g)->c≠x:=λc g r z=>by subst z;rw[r]at i;exact i
  by_cases l:b=x
  · subst l;rw[zD]at q;cases q;exact new
  · rw[zG l]at q
    by_cases a:b=e
    · have n:H b=some (.own x):=by
        rcases o with z|z
        · exact absurd (a.trans z) l
        · rw[a];exact z
      rw[q]at n;cases n;obtain⟨v,p⟩:=m;exact⟨v,by rw[a];exact p⟩
    · refine(ok b u q).stay (λc v j r=>k c v ?_ r) (λc r=>by rw[zG (d c b r)];exact r) λc g r=>by rw[zG (f c g r)];exact r
      rcases j with rfl|j
      · exact a
      · rintro rfl
        rcases o with z|z
        · exact d c b j z
        · rw[j]at z;cases z;exact l rfl
end
structure Un (fs ex:List Addr) (H H':Hp) (h h':Heap):Prop where
  keep:∀ b o,h.get? b=some o->H b=none->b∉fs->b∉ex->h'.get? b=some o
  slot:∀ b o,h.get? b=some o->H b=none->b∈fs->b∉ex->∃ sl,h'.get? b=some { o with slots:=sl }
  free:∀ b o,h.get? b=some o->H b=none->b∉ex->H' b=none
  there:∀ b o,h.get? b=some o->b∉ex->∃ o',h'.get? b=some o'
  tups:∀ b xs,H b=some (.tup xs)->H' b=some (.tup xs)
  frzs:∀ b o u,H b=some (.frz o u)->H' b=some (.frz o u)
  tbls:∀ b ps,H b=some (.tbl ps)->∃ more,H' b=some (.tbl (ps++more))
section
variable {fs ex:List Addr}{H H1:Hp}{h h1 h':Heap}{a x e:Addr}{o:HO}
theorem Un.any (u:Un fs ex H H1 h h1){b:Addr}{ob:Obj}(q:h.get? b=some ob)(n:H b=none)(a:b∉ex):∃ sl,h1.get? b=some { ob with slots:=sl }:=by
  by_cases c:b∈fs
  · exact u.slot b ob q n c a
  · exact⟨ob.slots,u.keep b ob q n c a⟩
theorem Un.kept (k:∀ b u,h.get? b=some u->h'.get? b=some u):Un fs ex H H h h' :=
  ⟨λb ob q _ _ _=>k b ob q,λb ob q _ _ _=>⟨ob.slots,k b ob q⟩,λ_ _ _ n _=>n,λb ob q _=>⟨ob,k b ob q⟩,λ_ _ q=>q,λ_ _ _ q=>q,λ_ a q=>⟨#[],by rw[q];simp⟩⟩
theorem Un.refl:Un fs ex H H h h:=Un.kept λ_ _ q=>q
theorem Un.laid (k:∀ b u,h.get? b=some u->h'.get? b=some u)(d:h.objs.size<=a)(hn:H a=none):Un fs ex H (upd H a o) h h' where
  keep:=λb u q _ _ _=>k b u q
  slot:=λb u q _ _ _=>⟨u.slots,k b u q⟩
  free:=λb u q n _=>by rw[zG (JH (JL (Jr q) d))];exact n
  there:=λb u q _=>⟨u,k b u q⟩
  tups:=λb c q=>by rw[zG (zF q hn)];exact q
  frzs:=λb u c q=>by rw[zG (zF q hn)];exact q
  tbls:=λb e q=>⟨#[],by rw[zG (zF q hn),q];simp⟩
theorem Un.write (c:Mut (H x))(l:e=x\/H e=some (.own x))(k:∀ b u,b≠e->h.get? b=some u->h'.get? b=some u)(f:∃ u,h'.get? e=some u):Un fs ex H (upd H x o) h h':=by
  have g:∀ b,H b=none->b≠x:=λb n z=>by subst z;rw[n]at c;exact c
  have i:∀ b,H b=none->b≠e:=λb n z=>by
    subst z;rcases l with r|r
    · exact g b n r
    · rw[n]at r;cases r
  have d:∀ b u,H b=some u->¬ Mut (some u)->b≠x:=λb u q nm z=>by subst z;rw[q]at c;exact nm c
  refine⟨λb u q n _ _=>k b u (i b n) q,λb u q n _ _=>⟨u.slots,k b u (i b n) q⟩,λb u q n _=>by rw[zG (g b n)];exact n,λb u q _=>?_,
    λb j q=>by rw[zG (d b _ q λz=>z)];exact q,λb u j q=>by rw[zG (d b _ q λz=>z)];exact q,λb m q=>⟨#[],by rw[zG (d b _ q λz=>z),q];simp⟩⟩
  by_cases a:b=e
  · subst a;exact f
  · exact⟨u,k b u a q⟩
end
def trk (h:Heap)(H:Hp):List Addr:=(List.range h.objs.size).filter λa=>(H a).isSome
def sR (h:Heap)(H:Hp):Heap:=PySem.W.hideAll h (trk h H)
theorem iA (h:Heap)(H:Hp):(sR h H).objs.size=h.objs.size:=PySem.W.hideAll_size _ _
theorem fj {h:Heap}{H:Hp}{b:Addr}{o:Obj}(e:h.get? b=some o)(n:H b=none):(sR h H).get? b=some o :=
  PySem.W.hideAll_get _ e λa=>by
    have q:(H b).isSome=true:=(List.mem_filter.mp a).2;rw[n]at q;simp at q
theorem cE {h:Heap}{H:Hp}{b:Addr}{o:Obj}(e:(sR h H).get? b=some o):h.get? b=some o/\H b=none:=by
  have a:h.get? b=some o:=PySem.W.of_hideAll (trk h H) e;refine⟨a,?_⟩
  cases q:H b with
  | none=>rfl
  | some x =>
    have c:b∈trk h H:=List.mem_filter.mpr ⟨Zm.mpr (Jr a),by simp[q]⟩;have z:(sR h H).get? b=none:=PySem.W.hideAll_none (trk h H) c;rw[z]at e;cases e
def bI (g h:Heap)(L:Addr):List (Addr × Obj):=(List.range h.objs.size).filterMap λa=>if a=L\/(g.get? a).isSome=true then none else (h.get? a).map λo=>(a,o)
def rest (g h:Heap)(L d:Addr):List (Addr × Obj):=(bI g h L).filter λp=>decide (p.1≠d)
structure Mod (K:PySem.W.Frag) (mg:Str->Option Value) (base:Heap):Prop where
  kin:K.In base
  glob:base.Ns mainGlobals mg
  blt:∃ mb,base.Ns builtinsNs mb/\∀ x:Str,x≠"__name__"->mb x=bootBuiltins x
  nolimit:base.NoLimit
structure Cx where
  prog:Program
  w:World
  K:PySem.W.Frag
  mg:Str->Option Value
  base:Heap
  A:Around
  N:List Str
  s₀:Shared
  H₀:Hp
  env:Env
  outer:List Env
  stack:List Env
  ex:List Addr
  fn:Str->Bool
  calm:Bool
  pn:List (Addr × Obj)
  xe:Value->Shared->Prop
def frs (l:List Env):List Addr:=l.filterMap (·.frame)
abbrev Cx.fs (X:Cx):List Addr:=frs X.outer
def Vis (sc:Scope)(x:Str):Prop:=sc.names.lookup x=some .local \/ sc.names.lookup x=some .cell\/sc.names.lookup x=some .free
def Loc (sc:Scope)(x:Str):Prop:=sc.names.lookup x=some .local \/ sc.names.lookup x=some .cell
def Look (env:Env)(h:Heap)(m:Str->Option Value)(x:Str)(u:Value):Prop :=
  (env.kindOf x=some .local /\ m x=some u)\/((env.kindOf x=some .cell\/env.kindOf x=some .free)/\∃ c,env.cells.lookup x=some c/\h.IsCell c (some u))
structure Cx.Ok (X:Cx):Prop where
  mod:Mod X.K X.mg X.base
  kind:X.env.scope.kind=.function
  glob:X.env.globals=mainGlobals
  blt:X.env.builtins=builtinsNs
  above:X.s₀.heap.objs.size<=X.env.locals
  inj:∀ x y c,X.env.cells.lookup x=some c->X.env.cells.lookup y=some c->x=y
  has:∀ x,(X.env.kindOf x=some .cell\/X.env.kindOf x=some .free)->∃ c,X.env.cells.lookup x=some c
  cab:∀ x c,X.fn x=true->X.env.cells.lookup x=some c->X.s₀.heap.objs.size<=c
  hd:X.calm=true->X.A.handled=none
  frames:X.A.frames=some X.stack
  stk:X.stack=X.outer\/(X.stack=X.env::X.outer/\X.env.frame=some X.env.locals)
  exf:∀ b∈X.ex,b≠X.env.locals/\∀ x c,X.env.cells.lookup x=some c->c≠b
  bs:∀ b o,X.base.get? b=some o->X.s₀.heap.get? b=some o/\X.H₀ b=none
  bsz:X.base.objs.size<=X.s₀.heap.objs.size
  noex:∀ b o,X.base.get? b=some o->b∉X.ex
  exfs:∀ b∈X.ex,b∉X.fs
  funs:X.s₀.heap.FunFrames X.base X.outer
  frf:∀ b∈X.fs,X.H₀ b=none
structure Inv (X:Cx) (pins:List (Addr × Obj)) (σ:List (Option V)) (H:Hp) (s:Shared):Prop where
  ok:X.Ok
  os:s.os=X.s₀.os
  bare:AllBare s.gens
  base:Un X.fs X.ex X.H₀ H X.s₀.heap s.heap
  loc:∃ m,s.heap.Ns X.env.locals m/\∀ (i:Nat) (x:Str) (v:V),X.N[i]?=some x->σ[i]?=some (some v)->Vis X.env.scope x->∃ u,RelV v u/\Look X.env s.heap m x u
  cell:∀ x c,X.env.cells.lookup x=some c->∃ v,s.heap.IsCell c v
  free:H X.env.locals=none
  freeC:∀ x c,X.env.cells.lookup x=some c->H c=none
  pin:∀ p∈X.pn++pins,s.heap.get? p.1=some p.2/\H p.1=none/\p.1≠X.env.locals/\p.1∉X.fs/\∀ v,p.2.data≠.cell v
  hok:HOk X.prog X.w H s.heap
  len:σ.length=X.N.length
section
variable {X:Cx}{pins:List (Addr × Obj)}{σ:List (Option V)}{H H':Hp}{s:Shared}{h':Heap}
theorem Cx.Ok.nofr (ok:X.Ok){b:Addr}{o:Obj}(e:X.base.get? b=some o):b∉X.fs:=λa=>by
  have:=(ok.funs.mem a).1;rw[e]at this;cases this
theorem Inv.bs (I:Inv X pins σ H s):∀ b o,X.base.get? b=some o->s.heap.get? b=some o/\H b=none:=λb o e =>
  ⟨I.base.keep b o (I.ok.bs b o e).1 (I.ok.bs b o e).2 (I.ok.nofr e) (I.ok.noex b o e),I.base.free b o (I.ok.bs b o e).1 (I.ok.bs b o e).2 (I.ok.noex b o e)⟩
theorem Inv.bk (I:Inv X pins σ H s):∀ b o,X.base.get? b=some o->s.heap.get? b=some o:=λb o e=>(I.bs b o e).1
theorem Inv.mod (I:Inv X pins σ H s):Mod X.K X.mg X.base:=I.ok.mod
theorem Inv.kIn (I:Inv X pins σ H s):X.K.In s.heap:=I.ok.mod.kin.keeps I.bk
theorem Inv.lt (I:Inv X pins σ H s):X.env.locals<s.heap.objs.size:=let ⟨_,a,_⟩:=I.loc;a.lt
theorem Inv.sz (I:Inv X pins σ H s):X.s₀.heap.objs.size<=s.heap.objs.size:=JR I.ok.above (Nat.le_of_lt I.lt)
theorem Inv.nofs (I:Inv X pins σ H s){a:Addr}(h:s.heap.objs.size<=a):a∉X.fs:=λc=>by
  obtain⟨_,o,b,_⟩:=I.ok.funs.mem c;exact absurd (JL (Jr b) (JR I.sz h)) (YR _)
theorem Inv.cne (I:Inv X pins σ H s):∀ x c,X.env.cells.lookup x=some c->c≠X.env.locals:=λx c e z=>by
  obtain⟨v,o,d,f⟩:=I.cell x c e;obtain⟨m,⟨g,h,i,a,b,_⟩,_⟩:=I.loc;rw[z,a]at d;cases d;rw[b]at f;cases f
theorem Inv.funs (I:Inv X pins σ H s):s.heap.FunFrames X.base X.outer:=by
  have all:∀ (l:List Env),(∀ b∈frs l,b∈X.fs)->X.s₀.heap.FunFrames X.base l->s.heap.FunFrames X.base l:=by
    intro l
    induction l with
    | nil=>intro _ _;trivial
    | cons env r ih =>
      intro f j;obtain⟨k,⟨L,o,a,i,h,m⟩,g⟩:=j;have d:L∈X.fs:=f L (by unfold frs;rw[List.filterMap_cons,a];exact JF);obtain⟨n,e⟩:=I.base.slot L o h (I.ok.frf L d) d λz=>I.ok.exfs L z d;exact⟨k,⟨L,_,a,i,e,m⟩,ih (λb c=>f b (by unfold frs;rw[List.filterMap_cons,a];exact JE _ c)) g⟩
  exact all X.outer (λ_ c=>c) I.ok.funs
theorem Inv.stack (I:Inv X pins σ H s):s.heap.FunFrames X.base X.stack:=by
  rcases I.ok.stk with e|⟨e,b⟩
  · rw[e];exact I.funs
  · rw[e]
    obtain⟨m,a,_⟩:=I.loc;refine .cons (by rw[I.ok.kind];decide) b a ?_ I.funs;exact Heap.get?_none_of_le (JR I.ok.bsz I.ok.above)
theorem Inv.stkSub (I:Inv X pins σ H s):∀ b∈frs X.stack,b∈X.env.locals::X.fs:=λb a=>by
  rcases I.ok.stk with e|⟨e,c⟩
  · rw[e]at a;exact JE _ a
  · rw[e]at a
    unfold frs at a;rw[List.filterMap_cons,c]at a;exact a
theorem Inv.stkFree (I:Inv X pins σ H s):∀ b∈frs X.stack,H b=none:=λb a=>by
  rcases Js.mp (I.stkSub b a) with e|a
  · rw[e];exact I.free
  · obtain⟨_,o,c,_⟩:=I.ok.funs.mem a
    exact I.base.free b o c (I.ok.frf b a) λz=>I.ok.exfs b z a
theorem Inv.step {g':Array GenState}{t':Nat}{d':Drawn}{ch:List Addr}(I:Inv X pins σ H s)(g:∀ b∈ch,(b∈X.ex\/X.s₀.heap.objs.size<=b)/\b≠X.env.locals/\(∀ x c,X.env.cells.lookup x=some c->c≠b)/\∀ p∈X.pn++pins,p.1≠b)(keep:∀ b o,b≠X.env.locals->b∉X.fs->b∉ch->s.heap.get? b=some o->H b=none->h'.get? b=some o)(slot:∀ b o,b≠X.env.locals->b∈X.fs->b∉ch->s.heap.get? b=some o->H b=none->∃ sl,h'.get? b=some { o with slots:=sl })(free:∀ b o,b∉ch->s.heap.get? b=some o->H b=none->H' b=none)(there:∀ b o,b∉ch->s.heap.get? b=some o->∃ A,h'.get? b=some A)(tups:∀ b t,H b=some (.tup t)->H' b=some (.tup t))(D:∀ b o u,H b=some (.frz o u)->H' b=some (.frz o u))(C:∀ b E,H b=some (.tbl E)->∃ more,H' b=some (.tbl (E++more)))(ns:∀ m,s.heap.Ns X.env.locals m->h'.Ns X.env.locals m)(J:HOk X.prog X.w H' h')(R:AllBare g') :
    Inv X pins σ H' { s with heap:=h',gens:=g',drawn:=d',toks:=t' }:=by
  have B:∀ b o,X.s₀.heap.get? b=some o->b≠X.env.locals:=λb o e=>JH (JL (Jr e) I.ok.above)
  have j:∀ b o,X.s₀.heap.get? b=some o->b∉X.ex->b∉ch:=λb o e a w=>by
    rcases (g b w).1 with z|z
    · exact a z
    · exact absurd (JL (Jr e) z) (YR _)
  have cellK:∀ x c,X.env.cells.lookup x=some c->∀ v,s.heap.IsCell c v->h'.IsCell c v:=λx c e v ⟨o,y,F⟩=>by
    have f:c∉ch:=λz=>(g c z).2.2.1 x c e rfl;by_cases M:c∈X.fs
    · obtain⟨sl,q⟩:=slot c o (I.cne x c e) M f y (I.freeC x c e)
      exact⟨_,q,F⟩
    · exact⟨o,keep c o (I.cne x c e) M f y (I.freeC x c e),F⟩
  refine⟨I.ok,I.os,R,⟨λb o e n w a=>?_,λb o e n w a=>?_,λb o e n a=>?_,λb o e a=>?_,λb t e=>tups b t (I.base.tups b t e),λb o t e=>D b o t (I.base.frzs b o t e),λb E e=>?_⟩,?_,λx c e=>?_,?_,λx c e=>?_,λp L=>?_,J,I.len⟩
  · exact keep b o (B b o e) w (j b o e a) (I.base.keep b o e n w a) (I.base.free b o e n a)
  · obtain⟨sl,h⟩:=I.base.slot b o e n w a
    obtain⟨G,e2⟩:=slot b _ (B b o e) w (j b o e a) h (I.base.free b o e n a);exact⟨G,e2⟩
  · obtain⟨A,h⟩:=I.base.there b o e a
    exact free b A (j b o e a) h (I.base.free b o e n a)
  · obtain⟨A,h⟩:=I.base.there b o e a
    exact there b A (j b o e a) h
  · obtain⟨O,h⟩:=I.base.tbls b E e
    obtain⟨N,e2⟩:=C b _ h;exact⟨O++N,by rw[e2,Array.append_assoc]⟩
  · obtain⟨m,P,Q⟩:=I.loc
    refine⟨m,ns m P,λi x v h e2 S=>?_⟩;obtain⟨u,r,l⟩:=Q i x v h e2 S;refine⟨u,r,?_⟩;rcases l with l|⟨k,c,e,z⟩
    · exact .inl l
    · exact .inr ⟨k,c,e,cellK x c e _ z⟩
  · obtain⟨v,z⟩:=I.cell x c e
    exact⟨v,cellK x c e v z⟩
  · obtain⟨m,⟨o,_,_,y,_⟩,_⟩:=I.loc
    exact free _ o (λz=>(g _ z).2.1 rfl) y I.free
  · obtain⟨v,o,y,F⟩:=I.cell x c e
    exact free c o (λz=>(g c z).2.2.1 x c e rfl) y (I.freeC x c e)
  · obtain⟨e,n,ne,K,d⟩:=I.pin p L
    have f:p.1∉ch:=λz=>(g p.1 z).2.2.2 p L rfl;exact⟨keep p.1 p.2 ne K f e n,free p.1 p.2 f e n,ne,K,d⟩
theorem Inv.un {t':Nat}(I:Inv X pins σ H s)(u:Un X.fs [] H H' s.heap h')(hok:HOk X.prog X.w H' h'):Inv X pins σ H' { s with heap:=h',toks:=t' }:=by
  obtain⟨m,⟨o,q,t,g,r⟩,_⟩:=id I.loc;obtain⟨k,j⟩:=u.any g I.free (by simp)
  exact I.step (g':=s.gens) (d':=s.drawn) (ch:=[]) (λ_ z=>nomatch z) (λb o _ c _ e n=>u.keep b o e n c (by simp)) (λb o _ c _ e n=>u.slot b o e n c (by simp)) (λb o _ e n=>u.free b o e n (by simp)) (λb o _ e=>u.there b o e (by simp)) u.tups u.frzs u.tbls (λp i=>by
    obtain⟨l,d,f,a,h⟩:=i;rw[g]at a;cases a
    exact⟨_,d,f,j,h⟩) hok I.bare
theorem Inv.call {g':Array GenState}{t':Nat}{d':Drawn}{ch:List Addr}(I:Inv X pins σ H s)(u:Un (frs X.stack) ch H H' s.heap h')(hok:HOk X.prog X.w H' h')(q:AllBare g')(f:∀ b∈ch,(b∈X.ex\/X.s₀.heap.objs.size<=b)/\b≠X.env.locals/\(∀ x c,X.env.cells.lookup x=some c->c≠b)/\∀ p∈X.pn++pins,p.1≠b) :
    Inv X pins σ H' { s with heap:=h',gens:=g',drawn:=d',toks:=t' }:=by
  obtain⟨m,⟨o,A,B,j,r⟩,_⟩:=id I.loc;obtain⟨v,g⟩:=u.any j I.free λz=>(f _ z).2.1 rfl
  exact I.step (ch:=ch) f (λb o g t a e n=>u.keep b o e n (λz=>(Js.mp (I.stkSub b z)).elim g t) a) (λb o _ _ a e n=>u.any e n a) (λb o a e n=>u.free b o e n a) (λb o a e=>u.there b o e a) u.tups u.frzs u.tbls (λy l=>by
    obtain⟨w,h,i,d,k⟩:=l;rw[j]at d;cases d
    exact⟨_,h,i,g,k⟩) hok q
theorem Inv.turned {t':Nat}{it:Addr}(I:Inv X pins σ H s)(k:∀ b o,b≠it->s.heap.get? b=some o->h'.get? b=some o)(hn:H it=none)(f:it≠X.env.locals)(t:it∈X.ex\/X.s₀.heap.objs.size<=it)(l:∀ x c,X.env.cells.lookup x=some c->c≠it)(j:∀ p∈X.pn++pins,p.1≠it):Inv X pins σ H { s with heap:=h',toks:=t' }:=by
  have d:∀ b u,H b=some u->b≠it:=λb u e z=>by rw[z,hn]at e;cases e
  refine I.step (g':=s.gens) (d':=s.drawn) (ch:=[it]) (λb i=>?_) (λb o _ _ a e _=>k b o (λz=>a (by simp[z])) e) (λb o _ _ a e _=>⟨o.slots,k b o (λz=>a (by simp[z])) e⟩) (λ_ _ _ _ n=>n)
    (λb o a e=>⟨o,k b o (λz=>a (by simp[z])) e⟩) (λ_ _ e=>e) (λ_ _ _ e=>e) (λb A e=>⟨#[],by rw[e];simp⟩) (λm h=>?_) (λb u e=>?_) I.bare
  · have e:b=it:=by simpa using i
    subst e;exact⟨t,f,l,j⟩
  · obtain⟨o,w,y,g,r⟩:=h
    exact⟨o,w,y,k _ o (Ne.symm f) g,r⟩
  · refine(I.hok b u e).stay (λc v a q=>k c v ?_ q) (λ_ q=>q) λ_ _ q=>q
    rcases a with z|z
    · rw[z];exact d b u e
    · exact d c _ z
theorem Inv.tok (I:Inv X pins σ H s)(t:Nat):Inv X pins σ H { s with toks:=t }:=I.un (h':=s.heap) (t':=t) Un.refl I.hok
theorem Inv.kept {t':Nat}(I:Inv X pins σ H s)(k:∀ b u,s.heap.get? b=some u->h'.get? b=some u):Inv X pins σ H { s with heap:=h',toks:=t' }:=I.un (Un.kept k) (I.hok.kept k)
theorem Inv.laid {a:Addr}{o:HO}{t':Nat}(I:Inv X pins σ H s)(k:∀ b u,s.heap.get? b=some u->h'.get? b=some u)(c:s.heap.objs.size<=a)(new:ObjOk X.prog X.w (upd H a o) h' a o) :
    Inv X pins σ (upd H a o) { s with heap:=h',toks:=t' }:=I.un (Un.laid k c (I.hok.fresh c)) (I.hok.laid k c new)
theorem Inv.write {x e:Addr}{o:HO}{t':Nat}(I:Inv X pins σ H s)(c:Mut (H x))(d:e=x\/H e=some (.own x))(k:∀ b u,b≠e->s.heap.get? b=some u->h'.get? b=some u)(a:∃ u,h'.get? e=some u)(new:ObjOk X.prog X.w (upd H x o) h' x o):Inv X pins σ (upd H x o) { s with heap:=h',toks:=t' }:=I.un (Un.write c d k a) (I.hok.write c d k a new)
theorem Inv.pins_of {a:List (Addr × Obj)}(I:Inv X pins σ H s)(h:∀ p∈a,s.heap.get? p.1=some p.2/\H p.1=none/\p.1≠X.env.locals/\p.1∉X.fs/\∀ v,p.2.data≠.cell v):Inv X a σ H s :=
  ⟨I.ok,I.os,I.bare,I.base,I.loc,I.cell,I.free,I.freeC,λp b=>(Jy.mp b).elim (λz=>I.pin p (Yj _ z)) (h p),I.hok,I.len⟩
theorem oP {N:List Str}(c:N.Nodup){i j:Nat}{x:Str}(a:N[i]?=some x)(b:N[j]?=some x):i=j:=by
  obtain⟨f,d⟩:=Jc.mp a;obtain⟨e,e2⟩:=Jc.mp b;exact(List.getElem_inj c).mp (d.trans e2.symm)
theorem sY {M:Model}{A:Around}{E:Value->Shared->Prop}{i:Nat}{x:Str}{v:V}{u:Value}{Q:Unit->Shared->Prop}(I:Inv X pins σ H s)(hN:X.N.Nodup)(hi:X.N[i]?=some x)(t:Loc X.env.scope x)(r:RelV v u)(h:∀ W,Inv X pins (σ.set i (some v)) H W->(∃ a,Heap.SameBut a s.heap W.heap/\(a=X.env.locals\/X.env.cells.lookup x=some a))->Q () W)(hf:X.fn x=true\/X.env.scope.names.lookup x=some .local:=by first|exact .inl rfl|exact .inr rfl|assumption):wpAny M A (storeName X.env x u) Q E s:=by
  obtain⟨m,hn,hl⟩:=id I.loc;have O:(X.env.scope.kind == .class || (X.env.scope.kind == .module && X.env.locals != X.env.globals))=false:=by rw[I.ok.kind];rfl
  have C:i<σ.length:=by rw[I.len];exact(Jc.mp hi).1
  have cne:=I.cne
  have tracked:∀ {a:Addr}{h':Heap},(∃ o,s.heap.get? a=some o/\H a=none)->Heap.SameBut a s.heap h'->HOk X.prog X.w H h':=λ{a h'} ha f b ob e=>by
    obtain⟨_,_,w⟩:=ha;refine(I.hok b ob e).stay (λc P l q=>(f.2 c ?_).trans q) (λ_ q=>q) λ_ _ q=>q;rintro rfl;rcases l with rfl|l
    · rw[w]at e;cases e
    · rw[w]at l;cases l
  rcases t with B|B
  · refine wpAny_storeName_local B hn (λh' ao f=>?_) O
    obtain⟨oL,_,_,ab,_⟩:=id hn;refine h _ ⟨I.ok,I.os,I.bare,⟨λb o e n F t=>?_,λb o e n F t=>?_,I.base.free,λb o e t=>?_,I.base.tups,I.base.frzs,I.base.tbls⟩,⟨_,ao,λj y S g e2 e3=>?_⟩,λy c e=>?_,I.free,I.freeC,λp hp=>?_,tracked ⟨oL,ab,I.free⟩ f,by simpa using I.len⟩ ⟨_,f,.inl rfl⟩
    · exact(f.2 b (JH (JL (Jr e) I.ok.above))).trans (I.base.keep b o e n F t)
    · obtain⟨U,g⟩:=I.base.slot b o e n F t
      exact⟨U,(f.2 b (JH (JL (Jr e) I.ok.above))).trans g⟩
    · obtain⟨Z,g⟩:=I.base.there b o e t
      exact⟨Z,(f.2 b (JH (JL (Jr e) I.ok.above))).trans g⟩
    · by_cases D:j=i
      · subst D
        rw[hi]at g;cases g;rw[List.getElem?_set_self C]at e2;cases e2;exact⟨u,r,.inl ⟨B,by simp⟩⟩
      · rw[List.getElem?_set_ne (Ne.symm D)]at e2
        obtain⟨T,Y,q⟩:=hl j y S g e2 e3;refine⟨T,Y,?_⟩;rcases q with ⟨k,e⟩|⟨k,c,e,z⟩
        · refine .inl ⟨k,?_⟩
          have:y≠x:=λe=>D (oP hN g (e ▸ hi));simp[this,e]
        · exact .inr ⟨k,c,e,z.sameBut f (cne y c e)⟩
    · obtain⟨P,z⟩:=I.cell y c e
      exact⟨P,z.sameBut f (cne y c e)⟩
    · obtain⟨e,n,ne,nf,d⟩:=I.pin p hp
      exact⟨(f.2 p.1 ne).trans e,n,ne,nf,d⟩
  · have G:X.fn x=true:=by
      rcases hf with z|z
      · exact z
      · rw[z]at B;cases B
    obtain⟨c,l⟩:=I.ok.has x (.inl B);obtain⟨P,z⟩:=I.cell x c l;refine wpAny_storeName_cell I.ok.kind B l z (λh' L f=>?_);obtain⟨oc,J,N⟩:=id z;refine h { s with heap:=h' } ⟨I.ok,I.os,I.bare,⟨λb o e n F t=>?_,λb o e n F t=>?_,I.base.free,λb o e t=>?_,I.base.tups,I.base.frzs,I.base.tbls⟩,⟨m,hn.sameBut f (Ne.symm (cne x c l)),λj y S g e2 e3=>?_⟩,λy R e=>?_,I.free,I.freeC,λp hp=>?_,tracked ⟨oc,J,I.freeC x c l⟩ f,by simpa using I.len⟩ ⟨c,f,.inr l⟩
    · exact(f.2 b (JH (JL (Jr e) (I.ok.cab x c G l)))).trans (I.base.keep b o e n F t)
    · obtain⟨U,g⟩:=I.base.slot b o e n F t
      exact⟨U,(f.2 b (JH (JL (Jr e) (I.ok.cab x c G l)))).trans g⟩
    · obtain⟨Z,g⟩:=I.base.there b o e t
      exact⟨Z,(f.2 b (JH (JL (Jr e) (I.ok.cab x c G l)))).trans g⟩
    · by_cases D:j=i
      · subst D
        rw[hi]at g;cases g;rw[List.getElem?_set_self C]at e2;cases e2;exact⟨u,r,.inr ⟨.inl B,c,l,L⟩⟩
      · rw[List.getElem?_set_ne (Ne.symm D)]at e2
        obtain⟨T,Y,q⟩:=hl j y S g e2 e3;refine⟨T,Y,?_⟩;rcases q with q|⟨k,R,e,z'⟩
        · exact .inl q
        · refine .inr ⟨k,R,e,z'.sameBut f ?_⟩
          rintro rfl;exact D (oP hN g (I.ok.inj _ _ _ e l ▸ hi))
    · by_cases K:R=c
      · subst K;exact⟨_,L⟩
      · obtain⟨w2,z2⟩:=I.cell y R e
        exact⟨w2,z2.sameBut f K⟩
    · obtain⟨e,n,ne,nf,d⟩:=I.pin p hp
      refine⟨(f.2 p.1 ?_).trans e,n,ne,nf,d⟩;intro q;rw[q,J]at e;have q':oc=p.2:=Jm e;exact d P (by rw[<- q'];exact N)
theorem xR {M:Model}{A:Around}{E:Value->Shared->Prop}{i:Nat}{x:Str}{v:V}{u:Value}{Q:Unit->Shared->Prop}(I:Inv X pins σ H s)(d:X.N.Nodup)(hi:X.N[i]?=some x)(b:Loc X.env.scope x)(r:RelV v u)(h:∀ a,Inv X pins (σ.set i (some v)) H a->Q () a)(c:X.fn x=true\/X.env.scope.names.lookup x=some .local:=by first|exact .inl rfl|exact .inr rfl|assumption):wpAny M A (storeName X.env x u) Q E s :=
  sY I d hi b r (λa e _=>h a e) c
theorem Inv.call' {a:Shared}{ch:List Addr}(I:Inv X pins σ H s)(g:a.os=s.os)(u:Un (frs X.stack) ch H H' s.heap a.heap)(hok:HOk X.prog X.w H' a.heap)(h:AllBare a.gens)(d:∀ b∈ch,(b∈X.ex\/X.s₀.heap.objs.size<=b)/\b≠X.env.locals/\(∀ x c,X.env.cells.lookup x=some c->c≠b)/\∀ p∈X.pn++pins,p.1≠b):Inv X pins σ H' a:=by
  obtain⟨h',g',d',t',f⟩:=a;have e:f=s.os:=g;subst e;exact I.call (g':=g') (t':=t') (d':=d') u hok h d
end
abbrev XK:=Value->Option Addr->Hp->Prop
abbrev St:=List (Option V)
abbrev VK:=V->Hp->Prop
abbrev TE:=St->Hp->VK->Prop
abbrev TT:=St->Hp->(Bool->Hp->Prop)->Prop
abbrev TA:=St->Hp->(List V->Hp->Prop)->Prop
structure Ends where
  nx:St->Hp->Prop
  rt:VK
  bk:St->Hp->Prop:=λ_ _=>False
  ct:St->Hp->Prop:=λ_ _=>False
abbrev TS:=Ends->St->Hp->Prop
def EP (X:Cx)(pins:List (Addr × Obj))(σ:St)(Q:VK)(u:Value)(b:Shared):Prop:=∃ v a,Inv X pins σ a b/\RelV v u/\Q v a
def TP (X:Cx)(pins:List (Addr × Obj))(σ:St)(Q:Bool->Hp->Prop)(b:Bool)(c:Shared):Prop:=∃ a,Inv X pins σ a c/\Q b a
def AP (X:Cx)(pins:List (Addr × Obj))(σ:St)(Q:List V->Hp->Prop)(us:List Value)(c:Shared):Prop:=∃ a b,Inv X pins σ b c/\Vals a us/\Q a b
def SP (X:Cx)(pins:List (Addr × Obj))(D:Ends)(f:Flow)(c:Shared):Prop :=
  match f with
  | .next=>∃ a b,Inv X pins a b c/\D.nx a b
  | .brk=>∃ a b,Inv X pins a b c/\D.bk a b
  | .cont=>∃ a b,Inv X pins a b c/\D.ct a b
  | .ret u=>∃ v a b,Inv X pins a b c/\RelV v u/\D.rt v b
def PE (X:Cx)(e:Expr)(t:TE):Prop :=
  ∀ (pins:List (Addr × Obj)) (s:Shared) (σ:St) (H:Hp) (Q:VK),Inv X pins σ H s->t σ H Q->wpAny (model X.prog X.w) X.A (eval e X.env) (EP X pins σ Q) X.xe s
def PT (X:Cx)(e:Expr)(t:TT):Prop :=
  ∀ (pins:List (Addr × Obj)) (s:Shared) (σ:St) (H:Hp) (Q:Bool->Hp->Prop),Inv X pins σ H s->t σ H Q->wpAny (model X.prog X.w) X.A (isTrue e X.env (eval e X.env)) (TP X pins σ Q) X.xe s
def PW (X:Cx)(e:Expr)(t:TT):Prop :=
  ∀ (whole:Sem Value) (pins:List (Addr × Obj)) (s:Shared) (σ:St) (H:Hp) (Q:Bool->Hp->Prop),Inv X pins σ H s->t σ H Q->wpAny (model X.prog X.w) X.A (isTrue e X.env whole) (TP X pins σ Q) X.xe s
theorem PW.pt {X:Cx}{e:Expr}{t:TT}(h:PW X e t):PT X e t:=h _
def PA (X:Cx)(es:List Expr)(t:TA):Prop :=
  ∀ (pos:Pos) (pins:List (Addr × Obj)) (s:Shared) (σ:St) (H:Hp) (Q:List V->Hp->Prop),Inv X pins σ H s->t σ H Q->wpAny (model X.prog X.w) X.A (spliced (backTo pos (starEach es X.env))) (AP X pins σ Q) X.xe s
def PS (X:Cx)(st:Stmt)(t:TS):Prop :=
  ∀ (pins:List (Addr × Obj)) (s:Shared) (σ:St) (H:Hp) (D:Ends),Inv X pins σ H s->t D σ H->wpAny (model X.prog X.w) X.A (exec st X.env) (SP X pins D) X.xe s
def PSs (X:Cx)(st:List Stmt)(t:TS):Prop :=
  ∀ (pins:List (Addr × Obj)) (s:Shared) (σ:St) (H:Hp) (D:Ends),Inv X pins σ H s->t D σ H->wpAny (model X.prog X.w) X.A (execs st X.env) (SP X pins D) X.xe s
theorem thn {α:Type}{t:Sem α}{Q b:α->Shared->Prop}{M:Model}{A:Around}{E:Value->Shared->Prop}{s:Shared}(h:wpAny M A t Q E s)(c:∀ a s,Q a s->b a s):wpAny M A t b E s:=JN h c λ_ _ x=>x
section
variable {X:Cx}
def dO (i:Nat):TE:=λσ H Q=>∃ v,σ[i]?=some (some v)/\Q v H
def tC (v:V):TE:=λ_ H Q=>Q v H
theorem aN {i:Nat}{x:Str}{pos:Pos}(o:X.N[i]?=some x) (g:Vis X.env.scope x) (hd:(x == ("__debug__":Str))=false:=by decide) (d:(x == ("__classdict__":Str))=false:=by decide):PE X (.Name x pos) (dO i):=by
  intro pins s σ H Q I h;obtain⟨v,e,h⟩:=h;obtain⟨m,j,n⟩:=I.loc;obtain⟨u,r,l⟩:=n i x v o e g;have fin:EP X pins σ Q u s:=⟨v,H,I,r,h⟩;rcases l with ⟨b,k⟩|⟨b,c,f,a⟩
  · exact wpAny_Name (wpAny_loadName_local I.ok.kind b j k fin) hd
  · rcases b with b|b
    · exact wpAny_Name (wpAny_loadName_cell I.ok.kind b f a fin) hd
    · exact wpAny_Name (wpAny_loadName_free I.ok.kind b f a fin d) hd
theorem zH {i j pos}:PE X (.Constant (.int i) j pos) (tC (.int i)):=λ_ _ _ H _ I h=>wpAny_Constant_int ⟨.int i,H,I.tok _,⟨_,rfl⟩,h⟩
theorem uI {b j pos}:PE X (.Constant (.bool b) j pos) (tC (.bl b)):=λ_ _ _ H _ I h=>Constant_bool ⟨.bl b,H,I,rfl,h⟩
theorem vd {j pos}:PE X (.Constant .none j pos) (tC .non):=λ_ _ _ H _ I h=>Constant_none ⟨.non,H,I,rfl,h⟩
theorem xH {x j pos}:PE X (.Constant (.str x) j pos) (tC (.str x)):=λ_ _ _ H _ I h=>Calls.Constant_str ⟨.str x,H,I.tok _,⟨_,rfl⟩,h⟩
def Gl (X:Cx)(x:Str):Prop:=X.env.kindOf x=some .globalImplicit
theorem kG {E:Value->Shared->Prop}{pins:List (Addr × Obj)}{s:Shared}{σ:St}{H:Hp}{x:Str}{u:Value}{pos:Pos}{Q:Value->Shared->Prop}(I:Inv X pins σ H s) (a:Gl X x) (hm:X.mg x=some u) (h:Q u s)
    (hd:(x == ("__debug__":Str))=false:=by decide):wpAny (model X.prog X.w) X.A (eval (.Name x pos) X.env) Q E s :=
  Calls.Name_function_global I.ok.kind a (Calls.loadGlobal_global (by rw[I.ok.glob];exact I.mod.glob.keeps I.bk) hm h) hd
theorem wC {E:Value->Shared->Prop}{pins:List (Addr × Obj)}{s:Shared}{σ:St}{H:Hp}{x:Str}{u:Value}{pos:Pos}{Q:Value->Shared->Prop}(I:Inv X pins σ H s) (b:Gl X x) (hm:X.mg x=none) (a:bootBuiltins x=some u) (h:Q u s)
    (hn:x≠"__name__":=by decide) (c:(x == ("__debug__":Str))=false:=by decide):wpAny (model X.prog X.w) X.A (eval (.Name x pos) X.env) Q E s:=by
  obtain⟨f,e,d⟩:=I.mod.blt;exact Calls.Name_function_global I.ok.kind b (Calls.loadGlobal_builtin (by rw[I.ok.glob];exact I.mod.glob.keeps I.bk) hm (by rw[I.ok.blt];exact e.keeps I.bk) ((d x hn).trans a) h) c
variable {a b:Expr}{ta tb:TE}{pos:Pos}
def PC (X:Cx)(op:CmpOp)(a b:Expr)(t:TE):Prop :=
  ∀ (pins:List (Addr × Obj)) (s:Shared) (σ:St) (H:Hp) (Q:VK),Inv X pins σ H s->t σ H Q ->
    wpAny (model X.prog X.w) X.A (eval a X.env) (λv d=>wpAny (model X.prog X.w) X.A (eval b X.env) (λu c=>wpAny (model X.prog X.w) X.A (compareOp op v u) (EP X pins σ Q) X.xe c) X.xe d) X.xe s
def tB (t:TE):TT:=λσ H Q=>t σ H λx a=>∃ c,x=.bl c/\Q c a
theorem aM {op:CmpOp}{t:TE}(h:PC X op a b t)(e:behindInMarks op b=false:=by first|exact nobehind _ (by decide) (by decide)|rfl):PT X (.Compare a [op] [b] pos) (tB t):=by
  intro pins s σ H Q I i;refine wpAny_isTrue_Compare1 (thn (h pins s σ H _ I i) λv o e=>thn e λu n j=>thn j λc m ⟨x,l,k,f,g⟩=>?_) e;obtain⟨d,rfl,q⟩:=g;cases f;exact Z8 ⟨l,k,q⟩
theorem aK {e:Expr}{t:TE}(h:PE X e t)(f:∀ whole,isTrue e X.env whole=(do let v <- whole;standAt e.pos;holding [v] (truthy v)):=by intro _;rfl):PT X e (tB t):=by
  intro pins s σ H Q I c;refine isTrue_plain (thn (h pins s σ H _ I c) λv j ⟨x,i,g,a,b⟩=>?_) (f _);obtain⟨d,rfl,q⟩:=b;cases a;exact Z8 ⟨i,g,q⟩
variable {tA tB':TT}{rest:List Expr}
def zbf (t u:TT):TT:=λσ H Q=>t σ H λc a=>if c=true then u σ a Q else Q false a
def zba (t:TT):TT:=λσ H Q=>t σ H λc a=>Q (!c) a
theorem lQ (ha:PT X a tA):PW X (.BoolOp .And [a] pos) tA:=by
  intro b pins s σ H Q I h;refine isTrue_and (thn (ha pins s σ H Q I h) λc d e=>?_)
  cases c with
  | true=>exact isTrue_and_nil e
  | false=>exact e
theorem gY (ha:PT X a tA)(hb:PW X (.BoolOp .And (b::rest) pos) tB'):PW X (.BoolOp .And (a::b::rest) pos) (zbf tA tB'):=by
  intro g pins s σ H Q I h;refine isTrue_and (thn (ha pins s σ H _ I h) λc i ⟨f,e,d⟩=>?_)
  cases c with
  | true=>exact hb g pins i σ f Q e d
  | false=>exact⟨f,e,d⟩
theorem aL (ha:PT X a tA):PT X (.UnaryOp .Not a pos) (zba tA):=by
  intro pins s σ H Q I h;exact isTrue_not (ha pins s σ H (λc b=>Q (!c) b) I h)
def zaE (ta tb:TE):TE:=λσ H Q=>ta σ H λx a=>∃ c,x=.bl c/\if c=true then tb σ a Q else Q (.bl false) a
theorem aO {op}{t:TE}(h:PE X a t):PE X (.BoolOp op [a] pos) t:=λpins s σ H Q I b=>BoolOp_one (h pins s σ H Q I b)
theorem aR (ha:PE X a ta)(hb:PE X (.BoolOp .And (b::rest) pos) tb):PE X (.BoolOp .And (a::b::rest) pos) (zaE ta tb):=by
  intro pins s σ H Q I h;refine BoolOp_and (thn (ha pins s σ H _ I h) λv g ⟨x,f,e,i,d⟩=>?_);obtain⟨c,rfl,d⟩:=d;cases i;refine Z8 ?_
  cases c with
  | true=>exact hb pins g σ f Q e d
  | false=>exact⟨.bl false,f,e,rfl,d⟩
def tIf (t:TT)(ta tb:TE):TE:=λσ H Q=>t σ H λc a=>if c=true then ta σ a Q else tb σ a Q
theorem oD {c:Expr}(j:PT X c tA)(ha:PE X a ta)(hb:PE X b tb):PE X (.IfExp c a b pos) (tIf tA ta tb):=by
  intro pins s σ H Q I h;refine wpAny_IfExp (thn (j pins s σ H _ I h) λd e ⟨i,g,f⟩=>?_)
  cases d with
  | true=>exact ha pins e σ i Q g f
  | false=>exact hb pins e σ i Q g f
end
def SqL (K:PySem.W.Frag)(H:Hp)(a:Addr)(xs:List V):Prop :=
  Rd H a (.lst xs) \/
    ∃ (o:Obj) (b:Array Value) (n:Nat),K.lookup a=some o/\o.cls=.type "list"/\o.dict=none/\o.data=.seq b n/\b.size<=sizeLine/\Vals xs b.toList
def SqT (K:PySem.W.Frag)(H:Hp)(a:Addr)(xs:List V):Prop :=
  Rd H a (.tup xs) \/
    ∃ (o:Obj) (b:Array Value) (n:Nat),K.lookup a=some o/\o.cls=.type "tuple"/\o.data=.seq b n/\b.size<=sizeLine/\Vals xs b.toList
def zbI:Value->Option V
  | .none=>some .non
  | .bool b=>some (.bl b)
  | .int i _=>some (.int i)
  | .str x _=>some (.str x)
  | .bytes b _=>some (.byt b)
  | .float b _=>some (.flt b)
  | .ref a=>some (.ref a)
  | .type n=>some (.ty n)
  | _=>none
theorem RelV.abs {x:V}{u:Value}(r:RelV x u):zbI u=some x:=by
  cases x with
  | non=>cases r;rfl
  | bl _=>cases r;rfl
  | int _=>obtain⟨t,rfl⟩:=r;rfl
  | str _=>obtain⟨t,rfl⟩:=r;rfl
  | byt _=>obtain⟨t,rfl⟩:=r;rfl
  | flt _=>obtain⟨t,rfl⟩:=r;rfl
  | ref _=>cases r;rfl
  | ty _=>cases r;rfl
theorem RelV.inj {x y:V}{u:Value}(r:RelV x u)(q:RelV y u):x=y:=Jm (r.abs.symm.trans q.abs)
theorem Vals.inj:∀ {xs ys:List V}{us:List Value},Vals xs us->Vals ys us->xs=ys
  | _,_,_,.nil,.nil=>rfl
  | _,_,_,.cons r t,.cons a t'=>by rw[r.inj a,Vals.inj t t']
section
variable {X:Cx}{pins:List (Addr × Obj)}{σ:St}{H:Hp}{s:Shared}{a:Addr}{xs ys:List V}
theorem SqL.of {K:PySem.W.Frag}(h:H a=some (.lst xs)):SqL K H a xs:=.inl (.inl h)
theorem SqT.of {K:PySem.W.Frag}(h:H a=some (.tup xs)):SqT K H a xs:=.inl (.inl h)
theorem Inv.list (I:Inv X pins σ H s)(h:SqL X.K H a xs):∃ its:List Value,Vals xs its/\PlainL s.heap a its.toArray/\xs.length<=sizeLine:=by
  rcases h with h|⟨o,its,n,c,f,d,b,g,r⟩
  · obtain⟨z,its,n,r,e⟩:=h.ok I.hok
    exact⟨its,r,⟨_,n,e,rfl,rfl,rfl⟩,z⟩
  · refine⟨its.toList,r,⟨o,n,I.kIn a o c,f,d,by simpa using b⟩,?_⟩
    have e:=r.length;simp only[Jx]at e
    simp_all
theorem Inv.tuple (I:Inv X pins σ H s)(h:SqT X.K H a xs):∃ its:List Value,Vals xs its/\IsTup s.heap a its.toArray/\xs.length<=sizeLine:=by
  rcases h with h|⟨o,its,n,c,d,b,f,r⟩
  · obtain⟨z,its,r,p⟩:=h.ok I.hok
    exact⟨its,r,p.tup,z⟩
  · refine⟨its.toList,r,⟨o,I.kIn a o c,d,n,by simpa using b⟩,?_⟩
    have e:=r.length;simp only[Jx]at e
    simp_all
theorem Inv.list_inj (I:Inv X pins σ H s)(h:SqL X.K H a xs)(h':SqL X.K H a ys):xs=ys:=by
  obtain⟨c,r,⟨o,n,e,_,_,d⟩,_⟩:=I.list h;obtain⟨b,i,⟨k,l,f,_,_,g⟩,_⟩:=I.list h';rw[e]at f;cases f;rw[d]at g;injection g with j _;have:c=b:=by simpa using JW Array.toList j
  subst this;exact r.inj i
theorem Inv.tuple_inj (I:Inv X pins σ H s)(h:SqT X.K H a xs)(h':SqT X.K H a ys):xs=ys:=by
  obtain⟨c,r,⟨o,e,_,n,d⟩,_⟩:=I.tuple h;obtain⟨b,i,⟨k,f,_,l,g⟩,_⟩:=I.tuple h';rw[e]at f;cases f;rw[d]at g;injection g with j _;have:c=b:=by simpa using JW Array.toList j
  subst this;exact r.inj i
end
abbrev Cx.wish (X:Cx)(E:Value->Shared->Prop):Cx:={ X with xe:=E }
abbrev Cx.nox (X:Cx):Cx:=X.wish λ_ _=>False
theorem Cx.Ok.wish {X:Cx}(ok:X.Ok)(E:Value->Shared->Prop):(X.wish E).Ok :=
  ⟨ok.mod,ok.kind,ok.glob,ok.blt,ok.above,ok.inj,ok.has,ok.cab,ok.hd,ok.frames,ok.stk,ok.exf,ok.bs,ok.bsz,ok.noex,ok.exfs,ok.funs,ok.frf⟩
theorem Cx.Ok.unwish {X:Cx}{E:Value->Shared->Prop}(ok:(X.wish E).Ok):X.Ok :=
  ⟨ok.mod,ok.kind,ok.glob,ok.blt,ok.above,ok.inj,ok.has,ok.cab,ok.hd,ok.frames,ok.stk,ok.exf,ok.bs,ok.bsz,ok.noex,ok.exfs,ok.funs,ok.frf⟩
section
variable {X:Cx}{pins:List (Addr × Obj)}{σ:St}{H:Hp}{s:Shared}{E:Value->Shared->Prop}
theorem Inv.wish (I:Inv X pins σ H s)(E:Value->Shared->Prop):Inv (X.wish E) pins σ H s:=⟨I.ok.wish E,I.os,I.bare,I.base,I.loc,I.cell,I.free,I.freeC,I.pin,I.hok,I.len⟩
theorem Inv.unwish (I:Inv (X.wish E) pins σ H s):Inv X pins σ H s:=⟨I.ok.unwish,I.os,I.bare,I.base,I.loc,I.cell,I.free,I.freeC,I.pin,I.hok,I.len⟩
theorem SP.unwish {D:Ends}{f:Flow}{c:Shared}(h:SP (X.wish E) pins D f c):SP X pins D f c:=by
  cases f with
  | next=>obtain⟨a,b,I,q⟩:=h;exact⟨a,b,I.unwish,q⟩
  | brk=>obtain⟨a,b,I,q⟩:=h;exact⟨a,b,I.unwish,q⟩
  | cont=>obtain⟨a,b,I,q⟩:=h;exact⟨a,b,I.unwish,q⟩
  | ret u=>obtain⟨v,a,b,I,r,q⟩:=h;exact⟨v,a,b,I.unwish,r,q⟩
theorem PSs.nox {st:List Stmt}{t:TS}(h:PSs X.nox st t):PSs X st t:=λpins s σ H D I a =>
  JN (h pins s σ H D (I.wish _) a) (λ_ _ q=>q.unwish) λ_ _ z=>False.elim z
end
section
variable {X:Cx}{st:Stmt}{rest:List Stmt}{t u:TS}{e:Expr}{te:TE}{pos:Pos}
def zav:TS:=λD σ H=>D.nx σ H
def wa (t u:TS):TS:=λD σ H=>t { D with nx:=u D } σ H
theorem zr:PSs X [] zav:=λ_ _ σ H _ I h=>wpAny_execs_nil ⟨σ,H,I,h⟩
theorem zE (d:PS X st t)(c:PSs X rest u):PSs X (st::rest) (wa t u):=by
  intro pins s σ H D I h;refine wpAny_execs_cons (thn (d pins s σ H { D with nx:=u D } I h) λf b q=>?_)
  cases f with
  | next =>
    obtain⟨a,g,e,q⟩:=q
    exact c pins b a g D e q
  | ret v=>exact q
  | brk=>exact q
  | cont=>exact q
theorem zJ (a:PS X st t):PSs X [st] t:=by
  intro pins s σ H D I h;refine wpAny_execs_cons (thn (a pins s σ H D I h) λf b q=>?_)
  cases f with
  | next=>exact wpAny_execs_nil q
  | ret v=>exact q
  | brk=>exact q
  | cont=>exact q
def zaD:TS:=λD σ H=>D.ct σ H
theorem oA:PS X (.Continue pos) zaD:=λ_ _ σ H _ I h=>wpAny_Continue ⟨σ,H,I,h⟩
theorem Inv.quiet {pins:List (Addr × Obj)}{σ:St}{H:Hp}{s:Shared}(I:Inv X pins σ H s):interactive X.env=false:=by simp[interactive,I.ok.kind]
def zaC (te:TE):TS:=λD σ H=>te σ H λ_ a=>D.nx σ a
theorem y4 (c:PE X e te)(b:swapsWith e none pos.line X.env=pure false:=by rfl):PS X (.Expr e pos) (zaC te):=by
  intro pins s σ H D I h;exact wpAny_Expr_any (thn (c pins s σ H _ I h) λv g ⟨x,f,d,i,a⟩=>⟨σ,f,d,a⟩) I.quiet b
def za8 (te:TE):TS:=λD σ H=>te σ H D.rt
theorem zV (c:PE X e te):PS X (.Return (some e) pos) (za8 te):=by
  intro pins s σ H D I h;exact wpAny_Return_some (thn (c pins s σ H _ I h) λv g ⟨x,f,d,a,b⟩=>⟨x,σ,f,d,a,b⟩)
def bf (c:TT)(t u:TS):TS:=λD σ H=>c σ H λb a=>if b=true then t D σ a else u D σ a
theorem yO {c:Expr}{a b:List Stmt}{e:TT}(k:PT X c e)(ha:PSs X a t)(hb:PSs X b u):PS X (.If c a b pos) (bf e t u):=by
  intro pins s σ H D I h;refine wpAny_If (thn (k pins s σ H _ I h) λd f ⟨j,i,g⟩=>?_)
  cases d with
  | true=>exact ha pins f σ j D i g
  | false=>exact hb pins f σ j D i g
end
abbrev TG:=V->St->Hp->(St->Hp->Prop)->Prop
abbrev TGs:=List V->St->Hp->(St->Hp->Prop)->Prop
def PG (X:Cx)(target:Expr)(t:TG):Prop :=
  ∀ (pins:List (Addr × Obj)) (s:Shared) (σ:St) (H:Hp) (v:V) (u:Value) (Q:St->Hp->Prop),Inv X pins σ H s->RelV v u->t v σ H Q ->
    wpAny (model X.prog X.w) X.A (assign target X.env u) (λ_ c=>∃ a b,Inv X pins a b c/\Q a b) X.xe s
def PGs (X:Cx)(ts:List Expr)(t:TGs):Prop :=
  ∀ (pins:List (Addr × Obj)) (s:Shared) (σ:St) (H:Hp) (b:List V) (c:List Value) (Q:St->Hp->Prop),Inv X pins σ H s->Vals b c->t b σ H Q ->
    wpAny (model X.prog X.w) X.A (assignInOrder ((assignEach ts X.env).map (·.2)) c) (λ_ e=>∃ a d,Inv X pins a d e/\Q a d) X.xe s
abbrev TSet:=V->V->V->Hp->(Hp->Prop)->Prop
def PSet (X:Cx)(t:TSet):Prop :=
  ∀ (pins:List (Addr × Obj)) (s:Shared) (σ:St) (H:Hp) (o i v:V) (a b u:Value) (Q:Hp->Prop),Inv X pins σ H s->RelV o a->RelV i b->RelV v u->t o i v H Q ->
    wpAny (model X.prog X.w) X.A (setItem a b u) (λ_ d=>∃ c,Inv X pins σ c d/\Q c) X.xe s
section
variable {X:Cx}{pos:Pos}
def vQ (i:Nat):TG:=λv σ H Q=>Q (σ.set i (some v)) H
theorem zM {i:Nat}{x:Str}(c:X.N.Nodup)(hi:X.N[i]?=some x)(a:Loc X.env.scope x)(b:X.fn x=true\/X.env.scope.names.lookup x=some .local:=by first|exact .inl rfl|exact .inr rfl|assumption):PG X (.Name x pos) (vQ i):=by
  intro pins s σ H v u Q I r h;exact wpAny_assign_Name (xR I c hi a r (λe d=>⟨_,H,d,h⟩) b)
def za0:TGs:=λa σ H Q=>a=[]/\Q σ H
def ft (t:TG)(u:TGs):TGs:=λb σ H Q=>∃ v r,b=v::r/\t v σ H λa c=>u r a c Q
theorem yC:PGs X [] za0:=by
  intro pins s σ H a b Q I r h;obtain⟨e,h⟩:=h;subst e;cases r;exact assignInOrder_nil ⟨σ,H,I,h⟩
theorem zK {e:Expr}{es:List Expr}{t:TG}{u:TGs}(i:PG X e t)(g:PGs X es u)(f:(assignEach (e::es) X.env).map (·.2)=assign e X.env::(assignEach es X.env).map (·.2):=by rfl):PGs X (e::es) (ft t u):=by
  intro pins s σ H m o Q I r h;obtain⟨v,n,j,h⟩:=h;subst j
  cases r with
  | cons r c =>
    rw[f];refine ZP (thn (i pins s σ H _ _ _ I r h) λ_ b ⟨a,l,k,d⟩=>?_);exact g pins b a l _ _ Q k c d
def zag (K:PySem.W.Frag)(n:Nat)(t:TGs):TG:=λv σ H Q=>∃ a b,v=.ref a/\SqT K H a b/\b.length=n/\t b σ H Q
theorem yJ {es:List Expr}{k:Nat}{t:TGs}{n:Nat}(p:X.calm=true)(h:PGs X es t)(hn:(assignEach es X.env).length=n:=by rfl)(d:(assignEach es X.env).findIdx? (·.1)=none:=by rfl):PG X (.Tuple es k pos) (zag X.K n t):=by
  intro pins s σ H v u Q I r c;obtain⟨a,g,w,l,m,c⟩:=c;subst w;cases r;obtain⟨y,f,j,z⟩:=I.tuple l;refine assign_Tuple_tuple (I.ok.hd p) j (by simp[hn,<- m,f.length]) d λq i=>?_;have x:Inv X pins σ H { s with heap:=q }:=I.kept (t':=s.toks) λb o e=>i b o (JH (Jr e)) e;exact h pins _ σ H g _ Q x (by simpa using f) c
def zbG (to a:TE)(t:TSet):TG:=λv σ H Q=>to σ H λo d=>a σ d λi c=>t o i v c λb=>Q σ b
theorem wq {o i:Expr}{to c:TE}{t:TSet}(n:PE X o to)(hi:PE X i c)(m:PSet X t)(ha:∀ v,assign (.Subscript o i pos) X.env v=(do
      let a <- holding [v] (eval o X.env)
      let b <- holding [v,a] (eval i X.env)
      standAt pos
      holding [v,a,b] (setItem a b v)
      release [v,a,b] []):=by intro _;rfl):PG X (.Subscript o i pos) (zbG to c t):=by
  intro pins s σ H v u Q I r h;rw[ha];refine J0 (JX (thn (n pins s σ H _ I h) λa e ⟨x,B,w,g,l⟩=>?_));refine J0 (JX (thn (hi pins e σ B _ w l) λb d ⟨y,A,q,f,k⟩=>?_));refine J0 (Zf (J0 (JX (thn (m pins d σ A x y v a b u _ q g f r k) λ_ C ⟨z,p,j⟩=>?_))));exact wpAny_release ⟨σ,z,p,j⟩
def dX (a:TE)(g:TG):TS:=λD σ H=>a σ H λx b=>g x σ b D.nx
theorem yP {tg e:Expr}{a:TE}{g:TG}(k:PE X e a)(j:PG X tg g)(i:swapsWithSole [tg] e pos.line X.env=pure false:=by rfl)(f:swappedStores [tg] e X.env=pure none:=by rfl)(l:(assignEach [tg] X.env).map (·.2)=[assign tg X.env]:=by rfl):PS X (.Assign [tg] e pos) (dX a g):=by
  intro pins s σ H D I h;refine wpAny_Assign_stores (thn (k pins s σ H _ I h) λv b ⟨x,n,m,c,d⟩=>?_) i f;rw[l];exact thn (j pins b σ n x v _ m c d) λ_ o q=>q
theorem zp {i:Nat}{x:Str}{e:Expr}{a:TE}{pos':Pos}(k:X.N.Nodup)(hi:X.N[i]?=some x)(d:Loc X.env.scope x)(j:PE X e a)(f:swapsWith e (some (.Name x pos')) pos.line X.env=pure false:=by rfl)(g:X.fn x=true\/X.env.scope.names.lookup x=some .local:=by first|exact .inl rfl|exact .inr rfl|assumption) :
    PS X (.Assign [.Name x pos'] e pos) (dX a (vQ i)):=by
  intro pins s σ H D I h;refine wpAny_Assign_Name (thn (j pins s σ H _ I h) λv p ⟨y,n,m,b,c⟩=>?_) f;exact xR m k hi d b (λo l=>⟨_,n,l,c⟩) g
def za9 (i j:Nat)(b:TA):TS:=λD σ H=>b σ H λa c=>∃ v w,a=[v,w]/\D.nx ((σ.set i (some v)).set j (some w)) c
theorem qQ {i j:Nat}{x y:Str}{a b:Expr}{r:TA}{k py pt:Pos}{kt k2 pt2}(N:X.calm=true)(z:X.N.Nodup)(hi:X.N[i]?=some x)(M:X.N[j]?=some y)(n:i≠j)(u:X.env.scope.names.lookup x=some .local)(t:X.env.scope.names.lookup y=some .local)(ha:PA X [a,b] r)(K:swappedStores [.Tuple [.Name x k,.Name y py] kt pt] (.Tuple [a,b] k2 pt2) X.env=pure (some [x,y]))(L:swapsWithSole [.Tuple [.Name x k,.Name y py] kt pt] (.Tuple [a,b] k2 pt2) pos.line X.env=pure false:=by rfl) :
    PS X (.Assign [.Tuple [.Name x k,.Name y py] kt pt] (.Tuple [a,b] k2 pt2) pos) (za9 i j r):=by
  intro pins s σ H D I h;rw[exec_Assign_arm];refine J0 (Zf ?_);rw[L];refine J0 (J7 ?_);rw[Jd (by decide)];refine J0 (Tuple_ (thn (ha _ pins s σ H _ I h) λC f ⟨T,B,S,F,g⟩=>?_));obtain⟨v,w,O,g⟩:=g;subst O
  obtain⟨d,c,rfl,E,l⟩:∃ d c,C=[d,c]/\RelV v d/\RelV w c:=by
    cases F with
    | cons p q =>
      cases q with
      | cons J G =>
        cases G;exact⟨_,_,rfl,p,J⟩
  refine JK ?_ (by show 2<=sizeLine;decide);have R:Inv X pins σ B { f with heap:=f.heap.push { cls:=.type "tuple",data:=.seq [d,c].toArray } }:=S.kept (t':=f.toks) λb o e=>J8 _ e;rw[K];refine J0 (J7 ?_);show wpAny (model X.prog X.w) X.A (do rule "assign.swapped-stores";let items <- unpackItems (.ref f.heap.objs.size) 2 none;assignInOrder [λv=>bindName X.env y v,λv=>bindName X.env x v] items.reverse;pure Flow.next) _ _ _;refine J0 (YJ (J0 (unpackItems_tuple (items:=#[d,c]) (I.ok.hd N) (IsTup.new f.heap _) λh' m=>?_)));have Q:=R.kept (h':=h') (t':=f.toks) λb o e=>m b o (JH (Jr e)) e;show wpAny _ _ (assignInOrder [λv=>bindName X.env y v,λv=>bindName X.env x v] [c,d] >>= λ_=>pure Flow.next) _ _ _;refine J0 (ZP (wpAny_bindName (xR Q z M (.inl t) l (λV P=>?_) (.inr t))));refine ZP (wpAny_bindName (xR P z hi (.inl u) E (λU A=>assignInOrder_nil (J7 ?_)) (.inr u)));rw[List.set_comm _ _ (Ne.symm n)]at A;exact⟨_,B,A,g⟩
def bZ (c:TT)(g:TS):TS:=λD σ H=>∃ W:Nat->St->Hp->Prop,(∃ m,W m σ H)/\∀ m σ H,W m σ H ->
  c σ H λb e=>if b=true then ∃ N:St->Hp->Prop,(∀ a f,N a f->∃ d,d<m/\W d a f)/\g { D with nx:=N,ct:=N,bk:=D.nx } σ e else D.nx σ e
theorem pY {c:Expr}{body:List Stmt}{q:TT}{r:TS}(t:PassesOwn (model X.prog X.w) X.A X.env X.xe)(J:PT X c q)(hb:PSs X body r):PS X (.While c body [] pos) (bZ q r):=by
  intro pins s σ H D I h;obtain⟨W,⟨G,B⟩,turn⟩:=h;refine wpAny_While (codeAny_whileLoop (λn F=>∃ g z,Inv X pins g z F/\W n g z) ?_ G ⟨σ,H,I,B⟩);rintro n E ⟨d,y,K,A⟩;refine ZL t (thn (J pins E d y _ K (turn n d y A)) λb C ⟨x,w,j⟩=>?_)
  cases b with
  | true =>
    obtain⟨N,u,j⟩:=j;rw[Jf rfl];refine ZL t (thn (hb pins C d x _ w j) λf L i=>?_)
    cases f with
    | next =>
      obtain⟨a,e,p,l⟩:=i;obtain⟨m,o,k⟩:=u a e l
      exact⟨m,o,a,e,p,k⟩
    | cont =>
      obtain⟨a,e,p,l⟩:=i;obtain⟨m,o,k⟩:=u a e l
      exact⟨m,o,a,e,p,k⟩
    | brk=>exact i
    | ret v=>exact i
  | false =>
    rw[Jd Jp];exact wpAny_execs_nil ⟨d,x,w,j⟩
end
structure It where
  go:Nat->Hp->Prop
  yld:Nat->Hp->V->Hp->Prop
  stop:Nat->Hp->Prop
def FpOk (X:Cx)(pins:List (Addr × Obj))(H:Hp)(b:Addr):Prop :=
  H b=none/\b≠X.env.locals/\b∉X.fs/\(b∈X.ex\/X.s₀.heap.objs.size<=b)/\(∀ x c,X.env.cells.lookup x=some c->c≠b)/\∀ p∈X.pn++pins,p.1≠b
theorem Inv.fpOk {X:Cx}{pins:List (Addr × Obj)}{σ:St}{H H':Hp}{s:Shared}{b:Addr}(I:Inv X pins σ H s)(hb:s.heap.objs.size<=b)(hn:H' b=none):FpOk X pins H' b:=by
  refine⟨hn,YZ (JL I.lt hb),I.nofs hb,.inr (JR I.sz hb),λx c e z=>?_,λp a z=>?_⟩
  · obtain⟨v,q⟩:=I.cell x c e
    exact absurd (JL q.lt (by rw[z];exact hb)) (YR _)
  · exact absurd (JL (Jr (I.pin p a).1) (by rw[z];exact hb)) (YR _)
structure Turn (P:Program) (w:World) (K:PySem.W.Frag) (tg:Expr) (J:It) (fp:List Addr) (it:Addr) (tn:Nat->Heap->Prop):Prop where
  mem:it∈fp
  obj:∀ i h,tn i h->∀ b∈fp,∃ o,h.get? b=some o/\∀ v,o.data≠.cell v
  keep:∀ i h h',tn i h->(∀ b∈fp,∀ o,h.get? b=some o->h'.get? b=some o)->tn i h'
  item:∀ (X:Cx),X.prog=P->X.w=w->X.K=K->X.calm=true->∀ (i:Nat) (pins:List (Addr × Obj)) (s:Shared) (σ:St) (H:Hp) (E:Value->Shared->Prop),Inv X pins σ H s->(∀ b∈fp,FpOk X pins H b)->tn i s.heap->J.go i H ->
    wpAny (model P w) X.A (pyNext (.ref it)) (λr s1=>∃ u,r=some u /\
      wpAny (model P w) X.A (letOwnedTupleGo tg (.ref it) u) (λ_ s2=>∃ x H',Inv X pins σ H' s2/\RelV x u/\J.yld i H x H'/\tn (i+1) s2.heap/\∀ b∈fp,H' b=none) E s1) E s
  done:∀ (X:Cx),X.prog=P->X.w=w->X.K=K->X.calm=true->∀ (i:Nat) (pins:List (Addr × Obj)) (s:Shared) (σ:St) (H:Hp) (E:Value->Shared->Prop),Inv X pins σ H s->(∀ b∈fp,FpOk X pins H b)->tn i s.heap->J.stop i H ->
    wpAny (model P w) X.A (pyNext (.ref it)) (λr s1=>r=none/\Inv X pins σ H s1) E s
  self:∀ (A:Around) (i:Nat) (s:Shared) (Q:Value->Shared->Prop) (E:Value->Shared->Prop),tn i s.heap->Q (.ref it) s->wpAny (model P w) A (pyIter (.ref it)) Q E s
abbrev TI:=St->Hp->(It->Hp->Prop)->Prop
def PIE (X:Cx)(pins:List (Addr × Obj))(σ:St)(tg:Expr)(R:It->Hp->Prop)(c:Value)(s2:Shared):Prop :=
  ∃ (it:Addr) (e:List Addr) (d:Nat->Heap->Prop) (J:It) (a:Hp),c=.ref it/\Inv X pins σ a s2/\Turn X.prog X.w X.K tg J e it d/\d 0 s2.heap/\(∀ b∈e,FpOk X pins a b)/\R J a
def PI (X:Cx)(tg iter:Expr)(a:TI):Prop :=
  ∀ (pins:List (Addr × Obj)) (s:Shared) (σ:St) (H:Hp) (R:It->Hp->Prop),Inv X pins σ H s->a σ H R ->
    wpAny (model X.prog X.w) X.A (eval iter X.env) (λv b=>wpAny (model X.prog X.w) X.A (pyIter v) (PIE X pins σ tg R) X.xe b) X.xe s
theorem kK {M:Model}{A:Around}{E:Value->Shared->Prop}{s:Shared}{tg:Expr}{it:Addr}{u:Value}{o:Obj}{n:String}{vs:Array Value}{Q:Unit->Shared->Prop}(b:s.heap.get? it=some o) (c:o.cls=.type n) (hd:o.data=.fields vs)
    (hn:["enumerate","zip","dict_itemiterator","dict_reverseitemiterator","odict_iterator","itertools.zip_longest","itertools.pairwise"].contains n=false) (a:Q () s):wpAny M A (letOwnedTupleGo tg (.ref it) u) Q E s:=by
  unfold letOwnedTupleGo
  cases tg<;>first
    | exact J7 a
    | (cases u<;>first
        | exact J7 a
        | (refine J0 (wpAny_load b ?_)
           rw[c,hd];show wpAny M A (if (["enumerate","zip","dict_itemiterator","dict_reverseitemiterator","odict_iterator","itertools.zip_longest","itertools.pairwise"].contains n && vs[0]? == some (rawInt _))=true then _ else _) Q E s;rw[Jd (by intro h;rw[hn,Bool.false_and]at h;cases h)]
           exact J7 a))
def Itl (K:PySem.W.Frag)(a:Addr):It :=
  ⟨λi H=>∃ b x,SqL K H a b/\b[i]?=some x,λi H x c=>c=H/\∀ b,SqL K H a b->b[i]?=some x,λi H=>∃ b,SqL K H a b/\b.length<=i⟩
def Itt (K:PySem.W.Frag)(a:Addr):It :=
  ⟨λi H=>∃ b x,SqT K H a b/\b[i]?=some x,λi H x c=>c=H/\∀ b,SqT K H a b->b[i]?=some x,λi H=>∃ b,SqT K H a b/\b.length<=i⟩
def Itr (lo:Int)(n:Nat):It:=⟨λi _=>i<n,λi H x a=>a=H/\x=.int (lo+i),λi _=>n<=i⟩
theorem jB {P:Program}{w:World}{K:PySem.W.Frag}{tg:Expr}(a it:Addr):Turn P w K tg (Itl K a) [it] it (λi h=>h.IsListIter it a i) where
  mem:=by simp
  obj:=λi h st b f=>by
    have e:b=it:=by simpa using f
    subst e;obtain⟨o,e,c,d⟩:=st;exact⟨o,e,λv z=>by rw[d]at z;cases z⟩
  keep:=λi h m st k=>st.at λo e=>k it (by simp) o e
  item:=by
    intro X y r A L i pins s σ H E I l st t;subst y r A;obtain⟨M,x,j,q⟩:=t;obtain⟨J,n,p,Q⟩:=I.list j;obtain⟨u,S,O⟩:=n.get q;obtain⟨G,F,T,D,C,B⟩:=l it (by simp);refine wpAny_pyNext_list_item st p.isList (x:=u) (by simpa using S) λm g N=>?_;have V:Inv X pins σ H { s with heap:=m }:=I.turned (t':=s.toks) (λb o f e=>(N.2 b f).trans e) G F D C B;obtain⟨o,e,c,d⟩:=id g;exact⟨u,rfl,kK (s:={ s with heap:=m }) e c d (by decide) ⟨x,H,V,O,⟨rfl,λW R=>by rw[I.list_inj R j];exact q⟩,g,λb f=>(l b f).1⟩⟩
  done:=by
    intro X y r A L i pins s σ H E I l st t;subst y r A;obtain⟨M,j,q⟩:=t;obtain⟨J,n,p,Q⟩:=I.list j;obtain⟨G,F,T,D,C,B⟩:=l it (by simp);have Y:=n.length;exact wpAny_pyNext_list_end (I.ok.hd L) st p.isList (by simp;simp_all) λm U=>⟨rfl,I.turned (t':=s.toks) (λb o f e=>U b o f e) G F D C B⟩
  self:=λ_ _ _ _ _ st h=>wpAny_pyIter_listiter st h
theorem ng {P:Program}{w:World}{K:PySem.W.Frag}{tg:Expr}(a it:Addr):Turn P w K tg (Itt K a) [it] it (λi h=>h.IsTupleIter it a i) where
  mem:=by simp
  obj:=λi h st b f=>by
    have e:b=it:=by simpa using f
    subst e;obtain⟨o,e,c,d⟩:=st;exact⟨o,e,λv z=>by rw[d]at z;cases z⟩
  keep:=λi h n st k=>st.at λo e=>k it (by simp) o e
  item:=by
    intro X A t B L i pins s σ H E I m st y;subst A t B;obtain⟨M,x,l,r⟩:=y;obtain⟨g,q,p,Q⟩:=I.tuple l;obtain⟨u,S,O⟩:=q.get r;obtain⟨J,G,T,F,D,C⟩:=m it (by simp);refine wpAny_pyNext_tuple_item st (show s.heap.IsTuple a g.toArray from p) (x:=u) (by simpa using S) λn j N=>?_;have V:Inv X pins σ H { s with heap:=n }:=I.turned (t':=s.toks) (λb o f e=>(N.2 b f).trans e) J G F D C;obtain⟨o,e,c,d⟩:=id j;exact⟨u,rfl,kK (s:={ s with heap:=n }) e c d (by decide) ⟨x,H,V,O,⟨rfl,λW R=>by rw[I.tuple_inj R l];exact r⟩,j,λb f=>(m b f).1⟩⟩
  done:=by
    intro X A t B L i pins s σ H E I m st y;subst A t B;obtain⟨M,l,r⟩:=y;obtain⟨g,q,p,Q⟩:=I.tuple l;obtain⟨J,G,T,F,D,C⟩:=m it (by simp);have Y:=q.length;exact wpAny_pyNext_tuple_end (I.ok.hd L) st (show s.heap.IsTuple a g.toArray from p) (by simp;simp_all) λn U=>⟨rfl,I.turned (t':=s.toks) (λb o f e=>U b o f e) J G F D C⟩
  self:=λ_ _ _ _ _ st h=>wpAny_pyIter_tupleiter st h
theorem nh {P:Program}{w:World}{K:PySem.W.Frag}{tg:Expr}(it:Addr)(lo:Int)(n:Nat):Turn P w K tg (Itr lo n) [it] it (λi h=>IsRangeIter h it (lo+(i:Nat)*1) ((n:Int)-(i:Nat)) 1) where
  mem:=by simp
  obj:=λi h st b a=>by
    have e:b=it:=by simpa using a
    subst e
    exact⟨_,st,λv z=>by
      have B:Data.fields _=Data.cell v:=z
      cases B⟩
  keep:=λi h f st k=>k it (by simp) _ st
  item:=by
    intro X m g p l i pins s σ H E I d st j;subst m g p;obtain⟨y,x,F,u,r,q⟩:=d it (by simp);have W:=Walks.range (prog:=X.prog) (w:=X.w) (I.ok.hd l) it lo 1 n;refine W.item i s _ _ j st λv f A D c C=>?_;obtain⟨t,rfl⟩:=D;have J:Inv X pins σ H { s with heap:=f,toks:=A }:=I.turned (λb o a e=>C b o (by simpa using a) e) y x u r q;refine⟨_,rfl,kK (s:={ s with heap:=f,toks:=A }) (n:="range_iterator") c rfl rfl (by decide) ⟨.int (lo+i),H,J,⟨t,?_⟩,⟨rfl,rfl⟩,c,λb a=>(d b a).1⟩⟩;rw[Int.mul_one]
  done:=by
    intro X m g p l i pins s σ H E I d st j;subst m g p;obtain⟨y,x,F,u,r,q⟩:=d it (by simp);exact wpAny_pyNext_range_end (I.ok.hd l) st (by have:n<=i:=j;lia) λf G=>⟨rfl,I.turned (t':=s.toks) (λb o a e=>G b o a e) y x u r q⟩
  self:=λ_ _ _ _ _ st h=>wpAny_pyIter_rangeiter st h
section
variable {X:Cx}{tg:Expr}
def bR (K:PySem.W.Frag)(d:TE):TI:=λσ H R=>d σ H λx b=>∃ a,x=.ref a/\(∃ c,SqL K b a c)/\R (Itl K a) b
def zbE (K:PySem.W.Frag)(d:TE):TI:=λσ H R=>d σ H λx b=>∃ a,x=.ref a/\(∃ c,SqT K b a c)/\R (Itt K a) b
theorem qS {l:Expr}{f:TE}(k:PE X l f):PI X tg l (bR X.K f):=by
  intro pins s σ H R I h;refine thn (k pins s σ H _ I h) λv c ⟨x,n,d,g,i⟩=>?_;obtain⟨a,e,⟨t,j⟩,q⟩:=i;subst e;cases g;obtain⟨r,u,p,w⟩:=d.list j;refine wpAny_pyIter_list p.isList ?_;refine⟨c.heap.objs.size,[c.heap.objs.size],_,_,n,rfl,d.kept (t':=c.toks) λb o e=>J8 _ e,jB a _,⟨_,Jq _ rfl,rfl,rfl⟩,λb m=>?_,q⟩;have e:b=c.heap.objs.size:=by simpa using m
  subst e;exact d.fpOk (Je _) (d.hok.fresh (Je _))
theorem vZ {l:Expr}{g:TE}(m:PE X l g):PI X tg l (zbE X.K g):=by
  intro pins s σ H R I h;refine thn (m pins s σ H _ I h) λv c ⟨x,r,d,i,j⟩=>?_;obtain⟨a,e,⟨t,k⟩,q⟩:=j;subst e;cases i;obtain⟨f,u,p,w⟩:=d.tuple k;refine wpAny_pyIter_tuple (show c.heap.IsTuple a f.toArray from p) ?_;refine⟨c.heap.objs.size,[c.heap.objs.size],_,_,r,rfl,d.kept (t':=c.toks) λb o e=>J8 _ e,ng a _,⟨_,Jq _ rfl,rfl,rfl⟩,λb n=>?_,q⟩;have e:b=c.heap.objs.size:=by simpa using n
  subst e;exact d.fpOk (Je _) (d.hok.fresh (Je _))
theorem gU {pins:List (Addr × Obj)}{σ:St}{H:Hp}{s:Shared}{R:It->Hp->Prop}{E:Value->Shared->Prop}{lo hi:Int}{t u v:Tok}{tk:Nat}(I:Inv X pins σ H s)(h:-(2 ^ 62)<=lo)(g:lo<2 ^ 62)(f:-(2 ^ 62)<=hi)(d:hi<2 ^ 62)(q:R (Itr lo (hi-lo).toNat) H):wpAny (model X.prog X.w) X.A (pyIter (.ref s.heap.objs.size)) (PIE X pins σ tg R) E { s with heap:=s.heap.push { cls:=.type "range",data:=.fields #[.int lo t,.int hi u,.int 1 v] },toks:=tk }:=by
  refine wpAny_pyIter_range (IsRange.new ..) (small_one h g f d) ?_;have a:Inv X pins σ H { s with heap:=s.heap.push { cls:=.type "range",data:=.fields #[.int lo t,.int hi u,.int 1 v] },toks:=tk }:=I.kept λb o e=>J8 _ e
  refine⟨(s.heap.push { cls:=.type "range",data:=.fields #[.int lo t,.int hi u,.int 1 v] }).objs.size,[(s.heap.push { cls:=.type "range",data:=.fields #[.int lo t,.int hi u,.int 1 v] }).objs.size],_,_,H,rfl,
    a.kept (t':=tk) λb o e=>J8 _ e,nh _ lo (hi-lo).toNat,?_,λb c=>?_,q⟩
  · have i:lo+((0:Nat):Int)*1=lo:=by simp
    have e2:(((hi-lo).toNat:Nat):Int)-((0:Nat):Int)=Builtin.Range.rangeSize lo hi 1:=by rw[rangeSize_one];split<;>grind
    show IsRangeIter _ _ (lo+((0:Nat):Int)*1) ((((hi-lo).toNat:Nat):Int)-((0:Nat):Int)) 1;rw[i,e2];exact Jq _ rfl
  · have e:b=(s.heap.push { cls:=.type "range",data:=.fields #[.int lo t,.int hi u,.int 1 v] }).objs.size:=by simpa using c
    subst e;exact a.fpOk (Je _) (a.hok.fresh (Je _))
def zaX (b:TA):TI:=λσ H R=>b σ H λa c=>∃ j:Int,a=[.int j]/\-(2 ^ 62)<=j/\j<2 ^ 62/\R (Itr 0 j.toNat) c
theorem vc {a:Expr}{c:TA}{p pos:Pos}(k:Gl X "range") (hm:X.mg "range" = none) (ha:PA X [a] c) (i:starEach [a] X.env=[(false,eval a X.env)]:=by rfl):PI X tg (.Call (.Name "range" p) [a] [] pos) (zaX c):=by
  intro pins s σ H R I h;refine Call_ (wC I k hm boot_range (Ys (thn (ha pos pins s σ H _ I h) λn o ⟨m,u,l,f,b⟩=>?_) i rfl));obtain⟨j,e,b,g,q⟩:=b;subst e
  cases f with
  | cons r d =>
    cases d;obtain⟨t,rfl⟩:=r;exact call_range_1 (gU l (by simp_all) (by simp_all) b g (by simpa using q))
def zbd (e:TI)(g:TG)(f:TS):TS:=λD σ H=>e σ H λJ j=>∃ W:Nat->Nat->St->Hp->Prop,(∃ m,W 0 m σ j)/\∀ i m σ H,W i m σ H ->
  (J.stop i H/\D.nx σ H)\/(J.go i H/\∃ N:St->Hp->Prop,(∀ b a,N b a->∃ d,d<m/\W (i+1) d b a)/\∀ x a,J.yld i H x a->g x σ a λc h=>f { D with nx:=N,ct:=N,bk:=D.nx } c h)
def wJ (fp:List Addr)(h:Heap):List (Addr × Obj):=fp.filterMap λb=>(h.get? b).map λo=>(b,o)
theorem ye {fp:List Addr}{h:Heap}{b:Addr}{o:Obj}(hb:b∈fp)(e:h.get? b=some o):(b,o)∈wJ fp h:=List.mem_filterMap.mpr ⟨b,hb,by rw[e];rfl⟩
theorem jg {fp:List Addr}{h:Heap}{p:Addr × Obj}(a:p∈wJ fp h):p.1∈fp/\h.get? p.1=some p.2:=by
  obtain⟨b,c,e⟩:=List.mem_filterMap.mp a
  cases q:h.get? b with
  | none=>rw[q]at e;cases e
  | some o =>
    rw[q]at e;have d:(b,o)=p:=Jm e;subst d;exact⟨c,q⟩
theorem Inv.pinned {pins:List (Addr × Obj)}{σ:St}{H:Hp}{s:Shared}{fp:List Addr}(I:Inv X pins σ H s)(h:∀ b∈fp,FpOk X pins H b)(g:∀ b∈fp,∃ o,s.heap.get? b=some o/\∀ v,o.data≠.cell v):Inv X (pins++wJ fp s.heap) σ H s :=
  I.pins_of λp f=>(Jy.mp f).elim (λz=>I.pin p (JB _ z)) λz=>by
    obtain⟨a,e⟩:=jg z;obtain⟨k,j,i,_⟩:=h p.1 a;obtain⟨o,c,d⟩:=g p.1 a;rw[e]at c;cases c;exact⟨e,k,j,i,d⟩
theorem Inv.unpinned {pins a:List (Addr × Obj)}{σ:St}{H:Hp}{s:Shared}(I:Inv X (pins++a) σ H s):Inv X pins σ H s:=I.pins_of λp b=>I.pin p (JB _ (Yj _ b))
theorem xG {iter:Expr}{body:List Stmt}{P:TI}{g:TG}{R:TS}{pos:Pos}(z:PassesOwn (model X.prog X.w) X.A X.env X.xe)(Y:X.calm=true)(hi:PI X tg iter P)(hg:PG X tg g)(hb:PSs X body R)(hs:∀ x,foldedSetIterable iter X.env x=pure x:=by intro _;rfl):PS X (.For tg iter body [] pos) (zbd P g R):=by
  intro pins s σ H D I h;refine wpAny_For (thn (hi pins s σ H _ I h) λv s1 h1=>thn h1 λab s2 h2=>?_) hs;obtain⟨it,A,Q,J,H2,e,I2,T,L,Z,W,⟨m0,w0⟩,turn⟩:=h2;subst e;have p:∀ {q:Hp},(∀ b∈A,q b=none)->∀ b∈A,FpOk X pins q b:=λhn b hb=>⟨hn b hb,(Z b hb).2⟩;refine codeAny_forLoop_any (λn V=>∃ i l q,Inv X pins l q V/\Q i V.heap/\(∀ b∈A,q b=none)/\W i n l q) ?_ m0 ⟨0,σ,H2,I2,L,λb hb=>(Z b hb).1,w0⟩;rintro n U ⟨i,k,E,I3,B,C,w3⟩;rcases turn i n k E w3 with ⟨stop,qn⟩|⟨go,N,hN,step⟩
  · refine ZL z (thn (T.done X rfl rfl rfl Y i pins U k E X.xe I3 (p C) B stop) λr s4 ⟨G,I4⟩=>?_)
    subst G;exact wpAny_execs_nil ⟨k,E,I4,qn⟩
  · refine ZL z (thn (T.item X rfl rfl rfl Y i pins U k E X.xe I3 (p C) B go) λr s4 ⟨u,G,h4⟩=>?_)
    subst G;refine ZL z (thn h4 λ_ S ⟨x,H5,I5,r5,y5,w,M⟩=>?_);have O:=I5.pinned (p M) (T.obj _ _ w);refine ZL z (thn (hg _ S k H5 x u _ O r5 (step x H5 y5)) λ_ s6 ⟨K,H6,I6,q6⟩=>?_);refine ZL z (thn (hb _ s6 K H6 _ I6 q6) λf F t=>?_)
    have again:∀ {a:St}{j:Hp},Inv X (pins++wJ A S.heap) a j F->N a j->∃ m,m<n/\∃ i l q,Inv X pins l q F/\Q i F.heap/\(∀ b∈A,q b=none)/\W i m l q:=λ{a j} c y=>by
      obtain⟨m',hm,w7⟩:=hN a j y;refine⟨m',hm,i+1,a,j,c.unpinned,T.keep _ _ _ w λb hb o e=>(c.pin (b,o) (JB _ (JB _ (ye hb e)))).1,λb hb=>?_,w7⟩;obtain⟨o,e,d⟩:=T.obj _ _ w b hb;exact(c.pin (b,o) (JB _ (JB _ (ye hb e)))).2.1
    cases f with
    | next=>obtain⟨a,j,c,y⟩:=t;exact again c y
    | cont=>obtain⟨a,j,c,y⟩:=t;exact again c y
    | brk=>obtain⟨a,j,c,t⟩:=t;exact⟨a,j,c.unpinned,t⟩
    | ret v=>obtain⟨x7,a,j,c,r7,t⟩:=t;exact⟨x7,a,j,c.unpinned,r7,t⟩
end
theorem eB {K:PySem.W.Frag}{a:Addr}{xs:List V}{g:TG}{k:TS}{D:Ends}{σ:St}{H:Hp}(b:Nat->St->Hp->Prop)(t:b 0 σ H)(r:∀ i σ H,i<=xs.length->b i σ H->SqL K H a xs)(o:∀ i x σ H,xs[i]?=some x->b i σ H->g x σ H λd j=>k { D with nx:=b (i+1),ct:=b (i+1),bk:=D.nx } d j)(s:∀ σ H,b xs.length σ H->D.nx σ H) :
    ∃ W:Nat->Nat->St->Hp->Prop,(∃ m,W 0 m σ H)/\∀ i m σ H,W i m σ H ->
      ((Itl K a).stop i H/\D.nx σ H)\/((Itl K a).go i H/\∃ N:St->Hp->Prop,(∀ f c,N f c->∃ l,l<m/\W (i+1) l f c)/\∀ x c,(Itl K a).yld i H x c->g x σ c λd j=>k { D with nx:=N,ct:=N,bk:=D.nx } d j):=by
  refine⟨λi m σ H=>m=xs.length-i/\i<=xs.length/\b i σ H,⟨xs.length,by simp,JJ _,t⟩,?_⟩;rintro i m σ H ⟨rfl,hi,p⟩;have q:=r i σ H hi p;by_cases h:i<xs.length
  · refine .inr ⟨⟨xs,xs[i],q,by simp[h]⟩,b (i+1),λf c n=>⟨xs.length-(i+1),by omega,rfl,h,n⟩,λx c y=>?_⟩
    obtain⟨e,y⟩:=y;subst e;exact o i x σ _ (y xs q) p
  · have e:i=xs.length:=by lia
    subst e;exact .inl ⟨⟨xs,q,Je _⟩,s σ H p⟩
theorem uc {K:PySem.W.Frag}{a:Addr}{xs:List V}{g:TG}{k:TS}{D:Ends}{σ:St}{H:Hp}(b:Nat->St->Hp->Prop)(t:b 0 σ H)(r:∀ i σ H,i<=xs.length->b i σ H->SqT K H a xs)(o:∀ i x σ H,xs[i]?=some x->b i σ H->g x σ H λd j=>k { D with nx:=b (i+1),ct:=b (i+1),bk:=D.nx } d j)(s:∀ σ H,b xs.length σ H->D.nx σ H) :
    ∃ W:Nat->Nat->St->Hp->Prop,(∃ m,W 0 m σ H)/\∀ i m σ H,W i m σ H ->
      ((Itt K a).stop i H/\D.nx σ H)\/((Itt K a).go i H/\∃ N:St->Hp->Prop,(∀ f c,N f c->∃ l,l<m/\W (i+1) l f c)/\∀ x c,(Itt K a).yld i H x c->g x σ c λd j=>k { D with nx:=N,ct:=N,bk:=D.nx } d j):=by
  refine⟨λi m σ H=>m=xs.length-i/\i<=xs.length/\b i σ H,⟨xs.length,by simp,JJ _,t⟩,?_⟩;rintro i m σ H ⟨rfl,hi,p⟩;have q:=r i σ H hi p;by_cases h:i<xs.length
  · refine .inr ⟨⟨xs,xs[i],q,by simp[h]⟩,b (i+1),λf c n=>⟨xs.length-(i+1),by grind,rfl,h,n⟩,λx c y=>?_⟩
    obtain⟨e,y⟩:=y;subst e;exact o i x σ _ (y xs q) p
  · have e:i=xs.length:=by grind
    subst e;exact .inl ⟨⟨xs,q,Je _⟩,s σ H p⟩
theorem iD {lo:Int}{n:Nat}{g:TG}{j:TS}{D:Ends}{σ:St}{H:Hp}(a:Nat->St->Hp->Prop)(r:a 0 σ H)(o:∀ i σ H,i<n->a i σ H->g (.int (lo+i)) σ H λc h=>j { D with nx:=a (i+1),ct:=a (i+1),bk:=D.nx } c h)(q:∀ σ H,a n σ H->D.nx σ H) :
    ∃ W:Nat->Nat->St->Hp->Prop,(∃ m,W 0 m σ H)/\∀ i m σ H,W i m σ H ->
      ((Itr lo n).stop i H/\D.nx σ H)\/((Itr lo n).go i H/\∃ N:St->Hp->Prop,(∀ d b,N d b->∃ k,k<m/\W (i+1) k d b)/\∀ x b,(Itr lo n).yld i H x b->g x σ b λc h=>j { D with nx:=N,ct:=N,bk:=D.nx } c h):=by
  refine⟨λi m σ H=>m=n-i/\i<=n/\a i σ H,⟨n,by simp,JJ _,r⟩,?_⟩;rintro i m σ H ⟨rfl,hi,p⟩;by_cases f:i<n
  · refine .inr ⟨f,a (i+1),λd b l=>⟨n-(i+1),by grind,rfl,f,l⟩,λx b y=>?_⟩
    obtain⟨e,y⟩:=y;subst e y;exact o i σ _ f p
  · have e:i=n:=by lia
    subst e;exact .inl ⟨Je _,q σ H p⟩
abbrev R2:=V->V->Hp->VK->Prop
def OpR (X:Cx)(f:Value->Value->Sem Value)(r:R2):Prop :=
  ∀ (pins:List (Addr × Obj)) (s:Shared) (σ:St) (H:Hp) (x y:V) (v u:Value) (Q:VK),Inv X pins σ H s->RelV x v->RelV y u->r x y H Q ->
    wpAny (model X.prog X.w) X.A (f v u) (EP X pins σ Q) X.xe s
def UnR (X:Cx)(f:Value->Sem Value)(r:V->Hp->VK->Prop):Prop :=
  ∀ (pins:List (Addr × Obj)) (s:Shared) (σ:St) (H:Hp) (x:V) (v:Value) (Q:VK),Inv X pins σ H s->RelV x v->r x H Q ->
    wpAny (model X.prog X.w) X.A (f v) (EP X pins σ Q) X.xe s
def CallR (X:Cx)(f:Value)(r:List V->Hp->VK->Prop):Prop :=
  ∀ (pins:List (Addr × Obj)) (s:Shared) (σ:St) (H:Hp) (a:List V) (b:List Value) (Q:VK),Inv X pins σ H s->Vals a b->r a H Q ->
    wpAny (model X.prog X.w) X.A (call f b) (EP X pins σ Q) X.xe s
def TruR (X:Cx)(r:V->Hp->(Bool->Hp->Prop)->Prop):Prop :=
  ∀ (pins:List (Addr × Obj)) (s:Shared) (σ:St) (H:Hp) (x:V) (v:Value) (Q:Bool->Hp->Prop),Inv X pins σ H s->RelV x v->r x H Q ->
    wpAny (model X.prog X.w) X.A (truthy v) (TP X pins σ Q) X.xe s
def tOp (r:R2)(b a:TE):TE:=λσ H Q=>b σ H λx d=>a σ d λy c=>r x y c Q
def tUn (r:V->Hp->VK->Prop)(a:TE):TE:=λσ H Q=>a σ H λx b=>r x b Q
def rI (C:Int->Int->Prop)(g:Int->Int->V):R2:=λx y H Q=>∃ i j,x=.int i/\y=.int j/\C i j/\Q (g i j) H
def rI0 (g:Int->Int->V):R2:=λx y H Q=>∃ i j,x=.int i/\y=.int j/\Q (g i j) H
def rU (g:Int->V):V->Hp->VK->Prop:=λx H Q=>∃ i,x=.int i/\Q (g i) H
section
variable {X:Cx}{a b:Expr}{ta tb:TE}{pos:Pos}
theorem zan (ha:PE X a ta)(hb:PE X b tb){pins:List (Addr × Obj)}{s:Shared}{σ:St}{H:Hp}{R:V->V->Hp->Prop}(I:Inv X pins σ H s)(h:ta σ H λx g=>tb σ g λy c=>R x y c){Q:Value->Shared->Prop}{f:Value->Value->Sem Value}(n:∀ v u s2 x y c,Inv X pins σ c s2->RelV x v->RelV y u->R x y c->wpAny (model X.prog X.w) X.A (f v u) Q X.xe s2) :
    wpAny (model X.prog X.w) X.A (eval a X.env) (λv e=>wpAny (model X.prog X.w) X.A (eval b X.env) (λu d=>wpAny (model X.prog X.w) X.A (f v u) Q X.xe d) X.xe e) X.xe s:=by
  refine thn (ha pins s σ H _ I h) λv i ⟨x,g,p,k,m⟩=>?_;refine thn (hb pins i σ g _ p m) λu s2 ⟨y,c,o,j,l⟩=>?_;exact n v u s2 x y c o k j l
theorem zS {op:Operator}{r:R2}(f:OpR X (binaryOp op) r)(ha:PE X a ta)(hb:PE X b tb):PE X (.BinOp a op b pos) (tOp r ta tb):=by
  intro pins s σ H Q I h;exact wpAny_BinOp (zan ha hb I h λv u c x y i g e d q=>f pins c σ i x y v u Q g e d q)
theorem bP {op:UnaryOp}{r:V->Hp->VK->Prop}(e:UnR X (unaryOp op) r)(ha:PE X a ta):PE X (.UnaryOp op a pos) (tUn r ta):=by
  intro pins s σ H Q I h;exact UnaryOp_ (thn (ha pins s σ H _ I h) λv b ⟨x,g,f,c,d⟩=>e pins b σ g x v Q f c d)
theorem opI {f:Value->Value->Sem Value}{C:Int->Int->Prop}{g:Int->Int->Int}(rule:∀ (i j:Int) (t u:Tok) (s:Shared) (Q:Value->Shared->Prop) (E:Value->Shared->Prop),C i j->Q (.int (g i j) s.toks) { s with toks:=s.toks+1 }->wpAny (model X.prog X.w) X.A (f (.int i t) (.int j u)) Q E s) :
    OpR X f (rI C λi j=>.int (g i j)):=by
  intro pins s σ H x y v u Q I c b h;obtain⟨i,j,rfl,rfl,d,q⟩:=h;obtain⟨t,rfl⟩:=c;obtain⟨a,rfl⟩:=b;exact rule i j t a s _ _ d ⟨.int (g i j),H,I.tok _,⟨_,rfl⟩,q⟩
theorem zaM {f:Value->Value->Sem Value}{g:Int->Int->Int}(rule:∀ (i j:Int) (t u:Tok) (s:Shared) (Q:Value->Shared->Prop) (E:Value->Shared->Prop),Q (.int (g i j) s.toks) { s with toks:=s.toks+1 }->wpAny (model X.prog X.w) X.A (f (.int i t) (.int j u)) Q E s) :
    OpR X f (rI0 λi j=>.int (g i j)):=by
  intro pins s σ H x y v u Q I c b h;obtain⟨i,j,rfl,rfl,q⟩:=h;obtain⟨t,rfl⟩:=c;obtain⟨a,rfl⟩:=b;exact rule i j t a s _ _ ⟨.int (g i j),H,I.tok _,⟨_,rfl⟩,q⟩
theorem aZ {f:Value->Value->Sem Value}{g:Int->Int->Bool}(rule:∀ (i j:Int) (t u:Tok) (s:Shared) (Q:Value->Shared->Prop) (E:Value->Shared->Prop),Q (.bool (g i j)) s->wpAny (model X.prog X.w) X.A (f (.int i t) (.int j u)) Q E s) :
    OpR X f (rI0 λi j=>.bl (g i j)):=by
  intro pins s σ H x y v u Q I c b h;obtain⟨i,j,rfl,rfl,q⟩:=h;obtain⟨t,rfl⟩:=c;obtain⟨a,rfl⟩:=b;exact rule i j t a s _ _ ⟨.bl (g i j),H,I,rfl,q⟩
def CDiv (i j:Int):Prop:=0<j/\j<1073741824
def CPow (i j:Int):Prop:=0<=j/\j<=1000000/\i.natAbs<2 ^ 64
def CMul (i j:Int):Prop:=(-(2 ^ 64)<i/\i<2 ^ 64)\/(-(2 ^ 64)<j/\j<2 ^ 64)
theorem CMul.ok {i j:Int}(h:CMul i j):IntMulOk i j:=by
  rcases h with ⟨b,a⟩|⟨b,a⟩
  · exact .of_left (intBits_le_64 b a)
  · exact .of_right (intBits_le_64 b a)
theorem yY:OpR X (binaryOp .Add) (rI0 λi j=>.int (i+j)):=zaM λ_ _ _ _ _ _ _ q=>add_int q
theorem vf:OpR X (binaryOp .Sub) (rI0 λi j=>.int (i-j)):=zaM λ_ _ _ _ _ _ _ q=>sub_int q
theorem vg:OpR X (binaryOp .Mult) (rI CMul λi j=>.int (i*j)):=opI λ_ _ _ _ _ _ _ a q=>mul_int q a.ok
theorem vM:OpR X (binaryOp .FloorDiv) (rI CDiv λi j=>.int (i / j)):=opI λi j _ _ _ _ _ a q=>by
  have c:(0:Int)<j:=a.1;have b:j<1073741824:=a.2;exact floordiv_int (by grind) (by rw[Int.fdiv_eq_ediv_of_nonneg i (by lia)];exact q) (.inl (PyProof.noPylong_small (by omega)))
theorem xi:OpR X (binaryOp .Mod) (rI (λ_ j=>0<j) λi j=>.int (i%j)):=opI λi j _ _ _ _ _ a q=>by
  have b:(0:Int)<j:=a;exact mod_int' (by grind) (by rw[Int.fmod_eq_emod_of_nonneg i (by grind)];exact q)
theorem gp:OpR X (binaryOp .Pow) (rI CPow λi j=>.int (i ^ j.toNat)):=opI λ_ _ _ _ _ _ _ a q=>pow_int_small a.1 a.2.1 a.2.2 q
theorem unI {f:Value->Sem Value}{g:Int->Int}(rule:∀ (i:Int) (t:Tok) (s:Shared) (Q:Value->Shared->Prop) (E:Value->Shared->Prop),Q (.int (g i) s.toks) { s with toks:=s.toks+1 }->wpAny (model X.prog X.w) X.A (f (.int i t)) Q E s) :
    UnR X f (rU λi=>.int (g i)):=by
  intro pins s σ H x v Q I a h;obtain⟨i,rfl,q⟩:=h;obtain⟨t,rfl⟩:=a;exact rule i t s _ _ ⟨.int (g i),H,I.tok _,⟨_,rfl⟩,q⟩
theorem ig:UnR X (unaryOp .USub) (rU λi=>.int (-i)):=unI λ_ _ _ _ _ q=>neg_int q
end
def zaF:V->V->Bool
  | .non,.non=>true|.non,.int _=>true|.int _,.non=>true|.non,.bl _=>true|.bl _,.non=>true|.non,.str _=>true|.str _,.non=>true
  | .int _,.int _=>true|.bl _,.bl _=>true|.str _,.str _=>true|.byt _,.byt _=>true
  | .int _,.str _=>true|.str _,.int _=>true|.bl _,.str _=>true|.str _,.bl _=>true
  | _,_=>false
def rEq:R2:=λx y H Q=>zaF x y=true/\Q (.bl (decide (x=y))) H
def rNe:R2:=λx y H Q=>zaF x y=true/\Q (.bl (!decide (x=y))) H
theorem kR {i j:Int}:decide (V.int i=V.int j)=(i == j):=by
  rw[Yw];simp
theorem eF {i j:Bool}:decide (V.bl i=V.bl j)=(i == j):=by
  rw[Yw];simp
theorem kQ {i j:Str}:decide (V.str i=V.str j)=(i == j):=by
  rw[Yw];simp
theorem kS {i j:Array UInt8}:decide (V.byt i=V.byt j)=(i.toList == j.toList):=by
  rw[Yw];cases i;cases j;simp
section
variable {X:Cx}{a b c:Expr}{ta tb:TE}{pos:Pos}
theorem zy {pins:List (Addr × Obj)}{σ:St}{H:Hp}{s:Shared}{Q:VK}{k a:Bool}(I:Inv X pins σ H s)(q:Q (.bl k) H)(e:k=a):EP X pins σ Q (.bool a) s:=by
  subst e;exact⟨.bl k,H,I,rfl,q⟩
theorem xA:OpR X (compareOp .Eq) rEq:=by
  intro pins s σ H x y v u Q I d a h;obtain⟨c,q⟩:=h
  cases x with
  | non =>
    cases d
    cases y with
    | non=>cases a;exact PySem.EqNone.eq_none_none (zy I q (by simp))
    | bl j=>cases a;exact PySem.EqNone.eq_none_bool (zy I q (by simp))
    | int j=>obtain⟨b,rfl⟩:=a;exact PySem.EqNone.eq_none_int (zy I q (by simp))
    | str j=>obtain⟨b,rfl⟩:=a;exact PySem.EqNone.eq_none_str (zy I q (by simp))
    | _=>exact absurd (show false=true from c) Jp
  | bl i =>
    cases d
    cases y with
    | non=>cases a;exact PySem.EqNone.eq_bool_none (zy I q (by simp))
    | bl j=>cases a;exact eq_bool (zy I q eF)
    | str j=>obtain⟨b,rfl⟩:=a;exact PySem.EqMixed.eq_bool_str (zy I q (by simp))
    | _=>exact absurd (show false=true from c) Jp
  | int i =>
    obtain⟨t,rfl⟩:=d
    cases y with
    | non=>cases a;exact PySem.EqNone.eq_int_none (zy I q (by simp))
    | int j=>obtain⟨b,rfl⟩:=a;exact eq_int (zy I q kR)
    | str j=>obtain⟨b,rfl⟩:=a;exact PySem.EqMixed.eq_int_str (zy I q (by simp))
    | _=>exact absurd (show false=true from c) Jp
  | str i =>
    obtain⟨t,rfl⟩:=d
    cases y with
    | non=>cases a;exact PySem.EqNone.eq_str_none (zy I q (by simp))
    | bl j=>cases a;exact PySem.EqMixed.eq_str_bool (zy I q (by simp))
    | int j=>obtain⟨b,rfl⟩:=a;exact PySem.EqMixed.eq_str_int (zy I q (by simp))
    | str j=>obtain⟨b,rfl⟩:=a;exact eq_str (zy I q kQ)
    | _=>exact absurd (show false=true from c) Jp
  | byt i =>
    obtain⟨t,rfl⟩:=d
    cases y with
    | byt j=>obtain⟨b,rfl⟩:=a;exact PySem.W.eq_bytes (zy I q kS)
    | _=>exact absurd (show false=true from c) Jp
  | _=>cases y<;>exact absurd (show false=true from c) Jp
theorem oF:OpR X (compareOp .NotEq) rNe:=by
  intro pins s σ H x y v u Q I d a h;obtain⟨c,q⟩:=h
  cases x with
  | non =>
    cases d
    cases y with
    | non=>cases a;exact PySem.EqNone.ne_none_none (zy I q (by simp))
    | bl j=>cases a;exact PySem.EqNone.ne_none_bool (zy I q (by simp))
    | int j=>obtain⟨b,rfl⟩:=a;exact PySem.EqNone.ne_none_int (zy I q (by simp))
    | str j=>obtain⟨b,rfl⟩:=a;exact PySem.EqNone.ne_none_str (zy I q (by simp))
    | _=>exact absurd (show false=true from c) Jp
  | bl i =>
    cases d
    cases y with
    | non=>cases a;exact PySem.EqNone.ne_bool_none (zy I q (by simp))
    | bl j=>cases a;exact ne_bool (zy I q (JW not eF))
    | str j=>obtain⟨b,rfl⟩:=a;exact PySem.EqMixed.ne_bool_str (zy I q (by simp))
    | _=>exact absurd (show false=true from c) Jp
  | int i =>
    obtain⟨t,rfl⟩:=d
    cases y with
    | non=>cases a;exact PySem.EqNone.ne_int_none (zy I q (by simp))
    | int j=>obtain⟨b,rfl⟩:=a;exact ne_int (zy I q (JW not kR))
    | str j=>obtain⟨b,rfl⟩:=a;exact PySem.EqMixed.ne_int_str (zy I q (by simp))
    | _=>exact absurd (show false=true from c) Jp
  | str i =>
    obtain⟨t,rfl⟩:=d
    cases y with
    | non=>cases a;exact PySem.EqNone.ne_str_none (zy I q (by simp))
    | bl j=>cases a;exact PySem.EqMixed.ne_str_bool (zy I q (by simp))
    | int j=>obtain⟨b,rfl⟩:=a;exact PySem.EqMixed.ne_str_int (zy I q (by simp))
    | str j=>obtain⟨b,rfl⟩:=a;exact ne_str (zy I q (JW not kQ))
    | _=>exact absurd (show false=true from c) Jp
  | byt i =>
    obtain⟨t,rfl⟩:=d
    cases y with
    | byt j=>obtain⟨b,rfl⟩:=a;exact PySem.W.ne_bytes (zy I q (JW not kS))
    | _=>exact absurd (show false=true from c) Jp
  | _=>cases y<;>exact absurd (show false=true from c) Jp
theorem zaK:OpR X (compareOp .LtE) (rI0 λi j=>.bl (decide (i<=j))):=aZ λ_ _ _ _ _ _ _ q=>le_int q
theorem lZ:OpR X (compareOp .Gt) (rI0 λi j=>.bl (decide (j<i))):=aZ λ_ _ _ _ _ _ _ q=>gt_int q
theorem zaL:OpR X (compareOp .GtE) (rI0 λi j=>.bl (decide (j<=i))):=aZ λ_ _ _ _ _ _ _ q=>ge_int q
theorem aW:OpR X (compareOp .Is) (λx y H Q=>y=.non/\Q (.bl (decide (x=.non))) H):=by
  intro pins s σ H x y v u Q I a b h;obtain⟨rfl,q⟩:=h;cases b;refine is_none_gen (zy I q ?_)
  cases x<;>first
    | (cases a;rfl)
    | (obtain⟨t,rfl⟩:=a;rfl)
theorem dw:OpR X (compareOp .IsNot) (λx y H Q=>y=.non/\Q (.bl (!decide (x=.non))) H):=by
  intro pins s σ H x y v u Q I a b h;obtain⟨rfl,q⟩:=h;cases b;refine isnot_none_gen (zy I q ?_)
  cases x<;>first
    | (cases a;rfl)
    | (obtain⟨t,rfl⟩:=a;rfl)
theorem zw (b:Expr){op:CmpOp}(h:op≠.In:=by decide)(a:op≠.NotIn:=by decide):behindInMarks op b=false:=by
  have c:(op == CmpOp.In)=false:=by cases op<;>first|rfl|exact absurd rfl h
  have e2:(op == CmpOp.NotIn)=false:=by cases op<;>first|rfl|exact absurd rfl a
  cases b<;>simp[behindInMarks,c,e2]
theorem vL {op:CmpOp}{r:R2}(f:OpR X (compareOp op) r)(ha:PE X a ta)(hb:PE X b tb)(hm:behindInMarks op b=false):PE X (.Compare a [op] [b] pos) (tOp r ta tb):=by
  intro pins s σ H Q I h;exact wpAny_Compare1 (zan ha hb I h λv u c x y i g e d q=>f pins c σ i x y v u Q g e d q) hm
def zas (t:TE):TT:=λσ H Q=>t σ H λx a=>∃ k,x=.bl k/\Q k a
theorem zY {op:CmpOp}{r:R2}(o:OpR X (compareOp op) r)(ha:PE X a ta)(hb:PE X b tb)(hm:behindInMarks op b=false):PT X (.Compare a [op] [b] pos) (zas (tOp r ta tb)):=by
  intro pins s σ H Q I h
  refine wpAny_isTrue_Compare1 (thn (ha pins s σ H _ I h) λv f ⟨x,B,t,j,n⟩=>thn (hb pins f σ B _ t n) λu d ⟨y,A,q,i,m⟩ =>
    thn (o pins d σ A x y v u _ q j i m) λc C ⟨z,w,p,g,k,e,l⟩=>?_) hm
  subst e;cases g;exact Z8 ⟨w,p,l⟩
def TruV (K:PySem.W.Frag)(x:V)(H:Hp)(k:Bool):Prop :=
  match x with
  | .non=>k=false
  | .bl b=>k=b
  | .int i=>k=(i != 0)
  | .str y=>y.length<=sizeLine/\k=((y.length:Int) != 0)
  | .byt y=>y.size<=sizeLine/\k=((y.size:Int) != 0)
  | .ref p=>(∃ a,SqL K H p a/\k = !a.isEmpty)\/(∃ a,SqT K H p a/\k = !a.isEmpty)\/∃ c,H p=some (.dK c)/\k = !c.isEmpty
  | _=>False
theorem mt {κ:Type}{kvs:List (κ × V)}{vs:List (κ × Value)}(r:KV kvs vs):(!vs.isEmpty) = !kvs.isEmpty:=by
  cases r<;>rfl
theorem tT {xs:List V}{its:List Value}(r:Vals xs its):(!its.toArray.isEmpty) = !xs.isEmpty:=by
  cases r<;>simp
theorem tQ:(sizeLine:Nat)<2 ^ 63:=by rw[JG];decide
theorem bY:TruR X (λx H Q=>∃ k,TruV X.K x H k/\Q k H):=by
  intro pins s σ H x v Q I f h;obtain⟨k,e,q⟩:=h;have A:=tQ;have z:sizeLine=16777216:=JG
  cases x with
  | non =>
    cases f;have a:k=false:=e;subst a
    exact truthy_none ⟨H,I,q⟩
  | bl b =>
    cases f;have a:k=b:=e;subst a
    exact Z8 ⟨H,I,q⟩
  | int i =>
    obtain⟨t,rfl⟩:=f;have a:k=(i != 0):=e;subst a
    exact PySem.P.truthy_int ⟨H,I,q⟩
  | str y =>
    obtain⟨t,rfl⟩:=f;obtain⟨u,a⟩:y.length<=sizeLine/\k=((y.length:Int) != 0):=e;subst a
    exact PySem.P.truthy_str (by lia) ⟨H,I.tok _,q⟩
  | byt y =>
    obtain⟨t,rfl⟩:=f;obtain⟨u,a⟩:y.size<=sizeLine/\k=((y.size:Int) != 0):=e;subst a
    exact PySem.W.truthy_bytes (by lia) ⟨H,I.tok _,q⟩
  | ref p =>
    cases f;have a:(∃ d,SqL X.K H p d/\k = !d.isEmpty)\/(∃ d,SqT X.K H p d/\k = !d.isEmpty)\/∃ c,H p=some (.dK c)/\k = !c.isEmpty:=e;rcases a with ⟨d,g,a⟩|⟨d,g,a⟩|⟨c,g,a⟩
    · subst a
      obtain⟨n,r,l,o⟩:=I.list g;have hlen:=r.length;exact wpAny_truthy_list l.isList (by simp only[Jn];lia) ⟨H,I.tok _,by rw[tT r];exact q⟩
    · subst a
      obtain⟨n,r,l,o⟩:=I.tuple g;have hlen:=r.length;exact truthy_tuple l (by simp only[Jn];grind) ⟨H,I.tok _,by rw[tT r];exact q⟩
    · subst a
      obtain⟨o,w,j,r,m⟩:c.length<=sizeLine/\(p == sysModules)=false/\∃ j,KV c j/\s.heap.DictOf (yZ X.prog X.w) p j:=I.hok p _ g;have hlen:c.length=j.length:=Ya r
      exact wpAny_truthy_dict w m (by lia) ⟨H,I.tok _,by rw[mt r];exact q⟩
  | _=>exact(show False from e).elim
theorem pX (ha:PE X a ta)(e:∀ whole,isTrue a X.env whole=(do let v <- whole;standAt a.pos;holding [v] (truthy v))) :
    PT X a (λσ H Q=>ta σ H λx H'=>∃ k,TruV X.K x H' k/\Q k H'):=by
  intro pins s σ H Q I h;exact isTrue_plain (thn (ha pins s σ H _ I h) λv b ⟨x,g,f,c,d⟩=>bY pins b σ g x v Q f c d) (e _)
theorem uA {x:V}{us:List Value}(r:Vals [x] us):∃ u,us=[u]/\RelV x u:=by
  cases r with
  | cons b a=>cases a;exact⟨_,rfl,b⟩
theorem qz {x y:V}{us:List Value}(r:Vals [x,y] us):∃ u a,us=[u,a]/\RelV x u/\RelV y a:=by
  cases r with
  | cons e d =>
    cases d with
    | cons c b=>cases b;exact⟨_,_,rfl,e,c⟩
theorem nS:CallR X (.builtin "abs") (λxs H Q=>∃ i,xs=[.int i]/\Q (.int (if i<0 then -i else i)) H):=by
  intro pins s σ H xs a Q I r h;obtain⟨i,rfl,q⟩:=h;obtain⟨u,rfl,t,rfl⟩:=uA r;exact call_abs_int λu b=>⟨.int (if i<0 then -i else i),H,I.tok _,⟨_,rfl⟩,q⟩
theorem iO (b:X.calm=true):CallR X (.builtin "max") (λxs H Q=>∃ i j,xs=[.int i,.int j]/\Q (.int (if j > i then j else i)) H):=by
  intro pins s σ H xs d Q I r h;obtain⟨i,j,rfl,q⟩:=h;obtain⟨u,c,rfl,⟨t,rfl⟩,⟨f,rfl⟩⟩:=qz r;refine max_two_ints (I.ok.hd b) λg e k=>⟨_,H,I.kept k,?_,q⟩;by_cases a:j > i
  · rw[Jf a,Jf a];exact⟨_,rfl⟩
  · rw[Jd a,Jd a];exact⟨_,rfl⟩
theorem rh (b:X.calm=true):CallR X (.builtin "min") (λxs H Q=>∃ i j,xs=[.int i,.int j]/\Q (.int (if j<i then j else i)) H):=by
  intro pins s σ H xs d Q I r h;obtain⟨i,j,rfl,q⟩:=h;obtain⟨u,c,rfl,⟨t,rfl⟩,⟨f,rfl⟩⟩:=qz r;refine min_two_ints (I.ok.hd b) λg e k=>⟨_,H,I.kept k,?_,q⟩;by_cases a:j<i
  · rw[Jf a,Jf a];exact⟨_,rfl⟩
  · rw[Jd a,Jd a];exact⟨_,rfl⟩
theorem iQ:CallR X (.type "int") (λxs H Q=>(∃ i,xs=[.int i]/\Q (.int i) H)\/∃ k,xs=[.bl k]/\Q (.int (if k then 1 else 0)) H):=by
  intro pins s σ H xs b Q I r h;rcases h with ⟨i,rfl,q⟩|⟨k,rfl,q⟩
  · obtain⟨u,rfl,t,rfl⟩:=uA r
    exact call_int_int ⟨.int i,H,I,⟨_,rfl⟩,q⟩
  · obtain⟨u,rfl,a⟩:=uA r
    cases a;exact call_int_bool ⟨.int (if k then 1 else 0),H,I.tok _,⟨_,rfl⟩,q⟩
end
theorem RelO.some_of {v:V}{o:Option Value}(r:RelO (some v) o):∃ u,o=some u/\RelV v u:=by
  cases o with
  | none=>exact(show False from r).elim
  | some u=>exact⟨u,rfl,r⟩
structure Cls (K:PySem.W.Frag) (C:Addr):Prop where
  pg:PySem.W.plainGet K C Str.empty=true
  hd:PySem.W.hasDictIn K C=true
  po:PySem.W.plainOver K C=true
  sa:PySem.W.findIn K (.ref C) "__setattr__" = some (some (.builtin "object.__setattr__"))
section
variable {H:Hp}
inductive TyOf (K:PySem.W.Frag) (H:Hp):V->Value->Prop where
  | non:TyOf K H .non (.type "NoneType")
  | bl (x:Bool):TyOf K H (.bl x) (.type "bool")
  | int (i:Int):TyOf K H (.int i) (.type "int")
  | str (x:Str):TyOf K H (.str x) (.type "str")
  | flt (x:UInt64):TyOf K H (.flt x) (.type "float")
  | lst {a:Addr}{xs:List V}(e:H a=some (.lst xs)):TyOf K H (.ref a) (.type "list")
  | frz {a:Addr}{o:Obj}{xs:List V}(e:H a=some (.frz o (.lst xs))):TyOf K H (.ref a) (.type "list")
  | tup {a:Addr}{xs:List V}(e:H a=some (.tup xs)):TyOf K H (.ref a) (.type "tuple")
  | dK {a:Addr}{kvs:List (Key × V)}(e:H a=some (.dK kvs)):TyOf K H (.ref a) (.type "dict")
  | dT {a:Addr}{kvs:List (List Key × V)}(e:H a=some (.dT kvs)):TyOf K H (.ref a) (.type "dict")
  | ins {a C dx:Addr}{fs:List (Str × V)}(e:H a=some (.ins C dx fs)) (cl:Cls K C) (ha:PySem.W.findIn K (.ref C) "__class__" = some (some (.builtin "object.__class__")))
      (hn:PySem.W.specialIn K (.builtin "object.__class__") "__get__" = some (some (.builtin "getset_descriptor.__get__"))) (htk:PySem.W.takesIn K (.builtin "object.__class__")=some true)
      (hm:PySem.W.mroIn K C (.type "object")=some true):TyOf K H (.ref a) (.ref C)
end
structure Room (k:Nat) (A:Around):Prop where
  hd:A.handled=none
  dp:A.depth+3*k+5<recursionLimit
  un:A.units+16*k+200<cLine
  gd:A.guards=some []
theorem Room.mono {j k:Nat}{A:Around}(r:Room k A)(h:j<=k):Room j A:=⟨r.hd,by have:=r.dp;grind,by have:=r.un;grind,r.gd⟩
theorem Room.deeper {k:Nat}{A:Around}(r:Room (k+1) A)(env:Env):Room k (A.deeper env) :=
  ⟨r.hd,by have:=r.dp;show A.depth+1+3*k+5<_;lia,by have:=r.un;show A.units+3+16*k+200<_;lia,r.gd⟩
theorem Room.depth {k:Nat}{A:Around}(r:Room k A):A.depth<recursionLimit:=by have:=r.dp;grind
theorem Room.units {k:Nat}{A:Around}(r:Room k A):A.units+64<cLine:=by have:=r.un;grind
theorem Room.units0 {k:Nat}{A:Around}(r:Room k A):A.units<cLine:=by have:=r.un;grind
def dU:TA:=λ_ H Q=>Q [] H
def lJ (c:TE)(b:TA):TA:=λσ H Q=>c σ H λx e=>b σ e λa d=>Q (x::a) d
section
variable {X:Cx}{e:Expr}{es:List Expr}{te:TE}{t:TA}{pos:Pos}
theorem zC:PA X [] dU:=λ_ _ _ _ H Q I h=>WC ⟨[],H,I,.nil,h⟩
theorem zA (ha:PE X e te)(j:PA X es t)(i:starEach (e::es) X.env=(false,eval e X.env)::starEach es X.env:=by rfl):PA X (e::es) (lJ te t):=by
  intro pos pins s σ H Q I h;rw[i];show wpAny _ _ (spliced ((false,eval e X.env)::backTo pos (starEach es X.env))) _ _ s;refine ZQ (thn (ha pins s σ H _ I h) λu b ⟨x,n,l,d,g⟩=>?_);exact thn (j pos pins b σ n _ l g) λo p ⟨a,m,k,c,f⟩=>⟨x::a,m,k,.cons d c,f⟩
def za7 (t:TA):TE:=λσ H Q=>t σ H λa b=>a.length<=sizeLine/\∀ p,b p=none->Q (.ref p) (upd b p (.tup a))
def zbb (t:TA):TE:=λσ H Q=>t σ H λa b=>a.length<=sizeLine/\∀ p,b p=none->Q (.ref p) (upd b p (.lst a))
theorem zT {x1}(h:PA X es t):PE X (.Tuple es x1 pos) (za7 t):=by
  intro pins s σ H Q I i;refine wpAny_Tuple_spliced (thn (h pos pins s σ H _ I i) λg a ⟨f,d,c,r,z,q⟩=>⟨by rw[<- r.length];exact z,?_⟩);have j:d a.heap.objs.size=none:=c.hok.fresh (Je _);refine⟨.ref a.heap.objs.size,upd d a.heap.objs.size (.tup f),c.laid (t':=a.toks) (λb u e=>J8 _ e) (Je _) ?_,rfl,q _ j⟩;exact⟨z,g,r,TupX.new _ _⟩
theorem yR (h:PA X es t):PE X (.List es pos) (zbb t):=by
  intro pins s σ H Q I i;refine wpAny_List_spliced (thn (h pos pins s σ H _ I i) λg a ⟨f,d,c,r,z,q⟩=>⟨by rw[<- r.length];exact z,?_⟩);have j:d a.heap.objs.size=none:=c.hok.fresh (Je _);refine⟨.ref a.heap.objs.size,upd d a.heap.objs.size (.lst f),c.laid (t':=a.toks) (λb u e=>J8 _ e) (Je _) ?_,rfl,q _ j⟩;exact⟨z,g,0,r,Jq _ rfl⟩
end
abbrev Sp:=List V->Hp->VK->XK->Prop
abbrev CXT:=List Env->Hp->Shared->XK->Value->Shared->Prop
structure Env0 (P:Program) (w:World) (K:PySem.W.Frag) (mg:Str->Option Value) (base:Heap) (A:Around) (outer:List Env) (s:Shared) (H:Hp):Prop where
  frames:A.frames=some outer
  mod:Mod K mg base
  bs:∀ b o,base.get? b=some o->s.heap.get? b=some o/\H b=none
  bsz:base.objs.size<=s.heap.objs.size
  funs:s.heap.FunFrames base outer
  frf:∀ b∈frs outer,H b=none
  hok:HOk P w H s.heap
  bare:AllBare s.gens
def CE (outer:List Env)(P:Program)(w:World)(H:Hp)(s:Shared)(Q:VK)(u:Value)(a:Shared):Prop :=
  ∃ v b,a.os=s.os/\AllBare a.gens/\Un (frs outer) [] H b s.heap a.heap/\HOk P w b a.heap/\RelV v u/\Q v b
def CR (CX:CXT)(outer:List Env)(P:Program)(w:World)(H:Hp)(s:Shared)(Q:VK)(E:XK)(r:Result)(a:Shared):Prop :=
  match r with
  | .ok (.ret u)=>CE outer P w H s Q u a
  | .ok _=>False
  | .error e=>CX outer H s E e a
structure FnOk (P:Program) (w:World) (K:PySem.W.Frag) (mg:Str->Option Value) (base:Heap) (CX:CXT) (k:Nat) (f:Addr) (fd:FuncData) (ps:List Str) (sp:Sp):Prop where
  len:∀ vs H Q E,sp vs H Q E->vs.length=ps.length
  run:∀ (A:Around) (outer:List Env) (s:Shared) (H:Hp) (args:Args) (us:List Value) (vs:List V) (Q:VK) (E:XK),Room k A->Env0 P w K mg base A outer s H->BindsTo s fd args (ps.zip us)->Vals vs us->sp vs H Q E ->
    codeAny (model P w) A (.call (.ref f) args) (CR CX outer P w H s Q E) s
theorem FnOk.mono {P:Program}{w:World}{K:PySem.W.Frag}{mg:Str->Option Value}{base:Heap}{CX:CXT}{j k:Nat}{f:Addr}{fd:FuncData}{ps:List Str}{sp:Sp}(F:FnOk P w K mg base CX j f fd ps sp)(h:j<=k) :
    FnOk P w K mg base CX k f fd ps sp:=⟨F.len,λA outer s H args b a Q E c=>F.run A outer s H args b a Q E (c.mono h)⟩
theorem FnOk.imp {P:Program}{w:World}{K:PySem.W.Frag}{mg:Str->Option Value}{base:Heap}{CX:CXT}{k:Nat}{f:Addr}{fd:FuncData}{ps:List Str}{sp a:Sp}(F:FnOk P w K mg base CX k f fd ps sp)(h:∀ vs H Q E,a vs H Q E->sp vs H Q E):FnOk P w K mg base CX k f fd ps a :=
  ⟨λvs H Q E q=>F.len vs H Q E (h _ _ _ _ q),λA outer s H args b vs Q E e g i c d=>F.run A outer s H args b vs Q E e g i c (h _ _ _ _ d)⟩
section
variable {X:Cx}{pins:List (Addr × Obj)}{σ:St}{H:Hp}{s s':Shared}
theorem Inv.env0 (I:Inv X pins σ H s):Env0 X.prog X.w X.K X.mg X.base X.A X.stack s H :=
  ⟨I.ok.frames,I.ok.mod,I.bs,JR I.ok.bsz I.sz,I.stack,I.stkFree,I.hok,I.bare⟩
theorem Inv.after {Q:VK}{u:Value}(I:Inv X pins σ H s)(h:CE X.stack X.prog X.w H s Q u s'):EP X pins σ Q u s':=by
  obtain⟨v,f,os,bare,un,c,r,q⟩:=h;obtain⟨e,g,d,t,a⟩:=s';obtain rfl:a=s.os:=os;exact⟨v,f,I.call (h':=e) (g':=g) (d':=d) (t':=t) (ch:=[]) un c bare (λb z=>absurd z (by simp)),r,q⟩
end
def bL (sp:Sp)(a:List V)(E:XK)(t:TA):TE:=λσ H Q=>t σ H λb c=>sp (b++a) c Q E
def Binds (K:PySem.W.Frag)(fd:FuncData)(ps:List Str)(ds:List Value):Prop :=
  ∀ (s:Shared) (a:List Value),K.In s.heap->(a++ds).length=ps.length->BindsTo s fd ⟨a,[]⟩ (ps.zip (a++ds))
theorem Binds.all {K:PySem.W.Frag}{fd:FuncData}{ps:List Str}(h:∀ us:List Value,us.length=ps.length->bindArgs fd ⟨us,[]⟩=pure (ps.zip us)):Binds K fd ps []:=λs us _ a=>by
  rw[Y3]at a ⊢;exact .of_eq (h us a)
def Passes (CX:CXT)(X:Cx)(E:XK):Prop:=∀ (pins:List (Addr × Obj)) (σ:St) (H:Hp) (s:Shared) (e:Value) (a:Shared),Inv X pins σ H s->CX X.stack H s E e a->X.xe e a
section
variable {X:Cx}{CX:CXT}{k:Nat}{f:Addr}{fd:FuncData}{ps:List Str}{sp:Sp}{dvs:List V}{ds:List Value}{E:XK}{x:Str}{p pos:Pos}{e:Expr}{es:List Expr}{t:TA}
theorem aH {pins:List (Addr × Obj)}{σ:St}{H:Hp}{s:Shared}{Q:VK}{us:List Value}{vs:List V}(F:FnOk X.prog X.w X.K X.mg X.base CX k f fd ps sp)(g:Room k X.A)(hb:Binds X.K fd ps ds)(hd:Vals dvs ds)(d:Passes CX X E)(I:Inv X pins σ H s)(r:Vals vs us)(h:sp (vs++dvs) H Q E):wpAny (model X.prog X.w) X.A (call (.ref f) us) (EP X pins σ Q) X.xe s:=by
  have b:Vals (vs++dvs) (us++ds):=r.append hd;have i:(us++ds).length=ps.length:=by rw[<- b.length];exact F.len _ _ _ _ h
  refine wpAny_call (ZD (F.run X.A X.stack s H ⟨us,[]⟩ (us++ds) (vs++dvs) Q E g I.env0 (hb s us I.kIn i) b h) λr c a=>?_)
  cases r with
  | error e=>exact d pins σ H s e c I a
  | ok fl =>
    cases fl with
    | ret u=>exact I.after a
    | next=>exact False.elim a
    | brk=>exact False.elim a
    | cont=>exact False.elim a
theorem zR (F:FnOk X.prog X.w X.K X.mg X.base CX k f fd ps sp) (g:Room k X.A) (j:Gl X x) (hm:X.mg x=some (.ref f)) (i:PySem.W.keepIn X.K (.ref f)=true) (hb:Binds X.K fd ps ds) (hd:Vals dvs ds) (d:Passes CX X E)
    (ha:PA X (e::es) t) (b:(x == ("__debug__":Str))=false:=by decide) (l:starEach (e::es) X.env=(false,eval e X.env)::starEach es X.env:=by rfl) (a:(backTo pos (starEach es X.env)).any (·.1)=false:=by rfl) :
    PE X (.Call (.Name x p) (e::es) [] pos) (bL sp dvs E t):=by
  intro pins s σ H Q I h;refine Zp (kG I j hm ?_ b);refine PySem.W.callWith_K (h₀:=X.base) I.ok.mod.kin i (thn (ha pos pins s σ H _ I h) λn o ⟨m,u,c,r,q⟩=>⟨c.kIn,?_⟩) l a;exact aH F g hb hd d c r q
end
structure FnScope (N P:List Str) (sc:Scope):Prop where
  kind:sc.kind=.function
  co:sc.isCoroutine=false
  gen:sc.isGenerator=false
  nd:N.Nodup
  pre:N.take P.length=P
  par:∀ x∈P,sc.names.lookup x=some .local \/ sc.names.lookup x=some .cell
  nofree:∀ y∈sc.names,y.2≠.free
theorem rm {kindOf:Str->Option NameKind}{x:Str}:∀ {binds:List (Str × Value)}{m:Str->Option Value},(∀ v,(x,v)∉binds)->bindL kindOf binds m x=m x
  | [],_,_=>rfl
  | (n,v)::r,m,h=>by
    unfold bindL;rw[rm λw a=>h w (JE _ a)];split
    · have:x≠n:=by rintro rfl;exact h v JF
      simp[this]
    · rfl
theorem r0 {kindOf:Str->Option NameKind}{x:Str}:∀ {binds:List (Str × Value)}{m:Str->Option Value},(∀ v,(x,v)∉binds)->bindC kindOf binds m x=m x
  | [],_,_=>rfl
  | (n,v)::r,m,h=>by
    unfold bindC;rw[r0 λw a=>h w (JE _ a)];split
    · rfl
    · have:x≠n:=by rintro rfl;exact h v JF
      simp[this]
theorem rp {kindOf:Str->Option NameKind}{x:Str}{v:Value}:∀ {P:List Str}{vs:List Value}{i:Nat}{m:Str->Option Value},P.Nodup->P[i]?=some x->vs[i]?=some v->kindOf x=some .local ->
    bindL kindOf (P.zip vs) m x=some v
  | [],_,_,_,_,h,_,_=>by simp at h
  | _::_,[],_,_,_,_,h,_=>by simp at h
  | p::P,w::vs,0,m,nd,b,a,c=>by
    simp at b a;subst b;subst a;show bindL kindOf ((p,w)::P.zip vs) m p=_;unfold bindL;rw[rm λv d=>(JP.mp nd).1 (List.of_mem_zip d).1,Jf c]
    simp
  | p::P,w::vs,i+1,m,nd,b,a,c=>by
    show bindL kindOf ((p,w)::P.zip vs) m x=_;unfold bindL;exact rp (i:=i) (JP.mp nd).2 (by simpa using b) (by simpa using a) c
theorem r8 {kindOf:Str->Option NameKind}{x:Str}{v:Value}:∀ {P:List Str}{vs:List Value}{i:Nat}{m:Str->Option Value},P.Nodup->P[i]?=some x->vs[i]?=some v->kindOf x≠some .local ->
    bindC kindOf (P.zip vs) m x=some v
  | [],_,_,_,_,h,_,_=>by simp at h
  | _::_,[],_,_,_,_,h,_=>by simp at h
  | p::P,w::vs,0,m,nd,b,a,c=>by
    simp at b a;subst b;subst a;show bindC kindOf ((p,w)::P.zip vs) m p=_;unfold bindC;rw[r0 λv d=>(JP.mp nd).1 (List.of_mem_zip d).1,Jd c]
    simp
  | p::P,w::vs,i+1,m,nd,b,a,c=>by
    show bindC kindOf ((p,w)::P.zip vs) m x=_;unfold bindC;exact r8 (i:=i) (JP.mp nd).2 (by simpa using b) (by simpa using a) c
def start (N:List Str)(vs:List V):St:=vs.map some++List.replicate (N.length-vs.length) none
def lC (CX:CXT)(P:Program)(w:World)(K:PySem.W.Frag)(mg:Str->Option Value)(base:Heap)(N:List Str)(qual:Str)(scope:Scope)(f:Addr)(cd:Value)(A:Around)(outer:List Env)(s:Shared)(H:Hp)(E:XK):Cx where
  prog:=P
  w:=w
  K:=K
  mg:=mg
  base:=base
  A:=A.deeper (envOfC qual scope s.heap.objs.size f cd)
  N:=N
  s₀:=s
  H₀:=H
  env:=envOfC qual scope s.heap.objs.size f cd
  outer:=outer
  stack:=envOfC qual scope s.heap.objs.size f cd::outer
  ex:=[]
  calm:=true
  fn:=λ_=>true
  pn:=[]
  xe:=λe b=>wpAny (model P w) (A.deeper (envOfC qual scope s.heap.objs.size f cd)) (leaving (envOfC qual scope s.heap.objs.size f cd) e) (λ_ a=>CX outer H s E e a) (λc a=>CX outer H s E c a) b
theorem nR {sc:Scope}{n:Nat}{x:Str}(h:sc.names.lookup x=some .cell):∃ c,(cellsFrom n sc.names []).lookup x=some c:=by
  have q:=PySem.W.cellsFrom_some sc.names n [] (.inl h);exact ZH.mp q
theorem j9 {CX:CXT}{P:Program}{w:World}{K:PySem.W.Frag}{mg:Str->Option Value}{base:Heap}{N ps:List Str}{qual:Str}{scope:Scope}{f:Addr}{cd:Value}{A:Around}{outer:List Env}{s s1:Shared}{H:Hp}{E:XK}{us:List Value}{vs:List V}(S:FnScope N ps scope)(hd:A.handled=none)(g:Env0 P w K mg base A outer s H)(J:vs.length=ps.length)(r:Vals vs us)(x:InCallC s s.heap.objs.size (bindL (envOfC qual scope s.heap.objs.size f cd).kindOf (ps.zip us) λ_=>none) (cellsFrom (s.heap.objs.size+1) scope.names []) (bindC (envOfC qual scope s.heap.objs.size f cd).kindOf (ps.zip us) λ_=>none) s1) :
    Inv (lC CX P w K mg base N qual scope f cd A outer s H E) [] (start N vs) H s1:=by
  have G:ps.length<=N.length:=by have:=JW List.length S.pre;rw[JC]at this;lia
  obtain⟨t,I,rfl,C⟩:=x.done;have l:∀ b:Addr,b∉(lC CX P w K mg base N qual scope f cd A outer s H E).ex:=λb z=>absurd (show b∈([]:List Addr) from z) (by simp)
  refine⟨⟨g.mod,S.kind,rfl,rfl,Je _,λy z c t d=>?_,λy j=>?_,λy c _ h=>?_,λ_=>hd,Around.frames_deeper g.frames,.inr ⟨rfl,rfl⟩,λb z=>absurd z (l b),g.bs,g.bsz,λb _ _=>l b,λb z=>absurd z (l b),g.funs,g.frf⟩,
    rfl,g.bare,Un.kept C,⟨_,x.toInCall.ns,λi y v t d L=>?_⟩,λy c h=>⟨_,x.cell y c h⟩,g.hok.fresh (Je _),λy c h=>?_,λp m=>absurd (show p∈([]:List (Addr × Obj)) from m) (by simp),g.hok.kept C,?_⟩
  · exact name_of_addr x.apart (Zj t) (Zj d)
  · have j:scope.names.lookup y=some .cell\/scope.names.lookup y=some .free:=j
    rcases j with j|j
    · exact nR j
    · exact absurd rfl (S.nofree _ (Zj j))
  · exact Nat.le_of_lt (x.above y c (Zj h))
  · have hi:i<vs.length:=by
      unfold start at d;by_cases hi:i<vs.length
      · exact hi
      · rw[Zx (by simpa using hi)]at d
        rw[List.getElem?_replicate]at d;split at d<;>cases d
    have F:vs[i]?=some v:=by
      unfold start at d;rw[ZG (by simpa using hi),Y6]at d
      cases e:vs[i]? with
      | none=>rw[e]at d;cases d
      | some a=>rw[e]at d;cases d;rfl
    obtain⟨u,B,D⟩:=r.get F
    have m:ps[i]?=some y:=by
      rw[<- S.pre,Zg (by simp_all)];exact t
    have o:ps.Nodup:=by rw[<- S.pre];exact S.nd.sublist (List.take_sublist _ _)
    refine⟨u,D,?_⟩;rcases S.par y (JQ m) with k|k
    · exact .inl ⟨k,rp o m B k⟩
    · obtain⟨c,e⟩:=nR (n:=s.heap.objs.size+1) k
      refine .inr ⟨.inl k,c,e,?_⟩;have q:=x.cell y c e;rw[r8 o m B (by show scope.names.lookup y≠_;rw[k];decide)]at q;exact q
  · exact g.hok.fresh (Nat.le_of_lt (x.above y c (Zj h)))
  · unfold start
    show _=N.length;rw[Jb,Jg,Z3]
    simp_all
theorem bT {CX:CXT}{P:Program}{w:World}{K:PySem.W.Frag}{mg:Str->Option Value}{base:Heap}{k:Nat}{f:Addr}{name qual:Str}{params:Arguments}{body:List Stmt}{scope:Scope}{C kV doc pm cdv ct oc:Value}{an od:Option Addr}{osl:Array (Option Value)}{N ps:List Str}{sp:Sp}(G:K.lookup f=some ⟨oc,od,.func (PySem.W.fnOf name qual params body scope C kV doc pm an cdv ct),osl⟩)(z:PySem.W.codeIn K cdv qual=true)(S:FnScope N ps scope)(len:∀ vs H Q E,sp vs H Q E->vs.length=ps.length)(g:∀ (A:Around) (outer:List Env) (s:Shared) (H:Hp) (vs:List V) (Q:VK) (E:XK),Room k (A.deeper (envOfC qual scope s.heap.objs.size f cdv))->sp vs H Q E ->
      ∃ t,PSs (lC CX P w K mg base N qual scope f cdv A outer s H E) body t/\t { nx:=λ_ c=>Q .non c,rt:=Q } (start N vs) H) :
    FnOk P w K mg base CX (k+1) f (PySem.W.fnOf name qual params body scope C kV doc pm an cdv ct) ps sp:=by
  refine⟨len,λA outer s H args F vs Q E p i U r j=>?_⟩;have R:=len _ _ _ _ j;have D:K.In s.heap:=i.mod.kin.keeps λb o e=>(i.bs b o e).1;have lim:s.heap.NoLimit:=i.mod.nolimit.keeps λb o e=>(i.bs b o e).1
  have d:∀ y∈ps.zip F,scope.names.lookup y.1=some .local \/ (scope.names.lookup y.1=some .cell/\((cellsFrom (s.heap.objs.size+1) scope.names []).lookup y.1).isSome=true):=λ⟨n,v⟩ L=>by
    rcases S.par n (List.of_mem_zip L).1 with q|q
    · exact .inl q
    · exact .inr ⟨q,PySem.W.cellsFrom_some _ _ _ (.inl q)⟩
  refine codeAny_call_function p.depth (D _ _ G) rfl S.co S.gen rfl (PySem.W.codeRec_of D z) (U _ _ _ _ ?_);refine wpAny_newFunctionEnv_cells S.kind d λenv T B x=>?_;subst T;refine⟨lim.keeps x.toInCall.keep,codeAny_func ?_⟩;obtain⟨t,M,O⟩:=g A outer s H vs Q E (p.deeper _) j;have I:Inv (lC CX P w K mg base N qual scope f cdv A outer s H E) [] (start N vs) H B:=j9 S p.hd i R r x;refine JN (M [] B (start N vs) H _ I O) (λfl l h=>?_) λe l h=>h
  have fin:∀ {a:St}{c:Hp}{v:V}{u:Value},Inv (lC CX P w K mg base N qual scope f cdv A outer s H E) [] a c l->RelV v u->Q v c->CE outer P w H s Q u l :=
    λ{a c v u} J m q=>⟨v,c,J.os,J.bare,J.base,J.hok,m,q⟩
  cases fl with
  | ret u =>
    obtain⟨v,a,c,J,m,q⟩:=h
    exact fin J m q
  | next =>
    obtain⟨a,c,J,q⟩:=h
    exact fin (v:=V.non) (u:=Value.none) J rfl q
  | brk =>
    obtain⟨_,_,_,q⟩:=h
    exact False.elim q
  | cont =>
    obtain⟨_,_,_,q⟩:=h;exact False.elim q
section
variable {X:Cx}{x:Str}{p pos:Pos}{e:Expr}{es:List Expr}{t:TA}{id T:String}{r:List V->Hp->VK->Prop}
def tCB (r:List V->Hp->VK->Prop)(t:TA):TE:=λσ H Q=>t σ H λa b=>r a b Q
theorem zU (m:CallR X (.builtin id) r) (k:Gl X x) (hm:X.mg x=none) (j:bootBuiltins x=some (.builtin id)) (ha:PA X (e::es) t) (hn:x≠"__name__":=by decide) (b:(x == ("__debug__":Str))=false:=by decide)
    (l:starEach (e::es) X.env=(false,eval e X.env)::starEach es X.env:=by rfl) (a:(backTo pos (starEach es X.env)).any (·.1)=false:=by rfl):PE X (.Call (.Name x p) (e::es) [] pos) (tCB r t):=by
  intro pins s σ H Q I h;refine Zp (wC I k hm j ?_ hn b);exact PyProof.Rows.callWith_builtin1 (thn (ha pos pins s σ H _ I h) λd f ⟨c,o,n,g,i⟩=>m pins f σ o c d Q n g i) l a
theorem zv (m:CallR X (.type T) r) (k:Gl X x) (hm:X.mg x=none) (j:bootBuiltins x=some (.type T)) (ha:PA X (e::es) t) (hn:x≠"__name__":=by decide) (b:(x == ("__debug__":Str))=false:=by decide)
    (l:starEach (e::es) X.env=(false,eval e X.env)::starEach es X.env:=by rfl) (a:(backTo pos (starEach es X.env)).any (·.1)=false:=by rfl):PE X (.Call (.Name x p) (e::es) [] pos) (tCB r t):=by
  intro pins s σ H Q I h;refine Zp (wC I k hm j ?_ hn b);exact Ys (thn (ha pos pins s σ H _ I h) λd f ⟨c,o,n,g,i⟩=>m pins f σ o c d Q n g i) l a
end
end L2
namespace HT
open PySem PyProof.Rows
section
variable {prog:Program}{w:World}{A:Around}{E:Value->Shared->Prop}{s:Shared}
theorem cat_tup {t b:Addr}{vs ws:List Value}{Q:Value->Shared->Prop}(u:IsTup s.heap t vs.toArray) (hb:IsTup s.heap b ws.toArray) (m:vs≠[])
    (x:ws=[]->Q (.ref t) s) (v:ws≠[]->Q (.ref s.heap.objs.size) { s with heap:=s.heap.push { cls:=.type "tuple",data:=.seq (vs++ws).toArray } })
    (j:vs.length+ws.length<=sizeLine):wpAny (model prog w) A (binaryOp .Add (.ref t) (.ref b)) Q E s:=by
  obtain⟨⟨cls,q,data,k⟩,i,p,n,o⟩:=id u;obtain⟨⟨r,g,data2,c⟩,a,f,l,d⟩:=id hb;simp only at p o f d;subst p o f d;have e:vs.toArray++ws.toArray=(vs++ws).toArray:=by simp
  by_cases h:ws=[]
  · exact concat_meets ⟨_,i,rfl⟩ ⟨_,a,rfl⟩ noFill_tuple_add seq_tuple_add PySem.F.slot_tuple_add PySem.F.entry_tuple_add (PySem.F.args_tuple_add_2 _ _)
      (tuple_addW1 t b vs.toArray ws.toArray n l q g k c (by simpa using m) (by simp[h])) ⟨i,a,x h⟩
  · refine concat_meets ⟨_,i,rfl⟩ ⟨_,a,rfl⟩ noFill_tuple_add seq_tuple_add PySem.F.slot_tuple_add PySem.F.entry_tuple_add (PySem.F.args_tuple_add_2 _ _)
      (tuple_addW2 t b vs.toArray ws.toArray n l q g k c (by simpa using m) (by simpa using h) (by rw[Jn,Jn];exact j)) ⟨i,a,?_⟩
    rw[e];exact v h
def sIx (n d:Nat):Option Int->Nat
  | none=>d
  | some v=>if v<0 then (v+(n:Int)).toNat else min v.toNat n
theorem sIx_none (n d:Nat):sIx n d none=d:=rfl
theorem sIx_nat (n d k:Nat):sIx n d (some (k:Int))=min k n:=by
  show (if (k:Int)<0 then ((k:Int)+(n:Int)).toNat else min (k:Int).toNat n)=min k n;rw[Jd (by simp_all),Yf]
theorem aC (n d:Nat)(hd:d<=n)(o:Option Int):sIx n d o<=n:=by
  cases o with
  | none=>exact hd
  | some v =>
    show (if v<0 then (v+(n:Int)).toNat else min v.toNat n)<=n;by_cases a:v<0
    · rw[Jf a];grind
    · rw[Jd a];exact Nat.min_le_right _ _
theorem kY (v:Int)(n d:Nat):(if v<0 then max (v+(n:Int)) 0 else min v (n:Int))=((sIx n d (some v):Nat):Int):=by
  show (if v<0 then max (v+(n:Int)) 0 else min v (n:Int))=(((if v<0 then (v+(n:Int)).toNat else min v.toNat n):Nat):Int);by_cases a:v<0
  · simp only[Jf a];simp_all
  · simp only[Jd a];grind
theorem lF (lo hi:Option Int)(n:Nat):Builtin.Slice.sliceAdjust lo hi 1 (n:Int)=(((sIx n 0 lo:Nat):Int),((sIx n n hi:Nat):Int)):=by
  have a:¬((1:Int)<0):=by simp_all
  unfold Builtin.Slice.sliceAdjust;simp only[a,Z9];refine Prod.ext ?_ ?_
  · cases lo with
    | none=>rfl
    | some v=>exact kY v n 0
  · cases hi with
    | none=>rfl
    | some v=>exact kY v n n
theorem mO (i j:Nat):Builtin.Slice.slicePlaces (i:Int) (j:Int) 1=j-i:=by
  unfold Builtin.Slice.slicePlaces;have a:(1:Int) > 0:=by simp_all
  simp only[a,Yy,Int.ediv_one];split<;>simp_all
theorem ux {v:Value}{o:Option Int}{Q:Option Int->Shared->Prop}(p:IsPart v o)(h:Q o s):wpAny (model prog w) A (Builtin.Slice.slicePartIndex v) Q E s:=by
  cases p with
  | none=>exact slicePart_none h
  | int i t=>exact slicePart_int h
theorem sliceApplied_gen {sl:Addr}{d c:Value}{lo hi:Option Int}{n:Nat}{Q:Int × Int × Nat->Shared->Prop}(f:s.heap.IsSliceOf sl d c .none)(e:IsPart d lo)(pu:IsPart c hi)(h:Q (((sIx n 0 lo:Nat):Int),1,sIx n n hi-sIx n 0 lo) s):wpAny (model prog w) A (Builtin.Slice.sliceApplied (.ref sl) (pure (n:Int))) Q E s:=by
  obtain⟨os,a,g,b⟩:=id f;unfold Builtin.Slice.sliceApplied Builtin.Slice.sliceFields;refine J0 (J0 (We a b (x:=d) rfl (J0 (We a b (x:=c) rfl (J0 (We a b (x:=.none) rfl (J7 ?_)))))));refine J0 (slicePart_none ?_);show wpAny _ _ (if ((1:Int) == 0)=true then _ else _) _ _ s;rw[Jd (by decide)];refine J0 (ux e (J0 (ux pu (J0 (J7 ?_)))));show wpAny _ _ (match Builtin.Slice.sliceAdjust lo hi 1 (n:Int) with|(lo,hi)=>pure (lo,(1:Int),Builtin.Slice.slicePlaces lo hi 1)) _ _ s;rw[lF lo hi n];show wpAny _ _ (pure (((sIx n 0 lo:Nat):Int),(1:Int),Builtin.Slice.slicePlaces ((sIx n 0 lo:Nat):Int) ((sIx n n hi:Nat):Int) 1)) _ _ s;rw[mO];exact J7 h
theorem gh (xs:Array Value)(i k:Nat):((List.range k).filterMap λ(m:Nat)=>xs[((i:Int)+(m:Int)*1).toNat]?).toArray=((xs.toList.drop i).take k).toArray:=by
  have e:(λ(m:Nat)=>xs[((i:Int)+(m:Int)*1).toNat]?)=λm=>xs[i+m]?:=by
    funext m
    have:((i:Int)+(m:Int)*1).toNat=i+m:=by grind
    rw[this]
  rw[e];have:=pick_run xs i k;rw[ZR]at this;have e2:((λx=>xs[x]?)∘λx=>i+x)=λm=>xs[i+m]?:=rfl;rw[e2]at this;rw[this]
theorem getItem_tuple_cut {t sl:Addr}{items:Array Value}{i g:Value}{lo hi:Option Int}{Q:Value->Shared->Prop}(b:IsTup s.heap t items) (j:s.heap.IsSliceOf sl i g .none) (k:IsPart i lo) (pu:IsPart g hi)
    (l:¬(sIx items.size 0 lo=0/\sIx items.size items.size hi=items.size))
    (h:Q (.ref s.heap.objs.size) { s with heap:=s.heap.push { cls:=.type "tuple",data:=.seq ((items.toList.drop (sIx items.size 0 lo)).take (sIx items.size items.size hi-sIx items.size 0 lo)).toArray } })
    (n:items.size<=sizeLine):wpAny (model prog w) A (getItem (.ref t) (.ref sl)) Q E s:=by
  have a:sizeOk (.seq ((items.toList.drop (sIx items.size 0 lo)).take (sIx items.size items.size hi-sIx items.size 0 lo)).toArray):=by
    show ((items.toList.drop (sIx items.size 0 lo)).take (sIx items.size items.size hi-sIx items.size 0 lo)).toArray.size<=sizeLine;rw[Jn,JC,Yh,Jx];omega
  have u:sIx items.size items.size hi<=items.size:=aC _ _ (Je _) hi;obtain⟨os,c,e,o⟩:=id j;have f:s.TypeIs (.ref sl) "slice":=⟨os,c,e⟩;unfold getItem
  try with_reducible refine JX ?_
  first|refine J0 (J7 ?_)|skip
  refine J0 (wpAny_sequenceKey b.typeIs (by decide) ?_)
  refine J0 (wpAny_callSpecial?_slot (name:=Str.ofString "__getitem__") b.typeIs W6
    (Y1 W6 b.typeIs entry_tuple_getitem ?_ (args_tuple_getitem _ _)))
  show wpAny _ _ (Builtin.Tuple.tupleItemsOf (.ref t) >>= _) _ _ s;refine J0 (tupleItemsOf_ b ?_);refine J0 (YF f ?_);rw[Jf (by decide)];refine J0 (sliceApplied_gen j k pu ?_)
  have d:¬((((sIx items.size 0 lo:Nat):Int) == 0 && (1:Int) == 1 && (sIx items.size items.size hi-sIx items.size 0 lo) == items.size)=true):=by
    intro q;rw[Zn,Zn]at q;have r:((sIx items.size 0 lo:Nat):Int)=0:=eq_of_beq q.1.1;have p:sIx items.size items.size hi-sIx items.size 0 lo=items.size:=eq_of_beq q.2;exact l ⟨by simp_all,by simp_all⟩
  show wpAny _ _ (if (((sIx items.size 0 lo:Nat):Int) == 0 && (1:Int) == 1 && (sIx items.size items.size hi-sIx items.size 0 lo) == items.size)=true then _ else _) _ _ s;rw[Jd d,gh]
  first
    | exact J0 (m:=Builtin.Tuple.tupleExact _) (JK (J7 ⟨_,rfl,J7 h⟩) a)
    | exact J0 (m:=Builtin.Tuple.tupleExact _) (JK (J0 (J7 (J7 ⟨_,rfl,J7 h⟩))) a)
    | exact J0 (J0 (m:=Builtin.Tuple.tupleExact _) (JK (J7 (J7 ⟨_,rfl,J7 h⟩)) a))
    | exact J0 (J0 (m:=Builtin.Tuple.tupleExact _) (JK (J7 ⟨_,rfl,J7 h⟩) a))
end
end HT
namespace L2
open PySem PySem.Spec PyProof.Rows
abbrev TO:=St->Hp->(Option Int->Hp->Prop)->Prop
def PO (X:Cx)(e:Option Expr)(t:TO):Prop :=
  ∀ (pins:List (Addr × Obj)) (s:Shared) (σ:St) (H:Hp) (Q:Option Int->Hp->Prop),Inv X pins σ H s->t σ H Q ->
    wpAny (model X.prog X.w) X.A (evalPart e X.env) (λu b=>∃ o a,Inv X pins σ a b/\IsPart u o/\Q o a) X.xe s
def dQ:TO:=λ_ H Q=>Q none H
def zat (t:TE):TO:=λσ H Q=>t σ H λx a=>∃ i,x=.int i/\Q (some i) a
section
variable {X:Cx}{e:Expr}{te:TE}{lo hi:Option Expr}{tl th:TO}{pos p2:Pos}
theorem yH:PO X none dQ:=by
  intro pins s σ H Q I h;rw[evalPart_none];exact J7 ⟨none,H,I,.none,h⟩
theorem zt (h:PE X e te):PO X (some e) (zat te):=by
  intro pins s σ H Q I c;rw[evalPart_some];refine thn (h pins s σ H _ I c) λu g ⟨x,f,d,a,b⟩=>?_;obtain⟨i,rfl,q⟩:=b;obtain⟨t,rfl⟩:=a;exact⟨some i,f,d,.int i t,q⟩
def SlR (X:Cx)(r:V->Option Int->Option Int->Hp->VK->Prop):Prop :=
  ∀ (pins:List (Addr × Obj)) (s:Shared) (σ:St) (H:Hp) (x:V) (v b a:Value) (lo hi:Option Int) (c:Addr) (Q:VK),Inv X pins σ H s->RelV x v->s.heap.IsSliceOf c b a .none->IsPart b lo->IsPart a hi->r x lo hi H Q ->
    ∃ T id,typeLookup (.type T) "__getitem__" = pure (some (.builtin id))/\s.TypeIs v T/\wpAny (model X.prog X.w) X.A (getItem v (.ref c)) (EP X pins σ Q) X.xe s
def tSl (r:V->Option Int->Option Int->Hp->VK->Prop)(te:TE)(tl th:TO):TE:=λσ H Q=>te σ H λx c=>tl σ c λl b=>th σ b λu a=>r x l u a Q
theorem zx {r:V->Option Int->Option Int->Hp->VK->Prop}(w:SlR X r)(A:PE X e te)(y:PO X lo tl)(p:PO X hi th):PE X (.Subscript e (.Slice lo hi none p2) pos) (tSl r te tl th):=by
  intro pins s σ H Q I h;refine Subscript_ (thn (A pins s σ H _ I h) λv i ⟨x,J,F,j,n⟩=>?_);refine wpAny_Slice (thn (y pins i σ J _ F n) λd g ⟨l,G,E,o,m⟩=>thn (p pins g σ G _ E m) λc a ⟨u,f,D,pu,k⟩=>?_);rw[evalPart_none];refine J7 ?_;have C:Inv X pins σ f { a with heap:=a.heap.push { cls:=.type "slice",data:=.fields #[d,c,.none] } }:=D.kept (t':=a.toks) λb ob q=>J8 _ q;obtain⟨T,id,B,t,z⟩:=w pins { a with heap:=a.heap.push { cls:=.type "slice",data:=.fields #[d,c,.none] } } σ f x v d c l u a.heap.objs.size Q C j (Heap.IsSliceOf.new ..) o pu k;show wpAny (model X.prog X.w) X.A (subscriptTail e (.Slice lo hi none p2) v (.ref a.heap.objs.size)) (EP X pins σ Q) X.xe { a with heap:=a.heap.push { cls:=.type "slice",data:=.fields #[d,c,.none] } };exact tail_any (ops:=[.ref a.heap.objs.size,v]) t B z (by with_unfolding_all rfl)
def xx (xs:List V)(lo hi:Option Int):List V:=(xs.drop (HT.sIx xs.length 0 lo)).take (HT.sIx xs.length xs.length hi-HT.sIx xs.length 0 lo)
theorem uP (xs:List V)(lo hi:Option Int):(xx xs lo hi).length<=xs.length:=by
  unfold xx;rw[JC,Yh]
  grind
def zbp (K:PySem.W.Frag):V->Option Int->Option Int->Hp->VK->Prop:=λx lo hi H Q=>∃ a b,x=.ref a/\SqT K H a b /\
  ¬(HT.sIx b.length 0 lo=0/\HT.sIx b.length b.length hi=b.length)/\∀ p,H p=none->Q (.ref p) (upd H p (.tup (xx b lo hi)))
theorem bh:SlR X (zbp X.K):=by
  intro pins s σ H x v n m lo hi p Q I g l i pu h;obtain⟨a,c,rfl,j,k,q⟩:=h;cases g;obtain⟨d,r,f,e⟩:=I.tuple j;have hlen:d.toArray.size=c.length:=by rw[Jn];exact r.length.symm
  refine⟨"tuple",_,PyProof.Rows.slot_tuple_getitem.lookup,f.typeIs,?_⟩;refine HT.getItem_tuple_cut f l i pu (by rw[hlen];exact k) ?_ (by rw[hlen];exact e);rw[hlen];refine⟨.ref s.heap.objs.size,_,I.laid (t':=s.toks) (o:=.tup (xx c lo hi)) (λb ob q=>J8 _ q) (Je _) ?_,rfl,q _ (I.hok.fresh (Je _))⟩;exact⟨JR (uP c lo hi) e,_,(r.drop (HT.sIx c.length 0 lo)).take (HT.sIx c.length c.length hi-HT.sIx c.length 0 lo),TupX.new _ _⟩
def zaJ (K:PySem.W.Frag):R2:=λx y H Q=>∃ a b d c,x=.ref a/\y=.ref b/\SqT K H a d/\SqT K H b c/\d≠[]/\d.length+c.length<=sizeLine /\
  (c=[]->Q (.ref a) H)/\(c≠[]->∀ p,H p=none->Q (.ref p) (upd H p (.tup (d++c))))
theorem Vals.nil_iff {xs:List V}{us:List Value}(r:Vals xs us):us=[]↔xs=[]:=by
  cases r with
  | nil=>simp
  | cons _ _=>simp
theorem dy:OpR X (binaryOp .Add) (zaJ X.K):=by
  intro pins s σ H x y v u Q I k j h;obtain⟨a,b,i,g,rfl,rfl,t,r,p,e,m,l⟩:=h;cases k;cases j;obtain⟨A,d,n,_⟩:=I.tuple t;obtain⟨f,c,p2,_⟩:=I.tuple r;refine HT.cat_tup n p2 (λz=>p (d.nil_iff.mp z)) (λz=>⟨.ref a,H,I,rfl,m (c.nil_iff.mp z)⟩) (λz=>?_) (by rw[<- d.length,<- c.length];exact e);refine⟨.ref s.heap.objs.size,_,I.laid (t':=s.toks) (o:=.tup (i++g)) (λb ob q=>J8 _ q) (Je _) ?_,rfl,l (λw=>z (c.nil_iff.mpr w)) _ (I.hok.fresh (Je _))⟩;exact⟨by rw[Jb];exact e,_,d.append c,TupX.new _ _⟩
end
def ixN (n:Nat)(i:Int):Option Nat:=if 0<=i then (if i<n then some i.toNat else none) else if -(n:Int)<=i then some (i+n).toNat else none
def atI {α:Type}(xs:List α)(i:Int):Option α:=(ixN xs.length i).bind λj=>xs[j]?
theorem kJ {n:Nat}{i:Int}{j:Nat}(h:ixN n i=some j):seqIndex? i n=some j/\j<n/\-(n:Int)<=i/\i<n:=by
  unfold ixN at h;by_cases b:0<=i
  · rw[Jf b]at h
    by_cases a:i<n
    · rw[Jf a]at h
      have e:i.toNat=j:=Jm h;exact⟨by rw[seqIndex_of b a,e],by omega,by grind,a⟩
    · rw[Jd a]at h;cases h
  · rw[Jd b]at h
    by_cases a:-(n:Int)<=i
    · rw[Jf a]at h
      have e:(i+n).toNat=j:=Jm h;exact⟨by rw[seqIndex_neg (by simp_all) a,e],by grind,a,by grind⟩
    · rw[Jd a]at h;cases h
theorem ke {α:Type}{xs:List α}{i:Int}{v:α}(h:atI xs i=some v):∃ j,seqIndex? i xs.length=some j/\xs[j]?=some v/\j<xs.length/\-(xs.length:Int)<=i/\i<xs.length:=by
  unfold atI at h
  cases e:ixN xs.length i with
  | none=>rw[e]at h;cases h
  | some j =>
    rw[e]at h;obtain⟨d,c,b,a⟩:=kJ e;exact⟨j,d,h,c,b,a⟩
theorem ya {α:Type}{xs:List α}{j:Nat}{v:α}(h:xs[j]?=some v):atI xs (j:Int)=some v:=by
  have a:j<xs.length:=(Jc.mp h).1
  have e:ixN xs.length (j:Int)=some j:=by
    unfold ixN;rw[Jf (by simp_all),Jf (by simp_all)];simp
  unfold atI;rw[e];exact h
theorem eO {α:Type}(xs:List α)(v:α):atI (xs++[v]) (-1)=some v:=by
  have a:(xs++[v]).length=xs.length+1:=by simp
  have e:ixN (xs++[v]).length (-1)=some xs.length:=by
    unfold ixN;rw[a,Jd (by decide),Jf (by grind)]
    congr 1
    grind
  unfold atI;rw[e];show (xs++[v])[xs.length]?=some v;simp
def PlainIx (b:Expr):Prop:=∀ o i,subscripted b false o i=operate [o,i] (getItem o i)
def IxR (X:Cx)(r:R2):Prop :=
  ∀ (value slice:Expr) (pins:List (Addr × Obj)) (s:Shared) (σ:St) (H:Hp) (x y:V) (v u:Value) (Q:VK),Inv X pins σ H s->RelV x v->RelV y u->r x y H Q ->
    subscripted slice false v u=operate [v,u] (getItem v u)->wpAny (model X.prog X.w) X.A (subscriptTail value slice v u) (EP X pins σ Q) X.xe s
def MtR (X:Cx)(id:String)(r:V->List V->Hp->VK->Prop):Prop :=
  ∀ (pins:List (Addr × Obj)) (s:Shared) (σ:St) (H:Hp) (x:V) (a:List V) (v:Value) (b:List Value) (Q:VK),Inv X pins σ H s->RelV x v->Vals a b->r x a H Q ->
    wpAny (model X.prog X.w) X.A (call (.builtin id) (v::b)) (EP X pins σ Q) X.xe s
section
variable {X:Cx}{a b:Expr}{ta tb:TE}{pos:Pos}
theorem zi {r:R2}(g:IxR X r)(ha:PE X a ta)(hb:PE X b tb)(f:PlainIx b):PE X (.Subscript a b pos) (tOp r ta tb):=by
  intro pins s σ H Q I h;exact Subscript_ (zan ha hb I h λv u c x y j i e d q=>g a b pins c σ j x y v u Q i e d q (f _ _))
def aJ (K:PySem.W.Frag):R2:=λx y H Q=>∃ p a i v,x=.ref p/\y=.int i/\SqL K H p a/\atI a i=some v/\Q v H
def zbu (K:PySem.W.Frag):R2:=λx y H Q=>∃ p a i v,x=.ref p/\y=.int i/\SqT K H p a/\atI a i=some v/\Q v H
theorem yE:IxR X (aJ X.K):=by
  intro value slice pins s σ H x y v u Q I n m h f;obtain⟨p,F,i,z,rfl,rfl,o,B,q⟩:=h;cases n;obtain⟨t,rfl⟩:=m;obtain⟨e,r,b,G⟩:=I.list o;obtain⟨j,a,E,K,D,C⟩:=ke B;obtain⟨w,k,d⟩:=r.get E;have A:=r.length;have J:=tQ;have fin:EP X pins σ Q w s:=⟨z,H,I,d,q⟩;by_cases g:0<=i
  · have c:i.toNat=j:=by
      rw[seqIndex_of g C]at a;exact Jm a
    exact item_listR b.isList g (by lia) (by rw[c];simpa using k) fin f
  · have c:(i+(e.toArray.size:Int)).toNat=j:=by
      rw[seqIndex_neg (by simp_all) D]at a;rw[Jn,<- A];exact Jm a
    exact subscriptTail_builtinR (x:=w) b.isList.typeIs slot_list_getitem.lookup
      (wpAny_getItem_list_neg (Q:=λr l=>r=w/\EP X pins σ Q r l) b.isList (by simp_all) (by rw[Jn]<;>simp_all) (by grind) (by rw[c];simpa using k) ⟨rfl,fin⟩) f
theorem yA:IxR X (zbu X.K):=by
  intro value slice pins s σ H x y v u Q I e d h f;obtain⟨p,B,i,z,rfl,rfl,g,l,q⟩:=h;cases e;obtain⟨t,rfl⟩:=d;obtain⟨A,r,b,C⟩:=I.tuple g;obtain⟨j,n,m,G,F,E⟩:=ke l;obtain⟨w,o,a⟩:=r.get m;have k:=r.length;have D:=tQ;have fin:EP X pins σ Q w s:=⟨z,H,I,a,q⟩
  exact subscriptTail_builtinR (x:=w) b.typeIs slot_tuple_getitem.lookup
    (getItem_tuple (j:=j) (Q:=λr c=>r=w/\EP X pins σ Q r c) b (by grind) (by grind) (by rw[Jn,<- k];exact n) (by simpa using o) ⟨rfl,fin⟩) f
theorem mX (its:List Value)(n j:Nat)(u:Value):Obj.mapSeq (·.setIfInBounds j u) { cls:=.type "list",data:=.seq its.toArray n }={ cls:=.type "list",data:=.seq (its.set j u).toArray n }:=by
  simp[Obj.mapSeq]
theorem Inv.lst {pins:List (Addr × Obj)}{σ:St}{H:Hp}{s:Shared}{p:Addr}{xs:List V}(I:Inv X pins σ H s)(h:H p=some (.lst xs)) :
    ∃ (its:List Value) (n:Nat),Vals xs its/\s.heap.get? p=some { cls:=.type "list",data:=.seq its.toArray n }/\xs.length<=sizeLine:=by
  obtain⟨z,its,n,r,e⟩:=I.hok p _ h;exact⟨its,n,r,e,z⟩
theorem Inv.lstUpd {pins:List (Addr × Obj)}{σ:St}{H:Hp}{s:Shared}{p:Addr}{xs ys:List V}{its its':List Value}{n a:Nat}{f:Obj->Obj}(I:Inv X pins σ H s) (h:H p=some (.lst xs))
    (g:s.heap.get? p=some { cls:=.type "list",data:=.seq its.toArray n }) (c:f { cls:=.type "list",data:=.seq its.toArray n }={ cls:=.type "list",data:=.seq its'.toArray a }) (r:Vals ys its') (d:ys.length<=sizeLine) (t:Nat) :
    Inv X pins σ (upd H p (.lst ys)) { s with heap:=s.heap.update p f,toks:=t }:=by
  have e:(s.heap.update p f).get? p=some { cls:=.type "list",data:=.seq its'.toArray a }:=by
    rw[Yg f g (by rw[c]<;>rfl),c]
  refine I.write (x:=p) (e:=p) (by rw[h];trivial) (.inl rfl) (λb u i q=>(Ym _ _ (Ne.symm i)).trans q) ⟨_,e⟩ ?_;exact⟨d,its',a,r,e⟩
def zaI:V->V->V->Hp->(Hp->Prop)->Prop:=λo i v H Q=>∃ p a k j,o=.ref p/\i=.int k/\H p=some (.lst a)/\ixN a.length k=some j/\Q (upd H p (.lst (a.set j v)))
theorem xU:PSet X zaI:=by
  intro pins s σ H o i v D E u Q I z A y h;obtain⟨p,x,k,j,rfl,rfl,f,C,q⟩:=h;cases z;obtain⟨t,rfl⟩:=A;obtain⟨a,n,r,c,B⟩:=I.lst f;obtain⟨b,G,l,g⟩:=kJ C;have d:=r.length;have F:=tQ
  have w:Inv X pins σ (upd H p (.lst (x.set j v))) { s with heap:=s.heap.update p (Obj.mapSeq (·.setIfInBounds j u)) } :=
    I.lstUpd f c (mX a n j u) (r.set y j) (by rw[List.length_set];exact B) s.toks
  by_cases m:0<=k
  · have e:k.toNat=j:=by
      rw[seqIndex_of m g]at b;exact Jm b
    exact PySem.W.ki_setAt c m (by grind) (by rw[Jn,<- d];exact g) (by rw[e];exact⟨_,w,q⟩)
  · have e:(k+(a.toArray.size:Int)).toNat=j:=by
      rw[seqIndex_neg (by simp_all) l]at b;rw[Jn,<- d];exact Jm b
    exact PySem.W.ki_setBack c (by simp_all) (by rw[Jn,<- d];exact l) (by grind) (by rw[e];exact⟨_,w,q⟩)
theorem qG (lo hi:Option Int)(n:Nat):(sliceBounds lo hi none n).1=((HT.sIx n 0 lo:Nat):Int)/\(sliceBounds lo hi none n).2.1=((HT.sIx n n hi:Nat):Int)/\(sliceBounds lo hi none n).2.2=1:=by
  refine⟨?_,?_,rfl⟩
  · cases lo with
    | none=>simp[sliceBounds,HT.sIx]
    | some i =>
      simp only[sliceBounds,HT.sIx,Option.getD_none,show (1:Int) > 0 by decide,Yy];by_cases h:i<0
      · simp only[h,Yy]<;>grind
      · simp only[h,Z9]<;>grind
  · cases hi with
    | none=>simp[sliceBounds,HT.sIx]
    | some i =>
      simp only[sliceBounds,HT.sIx,Option.getD_none,show (1:Int) > 0 by decide,Yy];by_cases h:i<0
      · simp only[h,Yy]<;>grind
      · simp only[h,Z9]<;>grind
theorem sO (its:List Value)(lo hi:Option Int):slicePick its.toArray lo hi none=((its.drop (HT.sIx its.length 0 lo)).take (HT.sIx its.length its.length hi-HT.sIx its.length 0 lo)).toArray:=by
  obtain⟨c,b,a⟩:=qG lo hi its.toArray.size;unfold slicePick;rw[c,b,a];simp only[sliceRange_one,pick_run,Jn]<;>rfl
def zbq (K:PySem.W.Frag):V->Option Int->Option Int->Hp->VK->Prop:=λx lo hi H Q=>∃ a b,x=.ref a/\SqL K H a b/\∀ p,H p=none->Q (.ref p) (upd H p (.lst (xx b lo hi)))
theorem wR:SlR X (zbq X.K):=by
  intro pins s σ H x v m l lo hi n Q I e j f pu h;obtain⟨a,c,rfl,i,q⟩:=h;cases e;obtain⟨k,r,d,g⟩:=I.list i;have hlen:=r.length;refine⟨"list",_,slot_list_getitem.lookup,d.isList.typeIs,?_⟩;refine wpAny_getItem_list_slice d.isList j f pu .none (by simp) ?_ (by rw[Jn]<;>simp_all);rw[sO,<- hlen];refine⟨.ref s.heap.objs.size,_,I.laid (t':=s.toks) (o:=.lst (xx c lo hi)) (λb ob q=>J8 _ q) (Je _) ?_,rfl,q _ (I.hok.fresh (Je _))⟩;exact⟨JR (uP c lo hi) g,_,0,(r.drop (HT.sIx c.length 0 lo)).take (HT.sIx c.length c.length hi-HT.sIx c.length 0 lo),Jq _ rfl⟩
def wg:V->Bool
  | .non=>true
  | .bl _=>true
  | .int _=>true
  | .str _=>true
  | _=>false
def eqV:V->V->Bool
  | .non,.non=>true
  | .bl a,.bl b=>a == b
  | .bl a,.int b=>(if a then 1 else 0) == b
  | .int a,.bl b=>a == (if b then 1 else 0)
  | .int a,.int b=>a == b
  | .str a,.str b=>a == b
  | _,_=>false
theorem mz {A:Around}{s:Shared}{y x:V}{u v:Value}(e:RelV y u)(c:RelV x v)(g:wg y=true)(f:wg x=true):SeqAt.EqAt A s u v (eqV y x):=by
  cases y with
  | non =>
    cases e
    cases x with
    | non=>cases c;exact SeqAt.EqAt.same _
    | bl b=>cases c;exact SeqAt.EqAt.none_bool b
    | int b=>obtain⟨t,rfl⟩:=c;exact SeqAt.EqAt.none_int b t
    | str b=>obtain⟨t,rfl⟩:=c;exact SeqAt.EqAt.none_str b t
    | _=>exact absurd (show false=true from f) Jp
  | bl a =>
    cases e
    cases x with
    | non=>cases c;exact SeqAt.EqAt.bool_none a
    | bl b=>cases c;exact SeqAt.EqAt.bool_bool a b
    | int b=>obtain⟨t,rfl⟩:=c;exact SeqAt.EqAt.bool_int a b t
    | str b=>obtain⟨t,rfl⟩:=c;exact SeqAt.EqAt.bool_str a b t
    | _=>exact absurd (show false=true from f) Jp
  | int a =>
    obtain⟨d,rfl⟩:=e
    cases x with
    | non=>cases c;exact SeqAt.EqAt.int_none a d
    | bl b=>cases c;exact SeqAt.EqAt.int_bool a d b
    | int b=>obtain⟨t,rfl⟩:=c;exact SeqAt.EqAt.int_int a d b t
    | str b=>obtain⟨t,rfl⟩:=c;exact SeqAt.EqAt.int_str a d b t
    | _=>exact absurd (show false=true from f) Jp
  | str a =>
    obtain⟨d,rfl⟩:=e
    cases x with
    | non=>cases c;exact SeqAt.EqAt.str_none a d
    | bl b=>cases c;exact SeqAt.EqAt.str_bool a d b
    | int b=>obtain⟨t,rfl⟩:=c;exact SeqAt.EqAt.str_int a d b t
    | str b=>obtain⟨t,rfl⟩:=c;exact SeqAt.EqAt.str_str a d b t
    | _=>exact absurd (show false=true from f) Jp
  | _=>exact absurd (show false=true from g) Jp
def eqU (x:V)(u:Value):Bool:=match u with
  | .none=>eqV .non x
  | .bool b=>eqV (.bl b) x
  | .int i _=>eqV (.int i) x
  | .str z _=>eqV (.str z) x
  | _=>false
theorem eC {x y:V}{u:Value}(r:RelV y u)(f:wg y=true):eqU x u=eqV y x:=by
  cases y with
  | non=>cases r;rfl
  | bl b=>cases r;rfl
  | int i=>obtain⟨t,rfl⟩:=r;rfl
  | str z=>obtain⟨t,rfl⟩:=r;rfl
  | _=>exact absurd (show false=true from f) Jp
theorem qr {x:V}:∀ {xs:List V}{us:List Value},Vals xs us->xs.all wg=true->us.any (eqU x)=xs.any λy=>eqV y x
  | _,_,.nil,_=>rfl
  | y::xs,u::us,.cons r t,f=>by
    rw[List.all_cons,Zn]at f;rw[List.any_cons,List.any_cons,eC r f.1,qr t f.2]
theorem tM {A:Around}{s:Shared}{x:V}{v:Value}(b:RelV x v)(c:wg x=true):∀ {xs:List V}{us:List Value},Vals xs us->xs.all wg=true->∀ u∈us,SeqAt.EqAt A s u v (eqU x u)
  | _,_,.nil,_=>λu a=>by cases a
  | y::xs,u::us,.cons r t,f=>λd a=>by
    rw[List.all_cons,Zn]at f;rcases Js.mp a with rfl|a
    · rw[eC r f.1];exact mz r b f.1 c
    · exact tM b c t f.2 d a
def inV (x:V)(xs:List V):Bool:=xs.any λy=>eqV y x
def rIn (K:PySem.W.Frag)(neg:Bool):R2:=λx y H Q=>∃ p a,y=.ref p/\(SqL K H p a\/SqT K H p a)/\wg x=true/\a.all wg=true/\Q (.bl (if neg then !inV x a else inV x a)) H
theorem rJ:OpR X (compareOp .In) (rIn X.K false):=by
  intro pins s σ H x y v u Q I e g h;obtain⟨p,j,rfl,b,f,fs,q⟩:=h;cases g;rcases b with b|b
  · obtain⟨a,r,c,i⟩:=I.list b
    refine SeqAt.in_listAt (eqU x) c.isList (λw d=>tM e f r fs w (by simpa using d)) ⟨.bl _,H,I,rfl,?_⟩;rw[show a.toArray.any (eqU x)=a.any (eqU x) by simp,qr r fs];exact q
  · obtain⟨a,r,c,i⟩:=I.tuple b
    refine SeqAt.in_tupleAt (eqU x) c (λw d=>tM e f r fs w (by simpa using d)) ⟨.bl _,H,I,rfl,?_⟩;rw[show a.toArray.any (eqU x)=a.any (eqU x) by simp,qr r fs];exact q
theorem zo:CallR X (.builtin "len") (λxs H Q=>∃ p ys,xs=[.ref p]/\(SqL X.K H p ys\/SqT X.K H p ys)/\Q (.int ys.length) H):=by
  intro pins s σ H xs g Q I r h;obtain⟨p,ys,rfl,a,q⟩:=h;obtain⟨u,rfl,e⟩:=uA r;cases e;have i:=tQ;rcases a with a|a
  · obtain⟨d,b,c,f⟩:=I.list a
    have hlen:=b.length;exact Calls.call_len_list c.isList (by simp only[Jn]<;>lia) ⟨.int ys.length,H,I.tok _,⟨s.toks+1,by rw[Jn,hlen]⟩,q⟩
  · obtain⟨d,b,c,f⟩:=I.tuple a
    have hlen:=b.length;exact len_tuple c (by simp only[Jn]<;>grind) ⟨.int ys.length,H,I.tok _,⟨s.toks+1,by rw[Jn,hlen]⟩,q⟩
theorem yu:CallR X (.type "list") (λxs H Q=>∃ p ys,xs=[.ref p]/\(SqL X.K H p ys\/SqT X.K H p ys)/\∀ l,H l=none->Q (.ref l) (upd H l (.lst ys))):=by
  intro pins s σ H xs y Q I r h;obtain⟨p,ys,rfl,j,q⟩:=h;obtain⟨u,rfl,x⟩:=uA r;cases x
  have fin:∀ (a:List Value),Vals ys a->ys.length<=sizeLine->∀ (c:Heap) (f:Nat),(∀ b w,s.heap.get? b=some w->c.get? b=some w) ->
      c.get? s.heap.objs.size=some { cls:=.type "list",dict:=none,data:=.seq a.toArray f,slots:=#[] }->EP X pins σ Q (.ref s.heap.objs.size) { s with heap:=c }:=λa d i c f g e =>
    ⟨.ref s.heap.objs.size,_,I.laid (t':=s.toks) g (Je _) (show ObjOk X.prog X.w _ c _ (.lst ys) from⟨i,a,f,d,e⟩),rfl,q _ (I.hok.fresh (Je _))⟩
  rcases j with j|j
  · obtain⟨a,d,k,i⟩:=I.list j
    have hlen:=d.length;obtain⟨o,m,v,n,t⟩:=k.isList;exact call_list_seq p (.inl rfl) m v t (λc f g e=>fin a d i c f g e) (by simp only[Jn]<;>simp_all)
  · obtain⟨a,d,k,i⟩:=I.tuple j
    have hlen:=d.length;obtain⟨o,m,v,n,t⟩:=k;exact call_list_seq p (.inr rfl) m v t (λc f g e=>fin a d i c f g e) (by simp only[Jn]<;>simp_all)
theorem zz:CallR X (.type "tuple") (λxs H Q=>∃ p ys,xs=[.ref p]/\((SqL X.K H p ys/\∀ l,H l=none->Q (.ref l) (upd H l (.tup ys)))\/(SqT X.K H p ys/\Q (.ref p) H))):=by
  intro pins s σ H xs t Q I r h;obtain⟨p,ys,rfl,h⟩:=h;obtain⟨u,rfl,k⟩:=uA r;cases k;rcases h with ⟨g,q⟩|⟨g,q⟩
  · obtain⟨a,d,f,i⟩:=I.list g
    have hlen:=d.length;refine call_tuple_list f.isList (λc m=>?_) (by simp only[Jn]<;>simp_all);have j:Inv X pins σ H { s with heap:=c }:=I.kept (t':=s.toks) m
    have n:Inv X pins σ (upd H c.objs.size (.tup ys)) { s with heap:=c.push { cls:=.type "tuple",data:=.seq a.toArray } } :=
      j.laid (t':=s.toks) (λb o e=>J8 _ e) (Je _) (show ObjOk X.prog X.w _ _ _ (.tup ys) from⟨i,a,d,TupX.new _ _⟩)
    exact⟨.ref c.objs.size,_,n,rfl,q _ (j.hok.fresh (Je _))⟩
  · obtain⟨a,d,f,i⟩:=I.tuple g
    exact call_tuple_same f ⟨.ref p,H,I,rfl,q⟩
def tyV (K:PySem.W.Frag)(T:String)(x:V)(H:Hp):Prop:=match x with
  | .str _=>T = "str"
  | .int _=>T = "int"
  | .ref p=>(T = "list"/\∃ b,SqL K H p b)\/(T = "tuple"/\∃ o,K.lookup p=some o/\o.cls=.type "tuple"/\o.dict=none) \/
      (T = "dict"/\((∃ a,H p=some (.dK a))\/∃ a,H p=some (.dT a)))\/(T = "set"/\∃ S n,H p=some (.set S n))
  | _=>False
theorem bW {pins:List (Addr × Obj)}{σ:St}{H:Hp}{s:Shared}{T:String}{x:V}{v:Value}(I:Inv X pins σ H s)(r:RelV x v)(ty:tyV X.K T x H) :
    s.TypeIs v T/\∀ a,v=.ref a->∃ ob,s.heap.get? a=some ob/\ob.dict=none:=by
  cases x with
  | str z =>
    obtain⟨t,rfl⟩:=r;cases (show T = "str" from ty)
    exact⟨typeIs_str s z t,λ_ e=>nomatch e⟩
  | int i =>
    obtain⟨t,rfl⟩:=r;cases (show T = "int" from ty)
    exact⟨typeIs_int s i t,λ_ e=>nomatch e⟩
  | ref p =>
    cases r;rcases ty with ⟨rfl,l,h⟩|⟨rfl,o,b,j,d⟩|⟨rfl,b⟩|⟨rfl,S,n,b⟩
    · obtain⟨k,_,g,_⟩:=I.list h
      refine⟨g.isList.typeIs,λa e=>?_⟩;cases e;obtain⟨o,n,e,c,d,_⟩:=g;exact⟨o,e,d⟩
    · refine⟨⟨o,I.kIn p o b,j⟩,λa e=>?_⟩
      cases e;exact⟨o,I.kIn _ o b,d⟩
    · have z:∃ o,s.heap.get? p=some o/\o.ExactDict:=by
        rcases b with ⟨f,b⟩|⟨f,b⟩
        · obtain⟨_,_,_,_,o,_,_,e,ex,_⟩:=I.hok p _ b
          exact⟨o,e,ex⟩
        · obtain⟨_,_,_,_,o,_,_,e,ex,_⟩:=I.hok p _ b
          exact⟨o,e,ex⟩
      obtain⟨o,e,ex⟩:=z;refine⟨⟨o,e,ex.1⟩,λa e2=>?_⟩;cases e2;exact⟨o,e,ex.2.1⟩
    · obtain⟨o,_,_,_,e,ex,_⟩:=I.hok p _ b
      refine⟨⟨o,e,ex.1⟩,λa e2=>?_⟩;cases e2
      exact⟨o,e,ex.2.1⟩
  | _=>exact False.elim ty
def tBM (K:PySem.W.Frag)(T:String)(r:V->List V->Hp->VK->Prop)(to:TE)(t:TA):TE:=λσ H Q=>to σ H λx a=>tyV K T x a/\t σ a λb c=>r x b c Q
variable {o e:Expr}{es:List Expr}{to:TE}{t:TA}{name:Str}{apos cpos:Pos}{T id:String}{r:V->List V->Hp->VK->Prop}
theorem uH (w:PlainAttrs T) (slot:Slot T name id) (f:typeOf (.builtin id)=pure (.type "method_descriptor")) (hm:MtR X id r) (z:PE X o to) (ha:PA X (e::es) t)
    (c:attributeBase o name X.env (eval o X.env)=eval o X.env:=by rfl)
    (d:((backTo cpos (starEach (e::es) X.env)).all (λx=>!x.1) && (backToKw cpos (keywordEach [] X.env)).all (λx=>x.1.isSome)
      && decide ((e::es).length+([]:List Keyword).length+(if ([]:List Keyword).isEmpty then 0 else 1)<30))=true:=by rfl)
    (b:(apos.endLine == cpos.line)=true:=by rfl) (y:starEach (e::es) X.env=(false,eval e X.env)::starEach es X.env:=by rfl) (a:(backTo cpos (starEach es X.env)).any (·.1)=false:=by rfl) :
    PE X (.Call (.Attribute o name apos) (e::es) [] cpos) (tBM X.K T r to t):=by
  intro pins s σ H Q I h;refine wpAny_Call_method_late c d b rfl (thn (z pins s σ H _ I h) λv n ⟨x,E,j,g,ty,u⟩=>?_);obtain⟨B,A⟩:=bW j g ty;refine⟨T,id,w,slot,f,B,A,?_⟩;have i:=ha cpos pins n σ E _ j u;rw[y]at i ⊢;refine ZV (by show (false || (backTo cpos (starEach es X.env)).any (·.1))=false;rw[a]<;>rfl) (Calls.evalArgs_plain ?_);exact thn i λl m ⟨k,D,C,p,q⟩=>hm pins m σ D x k v l Q C g p q
end
def MtM (X:Cx)(id:String)(r:V->List V->Hp->VK->Prop):Prop :=
  ∀ (pins:List (Addr × Obj)) (s:Shared) (σ:St) (H:Hp) (x:V) (a:List V) (v:Value) (b:List Value) (Q:VK),Inv X pins σ H s->RelV x v->Vals a b->r x a H Q ->
    wpAny (model X.prog X.w) X.A (call (.builtin id) (v::b)) (EP X pins σ Q) X.xe s
theorem Vals.one:∀ {x:V}{us:List Value},Vals [x] us->∃ u,us=[u]/\RelV x u
  | _,_,.cons r .nil=>⟨_,rfl,r⟩
theorem Vals.two:∀ {x y:V}{us:List Value},Vals [x,y] us->∃ u v,us=[u,v]/\RelV x u/\RelV y v
  | _,_,_,.cons r (.cons q .nil)=>⟨_,_,rfl,r,q⟩
theorem Vals.rep {xs:List V}{us:List Value}(h:Vals xs us):∀ k:Nat,Vals (List.replicate k xs).flatten (List.replicate k us).flatten
  | 0=>.nil
  | k+1=>by
    rw[Yr,Yr,Za,Za];exact Vals.append h (Vals.rep h k)
theorem rW (its:List Value):∀ (k:Nat) (acc:List Value),
    List.foldl (λb a=>b++a) acc.toArray (List.replicate k its.toArray)=(acc++(List.replicate k its).flatten).toArray
  | 0,acc=>by simp
  | k+1,acc=>by
    have e:acc.toArray++its.toArray=(acc++its).toArray:=by simp
    have e2:(acc++its)++(List.replicate k its).flatten=acc++(List.replicate (k+1) its).flatten:=by
      rw[Yr,Za,Y0]
    rw[<- e2,<- rW its k (acc++its),<- e,Yr,List.foldl_cons]
section
variable {X:Cx}{pins:List (Addr × Obj)}{σ:St}{H:Hp}{s:Shared}{l:Addr}{xs ys:List V}
theorem Inv.lset {its its':List Value}{n:Nat}{f:Array Value->Array Value}{t':Nat}(I:Inv X pins σ H s) (h:H l=some (.lst xs))
    (e:s.heap.get? l=some { cls:=.type "list",data:=.seq its.toArray n }) (d:f its.toArray=its'.toArray) (b:Vals ys its') (a:ys.length<=sizeLine) :
    Inv X pins σ (upd H l (.lst ys)) { s with heap:=s.heap.update l (Obj.mapSeq f),toks:=t' }:=by
  have q:=PySem.IsL.update e f;rw[d]at q;refine I.write (x:=l) (e:=l) (by rw[h];exact trivial) (.inl rfl) (λi u g c=>(Ym s.heap (Obj.mapSeq f) (Ne.symm g)).trans c) ⟨_,q⟩ ?_;exact⟨a,its',_,b,q⟩
theorem Inv.lnew {its:List Value}{t':Nat}(I:Inv X pins σ H s)(b:Vals ys its)(a:ys.length<=sizeLine) :
    Inv X pins σ (upd H s.heap.objs.size (.lst ys)) { s with heap:=s.heap.push { cls:=.type "list",data:=.seq its.toArray },toks:=t' } :=
  I.laid (λ_ _ q=>J8 _ q) (Je _) ⟨a,its,0,b,Jq _ rfl⟩
theorem Inv.fresh (I:Inv X pins σ H s):H s.heap.objs.size=none:=I.hok.fresh (Je _)
theorem Inv.lstM (I:Inv X pins σ H s)(a:H l=some (.lst xs)):xs.length<=sizeLine/\∃ (its:List Value) (n:Nat),Vals xs its/\xs.length=its.length/\s.heap.get? l=some { cls:=.type "list",data:=.seq its.toArray n }:=by
  obtain⟨z,its,n,r,e⟩:=I.hok l _ a;exact⟨z,its,n,r,r.length,e⟩
theorem oO {n:Nat}(h:n<=sizeLine):Builtin.List.listTooLong n=false:=by
  unfold Builtin.List.listTooLong;exact Jt (by simp_all)
end
section
variable {X:Cx}
def rAppend:V->List V->Hp->VK->Prop:=λx b H Q=>∃ l a y,x=.ref l/\b=[y]/\H l=some (.lst a)/\a.length<sizeLine/\Q .non (upd H l (.lst (a++[y])))
theorem yx:MtM X "list.append" rAppend:=by
  intro pins s σ H x i v j Q I c d h;obtain⟨l,g,y,rfl,rfl,b,k,q⟩:=h;cases c;obtain⟨u,rfl,f⟩:=d.one;obtain⟨z,a,n,r,m,e⟩:=I.lstM b;refine call_meets F.slot_list_append ⟨_,e,rfl⟩ F.entry_list_append (F.args_list_append_2 _ _) (PySem.list_append l a.toArray n u (by rw[Jn];simp_all)) ⟨e,?_⟩;refine⟨.non,_,I.lset (its':=a++[u]) b e (by simp) (r.append (.cons f .nil)) ?_,rfl,q⟩;rw[Jb,List.length_singleton]
  grind
def rExtend:V->List V->Hp->VK->Prop:=λx d H Q=>∃ l b c a,x=.ref l/\d=[.ref b]/\H l=some (.lst c)/\H b=some (.lst a)/\c.length+a.length<=sizeLine/\Q .non (upd H l (.lst (c++a)))
theorem vh:MtM X "list.extend" rExtend:=by
  intro pins s σ H x B v C Q I i j h;obtain⟨l,b,A,w,rfl,rfl,g,p,D,q⟩:=h;cases i;obtain⟨u,rfl,k⟩:=j.one;cases k;obtain⟨z,c,n,r,E,e⟩:=I.lstM g;obtain⟨y,a,o,m,t,e2⟩:=I.lstM p;have f:c.toArray.size+a.toArray.size<=sizeLine:=by rw[Jn,Jn];simp_all
  have d:¬(!c.toArray.isEmpty && Builtin.List.listTooLong (c.toArray.size+a.toArray.size))=true:=by
    rw[oO f,Bool.and_false];exact Jp
  refine call_meets F.slot_list_extend ⟨_,e,rfl⟩ F.entry_list_extend (F.args_list_extend_2 _ _)
    (AutoSeq1.list_extend_list_list_0 l c.toArray n b a.toArray o d (by rw[Jn];simp_all) (by lia)) ⟨e,e2,?_⟩
  refine⟨.non,_,I.lset (its':=c++a) g e (by simp) (r.append m) ?_,rfl,q⟩;rw[Jb];omega
def zbx:R2:=λx y H Q=>∃ l b c a,x=.ref l/\y=.ref b/\H l=some (.lst c)/\H b=some (.lst a)/\c.length+a.length<=sizeLine/\∀ p,H p=none->Q (.ref p) (upd H p (.lst (c++a)))
theorem wu:OpR X (binaryOp .Add) zbx:=by
  intro pins s σ H x y v u Q I f d h;obtain⟨l,b,t,o,rfl,rfl,i,j,A,q⟩:=h;cases f;cases d;obtain⟨z,c,n,r,B,e⟩:=I.lstM i;obtain⟨p,a,w,g,m,e2⟩:=I.lstM j;refine PySem.P.add_list e e2 ?_ (by rw[Jn,Jn];simp_all);have k:c.toArray++a.toArray=(c++a).toArray:=by simp
  rw[k];exact⟨.ref _,_,I.lnew (t':=s.toks) (r.append g) (by rw[Jb];omega),rfl,q _ I.fresh⟩
def zbr:R2:=λx y H Q=>∃ l k a,x=.ref l/\y=.int k/\H l=some (.lst a)/\-(2 ^ 63)<=k/\k<2 ^ 63/\a.length*k.toNat<=sizeLine /\
  ∀ p,H p=none->Q (.ref p) (upd H p (.lst (List.replicate k.toNat a).flatten))
theorem cQ {α:Type}(xs:List α)(k:Nat):(List.replicate k xs).flatten.length=k*xs.length:=by
  induction k with
  | zero=>simp
  | succ k ih=>rw[Yr,Za,Jb,ih,Nat.succ_mul,Nat.add_comm]
theorem aS:OpR X (binaryOp .Mult) zbr:=by
  intro pins s σ H x y v u Q I A w h;obtain⟨l,k,J,rfl,rfl,C,E,D,o,q⟩:=h;cases A;obtain⟨t,rfl⟩:=w;obtain⟨z,b,n,r,B,e⟩:=I.lstM C;have hlen:b.toArray.size*k.toNat<=sizeLine:=by rw[Jn,<- B];exact o
  have g:¬ b.toArray.size*k.toNat > (2 ^ 63-1) / 8:=by
    have:(sizeLine:Nat)<=(2 ^ 63-1) / 8:=by decide
    lia
  have f:¬(!Builtin.List.listFitsIndex k)=true:=by
    rw[fitsIndex_both E D];exact Jp
  have c:¬ Builtin.List.listTooLong (b.toArray.size*k.toNat)=true:=by
    rw[oO hlen];exact Jp
  have d:List.foldl (λj i=>j++i) #[] (List.replicate (if b.toArray.isEmpty=true then 0 else k.toNat) b.toArray)=(List.replicate k.toNat b).flatten.toArray:=by
    have G:∀ m:Nat,List.foldl (λj i=>j++i) #[] (List.replicate m b.toArray)=(List.replicate m b).flatten.toArray:=λm=>by
      have:=rW b m [];rw[List.nil_append]at this;exact this
    rw[G]
    cases b with
    | nil=>simp
    | cons a K=>rw[Jd (by simp)]
  refine wpAny_binaryOp_repeat_ref (T:="list") (U:="int") (by decide) ⟨_,e,rfl⟩ (λp=>typeIs_int p k t) noFill_list_mul F.fills_int_mul F.slot_int_rmul repeat_list F.slot_int_index.lookup
    (call_meets F.slot_int_rmul (typeIs_int s k t) F.entry_int_rmul (F.args_int_rmul_2 _ _) (int___rmul___int_list k t l b.toArray n)
      ⟨e,rfl,⟨_,e,rfl⟩,call_meets F.slot_list_mul ⟨_,e,rfl⟩ F.entry_list_mul (F.args_list_mul_2 _ _) (AutoListH.list___mul___list_int_3 l b.toArray n k t f g c) ⟨e,?_⟩⟩)
  rw[d];exact⟨.ref _,_,I.lnew (t':=s.toks) (r.rep k.toNat) (by rw[cQ,Nat.mul_comm];exact o),rfl,q _ I.fresh⟩
end
end L2
namespace Att
open PySem PySem.W PySem.Calls PyProof.Rows
theorem uT {P:Params}{h:Heap}:∀ (ns:List Int) (vs:List Value),WellAll P h vs (ns.map WData.int)->IntsAre vs ns:=by
  intro ns
  induction ns with
  | nil =>
    intro vs w;rw[List.map_nil]at w;cases w
    exact .nil
  | cons n ns ih =>
    intro vs w;rw[JT]at w
    cases w with
    | cons a b =>
      cases a;exact .cons _ _ (ih _ b)
theorem jM {l:OpenLaw}{n:Nat}(hn:l.most=some n){P:Params}{h:Heap}{args:List WData}{vals:List Value}(b:l.row.toRowW.claim.pre args=true)(g:WellAll P h vals args) :
    ∃ a vs ns,vals=[Value.ref a]/\args=[WData.list (ns.map WData.int)]/\h.get? a=some { cls:=.type "list",data:=.seq vs.toArray }/\IntsAre vs ns/\ns.length<=n:=by
  have i:WShape.hasAll [] args [.list .int]=true:=(pre_splitW b).1;have j:l.pre.holds [] { args:=args }=true:=(pre_splitW b).2;obtain⟨d,r,rfl,u,t⟩:=hasAllW_cons i;obtain rfl:=hasAllW_nil t;obtain⟨v,rfl,s⟩:=hasW_list u;obtain⟨ns,rfl⟩:=items_int s
  have hlen:ns.length<=n:=by
    unfold OpenLaw.pre at j
    have f:(WTm.not (.lt (.lit (.int (n:Int))) (.len (.arg 0)))).holds [] { args:=[.list (ns.map .int)] }=true:=by
      have f:=(holds_andW j).1;rw[hn]at f;exact f
    have e:=condW_of f (w_not (w_lt w_lit (w_len_list (w_arg rfl))));rw[Jg]at e;refine Nat.le_of_not_lt λq=>?_;have o:(n:Int)<((ns.length:Nat):Int):=by simp_all
    first
      | (rw[JD o]at e;exact absurd e (by decide))
      | (simp at e;omega)
  cases g with
  | cons m k =>
    cases k
    cases m with
    | list p c=>exact⟨_,_,ns,rfl,rfl,p,uT ns _ c,hlen⟩
theorem jS (l:OpenLaw)(args:List WData):l.row.toRowW.claim.post args (.bool true) args=true :=
  postW_of (r:=l.row.toRowW) (X:=(true == true))
    (show WShape.has [] (.bool true) .bool=true by first|rfl|decide|simp[WShape.has,WShape.arms,WShape.armsAll])
    (show (WTm.eq .res (.lit (.bool true))).value [] { args:=args,res:=some (.bool true),after:=args }=some (.bool (true == true)) from w_eq_bool (w_res rfl) w_lit) rfl
theorem attach_call {l:OpenLaw}{n:Nat}{q:Program}{loose:List Str}{t:(Str->Option Value)->Heap->Prop}{s:World->Heap->Prop}{d:DefRec}
    (hn:l.most=some n) (k:d.params.defaults=[])
    (call:∀ (w:World) (s₀ b:Shared) (mg mb:Str->Option Value) (c:Addr) (o:Obj) (pm cd doc:Value) (a:Addr) (vs:List Value) (ns:List Int),
      Ground q loose [] t w s₀ mg mb b.heap->s w b.heap ->
      b.heap.get? c=some o->o.data=.func (docDef d.name d.params d.body d.scope pm cd doc)->b.heap.CodeRec cd d.name->mg d.name=some (.ref c) ->
      b.heap.get? a=some { cls:=.type "list",data:=.seq vs.toArray }->IntsAre vs ns->ns.length<=n->b.gens = #[] ->
      codeAny (model l.prog w) callerA (.call (.ref c) ⟨[.ref a],[]⟩) (λr h=>r=.ok (.ret (.bool true))/\OldK b.heap h.heap/\h.os=b.os/\AllBare h.gens) b) :
    WalkO q loose t s l.row.toRowW d [] (λf vs=>PySem.call f vs):=by
  intro w s₀ b mg mb G Y c o pm cd doc E kV x A m p j z args vals as e u F i H;obtain rfl:E=.none:=Dflts.none p k;obtain rfl:kV=.none:=Dflts.noKw p;obtain⟨a,vs,ns,rfl,rfl,g,hints,hlen⟩:=jM hn e i;refine enter_call (ZD (call w s₀ b mg mb c o pm cd doc a vs ns G Y x (fd_plain A) m j g hints hlen z) λr h v=>?_);obtain⟨rfl,D,C,B⟩:=v;exact⟨.inl ⟨.bool true,.bool true,[],rfl,λ_=>rfl,.bool true,jS l _,λ_=>⟨List.Pairwise.nil,λ_ y=>(nomatch y)⟩⟩,D,C,B⟩
section
def zbA (h:Heap)(L d:Addr):List (Addr × Obj):=(List.range h.objs.size).filterMap λa=>if a=L\/a=d then none else (h.get? a).map λo=>(a,o)
end
end Att
namespace L2
open PySem PySem.Spec PyProof.Rows
theorem sU:∀ {vs:List Value}{ns:List Int},IntsAre vs ns->Vals (ns.map V.int) vs
  | _,_,.nil=>.nil
  | _,_,.cons n t h=>.cons ⟨t,rfl⟩ (sU h)
abbrev KOf {K:PySem.W.Frag}{h:Heap}(_:K.In h):PySem.W.Frag:=K
def xK (s:Stmt):Arguments:=match s with
  | .FunctionDef _ a _ _ _ _ _ _ _ _=>a
  | _=>{ posonlyargs:=[],args:=[],vararg:=none,kwonlyargs:=[],kw_defaults:=[],kwarg:=none,defaults:=[] }
def yj (s:Stmt):List Stmt:=match s with
  | .FunctionDef _ _ b _ _ _ _ _ _ _=>b
  | _=>[]
def zN (s:Stmt):Scope:=match s with
  | .FunctionDef _ _ _ _ _ _ sc _ _ _=>sc
  | _=>{ kind:=.function,names:=[],isGenerator:=false,isCoroutine:=false }
abbrev CX0:CXT:=λ_ _ _ _ _ _=>False
abbrev E0:XK:=λ_ _ _=>False
theorem zu {X:Cx}:Passes CX0 X E0:=λ_ _ _ _ _ _ _ h=>h.elim
structure Fun (K:PySem.W.Frag) (x qual:Str) (st:Stmt) (f:Addr) (fd:FuncData):Prop where
  ex:∃ (oc:Value) (od:Option Addr) (kV doc pm:Value) (an:Option Addr) (cdv ct:Value) (osl:Array (Option Value)),
    fd=PySem.W.fnOf x qual (xK st) (yj st) (zN st) .none kV doc pm an cdv ct/\K.lookup f=some ⟨oc,od,.func fd,osl⟩/\PySem.W.codeIn K cdv qual=true
  kp:PySem.W.keepIn K (.ref f)=true
section
variable {P:Program}{w:World}{K:PySem.W.Frag}{mg:Str->Option Value}{base:Heap}
theorem Fun.ok {x qual:Str}{st:Stmt}{f:Addr}{fd:FuncData}{N ps:List Str}{k:Nat}{sp:Sp}(F:Fun K x qual st f fd)(S:FnScope N ps (zN st))(len:∀ vs H Q E,sp vs H Q E->vs.length=ps.length)(a:∀ (cdv:Value) (A:Around) (outer:List Env) (s:Shared) (H:Hp) (vs:List V) (Q:VK) (E:XK),Room k (A.deeper (envOfC qual (zN st) s.heap.objs.size f cdv))->sp vs H Q E ->
      ∃ t,PSs (lC CX0 P w K mg base N qual (zN st) f cdv A outer s H E).nox (yj st) t/\t { nx:=λ_ g=>Q .non g,rt:=Q } (start N vs) H):FnOk P w K mg base CX0 (k+1) f fd ps sp:=by
  obtain⟨l,j,kV,doc,pm,an,cdv,m,i,rfl,d,c⟩:=F.ex;refine bT d c S len λA outer s H vs Q E e b=>?_;obtain⟨t,h,q⟩:=a cdv A outer s H vs Q E e b;exact⟨t,h.nox,q⟩
theorem Fun.binds {x qual:Str}{st:Stmt}{f:Addr}{fd:FuncData}{ps:List Str}(F:Fun K x qual st f fd)(h:∀ (kV doc pm:Value) (an:Option Addr) (cdv ct:Value) (us:List Value),us.length=ps.length->bindArgs (PySem.W.fnOf x qual (xK st) (yj st) (zN st) .none kV doc pm an cdv ct) ⟨us,[]⟩=pure (ps.zip us)):Binds K fd ps []:=by
  obtain⟨d,c,kV,doc,pm,an,cdv,ct,a,rfl,e,b⟩:=F.ex;exact .all (h kV doc pm an cdv ct)
theorem zah {x qual:Str}{st:Stmt}{f:Addr}{oc:Value}{od an:Option Addr}{osl:Array (Option Value)}{kV doc pm cdv ct:Value}(l:K.lookup f=some ⟨oc,od,.func (PySem.W.fnOf x qual (xK st) (yj st) (zN st) .none kV doc pm an cdv ct),osl⟩)(c:PySem.W.codeIn K cdv qual=true)(k:PySem.W.keepIn K (.ref f)=true):Fun K x qual st f (PySem.W.fnOf x qual (xK st) (yj st) (zN st) .none kV doc pm an cdv ct):=⟨⟨oc,od,kV,doc,pm,an,cdv,ct,osl,rfl,l,c⟩,k⟩
end
section
variable {X:Cx}
theorem pv (i:Nat) {x:Str}{pos:Pos}(d:X.N[i]?=some x:=by rfl) (b:Vis X.env.scope x:=by first|exact Or.inl rfl|exact Or.inr (.inl rfl)|exact Or.inr (.inr rfl)) (c:(x == ("__debug__":Str))=false:=by decide)
    (a:(x == ("__classdict__":Str))=false:=by decide):PE X (.Name x pos) (dO i):=aN d b c a
theorem qv (i:Nat) {x:Str}{pos:Pos}(h:X.N[i]?=some x/\Vis X.env.scope x/\(x == ("__debug__":Str))=false/\(x == ("__classdict__":Str))=false):PE X (.Name x pos) (dO i):=aN h.1 h.2.1 h.2.2.1 h.2.2.2
end
theorem yg {A B:Prop}(h:B):if false=true then A else B:=by
  rw[Jd Jp];exact h
theorem xC {A B:Prop}(h:A):if true=true then A else B:=by
  rw[Jf rfl];exact h
theorem sQ {c A B:Prop}[Decidable c](b:c->A)(a:¬ c->B):if c then A else B:=by
  by_cases h:c
  · rw[Jf h]
    exact b h
  · rw[Jd h]
    exact a h
def Same (H H':Hp):Prop:=∀ b o,H b=some o->H' b=some o
theorem Same.refl (H:Hp):Same H H:=λ_ _ h=>h
theorem Same.trans {H e d:Hp}(a:Same H e)(b:Same e d):Same H d:=λc o h=>b c o (a c o h)
end L2
set_option maxHeartbeats 4000001
namespace L2
open PySem PySem.Spec PyProof.Rows
def w8 (cells:List (Str × Addr)):List (Str × NameKind)->List (Str × Addr)->List (Str × Addr)
 | [],cs=>cs
 | (n,k)::r,cs=>if k == .free then w8 cells r ((n,(cells.lookup n).getD 0)::cs) else w8 cells r cs
theorem sI {env:Env}:∀ (names:List (Str × NameKind)) (cs:List (Str × Addr)),(∀ y∈names,y.2=.free->∃ c,env.cells.lookup y.1=some c) ->
  (forIn names cs λx r=>match x with|(name,kind)=>if (kind == NameKind.free)=true then (do let a <- cellOf env name;pure (ForInStep.yield ((name,a)::r))) else pure (ForInStep.yield r):Sem (List (Str × Addr)))=pure (w8 env.cells names cs)
 | [],cs,_=>rfl
 | (n,k)::r,cs,h=>by
  rw[Z5];by_cases e:(k == NameKind.free)=true
  ·obtain⟨c,g⟩:=h (n,k) JF (by simpa using e)
   have d:cellOf env n=pure c:=by
    have b:env.cells.lookup n=some c:=g;unfold cellOf;rw[b]
   simp only[e,Yy,d,pure_bind];rw[sI r _ λy f=>h y (JE _ f)];have b:env.cells.lookup n=some c:=g;show _=pure (if (k == NameKind.free)=true then _ else _);rw[Jf e,b];rfl
  ·have i:(k == NameKind.free)=false:=by simpa using e
   simp only[i,Yc,Z9,pure_bind];rw[sI r _ λy f=>h y (JE _ f)];show _=pure (if (k == NameKind.free)=true then _ else _);rw[Jd e]
theorem sF {scope:Scope}{env:Env}(h:∀ y∈scope.names,y.2=.free->∃ c,env.cells.lookup y.1=some c):closureFor scope env=pure (w8 env.cells scope.names []):=by
 unfold closureFor;show (forIn scope.names [] _ >>= λr=>pure r)=_;rw[bind_pure];exact sI _ _ h
theorem vU {cells:List (Str × Addr)}:∀ (names:List (Str × NameKind)) (cs:List (Str × Addr)) (x:Str) (c:Addr),(∀ y∈names,y.2=.free->∃ c,cells.lookup y.1=some c) ->
  (∀ x c,cs.lookup x=some c->cells.lookup x=some c)->(w8 cells names cs).lookup x=some c->cells.lookup x=some c
 | [],cs,x,c,_,f,e=>f x c e
 | (n,k)::r,cs,x,c,h,f,e=>by
  unfold w8 at e;by_cases q:(k == NameKind.free)=true
  ·rw[Jf q]at e
   obtain⟨c0,l⟩:=h (n,k) JF (by simpa using q);refine vU r _ x c (λy g=>h y (JE _ g)) (λd m a=>?_) e;rw[Yz]at a
   cases i:d == n with
   | true =>
    rw[i]at a;have j:d=n:=by simpa using i
    subst j;have b:cells.lookup d=some c0:=l;rw[b]at a ⊢
    exact a
   | false =>
    rw[i]at a;exact f d m a
  ·rw[Jd q]at e
   exact vU r _ x c (λy g=>h y (JE _ g)) f e
theorem vt {cells:List (Str × Addr)}:∀ (names:List (Str × NameKind)) (cs:List (Str × Addr)) (x:Str),(∃ c,cs.lookup x=some c)->∃ c,(w8 cells names cs).lookup x=some c
 | [],cs,x,e=>e
 | (n,k)::r,cs,x,e=>by
  unfold w8;by_cases q:(k == NameKind.free)=true
  ·rw[Jf q]
   refine vt r _ x ?_;rw[Yz]
   cases a:x == n with
   | true=>exact⟨_,rfl⟩
   | false=>exact e
  ·rw[Jd q]
   exact vt r _ x e
theorem x8 {cells:List (Str × Addr)}:∀ (names:List (Str × NameKind)) (cs:List (Str × Addr)) (x:Str),names.lookup x=some .free->∃ c,(w8 cells names cs).lookup x=some c
 | [],cs,x,e=>by simp at e
 | (n,k)::r,cs,x,e=>by
  rw[Yz]at e;unfold w8
  cases a:x == n with
  | true =>
   rw[a]at e;have b:k=.free:=Jm e;subst b;rw[Jf (by decide)];refine vt r _ x ?_;rw[Yz,a]
   exact⟨_,rfl⟩
  | false =>
   rw[a]at e;by_cases q:(k == NameKind.free)=true
   ·rw[Jf q];exact x8 r _ x e
   ·rw[Jd q];exact x8 r _ x e
def eP (env:Env)(p:Str × NameKind):Bool:=p.2 == .free && env.scope.kind == .function && env.kindOf p.1 == some .cell
def wX (env:Env)(p:Str × NameKind):Str × NameKind:=if eP env p=true then (p.1,.cell) else p
theorem uN (env:Env)(p:Str × NameKind):(wX env p).1=p.1:=by unfold wX;split<;>rfl
theorem uM (env:Env)(p:Str × NameKind):(wX env p).2=p.2\/((wX env p).2=.cell/\p.2=.free):=by
 unfold wX;split
 ·rename_i h
  refine .inr ⟨rfl,?_⟩;unfold eP at h;cases e:p.2<;>simp[e]at h<;>rfl
 ·exact .inl rfl
theorem wc (scope:Scope)(env:Env):(relabel scope env).names=scope.names.map (wX env):=rfl
theorem tO {f:Str × NameKind->Str × NameKind}(a:∀ p,(f p).1=p.1):∀ (l:List (Str × NameKind)) (x:Str),(l.map f).lookup x=none/\l.lookup x=none\/∃ p∈l,(l.map f).lookup x=some (f p).2/\l.lookup x=some p.2
 | [],_=>.inl ⟨rfl,rfl⟩
 | p::r,x=>by
  have c:((p::r).map f).lookup x=if x == p.1 then some (f p).2 else (r.map f).lookup x:=by
   show List.lookup x (((f p).1,(f p).2)::r.map f)=_;rw[Yz,a p];cases x == p.1<;>rfl
  have e2:(p::r).lookup x=if x == p.1 then some p.2 else r.lookup x:=by
   show List.lookup x ((p.1,p.2)::r)=_;rw[Yz];cases x == p.1<;>rfl
  rw[c,e2];cases x == p.1
  ·rcases tO a r x with z|⟨q,b,z⟩
   ·exact .inl z
   ·exact .inr ⟨q,JE _ b,z⟩
  ·exact .inr ⟨p,JF,rfl,rfl⟩
theorem xJ {scope:Scope}{env:Env}{x:Str}{a:NameKind}(h:(relabel scope env).names.lookup x=some a):scope.names.lookup x=some a\/(a=.cell/\scope.names.lookup x=some .free):=by
 rw[wc]at h;rcases tO (uN env) scope.names x with ⟨z,_⟩|⟨p,_,z,e⟩
 ·rw[z]at h;cases h
 ·rw[z]at h
  obtain rfl:=Jm h;rcases uM env p with q|⟨q,b⟩
  ·rw[q];exact .inl e
  ·exact .inr ⟨q,by rw[e,b]⟩
theorem vI {scope:Scope}{env:Env}{x:Str}(h:scope.names.lookup x=some .free):(relabel scope env).names.lookup x=some .cell\/(relabel scope env).names.lookup x=some .free:=by
 rw[wc];rcases tO (uN env) scope.names x with ⟨_,z⟩|⟨p,_,z,e⟩
 ·rw[z]at h;cases h
 ·rw[e]at h
  rcases uM env p with q|⟨q,_⟩
  ·rw[z,q,h];exact .inr rfl
  ·rw[z,q];exact .inl rfl
def yS (X:Cx)(N':List Str)(scope:Scope)(C:Addr)(s₀:Shared)(H₀:Hp)(fp:List Addr)(pins:List (Addr × Obj)):Cx :=
 { X with N:=N',s₀:=s₀,H₀:=H₀,env:=compEnvC scope (w8 X.env.cells scope.names []) C X.env,outer:=X.stack,stack:=X.stack,ex:=fp,fn:=λ_=>false,pn:=X.pn++pins,xe:=λ_ _=>False }
def iM (cap:List (Option Nat))(σ:St):St:=cap.map λo=>match o with|some i=>(match σ[i]? with|some v=>v|none=>none)|none=>none
def tst (M:Model)(A:Around)(env:Env)(E:Value->Shared->Prop)(o:Option Expr)(Q:Bool->Shared->Prop)(s:Shared):Prop:=match o with
 | none=>Q true s
 | some c=>wpAny M A (isTrue c env (eval c env)) Q E s
theorem pG {M:Model}{A:Around}{env:Env}{E:Value->Shared->Prop}{o:Option Expr}{Q a:Bool->Shared->Prop}{s:Shared}(h:tst M A env E o Q s)(k:∀ b z,Q b z->a b z):tst M A env E o a s:=by
 cases o with
 | none=>exact k _ _ h
 | some c=>exact thn h k
def PTo (X:Cx)(o:Option Expr)(t:TT):Prop :=
 ∀ (pins:List (Addr × Obj)) (s:Shared) (σ:St) (H:Hp) (Q:Bool->Hp->Prop),Inv X pins σ H s->t σ H Q->tst (model X.prog X.w) X.A X.env X.xe o (TP X pins σ Q) s
def dJ:TT:=λ_ H Q=>Q true H
theorem uV {X:Cx}:PTo X none dJ:=λ_ _ _ H _ I h=>⟨H,I,h⟩
theorem lS {X:Cx}{c:Expr}{t:TT}(h:PT X c t):PTo X (some c) t:=λpins s σ H Q I a=>h pins s σ H Q I a
abbrev NoX:Value->Shared->Prop:=λ_ _=>False
def Go (M:Model)(A:Around)(tg elt:Expr)(o:Option Expr)(it acc:Value)(env:Env)(R:Result->Shared->Prop)(g:Shared->Prop)(s:Shared):Prop :=
 wpAny M A (pyNext it) (λr a=>match r with
  | none=>R (.ok .next) a
  | some v=>wpAny M A (letOwnedTupleGo tg it v) (λ_ b=>wpAny M A (assign tg env v) (λ_ c=>tst M A env NoX o (λyes d =>
    if yes=true then wpAny M A (eval elt env) (λx e=>wpAny M A (call (.builtin "list.append") [acc,x]) (λ_ f=>g f) NoX e) NoX d else g d) c) NoX b) NoX a) NoX s
theorem iI {prog:Program}{w:World}{A:Around}{R:Result->Shared->Prop}{s:Shared}{elt tg iter:Expr}{o:Option Expr}{scope:Scope}{pos:Pos}{it acc:Value}{env:Env}(J:Nat->Shared->Prop)(turn:∀ n s,J n s->Go (model prog w) A tg elt o it acc env R (λz=>∃ m,m<n/\J m z) s)(n:Nat)(h:J n s) :
  codeAny (model prog w) A (.compLoop (.ListComp elt [⟨tg,iter,o.toList,0⟩] scope pos) 0 it acc env) R s:=by
 cases o with
 | none =>
  refine PySem.W.kcp_loop J (λn a l=>JN (turn n a l) (λr b g=>?_) λ_ _ z=>z.elim) n h
  cases r with
  | none=>exact g
  | some v=>exact JN g (λ_ c k=>JN k (λ_ d j=>JN (show wpAny _ _ _ _ _ d from j) (λx e i=>JN i (λ_ _ q=>q) λ_ _ z=>z.elim) λ_ _ z=>z.elim) λ_ _ z=>z.elim) λ_ _ z=>z.elim
 | some t =>
  refine PySem.W.kct_loop J (λn a l=>JN (turn n a l) (λr b g=>?_) λ_ _ z=>z.elim) n h
  cases r with
  | none=>exact g
  | some v =>
   refine JN g (λ_ c k=>JN k (λ_ d j=>JN (show wpAny _ _ _ _ _ d from j) (λyes e i=>?_) λ_ _ z=>z.elim) λ_ _ z=>z.elim) λ_ _ z=>z.elim;cases yes
   ·exact i
   ·exact JN (show wpAny _ _ _ _ _ e from i) (λx f p=>JN p (λ_ _ q=>q) λ_ _ z=>z.elim) λ_ _ z=>z.elim
structure CapOk (N N':List Str) (sc scope:Scope) (cap:List (Option Nat)):Prop where
 kind:scope.kind=.function
 nocell:∀ y∈scope.names,y.2≠.cell
 names:∀ y∈scope.names,y.2=.local -> scope.names.lookup y.1=some .local
 free:∀ y∈scope.names,y.2=.free->sc.names.lookup y.1=some .cell\/sc.names.lookup y.1=some .free
 len:cap.length=N'.length
 cap:∀ p∈N'.zip cap,∀ i,p.2=some i->N[i]?=some p.1/\scope.names.lookup p.1=some .free/\(sc.names.lookup p.1=some .cell\/sc.names.lookup p.1=some .free)
theorem wx {α:Type}:∀ {l:List (Str × α)}{x:Str}{a:α},l.lookup x=some a->(x,a)∈l
 | [],_,_,h=>by simp at h
 | (n,k)::r,x,a,h=>by
  rw[Yz]at h
  cases b:x == n with
  | true =>
   rw[b]at h;have e:k=a:=Jm h;have e2:x=n:=by simpa using b
   subst e e2
   exact JF
  | false=>rw[b]at h;exact JE _ (wx h)
def LCW (J:It)(g:TG)(tt:TT)(k:TE)(l:Addr)(Q:VK)(W:Nat->Nat->List V->St->Hp->Prop):Prop :=
 ∀ i m acc e c,W i m acc e c->c l=some (.lst acc) /\
  ((J.stop i c/\Q (.ref l) c)\/(J.go i c/\∀ x j,J.yld i c x j->g x e j λa n=>tt a n λb h =>
   if b=true then k a h λy f=>f l=some (.lst acc)/\acc.length<sizeLine/\∃ d,d<m/\W (i+1) d (acc++[y]) a (upd f l (.lst (acc++[y])))
   else ∃ d,d<m/\W (i+1) d acc a h))
def tLC (cap:List (Option Nat))(b:TI)(g:TG)(tt:TT)(c:TE):TE:=λσ H Q=>b σ H λJ a=>∀ l,a l=none ->
 ∃ W:Nat->Nat->List V->St->Hp->Prop,(∃ m,W 0 m [] (iM cap σ) (upd a l (.lst [])))/\LCW J g tt c l Q W
theorem kH {X:Cx}{elt tg iter:Expr}{o:Option Expr}{scope:Scope}{pos a3:Pos}{wi:TI}{g:TG}{tt:TT}{te:TE}{N':List Str}{cap:List (Option Nat)}{use:Option (Value->Sem Unit)}{Q0:Value->Shared->Prop}(hc:X.calm=true)(hi:PI X tg iter wi)(P:CapOk X.N N' X.env.scope scope cap)(hg:∀ C s₀ H₀ fp pins,PG (yS X N' scope C s₀ H₀ fp pins) tg g)(ht:∀ C s₀ H₀ fp pins,PTo (yS X N' scope C s₀ H₀ fp pins) o tt)(he:∀ C s₀ H₀ fp pins,PE (yS X N' scope C s₀ H₀ fp pins) elt te)(hs:∀ x,foldedSetIterable iter X.env x=pure x){pins:List (Addr × Obj)}{s:Shared}{σ:St}{H:Hp}{Q:VK}(I:Inv X pins σ H s)(h:tLC cap wi g tt te σ H Q)(fin:∀ (l C:Addr) (O:Hp) (U:Shared) (m:Str->Option Value),Inv X pins σ O U->Q (.ref l) O->U.heap.Ns C m->FpOk X pins O C->compPost (model X.prog X.w) X.A X.xe use Q0 (.ref l) C (.ok .next) U) :
  wpAny (model X.prog X.w) X.A (comprehension (.ListComp elt [⟨tg,iter,o.toList,0⟩] scope pos) scope X.env a3 (newList []) false (eval iter X.env) use) Q0 X.xe s:=by
 have F:∀ y∈scope.names,y.2=.free->∃ c,X.env.cells.lookup y.1=some c:=λy hy hf=>I.ok.has y.1 (P.free y hy hf);refine wpAny_comprehension_free (use:=use) rfl hs (sF F) P.kind P.names (thn (hi pins s σ H _ I h) λv s1 h1=>thn h1 λcn A h2=>?_);obtain⟨it,fp,tn,J,H2,e,I2,T,a7,N,body⟩:=h2;subst e;have a5:H2 A.heap.objs.size=none:=I2.hok.fresh (Je _);obtain⟨W,⟨m0,w0⟩,turn⟩:=body A.heap.objs.size a5;have k:Inv X pins σ (upd H2 A.heap.objs.size (.lst [])) { A with heap:=A.heap.push { cls:=.type "list",data:=.seq ([]:List Value).toArray },toks:=A.toks }:=I2.lnew (its:=[]) (t':=A.toks) .nil (JJ _);refine JK (wpAny_newFunctionEnv P.nocell (by intro y hy;simp at hy) (λw E D=>?_) P.kind);dsimp only at E D ⊢;generalize hl:A.heap.objs.size=l at *;generalize hP:A.heap.push { cls:=.type "list",dict:=none,data:=.seq ([]:List Value).toArray }=P2 at *;generalize b3:upd H2 l (.lst [])=H3 at *;have old:∀ b o,P2.get? b=some o->w.get? b=some o:=λb o e=>D.extBut b o (JH (Jr e)) (J8 _ e);have a4:∀ b o,A.heap.get? b=some o->P2.get? b=some o:=λb o e=>hP ▸ J8 _ e
 have bl:∀ b∈fp,b<l:=λb a=>by
  obtain⟨o,e,_⟩:=T.obj _ _ a7 b a;rw[<- hl];exact Jr e
 have b5:∀ b∈fp,H3 b=none:=λb a=>by
  rw[<- b3,zG (JH (bl b a))];exact(N b a).1
 have b2:P2.objs.size=l+1:=by rw[<- hP,Z1,hl]
 have t:∀ x c,(w8 X.env.cells scope.names []).lookup x=some c->X.env.cells.lookup x=some c:=λx c e=>vU _ _ x c F (λ_ _ z=>by simp at z) e;generalize a9:({ A with heap:=P2,toks:=A.toks }:Shared)=s3 at *;have f:s3.heap=P2:=by rw[<- a9]
 let Y:=yS X N' scope P2.objs.size s3 H3 fp pins
 have B:Y.Ok:=by
  refine⟨k.ok.mod,P.kind,k.ok.glob,k.ok.blt,by show s3.heap.objs.size<=P2.objs.size;rw[f];exact Je _,λx y c e1 e2=>k.ok.inj x y c (t x c e1) (t y c e2),λx Z=>?_,λx c Z=>absurd (show false=true from Z) Jp,k.ok.hd,k.ok.frames,.inl rfl,λb a=>⟨?_,λx c e=>?_⟩,k.bs,
   JR k.ok.bsz k.sz,λb o e a=>?_,λb a hz=>?_,k.stack,k.stkFree⟩
  ·have bu:scope.names.lookup x=some .free:=by
    rcases Z with Z|Z
    ·rcases xJ Z with z|z
     ·exact absurd rfl (P.nocell _ (wx z))
     ·exact z.2
    ·rcases xJ Z with z|z
     ·exact z
     ·exact z.2
   exact x8 _ _ x bu
  ·exact JH (by show b<P2.objs.size;rw[b2];exact ZW (bl b a))
  ·exact(N b a).2.2.2.2.1 x c (t x c e)
  ·rcases (N b a).2.2.2.1 with z|z
   ·exact k.ok.noex b o e z
   ·exact absurd (JL (Jr e) (JR k.ok.bsz z)) (YR _)
  ·rcases Js.mp (k.stkSub b hz) with z|z
   ·exact(N b a).2.1 z
   ·exact(N b a).2.2.1 z
 have b1:Inv Y [] (iM cap σ) H3 { A with heap:=w,toks:=A.toks }:=by
  refine⟨B,by show A.os=s3.os;rw[<- a9],I2.bare,by show Un _ _ _ _ s3.heap w;rw[f];exact Un.kept old,⟨_,E,λj x v e1 e2 e3=>?_⟩,λx c e=>?_,?_,λx c e=>k.freeC x c (t x c e),λp hp=>?_,λb o e=>?_,?_⟩
  ·have b8:N'[j]?=some x:=e1
   unfold iM at e2;rw[Y6]at e2
   cases ec:cap[j]? with
   | none=>rw[ec]at e2;cases e2
   | some oc =>
    rw[ec]at e2
    cases oc with
    | none=>cases e2
    | some i =>
     have b6:σ[i]?=some (some v):=by
      cases ei:σ[i]? with
      | none=>simp[ei]at e2
      | some v' =>
       simp[ei]at e2;rw[e2]
     have hz:(x,some i)∈N'.zip cap:=by
      refine JQ (i:=j) ?_;rw[WB];exact⟨b8,ec⟩
     obtain⟨hN,hf,hk⟩:=P.cap _ hz i rfl;obtain⟨m,hn,bB⟩:=k.loc;obtain⟨u,r,lk⟩:=bB i x v hN b6 (by rcases hk with z|z;exact .inr (.inl z);exact .inr (.inr z));refine⟨u,r,.inr ⟨?_,?_⟩⟩
     ·exact vI hf
     ·rcases lk with ⟨z,_⟩|⟨_,c,b0,ab⟩
      ·have z':X.env.scope.names.lookup x=some .local:=z
       rcases hk with q|q
       ·rw[q]at z';cases z'
       ·rw[q]at z';cases z'
      ·obtain⟨c',ba⟩:=x8 (cells:=X.env.cells) scope.names [] x hf
       have:=t x c' ba;rw[b0]at this;cases this;obtain⟨ob,e,d⟩:=ab;rw[f]at e;exact⟨c,ba,ob,old c ob e,d⟩
  ·obtain⟨v,ob,e',d⟩:=k.cell x c (t x c e)
   rw[f]at e';exact⟨v,ob,old c ob e',d⟩
  ·refine k.hok.fresh ?_
   rw[f];exact Je _
  ·have a0:p∈X.pn++pins:=(Jy.mp hp).elim (λz=>z) (λz=>nomatch z)
   obtain⟨e,n,ne,nf,d⟩:=k.pin p a0;rw[f]at e;refine⟨old _ _ e,n,JH (Jr e),λz=>?_,d⟩;rcases Js.mp (k.stkSub _ z) with q|q
   ·exact ne q
   ·exact nf q
  ·have:=k.hok.kept (h':=w) (λb u q=>old b u (by rw[<- f];exact q))
   exact this b o e
  ·show (cap.map _).length=N'.length
   rw[Jg,P.len]
 have L:∀ {G:Hp},(∀ b∈fp,G b=none)->∀ b∈fp,FpOk Y [] G b:=λ{G} hn b a=>by
  refine⟨hn b a,(B.exf b a).1,B.exfs b a,.inl a,(B.exf b a).2,λp hp=>?_⟩;have a0:p∈X.pn++pins:=(Jy.mp hp).elim (λz=>z) (λz=>nomatch z);exact(N b a).2.2.2.2.2 p a0
 have a8:tn 0 w:=T.keep 0 _ _ a7 λb a o e=>old b o (a4 b o e)
 have loop:codeAny (model X.prog X.w) X.A (.compLoop (.ListComp elt [⟨tg,iter,o.toList,0⟩] scope pos) 0 (.ref it) (.ref l) Y.env) (compPost (model X.prog X.w) X.A X.xe use Q0 (.ref l) P2.objs.size) { A with heap:=w,toks:=A.toks }:=by
  refine iI (λn s'=>∃ i acc K G,Inv Y [] K G s'/\tn i s'.heap/\(∀ b∈fp,G b=none)/\W i n acc K G) ?_ m0 ⟨0,[],_,H3,b1,a8,b5,w0⟩;rintro n s4 ⟨i,acc,S,O,I4,a6,bc,w4⟩;obtain⟨cc,q4⟩:=turn i n acc S O w4;rcases q4 with ⟨stop,qn⟩|⟨go,step⟩
  ·refine thn (T.done Y rfl rfl rfl hc i [] s4 S O Y.xe I4 (L bc) a6 stop) λr U ⟨hr,I5⟩=>?_
   subst hr;obtain⟨m,hn,_⟩:=id I5.loc;have un:Un (frs X.stack) fp H3 O s3.heap U.heap:=I5.base;have bo:s3.heap.objs.size<=P2.objs.size:=by rw[f];exact Je _
   have IX:Inv X pins σ O U:=k.call' (ch:=fp) I5.os un I5.hok I5.bare λb a=>⟨(N b a).2.2.2.1,(N b a).2.1,(N b a).2.2.2.2.1,(N b a).2.2.2.2.2⟩;exact fin l P2.objs.size O U m IX qn hn (k.fpOk bo I5.free)
  ·refine thn (T.item Y rfl rfl rfl hc i [] s4 S O Y.xe I4 (L bc) a6 go) λr U ⟨u,hr,h5⟩=>?_
   subst hr;refine thn h5 λ_ s6 ⟨x,H6,I6,r6,y6,aT,b4⟩=>?_;have b9:=I6.pinned (L b4) (T.obj _ _ aT);refine thn (hg _ _ _ _ _ _ s6 S H6 x u _ b9 r6 (step x H6 y6)) λ_ s7 ⟨ao,H7,I7,q7⟩=>?_;refine pG (ht _ _ _ _ _ _ s7 ao H7 _ I7 q7) λb s8 ⟨H8,I8,q8⟩=>?_
   have again:∀ {R:St}{H9:Hp}{s9:Shared}{M:List V},Inv Y ([]++wJ fp s6.heap) R H9 s9->(∃ m',m'<n/\W (i+1) m' M R H9)->∃ m,m<n/\∃ i acc K G,Inv Y [] K G s9/\tn i s9.heap/\(∀ b∈fp,G b=none)/\W i m acc K G:=λ{R H9 s9 M} I9 ⟨m',hm,w9⟩=>by
    refine⟨m',hm,i+1,M,R,H9,I9.unpinned,T.keep _ _ _ aT λb a o e=>(I9.pin (b,o) (JB _ (JB _ (ye a e)))).1,λb a=>?_,w9⟩;obtain⟨o,e,d⟩:=T.obj _ _ aT b a;exact(I9.pin (b,o) (JB _ (JB _ (ye a e)))).2.1
   cases b with
   | false =>
    rw[Jd Jp]at q8 ⊢
    exact again I8 q8
   | true =>
    rw[Jf rfl]at q8 ⊢;refine thn (he _ _ _ _ _ _ s8 ao H8 _ I8 q8) λyv s9 ⟨y,H9,I9,r9,bS,bt,q9⟩=>?_;refine thn (yx (X:=Y) _ s9 ao H9 (.ref l) [y] (.ref l) [yv] (λ_ G=>G=upd H9 l (.lst (acc++[y]))) I9 rfl (.cons r9 .nil) ⟨l,acc,y,rfl,rfl,bS,bt,rfl⟩) λ_ cf ⟨_,ct,cb,_,b7⟩=>?_;subst b7;exact again cb q9
 exact codeAny_compStart_list loop (T.self X.A 0 _ _ _ a8 loop)
theorem Inv.gone {X:Cx}{pins:List (Addr × Obj)}{σ:St}{H:Hp}{s:Shared}{C:Addr}{h':Heap}(I:Inv X pins σ H s)(f:FpOk X pins H C)(sb:Heap.SameBut C s.heap h'):Inv X pins σ H { s with heap:=h' } :=
 I.turned (t':=s.toks) (λb o a e=>(sb.2 b a).trans e) f.1 f.2.1 f.2.2.2.1 f.2.2.2.2.1 f.2.2.2.2.2
theorem gm {X:Cx}{elt tg iter:Expr}{o:Option Expr}{scope:Scope}{pos:Pos}{a:TI}{g:TG}{tt:TT}{b:TE}{N':List Str}{cap:List (Option Nat)}(n:X.calm=true)(hi:PI X tg iter a)(p:CapOk X.N N' X.env.scope scope cap)(j:∀ C s₀ H₀ fp pins,PG (yS X N' scope C s₀ H₀ fp pins) tg g)(d:∀ C s₀ H₀ fp pins,PTo (yS X N' scope C s₀ H₀ fp pins) o tt)(k:∀ C s₀ H₀ fp pins,PE (yS X N' scope C s₀ H₀ fp pins) elt b)(e:∀ x,foldedSetIterable iter X.env x=pure x:=by intro _;rfl) :
  PE X (.ListComp elt [⟨tg,iter,o.toList,0⟩] scope pos) (tLC cap a g tt b):=by
 intro pins s σ H Q I h;rw[eval_ListComp];exact kH (use:=none) n hi p j d k e I h λl C t u m r q i f=>⟨m,i,λv c=>⟨.ref l,t,r.gone f c,rfl,q⟩⟩
theorem pi {X:Cx}{i:Nat}{y:Str}{elt tg iter:Expr}{o:Option Expr}{scope:Scope}{pos b py:Pos}{k:TI}{g:TG}{tt:TT}{n:TE}{N':List Str}{cap:List (Option Nat)}(M:X.N.Nodup)(j:X.N[i]?=some y)(p:X.env.scope.names.lookup y=some .local)(K:X.calm=true)(hi:PI X tg iter k)(N:CapOk X.N N' X.env.scope scope cap)(G:∀ C s₀ H₀ fp pins,PG (yS X N' scope C s₀ H₀ fp pins) tg g)(B:∀ C s₀ H₀ fp pins,PTo (yS X N' scope C s₀ H₀ fp pins) o tt)(J:∀ C s₀ H₀ fp pins,PE (yS X N' scope C s₀ H₀ fp pins) elt n)(E:∀ x,foldedSetIterable iter X.env x=pure x:=by intro _;rfl)(d:swapsWith (.ListComp elt [⟨tg,iter,o.toList,0⟩] scope pos) (some (.Name y py)) b.line X.env=pure true:=by with_unfolding_all rfl) :
  PS X (.Assign [.Name y py] (.ListComp elt [⟨tg,iter,o.toList,0⟩] scope pos) b) (dX (tLC cap k g tt n) (vQ i)):=by
 intro pins s σ H D I h;rw[exec_Assign_Name_used y py _ b d];refine J0 (Zf (J0 (J0 (thn (kH (use:=some (assign (.Name y py) X.env)) (Q0:=λ_ z=>SP X pins D .next z) K hi N G B J E I h λl C Q R m P q F f=>?_) λ_ z A=>J7 (J7 A)))));refine wpAny_assign_Name (sY (v:=.ref l) P M j (.inl p) rfl (λt O ⟨a,r,L⟩=>?_) (.inr p))
 have u:C≠a:=by
  rcases L with z|z
  ·rw[z];exact f.2.1
  ·exact λw=>f.2.2.2.2.1 y a z w.symm
 have e:t.heap.Ns C m:=F.sameBut r u;exact⟨m,e,λS c=>⟨_,Q,O.gone f c,q⟩⟩
end L2
namespace Own
open PySem PySem.Spec PyProof.Rows
section
variable {M:Model}{prog:Program}{w:World}{A:Around}{E:Value->Shared->Prop}{s:Shared}{α:Type}{Q:α->Shared->Prop}
theorem rf {a:Addr}{o:Obj}{vs:Array Value}{x:Value}{f:Value->Sem α}(k:Nat)(c:s.heap.get? a=some o)(hd:o.data=.fields vs)(b:vs[k]?=some x)(h:wpAny M A (f x) Q E s) :
  wpAny M A (field (.ref a) k >>= f) Q E s:=J0 (We c hd b h)
theorem nx {T id:String}{B:Builtin}{it:Addr}{P:Value->Shared->Prop}(slot:Slot T "__next__" id) (ty:s.TypeIs (.ref it) T) (en:entryFor table id=some B) (ok:argsOk id ⟨[.ref it],[]⟩)
  (h:wpAny (model prog w) A.in1 (B ⟨[.ref it],[]⟩) (λr a=>∃ v,r=.done (.ret v)/\P v a) E s):wpAny (model prog w) A (Builtin.SmallTypes.nextOf (.ref it)) P E s:=by
 unfold Builtin.SmallTypes.nextOf;refine J0 (wpAny_callSpecial?_slot (name:="__next__") ty slot (Y1 slot ty en (thn2 h) ok))
where
 thn2 {b:Sem Fin}{P:Value->Shared->Prop}{c:Around}(h:wpAny (model prog w) c b (λr a=>∃ v,r=.done (.ret v)/\P v a) E s) :
   wpAny (model prog w) c b (λr a=>∃ v,r=.done (.ret v)/\wpAny (model prog w) A (pure v) P E a) E s :=
  JN h (λ_ _ ⟨v,e,q⟩=>⟨v,e,J7 q⟩) λ_ _ z=>z
end
theorem ends {A:Around}{E:Value->Shared->Prop}{prog:Program}{w:World}{s:Shared}{α:Type}{Q:α->Shared->Prop}(c:A.handled=none)
  (h:∀ h' x,(∀ b o,s.heap.get? b=some o->h'.get? b=some o)->(∃ o,h'.get? x=some o/\o.cls=.type "StopIteration")->E (.ref x) { s with heap:=h' }) :
  wpAny (model prog w) A (Builtin.SmallTypes.stopIteration:Sem α) Q E s:=by
 unfold Builtin.SmallTypes.stopIteration newExc newTuple;refine J0 (J0 (JK ?_ (by size_fits)));refine J0 (wpAny_of_eq (a:=Value.none) (by rfl) (JK (wpAny_raiseNew_none c (h _ _ (λb o e=>?_) ⟨_,Jq _ rfl,rfl⟩)) (by size_fits)));exact J8 _ (J8 _ e)
def cN:Bool->String
 | true=>"list_iterator"
 | false=>"tuple_iterator"
abbrev RIt (b:Bool)(h:Heap)(it a:Addr)(i:Int):Prop:=h.get? it=some { cls:=.type (cN b),dict:=none,data:=.fields #[.ref a,.int i 0],slots:=#[] }
def SqO:Bool->Heap->Addr->Array Value->Prop
 | true,h,a,xs=>h.IsList a xs
 | false,h,a,xs=>h.IsTuple a xs
theorem SqO.ob {b:Bool}{h:Heap}{a:Addr}{xs:Array Value}(x:SqO b h a xs):∃ o n,h.get? a=some o/\o.data=.seq xs n:=by
 cases b<;>(obtain⟨o,e,_,n,d⟩:=x;exact⟨o,n,e,d⟩)
theorem SqO.mv {b:Bool}{h h':Heap}{a:Addr}{xs:Array Value}(x:SqO b h a xs)(k:∀ o,h.get? a=some o->h'.get? a=some o):SqO b h' a xs:=by
 cases b<;>(obtain⟨o,e,r⟩:=x;exact⟨o,k o e,r⟩)
theorem SqO.ne {b c:Bool}{h:Heap}{a it f:Addr}{i:Int}{xs:Array Value}(x:SqO b h a xs)(y:RIt c h it f i):a≠it:=λz=>by
 obtain⟨o,n,e,d⟩:=x.ob;rw[z,y]at e;cases e;cases d
section
variable {prog:Program}{w:World}{A:Around}{E:Value->Shared->Prop}{s:Shared}
theorem ty {b:Bool}{it a:Addr}{i:Int}(y:RIt b s.heap it a i):s.TypeIs (.ref it) (cN b):=⟨_,y,rfl⟩
theorem qO {b:Bool}{it a:Addr}{i:Nat}{xs:Array Value}{x:Value}{P:Value->Shared->Prop}{B:Builtin}(m:B=match b with|true=>Builtin.«list_iterator.__next__»|false=>Builtin.«tuple_iterator.__next__»)(y:RIt b s.heap it a i)(sq:SqO b s.heap a xs)(g:xs[i]?=some x)(h:∀ h',RIt b h' it a (i+1)->Heap.SameBut it s.heap h'->P x { s with heap:=h' }) :
  wpAny (model prog w) A (B ⟨[.ref it],[]⟩) (λr f=>∃ v,r=.done (.ret v)/\P v f) E s:=by
 obtain⟨o,n,e,d⟩:=sq.ob
 have fin:wpAny (model prog w) A (match xs[(i:Int).toNat]? with
   | some x=>(do setField (.ref it) 1 (rawInt ((i:Int)+1));ret x:Sem Fin)
   | none=>Builtin.SmallTypes.stopIteration) (λr f=>∃ v,r=.done (.ret v)/\P v f) E s:=by
  rw[Yf,g];exact J0 (Yn y (show 1<2 by decide) λh' j k=>J7 ⟨x,rfl,h h' j k⟩)
 rw[Yf,g]at fin;subst m;cases b <;>
 ·refine rf 0 y rfl rfl (PyIte (show ¬((Value.ref a == Value.none)=true) from Jp) (rf 1 y rfl rfl (J0 (Yi e d ?_))))
  simp only[Yf,g];exact fin
where
 PyIte {c:Prop} [Decidable c] {α:Type}{a b:Sem α}{M:Model}{A:Around}{Q:α->Shared->Prop}{E:Value->Shared->Prop}{s:Shared}(l:¬ c) (h:wpAny M A b Q E s):wpAny M A (if c then a else b) Q E s:=by
  rw[Jd l];exact h
theorem su {b:Bool}{it a:Addr}{i:Nat}{xs:Array Value}{Q:Fin->Shared->Prop}{B:Builtin}(m:B=match b with|true=>Builtin.«list_iterator.__next__»|false=>Builtin.«tuple_iterator.__next__»)
  (j:A.handled=none) (y:RIt b s.heap it a i) (sq:SqO b s.heap a xs) (g:xs[i]?=none)
  (h:∀ h' x,(∀ c o,c≠it->s.heap.get? c=some o->h'.get? c=some o)->(∃ o,h'.get? x=some o/\o.cls=.type "StopIteration")->E (.ref x) { s with heap:=h' }) :
  wpAny (model prog w) A (B ⟨[.ref it],[]⟩) Q E s:=by
 obtain⟨o,n,e,d⟩:=sq.ob;subst m;cases b <;>
 ·refine rf 0 y rfl rfl (qO.PyIte (show ¬((Value.ref a == Value.none)=true) from Jp) (rf 1 y rfl rfl (J0 (Yi e d ?_))))
  simp only[Yf,g];refine J0 (YJ (J0 (Yn y (show 0<2 by decide) λr _ f=>?_)));exact ends j λp x k z=>h p x (λc o l q=>k c o ((f.2 c l).trans q)) z
theorem cG {b:Bool}{it a:Addr}{i:Nat}{xs:Array Value}{x:Value}{P:Value->Shared->Prop}(y:RIt b s.heap it a i)(sq:SqO b s.heap a xs)(c:xs[i]?=some x)(h:∀ h',RIt b h' it a (i+1)->Heap.SameBut it s.heap h'->P x { s with heap:=h' }):wpAny (model prog w) A (Builtin.SmallTypes.nextOf (.ref it)) P E s:=by
 cases b
 ·exact nx F.slot_tuple_iterator_next (ty y) F.entry_tuple_iterator_next (F.args_tuple_iterator_next_1 _) (qO (b:=false) rfl y sq c h)
 ·exact nx slot_listiter_next (ty y) entry_listiter_next (args_listiter_next _) (qO (b:=true) rfl y sq c h)
theorem jj {b:Bool}{it a:Addr}{i:Nat}{xs:Array Value}{P:Value->Shared->Prop}(e:A.handled=none) (y:RIt b s.heap it a i) (sq:SqO b s.heap a xs) (d:xs[i]?=none)
  (h:∀ h' x,(∀ c o,c≠it->s.heap.get? c=some o->h'.get? c=some o)->(∃ o,h'.get? x=some o/\o.cls=.type "StopIteration")->E (.ref x) { s with heap:=h' }) :
  wpAny (model prog w) A (Builtin.SmallTypes.nextOf (.ref it)) P E s:=by
 have inner:A.in1.handled=none:=e;cases b
 ·exact nx F.slot_tuple_iterator_next (ty y) F.entry_tuple_iterator_next (F.args_tuple_iterator_next_1 _) (su (b:=false) rfl inner y sq d h)
 ·exact nx slot_listiter_next (ty y) entry_listiter_next (args_listiter_next _) (su (b:=true) rfl inner y sq d h)
theorem vP {b:Bool}{a:Addr}{xs:Array Value}{P:Value->Shared->Prop}(sq:SqO b s.heap a xs)(h:P (.ref s.heap.objs.size) { s with heap:=s.heap.push { cls:=.type (cN b),data:=.fields #[.ref a,.int 0 0] } }):wpAny (model prog w) A (pyIter (.ref a)) P E s:=by
 cases b
 ·exact wpAny_pyIter_tuple sq h
 ·exact wpAny_pyIter_list sq h
end
theorem draws {prog:Program}{w:World}{A:Around}(l:A.handled=none)(b:Bool)(it a:Addr)(xs:Array Value)(f:a≠it) :
  Draws prog w A it [it,a] xs.size (λi v=>xs[i]?=some v) (λi h=>RIt b h it a i/\SqO b h a xs) :=
 ⟨λ_ _ st=>⟨_,st.1⟩,λ_ _ _ st k=>⟨k it JF _ st.1,st.2.mv λo e=>k a (JE _ JF) o e⟩,
  λi s Q E hi st k=>cG st.1 st.2 (YL hi) λd y g=>k _ d s.toks (YL hi) ⟨y,st.2.mv λo e=>(g.2 a f).trans e⟩ g,
  λs Q E st k=>jj l st.1 st.2 (by simp) λd x j z=>k d x (λc o m q=>j c o m q) z⟩
theorem eD (b:Bool)(a:Addr)(o:Obj)(xs:Array Value) :
  Meets (Builtin.«enumerate.__new__» ⟨[.type "enumerate",.ref a],[]⟩) (λ_ R s=>s.heap.get? a=some o/\SqO b s.heap a xs /\
   R (.ok (.ret (.ref (s.heap.push { cls:=.type (cN b),data:=.fields #[.ref a,.int 0 0] }).objs.size)))
    { s with heap:=(s.heap.push { cls:=.type (cN b),data:=.fields #[.ref a,.int 0 0] }).push { cls:=.type "enumerate",data:=.fields #[.none,.bool false,.ref s.heap.objs.size,rawInt 0,.none,.none] } }) :=
 .of_wp λprog w A R s h=>by
  obtain⟨j,g,d,i,os⟩:=s;obtain⟨f,sq,h⟩:=h;have sub:=sub_enumerate;have e:SqO b (Shared.heap ⟨j,g,d,i,os⟩) a xs:=sq
  wp_walk using WE f;refine wpAny_stack_any λst=>J7 ?_
  split
  case h_1 c _ _ _ _ _ =>
   cases (c == Value.type "enumerate")<;>(wp_walk using WE f,vP e;exact⟨_,rfl,h⟩)
  all_goals (wp_walk using WE f,vP e;exact⟨_,rfl,h⟩)
theorem iR {prog:Program}{w:World}{A:Around}{E:Value->Shared->Prop}{s:Shared}{b:Bool}{a:Addr}{xs:Array Value}{P:Value->Shared->Prop}(sq:SqO b s.heap a xs)(h:∀ h' e it,s.heap.objs.size<=e->s.heap.objs.size<=it->e≠it->IsEnum h' e it 0 .none->RIt b h' it a 0->(∀ c o,s.heap.get? c=some o->h'.get? c=some o)->P (.ref e) { s with heap:=h' }) :
  wpAny (model prog w) A (call (.type "enumerate") [.ref a]) P E s:=by
 obtain⟨o,n,d,_⟩:=sq.ob;refine callType_new F.called_enumerate (by decide) (F.typeCall_enumerate_1 _) (F.newCall_enumerate_1 _) (λobj=>F.args_object_init_2 obj _) F.entry_enumerate_new (eD b a o xs) ⟨d,sq,⟨_,Jq _ rfl,rfl⟩,?_⟩;refine h _ _ _ ?_ (Je _) ?_ (Jq _ rfl) (J8 _ (Jq _ rfl)) λc o e=>J8 _ (J8 _ e)
 ·rw[Z1];exact Nat.le_succ _
 ·rw[Z1];exact Nat.succ_ne_self _
structure Sep (z TI TO i1 i2:Addr) (f1 f2:List Addr):Prop where
 all:[z,TI,TO,i1,i2].Nodup
 z1:z∉f1
 t1:TO∉f1
 o1:i2∉f1
 z2:z∉f2
 t2:TO∉f2
 o2:i1∉f2
section
variable {prog:Program}{w:World}{A:Around}{E:Value->Shared->Prop}{s:Shared}{z TI TO i1 i2:Addr}{f1 f2:List Addr}{n1 n2 k:Nat}{P1 P2:Nat->Value->Prop}{S1 S2:Nat->Heap->Prop}{a b:Value}
theorem iW (S:Sep z TI TO i1 i2 f1 f2)(D:Draws prog w A i1 f1 n1 P1 S1)(C:Draws prog w A i2 f2 n2 P2 S2){Q:Value->Shared->Prop}(n:IsZip s.heap z TI TO .none)(hI:IsPair s.heap TI (.ref i1) (.ref i2))(hO:IsPair s.heap TO a b)(d1:S1 k s.heap)(d2:S2 k s.heap)(l1:k<n1)(l2:k<n2)(h:∀ x y h' tk,P1 k x->P2 k y->IsZip h' z TI TO (rawInt s.heap.objs.size)->IsPair h' TO x y->S1 (k+1) h'->S2 (k+1) h'->IsPair h' s.heap.objs.size x y ->
   (∀ c o,c∉[z,TO,i1,i2]->s.heap.get? c=some o->h'.get? c=some o)->Q (.ref s.heap.objs.size) { s with heap:=h',toks:=tk }) :
  wpAny (model prog w) A (Builtin.«zip.__next__» ⟨[.ref z],[]⟩) (λr Y=>∃ v,r=.done (.ret v)/\Q v Y) E s:=by
 have L:=S.all;simp only[JP,Js,Jz,ZX,not_or]at L;obtain⟨⟨zI,u,W,V⟩,⟨IO,I1,I2⟩,⟨O1,O2⟩,ab,_⟩:=L;refine rf 2 n rfl rfl (rf 3 n rfl rfl (J0 (Yi hI rfl (J0 (rf 0 n rfl rfl (J7 ?_))))));simp only[Yy];refine J0 (YJ (rf 4 n rfl rfl (J0 (Yn n (show 0<5 by decide) λha U m=>J0 ?_))));have F:IsZip ha z TI TO .ellipsis:=U;simp only[List.zipIdx_cons,List.zipIdx_nil,Z5,Zy];refine J0 (J0 (wpAny_onRaise (J0 (D.item k _ _ _ l1 (D.frame _ _ _ d1 λc g o e=>(m.2 c λq=>S.z1 (q ▸ g)).trans e) λx hb tb Z db l=>J7 ?_))));have P:IsPair hb TO a b:=(l.2 TO O1).trans ((m.2 TO (Ne.symm u)).trans hO);refine J0 (Yi P rfl (J0 (wpAny_updateSeq_pair P λg Oc sc=>J0 (Wf (J7 ?_)))));have H:IsPair g TO x b:=Oc;have G:S2 k g:=C.frame _ _ _ d2 λc d o e=>(sc.2 c λq=>S.t2 (q ▸ d)).trans ((l.2 c λq=>S.o2 (q ▸ d)).trans ((m.2 c λq=>S.z2 (q ▸ d)).trans e));refine J0 (J0 (wpAny_onRaise (J0 (C.item k _ _ _ l2 G λy hd X py dd j=>J7 ?_))));have O:IsPair hd TO x b:=(j.2 TO O2).trans H;refine J0 (Yi O rfl (J0 (wpAny_updateSeq_pair O λf Oe i=>J0 (Wf (J7 (J7 ?_))))));have t:IsPair f TO x y:=Oe;refine J0 (Yi t rfl (J0 (wpAny_newTuple (J0 ?_))));have sz:f.objs.size=s.heap.objs.size:=by rw[i.1,j.1,sc.1,l.1,m.1]
 have I:IsZip f z TI TO .ellipsis:=(i.2 z u).trans ((j.2 z V).trans ((sc.2 z u).trans ((l.2 z W).trans F)));have zn:f.objs.size≠z:=YZ (Jr I);unfold Builtin.SmallTypes.ownedTupleHandOut;refine J0 (Yn (J8 _ I) (show 0<5 by decide) λhf T K=>Yn T (show 1<5 by decide) λB R J=>J7 ⟨_,rfl,?_⟩);have up:∀ c o,c≠z->f.get? c=some o->B.get? c=some o:=λc o q e=>(J.2 c q).trans ((K.2 c q).trans (J8 _ e));have new:IsPair B f.objs.size x y:=(J.2 _ zn).trans ((K.2 _ zn).trans (Jq _ rfl));have p:IsZip B z TI TO (rawInt f.objs.size):=R;rw[sz]at new p;show Q (.ref f.objs.size) _;rw[sz];refine h x y B X Z py p (up _ _ (Ne.symm u) t) ?_ ?_ new λc o g e=>?_
 ·exact D.frame _ _ _ db λc d o e=>up c o (λq=>S.z1 (q ▸ d)) ((i.2 c λq=>S.t1 (q ▸ d)).trans ((j.2 c λq=>S.o1 (q ▸ d)).trans ((sc.2 c λq=>S.t1 (q ▸ d)).trans e)))
 ·exact C.frame _ _ _ dd λc d o e=>up c o (λq=>S.z2 (q ▸ d)) ((i.2 c λq=>S.t2 (q ▸ d)).trans e)
 ·simp only[Js,Jz,ZX,not_or]at g
  obtain⟨N,M,c3,c4⟩:=g;exact up c o N ((i.2 c M).trans ((j.2 c c4).trans ((sc.2 c M).trans ((l.2 c c3).trans ((m.2 c N).trans e)))))
end
section
variable {prog:Program}{w:World}{A:Around}{E:Value->Shared->Prop}{s:Shared}{z TI TO i1 i2:Addr}{f1 f2:List Addr}{n1:Nat}{P1:Nat->Value->Prop}{S1:Nat->Heap->Prop}
theorem iV (S:Sep z TI TO i1 i2 f1 f2) (m:Draws prog w A i1 f1 n1 P1 S1) {Q:Fin->Shared->Prop}(a:IsZip s.heap z TI TO .none) (v:IsPair s.heap TI (.ref i1) (.ref i2)) (y:S1 n1 s.heap)
  (h:∀ h' x,(∀ c o,c∉[z,TO,i1,i2]->s.heap.get? c=some o->h'.get? c=some o)->(∃ o,h'.get? x=some o/\o.cls=.type "StopIteration")->E (.ref x) { s with heap:=h' }):wpAny (model prog w) A (Builtin.«zip.__next__» ⟨[.ref z],[]⟩) Q E s:=by
 have j:=S.all;simp only[JP,Js,Jz,ZX,not_or]at j;obtain⟨⟨D,C,p,F⟩,⟨IO,J,I⟩,⟨H,G⟩,B,_⟩:=j;refine rf 2 a rfl rfl (rf 3 a rfl rfl (J0 (Yi v rfl (J0 (rf 0 a rfl rfl (J7 ?_))))));simp only[Yy];refine J0 (YJ (rf 4 a rfl rfl (J0 (Yn a (show 0<5 by decide) λu n i=>J0 ?_))));have f:IsZip u z TI TO .ellipsis:=n;simp only[List.zipIdx_cons,List.zipIdx_nil,Z5,Zy];refine J0 (J0 (wpAny_onRaise (J0 (m.done _ _ _ (m.frame _ _ _ y λc d o e=>(i.2 c λq=>S.z1 (q ▸ d)).trans e) λt x k ⟨r,ex,l⟩=>?_))));have g:IsZip t z TI TO .ellipsis:=k z _ p f;have xz:x≠z:=λq=>by rw[q,g]at ex;cases ex;exact absurd (show Value.type "zip" = Value.type "StopIteration" from l) (by decide)
 refine Yn g (show 0<5 by decide) λd _ sc=>h d x (λc o b e=>?_) ⟨r,(sc.2 x xz).trans ex,l⟩;simp only[Js,Jz,ZX,not_or]at b;exact(sc.2 c b.1).trans (k c o b.2.2.1 ((i.2 c b.1).trans e))
end
theorem eR (b1 b2:Bool)(a1 a2:Addr)(xs ys:Array Value):Meets (Builtin.«zip.__new__» ⟨[.type "zip",.ref a1,.ref a2],[]⟩) (λ_ R s=>SqO b1 s.heap a1 xs/\SqO b2 s.heap a2 ys /\
  ∀ h' z,(∃ TI TO i1 i2,[z,TI,TO,i1,i2].Nodup/\(∀ c∈[z,TI,TO,i1,i2],s.heap.objs.size<=c)/\IsZip h' z TI TO .none/\IsPair h' TI (.ref i1) (.ref i2)/\IsPair h' TO .none .none/\RIt b1 h' i1 a1 0/\RIt b2 h' i2 a2 0) ->
   (∀ c o,s.heap.get? c=some o->h'.get? c=some o)->R (.ok (.ret (.ref z))) { s with heap:=h' }) :=
 .of_wp λprog w A R s h=>by
  obtain⟨a,g,d,b,os⟩:=s;obtain⟨k,j,h⟩:=h;have sub:=sub_zip;have i:SqO b1 (Shared.heap ⟨a,g,d,b,os⟩) a1 xs:=k;have f:SqO b2 (Shared.heap ⟨a.push { cls:=.type (cN b1),data:=.fields #[.ref a1,.int 0 0] },g,d,b,os⟩) a2 ys:=j.mv λo e=>J8 _ e
  wp_walk using vP i,vP f
  refine⟨_,rfl,h _ _ ⟨_,_,_,_,?_,?_,Jq _ rfl,J8 _ (J8 _ (Jq _ rfl)),J8 _ (Jq _ rfl),
   J8 _ (J8 _ (J8 _ (J8 _ (Jq _ rfl)))),J8 _ (J8 _ (J8 _ (Jq _ rfl)))⟩ λc o e=>?_⟩
  ·simp only[Z1,JP,Js,Jz,ZX,not_or]
   simp<;>lia
  ·simp only[Z1,Js,Jz,ZX]
   intro c l;have:a.objs.size<=c:=by lia
   exact this
  ·exact J8 _ (J8 _ (J8 _ (J8 _ (J8 _ e))))
end Own
namespace L2
open PySem PySem.Spec PyProof.Rows Own
section
variable {X:Cx}{pins:List (Addr × Obj)}{σ:St}{H:Hp}{s:Shared}{h':Heap}
theorem Inv.spunN {fp:List Addr}{T:Addr}{o:HO}{t':Nat}(I:Inv X pins σ H s)(k:∀ b o,b∉fp->s.heap.get? b=some o->h'.get? b=some o)(h:∀ b∈fp,FpOk X pins H b)(i:s.heap.objs.size<=T)(new:ObjOk X.prog X.w (upd H T o) h' T o):Inv X pins σ (upd H T o) { s with heap:=h',toks:=t' }:=by
 have f:H T=none:=I.hok.fresh i;have neT:∀ b u,s.heap.get? b=some u->b≠T:=λb u e=>JH (JL (Jr e) i);have g:∀ b u,H b=some u->b∉fp:=λb u e a=>by rw[(h b a).1]at e;cases e
 refine I.step (g':=s.gens) (d':=s.drawn) (ch:=fp) (λb a=>?_) (λb o _ _ d e _=>k b o d e) (λb o _ _ d e _=>⟨o.slots,k b o d e⟩) (λb o _ e n=>by rw[zG (neT b o e)];exact n)
  (λb o d e=>⟨o,k b o d e⟩) (λb j e=>by rw[zG (zF e f)];exact e) (λb o u e=>by rw[zG (zF e f)];exact e) (λb C e=>⟨#[],by rw[zG (zF e f),e];simp⟩) (λm p=>?_) (λb u e=>?_) I.bare
 ·obtain⟨E,y,D,x,w,t⟩:=h b a
  exact⟨x,y,w,t⟩
 ·obtain⟨o,A,B,l,r⟩:=p
  exact⟨o,A,B,k _ o (λa=>(h _ a).2.1 rfl) l,r⟩
 ·by_cases a:b=T
  ·subst a;rw[zD]at e;cases e;exact new
  ·rw[zG a]at e
   refine(I.hok b u e).stay (λc v d q=>k c v ?_ q) (λc q=>by rw[zG (zF q f)];exact q) λc j q=>by rw[zG (zF q f)];exact q
   rcases d with z|z
   ·rw[z];exact g b u e
   ·exact g c _ z
theorem Inv.spun {fp:List Addr}{t':Nat}(I:Inv X pins σ H s)(k:∀ b o,b∉fp->s.heap.get? b=some o->h'.get? b=some o)(g:∀ b∈fp,FpOk X pins H b):Inv X pins σ H { s with heap:=h',toks:=t' }:=by
 have f:∀ b u,H b=some u->b∉fp:=λb u e d=>by rw[(g b d).1]at e;cases e
 refine I.step (g':=s.gens) (d':=s.drawn) (ch:=fp) (λb d=>?_) (λb o _ _ a e _=>k b o a e) (λb o _ _ a e _=>⟨o.slots,k b o a e⟩) (λb o _ e n=>n)
  (λb o a e=>⟨o,k b o a e⟩) (λb h e=>e) (λb o u e=>e) (λb A e=>⟨#[],by rw[e];simp⟩) (λm j=>?_) (λb u e=>?_) I.bare
 ·obtain⟨C,w,B,t,p,l⟩:=g b d
  exact⟨t,w,p,l⟩
 ·obtain⟨o,x,y,i,r⟩:=j
  exact⟨o,x,y,k _ o (λd=>(g _ d).2.1 rfl) i,r⟩
 ·refine(I.hok b u e).stay (λc v a q=>k c v ?_ q) (λc q=>q) λc h q=>q
  rcases a with z|z
  ·rw[z];exact f b u e
  ·exact f c _ z
end
def SqB:Bool->PySem.W.Frag->Hp->Addr->List V->Prop
 | true,K,H,a,xs=>SqL K H a xs
 | false,K,H,a,xs=>SqT K H a xs
section
variable {X:Cx}{pins:List (Addr × Obj)}{σ:St}{H:Hp}{s:Shared}{a c:Addr}{xs ys:List V}{b:Bool}
theorem Inv.sq (I:Inv X pins σ H s)(h:SqB b X.K H a xs):∃ its:List Value,Vals xs its/\SqO b s.heap a its.toArray:=by
 cases b
 ·obtain⟨its,r,p,z⟩:=I.tuple h
  exact⟨its,r,p⟩
 ·obtain⟨its,r,p,z⟩:=I.list h
  exact⟨its,r,p.isList⟩
theorem Inv.sq_inj (I:Inv X pins σ H s)(h:SqB b X.K H a xs)(h':SqB b X.K H a ys):xs=ys:=by
 cases b
 ·exact I.tuple_inj h h'
 ·exact I.list_inj h h'
theorem Inv.sq_ne (I:Inv X pins σ H s)(h:SqB b X.K H a xs)(f:FpOk X pins H c):c≠a:=by
 rintro rfl
 have d:∀ o,X.K.lookup c=some o->False:=λo e=>by
  have g:=I.ok.mod.kin c o e;rcases f.2.2.2.1 with z|z
  ·exact I.ok.noex c o g z
  ·exact absurd (JL (Jr g) (JR I.ok.bsz z)) (YR _)
 cases b <;>
 ·rcases h with (h|⟨o,h⟩)|⟨o,_,_,e,_⟩
  ·rw[f.1]at h;cases h
  ·rw[f.1]at h;cases h
  ·exact d o e
end
def Pr (v u:V)(H:Hp)(x:V)(H':Hp):Prop:=∃ T,H T=none/\x=.ref T/\H'=upd H T (.tup [v,u])
theorem qU {P:Program}{w:World}{H:Hp}{h:Heap}{T:Addr}{v u:V}{a b:Value}(e:IsPair h T a b)(c:RelV v a)(d:RelV u b):ObjOk P w (upd H T (.tup [v,u])) h T (.tup [v,u]) :=
 ⟨show 2<=sizeLine by decide,[a,b],.cons c (.cons d .nil),⟨_,e,rfl,_,rfl,rfl⟩⟩
def Ite (K:PySem.W.Frag)(b:Bool)(a:Addr):It :=
 ⟨λi H=>∃ c x,SqB b K H a c/\c[i]?=some x,λi H x d=>∃ y,(∀ c,SqB b K H a c->c[i]?=some y)/\Pr (.int i) y H x d,λi H=>∃ c,SqB b K H a c/\c.length=i⟩
theorem jC {P:Program}{w:World}{K:PySem.W.Frag}{es:List Expr}{k1}{R:Pos}(b:Bool)(a e it:Addr)(j:e≠it):Turn P w K (.Tuple es k1 R) (Ite K b a) [e,it] e (λi h=>(∃ old,IsEnum h e it i old)/\RIt b h it a i) where
 mem:=JF
 obj:=λi h ⟨⟨old,f⟩,hi⟩ c m=>by
  rcases Js.mp m with q|q
  ·rw[q];exact⟨_,f,λv z=>by cases z⟩
  ·rw[Ja.mp q];exact⟨_,hi,λv z=>by cases z⟩
 keep:=λi h h' ⟨⟨old,f⟩,hi⟩ J=>⟨⟨old,J e (by simp) _ f⟩,J it (by simp) _ hi⟩
 item:=by
  intro X B y C m i pins s σ H E I l ⟨⟨old,f⟩,hi⟩ ⟨N,x,k,n⟩;subst B y C;obtain⟨d,t,p⟩:=I.sq k;obtain⟨u,L,Q⟩:=t.get n;have D:i<d.toArray.size:=by simpa using (Jc.mp L).1
  refine wpAny_pyNext_enum_itemD (draws (prog:=X.prog) (w:=X.w) (A:=X.A.in1) (I.ok.hd m) b it a d.toArray (p.ne hi)) f ⟨hi,p⟩ D j (by simp[j,I.sq_ne k (l e (by simp))]) λv h1 O V Y W hT _ Z=>?_;obtain rfl:u=v:=Jm (L.symm.trans (by simpa using V));refine⟨_,rfl,wpAny_letOwnedTupleGo_enum Y λh2 F r=>?_⟩;have G:s.heap.objs.size≠e:=YZ (Jr f);have S:s.heap.objs.size≠it:=YZ (Jr hi);refine⟨.ref s.heap.objs.size,_,I.spunN (fp:=[e,it]) (λc o g q=>?_) l (Je _) (qU (v:=.int i) (u:=x) ((r.2 _ G).trans hT) ⟨O,rfl⟩ Q),rfl,⟨x,λys U=>by rw[I.sq_inj U k];exact n,_,I.fresh,rfl,rfl⟩,⟨⟨_,F⟩,(r.2 it (Ne.symm j)).trans W.1⟩,λc g=>?_⟩
  ·have M:c≠e:=λz=>g (by simp[z])
   exact(r.2 c M).trans (Z c o M (λz=>g (by simp[z])) q)
  ·rw[zG,(l c g).1]
   rintro rfl;rcases Js.mp g with z|z
   ·exact G z
   ·exact S (Ja.mp z)
 done:=by
  intro X B y C m i pins s σ H E I l ⟨⟨old,f⟩,hi⟩ ⟨N,k,n⟩;subst B y C;obtain⟨d,t,p⟩:=I.sq k;have T:i=d.toArray.size:=by rw[Jn,<- t.length,n]
  refine wpAny_pyNext_enum_endD (draws (prog:=X.prog) (w:=X.w) (A:=X.A.in1) (I.ok.hd m) b it a d.toArray (p.ne hi)) f ⟨by rw[<- T];exact hi,p⟩ λh' eb=>⟨rfl,I.spun (t':=s.toks) (fp:=[e,it]) (λc o g q=>eb c o (λz=>g (by simp[z])) q) l⟩
 self:=λ_ _ _ _ _ ⟨⟨_,f⟩,_⟩ h=>wpAny_pyIter_enum f h
def zaY (K:PySem.W.Frag)(b:Bool)(f:TA):TI:=λσ H R=>f σ H λe c=>∃ a d,e=[.ref a]/\SqB b K c a d/\R (Ite K b a) c
theorem lW {X:Cx}{a:Expr}{g:TA}{p pos o:Pos}{es:List Expr}{k1} (b:Bool) (y:Gl X "enumerate") (hm:X.mg "enumerate" = none) (ha:PA X [a] g) (v:starEach [a] X.env=[(false,eval a X.env)]:=by rfl) :
  PI X (.Tuple es k1 o) (.Call (.Name "enumerate" p) [a] [] pos) (zaY X.K b g):=by
 intro pins s σ H R I h;refine Call_ (wC I y hm (u:=.type "enumerate") (by rfl) (Ys (thn (ha pos pins s σ H _ I h) λG i ⟨F,C,f,l,m⟩=>?_) v rfl));obtain⟨B,E,rfl,w,q⟩:=m;obtain⟨u,rfl,k⟩:=l.one;cases k;obtain⟨D,J,n⟩:=f.sq w;refine iR n λK e it t r ne j hi x=>wpAny_pyIter_enum j ⟨_,[e,it],_,_,C,rfl,f.kept (t':=i.toks) x,jC b B e it ne,⟨⟨_,j⟩,hi⟩,λc A=>?_,q⟩
 have d:i.heap.objs.size<=c:=by
  rcases Js.mp A with z|z
  ·rw[z];exact t
  ·rw[Ja.mp z];exact r
 exact f.fpOk d (f.hok.fresh d)
def Itz (K:PySem.W.Frag)(b1 b2:Bool)(a1 a2:Addr):It :=
 ⟨λi H=>∃ a b x y,SqB b1 K H a1 a/\SqB b2 K H a2 b/\a[i]?=some x/\b[i]?=some y,λi H v c=>∃ x y,(∀ a,SqB b1 K H a1 a->a[i]?=some x)/\(∀ b,SqB b2 K H a2 b->b[i]?=some y)/\Pr x y H v c,
  λi H=>∃ a,SqB b1 K H a1 a/\a.length=i⟩
theorem ii {P:Program}{w:World}{K:PySem.W.Frag}{es:List Expr}{k1}{r:Pos}(b1 b2:Bool)(a1 a2 z TI TO i1 i2:Addr)(nd:[z,TI,TO,i1,i2].Nodup) :
  Turn P w K (.Tuple es k1 r) (Itz K b1 b2 a1 a2) [z,TI,TO,i1,i2] z (λi h=>IsZip h z TI TO .none/\IsPair h TI (.ref i1) (.ref i2)/\(∃ a b,IsPair h TO a b)/\RIt b1 h i1 a1 i/\RIt b2 h i2 a2 i) where
 mem:=JF
 obj:=λi h ⟨f,n,⟨a,b,u⟩,m,p⟩ c G=>by
  simp only[Js,Jz,ZX]at G;rcases G with rfl|rfl|rfl|rfl|rfl
  ·exact⟨_,f,λv q=>by cases q⟩
  ·exact⟨_,n,λv q=>by cases q⟩
  ·exact⟨_,u,λv q=>by cases q⟩
  ·exact⟨_,m,λv q=>by cases q⟩
  ·exact⟨_,p,λv q=>by cases q⟩
 keep:=λi h h' ⟨f,n,⟨a,b,u⟩,m,p⟩ J=>⟨J z (by simp) _ f,J TI (by simp) _ n,⟨a,b,J TO (by simp) _ u⟩,J i1 (by simp) _ m,J i2 (by simp) _ p⟩
 item:=by
  intro X Z W hK G i pins s σ H E I t ⟨f,n,⟨a,b,u⟩,m,p⟩ ⟨xs,ys,x,y,D,V,O,hy⟩;subst Z W hK;obtain⟨N,U,r⟩:=I.sq D;obtain⟨u2,r2,p2⟩:=I.sq V;obtain⟨v1,e1,rx⟩:=U.get O;obtain⟨v2,e2,ry⟩:=r2.get hy;have j:=nd;simp only[JP,Js,Jz,ZX,not_or]at j;obtain⟨⟨R,zO,M,L⟩,⟨IO,I1,I2⟩,⟨O1,O2⟩,k,_⟩:=j;have e:∀ c∈[z,TI,TO,i1,i2],c≠a1:=λc d=>I.sq_ne D (t c d);have B:∀ c∈[z,TI,TO,i1,i2],c≠a2:=λc d=>I.sq_ne V (t c d);have S:Sep z TI TO i1 i2 [i1,a1] [i2,a2]:=⟨nd,by simp[M,e z (by simp)],by simp[O1,e TO (by simp)],by simp[Ne.symm k,e i2 (by simp)],by simp[L,B z (by simp)],by simp[O2,B TO (by simp)],by simp[k,B i1 (by simp)]⟩;have hd:=I.ok.hd G;have D1:=draws (prog:=X.prog) (w:=X.w) (A:=X.A.in1) hd b1 i1 a1 N.toArray (r.ne m);have D2:=draws (prog:=X.prog) (w:=X.w) (A:=X.A.in1) hd b2 i2 a2 u2.toArray (p2.ne p);have g:s.TypeIs (.ref z) "zip":=⟨_,f,rfl⟩;unfold pyNext
  refine J0 (Zs (wpAny_callSpecial?_slot (name:="__next__") g F.slot_zip_next (Y1 F.slot_zip_next g F.entry_zip_next (iW S D1 D2 f n u ⟨m,r⟩ ⟨p,p2⟩ (by simpa using (Jc.mp e1).1) (by simpa using (Jc.mp e2).1)
   λw1 w2 h' tk ao ab zh Oh d1 d2 new Q=>J7 ?_) (F.args_zip_next_1 _))))
  obtain rfl:v1=w1:=Jm (e1.symm.trans (by simpa using ao));obtain rfl:v2=w2:=Jm (e2.symm.trans (by simpa using ab));refine⟨_,rfl,wpAny_letOwnedTupleGo_zip zh λh3 z3 C=>?_⟩;have nz:s.heap.objs.size≠z:=YZ (Jr f)
  have a0:∀ c∈[z,TI,TO,i1,i2],c≠s.heap.objs.size:=λc d=>by
   simp only[Js,ZX,Jz]at d;rcases d with rfl|rfl|rfl|rfl|rfl
   ·exact JH (Jr f)
   ·exact JH (Jr n)
   ·exact JH (Jr u)
   ·exact JH (Jr m)
   ·exact JH (Jr p)
  refine⟨.ref s.heap.objs.size,_,I.spunN (fp:=[z,TI,TO,i1,i2]) (λc o d q=>?_) t (Je _) (qU ((C.2 _ nz).trans new) rx ry),rfl,⟨x,y,λl Y=>by rw[I.sq_inj Y D];exact O,λl Y=>by rw[I.sq_inj Y V];exact hy,_,I.fresh,rfl,rfl⟩,
   ⟨z3,(C.2 _ (Ne.symm R)).trans (Q TI _ (by simp[Ne.symm R,IO,I1,I2]) n),⟨_,_,(C.2 _ (Ne.symm zO)).trans Oh⟩,(C.2 _ (Ne.symm M)).trans d1.1,(C.2 _ (Ne.symm L)).trans d2.1⟩,λc d=>by rw[zG (a0 c d),(t c d).1]⟩
  simp only[Js,Jz,ZX,not_or]at d;exact(C.2 c d.1).trans (Q c o (by simp[d]) q)
 done:=by
  intro X Z W hK G i pins s σ H E I t ⟨f,n,⟨a,b,u⟩,m,p⟩ ⟨xs,D,O⟩;subst Z W hK;obtain⟨N,U,r⟩:=I.sq D;have j:=nd;simp only[JP,Js,Jz,ZX,not_or]at j;obtain⟨⟨R,zO,M,L⟩,⟨IO,I1,I2⟩,⟨O1,O2⟩,k,_⟩:=j;have e:∀ c∈[z,TI,TO,i1,i2],c≠a1:=λc d=>I.sq_ne D (t c d);have S:Sep z TI TO i1 i2 [i1,a1] [i2]:=⟨nd,by simp[M,e z (by simp)],by simp[O1,e TO (by simp)],by simp[Ne.symm k,e i2 (by simp)],by simp[L],by simp[O2],by simp[k]⟩;have aT:i=N.toArray.size:=by rw[Jn,<- U.length,O]
  have g:s.TypeIs (.ref z) "zip":=⟨_,f,rfl⟩;unfold pyNext
  refine J0 (Zs (wpAny_callSpecial?_slot (name:="__next__") g F.slot_zip_next (Y1 F.slot_zip_next g F.entry_zip_next
   (iV S (draws (prog:=X.prog) (w:=X.w) (A:=X.A.in1) (I.ok.hd G) b1 i1 a1 N.toArray (r.ne m)) f n ⟨by rw[<- aT];exact m,r⟩ λh' x Q ⟨o,eo,co⟩=>?_) (F.args_zip_next_1 _))))
  refine J0 (YA (T:="StopIteration") (b:=true) ⟨o,eo,co⟩ isSubtype_stop (J7 ⟨rfl,I.spun (t':=s.toks) (fp:=[z,TI,TO,i1,i2]) (λc o d q=>Q c o ?_ q) t⟩));simp only[Js,Jz,ZX,not_or]at d ⊢;exact⟨d.1,d.2.2.1,d.2.2.2.1,d.2.2.2.2⟩
 self:=λ_ _ _ _ _ st h=>wpAny_pyIter_zip st.1 h
def zbD (K:PySem.W.Frag)(b1 b2:Bool)(g:TA):TI:=λσ H R=>g σ H λf c=>∃ b a e d,f=[.ref b,.ref a]/\SqB b1 K c b e/\SqB b2 K c a d/\R (Itz K b1 b2 b a) c
theorem gj {X:Cx}{a b:Expr}{o:TA}{p pos G:Pos}{es:List Expr}{k1} (b1 b2:Bool) (M:Gl X "zip") (hm:X.mg "zip" = none) (ha:PA X [a,b] o) (K:starEach [a,b] X.env=[(false,eval a X.env),(false,eval b X.env)]:=by rfl) (e:starEach [b] X.env=[(false,eval b X.env)]:=by rfl) :
  PI X (.Tuple es k1 G) (.Call (.Name "zip" p) [a,b] [] pos) (zbD X.K b1 b2 o):=by
 intro pins s σ H R I h;refine Call_ (wC I M hm (u:=.type "zip") (by rfl) (Ys (thn (ha pos pins s σ H _ I h) λW A ⟨V,S,d,D,E⟩=>?_) (by rw[K,e]) (by rw[e];rfl)));obtain⟨y,x,U,T,rfl,n,m,q⟩:=E;obtain⟨u,v,rfl,C,B⟩:=D.two;cases C;cases B;obtain⟨l,_,j⟩:=d.sq n;obtain⟨k,_,i⟩:=d.sq m;refine callType_new F.called_zip (by decide) (F.typeCall_zip_2 _ _) (F.newCall_zip_2 _ _) (λobj=>F.args_object_init_3 obj _ _) F.entry_zip_new (eR b1 b2 y x l.toArray k.toArray) ⟨j,i,λY z ⟨TI,TO,t,r,J,f,g,O,N,Q,P⟩ L=>⟨⟨_,g,rfl⟩,?_⟩⟩;exact wpAny_pyIter_zip g ⟨_,[z,TI,TO,t,r],_,_,S,rfl,d.kept (t':=A.toks) L,ii b1 b2 y x z TI TO t r J,⟨g,O,⟨_,_,N⟩,Q,P⟩,λc w=>d.fpOk (f c w) (d.hok.fresh (f c w)),q⟩
section
variable {X:Cx}
theorem zap {prog:Program}{w:World}{A:Around}(d:A.handled=none)(b:Bool)(I a:Addr)(c:a≠I)(xs:Array Value) :
  Walks prog w A I [I,a] [I] xs.size (λi v=>xs[i]?=some v) (λi h=>(match b with|true=>h.IsListIter I a i|false=>h.IsTupleIter I a i)/\SqO b h a xs):=by
 cases b
 ·exact Walks.tuple d I a c xs
 ·exact Walks.list d I a c xs
def zbt (K:PySem.W.Frag):R2:=λx y H Q=>∃ a b d c,x=.ref a/\y=.ref b/\SqT K H a d/\SqT K H b c/\d.all wg=true/\c.all wg=true/\Q (.bl (!((List.range (min d.length c.length)).all (λj=>eqV (d.getD j .non) (c.getD j .non)) && d.length == c.length))) H
theorem aU (D:X.A.units<cLine):OpR X (compareOp .NotEq) (zbt X.K):=by
 intro pins s σ H x y v u Q I w t h;obtain⟨a,b,k,i,rfl,rfl,F,E,N,M,q⟩:=h;cases w;cases t;obtain⟨g,m,C,_⟩:=I.tuple F;obtain⟨f,l,B,_⟩:=I.tuple E;have o:=m.length;have n:=l.length;refine SeqAt.RcNeAt.tuples (e:=λj=>eqV (k.getD j .non) (i.getD j .non)) C B D (λj J G=>?_) X.prog X.w _ _ ?_
 ·have d:j<k.length:=by simpa [o] using J
  have c:j<i.length:=by simpa [n] using G
  obtain⟨r,O,A⟩:=m.get (J9 d);obtain⟨p,e2,z⟩:=l.get (J9 c)
  have L:g.toArray[j]=r:=by
   have:=(Jc.mp O).2;simpa using this
  have K:f.toArray[j]=p:=by
   have:=(Jc.mp e2).2;simpa using this
  rw[L,K,Ju,Ju,J9 d,J9 c];exact mz A z (W8.mp N _ (YM d)) (W8.mp M _ (YM c))
 ·rw[Jn,Jn,<- o,<- n]
  exact⟨.bl _,H,I,rfl,q⟩
end
example (K:PySem.W.Frag):PySem.W.kitOne K (.type "int") (.type "tuple")=some false:=by rfl
example (K:PySem.W.Frag):PySem.W.kitOne K (.type "int") (.type "bool")=some false:=by first|rfl|decide|(with_unfolding_all rfl)
theorem zB {H:Hp}{p:Addr}(h:H p=none)(o:HO):Same H (upd H p o):=λb u q=>by rw[zG (zF q h)];exact q
def za1 (N N':List Str)(sc scope:Scope)(cap:List (Option Nat)):Bool :=
 decide (scope.kind=.function) && (scope.names.all λy=>decide (y.2≠.cell) && (decide (y.2≠.local) || decide (scope.names.lookup y.1=some .local)) &&
  (decide (y.2≠.free) || (decide (sc.names.lookup y.1=some .cell) || decide (sc.names.lookup y.1=some .free)))) && decide (cap.length=N'.length) &&
 ((N'.zip cap).all λp=>match p.2 with
  | none=>true
  | some i=>decide (N[i]?=some p.1) && (decide (scope.names.lookup p.1=some .free) && (decide (sc.names.lookup p.1=some .cell) || decide (sc.names.lookup p.1=some .free))))
theorem CapOk.of {N N':List Str}{sc scope:Scope}{cap:List (Option Nat)}(h:za1 N N' sc scope cap=true):CapOk N N' sc scope cap:=by
 unfold za1 at h;simp only[Zn,W8,Wk,Y4]at h;obtain⟨⟨⟨g,b⟩,f⟩,d⟩:=h;refine⟨g,λy a=>(b y a).1.1,λy a e=>?_,λy a e=>?_,f,λp c i e=>?_⟩
 ·rcases (b y a).1.2 with z|z
  ·exact absurd e z
  ·exact z
 ·rcases (b y a).2 with z|z
  ·exact absurd e z
  ·exact z
 ·have q:=d p c
  rw[e]at q;simp only[Zn,Wk,Y4]at q;exact q
def Nx (n i:Nat)(p:Prop):Prop:=∃ a,a<n-i/\a=n-(i+1)/\i+1<=n/\p
theorem nx {n i:Nat}{p:Prop}(h:i<n)(q:p):Nx n i p:=⟨n-(i+1),by lia,rfl,h,q⟩
theorem fW {lo:Int}{n:Nat}{g:TG}{d:TE}{l:Addr}{σ:St}{H:Hp}{Q:VK}(a:Nat->List V->St->Hp->Prop)(k:a 0 [] σ H)(j:∀ i acc σ H,a i acc σ H->H l=some (.lst acc))(h:∀ i acc σ H,i<n->a i acc σ H->g (.int (lo+i)) σ H λb o=>d b o λy f=>f l=some (.lst acc)/\acc.length<sizeLine/\Nx n i (a (i+1) (acc++[y]) b (upd f l (.lst (acc++[y])))))(hd:∀ acc σ H,a n acc σ H->Q (.ref l) H):∃ W:Nat->Nat->List V->St->Hp->Prop,(∃ m,W 0 m [] σ H)/\LCW (Itr lo n) g dJ d l Q W:=by
 refine⟨λi m acc σ H=>m=n-i/\i<=n/\a i acc σ H,⟨n,by simp,JJ _,k⟩,?_⟩;rintro i m acc σ H ⟨rfl,hi,p⟩;refine⟨j i acc σ H p,?_⟩;by_cases c:i<n
 ·refine .inr ⟨c,λx q ⟨e,y⟩=>?_⟩
  subst e y;exact h i acc σ _ c p
 ·have e:i=n:=by lia
  subst e;exact .inl ⟨Je _,hd acc σ H p⟩
theorem nB {K:PySem.W.Frag}{b:Bool}{a:Addr}{xs:List V}{g:TG}{l:TS}{D:Ends}{σ:St}{H:Hp}(c:Nat->St->Hp->Prop)(v:c 0 σ H)(s:∀ i σ H,i<=xs.length->c i σ H->SqB b K H a xs)(r:∀ i x σ H T,xs[i]?=some x->H T=none->c i σ H->g (.ref T) σ (upd H T (.tup [.int i,x])) λf k=>l { D with nx:=c (i+1),ct:=c (i+1),bk:=D.nx } f k)(t:∀ σ H,c xs.length σ H->D.nx σ H) :
  ∃ W:Nat->Nat->St->Hp->Prop,(∃ m,W 0 m σ H)/\∀ i m σ H,W i m σ H ->
   ((Ite K b a).stop i H/\D.nx σ H)\/((Ite K b a).go i H/\∃ N:St->Hp->Prop,(∀ h d,N h d->∃ n,n<m/\W (i+1) n h d)/\∀ x d,(Ite K b a).yld i H x d->g x σ d λf k=>l { D with nx:=N,ct:=N,bk:=D.nx } f k):=by
 refine⟨λi m σ H=>m=xs.length-i/\i<=xs.length/\c i σ H,⟨xs.length,by simp,JJ _,v⟩,?_⟩;rintro i m σ H ⟨rfl,hi,p⟩;have q:=s i σ H hi p;by_cases j:i<xs.length
 ·refine .inr ⟨⟨xs,xs[i],q,J9 j⟩,c (i+1),λh d o=>⟨xs.length-(i+1),by lia,rfl,j,o⟩,λx d ⟨y,w,T,u,z,e2⟩=>?_⟩
  subst z e2;exact r i y σ H T (w xs q) u p
 ·have e:i=xs.length:=by lia
  subst e;exact .inl ⟨⟨xs,q,rfl⟩,t σ H p⟩
section
theorem tY {ns:List Int}{i:Nat}(h:i<ns.length):ns.getD i 0∈ns:=by
 rw[Ju,J9 h];exact YM h
end
end L2
namespace L2
open PySem PySem.Spec PyProof.Rows Own
theorem ay {K:PySem.W.Frag}{a:Addr}{xs:List V}{g:TG}{h:TE}{l:Addr}{σ:St}{H:Hp}{Q:VK}(b:Nat->List V->St->Hp->Prop)(q:b 0 [] σ H)(o:∀ i acc σ H,b i acc σ H->H l=some (.lst acc)/\SqT K H a xs)(n:∀ i x acc σ H,xs[i]?=some x->b i acc σ H->g x σ H λc r=>h c r λy j=>j l=some (.lst acc)/\acc.length<sizeLine/\Nx xs.length i (b (i+1) (acc++[y]) c (upd j l (.lst (acc++[y])))))(hd:∀ acc σ H,b xs.length acc σ H->Q (.ref l) H):∃ W:Nat->Nat->List V->St->Hp->Prop,(∃ m,W 0 m [] σ H)/\LCW (Itt K a) g dJ h l Q W:=by
 refine⟨λi m acc σ H=>m=xs.length-i/\i<=xs.length/\b i acc σ H,⟨_,rfl,JJ _,q⟩,?_⟩;rintro i m acc σ H ⟨rfl,hi,p⟩;obtain⟨k,d⟩:=o i acc σ H p;refine⟨k,?_⟩;by_cases f:i<xs.length
 ·refine .inr ⟨⟨xs,xs[i],d,J9 f⟩,λx s ⟨e,y⟩=>?_⟩
  subst e;exact n i x acc σ _ (y xs d) p
 ·obtain rfl:i=xs.length:=by lia
  exact .inl ⟨⟨xs,d,Je _⟩,hd acc σ H p⟩
theorem j3 {lo:Int}{n:Nat}{g:TG}{tt:TT}{f:TE}{l:Addr}{σ:St}{H:Hp}{Q:VK}(c:Nat->List V->St->Hp->Prop)(q:c 0 [] σ H)(o:∀ i acc σ H,c i acc σ H->H l=some (.lst acc))(k:∀ i acc σ H,i<n->c i acc σ H->g (.int (lo+i)) σ H λa r=>tt a r λb j=>if b=true then f a j λy h=>h l=some (.lst acc)/\acc.length<sizeLine/\Nx n i (c (i+1) (acc++[y]) a (upd h l (.lst (acc++[y])))) else Nx n i (c (i+1) acc a j))(hd:∀ acc σ H,c n acc σ H->Q (.ref l) H):∃ W:Nat->Nat->List V->St->Hp->Prop,(∃ m,W 0 m [] σ H)/\LCW (Itr lo n) g tt f l Q W:=by
 refine⟨λi m acc σ H=>m=n-i/\i<=n/\c i acc σ H,⟨_,rfl,JJ _,q⟩,?_⟩;rintro i m acc σ H ⟨rfl,hi,p⟩;refine⟨o i acc σ H p,?_⟩;by_cases d:i<n
 ·refine .inr ⟨d,λx s ⟨e,y⟩=>?_⟩
  subst e y;exact k i acc σ _ d p
 ·obtain rfl:i=n:=by lia
  exact .inl ⟨Je _,hd acc σ H p⟩
end L2
namespace L2
open PySem PySem.Spec PyProof.Rows Own
section
variable {prog:Program}{w:World}{A:Around}{E:Value->Shared->Prop}{s:Shared}
theorem nM {Q:List Value->Shared->Prop}{r:Addr}{a b c:Int}{t u v:Tok}{n:Nat}(p:A.handled=none)(l:IsRange s.heap r a b c t u v)(k:Builtin.Range.small a b c=true)(hn:Builtin.Range.rangeSize a b c=n)(hlen:n<=2 ^ 24)(q:∀ (h':Heap) (tk:Nat) (acc:Array Value),(∀ b o,s.heap.get? b=some o->h'.get? b=some o)->ItemsOf (λi v=>∃ t,v=.int (a+i*c) t) acc n->Q acc.toList { s with heap:=h',toks:=tk }):wpAny (model prog w) A (collect (.ref r)) Q E s:=by
 have key:∀ R:Result->Shared->Prop,(∀ (h':Heap) (tk:Nat) (acc:Array Value) (f:Nat),(∀ b o,s.heap.get? b=some o->h'.get? b=some o)->h'.get? s.heap.objs.size=some { cls:=.type "list",data:=.seq acc f }->ItemsOf (λi v=>∃ t,v=.int (a+i*c) t) acc n->R (.ok (.ret (.ref s.heap.objs.size))) { s with heap:=h',toks:=tk }) ->
   codeAny (model prog w) A (.builtin "proto.collect" ⟨[.ref r],[]⟩) R s:=by
  intro R x;have j:=λz=>Yv (A:=A) F.plain_proto_collect z;have h:=λz=>Yv (A:=A) F.plain_list_iadd z;refine YG F.entry_proto_collect ?_;rw[j];refine J0 (m:=newList []) (JK (J7 ⟨Zh F.plain_list_iadd _,YG F.entry_list_iadd ?_⟩));rw[h];have y:(s.heap.push { cls:=.type "list",data:=.seq ([]:List Value).toArray }).get? s.heap.objs.size=some { cls:=.type "list",data:=.seq #[] 0 }:=Jq _ rfl;exact wpAny_extend_range (s:={ s with heap:=s.heap.push { cls:=.type "list",data:=.seq ([]:List Value).toArray } }) p (J8 _ l) k hn hlen s.heap.objs.size (.ref s.heap.objs.size) _ y λh' tk d f g e it=>x h' tk d f (λb o z=>g b o (JH (Jr z)) (J8 _ z)) e it
 unfold collect;exact J0 (wpAny_runValue (key _ λh' tk acc f g e it=>J0 (m:=load s.heap.objs.size) (wpAny_load e (J7 (q h' tk acc g it)))))
theorem sP (r:Addr)(a b c:Int)(t u v:Tok)(n:Nat)(e:Builtin.Range.small a b c=true)(hn:Builtin.Range.rangeSize a b c=n)(hlen:n<=2 ^ 24) :
  Meets (Builtin.«tuple.__new__» ⟨[.type "tuple",.ref r],[]⟩) (λA R s=>A.handled=none/\IsRange s.heap r a b c t u v/\∀ (h':Heap) (tk:Nat) (acc:Array Value),(∀ b o,s.heap.get? b=some o->h'.get? b=some o)->ItemsOf (λi v=>∃ t,v=.int (a+i*c) t) acc n ->
   R (.ok (.ret (.ref h'.objs.size))) { s with heap:=h'.push { cls:=.type "tuple",data:=.seq acc },toks:=tk }) :=
 .of_wp λprog w A R s h=>by
  obtain⟨g,d,h⟩:=h;have q:=sub_tuple_self;have p:=init_tuple_lookup;have l:=madeHere_tuple;have k:s.TypeIs (.ref r) "range":=⟨_,d,rfl⟩;have j:A.in1.handled=none:=g
  wp_walk using YF k,nM j d e hn hlen
  intro h' tk acc f it;rw[show acc.toList.toArray=acc by simp];exact J0 (m:=Builtin.Tuple.tupleExact acc) (JK (J7 ⟨_,rfl,h h' tk acc f it⟩) (by show acc.size<=sizeLine;rw[it.1,JG];exact hlen))
theorem qj {Q:Value->Shared->Prop}{r:Addr}{a b c:Int}{t u v:Tok}{n:Nat}(g:A.handled=none) (f:IsRange s.heap r a b c t u v) (d:Builtin.Range.small a b c=true) (hn:Builtin.Range.rangeSize a b c=n) (hlen:n<=2 ^ 24)
  (q:∀ (h':Heap) (tk:Nat) (acc:Array Value),(∀ b o,s.heap.get? b=some o->h'.get? b=some o)->ItemsOf (λi v=>∃ t,v=.int (a+i*c) t) acc n->Q (.ref h'.objs.size) { s with heap:=h'.push { cls:=.type "tuple",data:=.seq acc },toks:=tk }) :
  wpAny (model prog w) A (call (.type "tuple") [.ref r]) Q E s :=
 callType_new F.called_tuple (by decide) (F.typeCall_tuple_1 _) (F.newCall_tuple_1 _) (λobj=>F.args_object_init_2 obj _) F.entry_tuple_new (sP r a b c t u v n d hn hlen) ⟨g,f,λh' tk acc e it=>⟨⟨_,Jq _ rfl,rfl⟩,q h' tk acc e it⟩⟩
end
def pD (n:Nat):List V:=(List.range n).map λ(i:Nat)=>V.int i
theorem wb {acc:Array Value}{n:Nat}(h:ItemsOf (λi v=>∃ t,v=Value.int (0+i*1) t) acc n):Vals (pD n) acc.toList:=by
 obtain⟨d,c⟩:=h
 have go:∀ (l:List Value) (k:Nat),(∀ (j:Nat) (v:Value),l[j]?=some v->∃ t,v=Value.int ((k+j:Nat):Int) t)->Vals ((List.range l.length).map λ(i:Nat)=>V.int ((k+i:Nat):Int)) l:=by
  intro l
  induction l with
  | nil=>intro k _;exact .nil
  | cons x l ih =>
   intro k b;rw[JM,List.range_succ_eq_map,JT,Zb];refine .cons (by obtain⟨t,e⟩:=b 0 x rfl;exact⟨t,e⟩) ?_
   have:=ih (k+1) λj v a=>by
    obtain⟨t,e⟩:=b (j+1) v (by simpa using a);exact⟨t,by rw[e];congr 1;lia⟩
   refine cast (JW (λz=>Vals z l) (Wp λi _=>?_)) this;show V.int ((k+1+i:Nat):Int)=V.int ((k+(i+1):Nat):Int)
   congr 2;lia
 have:=go acc.toList 0 λj v a=>by
  obtain⟨t,e⟩:=c j v (by simpa using a);exact⟨t,by rw[e];congr 1;simp_all⟩
 rw[Jx,d]at this;unfold pD;refine cast (JW (λz=>Vals z acc.toList) (Wp λi _=>?_)) this;show V.int ((0+i:Nat):Int)=V.int (i:Int);rw[YB]
theorem pC (n:Nat):(pD n).length=n:=by simp[pD]
section
variable {X:Cx}
def iu (b:Bool)(d:TA):TE:=λσ H Q=>d σ H λc a=>∃ j:Nat,c=[.int j]/\j<=100000/\∀ l,a l=none->Q (.ref l) (upd a l (if b=true then .lst (pD j) else .tup (pD j)))
theorem pJ {j:Nat}(h:j<=100000):Builtin.Range.small 0 (j:Int) 1=true:=small_one (by simp_all) (by simp_all) (by simp_all) (by lia)
theorem lM {j:Nat}:Builtin.Range.rangeSize 0 (j:Int) 1=((j:Nat):Int):=by rw[rangeSize_one];split<;>simp_all
theorem jW {a:Expr}{x:TA}{p i pos c:Pos}(F:X.calm=true) (w:Gl X "list") (r:X.mg "list" = none) (v:Gl X "range") (m:X.mg "range" = none) (ha:PA X [a] x) (E:starEach [a] X.env=[(false,eval a X.env)]:=by rfl)
  (d:starEach [.Call (.Name "range" i) [a] [] c] X.env=[(false,eval (.Call (.Name "range" i) [a] [] c) X.env)]:=by rfl):PE X (.Call (.Name "list" p) [.Call (.Name "range" i) [a] [] c] [] pos) (iu true x):=by
 intro pins s σ H Q I h;refine Zp (wC I w r (u:=.type "list") (by rfl) (Ys ?_ d rfl));rw[d];refine ZQ (Call_ (wC I v m boot_range (Ys (thn (ha c pins s σ H _ I h) λL g ⟨K,M,l,A,B⟩=>?_) E rfl)));obtain⟨j,rfl,k,q⟩:=B;obtain⟨u,rfl,t,rfl⟩:=A.one;refine call_range_1 (WC ?_);refine call_list_range (n:=j) (l.ok.hd F) (IsRange.new ..) (pJ k) lM (JR k (by decide)) λG y f J C e it=>?_;have D:∀ b o,g.heap.get? b=some o->G.get? b=some o:=λb o z=>C b o (J8 _ z);refine⟨.ref _,_,l.laid (t':=y) (o:=.lst (pD j)) D ?_ ⟨by rw[pC];exact JR k (by decide),f.toList,J,wb it,by simpa using e⟩,rfl,q _ (l.hok.fresh ?_)⟩
 all_goals (show g.heap.objs.size<=(g.heap.push _).objs.size;rw[Z1];exact Nat.le_succ _)
theorem jV {a:Expr}{w:TA}{p f pos c:Pos}(G:X.calm=true) (r:Gl X "tuple") (l:X.mg "tuple" = none) (m:Gl X "range") (k:X.mg "range" = none) (ha:PA X [a] w) (F:starEach [a] X.env=[(false,eval a X.env)]:=by rfl)
  (d:starEach [.Call (.Name "range" f) [a] [] c] X.env=[(false,eval (.Call (.Name "range" f) [a] [] c) X.env)]:=by rfl):PE X (.Call (.Name "tuple" p) [.Call (.Name "range" f) [a] [] c] [] pos) (iu false w):=by
 intro pins s σ H Q I h;refine Zp (wC I r l (u:=.type "tuple") (by rfl) (Ys ?_ d rfl));rw[d];refine ZQ (Call_ (wC I m k boot_range (Ys (thn (ha c pins s σ H _ I h) λL x ⟨K,J,A,B,C⟩=>?_) F rfl)));obtain⟨j,rfl,g,q⟩:=C;obtain⟨u,rfl,t,rfl⟩:=B.one;refine call_range_1 (WC ?_);refine qj (n:=j) (A.ok.hd G) (IsRange.new ..) (pJ g) lM (JR g (by decide)) λi v acc D it=>?_;have E:∀ b o,x.heap.get? b=some o->i.get? b=some o:=λb o z=>D b o (J8 _ z);have y:Inv X pins σ J { x with heap:=i,toks:=v }:=A.kept E;refine⟨.ref i.objs.size,_,y.laid (t':=v) (o:=.tup (pD j)) (λb o e=>J8 _ e) (Je _) ⟨by rw[pC];exact JR g (by decide),acc.toList,wb it,?_⟩,rfl,q _ (y.hok.fresh (Je _))⟩;exact⟨_,Jq _ rfl,rfl,0,by simp,rfl⟩
theorem gq (g:X.A.units<cLine):OpR X (compareOp .NotEq) (λx y H Q=>∃ a b xs,x=.ref a/\y=.ref b/\SqL X.K H a xs/\SqL X.K H b []/\Q (.bl (!xs.isEmpty)) H):=by
 intro pins s σ H x y v u Q I k i h;obtain⟨a,b,xs,rfl,rfl,o,n,q⟩:=h;cases k;cases i;obtain⟨r,c,f,_⟩:=I.list o;obtain⟨p,l,d,_⟩:=I.list n;cases l;have m:=c.length
 cases xs with
 | nil =>
  cases c
  exact SeqAt.RcNeAt.lists (e:=λ_=>true) f.isList d.isList rfl g (λj h=>absurd h (Nat.not_lt_zero _)) X.prog X.w _ _ ⟨.bl _,H,I,rfl,q⟩
 | cons z t =>
  exact SeqAt.RcNeAt.lists_lengths f.isList d.isList (by rw[Jn,<- m];simp) g X.prog X.w _ _ ⟨.bl _,H,I,rfl,q⟩
theorem mW (l:Addr) (o:Obj) (items:Array Value) (n:Nat) (x:Value) (j:Nat) (E:o.cls=.type "tuple") (hd:o.data=.seq items n) (e:Nat->Bool) (y:∀ i,i<j->e i=false) (v:e j=true) (D:j<items.size) :
  Meets (Builtin.«tuple.index» ⟨[.ref l,x],[]⟩) (λA R s=>s.heap.get? l=some o/\(∀ i (h:i<items.size),SeqAt.EqAt A.in1 s items[i] x (e i))/\R (.ok (.ret (.int j s.toks))) { s with toks:=s.toks+1 }) :=
 .of_wp λprog w A R s h=>by
  cases s with
  | mk m z C g os =>
  obtain⟨p,t,h⟩:=h;unfold Builtin.«tuple.index»;simp only[Zz]
  wp_walk using Yi p hd,wpAny_forIn_list _ (λrest b c=>c=⟨m,z,C,g,os⟩/\b.1=none/\∃ i,i<=j/\rest=List.range' i (items.size-i)) _
  case turn =>
   rintro i rest b c ⟨rfl,u,d,hi,a⟩;have k:items.size-d=(items.size-(d+1))+1:=by grind
   rw[k,List.range'_succ]at a;injection a with B e2;subst B;have f:i<items.size:=by lia
   have r:items[i]?=some items[i]:=by simp[f]
   simp only[r];refine J0 (t i f prog w _ _ ?_);by_cases q:i=j
   ·subst q;rw[v];wp_walk;exact⟨_,rfl,h⟩
   ·rw[y i (by lia)];wp_walk;exact⟨rfl,rfl,i+1,by lia,e2⟩
  case fin =>
   rintro b c ⟨rfl,u,d,hi,a⟩;have:=JW List.length a;simp at this;omega
  case h=>exact⟨rfl,rfl,0,JJ _,by simp[Std.Legacy.Range.size]⟩
theorem tV:∀ {ns:List Int}{k:Int}{i:Nat},i<ns.idxOf k->(ns.getD i 0 == k)=false
 | [],k,i,h=>by simp at h
 | n::ns,k,i,h=>by
  rw[List.idxOf_cons]at h
  cases e:n == k with
  | true=>rw[e]at h;simp at h
  | false =>
   rw[e]at h;simp only[cond_false]at h
   cases i with
   | zero=>exact e
   | succ i=>exact tV (ns:=ns) (i:=i) (by simp_all)
def zar (to:TE)(t:TA):TE:=λσ H Q=>to σ H λx c=>∃ a ns,x=.ref a/\c a=some (.tup (List.map V.int ns))/\t σ c λd b=>∃ k:Int,d=[.int k]/\b a=some (.tup (List.map V.int ns))/\k∈ns/\Q (.int (ns.idxOf k:Nat)) b
theorem lX {o e:Expr}{to:TE}{t:TA}{apos cpos:Pos}(hu:X.A.units+64<cLine) (S:PE X o to) (ha:PA X [e] t)
  (d:attributeBase o "index" X.env (eval o X.env)=eval o X.env:=by rfl)
  (j:((backTo cpos (starEach [e] X.env)).all (λx=>!x.1) && (backToKw cpos (keywordEach [] X.env)).all (λx=>x.1.isSome) && decide ([e].length+([]:List Keyword).length+(if ([]:List Keyword).isEmpty then 0 else 1)<30))=true:=by rfl)
  (c:(apos.endLine == cpos.line)=true:=by rfl) (R:starEach [e] X.env=(false,eval e X.env)::starEach [] X.env:=by rfl):PE X (.Call (.Attribute o "index" apos) [e] [] cpos) (zar to t):=by
 intro pins s σ H Q I h;refine wpAny_Call_method_late d j c rfl (thn (S pins s σ H _ I h) λv n ⟨x,D,B,K,a,ns,ex,P,L⟩=>?_);subst ex;cases K;obtain⟨_,ao,_,⟨ob,y,Z,n1,d1,M⟩⟩:=(show ObjOk X.prog X.w D n.heap a (.tup (List.map V.int ns)) from B.hok a _ P);refine⟨"tuple","tuple.index",PySem.F.plainAttrs_tuple,PySem.F.slot_tuple_index,PySem.F.type_tuple_index,⟨ob,y,Z⟩,λa' W=>by cases W;exact⟨ob,y,M⟩,?_⟩;have w:=ha cpos pins n σ D _ B L;rw[R]at w ⊢;refine ZV rfl (Calls.evalArgs_plain ?_);refine thn w λus G ⟨vs,C,A,J,k,ev,l,O,q⟩=>?_;subst ev;obtain⟨u,rfl,E,rfl⟩:=J.one;obtain⟨_,b,p,⟨f,g,z,N,Y,ab⟩⟩:=(show ObjOk X.prog X.w C G.heap a (.tup (List.map V.int ns)) from A.hok a _ l);have hlen:b.toArray.size=ns.length:=by rw[Jn,<- p.length,Jg]
 have r:=List.idxOf_lt_length_of_mem O
 refine call_meets PySem.F.slot_tuple_index ⟨f,g,z⟩ PySem.F.entry_tuple_index (PySem.F.args_tuple_index_2 _ _)
  (mW a f b.toArray N (.int k E) (ns.idxOf k) z Y (λi=>ns.getD i 0 == k) (λi hi=>?_) ?_ (by rw[hlen];exact r)) ⟨g,λi hi=>?_,?_⟩
 ·exact tV hi
 ·rw[Ju,J9 r]
  simp
 ·have m:i<ns.length:=by rw[<- hlen];exact hi
  obtain⟨w1,U,F,rfl⟩:=p.get (show (List.map V.int ns)[i]?=some (V.int (ns.getD i 0)) by rw[Y6,Ju,J9 m];rfl);have T:b.toArray[i]=.int (ns.getD i 0) F:=by simpa using (Jc.mp U).2
  rw[T];exact(MeetsSeq.EqGives.int _ _ _ _).at _ _
 ·exact⟨.int _,C,A.tok _,⟨_,rfl⟩,q⟩
theorem oQ:fillsNumberSlot (.type "tuple") "mul" = pure false :=
 PySem.fillsNumberSlot_seq (id:="tuple.__mul__") (r:=some (.builtin "tuple.__rmul__")) F.slot_tuple_mul.lookup (by decide +kernel) F.slot_tuple_rmul.lookup (by decide +kernel)
theorem mL:seqRepeat? (.type "tuple")=pure (some (.builtin "tuple.__mul__")):=by
 unfold seqRepeat?;rw[PySem.seqSlot_of (T:="tuple") (name:="__mul__") (id:="tuple.__mul__") F.slot_tuple_mul.lookup (by decide +kernel),PySem.seqSlot_of (T:="tuple") (name:="__rmul__") (id:="tuple.__rmul__") F.slot_tuple_rmul.lookup (by decide +kernel)];rfl
theorem eE (a:Int)(t:Tok)(l:Addr)(c:Option Addr)(sl:Array (Option Value))(items:Array Value)(n:Nat) :
  Meets (Builtin.«int.__rmul__» ⟨[.int a t,.ref l],[]⟩) (λ_ R s=>s.heap.get? l=some { cls:=.type "tuple",dict:=c,data:=.seq items n,slots:=sl }/\R (.ok (.ret Value.notImplemented)) s) :=
 .of_wp λprog w A R s h=>by
  cases s;obtain⟨b,h⟩:=h
  wp_walk using WE b
  exact⟨_,rfl,h⟩
theorem mV (l:Addr) (o:Obj) (x:Value) (n k:Nat) (t:Tok) (r:o.cls=.type "tuple") (hd:o.data=.seq #[x] n) (D:k<=100000) :
  Meets (Builtin.«tuple.__mul__» ⟨[.ref l,.int k t],[]⟩) (λ_ R s=>s.heap.get? l=some o /\
   (k=1->R (.ok (.ret (.ref l))) s)/\(k≠1->R (.ok (.ret (.ref s.heap.objs.size))) { s with heap:=s.heap.push { cls:=.type "tuple",data:=.seq (List.replicate k x).toArray } })) :=
 .of_wp λprog w A R s h=>by
  cases s with
  | mk q u y j os =>
  obtain⟨b,v,f⟩:=h;have ty:Shared.TypeIs ⟨q,u,y,j,os⟩ (.ref l) "tuple":=⟨o,b,r⟩
  wp_walk using Yi b hd,YF ty
  have C:¬(decide ((k:Int) < -2 ^ 63) || decide ((k:Int)>=2 ^ 63))=true:=by
   rw[Jt (by simp_all),Jt (by lia)];exact Jp
  rw[Jd C]
  wp_walk using Yi b hd,YF ty
  by_cases a:k=1
  ·have d:((#[x]:Array Value).isEmpty || (k:Int) == 1)=true:=by subst a;rfl
   rw[Jf d]
   wp_walk using YF ty
   exact⟨_,rfl,v a⟩
  ·have d:¬((#[x]:Array Value).isEmpty || (k:Int) == 1)=true:=by
    have:((k:Int) == 1)=false:=by rw[Zi];lia
    rw[this];exact Jp
   rw[Jd d]
   have fl:∀ (m:Nat) (acc:Array Value),(List.foldl (λi g=>i++g) acc (List.replicate m #[x]))=acc++(List.replicate m x).toArray:=λm=>by
    induction m with
    | zero=>intro acc;simp
    | succ m ih=>intro acc;rw[Yr,List.foldl_cons,ih,Yr];apply Array.ext';simp
   by_cases p:k=0
   ·subst p
    have c:(decide (((0:Nat):Int)<=0) || (#[x]:Array Value).isEmpty)=true:=rfl;rw[Jf c]
    wp_walk
    exact⟨_,rfl,f (by decide)⟩
   ·have c:¬(decide ((k:Int)<=0) || (#[x]:Array Value).isEmpty)=true:=by
     rw[Jt (by simp_all)];exact Jp
    have B:¬(((#[x]:Array Value).size:Int)*(k:Int) > (2 ^ 63-1) / 8):=by
     show ¬((1:Int)*(k:Int) > (2 ^ 63-1) / 8);lia
    have z:¬ Builtin.Tuple.tupleTooMany (((#[x]:Array Value).size:Int)*(k:Int))=true:=by
     unfold Builtin.Tuple.tupleTooMany;show ¬ decide ((1:Int)*(k:Int) > (sizeLine:Int))=true;rw[Jt (by rw[JG];lia)];exact Jp
    rw[Jd c,Jd B,Jd z,Yf,fl];refine J0 (m:=Builtin.Tuple.tupleExact _) (JK (J7 ⟨_,rfl,?_⟩) ?_)
    ·have e:(#[]++(List.replicate k x).toArray:Array Value)=(List.replicate k x).toArray:=by simp
     rw[e];exact f a
    ·show (#[]++(List.replicate k x).toArray:Array Value).size<=sizeLine
     rw[JG];simp;lia
theorem Vals.same {v:V}{u:Value}(r:RelV v u):∀ k:Nat,Vals (List.replicate k v) (List.replicate k u)
 | 0=>.nil
 | k+1=>by rw[Yr,Yr];exact .cons r (Vals.same r k)
theorem uX:OpR X (binaryOp .Mult) (λx y H Q=>∃ a v,∃ k:Nat,x=.ref a/\y=.int k/\H a=some (.tup [v])/\k<=100000/\∀ r H',Same H H'->H' r=some (.tup (List.replicate k v))->Q (.ref r) H'):=by
 intro pins s σ H x y J G Q I A w h;obtain⟨a,v,k,rfl,rfl,j,D,q⟩:=h;cases A;obtain⟨t,rfl⟩:=w;obtain⟨_,E,r,⟨⟨c,K,d,n⟩,f,m,i,l,g⟩⟩:=(show ObjOk X.prog X.w H s.heap a (.tup [v]) from I.hok a _ j);simp only at m l g;subst m l g;obtain⟨u,rfl,B⟩:=r.one
 refine wpAny_binaryOp_repeat_ref (T:="tuple") (U:="int") (by decide) ⟨_,f,rfl⟩ (λp=>typeIs_int p k t) oQ F.fills_int_mul F.slot_int_rmul mL F.slot_int_index.lookup
  (call_meets F.slot_int_rmul (typeIs_int s k t) F.entry_int_rmul (F.args_int_rmul_2 _ _) (eE k t a none n _ i)
   ⟨f,rfl,⟨_,f,rfl⟩,call_meets F.slot_tuple_mul ⟨_,f,rfl⟩ F.entry_tuple_mul (F.args_tuple_mul_2 _ _) (mV a _ u i k t rfl rfl D) ⟨f,λe=>?_,λe=>?_⟩⟩)
 ·subst e
  exact⟨.ref a,H,I,rfl,q a H (Same.refl H) j⟩
 ·have C:(List.replicate k v).length<=sizeLine:=by rw[Z3,JG];lia
  exact⟨.ref s.heap.objs.size,_,I.laid (t':=s.toks) (o:=.tup (List.replicate k v)) (λb ob z=>J8 _ z) (Je _) ⟨C,_,Vals.same B k,TupX.new _ _⟩,rfl,q _ _ (zB (I.hok.fresh (Je _)) _) zD⟩
end
end L2
namespace Bn
open PySem L2 Own
def Tups (H H':Hp):Prop:=∀ a b,H a=some (.tup b)->H' a=some (.tup b)
theorem Tups.trans {H d c:Hp}(x:Tups H d)(y:Tups d c):Tups H c:=λa b e=>y a b (x a b e)
theorem Tups.of {H H':Hp}(s:Same H H'):Tups H H':=λa _ e=>s a _ e
theorem Tups.lst {H:Hp}{l:Addr}{xs ys:List V}(h:H l=some (.lst xs)):Tups H (upd H l (.lst ys)):=λa b e=>by
 rw[zG (by rintro rfl;rw[h]at e;cases e)];exact e
def But (l:Addr)(H H':Hp):Prop:=∀ b o,H b=some o->b≠l->H' b=some o
theorem But.trans {l:Addr}{H c a:Hp}(x:But l H c)(y:But l c a):But l H a:=λb o e n=>y b o (x b o e n) n
theorem But.of {l:Addr}{H a:Hp}(x:Same H a):But l H a:=λb o e _=>x b o e
def Prs (H:Hp):List V->List (Nat × Nat)->Prop
 | [],[]=>True
 | p::ps,f::fs=>(∃ a,p=.ref a/\H a=some (.tup [.int f.1,.int f.2]))/\Prs H ps fs
 | _,_=>False
theorem Prs.tups {H H':Hp}(t:Tups H H'):∀ {ps:List V}{fs:List (Nat × Nat)},Prs H ps fs->Prs H' ps fs
 | [],[],_=>trivial
 | _::_,_::_,⟨⟨a,e,h⟩,r⟩=>⟨⟨a,e,t _ _ h⟩,r.tups t⟩
theorem Prs.len {H:Hp}:∀ {ps:List V}{fs:List (Nat × Nat)},Prs H ps fs->ps.length=fs.length
 | [],[],_=>rfl
 | _::_,_::_,⟨_,r⟩=>JW (· + 1) r.len
theorem Prs.add {H:Hp}{a:Addr}{f:Nat × Nat}(h:H a=some (.tup [.int f.1,.int f.2])):∀ {ps:List V}{fs:List (Nat × Nat)},Prs H ps fs->Prs H (ps++[.ref a]) (fs++[f])
 | [],[],_=>⟨⟨a,rfl,h⟩,trivial⟩
 | _::_,_::_,⟨x,r⟩=>⟨x,r.add h⟩
theorem Prs.get {H:Hp}:∀ {ps:List V}{fs:List (Nat × Nat)}{i:Nat}{p:V},Prs H ps fs->ps[i]?=some p->∃ a f,p=.ref a/\fs[i]?=some f/\H a=some (.tup [.int f.1,.int f.2])
 | [],[],_,_,_,e=>by simp at e
 | _::_,f::_,0,p,⟨⟨a,b,h⟩,_⟩,e=>by
  have:_=p:=Jm e;subst this
  exact⟨a,f,b,rfl,h⟩
 | _::_,_::_,i+1,p,⟨_,r⟩,e=>r.get (i:=i) (by simpa using e)
structure Nt where
 lanes:Nat
 forks:List (Nat × Nat)
 ends:List Nat
structure Nt.Ok (N:Nt):Prop where
 l1:1<=N.lanes
 l16:N.lanes<=16
 fm:N.forks.length<=128
 fk:∀ f∈N.forks,f.1<N.lanes/\f.2<N.lanes/\f.1≠f.2
 en:N.ends.Perm (List.range N.lanes)
def zQ (es:List Nat):List V:=es.map λ(e:Nat)=>V.int e
structure NetAt (H:Hp) (r fr er:Addr) (ps:List V) (N:Nt):Prop where
 net:H r=some (.tup [.int N.lanes,.ref fr,.ref er])
 forks:H fr=some (.tup ps)
 prs:Prs H ps N.forks
 ends:H er=some (.tup (zQ N.ends))
theorem NetAt.tups {H H':Hp}{r fr er:Addr}{ps:List V}{N:Nt}(t:Tups H H')(h:NetAt H r fr er ps N):NetAt H' r fr er ps N:=⟨t _ _ h.net,t _ _ h.forks,h.prs.tups t,t _ _ h.ends⟩
theorem vz {cs:List Int}{i:Nat}(h:i<cs.length):atI (cs.map V.int) ((i:Nat):Int)=some (.int (cs.getD i 0)):=by
 refine ya ?_;rw[Y6,Ju,J9 h];rfl
theorem kI {α:Type}{xs:List α}{i:Nat}(h:i<xs.length):ixN xs.length ((i:Nat):Int)=some i:=by
 unfold ixN;rw[Jf (by lia),Jf (by simp_all)];simp
theorem pM (cs:List Int)(i:Nat)(a:Int):(cs.map V.int).set i (.int a)=(cs.set i a).map V.int:=by rw[List.map_set]
structure Mgs (mg:Str->Option Value):Prop where
 len:mg "len" = none
 range:mg "range" = none
 tuple:mg "tuple" = none
 enum:mg "enumerate" = none
 abs:mg "abs" = none
 zip:mg "zip" = none
 isi:mg "isinstance" = none
 all:mg "all" = none
 sum:mg "sum" = none
 bool:mg "bool" = none
 int:mg "int" = none
 str:mg "str" = none
 max:mg "max" = none
 min:mg "min" = none
 sorted:mg "sorted" = none
 list:mg "list" = none
structure Use (P:Program) (w:World) (K:PySem.W.Frag) (mg:Str->Option Value) (base:Heap) (x:Str) (ps:List Str) (k:Nat) (sp:Sp) (f:Addr) (fd:FuncData):Prop where
 ok:FnOk P w K mg base CX0 k f fd ps sp
 b:Binds K fd ps []
 kp:PySem.W.keepIn K (.ref f)=true
 m:mg x=some (.ref f)
def Frs (l:Addr)(H:Hp)(x:Addr):Prop:=∀ b o,H b=some o->b≠l->b≠x
theorem But.upd {l x:Addr}{H a:Hp}{o:HO}(B:But l H a)(f:Frs l H x):But l H (upd a x o):=λb u e n=>by rw[zG (f b u e n)];exact B b u e n
theorem zZ (es:List Nat):(zQ es).length=es.length:=by simp[zQ]
def nm (ns:List Nat)(i:Nat):Nat:=ns.getD i 0
section
variable {ns:List Nat}{n:Nat}(pm:ns.Perm (List.range n))
include pm
end
def ren (ns:List Nat)(f:Nat × Nat):Nat × Nat:=(nm ns f.1,nm ns f.2)
def Nt.ren (N:Nt)(ns:List Nat):Nt:=⟨N.lanes,N.forks.map (Bn.ren ns),N.ends.map (nm ns)⟩
def Nt.again (N:Nt)(f:Nat × Nat):Nt:=⟨N.lanes,N.forks++[f],N.ends⟩
end Bn
namespace L2
open PySem PySem.Spec PyProof.Rows Own
section
variable {prog:Program}{w:World}{A:Around}{E:Value->Shared->Prop}{s:Shared}
theorem o9 {t sl:Addr}{items:Array Value}{f e:Value}{lo hi:Option Int}{Q:Value->Shared->Prop}(a:IsTup s.heap t items)(g:s.heap.IsSliceOf sl f e .none)(i:IsPart f lo)(pu:IsPart e hi)(k:HT.sIx items.size 0 lo=0)(j:HT.sIx items.size items.size hi=items.size)(h:Q (.ref t) s):wpAny (model prog w) A (getItem (.ref t) (.ref sl)) Q E s:=by
 obtain⟨os,b,c,l⟩:=id g;have d:s.TypeIs (.ref sl) "slice":=⟨os,b,c⟩;unfold getItem
 try with_reducible refine JX ?_
 first|refine J0 (J7 ?_)|skip
 refine J0 (wpAny_sequenceKey a.typeIs (by decide) (J0 (wpAny_callSpecial?_slot (name:=Str.ofString "__getitem__") a.typeIs W6 (Y1 W6 a.typeIs PyProof.Rows.entry_tuple_getitem ?_ (PyProof.Rows.args_tuple_getitem _ _)))));show wpAny _ _ (Builtin.Tuple.tupleItemsOf (.ref t) >>= _) _ _ s;refine J0 (tupleItemsOf_ a (J0 (YF d ?_)));rw[Jf (by decide)];refine J0 (HT.sliceApplied_gen g i pu ?_);rw[k,j];show wpAny _ _ (if (((0:Nat):Int) == 0 && (1:Int) == 1 && (items.size-0) == items.size)=true then _ else _) _ _ s;rw[Jf (by simp)];refine J0 ?_;unfold Builtin.Tuple.tupleIsExact;refine J0 (YF a.typeIs (J7 ?_));rw[Jf (by decide)];exact J0 (YJ (J7 ⟨_,rfl,J7 h⟩))
end
end L2
namespace K37
open PySem L2 Own Bn
def top (i:Nat):Stmt:=PySem.Challenge.pw_stairlanes_k37_lanes_told_and_not.main.body.getD i (.Pass ⟨0,0,0,0⟩)
end K37
namespace L2
open PySem PySem.Spec PyProof.Rows Own
section
variable {X:Cx}
theorem yi:OpR X (binaryOp .Add) (λx y H Q=>∃ a b xs ys,x=.ref a/\y=.ref b/\H a=some (.tup xs)/\H b=some (.tup ys)/\xs.length+ys.length<=sizeLine/\∀ r H',Same H H'->H' r=some (.tup (xs++ys))->Q (.ref r) H'):=by
 intro pins s σ H x y v u Q I o n h;obtain⟨a,b,xs,ys,rfl,rfl,j,i,F,q⟩:=h;by_cases z:xs=[]
 ·subst z
  cases o;cases n;obtain⟨L,A,C,_⟩:=I.tuple (SqT.of j);obtain⟨m,M,B,_⟩:=I.tuple (SqT.of i);cases A;obtain⟨⟨P,K,N,l⟩,w,g,E,d⟩:=C;obtain⟨⟨O,J,e2,k⟩,t,f,D,c⟩:=B;simp only at g d f c;subst g d f c;refine concat_meets ⟨_,w,rfl⟩ ⟨_,t,rfl⟩ noFill_tuple_add seq_tuple_add PySem.F.slot_tuple_add PySem.F.entry_tuple_add (PySem.F.args_tuple_add_2 _ _) (tuple_addW0 a b #[] m.toArray E D K J l k rfl) ⟨w,t,?_⟩;exact⟨.ref b,H,I,rfl,q b H (Same.refl H) (by rw[List.nil_append];exact i)⟩
 ·exact dy pins s σ H _ _ v u Q I o n ⟨a,b,xs,ys,rfl,rfl,SqT.of j,SqT.of i,z,F,λe=>q a H (Same.refl H) (by rw[e,Y3];exact j),λ_ p G=>q p _ (zB G _) zD⟩
theorem yX:SlR X (λx lo hi H Q=>∃ a xs,x=.ref a/\H a=some (.tup xs)/\∀ p H',Same H H'->H' p=some (.tup (xx xs lo hi))->Q (.ref p) H'):=by
 intro pins s σ H x v k j lo hi l Q I e i f pu h;obtain⟨a,xs,rfl,c,q⟩:=h;by_cases b:HT.sIx xs.length 0 lo=0/\HT.sIx xs.length xs.length hi=xs.length
 ·cases e
  obtain⟨d,r,g,n⟩:=I.tuple (SqT.of c);have hlen:d.toArray.size=xs.length:=by rw[Jn];exact r.length.symm
  refine⟨"tuple",_,PyProof.Rows.slot_tuple_getitem.lookup,g.typeIs,o9 g i f pu (by rw[hlen];exact b.1) (by rw[hlen];exact b.2) ⟨.ref a,H,I,rfl,q a H (Same.refl H) ?_⟩⟩;unfold xx;rw[b.1,b.2,ZY,Nat.sub_zero,YN];exact c
 ·exact bh pins s σ H _ v k j lo hi l Q I e i f pu ⟨a,xs,rfl,SqT.of c,b,λp m=>q p _ (zB m _) zD⟩
end
theorem tj (xs:List V)(i:Nat)(h:i<=xs.length):xx xs none (some (i:Int))=xs.take i:=by
 unfold xx;rw[HT.sIx_none,HT.sIx_nat,ZY,Nat.sub_zero,Zr h]
theorem tu (xs:List V)(i:Nat)(h:i<=xs.length):xx xs (some (i:Int)) none=xs.drop i:=by
 unfold xx;rw[HT.sIx_none,HT.sIx_nat,Zr h];exact JS (by rw[Yh];exact Je _)
theorem sv {h:Heap}:∀ (vs:List Value) (ds:List PyData),vs.length=ds.length->(∀ (j:Nat) (v:Value) (d:PyData),vs[j]?=some v->ds[j]?=some d->∃ as,Reads h v d as)->∃ as,ReadsAll h vs ds as
 | [],[],_,_=>⟨_,.nil⟩
 | v::vs,d::ds,c,q=>by
  obtain⟨as,r⟩:=q 0 v d rfl rfl;obtain⟨bs,b⟩:=sv vs ds (by simpa using c) λj a f e e2=>q (j+1) a f (by simpa using e) (by simpa using e2);exact⟨_,.cons r b⟩
theorem uB (ts:List Str):(tupleText ts).length<=piled ts+3:=by
 unfold tupleText;rw[strLen_append,strLen_append];have a:(("(":String):Str).length=1:=rfl;have c:(((if ts.length == 1 then ",)" else ")":String):Str)).length<=2:=by split<;>decide
 rw[a];by_cases h:ts=[]
 ·subst h
  have:(Str.join ", " ([]:List Str)).length=0:=rfl;lia
 ·have b:=join_length_add ts h
  lia
theorem tG {m:Nat}:∀ {ts:List Str},(∀ t∈ts,t.length<=m)->piled ts<=ts.length*(m+2)
 | [],_=>JJ _
 | t::ts,h=>by
  have a:=h t JF;have b:=tG (ts:=ts) λx c=>h x (JE _ c);rw[piled_cons,JM,Nat.add_one_mul];lia
end L2
namespace L2
open PySem PySem.Spec PyProof.Rows Own
def AnyT (K:PySem.W.Frag)(H:Hp)(x:V):Prop:=∃ T,TyOf K H x T/\∃ t:String,T=.type t
def rowOf (H:Hp):V->Option (List V)
 | .ref a=>match H a with
  | some (.tup xs)=>some xs
  | _=>none
 | _=>none
end L2
namespace Bn
open PySem L2 Own
structure Grp where
 many:Int
 lane:Nat
 fork:Nat
def yG (back:Bool)(st:List Int × Nat)(k:Nat)(f:Nat × Nat):List Int × Nat :=
 if st.2=f.1\/st.2=f.2 then (st.1.set k (1-st.1.getD k 0),if (if back then 1-st.1.getD k 0 else st.1.getD k 0)=0 then f.1 else f.2) else st
def yL (back:Bool)(fs:List (Nat × Nat))(ts:List Int)(lane:Nat):Nat->List Int × Nat
 | 0=>(ts,lane)
 | i+1=>yG back (yL back fs ts lane i) i (fs.getD i (0,0))
def kg (xs:List Int)(i:Nat)(d:Int):List Int:=xs.set i (xs.getD i 0+d)
theorem gK {ts:List Int}{k:Nat}(h:∀ t∈ts,t=0\/t=1):∀ t∈ts.set k (1-ts.getD k 0),t=0\/t=1:=λt a=>by
 rcases List.mem_or_eq_of_mem_set a with z|z
 ·exact h t z
 ·by_cases b:k<ts.length
  ·have:=h _ (L2.tY b);lia
  ·rw[List.set_eq_of_length_le (by simp_all)]at a;exact h t a
theorem wA {back:Bool}{fs:List (Nat × Nat)}{ts:List Int}{lane:Nat}(h:∀ t∈ts,t=0\/t=1):∀ i,∀ t∈(yL back fs ts lane i).1,t=0\/t=1
 | 0=>h
 | i+1=>by
  have ih:=wA (back:=back) (fs:=fs) (lane:=lane) h i;show ∀ t∈(yG back (yL back fs ts lane i) i (fs.getD i (0,0))).1,t=0\/t=1;unfold yG;split
  ·exact gK ih
  ·exact ih
theorem wS {back:Bool}{fs:List (Nat × Nat)}{ts:List Int}{lane:Nat}:∀ i,(yL back fs ts lane i).1.length=ts.length
 | 0=>rfl
 | i+1=>by
  have ih:=wS (back:=back) (fs:=fs) (ts:=ts) (lane:=lane) i;show (yG back (yL back fs ts lane i) i (fs.getD i (0,0))).1.length=_;unfold yG;split
  ·simp only;rw[List.length_set];exact ih
  ·exact ih
theorem wo {back:Bool}{fs:List (Nat × Nat)}{ts:List Int}{lane n:Nat}(ok:∀ f∈fs,f.1<n/\f.2<n/\f.1≠f.2)(b:lane<n):∀ i,i<=fs.length->(yL back fs ts lane i).2<n
 | 0,_=>b
 | i+1,hi=>by
  have ih:=wo (back:=back) (ts:=ts) ok b i (by lia);have a:=ok _ (YM (show i<fs.length by lia));have c:fs.getD i (0,0)=fs[i]:=by rw[Ju,J9 (show i<fs.length by lia)];rfl
  show (yG back (yL back fs ts lane i) i (fs.getD i (0,0))).2<n;rw[c];generalize fs[i]=f at *;unfold yG;split
  ·simp only
   by_cases z:(if back=true then 1-(yL back fs ts lane i).1.getD i 0 else (yL back fs ts lane i).1.getD i 0)=0
   ·rw[Jf z];exact a.1
   ·rw[Jd z];exact a.2.1
  ·exact ih
theorem tU (k:Nat):∀ es:List Nat,(es.map λ(e:Nat)=>(e:Int)).idxOf (k:Int)=es.idxOf k
 | []=>rfl
 | e::es=>by
  rw[JT,List.idxOf_cons,List.idxOf_cons,tU k es]
  have:((e:Int) == (k:Int))=(e == k):=by
   rw[Yw,beq_iff_eq];rw[beq_iff_eq];lia
  rw[this]
theorem oN (es:List Nat):zQ es=(es.map λ(e:Nat)=>(e:Int)).map V.int:=by unfold zQ;rw[Zb];rfl
def gA:Sp:=λb H Q _=>∃ r fr d c N,∃ a:Nat,b=[.ref r,.int a]/\Nt.Ok N/\NetAt H r fr d c N/\a<N.lanes/\Q (.int (N.ends.idxOf a:Nat)) H
def RunQ (back:Bool)(vs:List V)(H:Hp)(Q:VK):Prop:=∃ r fr g f N e b,∃ a:Nat,vs=[.ref r,.ref e,.int a]/\Nt.Ok N/\NetAt H r fr g f N/\H e=some (.tup (List.map V.int b))/\b.length=N.forks.length/\(∀ t∈b,t=0\/t=1)/\a<N.lanes /\
 ∀ p c d,Same H d->d p=some (.tup [.ref c,.int (N.ends.idxOf (yL back N.forks b a N.forks.length).2:Nat)])->d c=some (.tup ((yL back N.forks b a N.forks.length).1.map V.int))->Q (.ref p) d
def vY (back:Bool):Sp:=λa H Q _=>RunQ back a H Q
def i7:Sp:=λb H Q _=>∃ (a:List V) (back:Bool),b=a++[.bl back]/\RunQ back a H Q
theorem lO (xs:List Int)(i:Nat)(v:Int)(h:i<xs.length):(xs.map V.int).take i++[V.int v]++(xs.map V.int).drop (i+1)=(xs.set i v).map V.int:=by
 rw[List.set_eq_take_append_cons_drop,Jf h,Y2,JT,List.map_take,List.map_drop,Y0];rfl
def part (m:Int)(lane k:Nat):List Grp:=if m=0 then [] else [⟨m,lane,k⟩]
end Bn
namespace L2
open PySem PySem.Spec PyProof.Rows Own
section
variable {X:Cx}
theorem Inv.big {pins:List (Addr × Obj)}{σ:St}{H:Hp}{s:Shared}(I:Inv X pins σ H s):sysModules<s.heap.objs.size:=by
 have h:mainGlobals<s.heap.objs.size:=(I.mod.glob.keeps I.bk).lt;exact Nat.lt_trans (by decide) h
end
end L2
namespace L2
open PySem PySem.Spec PyProof.Rows Own
def LtAt (A:Around)(s:Shared)(y x:Value)(b:Bool):Prop:=∀ (prog:Program) (w:World) (E:Value->Shared->Prop) (Q:Value->Shared->Prop),Q (.bool b) s->wpAny (model prog w) A (richCompare .Lt y x) Q E s
theorem LtAt.ints {A:Around}{s:Shared}(a b:Int)(t u:Tok):LtAt A s (.int a t) (.int b u) (decide (a<b)):=λ_ _ _ _ h=>lt_int h
theorem ow (l b:Addr)(xs ys:Array Value)(n m:Nat)(L K:Option Addr)(p o:Array (Option Value))(k:Nat)(N:k<xs.size)(M:k<ys.size)(c:Bool) :
  Meets (Builtin.«tuple.__lt__» ⟨[.ref l,.ref b],[]⟩)
   (λA R s=>s.heap.get? l=some { cls:=.type "tuple",dict:=L,data:=.seq xs n,slots:=p }/\s.heap.get? b=some { cls:=.type "tuple",dict:=K,data:=.seq ys m,slots:=o } /\
    (∀ j (P:j<xs.size) (O:j<ys.size),j<k->SeqAt.EqAt A.in1 s xs[j] ys[j] true)/\SeqAt.EqAt A.in1 s xs[k] ys[k] false/\LtAt A.in1 s xs[k] ys[k] c/\R (.ok (.ret (.bool c))) s) :=
 .of_wp λprog w A R s h=>by
  obtain⟨D,g,d,u,os⟩:=s;obtain⟨E,I,G,F,H,h⟩:=h;have kinds:=AutoSeq1.sub_tuple_tuple;have r:(xs.toList.zip ys.toList).length=min xs.size ys.size:=by simp
  wp_walk using wpAny_loadPart' E,wpAny_loadPart' I,wpAny_forIn_list _ (λrest b e=>b.1=none/\e=⟨D,g,d,u,os⟩/\∃ i,i<=k/\rest=(xs.toList.zip ys.toList).drop i) _
  case turn =>
   rintro⟨y,x⟩ rest b e ⟨q,rfl,i,v,a⟩;have C:i<xs.size:=by lia
   have B:i<ys.size:=by lia
   have f:i<(xs.toList.zip ys.toList).length:=by rw[r];lia
   rw[YC f]at a;obtain⟨t,e2⟩:=List.cons.inj a;have J:y=xs[i]:=by simpa using JW Prod.fst t
   have ex:x=ys[i]:=by simpa using JW Prod.snd t
   subst J ex;by_cases z:i=k
   ·subst z
    refine J0 (F prog w _ _ ?_);simp only[Yy,Bool.not_false];refine J0 (YJ (J0 (H prog w _ _ ?_)))
    wp_walk
    exact⟨_,rfl,h⟩
   ·refine J0 (G i C B (by lia) prog w _ _ ?_)
    wp_walk
    exact⟨rfl,rfl,i+1,by lia,e2⟩
  case fin =>
   rintro⟨S,Q⟩ e ⟨q,rfl,i,v,a⟩;have f:i<(xs.toList.zip ys.toList).length:=by rw[r];lia
   rw[YC f]at a;cases a
  case h =>
   exact⟨rfl,rfl,0,JJ _,rfl⟩
theorem LtAt.tuples {A:Around}{s:Shared}{l b:Addr}{xs ys:Array Value}{k:Nat}{c:Bool}(v:IsTup s.heap l xs)(hb:IsTup s.heap b ys)(u:A.units<cLine)(t:k<xs.size)(r:k<ys.size)(z:∀ j (J:j<xs.size) (I:j<ys.size),j<k->SeqAt.EqAt A.in1 s xs[j] ys[j] true)(y:SeqAt.EqAt A.in1 s xs[k] ys[k] false)(B:LtAt A.in1 s xs[k] ys[k] c):LtAt A s (.ref l) (.ref b) c:=λprog w E Q h=>by
 obtain⟨⟨H,f,D,d⟩,i,q,n,o⟩:=v;obtain⟨⟨G,e,C,a⟩,g,p,m,e2⟩:=hb;simp only at q o p e2;subst q o p e2;exact richCompare_meets_room (op:=.Lt) ⟨_,i,rfl⟩ ⟨_,g,rfl⟩ F.slot_tuple_lt F.entry_tuple_lt (F.args_tuple_lt_2 _ _) (ow l b xs ys n m f e d a k t r c) ⟨i,g,z,y,B,show Value.bool c≠Value.notImplemented/\Q (.bool c) s from⟨(λx=>nomatch x),h⟩⟩ u
theorem cR {K:PySem.W.Frag}{a:Addr}{xs:List V}{g:TG}{tt:TT}{j:TE}{l:Addr}{σ:St}{H:Hp}{Q:VK}(d:Nat->List V->St->Hp->Prop)(s:d 0 [] σ H)(r:∀ i acc σ H,d i acc σ H->H l=some (.lst acc)/\SqT K H a xs)(q:∀ i x acc σ H,xs[i]?=some x->d i acc σ H->g x σ H λc t=>tt c t λb n=>if b=true then j c n λy k=>k l=some (.lst acc)/\acc.length<sizeLine/\Nx xs.length i (d (i+1) (acc++[y]) c (upd k l (.lst (acc++[y])))) else Nx xs.length i (d (i+1) acc c n))(hd:∀ acc σ H,d xs.length acc σ H->Q (.ref l) H):∃ W:Nat->Nat->List V->St->Hp->Prop,(∃ m,W 0 m [] σ H)/\LCW (Itt K a) g tt j l Q W:=by
 refine⟨λi m acc σ H=>m=xs.length-i/\i<=xs.length/\d i acc σ H,⟨_,rfl,JJ _,s⟩,?_⟩;rintro i m acc σ H ⟨rfl,hi,p⟩;obtain⟨o,f⟩:=r i acc σ H p;refine⟨o,?_⟩;by_cases h:i<xs.length
 ·refine .inr ⟨⟨xs,xs[i],f,J9 h⟩,λx u ⟨e,y⟩=>?_⟩
  subst e;exact q i x acc σ _ (y xs f) p
 ·obtain rfl:i=xs.length:=by lia
  exact .inl ⟨⟨xs,f,Je _⟩,hd acc σ H p⟩
end L2
namespace K37
open PySem L2 Own Bn
abbrev mG:Stmt:=top 6
abbrev mH:Stmt:=top 7
def qD:Sp:=λd H Q _=>∃ a b,∃ (place:Nat) (v:Int),d=[.ref a,.int place,.int v]/\H a=some (.tup (List.map V.int b))/\place<b.length/\b.length<=1000/\∀ p c,Same H c->c p=some (.tup ((b.set place v).map V.int))->Q (.ref p) c
def qF:Sp:=λd H Q _=>∃ a b,∃ (place:Nat) (v:Int),d=[.ref a,.int place,.int v]/\H a=some (.tup (List.map V.int b))/\place<b.length/\b.length<=1000/\∀ p c,Same H c->c p=some (.tup ((b.set place (b.getD place 0+v)).map V.int))->Q (.ref p) c
section
variable {P:Program}{w:World}{K:PySem.W.Frag}{mg:Str->Option Value}{base:Heap}
theorem zbj:FnScope ["row","place","value"] ["row","place","value"] (zN mG):=by rfl'
theorem gw {f:Addr}{fd:FuncData}(F:Fun K "given_at" "given_at" mG f fd) (G:Mgs mg):FnOk P w K mg base CX0 1 f fd ["row","place","value"] qD:=by
 refine F.ok zbj (λl H Q E h=>?_) (λC A outer s H l Q E J h=>?_)
 ·obtain⟨a,b,place,v,rfl,_⟩:=h
  rfl
 obtain⟨a,b,place,v,rfl,g,p,D,k⟩:=h;refine⟨_,(@zJ _ _ _ (@zV _ _ _ _ (@zS _ _ _ _ _ _ _ _ yi (@zS _ _ _ _ _ _ _ _ yi (@zx _ _ _ _ _ _ _ _ _ _ yX (@qv _ 0 _ _ (by rfl')) yH (@zt _ _ _ (@qv _ 1 _ _ (by rfl')))) (@zT _ _ _ _ _ (@zA _ _ _ _ _ (@qv _ 2 _ _ (by rfl')) zC (by rfl)))) (@zx _ _ _ _ _ _ _ _ _ _ yX (@qv _ 0 _ _ (by rfl')) (@zt _ _ _ (@zS _ _ _ _ _ _ _ _ yY (@qv _ 1 _ _ (by rfl')) zH)) yH)))),?_⟩;have I:(b.map V.int).length=b.length:=Jg _;refine⟨_,rfl,_,rfl,_,rfl,a,_,rfl,g,λx N o j=>?_⟩;rw[tj _ place (by lia)]at j;refine⟨_,rfl,(by show 1<=sizeLine;decide),λu c=>?_⟩;have e:=zB c (.tup [.int v]);refine⟨x,u,_,_,rfl,rfl,e _ _ j,zD,?_,λt M n z=>?_⟩
 ·rw[JC,JG];show _+1<=_;grind
 have u3:=(o.trans e).trans n;refine⟨_,rfl,_,rfl,_,_,rfl,rfl,_,rfl,a,_,rfl,u3 _ _ g,λr L d i=>?_⟩;rw[show ((place:Int)+1)=((place+1:Nat):Int) from rfl,tu _ (place+1) (by lia)]at i;refine⟨t,r,_,_,rfl,rfl,d _ _ z,i,?_,λq B m y=>?_⟩
 ·rw[Jb,JC,Yh,JG];show _+1+_<=_;grind
 exact k q B ((u3.trans d).trans m) (by rw[y,lO b place v p])
theorem zbo:FnScope ["counts","place","many"] ["counts","place","many"] (zN mH):=by rfl'
theorem gx {f l:Addr}{fd m:FuncData}(F:Fun K "added" "added" mH f fd) (G:Mgs mg) (b:Use P w K mg base "given_at" ["row","place","value"] 1 qD l m):FnOk P w K mg base CX0 2 f fd ["counts","place","many"] qF:=by
 refine F.ok zbo (λi H Q E h=>?_) (λn A outer s H i Q E j h=>?_)
 ·obtain⟨a,c,place,v,rfl,_⟩:=h
  rfl
 obtain⟨a,c,place,v,rfl,e,d,g,k⟩:=h;refine⟨_,(@zJ _ _ _ (@zV _ _ _ _ (@zR _ _ _ _ _ _ _ _ _ _ _ _ _ _ _ _ b.ok j (by rfl) b.m b.kp b.b .nil zu (@zA _ _ _ _ _ (@qv _ 0 _ _ (by rfl')) (@zA _ _ _ _ _ (@qv _ 1 _ _ (by rfl')) (@zA _ _ _ _ _ (@zS _ _ _ _ _ _ _ _ yY (@zi _ _ _ _ _ _ _ yA (@qv _ 0 _ _ (by rfl')) (@qv _ 1 _ _ (by rfl')) (λ_ _=>rfl)) (@qv _ 2 _ _ (by rfl'))) zC (by rfl)) (by rfl)) (by rfl)) (by decide) (by rfl) (by rfl)))),?_⟩;exact⟨_,rfl,_,rfl,_,rfl,_,rfl,a,_,_,_,rfl,rfl,SqT.of e,vz d,_,rfl,_,_,rfl,rfl,a,c,place,_,rfl,e,d,g,k⟩
end
end K37
namespace L2
open PySem PySem.Spec PyProof.Rows
section
variable [DecidableEq κ]
theorem RelO.isSome_eq {o:Option V}{u:Option Value}(r:RelO o u):o.isSome=u.isSome:=by
 cases o with
 | none=>cases u with
  | none=>rfl
  | some _=>exact(show False from r).elim
 | some _=>cases u with
  | none=>exact(show False from r).elim
  | some _=>rfl
theorem RelO.getD {o:Option V}{u:Option Value}{d:V}{d':Value}(r:RelO o u)(a:RelV d d'):RelV (o.getD d) (u.getD d'):=by
 cases o with
 | none=>cases u with
  | none=>exact a
  | some _=>exact(show False from r).elim
 | some _=>cases u with
  | none=>exact(show False from r).elim
  | some _=>exact r
end
theorem zaW {P:Program}{w:World}{k:Key}{u:Value}(r:RelV (kV k) u):(yZ P w).is k u=true:=by
 cases k with
 | inl i=>obtain⟨t,e⟩:=(show ∃ t,u=Value.int i t from r);subst e;exact oZ P w i t
 | inr x=>obtain⟨t,e⟩:=(show ∃ t,u=Value.str x t from r);subst e;exact oY P w x t
theorem rR {P:Program}{w:World}:∀ {ks:List Key}{us:List Value},Vals (ks.map kV) us->ItemsAre (yZ P w) ks us
 | [],_,r=>by rw[List.map_nil]at r;cases r;exact .nil
 | k::ks,_,r=>by
  rw[JT]at r
  cases r with
  | cons h t=>exact .cons (zaW h) (rR t)
section
variable {P:Program}{w:World}{H:Hp}{h:Heap}{a:Addr}
theorem bM {u:HO}(ok:HOk P w H h)(e:Rd H a u):ObjOk P w H h a u:=e.ok ok
theorem zab {ks:List Key}(ok:HOk P w H h)(e:H a=some (.tup (ks.map kV))):(tupleKind (yZ P w)).is h ks a:=by
 obtain⟨_,b,r,o,f,d,n,c⟩:=(show ObjOk P w H h a (.tup (ks.map kV)) from ok a _ e);exact⟨o,b.toArray,n,f,d,c.1,by simpa using rR r⟩
end
section
variable {X:Cx}{pins:List (Addr × Obj)}{σ:St}{H:Hp}{s:Shared}{a:Addr}
theorem qi {h':Heap}{t':Nat}{ob:HO}(I:Inv X pins σ H s)(c:Mut (H a))(d:Heap.SameBut a s.heap h')(f:∃ q,h'.get? a=some q)(new:ObjOk X.prog X.w (upd H a ob) h' a ob) :
  Inv X pins σ (upd H a ob) { s with heap:=h',toks:=t' } :=
 I.write (x:=a) (e:=a) c (.inl rfl) (λb q g z=>(d.2 b g).trans z) f new
end
def NoSl (i:Expr):Prop:=∀ a b,subscripted i false a b=operate [a,b] (getItem a b)
theorem dY {prog:Program}{w:World}{A:Around}{E:Value->Shared->Prop}{s:Shared}{env:Env}{value slice:Expr}{pos:Pos}{T id:String}{Q:Value->Shared->Prop}
  (k:typeLookup (.type T) "__getitem__" = pure (some (.builtin id))) (j:NoSl slice)
  (h:wpAny (model prog w) A (eval value env) (λo d=>wpAny (model prog w) A (eval slice env) (λi a=>a.TypeIs o T/\wpAny (model prog w) A (getItem o i) Q E a) E d) E s) :
  wpAny (model prog w) A (eval (.Subscript value slice pos) env) Q E s:=by
 refine Subscript_ (JN h (λo d f=>JN f (λi a b=>?_) λ_ _ x=>x) λ_ _ x=>x);obtain⟨g,b⟩:=b;unfold subscriptTail;refine J0 ?_;rw[getitemInPython_of_ne g.not_modules];refine J0 (ZM g k ?_)
 have fin:wpAny (model prog w) A (subscripted slice false o i) (λr c=>wpAny (model prog w) A (letTemporaryGo value o r >>= λ_=>pure r) Q E c) E a:=by
  rw[j o i];exact wpAny_operating (JN b (λr c e=>J0 (wpAny_letTemporaryGo (J7 e))) λ_ _ x=>x)
 first
  | exact J7 (J0 fin)
  | exact J0 (J7 (J0 fin))
  | exact J0 fin
def iw:List (TE × TE)->St->Hp->(List (V × V)->Hp->Prop)->Prop
 | [],_,H,Q=>Q [] H
 | (tk,a)::r,σ,H,Q=>tk σ H λx d=>a σ d λy c=>iw r σ c λps b=>Q ((x,y)::ps) b
abbrev VV:List (V × V)->List (Value × Value)->Prop:=Paired λp q=>RelV p.1 q.1/\RelV p.2 q.2
def PPs (X:Cx)(pos:Pos)(keys:List (Option Expr))(values:List Expr)(a:List (TE × TE)):Prop :=
 ∀ (pins:List (Addr × Obj)) (s:Shared) (σ:St) (H:Hp) (Q:List (V × V)->Hp->Prop),Inv X pins σ H s->iw a σ H Q ->
  wpAny (model X.prog X.w) X.A (evalPairs (pairTrees keys values X.env pos)) (λd e=>∃ b c,Inv X pins σ c e/\VV b d/\Q b c) X.xe s
theorem dj {X:Cx}{pos:Pos}:PPs X pos [] [] []:=λpins s σ H Q I h=>pairTrees_nil_walk ⟨[],H,I,.nil,h⟩
theorem gb {X:Cx}{pos:Pos}{k v:Expr}{ks:List (Option Expr)}{vs:List Expr}{tk b:TE}{a:List (TE × TE)}(o:PE X k tk)(m:PE X v b)(n:PPs X pos ks vs a) :
  PPs X pos (some k::ks) (v::vs) ((tk,b)::a):=λpins s σ H Q I h =>
 pairTrees_cons_walk (thn (o pins s σ H _ I h) λu d ⟨x,z,r,f,j⟩=>thn (m pins d σ z _ r j) λA c ⟨y,w,q,e,i⟩ =>
  thn (n pins c σ w _ q i) λws B ⟨l,t,p,rel,g⟩=>⟨(x,y)::l,t,p,.cons ⟨f,e⟩ rel,g⟩)
structure M1 (X:Cx) (o:Expr) (m:Str) (apos:Pos) (e:Expr) (cpos:Pos):Prop where
 base:attributeBase o m X.env (eval o X.env)=eval o X.env
 few:((backTo cpos (starEach [e] X.env)).all (λx=>!x.1) && (backToKw cpos (keywordEach [] X.env)).all (λx=>x.1.isSome)
  && decide (([e]:List Expr).length+([]:List Keyword).length+(if ([]:List Keyword).isEmpty then 0 else 1)<30))=true
 line:(apos.endLine == cpos.line)=true
 trees:backTo cpos (starEach [e] X.env)=[(false,eval e X.env)]
structure M2 (X:Cx) (o:Expr) (m:Str) (apos:Pos) (e f:Expr) (cpos:Pos):Prop where
 base:attributeBase o m X.env (eval o X.env)=eval o X.env
 few:((backTo cpos (starEach [e,f] X.env)).all (λx=>!x.1) && (backToKw cpos (keywordEach [] X.env)).all (λx=>x.1.isSome)
  && decide (([e,f]:List Expr).length+([]:List Keyword).length+(if ([]:List Keyword).isEmpty then 0 else 1)<30))=true
 line:(apos.endLine == cpos.line)=true
 trees:backTo cpos (starEach [e,f] X.env)=[(false,eval e X.env),(false,eval f X.env)]
end L2
namespace L2
open PySem PySem.Spec PyProof.Rows Own
def FlD (x:V)(d:PyData):Prop:=(∃ i,x=.int i/\d=.int i)\/(∃ z,x=.str z/\d=.str z/\(PyData.str z).canLay0=true)\/(∃ b,x=.bl b/\d=.bool b)\/(x=.non/\d=.none)
def DD (H:Hp):Nat->V->PyData->Prop
 | 0,x,d=>FlD x d
 | n+1,x,d=>FlD x d\/∃ a xs ds,x=.ref a/\xs.length=ds.length/\((d=.tuple ds/\H a=some (.tup xs))\/(d=.list ds/\H a=some (.lst xs)))/\∀ (j:Nat) (u:V) (e:PyData),xs[j]?=some u->ds[j]?=some e->DD H n u e
theorem DD.same {H H':Hp}(s:Same H H'):∀ {n:Nat}{x:V}{d:PyData},DD H n x d->DD H' n x d
 | 0,_,_,h=>h
 | n+1,_,_,h=>by
  rcases h with h|⟨a,xs,ds,f,e2,c,b⟩
  ·exact .inl h
  ·refine .inr ⟨a,xs,ds,f,e2,?_,λj u e p q=>DD.same s (b j u e p q)⟩
   rcases c with ⟨y,z⟩|⟨y,z⟩
   ·exact .inl ⟨y,s _ _ z⟩
   ·exact .inr ⟨y,s _ _ z⟩
theorem DD.fl {H:Hp}{n:Nat}{x:V}{d:PyData}(h:FlD x d):DD H n x d:=by
 cases n
 ·exact h
 ·exact .inl h
theorem DD.i {H:Hp}{n:Nat}(i:Int):DD H n (.int i) (.int i):=DD.fl (.inl ⟨i,rfl,rfl⟩)
theorem DD.tup {H:Hp}{n:Nat}{a:Addr}{xs:List V}{ds:List PyData}(h:H a=some (.tup xs))(l:xs.length=ds.length)(f:∀ (j:Nat) (u:V) (e:PyData),xs[j]?=some u->ds[j]?=some e->DD H n u e):DD H (n+1) (.ref a) (.tuple ds):=.inr ⟨a,xs,ds,rfl,l,.inl ⟨rfl,h⟩,f⟩
theorem zak {H:Hp}{n:Nat}{α:Type}{f:α->V}{g:α->PyData}{l:List α}(h:∀ x∈l,DD H n (f x) (g x)):(l.map f).length=(l.map g).length/\∀ (j:Nat) (u:V) (e:PyData),(l.map f)[j]?=some u->(l.map g)[j]?=some e->DD H n u e:=by
 refine⟨by rw[Jg,Jg],λj u e p q=>?_⟩;rw[Y6]at p q
 cases z:l[j]? with
 | none=>rw[z]at p;cases p
 | some x =>
  rw[z]at p q;obtain rfl:=Jm p;obtain rfl:=Jm q;exact h x (JQ z)
theorem qh {H:Hp}{n:Nat}{a:Addr}{xs:List Int}(h:H a=some (.tup (xs.map V.int))):DD H (n+1) (.ref a) (.tuple (xs.map PyData.int)) :=
 let ⟨p,q⟩:=zak (H:=H) (n:=n) (f:=V.int) (g:=PyData.int) (l:=xs) λx _=>DD.i x
 DD.tup h p q
theorem qt:∀ {ds:List PyData}{n:Nat},(∀ e∈ds,e.canLay0=true/\e.depth<=n)->PyData.canLayAll0 ds=true/\PyData.depthAll ds<=n
 | [],_,_=>⟨rfl,JJ _⟩
 | d::ds,n,h=>by
  obtain⟨a1,a2⟩:=h d JF;obtain⟨b,c⟩:=qt (ds:=ds) λe a=>h e (JE _ a);refine⟨?_,?_⟩
  ·show (d.canLay0 && PyData.canLayAll0 ds)=true
   rw[a1,b];rfl
  ·show max d.depth (PyData.depthAll ds)<=n
   lia
theorem FlD.ok {x:V}{d:PyData}(h:FlD x d):d.canLay0=true/\d.depth<=0:=by
 rcases h with ⟨i,_,rfl⟩|⟨z,_,rfl,e⟩|⟨b,_,rfl⟩|⟨_,rfl⟩
 ·exact⟨rfl,Je _⟩
 ·exact⟨e,Je _⟩
 ·exact⟨rfl,Je _⟩
 ·exact⟨rfl,Je _⟩
theorem DD.ok {H:Hp}:∀ {n:Nat}{x:V}{d:PyData},DD H n x d->d.canLay0=true/\d.depth<=n
 | 0,_,_,h=>FlD.ok h
 | n+1,_,_,h=>by
  rcases h with h|⟨a,xs,ds,k,e2,g,f⟩
  ·have:=FlD.ok h
   exact⟨this.1,by simp_all⟩
  ·obtain⟨p,q⟩:=qt (n:=n) (ds:=ds) λe c=>by
    obtain⟨j,b,i⟩:=List.getElem_of_mem c;exact(f j _ e (J9 (by simp_all)) (by rw[J9 b,i])).ok
   rcases g with ⟨rfl,_⟩|⟨rfl,_⟩
   ·exact⟨p,Nat.succ_le_succ q⟩
   ·exact⟨p,Nat.succ_le_succ q⟩
section
variable {X:Cx}
theorem FlD.reads {h:Heap}{x:V}{d:PyData}{v:Value}(f:FlD x d)(r:RelV x v):∃ as,Reads h v d as:=by
 rcases f with ⟨i,rfl,rfl⟩|⟨z,rfl,rfl,e⟩|⟨b,rfl,rfl⟩|⟨rfl,rfl⟩
 ·obtain⟨t,rfl⟩:=r
  exact⟨_,.int i t⟩
 ·obtain⟨t,rfl⟩:=r
  exact⟨_,.str z t⟩
 ·cases r
  exact⟨_,.bool b⟩
 ·cases r
  exact⟨_,.none⟩
theorem DD.reads {pins:List (Addr × Obj)}{σ:St}{H:Hp}{s:Shared}(I:Inv X pins σ H s):∀ (n:Nat) (x:V) (d:PyData) (v:Value),DD H n x d->RelV x v->∃ as,Reads s.heap v d as
 | 0,x,d,v,h,r=>FlD.reads h r
 | n+1,x,d,v,h,r=>by
  rcases h with h|⟨a,xs,ds,rfl,z,q,l⟩
  ·exact FlD.reads h r
  ·cases r
   have key:∀ its:List Value,Vals xs its->∃ as,ReadsAll s.heap its ds as:=λits g=>by
    have gl:=g.length
    exact sv (h:=s.heap) its ds (by lia) λj y A k e2=>by
     have i:j<xs.length:=by have:=(Jc.mp k).1;simp_all
     obtain⟨w,u,t⟩:=g.get (J9 i);obtain rfl:=Jm (k.symm.trans u);exact DD.reads I n _ _ _ (l j _ _ (J9 i) e2) t
   rcases q with ⟨rfl,c⟩|⟨rfl,c⟩
   ·obtain⟨its,g,⟨o,e,co,m,f⟩,_⟩:=I.tuple (SqT.of c)
    obtain⟨as,b⟩:=key its g;exact⟨as,.tuple e co f (by simpa using b)⟩
   ·obtain⟨its,g,p,_⟩:=I.list (SqL.of c)
    obtain⟨as,b⟩:=key its g;obtain⟨o,e,co,m,f⟩:=p.isList;exact⟨_,.list e co f (by simpa using b)⟩
def zbw (c:Bool):R2:=λx y H Q=>∃ n d a,n<=20/\DD H n x d/\DD H n y a/\Q (.bl (if c then PyData.eqv d a else !PyData.eqv d a)) H
theorem aY (l:X.A.units+64<cLine):OpR X (compareOp .Eq) (zbw true):=by
 intro pins s σ H x y k j Q I f e ⟨n,d,o,m,c,b,q⟩;obtain⟨as,h⟩:=c.reads I _ _ _ _ f;obtain⟨bs,g⟩:=b.reads I _ _ _ _ e;have a:=c.ok;have i:=b.ok;exact PySem.SeqAt.compareEq_reads h g a.1 i.1 (by have:=a.2;lia) ⟨.bl _,H,I,rfl,q⟩
end
abbrev KI:=Int ⊕ List Int
abbrev KN:=List KI
section
variable (prog:Program)(w:World)
def NIt (h:Heap):KI->Value->Prop
 | .inl i,v=>∃ t,v=.int i t
 | .inr xs,v=>∃ b,v=.ref b/\IsTupleKey (yZ prog w) h (xs.map Sum.inl) b
def NIts (h:Heap):KN->List Value->Prop
 | [],vs=>vs=[]
 | k::ks,vs=>∃ v r,vs=v::r/\NIt prog w h k v/\NIts h ks r
def NIs (h:Heap)(ks:KN)(a:Addr):Prop:=∃ o items n,h.get? a=some o/\o.cls=.type "tuple"/\o.data=.seq items n/\NIts prog w h ks items.toList
def nh1:KI->Int
 | .inl i=>hashInt i
 | .inr xs=>tupleKeyHash (yZ prog w) (xs.map Sum.inl)
def nd1:KI->Nat
 | .inl _=>1
 | .inr xs=>xs.length+1
def nds (ks:KN):Nat:=(ks.map nd1).sum
end
variable {prog:Program}{w:World}{A:Around}{E:Value->Shared->Prop}
theorem cZ {a b:List Int}(h:a.map (Sum.inl:Int->Key)=b.map Sum.inl):a=b :=
 List.map_inj_right (λx y e=>Sum.inl.inj e) |>.mp h
theorem NIt.inj {h:Heap}{x y:KI}{v:Value}(a:NIt prog w h x v)(b:NIt prog w h y v):x=y:=by
 cases x with
 | inl i =>
  obtain⟨t,rfl⟩:=a
  cases y with
  | inl j=>obtain⟨u,e⟩:=b;cases e;rfl
  | inr f=>obtain⟨b,e,_⟩:=b;cases e
 | inr l =>
  obtain⟨c,rfl,k⟩:=a
  cases y with
  | inl j=>obtain⟨u,e⟩:=b;cases e
  | inr f =>
   obtain⟨d,e,g⟩:=b;cases e;rw[cZ (k.inj g)]
theorem NIts.inj {h:Heap}:∀ {x y:KN}{vs:List Value},NIts prog w h x vs->NIts prog w h y vs->x=y
 | [],[],_,_,_=>rfl
 | [],_::_,_,a,b=>by obtain⟨v,r,e,_⟩:=b;rw[show _=[] from a]at e;cases e
 | _::_,[],_,a,b=>by obtain⟨v,r,e,_⟩:=a;rw[show _=[] from b]at e;cases e
 | x::j,y::i,_,a,b=>by
  obtain⟨v,r,rfl,g,f⟩:=a;obtain⟨k,l,e,d,c⟩:=b;cases e;rw[g.inj d,NIts.inj f c]
theorem NIs.inj {h:Heap}{x y:KN}{a:Addr}(p:NIs prog w h x a)(q:NIs prog w h y a):x=y:=by
 obtain⟨o,j,n,g,_,f,e⟩:=p;obtain⟨k,d,l,c,_,b,i⟩:=q;rw[g]at c;cases c;rw[f]at b;cases b;exact e.inj i
theorem NIt.keeps {h h':Heap}{d:Addr}{o:Obj}{es ep}(hd:h.get? d=some o)(c:o.data=.dict es ep)(s:Heap.SameBut d h h'){k:KI}{v:Value}(a:NIt prog w h k v):NIt prog w h' k v:=by
 cases k with
 | inl i=>exact a
 | inr g =>
  obtain⟨b,e,f⟩:=a;exact⟨b,e,f.keeps hd c s⟩
theorem NIts.keeps {h h':Heap}{d:Addr}{o:Obj}{es ep}(hd:h.get? d=some o)(b:o.data=.dict es ep)(s:Heap.SameBut d h h'):∀ {ks:KN}{vs:List Value},NIts prog w h ks vs->NIts prog w h' ks vs
 | [],_,a=>a
 | k::ks,_,a=>by
  obtain⟨v,r,e,a1,a2⟩:=a;exact⟨v,r,e,a1.keeps hd b s,NIts.keeps hd b s a2⟩
theorem NIs.keeps {h h':Heap}{ks:KN}{a d:Addr}{o:Obj}{es ep}(p:NIs prog w h ks a)(hd:h.get? d=some o)(f:o.data=.dict es ep)(s:Heap.SameBut d h h'):NIs prog w h' ks a:=by
 obtain⟨g,e,n,c,j,b,i⟩:=p;refine⟨g,e,n,?_,j,b,i.keeps hd f s⟩;rw[s.2 a (by rintro rfl;rw[hd]at c;cases c;rw[f]at b;cases b)];exact c
theorem tW:∀ (ks:KN) (vs:List Value) (c:Array Int) (s:Shared) (Q:Array Int->Shared->Prop),A.units<cLine->NIts prog w s.heap ks vs->Q (c++(ks.map (nh1 prog w)).toArray) { s with toks:=s.toks+nds ks } ->
  wpAny (model prog w) A (forIn vs c λx c=>(do let r <- pyHash x;pure (ForInStep.yield (c.push r)))) Q E s
 | [],vs,c,s,Q,d,a,q=>by
  rw[show vs=[] from a,Zy];refine J7 ?_
  simpa [nds] using q
 | k::ks,vs,c,s,Q,d,a,q=>by
  obtain⟨v,r,rfl,f,j⟩:=a;rw[Z5]
  have h:∀ (m:Nat),m=nd1 k->({ s with toks:=s.toks+m+nds ks }:Shared)={ s with toks:=s.toks+nds (k::ks) }:=λm e=>by
   subst e;unfold nds;rw[JT,List.sum_cons,Zt]
  have e2:c.push (nh1 prog w k)++(ks.map (nh1 prog w)).toArray=c++((k::ks).map (nh1 prog w)).toArray:=by simp
  have go:∀ (m:Nat),m=nd1 k->wpAny (model prog w) A (forIn r (c.push (nh1 prog w k)) λx c=>(do let r <- pyHash x;pure (ForInStep.yield (c.push r)))) Q E { s with toks:=s.toks+m }:=λm e =>
   tW ks r (c.push (nh1 prog w k)) { s with toks:=s.toks+m } Q d j (by rw[e2];have:=h m e;simp only at this ⊢;rw[this];exact q)
  cases k with
  | inl i =>
   obtain⟨t,rfl⟩:=f
   exact J0 (J0 (wpAny_pyHash_int (J7 (go 1 rfl))))
  | inr l =>
   obtain⟨b,rfl,g⟩:=f;exact J0 (J0 (wpAny_pyHash_tuple d g (J7 (go _ (by rw[Jg];rfl)))))
theorem iC {s:Shared}{a:Addr}{ks:KN}{Q:Int->Shared->Prop}(c:A.units+1<cLine)(d:NIs prog w s.heap ks a)(q:Q (reduceHash (Builtin.Tuple.tupleHashOf (ks.map (nh1 prog w)))) { s with toks:=s.toks+(nds ks+1) }):wpAny (model prog w) A (pyHash (.ref a)) Q E s:=by
 obtain⟨o,g,n,b,f,e,hi⟩:=d;show wpAny (model prog w) A (pyHashByItsType (.ref a)) Q E s;refine W.pyHash_slot (T:="tuple") (id:="tuple.__hash__") (B:=Builtin.«tuple.__hash__») ⟨o,b,f⟩ F.slot_tuple_hash F.entry_tuple_hash (F.args_tuple_hash_1 _) (by decide) (.inr (by lia)) ?_;unfold Builtin.«tuple.__hash__»;refine J0 ?_;show wpAny _ _ (pure _) _ _ _;refine J7 (J0 (wpAny_tupleItemsOf b e ?_));rw[<- Array.forIn_toList];refine J0 (tW ks _ _ s _ c hi ?_);simp only[Array.empty_append];unfold retInt;exact J0 (wpAny_mkInt (J7 ⟨_,_,rfl,q⟩))
theorem rE {i:Int}{t:Tok}{n:Nat}{s:Shared}{Q:Bool->Shared->Prop}(q:Q true s):wpAny (model prog w) A (eqIsQuiet n (.int i t)) Q E s:=by
 cases n<;>exact J7 q
theorem uG {n:Nat}{s:Shared}:∀ (vs:List Value) (Q:Option Bool × Unit->Shared->Prop),(∀ v∈vs,∀ R:Bool->Shared->Prop,R true s->wpAny (model prog w) A (eqIsQuiet n v) R E s)->Q (none,()) s ->
  wpAny (model prog w) A (forIn vs ((none,()):Option Bool × Unit) λy _=>(do
   let b <- eqIsQuiet n y
   if (!b)=true then pure (ForInStep.done (some false,())) else pure (ForInStep.yield (none,())))) Q E s
 | [],Q,_,q=>by rw[Zy];exact J7 q
 | v::vs,Q,h,q=>by
  rw[Z5];exact J0 (J0 (h v JF _ (J7 (uG vs Q (λu a=>h u (JE _ a)) q))))
theorem rD {s:Shared}{a:Addr}{o:Obj}{its:Array Value}{m n:Nat}{Q:Bool->Shared->Prop}(c:s.heap.get? a=some o) (d:o.cls=.type "tuple") (hd:o.data=.seq its m)
  (h:∀ v∈its.toList,∀ R:Bool->Shared->Prop,R true s->wpAny (model prog w) A (eqIsQuiet n v) R E s) (q:Q true s):wpAny (model prog w) A (eqIsQuiet (n+1) (.ref a)) Q E s:=by
 have ty:s.TypeIs (.ref a) "tuple":=⟨o,c,d⟩;unfold eqIsQuiet;refine J0 (ZM (T:="tuple") ty F.slot_tuple_eq.lookup (J0 (YA (T:="tuple") (b:=true) ty rfl ?_)));show wpAny _ _ (do let _ <- seqItems? _;_) _ _ _;refine J0 (Yi c hd (J0 ?_));rw[W9,<- Array.forIn_toList];exact uG _ _ h (J7 q)
theorem NIts.mem {h:Heap}:∀ {ks:KN}{vs:List Value},NIts prog w h ks vs->∀ v∈vs,∃ k,NIt prog w h k v
 | [],_,a,v,b=>by rw[show _=[] from a]at b;cases b
 | k::ks,_,a,v,b=>by
  obtain⟨x,r,rfl,a1,a2⟩:=a;rcases Js.mp b with rfl|z
  ·exact⟨k,a1⟩
  ·exact NIts.mem a2 v z
theorem oS {i:Int}{v:Value}(h:(yZ prog w).is (.inl i) v=true):∃ t,v=.int i t:=by
 rw[mT]at h;rcases yK h with ⟨j,t,e,rfl⟩|⟨x,t,e,_⟩
 ·cases e;exact⟨t,rfl⟩
 ·cases e
theorem mj {ks:List Key}{vs:List Value}(h:ItemsAre (yZ prog w) ks vs):∀ xs:List Int,ks=xs.map Sum.inl->∀ v∈vs,∃ i t,v=.int i t:=by
 induction h with
 | nil=>intro xs _ v a;cases a
 | cons b _ ih =>
  intro xs e v a
  cases xs with
  | nil=>cases e
  | cons x xs =>
   rw[JT]at e;injection e with c e2;subst c;rcases Js.mp a with rfl|z
   ·obtain⟨t,e⟩:=oS b
    exact⟨x,t,e⟩
   ·exact ih xs e2 v z
theorem items_int {ks:List Int}{vs:List Value}(h:ItemsAre (yZ prog w) (ks.map Sum.inl) vs):∀ v∈vs,∃ i t,v=.int i t:=mj h ks rfl
theorem tE {s:Shared}{a:Addr}{ks:KN}{Q:Bool->Shared->Prop}(c:NIs prog w s.heap ks a)(q:Q true s):wpAny (model prog w) A (eqIsQuiet 8 (.ref a)) Q E s:=by
 obtain⟨o,x,n,l,p,m,hi⟩:=c;refine rD l p m (λv h R r=>?_) q;obtain⟨k,c⟩:=hi.mem v h
 cases k with
 | inl i=>obtain⟨t,rfl⟩:=c;exact rE r
 | inr z =>
  obtain⟨b,rfl,B,y,C,d,g,f,e⟩:=c;refine rD d g f (λu j R r=>?_) r;obtain⟨i,t,rfl⟩:=items_int e u j;exact rE r
def dI:KI->PyData
 | .inl i=>.int i
 | .inr xs=>.tuple (xs.map PyData.int)
def dN (ks:KN):PyData:=.tuple (ks.map dI)
theorem mM {h:Heap}{ks:List Key}{vs:List Value}(a:ItemsAre (yZ prog w) ks vs):∀ xs:List Int,ks=xs.map Sum.inl->∃ as,ReadsAll h vs (xs.map PyData.int) as:=by
 induction a with
 | nil =>
  intro xs e
  cases xs with
  | nil=>exact⟨_,.nil⟩
  | cons x xs=>cases e
 | cons b _ ih =>
  intro xs e
  cases xs with
  | nil=>cases e
  | cons x xs =>
   rw[JT]at e;injection e with c e2;subst c;obtain⟨t,rfl⟩:=oS b;obtain⟨as,r⟩:=ih xs e2;exact⟨_,.cons (.int x t) r⟩
theorem NIt.reads {h:Heap}{k:KI}{v:Value}(a:NIt prog w h k v):∃ as,Reads h v (dI k) as:=by
 cases k with
 | inl i=>obtain⟨t,rfl⟩:=a;exact⟨_,.int i t⟩
 | inr c =>
  obtain⟨b,rfl,o,j,n,g,f,e,d⟩:=a;obtain⟨as,r⟩:=mM (h:=h) d c rfl;exact⟨_,.tuple g f e r⟩
theorem NIts.reads {h:Heap}:∀ {ks:KN}{vs:List Value},NIts prog w h ks vs->∃ as,ReadsAll h vs (ks.map dI) as
 | [],_,a=>by rw[show _=[] from a];exact⟨_,.nil⟩
 | k::ks,_,a=>by
  obtain⟨v,r,rfl,a1,a2⟩:=a;obtain⟨as,p⟩:=a1.reads;obtain⟨bs,q⟩:=NIts.reads a2;exact⟨_,.cons p q⟩
theorem NIs.reads {h:Heap}{ks:KN}{a:Addr}(p:NIs prog w h ks a):∃ as,Reads h (.ref a) (dN ks) as:=by
 obtain⟨o,f,n,e,d,c,b⟩:=p;obtain⟨as,r⟩:=b.reads;exact⟨_,.tuple e d c r⟩
theorem nG:∀ (x y:List Int),PyData.eqvAll (x.map PyData.int) (y.map PyData.int)=decide (x=y)
 | [],[]=>rfl
 | [],_::_=>rfl
 | _::_,[]=>rfl
 | a::x,b::y=>by
  show (PyData.eqv (.int a) (.int b) && PyData.eqvAll (x.map PyData.int) (y.map PyData.int))=_;rw[nG x y,show PyData.eqv (.int a) (.int b)=(a == b) from rfl,Yw];simp
theorem zaj (x y:KI):PyData.eqv (dI x) (dI y)=decide (x=y):=by
 cases x<;>cases y
 ·rw[show PyData.eqv (dI (.inl _)) (dI (.inl _))=(_ == _) from rfl,Yw];simp
 ·rfl
 ·rfl
 ·show PyData.eqvAll _ _=_
  rw[nG,Yw];simp
theorem kO:∀ (x y:KN),PyData.eqvAll (x.map dI) (y.map dI)=decide (x=y)
 | [],[]=>rfl
 | [],_::_=>rfl
 | _::_,[]=>rfl
 | a::x,b::y=>by
  show (PyData.eqv (dI a) (dI b) && PyData.eqvAll (x.map dI) (y.map dI))=_;rw[kO x y,zaj,Yw];simp
theorem o0:∀ x:List Int,PyData.canLayAll0 (x.map PyData.int)=true/\PyData.depthAll (x.map PyData.int)<=0
 | []=>⟨rfl,Je _⟩
 | a::x=>by
  obtain⟨p,q⟩:=o0 x;refine⟨?_,?_⟩
  ·show (PyData.canLay0 (.int a) && PyData.canLayAll0 (x.map PyData.int))=true
   rw[p];rfl
  ·show max 0 (PyData.depthAll (x.map PyData.int))<=0
   simp_all
theorem md (ks:KN):(dN ks).canLay0=true/\(dN ks).depth<=2:=by
 have key:∀ e∈ks.map dI,e.canLay0=true/\e.depth<=1:=λe b=>by
  obtain⟨k,_,rfl⟩:=Jv.mp b
  cases k with
  | inl i=>exact⟨rfl,by show 0<=1;lia⟩
  | inr a =>
   obtain⟨p,q⟩:=o0 a;refine⟨p,?_⟩;show PyData.depthAll (a.map PyData.int)+1<=1
   simp_all
 obtain⟨p,q⟩:=qt key;refine⟨p,?_⟩;show PyData.depthAll (ks.map dI)+1<=2
 simp_all
theorem cq {s:Shared}{x y:KN}{a b:Addr}{Q:Bool->Shared->Prop}(k:A.units+2<cLine)(h:NIs prog w s.heap x a)(g:NIs prog w s.heap y b)(q:Q (decide (x=y)) s):wpAny (model prog w) A (eqBool (.ref a) (.ref b)) Q E s:=by
 obtain⟨as,d⟩:=h.reads;obtain⟨bs,c⟩:=g.reads;obtain⟨f,j⟩:=md x;obtain⟨e,i⟩:=md y;refine PySem.SeqAt.eqBoolOverData prog w A E s _ _ _ _ as bs Q d c f e (by lia) ?_;rw[show PyData.eqv (dN x) (dN y)=PyData.eqvAll (x.map dI) (y.map dI) from rfl,kO];exact q
variable (prog w)
def yM:HeapKind prog w KN where
 is:=NIs prog w
 hash:=λa=>reduceHash (Builtin.Tuple.tupleHashOf (a.map (nh1 prog w)))
 draws:=λa=>nds a+1
 room:=λA=>A.units+2<cLine
 inj:=λc b=>NIs.inj c b
 keeps:=λx g i f=>NIs.keeps x g i f
 pyHash:=λe d h=>iC (by lia) d h
 eqBool:=λe c b h=>cq e c b h
 quiet:=λd h=>tE d h
end L2
namespace Own
open PySem PySem.Spec PyProof.Rows
theorem qc:typeLookup (.type "list") "keys" = pure none:=by
 exact(by rw[typeLookup_type,builtinLookup_eq_fast];kernel_rfl)
theorem qd:typeLookup (.type "list") "__getattr__" = pure none:=by
 exact(by rw[typeLookup_type,builtinLookup_eq_fast];kernel_rfl)
section
variable {prog:Program}{w:World}{A:Around}{E:Value->Shared->Prop}{s:Shared}{l:Addr}{its:Array Value}{n:Nat}
theorem mh {u:Tok}{Q:Fin->Shared->Prop}(c:s.heap.get? l=some { cls:=.type "list",data:=.seq its n }) (f:A.handled=none)
  (h:∀ b a e,Heap.NewAttrErr s.heap b e (.ref l) "keys"->E (.ref e) { s with heap:=b,toks:=a }) :
  wpAny (model prog w) A (Builtin.«object.__getattribute__» ⟨[.ref l,.str "keys" u],[]⟩) Q E s:=by
 obtain⟨d,g,i,a,os⟩:=s;have ty:(⟨d,g,i,a,os⟩:Shared).TypeIs (.ref l) "list":=⟨_,c,rfl⟩;have j:=qc;unfold Builtin.«object.__getattribute__»
 repeat any_goals (first|assumption|wp_step)
 repeat any_goals (first|assumption|wp_step)
 exact wpAny_raiseAttrError f h (attrMsg_fits (by decide +kernel) (by size_fits))
theorem j6 {u:Tok}{R:Result->Shared->Prop}(a:s.heap.get? l=some { cls:=.type "list",data:=.seq its n }) (d:A.handled=none)
  (h:∀ b c e,Heap.NewAttrErr s.heap b e (.ref l) "keys"->R (.error (.ref e)) { s with heap:=b,toks:=c }) :
  codeAny (model prog w) A (.call (.builtin "list.__getattribute__") ⟨[.ref l,.str "keys" u],[]⟩) R s :=
 codeAny_call_builtin F.slot_list_getattribute.plain F.entry_list_ga (F.slot_list_getattribute.check _ _ _ _ _ _ _ _ (show s.TypeIs (.ref l) "list" from⟨_,a,rfl⟩) (F.args_list_getattribute_2 _ _) (mh (A:=A.in1) a d h))
theorem jz {Q:Option Value->Shared->Prop}(f:s.heap.get? l=some { cls:=.type "list",data:=.seq its n }) (m:A.handled=none)
  (h:∀ a d,(∀ b o,s.heap.get? b=some o->a.get? b=some o)->Q none { s with heap:=a,toks:=d }) :
  wpAny (model prog w) A (getAttr? (.ref l) "keys") Q E s:=by
 obtain⟨j,g,i,d,os⟩:=s;have ty:(⟨j,g,i,d,os⟩:Shared).TypeIs (.ref l) "list":=⟨_,f,rfl⟩;have x:=sub_AttributeError;have t:=F.slot_list_getattribute.lookup;have v:=F.slot_list_getattribute.bind (.ref l);have u:=qd;unfold getAttr? getAttrBy? getAttrBy
 repeat any_goals (first|assumption|wp_step)
 refine j6 f m λa c e ne=>?_;obtain⟨r,p,k⟩:=ne.there;have q:({ heap:=a,gens:=g,drawn:=i,toks:=c,os:=os }:Shared).TypeIs (.ref e) "AttributeError":=⟨_,k,rfl⟩;dsimp only;unfold getattributeRaised
 repeat any_goals (first|assumption|wp_step)
 exact h a c ne.keeps
end
theorem wN:entryFor table "dict.update.loop" = some Builtin.«dict.update.loop»:=entryFor_of_fast (by kernel_rfl)
theorem yo:plainId "dict.update.loop" = true:=by decide +kernel
end Own
namespace L2
open PySem PySem.Spec PyProof.Rows Own
structure MgD (mg:Str->Option Value):Prop where
 dict:mg "dict" = none
end L2
namespace Ts
open PySem PyProof.Rows
structure Cmp (prog:Program) (w:World) (A:Around) (s:Shared) (κ:SortKind) (P:Keyed->Prop) (rk:Keyed->Int):Prop where
 ask:∀ (x y:Keyed),P x->P y->∀ {Q:Bool->Shared->Prop}{E:Value->Shared->Prop},Q (decide (rk x<rk y)) s->wpAny (model prog w) A (keyLt' κ x.1 y.1) Q E s
def R (rk:Keyed->Int)(xs:Array Keyed)(i:Nat):Int:=match xs[i]? with
 | some p=>rk p
 | none=>0
theorem R_congr {rk:Keyed->Int}{xs ys:Array Keyed}{i j:Nat}(h:xs[i]?=ys[j]?):R rk xs i=R rk ys j:=by unfold R;rw[h]
def Up (rk:Keyed->Int)(xs:Array Keyed)(lo n:Nat):Prop:=∀ i j,lo<=i->i<=j->j<lo+n->R rk xs i<=R rk xs j
def Dn (rk:Keyed->Int)(xs:Array Keyed)(lo n:Nat):Prop:=∀ i j,lo<=i->i<=j->j<lo+n->R rk xs j<=R rk xs i
structure Bs (κ:SortKind) (P:Keyed->Prop) (a₀:Array Keyed) (st:SortSt):Prop where
 kind:kindOf st=κ
 fail:failedOf st=none
 perm:(arrOf st).Perm a₀
 all:∀ p∈a₀.toList,P p
theorem Bs.size {κ:SortKind}{P:Keyed->Prop}{a₀:Array Keyed}{st:SortSt}(h:Bs κ P a₀ st):(arrOf st).size=a₀.size:=h.perm.size_eq
theorem Bs.at {κ:SortKind}{P:Keyed->Prop}{a₀:Array Keyed}{st:SortSt}(h:Bs κ P a₀ st){i:Nat}(hi:i<a₀.size)(rk:Keyed->Int):∃ p,(arrOf st)[i]?=some p/\P p/\R rk (arrOf st) i=rk p:=by
 have e:(arrOf st)[i]?=some ((arrOf st)[i]'(by rw[h.size];exact hi)):=getElem?_pos (arrOf st) i (by rw[h.size];exact hi);refine⟨_,e,h.all _ ((Array.perm_iff_toList_perm.mp h.perm).mem_iff.mp (by simp)),?_⟩;unfold R;rw[e]
theorem Bs.arr {κ:SortKind}{P:Keyed->Prop}{a₀:Array Keyed}{st:SortSt}(h:Bs κ P a₀ st){xs:Array Keyed}(a:xs.Perm (arrOf st)):Bs κ P a₀ (setArr st xs):=⟨h.kind,h.fail,a.trans h.perm,h.all⟩
section
variable {prog:Program}{w:World}{A:Around}{E:Value->Shared->Prop}{s:Shared}{κ:SortKind}{P:Keyed->Prop}{rk:Keyed->Int}{a₀:Array Keyed}
theorem ot (C:Cmp prog w A s κ P rk){st:SortSt}{x y:Keyed}{Q:Option Bool->SortSt->Prop}(b:kindOf st=κ)(a:P x)(py:P y)(h:Q (some (decide (rk x<rk y))) st):wpS (model prog w) A E s (lt' x y) Q st:=by
 rw[lt'_eq];refine Jj (Wr (Jj (wpS_lift (Zs ?_))));rw[b];exact C.ask x y a py ⟨rfl,Jh h⟩
theorem wT {r:String}{st:SortSt}{Q:Unit->SortSt->Prop}(h:Q () st):wpS (model prog w) A E s (liftM (rule r):StateT SortSt Sem Unit) Q st:=wpS_lift (YJ ⟨rfl,h⟩)
theorem zP {st:SortSt}{arr:Array Keyed}{i:Nat}{p:Keyed}{Q:Keyed->SortSt->Prop}(e:arr[i]?=some p)(h:Q p st):wpS (model prog w) A E s (elem' arr i) Q st:=by
 rw[elem'_eq,e];exact Jh h
theorem ou (C:Cmp prog w A s κ P rk){st:SortSt}{i j:Nat}{Q:Option Bool->SortSt->Prop}(a:Bs κ P a₀ st)(hi:i<a₀.size)(e:j<a₀.size)(h:Q (some (decide (R rk (arrOf st) i<R rk (arrOf st) j))) st):wpS (model prog w) A E s (ltAt' i j) Q st:=by
 obtain⟨p,f,pp,c⟩:=a.at hi rk;obtain⟨q,e2,d,b⟩:=a.at e rk;rw[c,b]at h;rw[ltAt'_eq];exact Jj (Wr (Jj (zP f (Jj (zP e2 (ot C a.kind pp d h))))))
structure Keep (κ:SortKind) (P:Keyed->Prop) (rk:Keyed->Int) (a₀:Array Keyed) (lo:Nat) (st st':SortSt):Prop where
 b:Bs κ P a₀ st'
 pend:pendingOf st'=pendingOf st
 low:∀ k,k<lo->R rk (arrOf st') k=R rk (arrOf st) k
theorem Keep.refl {lo:Nat}{st:SortSt}(h:Bs κ P a₀ st):Keep κ P rk a₀ lo st st:=⟨h,rfl,λ_ _=>rfl⟩
theorem Keep.trans {lo:Nat}{st a st2:SortSt}(h:Keep κ P rk a₀ lo st a)(g:Keep κ P rk a₀ lo a st2):Keep κ P rk a₀ lo st st2:=⟨g.b,g.pend.trans h.pend,λk b=>(g.low k b).trans (h.low k b)⟩
theorem R_mirror {xs:Array Keyed}{i j:Nat}(a:j<=xs.size)(k:Nat):R rk (mirror xs i j ((j-i) / 2)) k=if i<=k/\k<j then R rk xs (i+j-1-k) else R rk xs k:=by
 have e:=getElem?_mirror_all (xs:=xs) (i:=i) a k;split at e
 ·next h=>rw[Jf h];exact R_congr e
 ·next h=>rw[Jd h];exact R_congr e
theorem qP {lo i j:Nat}{st:SortSt}{Q:Unit->SortSt->Prop}(a:Bs κ P a₀ st)(c:lo<=i)(b:j<=a₀.size)(h:∀ st',Keep κ P rk a₀ lo st st'->(∀ k,R rk (arrOf st') k=if i<=k/\k<j then R rk (arrOf st) (i+j-1-k) else R rk (arrOf st) k)->Q () st'):wpS (model prog w) A E s (reverseSlice' i j) Q st:=by
 rw[reverseSlice'_eq];refine Ws (h _ ⟨a.arr (mirror_perm _ _ _ _),rfl,λk d=>?_⟩ λk=>?_)
 ·show R rk (mirror (arrOf st) i j ((j-i) / 2)) k=_
  rw[R_mirror (by rw[a.size];exact b),Jd (by lia)]
 ·exact R_mirror (by rw[a.size];exact b) k
theorem eH (C:Cmp prog w A s κ P rk){st:SortSt}{lo j:Nat}{Q:Option Nat->SortSt->Prop}(B:Bs κ P a₀ st)(h1:1<=j)(hn:lo+j<=a₀.size)(h:∀ st' m,Keep κ P rk a₀ lo st st'->1<=m->m<=j->Up rk (arrOf st') lo m->Q (some m) st'):wpS (model prog w) A E s (countRun' lo j) Q st:=by
 have asc:∀ (st:SortSt) (y:Nat) {Z:Option (Option Nat) × Nat->SortSt->Prop},Bs κ P a₀ st->1<=y->Up rk (arrOf st) lo y ->
   (∀ n,y<=n->n<=max y j->Up rk (arrOf st) lo n->(n<j->R rk (arrOf st) (lo+n)<R rk (arrOf st) (lo+n-1))->Z (none,n) st)->
   ∀ f:Nat->Option (Option Nat) × Nat->StateT SortSt Sem (ForInStep (Option (Option Nat) × Nat)),(∀ i n,f i (none,n)=(do
    let some v <- ltAt' (lo+n) (lo+n-1)|pure (.done (some none,n))
    if v then pure (.done (none,n)) else pure (.yield (none,n+1))))->wpS (model prog w) A E s (forIn [y:j] (none,y) f) Z st:=by
  intro st y Z B h0 F G f hf;refine Yt (I:=λi c st'=>st'=st/\c=(none,i)/\y<=i/\Up rk (arrOf st) lo i) ?_ ?_ ⟨rfl,rfl,Je _,F⟩
  ·rintro i c st' hi ab ⟨rfl,rfl,O,r⟩
   rw[hf];refine Jj (ou C B (by lia) (by lia) ?_);by_cases z:R rk (arrOf st') (lo+i)<R rk (arrOf st') (lo+i-1)
   ·rw[JD z]
    exact Jh (G i O (by lia) r λ_=>z)
   ·rw[Jt z]
    refine Jh ⟨rfl,rfl,by lia,λa b p l x=>?_⟩;by_cases q:b<lo+i
    ·exact r a b p l q
    ·obtain rfl:b=lo+i:=by lia
     by_cases L:a=lo+i
     ·rw[L];exact ZA _
     ·have:=r a (lo+i-1) p (by lia) (by lia)
      lia
  ·rintro c st' ⟨rfl,rfl,O,r⟩
   exact G _ O (Je _) r λq=>by lia
 rw[countRun'_eq];refine Jj (asc st 1 B (Je _) (λa b h1 h2 O=>by rw[show a=b by lia];exact ZA _) (λn n1 n2 F X=>?_) _ (λi n=>rfl));dsimp only;by_cases z:n=j
 ·subst z
  rw[Jf (Wa _)];exact Jh (h _ _ (Keep.refl B) n1 (Je _) F)
 rw[Jd (by simpa using z)];have nl:n<j:=by lia
 have X:=X nl;generalize hT:(bind (liftM (rule "list.sort.descending-run")) _:StateT SortSt Sem (Option Nat))=T
 have tail:∀ o,Keep κ P rk a₀ lo st o->Dn rk (arrOf o) lo n->R rk (arrOf o) (lo+n)<R rk (arrOf o) (lo+n-1)->wpS (model prog w) A E s T Q o:=by
  intro o K1 d1 l1;rw[<- hT];refine Jj (wT ?_)
  have last:∀ d m,Keep κ P rk a₀ lo st d->1<=m->m<=j->Dn rk (arrOf d) lo m->∀ g,Keep κ P rk a₀ lo d g->(∀ k,R rk (arrOf g) k=if lo<=k/\k<lo+m then R rk (arrOf d) (lo+(lo+m)-1-k) else R rk (arrOf d) k)->Up rk (arrOf g) lo m:=by
   intro d m t U m2 u g D H a b p l x;rw[H,H,Jf ⟨by omega,by lia⟩,Jf ⟨by lia,by omega⟩];exact u _ _ (by lia) (by omega) (by omega)
  refine Jj (Z2 (Yt (I:=λi c d=>∃ m q,c=(none,m,q)/\m=i/\q+1<=m/\Keep κ P rk a₀ lo st d/\(i<=j->Dn rk (arrOf d) lo m/\∀ k,lo+m-(q+1)<=k->k<lo+m->R rk (arrOf d) k=R rk (arrOf d) (lo+m-1)))
   (Q:=λc d=>∃ m q,c=(none,m,q)/\1<=m/\m<=j/\q+1<=m/\Keep κ P rk a₀ lo st d/\Dn rk (arrOf d) lo m/\∀ k,lo+m-(q+1)<=k->k<lo+m->R rk (arrOf d) k=R rk (arrOf d) (lo+m-1)) ?step ?fin ?init) ?post)
  case init =>
   refine⟨n+1,0,rfl,rfl,by lia,K1,λ_=>⟨λa b p l x=>?_,λk W V=>by rw[show k=lo+(n+1)-1 by lia]⟩⟩;by_cases q:b<lo+n
   ·exact d1 a b p l q
   ·obtain rfl:b=lo+n:=by lia
    by_cases L:a=lo+n
    ·rw[L];exact ZA _
    ·have:=d1 a (lo+n-1) p (by lia) (by lia)
     lia
  case fin =>
   rintro c d ⟨m,q,rfl,e,G,t,Y⟩;obtain⟨u,eq2⟩:=Y (by lia);exact⟨m,q,rfl,by lia,by lia,G,t,u,eq2⟩
  case step =>
   rintro i c d hi ab ⟨m,q,rfl,rfl,G,t,Y⟩;obtain⟨u,eq2⟩:=Y (by lia);dsimp only;refine Jj (ou C t.b (by lia) (by lia) ?_)
   have more:∀ g,Dn rk (arrOf g) lo m->R rk (arrOf g) (lo+m)<=R rk (arrOf g) (lo+m-1)->Dn rk (arrOf g) lo (m+1):=by
    intro g S le a b p l x;by_cases q:b<lo+m
    ·exact S a b p l q
    ·obtain rfl:b=lo+m:=by lia
     by_cases L:a=lo+m
     ·rw[L];exact ZA _
     ·have:=S a (lo+m-1) p (by lia) (by lia)
      lia
   by_cases z1:R rk (arrOf d) (lo+m)<R rk (arrOf d) (lo+m-1)
   ·rw[JD z1]
    dsimp only;rw[Jf rfl];by_cases J:q > 0
    ·rw[Jf J]
     refine Jj (qP (rk:=rk) (lo:=lo) t.b (by lia) (by lia) λg D H=>Jh ?_)
     have same:∀ k,R rk (arrOf g) k=R rk (arrOf d) k:=λk=>by
      rw[H];split
      ·rw[eq2 _ (by lia) (by omega),eq2 k (by simp_all) (by simp_all)]
      ·rfl
     refine⟨m+1,0,rfl,rfl,by lia,t.trans D,λ_=>⟨more g (λa b p l x=>by rw[same,same];exact u a b p l x) (by rw[same,same];lia),λk W V=>by rw[show k=lo+(m+1)-1 by lia]⟩⟩
    ·rw[Jd J]
     exact Jh ⟨m+1,0,rfl,rfl,by lia,t,λ_=>⟨more d u (by lia),λk W V=>by rw[show k=lo+(m+1)-1 by lia]⟩⟩
   ·rw[Jt z1]
    dsimp only;rw[Jd Jp];refine Jj (ou C t.b (by lia) (by lia) ?_);by_cases K:R rk (arrOf d) (lo+m-1)<R rk (arrOf d) (lo+m)
    ·rw[JD K]
     dsimp only;rw[Jf rfl];exact Jh ⟨m,q,rfl,by lia,by lia,G,t,u,eq2⟩
    ·rw[Jt K]
     dsimp only;rw[Jd Jp];have e:R rk (arrOf d) (lo+m)=R rk (arrOf d) (lo+m-1):=by lia
     refine Jh ⟨m+1,q+1,rfl,rfl,by simp_all,t,λ_=>⟨more d u (by simp_all),λk W V=>?_⟩⟩;rw[show lo+(m+1)-1=lo+m by simp_all];by_cases q3:k=lo+m
     ·rw[q3]
     ·rw[eq2 k (by lia) (by lia),e]
  case post =>
   rintro c d ⟨m,q,rfl,U,m2,G,t,u,eq2⟩;dsimp only;generalize ao:(bind (reverseSlice' lo (lo+m)) _:StateT SortSt Sem (Option Nat))=T2
   have on:∀ g,Keep κ P rk a₀ lo st g->Dn rk (arrOf g) lo m->wpS (model prog w) A E s T2 Q g:=by
    intro g D S;rw[<- ao];refine Jj (qP (rk:=rk) (lo:=lo) D.b (by lia) (by lia) λM K4 r4=>?_);refine Jj (asc M m K4.b U (last g m D U m2 S M K4 r4) (λn' a1 a2 r _=>?_) _ (λi n=>rfl));exact Jh (h _ _ (D.trans K4) (by lia) (by simp_all) r)
   by_cases J:q > 0
   ·rw[Jf J]
    refine Jj (qP (rk:=rk) (lo:=lo) t.b (by lia) (by lia) λg D H=>?_)
    have same:∀ k,R rk (arrOf g) k=R rk (arrOf d) k:=λk=>by
     rw[H];split
     ·rw[eq2 _ (by lia) (by omega),eq2 k (by simp_all) (by simp_all)]
     ·rfl
    exact on g (t.trans D) (λa b p l x=>by rw[same,same];exact u a b p l x)
   ·rw[Jd J]
    exact on d t u
 by_cases K:n > 1
 ·rw[Jf K]
  refine Jj (ou C B (by lia) (by lia) ?_);by_cases z3:R rk (arrOf st) lo<R rk (arrOf st) (lo+n-1)
  ·rw[JD z3]
   exact Jh (h _ _ (Keep.refl B) n1 (by simp_all) F)
  ·rw[Jt z3]
   dsimp only;rw[Jd Jp];refine Jj (qP (rk:=rk) (lo:=lo) B (by lia) (by lia) λo K1 N=>tail o K1 (λa b p l x=>?_) ?_)
   ·rw[N,N,Jf ⟨by lia,by omega⟩,Jf ⟨by omega,by lia⟩]
    exact F _ _ (by lia) (by omega) (by omega)
   ·rw[N,N,Jd (by lia),Jf ⟨by lia,by lia⟩]
    have:=F (lo+(lo+n)-1-(lo+n-1)) (lo+n-1) (by omega) (by omega) (by lia);have e:lo+(lo+n)-1-(lo+n-1)=lo:=by omega
    rw[e]at this ⊢;have:=F lo (lo+n-1) (by lia) (by omega) (by omega);lia
 ·rw[Jd K]
  exact tail st (Keep.refl B) (λa b p l x=>by rw[show a=b by lia];exact ZA _) X
theorem R_bubble {xs:Array Keyed}{src d:Nat}(c:src<xs.size)(hd:d<=src)(k:Nat):R rk (bubble xs src d) k=if k=src-d then R rk xs src else if src-d<k/\k<=src then R rk xs (k-1) else R rk xs k:=by
 have e:=getElem?_bubble (xs:=xs) c d hd k;by_cases b:k=src-d
 ·rw[Jf b]at e ⊢;exact R_congr e
 ·rw[Jd b]at e ⊢
  by_cases a:(src-d<k/\k<=src)
  ·rw[Jf a]at e ⊢;exact R_congr e
  ·rw[Jd a]at e ⊢;exact R_congr e
theorem zam (C:Cmp prog w A s κ P rk){st:SortSt}{lo n ok:Nat}{Q:Bool->SortSt->Prop}(J:Bs κ P a₀ st)(S:1<=ok)(hok:ok<=n)(hn:lo+n<=a₀.size)(O:Up rk (arrOf st) lo ok)(h:∀ st',Keep κ P rk a₀ lo st st'->Up rk (arrOf st') lo n->Q true st'):wpS (model prog w) A E s (binarySort' lo n ok) Q st:=by
 rw[binarySort'_eq];rw[show max ok 1=ok by simp_all];refine Jj (Z2 (Yt (I:=λk c a=>c=(none,())/\Keep κ P rk a₀ lo st a/\Up rk (arrOf a) lo (min k n)) (Q:=λc a=>c=(none,())/\Keep κ P rk a₀ lo st a/\Up rk (arrOf a) lo n) ?step ?fin ?init) ?post)
 case init=>exact⟨rfl,Keep.refl J,by rwa [Zr hok]⟩
 case fin =>
  rintro c a ⟨rfl,f,e⟩;rw[show min (max ok n) n=n by simp_all]at e;exact⟨rfl,f,e⟩
 case post =>
  rintro c a ⟨rfl,f,e⟩;exact Jh (h a f e)
 case step =>
  rintro k c a L K ⟨rfl,f,e⟩;rw[show min k n=k by lia]at e
  refine Jj (Z2 (Yt (I:=λx c b=>b=a/\∃ l r,c=(none,l,r)/\l<=r/\r<=k/\r-l<=k-x/\(∀ i,lo<=i->i<lo+l->R rk (arrOf a) i<=R rk (arrOf a) (lo+k))/\(∀ i,lo+r<=i->i<lo+k->R rk (arrOf a) (lo+k)<=R rk (arrOf a) i))
   (Q:=λc b=>b=a/\∃ l r,c=(none,l,r)/\l<=k/\(∀ i,lo<=i->i<lo+l->R rk (arrOf a) i<=R rk (arrOf a) (lo+k))/\(∀ i,lo+l<=i->i<lo+k->R rk (arrOf a) (lo+k)<=R rk (arrOf a) i)) ?istep ?ifin ?iinit) ?ipost)
  case iinit=>exact⟨rfl,0,k,rfl,by lia,by lia,by simp_all,λi _ _=>by lia,λi _ _=>by lia⟩
  case ifin =>
   rintro c b ⟨rfl,l,r,rfl,G,g,m,p,o⟩;obtain rfl:l=r:=by lia
   exact⟨rfl,l,l,rfl,g,p,o⟩
  case istep =>
   rintro x c b _ N ⟨rfl,l,r,rfl,G,g,m,p,o⟩;dsimp only;by_cases ge:l>=r
   ·rw[Jf ge]
    obtain rfl:l=r:=by lia
    exact Jh ⟨rfl,l,l,rfl,g,p,o⟩
   ·rw[Jd ge]
    refine Jj (ou C f.b (by lia) (by lia) ?_);by_cases z:R rk (arrOf b) (lo+k)<R rk (arrOf b) (lo+(l+r) / 2)
    ·rw[JD z]
     refine Jh ⟨rfl,l,(l+r) / 2,rfl,by lia,by lia,by grind,p,λi u H=>?_⟩;have:=e (lo+(l+r) / 2) i (by simp_all) u (by omega);lia
    ·rw[Jt z]
     refine Jh ⟨rfl,(l+r) / 2+1,r,rfl,by lia,by omega,by grind,λi u H=>?_,o⟩;have:=e i (lo+(l+r) / 2) u (by lia) (by lia);lia
  case ipost =>
   rintro c b ⟨rfl,l,r,rfl,M,p,o⟩;dsimp only;rw[moveDown'_eq];have sz:=f.b.size
   have t:∀ j,R rk (arrOf (setArr b (bubble (arrOf b) (lo+k) (lo+k-(lo+l))))) j=if j=lo+l then R rk (arrOf b) (lo+k) else if lo+l<j/\j<=lo+k then R rk (arrOf b) (j-1) else R rk (arrOf b) j:=λj=>by
    have:=R_bubble (rk:=rk) (xs:=arrOf b) (src:=lo+k) (d:=lo+k-(lo+l)) (by rw[sz];lia) (by simp_all) j;rw[show lo+k-(lo+k-(lo+l))=lo+l by lia]at this;exact this
   refine Jj (Ws (Jh ⟨rfl,f.trans ⟨f.b.arr (bubble_perm _ _ _),rfl,λj y=>?_⟩,λi j hi v y=>?_⟩))
   ·rw[t,Jd (by lia),Jd (by lia)]
   ·rw[show min (k+1) n=k+1 by lia]at y
    rw[t,t];by_cases F:i=lo+l
    ·rw[Jf F]
     by_cases q:j=lo+l
     ·rw[Jf q];exact ZA _
     ·rw[Jd q,Jf ⟨by lia,by lia⟩]
      exact o _ (by lia) (by lia)
    ·rw[Jd F]
     by_cases D:lo+l<i/\i<=lo+k
     ·rw[Jf D,Jd (by lia),Jf ⟨by lia,by lia⟩]
      exact e _ _ (by lia) (by lia) (by lia)
     ·rw[Jd D]
      by_cases q:j=lo+l
      ·rw[Jf q];exact p _ hi (by lia)
      ·rw[Jd q]
       by_cases B:lo+l<j/\j<=lo+k
       ·rw[Jf B];exact e _ _ hi (by grind) (by lia)
       ·rw[Jd B];exact e _ _ hi v (by lia)
end
def cp:Bool->Keyed->Array Keyed->Nat->Nat->Nat->StateT SortSt Sem (Option Nat):=sortPriv% PySem.Builtin.gallop
def bd (left:Bool)(k r:Int):Bool:=if left=true then decide (r<k) else !decide (k<r)
theorem bH {left:Bool}{k r a:Int}(h:r<=a)(b:bd left k a=true):bd left k r=true:=by
 unfold bd at *;cases left
 ·simp only[Yc,Z9,ZZ,JY]at *;omega
 ·simp only[Yy,Y4]at *;omega
section
variable {prog:Program}{w:World}{A:Around}{E:Value->Shared->Prop}{s:Shared}{κ:SortKind}{P:Keyed->Prop}{rk:Keyed->Int}
theorem nU (C:Cmp prog w A s κ P rk){st:SortSt}{left:Bool}{key:Keyed}{arr:Array Keyed}{j:Nat}{Q:Option Bool->SortSt->Prop}(d:kindOf st=κ)(c:P key)(a:∃ p,arr[j]?=some p/\P p)(h:Q (some (bd left (rk key) (R rk arr j))) st) :
  wpS (model prog w) A E s (elem' arr j >>= λx=>if left=true then lt' x key else (lt' key x >>= λr=>pure (r.map λb=>!b))) Q st:=by
 obtain⟨p,e,pp⟩:=a;have r:R rk arr j=rk p:=by unfold R;rw[e]
 rw[r]at h;refine Jj (zP e ?_);unfold bd at h;cases left
 ·rw[Jd Jp]at h ⊢
  exact Jj (ot C d c pp (Jh h))
 ·rw[Jf rfl]at h ⊢
  exact ot C d pp c h
theorem yq (C:Cmp prog w A s κ P rk){st:SortSt}{left:Bool}{key:Keyed}{arr:Array Keyed}{base n hint:Nat}{Q:Option Nat->SortSt->Prop}(D:kindOf st=κ)(y:P key)(g:∀ i,i<n->∃ p,arr[base+i]?=some p/\P p)(hu:Up rk arr base n)(hh:hint<n)(h:∀ k,k<=n->(∀ i,i<k->bd left (rk key) (R rk arr (base+i))=true)->(∀ i,k<=i->i<n->bd left (rk key) (R rk arr (base+i))=false)->Q (some k) st):wpS (model prog w) A E s (cp left key arr base n hint) Q st:=by
 have K:∀ i j,i<=j->j<n->bd left (rk key) (R rk arr (base+j))=true->bd left (rk key) (R rk arr (base+i))=true:=λi j J H b=>bH (hu _ _ (by simp_all) (by simp_all) (by simp_all)) b
 have up:∀ i j,i<=j->j<n->bd left (rk key) (R rk arr (base+i))=false->bd left (rk key) (R rk arr (base+j))=false:=λi j J H b=>by
  cases q:bd left (rk key) (R rk arr (base+j)) with
  | false=>rfl
  | true=>rw[K i j J H q]at b;cases b
 refine Jj (nU C D y (g hint hh) ?_);dsimp only
 have half:∀ (lo hi:Nat) (f:Nat->Option (Option Nat) × Nat × Nat->StateT SortSt Sem (ForInStep (Option (Option Nat) × Nat × Nat))),lo<=hi->hi<=n ->
   (∀ i,i<lo->bd left (rk key) (R rk arr (base+i))=true)->(∀ i,hi<=i->i<n->bd left (rk key) (R rk arr (base+i))=false) ->
   (∀ x l r (u:ForInStep (Option (Option Nat) × Nat × Nat)->SortSt->Prop),(r<=l->u (.done (none,l,r)) st)->(l<r->r<=n->bd left (rk key) (R rk arr (base+(l+(r-l) / 2)))=true->u (.yield (none,l+(r-l) / 2+1,r)) st) ->
    (l<r->r<=n->bd left (rk key) (R rk arr (base+(l+(r-l) / 2)))=false->u (.yield (none,l,l+(r-l) / 2)) st)->r<=n->wpS (model prog w) A E s (f x (none,l,r)) u st) ->
   wpS (model prog w) A E s (forIn [:n] (none,lo,hi) f) (λc a=>a=st/\∃ k,c=(none,k,k)/\Q (some k) st) st:=by
  intro lo hi f J H h3 h4 hf;refine Yt (I:=λx c a=>a=st/\∃ l r,c=(none,l,r)/\l<=r/\r<=n/\r-l<=n-x/\(∀ i,i<l->bd left (rk key) (R rk arr (base+i))=true)/\(∀ i,r<=i->i<n->bd left (rk key) (R rk arr (base+i))=false)) ?_ ?_ ⟨rfl,lo,hi,rfl,J,H,by grind,h3,h4⟩
  ·rintro x c a _ V ⟨rfl,l,r,rfl,Z,e,m,M,L⟩
   refine hf x l r _ (λz=>?_) (λY X b=>?_) (λY X b=>?_) e
   ·obtain rfl:l=r:=by grind
    exact⟨rfl,l,rfl,h l e M L⟩
   ·exact⟨rfl,_,r,rfl,by grind,e,by grind,λi F=>K i _ (by grind) (by grind) b,L⟩
   ·exact⟨rfl,l,_,rfl,by simp_all,by grind,by omega,M,λi G B=>up _ i G B b⟩
  ·rintro c a ⟨rfl,l,r,rfl,Z,e,m,M,L⟩
   obtain rfl:l=r:=by grind
   exact⟨rfl,l,rfl,h l e M L⟩
 cases W:bd left (rk key) (R rk arr (base+hint)) with
 | true =>
  rw[Jf rfl]
  refine Jj (Z2 (Yt (I:=λx c a=>a=st/\∃ l o,c=(none,l,o)/\x+1<=o/\l<o/\hint+l<n/\bd left (rk key) (R rk arr (base+(hint+l)))=true)
   (Q:=λc a=>a=st/\∃ l o,c=(none,l,o)/\l<o/\hint+l<n/\bd left (rk key) (R rk arr (base+(hint+l)))=true/\(o<n-hint->bd left (rk key) (R rk arr (base+(hint+o)))=false)) ?_ ?_ ⟨rfl,0,1,rfl,by simp_all,by simp_all,by omega,W⟩) ?_)
  ·rintro x c a _ V ⟨rfl,l,o,rfl,N,d,ln,b⟩
   dsimp only;by_cases z:o>=n-hint
   ·rw[Jf z]
    exact Jh ⟨rfl,l,o,rfl,d,ln,b,λq=>by omega⟩
   ·rw[Jd z]
    refine Jj (nU C D y (g (hint+o) (by grind)) ?_)
    cases q:bd left (rk key) (R rk arr (base+(hint+o))) with
    | true=>exact Jh ⟨rfl,o,2*o+1,rfl,by grind,by grind,by grind,q⟩
    | false=>exact Jh ⟨rfl,l,o,rfl,d,ln,b,λ_=>q⟩
  ·rintro c a ⟨rfl,l,o,rfl,N,d,ln,b⟩
   exact⟨rfl,l,o,rfl,d,ln,b,λq=>by grind⟩
  ·rintro c a ⟨rfl,l,o,rfl,d,ln,b,nb⟩
   dsimp only;refine Jj (Z2 (half _ _ _ (by omega) (by omega) (λi F=>K i _ (by grind) ln b) (λi G B=>?_) ?_) ?_)
   ·have q:o<n-hint:=by omega
    exact up _ i (by grind) B (nb q)
   ·intro x t v u T S O e
    dsimp only;by_cases z:t>=v
    ·rw[Jf z];exact Jh (T z)
    ·rw[Jd z]
     refine Jj (nU C D y (g _ (by grind)) ?_)
     cases q:bd left (rk key) (R rk arr (base+(t+(v-t) / 2))) with
     | true=>exact Jh (S (by simp_all) e q)
     | false=>exact Jh (O (by simp_all) e q)
   ·rintro c a ⟨rfl,k,rfl,U⟩
    exact Jh U
 | false =>
  rw[Jd Jp]
  refine Jj (Z2 (Yt (I:=λx c a=>a=st/\∃ l o,c=(none,l,o)/\x+1<=o/\l<o/\l<=hint/\bd left (rk key) (R rk arr (base+(hint-l)))=false)
   (Q:=λc a=>a=st/\∃ l o,c=(none,l,o)/\l<o/\l<=hint/\bd left (rk key) (R rk arr (base+(hint-l)))=false/\(o<hint+1->bd left (rk key) (R rk arr (base+(hint-o)))=true)) ?_ ?_ ⟨rfl,0,1,rfl,by simp_all,by simp_all,by simp_all,W⟩) ?_)
  ·rintro x c a _ V ⟨rfl,l,o,rfl,N,d,ln,b⟩
   dsimp only;by_cases z:o>=hint+1
   ·rw[Jf z]
    exact Jh ⟨rfl,l,o,rfl,d,ln,b,λq=>by omega⟩
   ·rw[Jd z]
    refine Jj (nU C D y (g (hint-o) (by grind)) ?_)
    cases q:bd left (rk key) (R rk arr (base+(hint-o))) with
    | true=>exact Jh ⟨rfl,l,o,rfl,d,ln,b,λ_=>q⟩
    | false=>exact Jh ⟨rfl,o,2*o+1,rfl,by grind,by grind,by grind,q⟩
  ·rintro c a ⟨rfl,l,o,rfl,N,d,ln,b⟩
   exact⟨rfl,l,o,rfl,d,ln,b,λq=>by grind⟩
  ·rintro c a ⟨rfl,l,o,rfl,d,ln,b,nb⟩
   dsimp only;refine Jj (Z2 (half _ _ _ (by omega) (by grind) (λi F=>?_) (λi G B=>up _ i G B b) ?_) ?_)
   ·have q:o<hint+1:=by omega
    exact K i _ (by grind) (by grind) (nb q)
   ·intro x t v u T S O e
    dsimp only;by_cases z:t>=v
    ·rw[Jf z];exact Jh (T z)
    ·rw[Jd z]
     refine Jj (nU C D y (g _ (by grind)) ?_)
     cases q:bd left (rk key) (R rk arr (base+(t+(v-t) / 2))) with
     | true=>exact Jh (S (by simp_all) e q)
     | false=>exact Jh (O (by simp_all) e q)
   ·rintro c a ⟨rfl,k,rfl,U⟩
    exact Jh U
end
def Srt (rk:Keyed->Int)(l:List Keyed):Prop:=l.Pairwise λx y=>rk x<=rk y
structure Lo (rk:Keyed->Int) (T out a b:List Keyed):Prop where
 so:Srt rk out
 sa:Srt rk a
 sb:Srt rk b
 oa:∀ x∈out,∀ y∈a,rk x<=rk y
 ob:∀ x∈out,∀ y∈b,rk x<=rk y
 pm:(out++(a++b)).Perm T
section
variable {rk:Keyed->Int}{T out a b c:List Keyed}
theorem Lo.swap (h:Lo rk T out a b):Lo rk T out b a:=⟨h.so,h.sb,h.sa,h.ob,h.oa,((W7 (l₁:=b) (l₂:=a)).append_left out).trans h.pm⟩
theorem Lo.take (h:Lo rk T out (c++a) b)(le:∀ x∈c,∀ y∈b,rk x<=rk y):Lo rk T (out++c) a b:=by
 obtain⟨i,g,f⟩:=Yk.mp h.sa;refine⟨Yk.mpr ⟨h.so,i,λx e y d=>h.oa x e y (Yj _ d)⟩,g,h.sb,λx e y d=>?_,λx e y d=>?_,?_⟩
 ·rcases Jy.mp e with q|q
  ·exact h.oa x q y (JB _ d)
  ·exact f x q y d
 ·rcases Jy.mp e with q|q
  ·exact h.ob x q y d
  ·exact le x q y d
 ·have:=h.pm
  rw[Y0]at this ⊢;exact this
theorem Lo.end (h:Lo rk T out a []):(out++a).Perm T/\Srt rk (out++a):=by
 have:=h.pm;rw[Y3]at this;exact⟨this,Yk.mpr ⟨h.so,h.sa,h.oa⟩⟩
theorem Lo.lone (h:Lo rk T out a b)(le:∀ x∈b,∀ y∈a,rk x<=rk y):(out++b++a).Perm T/\Srt rk (out++b++a):=by
 refine⟨?_,Yk.mpr ⟨Yk.mpr ⟨h.so,h.sb,h.ob⟩,h.sa,λx d y c=>?_⟩⟩
 ·rw[Y0]
  exact((W7 (l₁:=b) (l₂:=a)).append_left out).trans h.pm
 ·rcases Jy.mp d with q|q
  ·exact h.oa x q y c
  ·exact le x q y c
theorem qg {arr:Array Keyed}{i:Nat}{p:Keyed}(e:arr[i]?=some p):arr.toList.drop i=p::arr.toList.drop (i+1):=by
 obtain⟨hi,e⟩:=JU.mp e;have a:i<arr.toList.length:=by rw[Jx];exact hi
 rw[YC a,ZB,e]
theorem tZ (arr:Array Keyed)(i k:Nat):arr.toList.drop i=(arr.extract i (i+k)).toList++arr.toList.drop (i+k):=by
 rw[ZC,Z4,Nat.add_sub_cancel_left,<- List.drop_drop,List.take_append_drop]
theorem vm (arr:Array Keyed)(i:Nat):(arr.extract i).toList=arr.toList.drop i:=by
 rw[ZC,Z4];exact JS (by rw[Yh,Jx];exact Je _)
theorem bA {arr:Array Keyed}{i k:Nat}{x:Keyed}(h:x∈(arr.extract i (i+k)).toList):∃ j,j<k/\arr[i+j]?=some x:=by
 rw[ZC,Z4,Nat.add_sub_cancel_left]at h;obtain⟨j,a⟩:=Zu.mp h
 have b:j<k:=by
  have:=(Jc.mp a).1;rw[JC]at this;grind
 rw[Zg b,List.getElem?_drop]at a;exact⟨j,b,by rw[<- Ye];exact a⟩
theorem xX {arr:Array Keyed}{i:Nat}{x:Keyed}(h:x∈arr.toList.drop i):∃ j,arr[i+j]?=some x:=by
 obtain⟨j,a⟩:=Zu.mp h;rw[List.getElem?_drop]at a;exact⟨j,by rw[<- Ye];exact a⟩
theorem R_at {arr:Array Keyed}{i:Nat}{p:Keyed}(e:arr[i]?=some p):R rk arr i=rk p:=by unfold R;rw[e]
theorem xa {arr:Array Keyed}(h:Srt rk arr.toList){base n:Nat}(hn:base+n<=arr.size):Up rk arr base n:=by
 intro i j hi c d;have b:arr[i]?=some arr[i]:=getElem?_pos arr i (by lia);have a:arr[j]?=some arr[j]:=getElem?_pos arr j (by lia);rw[R_at b,R_at a];by_cases z:i=j
 ·subst z;exact ZA _
 ·have:=List.pairwise_iff_getElem.mp h i j (by rw[Jx];grind) (by rw[Jx];lia) (by lia)
  simpa using this
theorem xc {arr:Array Keyed}{i:Nat}{p:Keyed}(h:Srt rk arr.toList)(e:arr[i]?=some p):∀ y∈arr.toList.drop i,rk p<=rk y:=by
 have a:Srt rk (arr.toList.drop i):=List.Pairwise.drop h;rw[qg e]at a ⊢;obtain⟨c,_⟩:=Wt.mp a;intro y b;rcases Js.mp b with rfl|q
 ·exact ZA _
 ·exact c y q
end
section
variable {rk:Keyed->Int}{T:List Keyed}{out a b:Array Keyed}{ia ib k:Nat}{p:Keyed}
abbrev At (rk:Keyed->Int)(T:List Keyed)(out a b:Array Keyed)(ia ib:Nat):Prop:=Lo rk T out.toList (a.toList.drop ia) (b.toList.drop ib)
theorem At.pushA (h:At rk T out a b ia ib)(e:a[ia]?=some p)(le:∀ y∈b.toList.drop ib,rk p<=rk y):At rk T (out.push p) a b (ia+1) ib:=by
 have d:=h;unfold At at d ⊢;rw[qg e]at d;rw[Zc];exact Lo.take (c:=[p]) d λx g y f=>by rw[Ja.mp g];exact le y f
theorem At.pushB (h:At rk T out a b ia ib)(e:b[ib]?=some p)(le:∀ y∈a.toList.drop ia,rk p<=rk y):At rk T (out.push p) a b ia (ib+1):=(At.pushA (a:=b) (b:=a) h.swap e le).swap
theorem At.cutA (h:At rk T out a b ia ib)(le:∀ j x,j<k->a[ia+j]?=some x->∀ y∈b.toList.drop ib,rk x<=rk y):At rk T (out++a.extract ia (ia+k)) a b (ia+k) ib:=by
 have c:=h;unfold At at c ⊢;rw[tZ a ia k]at c;rw[Y7]
 exact Lo.take c λx g y f=>by
  obtain⟨j,d,e⟩:=bA g;exact le j x d e y f
theorem At.cutB (h:At rk T out a b ia ib)(le:∀ j x,j<k->b[ib+j]?=some x->∀ y∈a.toList.drop ia,rk x<=rk y):At rk T (out++b.extract ib (ib+k)) a b ia (ib+k):=(At.cutA (a:=b) (b:=a) h.swap le).swap
theorem At.endB (h:At rk T out a b ia ib)(z:b.size<=ib):(out++a.extract ia++b.extract ib).toList.Perm T/\Srt rk (out++a.extract ia++b.extract ib).toList:=by
 have c:=h;unfold At at c;have e:b.toList.drop ib=[]:=List.drop_eq_nil_iff.mpr (by rw[Jx];exact z);rw[e]at c;rw[Y7,Y7,vm,vm,e,Y3];exact c.end
theorem At.endA (h:At rk T out a b ia ib)(z:a.size<=ia):(out++a.extract ia++b.extract ib).toList.Perm T/\Srt rk (out++a.extract ia++b.extract ib).toList:=by
 have c:=h.swap;have e:a.toList.drop ia=[]:=List.drop_eq_nil_iff.mpr (by rw[Jx];exact z);rw[e]at c;rw[Y7,Y7,vm,vm,e,Y3];exact c.end
theorem At.lastA (h:At rk T out a b ia ib)(le:∀ x∈b.toList.drop ib,∀ y∈a.toList.drop ia,rk x<=rk y):(out++b.extract ib++a.extract ia).toList.Perm T/\Srt rk (out++b.extract ib++a.extract ia).toList:=by
 rw[Y7,Y7,vm,vm];exact Lo.lone h le
end
def fI:Array Keyed->Array Keyed->StateT SortSt Sem (Array Keyed):=sortPriv% PySem.Builtin.mergeLo
def df:Nat->StateT SortSt Sem Unit:=sortPriv% PySem.Builtin.setMinGallop
structure Sm (st st':SortSt):Prop where
 kind:kindOf st'=kindOf st
 arr:arrOf st'=arrOf st
 pend:pendingOf st'=pendingOf st
 fail:failedOf st'=failedOf st
theorem Sm.refl (st:SortSt):Sm st st:=⟨rfl,rfl,rfl,rfl⟩
theorem Sm.trans {a b c:SortSt}(h:Sm a b)(g:Sm b c):Sm a c:=⟨g.kind.trans h.kind,g.arr.trans h.arr,g.pend.trans h.pend,g.fail.trans h.fail⟩
section
variable {prog:Program}{w:World}{A:Around}{E:Value->Shared->Prop}{s:Shared}{κ:SortKind}{P:Keyed->Prop}{rk:Keyed->Int}
theorem vi {st:SortSt}{g:Nat}{Q:Unit->SortSt->Prop}(h:∀ st',Sm st st'->Q () st'):wpS (model prog w) A E s (df g) Q st :=
 Ws (h _ ⟨rfl,rfl,rfl,rfl⟩)
theorem zaR (C:Cmp prog w A s κ P rk){st:SortSt}{a b:Array Keyed}{Q:Array Keyed->SortSt->Prop}(hk:kindOf st=κ)(pa:∀ x∈a.toList,P x)(pb:∀ x∈b.toList,P x)(sa:Srt rk a.toList)(sb:Srt rk b.toList)(a1:1<=a.size)(b1:1<=b.size)(first:∀ x,b[0]?=some x->∀ y∈a.toList,rk x<=rk y)(last:∀ x,a[a.size-1]?=some x->∀ y∈b.toList,rk y<=rk x)(h:∀ r st',Sm st st'->r.toList.Perm (a.toList++b.toList)->Srt rk r.toList->Q r st'):wpS (model prog w) A E s (fI a b) Q st:=by
 have V:∀ i,i<a.size->∃ x,a[i]?=some x/\P x:=λi hi=>⟨_,getElem?_pos a i hi,pa _ (by simp)⟩;have U:∀ i,i<b.size->∃ x,b[i]?=some x/\P x:=λi hi=>⟨_,getElem?_pos b i hi,pb _ (by simp)⟩;obtain⟨b0,e0,_⟩:=U 0 b1
 have lone:∀ {out:Array Keyed}{d f:Nat},At rk (a.toList++b.toList) out a b d f->d+1=a.size->(out++b.extract f++a.extract d).toList.Perm (a.toList++b.toList)/\Srt rk (out++b.extract f++a.extract d).toList:=λ{out d f} L z=>L.lastA λx hx y hy=>by
  obtain⟨j,ej⟩:=xX hy;have:=(JU.mp ej).1;exact last y (by rw[show a.size-1=d+j by lia];exact ej) x (Wg hx)
 have L0:At rk (a.toList++b.toList) #[b0] a b 0 1:=by
  have e:=qg e0;rw[ZY]at e;have hb:=sb;unfold Srt at hb;rw[e]at hb;obtain⟨h1,h2⟩:=Wt.mp hb;refine⟨YU _ _,by rw[ZY];exact sa,h2,λx hx y hy=>?_,λx hx y hy=>?_,?_⟩
  ·rw[Ja.mp hx];exact first b0 e0 y (Wg hy)
  ·rw[Ja.mp hx];exact h1 y hy
  ·rw[ZY]
   conv=>rhs;rw[e]
   show (b0::(a.toList++b.toList.drop 1)).Perm (a.toList++b0::b.toList.drop 1);exact List.perm_middle.symm
 have size:∀ {out:Array Keyed}{d f:Nat},At rk (a.toList++b.toList) out a b d f->out.size<=a.size+b.size:=λ{out d f} L=>by
  have:=L.pm.length_eq;simp only[Jb,Jx]at this;lia
 refine Jj (wT ?_);refine Jj (zP e0 ?_);dsimp only;by_cases z1:1=b.size
 ·rw[Jf (by simpa using z1)]
  obtain⟨n,m⟩:=L0.endB (by simp_all);exact Jh (h _ _ (Sm.refl _) n m)
 rw[Jd (by simpa using z1)];by_cases z2:0+1=a.size
 ·rw[Jf (by simpa using z2)]
  obtain⟨n,m⟩:=lone L0 z2;exact Jh (h _ _ (Sm.refl _) n m)
 rw[Jd (by simpa using z2)];refine Jj (Wr ?_)
 refine Jj (Z2 (Yt (I:=λi c N=>Sm st N/\∃ out d f g,c=(none,out,d,f,g)/\At rk (a.toList++b.toList) out a b d f/\d+1<a.size/\f<b.size/\i+1<=out.size)
  (Q:=λc N=>Sm st N/\∃ r x,c=(some r,x)/\r.toList.Perm (a.toList++b.toList)/\Srt rk r.toList) ?step ?fin ⟨Sm.refl _,_,_,_,_,rfl,L0,by lia,by lia,by simp⟩) ?post)
 case post =>
  rintro c N ⟨S1,r,x,rfl,n,m⟩;exact Jh (h _ _ S1 n m)
 case fin =>
  rintro c N ⟨S1,out,d,f,g,rfl,L,_,_,sz⟩;have:=size L;lia
 case step =>
  rintro i c N _ hi ⟨S1,out,d,f,g,rfl,L,X,W,sz⟩;dsimp only
  refine Jj (Z2 (Yt (I:=λj c ab=>ab=N/\∃ out d f ca Y,c=(none,out,d,f,ca,Y)/\At rk (a.toList++b.toList) out a b d f/\d+1<a.size/\f<b.size/\i+1+j<=out.size)
   (Q:=λc ab=>ab=N/\((∃ r x,c=(some r,x)/\r.toList.Perm (a.toList++b.toList)/\Srt rk r.toList)\/∃ out d f ca Y,c=(none,out,d,f,ca,Y)/\At rk (a.toList++b.toList) out a b d f/\d+1<a.size/\f<b.size/\i+2<=out.size)) ?_ ?_ ⟨rfl,_,_,_,_,_,rfl,L,X,W,by omega⟩) ?_)
  ·rintro j c ab _ hj ⟨rfl,out,d,f,ca,Y,rfl,L,X,W,sz⟩
   dsimp only;obtain⟨x,ex,px⟩:=V d (by lia);obtain⟨y,K,py⟩:=U f W;refine Jj (zP K (Jj (zP ex (Jj (ot C (S1.kind.trans hk) py px ?_)))));by_cases z:rk y<rk x
   ·rw[JD z]
    dsimp only;rw[Jf rfl];have L':=L.pushB K λu O=>ZE (Int.le_of_lt z) (xc sa ex u O);refine Jj (zP K ?_);by_cases J:f+1=b.size
    ·rw[Jf (by simpa using J)]
     obtain⟨n,m⟩:=L'.endB (by simp_all);exact Jh ⟨rfl,.inl ⟨_,_,rfl,n,m⟩⟩
    ·rw[Jd (by simpa using J)]
     by_cases zg:Y+1>=g
     ·rw[Jf zg]
      exact Jh ⟨rfl,.inr ⟨_,_,_,_,_,rfl,L',X,by lia,by rw[JA];lia⟩⟩
     ·rw[Jd zg]
      exact Jh ⟨rfl,_,_,_,_,_,rfl,L',X,by lia,by rw[JA];lia⟩
   ·rw[Jt z]
    dsimp only;rw[Jd Jp];have L':=L.pushA ex λu O=>ZE (by simp_all) (xc sb K u O);refine Jj (zP ex ?_);by_cases J:d+1+1=a.size
    ·rw[Jf (by simpa using J)]
     obtain⟨n,m⟩:=lone L' J;exact Jh ⟨rfl,.inl ⟨_,_,rfl,n,m⟩⟩
    ·rw[Jd (by simpa using J)]
     by_cases zg:ca+1>=g
     ·rw[Jf zg]
      exact Jh ⟨rfl,.inr ⟨_,_,_,_,_,rfl,L',by lia,W,by rw[JA];lia⟩⟩
     ·rw[Jd zg]
      exact Jh ⟨rfl,_,_,_,_,_,rfl,L',by lia,W,by rw[JA];lia⟩
  ·rintro c ab ⟨rfl,out,d,f,ca,Y,rfl,L,X,W,sz⟩
   have:=size L;omega
  ·rintro c ab ⟨rfl,⟨r,x,rfl,n,m⟩|⟨out,d,f,ca,Y,rfl,L,X,W,sz⟩⟩
   ·exact Jh ⟨S1,r,_,rfl,n,m⟩
   dsimp only;refine Jj (wT ?_)
   refine Jj (Z2 (Yt (I:=λj c Z=>Sm st Z/\∃ out d f g ca Y,c=(none,out,d,f,g,ca,Y)/\At rk (a.toList++b.toList) out a b d f/\d+1<a.size/\f<b.size/\i+2<=out.size)
    (Q:=λc Z=>Sm st Z/\((∃ r x,c=(some r,x)/\r.toList.Perm (a.toList++b.toList)/\Srt rk r.toList)\/∃ out d f g ca Y,c=(none,out,d,f,g,ca,Y)/\At rk (a.toList++b.toList) out a b d f/\d+1<a.size/\f<b.size/\i+2<=out.size)) ?_ ?_ ⟨S1,_,_,_,_,_,_,rfl,L,X,W,sz⟩) ?_)
   ·rintro j c Z _ hj ⟨S3,out,d,f,g,ca,Y,rfl,L,X,W,sz⟩
    dsimp only;obtain⟨y,K,py⟩:=U f W;by_cases zg:g > 1
    ·rw[Jf zg]
     refine Jj (vi λa0 o=>?_);have o:=S3.trans o;refine Jj (zP K (Jj (yq C (o.kind.trans hk) py (λt ht=>V (d+t) (by lia)) (xa sa (by lia)) (by lia) λk a3 g1 g2=>?_)));dsimp only
     have R:=L.cutA (k:=k) λt u tk eu v hv=>by
      have:=g1 t tk;rw[R_at eu]at this;unfold bd at this;simp only[Yc,Z9,ZZ,JY]at this;have:=xc sb K v hv;lia
     have hle:∀ u∈a.toList.drop (d+k),rk y<=rk u:=λu O=>by
      obtain⟨t,M⟩:=xX O;have tl:=(JU.mp M).1;have:=g2 (k+t) (by lia) (by lia);rw[<- Zt,R_at M]at this;unfold bd at this;simp only[Yc,Z9,Wu,Y4]at this;lia
     have G:i+2<=(out++a.extract d (d+k)).size:=by rw[Jw];lia
     by_cases zk:k > 0
     ·rw[Jf zk]
      by_cases za:d+k+1=a.size
      ·rw[Jf (by simpa using za)]
       obtain⟨n,m⟩:=lone R za;exact Jh ⟨o,.inl ⟨_,_,rfl,n,m⟩⟩
      rw[Jd (by simpa using za)];by_cases zc:d+k=a.size
      ·rw[Jf (by simpa using zc)]
       obtain⟨n,m⟩:=R.endA (by simp_all);exact Jh ⟨o,.inl ⟨_,_,rfl,n,m⟩⟩
      rw[Jd (by simpa using zc)];have la1:d+k+1<a.size:=by lia
      generalize d+k=T at R hle la1 G ⊢;generalize out++a.extract d T=out1 at R G ⊢;refine Jj (zP K ?_);have L2:=R.pushB K hle;by_cases J:f+1=b.size
      ·rw[Jf (by simpa using J)]
       obtain⟨n,m⟩:=L2.endB (by simp_all);exact Jh ⟨o,.inl ⟨_,_,rfl,n,m⟩⟩
      rw[Jd (by simpa using J)];obtain⟨x1,l,S⟩:=V _ (Nat.lt_of_succ_lt la1);refine Jj (zP l (Jj (yq C (o.kind.trans hk) S (λt ht=>U (f+1+t) (by grind)) (xa sb (by grind)) (by grind) λB aT c1 c2=>?_)));dsimp only
      have L3:=L2.cutB (k:=B) λt u tk eu v hv=>by
       have:=c1 t tk;rw[R_at eu]at this;unfold bd at this;simp only[Yy,Y4]at this;have:=xc sa l v hv;lia
      have p:∀ u∈b.toList.drop (f+1+B),rk x1<=rk u:=λu O=>by
       obtain⟨t,M⟩:=xX O;have tl:=(JU.mp M).1;have:=c2 (B+t) (by lia) (by grind);rw[<- Zt,R_at M]at this;unfold bd at this;simp only[Yy,JY]at this
       simp_all
      have ao:=G;by_cases F:B > 0
      ·rw[Jf F]
       by_cases zd:f+1+B=b.size
       ·rw[Jf (by simpa using zd)]
        obtain⟨n,m⟩:=L3.endB (by simp_all);exact Jh ⟨o,.inl ⟨_,_,rfl,n,m⟩⟩
       rw[Jd (by simpa using zd)];have H:f+1+B<b.size:=by grind
       refine Jj (zP l ?_);have D:=L3.pushA l p;by_cases q:T+1+1=a.size
       ·rw[Jf (by simpa using q)]
        obtain⟨n,m⟩:=lone D q;exact Jh ⟨o,.inl ⟨_,_,rfl,n,m⟩⟩
       rw[Jd (by simpa using q)];split
       ·exact Jh ⟨o,.inr ⟨_,_,_,_,_,_,rfl,D,by lia,H,by simp only[JA,Jw];lia⟩⟩
       ·exact Jh ⟨o,_,_,_,_,_,_,rfl,D,by lia,H,by simp only[JA,Jw];lia⟩
      ·rw[Jd F]
       obtain rfl:B=0:=by simp_all
       rw[Zq]at p;refine Jj (zP l ?_);have D:=L2.pushA l p;by_cases q:T+1+1=a.size
       ·rw[Jf (by simpa using q)]
        obtain⟨n,m⟩:=lone D q;exact Jh ⟨o,.inl ⟨_,_,rfl,n,m⟩⟩
       rw[Jd (by simpa using q)];split
       ·exact Jh ⟨o,.inr ⟨_,_,_,_,_,_,rfl,D,by lia,by lia,by simp only[JA,Jw];lia⟩⟩
       ·exact Jh ⟨o,_,_,_,_,_,_,rfl,D,by lia,by lia,by simp only[JA,Jw];lia⟩
     ·rw[Jd zk]
      obtain rfl:k=0:=by simp_all
      have R:=L;have la1:=X;have G:=sz;rw[Zq]at hle;refine Jj (zP K ?_);have L2:=R.pushB K hle;by_cases J:f+1=b.size
      ·rw[Jf (by simpa using J)]
       obtain⟨n,m⟩:=L2.endB (by simp_all);exact Jh ⟨o,.inl ⟨_,_,rfl,n,m⟩⟩
      rw[Jd (by simpa using J)];obtain⟨x1,l,S⟩:=V _ (Nat.lt_of_succ_lt la1);refine Jj (zP l (Jj (yq C (o.kind.trans hk) S (λt ht=>U (f+1+t) (by grind)) (xa sb (by grind)) (by grind) λB aT c1 c2=>?_)));dsimp only
      have L3:=L2.cutB (k:=B) λt u tk eu v hv=>by
       have:=c1 t tk;rw[R_at eu]at this;unfold bd at this;simp only[Yy,Y4]at this;have:=xc sa l v hv;lia
      have p:∀ u∈b.toList.drop (f+1+B),rk x1<=rk u:=λu O=>by
       obtain⟨t,M⟩:=xX O;have tl:=(JU.mp M).1;have:=c2 (B+t) (by lia) (by grind);rw[<- Zt,R_at M]at this;unfold bd at this;simp only[Yy,JY]at this
       simp_all
      have ao:=G;by_cases F:B > 0
      ·rw[Jf F]
       by_cases zd:f+1+B=b.size
       ·rw[Jf (by simpa using zd)]
        obtain⟨n,m⟩:=L3.endB (by simp_all);exact Jh ⟨o,.inl ⟨_,_,rfl,n,m⟩⟩
       rw[Jd (by simpa using zd)];have H:f+1+B<b.size:=by grind
       refine Jj (zP l ?_);have D:=L3.pushA l p;by_cases q:d+1+1=a.size
       ·rw[Jf (by simpa using q)]
        obtain⟨n,m⟩:=lone D q;exact Jh ⟨o,.inl ⟨_,_,rfl,n,m⟩⟩
       rw[Jd (by simpa using q)];split
       ·exact Jh ⟨o,.inr ⟨_,_,_,_,_,_,rfl,D,by lia,H,by simp only[JA,Jw];lia⟩⟩
       ·exact Jh ⟨o,_,_,_,_,_,_,rfl,D,by lia,H,by simp only[JA,Jw];lia⟩
      ·rw[Jd F]
       obtain rfl:B=0:=by simp_all
       rw[Zq]at p;refine Jj (zP l ?_);have D:=L2.pushA l p;by_cases q:d+1+1=a.size
       ·rw[Jf (by simpa using q)]
        obtain⟨n,m⟩:=lone D q;exact Jh ⟨o,.inl ⟨_,_,rfl,n,m⟩⟩
       rw[Jd (by simpa using q)];split
       ·exact Jh ⟨o,.inr ⟨_,_,_,_,_,_,rfl,D,by lia,by lia,by simp only[JA,Jw];lia⟩⟩
       ·exact Jh ⟨o,_,_,_,_,_,_,rfl,D,by simp_all,by lia,by simp only[JA,Jw];simp_all⟩
    ·rw[Jd zg]
     refine Jj (vi λa0 o=>?_);have o:=S3.trans o;refine Jj (zP K (Jj (yq C (o.kind.trans hk) py (λt ht=>V (d+t) (by grind)) (xa sa (by grind)) (by grind) λk a3 g1 g2=>?_)));dsimp only
     have R:=L.cutA (k:=k) λt u tk eu v hv=>by
      have:=g1 t tk;rw[R_at eu]at this;unfold bd at this;simp only[Yc,Z9,ZZ,JY]at this;have:=xc sb K v hv;lia
     have hle:∀ u∈a.toList.drop (d+k),rk y<=rk u:=λu O=>by
      obtain⟨t,M⟩:=xX O;have tl:=(JU.mp M).1;have:=g2 (k+t) (by lia) (by grind);rw[<- Zt,R_at M]at this;unfold bd at this;simp only[Yc,Z9,Wu,Y4]at this;lia
     have G:i+2<=(out++a.extract d (d+k)).size:=by rw[Jw];lia
     by_cases zk:k > 0
     ·rw[Jf zk]
      by_cases za:d+k+1=a.size
      ·rw[Jf (by simpa using za)]
       obtain⟨n,m⟩:=lone R za;exact Jh ⟨o,.inl ⟨_,_,rfl,n,m⟩⟩
      rw[Jd (by simpa using za)];by_cases zc:d+k=a.size
      ·rw[Jf (by simpa using zc)]
       obtain⟨n,m⟩:=R.endA (by simp_all);exact Jh ⟨o,.inl ⟨_,_,rfl,n,m⟩⟩
      rw[Jd (by simpa using zc)];have la1:d+k+1<a.size:=by grind
      generalize d+k=T at R hle la1 G ⊢;generalize out++a.extract d T=out1 at R G ⊢;refine Jj (zP K ?_);have L2:=R.pushB K hle;by_cases J:f+1=b.size
      ·rw[Jf (by simpa using J)]
       obtain⟨n,m⟩:=L2.endB (by simp_all);exact Jh ⟨o,.inl ⟨_,_,rfl,n,m⟩⟩
      rw[Jd (by simpa using J)];obtain⟨x1,l,S⟩:=V _ (Nat.lt_of_succ_lt la1);refine Jj (zP l (Jj (yq C (o.kind.trans hk) S (λt ht=>U (f+1+t) (by grind)) (xa sb (by grind)) (by grind) λB aT c1 c2=>?_)));dsimp only
      have L3:=L2.cutB (k:=B) λt u tk eu v hv=>by
       have:=c1 t tk;rw[R_at eu]at this;unfold bd at this;simp only[Yy,Y4]at this;have:=xc sa l v hv;lia
      have p:∀ u∈b.toList.drop (f+1+B),rk x1<=rk u:=λu O=>by
       obtain⟨t,M⟩:=xX O;have tl:=(JU.mp M).1;have:=c2 (B+t) (by lia) (by grind);rw[<- Zt,R_at M]at this;unfold bd at this;simp only[Yy,JY]at this
       simp_all
      have ao:=G;by_cases F:B > 0
      ·rw[Jf F]
       by_cases zd:f+1+B=b.size
       ·rw[Jf (by simpa using zd)]
        obtain⟨n,m⟩:=L3.endB (by simp_all);exact Jh ⟨o,.inl ⟨_,_,rfl,n,m⟩⟩
       rw[Jd (by simpa using zd)];have H:f+1+B<b.size:=by grind
       refine Jj (zP l ?_);have D:=L3.pushA l p;by_cases q:T+1+1=a.size
       ·rw[Jf (by simpa using q)]
        obtain⟨n,m⟩:=lone D q;exact Jh ⟨o,.inl ⟨_,_,rfl,n,m⟩⟩
       rw[Jd (by simpa using q)];split
       ·exact Jh ⟨o,.inr ⟨_,_,_,_,_,_,rfl,D,by lia,H,by simp only[JA,Jw];lia⟩⟩
       ·exact Jh ⟨o,_,_,_,_,_,_,rfl,D,by lia,H,by simp only[JA,Jw];lia⟩
      ·rw[Jd F]
       obtain rfl:B=0:=by simp_all
       rw[Zq]at p;refine Jj (zP l ?_);have D:=L2.pushA l p;by_cases q:T+1+1=a.size
       ·rw[Jf (by simpa using q)]
        obtain⟨n,m⟩:=lone D q;exact Jh ⟨o,.inl ⟨_,_,rfl,n,m⟩⟩
       rw[Jd (by simpa using q)];split
       ·exact Jh ⟨o,.inr ⟨_,_,_,_,_,_,rfl,D,by lia,by lia,by simp only[JA,Jw];lia⟩⟩
       ·exact Jh ⟨o,_,_,_,_,_,_,rfl,D,by lia,by lia,by simp only[JA,Jw];lia⟩
     ·rw[Jd zk]
      obtain rfl:k=0:=by simp_all
      have R:=L;have la1:=X;have G:=sz;rw[Zq]at hle;refine Jj (zP K ?_);have L2:=R.pushB K hle;by_cases J:f+1=b.size
      ·rw[Jf (by simpa using J)]
       obtain⟨n,m⟩:=L2.endB (by simp_all);exact Jh ⟨o,.inl ⟨_,_,rfl,n,m⟩⟩
      rw[Jd (by simpa using J)];obtain⟨x1,l,S⟩:=V _ (Nat.lt_of_succ_lt la1);refine Jj (zP l (Jj (yq C (o.kind.trans hk) S (λt ht=>U (f+1+t) (by grind)) (xa sb (by grind)) (by grind) λB aT c1 c2=>?_)));dsimp only
      have L3:=L2.cutB (k:=B) λt u tk eu v hv=>by
       have:=c1 t tk;rw[R_at eu]at this;unfold bd at this;simp only[Yy,Y4]at this;have:=xc sa l v hv;lia
      have p:∀ u∈b.toList.drop (f+1+B),rk x1<=rk u:=λu O=>by
       obtain⟨t,M⟩:=xX O;have tl:=(JU.mp M).1;have:=c2 (B+t) (by lia) (by grind);rw[<- Zt,R_at M]at this;unfold bd at this;simp only[Yy,JY]at this
       simp_all
      have ao:=G;by_cases F:B > 0
      ·rw[Jf F]
       by_cases zd:f+1+B=b.size
       ·rw[Jf (by simpa using zd)]
        obtain⟨n,m⟩:=L3.endB (by simp_all);exact Jh ⟨o,.inl ⟨_,_,rfl,n,m⟩⟩
       rw[Jd (by simpa using zd)];have H:f+1+B<b.size:=by grind
       refine Jj (zP l ?_);have D:=L3.pushA l p;by_cases q:d+1+1=a.size
       ·rw[Jf (by simpa using q)]
        obtain⟨n,m⟩:=lone D q;exact Jh ⟨o,.inl ⟨_,_,rfl,n,m⟩⟩
       rw[Jd (by simpa using q)];split
       ·exact Jh ⟨o,.inr ⟨_,_,_,_,_,_,rfl,D,by lia,H,by simp only[JA,Jw];lia⟩⟩
       ·exact Jh ⟨o,_,_,_,_,_,_,rfl,D,by lia,H,by simp only[JA,Jw];lia⟩
      ·rw[Jd F]
       obtain rfl:B=0:=by simp_all
       rw[Zq]at p;refine Jj (zP l ?_);have D:=L2.pushA l p;by_cases q:d+1+1=a.size
       ·rw[Jf (by simpa using q)]
        obtain⟨n,m⟩:=lone D q;exact Jh ⟨o,.inl ⟨_,_,rfl,n,m⟩⟩
       rw[Jd (by simpa using q)];split
       ·exact Jh ⟨o,.inr ⟨_,_,_,_,_,_,rfl,D,by lia,by lia,by simp only[JA,Jw];lia⟩⟩
       ·exact Jh ⟨o,_,_,_,_,_,_,rfl,D,by simp_all,by lia,by simp only[JA,Jw];simp_all⟩
   ·rintro c Z ⟨S3,out,d,f,g,ca,Y,rfl,L,X,W,sz⟩
    exact⟨S3,.inr ⟨_,_,_,_,_,_,rfl,L,X,W,sz⟩⟩
   ·rintro c Z ⟨S3,⟨r,x,rfl,n,m⟩|⟨out,d,f,g,ca,Y,rfl,L,X,W,sz⟩⟩
    ·exact Jh ⟨S3,r,_,rfl,n,m⟩
    dsimp only;refine Jj (vi λa0 o=>?_);exact Jh ⟨S3.trans o,_,_,_,_,rfl,L,X,W,by omega⟩
end
def fJ:Array Keyed->Array Keyed->StateT SortSt Sem (Array Keyed):=sortPriv% PySem.Builtin.mergeHi
structure Hi (rk:Keyed->Int) (T a b out:List Keyed):Prop where
 sa:Srt rk a
 sb:Srt rk b
 so:Srt rk out
 ao:∀ x∈a,∀ y∈out,rk x<=rk y
 bo:∀ x∈b,∀ y∈out,rk x<=rk y
 pm:(a++b++out).Perm T
section
variable {rk:Keyed->Int}{T out a b c:List Keyed}
theorem Hi.swap (h:Hi rk T a b out):Hi rk T b a out:=⟨h.sb,h.sa,h.so,h.bo,h.ao,((W7 (l₁:=b) (l₂:=a)).append_right out).trans h.pm⟩
theorem Hi.take (h:Hi rk T (a++c) b out)(le:∀ x∈b,∀ y∈c,rk x<=rk y):Hi rk T a b (c++out):=by
 obtain⟨i,g,f⟩:=Yk.mp h.sa;refine⟨i,h.sb,Yk.mpr ⟨g,h.so,λx d y e=>h.ao x (JB _ d) y e⟩,λx d y e=>?_,λx d y e=>?_,?_⟩
 ·rcases Jy.mp e with q|q
  ·exact f x d y q
  ·exact h.ao x (Yj _ d) y q
 ·rcases Jy.mp e with q|q
  ·exact le x d y q
  ·exact h.bo x d y q
 ·refine List.Perm.trans ?_ h.pm
  rw[<- Y0];refine List.Perm.append_right out ?_;rw[Y0,Y0];exact List.Perm.append_left a W7
theorem Hi.end (h:Hi rk T [] b out):(b++out).Perm T/\Srt rk (b++out):=⟨h.pm,Yk.mpr ⟨h.sb,h.so,h.bo⟩⟩
theorem Hi.lone (h:Hi rk T a b out)(le:∀ x∈b,∀ y∈a,rk x<=rk y):(b++a++out).Perm T/\Srt rk (b++a++out):=by
 refine⟨((W7 (l₁:=b) (l₂:=a)).append_right out).trans h.pm,Yk.mpr ⟨Yk.mpr ⟨h.sb,h.sa,le⟩,h.so,λx d y c=>?_⟩⟩;rcases Jy.mp d with q|q
 ·exact h.bo x q y c
 ·exact h.ao x q y c
theorem e7 {arr:Array Keyed}{n:Nat}{p:Keyed}(b:1<=n)(e:arr[n-1]?=some p):arr.toList.take n=arr.toList.take (n-1)++[p]:=by
 obtain⟨hi,e⟩:=JU.mp e;have a:n-1<arr.toList.length:=by rw[Jx];exact hi
 have:=W0 a;rw[Nat.sub_add_cancel b,ZB,e]at this;exact this
theorem ir (arr:Array Keyed){i n:Nat}(h:i<=n):arr.toList.take n=arr.toList.take i++(arr.extract i n).toList:=by
 rw[ZC,Z4];have:=List.take_add (l:=arr.toList) (i:=i) (j:=n-i);rw[show i+(n-i)=n by simp_all]at this;exact this
theorem w5 (arr:Array Keyed)(n:Nat):(arr.extract 0 n).toList=arr.toList.take n:=by
 rw[ZC,Z4,ZY,Nat.sub_zero]
theorem w6 {arr:Array Keyed}{i n:Nat}{x:Keyed}(h:x∈(arr.extract i n).toList):∃ j,i<=j/\j<n/\arr[j]?=some x:=by
 rw[ZC,Z4]at h;obtain⟨j,a⟩:=Zu.mp h
 have b:j<n-i:=by
  have:=(Jc.mp a).1;rw[JC]at this;grind
 rw[Zg b,List.getElem?_drop]at a;exact⟨i+j,by lia,by omega,by rw[<- Ye];exact a⟩
theorem y7 {arr:Array Keyed}{n:Nat}{x:Keyed}(h:x∈arr.toList.take n):∃ j,j<n/\arr[j]?=some x:=by
 obtain⟨j,a⟩:=Zu.mp h
 have b:j<n:=by
  have:=(Jc.mp a).1;rw[JC]at this;grind
 rw[Zg b]at a;exact⟨j,b,by rw[<- Ye];exact a⟩
theorem xE {arr:Array Keyed}{n:Nat}{p:Keyed}(h:Srt rk arr.toList)(f:1<=n)(e:arr[n-1]?=some p):∀ y∈arr.toList.take n,rk y<=rk p:=by
 intro y a;obtain⟨j,c,b⟩:=y7 a;have d:=(JU.mp e).1;have:=xa h (base:=0) (n:=n) (by lia) j (n-1) (JJ _) (by lia) (by lia);rw[R_at b,R_at e]at this;exact this
end
section
variable {rk:Keyed->Int}{T:List Keyed}{out a b:Array Keyed}{na nb i:Nat}{p:Keyed}
abbrev Bt (rk:Keyed->Int)(T:List Keyed)(a b out:Array Keyed)(na nb:Nat):Prop:=Hi rk T (a.toList.take na) (b.toList.take nb) out.toList.reverse
theorem Bt.pushA (h:Bt rk T a b out na nb)(i:1<=na)(e:a[na-1]?=some p)(le:∀ x∈b.toList.take nb,rk x<=rk p):Bt rk T a b (out.push p) (na-1) nb:=by
 have d:=h;unfold Bt at d ⊢;rw[e7 i e]at d;rw[Zc,List.reverse_append];exact Hi.take (c:=[p]) d λx g y f=>by rw[Ja.mp f];exact le x g
theorem Bt.pushB (h:Bt rk T a b out na nb)(c:1<=nb)(e:b[nb-1]?=some p)(le:∀ x∈a.toList.take na,rk x<=rk p):Bt rk T a b (out.push p) na (nb-1):=(Bt.pushA (a:=b) (b:=a) h.swap c e le).swap
theorem Bt.cutA (h:Bt rk T a b out na nb)(hi:i<=na)(le:∀ j x,i<=j->j<na->a[j]?=some x->∀ y∈b.toList.take nb,rk y<=rk x):Bt rk T a b (out++(a.extract i na).reverse) i nb:=by
 have c:=h;unfold Bt at c ⊢;rw[ir a hi]at c;rw[Y7,List.reverse_append,Array.toList_reverse,List.reverse_reverse]
 exact Hi.take c λy g x k=>by
  obtain⟨j,f,d,e⟩:=w6 k;exact le j x f d e y g
theorem Bt.cutB (h:Bt rk T a b out na nb)(hi:i<=nb)(le:∀ j x,i<=j->j<nb->b[j]?=some x->∀ y∈a.toList.take na,rk y<=rk x):Bt rk T a b (out++(b.extract i nb).reverse) na i:=(Bt.cutA (a:=b) (b:=a) h.swap hi le).swap
theorem Bt.endA (h:Bt rk T a b out 0 nb):(a.extract 0 0++b.extract 0 nb++out.reverse).toList.Perm T/\Srt rk (a.extract 0 0++b.extract 0 nb++out.reverse).toList:=by
 rw[Y7,Y7,w5,w5,Wv,List.nil_append,Array.toList_reverse];exact Hi.end h
theorem Bt.endB (h:Bt rk T a b out na 0):(a.extract 0 na++b.extract 0 0++out.reverse).toList.Perm T/\Srt rk (a.extract 0 na++b.extract 0 0++out.reverse).toList:=by
 rw[Y7,Y7,w5,w5,Wv,Y3,Array.toList_reverse];exact Hi.end h.swap
theorem Bt.lone (h:Bt rk T a b out na nb)(le:∀ x∈b.toList.take nb,∀ y∈a.toList.take na,rk x<=rk y):(b.extract 0 nb++a.extract 0 na++out.reverse).toList.Perm T/\Srt rk (b.extract 0 nb++a.extract 0 na++out.reverse).toList:=by
 rw[Y7,Y7,w5,w5,Array.toList_reverse];exact Hi.lone h le
end
section
variable {prog:Program}{w:World}{A:Around}{E:Value->Shared->Prop}{s:Shared}{κ:SortKind}{P:Keyed->Prop}{rk:Keyed->Int}
theorem zaZ (C:Cmp prog w A s κ P rk){st:SortSt}{a b:Array Keyed}{Q:Array Keyed->SortSt->Prop}(hk:kindOf st=κ)(pa:∀ x∈a.toList,P x)(pb:∀ x∈b.toList,P x)(sa:Srt rk a.toList)(sb:Srt rk b.toList)(a1:1<=a.size)(b1:1<=b.size)(first:∀ x,b[0]?=some x->∀ y∈a.toList,rk x<=rk y)(last:∀ x,a[a.size-1]?=some x->∀ y∈b.toList,rk y<=rk x)(h:∀ r st',Sm st st'->r.toList.Perm (a.toList++b.toList)->Srt rk r.toList->Q r st'):wpS (model prog w) A E s (fJ a b) Q st:=by
 have K:∀ i,i<a.size->∃ x,a[i]?=some x/\P x:=λi hi=>⟨_,getElem?_pos a i hi,pa _ (by simp)⟩;have Z:∀ i,i<b.size->∃ x,b[i]?=some x/\P x:=λi hi=>⟨_,getElem?_pos b i hi,pb _ (by simp)⟩;obtain⟨z0,e0,_⟩:=K (a.size-1) (by lia)
 have lone:∀ {out:Array Keyed}{na:Nat},Bt rk (a.toList++b.toList) a b out na 1->(b.extract 0 1++a.extract 0 na++out.reverse).toList.Perm (a.toList++b.toList)/\Srt rk (b.extract 0 1++a.extract 0 na++out.reverse).toList:=λ{out na} L=>L.lone λx hx y hy=>by
  obtain⟨j,j1,ej⟩:=y7 hx;exact first x (by rw[show 0=j by simp_all];exact ej) y (Wh hy)
 have L0:Bt rk (a.toList++b.toList) a b #[z0] (a.size-1) b.size:=by
  have w0:Bt rk (a.toList++b.toList) a b #[] a.size b.size:=by
   have e1:a.toList.take a.size=a.toList:=JS (by rw[Jx];exact Je _);have e2:b.toList.take b.size=b.toList:=JS (by rw[Jx];exact Je _);unfold Bt;rw[e1,e2];exact⟨sa,sb,List.Pairwise.nil,λx hx y hy=>by simp at hy,λx hx y hy=>by simp at hy,by simp⟩
  exact w0.pushA a1 e0 λx hx=>last z0 e0 x (Wh hx)
 have size:∀ {out:Array Keyed}{na nb:Nat},Bt rk (a.toList++b.toList) a b out na nb->out.size<=a.size+b.size:=λ{out na nb} L=>by
  have:=L.pm.length_eq;simp only[Jb,List.length_reverse,Jx]at this;lia
 refine Jj (wT ?_);refine Jj (zP e0 ?_);dsimp only;by_cases z1:a.size-1=0
 ·rw[Jf (by simpa using z1)]
  rw[z1]at L0 ⊢;obtain⟨e,d⟩:=L0.endA;exact Jh (h _ _ (Sm.refl _) e d)
 rw[Jd (by simpa using z1)];by_cases z2:b.size=1
 ·rw[Jf (by simpa using z2)]
  rw[z2]at L0 ⊢;obtain⟨e,d⟩:=lone L0;exact Jh (h _ _ (Sm.refl _) e d)
 rw[Jd (by simpa using z2)];refine Jj (Wr ?_)
 refine Jj (Z2 (Yt (I:=λi c J=>Sm st J/\∃ na nb out g,c=(none,na,nb,out,g)/\Bt rk (a.toList++b.toList) a b out na nb/\1<=na/\na<=a.size/\2<=nb/\nb<=b.size/\i+1<=out.size)
  (Q:=λc J=>Sm st J/\∃ r x,c=(some r,x)/\r.toList.Perm (a.toList++b.toList)/\Srt rk r.toList) ?step ?fin ⟨Sm.refl _,_,_,_,_,rfl,L0,by lia,by simp_all,by lia,by lia,by simp⟩) ?post)
 case post =>
  rintro c J ⟨S1,r,x,rfl,e,d⟩;exact Jh (h _ _ S1 e d)
 case fin =>
  rintro c J ⟨S1,na,nb,out,g,rfl,L,_,_,_,_,sz⟩;have:=size L;lia
 case step =>
  rintro i c J _ hi ⟨S1,na,nb,out,g,rfl,L,M,B,lb,q,sz⟩;dsimp only
  refine Jj (Z2 (Yt (I:=λj c Y=>Y=J/\∃ na nb out ca W,c=(none,na,nb,out,ca,W)/\Bt rk (a.toList++b.toList) a b out na nb/\1<=na/\na<=a.size/\2<=nb/\nb<=b.size/\i+1+j<=out.size)
   (Q:=λc Y=>Y=J/\((∃ r x,c=(some r,x)/\r.toList.Perm (a.toList++b.toList)/\Srt rk r.toList)\/∃ na nb out ca W,c=(none,na,nb,out,ca,W)/\Bt rk (a.toList++b.toList) a b out na nb/\1<=na/\na<=a.size/\2<=nb/\nb<=b.size/\i+2<=out.size)) ?_ ?_ ⟨rfl,_,_,_,_,_,rfl,L,M,B,lb,q,by omega⟩) ?_)
  ·rintro j c Y _ hj ⟨rfl,na,nb,out,ca,W,rfl,L,M,B,lb,q,sz⟩
   dsimp only;obtain⟨x,ex,px⟩:=K (na-1) (by lia);obtain⟨y,H,py⟩:=Z (nb-1) (by lia);refine Jj (zP H (Jj (zP ex (Jj (ot C (S1.kind.trans hk) py px ?_)))));by_cases z:rk y<rk x
   ·rw[JD z]
    dsimp only;rw[Jf rfl];have L':=L.pushA M ex λu S=>ZE (xE sb (by lia) H u S) (Int.le_of_lt z);refine Jj (zP ex ?_);by_cases D:na-1=0
    ·rw[Jf (by simpa using D)]
     rw[D]at L' ⊢;obtain⟨e,d⟩:=L'.endA;exact Jh ⟨rfl,.inl ⟨_,_,rfl,e,d⟩⟩
    ·rw[Jd (by simpa using D)]
     by_cases zg:ca+1>=g
     ·rw[Jf zg]
      exact Jh ⟨rfl,.inr ⟨_,_,_,_,_,rfl,L',by lia,by lia,lb,q,by rw[JA];lia⟩⟩
     ·rw[Jd zg]
      exact Jh ⟨rfl,_,_,_,_,_,rfl,L',by lia,by grind,lb,q,by rw[JA];lia⟩
   ·rw[Jt z]
    dsimp only;rw[Jd Jp];have L':=L.pushB (by lia) H λu S=>ZE (xE sa M ex u S) (by simp_all);refine Jj (zP H ?_);by_cases D:nb-1=1
    ·rw[Jf (by simpa using D)]
     rw[D]at L' ⊢;obtain⟨e,d⟩:=lone L';exact Jh ⟨rfl,.inl ⟨_,_,rfl,e,d⟩⟩
    ·rw[Jd (by simpa using D)]
     by_cases zg:W+1>=g
     ·rw[Jf zg]
      exact Jh ⟨rfl,.inr ⟨_,_,_,_,_,rfl,L',M,B,by lia,by lia,by rw[JA];lia⟩⟩
     ·rw[Jd zg]
      exact Jh ⟨rfl,_,_,_,_,_,rfl,L',M,B,by lia,by grind,by rw[JA];lia⟩
  ·rintro c Y ⟨rfl,na,nb,out,ca,W,rfl,L,M,B,lb,q,sz⟩
   have:=size L;omega
  ·rintro c Y ⟨rfl,⟨r,x,rfl,e,d⟩|⟨na,nb,out,ca,W,rfl,L,M,B,lb,q,sz⟩⟩
   ·exact Jh ⟨S1,r,_,rfl,e,d⟩
   dsimp only;refine Jj (wT ?_)
   refine Jj (Z2 (Yt (I:=λj c X=>Sm st X/\∃ na nb out g ca W,c=(none,na,nb,out,g,ca,W)/\Bt rk (a.toList++b.toList) a b out na nb/\1<=na/\na<=a.size/\2<=nb/\nb<=b.size/\i+2<=out.size)
    (Q:=λc X=>Sm st X/\((∃ r x,c=(some r,x)/\r.toList.Perm (a.toList++b.toList)/\Srt rk r.toList)\/∃ na nb out g ca W,c=(none,na,nb,out,g,ca,W)/\Bt rk (a.toList++b.toList) a b out na nb/\1<=na/\na<=a.size/\2<=nb/\nb<=b.size/\i+2<=out.size)) ?_ ?_ ⟨S1,_,_,_,_,_,_,rfl,L,M,B,lb,q,sz⟩) ?_)
   ·rintro j c X _ hj ⟨S3,na,nb,out,g,ca,W,rfl,L,M,B,lb,q,sz⟩
    dsimp only;obtain⟨y,H,py⟩:=Z (nb-1) (by lia);by_cases zg:g > 1
    ·rw[Jf zg]
     refine Jj (vi λaT l=>?_);have l:=S3.trans l;refine Jj (zP H (Jj (yq C (l.kind.trans hk) py (λt ht=>K (0+t) (by lia)) (xa sa (by simp_all)) (by lia) λk ao g1 g2=>?_)));dsimp only
     have L1:=L.cutA (i:=k) ao λt u F tn eu v hv=>by
      have:=g2 t F tn;rw[YB,R_at eu]at this;unfold bd at this;simp only[Yc,Z9,Wu,Y4]at this;have:=xE sb (by lia) H v hv;lia
     have hle:∀ u∈a.toList.take k,rk u<=rk y:=λu S=>by
      obtain⟨t,F,et⟩:=y7 S;have:=g1 t F;rw[YB,R_at et]at this;unfold bd at this;simp only[Yc,Z9,ZZ,JY]at this
      simp_all
     have ab:i+2<=(out++(a.extract k na).reverse).size:=by rw[Jw];lia
     by_cases zk:na-k > 0
     ·rw[Jf zk]
      by_cases zc:k=0
      ·rw[Jf (by simpa using zc)]
       subst zc;obtain⟨e,d⟩:=L1.endA;exact Jh ⟨l,.inl ⟨_,_,rfl,e,d⟩⟩
      rw[Jd (by simpa using zc)];have R:1<=k:=by lia
      generalize na-k=kk;generalize out++(a.extract k na).reverse=out1 at L1 ab ⊢;refine Jj (zP H ?_);have L2:=L1.pushB (by lia) H hle;by_cases D:nb-1=1
      ·rw[Jf (by simpa using D)]
       rw[D]at L2 ⊢;obtain⟨e,d⟩:=lone L2;exact Jh ⟨l,.inl ⟨_,_,rfl,e,d⟩⟩
      rw[Jd (by simpa using D)];obtain⟨x1,f,U⟩:=K (k-1) (by grind);refine Jj (zP f (Jj (yq C (l.kind.trans hk) U (λt ht=>Z (0+t) (by lia)) (xa sb (by lia)) (by grind) λp V c1 c2=>?_)));dsimp only
      have T:=L2.cutB (i:=p) V λt u F tn eu v hv=>by
       have:=c2 t F tn;rw[YB,R_at eu]at this;unfold bd at this;simp only[Yy,JY]at this;have:=xE sa R f v hv;lia
      have n:∀ u∈b.toList.take p,rk u<=rk x1:=λu S=>by
       obtain⟨t,F,et⟩:=y7 S;have:=c1 t F;rw[YB,R_at et]at this;unfold bd at this;simp only[Yy,Y4]at this;lia
      by_cases G:nb-1-p > 0
      ·rw[Jf G]
       by_cases O:p=1
       ·rw[Jf (by simpa using O)]
        subst O;obtain⟨e,d⟩:=lone T;exact Jh ⟨l,.inl ⟨_,_,rfl,e,d⟩⟩
       rw[Jd (by simpa using O)];by_cases N:p=0
       ·rw[Jf (by simpa using N)]
        subst N;obtain⟨e,d⟩:=T.endB;exact Jh ⟨l,.inl ⟨_,_,rfl,e,d⟩⟩
       rw[Jd (by simpa using N)];refine Jj (zP f ?_);have m:=T.pushA R f n;by_cases o:k-1=0
       ·rw[Jf (by simpa using o)]
        rw[o]at m ⊢;obtain⟨e,d⟩:=m.endA;exact Jh ⟨l,.inl ⟨_,_,rfl,e,d⟩⟩
       rw[Jd (by simpa using o)];split
       ·exact Jh ⟨l,.inr ⟨_,_,_,_,_,_,rfl,m,by lia,by grind,by lia,by lia,by simp only[JA,Jw];lia⟩⟩
       ·exact Jh ⟨l,_,_,_,_,_,_,rfl,m,by lia,by grind,by lia,by grind,by simp only[JA,Jw];lia⟩
      ·rw[Jd G]
       obtain rfl:p=nb-1:=by grind
       refine Jj (zP f ?_);have m:=L2.pushA R f n;by_cases o:k-1=0
       ·rw[Jf (by simpa using o)]
        rw[o]at m ⊢;obtain⟨e,d⟩:=m.endA;exact Jh ⟨l,.inl ⟨_,_,rfl,e,d⟩⟩
       rw[Jd (by simpa using o)];split
       ·exact Jh ⟨l,.inr ⟨_,_,_,_,_,_,rfl,m,by lia,by grind,by lia,by grind,by simp only[JA,Jw];lia⟩⟩
       ·exact Jh ⟨l,_,_,_,_,_,_,rfl,m,by lia,by grind,by lia,by grind,by simp only[JA,Jw];lia⟩
     ·rw[Jd zk]
      obtain rfl:k=na:=by lia
      have L1:=L;have R:=M;have ab:=sz;generalize k-k=kk;refine Jj (zP H ?_);have L2:=L1.pushB (by lia) H hle;by_cases D:nb-1=1
      ·rw[Jf (by simpa using D)]
       rw[D]at L2 ⊢;obtain⟨e,d⟩:=lone L2;exact Jh ⟨l,.inl ⟨_,_,rfl,e,d⟩⟩
      rw[Jd (by simpa using D)];obtain⟨x1,f,U⟩:=K (k-1) (by lia);refine Jj (zP f (Jj (yq C (l.kind.trans hk) U (λt ht=>Z (0+t) (by grind)) (xa sb (by grind)) (by grind) λp V c1 c2=>?_)));dsimp only
      have T:=L2.cutB (i:=p) V λt u F tn eu v hv=>by
       have:=c2 t F tn;rw[YB,R_at eu]at this;unfold bd at this;simp only[Yy,JY]at this;have:=xE sa R f v hv;lia
      have n:∀ u∈b.toList.take p,rk u<=rk x1:=λu S=>by
       obtain⟨t,F,et⟩:=y7 S;have:=c1 t F;rw[YB,R_at et]at this;unfold bd at this;simp only[Yy,Y4]at this;lia
      by_cases G:nb-1-p > 0
      ·rw[Jf G]
       by_cases O:p=1
       ·rw[Jf (by simpa using O)]
        subst O;obtain⟨e,d⟩:=lone T;exact Jh ⟨l,.inl ⟨_,_,rfl,e,d⟩⟩
       rw[Jd (by simpa using O)];by_cases N:p=0
       ·rw[Jf (by simpa using N)]
        subst N;obtain⟨e,d⟩:=T.endB;exact Jh ⟨l,.inl ⟨_,_,rfl,e,d⟩⟩
       rw[Jd (by simpa using N)];refine Jj (zP f ?_);have m:=T.pushA R f n;by_cases o:k-1=0
       ·rw[Jf (by simpa using o)]
        rw[o]at m ⊢;obtain⟨e,d⟩:=m.endA;exact Jh ⟨l,.inl ⟨_,_,rfl,e,d⟩⟩
       rw[Jd (by simpa using o)];split
       ·exact Jh ⟨l,.inr ⟨_,_,_,_,_,_,rfl,m,by lia,by grind,by lia,by grind,by simp only[JA,Jw];lia⟩⟩
       ·exact Jh ⟨l,_,_,_,_,_,_,rfl,m,by lia,by grind,by lia,by grind,by simp only[JA,Jw];lia⟩
      ·rw[Jd G]
       obtain rfl:p=nb-1:=by grind
       refine Jj (zP f ?_);have m:=L2.pushA R f n;by_cases o:k-1=0
       ·rw[Jf (by simpa using o)]
        rw[o]at m ⊢;obtain⟨e,d⟩:=m.endA;exact Jh ⟨l,.inl ⟨_,_,rfl,e,d⟩⟩
       rw[Jd (by simpa using o)];split
       ·exact Jh ⟨l,.inr ⟨_,_,_,_,_,_,rfl,m,by lia,by grind,by lia,by grind,by simp only[JA,Jw];lia⟩⟩
       ·exact Jh ⟨l,_,_,_,_,_,_,rfl,m,by lia,by grind,by lia,by grind,by simp only[JA,Jw];lia⟩
    ·rw[Jd zg]
     refine Jj (vi λaT l=>?_);have l:=S3.trans l;refine Jj (zP H (Jj (yq C (l.kind.trans hk) py (λt ht=>K (0+t) (by lia)) (xa sa (by simp_all)) (by grind) λk ao g1 g2=>?_)));dsimp only
     have L1:=L.cutA (i:=k) ao λt u F tn eu v hv=>by
      have:=g2 t F tn;rw[YB,R_at eu]at this;unfold bd at this;simp only[Yc,Z9,Wu,Y4]at this;have:=xE sb (by lia) H v hv;lia
     have hle:∀ u∈a.toList.take k,rk u<=rk y:=λu S=>by
      obtain⟨t,F,et⟩:=y7 S;have:=g1 t F;rw[YB,R_at et]at this;unfold bd at this;simp only[Yc,Z9,ZZ,JY]at this
      simp_all
     have ab:i+2<=(out++(a.extract k na).reverse).size:=by rw[Jw];lia
     by_cases zk:na-k > 0
     ·rw[Jf zk]
      by_cases zc:k=0
      ·rw[Jf (by simpa using zc)]
       subst zc;obtain⟨e,d⟩:=L1.endA;exact Jh ⟨l,.inl ⟨_,_,rfl,e,d⟩⟩
      rw[Jd (by simpa using zc)];have R:1<=k:=by lia
      generalize na-k=kk;generalize out++(a.extract k na).reverse=out1 at L1 ab ⊢;refine Jj (zP H ?_);have L2:=L1.pushB (by lia) H hle;by_cases D:nb-1=1
      ·rw[Jf (by simpa using D)]
       rw[D]at L2 ⊢;obtain⟨e,d⟩:=lone L2;exact Jh ⟨l,.inl ⟨_,_,rfl,e,d⟩⟩
      rw[Jd (by simpa using D)];obtain⟨x1,f,U⟩:=K (k-1) (by grind);refine Jj (zP f (Jj (yq C (l.kind.trans hk) U (λt ht=>Z (0+t) (by grind)) (xa sb (by grind)) (by grind) λp V c1 c2=>?_)));dsimp only
      have T:=L2.cutB (i:=p) V λt u F tn eu v hv=>by
       have:=c2 t F tn;rw[YB,R_at eu]at this;unfold bd at this;simp only[Yy,JY]at this;have:=xE sa R f v hv;lia
      have n:∀ u∈b.toList.take p,rk u<=rk x1:=λu S=>by
       obtain⟨t,F,et⟩:=y7 S;have:=c1 t F;rw[YB,R_at et]at this;unfold bd at this;simp only[Yy,Y4]at this;lia
      by_cases G:nb-1-p > 0
      ·rw[Jf G]
       by_cases O:p=1
       ·rw[Jf (by simpa using O)]
        subst O;obtain⟨e,d⟩:=lone T;exact Jh ⟨l,.inl ⟨_,_,rfl,e,d⟩⟩
       rw[Jd (by simpa using O)];by_cases N:p=0
       ·rw[Jf (by simpa using N)]
        subst N;obtain⟨e,d⟩:=T.endB;exact Jh ⟨l,.inl ⟨_,_,rfl,e,d⟩⟩
       rw[Jd (by simpa using N)];refine Jj (zP f ?_);have m:=T.pushA R f n;by_cases o:k-1=0
       ·rw[Jf (by simpa using o)]
        rw[o]at m ⊢;obtain⟨e,d⟩:=m.endA;exact Jh ⟨l,.inl ⟨_,_,rfl,e,d⟩⟩
       rw[Jd (by simpa using o)];split
       ·exact Jh ⟨l,.inr ⟨_,_,_,_,_,_,rfl,m,by lia,by grind,by lia,by grind,by simp only[JA,Jw];lia⟩⟩
       ·exact Jh ⟨l,_,_,_,_,_,_,rfl,m,by lia,by grind,by lia,by grind,by simp only[JA,Jw];lia⟩
      ·rw[Jd G]
       obtain rfl:p=nb-1:=by grind
       refine Jj (zP f ?_);have m:=L2.pushA R f n;by_cases o:k-1=0
       ·rw[Jf (by simpa using o)]
        rw[o]at m ⊢;obtain⟨e,d⟩:=m.endA;exact Jh ⟨l,.inl ⟨_,_,rfl,e,d⟩⟩
       rw[Jd (by simpa using o)];split
       ·exact Jh ⟨l,.inr ⟨_,_,_,_,_,_,rfl,m,by lia,by grind,by lia,by grind,by simp only[JA,Jw];lia⟩⟩
       ·exact Jh ⟨l,_,_,_,_,_,_,rfl,m,by lia,by grind,by lia,by grind,by simp only[JA,Jw];lia⟩
     ·rw[Jd zk]
      obtain rfl:k=na:=by grind
      have L1:=L;have R:=M;have ab:=sz;generalize k-k=kk;refine Jj (zP H ?_);have L2:=L1.pushB (by lia) H hle;by_cases D:nb-1=1
      ·rw[Jf (by simpa using D)]
       rw[D]at L2 ⊢;obtain⟨e,d⟩:=lone L2;exact Jh ⟨l,.inl ⟨_,_,rfl,e,d⟩⟩
      rw[Jd (by simpa using D)];obtain⟨x1,f,U⟩:=K (k-1) (by lia);refine Jj (zP f (Jj (yq C (l.kind.trans hk) U (λt ht=>Z (0+t) (by grind)) (xa sb (by grind)) (by grind) λp V c1 c2=>?_)));dsimp only
      have T:=L2.cutB (i:=p) V λt u F tn eu v hv=>by
       have:=c2 t F tn;rw[YB,R_at eu]at this;unfold bd at this;simp only[Yy,JY]at this;have:=xE sa R f v hv;lia
      have n:∀ u∈b.toList.take p,rk u<=rk x1:=λu S=>by
       obtain⟨t,F,et⟩:=y7 S;have:=c1 t F;rw[YB,R_at et]at this;unfold bd at this;simp only[Yy,Y4]at this;lia
      by_cases G:nb-1-p > 0
      ·rw[Jf G]
       by_cases O:p=1
       ·rw[Jf (by simpa using O)]
        subst O;obtain⟨e,d⟩:=lone T;exact Jh ⟨l,.inl ⟨_,_,rfl,e,d⟩⟩
       rw[Jd (by simpa using O)];by_cases N:p=0
       ·rw[Jf (by simpa using N)]
        subst N;obtain⟨e,d⟩:=T.endB;exact Jh ⟨l,.inl ⟨_,_,rfl,e,d⟩⟩
       rw[Jd (by simpa using N)];refine Jj (zP f ?_);have m:=T.pushA R f n;by_cases o:k-1=0
       ·rw[Jf (by simpa using o)]
        rw[o]at m ⊢;obtain⟨e,d⟩:=m.endA;exact Jh ⟨l,.inl ⟨_,_,rfl,e,d⟩⟩
       rw[Jd (by simpa using o)];split
       ·exact Jh ⟨l,.inr ⟨_,_,_,_,_,_,rfl,m,by lia,by grind,by lia,by grind,by simp only[JA,Jw];lia⟩⟩
       ·exact Jh ⟨l,_,_,_,_,_,_,rfl,m,by lia,by grind,by lia,by grind,by simp only[JA,Jw];lia⟩
      ·rw[Jd G]
       obtain rfl:p=nb-1:=by grind
       refine Jj (zP f ?_);have m:=L2.pushA R f n;by_cases o:k-1=0
       ·rw[Jf (by simpa using o)]
        rw[o]at m ⊢;obtain⟨e,d⟩:=m.endA;exact Jh ⟨l,.inl ⟨_,_,rfl,e,d⟩⟩
       rw[Jd (by simpa using o)];split
       ·exact Jh ⟨l,.inr ⟨_,_,_,_,_,_,rfl,m,by lia,by grind,by lia,by grind,by simp only[JA,Jw];lia⟩⟩
       ·exact Jh ⟨l,_,_,_,_,_,_,rfl,m,by lia,by grind,by lia,by grind,by simp only[JA,Jw];lia⟩
   ·rintro c X ⟨S3,na,nb,out,g,ca,W,rfl,L,M,B,lb,q,sz⟩
    exact⟨S3,.inr ⟨_,_,_,_,_,_,rfl,L,M,B,lb,q,sz⟩⟩
   ·rintro c X ⟨S3,⟨r,x,rfl,e,d⟩|⟨na,nb,out,g,ca,W,rfl,L,M,B,lb,q,sz⟩⟩
    ·exact Jh ⟨S3,r,_,rfl,e,d⟩
    dsimp only;refine Jj (vi λaT l=>?_);exact Jh ⟨S3.trans l,_,_,_,_,rfl,L,M,B,lb,q,by omega⟩
end
section
variable {rk:Keyed->Int}
theorem ue (b:Nat):∀ (l:List Keyed) (o:Nat) (arr:Array Keyed),b+o+l.length<=arr.size->(List.foldl (λ(a:Array Keyed) (x:Keyed × Nat)=>a.setIfInBounds (b+x.2) x.1) arr (l.zipIdx o)).toList=arr.toList.take (b+o)++l++arr.toList.drop (b+o+l.length)
 | [],o,arr,_=>by
  show arr.toList=_
  rw[Y3,Z6,Zq,List.take_append_drop]
 | x::l,o,arr,h=>by
  rw[JM]at h;rw[List.zipIdx_cons,List.foldl_cons,ue b l (o+1) _ (by rw[Array.size_setIfInBounds];lia)];have c:b+o<arr.toList.length:=by rw[Jx];lia
  rw[Array.toList_setIfInBounds,<- Zt,List.drop_set_of_lt (by lia),JM,show b+o+1+l.length=b+o+(l.length+1) by lia]
  have e:(arr.toList.set (b+o) x).take (b+o+1)=arr.toList.take (b+o)++[x]:=by
   rw[W0 (by rw[List.length_set];exact c),List.getElem_set_self,List.take_set_of_le (Je _)]
  rw[e,Y0 (arr.toList.take (b+o)) [x] l];rfl
theorem kW {arr:Array Keyed}{i n j:Nat}(h:i+j<n)(hn:n<=arr.size):(arr.extract i n)[j]?=arr[i+j]?:=by
 rw[Array.getElem?_extract_of_lt (by lia)];exact(getElem?_pos arr (i+j) (by lia)).symm
theorem ny {arr:Array Keyed}{lo n:Nat}(h:Up rk arr lo n)(hn:lo+n<=arr.size):Srt rk (arr.extract lo (lo+n)).toList:=by
 refine List.pairwise_iff_getElem.mpr λi j hi b c=>?_;have a:(arr.extract lo (lo+n)).size=n:=by rw[Array.size_extract];simp_all
 rw[Jx,a]at hi b;have:=h (lo+i) (lo+j) (by lia) (by lia) (by simp_all);rw[R_at (getElem?_pos arr (lo+i) (by lia)),R_at (getElem?_pos arr (lo+j) (by lia))]at this;simpa using this
end
section
variable {prog:Program}{w:World}{A:Around}{E:Value->Shared->Prop}{s:Shared}{κ:SortKind}{P:Keyed->Prop}{rk:Keyed->Int}{a₀:Array Keyed}
theorem za2 (C:Cmp prog w A s κ P rk){st:SortSt}{Q:Bool->SortSt->Prop}{i sa na p sb nb q:Nat}(D:Bs κ P a₀ st)(e1:(pendingOf st)[i]?=some (sa,na,p))(e2:(pendingOf st)[i+1]?=some (sb,nb,q))(hs:sb=sa+na)(n1:1<=na)(n2:1<=nb)(hz:sb+nb<=a₀.size)(K:Up rk (arrOf st) sa na)(J:Up rk (arrOf st) sb nb)(h:∀ st',Bs κ P a₀ st'->pendingOf st'=((pendingOf st).setIfInBounds i (sa,na+nb,p)).eraseIdxIfInBounds (i+1)->(∀ k,k<sa\/sb+nb<=k->R rk (arrOf st') k=R rk (arrOf st) k)->Up rk (arrOf st') sa (na+nb)->Q true st'):wpS (model prog w) A E s (mergeAt' i) Q st:=by
 refine Jj (Wr ?_);dsimp only;rw[e1,e2];dsimp only;obtain⟨b0,X,a3,aT⟩:=D.at (i:=sb) (by lia) rk;have sz:=D.size
 have Z:∀ {c st2:SortSt}{Q':PUnit->SortSt->Prop},Q' ⟨⟩ st2->wpS (model prog w) A E s (set st2:StateT SortSt Sem PUnit) Q' c:=λ{c st2 Q'} hq=>by
  unfold wpS;rw[StateT.run_set];exact J7 ⟨rfl,hq⟩
 refine Jj (Z (st2:=SortSt.mk' (kindOf st) (arrOf st) (((pendingOf st).setIfInBounds i (sa,na+nb,p)).eraseIdxIfInBounds (i+1)) (gallopOf st) (failedOf st)) ?_);generalize M:SortSt.mk' (kindOf st) (arrOf st) (((pendingOf st).setIfInBounds i (sa,na+nb,p)).eraseIdxIfInBounds (i+1)) (gallopOf st) (failedOf st)=c;have d:Bs κ P a₀ c:=by rw[<- M];exact⟨D.kind,D.fail,D.perm,D.all⟩
 have U:arrOf c=arrOf st:=by rw[<- M]
 have ep:pendingOf c=((pendingOf st).setIfInBounds i (sa,na+nb,p)).eraseIdxIfInBounds (i+1):=by rw[<- M]
 have pat:∀ j,j<a₀.size->∃ x,(arrOf st)[j]?=some x/\P x:=λj B=>by
  obtain⟨x,ex,px,_⟩:=D.at B rk;exact⟨x,ex,px⟩
 refine Jj (zP X (Jj (yq (arr:=arrOf st) C d.kind a3 (λt S=>pat (sa+t) (by lia)) K (by lia) λk a6 g1 g2=>?_)));dsimp only
 have f1:∀ j,sa<=j->j<sa+k->R rk (arrOf st) j<=rk b0:=λj l o=>by
  have:=g1 (j-sa) (by lia);rw[show sa+(j-sa)=j by simp_all]at this;unfold bd at this;simp only[Yc,Z9,ZZ,JY]at this
  simp_all
 have f2:∀ j,sa+k<=j->j<sb->rk b0<=R rk (arrOf st) j:=λj l o=>by
  have:=g2 (j-sa) (by lia) (by lia);rw[show sa+(j-sa)=j by lia]at this;unfold bd at this;simp only[Yc,Z9,Wu,Y4]at this;lia
 have f0:∀ j,sb<=j->j<sb+nb->rk b0<=R rk (arrOf st) j:=λj l o=>by rw[<- aT];exact J _ _ (Je _) l o
 by_cases zk:na-k=0
 ·rw[Jf (by simpa using zk)]
  refine Jh (h c d ep (λj _=>by rw[U]) λx y g b I=>?_);rw[U];by_cases q1:y<sb
  ·exact K _ _ g b (by simp_all)
  ·by_cases q2:sb<=x
   ·exact J _ _ q2 b (by lia)
   ·exact ZE (f1 x g (by lia)) (f0 y (by simp_all) (by lia))
 rw[Jd (by simpa using zk)];have ka:sa+k+(na-k)-1=sb-1:=by lia
 rw[ka];obtain⟨l0,V,a0,ao⟩:=D.at (i:=sb-1) (by lia) rk;refine Jj (zP V (Jj (yq (arr:=arrOf st) C d.kind a0 (λt S=>pat (sb+t) (by lia)) J (by lia) λn a5 c1 c2=>?_)));dsimp only
 have f3:∀ j,sb<=j->j<sb+n->R rk (arrOf st) j<=rk l0:=λj l o=>by
  have:=c1 (j-sb) (by grind);rw[show sb+(j-sb)=j by simp_all]at this;unfold bd at this;simp only[Yy,Y4]at this;lia
 have f4:∀ j,sb+n<=j->j<sb+nb->rk l0<=R rk (arrOf st) j:=λj l o=>by
  have:=c2 (j-sb) (by lia) (by lia);rw[show sb+(j-sb)=j by lia]at this;unfold bd at this;simp only[Yy,JY]at this
  simp_all
 have f5:∀ j,sa<=j->j<sb->R rk (arrOf st) j<=rk l0:=λj l o=>by rw[<- ao];exact K _ _ l (by lia) (by lia)
 by_cases zn:n=0
 ·rw[Jf (by simpa using zn)]
  refine Jh (h c d ep (λj _=>by rw[U]) λx y g b I=>?_);rw[U];by_cases q1:y<sb
  ·exact K _ _ g b (by simp_all)
  ·by_cases q2:sb<=x
   ·exact J _ _ q2 b (by lia)
   ·exact ZE (f5 x g (by simp_all)) (f4 y (by simp_all) (by lia))
 rw[Jd (by simpa using zn)];have sx:((arrOf st).extract (sa+k) sb).size=na-k:=by rw[Array.size_extract];lia
 have sy:((arrOf st).extract sb (sb+n)).size=n:=by rw[Array.size_extract];lia
 have px:∀ x∈((arrOf st).extract (sa+k) sb).toList,P x:=λx g=>by
  obtain⟨j,l,o,L⟩:=w6 g;obtain⟨y,T,py⟩:=pat j (by lia);rw[L]at T;cases T;exact py
 have py:∀ x∈((arrOf st).extract sb (sb+n)).toList,P x:=λx g=>by
  obtain⟨j,l,o,L⟩:=w6 g;obtain⟨y,T,py⟩:=pat j (by lia);rw[L]at T;cases T;exact py
 have ox:Srt rk ((arrOf st).extract (sa+k) sb).toList:=by
  have:=ny (rk:=rk) (arr:=arrOf st) (lo:=sa+k) (n:=na-k) (λx y g b I=>K x y (by lia) b (by grind)) (by lia)
  rwa [show sa+k+(na-k)=sb by grind]at this
 have oy:Srt rk ((arrOf st).extract sb (sb+n)).toList:=ny (λx y g b I=>J x y (by omega) b (by lia)) (by lia)
 have first:∀ x,((arrOf st).extract sb (sb+n))[0]?=some x->∀ y∈((arrOf st).extract (sa+k) sb).toList,rk x<=rk y:=λx ex y I=>by
  rw[kW (by lia) (by lia),Zq,X]at ex;obtain⟨j,l,o,L⟩:=w6 I;have:=f2 j l o;rw[R_at L]at this;cases ex;exact this
 have last:∀ x,((arrOf st).extract (sa+k) sb)[((arrOf st).extract (sa+k) sb).size-1]?=some x->∀ y∈((arrOf st).extract sb (sb+n)).toList,rk y<=rk x:=λx ex y I=>by
  rw[sx,kW (by grind) (by lia),show sa+k+(na-k-1)=sb-1 by lia,V]at ex;obtain⟨j,l,o,L⟩:=w6 I;have:=f3 j l (by omega);rw[R_at L]at this;cases ex;exact this
 have fin:∀ (m:Array Keyed) (st2:SortSt),Sm c st2->m.toList.Perm (((arrOf st).extract (sa+k) sb).toList++((arrOf st).extract sb (sb+n)).toList)->Srt rk m.toList ->
   wpS (model prog w) A E s (do
    modify λs=>setArr s (m.toList.zipIdx.foldl (λ(a:Array Keyed) (x:Keyed × Nat)=>a.setIfInBounds (sa+k+x.2) x.1) (arrOf s))
    let s' <- get
    pure (failedOf s').isNone) Q st2:=by
  intro m st2 G pm O;have Y:arrOf st2=arrOf st:=G.arr.trans U;have N:m.toList.length=na-k+n:=by rw[pm.length_eq,Jb,Jx,Jx,sx,sy]
  have wl:=ue (sa+k) m.toList 0 (arrOf st2) (by rw[Y,sz,N];grind);generalize hW:List.foldl (λ(a:Array Keyed) (x:Keyed × Nat)=>a.setIfInBounds (sa+k+x.2) x.1) (arrOf st2) m.toList.zipIdx=W at wl;rw[Zq,N,Y,show sa+k+(na-k+n)=sb+n by grind]at wl
  have ab:(arrOf st).toList=(arrOf st).toList.take (sa+k)++(((arrOf st).extract (sa+k) sb).toList++((arrOf st).extract sb (sb+n)).toList)++(arrOf st).toList.drop (sb+n):=by
   have d1:=tZ (arrOf st) (sa+k) (na-k);rw[show sa+k+(na-k)=sb by lia]at d1;have d2:=tZ (arrOf st) sb n;rw[Y0,Y0,<- d2,<- d1,List.take_append_drop]
  have pw:W.Perm (arrOf st):=by
   rw[Array.perm_iff_toList_perm,wl]
   conv=>rhs;rw[ab]
   exact((pm.append_left _).append_right _)
  have r:((arrOf st).toList.take (sa+k)).length=sa+k:=by rw[JC,Jx,sz];lia
  have a4:W.size=a₀.size:=by rw[pw.size_eq,sz]
  have z:∀ j,j<sa+k->R rk W j=R rk (arrOf st) j:=λj B=>R_congr (by
   rw[<- Ye,<- Ye,wl,Y0,ZG (by rw[r];exact B),Zg B])
  have f:∀ j,sb+n<=j->R rk W j=R rk (arrOf st) j:=λj B=>R_congr (by
   rw[<- Ye,<- Ye,wl,Zx (by rw[Jb,r,N];lia),Jb,r,N,List.getElem?_drop]
   congr 1;lia)
  have mid:∀ j,sa+k<=j->j<sb+n->∃ x,m[j-(sa+k)]?=some x/\R rk W j=rk x:=λj l o=>by
   have jl:j-(sa+k)<m.size:=by rw[<- Jx,N];lia
   refine⟨_,getElem?_pos m _ jl,R_at ?_⟩;rw[<- Ye,wl,Y0,Zx (by rw[r];exact l),r,ZG (by rw[N];lia),Ye];exact getElem?_pos m _ jl
  have kids:∀ j x,m[j]?=some x->∃ t,((sa+k<=t/\t<sb)\/(sb<=t/\t<sb+n))/\R rk (arrOf st) t=rk x:=λj x ex=>by
   have hm:x∈m.toList:=by
    obtain⟨B,e⟩:=JU.mp ex;rw[<- e];simp
   rcases Jy.mp (pm.mem_iff.mp hm) with u|u
   ·obtain⟨t,F,H,et⟩:=w6 u
    exact⟨t,.inl ⟨F,H⟩,R_at et⟩
   ·obtain⟨t,F,H,et⟩:=w6 u
    exact⟨t,.inr ⟨F,H⟩,R_at et⟩
  refine Jj (Ws (Jj (Wr (Jh ?_))));rw[hW]
  have ff:(failedOf (setArr st2 W)).isNone=true:=by
   show (failedOf st2).isNone=true;rw[G.fail,d.fail];rfl
  rw[ff];refine h _ ⟨G.kind.trans d.kind,G.fail.trans d.fail,pw.trans D.perm,D.all⟩ (G.pend.trans ep) (λj B=>?_) λx y g b I=>?_
  ·rcases B with B|B
   ·exact z j (by lia)
   ·exact f j (by lia)
  ·show R rk W x<=R rk W y
   by_cases x1:x<sa+k
   ·rw[z x x1]
    by_cases y1:y<sa+k
    ·rw[z y y1];exact K _ _ g b (by lia)
    ·by_cases y2:y<sb+n
     ·obtain⟨v,ev,rv⟩:=mid y (by lia) y2
      obtain⟨t,S,rt⟩:=kids _ v ev;rw[rv,<- rt];rcases S with ⟨F,H⟩|⟨F,H⟩
      ·exact K _ _ g (by lia) (by lia)
      ·exact ZE (f1 x g x1) (f0 t F (by lia))
     ·rw[f y (by lia)]
      exact ZE (f1 x g x1) (f0 y (by lia) (by lia))
   ·by_cases x2:x<sb+n
    ·obtain⟨u,eu,ru⟩:=mid x (by lia) x2
     rw[ru];by_cases y2:y<sb+n
     ·obtain⟨v,ev,rv⟩:=mid y (by lia) y2
      rw[rv]
      have:=xa O (base:=0) (n:=m.size) (by lia) (x-(sa+k)) (y-(sa+k)) (JJ _) (by lia) (by
       have:=(JU.mp ev).1
       lia)
      rwa [R_at eu,R_at ev]at this
     ·rw[f y (by lia)]
      obtain⟨t,S,rt⟩:=kids _ u eu;rw[<- rt];rcases S with ⟨F,H⟩|⟨F,H⟩
      ·exact ZE (f5 t (by lia) H) (f4 y (by lia) (by lia))
      ·exact J _ _ F (by lia) (by lia)
    ·rw[f x (by lia),f y (by lia)]
     exact J _ _ (by lia) b (by lia)
 split
 ·exact Jj (zaR C d.kind px py ox oy (by rw[sx];lia) (by rw[sy];lia) first last λm st2 G pm O=>fin m st2 G pm O)
 ·exact Jj (zaZ C d.kind px py ox oy (by rw[sx];lia) (by rw[sy];lia) first last λm st2 G pm O=>fin m st2 G pm O)
abbrev Run:=Nat × Nat × Nat
def Runs:List Run->Nat->Nat->Prop
 | [],u,v=>u=v
 | x::r,u,v=>x.1=u/\1<=x.2.1/\Runs r (u+x.2.1) v
theorem Runs.cut:∀ {l r:List Run}{u v:Nat},Runs (l++r) u v->∃ m,Runs l u m/\Runs r m v
 | [],_,u,_,h=>⟨u,rfl,h⟩
 | x::l,r,u,v,⟨e,d,c⟩=>by
  obtain⟨m,a,b⟩:=Runs.cut (l:=l) (r:=r) c;exact⟨m,⟨e,d,a⟩,b⟩
theorem Runs.app:∀ {l r:List Run}{u m v:Nat},Runs l u m->Runs r m v->Runs (l++r) u v
 | [],_,_,_,_,h,g=>by cases h;exact g
 | x::l,r,u,m,v,⟨c,b,a⟩,g=>⟨c,b,Runs.app a g⟩
theorem Runs.len:∀ {l:List Run}{u v:Nat},Runs l u v->u+l.length<=v
 | [],_,_,h=>by cases h;exact Je _
 | x::l,u,v,⟨c,b,a⟩=>by
  have:=Runs.len a;rw[JM];lia
theorem Runs.mem:∀ {l:List Run}{u v:Nat}{x:Run},Runs l u v->x∈l->u<=x.1/\1<=x.2.1/\x.1+x.2.1<=v
 | y::l,u,v,x,⟨e,d,b⟩,c=>by
  rcases Js.mp c with rfl|a
  ·have:=Runs.len b;lia
  ·have:=Runs.mem b a;lia
theorem Runs.modify {f:Run->Run}(a:∀ x,(f x).1=x.1/\(f x).2.1=x.2.1):∀ {l:List Run}{i u v:Nat},Runs l u v->Runs (l.modify i f) u v
 | [],i,_,_,h=>by cases i<;>exact h
 | x::l,0,u,v,⟨d,c,b⟩=>by
  rw[List.modify_zero_cons]
  refine⟨(a x).1.trans d,by rw[(a x).2];exact c,by rw[(a x).2];exact b⟩
 | x::l,i+1,u,v,⟨d,c,b⟩=>by
  rw[List.modify_succ_cons];exact⟨d,c,Runs.modify a b⟩
theorem ww {f:Run->Run}(a:∀ x,(f x).1=x.1/\(f x).2.1=x.2.1):∀ {l:List Run}{i:Nat}{x:Run},x∈l.modify i f->∃ y∈l,x.1=y.1/\x.2.1=y.2.1
 | [],i,x,h=>by cases i<;>simp at h
 | y::l,0,x,h=>by
  rw[List.modify_zero_cons]at h;rcases Js.mp h with rfl|b
  ·exact⟨y,JF,(a y).1,(a y).2⟩
  ·exact⟨x,JE _ b,rfl,rfl⟩
 | y::l,i+1,x,h=>by
  rw[List.modify_succ_cons]at h;rcases Js.mp h with rfl|b
  ·exact⟨x,JF,rfl,rfl⟩
  ·obtain⟨z,c,e⟩:=ww a b
   exact⟨z,JE _ c,e⟩
structure Ji (κ:SortKind) (P:Keyed->Prop) (rk:Keyed->Int) (a₀:Array Keyed) (lo:Nat) (st:SortSt):Prop where
 b:Bs κ P a₀ st
 runs:Runs (pendingOf st).toList 0 lo
 up:∀ x∈(pendingOf st).toList,Up rk (arrOf st) x.1 x.2.1
theorem fH (C:Cmp prog w A s κ P rk){st:SortSt}{lo i:Nat}{Q:Bool->SortSt->Prop}(J:Ji κ P rk a₀ lo st)(X:lo<=a₀.size)(hi:i+1<(pendingOf st).size)(h:∀ st',Ji κ P rk a₀ lo st'->(∀ k,lo<=k->R rk (arrOf st') k=R rk (arrOf st) k)->(pendingOf st').size+1=(pendingOf st).size->Q true st'):wpS (model prog w) A E s (mergeAt' i) Q st:=by
 obtain⟨x,ex⟩:∃ x,(pendingOf st)[i]?=some x:=⟨_,getElem?_pos _ i (by lia)⟩;obtain⟨y,I⟩:∃ y,(pendingOf st)[i+1]?=some y:=⟨_,getElem?_pos _ (i+1) hi⟩;have t:(pendingOf st).toList[i]?=some x:=by rw[Ye];exact ex
 have r:(pendingOf st).toList[i+1]?=some y:=by rw[Ye];exact I
 obtain⟨o,T⟩:=Jc.mp t;obtain⟨n,S⟩:=Jc.mp r
 have sp:(pendingOf st).toList=(pendingOf st).toList.take i++x::y::(pendingOf st).toList.drop (i+1+1):=by
  rw[<- T,<- S,<- YC n,<- YC o,List.take_append_drop]
 have D:=J.runs;have up:=J.up;generalize e:(pendingOf st).toList.take i=pre at sp;generalize u:(pendingOf st).toList.drop (i+1+1)=post at sp;have O:pre.length=i:=by rw[<- e,JC];lia
 rw[sp]at D up;obtain⟨m,F,N⟩:=D.cut;obtain⟨B,H,M,G,f⟩:=N;obtain⟨v,na,p⟩:=x;obtain⟨L,nb,q⟩:=y;simp only at B H M G f;have Y:=f.len;refine za2 C J.b ex I (by simp_all) H G (by lia) (up (v,na,p) (by simp)) (up (L,nb,q) (by simp)) λst' W U low K=>?_
 have l:(pendingOf st').toList=pre++(v,na+nb,p)::post:=by
  rw[U,Array.toList_eraseIdxIfInBounds,Array.toList_setIfInBounds,sp,List.set_append_right _ _ (by simp_all),List.eraseIdx_append_of_length_le (by simp_all),O,Nat.sub_self,Nat.add_sub_cancel_left];rfl
 refine h st' ⟨W,?_,?_⟩ (λk Z=>low k (.inr (by lia))) ?_
 ·rw[l]
  refine F.app ⟨B,by show 1<=na+nb;lia,?_⟩;show Runs post (m+(na+nb)) lo;rw[<- Zt];exact f
 ·rw[l]
  intro z a;rcases Jy.mp a with a|a
  ·have V:=F.mem a
   intro c d j b g;rw[low c (.inl (by lia)),low d (.inl (by lia))];exact up z (Yj _ a) c d j b g
  ·rcases Js.mp a with rfl|a
   ·exact K
   ·have V:=f.mem a
    intro c d j b g;rw[low c (.inr (by lia)),low d (.inr (by lia))];exact up z (JB _ (by simp[a])) c d j b g
 ·rw[<- Jx,<- Jx,l,sp]
  simp only[Jb,JM];lia
theorem dg (C:Cmp prog w A s κ P rk){st:SortSt}{Q:Unit->SortSt->Prop}(hB:Bs κ P a₀ st)(hp:pendingOf st = #[])(h:∀ st',Bs κ P a₀ st'->Up rk (arrOf st') 0 a₀.size->Q () st'):wpS (model prog w) A E s sortRuns' Q st:=by
 rw[sortRuns'_eq];refine Jj (Wr ?_);dsimp only;rw[hB.size];generalize minRun' a₀.size a₀.size 0=S
 refine Jj (Z2 (Yt (I:=λi c o=>∃ lo,c=(none,lo)/\i<=lo/\lo<=a₀.size/\Ji κ P rk a₀ lo o)
  (Q:=λc o=>∃ lo,c=(none,lo)/\lo=a₀.size/\Ji κ P rk a₀ lo o) ?step ?fin ?init) ?post)
 case init=>exact⟨0,rfl,Je _,JJ _,hB,by rw[hp];rfl,λx u=>by rw[hp]at u;simp at u⟩
 case fin =>
  rintro c o ⟨lo,rfl,h1,V,J⟩;exact⟨lo,rfl,by lia,J⟩
 case step =>
  rintro i c o _ hi ⟨lo,rfl,h1,V,J⟩;dsimp only;by_cases z:lo>=a₀.size
  ·rw[Jf z]
   exact Jh ⟨lo,rfl,by lia,J⟩
  rw[Jd z];refine Jj (eH C J.b (by lia) (by simp_all) λf n X M n2 u2=>?_);dsimp only
  have Jk:∀ g,Keep κ P rk a₀ lo o g->Ji κ P rk a₀ lo g:=λg H=>⟨H.b,by rw[H.pend];exact J.runs,λx u=>by
   rw[H.pend]at u;have:=J.runs.mem u;intro c d D v L;rw[H.low c (by lia),H.low d (by lia)]
   exact J.up x u c d D v L⟩
  by_cases Z:n<S
  ·rw[Jf Z]
   refine Jj (wT ?_);refine Jj (zam C X.b M (by grind) (by lia) u2 λg H u3=>?_);have M:1<=min (a₀.size-lo) S:=by lia
   have n2:min (a₀.size-lo) S<=a₀.size-lo:=by omega
   have B:=Jk g (X.trans H);generalize min (a₀.size-lo) S=n at M n2 u3 ⊢;rw[Jd (show ¬(!true)=true by decide)];refine Jj (Wr ?_)
   have last:∀ a,Ji κ P rk a₀ lo a->Up rk (arrOf a) lo n->wpS (model prog w) A E s (do
     modify λm=>setPending m ((pendingOf m).push (lo,n,0))
     pure (ForInStep.yield ((none:Option Unit),lo+n))) (λr st'=>match r with|.done G=>∃ lo,G=(none,lo)/\lo=a₀.size/\Ji κ P rk a₀ lo st'|.yield G=>∃ lo,G=(none,lo)/\i+1<=lo/\lo<=a₀.size/\Ji κ P rk a₀ lo st') a:=by
    intro a e l;refine Jj (Ws (Jh ⟨lo+n,rfl,by lia,by lia,⟨e.b.kind,e.b.fail,e.b.perm,e.b.all⟩,?_,?_⟩))
    ·show Runs ((pendingOf a).push (lo,n,0)).toList 0 (lo+n)
     rw[Zc];exact e.runs.app ⟨rfl,M,rfl⟩
    ·show ∀ x∈((pendingOf a).push (lo,n,0)).toList,Up rk (arrOf a) x.1 x.2.1
     rw[Zc];intro x u;rcases Jy.mp u with p|p
     ·exact e.up x p
     ·rw[Ja.mp p];exact l
   split
   ·rename_i s1 m1 w1 hb
    refine Jj (Z2 (Yt (I:=λj c a=>c=(none,())/\Ji κ P rk a₀ lo a/\Up rk (arrOf a) lo n) (Q:=λc a=>c=(none,())/\Ji κ P rk a₀ lo a/\Up rk (arrOf a) lo n) ?_ (λc a U=>U) ⟨rfl,B,u3⟩) ?_)
    ·rintro j c a _ hj ⟨rfl,e,l⟩
     refine Jj (Wr ?_);split
     ·rename_i a1 a2 K N
      split
      ·exact Jh ⟨rfl,e,l⟩
      ·have sz:(pendingOf a).size > 1:=by
        by_cases q:(pendingOf a).size > 1
        ·exact q
        ·rw[Jd q]at N;cases N
       refine Jj (fH C e V (by grind) λm Y k _=>?_);rw[Jd (show ¬(!true)=true by decide)];exact Jh ⟨rfl,Y,λc d D v L=>by rw[k c D,k d (by lia)];exact l c d D v L⟩
     ·exact Jh ⟨rfl,e,l⟩
    ·rintro c a ⟨rfl,e,l⟩
     dsimp only;refine Jj (Ws ?_);refine last _ ⟨⟨e.b.kind,e.b.fail,e.b.perm,e.b.all⟩,?_,?_⟩ l
     ·show Runs ((pendingOf a).modify _ _).toList 0 lo
      rw[Wq];refine Runs.modify ?_ e.runs;exact λx=>⟨rfl,rfl⟩
     ·show ∀ x∈((pendingOf a).modify _ _).toList,Up rk (arrOf a) x.1 x.2.1
      rw[Wq];intro x u;obtain⟨y,T,W,e2⟩:=ww (by exact λx=>⟨rfl,rfl⟩) u;rw[W,e2];exact e.up y T
   ·exact last _ B u3
  ·rw[Jd Z]
   have B:=Jk f X;have u3:=u2;generalize f=g at B u3 ⊢;refine Jj (Wr ?_)
   have last:∀ a,Ji κ P rk a₀ lo a->Up rk (arrOf a) lo n->wpS (model prog w) A E s (do
     modify λm=>setPending m ((pendingOf m).push (lo,n,0))
     pure (ForInStep.yield ((none:Option Unit),lo+n))) (λr st'=>match r with|.done G=>∃ lo,G=(none,lo)/\lo=a₀.size/\Ji κ P rk a₀ lo st'|.yield G=>∃ lo,G=(none,lo)/\i+1<=lo/\lo<=a₀.size/\Ji κ P rk a₀ lo st') a:=by
    intro a e l;refine Jj (Ws (Jh ⟨lo+n,rfl,by lia,by grind,⟨e.b.kind,e.b.fail,e.b.perm,e.b.all⟩,?_,?_⟩))
    ·show Runs ((pendingOf a).push (lo,n,0)).toList 0 (lo+n)
     rw[Zc];exact e.runs.app ⟨rfl,M,rfl⟩
    ·show ∀ x∈((pendingOf a).push (lo,n,0)).toList,Up rk (arrOf a) x.1 x.2.1
     rw[Zc];intro x u;rcases Jy.mp u with p|p
     ·exact e.up x p
     ·rw[Ja.mp p];exact l
   split
   ·rename_i s1 m1 w1 hb
    refine Jj (Z2 (Yt (I:=λj c a=>c=(none,())/\Ji κ P rk a₀ lo a/\Up rk (arrOf a) lo n) (Q:=λc a=>c=(none,())/\Ji κ P rk a₀ lo a/\Up rk (arrOf a) lo n) ?_ (λc a U=>U) ⟨rfl,B,u3⟩) ?_)
    ·rintro j c a _ hj ⟨rfl,e,l⟩
     refine Jj (Wr ?_);split
     ·rename_i a1 a2 K N
      split
      ·exact Jh ⟨rfl,e,l⟩
      ·have sz:(pendingOf a).size > 1:=by
        by_cases q:(pendingOf a).size > 1
        ·exact q
        ·rw[Jd q]at N;cases N
       refine Jj (fH C e V (by lia) λm Y k _=>?_);rw[Jd (show ¬(!true)=true by decide)];exact Jh ⟨rfl,Y,λc d D v L=>by rw[k c D,k d (by lia)];exact l c d D v L⟩
     ·exact Jh ⟨rfl,e,l⟩
    ·rintro c a ⟨rfl,e,l⟩
     dsimp only;refine Jj (Ws ?_);refine last _ ⟨⟨e.b.kind,e.b.fail,e.b.perm,e.b.all⟩,?_,?_⟩ l
     ·show Runs ((pendingOf a).modify _ _).toList 0 lo
      rw[Wq];refine Runs.modify ?_ e.runs;exact λx=>⟨rfl,rfl⟩
     ·show ∀ x∈((pendingOf a).modify _ _).toList,Up rk (arrOf a) x.1 x.2.1
      rw[Wq];intro x u;obtain⟨y,T,W,e2⟩:=ww (by exact λx=>⟨rfl,rfl⟩) u;rw[W,e2];exact e.up y T
   ·exact last _ B u3
 case post =>
  rintro c o ⟨lo,rfl,rfl,J⟩;dsimp only
  refine Jj (Z2 (Yt (I:=λi c f=>c=(none,())/\Ji κ P rk a₀ a₀.size f/\(pendingOf f).size<=a₀.size-i+1)
   (Q:=λc f=>c=(none,())/\Ji κ P rk a₀ a₀.size f/\(pendingOf f).size<=1) ?_ ?_ ⟨rfl,J,?_⟩) ?_)
  ·rintro i c f _ hi ⟨rfl,F,sz⟩
   refine Jj (Wr ?_);by_cases z:(pendingOf f).size<=1
   ·rw[Jf z]
    exact Jh ⟨rfl,F,z⟩
   rw[Jd z]
   have go:∀ t,t+1<(pendingOf f).size->wpS (model prog w) A E s (mergeAt' t) (λb g=>b=true/\Ji κ P rk a₀ a₀.size g/\(pendingOf g).size<=a₀.size-(i+1)+1) f:=λt ht =>
    fH C F (Je _) ht λg B _ O=>⟨rfl,B,by grind⟩
   refine Jj (Z2 (go _ ?_) ?_)
   ·repeat' split
    all_goals omega
   ·rintro b g ⟨rfl,B,O⟩
    exact Jh ⟨rfl,B,O⟩
  ·rintro c f ⟨rfl,F,sz⟩
   exact⟨rfl,F,by simp_all⟩
  ·have:=J.runs.len
   rw[Jx]at this;lia
  ·rintro c f ⟨rfl,F,sz⟩
   refine Jh (h f F.b ?_);have R:=F.runs;have up:=F.up;have ln:(pendingOf f).toList.length<=1:=by rw[Jx];exact sz
   match hq:(pendingOf f).toList,ln with
   | [],_ =>
    rw[hq]at R;intro c d D v L;have:0=a₀.size:=R
    lia
   | [x],_ =>
    rw[hq]at R up;obtain⟨r1,r2,r3⟩:=R;have:0+x.2.1=a₀.size:=r3;have:=up x (by simp);rw[r1,show x.2.1=a₀.size by simp_all]at this;exact this
end
section
variable {prog:Program}{w:World}{A:Around}{E:Value->Shared->Prop}{s:Shared}
theorem jI {a:Addr}{vs:List Value}{n:Nat}{B:Fin->Shared->Prop}(t:s.heap.get? a=some (seqObj "list" vs.toArray n)) (K:vs.length<=10000) (κ:SortKind) (g:Value->Int)
  (j:∀ h',(∀ c o,c≠a->s.heap.get? c=some o->h'.get? c=some o)->2<=vs.length->∀ {Q:SortKind->Shared->Prop}{E:Value->Shared->Prop},Q κ { s with heap:=h' }->wpAny (model prog w) A (keyKind' vs.toArray) Q E { s with heap:=h' })
  (m:∀ h',(∀ c o,c≠a->s.heap.get? c=some o->h'.get? c=some o)->Cmp prog w A { s with heap:=h' } κ (λp=>p.1∈vs) (λp=>g p.1))
  (h:∀ out:List Value,out.Perm vs->out.Pairwise (λx y=>g x<=g y)->B (.done (.ret .none)) { s with heap:=sortedHeap s.heap a vs out.toArray }) :
  wpAny (model prog w) A (Builtin.«list.sort» ⟨[.ref a],[]⟩) B E s:=by
 have al:a<s.heap.objs.size:=Jr t;have ln:vs.toArray.size=vs.length:=Jn ..;have H:vs.length<=sizeLine:=JR K (by decide);rw[list_sort_plain];refine J0 (listItems_at t rfl (J0 (listUpdate_at t rfl ?_ (hsz:=by rw[ln];exact H))));obtain⟨v,F⟩:∃ v,(s.heap.update a (Obj.mapSeq λ_=>#[])).get? a=some (seqObj "list" #[] v):=⟨_,get?_update_seq t λ_=>#[]⟩;refine J0 (seqEpoch_at F rfl (J0 (wpAny_newTuple (J0 (wpAny_newList (JX ?_))))))
 have l:(((s.heap.update a (Obj.mapSeq λ_=>#[])).push (seqObj "tuple" vs.toArray 0)).push (seqObj "list" #[] 0)).get? a=some (seqObj "list" #[] v) :=
  J8 _ (J8 _ F)
 have old:∀ c o,c≠a->s.heap.get? c=some o->(((s.heap.update a (Obj.mapSeq λ_=>#[])).push (seqObj "tuple" vs.toArray 0)).push (seqObj "list" #[] 0)).get? c=some o:=λc o J q =>
  J8 _ (J8 _ ((Ym _ _ (Ne.symm J)).trans q))
 show wpAny (model prog w) A _ B E { s with heap:=((s.heap.update a (Obj.mapSeq λ_=>#[])).push (seqObj "tuple" vs.toArray 0)).push (seqObj "list" #[] 0) };have lo:∀ out:List Value,out.Perm vs->out.toArray.size<=sizeLine+1:=λout I=>by rw[Jn,I.length_eq];lia
 generalize N:((s.heap.update a (Obj.mapSeq λ_=>#[])).push (seqObj "tuple" vs.toArray 0)).push (seqObj "list" #[] 0)=h6 at l old ⊢;have back:∀ out:Array Value,sortedHeap s.heap a vs out=h6.update a (Obj.mapSeq λ_=>out):=λout=>by rw[<- N];rfl
 by_cases f:vs.toArray.size<2
 ·rw[Jf f,Jf f]
  refine J0 (J7 (?_:wpAny _ _ _ _ _ _));refine J0 (J7 ?_)
  have em:(vs.toArray.zip vs.toArray).map (·.2)=vs.toArray:=by
   apply Array.ext';rw[Array.toList_map,Array.toList_zip];exact List.map_snd_zip (Je _)
  have one:vs.Pairwise (λx y=>g x<=g y):=by
   match vs,f with
   | [],_=>exact List.Pairwise.nil
   | [x],_=>exact YU _ _
   | _::_::_,z=>simp at z;lia
  have k:=h vs (List.Perm.refl _) one;rw[back]at k;dsimp only;rw[em];refine J0 (seqEpoch_at l rfl (J0 (listUpdate_at l rfl ?_ (hsz:=JJ _) (hsz2:=lo vs (List.Perm.refl _)))));simp only[Z9,bne_self_eq_false,Yc];exact J7 k
 rw[Jd f,Jd f];refine J0 (j h6 old (by simp_all) ?_);have C:=m h6 old
 refine J0 (JN (dg C (a₀:=vs.toArray.zip vs.toArray) (st:=SortSt.mk' κ (vs.toArray.zip vs.toArray) #[] 7 none)
  (Q:=λ_ d=>Bs κ (λp=>p.1∈vs) (vs.toArray.zip vs.toArray) d/\Up (λp=>g p.1) (arrOf d) 0 (vs.toArray.zip vs.toArray).size) ⟨rfl,rfl,Array.Perm.refl _,λp r=>?_⟩ rfl λd b u=>⟨b,u⟩) ?_ λ_ _ e=>e)
 ·have:(vs.toArray.zip vs.toArray).toList=vs.zip vs:=by simp
  rw[this]at r;exact(List.of_mem_zip r).1
 rintro⟨⟨⟩,d⟩ P ⟨rfl,b,u⟩
 have D:(arrOf d).toList.Perm (vs.zip vs):=by
  have:=Array.perm_iff_toList_perm.mp b.perm;simpa using this
 have same:∀ p∈(arrOf d).toList,p.1=p.2:=λp r=>by
  have O:=D.mem_iff.mp r;obtain⟨i,hi⟩:=Zu.mp O;rw[WB]at hi;have:=hi.1.symm.trans hi.2;exact Jm this
 have G:Srt (λp=>g p.1) (arrOf d).toList:=by
  have:=ny (arr:=arrOf d) (lo:=0) (n:=(arrOf d).size) (by rw[b.size];exact u) (by lia);rw[YB,w5,<- Jx,YN]at this;exact this
 have pm:((arrOf d).toList.map (·.2)).Perm vs:=by
  have:=D.map (·.2)
  rwa [List.map_snd_zip (Je _)]at this
 have em:(arrOf d).map (·.2)=((arrOf d).toList.map (·.2)).toArray:=by
  apply Array.ext';simp
 have k:=h _ pm (by
  refine List.pairwise_map.mpr (List.Pairwise.imp_of_mem ?_ G);intro x y M L le
  rw[<- same x M,<- same y L];exact le)
 rw[back]at k;dsimp only;rw[em,b.fail];refine J0 (seqEpoch_at l rfl (J0 (listUpdate_at l rfl ?_ (hsz:=JJ _) (hsz2:=lo _ pm))));simp only[Z9,bne_self_eq_false,Yc];exact J7 k
end
end Ts
namespace Own
open PySem PySem.Spec PyProof.Rows Ts
section
variable {prog:Program}{w:World}{A:Around}{E:Value->Shared->Prop}{s:Shared}
theorem lL {x:Value}{Q:Value->Shared->Prop}
  (h:wpAny (model prog w) A.in1 (collect x) (λvs s1=>∃ (κ:SortKind) (a:Value->Int),vs.length<=10000 /\
   (∀ h':Heap,(∀ c o,s1.heap.get? c=some o->h'.get? c=some o)->2<=vs.length->∀ (b:Around) {Q:SortKind->Shared->Prop}{E:Value->Shared->Prop},Q κ { s1 with heap:=h' }->wpAny (model prog w) b (keyKind' vs.toArray) Q E { s1 with heap:=h' }) /\
   (∀ h':Heap,(∀ c o,s1.heap.get? c=some o->h'.get? c=some o)->∀ (b:Around),b.units<=A.units+8->Cmp prog w b { s1 with heap:=h' } κ (λp=>p.1∈vs) (λp=>a p.1)) /\
   ∀ (h':Heap) (l:Addr) (e:Nat) (out:List Value),s1.heap.objs.size<=l->h'.get? l=some (seqObj "list" out.toArray e)->out.Perm vs->out.Pairwise (λx y=>a x<=a y)->(∀ c o,s1.heap.get? c=some o->h'.get? c=some o)->Q (.ref l) { s1 with heap:=h' }) E s) :
  wpAny (model prog w) A (call (.builtin "sorted") [x]) Q E s:=by
 refine Calls.call_function_entry kind_sorted plain_sorted entry_sorted (args_sorted1 _) ?_;unfold Builtin.«sorted»;refine J0 (m:=checkCount "sorted" 1 1 _) (J7 (J0 (JN h (λvs s1 z=>?_) λ_ _ e=>e)));obtain⟨κ,a,d,n,t,fin⟩:=z;have f:vs.length<=sizeLine:=JR d (by decide);refine J0 (wpAny_newList ?_ (hsz:=f));have new:(s1.heap.push (seqObj "list" vs.toArray 0)).get? s1.heap.objs.size=some (seqObj "list" vs.toArray 0):=Jq _ rfl;have up:∀ h':Heap,(∀ c o,c≠s1.heap.objs.size->(s1.heap.push (seqObj "list" vs.toArray 0)).get? c=some o->h'.get? c=some o)->∀ c o,s1.heap.get? c=some o->h'.get? c=some o:=λh' k c o e=>k c o (JH (Jr e)) (J8 _ e);refine J0 (JX (Y1 slot_list_sort ⟨_,new,rfl⟩ entry_list_sort (jI new d κ a (λh' k j=>n h' (up h' k) j _) (λh' k=>t h' (up h' k) _ ?_) λout i g=>⟨_,rfl,?_⟩) (args_list_sort _)))
 ·show A.units+1+1<=A.units+8
  lia
 obtain⟨e,r⟩:=sortedHeap_at (out:=out.toArray) new;refine J7 ⟨_,rfl,fin _ _ e out (Je _) r i g λc o q=>?_⟩;have lt:=Jr q;rw[sortedHeap_old (JH lt) (by rw[size_push'];exact ZW lt)];exact J8 _ q
end
end Own
namespace L2
open PySem PySem.Spec PyProof.Rows Own Ts
inductive Lx (H:Hp):Nat->V->V->Ordering->Prop where
 | int (n:Nat) (i j:Int):Lx H n (.int i) (.int j) (compare i j)
 | row {n:Nat}{a b:Addr}{xs ys:List V}{cs:List Ordering}(ha:H a=some (.tup xs)) (hb:H b=some (.tup ys)) (l1:xs.length=cs.length) (l2:ys.length=cs.length) (h:∀ (i:Nat) u v c,xs[i]?=some u->ys[i]?=some v->cs[i]?=some c->Lx H n u v c) :
   Lx H (n+1) (.ref a) (.ref b) (cs.foldr Ordering.then .eq)
theorem vD:∀ {cs:List Ordering},cs.foldr Ordering.then .eq=.eq↔∀ c∈cs,c=.eq
 | []=>by simp
 | c::cs=>by
  rw[List.foldr_cons];constructor
  ·intro h
   cases c<;>simp[Ordering.then]at h;intro d hd;rcases Js.mp hd with rfl|a
   ·rfl
   ·exact vD.mp h d a
  ·intro h
   rw[h c JF];exact vD.mpr λd hd=>h d (JE _ hd)
theorem qA:∀ {cs:List Ordering},cs.foldr Ordering.then .eq≠.eq->∃ (k:Nat) (c:Ordering),cs[k]?=some c/\c≠.eq/\cs.foldr Ordering.then .eq=c/\∀ j:Nat,j<k->cs[j]?=some Ordering.eq
 | [],h=>absurd rfl h
 | c::cs,h=>by
  by_cases z:c=.eq
  ·subst z
   have e:(Ordering.eq::cs).foldr Ordering.then .eq=cs.foldr Ordering.then .eq:=rfl;rw[e]at h ⊢;obtain⟨k,d,i,g,f,b⟩:=qA h;refine⟨k+1,d,by simpa using i,g,f,λj a=>?_⟩
   cases j with
   | zero=>rfl
   | succ j=>simpa using b j (by simp_all)
  ·refine⟨0,c,rfl,z,?_,λj a=>by simp_all⟩
   rw[List.foldr_cons];cases c<;>first|rfl|exact absurd rfl z
section
variable {X:Cx}
theorem wB (i j:Int):(compare i j == .eq)=decide (i=j)/\(compare i j == .lt)=decide (i<j):=by
 rw[show compare i j=compareOfLessAndEq i j from rfl];unfold compareOfLessAndEq;by_cases b:i<j
 ·rw[Jf b,JD b,Jt (by lia)];exact⟨rfl,rfl⟩
 ·rw[Jd b,Jt b]
  by_cases a:i=j
  ·rw[Jf a,JD a];exact⟨rfl,rfl⟩
  ·rw[Jd a,Jt a];exact⟨rfl,rfl⟩
theorem Lx.refl {H:Hp}{n:Nat}{x y:V}{c:Ordering}(h:Lx H n x y c):x=y->c=.eq:=by
 induction h with
 | int n i j =>
  intro e;cases e;have:=(wB i i).1;rw[JD rfl]at this
  simpa using this
 | @row n a b l k cs g d o m h ih =>
  intro e;cases e;rw[g]at d;cases d;refine vD.mpr λc f=>?_;obtain⟨i,hi⟩:=Zu.mp f;have p:=(Jc.mp hi).1;exact ih i _ _ c (J9 (by simp_all)) (J9 (by simp_all)) hi rfl
theorem oo {pins:List (Addr × Obj)}{σ:St}{H:Hp}{s:Shared}(I:Inv X pins σ H s){n:Nat}{x y:V}{c:Ordering}(h:Lx H n x y c):∀ (A:Around) (u v:Value),A.units+n<cLine->RelV x u->RelV y v->SeqAt.EqAt A s u v (c == .eq):=by
 induction h with
 | int n i j =>
  intro A u v _ p o;have:=mz (A:=A) (s:=s) (x:=.int j) (y:=.int i) p o rfl rfl;rw[(wB i j).1]
  have e:eqV (.int i) (.int j)=decide (i=j):=by
   show (i == j)=decide (i=j);by_cases z:i=j<;>simp[z]
  rwa [e]at this
 | @row n a b Q P cs F E B w h ih =>
  intro A u v hu p o;cases p;cases o;by_cases M:a=b
  ·subst M
   have:cs.foldr Ordering.then .eq=.eq:=Lx.refl (.row F E B w h) rfl;rw[this];exact SeqAt.EqAt.same _
  ·obtain⟨g,K,Y,_⟩:=I.tuple (SqT.of F)
   obtain⟨f,J,W,_⟩:=I.tuple (SqT.of E);have r:=K.length;have q:=J.length;refine SeqAt.EqAt.of_refs M ?_
   have e:((List.range (min g.toArray.size f.toArray.size)).all (λj=>(cs.getD j .eq) == .eq) && g.toArray.size == f.toArray.size)=(cs.foldr Ordering.then .eq == .eq):=by
    rw[Jn,Jn,<- r,<- q,B,w,Wa,Bool.and_true,Nat.min_self];by_cases z:cs.foldr Ordering.then .eq=.eq
    ·rw[z]
     refine(W8.mpr λj hj=>?_).trans rfl;have D:=Zm.mp hj;rw[Ju,J9 D,W9,vD.mp z _ (YM D)];rfl
    ·obtain⟨k,d,G,h2,h3,_⟩:=qA z
     have Z:=(Jc.mp G).1;rw[h3];have L:(d == Ordering.eq)=false:=by simpa using h2
     rw[L];refine Bool.eq_false_iff.mpr λt=>?_;have:=W8.mp t k (Zm.mpr Z);rw[Ju,G,W9,L]at this;cases this
   have:=SeqAt.RcAt.tuples (e:=λj=>(cs.getD j .eq) == .eq) Y W (A:=A) (s:=s) (by lia) (λj k1 k2=>?_)
   ·rwa [e]at this
   ·have m:j<Q.length:=by simpa [r] using k1
    have l:j<P.length:=by simpa [q] using k2
    obtain⟨S,e1,U⟩:=K.get (J9 m);obtain⟨R,e2,T⟩:=J.get (J9 l);have O:g.toArray[j]=S:=by simpa using (Jc.mp e1).2
    have N:f.toArray[j]=R:=by simpa using (Jc.mp e2).2
    have C:j<cs.length:=by lia
    rw[O,N,Ju,J9 C,W9];exact ih j _ _ _ (J9 m) (J9 l) (J9 C) A.in1 _ _ (by show A.units+1+n<cLine;lia) U T
theorem fO {pins:List (Addr × Obj)}{σ:St}{H:Hp}{s:Shared}(I:Inv X pins σ H s){n:Nat}{x y:V}{c:Ordering}(h:Lx H n x y c):c≠.eq->∀ (A:Around) (u v:Value),A.units+n<cLine->RelV x u->RelV y v->LtAt A s u v (c == .lt):=by
 induction h with
 | int n i j =>
  intro _ A u v _ ⟨P,C⟩ ⟨O,e2⟩;subst C e2;rw[(wB i j).2]
  exact LtAt.ints i j P O
 | @row n a b z w cs ha Z l1 l2 h ih =>
  intro ne A u v hu l g;cases l;cases g;obtain⟨f,F,T,_⟩:=I.tuple (SqT.of ha);obtain⟨e,E,S,_⟩:=I.tuple (SqT.of Z);have W:=F.length;have U:=E.length;obtain⟨k,d,B,D,h3,h4⟩:=qA ne;have kl:=(Jc.mp B).1
  have at_:∀ j (t:j<f.toArray.size) (r:j<e.toArray.size),∃ (o:j<z.length) (m:j<w.length),RelV z[j] f.toArray[j]/\RelV w[j] e.toArray[j]:=λj t r=>by
   have q:j<z.length:=by simpa [W] using t
   have p:j<w.length:=by simpa [U] using r
   obtain⟨N,C,R⟩:=F.get (J9 q);obtain⟨M,e2,Q⟩:=E.get (J9 p);have L:f.toArray[j]=N:=by simpa using (Jc.mp C).2
   have K:e.toArray[j]=M:=by simpa using (Jc.mp e2).2
   rw[L,K];exact⟨q,p,R,Q⟩
  rw[h3];have J:k<f.toArray.size:=by rw[Jn];simp_all
  have G:k<e.toArray.size:=by rw[Jn];simp_all
  obtain⟨o,m,l,g⟩:=at_ k J G;refine LtAt.tuples (k:=k) T S (by lia) J G (λj t r Y=>?_) ?_ ?_
  ·obtain⟨o,m,l,g⟩:=at_ j t r
   exact oo I (h j _ _ _ (J9 o) (J9 m) (h4 j Y)) A.in1 _ _ (by show A.units+1+n<cLine;lia) l g
  ·have:=oo I (h k _ _ _ (J9 o) (J9 m) B) A.in1 _ _ (by show A.units+1+n<cLine;lia) l g
   rwa [show (d == Ordering.eq)=false from by simpa using D]at this
  ·exact ih k _ _ _ (J9 o) (J9 m) B D A.in1 _ _ (by show A.units+1+n<cLine;lia) l g
end
def Rk (H:Hp)(xs:List V)(rk:V->Int):Prop:=(∀ x∈xs,∃ i,x=.int i/\rk x=i)\/∃ n,n<=20/\∀ x∈xs,(∃ a f r,x=.ref a/\H a=some (.tup (.int f::r)))/\∀ y∈xs,Lx H n x y (compare (rk x) (rk y))
def vOf:Value->V
 | .int i _=>.int i
 | .ref a=>.ref a
 | _=>.non
theorem vA:∀ {xs:List V}{us:List Value},Vals xs us->(∀ x∈xs,(∃ i,x=.int i)\/∃ a,x=.ref a)->xs=us.map vOf/\∀ u∈us,RelV (vOf u) u
 | _,_,.nil,_=>⟨rfl,λu g=>by simp at g⟩
 | x::xs,u::us,.cons r rs,h=>by
  obtain⟨e,f⟩:=vA rs λy c=>h y (JE _ c)
  have one:vOf u=x/\RelV (vOf u) u:=by
   rcases h x JF with ⟨i,rfl⟩|⟨a,rfl⟩
   ·obtain⟨t,rfl⟩:=r;exact⟨rfl,t,rfl⟩
   ·cases r;exact⟨rfl,rfl⟩
  refine⟨by rw[JT,one.1,<- e],λv d=>?_⟩;rcases Js.mp d with rfl|b
  ·exact one.2
  ·exact f v b
theorem wO:∀ {us:List Value},(∀ u∈us,RelV (vOf u) u)->Vals (us.map vOf) us
 | [],_=>.nil
 | u::us,h=>.cons (h u JF) (wO λv a=>h v (JE _ a))
theorem Rk.kinds {H:Hp}{xs:List V}{rk:V->Int}(h:Rk H xs rk):∀ x∈xs,(∃ i,x=.int i)\/∃ a,x=.ref a:=λx b=>by
 rcases h with h|⟨n,_,h⟩
 ·obtain⟨i,e,_⟩:=h x b;exact .inl ⟨i,e⟩
 ·obtain⟨⟨a,_,_,e,_⟩,_⟩:=h x b;exact .inr ⟨a,e⟩
section
variable {prog:Program}{w:World}{A:Around}{E:Value->Shared->Prop}{s:Shared}
theorem oG {u v:Value}{b:Bool}{Q:Bool->Shared->Prop}(l:LtAt A s u v b)(h:Q b s):wpAny (model prog w) A (oneLt' false u v) Q E s:=by
 rw[oneLt'_eq,Jd Jp];exact J0 (l prog w _ _ (Z8 h))
theorem cW {Q:Bool->Shared->Prop}(cs:List Ordering):∀ (us vs:List Value) (i:Nat),us.length=cs.length->vs.length=cs.length->(∀ (j:Nat) u v c,us[j]?=some u->vs[j]?=some v->cs[j]?=some c->SeqAt.EqAt A s u v (c == .eq)/\(c≠.eq->LtAt A s u v (c == .lt))) ->
  (i=0->∀ u v c,us[0]?=some u->vs[0]?=some v->cs[0]?=some c->∃ a b t t',u=.int a t/\v=.int b t'/\c=compare a b)->Q (cs.foldr Ordering.then .eq == .lt) s->PySem.W.KatLex prog w A true false Q (us.zip vs) i s:=by
 induction cs with
 | nil =>
  intro us vs i d f _ _ q;rw[YV.mp d]
  exact PySem.W.kat_nil q
 | cons c cs ih =>
  intro us vs i d f h n q
  obtain⟨u,us,rfl⟩:∃ u l,us=u::l:=by
   cases us with
   | nil=>simp at d
   | cons u us=>exact⟨u,us,rfl⟩
  obtain⟨v,vs,rfl⟩:∃ v k,vs=v::k:=by
   cases vs with
   | nil=>simp at f
   | cons v vs=>exact⟨v,vs,rfl⟩
  have m:=h 0 u v c rfl rfl rfl;refine PySem.W.kat_cons (m.1 prog w _ _ ?_);by_cases z:c=.eq
  ·subst z
   refine PySem.W.kat_yes (ih us vs (i+1) (by simpa using d) (by simpa using f) (λj u v c y x r=>h (j+1) u v c (by simpa using y) (by simpa using x) (by simpa using r)) (λe=>by simp_all) q)
  ·have p:(c == Ordering.eq)=false:=by simpa using z
   have e2:(c::cs).foldr Ordering.then .eq=c:=by
    rw[List.foldr_cons];cases c<;>first|rfl|exact absurd rfl z
   rw[e2]at q;rw[p];refine PySem.W.kat_no ?_;by_cases g:i=0
   ·obtain⟨a,b,t,t',rfl,rfl,o⟩:=n g u v c rfl rfl rfl
    subst g;rw[o,(wB a b).2]at q;exact oneLt_int q
   ·have:(true && i == 0)=false:=by simpa using g
    rw[this];exact oG (m.2 z) q
end
section
variable {X:Cx}
theorem zbH {pins:List (Addr × Obj)}{σ:St}{H:Hp}{s1:Shared}(I:Inv X pins σ H s1)(s:X.A.units+64<cLine){xs:List V}{vs:List Value}{rk:V->Int}(r:Vals xs vs)(R:Rk H xs rk) :
  ∃ κ:SortKind,(∀ h':Heap,(∀ c o,s1.heap.get? c=some o->h'.get? c=some o)->2<=vs.length->∀ (l:Around) {Q:SortKind->Shared->Prop}{E:Value->Shared->Prop},Q κ { s1 with heap:=h' }->wpAny (model X.prog X.w) l (keyKind' vs.toArray) Q E { s1 with heap:=h' }) /\
   (∀ h':Heap,(∀ c o,s1.heap.get? c=some o->h'.get? c=some o)->∀ (l:Around),l.units<=X.A.units+8->Cmp X.prog X.w l { s1 with heap:=h' } κ (λp=>p.1∈vs) (λp=>rk (vOf p.1))):=by
 obtain⟨ex,rel⟩:=vA r R.kinds;have mem:∀ u∈vs,vOf u∈xs:=λu s=>by rw[ex];exact Jv.mpr ⟨u,s,rfl⟩
 rcases R with R|⟨n,hn,R⟩
 ·have z:∀ u∈vs,∃ i t,u=.int i t/\rk (vOf u)=i:=λu s=>by
   obtain⟨i,e,ei⟩:=R _ (mem u s);have ru:=rel u s;rw[e]at ru;obtain⟨t,rfl⟩:=ru;exact⟨i,t,rfl,ei⟩
  refine⟨oneType',λh' k Z l Q E q=>PySem.W.kas_kind Z (T:=.type "int") (λv d=>?_) (by decide) (by decide) q,λh' k l _=>⟨λx y S J Q E q=>?_⟩⟩
  ·obtain⟨i,t,rfl,_⟩:=z v d
   exact PySem.W.Looks.of_pure rfl
  ·obtain⟨P,x2⟩:=x
   obtain⟨G,y2⟩:=y;obtain⟨i,t,w,D⟩:=z P S;obtain⟨j,t',e2,Y⟩:=z G J;simp only at q;rw[D,Y]at q;subst w e2;show wpAny _ _ (keyLt' oneType' (.int i t) (.int j t')) _ _ _;rw[keyLt'_oneType];exact oneLt_int q
 ·refine⟨tuples' (Value.type "int" != Value.type "tuple"),λh' k Z l Q E q=>?_,λh' k l hA=>⟨λx y S J Q E q=>?_⟩⟩
  ·have F:Inv X pins σ H { s1 with heap:=h',toks:=s1.toks }:=I.kept k
   have kt:∀ C:List Value,(∀ u∈C,vOf u∈xs/\RelV (vOf u) u)->∃ fs,PySem.W.KatTups h' C fs/\fs.length=C.length/\∀ f∈fs,∃ i t,f=Value.int i t:=by
    intro C
    induction C with
    | nil=>intro _;exact⟨[],PySem.W.KatTups.nil,rfl,λf K=>by simp at K⟩
    | cons u C ih =>
     intro h;obtain⟨fs,k1,k2,k3⟩:=ih λv d=>h v (JE _ d);obtain⟨m1,D⟩:=h u JF;obtain⟨⟨a,f,rr,e,U⟩,_⟩:=R _ m1;rw[e]at D;cases D;obtain⟨A,g,⟨o,eo,co,no,dt⟩,_⟩:=F.tuple (SqT.of U);obtain⟨f0,ef,⟨t0,rfl⟩⟩:=g.get (i:=0) (x:=.int f) rfl
     exact⟨_,PySem.W.KatTups.cons eo co dt (by simpa using ef) k1,by rw[JM,JM,k2],λf' K=>by
      rcases Js.mp K with rfl|K
      ·exact⟨_,_,rfl⟩
      ·exact k3 f' K⟩
   obtain⟨fs,k1,k2,k3⟩:=kt vs λu s=>⟨mem u s,rel u s⟩;refine PySem.W.kat_kind (T:=.type "int") k1 (by lia) (λv d=>?_) (by decide) q;obtain⟨i,t,rfl⟩:=k3 v d;exact PySem.W.Looks.of_pure rfl
  ·have F:Inv X pins σ H { s1 with heap:=h',toks:=s1.toks }:=I.kept k
   obtain⟨P,x2⟩:=x;obtain⟨G,y2⟩:=y;have rx:=rel P S;have ry:=rel G J;obtain⟨⟨a,f,xr,ea,U⟩,lx⟩:=R _ (mem P S);obtain⟨⟨b,g,yr,eb,hb⟩,_⟩:=R _ (mem G J);have L:=lx _ (mem G J);simp only at q;rw[ea]at rx L q;rw[eb]at ry L q;cases rx;cases ry;generalize hc:compare (rk (V.ref a)) (rk (V.ref b))=c at L;rw[<- (wB (rk (V.ref a)) (rk (V.ref b))).2,hc]at q
   cases L with
   | @row n _ _ a4 a3 cs O N l1 Z hL =>
    rw[U]at O;cases O;rw[hb]at N;cases N;obtain⟨A,g1,⟨o1,ao,a8,a6,a0⟩,_⟩:=F.tuple (SqT.of U);obtain⟨M,g2,⟨o2,ab,a7,a5,aT⟩,_⟩:=F.tuple (SqT.of hb);have m1:=g1.length;have m2:=g2.length;show wpAny _ _ (keyLt' (tuples' true) (.ref a) (.ref b)) _ _ _;refine PySem.W.kat_lt ao a0 ab aT ?_;have ds:decide (A.toArray.size<M.toArray.size)=false:=Jt (by rw[Jn,Jn];simp_all);rw[ds];refine cW cs A M 0 (by simp_all) (by simp_all) (λj u v c m d B=>?_) (λ_ u v c m d B=>?_) q
    ·have j1:j<(V.int f::xr).length:=by have:=(Jc.mp m).1;simp_all
     have j2:j<(V.int g::yr).length:=by have:=(Jc.mp d).1;simp_all
     obtain⟨u',w,q1⟩:=g1.get (J9 j1);obtain⟨v',e2,q2⟩:=g2.get (J9 j2);rw[m]at w;obtain rfl:=Jm w;rw[d]at e2;obtain rfl:=Jm e2;have W:=hL j _ _ c (J9 j1) (J9 j2) B;exact⟨oo F W l _ _ (by lia) q1 q2,λne=>fO F W ne l _ _ (by lia) q1 q2⟩
    ·obtain⟨u',w,t1,D⟩:=g1.get (i:=0) (x:=.int f) rfl
     obtain⟨v',e2,t2,Y⟩:=g2.get (i:=0) (x:=.int g) rfl;rw[m]at w;obtain rfl:=Jm w;rw[d]at e2;obtain rfl:=Jm e2;have W:=hL 0 (.int f) (.int g) c rfl rfl B;cases W;exact⟨f,g,t1,t2,D,Y,rfl⟩
end
section
variable {X:Cx}{pins:List (Addr × Obj)}{σ:St}{H:Hp}{s:Shared}
theorem Inv.adopt {T:Addr}{o:HO}(I:Inv X pins σ H s)(d:FpOk X pins H T)(new:ObjOk X.prog X.w (upd H T o) s.heap T o):Inv X pins σ (upd H T o) s:=by
 have a:=d.1
 have J:Inv X pins σ (upd H T o) { s with heap:=s.heap,gens:=s.gens,drawn:=s.drawn,toks:=s.toks }:=by
  refine I.step (ch:=[T]) (λb f=>?_) (λb u _ _ _ e _=>e) (λb u _ _ _ e _=>⟨u.slots,e⟩) (λb u i _ n=>by rw[zG λq=>i (Ja.mpr q)];exact n)
   (λb u _ e=>⟨u,e⟩) (λb g e=>by rw[zG (zF e a)];exact e) (λb u x e=>by rw[zG (zF e a)];exact e) (λb j e=>⟨#[],by rw[zG (zF e a),e];simp⟩) (λm h=>h) (λb u e=>?_) I.bare
  ·have only:=Ja.mp f
   subst only;exact⟨d.2.2.2.1,d.2.1,d.2.2.2.2.1,d.2.2.2.2.2⟩
  ·by_cases f:b=T
   ·subst f;rw[zD]at e;cases e;exact new
   ·rw[zG f]at e
    exact(I.hok b u e).stay (λc v _ q=>q) (λc q=>by rw[zG (zF q a)];exact q) λc g q=>by rw[zG (zF q a)];exact q
 exact J
end
end L2
namespace L2
open PySem PySem.Spec PyProof.Rows Own
section
variable {X:Cx}{pins:List (Addr × Obj)}{σ:St}{H:Hp}{s:Shared}{d:Addr}
theorem Inv.reword {u v:HO}(I:Inv X pins σ H s)(hd:H d=some u)(h:∀ xs,u≠.tup xs)(nb:∀ ps,u≠.tbl ps)(no:∀ a,u≠.own a)(l:∀ o' i,X.H₀ d≠some (.frz o' i))(new:ObjOk X.prog X.w (upd H d v) s.heap d v):Inv X pins σ (upd H d v) s:=by
 have ne:∀ {b},H b=none->b≠d:=λe z=>by rw[z,hd]at e;cases e
 have f:∀ {b} {q:HO},H b=some q->q≠u->upd H d v b=some q:=λ{b q} e n=>by
  rw[zG];· exact e
  ·intro z
   rw[z,hd]at e;exact n (Jm e).symm
 refine⟨I.ok,I.os,I.bare,⟨I.base.keep,I.base.slot,λb q e n m=>?_,I.base.there,λb xs e=>f (I.base.tups b xs e) λz=>h xs z.symm,λb q w e=>?_,λb ps e=>?_⟩,I.loc,I.cell,?_,λx c e=>?_,λp o=>?_,λb q e=>?_,I.len⟩
 ·have z:=I.base.free b q e n m
  rw[zG (ne z)];exact z
 ·rw[zG]
  ·exact I.base.frzs b q w e
  ·rintro rfl;exact l q w e
 ·obtain⟨more,z⟩:=I.base.tbls b ps e
  exact⟨more,f z λq=>nb _ q.symm⟩
 ·rw[zG (ne I.free)];exact I.free
 ·have z:=I.freeC x c e
  rw[zG (ne z)];exact z
 ·obtain⟨k,g,j⟩:=I.pin p o
  exact⟨k,by rw[zG (ne g)];exact g,j⟩
 ·by_cases z:b=d
  ·subst z
   rw[zD]at e;cases e;exact new
  ·rw[zG z]at e
   exact(I.hok b q e).stay (λc w _ r=>r) (λc r=>f r λz=>no _ z.symm) λc xs r=>f r λz=>h _ z.symm
end
def NIv (H:Hp):KI->V->Prop
 | .inl i,v=>v=.int i
 | .inr xs,v=>∃ b,v=.ref b/\H b=some (.tup (xs.map V.int))
def NIvs (H:Hp):KN->List V->Prop
 | [],vs=>vs=[]
 | k::ks,vs=>∃ v r,vs=v::r/\NIv H k v/\NIvs H ks r
def NKey (H:Hp)(k:KN)(b:Addr):Prop:=∃ a,H b=some (.tup a)/\NIvs H k a
theorem NIvs.tups {H H':Hp}(t:∀ b ys,H b=some (.tup ys)->H' b=some (.tup ys)):∀ {k:KN}{ys:List V},NIvs H k ys->NIvs H' k ys
 | [],_,h=>h
 | .inl i::k,_,h=>by
  obtain⟨v,r,e,c,a⟩:=h
  exact⟨v,r,e,c,NIvs.tups t a⟩
 | .inr f::k,_,h=>by
  obtain⟨v,r,e,⟨b,c,d⟩,a⟩:=h;exact⟨v,r,e,⟨b,c,t _ _ d⟩,NIvs.tups t a⟩
theorem NKey.tups {H H':Hp}(t:∀ b ys,H b=some (.tup ys)->H' b=some (.tup ys)){k:KN}{b:Addr}(h:NKey H k b):NKey H' k b:=by
 obtain⟨ys,c,a⟩:=h;exact⟨ys,t _ _ c,a.tups t⟩
section
variable {P:Program}{w:World}{H:Hp}{h:Heap}
theorem oR (ok:HOk P w H h):∀ {k:KN}{ys:List V}{its:List Value},NIvs H k ys->Vals ys its->NIts P w h k its
 | [],_,its,a,r=>by
  rw[show _=[] from a]at r
  cases r;rfl
 | k::ks,_,its,a,r=>by
  obtain⟨v,q,rfl,a1,a2⟩:=a
  cases r with
  | @cons _ u _ g c r =>
   refine⟨u,g,rfl,?_,oR ok a2 r⟩
   cases k with
   | inl i=>rw[show v=.int i from a1]at c;exact c
   | inr d =>
    obtain⟨b,rfl,f⟩:=a1;refine⟨b,c,?_⟩;have e:d.map V.int=(d.map (Sum.inl:Int->Key)).map kV:=by rw[Zb];rfl
    rw[e]at f;exact zab ok f
theorem xg (ok:HOk P w H h){k:KN}{b:Addr}(a:NKey H k b):NIs P w h k b:=by
 obtain⟨d,e,a⟩:=a;obtain⟨_,c,r,o,i,g,n,f⟩:=(show ObjOk P w H h b (.tup d) from ok b _ e);exact⟨o,c.toArray,n,i,g,f.1,by simpa using oR ok a r⟩
end
abbrev KVN:=List (KN × Addr × V)
def PrN:KN × Addr × V->KN × Addr × Value->Prop:=λp q=>p.1=q.1/\p.2.1=q.2.1/\RelV p.2.2 q.2.2
def yn (xs:KVN)(k:KN):Option V:=(xs.find? λx=>decide (x.1=k)).map (·.2.2)
def wD (xs:KVN)(k:KN)(b:Addr)(v:V):KVN:=if (yn xs k).isSome then xs.map λx=>if x.1=k then (x.1,x.2.1,v) else x else xs++[(k,b,v)]
theorem wE {xs:KVN}{vs:List (KN × Addr × Value)}(r:Paired PrN xs vs)(k:KN):RelO (yn xs k) ((atKey vs k).map (·.2)):=by
 induction r with
 | nil=>exact True.intro
 | @cons p q b a h t ih =>
  unfold yn atKey at ih ⊢;rw[YH,YH,h.1];by_cases c:q.1=k
  ·rw[JD c];exact h.2.2
  ·rw[Jt c];exact ih
theorem gZ {xs:KVN}{vs:List (KN × Addr × Value)}(r:Paired PrN xs vs)(k:KN){v:V}{u:Value}(a:RelV v u):Paired PrN (xs.map λx=>if x.1=k then (x.1,x.2.1,v) else x) (vs.map (putAt k u)):=by
 induction r with
 | nil=>exact .nil
 | @cons p q d b h t ih =>
  refine .cons ?_ ih;unfold putAt;dsimp only;by_cases c:q.1=k
  ·rw[Jf (h.1.trans c),Jf c];exact⟨h.1,h.2.1,a⟩
  ·rw[Jd (λz=>c (h.1.symm.trans z)),Jd c];exact h
theorem putN_rel {xs:KVN}{vs:List (KN × Addr × Value)}(r:Paired PrN xs vs)(k:KN)(b:Addr){v:V}{u:Value}(a:RelV v u):Paired PrN (wD xs k b v) (storedH vs k b u):=by
 have e:=(wE r k).isSome_eq;rw[Option.isSome_map]at e;unfold wD storedH;rw[<- e];by_cases c:(yn xs k).isSome=true
 ·rw[Jf c,Jf c];exact gZ r k a
 ·rw[Jd c,Jd c];exact ZT r ⟨rfl,rfl,a⟩
theorem pW (xs:KVN)(k:KN)(b:Addr)(v:V):(wD xs k b v).length<=xs.length+1:=by
 unfold wD;split
 ·rw[Jg];lia
 ·rw[Jb];exact Je _
def PhN (P:Program)(w:World)(a:Addr)(xs:KVN):Heap->Prop:=λh=>xs.length<=sizeLine/\(a == sysModules)=false/\∃ b,Paired PrN xs b /\
 ∃ o c d,h.get? a=some o/\o.ExactDict/\o.data=.dict c d/\c.toList=b.map (entryOfKey (yM P w))/\(b.map (·.1)).Nodup
def DN (P:Program)(w:World)(a:Addr)(xs:KVN):HO:=.ext (PhN P w a xs)
def KsIn (H:Hp)(xs:KVN):Prop:=∀ x∈xs,NKey H x.1 x.2.1
theorem KsIn.tups {H H':Hp}{xs:KVN}(t:∀ b ys,H b=some (.tup ys)->H' b=some (.tup ys))(h:KsIn H xs):KsIn H' xs:=λx a=>(h x a).tups t
section
variable {P:Program}{w:World}{H H':Hp}{h h':Heap}{a:Addr}{xs:KVN}
theorem dn_new (z:xs.length<=sizeLine)(hd:(a == sysModules)=false){vs:List (KN × Addr × Value)}(r:Paired PrN xs vs)(d:h'.DictOfH (yM P w) a vs):ObjOk P w H' h' a (DN P w a xs):=by
 obtain⟨o,h,i,b,g,f,e,_,c⟩:=d;refine⟨⟨z,hd,vs,r,o,h,i,b,g,f,e,c⟩,⟨o,b⟩,λk j ⟨z,hd,vs,r,o,h,i,b,g,f,e,c⟩ s=>⟨z,hd,vs,r,o,h,i,s o b,g,f,e,c⟩⟩
theorem vR (ok:HOk P w H h)(e:Rd H a (DN P w a xs))(ks:KsIn H xs):xs.length<=sizeLine/\(a == sysModules)=false/\∃ vs,Paired PrN xs vs/\h.DictOfH (yM P w) a vs:=by
 obtain⟨⟨z,i,vs,r,o,m,n,l,k,j,f,d⟩,u,s⟩:=(show ObjOk P w H h a (DN P w a xs) from bM ok e);refine⟨z,i,vs,r,o,m,n,l,k,j,f,?_,d⟩;clear f d e z u s
 induction r with
 | nil=>intro x b;exact nomatch b
 | @cons p q A v c t ih =>
  intro x b;rcases Js.mp b with here|there
  ·have:=xg ok (ks p JF)
   rw[c.1,c.2.1,<- here]at this;exact this
  ·exact ih (λy g=>ks y (JE _ g)) x there
end
section
variable {X:Cx}{pins:List (Addr × Obj)}{σ:St}{H:Hp}{s:Shared}{a b:Addr}{xs:KVN}{k:KN}{v d:V}{r:Value}{A:Around}{E:Value->Shared->Prop}
theorem rK (a:A.units+3<cLine):(yM X.prog X.w).room A.in1:=by show A.in1.units+2<cLine;rw[Around.in1_units];omega
theorem zbz {Q:Value->Shared->Prop}(f:A.units+3<cLine)(I:Inv X pins σ H s)(e:Rd H a (DN X.prog X.w a xs))(ks:KsIn H xs)(d:NKey H k b)(h:∀ c,Inv X pins σ H c->Q (.bool (yn xs k).isSome) c) :
  wpAny (model X.prog X.w) A (compareOp .In (.ref b) (.ref a)) Q E s:=by
 obtain⟨z,g,j,rel,i⟩:=vR I.hok e ks;refine wpAny_in_heap (rK f) (xg I.hok d) g i ?_;have q:=(wE rel k).isSome_eq;rw[Option.isSome_map]at q;rw[<- q];exact h _ (I.tok _)
theorem cK {Q:Value->Shared->Prop}(f:A.units+3<cLine)(I:Inv X pins σ H s)(e:Rd H a (DN X.prog X.w a xs))(ks:KsIn H xs)(d:NKey H k b)(h:∀ c,Inv X pins σ H c->Q (.bool (!(yn xs k).isSome)) c) :
  wpAny (model X.prog X.w) A (compareOp .NotIn (.ref b) (.ref a)) Q E s:=by
 obtain⟨z,g,j,rel,i⟩:=vR I.hok e ks;refine wpAny_notIn_heap (rK f) (xg I.hok d) g i ?_;have q:=(wE rel k).isSome_eq;rw[Option.isSome_map]at q;rw[<- q];exact h _ (I.tok _)
theorem ar {Q:Value->Shared->Prop}(m:A.units+3<cLine)(I:Inv X pins σ H s)(e:Rd H a (DN X.prog X.w a xs))(ks:KsIn H xs)(l:NKey H k b)(j:RelV d r)(h:∀ c f,Inv X pins σ H f->RelV ((yn xs k).getD d) c->Q c f) :
  wpAny (model X.prog X.w) A (call (.builtin "dict.get") [.ref a,.ref b,r]) Q E s:=by
 obtain⟨z,n,i,rel,g⟩:=vR I.hok e ks;exact call_meetsIn PySem.F.slot_dict_get g.typeIs PySem.F.entry_dict_get (PySem.F.args_dict_get_3 _ _ _) (meetsH_dict_get_default (yM X.prog X.w) a b n r) ⟨rK m,k,i,xg I.hok l,g,h _ _ (I.tok _) ((wE rel k).getD j)⟩
theorem jt {Q:Value->Shared->Prop}(m:A.units+3<cLine)(I:Inv X pins σ H s)(e:Rd H a (DN X.prog X.w a xs))(ks:KsIn H xs)(i:NKey H k b)(l:yn xs k=some v)(h:∀ c f,Inv X pins σ H f->RelV v c->Q c f) :
  wpAny (model X.prog X.w) A (getItem (.ref a) (.ref b)) Q E s:=by
 obtain⟨z,r,g,rel,q⟩:=vR I.hok e ks;obtain⟨c,j,d⟩:=RelO.some_of (v:=v) (o:=(atKey g k).map (·.2)) (by rw[<- l];exact wE rel k);obtain⟨p,n,rfl⟩:=Y9.mp j;exact wpAny_getItem_heap (rK m) (xg I.hok i) q n (h _ _ (I.tok _) d)
theorem jr {Q:Unit->Shared->Prop}(m:A.units+3<cLine)(I:Inv X pins σ H s)(e:H a=some (DN X.prog X.w a xs))(ks:KsIn H xs)(i:NKey H k b)(g:RelV v r)(l:xs.length<sizeLine)(h:∀ d,Inv X pins σ (upd H a (DN X.prog X.w a (wD xs k b v))) d->Q () d) :
  wpAny (model X.prog X.w) A (setItem (.ref a) (.ref b) r) Q E s:=by
 obtain⟨z,u,f,rel,x⟩:=vR I.hok (.inl e) ks;have j:f.length<=sizeLine:=by rw[<- Ya rel];exact z
 have p:(wD xs k b v).length<=sizeLine:=by have:=pW xs k b v;lia
 refine wpAny_setItem_heap (hsz:=j) (rK m) (xg I.hok i) x λw c n=>h _ ?_;have t:∃ q,w.get? a=some q:=let ⟨q,_,_,o,_⟩:=c;⟨q,o⟩;exact qi I (by rw[e];exact True.intro) n t (dn_new p u (putN_rel rel k b g) c)
end
section
variable {prog:Program}{w:World}{A:Around}{E:Value->Shared->Prop}{s:Shared}{d:Addr}
theorem iH {o:Obj}{es:Array DictEntry}{ep:Nat}{Q:Value->Shared->Prop}(a:s.heap.get? d=some o)(c:o.ExactDict)(hd:o.data=.dict es ep)(e:(d == sysModules)=false)(h:Q (.int es.size s.toks) { s with toks:=s.toks+1 }) :
  wpAny (model prog w) A (Builtin.«dict.__len__» ⟨[.ref d],[]⟩) (λfin b=>∃ r,fin=.done (.ret r)/\Q r b) E s:=by
 have ty:s.TypeIs (.ref d) "dict":=⟨o,a,c.1⟩;unfold Builtin.«dict.__len__» Builtin.Dict.dictSlotNone;refine J0 (J0 (Zv ty ?_));refine J0 ?_;show wpAny _ _ (pure ((.ref d,[]):Value × List Value)) _ _ _;refine J7 (J7 (J0 ?_));show wpAny _ _ (pure d) _ _ _;unfold dictSize;refine J7 (J0 (J0 (Y5 a hd (J7 (J0 (wpAny_pendingCount_other e ?_))))));unfold retInt
 have g:Q (.int ((es.size:Int)+((0:Nat):Int)) s.toks) { s with toks:=s.toks+1 }:=by
  rw[show ((es.size:Int)+((0:Nat):Int))=es.size from Int.add_zero _];exact h
 exact J0 (wpAny_mkInt (J7 ⟨_,rfl,g⟩))
theorem oz {o:Obj}{es:Array DictEntry}{ep:Nat}{Q:Value->Shared->Prop}(b:s.heap.get? d=some o)(a:o.ExactDict)(hd:o.data=.dict es ep)(e:(d == sysModules)=false)(f:(es.size:Int)<2 ^ 63)(h:∀ t,Q (.int es.size t) { s with toks:=s.toks+1+1 }) :
  wpAny (model prog w) A (Builtin.«len» ⟨[.ref d],[]⟩) (λfin c=>∃ r,fin=.done (.ret r)/\Q r c) E s:=by
 have ty:s.TypeIs (.ref d) "dict":=⟨o,b,a.1⟩;unfold Builtin.«len»;refine J0 ?_;show wpAny _ _ (pure (Value.ref d)) _ _ _;refine J7 (J0 (wpAny_callSpecial?_slot ty PySem.F.slot_dict_len (Y1 PySem.F.slot_dict_len ty PySem.F.entry_dict_len (iH b a hd e ?_) (PySem.F.args_dict_len_1 _))));show wpAny _ _ (holding [Value.int (es.size:Int) s.toks] (asIndex (.int (es.size:Int) s.toks)) >>= _) _ _ _;refine J0 (JX (show wpAny _ _ (pure (es.size:Int)) _ _ _ from J7 (J0 (Wf ?_))));dsimp only;rw[Jd (by simp_all),Jd (by simp_all)];unfold retInt;exact J0 (wpAny_mkInt (J7 ⟨_,rfl,h _⟩))
end
section
variable {X:Cx}{pins:List (Addr × Obj)}{σ:St}{H:Hp}{s:Shared}{a:Addr}{xs:KVN}{A:Around}{E:Value->Shared->Prop}
theorem kB {P:Program}{w:World}{h:Heap}(ok:HOk P w H h)(e:Rd H a (DN P w a xs)):(a == sysModules)=false/\∃ o es ep,h.get? a=some o/\o.ExactDict/\o.data=.dict es ep/\es.size=xs.length/\(es.size:Int)<2 ^ 63:=by
 obtain⟨⟨z,b,i,r,o,es,ep,g,f,d,c,j⟩,_,_⟩:=(show ObjOk P w H h a (DN P w a xs) from bM ok e);have l:es.size=xs.length:=by rw[Z7 c,<- Ya r]
 refine⟨b,o,es,ep,g,f,d,l,?_⟩;rw[JG]at z;lia
theorem zaN {Q:Value->Shared->Prop}(I:Inv X pins σ H s)(e:Rd H a (DN X.prog X.w a xs))(h:∀ t b,Inv X pins σ H b->Q (.int xs.length t) b):wpAny (model X.prog X.w) A (call (.builtin "len") [.ref a]) Q E s:=by
 obtain⟨c,o,j,k,i,g,d,l,f⟩:=kB I.hok e;refine Calls.call_function_entry kind_len plain_len entry_len (args_len1 _) (oz i g d c f λt=>?_);rw[l];exact h _ _ (I.tok _)
theorem cI {Q:Bool->Shared->Prop}(I:Inv X pins σ H s)(e:Rd H a (DN X.prog X.w a xs))(h:∀ c,Inv X pins σ H c->Q (!xs.isEmpty) c):wpAny (model X.prog X.w) A (truthy (.ref a)) Q E s:=by
 obtain⟨j,o,i,u,g,d,k,l,f⟩:=kB I.hok e;have ty:s.TypeIs (.ref a) "dict":=⟨o,g,d.1⟩
 have q:∀ (n:Nat) (b:Bool),n=xs.length->b=((n:Int) != 0)->b = !xs.isEmpty:=λn b m e2=>by
  subst m e2
  cases xs with
  | nil=>rfl
  | cons x r=>rw[Yw];simp;lia
 unfold truthy;show wpAny _ _ (callSpecial? (Value.ref a) (Str.ofString "__bool__") >>= _) _ _ _;refine J0 (wpAny_callSpecial?_none (T:="dict") ty noBool_dict ?_);show wpAny _ _ (specialOf (Value.ref a) (Str.ofString "__len__") >>= _) _ _ _;refine J0 (ZM (T:="dict") ty PySem.F.slot_dict_len.lookup ?_);show wpAny _ _ (runValue (Code.builtin "len" { pos:=[Value.ref a] }) >>= _) _ _ _;refine J0 (wpAny_runValue (YG entry_len ?_));refine JN (oz (Q:=λr c=>(∃ t,r=.int i.size t)/\Inv X pins σ H c) g d k j f λt=>⟨⟨t,rfl⟩,I.tok _⟩) ?_ λ_ _ z=>z;rintro fin c ⟨r,rfl,⟨t,rfl⟩,p⟩;refine J7 ?_;rw[q i.size _ l rfl];exact h c p
end
def NAt (P:Program)(w:World)(H:Hp)(a:Addr)(xs:KVN):Prop:=Rd H a (DN P w a xs)/\KsIn H xs
def dW (P:Program)(w:World)(ty e:TE):TE:=λσ H Q=>ty σ H λy f=>e σ f λx c=>∃ a b d k,x=.ref a/\y=.ref b/\NAt P w c a d/\NKey c k b/\Q (.bl (!(yn d k).isSome)) c
def be (P:Program)(w:World)(g ty f:TE):TE:=λσ H Q=>g σ H λx e=>∃ a,x=.ref a/\(∃ c,Rd e a (DN P w a c))/\ty σ e λy h=>f σ h λz d=>∃ b c k,y=.ref b/\NAt P w d a c/\NKey d k b/\Q ((yn c k).getD z) d
def zaz (P:Program)(w:World)(e ty:TE):TE:=λσ H Q=>e σ H λx f=>ty σ f λy c=>∃ a b d k v,x=.ref a/\y=.ref b/\NAt P w c a d/\NKey c k b/\yn d k=some v/\Q v c
def zaH (P:Program)(w:World)(f ty e:TE):TS:=λD σ H=>e σ H λv h=>f σ h λx g=>ty σ g λy d=>∃ a b c k,x=.ref a/\y=.ref b/\d a=some (DN P w a c)/\KsIn d c/\NKey d k b/\c.length<sizeLine/\D.nx σ (upd d a (DN P w a (wD c k b v)))
section
variable {X:Cx}{o i e f value:Expr}{pos pos' apos cpos:Pos}{td ty tv tx:TE}
theorem qY {pins:List (Addr × Obj)}{σ:St}{H:Hp}{s:Shared}{a:Addr}{xs:KVN}(I:Inv X pins σ H s)(d:Rd H a (DN X.prog X.w a xs)) :
  s.TypeIs (.ref a) "dict"/\∀ b,Value.ref a=.ref b->∃ ob,s.heap.get? b=some ob/\ob.dict=none:=by
 obtain⟨_,q,f,g,e,c,_⟩:=kB I.hok d;refine⟨⟨q,e,c.1⟩,λb z=>?_⟩;cases z;exact⟨q,e,c.2.1⟩
theorem jX (p:X.A.units+3<cLine)(hi:PE X i ty)(q:PE X o td):PC X .NotIn i o (dW X.prog X.w ty td):=by
 intro pins s σ H Q I h;refine thn (hi pins s σ H _ I h) λm d ⟨y,A,w,e,j⟩=>thn (q pins d σ A _ w j) λu C ⟨x,z,v,f,a,b,c,k,ex,r,n,l,g⟩=>?_;subst ex r;cases (show u=Value.ref a from f);cases (show m=Value.ref b from e);exact cK p v n.1 n.2 l λB t=>⟨.bl (!(yn c k).isSome),z,t,rfl,g⟩
theorem dk (r:X.A.units+3<cLine)(w:PE X o td)(hi:PE X i ty)(t:NoSl i):PE X (.Subscript o i pos) (zaz X.prog X.w td ty):=by
 intro pins s σ H Q I h;refine dY PySem.F.slot_dict_getitem.lookup t (thn (w pins s σ H _ I h) λu e ⟨x,D,B,g,l⟩=>thn (hi pins e σ D _ B l) λp J ⟨y,C,d,f,a,b,E,k,v,ex,z,n,m,q,j⟩=>?_);subst ex z;cases (show u=Value.ref a from g);cases (show p=Value.ref b from f);exact⟨(qY d n.1).1,jt r d n.1 n.2 m q λF G A c=>⟨v,C,A,c,j⟩⟩
theorem oC (D:X.A.units+3<cLine) (E:PE X o td) (G:PE X e ty) (F:PE X f tx) (m:M2 X o "get" apos e f cpos):PE X (.Call (.Attribute o "get" apos) [e,f] [] cpos) (be X.prog X.w td ty tx):=by
 intro pins s σ H Q I h;refine wpAny_Call_method m.base m.few m.line PySem.F.plainAttrs_dict PySem.F.slot_dict_get PySem.F.type_dict_get (thn (E pins s σ H _ I h) λu p ⟨x,P,g,t,a,ex,⟨R,d⟩,A⟩=>?_);subst ex;cases (show u=Value.ref a from t);obtain⟨j,i⟩:=qY g d;refine⟨j,i,?_⟩;rw[m.trees]
 refine ZV rfl (Calls.evalArgs_plain (ZQ (thn (G pins p σ P _ g A) λC l ⟨y,O,M,r,w⟩ =>
  ZQ (thn (F pins l σ O _ M w) λW V ⟨z,N,L,q,b,S,k,J,n,B,v⟩=>WC ?_))))
 subst J;cases (show C=Value.ref b from r);exact ar D L n.1 n.2 B q λT U K c=>⟨_,N,K,c,v⟩
theorem lU (z:X.A.units+3<cLine)(B:PE X o td)(hi:PE X i ty)(w:PE X value tv)(A:swapsWith value (some (.Subscript o i pos')) pos.line X.env=pure false) :
  PS X (.Assign [.Subscript o i pos'] value pos) (zaH X.prog X.w td ty tv):=by
 intro pins s σ H D I h;refine wpAny_Assign_Subscript (thn (w pins s σ H _ I h) λr d ⟨v,M,K,g,n⟩=>thn (B pins d σ M _ K n) λu c ⟨x,L,J,f,m⟩=>thn (hi pins c σ L _ J m) λt P ⟨y,Q,G,e,a,b,N,k,ex,E,C,p,q,l,j⟩=>?_) A;subst ex E;cases (show u=Value.ref a from f);cases (show t=Value.ref b from e);exact jr z G C p q g l λO F=>⟨σ,_,F,j⟩
theorem vw:CallR X (.builtin "len") (λvs H Q=>∃ a xs,vs=[.ref a]/\Rd H a (DN X.prog X.w a xs)/\Q (.int xs.length) H):=by
 intro pins s σ H vs g Q I b ⟨a,xs,e,d,q⟩;subst e;obtain⟨u,rfl,c⟩:=b.one;cases (show u=Value.ref a from c);exact zaN I d λt h f=>⟨.int xs.length,H,f,⟨t,rfl⟩,q⟩
theorem zaq:TruR X (λx H Q=>∃ a xs,x=.ref a/\Rd H a (DN X.prog X.w a xs)/\Q (!xs.isEmpty) H):=by
 intro pins s σ H x v Q I b ⟨a,xs,e,d,q⟩;subst e;cases (show v=Value.ref a from b);exact cI I d λf c=>⟨H,c,q⟩
theorem zby (ha:PE X o td)(e:∀ whole,isTrue o X.env whole=(do let v <- whole;standAt o.pos;holding [v] (truthy v))) :
  PT X o (λσ H Q=>td σ H λx H'=>∃ a xs,x=.ref a/\Rd H' a (DN X.prog X.w a xs)/\Q (!xs.isEmpty) H'):=by
 intro pins s σ H Q I h;exact isTrue_plain (thn (ha pins s σ H _ I h) λv b ⟨x,g,f,c,d⟩=>zaq pins b σ g x v Q f c d) (e _)
def zay (P:Program)(w:World):TE:=λ_ H Q=>∀ p,H p=none->Q (.ref p) (upd H p (DN P w p []))
theorem uW:PE X (.Dict [] [] pos) (zay X.prog X.w):=λpins s σ H Q I h =>
 wpAny_Dict_empty ⟨.ref s.heap.objs.size,_,I.laid (a:=s.heap.objs.size) (o:=DN X.prog X.w s.heap.objs.size []) (t':=s.toks) (λ_ _ q=>J8 _ q) (Je _)
  (dn_new (vs:=[]) (JJ _) (Zi.mpr (YZ I.big)) .nil (Heap.DictOfH.new _)),rfl,h _ (I.hok.fresh (Je _))⟩
end
def zbs (P:Program)(w:World)(p:Addr)(Q:VK):List (V × V)->Hp->Prop
 | [(y,v)],a=>∃ b k,y=.ref b/\a p=some (DN P w p [])/\NKey a k b/\Q (.ref p) (upd a p (DN P w p [(k,b,v)]))
 | _,_=>False
def zax (P:Program)(w:World)(ty c:TE):TE:=λσ H Q=>∀ p,H p=none->ty σ (upd H p (DN P w p [])) λy d=>c σ d λv a=>∃ b k,y=.ref b/\a p=some (DN P w p [])/\NKey a k b/\Q (.ref p) (upd a p (DN P w p [(k,b,v)]))
section
variable {X:Cx}{e f:Expr}{pos:Pos}{ty tv:TE}
theorem tI (N:X.A.units+3<cLine)(D:PE X e ty)(w:PE X f tv):PE X (.Dict [some e] [f] pos) (zax X.prog X.w ty tv):=by
 intro pins s σ H Q I q;have C:=I.hok.fresh (Je s.heap.objs.size)
 have J:=I.laid (a:=s.heap.objs.size) (o:=DN X.prog X.w s.heap.objs.size []) (h':=s.heap.push { cls:=.type "dict",data:=.dict #[] }) (t':=s.toks) (λ_ _ q=>J8 _ q) (Je _)
  (dn_new (vs:=[]) (JJ _) (Zi.mpr (YZ I.big)) .nil (Heap.DictOfH.new _))
 refine wpAny_Dict_any rfl rfl (by simp) (by show 1<=15;lia) (thn ((gb D w dj) pins _ σ _ (zbs X.prog X.w s.heap.objs.size Q) J (q _ C)) ?_);rintro vs M ⟨n,O,d,rel,r⟩
 match n,rel,r with
 | [(y,v)],rel,r =>
  obtain⟨b,k,rfl,g,p,m⟩:=r
  cases rel with
  | @cons _ i _ K h t =>
   cases t;obtain⟨j,L⟩:=i;cases (show j=Value.ref b from h.1);obtain⟨z,F,vs,l,G⟩:=vR d.hok (.inl g) (λx u=>nomatch u);cases l;unfold storeAll;rw[Z5];refine J0 (J0 (wpAny_dictSet_heap (knd:=yM X.prog X.w) (k:=k) (hsz:=JJ _) (show X.A.units+2<cLine by lia) (xg d.hok p) G λh' c A=>J7 ?_));dsimp only;rw[Zy];refine J7 ⟨.ref s.heap.objs.size,_,?_,rfl,m⟩;have E:∃ q,h'.get? s.heap.objs.size=some q:=let ⟨q,_,_,B,_⟩:=c;⟨q,B⟩
   exact qi d (by rw[g];exact True.intro) A E (dn_new (by show 1<=sizeLine;decide) F (.cons ⟨rfl,rfl,h.2⟩ .nil) c)
 | [],_,r=>exact r.elim
 | _::_::_,_,r=>exact r.elim
end
section
variable {prog:Program}{w:World}{A:Around}{E:Value->Shared->Prop}{s:Shared}{d:Addr}
theorem iB {Q:Int->Shared->Prop}(q:Q (reduceHash 0xFCA86420) { s with toks:=s.toks+1 }):wpAny (model prog w) A (pyHash .none) Q E s:=by
 show wpAny (model prog w) A (pyHashByItsType .none) Q E s;refine W.pyHash_slot (T:="NoneType") (id:="NoneType.__hash__") (B:=Builtin.«NoneType.__hash__») rfl F.slot_NoneType_hash F.entry_NoneType_hash (F.args_NoneType_hash_1 _) (by decide) (.inl rfl) ?_;unfold Builtin.«NoneType.__hash__»;refine J0 ?_;show wpAny _ _ (pure _) _ _ _;unfold retInt;exact J7 (J0 (wpAny_mkInt (J7 ⟨_,_,rfl,q⟩)))
theorem vk {a:Addr}{k:KN}{Q:Bool->Shared->Prop}(d:A.units<cLine)(c:NIs prog w s.heap k a)(q:Q false s):wpAny (model prog w) A (eqBool (.ref a) .none) Q E s:=by
 obtain⟨as,b⟩:=c.reads;exact PySem.SeqAt.eqBoolOverData prog w A E s _ _ _ .none as [] Q b .none (md k).1 rfl (by show A.units+min _ 0<cLine;simp_all) q
theorem mN {n:Nat}{Q:Bool->Shared->Prop}(q:Q true s):wpAny (model prog w) A (eqIsQuiet n .none) Q E s:=by
 cases n<;>exact J7 q
theorem sZ {α β:Type}{f:α->β->Sem (ForInStep β)}{b:β}:∀ (l:List α) {Q:β->Shared->Prop},(∀ i∈l,∀ R:ForInStep β->Shared->Prop,R (.yield b) s->wpAny (model prog w) A (f i b) R E s)->Q b s->wpAny (model prog w) A (forIn l b f) Q E s
 | [],Q,_,q=>by rw[Zy];exact J7 q
 | i::l,Q,h,q=>by
  rw[Z5];exact J0 (h i JF _ (sZ l (λj a=>h j (JE _ a)) q))
theorem jG {stored:List Value}{Q:Bool->Shared->Prop}(h:∀ v∈stored,∃ a k,v=.ref a/\NIs prog w s.heap k a)(q:Q false s):wpAny (model prog w) A (tableMayTell .none stored) Q E s:=by
 unfold tableMayTell;by_cases c:stored.isEmpty=true
 ·rw[Jf c];exact J7 q
 rw[Jd c];refine J0 (mN (J0 (sZ stored (λv b R r=>?_) (J7 q))));obtain⟨a,k,rfl,d⟩:=h v b;exact J0 (tE d (J7 r))
theorem iF {o:Obj}{es:Array DictEntry}{ep:Nat}{h:Int}{Q:Option Nat->Shared->Prop}(n:A.units<cLine)(f:s.heap.get? d=some o)(hd:o.data=.dict es ep)(B:∀ e∈es.toList,∃ a k,e.key=.ref a/\NIs prog w s.heap k a)(q:Q none s) :
  wpAny (model prog w) A (dictFind d .none h) Q E s:=by
 have key:∀ (i:Nat) (e:DictEntry),es[i]?=some e->∃ a k,e.key=.ref a/\NIs prog w s.heap k a:=λi e b=>B e (by
  obtain⟨l,z⟩:=JU.mp b
  rw[<- z];exact Array.getElem_mem_toList l)
 unfold dictFind;refine JX (J0 (Y5 f hd ?_));by_cases c:(Value.none::List.filterMap (λi=>Option.map (λx=>x.key) es[i]?) (placesWithHash es.size (λi=>Option.map (λx=>x.hash) es[i]?) h)).all carriedByValue=true
 ·refine(JW (λm=>wpAny (model prog w) A m Q E s) (Jf c)).mpr ?_
  unfold dictWalkPlain;refine J0 (sZ _ (λi hi R r=>?_) (J7 q))
  cases b:es[i]? with
  | none=>exact J7 r
  | some e =>
   obtain⟨a,k,j,g⟩:=key i e b;by_cases ch:(e.hash == h)=true
   ·refine(JW (λm=>wpAny (model prog w) A m R E s) (Jf ch)).mpr (J0 (Yb f hd (J0 ?_)))
    rw[j];refine vk n g (J0 (Yb f hd ?_));dsimp only;rw[Jd (c:=(ep != ep)=true) (by simp),Jd Jp];exact J0 (YJ (J7 r))
   ·exact(JW (λm=>wpAny (model prog w) A m R E s) (Jd ch)).mpr (J7 r)
 ·refine(JW (λm=>wpAny (model prog w) A m Q E s) (Jd c)).mpr ?_
  have t:∀ v∈List.filterMap (λi=>Option.map (λx=>x.key) es[i]?) (placesWithHash es.size (λi=>Option.map (λx=>x.hash) es[i]?) h),∃ a k,v=.ref a/\NIs prog w s.heap k a:=λv y=>by
   obtain⟨i,-,e,b,rfl⟩:∃ i:Nat,True/\∃ e:DictEntry,es[i]?=some e/\e.key=v:=by
    obtain⟨i,p⟩:=List.mem_filterMap.mp y;exact⟨i,True.intro,Y9.mp p.2⟩
   exact key i e b
  by_cases u:(List.filterMap (λi=>Option.map (λx=>x.key) es[i]?) (placesWithHash es.size (λi=>Option.map (λx=>x.hash) es[i]?) h) == [Value.none])=true
  ·refine(JW (λm=>wpAny (model prog w) A m Q E s) (Jf u)).mpr (J0 (J7 ?_))
   dsimp only;rw[Jd (by simp)];refine J0 (sZ _ (λi hi R r=>?_) (J7 q))
   cases b:es[i]? with
   | none=>exact J7 r
   | some e =>
    obtain⟨a,k,j,g⟩:=key i e b;by_cases ch:(e.hash == h)=true
    ·refine(JW (λm=>wpAny (model prog w) A m R E s) (Jf ch)).mpr (J0 (Yb f hd (J0 ?_)))
     rw[j];refine vk n g (J0 (Yb f hd ?_));rw[Jd (c:=(ep != ep)=true) (by simp),Jd Jp];refine J0 (YJ ?_);rw[Jd (by simp)];exact J7 r
    ·exact(JW (λm=>wpAny (model prog w) A m R E s) (Jd ch)).mpr (J7 r)
  ·refine(JW (λm=>wpAny (model prog w) A m Q E s) (Jd u)).mpr (J0 (jG t ?_))
   dsimp only;rw[Jd (by simp)];refine J0 (sZ _ (λi hi R r=>?_) (J7 q))
   cases b:es[i]? with
   | none=>exact J7 r
   | some e =>
    obtain⟨a,k,j,g⟩:=key i e b;by_cases ch:(e.hash == h)=true
    ·refine(JW (λm=>wpAny (model prog w) A m R E s) (Jf ch)).mpr (J0 (Yb f hd (J0 ?_)))
     rw[j];refine vk n g (J0 (Yb f hd ?_));rw[Jd (c:=(ep != ep)=true) (by simp),Jd Jp];refine J0 (YJ ?_);rw[Jd (by simp)];exact J7 r
    ·exact(JW (λm=>wpAny (model prog w) A m R E s) (Jd ch)).mpr (J7 r)
theorem fq {o:Obj}{es:Array DictEntry}{ep:Nat}{Q:Option Value->Shared->Prop}(b:A.units<cLine)(c:s.heap.get? d=some o)(hd:o.data=.dict es ep)(f:∀ e∈es.toList,∃ a k,e.key=.ref a/\NIs prog w s.heap k a)(q:Q none { s with toks:=s.toks+1 }) :
  wpAny (model prog w) A (dictGet d .none) Q E s:=by
 unfold dictGet;exact JX (J0 (iB (J0 (iF (s:={ s with toks:=s.toks+1 }) b c hd f (J7 q)))))
theorem sS {o:Obj}{es:Array DictEntry}{ep:Nat}{Q:Value->Shared->Prop}(c:A.units<cLine)(g:s.heap.get? d=some o)(i:o.ExactDict)(hd:o.data=.dict es ep)(f:(d == sysModules)=false)(h:∀ e∈es.toList,∃ a k,e.key=.ref a/\NIs prog w s.heap k a)(q:Q (.bool false) { s with toks:=s.toks+1 }) :
  wpAny (model prog w) A (Builtin.«dict.__contains__» ⟨[.ref d,.none],[]⟩) (λfin b=>∃ r,fin=.done (.ret r)/\Q r b) E s:=by
 unfold Builtin.«dict.__contains__»;refine J0 ?_;show wpAny _ _ (pure (d,Value.none)) _ _ _;refine J7 (J0 (fq c g hd h ?_));show wpAny _ _ (Builtin.Dict.pendingKey? d .none >>= _) _ _ _;exact J0 (wpAny_pendingKey_other f (J7 ⟨_,rfl,q⟩))
section
variable {X:Cx}{pins:List (Addr × Obj)}{σ:St}{H:Hp}{a:Addr}{xs:KVN}
theorem gz {Q:Value->Shared->Prop}(r:A.units+3<cLine)(I:Inv X pins σ H s)(e:Rd H a (DN X.prog X.w a xs))(ks:KsIn H xs)(h:∀ b,Inv X pins σ H b->Q (.bool false) b) :
  wpAny (model X.prog X.w) A (compareOp .In .none (.ref a)) Q E s:=by
 obtain⟨z,j,q,rel,o,p,u,f,d,n,m,l,t⟩:=vR I.hok e ks
 have i:∀ e∈p.toList,∃ a k,e.key=.ref a/\NIs X.prog X.w s.heap k a:=λe c=>by
  rw[m]at c;obtain⟨x,g,rfl⟩:=Jv.mp c;exact⟨x.2.1,x.1,rfl,l x g⟩
 have ty:s.TypeIs (.ref a) "dict":=⟨o,f,d.1⟩;show wpAny _ _ (contains (.ref a) .none >>= _) _ _ _
 exact J0 (wpAny_contains_slot ty slot_dict_contains (Y1 slot_dict_contains ty entry_dict_contains
  (sS (by rw[Around.in1_units];lia) f d n j i (Z8 (J7 (h _ (I.tok _))))) (args_dict_contains _ _)))
end
def zbv (P:Program)(w:World):V->V->Hp->VK->Prop:=λx y H Q=>∃ a c,y=.ref a/\NAt P w H a c/\((∃ b k,x=.ref b/\NKey H k b/\Q (.bl (yn c k).isSome) H)\/(x=.non/\Q (.bl false) H))
theorem aX {X:Cx}(e:X.A.units+3<cLine):OpR X (compareOp .In) (zbv X.prog X.w):=by
 intro pins s σ H x y v u Q I d h ⟨a,f,j,n,q⟩;subst j;cases (show u=Value.ref a from h);rcases q with ⟨b,k,ex,i,q⟩|⟨ex,q⟩
 ·subst ex
  cases (show v=Value.ref b from d);exact zbz e I n.1 n.2 i λg c=>⟨.bl (yn f k).isSome,H,c,rfl,q⟩
 ·subst ex
  cases (show v=Value.none from d);exact gz e I n.1 n.2 λg c=>⟨.bl false,H,c,rfl,q⟩
end
section
variable {prog:Program}{w:World}{A:Around}{E:Value->Shared->Prop}{s:Shared}{d b:Addr}{K:Type}[DecidableEq K]{knd:HeapKind prog w K}{xs:List (K × Addr × Value)}{k:K}{v:Value}
theorem uz {Q:Unit->Shared->Prop}(I:knd.room A)(u:knd.is s.heap k b)(hm:s.heap.DictOfH knd d xs)(G:xs.length<=sizeLine)(q:∀ h',h'.DictOfH knd d (storedH xs k b v)->Heap.SameBut d s.heap h'->Q () { s with heap:=h' }):wpAny (model prog w) A (dictSetHashed d (.ref b) (knd.hash k) v) Q E s:=by
 obtain⟨o,J,K,g,t,f,r,l,h⟩:=hm;unfold dictSetHashed;refine JX (J0 (wpAny_dictFind_heap I u g f r l h (λno=>?_) (λj p n=>?_)))
 ·refine J0 (YJ (wpAny_updateDictKeys g f (q _ ?_ (Y8 _ _ _)) (by rw[Z7 r];exact G) (by simp)))
  have m:=Y8 s.heap d (Obj.mapDictKeys λx=>x.push ⟨knd.hash k,.ref b,v⟩);refine⟨_,_,_,Yg _ g (Obj.isFreed_of_dict (Obj.data_mapDictKeys f _)),t.mapDictKeys _,Obj.data_mapDictKeys f _,?_,?_,?_⟩
  ·rw[storedH_new (atKey_none_of_get no),Y2,Zc,r];rfl
  ·rw[storedH_new (atKey_none_of_get no)]
   intro x i;rcases Jy.mp i with z|z
   ·exact knd.keeps (l x z) g f m
   ·rw[Ja.mp z];exact knd.keeps u g f m
  ·rw[storedH_new (atKey_none_of_get no),Y2,WD]
   refine⟨h,by simp,λa C c B=>?_⟩;rw[List.map_singleton,Ja]at B;rintro rfl;rw[B]at C;exact not_mem_keys_of_get no C
 ·refine J0 (YJ (J0 (wpAny_updateDict g f (wpAny_point (q _ ?_ (Y8 _ _ _))) (by simp))))
  have m:=Y8 s.heap d (Obj.mapDict λx=>x.modify j λe=>{ e with val:=v });refine⟨_,_,_,Yg _ g (Obj.isFreed_of_dict (Obj.data_mapDict f _)),t.mapDict _,Obj.data_mapDict f _,?_,?_,?_⟩
  ·rw[storedH_old (atKey_of_get h n),Wq,r]
   exact modify_map_putAt _ _ k v (λa D=>rfl) h n
  ·have F:=storedH_old (atKey_of_get h n) b v
   rw[F];intro x i;obtain⟨y,H,rfl⟩:=Jv.mp i;have:=knd.keeps (l y H) g f m;unfold putAt;split
   ·exact this
   ·exact this
  ·rw[storedH_old (atKey_of_get h n),keys_map_putAt];exact h
def mergeN (xs ys:List (K × Addr × Value)):List (K × Addr × Value):=ys.foldl (λacc y=>storedH acc y.1 y.2.1 y.2.2) xs
theorem sW (acc:List (K × Addr × Value))(y:K × Addr × Value):(storedH acc y.1 y.2.1 y.2.2).length<=acc.length+1:=by
 unfold storedH;split
 ·rw[Jg];simp_all
 ·rw[Jb];exact Je _
theorem wv {o:Addr}{ob:Obj}{ys:List (K × Addr × Value)}{Q:PUnit->Shared->Prop}{f:Nat->PUnit->Sem (ForInStep PUnit)}(ne:d≠o)(step:∀ (i:Nat) (a:i<ys.length) (s:Shared) (acc:List (K × Addr × Value)) (R:ForInStep PUnit->Shared->Prop),s.heap.get? o=some ob->s.heap.DictOfH knd d acc->knd.is s.heap ys[i].1 ys[i].2.1->acc.length<=sizeLine ->
   (∀ h',h'.DictOfH knd d (storedH acc ys[i].1 ys[i].2.1 ys[i].2.2)->Heap.SameBut d s.heap h'->R (.yield PUnit.unit) { s with heap:=h' })->wpAny (model prog w) A (f i PUnit.unit) R E s) :
  ∀ (m i:Nat) (s:Shared) (acc:List (K × Addr × Value)),i+m=ys.length->s.heap.get? o=some ob->s.heap.DictOfH knd d acc->(∀ x∈ys,knd.is s.heap x.1 x.2.1)->acc.length+m<=sizeLine ->
  (∀ h',h'.DictOfH knd d (mergeN acc (ys.drop i))->Heap.SameBut d s.heap h'->Q PUnit.unit { s with heap:=h' })->wpAny (model prog w) A (forIn (List.range' i m) PUnit.unit f) Q E s
 | 0,i,s,acc,hi,g,b,e,n,q=>by
  rw[List.range'_zero,Zy];refine J7 (q s.heap ?_ (Heap.SameBut.refl _ _));rw[List.drop_eq_nil_of_le (by simp_all)]
  exact b
 | m+1,i,s,acc,hi,g,b,e,n,q=>by
  have a:i<ys.length:=by lia
  rw[show List.range' i (m+1)=i::List.range' (i+1) m from rfl,Z5];refine J0 (step i a s acc _ g b (e _ (YM a)) (by lia) λh' k c=>?_);obtain⟨B,v,y,u,G,t,F,D,C⟩:=b;have l:h'.get? o=some ob:=by rw[c.2 o (λz=>ne z.symm)];exact g
  refine wv ne step m (i+1) { s with heap:=h' } _ (by lia) l k (λx p=>knd.keeps (e x p) u t c) ?_ λr j h=>q r ?_ (c.trans h)
  ·have:=sW acc ys[i]
   lia
  ·rw[YC a]
   exact j
end
section
variable {prog:Program}{w:World}{A:Around}{E:Value->Shared->Prop}{s:Shared}{d:Addr}{K:Type}[DecidableEq K]{knd:HeapKind prog w K}{xs ys:List (K × Addr × Value)}
theorem gr {o:Addr}{ob:Obj}{es:Array DictEntry}{ep:Nat}{nm:String}{Q:Array DictEntry->Shared->Prop}(i:s.heap.get? o=some ob)(h:ob.data=.dict es ep)(d:es.toList=ys.map (entryOfKey knd))(j:ys.length<=1)(g:∀ x∈ys,∀ R:Bool->Shared->Prop,R false s->wpAny (model prog w) A (Builtin.Dict.quietEq (.ref x.2.1)) R E s)(q:Q es s):wpAny (model prog w) A (Builtin.Dict.entriesForEmpty nm o) Q E s:=by
 show wpAny _ _ (dictEntries o >>= _) _ _ _;refine J0 (Y5 i h (J0 ?_));rw[<- Array.forIn_toList];refine sZ _ (λe b R r=>?_) (J7 q);rw[d]at b;obtain⟨x,f,rfl⟩:=Jv.mp b;refine J0 (g x f _ ?_)
 have a:¬(Array.filter (λz=>z.hash == (entryOfKey knd x).hash) es).size > 1:=by
  have l:=Array.size_filter_le (p:=λz:DictEntry=>z.hash == (entryOfKey knd x).hash) (xs:=es);have k:=Z7 d;lia
 rw[Jf (c:=(!false)=true) rfl,Jd a];exact J7 r
theorem aa {o2:Obj}{es b:Array DictEntry}{c:Nat}{y:K × Addr × Value}(e:s.heap.get? d=some o2)(j:o2.ExactDict)(a:o2.data=.dict b c)(i:es.toList=[y].map (entryOfKey knd))(h:knd.is s.heap y.1 y.2.1) :
  (s.heap.update d (Obj.mapDictKeys λ_=>es)).DictOfH knd d [y]:=by
 have f:=Y8 s.heap d (Obj.mapDictKeys λ_=>es);refine⟨_,_,_,Yg _ e (Obj.isFreed_of_dict (Obj.data_mapDictKeys a _)),j.mapDictKeys _,Obj.data_mapDictKeys a _,i,?_,by simp⟩;intro x g;rw[Ja.mp g];exact knd.keeps h e a f
theorem mU {o:Addr}{nm:String}{Q:Unit->Shared->Prop}(N:knd.room A)(ne:d≠o)(S:(o == sysModules)=false)(hm:s.heap.DictOfH knd d xs)(hn:s.heap.DictOfH knd o ys)(M:xs.length+ys.length<=sizeLine)(P:xs≠[]\/ys.length=1)(O:∀ x∈ys,∀ R:Bool->Shared->Prop,R false s->wpAny (model prog w) A (Builtin.Dict.quietEq (.ref x.2.1)) R E s)(q:∀ h',h'.DictOfH knd d (mergeN xs ys)->Heap.SameBut d s.heap h'->Q () { s with heap:=h' }):wpAny (model prog w) A (Builtin.Dict.mergeDict nm d o) Q E s:=by
 obtain⟨ob,h,t,g,Y,b,l,G,X⟩:=id hn;obtain⟨W,r,V,I,U,H,T,g5,Z⟩:=id hm
 have sz:([:h.size]:Std.Legacy.Range).size=ys.length:=by
  rw[<- Z7 l];simp[Std.Legacy.Range.size]
 unfold Builtin.Dict.mergeDict;rw[Jd (by simpa using ne)];refine J0 ?_;unfold Builtin.Dict.showsAll;rw[Jd (by rw[S];simp)];refine J7 (J0 (Y5 g b ?_));dsimp only;by_cases p:(!(decide (h.size<=8) && h.all λe=>(keyPart e.key).isSome))=true
 ·rw[Jf p]
  refine J0 (Y5 I H ?_);by_cases em:r.isEmpty=true
  ·rw[Jf em]
   have e2:r.size=0:=by simpa using em
   have L:xs=[]:=by
    rw[Z7 T]at e2;exact List.eq_nil_of_length_eq_zero e2
   have K:ys.length=1:=P.resolve_left λz=>z L;have u:h.size=1:=(Z7 l).trans K;refine J0 (gr g b l (by simp_all) O ?_);rw[Jf (c:=(!h.isEmpty)=true) (by simp;intro z;rw[z]at u;cases u)];refine J0 (wpAny_updateDictKeys I H (J7 (q _ ?_ (Y8 _ _ _))) (by rw[e2];exact JJ _) (by rw[u];lia));obtain⟨y,rfl⟩:=List.length_eq_one_iff.mp K;subst L;exact aa I U H l (G y JF)
  ·rw[Jd em]
   refine J0 (Yb g b (J0 (Y5 g b (J0 ?_))));refine(JW (λm=>wpAny (model prog w) A m _ E s) (Zz _ _ _)).mpr ?_;rw[sz];refine wv (ob:=ob) (ys:=ys) ne (λi F s acc R n C D v B=>?_) ys.length 0 s xs (by lia) g hm G M λh' a f=>J7 (q h' a f);have J:h[i]?=some (entryOfKey knd ys[i]):=by rw[entry_at l,J9 F];rfl
   refine J0 (Y5 n b ?_);rw[J];refine J0 (JX (uz (k:=ys[i].1) N D C v λh' a f=>?_));have j:h'.get? o=some ob:=by rw[f.2 o (λz=>ne z.symm)];exact n
   refine J0 (Yb (s:={ s with heap:=h' }) j b ?_);rw[Jd (c:=(t != t)=true) (by simp)];exact J7 (B h' a f)
 ·rw[Jd p]
  refine J0 (Yb g b (J0 (Y5 g b (J0 ?_))));refine(JW (λm=>wpAny (model prog w) A m _ E s) (Zz _ _ _)).mpr ?_;rw[sz];refine wv (ob:=ob) (ys:=ys) ne (λi F s acc R n C D v B=>?_) ys.length 0 s xs (by lia) g hm G M λh' a f=>J7 (q h' a f);have J:h[i]?=some (entryOfKey knd ys[i]):=by rw[entry_at l,J9 F];rfl
  refine J0 (Y5 n b ?_);rw[J];refine J0 (JX (uz (k:=ys[i].1) N D C v λh' a f=>?_));have j:h'.get? o=some ob:=by rw[f.2 o (λz=>ne z.symm)];exact n
  refine J0 (Yb (s:={ s with heap:=h' }) j b ?_);rw[Jd (c:=(t != t)=true) (by simp)];exact J7 (B h' a f)
theorem gX {a:Addr}{k:KN}{R:Bool->Shared->Prop}(h:NIs prog w s.heap k a)(r:R false s):wpAny (model prog w) A (Builtin.Dict.quietEq (.ref a)) R E s:=by
 obtain⟨o,d,n,c,b,f,e⟩:=h;exact J0 (ZM (T:="tuple") ⟨o,c,b⟩ F.slot_tuple_eq.lookup (J7 r))
theorem pB {o:Addr}{Q:Value->Shared->Prop}(g:knd.room A)(ne:d≠o)(j:(o == sysModules)=false)(hm:s.heap.DictOfH knd d xs)(hn:s.heap.DictOfH knd o ys)(f:xs.length+ys.length<=sizeLine)(i:xs≠[]\/ys.length=1)(h:∀ x∈ys,∀ R:Bool->Shared->Prop,R false s->wpAny (model prog w) A (Builtin.Dict.quietEq (.ref x.2.1)) R E s)(q:∀ h',h'.DictOfH knd d (mergeN xs ys)->Heap.SameBut d s.heap h'->Q .none { s with heap:=h' }):wpAny (model prog w) A (Builtin.«dict.update» ⟨[.ref d,.ref o],[]⟩) (λfin e=>∃ r,fin=.done (.ret r)/\Q r e) E s:=by
 have ty:=hn.typeIs;unfold Builtin.«dict.update»;refine J0 ?_;show wpAny _ _ (Builtin.Dict.notOrdered "update" ⟨[Value.ref d,Value.ref o],[]⟩ >>= _) _ _ _;refine J0 (Zv (s:=s) hm.typeIs ?_);show wpAny _ _ (pure (d,[Value.ref o])) _ _ _;refine J7 ?_;show wpAny _ _ (Builtin.Dict.updateFrom "dict.update" d (.ref o) [] .none) _ _ _;show wpAny _ _ (typeOf (Value.ref o) >>= _) _ _ _;refine J0 (YF ty ?_);rw[Jd (by simp)];refine J0 ?_;unfold Builtin.Dict.merge Builtin.Dict.readDirectly;refine J0 (J0 (YA (T:="dict") (b:=true) ty rfl ?_));rw[Jd (by simp)];refine J0 (ZM (T:="dict") ty F.slot_dict_iter.lookup (J7 ?_));rw[Jf (by decide)];refine J0 ?_;show wpAny _ _ (pure o) _ _ _;refine J7 (mU g ne j hm hn f i h λh' a c=>?_);refine J0 ?_;show wpAny _ _ (pure ()) _ _ _;exact J7 (J7 ⟨_,rfl,q h' a c⟩)
end
def yz (xs ys:KVN):KVN:=ys.foldl (λacc y=>wD acc y.1 y.2.1 y.2.2) xs
theorem mergeV_rel:∀ {ys:KVN}{us:List (KN × Addr × Value)}{xs:KVN}{vs:List (KN × Addr × Value)},Paired PrN ys us->Paired PrN xs vs->Paired PrN (yz xs ys) (mergeN vs us):=by
 intro ys us xs vs r
 induction r generalizing xs vs with
 | nil=>intro q;exact q
 | @cons p u a us h t ih =>
  intro q;have e:=putN_rel q p.1 p.2.1 h.2.2;rw[show storedH vs p.1 p.2.1 u.2.2=storedH vs u.1 u.2.1 u.2.2 by rw[h.1,h.2.1]]at e;exact ih e
theorem mergeV_len:∀ (ys xs:KVN),(yz xs ys).length<=xs.length+ys.length
 | [],xs=>Je _
 | y::ys,xs=>by
  have b:=mergeV_len ys (wD xs y.1 y.2.1 y.2.2);have a:=pW xs y.1 y.2.1 y.2.2;show (yz (wD xs y.1 y.2.1 y.2.2) ys).length<=_;rw[JM];lia
section
variable {X:Cx}{pins:List (Addr × Obj)}{σ:St}{H:Hp}{s:Shared}{a b:Addr}{xs ys:KVN}{A:Around}{E:Value->Shared->Prop}
theorem gy {Q:Value->Shared->Prop}(t:A.units+3<cLine)(ne:a≠b)(I:Inv X pins σ H s)(k:H a=some (DN X.prog X.w a xs))(n:KsIn H xs)(F:Rd H b (DN X.prog X.w b ys))(m:KsIn H ys)(j:xs.length+ys.length<=sizeLine)(w:xs≠[]\/ys.length=1)(h:∀ i,Inv X pins σ (upd H a (DN X.prog X.w a (yz xs ys))) i->Q .none i):wpAny (model X.prog X.w) A (call (.builtin "dict.update") [.ref a,.ref b]) Q E s:=by
 obtain⟨z,B,J,rel,l⟩:=vR I.hok (.inl k) n;obtain⟨G,g,K,c,d⟩:=vR I.hok F m;refine Y1 PySem.F.slot_dict_update l.typeIs PySem.F.entry_dict_update (pB (rK t) ne g l d (by rw[<- Ya rel,<- Ya c];exact j) ?_ ?_ λD f u=>h _ ?_) (PySem.F.args_dict_update_2 _ _)
 ·rcases w with z|z
  ·refine .inl λe=>z ?_
   subst e;cases rel;rfl
  ·exact .inr (by rw[<- Ya c];exact z)
 ·intro x p R r
  obtain⟨o,S,T,P,O,N,M,C,L⟩:=d;exact gX (C x p) r
 ·have y:∃ q,D.get? a=some q:=let ⟨q,_,_,v,_⟩:=f;⟨q,v⟩
  exact qi I (by rw[k];exact True.intro) u y (dn_new (JR (mergeV_len _ _) j) B (mergeV_rel c rel) f)
end
def zaw (P:Program)(w:World)(g ty:TE):TE:=λσ H Q=>g σ H λx f=>∃ a,x=.ref a/\(∃ c,Rd f a (DN P w a c))/\ty σ f λy e=>∃ b c d,y=.ref b/\a≠b/\e a=some (DN P w a c)/\KsIn e c/\NAt P w e b d/\c.length+d.length<=sizeLine/\(c≠[]\/d.length=1)/\Q .non (upd e a (DN P w a (yz c d)))
theorem lY {X:Cx}{o e:Expr}{apos cpos:Pos}{c ty:TE}(w:X.A.units+3<cLine) (z:PE X o c) (B:PE X e ty) (m:M1 X o "update" apos e cpos):PE X (.Call (.Attribute o "update" apos) [e] [] cpos) (zaw X.prog X.w c ty):=by
 intro pins s σ H Q I h;refine wpAny_Call_method m.base m.few m.line PySem.F.plainAttrs_dict PySem.F.slot_dict_update PySem.F.type_dict_update (thn (z pins s σ H _ I h) λu j ⟨x,G,f,l,a,ex,⟨J,d⟩,q⟩=>?_);subst ex;cases (show u=Value.ref a from l);obtain⟨i,g⟩:=qY f d;refine⟨i,g,?_⟩;rw[m.trees];refine ZV rfl (Calls.evalArgs_plain (ZQ (thn (B pins j σ G _ f q) λt N ⟨y,O,F,k,b,L,K,C,ne,D,r,n,v,A,p⟩=>WC ?_)));subst C;cases (show t=Value.ref b from k);exact gy w ne F D r n.1 n.2 v A λM E=>⟨.non,_,E,rfl,p⟩
section
variable {prog:Program}{w:World}{A:Around}{E:Value->Shared->Prop}{s:Shared}{d:Addr}{o:Obj}{es:Array DictEntry}{ep:Nat}
theorem rQ {Q:Value->Shared->Prop}(a:s.heap.get? d=some o) (e:o.ExactDict) (hd:o.data=.dict es ep) (f:(d == sysModules)=false)
  (q:Q (.ref s.heap.objs.size) { s with heap:=s.heap.push { cls:=.type "dict_keyiterator",data:=.fields #[.ref d,.int 0 0,.int es.size 0,.int ep 0] } }):wpAny (model prog w) A (pyIter (.ref d)) Q E s:=by
 have ty:s.TypeIs (.ref d) "dict":=⟨o,a,e.1⟩;have nx:=F.slot_dict_keyiterator_next.lookup
 have body:wpAny (model prog w) A.in1 (Builtin.«dict.__iter__» ⟨[.ref d],[]⟩) (λfin b=>∃ v,fin=.done (.ret v)/\∃ c r,b.TypeIs v c/\typeLookup (Value.type c) (Str.ofString "__next__")=pure (some r)/\Q v b) E s:=by
  unfold Builtin.«dict.__iter__» Builtin.Dict.dictSlotNone;refine J0 (J0 (Zv ty (J0 ?_)));show wpAny _ _ (pure ((.ref d,[]):Value × List Value)) _ _ _;refine J7 (J7 (J0 ?_));refine(show wpAny _ _ (pure d) _ _ _ from J7 (J0 ?_));unfold Builtin.Dict.showsAll;rw[Jd (by rw[f];simp)];refine J7 (J0 (Y5 a hd (J0 (Yb a hd (J0 ?_)))));exact JK (J7 ⟨_,rfl,_,_,⟨_,Jq _ rfl,rfl⟩,nx,q⟩)
 exact wpAny_pyIter_slot ty F.slot_dict_iter (Y1 F.slot_dict_iter ty F.entry_dict_iter body (F.args_dict_iter_1 _))
end
section
variable {prog:Program}{w:World}{A:Around}{E:Value->Shared->Prop}{s:Shared}{d it:Addr}{o:Obj}{es:Array DictEntry}{ep i:Nat}{e:DictEntry}
theorem jq {Q:Value->Shared->Prop}(m:s.heap.get? d=some o)(hd:o.data=.dict es ep)(hi:s.heap.IsKeyIter it d i es.size ep)(r:es[i]?=some e)(q:∀ h',h'.IsKeyIter it d (i+1) es.size ep->(∀ b u,b≠it->s.heap.get? b=some u->h'.get? b=some u)->Q e.key { s with heap:=h' }) :
  wpAny (model prog w) A (Builtin.«dict_keyiterator.__next__» ⟨[.ref it],[]⟩) (λfin p=>∃ v,fin=.done (.ret v)/\Q v p) E s:=by
 obtain⟨k,f,h,g⟩:=id hi;have ty:s.TypeIs (.ref it) "dict_keyiterator":=⟨k,f,h⟩;unfold Builtin.«dict_keyiterator.__next__»;refine J0 ?_;show wpAny _ _ (pure (Value.ref it)) _ _ _;refine J7 (J0 (J0 (J0 (Wi ty (J7 (J0 (Ww f g ?_)))))));show wpAny _ _ (Builtin.Dict_items.addrOf (Value.ref d) >>= _) _ _ _;refine J0 (show wpAny _ _ (pure d) _ _ _ from J7 (J0 (Y5 m hd ?_)));dsimp only;rw[Jd (c:=((es.size:Int) != (es.size:Int))=true) (by simp)];refine J0 (show wpAny _ _ (pure d) _ _ _ from J7 (J0 (Yb m hd ?_)));rw[Jd (c:=((ep:Int) != (ep:Int))=true) (by simp)];refine J7 ?_;dsimp only;rw[Jd (c:=(i:Int)<0) (by simp_all),Yf,r];refine J0 (J0 (Wi ty (J7 (J0 (wpAny_isOneOf_keyiter ty ?_)))));show wpAny _ _ (setField (.ref it) 1 (rawInt ((i:Int)+1)) >>= _) _ _ _;refine J0 (Wx f g (by show 1<4;lia) ?_);have l:(k.mapFields (·.setIfInBounds 1 (rawInt ((i:Int)+1)))).data=.fields #[.ref d,.int ((i+1:Nat):Int) 0,.int es.size 0,.int ep 0]:=Obj.data_mapFields g _;have n:=Y8 s.heap it (Obj.mapFields (·.setIfInBounds 1 (rawInt ((i:Int)+1))));have a:=Yg (Obj.mapFields (·.setIfInBounds 1 (rawInt ((i:Int)+1)))) f (Obj.isFreed_of_fields l);have j:(s.heap.update it (Obj.mapFields (·.setIfInBounds 1 (rawInt ((i:Int)+1))))).IsKeyIter it d (i+1) es.size ep:=⟨_,a,(Obj.cls_mapFields ..).trans h,l⟩;refine J0 (JX (J0 (wpAny_isOneOf_keyiter ⟨_,a,(Obj.cls_mapFields ..).trans h⟩ ?_)));exact J7 (J7 ⟨_,rfl,q _ j λb u nb t=>(n.2 b nb).trans t⟩)
theorem oU {Q:Option Value->Shared->Prop}(f:s.heap.get? d=some o)(hd:o.data=.dict es ep)(hi:s.heap.IsKeyIter it d i es.size ep)(g:es[i]?=some e)(q:∀ h',h'.IsKeyIter it d (i+1) es.size ep->(∀ b u,b≠it->s.heap.get? b=some u->h'.get? b=some u)->Q (some e.key) { s with heap:=h' }):wpAny (model prog w) A (pyNext (.ref it)) Q E s:=by
 obtain⟨c,j,h,l⟩:=id hi;have ty:s.TypeIs (.ref it) "dict_keyiterator":=⟨c,j,h⟩;unfold pyNext;exact J0 (Zs (wpAny_callSpecial?_slot ty Wm (Y1 Wm ty F.entry_dict_keyiterator_next (jq f hd hi g λh' a k=>J7 (q h' a k)) (F.args_dict_keyiterator_next_1 _))))
theorem j5 {Q:Fin->Shared->Prop}(h:A.handled=none) (e:s.heap.get? d=some o) (hd:o.data=.dict es ep) (hi:s.heap.IsKeyIter it d i es.size ep) (j:es[i]?=none)
  (q:∀ h' ev,Heap.ExtBut it s.heap h'->({ s with heap:=h' }:Shared).TypeIs ev "StopIteration"->E ev { s with heap:=h' }) :
  wpAny (model prog w) A (Builtin.«dict_keyiterator.__next__» ⟨[.ref it],[]⟩) Q E s:=by
 obtain⟨g,a,l,f⟩:=id hi;have ty:s.TypeIs (.ref it) "dict_keyiterator":=⟨g,a,l⟩;unfold Builtin.«dict_keyiterator.__next__»;refine J0 ?_;show wpAny _ _ (pure (Value.ref it)) _ _ _;refine J7 (J0 (J0 (J0 (Wi ty (J7 (J0 (Ww a f ?_)))))));show wpAny _ _ (Builtin.Dict_items.addrOf (Value.ref d) >>= _) _ _ _;refine J0 (show wpAny _ _ (pure d) _ _ _ from J7 (J0 (Y5 e hd ?_)));dsimp only;rw[Jd (c:=((es.size:Int) != (es.size:Int))=true) (by simp)];refine J0 (show wpAny _ _ (pure d) _ _ _ from J7 (J0 (Yb e hd ?_)));rw[Jd (c:=((ep:Int) != (ep:Int))=true) (by simp)];refine J7 ?_;dsimp only;rw[Jd (c:=(i:Int)<0) (by lia),Yf,j];refine J0 (J0 (Wi ty (J7 (J0 ?_))));show wpAny _ _ (setField (.ref it) 0 .none) _ _ _;refine Wx a f (by show 0<4;lia) (J0 ?_);unfold newExc newTuple;refine J0 (JK ?_ (by show 0<=sizeLine;exact JJ _));unfold firstArgMember;refine J0 (J0 (J7 (J7 (JK (wpAny_raiseNew_none h ?_) ?_))))
 rotate_left
 ·show (_++_:Array Value).size<=sizeLine+2
  rw[Jw];show 6+0<=sizeLine+2;rw[JG];lia
 refine q _ _ (λb u nb k=>?_) ⟨_,Jq _ rfl,rfl⟩;exact J8 _ (J8 _ (((Y8 s.heap it _).2 b nb).trans k))
theorem oW {Q:Option Value->Shared->Prop}(e:A.handled=none)(c:s.heap.get? d=some o)(hd:o.data=.dict es ep)(hi:s.heap.IsKeyIter it d i es.size ep)(f:es[i]?=none)(q:∀ h',Heap.ExtBut it s.heap h'->Q none { s with heap:=h' }):wpAny (model prog w) A (pyNext (.ref it)) Q E s:=by
 obtain⟨b,h,g,j⟩:=id hi;have ty:s.TypeIs (.ref it) "dict_keyiterator":=⟨b,h,g⟩;unfold pyNext;refine J0 (Zs (wpAny_callSpecial?_slot ty Wm (Y1 Wm ty F.entry_dict_keyiterator_next (j5 e c hd hi f λh' ev k a=>?_) (F.args_dict_keyiterator_next_1 _))));exact J0 (YA a isSubtype_stop (J7 (q h' k)))
end
section
variable {X:Cx}{pins:List (Addr × Obj)}{σ:St}{H:Hp}{s:Shared}{d:Addr}{o:Obj}{xs:KVN}
theorem Inv.freezeN (I:Inv X pins σ H s)(hd:H d=some (DN X.prog X.w d xs)):∃ o es ep,s.heap.get? d=some o/\o.ExactDict/\o.data=.dict es ep/\es.size=xs.length/\(d == sysModules)=false/\Inv X pins σ (upd H d (.frz o (DN X.prog X.w d xs))) s:=by
 obtain⟨e,o,es,ep,a,g,f,l,_⟩:=kB I.hok (.inl hd);refine⟨o,es,ep,a,g,f,l,e,I.reword hd (λxs q=>by cases q) (λxs q=>by cases q) (λxs q=>by cases q) (λc b q=>?_) ⟨a,(show ObjOk X.prog X.w H s.heap d (DN X.prog X.w d xs) from I.hok d _ hd)⟩⟩;have:=I.base.frzs d c b q;rw[hd]at this;cases this
theorem Inv.thawN (I:Inv X pins σ H s)(hd:H d=some (.frz o (DN X.prog X.w d xs)))(b:∀ o' a,X.H₀ d≠some (.frz o' a)):Inv X pins σ (upd H d (DN X.prog X.w d xs)) s:=by
 obtain⟨_,r⟩:=(show ObjOk X.prog X.w H s.heap d (.frz o (DN X.prog X.w d xs)) from I.hok d _ hd);exact I.reword hd (λxs q=>by cases q) (λxs q=>by cases q) (λxs q=>by cases q) b r
theorem Inv.meltedN (I:Inv X pins σ H s){ys:KVN}(hd:H d=some (DN X.prog X.w d ys)):∀ o' a,X.H₀ d≠some (.frz o' a):=λo' a q=>by
 have:=I.base.frzs d o' a q;rw[hd]at this;cases this
theorem Inv.walkedN {es:Array DictEntry}{ep:Nat}(I:Inv X pins σ H s)(hd:H d=some (.frz o (DN X.prog X.w d xs)))(c:o.data=.dict es ep):s.heap.get? d=some o/\∃ vs,Paired PrN xs vs/\es.toList=vs.map (entryOfKey (yM X.prog X.w)):=by
 obtain⟨g,⟨z,j,vs,r,i,f,h,b,l,a,e,k⟩,_,_⟩:=(show ObjOk X.prog X.w H s.heap d (.frz o (DN X.prog X.w d xs)) from I.hok d _ hd);rw[g]at b;obtain rfl:=Jm b;rw[c]at a;cases a;exact⟨g,vs,r,e⟩
end
theorem bO {xs:KVN}{vs:List (KN × Addr × Value)}(r:Paired PrN xs vs):∀ {i:Nat}{p:KN × Addr × V},xs[i]?=some p->∃ q,vs[i]?=some q/\PrN p q:=by
 induction r with
 | nil=>intro i p h;cases h
 | cons q t ih =>
  intro i p h
  cases i with
  | zero=>cases Jm h;exact⟨_,rfl,q⟩
  | succ i=>exact ih h
def Itn (P:Program)(w:World)(d:Addr)(o:Obj)(xs:KVN):It:=⟨λi H=>H d=some (.frz o (DN P w d xs))/\i<xs.length,λi H x a=>a=H/\∃ p,xs[i]?=some p/\x=.ref p.2.1,λi H=>H d=some (.frz o (DN P w d xs))/\i=xs.length⟩
theorem ni {P:Program}{w:World}{K:PySem.W.Frag}{tg:Expr}(d it:Addr)(o:Obj)(xs:KVN){es:Array DictEntry}{ep:Nat}(l:o.data=.dict es ep)(hl:es.size=xs.length):Turn P w K tg (Itn P w d o xs) [it] it (λi h=>h.IsKeyIter it d i es.size ep) where
 mem:=Ja.mpr rfl
 obj:=λi h st b a=>by
  cases Ja.mp a;obtain⟨q,e,c,M⟩:=st;exact⟨q,e,λv z=>by rw[M]at z;cases z⟩
 keep:=λi h n st k=>st.at (k it (Ja.mpr rfl))
 item:=by
  intro X B x C Q i pins s σ H E I m st y;subst B x C;obtain⟨A,N⟩:=y;obtain⟨g,S,r,R⟩:=I.walkedN A l;have f:=m it (Ja.mpr rfl);obtain⟨L,J,V,G,F,D⟩:=id f;obtain⟨p,O⟩:∃ p,xs[i]?=some p:=⟨_,J9 N⟩;obtain⟨q,U,T⟩:=bO r O;have W:es[i]?=some (entryOfKey (yM X.prog X.w) q):=by rw[entry_at R,U];rfl
  refine oU g l st W λn j t=>?_;have Y:Inv X pins σ H { s with heap:=n,toks:=s.toks }:=I.turned (λb u a e=>t b u a e) L J G F D;obtain⟨Z,e,c,M⟩:=id j;refine⟨_,rfl,kK (s:={ s with heap:=n,toks:=s.toks }) e c M (by decide) ⟨.ref p.2.1,H,Y,?_,⟨rfl,p,O,rfl⟩,j,λb a=>(m b a).1⟩⟩;show Value.ref q.2.1=Value.ref p.2.1;rw[T.2.1]
 done:=by
  intro X B x C Q i pins s σ H E I m st y;subst B x C;obtain⟨A,N⟩:=y;obtain⟨g,S,r,R⟩:=I.walkedN A l;have f:=m it (Ja.mpr rfl);obtain⟨L,J,V,G,F,D⟩:=id f;exact oW (I.ok.hd Q) g l st (Z0 (by simp_all)) λn t=>⟨rfl,I.turned (t':=s.toks) (λb u a e=>t b u a e) L J G F D⟩
 self:=λ_ _ _ _ _ st h=>wpAny_pyIter_keyiter st h
section
variable {X:Cx}{tg:Expr}
def zae (P:Program)(w:World)(c:TE):TI:=λσ H R=>c σ H λx b=>∃ d a,x=.ref d/\b d=some (DN P w d a)/\∀ o,R (Itn P w d o a) (upd b d (.frz o (DN P w d a)))
theorem oB {l:Expr}{f:TE}(p:PE X l f):PI X tg l (zae X.prog X.w f):=by
 intro pins s σ H R I h;refine thn (p pins s σ H _ I h) λv a ⟨x,A,w,k,d,j,ex,r,q⟩=>?_;subst ex;cases k;obtain⟨o,y,z,g,m,i,le,n,c⟩:=w.freezeN r;refine rQ g m i n ?_;refine⟨a.heap.objs.size,[a.heap.objs.size],_,_,_,rfl,c.kept (t':=a.toks) λb u e=>J8 _ e,ni d _ o j i le,⟨_,Jq _ rfl,rfl,rfl⟩,λb t=>?_,q o⟩;cases Ja.mp t;exact c.fpOk (Je _) (c.hok.fresh (Je _))
end
section
variable {prog:Program}{w:World}{A:Around}{E:Value->Shared->Prop}{s:Shared}{d it:Addr}{o:Obj}{es:Array DictEntry}{ep i:Nat}{e:DictEntry}{k0 v0:Value}
theorem mR {Q:Value->Shared->Prop}(y:s.heap.get? d=some o) (hd:o.data=.dict es ep) (hi:IsItemIter s.heap it d i es.size ep k0 v0) (C:es[i]?=some e)
  (q:∀ h',IsItemIterOut h' it d (i+1) es.size ep e.key e.val s.heap.objs.size->h'.get? s.heap.objs.size=some { cls:=.type "tuple",data:=.seq #[e.key,e.val] }->(∀ b u,b≠it->s.heap.get? b=some u->h'.get? b=some u)->Q (.ref s.heap.objs.size) { s with heap:=h' }) :
  wpAny (model prog w) A (Builtin.«dict_itemiterator.__next__» ⟨[.ref it],[]⟩) (λfin B=>∃ v,fin=.done (.ret v)/\Q v B) E s:=by
 have ty:s.TypeIs (.ref it) "dict_itemiterator":=⟨_,hi,rfl⟩;unfold Builtin.«dict_itemiterator.__next__»;refine J0 ?_;show wpAny _ _ (pure (Value.ref it)) _ _ _;refine J7 (J0 (J0 (J0 (Wb ty (J7 (J0 (Ww hi rfl ?_)))))));show wpAny _ _ (Builtin.Dict_items.addrOf (Value.ref d) >>= _) _ _ _;refine J0 (show wpAny _ _ (pure d) _ _ _ from J7 (J0 (Y5 y hd ?_)));dsimp only;rw[Jd (c:=((es.size:Int) != (es.size:Int))=true) (by simp)];refine J0 (show wpAny _ _ (pure d) _ _ _ from J7 (J0 (Yb y hd ?_)));rw[Jd (c:=((ep:Int) != (ep:Int))=true) (by simp)];refine J7 ?_;dsimp only;rw[Jd (c:=(i:Int)<0) (by lia),Yf,C];refine J0 (J0 (Wb ty (J7 (J0 (wpAny_isOneOf_itemiter ty ?_)))));show wpAny _ _ (setField (.ref it) 3 (rawInt ((i:Int)+1)) >>= _) _ _ _;refine J0 (Yn hi (by show 3<8;lia) λa h g=>J0 (JX (J0 (wpAny_isOneOf_itemiter ⟨_,h,rfl⟩ ?_))));show wpAny _ _ (Builtin.Dict_items.isOneOf _ _ >>= _) _ _ _;refine J0 (wpAny_isOneOf_itemiter ⟨_,h,rfl⟩ ?_);show wpAny _ _ (Builtin.Dict_items.pairFromOwner (.ref it) 6 e.key e.val) _ _ _;unfold Builtin.Dict_items.pairFromOwner newTuple;refine J0 (JK ?_ (by show 2<=sizeLine;decide));have f:=J8 { cls:=Value.type "tuple",data:=Data.seq #[e.key,e.val] } h;have k:=Jq a (o:={ cls:=Value.type "tuple",data:=Data.seq #[e.key,e.val] }) rfl;have t:a.objs.size≠it:=YZ (Jr h);have sz:a.objs.size=s.heap.objs.size:=g.1;have x:∀ b u,b≠it->s.heap.get? b=some u->(a.push { cls:=Value.type "tuple",data:=Data.seq #[e.key,e.val] }).get? b=some u:=λb u nb j=>J8 _ ((g.2 b nb).trans j);show wpAny (model prog w) A _ _ E { s with heap:=a.push { cls:=Value.type "tuple",data:=Data.seq #[e.key,e.val] } };generalize a.push { cls:=Value.type "tuple",data:=Data.seq #[e.key,e.val] }=h2 at f k x;show wpAny _ _ ((field (.ref it) 0 >>= _) >>= _) _ _ _;refine J0 (J0 (We f rfl rfl ?_));show wpAny _ _ (pure true) _ _ _;refine J7 ?_;show wpAny _ _ (field (.ref it) 6 >>= _) _ _ _;refine J0 (We f rfl rfl (J0 (We f rfl rfl ?_)));refine J0 (Yn f (by show 6<8;lia) λK H p=>J0 (Yn H (by show 7<8;lia) λJ G n=>J0 (Yn G (by show 0<8;lia) λI F m=>J0 (Yn F (by show 1<8;lia) λD z l=>J0 (Wf ?_)))));have r:=((p.trans n).trans m).trans l;refine J7 (J7 ⟨_,rfl,?_⟩);show Q (.ref a.objs.size) _;rw[sz]at k z t ⊢;exact q D z ((r.2 _ t).trans k) λb u nb j=>(r.2 b nb).trans (x b u nb j)
theorem jh {Q:Option Value->Shared->Prop}(a:s.heap.get? d=some o) (hd:o.data=.dict es ep) (hi:IsItemIter s.heap it d i es.size ep k0 v0) (c:es[i]?=some e)
  (q:∀ h',IsItemIterOut h' it d (i+1) es.size ep e.key e.val s.heap.objs.size->h'.get? s.heap.objs.size=some { cls:=.type "tuple",data:=.seq #[e.key,e.val] }->(∀ b u,b≠it->s.heap.get? b=some u->h'.get? b=some u)->Q (some (.ref s.heap.objs.size)) { s with heap:=h' }):wpAny (model prog w) A (pyNext (.ref it)) Q E s:=by
 have ty:s.TypeIs (.ref it) "dict_itemiterator":=⟨_,hi,rfl⟩;unfold pyNext;exact J0 (Zs (wpAny_callSpecial?_slot ty Wj (Y1 Wj ty F.entry_dict_itemiterator_next (mR a hd hi c λh' h g f=>J7 (q h' h g f)) (F.args_dict_itemiterator_next_1 _))))
theorem mf {Q:Fin->Shared->Prop}(e:A.handled=none) (a:s.heap.get? d=some o) (hd:o.data=.dict es ep) (hi:IsItemIter s.heap it d i es.size ep k0 v0) (f:es[i]?=none)
  (q:∀ h' ev,Heap.ExtBut it s.heap h'->({ s with heap:=h' }:Shared).TypeIs ev "StopIteration"->E ev { s with heap:=h' }) :
  wpAny (model prog w) A (Builtin.«dict_itemiterator.__next__» ⟨[.ref it],[]⟩) Q E s:=by
 have ty:s.TypeIs (.ref it) "dict_itemiterator":=⟨_,hi,rfl⟩;unfold Builtin.«dict_itemiterator.__next__»;refine J0 ?_;show wpAny _ _ (pure (Value.ref it)) _ _ _;refine J7 (J0 (J0 (J0 (Wb ty (J7 (J0 (Ww hi rfl ?_)))))));show wpAny _ _ (Builtin.Dict_items.addrOf (Value.ref d) >>= _) _ _ _;refine J0 (show wpAny _ _ (pure d) _ _ _ from J7 (J0 (Y5 a hd ?_)));dsimp only;rw[Jd (c:=((es.size:Int) != (es.size:Int))=true) (by simp)];refine J0 (show wpAny _ _ (pure d) _ _ _ from J7 (J0 (Yb a hd ?_)));rw[Jd (c:=((ep:Int) != (ep:Int))=true) (by simp)];refine J7 ?_;dsimp only;rw[Jd (c:=(i:Int)<0) (by lia),Yf,f];refine J0 (J0 (Wb ty (J7 (J0 ?_))));show wpAny _ _ (setField (.ref it) 2 .none) _ _ _;refine Wx hi rfl (by show 2<8;lia) (J0 ?_);unfold newExc newTuple;refine J0 (JK ?_ (by show 0<=sizeLine;exact JJ _));unfold firstArgMember;refine J0 (J0 (J7 (J7 (JK (wpAny_raiseNew_none e ?_) ?_))))
 rotate_left
 ·show (_++_:Array Value).size<=sizeLine+2
  rw[Jw];show 6+0<=sizeLine+2;rw[JG];lia
 refine q _ _ (λb u nb g=>?_) ⟨_,Jq _ rfl,rfl⟩;exact J8 _ (J8 _ (((Y8 s.heap it _).2 b nb).trans g))
theorem ji {Q:Option Value->Shared->Prop}(c:A.handled=none)(b:s.heap.get? d=some o)(hd:o.data=.dict es ep)(hi:IsItemIter s.heap it d i es.size ep k0 v0)(e:es[i]?=none)(q:∀ h',Heap.ExtBut it s.heap h'->Q none { s with heap:=h' }):wpAny (model prog w) A (pyNext (.ref it)) Q E s:=by
 have ty:s.TypeIs (.ref it) "dict_itemiterator":=⟨_,hi,rfl⟩;unfold pyNext;refine J0 (Zs (wpAny_callSpecial?_slot ty Wj (Y1 Wj ty F.entry_dict_itemiterator_next (mf c b hd hi e λh' ev k a=>?_) (F.args_dict_itemiterator_next_1 _))));exact J0 (YA a isSubtype_stop (J7 (q h' k)))
theorem mi {v:Addr}{Q:Value->Shared->Prop}(b:s.heap.IsItemsView v d) (c:s.heap.get? d=some o) (hd:o.data=.dict es ep)
  (q:Q (.ref s.heap.objs.size) { s with heap:=s.heap.push { cls:=.type "dict_itemiterator",data:=.fields #[.none,.bool false,.ref d,.int 0 0,.int es.size 0,.int ep 0,.none,.none] } }):wpAny (model prog w) A (pyIter (.ref v)) Q E s:=by
 obtain⟨i,g,h,f⟩:=id b;have ty:=b.typeIs;have nx:=F.slot_dict_itemiterator_next.lookup
 have body:wpAny (model prog w) A.in1 (Builtin.«dict_items.__iter__» ⟨[.ref v],[]⟩) (λfin a=>∃ v,fin=.done (.ret v)/\∃ e r,a.TypeIs v e/\typeLookup (Value.type e) (Str.ofString "__next__")=pure (some r)/\Q v a) E s:=by
  unfold Builtin.«dict_items.__iter__» Builtin.Dict_items.newIterator;refine J0 (show wpAny _ _ (pure (Value.ref v)) _ _ _ from J7 (J0 (J0 (We g f rfl ?_))));refine(show wpAny _ _ (pure d) _ _ _ from J7 (J0 ?_));refine J0 (Y5 c hd (J0 (Yb c hd ?_)));refine JK (J7 ⟨_,rfl,_,_,⟨_,Jq _ rfl,rfl⟩,nx,q⟩) ?_;show 8<=sizeLine+2;rw[JG];lia
 exact wpAny_pyIter_slot ty F.slot_dict_items_iter (Y1 F.slot_dict_items_iter ty F.entry_dict_items_iter body (F.args_dict_items_iter_1 _))
end
def Itni (P:Program)(w:World)(d:Addr)(o:Obj)(xs:KVN):It:=⟨λi H=>H d=some (.frz o (DN P w d xs))/\i<xs.length,λi H x a=>∃ p T,xs[i]?=some p/\H T=none/\x=.ref T/\a=upd H T (.tup [.ref p.2.1,p.2.2]),λi H=>H d=some (.frz o (DN P w d xs))/\i=xs.length⟩
theorem pF {P:Program}{w:World}{K:PySem.W.Frag}{D:List Expr}{k1}{R:Pos}(d it:Addr)(o:Obj)(xs:KVN){es:Array DictEntry}{ep:Nat}(j:o.data=.dict es ep)(hl:es.size=xs.length):Turn P w K (.Tuple D k1 R) (Itni P w d o xs) [it] it (λi h=>∃ a b,IsItemIter h it d i es.size ep a b) where
 mem:=Ja.mpr rfl
 obj:=λi h ⟨a,b,st⟩ c m=>by
  cases Ja.mp m;exact⟨_,st,λv z=>by cases z⟩
 keep:=λi h W ⟨a,b,st⟩ k=>⟨a,b,k it (Ja.mpr rfl) _ st⟩
 item:=by
  intro X A t B m i pins s σ H E I l ⟨a,b,st⟩ ⟨y,L⟩;subst A t B;obtain⟨g,O,r,N⟩:=I.walkedN y j;have f:=l it (Ja.mpr rfl);obtain⟨p,M⟩:∃ p,xs[i]?=some p:=⟨_,J9 L⟩;obtain⟨q,T,G⟩:=bO r M;have ei:es[i]?=some (entryOfKey (yM X.prog X.w) q):=by rw[entry_at N,T];rfl
  have J:s.heap.objs.size≠it:=YZ (Jr st);refine jh g j st ei λh1 S V n=>⟨_,rfl,wpAny_letOwnedTupleGo_items S λh2 C F=>?_⟩;have Q:RelV (.ref p.2.1) (Value.ref q.2.1):=by show Value.ref q.2.1=Value.ref p.2.1;rw[G.2.1]
  refine⟨.ref s.heap.objs.size,upd H s.heap.objs.size (.tup [.ref p.2.1,p.2.2]),I.spunN (t':=s.toks) (fp:=[it]) (λc u x e=>?_) l (Je _) (qU ((F.2 _ J).trans V) Q G.2.2),rfl,⟨p,_,M,I.fresh,rfl,rfl⟩,⟨_,_,C⟩,λc x=>?_⟩
  ·have ne:c≠it:=λz=>x (Ja.mpr z)
   exact(F.2 c ne).trans (n c u ne e)
  ·cases Ja.mp x
   rw[zG J.symm];exact f.1
 done:=by
  intro X A t B m i pins s σ H E I l ⟨a,b,st⟩ ⟨y,L⟩;subst A t B;obtain⟨g,O,r,N⟩:=I.walkedN y j;obtain⟨f0,f1,f2,f3,Z,Y⟩:=l it (Ja.mpr rfl);exact ji (I.ok.hd m) g j st (Z0 (by simp_all)) λW n=>⟨rfl,I.turned (t':=s.toks) (λc u U e=>n c u U e) f0 f1 f3 Z Y⟩
 self:=λ_ _ _ _ _ ⟨_,_,st⟩ h=>PySem.W.kcp_self st h
section
variable {X:Cx}
def cg (P:Program)(w:World)(c:TE):TI:=λσ H R=>c σ H λx b=>∃ d a,x=.ref d/\b d=some (DN P w d a)/\∀ o,R (Itni P w d o a) (upd b d (.frz o (DN P w d a)))
theorem mq {prog:Program}{w:World}{A:Around}{E:Value->Shared->Prop}{s:Shared}{d:Addr}{o:Obj}{Q:Value->Shared->Prop}(c:s.heap.get? d=some o) (a:o.ExactDict) (b:(d == sysModules)=false)
  (q:Q (.ref s.heap.objs.size) { s with heap:=s.heap.push { cls:=.type "dict_items",data:=.fields #[.ref d] } }):wpAny (model prog w) A (call (.builtin "dict.items") [.ref d]) Q E s:=by
 have ty:s.TypeIs (.ref d) "dict":=⟨o,c,a.1⟩;refine Y1 F.slot_dict_items ty F.entry_dict_items ?_ (F.args_dict_items_1 _);unfold Builtin.«dict.items» Builtin.Dict.showsAll;refine J0 ?_;show wpAny _ _ (Builtin.Dict.notOrdered "items" ⟨[Value.ref d],[]⟩ >>= _) _ _ _;refine J0 (Zv (s:=s) ty ?_);refine(show wpAny _ _ (pure d) _ _ _ from J7 ?_);rw[Jd (by rw[b];simp)];refine J0 (J7 (J0 (JK (J7 ⟨_,rfl,q⟩) ?_)));show 1<=sizeLine+2;rw[JG];lia
theorem jU {l:Expr}{k:TE}{apos cpos z:Pos}{j:List Expr}{k1} (C:PE X l k) (c:attributeBase l "items" X.env (eval l X.env)=eval l X.env:=by rfl) (a:(apos.endLine == cpos.line)=true:=by rfl):PI X (.Tuple j k1 z) (.Call (.Attribute l "items" apos) [] [] cpos) (cg X.prog X.w k):=by
 intro pins s σ H R I h;refine wpAny_Call_method0_late c a (thn (C pins s σ H _ I h) λv f ⟨x,K,p,y,d,r,ex,n,q⟩=>?_);subst ex;cases y;obtain⟨w,t⟩:=qY p (.inl n);obtain⟨o,G,J,g,A,m,le,B,F⟩:=p.freezeN n;refine⟨"dict","dict.items",PySem.F.plainAttrs_dict,PySem.F.slot_dict_items,PySem.F.type_dict_items,w,t,ZV rfl (PySem.evalArgs_none ?_)⟩;refine mq g A B ?_;have i:=F.kept (t':=f.toks) (h':=f.heap.push { cls:=.type "dict_items",data:=.fields #[.ref d] }) λb u e=>J8 _ e;have E:=J8 { cls:=.type "dict_items",data:=.fields #[.ref d] } g;refine mi (s:={ f with heap:=f.heap.push { cls:=.type "dict_items",data:=.fields #[.ref d] } }) ⟨_,Jq _ rfl,rfl,rfl⟩ E m ?_;refine⟨_,[_],_,_,_,rfl,i.kept (t':=f.toks) λb u e=>J8 _ e,pF d _ o r m le,⟨_,_,Jq _ rfl⟩,λb D=>?_,q o⟩;cases Ja.mp D;exact i.fpOk (Je _) (i.hok.fresh (Je _))
end
end L2
namespace L2
open PySem PySem.Spec PyProof.Rows Own PySem.W
section
variable {prog:Program}{w:World}{d:Addr}{o:Obj}{es:Array DictEntry}{ep:Nat}
theorem i3 (j:o.ExactDict)(hd:o.data=.dict es ep)(r:(d == sysModules)=false):KdlSrc prog w "dict" d d es.size (λi v=>∃ e,es[i]?=some e/\v=e.key) (λh=>h.get? d=some o) where
 type:=λs a=>⟨o,a,j.1⟩
 there:=λh a=>⟨Jr a,Jr a⟩
 keep:=λh f a k=>k d (.inl rfl) _ a
 notList:=by decide
 notTuple:=by decide
 hint:=λA E s Q a q=>by
  have ty:s.TypeIs (.ref d) "dict":=⟨o,a,j.1⟩;show wpAny _ _ (specialOf (.ref d) _ >>= _) _ _ _;refine J0 (ZM (T:="dict") ty F.slot_dict_len.lookup ?_);show wpAny _ _ (isInstance (.ref d) (.type "dict") >>= _) _ _ _;refine J0 (YA (T:="dict") (b:=true) ty rfl ?_);show wpAny _ _ (typeOf (.ref d) >>= _) _ _ _;exact J0 (YF ty (J7 q))
 iter:=λA s t a=>by
  refine⟨{ cls:=.type "dict_keyiterator",data:=.fields #[.ref d,.int 0 0,.int es.size 0,.int ep 0] },λi h=>h.IsKeyIter s.heap.objs.size d i es.size ep/\h.get? d=some o,λE Q q=>rQ a j hd r q,?_,⟨_,Jq _ rfl,rfl,rfl⟩,J8 _ a⟩;have n:d≠s.heap.objs.size:=JH (Jr a);refine⟨λb c=>Js.mpr (.inl (Ja.mp c)),λi h f st k=>⟨st.1.at (k _ JF),k d (JE _ JF) _ st.2⟩,λi g Q E p st q=>?_,λg Q E st q=>?_,λi g Q E st q=>wpAny_pyIter_keyiter st.1 q⟩
  ·have m:es[i]?=some es[i]:=YL p
   exact oU st.2 hd st.1 m λf l k=>q _ f g.toks ⟨_,m,rfl⟩ ⟨l,k d o n st.2⟩ λb u nb c=>k b u (λz=>nb (Ja.mpr z)) c
  ·exact oW t st.2 hd st.1 (Z0 (Je _)) λf k=>q f g.toks λb u nb c=>k b u (λz=>nb (Ja.mpr z)) c
end
end L2
namespace L2
open PySem PySem.Spec PyProof.Rows Own Ts PySem.W
section
variable {prog:Program}{w:World}{A:Around}{s:Shared}
theorem fh {Q:Bool->Shared->Prop}(cs:List Ordering):∀ (us vs:List Value) (i:Nat),us.length=cs.length->vs.length=cs.length->(∀ (j:Nat) u v c,us[j]?=some u->vs[j]?=some v->cs[j]?=some c->SeqAt.EqAt A s u v (c == .eq)/\(c≠.eq->LtAt A s u v (c == .lt))) ->
  Q (cs.foldr Ordering.then .eq == .lt) s->PySem.W.KatLex prog w A false false Q (us.zip vs) i s:=by
 induction cs with
 | nil =>
  intro us vs i a b _ q;rw[YV.mp a]
  exact PySem.W.kat_nil q
 | cons c cs ih =>
  intro us vs i a b h q
  obtain⟨u,us,rfl⟩:∃ u e,us=u::e:=by
   cases us with
   | nil=>simp at a
   | cons u us=>exact⟨u,us,rfl⟩
  obtain⟨v,vs,rfl⟩:∃ v d,vs=v::d:=by
   cases vs with
   | nil=>simp at b
   | cons v vs=>exact⟨v,vs,rfl⟩
  have f:=h 0 u v c rfl rfl rfl;refine PySem.W.kat_cons (f.1 prog w _ _ ?_);by_cases z:c=.eq
  ·subst z
   refine PySem.W.kat_yes (ih us vs (i+1) (by simpa using a) (by simpa using b) (λj u v c m l k=>h (j+1) u v c (by simpa using m) (by simpa using l) (by simpa using k)) q)
  ·have g:(c == Ordering.eq)=false:=by simpa using z
   have e2:(c::cs).foldr Ordering.then .eq=c:=by
    rw[List.foldr_cons];cases c<;>first|rfl|exact absurd rfl z
   rw[e2]at q;rw[g];refine PySem.W.kat_no ?_;rw[Bool.false_and];exact oG (f.2 z) q
end
def RkN (H:Hp)(xs:List V)(rk:V->Int):Prop:=∃ n,n<=20/\∀ x∈xs,(∃ a b r c,x=.ref a/\H a=some (.tup (.ref b::r))/\H b=some (.tup c))/\∀ y∈xs,Lx H n x y (compare (rk x) (rk y))
section
variable {X:Cx}
theorem za3 {pins:List (Addr × Obj)}{σ:St}{H:Hp}{s1:Shared}(I:Inv X pins σ H s1)(C:X.A.units+64<cLine){xs:List V}{vs:List Value}{rk:V->Int}(r:Vals xs vs)(R:RkN H xs rk) :
  ∃ κ:SortKind,(∀ h':Heap,(∀ c o,s1.heap.get? c=some o->h'.get? c=some o)->2<=vs.length->∀ (l:Around) {Q:SortKind->Shared->Prop}{E:Value->Shared->Prop},Q κ { s1 with heap:=h' }->wpAny (model X.prog X.w) l (keyKind' vs.toArray) Q E { s1 with heap:=h' }) /\
   (∀ h':Heap,(∀ c o,s1.heap.get? c=some o->h'.get? c=some o)->∀ (l:Around),l.units<=X.A.units+8->Cmp X.prog X.w l { s1 with heap:=h' } κ (λp=>p.1∈vs) (λp=>rk (vOf p.1))):=by
 obtain⟨n,hn,R⟩:=R
 obtain⟨ex,rel⟩:=vA r λx M=>by
  obtain⟨⟨a,b,r,B,e,_⟩,_⟩:=R x M;exact .inr ⟨a,e⟩
 have mem:∀ u∈vs,vOf u∈xs:=λu C=>by rw[ex];exact Jv.mpr ⟨u,C,rfl⟩
 refine⟨tuples' (Value.type "tuple" != Value.type "tuple"),λh' k l2 l Q E q=>?_,λh' k l hA=>⟨λx y M U Q E q=>?_⟩⟩
 ·have m:Inv X pins σ H { s1 with heap:=h',toks:=s1.toks }:=I.kept k
  have kt:∀ t:List Value,(∀ u∈t,vOf u∈xs/\RelV (vOf u) u)->∃ fs,PySem.W.KatTups h' t fs/\fs.length=t.length/\∀ f∈fs,∃ b B,f=Value.ref b/\H b=some (.tup B):=by
   intro t
   induction t with
   | nil=>intro _;exact⟨[],PySem.W.KatTups.nil,rfl,λf D=>by simp at D⟩
   | cons u t ih =>
    intro h;obtain⟨fs,S,k2,P⟩:=ih λv w=>h v (JE _ w);obtain⟨m1,r1⟩:=h u JF;obtain⟨⟨a,b,rr,B,e,N,z⟩,_⟩:=R _ m1;rw[e]at r1;cases r1;obtain⟨d,g,⟨o,W,co,no,dt⟩,_⟩:=m.tuple (SqT.of N);obtain⟨f0,ef,rf⟩:=g.get (i:=0) (x:=.ref b) rfl;cases rf
    exact⟨_,PySem.W.KatTups.cons W co dt (by simpa using ef) S,by rw[JM,JM,k2],λf' D=>by
     rcases Js.mp D with here|D
     ·exact⟨b,B,here,z⟩
     ·exact P f' D⟩
  obtain⟨fs,S,k2,P⟩:=kt vs λu C=>⟨mem u C,rel u C⟩;refine PySem.W.kat_kind (T:=.type "tuple") S (by lia) (λv w=>?_) (by decide) q;obtain⟨b,B,rfl,z⟩:=P v w;obtain⟨d,g,⟨o,W,co,no,dt⟩,_⟩:=m.tuple (SqT.of z);exact λA Q E s ks q=>YF ⟨o,ks _ _ W,co⟩ q
 ·have m:Inv X pins σ H { s1 with heap:=h',toks:=s1.toks }:=I.kept k
  obtain⟨x1,x2⟩:=x;obtain⟨O,y2⟩:=y;have rx:=rel x1 M;have ry:=rel O U;obtain⟨⟨a,a2,xr,_,ea,N,_⟩,lx⟩:=R _ (mem x1 M);obtain⟨⟨b,b2,yr,_,eb,z,_⟩,_⟩:=R _ (mem O U);have L:=lx _ (mem O U);simp only at q;rw[ea]at rx L q;rw[eb]at ry L q;cases rx;cases ry;generalize hc:compare (rk (V.ref a)) (rk (V.ref b))=c at L;rw[<- (wB (rk (V.ref a)) (rk (V.ref b))).2,hc]at q
  cases L with
  | @row n _ _ a3 a0 cs K J l1 l2 hL =>
   rw[N]at K;cases K;rw[z]at J;cases J;obtain⟨d,g1,⟨o1,ab,a7,a5,aT⟩,_⟩:=m.tuple (SqT.of N);obtain⟨F,g2,⟨o2,Z,a6,a4,ao⟩,_⟩:=m.tuple (SqT.of z);have m1:=g1.length;have m2:=g2.length;show wpAny _ _ (keyLt' (tuples' false) (.ref a) (.ref b)) _ _ _;refine PySem.W.kat_lt ab aT Z ao ?_;have ds:decide (d.toArray.size<F.toArray.size)=false:=Jt (by rw[Jn,Jn];simp_all);rw[ds];refine fh cs d F 0 (by simp_all) (by simp_all) (λj u v c G w Y=>?_) q;have j1:j<(V.ref a2::xr).length:=by have:=(Jc.mp G).1;simp_all
   have j2:j<(V.ref b2::yr).length:=by have:=(Jc.mp w).1;simp_all
   obtain⟨u',e1,q1⟩:=g1.get (J9 j1);obtain⟨v',e2,q2⟩:=g2.get (J9 j2);rw[G]at e1;obtain rfl:=Jm e1;rw[w]at e2;obtain rfl:=Jm e2;have LL:=hL j _ _ c (J9 j1) (J9 j2) Y;exact⟨oo m LL l _ _ (by lia) q1 q2,λne=>fO m LL ne l _ _ (by lia) q1 q2⟩
theorem eV {xs:KVN}{ws:List (KN × Addr × Value)}(r:Paired PrN xs ws):Vals (xs.map λp=>V.ref p.2.1) (ws.map λq=>Value.ref q.2.1):=by
 induction r with
 | nil=>exact .nil
 | @cons p q b a h t ih=>exact .cons (by show Value.ref q.2.1=Value.ref p.2.1;rw[h.2.1]) ih
theorem eQ {es:Array DictEntry}{acc:Array Value}(a1:acc.size=es.size)(a2:∀ (j:Nat) (v:Value),acc[j]?=some v->∃ e,es[j]?=some e/\v=e.key):acc.toList=es.toList.map (·.key):=by
 refine List.ext_getElem (by rw[Jg,Jx,Jx,a1]) λj b d=>?_;obtain⟨e,a,c⟩:=a2 j acc[j] (YL _);rw[List.getElem_map,ZB,ZB,c];rw[YL (by rw[<- a1];exact b)]at a;rw[Jm a]
theorem qm (J:X.calm=true)(d:X.A.units+64<cLine):CallR X (.builtin "sorted") (λvs H Q=>∃ a xs rk,vs=[.ref a]/\H a=some (DN X.prog X.w a xs)/\xs.length<=10000/\RkN H (xs.map λp=>.ref p.2.1) rk/\∀ (l:Addr) (ys:List V),H l=none->ys.Perm (xs.map λp=>.ref p.2.1)->ys.Pairwise (λx y=>rk x<=rk y)->Q (.ref l) (upd H l (.lst ys))):=by
 intro pins s σ H vs S Q I A h;obtain⟨a,xs,rk,rfl,G,T,R,q⟩:=h;obtain⟨u,rfl,B⟩:=A.one;cases B;obtain⟨⟨z,K,ws,r,o,N,Y,f,M,L,m,U⟩,_,_⟩:=(show ObjOk X.prog X.w H s.heap a (DN X.prog X.w a xs) from I.hok a _ G);have wl:N.size=xs.length:=by rw[Z7 m,<- Ya r]
 refine lL (kdu_collect (i3 M L K) (I.ok.hd J) f (by rw[wl];exact z) λf k acc E b=>?_);obtain⟨n,P⟩:=b
 have al:acc.toList=ws.map λq=>Value.ref q.2.1:=by
  rw[eQ n P,m,Zb];rfl
 have vs:Vals (xs.map λp=>V.ref p.2.1) acc.toList:=by rw[al];exact eV r
 have C:acc.toList.length=xs.length:=by rw[Jx,n,wl]
 have g:Inv X pins σ H { s with heap:=f,toks:=k }:=I.kept E;obtain⟨t,i,j⟩:=za3 g d vs R
 obtain⟨ex,rel⟩:=vA vs λx F=>by
  obtain⟨p,_,rfl⟩:=Jv.mp F;exact .inr ⟨_,rfl⟩
 refine⟨t,λu=>rk (vOf u),by simp_all,i,j,λW l e out lo O pm w D=>?_⟩;have v:Vals (out.map vOf) out:=wO λu d=>rel u (pm.mem_iff.mp d);have pv:(out.map vOf).Perm (xs.map λp=>V.ref p.2.1):=by rw[ex];exact pm.map vOf
 refine⟨.ref l,_,g.laid (t':=k) (o:=.lst (out.map vOf)) (λc o q=>D c o q) lo ⟨?_,out,e,v,O⟩,rfl,?_⟩
 ·rw[Jg,pm.length_eq,C];exact z
 ·exact q l _ (g.hok.fresh lo) pv (List.pairwise_map.mpr w)
end
end L2
namespace L2
open PySem PySem.Spec PyProof.Rows Own
section
def le2 (p q a b:Int):Prop:=p<a\/p=a/\q<=b
end
theorem ma (l b:Addr)(xs ys:Array Value)(n m:Nat)(H G:Option Addr)(k f:Array (Option Value))(sz:xs.size=ys.size) :
  Meets (Builtin.«tuple.__lt__» ⟨[.ref l,.ref b],[]⟩)
   (λA R s=>s.heap.get? l=some { cls:=.type "tuple",dict:=H,data:=.seq xs n,slots:=k }/\s.heap.get? b=some { cls:=.type "tuple",dict:=G,data:=.seq ys m,slots:=f } /\
    (∀ j (L:j<xs.size) (K:j<ys.size),SeqAt.EqAt A.in1 s xs[j] ys[j] true)/\R (.ok (.ret (.bool false))) s) :=
 .of_wp λprog w A R s h=>by
  rcases h with ⟨C,E,D,h⟩;rcases s with ⟨B,g,d,q,os⟩;have kinds:=AutoSeq1.sub_tuple_tuple;have J:(xs.toList.zip ys.toList).length=min xs.size ys.size:=by simp
  wp_walk using wpAny_loadPart' C,wpAny_loadPart' E,wpAny_forIn_list _ (λrest b e=>b.1=none/\e=⟨B,g,d,q,os⟩/\∃ i,i<=(xs.toList.zip ys.toList).length/\rest=(xs.toList.zip ys.toList).drop i) _
  case turn =>
   rintro⟨y,x⟩ rest b e ⟨c,rfl,i,t,a⟩
   have r:i<(xs.toList.zip ys.toList).length:=by
    rcases Nat.lt_or_ge i (xs.toList.zip ys.toList).length with z|z
    ·exact z
    ·rw[List.drop_eq_nil_of_le z]at a;cases a
   have v:i<xs.size:=by simp_all
   have u:i<ys.size:=by simp_all
   rw[YC r]at a;obtain⟨p,e2⟩:=List.cons.inj a;have F:y=xs[i]:=by simpa using JW Prod.fst p
   have ex:x=ys[i]:=by simpa using JW Prod.snd p
   subst F ex;refine J0 (D i v u prog w _ _ ?_)
   wp_walk
   exact⟨rfl,rfl,i+1,by lia,e2⟩
  case fin =>
   rintro⟨I,M⟩ e ⟨c,rfl,i,t,a⟩;have o:I=none:=c;subst o;have fl:Builtin.Tuple.tupleCompareSizes CmpOp.Lt xs.size ys.size=.bool false:=by rw[sz];simp[Builtin.Tuple.tupleCompareSizes]
   show wpAny _ _ (ret (Builtin.Tuple.tupleCompareSizes CmpOp.Lt xs.size ys.size)) _ _ _;rw[fl];exact J7 ⟨_,rfl,h⟩
  case h =>
   exact⟨rfl,rfl,0,JJ _,rfl⟩
theorem LtAt.tuplesS {A:Around}{s:Shared}{l b:Addr}{xs ys:Array Value}(q:IsTup s.heap l xs)(hb:IsTup s.heap b ys)(p:A.units<cLine)(sz:xs.size=ys.size)(r:∀ j (B:j<xs.size) (z:j<ys.size),SeqAt.EqAt A.in1 s xs[j] ys[j] true):LtAt A s (.ref l) (.ref b) false:=λprog w E Q h=>by
 obtain⟨⟨y,e,u,c⟩,g,o,n,i⟩:=q;obtain⟨⟨v,d,t,a⟩,f,k,m,e2⟩:=hb;simp only at o i k e2;subst o i k e2;exact richCompare_meets_room (op:=.Lt) ⟨_,g,rfl⟩ ⟨_,f,rfl⟩ F.slot_tuple_lt F.entry_tuple_lt (F.args_tuple_lt_2 _ _) (ma l b xs ys n m e d c a sz) ⟨g,f,r,show Value.bool false≠Value.notImplemented/\Q (.bool false) s from⟨(λx=>nomatch x),h⟩⟩ p
section
variable {X:Cx}
theorem cM {pins:List (Addr × Obj)}{σ:St}{H:Hp}{s:Shared}(I:Inv X pins σ H s){n:Nat}{x y:V}{c:Ordering}(h:Lx H n x y c)(A:Around)(u v:Value)(P:A.units+n<cLine)(g:RelV x u)(f:RelV y v):LtAt A s u v (c == .lt):=by
 by_cases z:c=.eq
 ·cases h with
  | int n i j =>
   obtain⟨E,rfl⟩:=g;obtain⟨D,rfl⟩:=f;rw[(wB i j).2]
   exact LtAt.ints i j E D
  | @row n a b w t cs R Q U T h =>
   cases g;cases f;obtain⟨l,p,K,_⟩:=I.tuple (SqT.of R);obtain⟨k,o,J,_⟩:=I.tuple (SqT.of Q);have M:=p.length;have L:=o.length;rw[z];refine LtAt.tuplesS K J (by lia) (by rw[Jn,Jn];simp_all) λj O N=>?_;have e:j<w.length:=by simpa [M] using O
   have d:j<t.length:=by simpa [L] using N
   have m:j<cs.length:=by simp_all
   obtain⟨C,S,G⟩:=p.get (J9 e);obtain⟨B,e2,F⟩:=o.get (J9 d);have r:l.toArray[j]=C:=by simpa using (Jc.mp S).2
   have q:k.toArray[j]=B:=by simpa using (Jc.mp e2).2
   have ce:cs[j]=.eq:=vD.mp z _ (YM m);have:=oo I (h j _ _ _ (J9 e) (J9 d) (J9 m)) A.in1 _ _ (by show A.units+1+n<cLine;lia) G F;rw[ce]at this;rw[r,q];exact this
 ·exact fO I h z A u v P g f
end
section
variable {prog:Program}{w:World}{A:Around}{R:Result->Shared->Prop}{I S:Addr}{fp wr:List Addr}{n:Nat}{P:Nat->Value->Prop}{St:Nat->Heap->Prop}
def AskM (prog:Program)(w:World)(A:Around)(a:Shared)(wr:List Addr)(S:Addr)(v e:Value)(c:Bool):Prop :=
 ∀ (h:Heap) (d:Nat) (Q:Value->Shared->Prop) (E:Value->Shared->Prop),(∀ b o,b∉wr->b≠S->a.heap.get? b=some o->h.get? b=some o)->Q (.bool c) { a with heap:=h,toks:=d }->wpAny (model prog w) A.in1 (richCompare .Lt v e) Q E { a with heap:=h,toks:=d }
theorem rL (W:Walks prog w A.in1 I fp wr n P St)(away:S∉fp)(p:Shared)(l:Nat->Value->Prop)(more:∀ j v a,0<j->P j v->l j a->∃ c:Bool,l (j+1) (if c=true then v else a)/\AskM prog w A p wr S v a c) :
  ∀ (m j:Nat) (h:Heap) (tk:Nat) (c:Nat) (a:Value),j+m=n->0<j->l j a->St j h->h.get? S=some { cls:=.type "list",dict:=none,data:=.seq #[a,a] c,slots:=#[] }->(∀ b o,b∉wr->b≠S->p.heap.get? b=some o->h.get? b=some o) ->
   (∀ u B y,l n u->(∀ b o,b∉wr->b≠S->p.heap.get? b=some o->B.get? b=some o)->R (.ok (.ret u)) { p with heap:=B,toks:=y })->codeAny (model prog w) A (.builtin "min.loop" ⟨[.ref I,.none,.ref S],[]⟩) R { p with heap:=h,toks:=tk }:=by
 have out:S∉wr:=λz=>away (W.sub _ z);have nm:(toString "min"++toString ".loop":String) = "min.loop":=by decide
 intro m
 induction m with
 | zero =>
  intro j h tk c a C jp bs st s old k;have D:j=n:=by omega
  subst D
  refine YG F.entry_min_loop (by
   refine Yv YQ _ ▸ (show wpAny _ A.in1 (seqItems? (.ref S) >>= _) _ _ _ from ?_);refine J0 (Yi s rfl (show wpAny _ A.in1 (tryCatch (pyNext (.ref I)) _ >>= _) _ _ _ from J0 (Wy (W.done { p with heap:=h,toks:=tk } _ _ st λx r keep=>?_))));have d:=keep S _ out s
   show wpAny _ A.in1 (updateSeq S (λ_=>#[]) >>= _) _ _ _;exact J0 (wpAny_updateSeq d rfl (J0 (Wf (J7 (k _ _ r bs λb o g q e=>(Ym _ _ (Ne.symm q)).trans (keep b o g (old b o g q e))))))))
 | succ m ih =>
  intro j h tk c a C jp bs st s old k
  refine YG F.entry_min_loop (by
   refine Yv YQ _ ▸ (show wpAny _ A.in1 (seqItems? (.ref S) >>= _) _ _ _ from ?_);refine J0 (Yi s rfl (show wpAny _ A.in1 (tryCatch (pyNext (.ref I)) _ >>= _) _ _ _ from J0 (Wy (W.item j { p with heap:=h,toks:=tk } _ _ (by lia) st λv x r pv t keep=>?_))));have d:=keep S _ out s;have f:∀ b o,b∉wr->b≠S->p.heap.get? b=some o->x.get? b=some o:=λb o g q e=>keep b o g (old b o g q e);obtain⟨E,i,ask⟩:=more j v a jp pv bs;show wpAny _ A.in1 (tryCatch (holding [v,v] (richCompare .Lt v a >>= _)) _ >>= _) _ _ _;refine J0 (Wy (JX (J0 (ask x r _ _ f (J0 (JX (Z8 (J0 (Wf (J7 ?_))))))))))
   cases E with
   | false =>
    rw[Jd Jp]at i;rw[Jd Jp];refine J0 (Wf ?_);rw[nm]
    exact J7 ⟨Zh YQ _,ih (j+1) _ _ _ a (by lia) (by lia) i t d f k⟩
   | true =>
    rw[Jf rfl]at i;rw[Jf rfl];refine J0 (wpAny_updateSeq d rfl (J0 (Wf ?_)));rw[nm]
    exact J7 ⟨Zh YQ _,ih (j+1) _ _ _ v (by lia) (by lia) i (W.frame _ _ _ t λb g o e=>(Ym _ _ (λz=>away (by rw[z];exact g))).trans e) (Yg _ d rfl) (λb o g q e=>(Ym _ _ (Ne.symm q)).trans (f b o g q e)) k⟩)
end
section
variable {prog:Program}{w:World}{A:Around}{E:Value->Shared->Prop}{s:Shared}
def WalkM (prog:Program)(w:World)(A:Around)(Q:Value->Shared->Prop)(it:Value)(s2:Shared):Prop :=
 ∃ (I:Addr) (f wr:List Addr) (n:Nat) (P:Nat->Value->Prop) (St:Nat->Heap->Prop),it=.ref I/\Walks prog w A.in1 I f wr n P St/\St 0 s2.heap/\(∀ b∈f,b<s2.heap.objs.size)/\0<n /\
   ∃ a:Nat->Value->Prop,(∀ v,P 0 v->a 1 v)/\(∀ j v d,0<j->P j v->a j d->∃ c:Bool,a (j+1) (if c=true then v else d)/\AskM prog w A s2 wr s2.heap.objs.size v d c) /\
   ∀ u e g,a n u->(∀ b o,b∉wr->s2.heap.get? b=some o->e.get? b=some o)->Q u { s2 with heap:=e,toks:=g }
theorem ju {x:Value}{Q:Value->Shared->Prop}(h:wpAny (model prog w) A.in1 (pyIter x) (WalkM prog w A Q) E s):wpAny (model prog w) A (call (.builtin "min") [x]) Q E s:=by
 have nm:(toString "min"++toString ".loop":String) = "min.loop":=by decide
 refine call_function_tree F.kind_min F.plain_min F.entry_min (F.args_min1 _) ?_;show wpAny _ A.in1 (Builtin.Builtins.bindParams "min" ["key","default"] 0 ⟨[],[]⟩ >>= _) _ _ s;refine J0 (wpAny_of_eq (show Builtin.Builtins.bindParams "min" ["key","default"] 0 ⟨[],[]⟩=pure [none,none] from rfl) (J0 (J7 (J0 (JN h (λit a z=>?_) λ_ _ e=>e)))));obtain⟨I,q,wr,n,P,St,rfl,W,st,low,pos,l,first,more,k⟩:=z;have away:a.heap.objs.size∉q:=λz=>YR _ (low _ z);have out:a.heap.objs.size∉wr:=λz=>away (W.sub _ z);refine J0 (JK ?_);rw[nm];refine J7 ⟨Zh YQ _,YG F.entry_min_loop ?_⟩;have new:(a.heap.push { cls:=.type "list",data:=.seq #[] }).get? a.heap.objs.size=some { cls:=.type "list",dict:=none,data:=.seq #[] 0,slots:=#[] }:=Jq _ rfl;have j:St 0 (a.heap.push { cls:=.type "list",data:=.seq #[] }):=W.frame _ _ _ st λb _ o e=>J8 _ e;refine Yv YQ _ ▸ (show wpAny _ A.in1 (seqItems? (.ref a.heap.objs.size) >>= _) _ _ _ from ?_);refine J0 (Yi new rfl (show wpAny _ A.in1 (tryCatch (pyNext (.ref I)) _ >>= _) _ _ _ from J0 (Wy (W.item 0 _ _ _ pos j λv p B pv i keep=>?_))));have y:=first v pv
 have c:=keep _ _ out new;show wpAny _ A.in1 (updateSeq a.heap.objs.size (λ_=>#[v,v]) >>= _) _ _ _;refine J0 (wpAny_updateSeq c rfl ?_);rw[nm];have up:∀ b o,b∉wr->b≠a.heap.objs.size->a.heap.get? b=some o->(p.update a.heap.objs.size (Obj.mapSeq λ_=>#[v,v])).get? b=some o:=λb o f t e=>(Ym _ _ (Ne.symm t)).trans (keep b o f (J8 _ e));exact J7 ⟨Zh YQ _,rL W away a l more (n-1) 1 _ _ _ v (by lia) (by lia) y (W.frame _ _ _ i λb f o e=>(Ym _ _ (λz=>away (by rw[z];exact f))).trans e) (Yg _ c rfl) up λu m g r d=>k u m g r λb o f e=>d b o f (JH (Jr e)) e⟩
theorem g8 {x y:Value}{Q:Value->Shared->Prop}(h:wpAny (model prog w) A.in1 (pyIter (.ref s.heap.objs.size)) (WalkM prog w A Q) E { s with heap:=s.heap.push { cls:=.type "tuple",data:=.seq #[x,y] } }):wpAny (model prog w) A (call (.builtin "min") [x,y]) Q E s:=by
 have nm:(toString "min"++toString ".loop":String) = "min.loop":=by decide
 refine call_function_tree F.kind_min F.plain_min F.entry_min (F.args_min2 _ _) ?_;show wpAny _ A.in1 (Builtin.Builtins.bindParams "min" ["key","default"] 0 ⟨[],[]⟩ >>= _) _ _ s;refine J0 (wpAny_of_eq (show Builtin.Builtins.bindParams "min" ["key","default"] 0 ⟨[],[]⟩=pure [none,none] from rfl) (J0 ?_));refine wpAny_newTuple (J0 (JN h (λit a z=>?_) λ_ _ e=>e));obtain⟨I,q,wr,n,P,St,rfl,W,st,low,pos,l,first,more,k⟩:=z;have away:a.heap.objs.size∉q:=λz=>YR _ (low _ z);have out:a.heap.objs.size∉wr:=λz=>away (W.sub _ z);refine J0 (JK ?_);rw[nm];refine J7 ⟨Zh YQ _,YG F.entry_min_loop ?_⟩;have new:(a.heap.push { cls:=.type "list",data:=.seq #[] }).get? a.heap.objs.size=some { cls:=.type "list",dict:=none,data:=.seq #[] 0,slots:=#[] }:=Jq _ rfl;have j:St 0 (a.heap.push { cls:=.type "list",data:=.seq #[] }):=W.frame _ _ _ st λb _ o e=>J8 _ e;refine Yv YQ _ ▸ (show wpAny _ A.in1 (seqItems? (.ref a.heap.objs.size) >>= _) _ _ _ from ?_);refine J0 (Yi new rfl (show wpAny _ A.in1 (tryCatch (pyNext (.ref I)) _ >>= _) _ _ _ from J0 (Wy (W.item 0 _ _ _ pos j λv p C pv i keep=>?_))));have B:=first v pv
 have c:=keep _ _ out new;show wpAny _ A.in1 (updateSeq a.heap.objs.size (λ_=>#[v,v]) >>= _) _ _ _;refine J0 (wpAny_updateSeq c rfl ?_);rw[nm];have up:∀ b o,b∉wr->b≠a.heap.objs.size->a.heap.get? b=some o->(p.update a.heap.objs.size (Obj.mapSeq λ_=>#[v,v])).get? b=some o:=λb o f t e=>(Ym _ _ (Ne.symm t)).trans (keep b o f (J8 _ e));exact J7 ⟨Zh YQ _,rL W away a l more (n-1) 1 _ _ _ v (by lia) (by lia) B (W.frame _ _ _ i λb f o e=>(Ym _ _ (λz=>away (by rw[z];exact f))).trans e) (Yg _ c rfl) up λu m g r d=>k u m g r λb o f e=>d b o f (JH (Jr e)) e⟩
end
def xI (cmp:V->V->Ordering)(b y:V):V:=if cmp y b=.lt then y else b
def xY (cmp:V->V->Ordering):List V->V
 | []=>.non
 | x::r=>r.foldl (xI cmp) x
theorem iU (cmp:V->V->Ordering){l:List V}(h:l≠[])(y:V):xY cmp (l++[y])=xI cmp (xY cmp l) y:=by
 cases l with
 | nil=>exact absurd rfl h
 | cons x r=>show List.foldl _ _ (r++[y])=_;rw[W5];rfl
theorem nD (cmp:V->V->Ordering):∀ (r:List V) (x:V),r.foldl (xI cmp) x∈x::r
 | [],x=>.head _
 | y::r,x=>by
  have:=nD cmp r (xI cmp x y);show List.foldl (xI cmp) (xI cmp x y) r∈x::y::r;rcases Js.mp this with z|z
  ·rw[z]
   unfold xI;split
   ·exact .tail _ (.head _)
   ·exact .head _
  ·exact .tail _ (.tail _ z)
theorem eK (cmp:V->V->Ordering){l:List V}(h:l≠[]):xY cmp l∈l:=by
 cases l with
 | nil=>exact absurd rfl h
 | cons x r=>exact nD cmp r x
section
variable {X:Cx}{pins:List (Addr × Obj)}{σ:St}{H:Hp}{s:Shared}
theorem qy {b:Bool}{a:Addr}{xs:List V}{its:List Value}{n:Nat}{cmp:V->V->Ordering}{Q:VK}(J:X.calm=true)(T:X.A.units+64<cLine)(I:Inv X pins σ H s)(m:Vals xs its)(pp:SqO b s.heap a its.toArray)(al:a<s.heap.objs.size)(k:0<xs.length)(R:n<=20)(K:∀ x∈xs,∀ y∈xs,Lx H n x y (cmp x y))(q:Q (xY cmp xs) H) :
  wpAny (model X.prog X.w) X.A.in1 (pyIter (.ref a)) (WalkM X.prog X.w X.A (EP X pins σ Q)) X.xe s:=by
 have U:its.length=xs.length:=m.length.symm;refine vP pp ⟨s.heap.objs.size,[s.heap.objs.size,a],[s.heap.objs.size],its.toArray.size,(λi v=>its.toArray[i]?=some v),_,rfl,zap (show X.A.in1.handled=none from I.ok.hd J) b _ a (JH al) its.toArray,⟨?_,pp.mv λo e=>J8 _ e⟩,λc F=>?_,by rw[Jn];simp_all,(λj v=>0<j/\j<=xs.length/\RelV (xY cmp (xs.take j)) v),λv t=>?_,λj v B jp t ⟨_,S,w⟩=>?_,λu W l ⟨_,_,f⟩ G=>?_⟩
 ·cases b<;>exact⟨_,Jq _ rfl,rfl,rfl⟩
 ·show c<(s.heap.push _).objs.size
  rw[Z1];rcases Js.mp F with z|z
  ·exact z ▸ Nat.lt_succ_self _
  ·exact Ja.mp z ▸ ZW al
 ·have E:xs[0]?=some xs[0]:=J9 k
  obtain⟨C,g,f⟩:=m.get E;have d:its[0]?=some v:=by simpa using t
  rw[d]at g;cases g;refine⟨by lia,k,?_⟩
  cases xs with
  | nil=>cases k
  | cons x r=>exact f
 ·have d:its[j]?=some v:=by simpa using t
  have p:j<xs.length:=by
   have:=(Jc.mp d).1
   simp_all
  obtain⟨C,g,f⟩:=m.get (J9 p);rw[d]at g;cases g
  have ne:xs.take j≠[]:=λz=>by
   have:=JW List.length z;rw[JC,Z6]at this
   simp_all
  have bm:xY cmp (xs.take j)∈xs:=Wh (eK cmp ne);have L:=K _ (YM p) _ bm;refine⟨cmp xs[j] (xY cmp (xs.take j)) == .lt,⟨by lia,by lia,?_⟩,λh l N P old D=>?_⟩
  ·rw[<- Yq p,iU cmp ne]
   unfold xI;by_cases z:cmp xs[j] (xY cmp (xs.take j))=.lt
   ·rw[Jf z,Jf (by rw[z];rfl)];exact f
   ·rw[Jd z,Jd (λy=>z (by simpa using y))];exact w
  ·have O:Inv X pins σ H { s with heap:=h,toks:=l }:=I.kept λc o e=>old c o (λz=>JH (Jr e) (Ja.mp z)) (λz=>by
    have M:=Jr e;have A:c=(s.heap.push { cls:=.type (cN b),data:=.fields #[.ref a,.int 0 0] }).objs.size:=z;rw[Z1]at A
    exact absurd A (JH (ZW M))) (J8 _ e)
   exact cM O L X.A.in1 v B (by show X.A.units+1+n<cLine;lia) f w X.prog X.w P N D
 ·refine⟨xY cmp xs,H,I.kept (t':=l) λc o e=>G c o (λz=>JH (Jr e) (Ja.mp z)) (J8 _ e),?_,q⟩
  have:xs.take its.toArray.size=xs:=JS (by rw[Jn];simp_all);rw[this]at f;exact f
theorem re (j:X.calm=true)(b:Bool)(h:X.A.units+64<cLine):CallR X (.builtin "min") (λvs H Q=>∃ a xs n cmp,vs=[.ref a]/\SqB b X.K H a xs/\0<xs.length/\n<=20/\(∀ x∈xs,∀ y∈xs,Lx H n x y (cmp x y))/\Q (xY cmp xs) H):=by
 rintro pins s σ H vs r Q I e ⟨a,xs,n,cmp,rfl,i,d,c,k,q⟩;obtain⟨u,rfl,f⟩:=e.one;cases f;obtain⟨p,g,pp⟩:=I.sq (b:=b) i;obtain⟨o,m,l,_⟩:=pp.ob;exact ju (qy j h I g pp (Jr l) d c k q)
theorem sK (i:X.calm=true)(h:X.A.units+64<cLine):CallR X (.builtin "min") (λvs H Q=>∃ x y n cmp,vs=[x,y]/\n<=20/\(∀ u∈[x,y],∀ v∈[x,y],Lx H n u v (cmp u v))/\Q (xI cmp x y) H):=by
 rintro pins s σ H vs l Q I d ⟨x,y,n,cmp,rfl,c,j,q⟩;obtain⟨u,a,rfl,g,f⟩:=qz d;refine g8 ?_;have k:=I.kept (t':=s.toks) (h':=s.heap.push { cls:=.type "tuple",data:=.seq #[u,a] }) λb u e=>J8 _ e;refine qy (s:={ s with heap:=s.heap.push { cls:=.type "tuple",data:=.seq #[u,a] } }) (b:=false) (xs:=[x,y]) (its:=[u,a]) i h k (.cons g (.cons f .nil)) ⟨_,Jq _ rfl,rfl,_,rfl⟩ ?_ (by show 0<2;lia) c j q;show s.heap.objs.size<(s.heap.push _).objs.size;rw[Z1];simp_all
end
def cmpR:List Int->List Int->Ordering
 | [],[]=>.eq
 | [],_::_=>.lt
 | _::_,[]=>.gt
 | a::x,b::y=>(compare a b).then (cmpR x y)
theorem vp:∀ {x y:List Int},x.length=y.length->(List.zipWith compare x y).foldr Ordering.then .eq=cmpR x y
 | [],[],_=>rfl
 | a::x,b::y,h=>by
  show (compare a b).then _=(compare a b).then _;rw[vp (x:=x) (y:=y) (by simpa using h)]
theorem qZ {H:Hp}{a b:Addr}{x y:List Int}(ha:H a=some (.tup (x.map V.int)))(hb:H b=some (.tup (y.map V.int)))(l:x.length=y.length):Lx H 1 (.ref a) (.ref b) (cmpR x y):=by
 rw[<- vp l];refine .row ha hb (by rw[Jg,List.length_zipWith];simp_all) (by rw[Jg,List.length_zipWith];simp_all) λi u v c e d f=>?_;rw[Y6]at e d;obtain⟨p,h,rfl⟩:=Y9.mp e;obtain⟨q,g,rfl⟩:=Y9.mp d;rw[List.getElem?_zipWith,h,g]at f;cases f;exact .int 0 p q
def yd (x y:List Int):List Int:=if cmpR y x=.lt then y else x
def jy:List (List Int)->List Int
 | []=>[]
 | x::r=>r.foldl yd x
def bq (P:Program)(w:World)(t:TS):TS:=λD σ H=>t { D with nx:=λa e=>∃ d o c b,H d=some (DN P w d b)/\e d=some (.frz o (DN P w d c))/\D.nx a (upd e d (DN P w d c)) } σ H
section
variable {X:Cx}
theorem pZ {st:Stmt}{t:TS}(h:PS X st t):PS X st (bq X.prog X.w t):=by
 intro pins s σ H D I c;refine thn (h pins s σ H _ I c) λf k q=>?_
 cases f with
 | next =>
  obtain⟨a,l,g,d,o,j,i,e,b,q⟩:=q
  exact⟨a,_,g.thawN b (I.meltedN e),q⟩
 | brk=>exact q
 | cont=>exact q
 | ret u=>exact q
end
theorem my {P:Program}{w:World}{d:Addr}{o:Obj}{xs:KVN}{g:TG}{j:TS}{D:Ends}{σ:St}{H:Hp}(a:Nat->St->Hp->Prop)(u:a 0 σ H)(r:∀ i σ H,i<=xs.length->a i σ H->H d=some (.frz o (DN P w d xs)))(n:∀ i p σ H T,xs[i]?=some p->H T=none->a i σ H->g (.ref T) σ (upd H T (.tup [.ref p.2.1,p.2.2])) λc h=>j { D with nx:=a (i+1),ct:=a (i+1),bk:=D.nx } c h)(s:∀ σ H,a xs.length σ H->D.nx σ H) :
  ∃ W:Nat->Nat->St->Hp->Prop,(∃ m,W 0 m σ H)/\∀ i m σ H,W i m σ H ->
   ((Itni P w d o xs).stop i H/\D.nx σ H)\/((Itni P w d o xs).go i H/\∃ N:St->Hp->Prop,(∀ f b,N f b->∃ k,k<m/\W (i+1) k f b)/\∀ x b,(Itni P w d o xs).yld i H x b->g x σ b λc h=>j { D with nx:=N,ct:=N,bk:=D.nx } c h):=by
 refine⟨λi m σ H=>m=xs.length-i/\i<=xs.length/\a i σ H,⟨xs.length,by simp,JJ _,u⟩,λi m σ H ⟨em,hi,p⟩=>?_⟩;subst em;have q:=r i σ H hi p;by_cases lt:i<xs.length
 ·refine .inr ⟨⟨q,lt⟩,a (i+1),λf b l=>⟨xs.length-(i+1),by lia,rfl,lt,l⟩,λx b ⟨y,T,v,t,z,e2⟩=>?_⟩
  subst z e2;exact n i y σ H T v t p
 ·have e:i=xs.length:=by lia
  subst e;exact .inl ⟨⟨q,rfl⟩,s σ H p⟩
end L2
namespace Bn
open PySem L2 Own
theorem kn (n p:Nat):(List.replicate n (0:Int)).getD p 0=0:=by
 rw[Ju,List.getElem?_replicate];split<;>rfl
end Bn
namespace Bn
open PySem L2 Own
def big (x y:Int):Int:=if y > x then y else x
def cU (st:List Int × List Int)(f:Nat × Nat):List Int × List Int :=
 ((st.1.set f.1 (1+big (st.1.getD f.1 0) (st.1.getD f.2 0))).set f.2 (1+big (st.1.getD f.1 0) (st.1.getD f.2 0)),st.2++[1+big (st.1.getD f.1 0) (st.1.getD f.2 0)])
def lay (n:Nat)(fs:List (Nat × Nat)):List Int × List Int:=fs.foldl cU (List.replicate n 0,[])
def zaO (g f:Nat × Nat):Bool:=decide (g.1=f.1\/g.1=f.2) || decide (g.2=f.1\/g.2=f.2)
def zbJ (fs:List (Nat × Nat))(a:List Int)(f:Nat × Nat)(i:Nat):List Int:=((List.range i).filter λj=>zaO (fs.getD j (0,0)) f).map λj=>a.getD j 0
def zbB (N:Nt):List Int:=(lay N.lanes N.forks).2
abbrev Fk:=Nat × Nat
def run {σ α:Type}(step:σ->Fk->σ × α):σ->List Fk->σ × List (α × Fk)
 | s,[]=>(s,[])
 | s,f::fs=>((run step (step s f).1 fs).1,((step s f).2,f)::(run step (step s f).1 fs).2)
def rnk (x:Int × Fk):Int:=x.1*1024+x.2.1*32+x.2.2
def ins (x:Int × Fk):List (Int × Fk)->List (Int × Fk)
 | []=>[x]
 | y::l=>if rnk x<=rnk y then x::y::l else y::ins x l
def nmq (p:List Nat)(i:Nat):Nat:=p.getD i 0
def bV (p:List Nat)(f:Fk):Fk:=(nmq p f.1,nmq p f.2)
def gT (N:Nt)(p:List Nat):Nt:=⟨N.lanes,N.forks.map (bV p),N.ends.map (nmq p)⟩
def bG (a b:Nt):Nt:=⟨a.lanes,a.forks++b.forks.map (bV a.ends),b.ends.map (nmq a.ends)⟩
def shF (n:Nat)(f:Fk):Fk:=(n+f.1,n+f.2)
def bF (a b:Nt):Nt:=⟨a.lanes+b.lanes,a.forks++b.forks.map (shF a.lanes),a.ends++b.ends.map (a.lanes + ·)⟩
theorem zW {H:Hp}{a:Addr}(_:H a=none)(o:HO):L2.upd H a o a=some o:=zD
theorem Prs.app {H:Hp}:∀ {ps a:List V}{fs b:List Fk},Prs H ps fs->Prs H a b->Prs H (ps++a) (fs++b)
 | [],_,[],_,_,h=>h
 | _::_,_,_::_,_,⟨x,r⟩,h=>⟨x,Prs.app r h⟩
end Bn
namespace L2
open PySem
theorem kh {i:Nat}{x:V}{t:TS}{D:Ends}{σ:St}{H:Hp}(h:∀ b:Ends,(∀ σ H,D.nx σ H->b.nx σ H)->t b (σ.set i (some x)) H):vQ i x σ H λa c=>t D a c:=h D λ_ _ x=>x
theorem yF {t u:TS}{D:Ends}{σ:St}{H:Hp}(h:∀ a:Ends,(∀ σ H,u D σ H->a.nx σ H)->t a σ H):wa t u D σ H:=h { D with nx:=u D } λ_ _ x=>x
end L2
namespace L2
open PySem Own PyProof.Rows PySem.Spec
section
variable {X:Cx}
def zau (i j k:Nat)(b:TA):TS:=λD σ H=>b σ H λa c=>∃ u v w,a=[u,v,w]/\D.nx (((σ.set i (some u)).set j (some v)).set k (some w)) c
theorem nk {u v w:V}{us:List Value}(r:Vals [u,v,w] us):∃ a b c,us=[a,b,c]/\RelV u a/\RelV v b/\RelV w c:=by
 cases r with
 | cons p r =>
  obtain⟨b,c,rfl,q,t⟩:=Vals.two r;exact⟨_,b,c,rfl,p,q,t⟩
theorem di {i j k:Nat}{x y z:Str}{a b c:Expr}{r:TA}{pos m py l pt:Pos}{kt k2 pt2}(W:X.calm=true)(n:X.N.Nodup)(hi:X.N[i]?=some x)(V:X.N[j]?=some y)(U:X.N[k]?=some z)(P:i≠j)(O:i≠k)(N:j≠k)(B:X.env.scope.names.lookup x=some .local)(A:X.env.scope.names.lookup y=some .local)(t:X.env.scope.names.lookup z=some .local)(ha:PA X [a,b,c] r)(Q:swappedStores [.Tuple [.Name x m,.Name y py,.Name z l] kt pt] (.Tuple [a,b,c] k2 pt2) X.env=pure (some [x,y,z]))(R:swapsWithSole [.Tuple [.Name x m,.Name y py,.Name z l] kt pt] (.Tuple [a,b,c] k2 pt2) pos.line X.env=pure false:=by rfl) :
  PS X (.Assign [.Tuple [.Name x m,.Name y py,.Name z l] kt pt] (.Tuple [a,b,c] k2 pt2) pos) (zau i j k r):=λpins s σ H D I h=>by
 rw[exec_Assign_arm];refine J0 (Zf ?_);rw[R];refine J0 (J7 ?_);rw[Jd Jp];refine J0 (PyProof.Rows.Tuple_ (thn (ha _ pins s σ H _ I h) λus d q=>?_));obtain⟨vs,E,I1,L,u,v,w,rfl,M⟩:=q;obtain⟨f,e,u3,rfl,K,G,F⟩:=nk L;refine JK ?_ (by show 3<=sizeLine;decide);have J:Inv X pins σ E { d with heap:=d.heap.push { cls:=.type "tuple",data:=.seq [f,e,u3].toArray } }:=I1.kept (t':=d.toks) λ_ _ g=>J8 _ g;rw[Q];refine J0 (J7 ?_);show wpAny (model X.prog X.w) X.A (do rule "assign.swapped-stores";let items <- unpackItems (.ref d.heap.objs.size) 3 none;assignInOrder [λv=>bindName X.env z v,λv=>bindName X.env y v,λv=>bindName X.env x v] items.reverse;pure Flow.next) _ _ _;refine J0 (YJ (J0 (PyProof.Rows.unpackItems_tuple (items:=#[f,e,u3]) (I.ok.hd W) (IsTup.new d.heap _) λT S=>?_)));have J3:=J.kept (h':=T) (t':=d.toks) λb o g=>S b o (JH (Jr g)) g;show wpAny _ _ (assignInOrder [λv=>bindName X.env z v,λv=>bindName X.env y v,λv=>bindName X.env x v] [u3,e,f] >>= λ_=>pure Flow.next) _ _ _;refine J0 (ZP (wpAny_bindName (xR J3 n U (.inl t) F (λs2 Z=>?_) (.inr t))));refine ZP (wpAny_bindName (xR Z n V (.inl A) G (λs3 Y=>?_) (.inr A)));refine ZP (wpAny_bindName (xR Y n hi (.inl B) K (λs4 C=>assignInOrder_nil (J7 ?_)) (.inr B)))
 have p:((σ.set k (some w)).set j (some v)).set i (some u)=((σ.set i (some u)).set j (some v)).set k (some w):=by
  rw[List.set_comm _ _ (Ne.symm P),List.set_comm _ _ (Ne.symm O),List.set_comm _ _ (Ne.symm N)]
 rw[p]at C;exact⟨_,E,C,M⟩
end
end L2
namespace Bn
open PySem L2 Own
abbrev Sn:=List Int × List Grp × List Int
abbrev Sn.none (N:Nt):Sn:=(List.replicate N.forks.length 0,[],List.replicate N.lanes 0)
end Bn
namespace L2
open PySem PySem.Spec PyProof.Rows Own
abbrev FZ (o:Obj):HO:=.frz o (.ext λ_=>True)
theorem nA {P:Program}{w:World}{H:Hp}{h:Heap}{a:Addr}{o:Obj}(e:h.get? a=some o):ObjOk P w H h a (FZ o):=⟨e,trivial,⟨o,e⟩,λ_ _ _ _=>trivial⟩
structure Lam where
 params:Arguments
 body:Expr
 scope:Scope
 qual:Str
def o5 (L:Lam)(cl:List (Str × Addr))(pm:Value)(c:Addr)(ct:Value):Obj:=PySem.W.kla_obj "<lambda>" L.qual L.params L.body L.scope cl pm c ct
structure LamAt (H:Hp) (f:Addr) (L:Lam) (cl:List (Str × Addr)) (vs:List V):Prop where
 ex:∃ (pm:Value) (c:Addr) (ct:Value) (oc:Obj) (fs:Array Value) (t:Tok),H f=some (FZ (o5 L cl pm c ct))/\H c=some (FZ oc)/\oc.data=.fields fs/\fs[1]?=some (.str L.qual t)
 len:cl.length=vs.length
 cell:∀ (i:Nat) x c v,cl[i]?=some (x,c)->vs[i]?=some v->∃ o u,H c=some (FZ o)/\o.data=.cell (some u)/\RelV v u
 nd1:(cl.map (·.1)).Nodup
 nd2:(cl.map (·.2)).Nodup
theorem LamAt.frz {H H':Hp}{f:Addr}{L:Lam}{cl:List (Str × Addr)}{vs:List V}(h:LamAt H f L cl vs)(z:∀ b o u,H b=some (.frz o u)->H' b=some (.frz o u)):LamAt H' f L cl vs:=by
 obtain⟨pm,c,p,j,fs,t,n,m,l,k⟩:=h.ex;refine⟨⟨pm,c,p,j,fs,t,z _ _ _ n,z _ _ _ m,l,k⟩,h.len,λi x c v a b=>?_,h.nd1,h.nd2⟩;obtain⟨o,u,g,e,d⟩:=h.cell i x c v a b;exact⟨o,u,z _ _ _ g,e,d⟩
def yT (cl:List (Str × Addr))(H:Hp):Hp:=λb=>if b∈cl.map (·.2) then none else H b
def back (cl:List (Str × Addr))(H H':Hp):Hp:=λb=>if b∈cl.map (·.2) then H b else H' b
theorem wG {cl:List (Str × Addr)}{H:Hp}{b:Addr}(h:b∈cl.map (·.2)):yT cl H b=none:=Jf h
theorem yD {cl:List (Str × Addr)}{H:Hp}{b:Addr}(h:b∉cl.map (·.2)):yT cl H b=H b:=Jd h
theorem qp {cl:List (Str × Addr)}{H H':Hp}{b:Addr}(h:b∈cl.map (·.2)):back cl H H' b=H b:=Jf h
theorem xD {cl:List (Str × Addr)}{H H':Hp}{b:Addr}(h:b∉cl.map (·.2)):back cl H H' b=H' b:=Jd h
theorem nu {cl:List (Str × Addr)}{H:Hp}{b:Addr}{o:HO}(h:yT cl H b=some o):b∉cl.map (·.2)/\H b=some o:=by
 by_cases c:b∈cl.map (·.2)
 ·rw[wG c]at h;cases h
 ·rw[yD c]at h;exact⟨c,h⟩
def CellsFz (cl:List (Str × Addr))(H:Hp):Prop:=∀ b∈cl.map (·.2),∃ o,H b=some (FZ o)
theorem LamAt.fz {H:Hp}{f:Addr}{L:Lam}{cl:List (Str × Addr)}{vs:List V}(h:LamAt H f L cl vs):CellsFz cl H:=λb k=>by
 obtain⟨⟨x,c⟩,j,rfl⟩:=Jv.mp k;obtain⟨i,a,e⟩:=Zd.mp j;have g:i<vs.length:=by rw[<- h.len];exact a
 obtain⟨o,u,d,_⟩:=h.cell i x c vs[i] (by rw[J9 a,e]) (J9 g);exact⟨o,d⟩
section
variable {P:Program}{w:World}{H H':Hp}{h h':Heap}{cl:List (Str × Addr)}
theorem rT (x:HOk P w H h)(fz:CellsFz cl H):HOk P w (yT cl H) h:=λb u e=>by
 obtain⟨nb,f⟩:=nu e
 have keep:∀ {c:Addr}{o:HO},H c=some o->(∀ q,o≠FZ q)->yT cl H c=some o:=λ{c o} z n=>by
  rw[yD];· exact z
  ·intro d
   obtain⟨q,a⟩:=fz c d;rw[z]at a;exact n q (Jm a)
 exact(x b u f).stay (λc v _ q=>q) (λc q=>keep q λz y=>by cases y) λc g q=>keep q λz y=>by cases y
theorem eW {fs:List Addr}(un:Un fs [] (yT cl H) H' h h')(fz:CellsFz cl H)(k:∀ b∈fs,H b=none)(there:∀ b o,H b=some (FZ o)->h.get? b=some o)(low:∀ b∈cl.map (·.2),H' b=none)(ok:HOk P w H' h'):Un fs [] H (back cl H H') h h'/\HOk P w (back cl H H') h':=by
 have d:∀ {b:Addr},H b=none->b∉cl.map (·.2):=λe a=>by
  obtain⟨o,q⟩:=fz _ a;rw[e]at q;cases q
 have kept:∀ b∈cl.map (·.2),∀ o,h.get? b=some o->h'.get? b=some o:=λb a o e=>un.keep b o e (wG a) (λz=>d (k b z) a) (by simp)
 have f:∀ {b:Addr}{o:HO},H b=some o->(∀ q,o≠FZ q)->b∉cl.map (·.2):=λz n a=>by
  obtain⟨q,i⟩:=fz _ a;rw[z]at i;exact n q (Jm i)
 refine⟨⟨λb o e n x y=>un.keep b o e (by rw[yD (d n)];exact n) x y,λb o e n x y=>un.slot b o e (by rw[yD (d n)];exact n) x y,λb o e n y=>?_,un.there,λb g e=>?_,λb o u e=>?_,λb j e=>?_⟩,λb u e=>?_⟩
 ·rw[xD (d n)]
  exact un.free b o e (by rw[yD (d n)];exact n) y
 ·have nb:=f e λq z=>by cases z
  rw[xD nb];exact un.tups b g (by rw[yD nb];exact e)
 ·by_cases c:b∈cl.map (·.2)
  ·rw[qp c];exact e
  ·rw[xD c];exact un.frzs b o u (by rw[yD c];exact e)
 ·have nb:=f e λq z=>by cases z
  rw[xD nb];exact un.tbls b j (by rw[yD nb];exact e)
 ·by_cases c:b∈cl.map (·.2)
  ·rw[qp c]at e
   obtain⟨o,q⟩:=fz b c;rw[q]at e;cases e;exact nA (kept b c o (there b o q))
  ·rw[xD c]at e
   have old:∀ {x:Addr}{o:HO},H' x=some o->back cl H H' x=some o:=λ{x o} z=>by
    rw[xD];· exact z
    ·intro l
     rw[low x l]at z;cases z
   exact(ok b u e).stay (λx v _ q=>q) (λx q=>old q) λx g q=>old q
end
def lB (L:Lam)(cl:List (Str × Addr))(a f c:Addr):Env:={ scope:=L.scope,locals:=a,globals:=mainGlobals,cells:=cl,qual:=L.qual++".<locals>.",func:=some f,code:=.ref c,frame:=some a,builtins:=builtinsNs }
def eG (CX:CXT)(P:Program)(w:World)(K:PySem.W.Frag)(mg:Str->Option Value)(base:Heap)(N:List Str)(L:Lam)(cl:List (Str × Addr))(f c:Addr)(A:Around)(outer:List Env)(s:Shared)(H:Hp)(E:XK):Cx where
 prog:=P
 w:=w
 K:=K
 mg:=mg
 base:=base
 A:=A.deeper (lB L cl s.heap.objs.size f c)
 N:=N
 s₀:=s
 H₀:=yT cl H
 env:=lB L cl s.heap.objs.size f c
 outer:=outer
 stack:=lB L cl s.heap.objs.size f c::outer
 ex:=[]
 calm:=true
 fn:=λ_=>false
 pn:=[]
 xe:=λe b=>wpAny (model P w) (A.deeper (lB L cl s.heap.objs.size f c)) (leaving (lB L cl s.heap.objs.size f c) e) (λ_ a=>CX outer H s E e a) (λd a=>CX outer H s E d a) b
structure LamScope (ps fr:List Str) (sc:Scope):Prop where
 kind:sc.kind=.function
 co:sc.isCoroutine=false
 gen:sc.isGenerator=false
 nd:(ps++fr).Nodup
 par:∀ x∈ps,sc.names.lookup x=some .local
 fre:∀ x∈fr,sc.names.lookup x=some .free
 noc:∀ y∈sc.names,y.2≠.cell
 all:∀ x,sc.names.lookup x=some .free->x∈fr
section
variable {CX:CXT}{P:Program}{w:World}{K:PySem.W.Frag}{mg:Str->Option Value}{base:Heap}{L:Lam}{cl:List (Str × Addr)}{vals vs:List V}{ps:List Str}{f c:Addr}{A:Around}{outer:List Env}{s:Shared}{H:Hp}{us:List Value}{E:XK}
theorem kF {cl:List (Str × Addr)}(nd:(cl.map (·.1)).Nodup):∀ {i:Nat}{x:Str}{c:Addr},cl[i]?=some (x,c)->cl.lookup x=some c:=by
 induction cl with
 | nil=>intro i x c h;cases h
 | cons p r ih =>
  intro i x c h;rw[JT,JP]at nd
  cases i with
  | zero =>
   cases Jm h
   rw[Yz,Wa]
  | succ i =>
   have m:=JQ (show r[i]?=some (x,c) from h);rw[Yz,show (x == p.1)=false from Zi.mpr λz=>nd.1 (Jv.mpr ⟨_,m,z⟩)];exact ih nd.2 (show r[i]?=some (x,c) from h)
theorem mK {ps:List Str}{us:List Value}(nd:ps.Nodup)(d:us.length=ps.length){i:Nat}{x:Str}{u:Value}(b:ps[i]?=some x)(c:us[i]?=some u):(ps.zip us).reverse.lookup x=some u:=by
 have a:((ps.zip us).reverse.map (·.1)).Nodup:=by
  rw[List.map_reverse,List.map_fst_zip (by simp_all)];exact List.pairwise_reverse.mpr (nd.imp λh=>h.symm)
 have m:(x,u)∈(ps.zip us).reverse:=List.mem_reverse.mpr (JQ (i:=i) (by rw[WB];exact⟨b,c⟩));generalize (ps.zip us).reverse=l at a m
 induction l with
 | nil=>cases m
 | cons p r ih =>
  rw[JT,JP]at a;rcases Js.mp m with e|z
  ·rw[<- e,Yz,Wa]
  ·rw[Yz,show (x == p.1)=false from Zi.mpr λy=>a.1 (Jv.mpr ⟨_,z,y⟩)]
   exact ih a.2 z
theorem cY {h':Heap}{tk:Nat}(S:LamScope ps (cl.map (·.1)) L.scope)(hd:A.handled=none)(g:Env0 P w K mg base A outer s H)(la:LamAt H f L cl vals)(r:Vals vs us)(J:vs.length=ps.length)(ns:h'.Ns s.heap.objs.size (λx=>(ps.zip us).reverse.lookup x))(kp:∀ b o,s.heap.get? b=some o->h'.get? b=some o) :
  Inv (eG CX P w K mg base (ps++cl.map (·.1)) L cl f c A outer s H E) [] ((vs++vals).map some) (yT cl H) { s with heap:=h',toks:=tk }:=by
 have fz:=la.fz;have O:=WD.mp S.nd;have ul:us.length=ps.length:=by rw[<- r.length];exact J
 have d:∀ {x:Str}{a:Addr},cl.lookup x=some a->(x,a)∈cl:=λh=>Zj h
 have cellOf:∀ {x:Str}{a:Addr},(x,a)∈cl->∃ (i:Nat) (v:V) (o:Obj) (u:Value),cl[i]?=some (x,a)/\vals[i]?=some v/\H a=some (FZ o)/\o.data=.cell (some u)/\RelV v u/\s.heap.get? a=some o:=λ{x a} m=>by
  obtain⟨i,t,e⟩:=Zd.mp m;have R:cl[i]?=some (x,a):=by rw[J9 t,e]
  have Q:i<vals.length:=by rw[<- la.len];exact t
  obtain⟨o,u,C,B,F⟩:=la.cell i x a vals[i] R (J9 Q);exact⟨i,_,o,u,R,J9 Q,C,B,F,(g.hok a _ C).1⟩
 refine⟨⟨g.mod,S.kind,rfl,rfl,Je _,λy z a k n=>?_,λy G=>?_,λy a q=>(by cases q),λ_=>hd,Around.frames_deeper g.frames,.inr ⟨rfl,rfl⟩,λb z=>(Jz z).elim,λb o e=>⟨(g.bs b o e).1,?_⟩,g.bsz,λb _ _=>Jz,λb z=>(Jz z).elim,g.funs,λb hb=>?_⟩,
  rfl,g.bare,Un.kept kp,⟨_,ns,λi y v k n h3=>?_⟩,λy a h=>?_,?_,λy a h=>wG (Jv.mpr ⟨_,d h,rfl⟩),λp I=>(Jz I).elim,(rT g.hok fz).kept kp,?_⟩
 ·-- one cell,one name
  have X:=d k;have W:=d n;obtain⟨i,t,D⟩:=Zd.mp X;obtain⟨j,Y,M⟩:=Zd.mp W;have:i=j:=(List.getElem_inj (h₀:=by rw[Jg];exact t) (h₁:=by rw[Jg];exact Y) la.nd2).mp (by rw[List.getElem_map,List.getElem_map,D,M]);subst this;rw[D]at M;exact JW Prod.fst M
 ·have G:L.scope.names.lookup y=some .cell\/L.scope.names.lookup y=some .free:=G
  rcases G with q|q
  ·exact absurd rfl (S.noc _ (Zj q))
  ·obtain⟨p,I,e⟩:=Jv.mp (S.all y q)
   obtain⟨i,t,D⟩:=Zd.mp I;exact⟨p.2,kF la.nd1 (i:=i) (by rw[J9 t,D,<- e])⟩
 ·show yT cl H b=none
  unfold yT;split
  ·rfl
  ·exact(g.bs b o e).2
 ·show yT cl H b=none
  unfold yT;split
  ·rfl
  ·exact g.frf b hb
 ·have l:(vs++vals)[i]?=some v:=by
   rw[Y6]at n
   cases e:(vs++vals)[i]? with
   | none=>rw[e]at n;cases n
   | some z=>rw[e]at n;cases n;rfl
  replace k:(ps++cl.map (·.1))[i]?=some y:=k;by_cases ci:i<vs.length
  ·rw[ZG ci]at l
   rw[ZG (by simp_all)]at k;obtain⟨u,Z,T⟩:=r.get l;exact⟨u,T,.inl ⟨S.par y (JQ k),mK O.1 ul k Z⟩⟩
  ·rw[Zx (by simp_all)]at l
   rw[Zx (by simp_all),Y6,<- J]at k;obtain⟨⟨x,a⟩,N,rfl⟩:=Y9.mp k;obtain⟨o,u,C,B,F⟩:=la.cell _ x a v N l;exact⟨u,F,.inr ⟨.inr (S.fre x (Jv.mpr ⟨_,JQ N,rfl⟩)),a,kF la.nd1 N,o,kp _ _ (g.hok a _ C).1,B⟩⟩
 ·obtain⟨i,v,o,u,_,_,_,B,_,U⟩:=cellOf (d h)
  exact⟨some u,o,kp _ _ U,B⟩
 ·show yT cl H s.heap.objs.size=none
  unfold yT;split
  ·rfl
  ·exact g.hok.fresh (Je _)
 ·show ((vs++vals).map some).length=(ps++cl.map (·.1)).length
  rw[Jg,Jb,Jb,Jg,J,la.len]
end
theorem nP {sc:Scope}{env:Env}(h:∀ x,(x,NameKind.free)∈sc.names->∃ c,env.cells.lookup x=some c) :
  ∃ cl,closureFor sc env=pure cl/\cl.map (·.1)=((sc.names.filter λy=>y.2 == .free).map (·.1)).reverse/\∀ p∈cl,env.cells.lookup p.1=some p.2:=by
 unfold closureFor
 have key:∀ (l:List (Str × NameKind)) (acc:List (Str × Addr)),(∀ x,(x,NameKind.free)∈l->∃ c,env.cells.lookup x=some c)->(∀ p∈acc,env.cells.lookup p.1=some p.2) ->
   ∃ cl,(forIn l acc λ(y:Str × NameKind) (r:List (Str × Addr))=>(match y with|(name,kind)=>if (kind == NameKind.free)=true then do let a <- cellOf env name;pure (ForInStep.yield ((name,a)::r)) else pure (ForInStep.yield r):Sem (ForInStep (List (Str × Addr)))))=pure cl/\cl.map (·.1)=((l.filter λy=>y.2 == .free).map (·.1)).reverse++acc.map (·.1)/\∀ p∈cl,env.cells.lookup p.1=some p.2:=by
  intro l
  induction l with
  | nil=>intro acc _ e;exact⟨acc,rfl,rfl,e⟩
  | cons y l ih =>
   intro acc j e;obtain⟨x,f⟩:=y;rw[Z5];by_cases c:(f == NameKind.free)=true
   ·have n:f=.free:=by
     cases f<;>first|rfl|cases c
    subst n;obtain⟨a,k⟩:=j x (.head _)
    obtain⟨cl,d,e2,b⟩:=ih ((x,a)::acc) (λz g=>j z (.tail _ g)) (λp i=>by
     rcases Js.mp i with rfl|q
     ·exact k
     ·exact e p q)
    refine⟨cl,?_,?_,b⟩
    ·have o:cellOf env x=pure a:=by unfold cellOf;rw[k]
     simp only[o,pure_bind];exact d
    ·rw[e2,List.filter_cons,Jf (show ((x,NameKind.free).2 == NameKind.free)=true from rfl),JT (l:=List.filter _ l),List.reverse_cons,Y0];rfl
   ·obtain⟨cl,d,e2,b⟩:=ih acc (λz g=>j z (.tail _ g)) e
    refine⟨cl,?_,?_,b⟩
    ·simp only[c,pure_bind]
     exact d
    ·rw[e2,List.filter_cons,Jd c]
 obtain⟨cl,d,e2,b⟩:=key sc.names [] h (λp i=>(Jz i).elim);refine⟨cl,?_,by rw[e2,List.map_nil,Y3],b⟩;have s:=JW (λ(m:Sem (List (Str × Addr)))=>m >>= λr=>pure r) d;exact s.trans (pure_bind _ _)
def TabOk (H:Hp)(qual:Str)(l:List (Pos × Addr)):Prop:=∀ p∈l,∃ (a:Obj) (fs:Array Value) (t:Tok),H p.2=some (FZ a)/\a.data=.fields fs/\fs[1]?=some (.str qual t)
theorem TabOk.frz {H H':Hp}{qual:Str}{l:List (Pos × Addr)}(h:TabOk H qual l)(z:∀ b o u,H b=some (.frz o u)->H' b=some (.frz o u)):TabOk H' qual l:=λp c=>by
 obtain⟨a,fs,t,e,d⟩:=h p c;exact⟨a,fs,t,z _ _ _ e,d⟩
theorem sM (pos:Pos):∀ l:List (Pos × Addr),codeAmong pos (triples l)=none\/∃ p∈l,codeAmong pos (triples l)=some (.ref p.2)
 | []=>.inl rfl
 | (q,a)::l=>by
  show (if (((q.line:Int) == pos.line && (q.col:Int) == pos.col)=true) then some (Value.ref a) else codeAmong pos (triples l))=none\/∃ p∈(q,a)::l,(if (((q.line:Int) == pos.line && (q.col:Int) == pos.col)=true) then some (Value.ref a) else codeAmong pos (triples l))=some (.ref p.2);split
  ·exact .inr ⟨_,.head _,rfl⟩
  ·rcases sM pos l with h|⟨p,b,h⟩
   ·exact .inl h
   ·exact .inr ⟨p,.tail _ b,h⟩
theorem wn:∀ l:List (Pos × Addr),TriplesOk (triples l)
 | []=>trivial
 | (q,a)::l=>wn l
structure CodeK (K:PySem.W.Frag) (mg:Str->Option Value) (base:Heap) (c P:Addr):Prop where
 hd:PySem.W.codeHdIn K c P=true
 blt:base.BuiltinsAt mg P
 gP:mainGlobals≠P
structure LamRaw (H:Hp) (f:Addr) (L:Lam) (cl:List (Str × Addr)):Prop where
 ex:∃ (pm:Value) (c:Addr) (ct:Value) (oc:Obj) (fs:Array Value) (t:Tok),H f=some (FZ (o5 L cl pm c ct))/\H c=some (FZ oc)/\oc.data=.fields fs/\fs[1]?=some (.str L.qual t)
def CellsOf (env:Env)(cl:List (Str × Addr)):Prop:=∀ p∈cl,env.cells.lookup p.1=some p.2
def zbc (env:Env)(P:Addr)(L:Lam)(fr:List Str):TE:=λ_ H Q=>∃ l,H P=some (.tbl (triples l).toArray)/\TabOk H L.qual l /\
 ∀ f cl c a,cl.map (·.1)=fr->CellsOf env cl->H f=none->LamRaw a f L cl->a P=some (.tbl (triples c).toArray)->TabOk a L.qual c->(∀ b o,H b=some o->b≠P->a b=some o)->Q (.ref f) a
section
variable {X:Cx}{pins:List (Addr × Obj)}{σ:St}{H:Hp}{s:Shared}{h':Heap}
theorem Inv.tab {P:Addr}{ps more:Array Value}{tk:Nat}(I:Inv X pins σ H s)(d:H P=some (.tbl ps))(k:Heap.ExtBut P s.heap h')(new:h'.get? P=some (PySem.W.tabObj (ps++more))):Inv X pins σ (upd H P (.tbl (ps++more))) { s with heap:=h',toks:=tk }:=by
 have ne:∀ {b:Addr},H b=none->b≠P:=λe z=>by rw[z,d]at e;cases e
 have a:∀ {b:Addr}{o:HO},H b=some o->(∀ q,o≠.tbl q)->upd H P (.tbl (ps++more)) b=some o:=λ{b o} e n=>by
  rw[zG];· exact e
  ·intro z
   rw[z,d]at e;exact n ps (Jm e).symm
 refine I.step (g':=s.gens) (d':=s.drawn) (ch:=[]) (λb j=>(Jz j).elim) (λb o _ _ _ e n=>k b o (ne n) e) (λb o _ _ _ e n=>⟨o.slots,k b o (ne n) e⟩) (λb o _ e n=>by rw[zG (ne n)];exact n) (λb o _ e=>?_) (λb f e=>a e λq z=>by cases z) (λb o u e=>a e λq z=>by cases z) (λb t e=>?_) (λm i=>?_) (λb u e=>?_) I.bare
 ·by_cases c:b=P
  ·subst c;exact⟨_,new⟩
  ·exact⟨o,k b o c e⟩
 ·by_cases c:b=P
  ·subst c
   rw[d]at e;cases e;exact⟨more,zD⟩
  ·exact⟨#[],by rw[zG c,e];simp⟩
 ·obtain⟨o,l,p,h,r⟩:=i
  exact⟨o,l,p,k _ o (ne I.free) h,r⟩
 ·by_cases c:b=P
  ·subst c
   rw[zD]at e;cases e;exact new
  ·rw[zG c]at e
   refine(I.hok b u e).stay (λx v g q=>k x v ?_ q) (λx q=>a q λz y=>by cases y) λx f q=>a q λz y=>by cases y
   rcases g with z|z
   ·rw[z];exact c
   ·rintro rfl
    rw[d]at z;cases z
theorem aQ {params:Arguments}{body:Expr}{scope:Scope}{pos:Pos}{c P:Addr}{fr:List Str}(N:CodeK X.K X.mg X.base c P)(i:X.env.code=.ref c)(B:defaultsOf params X.env=([],[]))(r:∀ x,(x,NameKind.free)∈scope.names->X.env.kindOf x=some .cell\/X.env.kindOf x=some .free)(S:((scope.names.filter λy=>y.2 == .free).map (·.1)).reverse=fr) :
  PE X (.Lambda params body scope pos) (zbc X.env P ⟨params,body,scope,X.env.qual++"<lambda>"⟩ fr):=by
 intro pins s σ H Q I h;obtain⟨l,w,tok,q⟩:=h;obtain⟨cl,A,m,z⟩:=nP (sc:=scope) (env:=X.env) λx hx=>I.ok.has x (r x hx);rw[S]at m;have Y:s.heap.Ns mainGlobals X.mg:=I.mod.glob.keeps I.bk;have Z:s.heap.BuiltinsAt X.mg P:=N.blt.keeps I.bk;have C:=PySem.W.codeHd_of_K I.kIn N.hd;have E:s.heap.get? P=some (PySem.W.tabObj (triples l).toArray):=I.hok P _ w;refine PySem.W.kla_eval B ?_;rcases sM pos l with hn|⟨p,K,hy⟩
 ·refine PySem.W.kla_makeFunction A I.ok.glob Y i C E (by rw[List.toList_toArray];exact wn l) (by rw[List.toList_toArray];exact hn) N.gP Z λd f h' tk ex lo hi cr U=>?_
  obtain⟨c2,j,fs,t,ec,g1,g2,g3⟩:=cr;cases ec;have V:P<s.heap.objs.size:=Jr E;have sz:s.heap.objs.size<=h'.objs.size:=JR lo (Nat.le_of_lt hi);have cP:d≠P:=YZ (JL V lo);have fP:h'.objs.size≠P:=YZ (JL V sz);have M:d≠h'.objs.size:=JH hi
  have L:(triples l).toArray++#[rawInt pos.line,rawInt pos.col,.ref d]=(triples (l++[(pos,d)])).toArray:=by
   rw[triples_append];simp
  rw[L]at U;have D:=I.tab (tk:=tk) (h':=h'.push (o5 ⟨params,body,scope,X.env.qual++"<lambda>"⟩ cl ((X.mg "__name__").getD .none) d f)) (more:=#[rawInt pos.line,rawInt pos.col,.ref d]) w (λb o n e=>J8 _ (ex b o n e)) (by rw[L];exact J8 _ U);rw[L]at D;have W:H d=none:=I.hok.fresh lo;have J:H h'.objs.size=none:=I.hok.fresh sz;have m1:upd H P (.tbl (triples (l++[(pos,d)])).toArray) d=none:=by rw[zG cP];exact W
  have I2:=D.adopt (o:=FZ j) (I.fpOk lo m1) (nA (J8 _ g1));have m2:upd (upd H P (.tbl (triples (l++[(pos,d)])).toArray)) d (FZ j) h'.objs.size=none:=by rw[zG M.symm,zG fP];exact J
  have I3:=I2.adopt (o:=FZ (o5 ⟨params,body,scope,X.env.qual++"<lambda>"⟩ cl ((X.mg "__name__").getD .none) d f)) (I.fpOk sz m2) (nA (Jq _ rfl))
  have keep:∀ b o,H b=some o->b≠P->upd (upd (upd H P (.tbl (triples (l++[(pos,d)])).toArray)) d (FZ j)) h'.objs.size (FZ (o5 ⟨params,body,scope,X.env.qual++"<lambda>"⟩ cl ((X.mg "__name__").getD .none) d f)) b=some o:=λb o e n=>by
   rw[zG (zF e J),zG (zF e W),zG n];exact e
  refine⟨.ref h'.objs.size,_,I3,rfl,q _ cl (l++[(pos,d)]) _ m z J ⟨_,d,f,j,fs,t,zD,by rw[zG M];exact zD,g2,g3⟩ (by rw[zG fP.symm,zG cP.symm];exact zD) (λp K=>?_) keep⟩;rcases Jy.mp K with O|is
  ·obtain⟨R,T,t',v,G,F⟩:=tok p O
   exact⟨R,T,t',keep _ _ v (yQ v w (λy=>by cases y)),G,F⟩
  ·rw[Ja.mp is]
   exact⟨j,fs,t,by rw[zG M];exact zD,g2,g3⟩
 ·obtain⟨j,fs,t,v,G,F⟩:=tok p K
  refine PySem.W.kla_makeFunctionHit A I.ok.glob Y i C E (by rw[List.toList_toArray];exact wn l) (by rw[List.toList_toArray];exact hy) Z λf h' tk k sz=>?_;have kk:∀ b o,s.heap.get? b=some o->(h'.push (o5 ⟨params,body,scope,X.env.qual++"<lambda>"⟩ cl ((X.mg "__name__").getD .none) p.2 f)).get? b=some o:=λb o e=>J8 _ (k b o e);have g:=I.hok.fresh (a:=h'.objs.size) sz;have D:=I.laid (a:=h'.objs.size) (o:=FZ (o5 ⟨params,body,scope,X.env.qual++"<lambda>"⟩ cl ((X.mg "__name__").getD .none) p.2 f)) (t':=tk) kk sz (nA (Jq _ rfl));refine⟨.ref h'.objs.size,_,D,rfl,q _ cl l _ m z g ⟨_,p.2,f,j,fs,t,zD,by rw[zG (zF v g)];exact v,G,F⟩ (by rw[zG (zF w g)];exact w) (tok.frz λb o u e=>by rw[zG (zF e g)];exact e) λb o e _=>by rw[zG (zF e g)];exact e⟩
end
def CellsAt (H:Hp)(cs:List (Str × Addr))(vals:List V):Prop:=cs.length=vals.length/\∀ (i:Nat) x c v,cs[i]?=some (x,c)->vals[i]?=some v->∃ o u,H c=some (FZ o)/\o.data=.cell (some u)/\RelV v u
theorem CellsAt.fz {H:Hp}{cs:List (Str × Addr)}{vals:List V}(h:CellsAt H cs vals):CellsFz cs H:=λb j=>by
 obtain⟨⟨x,c⟩,g,rfl⟩:=Jv.mp j;obtain⟨i,a,e⟩:=Zd.mp g;have f:i<vals.length:=by rw[<- h.1];exact a
 obtain⟨o,u,d,_⟩:=h.2 i x c vals[i] (by rw[J9 a,e]) (J9 f);exact⟨o,d⟩
theorem LamRaw.at_ {H:Hp}{f:Addr}{L:Lam}{cl cs:List (Str × Addr)}{vals ws:List V}(r:LamRaw H f L cl)(h:CellsAt H cs vals)(n1:(cl.map (·.1)).Nodup)(d:(cl.map (·.2)).Nodup)(len:cl.length=ws.length)(sub:∀ (i:Nat) x c v,cl[i]?=some (x,c)->ws[i]?=some v->∃ j:Nat,cs[j]?=some (x,c)/\vals[j]?=some v):LamAt H f L cl ws:=by
 refine⟨r.ex,len,λi x c v a b=>?_,n1,d⟩;obtain⟨j,e,e2⟩:=sub i x c v a b;exact h.2 j x c v e e2
def bg (env:Env)(xs:List (Str × Nat))(sp:Sp)(E:XK)(t:TA):TE:=λσ H Q=>t σ H λd c=>∃ vals:List V,vals.length=xs.length/\(∀ (j:Nat) x i v,xs[j]?=some (x,i)->vals[j]?=some v->σ[i]?=some (some v)) /\
 ∀ cs a,cs.map (·.1)=xs.map (·.1)->CellsOf env cs->(cs.map (·.2)).Nodup->CellsAt a cs vals->(∀ b,b∉cs.map (·.2)->a b=c b)->(∀ b∈cs.map (·.2),c b=none)->sp d a (λv e=>Q v (yT cs e)) E
section
variable {X:Cx}{pins:List (Addr × Obj)}{σ:St}{H:Hp}{s:Shared}
theorem Inv.cells {xs:List (Str × Nat)}{vals:List V}(I:Inv X pins σ H s)(nd:(xs.map (·.1)).Nodup)(y:∀ p∈xs,X.N[p.2]?=some p.1/\X.env.scope.names.lookup p.1=some .cell/\X.fn p.1=true)(n:vals.length=xs.length)(k:∀ (j:Nat) x i v,xs[j]?=some (x,i)->vals[j]?=some v->σ[i]?=some (some v)):∃ cs:List (Str × Addr),cs.map (·.1)=xs.map (·.1)/\CellsOf X.env cs/\(cs.map (·.2)).Nodup/\cs.length=vals.length /\
   ∀ (j:Nat) x c v,cs[j]?=some (x,c)->vals[j]?=some v->∃ o u,s.heap.get? c=some o/\o.data=.cell (some u)/\RelV v u/\X.s₀.heap.objs.size<=c:=by
 induction xs generalizing vals with
 | nil =>
  cases vals with
  | nil=>exact⟨[],rfl,λp K=>(Jz K).elim,YS,rfl,λj x c v h=>by cases h⟩
  | cons a b=>cases n
 | cons p xs ih =>
  cases vals with
  | nil=>cases n
  | cons t vals =>
   rw[JT,JP]at nd;obtain⟨cs,B,A,Q,P,O⟩:=ih (vals:=vals) nd.2 (λq f=>y q (.tail _ f)) (by simpa using n) (λj x i v a b=>k (j+1) x i v a b);obtain⟨d,l⟩:=p;obtain⟨G,w,F⟩:=y (d,l) (.head _);have J:=k 0 d l t rfl rfl;obtain⟨m,S,lo⟩:=I.loc;obtain⟨u,C,D⟩:=lo l d t G J (.inr (.inl w));rcases D with ⟨E,_⟩|⟨_,c,r,o,L,N⟩
   ·have g:X.env.scope.names.lookup d=some .local:=E
    rw[w]at g;cases g
   refine⟨(d,c)::cs,by rw[JT,JT,B],λq f=>?_,?_,by rw[JM,JM,P],λj x R v a b=>?_⟩
   ·rcases Js.mp f with rfl|z
    ·exact r
    ·exact A q z
   ·rw[JT,JP]
    refine⟨λM=>?_,Q⟩;obtain⟨q,f,e⟩:=Jv.mp M;have:=I.ok.inj q.1 d c (by rw[A q f];exact JW some e) r;exact nd.1 (by rw[<- B,<- this];exact Jv.mpr ⟨q,f,rfl⟩)
   ·cases j with
    | zero =>
     cases Jm a;cases Jm b
     exact⟨o,u,L,N,C,I.ok.cab d c F r⟩
    | succ j=>exact O j x R v a b
variable {k:Nat}{f:Addr}{fd:FuncData}{ps:List Str}{sp:Sp}{x:Str}{p pos:Pos}{e:Expr}{es:List Expr}{t:TA}{E:XK}
theorem gn (F:FnOk X.prog X.w X.K X.mg X.base CX0 k f fd ps sp) (hr:Room k X.A) (hg:Gl X x) (hm:X.mg x=some (.ref f)) (T:PySem.W.keepIn X.K (.ref f)=true) (hb:Binds X.K fd ps []) (xs:List (Str × Nat)) (nd:(xs.map (·.1)).Nodup)
  (hk:∀ p∈xs,X.N[p.2]?=some p.1/\X.env.scope.names.lookup p.1=some .cell/\X.fn p.1=true) (ha:PA X (e::es) t) (U:(x == ("__debug__":Str))=false:=by decide) (he:starEach (e::es) X.env=(false,eval e X.env)::starEach es X.env:=by rfl) (S:(backTo pos (starEach es X.env)).any (·.1)=false:=by rfl) :
  PE X (.Call (.Name x p) (e::es) [] pos) (bg X.env xs sp E t):=by
 intro pins s σ H Q I h;refine Zp (kG I hg hm ?_ U);refine PySem.W.callWith_K (h₀:=X.base) I.ok.mod.kin T (thn (ha pos pins s σ H _ I h) λM m ⟨vs,K,l,r,vals,vl,R,q⟩=>⟨l.kIn,?_⟩) he S;obtain⟨cs,c1,c2,c3,Z,Y⟩:=l.cells nd hk vl R
 have cell:∀ b∈cs.map (·.2),∃ y o u,X.env.cells.lookup y=some b/\m.heap.get? b=some o/\o.data=.cell (some u)/\X.s₀.heap.objs.size<=b:=λb hb=>by
  obtain⟨⟨y,c⟩,D,rfl⟩:=Jv.mp hb;obtain⟨j,W,ej⟩:=Zd.mp D;have jv:j<vals.length:=by rw[<- Z];exact W
  obtain⟨o,u,G,N,_,g4⟩:=Y j y c vals[j] (by rw[J9 W,ej]) (J9 jv);exact⟨y,o,u,c2 (y,c) D,G,N,g4⟩
 have free:∀ b∈cs.map (·.2),K b=none:=λb hb=>by
  obtain⟨y,o,u,O,_⟩:=cell b hb;exact l.freeC y b O
 have nofr:∀ b∈cs.map (·.2),b∉frs X.stack:=λb hb hf=>by
  obtain⟨y,o,u,O,_,_,lo⟩:=cell b hb;rcases Js.mp (l.stkSub b hf) with z|z
  ·exact l.cne y b O z
  ·obtain⟨_,o',ho,_⟩:=l.ok.funs.mem z
   exact absurd (JL (Jr ho) lo) (YR _)
 let B:Hp:=λb=>if b∈cs.map (·.2) then (m.heap.get? b).map FZ else K b
 have C:∀ {b:Addr}{o:Obj},b∈cs.map (·.2)->m.heap.get? b=some o->B b=some (FZ o):=λ{b o} hb e=>by
  show (if b∈cs.map (·.2) then (m.heap.get? b).map FZ else K b)=_;rw[Jf hb,e];rfl
 have d:∀ b,b∉cs.map (·.2)->B b=K b:=λb hb=>Jd hb
 have g:∀ {b:Addr}{o:HO},K b=some o->B b=some o:=λ{b o} e=>by
  rw[d b λhb=>by rw[free b hb]at e;cases e];exact e
 have ca:CellsAt B cs vals:=⟨Z,λi y c v a b=>by
  obtain⟨o,u,G,N,g3,_⟩:=Y i y c v a b
  exact⟨o,u,C (Jv.mpr ⟨_,JQ a,rfl⟩) G,N,g3⟩⟩
 have P:HOk X.prog X.w B m.heap:=λb u e2=>by
  by_cases hb:b∈cs.map (·.2)
  ·obtain⟨y,o,u',_,G,_⟩:=cell b hb
   rw[C hb G]at e2;cases e2;exact nA G
  ·rw[d b hb]at e2
   exact(l.hok b u e2).stay (λ_ _ _ z=>z) (λ_ z=>g z) λ_ _ z=>g z
 have A:=l.env0;have e2:Env0 X.prog X.w X.K X.mg X.base X.A X.stack m B:=⟨A.frames,A.mod,λb o z=>⟨(A.bs b o z).1,?_⟩,A.bsz,A.funs,λb hb=>?_,P,A.bare⟩
 rotate_left
 ·rw[d b λD=>?_];· exact(A.bs b o z).2
  ·obtain⟨y,o',u,_,_,_,lo⟩:=cell b D
   exact absurd (JL (Jr z) (JR l.ok.bsz lo)) (YR _)
 ·rw[d b λD=>nofr b D hb];exact A.frf b hb
 have z:=q cs B c1 c2 c3 ca d free;have ul:M.length=ps.length:=by rw[<- r.length];exact F.len _ _ _ _ z
 refine wpAny_call (ZD (F.run X.A X.stack m B ⟨M,[]⟩ M vs _ E hr e2 (by have:=hb m M l.kIn (by rw[Y3];exact ul);rwa [Y3]at this) r z) λrs s' J=>?_)
 cases rs with
 | error e=>exact J.elim
 | ok fl =>
  cases fl with
  | next=>exact False.elim J
  | brk=>exact False.elim J
  | cont=>exact False.elim J
  | ret u =>
   obtain⟨v,H3,os,bare,un,L,rv,qq⟩:=J
   have V:CellsFz cs H3:=λb hb=>by
    obtain⟨o,w⟩:=ca.fz b hb;exact⟨o,un.frzs b o _ w⟩
   have same:∀ b∈cs.map (·.2),∀ o,m.heap.get? b=some o->s'.heap.get? b=some o:=λb hb o e=>by
    have:=un.frzs b o _ (C hb e);exact(L b _ this).1
   refine l.after ⟨v,yT cs H3,os,bare,⟨λb o e n x y=>?_,λb o e n x y=>?_,λb o e n y=>?_,un.there,λb ys e=>?_,λb o w e=>?_,λb qs e=>?_⟩,rT L V,rv,qq⟩
   ·by_cases hb:b∈cs.map (·.2)
    ·exact same b hb o e
    ·exact un.keep b o e (by rw[d b hb];exact n) x y
   ·by_cases hb:b∈cs.map (·.2)
    ·exact⟨o.slots,same b hb o e⟩
    ·exact un.slot b o e (by rw[d b hb];exact n) x y
   ·by_cases hb:b∈cs.map (·.2)
    ·exact wG hb
    ·rw[yD hb];exact un.free b o e (by rw[d b hb];exact n) y
   ·have hb:b∉cs.map (·.2):=λhb=>by rw[free b hb]at e;cases e
    rw[yD hb];exact un.tups b ys (g e)
   ·have hb:b∉cs.map (·.2):=λhb=>by rw[free b hb]at e;cases e
    rw[yD hb];exact un.frzs b o w (g e)
   ·have hb:b∉cs.map (·.2):=λhb=>by rw[free b hb]at e;cases e
    rw[yD hb];exact un.tbls b qs (g e)
end
def zaQ (cl:List (Str × Addr))(H:Hp)(Q:VK):VK:=λv a=>(∀ b∈cl.map (·.2),a b=none)->Q v (back cl H a)
section
variable {CX:CXT}{P:Program}{w:World}{K:PySem.W.Frag}{mg:Str->Option Value}{base:Heap}{L:Lam}{cl:List (Str × Addr)}{vals vs:List V}{ps:List Str}{f c:Addr}{A:Around}{outer:List Env}{s:Shared}{H:Hp}{us:List Value}{Q:VK}{E:XK}
theorem fc {k:Nat}(S:LamScope ps (cl.map (·.1)) L.scope) (i:Room (k+1) A) (a:Env0 P w K mg base A outer s H) (la:LamAt H f L cl vals) (r:Vals vs us) (l:vs.length=ps.length)
  (hb:∀ pm cdv ct,bindArgs (PySem.W.kla_fn "<lambda>" L.qual L.params L.body L.scope cl pm cdv ct) ⟨us,[]⟩=pure (ps.zip us))
  (d:∀ c,Room k (A.deeper (lB L cl s.heap.objs.size f c))->∃ t,PE (eG CX P w K mg base (ps++cl.map (·.1)) L cl f c A outer s H E) L.body t/\t ((vs++vals).map some) (yT cl H) (zaQ cl H Q)) :
  codeAny (model P w) A (.call (.ref f) ⟨us,[]⟩) (CR CX outer P w H s Q E) s:=by
 obtain⟨pm,c,ct,C,fs,n,R,O,N,M⟩:=la.ex;have lim:s.heap.NoLimit:=a.mod.nolimit.keeps λb o e=>(a.bs b o e).1;have ul:us.length=ps.length:=by rw[<- r.length];exact l
 refine PySem.W.kla_callFunE i.depth (a.hok f _ R).1 rfl S.co S.gen rfl ⟨c,C,fs,n,rfl,(a.hok c _ O).1,N,M⟩ ?_;rw[show bindArgs _ _=_ from hb pm (.ref c) ct];refine J7 (wpAny_newFunctionEnv S.noc (λy D=>S.par y.1 (List.of_mem_zip D).1) (λT ns p=>?_) S.kind);have j:∀ b o,s.heap.get? b=some o->T.get? b=some o:=λb o e=>(p.2 b (JH (Jr e))).trans (J8 _ e);refine⟨lim.keeps j,PySem.W.kla_codeExpr ?_⟩;obtain⟨t,F,G⟩:=d c (i.deeper _);have I:=cY (CX:=CX) (E:=E) (c:=c) (tk:=s.toks+(ps.zip us).length) S i.hd a la r l ns j;refine JN (F [] _ _ _ _ I G) (λu x h=>?_) λe x h=>h;obtain⟨v,m,J,B,q⟩:=h;have g:=la.fz
 have low:∀ b∈cl.map (·.2),m b=none:=λb hb=>by
  obtain⟨o,z⟩:=g b hb;exact J.base.free b o (a.hok b _ z).1 (wG hb) Jz
 obtain⟨un,ok⟩:=eW (H':=m) J.base g a.frf (λb o z=>(a.hok b _ z).1) low J.hok;exact⟨v,_,J.os,J.bare,un,ok,B,q low⟩
end
abbrev LSpc:=List V->List V->Hp->VK->XK->Prop
structure LamQ (CX:CXT) (P:Program) (w:World) (K:PySem.W.Frag) (mg:Str->Option Value) (base:Heap) (k:Nat) (L:Lam) (fr ps:List Str) (sp:LSpc):Prop where
 S:LamScope ps fr L.scope
 len:∀ vals vs H Q E,sp vals vs H Q E->vs.length=ps.length
 bind:∀ (cl:List (Str × Addr)) (us:List Value),us.length=ps.length->∀ pm cdv ct,bindArgs (PySem.W.kla_fn "<lambda>" L.qual L.params L.body L.scope cl pm cdv ct) ⟨us,[]⟩=pure (ps.zip us)
 body:∀ (cl:List (Str × Addr)) (f c:Addr) (A:Around) (outer:List Env) (s:Shared) (H:Hp) (vals vs:List V) (Q:VK) (E:XK),cl.map (·.1)=fr->Room k (A.deeper (lB L cl s.heap.objs.size f c))->CellsFz cl H->sp vals vs (yT cl H) Q E ->
  ∃ t,PE (eG CX P w K mg base (ps++fr) L cl f c A outer s H E) L.body t/\t ((vs++vals).map some) (yT cl H) Q
def zaA (L:Lam)(fr:List Str)(sp:LSpc)(E:XK)(i:Nat)(t:TA):TE:=λσ H Q=>∃ f,σ[i]?=some (some (.ref f))/\(∃ cl pm c d,H f=some (FZ (o5 L cl pm c d)))/\t σ H λb a=>∃ cl vals,cl.map (·.1)=fr/\LamAt a f L cl vals/\sp vals b (yT cl a) (zaQ cl a Q) E
section
variable {X:Cx}{CX:CXT}{k:Nat}{L:Lam}{fr ps:List Str}{sp:LSpc}{E:XK}{x:Str}{i:Nat}{p pos:Pos}{e:Expr}{es:List Expr}{t:TA}
theorem du (F:LamQ CX X.prog X.w X.K X.mg X.base k L fr ps sp)(O:Room (k+1) X.A)(S:PE X (.Name x p) (dO i))(M:Passes CX X E)(ha:PA X (e::es) t)(R:starEach (e::es) X.env=(false,eval e X.env)::starEach es X.env:=by rfl)(m:(backTo pos (starEach es X.env)).any (·.1)=false:=by rfl) :
  PE X (.Call (.Name x p) (e::es) [] pos) (zaA L fr sp E i t):=by
 intro pins s σ H Q I h;obtain⟨f,P,⟨aT,ab,c0,ao,n⟩,q⟩:=h;refine Zp (thn (S pins s σ H (λv Z=>v=.ref f/\Z=H) I ⟨_,P,rfl,rfl⟩) λg G ⟨v,Y,A,K,ev,U⟩=>?_);subst ev U;obtain rfl:g=.ref f:=K;refine PySem.W.callWith_F ⟨_,_,_,_,(A.hok f _ n).1⟩ ?_ R m;refine thn (ha pos pins G σ Y _ A q) λo w ⟨C,B,b,r,cl,vals,j,d,z⟩=>?_;obtain⟨pm,c,ct,oc,fs,tc,T,h2,h3,h4⟩:=d.ex;have y:=F.len _ _ _ _ _ z;have ul:o.length=ps.length:=by rw[<- r.length];exact y
 have W:LamScope ps (cl.map (·.1)) L.scope:=by rw[j];exact F.S
 refine⟨⟨_,_,_,_,(b.hok f _ T).1⟩,?_⟩;refine wpAny_call (ZD (fc (CX:=CX) (E:=E) (Q:=Q) W O b.env0 d r y (F.bind cl o ul) λV l=>?_) λrs J a=>?_)
 ·obtain⟨D,N,a⟩:=F.body cl f V X.A X.stack w B vals C _ E j l d.fz z
  exact⟨D,by rw[j];exact N,a⟩
 ·cases rs with
  | error e=>exact M pins σ B w e J b a
  | ok fl =>
   cases fl with
   | ret u=>exact b.after a
   | next=>exact False.elim a
   | brk=>exact False.elim a
   | cont=>exact False.elim a
end
abbrev LvL:=List (KN × List Int)
def zX (ps:LvL)(k:KN):Option (List Int):=(ps.find? λx=>decide (x.1=k)).map (·.2)
def xZ (ps:LvL)(k:KN)(c:List Int):LvL:=if (zX ps k).isSome then ps.map λx=>if x.1=k then (x.1,c) else x else ps++[(k,c)]
def zj (c:List Int)(m:Nat):List Int:=Bn.kg c m 1
structure LAcc where
 on:LvL
 fl:List (List Int)
section
variable (step:KN->Nat->Option KN)(seen:LvL)
def go1 (s:KN)(c:List Int)(a:LAcc)(m:Nat):LAcc :=
 match step s m with
 | none=>⟨a.on,a.fl++[zj c m]⟩
 | some t=>if (zX seen t).isSome then a else ⟨xZ a.on t (yd (zj c m) ((zX a.on t).getD (zj c m))),a.fl⟩
def goS (moves:List Nat)(a:LAcc)(p:KN × List Int):LAcc:=moves.foldl (go1 step seen p.1 p.2) a
def yI (moves:List Nat)(level:LvL):LAcc:=level.foldl (goS step seen moves) ⟨[],[]⟩
end
inductive LRes
 | opn
 | brk (c:List Int)
 | whl (ls:List LvL)
def yW (step:KN->Nat->Option KN)(moves:List Nat)(most:Nat):Nat->LvL->LvL->List LvL->LRes
 | 0,_,_,_=>.opn
 | n+1,level,seen,ls =>
  if level=[] then .whl ls else
  if most<seen.length+level.length then .opn else
  if (yI step (seen++level) moves level).fl≠[] then .brk (jy (yI step (seen++level) moves level).fl) else
  yW step moves most n (yI step (seen++level) moves level).on (seen++level) (ls++[level])
def LvX (H:Hp)(x:KN × Addr × V)(p:KN × List Int):Prop:=x.1=p.1/\∃ c,x.2.2=.ref c/\H c=some (.tup (p.2.map V.int))
structure LvE (H:Hp) (xs:KVN) (ps:LvL):Prop where
 ks:KsIn H xs
 pr:Paired (LvX H) xs ps
theorem y9 {α β:Type}{F G:α->β->Prop}(h:∀ a b,F a b->G a b){l1:List α}{l2:List β}(p:Paired F l1 l2):Paired G l1 l2:=by
 induction p with
 | nil=>exact .nil
 | cons a _ ih=>exact .cons (h _ _ a) ih
theorem LvX.tups {H H':Hp}(t:∀ b ys,H b=some (.tup ys)->H' b=some (.tup ys)){x:KN × Addr × V}{p:KN × List Int}(h:LvX H x p):LvX H' x p:=by
 obtain⟨e,c,e2,a⟩:=h;exact⟨e,c,e2,t _ _ a⟩
theorem LvE.tups {H H':Hp}(t:∀ b ys,H b=some (.tup ys)->H' b=some (.tup ys)){xs:KVN}{ps:LvL}(h:LvE H xs ps):LvE H' xs ps:=⟨h.ks.tups t,y9 (λ_ _ z=>z.tups t) h.pr⟩
theorem LvE.keep {H H':Hp}(s:Same H H'){xs:KVN}{ps:LvL}(h:LvE H xs ps):LvE H' xs ps:=h.tups λb a e=>s _ _ e
theorem LvE.nil {H:Hp}:LvE H [] []:=⟨λx a=>(nomatch a),.nil⟩
theorem LvE.len {H:Hp}{xs:KVN}{ps:LvL}(h:LvE H xs ps):xs.length=ps.length:=Ya h.pr
theorem qb {H:Hp}{xs:KVN}{ps:LvL}(h:Paired (LvX H) xs ps)(k:KN):(yn xs k=none/\zX ps k=none)\/∃ c r,yn xs k=some (.ref c)/\zX ps k=some r/\H c=some (.tup (r.map V.int)):=by
 induction h with
 | nil=>exact Or.inl (And.intro rfl rfl)
 | @cons x p xs ps a t ih =>
  obtain⟨e,c,e2,b⟩:=a;unfold yn zX at ih ⊢;rw[YH,YH,e];by_cases z:p.1=k
  ·rw[JD z]
   exact .inr ⟨c,p.2,JW some e2,rfl,b⟩
  ·rw[Jt z]
   exact ih
theorem rN {H:Hp}{xs:KVN}{ps:LvL}(h:Paired (LvX H) xs ps)(k:KN):(yn xs k).isSome=(zX ps k).isSome:=by
 rcases qb h k with ⟨a,b⟩|⟨c,r,a,b,_⟩<;>rw[a,b]<;>rfl
theorem aw {H:Hp}{xs:KVN}{ps:LvL}(h:Paired (LvX H) xs ps)(k:KN){c:Addr}{r:List Int}(b:H c=some (.tup (r.map V.int))):Paired (LvX H) (xs.map λx=>if x.1=k then (x.1,x.2.1,.ref c) else x) (ps.map λx=>if x.1=k then (x.1,r) else x):=by
 induction h with
 | nil=>exact .nil
 | @cons x p xs ps a t ih =>
  refine .cons ?_ ih;dsimp only;by_cases z:p.1=k
  ·rw[Jf (a.1.trans z),Jf z];exact⟨a.1,c,rfl,b⟩
  ·rw[Jd (λy=>z (a.1.symm.trans y)),Jd z];exact a
theorem LvE.put {H:Hp}{xs:KVN}{ps:LvL}(h:LvE H xs ps){k:KN}{b c:Addr}{r:List Int}(f:NKey H k b)(d:H c=some (.tup (r.map V.int))):LvE H (wD xs k b (.ref c)) (xZ ps k r):=by
 unfold wD xZ;rw[rN h.pr k];by_cases z:(zX ps k).isSome=true
 ·rw[Jf z,Jf z]
  refine⟨λx a=>?_,aw h.pr k d⟩;obtain⟨y,e,rfl⟩:=Jv.mp a;have:=h.ks y e;split<;>exact this
 ·rw[Jd z,Jd z]
  refine⟨λx a=>?_,ZT h.pr ⟨rfl,c,rfl,d⟩⟩;rcases Jy.mp a with y|y
  ·exact h.ks x y
  ·rw[Ja.mp y];exact f
theorem wt {α β:Type}{F:α->β->Prop}{a1:List α}{b1:List β}(p:Paired F a1 b1){a2:List α}{b2:List β}(q:Paired F a2 b2):Paired F (a1++a2) (b1++b2):=by
 induction p with
 | nil=>exact q
 | cons a _ ih=>exact .cons a ih
theorem LvE.app {H:Hp}{xs ys:KVN}{ps a:LvL}(h:LvE H xs ps)(g:LvE H ys a):LvE H (xs++ys) (ps++a):=⟨λx b=>by
 rcases Jy.mp b with y|y
 ·exact h.ks x y
 ·exact g.ks x y,wt h.pr g.pr⟩
theorem LvE.at_ {H:Hp}{xs:KVN}{ps:LvL}(h:LvE H xs ps){i:Nat}{p:KN × Addr × V}(e:xs[i]?=some p):∃ r c,ps[i]?=some (p.1,r)/\NKey H p.1 p.2.1/\p.2.2=.ref c/\H c=some (.tup (r.map V.int)):=by
 have key:∀ {xs:KVN}{ps:LvL},Paired (LvX H) xs ps->∀ {i:Nat}{p:KN × Addr × V},xs[i]?=some p->∃ q,ps[i]?=some q/\LvX H p q:=by
  intro xs ps r
  induction r with
  | nil=>intro i p h;cases h
  | cons q t ih =>
   intro i p h
   cases i with
   | zero=>cases Jm h;exact⟨_,rfl,q⟩
   | succ i=>exact ih h
 obtain⟨q,e2,d,c,b,a⟩:=key h.pr e;refine⟨q.2,c,?_,h.ks p (JQ e),b,a⟩;rw[e2,d]
theorem rV {ps:LvL}{k:KN}:zX ps k=none↔∀ p∈ps,p.1≠k:=by
 unfold zX;rw[Option.map_eq_none_iff,List.find?_eq_none];constructor
 ·intro h p a e;exact h p a (JD e)
 ·intro h p a e;exact h p a (Ze e)
theorem yh {ps:LvL}{k:KN}{r:List Int}(h:zX ps k=some r):(k,r)∈ps:=by
 unfold zX at h;obtain⟨p,a,e⟩:=Y9.mp h;have d:=List.mem_of_find?_eq_some a;have b:=List.find?_some (p:=λx:KN × List Int=>decide (x.1=k)) a;have c:=Ze b;rw[<- c,<- e];exact d
theorem xv {ps:LvL}{k:KN}(h:(zX ps k).isSome=true):∃ r,(k,r)∈ps:=by
 obtain⟨r,e⟩:=ZH.mp h;exact⟨r,yh e⟩
theorem xw {ps:LvL}{k:KN}{r:List Int}(h:(k,r)∈ps):(zX ps k).isSome=true:=by
 cases e:zX ps k with
 | some r=>rfl
 | none=>exact absurd rfl (rV.mp e _ h)
theorem xW (a b:LvL)(k:KN):(zX (a++b) k).isSome=((zX a k).isSome || (zX b k).isSome):=by
 rw[Yw,Wk];constructor
 ·intro h
  obtain⟨r,c⟩:=xv h;rcases Jy.mp c with y|y
  ·exact .inl (xw y)
  ·exact .inr (xw y)
 ·rintro (h|h)
  ·obtain⟨r,c⟩:=xv h;exact xw (Yj _ c)
  ·obtain⟨r,c⟩:=xv h;exact xw (JB _ c)
def LvNd (ps:LvL):Prop:=(ps.map (·.1)).Nodup
theorem jR (ps:LvL)(k:KN)(r:List Int):(xZ ps k r).map (·.1)=if (zX ps k).isSome then ps.map (·.1) else ps.map (·.1)++[k]:=by
 unfold xZ;split
 ·rw[Zb]
  refine Wp λx a=>?_;show (if x.1=k then (x.1,r) else x).1=x.1;split<;>rfl
 ·rw[Y2];rfl
theorem LvNd.put {ps:LvL}(h:LvNd ps)(k:KN)(r:List Int):LvNd (xZ ps k r):=by
 unfold LvNd;rw[jR];split
 ·exact h
 ·rename_i z
  refine WD.mpr ⟨h,JP.mpr ⟨Jz,YS⟩,λa f b d e=>?_⟩;rw[Ja.mp d]at e;obtain⟨p,c,rfl⟩:=Jv.mp f;exact z (xw (k:=k) (r:=p.2) (by rw[<- e];exact c))
theorem vJ {ps:LvL}{k:KN}{r:List Int}{p:KN × List Int}(h:p∈xZ ps k r):p∈ps\/p=(k,r):=by
 unfold xZ at h;split at h
 ·obtain⟨x,a,rfl⟩:=Jv.mp h
  by_cases z:x.1=k
  ·rw[Jf z,z];exact .inr rfl
  ·rw[Jd z];exact .inl a
 ·rcases Jy.mp h with y|y
  ·exact .inl y
  ·exact .inr (Ja.mp y)
theorem tF (ps:LvL)(k:KN)(r:List Int):(xZ ps k r).length<=ps.length+1:=by
 unfold xZ;split
 ·rw[Jg];lia
 ·rw[Jb];exact Je _
theorem vj:∀ (ys xs:KVN),(ys.map (·.1)).Nodup->(∀ y∈ys,∀ x∈xs,x.1≠y.1)->yz xs ys=xs++ys
 | [],xs,_,_=>by rw[Y3];rfl
 | y::ys,xs,nd,ds=>by
  rw[JT,JP]at nd
  have e:wD xs y.1 y.2.1 y.2.2=xs++[y]:=by
   unfold wD
   have:yn xs y.1=none:=by
    unfold yn;rw[Option.map_eq_none_iff,List.find?_eq_none];exact λx a z=>ds y (.head _) x a (Ze z)
   rw[this];rfl
  show List.foldl _ (wD xs y.1 y.2.1 y.2.2) ys=_;rw[e]
  have:=vj ys (xs++[y]) nd.2 λz b x a=>by
   rcases Jy.mp a with q|q
   ·exact ds z (.tail _ b) x q
   ·rw[Ja.mp q]
    exact λe=>nd.1 (Jv.mpr ⟨z,b,e.symm⟩)
  rw[show List.foldl (λacc y=>wD acc y.1 y.2.1 y.2.2) (xs++[y]) ys=yz (xs++[y]) ys from rfl,this,Y0];rfl
theorem vN {H:Hp}{xs:KVN}{ps:LvL}(h:Paired (LvX H) xs ps):xs.map (·.1)=ps.map (·.1):=by
 induction h with
 | nil=>rfl
 | cons a _ ih=>rw[JT,JT,ih,a.1]
theorem LvE.merge {H:Hp}{xs ys:KVN}{ps a:LvL}(h:LvE H xs ps)(g:LvE H ys a)(nd:LvNd a)(ds:∀ q∈a,zX ps q.1=none):yz xs ys=xs++ys:=by
 refine vj ys xs (by rw[vN g.pr];exact nd) λy d x f e=>?_;have c:y.1∈a.map (·.1):=by rw[<- vN g.pr];exact Jv.mpr ⟨y,d,rfl⟩
 obtain⟨q,i,eq⟩:=Jv.mp c;have b:x.1∈ps.map (·.1):=by rw[<- vN h.pr];exact Jv.mpr ⟨x,f,rfl⟩
 obtain⟨p,j,k⟩:=Jv.mp b;exact rV.mp (ds q i) p j (k.trans (e.trans eq.symm))
end L2
namespace L2
open PySem PySem.Spec PyProof.Rows Own Bn
theorem Room.u3 {k:Nat}{A:Around}(r:Room k A):A.units+3<cLine:=by have:=r.un;lia
def RowsAt (H:Hp)(as:List Addr)(rs:List (List Int)):Prop:=Paired (λa r=>H a=some (.tup (r.map V.int))) as rs
theorem RowsAt.tups {H H':Hp}(t:Tups H H'){as:List Addr}{rs:List (List Int)}(h:RowsAt H as rs):RowsAt H' as rs:=y9 (λ_ _ e=>t _ _ e) h
structure AccOk (n m:Nat) (a:LAcc):Prop where
 on:∀ p∈a.on,p.2.length=n
 fl:∀ r∈a.fl,r.length=n
 few:a.on.length+a.fl.length<=m
theorem xV (c:List Int)(m:Nat):(zj c m).length=c.length:=by unfold zj kg;rw[List.length_set]
theorem uY (x y:List Int):yd x y=x\/yd x y=y:=by unfold yd;split<;>simp
theorem AccOk.go {step:KN->Nat->Option KN}{seen:LvL}{s:KN}{c:List Int}{a:LAcc}{n m k:Nat}(h:AccOk n m a)(i:c.length=n):AccOk n (m+1) (go1 step seen s c a k):=by
 have b:(zj c k).length=n:=by rw[xV,i]
 have l:=h.few;unfold go1;split
 ·refine⟨h.on,λr d=>?_,by show a.on.length+(a.fl++[zj c k]).length<=_;rw[Jb];show _+(_+1)<=_;lia⟩
  rcases Jy.mp d with z|z
  ·exact h.fl r z
  ·rw[Ja.mp z];exact b
 ·rename_i t j
  split
  ·exact⟨h.on,h.fl,by lia⟩
  ·refine⟨λp f=>?_,h.fl,by have:=tF a.on t (yd (zj c k) ((zX a.on t).getD (zj c k)));show (xZ a.on t _).length+a.fl.length<=_;lia⟩
   rcases vJ f with z|z
   ·exact h.on p z
   ·rw[z]
    show (yd _ _).length=n;rcases uY (zj c k) ((zX a.on t).getD (zj c k)) with e|e
    ·rw[e];exact b
    ·rw[e]
     cases g:zX a.on t with
     | none=>exact b
     | some r=>exact h.on _ (yh g)
theorem AccOk.row {step:KN->Nat->Option KN}{seen:LvL}{s:KN}{c:List Int}{n:Nat}(b:c.length=n):∀ (moves:List Nat) {a:LAcc}{m:Nat},AccOk n m a->AccOk n (m+moves.length) (moves.foldl (go1 step seen s c) a)
 | [],a,m,h=>h
 | k::r,a,m,h=>by
  have:=AccOk.row (step:=step) (seen:=seen) (s:=s) (c:=c) b r (h.go (step:=step) (seen:=seen) (s:=s) (k:=k) b);rw[JM,show m+(r.length+1)=m+1+r.length by lia];exact this
theorem AccOk.lev {step:KN->Nat->Option KN}{seen:LvL}{n:Nat}{moves:List Nat}:∀ (level:LvL) {a:LAcc}{m:Nat},(∀ p∈level,p.2.length=n)->AccOk n m a->AccOk n (m+level.length*moves.length) (level.foldl (goS step seen moves) a)
 | [],a,m,_,h=>by rw[Z6,Nat.zero_mul];exact h
 | p::r,a,m,b,h=>by
  have:=AccOk.lev (step:=step) (seen:=seen) (moves:=moves) r (λq c=>b q (.tail _ c)) (AccOk.row (step:=step) (seen:=seen) (s:=p.1) (b p (.head _)) moves h);rw[JM,Nat.add_mul,Nat.one_mul,show m+(r.length*moves.length+moves.length)=m+moves.length+r.length*moves.length by lia];exact this
def Led (lsp:LSpc)(vals:List V)(step:KN->Nat->Option KN)(Ok:KN->Prop)(moves:List Nat)(H:Hp):Prop :=
 ∀ (c:Hp) (s:KN) (b:Addr) (m:Nat) (Q:VK),Tups H c->Ok s->m∈moves->NKey c s b->(∀ a,Same c a->step s m=none->Q .non a)->(∀ a d t,Same c a->step s m=some t->NKey a t d->Q (.ref d) a)->lsp vals [.ref b,.int (m:Nat)] c Q E0
theorem Led.tups {lsp:LSpc}{vals:List V}{step:KN->Nat->Option KN}{Ok:KN->Prop}{moves:List Nat}{H H':Hp}(h:Led lsp vals step Ok moves H)(t:Tups H H'):Led lsp vals step Ok moves H':=λc s b m Q a=>h c s b m Q (t.trans a)
theorem uf {H:Hp}{cl:List (Str × Addr)}(fz:CellsFz cl H):Tups H (yT cl H):=λa c e=>by
 rw[yD]
 ·exact e
 ·intro b
  obtain⟨o,q⟩:=fz a b;rw[e]at q;cases q
theorem ss {H a:Hp}{cl:List (Str × Addr)}(s:Same (yT cl H) a):Same H (back cl H a):=λb o e=>by
 by_cases c:b∈cl.map (·.2)
 ·rw[qp c];exact e
 ·rw[xD c];exact s b o (by rw[yD c];exact e)
theorem jD {H a:Hp}{cl:List (Str × Addr)}(low:∀ b∈cl.map (·.2),a b=none):Tups a (back cl H a):=λb d e=>by
 rw[xD]
 ·exact e
 ·intro c
  rw[low b c]at e;cases e
def MvAt (K:PySem.W.Frag)(H:Hp)(a:Addr)(xs:List V):Prop:=H a=some (.tup xs)\/∀ b,SqT K b a xs
theorem MvAt.tups {K:PySem.W.Frag}{H H':Hp}(t:Tups H H'){a:Addr}{xs:List V}(h:MvAt K H a xs):MvAt K H' a xs:=h.imp (t _ _) id
theorem MvAt.sq {K:PySem.W.Frag}{H:Hp}{a:Addr}{xs:List V}(h:MvAt K H a xs):SqT K H a xs:=h.elim SqT.of λz=>z H
structure Way (K:PySem.W.Frag) (H:Hp) (mv f:Addr) (L:Lam) (fr:List Str) (lsp:LSpc) (cl:List (Str × Addr)) (vals:List V) (step:KN->Nat->Option KN) (Ok:KN->Prop) (moves:List Nat) (n:Nat):Prop where
 mv:MvAt K H mv (moves.map λm=>V.int (m:Nat))
 fr:cl.map (·.1)=fr
 la:LamAt H f L cl vals
 ld:Led lsp vals step Ok moves H
 lt:∀ m∈moves,m<n
 ok:∀ s m t,Ok s->m∈moves->step s m=some t->Ok t
 n1:n<=1000
theorem Way.keep {K:PySem.W.Frag}{H H':Hp}{mv f:Addr}{L:Lam}{fr:List Str}{lsp:LSpc}{cl:List (Str × Addr)}{vals:List V}{step:KN->Nat->Option KN}{Ok:KN->Prop}{moves:List Nat}{n:Nat}(h:Way K H mv f L fr lsp cl vals step Ok moves n)(t:Tups H H')(z:∀ b o u,H b=some (.frz o u)->H' b=some (.frz o u)):Way K H' mv f L fr lsp cl vals step Ok moves n :=
 ⟨h.mv.tups t,h.fr,h.la.frz z,h.ld.tups t,h.lt,h.ok,h.n1⟩
def n4 (P:Program)(w:World)(K:PySem.W.Frag)(L:Lam)(fr:List Str)(lsp:LSpc):Sp:=λe H Q _=>∃ dl ds mv f d c level seen moves cl vals step Ok n,e=[.ref dl,.ref ds,.ref mv,.ref f]/\H dl=some (DN P w dl d)/\LvE H d level/\H ds=some (DN P w ds c)/\LvE H c seen/\dl≠ds /\
 Way K H mv f L fr lsp cl vals step Ok moves n/\(∀ p∈level,Ok p.1/\p.2.length=n)/\level.length*moves.length<=10000000 /\
 ∀ p o l b fs a,Same H a->H o=none->a p=some (.tup [.ref o,.ref l])->a o=some (DN P w o b)->LvE a b (yI step seen moves level).on->a l=some (.lst (fs.map V.ref))->RowsAt a fs (yI step seen moves level).fl->Q (.ref p) a
end L2
namespace K37
open PySem L2 Own Bn
abbrev bx:Stmt:=top 11
theorem kL {d:Addr}{H H':Hp}{P:Program}{w:World}{xs:KVN}(b:But d H H')(hd:H d=some (DN P w d xs)):∀ c o u,H c=some (.frz o u)->H' c=some (.frz o u):=λc o u e=>b c _ e λz=>by
 rw[z,hd]at e;cases e
theorem xk {d:Addr}{H H':Hp}{P:Program}{w:World}{xs:KVN}(b:But d H H')(hd:H d=some (DN P w d xs)):Tups H H':=λc a e=>b c _ e λz=>by
 rw[z,hd]at e;cases e
theorem oh {a b:List Int}(h:a.map V.int=b.map V.int):a=b:=(List.map_inj_right λx y (e:V.int x=V.int y)=>by injection e).mp h
section
variable {P:Program}{w:World}{K:PySem.W.Frag}{mg:Str->Option Value}{base:Heap}
theorem pO:FnScope ["level","seen","moves","led","onward","faults","state","counts","move","there","more"] ["level","seen","moves","led"] (zN bx):=by rfl'
theorem cA {f fA:Addr}{fd dA:FuncData}{L:Lam}{fr cX:List Str}{lsp:LSpc}(F:Fun K "next_level" "next_level" bx f fd) (G:Mgs mg) (UA:Use P w K mg base "added" ["counts","place","many"] 2 qF fA dA) (LQ:LamQ CX0 P w K mg base 4 L fr cX lsp):FnOk P w K mg base CX0 6 f fd ["level","seen","moves","led"] (n4 P w K L fr lsp):=by
 refine F.ok pO (λvs H Q E h=>?_) (λc9 A outer s H vs Q E hr h=>?_)
 ·obtain⟨dl,ds,mv,f,xs,ys,level,seen,moves,cl,vals,step,Ok,n,rfl,_⟩:=h
  rfl
 obtain⟨dl,ds,mv,f,xs,ys,level,seen,moves,cl,vals,step,Ok,n,rfl,D,lvl,cb,bc,cv,W,c0,c8,k⟩:=h;refine⟨_,(@zE _ _ _ _ _ (@zp _ _ 4 _ _ _ _ pO.nd rfl (.inl rfl) uW (by rfl) (by rfl')) (@zE _ _ _ _ _ (@zp _ _ 5 _ _ _ _ pO.nd rfl (.inl rfl) (@yR _ _ _ _ zC) (by rfl) (by rfl')) (@zE _ _ _ _ _ (pZ (@xG _ _ _ _ _ _ _ _ Yp rfl (jU (@qv _ 0 _ _ (by rfl'))) (@yJ _ _ _ _ _ _ rfl (@zK _ _ _ _ _ (@zM _ _ 6 _ pO.nd rfl (.inl rfl) (by rfl')) (@zK _ _ _ _ _ (@zM _ _ 7 _ pO.nd rfl (.inl rfl) (by rfl')) yC (by rfl)) (by rfl)) (by rfl) (by rfl)) (@zJ _ _ _ (@xG _ _ _ _ _ _ _ _ Yp rfl (@vZ _ _ _ _ (@qv _ 2 _ _ (by rfl'))) (@zM _ _ 8 _ pO.nd rfl (.inl rfl) (by rfl')) (@zE _ _ _ _ _ (@zp _ _ 9 _ _ _ _ pO.nd rfl (.inl rfl) (du LQ hr (@qv _ 3 _ _ (by rfl')) zu (@zA _ _ _ _ _ (@qv _ 6 _ _ (by rfl')) (@zA _ _ _ _ _ (@qv _ 8 _ _ (by rfl')) zC (by rfl)) (by rfl))) (by rfl) (by rfl')) (@zE _ _ _ _ _ (@yO _ _ _ _ _ _ _ _ (@zY _ _ _ _ _ _ _ _ (aX hr.u3) (@qv _ 9 _ _ (by rfl')) (@qv _ 1 _ _ (by rfl')) (by rfl)) (@zJ _ _ _ oA) zr) (@zE _ _ _ _ _ (@zp _ _ 10 _ _ _ _ pO.nd rfl (.inl rfl) (@zR _ _ _ _ _ _ _ _ _ _ _ _ _ _ _ _ UA.ok (hr.mono (by decide)) (by rfl) UA.m UA.kp UA.b .nil zu (@zA _ _ _ _ _ (@qv _ 7 _ _ (by rfl')) (@zA _ _ _ _ _ (@qv _ 8 _ _ (by rfl')) (@zA _ _ _ _ _ zH zC (by rfl)) (by rfl)) (by rfl)) (by decide) (by rfl) (by rfl)) (by rfl) (by rfl')) (@zJ _ _ _ (@yO _ _ _ _ _ _ _ _ (@zY _ _ _ _ _ _ _ _ aW (@qv _ 9 _ _ (by rfl')) vd (by rfl)) (@zJ _ _ _ (@y4 _ _ _ _ (@uH _ _ _ _ _ _ _ _ _ _ _ _ YK ZJ ZK yx (@qv _ 5 _ _ (by rfl')) (@zA _ _ _ _ _ (@qv _ 10 _ _ (by rfl')) zC (by rfl)) (by rfl) (by rfl) (by rfl) (by rfl) (by rfl)) (by rfl))) (@zJ _ _ _ (lU hr.u3 (@qv _ 4 _ _ (by rfl')) (@qv _ 9 _ _ (by rfl')) (@zU _ _ _ _ _ _ _ _ _ (sK rfl hr.units) (by rfl) G.min (by rfl) (@zA _ _ _ _ _ (@qv _ 10 _ _ (by rfl')) (@zA _ _ _ _ _ (oC hr.u3 (@qv _ 4 _ _ (by rfl')) (@qv _ 9 _ _ (by rfl')) (@qv _ 10 _ _ (by rfl')) ⟨rfl,rfl,rfl,rfl⟩) zC (by rfl)) (by rfl)) (by decide) (by decide) (by rfl) (by rfl)) (by rfl)))))))) (by intro _;rfl))) (by intro _;rfl))) (@zJ _ _ _ (@zV _ _ _ _ (@zT _ _ _ _ _ (@zA _ _ _ _ _ (@qv _ 4 _ _ (by rfl')) (@zA _ _ _ _ _ (@qv _ 5 _ _ (by rfl')) zC (by rfl)) (by rfl)))))))),?_⟩;refine λo ho=>⟨by show 0<=sizeLine;decide,λl hl=>?_⟩;have s1:=zB ho (DN P w o []);have s2:=zB (show L2.upd H o (DN P w o []) l=none from hl) (.lst []);have u2:=s1.trans s2
 have ol:o≠l:=λz=>by
  have a9:L2.upd H o (DN P w o []) l=none:=hl;rw[<- z,zD]at a9;cases a9
 have b9:H l=none:=by
  have a9:L2.upd H o (DN P w o []) l=none:=hl
  rwa [zG ol.symm]at a9
 have b1:dl≠o:=zF D ho;have b5:dl≠l:=zF D b9;have c4:L2.upd (L2.upd H o (DN P w o [])) l (.lst []) o=some (DN P w o []):=by rw[zG ol];exact zD
 have c5:L2.upd (L2.upd H o (DN P w o [])) l (.lst []) l=some (.lst []):=zD;refine⟨_,rfl,dl,xs,rfl,u2 _ _ D,λob=>?_⟩
 let C:Nat->LAcc:=λi=>(level.take i).foldl (goS step seen moves) ⟨[],[]⟩
 have ll:xs.length=level.length:=lvl.len;refine my (P:=P) (w:=w) (d:=dl) (o:=ob) (xs:=xs) (λi σ Y=>(∃ v6 v7 v8 v9 v10,σ=[some (.ref dl),some (.ref ds),some (.ref mv),some (.ref f),some (.ref o),some (.ref l),v6,v7,v8,v9,v10])/\But dl H Y/\Y dl=some (.frz ob (DN P w dl xs))/\∃ zs fs,Y o=some (DN P w o zs)/\LvE Y zs (C i).on/\Y l=some (.lst (fs.map V.ref))/\RowsAt Y fs (C i).fl/\AccOk n (i*moves.length) (C i)) ?_ (λi σ Y _ q=>q.2.2.1) ?_ ?_
 ·refine⟨⟨_,_,_,_,_,rfl⟩,λb u e ne=>?_,zD,[],[],?_,LvE.nil,?_,.nil,⟨λp hp=>(nomatch hp),λr hr=>(nomatch hr),by show 0+0<=_;simp_all⟩⟩
  ·rw[zG ne];exact u2 b u e
  ·rw[zG b1.symm];exact c4
  ·rw[zG b5.symm];exact c5
 ·rintro i p σ Y T hp hT ⟨⟨v6,v7,v8,v9,v10,rfl⟩,bt,ba,zs,fs,bo,a7,bB,rws,cx⟩
  have il:i<level.length:=by rw[<- ll];exact(Jc.mp hp).1
  obtain⟨r,c,ep,kb,ec,hc⟩:=(lvl.tups (xk bt D)).at_ hp;have pin:(p.1,r)∈level:=JQ ep;obtain⟨cH,rl⟩:=c0 _ pin;rw[ec];have sT:=zB hT (.tup [.ref p.2.1,.ref c]);refine⟨T,_,rfl,SqT.of zD,rfl,_,_,rfl,_,_,rfl,rfl,?_⟩;have W2:=W.keep (xk bt D) (kL bt D);refine⟨_,rfl,mv,rfl,⟨_,(W2.mv.tups (Tups.of sT)).sq⟩,?_⟩
  have cP:C (i+1)=goS step seen moves (C i) (p.1,r):=by
   show List.foldl _ _ (level.take (i+1))=_;rw[<- Yq il,W5,show level[i]=(p.1,r) from (Jc.mp ep).2];rfl
  generalize hA:C i=a0 at *
  let B:Nat->LAcc:=λj=>(moves.take j).foldl (go1 step seen p.1 r) a0
  have fin:B moves.length=C (i+1):=by rw[cP];show List.foldl _ _ (moves.take moves.length)=_;rw[YN];rfl
  have ml:(moves.map λm=>V.int (m:Nat)).length=moves.length:=Jg _;refine uc (K:=K) (a:=mv) (xs:=moves.map λm=>V.int (m:Nat)) (λj σ H3=>(∃ v8 v9 v10,σ=[some (.ref dl),some (.ref ds),some (.ref mv),some (.ref f),some (.ref o),some (.ref l),some (.ref p.2.1),some (.ref c),v8,v9,v10])/\But dl H H3/\H3 dl=some (.frz ob (DN P w dl xs))/\∃ zs fs,H3 o=some (DN P w o zs)/\LvE H3 zs (B j).on/\H3 l=some (.lst (fs.map V.ref))/\RowsAt H3 fs (B j).fl/\AccOk n (i*moves.length+j) (B j)) ?_ (λj σ H3 _ q=>(W.mv.tups (xk q.2.1 D)).sq) ?_ ?_
  ·exact⟨⟨_,_,_,rfl⟩,bt.trans (But.of sT),sT _ _ ba,zs,fs,sT _ _ bo,a7.keep sT,sT _ _ bB,rws.tups (Tups.of sT),cx⟩
  ·rintro j x σ H3 hx ⟨⟨v8,v9,v10,rfl⟩,ab,a5,N,X,aT,Z,a4,U,I⟩
   rw[Y6]at hx;obtain⟨m,em,rfl⟩:=Y9.mp hx;have jl:j<moves.length:=(Jc.mp em).1;have mm:m∈moves:=JQ em
   have a6:B (j+1)=go1 step seen p.1 r (B j) m:=by
    show List.foldl _ _ (moves.take (j+1))=_;rw[<- Yq jl,W5,show moves[j]=m from (Jc.mp em).2];rfl
   have R:=I.go (step:=step) (seen:=seen) (s:=p.1) (k:=m) rl;rw[<- a6]at R;have t3:=xk ab D;have W3:=W.keep t3 (kL ab D);obtain⟨pm,cc,ct,oc,fz,tk,c3,_⟩:=W3.la.ex;have c1:=lvl.tups t3;obtain⟨S,c',ck,c2,cn,cf⟩:=c1.at_ hp;have er:S=r:=by rw[ep]at ck;cases ck;rfl
   have c6:c'=c:=by rw[ec]at cn;cases cn;rfl
   subst er c6;have tS:=t3.trans (uf W3.la.fz)
   have c7:(B j).on.length+(B j).fl.length<=10000000:=by
    have:=I.few;have:(i+1)*moves.length<=level.length*moves.length:=Nat.mul_le_mul_right _ il;rw[Nat.add_mul,Nat.one_mul]at this;lia
   refine⟨f,rfl,⟨_,_,_,_,c3⟩,_,rfl,_,rfl,cl,vals,W3.fr,W3.la,W.ld _ _ _ m _ tS cH mm (c2.tups (uf W3.la.fz)) (λH4 s4 e4 low=>?_) λH4 b4 t s4 e4 k4 low=>?_⟩
   ·-- elsewhere
    have J:=ss s4;generalize back cl H3 H4=H5 at J ⊢;have O:=ab.trans (But.of (l:=dl) J);have bl:=bc.tups (xk O D);have bS:H5 ds=some (DN P w ds ys):=O _ _ cb cv.symm;have b0:=J _ _ cf;have e1:B (j+1)=⟨(B j).on,(B j).fl++[zj S m]⟩:=by rw[a6];unfold go1;rw[e4]
    refine⟨_,rfl,_,rfl,ds,ys,rfl,⟨.inl bS,bl.ks⟩,.inr ⟨rfl,false,rfl,yg ?_⟩⟩;refine⟨_,rfl,_,rfl,c',S,m,1,rfl,b0,by rw[rl];exact W.lt m mm,by rw[rl];exact W.n1,λq H6 M h6=>?_⟩;have bu:=M _ _ (J _ _ a4);refine⟨_,rfl,rfl,true,JW V.bl (JD rfl),xC ?_⟩;refine⟨_,rfl,.inl ⟨rfl,_,SqL.of bu⟩,_,rfl,l,_,_,rfl,rfl,bu,?_,?_⟩
    ·rw[Jg,Ya U,JG];lia
    have lq:∀ {b:Addr}{u:HO},H6 b=some u->b≠l->L2.upd H6 l (.lst (X.map V.ref++[.ref q])) b=some u:=λe ne=>by rw[zG ne];exact e
    have tq:Tups H6 (L2.upd H6 l (.lst (X.map V.ref++[.ref q]))):=λb xs e=>lq e (yQ e bu (λz=>by cases z));have b6:=O.trans (But.of (l:=dl) M);refine⟨⟨_,_,_,rfl⟩,λb u e ne=>lq (b6 b u e ne) (zF e b9),lq (M _ _ (J _ _ a5)) b5,N,X++[q],lq (M _ _ (J _ _ aT)) ol,?_,?_,?_,R⟩
    ·rw[e1];exact((Z.keep J).keep M).tups tq
    ·rw[Y2];exact zD
    ·rw[e1];exact ZT ((U.tups (Tups.of J)).tups ((Tups.of M).trans tq)) (tq _ _ h6)
   ·have J:=ss s4
    have k5:=k4.tups (jD (H:=H3) low);generalize back cl H3 H4=H5 at J k5 ⊢;have O:=ab.trans (But.of (l:=dl) J);have bl:=bc.tups (xk O D);have bS:H5 ds=some (DN P w ds ys):=O _ _ cb cv.symm;have b0:=J _ _ cf;refine⟨_,rfl,_,rfl,ds,ys,rfl,⟨.inl bS,bl.ks⟩,.inl ⟨b4,t,rfl,k5,_,rfl,?_⟩⟩;rw[rN bc.pr t];by_cases sn:(zX seen t).isSome=true
    ·have e1:B (j+1)=B j:=by rw[a6];unfold go1;rw[e4];exact Jf sn
     rw[sn];refine xC ?_;rw[e1];rw[e1]at R;exact⟨⟨_,_,_,rfl⟩,O,J _ _ a5,N,X,J _ _ aT,Z.keep J,J _ _ a4,U.tups (Tups.of J),R⟩
    ·have e1:B (j+1)=⟨xZ (B j).on t (yd (zj S m) ((zX (B j).on t).getD (zj S m))),(B j).fl⟩:=by rw[a6];unfold go1;rw[e4];exact Jd sn
     rw[show (zX seen t).isSome=false by simpa using sn];refine yg ?_;refine⟨_,rfl,_,rfl,c',S,m,1,rfl,b0,by rw[rl];exact W.lt m mm,by rw[rl];exact W.n1,λq H6 M h6=>?_⟩;have a8:=M _ _ (J _ _ aT);have ao:=(Z.keep J).keep M;have k6:=k5.tups (Tups.of M);have b6:=O.trans (But.of (l:=dl) M);refine⟨_,rfl,rfl,false,JW V.bl (Jt (λz=>by cases z)),yg ?_⟩;refine⟨_,rfl,_,rfl,o,rfl,⟨_,.inl a8⟩,_,rfl,_,rfl,b4,N,t,rfl,⟨.inl a8,ao.ks⟩,k6,?_⟩
     have le:∃ g s,(yn N t).getD (.ref q)=.ref g/\(zX (B j).on t).getD (zj S m)=s/\H6 g=some (.tup (s.map V.int))/\s.length=n:=by
      rcases qb ao.pr t with ⟨a1,a2⟩|⟨g,s,a1,a2,a3⟩
      ·exact⟨q,zj S m,by rw[a1];rfl,by rw[a2];rfl,h6,by rw[xV];exact rl⟩
      ·exact⟨g,s,by rw[a1];rfl,by rw[a2];rfl,a3,I.on _ (yh a2)⟩
     obtain⟨g,sr,g1,g2,g3,g4⟩:=le;rw[g1];rw[g2]at e1;have b8:(zj S m).length=n:=by rw[xV];exact rl
     have g6:H6 q=some (.tup ((zj S m).map V.int)):=h6
     let rowOf:V->List Int:=λv=>if v=.ref q then zj S m else sr
     have rq:rowOf (.ref q)=zj S m:=Jf rfl
     have rg:H6 g=some (.tup ((rowOf (.ref g)).map V.int))/\(rowOf (.ref g)).length=n/\rowOf (.ref g)=sr:=by
      by_cases z:g=q
      ·subst z
       have es:sr=zj S m:=by
        have:=g6.symm.trans g3;injection this with this;injection this with this;exact(oh this).symm
       rw[rq];exact⟨g6,b8,es.symm⟩
      ·rw[show rowOf (.ref g)=sr from Jd (λy=>z (by cases y;rfl))];exact⟨g3,g4,rfl⟩
     refine⟨_,_,1,λu v=>cmpR (rowOf u) (rowOf v),rfl,by decide,?_,?_⟩
     ·have two:∀ u∈[V.ref q,V.ref g],∃ a,u=.ref a/\H6 a=some (.tup ((rowOf u).map V.int))/\(rowOf u).length=n:=λu hu=>by
       rcases Js.mp hu with rfl|hu
       ·exact⟨q,rfl,by rw[rq];exact g6,by rw[rq];exact b8⟩
       ·rw[Ja.mp hu];exact⟨g,rfl,rg.1,rg.2.1⟩
      intro u hu v hv;obtain⟨a,rfl,a2,a3⟩:=two u hu;obtain⟨b,rfl,b2,b3⟩:=two v hv;exact qZ a2 b2 (by rw[a3,b3])
     have pk:∃ h,xI (λu v=>cmpR (rowOf u) (rowOf v)) (.ref q) (.ref g)=.ref h/\H6 h=some (.tup ((yd (zj S m) sr).map V.int)):=by
      unfold xI yd;have ee:cmpR (rowOf (.ref g)) (rowOf (.ref q))=cmpR sr (zj S m):=by rw[rq,rg.2.2]
      by_cases z:cmpR sr (zj S m)=.lt
      ·rw[Jf (ee.trans z),Jf z];exact⟨g,rfl,g3⟩
      ·rw[Jd (λy=>z (ee.symm.trans y)),Jd z];exact⟨q,rfl,g6⟩
     obtain⟨h,p1,p2⟩:=pk;rw[p1];refine⟨_,rfl,_,rfl,o,b4,N,t,rfl,rfl,a8,ao.ks,k6,?_,?_⟩
     ·rw[ao.len,JG];lia
     have tq:Tups H6 (L2.upd H6 o (DN P w o (wD N t b4 (.ref h)))):=λb xs e=>by rw[zG (yQ e a8 (λz=>by cases z))];exact e
     refine⟨⟨_,_,_,rfl⟩,λb u e ne=>?_,?_,_,X,zD,?_,?_,?_,R⟩
     ·rw[zG (zF e ho)];exact b6 b u e ne
     ·rw[zG b1];exact M _ _ (J _ _ a5)
     ·rw[e1];exact(ao.put k6 p2).tups tq
     ·rw[zG ol.symm];exact M _ _ (J _ _ a4)
     ·rw[e1];exact(U.tups (Tups.of J)).tups ((Tups.of M).trans tq)
  ·rintro σ H3 ⟨⟨v8,v9,v10,rfl⟩,ab,a5,N,X,aT,Z,a4,U,I⟩
   have b7:B (moves.map λm=>V.int (m:Nat)).length=C (i+1):=by rw[ml];exact fin
   rw[b7]at Z U I;refine⟨⟨_,_,_,_,_,rfl⟩,ab,a5,N,X,aT,Z,a4,U,?_⟩;rw[ml]at I;rw[Nat.add_mul,Nat.one_mul];exact I
 ·rintro σ Y ⟨⟨v6,v7,v8,v9,v10,rfl⟩,bt,ba,zs,fs,bo,a7,bB,rws,cx⟩
  have e:C xs.length=yI step seen moves level:=by show List.foldl _ _ (level.take xs.length)=_;rw[ll,YN];rfl
  rw[e]at a7 rws;refine⟨dl,ob,xs,xs,u2 _ _ D,ba,?_⟩
  have sm:Same H (L2.upd Y dl (DN P w dl xs)):=λb u e=>by
   by_cases z:b=dl
   ·rw[z]at e ⊢;rw[D]at e;rw[<- e];exact zD
   ·rw[zG z];exact bt b u e z
  have tz:Tups Y (L2.upd Y dl (DN P w dl xs)):=λb ys e=>by rw[zG (yQ e ba (λz=>by cases z))];exact e
  refine⟨_,rfl,_,rfl,by show 2<=sizeLine;decide,λq hq=>?_⟩;have M:=zB (show L2.upd Y dl (DN P w dl xs) q=none from hq) (.tup [.ref o,.ref l]);refine k q o l zs fs _ (sm.trans M) ho zD (M _ _ ?_) ((a7.tups tz).keep M) (M _ _ ?_) ((rws.tups tz).tups (Tups.of M))
  ·rw[zG b1.symm];exact bo
  ·rw[zG b5.symm];exact bB
end
end K37
namespace L2
open PySem PySem.Spec PyProof.Rows Own Bn
def rS:V->Int
 | .int i=>i
 | _=>0
def jP (H:Hp):V->List Int
 | .ref a=>match H a with
  | some (.tup xs)=>xs.map rS
  | _=>[]
 | _=>[]
theorem vH {H:Hp}{a:Addr}{r:List Int}(h:H a=some (.tup (r.map V.int))):jP H (.ref a)=r:=by
 show (match H a with
  | some (.tup b)=>b.map rS
  | _=>[])=r
 rw[h];show (r.map V.int).map rS=r;rw[Zb];exact List.map_id r
def vq (H:Hp):V->V->Ordering:=λu v=>cmpR (jP H u) (jP H v)
theorem nV {H:Hp}:∀ {fs:List Addr}{rs:List (List Int)}{a:Addr}{r:List Int},RowsAt H fs rs->H a=some (.tup (r.map V.int))->∃ h,(fs.map V.ref).foldl (xI (vq H)) (.ref a)=.ref h/\H h=some (.tup ((rs.foldl yd r).map V.int)):=by
 intro fs rs a r h
 induction h generalizing a r with
 | nil=>intro c;exact⟨a,rfl,c⟩
 | @cons b q fs rs d _ ih =>
  intro c;show ∃ h,(fs.map V.ref).foldl (xI (vq H)) (xI (vq H) (.ref a) (.ref b))=.ref h/\H h=some (.tup ((rs.foldl yd (yd r q)).map V.int));have e:vq H (.ref b) (.ref a)=cmpR q r:=by unfold vq;rw[vH c,vH d]
  unfold xI yd;by_cases z:cmpR q r=.lt
  ·rw[Jf (e.trans z),Jf z];exact ih d
  ·rw[Jd (λy=>z (e.symm.trans y)),Jd z];exact ih c
theorem nW {H:Hp}{fs:List Addr}{rs:List (List Int)}(h:RowsAt H fs rs)(ne:rs≠[]):∃ g,xY (vq H) (fs.map V.ref)=.ref g/\H g=some (.tup ((jy rs).map V.int)):=by
 cases h with
 | nil=>exact absurd rfl ne
 | cons a t=>exact nV t a
theorem qM {H:Hp}{n:Nat}{fs:List Addr}{rs:List (List Int)}(h:RowsAt H fs rs)(f:∀ r∈rs,r.length=n):∀ x∈fs.map V.ref,∀ y∈fs.map V.ref,Lx H 1 x y (vq H x y):=by
 have at_:∀ {fs:List Addr}{rs:List (List Int)},RowsAt H fs rs->∀ a∈fs,∃ r∈rs,H a=some (.tup (r.map V.int)):=by
  intro fs rs h
  induction h with
  | nil=>intro a c;cases c
  | cons p _ ih =>
   intro a c;rcases Js.mp c with rfl|z
   ·exact⟨_,.head _,p⟩
   ·obtain⟨r,d,e⟩:=ih a z
    exact⟨r,.tail _ d,e⟩
 intro x j y i;obtain⟨a,c,rfl⟩:=Jv.mp j;obtain⟨b,bm,rfl⟩:=Jv.mp i;obtain⟨r,d,g⟩:=at_ h a c;obtain⟨q,k,e2⟩:=at_ h b bm;unfold vq;rw[vH g,vH e2];exact qZ g e2 (by rw[f r d,f q k])
structure NewOk (seen:LvL) (Ok:KN->Prop) (a:LAcc):Prop where
 nd:LvNd a.on
 new:∀ p∈a.on,zX seen p.1=none
 ok:∀ p∈a.on,Ok p.1
section
variable {step:KN->Nat->Option KN}{seen:LvL}{Ok:KN->Prop}{moves:List Nat}
theorem NewOk.go {s:KN}{c:List Int}{a:LAcc}{k:Nat}(h:NewOk seen Ok a)(f:∀ t,step s k=some t->Ok t):NewOk seen Ok (go1 step seen s c a k):=by
 unfold go1;split
 ·exact⟨h.nd,h.new,h.ok⟩
 ·rename_i t d
  split
  ·exact h
  ·rename_i z
   refine⟨h.nd.put _ _,λp b=>?_,λp b=>?_⟩
   ·rcases vJ b with y|y
    ·exact h.new p y
    ·rw[y]
     cases e:zX seen t with
     | none=>rfl
     | some r=>rw[e]at z;exact absurd rfl z
   ·rcases vJ b with y|y
    ·exact h.ok p y
    ·rw[y];exact f t d
theorem NewOk.row {s:KN}{c:List Int}:∀ (ms:List Nat) {a:LAcc},NewOk seen Ok a->(∀ m∈ms,∀ t,step s m=some t->Ok t)->NewOk seen Ok (ms.foldl (go1 step seen s c) a)
 | [],a,h,_=>h
 | k::r,a,h,q=>NewOk.row r (h.go (q k (.head _))) λm hm=>q m (.tail _ hm)
theorem NewOk.lev:∀ (level:LvL) {a:LAcc},NewOk seen Ok a->(∀ p∈level,∀ m∈moves,∀ t,step p.1 m=some t->Ok t)->NewOk seen Ok (level.foldl (goS step seen moves) a)
 | [],a,h,_=>h
 | p::r,a,h,q=>NewOk.lev r (NewOk.row moves h (q p (.head _))) λm hm=>q m (.tail _ hm)
theorem wU (level:LvL)(q:∀ p∈level,∀ m∈moves,∀ t,step p.1 m=some t->Ok t):NewOk seen Ok (yI step seen moves level) :=
 NewOk.lev level ⟨YS,λp a=>(nomatch a),λp a=>(nomatch a)⟩ q
theorem oX {n:Nat}(level:LvL)(h:∀ p∈level,p.2.length=n):AccOk n (level.length*moves.length) (yI step seen moves level):=by
 have:=AccOk.lev (step:=step) (seen:=seen) (moves:=moves) level (a:=⟨[],[]⟩) (m:=0) h ⟨λp b=>(nomatch b),λp b=>(nomatch b),Je _⟩
 rwa [YB]at this
end
section
variable {step:KN->Nat->Option KN}{moves:List Nat}{most m:Nat}{level seen:LvL}{ls:List LvL}
theorem xO:yW step moves most (m+1) [] seen ls=.whl ls:=Jf rfl
theorem xy (ne:level≠[])(h:most<seen.length+level.length):yW step moves most (m+1) level seen ls=.opn:=by
 unfold yW;rw[Jd ne,Jf h]
theorem x6 (ne:level≠[])(h:¬ most<seen.length+level.length)(f:(yI step (seen++level) moves level).fl≠[]):yW step moves most (m+1) level seen ls=.brk (jy (yI step (seen++level) moves level).fl):=by
 unfold yW;rw[Jd ne,Jd h,Jf f]
theorem x5 (ne:level≠[])(h:¬ most<seen.length+level.length)(f:(yI step (seen++level) moves level).fl=[]):yW step moves most (m+1) level seen ls=yW step moves most m (yI step (seen++level) moves level).on (seen++level) (ls++[level]):=by
 rw[yW,Jd ne,Jd h,Jd (not_not_intro f)]
end
theorem cm (step:KN->Nat->Option KN)(seen:LvL)(s:KN)(c:List Int)(a:LAcc)(k:Nat):(go1 step seen s c a k).on.length<=a.on.length+1:=by
 unfold go1;split
 ·exact Nat.le_succ _
 ·split
  ·exact Nat.le_succ _
  ·exact tF _ _ _
theorem lP (step:KN->Nat->Option KN)(seen:LvL)(s:KN)(c:List Int):∀ (ms:List Nat) (a:LAcc),(ms.foldl (go1 step seen s c) a).on.length<=a.on.length+ms.length
 | [],a=>Je _
 | k::r,a=>by
  have d:=lP step seen s c r (go1 step seen s c a k);have b:=cm step seen s c a k;show (r.foldl (go1 step seen s c) (go1 step seen s c a k)).on.length<=a.on.length+(r.length+1);lia
theorem oV (step:KN->Nat->Option KN)(seen:LvL)(moves:List Nat)(level:LvL):(yI step seen moves level).on.length<=level.length*moves.length:=by
 have key:∀ (level:LvL) (a:LAcc),(level.foldl (goS step seen moves) a).on.length<=a.on.length+level.length*moves.length:=by
  intro level
  induction level with
  | nil=>intro a;exact Nat.le_add_right _ _
  | cons p r ih =>
   intro a;have d:=ih (goS step seen moves a p);have b:=lP step seen p.1 p.2 moves a;show (r.foldl (goS step seen moves) (goS step seen moves a p)).on.length<=_;rw[JM,Nat.add_mul,Nat.one_mul];have c:(goS step seen moves a p).on.length<=a.on.length+moves.length:=b;lia
 have:=key level ⟨[],[]⟩;unfold yI;have e:(⟨[],[]⟩:LAcc).on.length=0:=rfl
 simp_all
def LvsAt (P:Program)(w:World)(H:Hp)(as:List Addr)(ls:List LvL):Prop:=Paired (λa lv=>∃ b,H a=some (DN P w a b)/\LvE H b lv) as ls
theorem LvsAt.but {P:Program}{w:World}{H H':Hp}{as:List Addr}{ls:List LvL}(h:LvsAt P w H as ls)(t:Tups H H')(k:∀ a∈as,∀ o,H a=some o->H' a=some o):LvsAt P w H' as ls:=by
 induction h with
 | nil=>exact .nil
 | @cons a lv as ls q _ ih =>
  obtain⟨c,e,le⟩:=q;exact .cons ⟨c,k a (.head _) _ e,le.tups t⟩ (ih λb d=>k b (.tail _ d))
theorem LvsAt.keep {P:Program}{w:World}{H H':Hp}{as:List Addr}{ls:List LvL}(h:LvsAt P w H as ls)(s:Same H H'):LvsAt P w H' as ls:=h.but (Tups.of s) λa _ o e=>s a o e
def TellR (P:Program)(w:World)(H:Hp)(p:Addr):LRes->Prop
 | .opn=>H p=some (.tup [.str "open",.non])
 | .brk c=>∃ b,H p=some (.tup [.str "breaks",.ref b])/\H b=some (.tup (c.map V.int))
 | .whl ls=>∃ l as,H p=some (.tup [.str "whole",.ref l])/\H l=some (.lst (as.map V.ref))/\LvsAt P w H as ls
def qE (P:Program)(w:World)(K:PySem.W.Frag)(L:Lam)(fr:List Str)(lsp:LSpc):Sp:=λg H Q _=>∃ e d mv f a c moves cl vals step Ok n,∃ most:Nat,g=[.ref e,.ref d,.ref mv,.ref f,.int (most:Nat)]/\NKey H a e/\H d=some (.tup (List.map V.int c))/\c.length=n/\Ok a/\Way K H mv f L fr lsp cl vals step Ok moves n/\most<=500000/\moves.length<=16/\0<most /\
 ∀ p b,Same H b->TellR P w b p (yW step moves most (most+1) [(a,c)] [] [])->Q (.ref p) b
end L2
namespace K37
open PySem L2 Own Bn
abbrev aF:Stmt:=top 10
theorem kA {H H':Hp}{x:Addr}(s:Same H H')(h:H' x=none):H x=none:=by
 cases e:H x with
 | none=>rfl
 | some o=>rw[s _ _ e]at h;cases h
theorem av {P:Program}{w:World}{H:Hp}{as:List Addr}{ls:List LvL}{a:Addr}{ys:List V}(h:LvsAt P w H as ls)(e:H a=some (.lst ys)):a∉as:=by
 induction h with
 | nil=>exact Jz
 | cons q _ ih =>
  intro z;rcases Js.mp z with rfl|y
  ·obtain⟨b,e2,_⟩:=q
   rw[e]at e2;cases e2
  ·exact ih y
section
variable {P:Program}{w:World}{K:PySem.W.Frag}{mg:Str->Option Value}{base:Heap}
theorem jO:FnScope ["first","counts","moves","led","most","level","levels","seen","faults"] ["first","counts","moves","led","most"] (zN aF):=by rfl'
theorem mQ {f fN:Addr}{fd dN:FuncData}{L:Lam}{fr:List Str}{lsp:LSpc}(F:Fun K "climbed" "climbed" aF f fd) (G:Mgs mg) (UN:Use P w K mg base "next_level" ["level","seen","moves","led"] 6 (n4 P w K L fr lsp) fN dN):FnOk P w K mg base CX0 7 f fd ["first","counts","moves","led","most"] (qE P w K L fr lsp):=by
 refine F.ok jO (λvs H Q E h=>?_) (λcx A outer s H vs Q E hr h=>?_)
 ·obtain⟨T,S,mv,f,I,c,moves,cl,vals,step,Ok,n,most,rfl,_⟩:=h
  rfl
 obtain⟨T,S,mv,f,I,c,moves,cl,vals,step,Ok,n,most,rfl,bo,cc,cn,b3,W,mb,b4,mp,k⟩:=h;refine⟨_,(@zE _ _ _ _ _ (@zp _ _ 5 _ _ _ _ jO.nd rfl (.inl rfl) (tI hr.u3 (@qv _ 0 _ _ (by rfl')) (@qv _ 1 _ _ (by rfl'))) (by rfl) (by rfl')) (@zE _ _ _ _ _ (@zp _ _ 6 _ _ _ _ jO.nd rfl (.inl rfl) (@yR _ _ _ _ zC) (by rfl) (by rfl')) (@zE _ _ _ _ _ (@zp _ _ 7 _ _ _ _ jO.nd rfl (.inl rfl) uW (by rfl) (by rfl')) (@zE _ _ _ _ _ (@pY _ _ _ _ _ _ Yp (zby (@qv _ 5 _ _ (by rfl')) (λ_=>rfl)) (@zE _ _ _ _ _ (@y4 _ _ _ _ (lY hr.u3 (@qv _ 7 _ _ (by rfl')) (@qv _ 5 _ _ (by rfl')) ⟨rfl,rfl,rfl,rfl⟩) (by rfl)) (@zE _ _ _ _ _ (@yO _ _ _ _ _ _ _ _ (@zY _ _ _ _ _ _ _ _ lZ (@zU _ _ _ _ _ _ _ _ _ vw (by rfl) G.len Yd (@zA _ _ _ _ _ (@qv _ 7 _ _ (by rfl')) zC (by rfl)) (by decide) (by decide) (by rfl) (by rfl)) (@qv _ 4 _ _ (by rfl')) (zw _)) (@zJ _ _ _ (@zV _ _ _ _ (@zT _ _ _ _ _ (@zA _ _ _ _ _ xH (@zA _ _ _ _ _ vd zC (by rfl)) (by rfl))))) zr) (@zE _ _ _ _ _ (@y4 _ _ _ _ (@uH _ _ _ _ _ _ _ _ _ _ _ _ YK ZJ ZK yx (@qv _ 6 _ _ (by rfl')) (@zA _ _ _ _ _ (@qv _ 5 _ _ (by rfl')) zC (by rfl)) (by rfl) (by rfl) (by rfl) (by rfl) (by rfl)) (by rfl)) (@zE _ _ _ _ _ (@yP _ _ _ _ _ _ (@zR _ _ _ _ _ _ _ _ _ _ _ _ _ _ _ _ UN.ok hr (by rfl) UN.m UN.kp UN.b .nil zu (@zA _ _ _ _ _ (@qv _ 5 _ _ (by rfl')) (@zA _ _ _ _ _ (@qv _ 7 _ _ (by rfl')) (@zA _ _ _ _ _ (@qv _ 2 _ _ (by rfl')) (@zA _ _ _ _ _ (@qv _ 3 _ _ (by rfl')) zC (by rfl)) (by rfl)) (by rfl)) (by rfl)) (by decide) (by rfl) (by rfl)) (@yJ _ _ _ _ _ _ rfl (@zK _ _ _ _ _ (@zM _ _ 5 _ jO.nd rfl (.inl rfl) (by rfl')) (@zK _ _ _ _ _ (@zM _ _ 8 _ jO.nd rfl (.inl rfl) (by rfl')) yC (by rfl)) (by rfl)) (by rfl) (by rfl)) (by rfl) (by rfl) (by rfl)) (@zJ _ _ _ (@yO _ _ _ _ _ _ _ _ (@pX _ _ _ (@qv _ 8 _ _ (by rfl')) (λ_=>rfl)) (@zJ _ _ _ (@zV _ _ _ _ (@zT _ _ _ _ _ (@zA _ _ _ _ _ xH (@zA _ _ _ _ _ (@zU _ _ _ _ _ _ _ _ _ (re rfl true hr.units) (by rfl) G.min (by rfl) (@zA _ _ _ _ _ (@qv _ 8 _ _ (by rfl')) zC (by rfl)) (by decide) (by decide) (by rfl) (by rfl)) zC (by rfl)) (by rfl))))) zr))))))) (@zJ _ _ _ (@zV _ _ _ _ (@zT _ _ _ _ _ (@zA _ _ _ _ _ xH (@zA _ _ _ _ _ (@qv _ 6 _ _ (by rfl')) zC (by rfl)) (by rfl))))))))),?_⟩;refine λdl a6=>⟨_,rfl,_,rfl,T,I,rfl,zD,bo.tups (Tups.of (zB a6 _)),?_⟩;refine⟨by show 0<=sizeLine;decide,λd N=>λds B=>?_⟩
 have sA:Same H (L2.upd (L2.upd H dl (DN P w dl [])) dl (DN P w dl [(I,T,.ref S)])):=λb u e=>by
  rw[zG (zF e a6),zG (zF e a6)];exact e
 have a7:L2.upd (L2.upd H dl (DN P w dl [])) dl (DN P w dl [(I,T,.ref S)]) dl=some (DN P w dl [(I,T,.ref S)]):=zD;replace N:L2.upd (L2.upd H dl (DN P w dl [])) dl (DN P w dl [(I,T,.ref S)]) d=none:=N;replace B:L2.upd (L2.upd (L2.upd H dl (DN P w dl [])) dl (DN P w dl [(I,T,.ref S)])) d (.lst []) ds=none:=B;show wa _ _ _ _ (L2.upd (L2.upd (L2.upd (L2.upd H dl (DN P w dl [])) dl (DN P w dl [(I,T,.ref S)])) d (.lst [])) ds (DN P w ds []));generalize L2.upd (L2.upd H dl (DN P w dl [])) dl (DN P w dl [(I,T,.ref S)])=HA at *;have sB:=zB N (.lst []);have sC:=zB B (DN P w ds []);have a4:L2.upd HA d (.lst []) d=some (.lst []):=zD;have bu:=sC _ _ a4;have bB:=sC _ _ (sB _ _ a7);have bt:L2.upd (L2.upd HA d (.lst [])) ds (DN P w ds []) ds=some (DN P w ds []):=zD;have b8:d≠ds:=zF a4 B;have b1:dl≠ds:=zF (sB _ _ a7) B;have b7:H d=none:=kA sA N;have cf:H ds=none:=kA (sA.trans sB) B;have sX:Same H (L2.upd (L2.upd HA d (.lst [])) ds (DN P w ds [])):=(sA.trans sB).trans sC;generalize L2.upd (L2.upd HA d (.lst [])) ds (DN P w ds [])=HX at *;clear sA sB sC a4 N B a7
 refine⟨λm σ j=>∃ dl i r level seen as ls v8,σ=[some (.ref T),some (.ref S),some (.ref mv),some (.ref f),some (.int (most:Nat)),some (.ref dl),some (.ref d),some (.ref ds),v8]/\Same H j/\j dl=some (DN P w dl i)/\LvE j i level/\j ds=some (DN P w ds r)/\LvE j r seen/\dl≠ds/\j d=some (.lst (as.map V.ref))/\LvsAt P w j as ls/\ds∉as /\
  as.length<=seen.length/\LvNd level/\(∀ p∈level,zX seen p.1=none)/\(∀ p∈level,Ok p.1/\p.2.length=n)/\seen.length<=most/\(seen≠[]\/level.length=1)/\level.length<=16*most+1/\most+1<=m+seen.length/\yW step moves most (most+1) [(I,c)] [] []=yW step moves most m level seen ls,⟨most+1,?_⟩,?_⟩
 ·exact⟨dl,_,[],[(I,c)],[],[],[],_,rfl,sX,bB,⟨λx hx=>by rw[Ja.mp hx];exact bo.tups (Tups.of sX),.cons ⟨rfl,S,rfl,sX _ _ cc⟩ .nil⟩,bt,LvE.nil,b1,bu,.nil,Jz,Je _,JP.mpr ⟨Jz,YS⟩,λp v=>rfl,λp v=>by rw[Ja.mp v];exact⟨b3,cn⟩,JJ _,.inr rfl,by show 1<=_;lia,Je _,rfl⟩
 clear bu bB bt sX b8 b1;rintro m σ j ⟨dl,i,r,level,seen,as,ls,v8,rfl,s2,Z,C,M,J,ab,Y,R,b2,cH,nd,new,aT,sm,one,ct,em,ec⟩
 have e0:(!i.isEmpty) = !level.isEmpty:=by
  have:=C.len;cases i<;>cases level<;>first|rfl|cases this
 refine⟨_,rfl,dl,i,rfl,.inl Z,?_⟩;rw[e0];obtain⟨m,rfl⟩:∃ m',m=m'+1:=⟨m-1,by lia⟩;by_cases le:level=[]
 ·rw[le]
  refine yg ?_;refine⟨_,rfl,by show 2<=sizeLine;decide,λp v=>?_⟩;have s3:=zB v (.tup [.str "whole",.ref d]);refine k p _ (s2.trans s3) ?_;rw[ec,le,xO];exact⟨d,as,zD,s3 _ _ Y,R.keep s3⟩
 rw[show (!level.isEmpty)=true by cases level;exact absurd rfl le;rfl];refine xC ⟨_,λck H' hN=>⟨m,Nat.lt_succ_self _,hN⟩,?_⟩;have l2:=C.len;have l3:=J.len;refine⟨_,rfl,ds,rfl,⟨_,.inl M⟩,_,rfl,dl,r,i,rfl,ab.symm,M,J.ks,⟨.inl Z,C.ks⟩,by rw[JG];lia,?_,?_⟩
 ·rcases one with z|z
  ·exact .inl λy=>z (by rw[y]at l3;exact YV.mp l3.symm)
  ·exact .inr (by rw[l2];exact z)
 rw[J.merge C nd new];have bl:d≠ds:=yQ Y M λz=>by cases z
 have a3:L2.upd j ds (DN P w ds (r++i)) ds=some (DN P w ds (r++i)):=zD;have t3:Tups j (L2.upd j ds (DN P w ds (r++i))):=λb zs e=>by rw[zG (yQ e M λz=>by cases z)];exact e
 have a8:L2.upd j ds (DN P w ds (r++i)) dl=some (DN P w dl i):=by rw[zG ab];exact Z
 have D:L2.upd j ds (DN P w ds (r++i)) d=some (.lst (as.map V.ref)):=by rw[zG bl];exact Y
 have s3:Same H (L2.upd j ds (DN P w ds (r++i))):=λb u e=>by rw[zG (zF e cf)];exact s2 b u e
 have O:LvsAt P w (L2.upd j ds (DN P w ds (r++i))) as ls:=R.but t3 λa ha o e=>by rw[zG (λ(z:a=ds)=>b2 (z ▸ ha))];exact e
 have X:=C.tups t3;have bc:=(J.tups t3).app X;show wa _ _ _ _ (L2.upd j ds (DN P w ds (r++i)));generalize L2.upd j ds (DN P w ds (r++i))=U at *;clear M Y Z R C J t3 s2;have yl:(r++i).length=seen.length+level.length:=by rw[Jb];simp_all
 refine⟨_,rfl,ds,_,rfl,.inl a3,_,rfl,_,_,rfl,rfl,_,rfl,sQ (λz=>?_) (λz=>?_)⟩
 ·have z1:most<seen.length+level.length:=by
   have:=Ze z;rw[yl]at this;lia
  refine⟨by show 2<=sizeLine;decide,λp v=>?_⟩;have s4:=zB v (.tup [.str "open",.non]);refine k p _ (s3.trans s4) ?_;rw[ec,xy le z1];exact zD
 have z1:¬ most<seen.length+level.length:=λy=>z (JD (by rw[yl];lia));have lp:0<level.length:=YY.mpr le;refine⟨_,rfl,.inl ⟨rfl,_,SqL.of D⟩,_,rfl,d,_,_,rfl,rfl,D,by rw[Jg,JG];lia,?_⟩;have cb:L2.upd U d (.lst (as.map V.ref++[.ref dl])) d=some (.lst ((as++[dl]).map V.ref)):=by rw[Y2];exact zD
 have q4:∀ {b:Addr}{u:HO},U b=some u->b≠d->L2.upd U d (.lst (as.map V.ref++[.ref dl])) b=some u:=λe ne=>by rw[zG ne];exact e
 have t4:Tups U (L2.upd U d (.lst (as.map V.ref++[.ref dl]))):=λb zs e=>q4 e (yQ e D λz=>by cases z);have bS:=q4 a8 (yQ a8 D λz=>by cases z);have a0:=q4 a3 bl.symm;have s4:Same H (L2.upd U d (.lst (as.map V.ref++[.ref dl]))):=λb u e=>q4 (s3 b u e) (zF e b7)
 have a9:LvsAt P w (L2.upd U d (.lst (as.map V.ref++[.ref dl]))) (as++[dl]) (ls++[level]):=ZT (O.but t4 λa ha o e=>by
  by_cases y:a=d
  ·exact absurd (y ▸ ha) (av O D)
  ·exact q4 e y) ⟨i,bS,X.tups t4⟩
 have b5:=X.tups t4;have ba:=bc.tups t4;show wa _ _ _ _ (L2.upd U d (.lst (as.map V.ref++[.ref dl])));generalize L2.upd U d (.lst (as.map V.ref++[.ref dl]))=H4 at *;clear a3 D a8 O X bc t4 s3 q4;have W4:=W.keep (Tups.of s4) λb o u e=>s4 b _ e;have nw:=wU (step:=step) (seen:=seen++level) (moves:=moves) (Ok:=Ok) level λp v m hm t e=>W.ok _ _ _ (aT p v).1 hm e;have na:=oX (step:=step) (seen:=seen++level) (moves:=moves) (n:=n) level λp v=>(aT p v).2;have cv:level.length*moves.length<=level.length*16:=Nat.mul_le_mul_left _ b4;refine⟨_,rfl,_,rfl,_,rfl,_,rfl,dl,ds,mv,f,i,r++i,level,seen++level,moves,cl,vals,step,Ok,n,rfl,bS,b5,a0,ba,ab,W4,aT,by lia,λp o l zs fs H5 s5 ho v b9 b6 a5 ao=>?_⟩;refine⟨p,_,rfl,SqT.of v,rfl,_,_,rfl,_,_,rfl,rfl,?_⟩;have fl:=Ya ao;by_cases fe:(yI step (seen++level) moves level).fl=[]
 ·have f0:fs=[]:=by rw[fe]at fl;exact YV.mp fl
  refine⟨_,rfl,false,.inl ⟨_,SqL.of a5,by rw[f0];rfl⟩,yg ?_⟩;refine⟨o,zs,r++i,_,seen++level,as++[dl],ls++[level],_,rfl,s4.trans s5,b9,b6,s5 _ _ a0,ba.keep s5,λz=>?_,s5 _ _ cb,a9.keep s5,?_,?_,nw.nd,nw.new,λp v=>⟨nw.ok p v,na.on p v⟩,by rw[Jb];simp_all,.inl ?_,?_,by rw[Jb];lia,?_⟩
  ·rw[z,a0]at ho;cases ho
  ·intro z
   rcases Jy.mp z with y|y
   ·exact b2 y
   ·exact ab (Ja.mp y).symm
  ·rw[Jb,Jb];show as.length+1<=_;lia
  ·intro y
   have:=JW List.length y;rw[Jb,Z6]at this
   simp_all
  ·have:=na.few;lia
  ·rw[ec,x5 le z1 fe]
 ·have fp:0<(fs.map V.ref).length:=by
   rw[Jg,fl];exact YY.mpr fe
  refine⟨_,rfl,true,.inl ⟨_,SqL.of a5,?_⟩,xC ?_⟩
  ·cases fs with
   | nil=>exact absurd fp (by simp)
   | cons a b=>rfl
  obtain⟨g,g1,g2⟩:=nW ao fe;refine⟨_,rfl,l,_,1,vq H5,rfl,SqL.of a5,fp,by decide,qM ao na.fl,?_⟩;rw[g1];refine⟨by show 2<=sizeLine;decide,λq hq=>?_⟩;have s6:=zB hq (.tup [.str "breaks",.ref g]);refine k q _ ((s4.trans s5).trans s6) ?_;rw[ec,x6 le z1 fe];exact⟨g,zD,s6 _ _ g2⟩
end
end K37
namespace L2
open PySem PySem.Spec PyProof.Rows
abbrev e2 (elt tg iter b a:Expr)(ifs:List Expr)(scope:Scope)(pos:Pos):Expr:=.ListComp elt [⟨tg,iter,[],0⟩,⟨b,a,ifs,0⟩] scope pos
theorem jA (elt tg iter b a:Expr)(ifs:List Expr)(scope:Scope)(pos:Pos)(it acc:Value)(env:Env) :
  compTurn (e2 elt tg iter b a ifs scope pos) 0 it acc env=(standAt iter.pos >>= λ_=>pyNext it >>= λr=>match r with
   | none=>pure (.done .next)
   | some v=>letOwnedTupleGo tg it v >>= λ_=>assign tg env v >>= λ_ =>
    (eval a env >>= λx=>standAt a.pos >>= λ_=>foldedSetIterable a env x >>= λx=>holding [x] (pyIter x) >>= λi1=>runOwn (.compStart (e2 elt tg iter b a ifs scope pos) 1 i1 acc env) env >>= λ_ =>
     again (.compLoop (e2 elt tg iter b a ifs scope pos) 0 it acc env))):=by rfl
theorem ky (elt tg iter b a:Expr)(scope:Scope)(pos:Pos)(it acc:Value)(env:Env) :
  compTurn (e2 elt tg iter b a [] scope pos) 1 it acc env=(standAt a.pos >>= λ_=>pyNext it >>= λr=>match r with
   | none=>pure (.done .next)
   | some v=>letOwnedTupleGo b it v >>= λ_=>assign b env v >>= λ_ =>
    ((eval elt env >>= λx=>call (.builtin "list.append") [acc,x] >>= λ_=>pure ()) >>= λ_ =>
     again (.compLoop (e2 elt tg iter b a [] scope pos) 1 it acc env))):=by rfl
theorem nZ (elt tg iter b a c:Expr)(scope:Scope)(pos:Pos)(it acc:Value)(env:Env) :
  compTurn (e2 elt tg iter b a [c] scope pos) 1 it acc env=(standAt a.pos >>= λ_=>pyNext it >>= λr=>match r with
   | none=>pure (.done .next)
   | some v=>letOwnedTupleGo b it v >>= λ_=>assign b env v >>= λ_=>(forIn [c] true λc r=>if r=true then (isTrue c env (eval c env) >>= λok=>pure (ForInStep.yield ok)) else pure (ForInStep.yield r)) >>= λok =>
    if ok=true then
    ((eval elt env >>= λx=>call (.builtin "list.append") [acc,x] >>= λ_=>pure ()) >>= λ_ =>
     again (.compLoop (e2 elt tg iter b a [c] scope pos) 1 it acc env)) else again (.compLoop (e2 elt tg iter b a [c] scope pos) 1 it acc env)):=by rfl
section
variable {prog:Program}{w:World}{A:Around}{R:Result->Shared->Prop}{s:Shared}{elt tg iter tg1 iter1:Expr}{scope:Scope}{pos:Pos}{it acc:Value}{env:Env}
theorem nL {ifs:List Expr}(c:codeAny (model prog w) A (.compLoop (e2 elt tg iter tg1 iter1 ifs scope pos) 1 it acc env) R s)(h:wpAny (model prog w) A (pyIter it) (λi2 z=>codeAny (model prog w) A (.compLoop (e2 elt tg iter tg1 iter1 ifs scope pos) 1 i2 acc env) R z) NoX s) :
  codeAny (model prog w) A (.compStart (e2 elt tg iter tg1 iter1 ifs scope pos) 1 it acc env) R s:=by
 refine codeAny_of_tree ?_;show wpAny _ A ((compStart (e2 elt tg iter tg1 iter1 ifs scope pos) 1 it acc env).onRaise (λx=>do noteFrame x env;standAt theWindowsPlace)) _ _ s;refine wpAny_notedAt ?_;unfold compStart;refine(show wpAny _ _ (ask >>= _) _ _ s from J0 (Wc (wpAny_ite ?_)));split
 ·first
   | exact J0 (J7 (J7 ⟨rfl,c⟩))
   | exact J7 ⟨rfl,c⟩
 ·apply J0;refine YJ ?_
  first
   | exact J0 (Zf (J0 (JN h (λb d a=>J7 ⟨rfl,a⟩) λ_ _ z=>z.elim)))
   | (show wpAny _ _ (standAt iter1.pos >>= _) _ _ s;exact J0 (Zf (J0 (JN h (λb d a=>J7 ⟨rfl,a⟩) λ_ _ z=>z.elim))))
theorem kv {o:Option Expr}(J:Nat->Shared->Prop)(turn:∀ n s,J n s->Go (model prog w) A tg1 elt o it acc env R (λz=>∃ m,m<n/\J m z) s)(n:Nat)(h:J n s) :
  codeAny (model prog w) A (.compLoop (.ListComp elt [⟨tg,iter,[],0⟩,⟨tg1,iter1,o.toList,0⟩] scope pos) 1 it acc env) R s:=by
 cases o with
 | none =>
  refine codeAny_loop rfl J (λn s k=>?_) n h;show wpAny _ A ((compTurn (e2 elt tg iter tg1 iter1 [] scope pos) 1 it acc env).onRaise (λx=>do noteFrame x env;theTreesLotGoes x)) _ _ s;refine wpAny_noted ?_;rw[ky];refine J0 (Zf (J0 (JN (turn n s k) (λr a i=>?_) λ_ _ z=>z.elim)))
  cases r with
  | none=>exact J7 i
  | some v =>
   refine J0 (JN i (λ_ b q=>?_) λ_ _ z=>z.elim);refine J0 (JN q (λ_ c p=>?_) λ_ _ z=>z.elim);have g:wpAny (model prog w) A (eval elt env) (λx e=>wpAny (model prog w) A (call (.builtin "list.append") [acc,x]) (λ_ f=>∃ m,m<n/\J m f) NoX e) NoX c:=p
   exact J0 (J0 (JN g (λx d j=>J0 (JN j (λ_ e l=>J7 (J7 ⟨rfl,l⟩)) λ_ _ z=>z.elim)) λ_ _ z=>z.elim))
 | some t =>
  refine codeAny_loop rfl J (λn s k=>?_) n h;show wpAny _ A ((compTurn (e2 elt tg iter tg1 iter1 [t] scope pos) 1 it acc env).onRaise (λx=>do noteFrame x env;theTreesLotGoes x)) _ _ s;refine wpAny_noted ?_;rw[nZ];refine J0 (Zf (J0 (JN (turn n s k) (λr a i=>?_) λ_ _ z=>z.elim)))
  cases r with
  | none=>exact J7 i
  | some v =>
   refine J0 (JN i (λ_ b q=>?_) λ_ _ z=>z.elim);refine J0 (JN q (λ_ c p=>?_) λ_ _ z=>z.elim);have g:wpAny (model prog w) A (isTrue t env (eval t env)) (λyes d=>if yes=true then wpAny (model prog w) A (eval elt env) (λx e=>wpAny (model prog w) A (call (.builtin "list.append") [acc,x]) (λ_ f=>∃ m,m<n/\J m f) NoX e) NoX d else ∃ m,m<n/\J m d) NoX c:=p;refine J0 (wpAny_tests_one (JN g (λyes d j=>?_) λ_ _ z=>z.elim))
   cases yes with
   | false=>exact J7 ⟨rfl,j⟩
   | true=>exact J0 (J0 (JN j (λx e l=>J0 (JN l (λ_ f u=>J7 (J7 ⟨rfl,u⟩)) λ_ _ z=>z.elim)) λ_ _ z=>z.elim))
theorem kw {ifs:List Expr}(J:Nat->Shared->Prop)(turn:∀ n s,J n s->wpAny (model prog w) A (pyNext it) (λr a=>match r with
   | none=>R (.ok .next) a
   | some v=>wpAny (model prog w) A (letOwnedTupleGo tg it v) (λ_ b=>wpAny (model prog w) A (assign tg env v) (λ_ c=>wpAny (model prog w) A (eval iter1 env) (λx d=>wpAny (model prog w) A (pyIter x) (λi1 e =>
     codeAny (model prog w) A (.compStart (e2 elt tg iter tg1 iter1 ifs scope pos) 1 i1 acc env) (λr f=>match r with|.ok _=>∃ m,m<n/\J m f|.error _=>False) e) NoX d) NoX c) NoX b) NoX a) NoX s)(n:Nat)(h:J n s)(j:∀ x,foldedSetIterable iter1 env x=pure x) :
  codeAny (model prog w) A (.compLoop (e2 elt tg iter tg1 iter1 ifs scope pos) 0 it acc env) R s:=by
 refine codeAny_loop rfl J (λn s k=>?_) n h;show wpAny _ A ((compTurn (e2 elt tg iter tg1 iter1 ifs scope pos) 0 it acc env).onRaise (λx=>do noteFrame x env;theTreesLotGoes x)) _ _ s;refine wpAny_noted ?_;rw[jA];refine J0 (Zf (J0 (JN (turn n s k) (λr a i=>?_) λ_ _ z=>z.elim)))
 cases r with
 | none=>exact J7 i
 | some v =>
  refine J0 (JN i (λ_ b q=>?_) λ_ _ z=>z.elim);refine J0 (JN q (λ_ c p=>?_) λ_ _ z=>z.elim);refine J0 (JN p (λx d o=>?_) λ_ _ z=>z.elim);refine J0 (Zf (J0 (wpAny_of_eq (j x) (J0 (JX (JN o (λi1 e l=>?_) λ_ _ z=>z.elim))))));refine J0 (wpAny_runOwn (ZD l (λr f g=>?_)))
  cases r with
  | ok fl=>exact J7 ⟨rfl,g⟩
  | error x=>exact g.elim
end
def LCW1 (J:It)(g:TG)(tt:TT)(k:TE)(l:Addr)(Q:List V->St->Hp->Prop)(W:Nat->Nat->List V->St->Hp->Prop):Prop :=
 ∀ i m acc c d,W i m acc c d->d l=some (.lst acc) /\
  ((J.stop i d/\Q acc c d)\/(J.go i d/\∀ x j,J.yld i d x j->g x c j λa n=>tt a n λb h =>
   if b=true then k a h λy f=>f l=some (.lst acc)/\acc.length<sizeLine/\∃ e,e<m/\W (i+1) e (acc++[y]) a (upd f l (.lst (acc++[y])))
   else ∃ e,e<m/\W (i+1) e acc a h))
def zaB (cap:List (Option Nat))(n:TI)(g:TG)(d:TI)(q:TG)(tt:TT)(o:TE):TE:=λσ H Q=>n σ H λJ j=>∀ l,j l=none ->
 ∃ W:Nat->Nat->List V->St->Hp->Prop,(∃ m,W 0 m [] (iM cap σ) (upd j l (.lst []))) /\
  ∀ i m acc c a,W i m acc c a->a l=some (.lst acc)/\((J.stop i a/\Q (.ref l) a)\/(J.go i a/\∀ x h,J.yld i a x h->g x c h λb t=>d b t λr s =>
   ∃ f:Nat->Nat->List V->St->Hp->Prop,(∃ p,f 0 p acc b s)/\LCW1 r q tt o l (λac k G=>∃ e,e<m/\W (i+1) e ac k G) f))
theorem fX {X:Cx}{elt tg iter P B:Expr}{o:Option Expr}{scope:Scope}{pos bc:Pos}{wi bu:TI}{g g1:TG}{tt:TT}{te:TE}{N':List Str}{cap:List (Option Nat)}{use:Option (Value->Sem Unit)}{Q0:Value->Shared->Prop}(hc:X.calm=true)(hi:PI X tg iter wi)(ck:CapOk X.N N' X.env.scope scope cap)(hg:∀ C s₀ H₀ fp pins,PG (yS X N' scope C s₀ H₀ fp pins) tg g)(ct:∀ C s₀ H₀ fp pins,PI (yS X N' scope C s₀ H₀ fp pins) P B bu)(cv:∀ C s₀ H₀ fp pins,PG (yS X N' scope C s₀ H₀ fp pins) P g1)(ht:∀ C s₀ H₀ fp pins,PTo (yS X N' scope C s₀ H₀ fp pins) o tt)(he:∀ C s₀ H₀ fp pins,PE (yS X N' scope C s₀ H₀ fp pins) elt te)(hs:∀ x,foldedSetIterable iter X.env x=pure x)(cc:∀ C x,foldedSetIterable B (compEnvC scope (w8 X.env.cells scope.names []) C X.env) x=pure x){pins:List (Addr × Obj)}{s:Shared}{σ:St}{H:Hp}{Q:VK}(I:Inv X pins σ H s)(h:zaB cap wi g bu g1 tt te σ H Q)(fin:∀ (l C:Addr) (H4:Hp) (s5:Shared) (m:Str->Option Value),Inv X pins σ H4 s5->Q (.ref l) H4->s5.heap.Ns C m->FpOk X pins H4 C->compPost (model X.prog X.w) X.A X.xe use Q0 (.ref l) C (.ok .next) s5) :
  wpAny (model X.prog X.w) X.A (comprehension (.ListComp elt [⟨tg,iter,[],0⟩,⟨P,B,o.toList,0⟩] scope pos) scope X.env bc (newList []) false (eval iter X.env) use) Q0 X.xe s:=by
 have N:∀ y∈scope.names,y.2=.free->∃ c,X.env.cells.lookup y.1=some c:=λy hy hf=>I.ok.has y.1 (ck.free y hy hf);refine wpAny_comprehension_free (use:=use) rfl hs (sF N) ck.kind ck.names (thn (hi pins s σ H _ I h) λv s1 h1=>thn h1 λdn F h2=>?_);obtain⟨it,fp,tn,J,H2,e,I2,T,b1,f2,body⟩:=h2;subst e;have bo:H2 F.heap.objs.size=none:=I2.hok.fresh (Je _);obtain⟨W,⟨m0,w0⟩,turn⟩:=body F.heap.objs.size bo;have A:Inv X pins σ (upd H2 F.heap.objs.size (.lst [])) { F with heap:=F.heap.push { cls:=.type "list",data:=.seq ([]:List Value).toArray },toks:=F.toks }:=I2.lnew (its:=[]) (t':=F.toks) .nil (JJ _);refine JK (wpAny_newFunctionEnv ck.nocell (by intro y hy;simp at hy) (λE M L=>?_) ck.kind);dsimp only at M L ⊢;generalize hl:F.heap.objs.size=l at *;generalize hP:F.heap.push { cls:=.type "list",dict:=none,data:=.seq ([]:List Value).toArray }=P2 at *;generalize cX:upd H2 l (.lst [])=H3 at *;have old:∀ b o,P2.get? b=some o->E.get? b=some o:=λb o e=>L.extBut b o (JH (Jr e)) (J8 _ e);have bl:∀ b o,F.heap.get? b=some o->P2.get? b=some o:=λb o e=>hP ▸ J8 _ e
 have b6:∀ b∈fp,b<l:=λb a=>by
  obtain⟨o,e,_⟩:=T.obj _ _ b1 b a;rw[<- hl];exact Jr e
 have c1:∀ b∈fp,H3 b=none:=λb a=>by
  rw[<- cX,zG (JH (b6 b a))];exact(f2 b a).1
 have cP:P2.objs.size=l+1:=by rw[<- hP,Z1,hl]
 have D:∀ x c,(w8 X.env.cells scope.names []).lookup x=some c->X.env.cells.lookup x=some c:=λx c e=>vU _ _ x c N (λ_ _ z=>by simp at z) e;generalize b3:({ F with heap:=P2,toks:=F.toks }:Shared)=s3 at *;have w:s3.heap=P2:=by rw[<- b3]
 let Y:=yS X N' scope P2.objs.size s3 H3 fp pins
 have K:Y.Ok:=by
  refine⟨A.ok.mod,ck.kind,A.ok.glob,A.ok.blt,by show s3.heap.objs.size<=P2.objs.size;rw[w];exact Je _,λx y c e1 e2=>A.ok.inj x y c (D x c e1) (D y c e2),λx hx=>?_,λx c hx=>absurd (show false=true from hx) Jp,A.ok.hd,A.ok.frames,.inl rfl,λb a=>⟨?_,λx c e=>?_⟩,A.bs,
   JR A.ok.bsz A.sz,λb o e a=>?_,λb a hz=>?_,A.stack,A.stkFree⟩
  ·have cb:scope.names.lookup x=some .free:=by
    rcases hx with hx|hx
    ·rcases xJ hx with z|z
     ·exact absurd rfl (ck.nocell _ (wx z))
     ·exact z.2
    ·rcases xJ hx with z|z
     ·exact z
     ·exact z.2
   exact x8 _ _ x cb
  ·exact JH (by show b<P2.objs.size;rw[cP];exact ZW (b6 b a))
  ·exact(f2 b a).2.2.2.2.1 x c (D x c e)
  ·rcases (f2 b a).2.2.2.1 with z|z
   ·exact A.ok.noex b o e z
   ·exact absurd (JL (Jr e) (JR A.ok.bsz z)) (YR _)
  ·rcases Js.mp (A.stkSub b hz) with z|z
   ·exact(f2 b a).2.1 z
   ·exact(f2 b a).2.2.1 z
 have cH:Inv Y [] (iM cap σ) H3 { F with heap:=E,toks:=F.toks }:=by
  refine⟨K,by show F.os=s3.os;rw[<- b3],I2.bare,by show Un _ _ _ _ s3.heap E;rw[w];exact Un.kept old,⟨_,M,λj x v e1 e2 e3=>?_⟩,λx c e=>?_,?_,λx c e=>A.freeC x c (D x c e),λp hp=>?_,λb o e=>?_,?_⟩
  ·have c4:N'[j]?=some x:=e1
   unfold iM at e2;rw[Y6]at e2
   cases ec:cap[j]? with
   | none=>rw[ec]at e2;cases e2
   | some oc =>
    rw[ec]at e2
    cases oc with
    | none=>cases e2
    | some i =>
     have c2:σ[i]?=some (some v):=by
      cases ei:σ[i]? with
      | none=>simp[ei]at e2
      | some v' =>
       simp[ei]at e2;rw[e2]
     have hz:(x,some i)∈N'.zip cap:=by
      refine JQ (i:=j) ?_;rw[WB];exact⟨c4,ec⟩
     obtain⟨hN,hf,hk⟩:=ck.cap _ hz i rfl;obtain⟨m,hn,cf⟩:=A.loc;obtain⟨u,r,lk⟩:=cf i x v hN c2 (by rcases hk with z|z;exact .inr (.inl z);exact .inr (.inr z));refine⟨u,r,.inr ⟨?_,?_⟩⟩
     ·exact vI hf
     ·rcases lk with ⟨z,_⟩|⟨_,c,cx,a0⟩
      ·have z':X.env.scope.names.lookup x=some .local:=z
       rcases hk with q|q
       ·rw[q]at z';cases z'
       ·rw[q]at z';cases z'
      ·obtain⟨c',b4⟩:=x8 (cells:=X.env.cells) scope.names [] x hf
       have:=D x c' b4;rw[cx]at this;cases this;obtain⟨ob,e,d⟩:=a0;rw[w]at e;exact⟨c,b4,ob,old c ob e,d⟩
  ·obtain⟨v,ob,e',d⟩:=A.cell x c (D x c e)
   rw[w]at e';exact⟨v,ob,old c ob e',d⟩
  ·refine A.hok.fresh ?_
   rw[w];exact Je _
  ·have a9:p∈X.pn++pins:=(Jy.mp hp).elim (λz=>z) (λz=>nomatch z)
   obtain⟨e,n,ne,nf,d⟩:=A.pin p a9;rw[w]at e;refine⟨old _ _ e,n,JH (Jr e),λz=>?_,d⟩;rcases Js.mp (A.stkSub _ z) with q|q
   ·exact ne q
   ·exact nf q
  ·have:=A.hok.kept (h':=E) (λb u q=>old b u (by rw[<- w];exact q))
   exact this b o e
  ·show (cap.map _).length=N'.length
   rw[Jg,ck.len]
 have S:∀ {t:Hp},(∀ b∈fp,t b=none)->∀ b∈fp,FpOk Y [] t b:=λ{t} hn b a=>by
  refine⟨hn b a,(K.exf b a).1,K.exfs b a,.inl a,(K.exf b a).2,λp hp=>?_⟩;have a9:p∈X.pn++pins:=(Jy.mp hp).elim (λz=>z) (λz=>nomatch z);exact(f2 b a).2.2.2.2.2 p a9
 have b2:tn 0 E:=T.keep 0 _ _ b1 λb a o e=>old b o (bl b o e)
 have loop:codeAny (model X.prog X.w) X.A (.compLoop (.ListComp elt [⟨tg,iter,[],0⟩,⟨P,B,o.toList,0⟩] scope pos) 0 (.ref it) (.ref l) Y.env) (compPost (model X.prog X.w) X.A X.xe use Q0 (.ref l) P2.objs.size) { F with heap:=E,toks:=F.toks }:=by
  refine kw (λn s'=>∃ i acc f t,Inv Y [] f t s'/\tn i s'.heap/\(∀ b∈fp,t b=none)/\W i n acc f t) ?_ m0 ⟨0,[],_,H3,cH,b2,c1,w0⟩ (cc _);rintro n s4 ⟨i,acc,a6,H4,I4,b0,b5,w4⟩;obtain⟨c9,q4⟩:=turn i n acc a6 H4 w4;rcases q4 with ⟨stop,qn⟩|⟨go,step⟩
  ·refine thn (T.done Y rfl rfl rfl hc i [] s4 a6 H4 Y.xe I4 (S b5) b0 stop) λr s5 ⟨hr,I5⟩=>?_
   subst hr;obtain⟨m,hn,_⟩:=id I5.loc;have un:Un (frs X.stack) fp H3 H4 s3.heap s5.heap:=I5.base;have b7:s3.heap.objs.size<=P2.objs.size:=by rw[w];exact Je _
   have IX:Inv X pins σ H4 s5:=A.call' (ch:=fp) I5.os un I5.hok I5.bare λb a=>⟨(f2 b a).2.2.2.1,(f2 b a).2.1,(f2 b a).2.2.2.2.1,(f2 b a).2.2.2.2.2⟩;exact fin l P2.objs.size H4 s5 m IX qn hn (A.fpOk b7 I5.free)
  ·refine thn (T.item Y rfl rfl rfl hc i [] s4 a6 H4 Y.xe I4 (S b5) b0 go) λr s5 ⟨u,hr,h5⟩=>?_
   subst hr;refine thn h5 λ_ s6 ⟨x,H6,I6,r6,y6,a8,c0⟩=>?_;have c7:=I6.pinned (S c0) (T.obj _ _ a8);refine thn (hg _ _ _ _ _ _ s6 a6 H6 x u _ c7 r6 (step x H6 y6)) λ_ s7 ⟨bt,H7,I7,q7⟩=>?_
   have again:∀ {a5:St}{H9:Hp}{s9:Shared}{U:List V},Inv Y ([]++wJ fp s6.heap) a5 H9 s9->(∃ m',m'<n/\W (i+1) m' U a5 H9)->∃ m,m<n/\∃ i acc f t,Inv Y [] f t s9/\tn i s9.heap/\(∀ b∈fp,t b=none)/\W i m acc f t:=λ{a5 H9 s9 U} I9 ⟨m',hm,w9⟩=>by
    refine⟨m',hm,i+1,U,a5,H9,I9.unpinned,T.keep _ _ _ a8 λb a o e=>(I9.pin (b,o) (JB _ (JB _ (ye a e)))).1,λb a=>?_,w9⟩;obtain⟨o,e,d⟩:=T.obj _ _ a8 b a;exact(I9.pin (b,o) (JB _ (JB _ (ye a e)))).2.1
   generalize ([]++wJ fp s6.heap:List (Addr × Obj))=pz at again I7;refine thn (ct _ _ _ _ _ _ s7 bt H7 _ I7 q7) λv1 s8 h8=>thn h8 λc8 s9 h9=>?_;obtain⟨b8,R,bB,J1,H9,e1,I9,T1,bS,f9,W1,⟨m1,w1⟩,ab⟩:=h9;subst e1;have G:∀ {t:Hp},(∀ b∈R,t b=none)->∀ b∈R,FpOk Y pz t b:=λhn b a=>⟨hn b a,(f9 b a).2⟩
   have Z:codeAny (model X.prog X.w) X.A (.compLoop (.ListComp elt [⟨tg,iter,[],0⟩,⟨P,B,o.toList,0⟩] scope pos) 1 (.ref b8) (.ref l) Y.env) (λr z=>match r with|.ok _=>∃ m,m<n/\∃ i acc f t,Inv Y [] f t z/\tn i z.heap/\(∀ b∈fp,t b=none)/\W i m acc f t|.error _=>False) s9:=by
    refine kv (λn s'=>∃ i acc f t,Inv Y pz f t s'/\bB i s'.heap/\(∀ b∈R,t b=none)/\W1 i n acc f t) ?_ m1 ⟨0,acc,bt,H9,I9,bS,λb a=>(f9 b a).1,w1⟩;rintro k t4 ⟨j,ac,a4,G4,K4,u4,v4,z4⟩;obtain⟨dd,p4⟩:=ab j k ac a4 G4 z4;rcases p4 with ⟨ao,pn⟩|⟨go1,aT⟩
    ·refine thn (T1.done Y rfl rfl rfl hc j pz t4 a4 G4 Y.xe K4 (G v4) u4 ao) λr t5 ⟨hr,K5⟩=>?_
     subst hr;exact again K5 pn
    ·refine thn (T1.item Y rfl rfl rfl hc j pz t4 a4 G4 Y.xe K4 (G v4) u4 go1) λr t5 ⟨u,hr,h5⟩=>?_
     subst hr;refine thn h5 λ_ t6 ⟨y,G6,K6,e6,d6,u6,v6⟩=>?_;have c5:=K6.pinned (G v6) (T1.obj _ _ u6);refine thn (cv _ _ _ _ _ _ t6 a4 G6 y u _ c5 e6 (aT y G6 d6)) λ_ t7 ⟨a7,G7,K7,p7⟩=>?_;refine pG (ht _ _ _ _ _ _ t7 a7 G7 _ K7 p7) λb t8 ⟨G8,K8,p8⟩=>?_
     have O:∀ {a3:St}{G9:Hp}{t9:Shared}{ba:List V},Inv Y (pz++wJ R t6.heap) a3 G9 t9->(∃ m',m'<k/\W1 (j+1) m' ba a3 G9)->∃ m,m<k/\∃ i acc f t,Inv Y pz f t t9/\bB i t9.heap/\(∀ b∈R,t b=none)/\W1 i m acc f t:=λ{a3 G9 t9 ba} K9 ⟨m',hm,z9⟩=>by
      refine⟨m',hm,j+1,ba,a3,G9,K9.unpinned,T1.keep _ _ _ u6 λb a o e=>(K9.pin (b,o) (JB _ (JB _ (ye a e)))).1,λb a=>?_,z9⟩;obtain⟨o,e,d⟩:=T1.obj _ _ u6 b a;exact(K9.pin (b,o) (JB _ (JB _ (ye a e)))).2.1
     cases b with
     | false =>
      rw[Jd Jp]at p8 ⊢
      exact O K8 p8
     | true =>
      rw[Jf rfl]at p8 ⊢;refine thn (he _ _ _ _ _ _ t8 a7 G8 _ K8 p8) λyv t9 ⟨yy,G9,K9,e9,cn,b9,p9⟩=>?_;refine thn (yx (X:=Y) _ t9 a7 G9 (.ref l) [yy] (.ref l) [yv] (λ_ t=>t=upd G9 l (.lst (ac++[yy]))) K9 rfl (.cons e9 .nil) ⟨l,ac,yy,rfl,rfl,cn,b9,rfl⟩) λ_ dm ⟨_,dp,c6,_,c3⟩=>?_;subst c3;exact O c6 p9
   exact nL Z (T1.self X.A 0 _ _ _ bS Z)
 exact codeAny_compStart_list loop (T.self X.A 0 _ _ _ b2 loop)
theorem aP {X:Cx}{elt tg iter b a:Expr}{o:Option Expr}{scope:Scope}{pos:Pos}{j c:TI}{g n:TG}{tt:TT}{k:TE}{N':List Str}{cap:List (Option Nat)}(y:X.calm=true)(hi:PI X tg iter j)(z:CapOk X.N N' X.env.scope scope cap)(v:∀ C s₀ H₀ fp pins,PG (yS X N' scope C s₀ H₀ fp pins) tg g)(e:∀ C s₀ H₀ fp pins,PI (yS X N' scope C s₀ H₀ fp pins) b a c)(i:∀ C s₀ H₀ fp pins,PG (yS X N' scope C s₀ H₀ fp pins) b n)(r:∀ C s₀ H₀ fp pins,PTo (yS X N' scope C s₀ H₀ fp pins) o tt)(w:∀ C s₀ H₀ fp pins,PE (yS X N' scope C s₀ H₀ fp pins) elt k)(t:∀ x,foldedSetIterable iter X.env x=pure x:=by intro _;rfl)(d:∀ C x,foldedSetIterable a (compEnvC scope (w8 X.env.cells scope.names []) C X.env) x=pure x:=by intro _ _;rfl) :
  PE X (.ListComp elt [⟨tg,iter,[],0⟩,⟨b,a,o.toList,0⟩] scope pos) (zaB cap j g c n tt k):=by
 intro pins s σ H Q I h;rw[eval_ListComp];exact fX (use:=none) y hi z v e i r w t d I h λl C B D m A q u f=>⟨m,u,λE p=>⟨.ref l,B,A.gone f p,rfl,q⟩⟩
end L2
namespace Bn
open PySem L2 Own
def pw (e:Nat):Int:=((2 ^ e:Nat):Int)
def more (cs xs:List Int)(k:Int):List Int:=(List.range cs.length).map λi=>cs.getD i 0+k*xs.getD i 0
def xj:Nat->List Nat->List Fk
 | 0,_=>[]
 | m+1,row=>if row.length<2 then [] else (row.take (row.length / 2)).zip row.reverse++xj m (row.take (row.length / 2))++xj m (row.drop (row.length / 2))
def xb (k:Nat):Nt:=⟨2 ^ k,(List.replicate k (xj k (List.range (2 ^ k)))).flatten,List.range (2 ^ k)⟩
theorem mJ:∀ k,k<5->(xb k).forks.length<=128/\∀ f∈(xb k).forks,f.1<2 ^ k/\f.2<2 ^ k/\f.1≠f.2:=by decide +kernel
theorem jQ {k:Nat}(h:k<5):(xb k).Ok:=by
 obtain⟨a,b⟩:=mJ k h;refine⟨ZS,?_,a,b,.refl _⟩;show 2 ^ k<=2 ^ 4;exact YT (show 0<2 by decide) (show k<=4 by lia)
theorem x9:∀ (m:Nat) (row:List Nat),(xj m row).length<=m*row.length
 | 0,_=>JJ _
 | m+1,row=>by
  unfold xj;split
  ·exact JJ _
  ·rw[Jb,Jb,ZN,JC]
   have a:=x9 m (row.take (row.length / 2));have b:=x9 m (row.drop (row.length / 2));rw[JC]at a;rw[Yh]at b
   have c:m*min (row.length / 2) row.length+m*(row.length-row.length / 2)=m*row.length:=by
    rw[<- Nat.mul_add];congr 1;lia
   rw[Nat.succ_mul]
   grind
end Bn
namespace L2
open PySem PySem.Spec PyProof.Rows Own
def yU {α:Type}(xs ys:List α):List α:=(xs.zip ys).flatMap λp=>[p.1,p.2]
theorem xP {α:Type}:∀ (xs ys:List α),xs.length=ys.length->(yU xs ys).length=2*xs.length
 | [],[],_=>rfl
 | x::xs,y::ys,h=>by
  have h':xs.length=ys.length:=by simpa using h
  have:=xP xs ys h';show (yU xs ys).length+2=2*(xs.length+1);rw[this];lia
theorem wM {α β:Type}{f g:α->Option β}:∀ (l:List α),(∀ x∈l,f x=g x)->l.filterMap f=l.filterMap g
 | [],_=>rfl
 | x::l,h=>by
  have e:=wM l λy a=>h y (JE _ a);simp only[List.filterMap_cons,h x JF,e]
def by2 {α:Type}(off:Nat)(xs:List α):List α:=(List.range ((xs.length+1-off) / 2)).filterMap λk=>xs[off+2*k]?
theorem qo {α:Type}(off:Nat)(a:off<=1)(xs:List α):(by2 off xs).length=(xs.length+1-off) / 2:=by
 unfold by2
 have e:(List.range ((xs.length+1-off) / 2)).filterMap (λk=>xs[off+2*k]?)=(List.range ((xs.length+1-off) / 2)).pmap (λk (h:k<(xs.length+1-off) / 2)=>xs[off+2*k]'(by omega)) (λk h=>Zm.mp h):=by
  rw[List.pmap_eq_map_attach,<- List.filterMap_eq_map]
  conv=>lhs;rw[<- List.attach_map_subtype_val (List.range ((xs.length+1-off) / 2)),ZR]
  refine wM _ λk b=>?_;have:=Zm.mp k.2;show xs[off+2*k.1]?=some _;rw[J9 (by omega)]
 rw[e,List.length_pmap,YW]
theorem bD {α β:Type}(f:α->β)(off:Nat)(xs:List α):by2 off (xs.map f)=(by2 off xs).map f:=by
 unfold by2;rw[Jg,List.map_filterMap];refine wM _ λk _=>?_;rw[Y6]
theorem kr {xs:List V}{us:List Value}(r:Vals xs us)(a:List Nat):Vals (a.filterMap λk=>xs[k]?) (a.filterMap λk=>us[k]?):=by
 induction a with
 | nil=>exact .nil
 | cons i a ih =>
  cases e:xs[i]? with
  | none =>
   have e2:us[i]?=none:=List.getElem?_eq_none_iff.mpr (by rw[<- r.length];exact List.getElem?_eq_none_iff.mp e)
   rw[List.filterMap_cons_none e,List.filterMap_cons_none e2];exact ih
  | some x =>
   obtain⟨u,e2,b⟩:=r.get e;rw[List.filterMap_cons_some e,List.filterMap_cons_some e2];exact .cons b ih
theorem gf (items:Array Value):slicePick items none none (some 2)=((List.range ((items.size+1) / 2)).filterMap λk=>items.toList[2*k]?).toArray:=by
 have b:sliceBounds none none (some 2) items.size=(0,(items.size:Int),2):=rfl
 have c:sliceRange 0 (items.size:Int) 2=(List.range ((items.size+1) / 2)).map λk=>2*k:=by
  unfold sliceRange;have a:(2:Int) > 0:=by decide
  by_cases h:(0:Int)<items.size
  ·have e:(((items.size:Int)-0+2-1) / 2).toNat=(items.size+1) / 2:=by lia
   simp only[a,Yy,h,e];apply Wp;intro k _;lia
  ·have e:items.size=0:=by simp_all
   rw[e];rfl
 unfold slicePick;rw[b];show ((sliceRange 0 (items.size:Int) 2).filterMap (items[·]?)).toArray=_;rw[c,ZR];refine JW List.toArray (wM _ λk _=>?_);simp
theorem jT (items:Array Value):slicePick items (some 1) none (some 2)=((List.range (items.size / 2)).filterMap λk=>items.toList[1+2*k]?).toArray:=by
 have b:sliceBounds (some 1) none (some 2) items.size=(max 0 (min 1 (items.size:Int)),(items.size:Int),2):=rfl
 have c:sliceRange (max 0 (min 1 (items.size:Int))) (items.size:Int) 2=(List.range (items.size / 2)).map λk=>1+2*k:=by
  unfold sliceRange;have a:(2:Int) > 0:=by decide
  by_cases h:(1:Int)<items.size
  ·have m:max 0 (min 1 (items.size:Int))=1:=by lia
   rw[m];have e:(((items.size:Int)-1+2-1) / 2).toNat=items.size / 2:=by lia
   simp only[a,Yy,h,e];apply Wp;intro k _;lia
  ·have e:items.size=0\/items.size=1:=by lia
   rcases e with e|e<;>rw[e]<;>rfl
 unfold slicePick;rw[b];show ((sliceRange (max 0 (min 1 (items.size:Int))) (items.size:Int) 2).filterMap (items[·]?)).toArray=_;rw[c,ZR];refine JW List.toArray (wM _ λk _=>?_);simp
def zbe (K:PySem.W.Frag)(e:TE)(d ts:TO):TE:=λσ H Q=>e σ H λx g=>d σ g λlo f=>ts σ f λo b=>o=some 2/\∃ off a c,((lo=none/\off=0)\/(lo=some 1/\off=1))/\x=.ref a/\SqL K b a c/\∀ p,b p=none->Q (.ref p) (upd b p (.lst (by2 off c)))
theorem qT {X:Cx}{e st:Expr}{lo:Option Expr}{p:TE}{n ts:TO}{t pos:Pos}(L:PE X e p)(K:PO X lo n)(G:PO X (some st) ts):PE X (.Subscript e (.Slice lo none (some st) t) pos) (zbe X.K p n ts):=by
 intro pins s σ H Q I h;refine Subscript_ (thn (L pins s σ H _ I h) λv y ⟨x,R,N,A,C⟩=>wpAny_Slice (thn (K pins y σ R _ N C) λm z ⟨ol,S,O,E,D⟩=>?_));rw[evalPart_none];refine J7 (thn (G pins z σ S _ O D) λg d ⟨o,P,M,po,B⟩=>?_);obtain⟨rfl,off,a,l,f,rfl,J,k⟩:=B;cases A;have i:Inv X pins σ P { d with heap:=d.heap.push { cls:=.type "slice",data:=.fields #[m,.none,g] } }:=M.kept (t':=d.toks) λb ob q=>J8 _ q;obtain⟨c,r,u,T⟩:=i.list J;have hlen:=r.length;show wpAny (model X.prog X.w) X.A (subscriptTail e (.Slice lo none (some st) t) (.ref a) (.ref d.heap.objs.size)) (EP X pins σ Q) X.xe { d with heap:=d.heap.push { cls:=.type "slice",data:=.fields #[m,.none,g] } };refine tail_any (ops:=[.ref a,.ref d.heap.objs.size]) u.isList.typeIs slot_list_getitem.lookup (wpAny_getItem_list_slice u.isList (Heap.IsSliceOf.new ..) E .none po (by simp) ?_ (by rw[Jn]<;>simp_all)) (by with_unfolding_all rfl)
 have F:slicePick c.toArray ol none (some 2)=((List.range ((c.length+1-off) / 2)).filterMap λk=>c[off+2*k]?).toArray:=by
  rcases f with ⟨rfl,rfl⟩|⟨rfl,rfl⟩
  ·rw[gf];simp only[Jn,Nat.sub_zero,YB]
  ·rw[jT];simp only[Jn,Nat.add_sub_cancel]
 rw[F];have j:off<=1:=by rcases f with ⟨_,rfl⟩|⟨_,rfl⟩<;>decide
 have w:Vals (by2 off l) ((List.range ((c.length+1-off) / 2)).filterMap λk=>c[off+2*k]?):=by
  have:=kr r ((List.range ((c.length+1-off) / 2)).map λk=>off+2*k);rw[ZR,ZR]at this;unfold by2;rw[hlen];exact this
 refine⟨.ref _,_,i.laid (t':=d.toks) (o:=.lst (by2 off l)) (λb ob q=>J8 _ q) (Je _) ⟨by rw[qo off j];omega,_,0,w,?_⟩,rfl,k _ (i.hok.fresh (Je _))⟩;exact Jq _ rfl
theorem fY {K:PySem.W.Frag}{a:Addr}{xs:List V}{g w:TG}{h:TI}{tt:TT}{u:TE}{l:Addr}{σ:St}{H:Hp}{Q:VK}(c:Nat->List V->St->Hp->Prop)(C:c 0 [] σ H)(B:∀ i acc σ H,c i acc σ H->H l=some (.lst acc)/\SqL K H a xs)(A:∀ i acc σ H x,xs[i]?=some x->c i acc σ H->g x σ H λb r=>h b r λo q =>
   ∃ d:Nat->Nat->List V->St->Hp->Prop,(∃ n,d 0 n acc b q)/\LCW1 o w tt u l (λac j G=>Nx xs.length i (c (i+1) ac j G)) d)(hd:∀ acc σ H,c xs.length acc σ H->Q (.ref l) H):∃ W:Nat->Nat->List V->St->Hp->Prop,(∃ m,W 0 m [] σ H) /\
   ∀ i m acc f H',W i m acc f H'->H' l=some (.lst acc)/\(((Itl K a).stop i H'/\Q (.ref l) H')\/((Itl K a).go i H'/\∀ x s,(Itl K a).yld i H' x s->g x f s λb r=>h b r λo q =>
    ∃ d:Nat->Nat->List V->St->Hp->Prop,(∃ n,d 0 n acc b q)/\LCW1 o w tt u l (λac j G=>∃ v,v<m/\W (i+1) v ac j G) d)):=by
 refine⟨λi m acc σ H=>m=xs.length-i/\i<=xs.length/\c i acc σ H,⟨xs.length,by simp,JJ _,C⟩,?_⟩;rintro i m acc σ H ⟨rfl,hi,p⟩;obtain⟨z,k⟩:=B i acc σ H p;refine⟨z,?_⟩;by_cases t:i<xs.length
 ·refine .inr ⟨⟨xs,xs[i],k,J9 t⟩,λx s ⟨e,y⟩=>?_⟩
  subst e;exact A i acc σ _ x (y xs k) p
 ·obtain rfl:i=xs.length:=by lia
  exact .inl ⟨⟨xs,k,Je _⟩,hd acc σ H p⟩
end L2
namespace L2
open PySem PySem.Spec PyProof.Rows Own Bn
def wk (ts:List Int):Int:=ts.foldl (λa t=>2*a+t) 0
def uJ (a:Int)(xs:List Int):Int:=xs.foldl (λa x=>1000*a+x) a
def Bits (ts:List Int):Prop:=∀ t∈ts,t=0\/t=1
def Small (xs:List Int):Prop:=∀ x∈xs,0<=x/\x<1000
theorem iK {a b c d m:Int}(e:0<m)(c0:0<=c)(i:c<m)(g:0<=d)(f:d<m):compare (m*a+c) (m*b+d)=(compare a b).then (compare c d):=by
 rcases Zw a b with h|h|h
 ·have:m*a+c<m*b+d:=by
   have:=Int.mul_le_mul_of_nonneg_left (show a+1<=b by lia) (Int.le_of_lt e);rw[Int.mul_add,Int.mul_one]at this;lia
  rw[YD.mpr this,YD.mpr h];rfl
 ·subst h
  rw[Yu.mpr (rfl:a=a)];show _=compare c d;rcases Zw c d with z|z|z
  ·rw[YD.mpr z,YD.mpr (by simp_all)]
  ·rw[z]
   rw[Yu.mpr (rfl:d=d),Yu.mpr rfl]
  ·rw[YE.mpr z,YE.mpr (by simp_all)]
 ·have:m*b+d<m*a+c:=by
   have:=Int.mul_le_mul_of_nonneg_left (show b+1<=a by lia) (Int.le_of_lt e);rw[Int.mul_add,Int.mul_one]at this;lia
  rw[YE.mpr this,YE.mpr h];rfl
theorem sD {m:Int}(d:0<m):∀ {x y:List Int}{a b:Int},x.length=y.length->(∀ t∈x,0<=t/\t<m)->(∀ t∈y,0<=t/\t<m)->compare (x.foldl (λa t=>m*a+t) a) (y.foldl (λa t=>m*a+t) b)=(compare a b).then (cmpR x y)
 | [],[],a,b,_,_,_=>by
  show compare a b=(compare a b).then .eq
  cases compare a b<;>rfl
 | s::x,t::y,a,b,l,f,e=>by
  have h:=f s (.head _);have g:=e t (.head _);show compare (x.foldl _ (m*a+s)) (y.foldl _ (m*b+t))=(compare a b).then ((compare s t).then (cmpR x y));rw[sD d (by simpa using l) (λu c=>f u (.tail _ c)) λu c=>e u (.tail _ c),iK d h.1 h.2 g.1 g.2];cases compare a b<;>rfl
theorem kZ {x:List Int}(h:Bits x):∀ t∈x,0<=t/\t<2:=λt a=>by rcases h t a with e|e<;>simp_all
theorem nO {x y:List Int}(l:x.length=y.length)(b:Bits x)(a:Bits y):compare (wk x) (wk y)=cmpR x y:=by
 unfold wk;rw[sD (by decide) l (kZ b) (kZ a)];rfl
theorem nN {a b:Int}{x y:List Int}(l:x.length=y.length)(d:Small x)(c:Small y):compare (uJ a x) (uJ b y)=(compare a b).then (cmpR x y):=sD (by decide) l d c
def stK (ts is:List Int):KN:=.inr ts::is.map Sum.inl
structure StOk (F c:Nat) (k:KN):Prop where
 ex:∃ ts is,k=stK ts is/\ts.length=F/\Bits ts/\is.length=c/\Small is
def yt:KN->Int
 | .inr ts::r=>uJ (wk ts) (r.map λx=>match x with|.inl i=>i|.inr _=>0)
 | _=>0
theorem vS (ts is:List Int):yt (stK ts is)=uJ (wk ts) is:=by
 unfold stK yt;show uJ _ ((is.map Sum.inl).map _)=_;rw[Zb]
 congr 1
 exact List.map_id is
theorem eI {F c:Nat}{x y:KN}(k:StOk F c x)(j:StOk F c y)(h:yt x=yt y):x=y:=by
 obtain⟨g,is,rfl,r,m,p,l⟩:=k.ex;obtain⟨f,i,rfl,t,o,s,n⟩:=j.ex;rw[vS,vS]at h;have q:=nN (a:=wk g) (b:=wk f) (show is.length=i.length by lia) l n;rw[h,Yu.mpr rfl,nO (by lia) m o]at q
 have key:∀ {x y:List Int},cmpR x y=.eq->x=y:=by
  intro x
  induction x with
  | nil=>intro y e;cases y with|nil=>rfl|cons a b=>cases e
  | cons a x ih =>
   intro y e
   cases y with
   | nil=>cases e
   | cons b y =>
    have d:(compare a b).then (cmpR x y)=.eq:=e
    cases z:compare a b with
    | lt=>rw[z]at d;cases d
    | gt=>rw[z]at d;cases d
    | eq=>rw[z]at d;rw[Yu.mp z,ih d]
 cases z:cmpR g f with
 | lt=>rw[z]at q;cases q
 | gt=>rw[z]at q;cases q
 | eq =>
  rw[z]at q;rw[key z,key (show cmpR is i=.eq from q.symm)]
def rkH (H:Hp):V->Int
 | .ref a=>match H a with
  | some (.tup (b::r))=>uJ (wk (jP H b)) (r.map rS)
  | _=>0
 | _=>0
theorem uh {H:Hp}{ts is:List Int}{b:Addr}(h:NKey H (stK ts is) b):∃ t,H b=some (.tup (.ref t::is.map V.int))/\H t=some (.tup (ts.map V.int)):=by
 obtain⟨d,j,a⟩:=h;obtain⟨v,r,e,⟨t,c,f⟩,g⟩:=(show ∃ v r,d=v::r/\(∃ t,v=.ref t/\H t=some (.tup (ts.map V.int)))/\NIvs H (is.map Sum.inl) r from a)
 have key:∀ {is:List Int}{r:List V},NIvs H (is.map Sum.inl) r->r=is.map V.int:=by
  intro is
  induction is with
  | nil=>intro r h;exact h
  | cons i is ih =>
   intro r h;obtain⟨v,q,e,c,a⟩:=(show ∃ v q,r=v::q/\v=.int i/\NIvs H (is.map Sum.inl) q from h);rw[e,c,ih a];rfl
 exact⟨t,by rw[j,e,c,key g],f⟩
theorem nX {H:Hp}{ts is:List Int}{b t:Addr}(c:H b=some (.tup (.ref t::is.map V.int)))(a:H t=some (.tup (ts.map V.int))):NKey H (stK ts is) b:=by
 have key:∀ is:List Int,NIvs H (is.map Sum.inl) (is.map V.int):=by
  intro is
  induction is with
  | nil=>exact rfl
  | cons i is ih=>exact⟨_,_,rfl,rfl,ih⟩
 exact⟨_,c,⟨_,_,rfl,⟨t,rfl,a⟩,key is⟩⟩
theorem qN {H:Hp}{ts is:List Int}{b:Addr}(h:NKey H (stK ts is) b):rkH H (.ref b)=yt (stK ts is):=by
 obtain⟨t,c,a⟩:=uh h
 show (match H b with
  | some (.tup (b::r))=>uJ (wk (jP H b)) (r.map rS)
  | _=>0)=_
 rw[c];show uJ (wk (jP H (.ref t))) ((is.map V.int).map rS)=_;rw[vH a,vS,Zb]
 congr 1
 exact List.map_id is
theorem zaP {H:Hp}{F c:Nat}{x y:KN}{a b:Addr}(r:StOk F c x)(o:StOk F c y)(ha:NKey H x a)(hb:NKey H y b):Lx H 2 (.ref a) (.ref b) (compare (rkH H (.ref a)) (rkH H (.ref b))):=by
 obtain⟨k,is,rfl,E,v,D,s⟩:=r.ex;obtain⟨j,h,rfl,I,z,G,w⟩:=o.ex;rw[qN ha,qN hb,vS,vS,nN (by lia) s w,nO (by lia) v z];obtain⟨t,C,e2⟩:=uh ha;obtain⟨u,B,A⟩:=uh hb;have l:is.length=h.length:=by lia
 rw[show (cmpR k j).then (cmpR is h)=(cmpR k j::List.zipWith compare is h).foldr Ordering.then .eq by rw[List.foldr_cons,vp l]];refine .row C B (by rw[JM,JM,Jg,List.length_zipWith];simp_all) (by rw[JM,JM,Jg,List.length_zipWith];simp_all) λi p q d f e g=>?_
 cases i with
 | zero=>cases f;cases e;cases g;exact qZ e2 A (by lia)
 | succ i =>
  rw[List.getElem?_cons_succ]at f e g;rw[Y6]at f e;obtain⟨p,n,rfl⟩:=Y9.mp f;obtain⟨q,m,rfl⟩:=Y9.mp e;rw[List.getElem?_zipWith,n,m]at g;cases g;exact .int 1 p q
def KeysAt (H:Hp)(bs:List Addr)(ks:List KN):Prop:=Paired (λb k=>NKey H k b) bs ks
theorem KeysAt.tups {H H':Hp}(t:Tups H H'){bs:List Addr}{ks:List KN}(h:KeysAt H bs ks):KeysAt H' bs ks:=y9 (λ_ _ z=>z.tups t) h
theorem KeysAt.mem {H:Hp}{bs:List Addr}{ks:List KN}(h:KeysAt H bs ks):∀ b∈bs,∃ k∈ks,NKey H k b:=by
 induction h with
 | nil=>intro b a;cases a
 | cons q _ ih =>
  intro b a;rcases Js.mp a with rfl|z
  ·exact⟨_,.head _,q⟩
  ·obtain⟨k,c,e⟩:=ih b z
   exact⟨k,.tail _ c,e⟩
theorem LvE.keys {H:Hp}{xs:KVN}{ps:LvL}(h:LvE H xs ps):KeysAt H (xs.map λp=>p.2.1) (ps.map (·.1)):=by
 obtain⟨b,pr⟩:=h
 induction pr with
 | nil=>exact .nil
 | @cons x p xs ps a t ih =>
  refine .cons ?_ (ih λy c=>b y (.tail _ c));show NKey H p.1 x.2.1;rw[<- a.1];exact b x (.head _)
theorem rO {H:Hp}{bs cs:List Addr}(p:cs.Perm bs):∀ {ks:List KN},KeysAt H bs ks->∃ a,KeysAt H cs a/\a.Perm ks:=by
 induction p with
 | nil=>intro ks h;exact⟨ks,h,.refl _⟩
 | cons b _ ih =>
  intro ks h
  cases h with
  | cons q t =>
   obtain⟨a,e,d⟩:=ih t
   exact⟨_,.cons q e,d.cons _⟩
 | swap b c l =>
  intro ks h
  cases h with
  | cons q t=>cases t with
   | cons i t=>exact⟨_,.cons i (.cons q t),.swap _ _ _⟩
 | trans _ _ g f =>
  intro ks h;obtain⟨a,e,d⟩:=f h;obtain⟨is,k,j⟩:=g e;exact⟨is,k,j.trans d⟩
theorem uK {H:Hp}{F c:Nat}{bs:List Addr}{ks:List KN}(h:KeysAt H bs ks)(ok:∀ k∈ks,StOk F c k)(s:(bs.map V.ref).Pairwise λx y=>rkH H x<=rkH H y):ks.Pairwise λx y=>yt x<=yt y:=by
 induction h with
 | nil=>exact .nil
 | @cons b k bs ks q t ih =>
  rw[JT,Wt]at s;refine Wt.mpr ⟨λj a=>?_,ih (λj a=>ok j (.tail _ a)) s.2⟩
  have back:∀ {bs:List Addr}{ks:List KN},KeysAt H bs ks->∀ j∈ks,∃ b∈bs,NKey H j b:=by
   intro bs ks h
   induction h with
   | nil=>intro j a;cases a
   | cons q _ ih =>
    intro j a;rcases Js.mp a with rfl|z
    ·exact⟨_,.head _,q⟩
    ·obtain⟨b,g,e⟩:=ih j z
     exact⟨b,.tail _ g,e⟩
  obtain⟨d,f,e⟩:=back t j a;have:=s.1 (.ref d) (Jv.mpr ⟨d,f,rfl⟩);obtain⟨l,is,rfl,_⟩:=(ok k (.head _)).ex;obtain⟨i,m,rfl,_⟩:=(ok j (.tail _ a)).ex
  rwa [qN q,qN e]at this
def BookOf (ks:List KN)(ls:List LvL):Prop:=∃ a:List (List KN),ks=a.flatten/\Paired (λb lv=>b.Perm (lv.map (·.1))/\b.Pairwise λx y=>yt x<=yt y) a ls
def gW (P:Program)(w:World):List V->Hp->VK->Prop:=λe H Q=>∃ a b d,e=[.ref a]/\H a=some (DN P w a b)/\b.length<=10000/\RkN H (b.map λp=>.ref p.2.1) d/\∀ (l:Addr) (c:List V),H l=none->c.Perm (b.map λp=>.ref p.2.1)->c.Pairwise (λx y=>d x<=d y)->Q (.ref l) (upd H l (.lst c))
theorem wj {X:Cx}(b:X.calm=true)(a:X.A.units+64<cLine):CallR X (.builtin "sorted") (gW X.prog X.w):=qm b a
theorem pV {H:Hp}{F c:Nat}{xs:KVN}{lv:LvL}(h:LvE H xs lv)(ok:∀ p∈lv,StOk F c p.1):RkN H (xs.map λp=>.ref p.2.1) (rkH H):=by
 refine⟨2,by decide,λx a=>?_⟩
 have at_:∀ x∈xs.map λp=>V.ref p.2.1,∃ b k,x=.ref b/\NKey H k b/\StOk F c k:=λx a=>by
  obtain⟨p,o,rfl⟩:=Jv.mp a;obtain⟨k,r,e⟩:=h.keys.mem p.2.1 (Jv.mpr ⟨p,o,rfl⟩);obtain⟨q,n,rfl⟩:=Jv.mp r;exact⟨_,_,rfl,e,ok q n⟩
 obtain⟨b,k,rfl,g,f⟩:=at_ x a;refine⟨?_,λy m=>?_⟩
 ·obtain⟨v,is,rfl,_⟩:=f.ex
  obtain⟨t,u,s⟩:=uh g;exact⟨b,t,_,_,rfl,u,s⟩
 ·obtain⟨d,j,rfl,l,i⟩:=at_ y m
  exact zaP f i g l
theorem fZ {K:PySem.W.Frag}{a:Addr}{zs:List V}{g:TG}{h:TE}{l:Addr}{ac:List V}{σ:St}{H:Hp}{Q:List V->St->Hp->Prop}(b:Nat->List V->St->Hp->Prop)(q:b 0 ac σ H)(o:∀ i acc σ H,b i acc σ H->H l=some (.lst acc)/\SqL K H a zs)(n:∀ i x acc σ H,zs[i]?=some x->b i acc σ H->g x σ H λc r=>h c r λy j=>j l=some (.lst acc)/\acc.length<sizeLine/\Nx zs.length i (b (i+1) (acc++[y]) c (upd j l (.lst (acc++[y])))))(hd:∀ acc σ H,b zs.length acc σ H->Q acc σ H):∃ W:Nat->Nat->List V->St->Hp->Prop,(∃ m,W 0 m ac σ H)/\LCW1 (Itl K a) g dJ h l Q W:=by
 refine⟨λi m acc σ H=>m=zs.length-i/\i<=zs.length/\b i acc σ H,⟨_,rfl,JJ _,q⟩,λi m acc σ H ⟨em,hi,p⟩=>?_⟩;subst em;obtain⟨k,d⟩:=o i acc σ H p;refine⟨k,?_⟩;by_cases f:i<zs.length
 ·refine .inr ⟨⟨zs,zs[i],d,J9 f⟩,λx s ⟨e,y⟩=>?_⟩
  subst e;exact n i x acc σ _ (y zs d) p
 ·obtain rfl:i=zs.length:=by lia
  exact .inl ⟨⟨zs,d,Je _⟩,hd acc σ H p⟩
theorem LvE.len_le {H:Hp}{xs:KVN}{ps:LvL}(h:LvE H xs ps){n:Nat}(l:ps.length<=n):xs.length<=n:=by rw[h.len];exact l
theorem tH {α β:Type}{f:α->β}{ys l:List β}(p:ys.Perm l):∀ {zs:List α},l=zs.map f->∃ cs:List α,ys=cs.map f/\cs.Perm zs:=by
 induction p with
 | nil=>intro zs e;cases zs with
  | nil=>exact⟨[],rfl,.refl _⟩
  | cons a b=>cases e
 | cons b _ ih =>
  intro zs e
  cases zs with
  | nil=>cases e
  | cons a zs =>
   injection e with i e2;obtain⟨cs,h,g⟩:=ih e2
   exact⟨a::cs,by rw[h,i];rfl,g.cons _⟩
 | swap b c l =>
  intro zs e
  cases zs with
  | nil=>cases e
  | cons a zs=>cases zs with
   | nil=>cases e
   | cons d zs =>
    injection e with i e2;injection e2 with e2 o
    exact⟨d::a::zs,by rw[i,e2,o];rfl,.swap _ _ _⟩
 | trans _ _ k j =>
  intro zs e;obtain⟨cs,h,g⟩:=j e;obtain⟨ds,n,m⟩:=k h;exact⟨ds,n,m.trans g⟩
def gC (P:Program)(w:World)(F c:Nat):Sp:=λd H Q _=>∃ l as ls,d=[.ref l]/\H l=some (.lst (List.map V.ref as))/\LvsAt P w H as ls/\(∀ lv∈ls,lv.length<=10000/\∀ p∈lv,StOk F c p.1)/\(ls.map List.length).sum<=1000000 /\
 ∀ p bs b a,Same H a->a p=some (.tup (bs.map V.ref))->KeysAt a bs b->BookOf b ls->Q (.ref p) a
end L2
namespace K37
open PySem L2 Own Bn
abbrev gR:Stmt:=top 12
theorem rG {α β:Type}{F:α->β->Prop}{xs:List α}{ys:List β}(h:Paired F xs ys):∀ {i:Nat}{a:α},xs[i]?=some a->∃ b,ys[i]?=some b/\F a b:=by
 induction h with
 | nil=>intro i a e;cases e
 | cons q _ ih =>
  intro i a e
  cases i with
  | zero=>cases Jm e;exact⟨_,rfl,q⟩
  | succ i=>exact ih e
theorem pI (ls:List LvL)(i:Nat):((ls.take i).map List.length).sum<=(ls.map List.length).sum:=by
 induction ls generalizing i with
 | nil=>rw[Wd];exact Je _
 | cons a ls ih =>
  cases i with
  | zero=>exact JJ _
  | succ i=>show a.length+_<=a.length+_;exact Nat.add_le_add_left (ih i) _
theorem cF {H:Hp}{a:Addr}{o:HO}(_:Same H (L2.upd H a o))(h:H a=none):H a=none:=h
section
variable {P:Program}{w:World}{K:PySem.W.Frag}{mg:Str->Option Value}{base:Heap}
theorem zbn:FnScope ["levels"] ["levels"] (zN gR):=by rfl'
theorem cD (F0 c0:Nat) {f:Addr}{fd:FuncData}(F:Fun K "book_of" "book_of" gR f fd) (G:Mgs mg):FnOk P w K mg base CX0 1 f fd ["levels"] (gC P w F0 c0):=by
 refine F.ok zbn (λR H Q E h=>?_) (λab A outer s H R Q E hr h=>?_)
 ·obtain⟨l,as,ls,rfl,_⟩:=h
  rfl
 obtain⟨l,as,ls,rfl,hl,M,t,Y,k⟩:=h;refine⟨_,(@zJ _ _ _ (@zV _ _ _ _ (@zv _ _ _ _ _ _ _ _ _ zz (by rfl) G.tuple (by rfl) (@zA _ _ _ _ _ (@aP _ _ _ _ _ _ none _ _ _ (bR K (tCB (gW P w) (lJ (dO 0) dU))) _ _ _ _ ["level","state"] [none,none] rfl (@qS _ _ _ _ (@qv _ 0 _ _ (by rfl'))) (CapOk.of (by kernel_rfl)) (λ_ _ _ _ _=>@zM _ _ 0 _ (show (["level","state"]:List Str).Nodup from by decide +kernel) rfl (.inl rfl) (.inr rfl)) (λ_ _ _ _ _=>@qS _ _ _ _ (@zU _ _ _ _ _ _ _ _ _ (wj rfl hr.units) (by rfl) G.sorted (by rfl) (@zA _ _ _ _ _ (@qv _ 0 _ _ (by rfl')) zC (by rfl)) (by decide) (by decide) (by rfl) (by rfl))) (λ_ _ _ _ _=>@zM _ _ 1 _ (show (["level","state"]:List Str).Nodup from by decide +kernel) rfl (.inl rfl) (.inr rfl)) (λ_ _ _ _ _=>uV) (λ_ _ _ _ _=>@qv _ 1 _ _ (by rfl')) (by intro _;rfl) (by intro _ _;rfl)) zC (by rfl)) (by decide) (by decide) (by rfl) (by rfl)))),?_⟩;refine⟨_,rfl,l,rfl,⟨_,SqL.of hl⟩,λD N=>?_⟩;have al:as.length=ls.length:=Ya M;have s1:=zB N (.lst []);refine fY (K:=K) (a:=l) (xs:=as.map V.ref) (Q:=λx H1=>dU (L2.start ["levels"] [V.ref l]) H1 λR c=>(∃ p v,x::R=[V.ref p]/\((SqL K c p v/\∀ (l:Addr),c l=none->Q (V.ref l) (L2.upd c l (HO.tup v)))\/SqT K c p v/\Q (V.ref p) c))) (λi acc σ c=>(∃ n m,σ=[n,m])/\Same H c/\c D=some (.lst acc)/\∃ (bs:List Addr) (d:List (List KN)),acc=bs.map V.ref/\KeysAt c bs d.flatten/\bs.length=((ls.take i).map List.length).sum/\Paired (λI lv=>I.Perm (lv.map (·.1))/\I.Pairwise λx y=>yt x<=yt y) d (ls.take i)) ⟨⟨_,_,rfl⟩,s1,zD,[],[],rfl,.nil,rfl,.nil⟩ (λi acc σ c z=>⟨z.2.2.1,SqL.of (z.2.1 _ _ hl)⟩) ?_ ?_
 ·rintro i acc σ c x J ⟨⟨n,m,rfl⟩,C,L,bs,d,rfl,u,bl,bk⟩
  rw[Y6]at J;obtain⟨a,ea,rfl⟩:=Y9.mp J;have ia:i<as.length:=(Jc.mp ea).1;have il:i<ls.length:=by simp_all
  obtain⟨lv,el,xs,hd,le⟩:=rG M ea;have r:lv∈ls:=JQ el;have Z:ls.take (i+1)=ls.take i++[lv]:=by rw[<- Yq il,(Jc.mp el).2]
  have O:((ls.take (i+1)).map List.length).sum=bs.length+lv.length:=by rw[Z,Y2,List.sum_append,<- bl];rfl
  have sum2:((ls.take (i+1)).map List.length).sum<=1000000:=JR (pI ls (i+1)) Y;have d2:=C _ _ hd;have le2:=le.keep C;refine⟨_,rfl,a,xs,rkH c,rfl,d2,le2.len_le (t lv r).1,pV le2 (t lv r).2,λq v hq pm so=>?_⟩;have B:=zB hq (.lst v);have lq:D≠q:=zF L hq;obtain⟨cs,rfl,pc⟩:=tH (f:=V.ref) (zs:=xs.map λp=>p.2.1) pm (by rw[Zb];rfl);obtain⟨I,kj,pj⟩:=rO pc le2.keys
  have sj:=uK kj (λk hk=>by
   obtain⟨p,W,rfl⟩:=Jv.mp (pj.mem_iff.mp hk)
   exact(t lv r).2 p W) so
  have cl:cs.length=lv.length:=by rw[pc.length_eq,Jg];exact le2.len
  refine⟨q,rfl,⟨_,SqL.of zD⟩,?_⟩;refine fZ (K:=K) (a:=q) (zs:=cs.map V.ref) (λj acc σ g=>(∃ n m,σ=[n,m])/\Same H g/\(∀ b o,c b=some o->b≠D->g b=some o)/\g q=some (.lst (cs.map V.ref))/\acc=bs.map V.ref++(cs.map V.ref).take j/\g D=some (.lst acc)) ?_ (λj acc σ g z=>⟨z.2.2.2.2.2,SqL.of z.2.2.2.1⟩) ?_ ?_
  ·exact⟨⟨_,_,rfl⟩,C.trans B,λb o e _=>B b o e,zD,by rw[Wv,Y3],B _ _ L⟩
  ·rintro j x acc σ g J ⟨⟨n,m,rfl⟩,S,T,q4,rfl,X⟩
   have U:=(Jc.mp J).1;refine⟨_,rfl,X,?_,nx U ⟨⟨_,_,rfl⟩,λb o e=>?_,λb o e ne=>?_,?_,?_,zD⟩⟩
   ·rw[Jb,JC,Jg,Jg,JG]
    rw[Jg]at U;lia
   ·rw[zG (zF e (cF s1 N))];exact S b o e
   ·rw[zG ne];exact T b o e ne
   ·rw[zG lq.symm];exact q4
   ·rw[Y0]
    congr 1
    rw[<- Yq U,(Jc.mp J).2]
  ·rintro acc σ g ⟨⟨n,m,rfl⟩,S,T,q4,rfl,X⟩
   have t4:Tups c g:=λb v e=>T b _ e (yQ e L λz=>by cases z);refine nx (by rw[Jg];exact ia) ⟨⟨_,_,rfl⟩,S,X,bs++cs,d++[I],?_,?_,?_,?_⟩
   ·rw[YN,Y2]
   ·rw[List.flatten_append]
    refine wt (u.tups t4) ?_;show Paired _ cs (I++[]);rw[Y3];exact kj.tups t4
   ·rw[O,Jb,cl]
   ·rw[Z];exact ZT bk ⟨pj,sj⟩
 ·rintro acc σ c ⟨⟨n,m,rfl⟩,C,L,bs,d,rfl,u,bl,bk⟩
  rw[Jg,al,YN]at bk;refine⟨D,_,rfl,.inl ⟨SqL.of L,λp W=>?_⟩⟩;have B:=zB W (.tup (bs.map V.ref));exact k p bs _ _ (C.trans B) zD (u.tups (Tups.of B)) ⟨d,rfl,bk⟩
abbrev aE:Stmt:=top 1
abbrev qJ:Stmt:=top 3
abbrev bv:Stmt:=top 4
theorem fi (h a b:Nat):inV (V.int h) [V.int a,V.int b]=decide (h=a\/h=b):=by
 rw[Yw,decide_eq_true_iff];simp[inV,eqV];lia
theorem scD:FnScope ["net","lane"] ["net","lane"] (zN aE):=by rfl'
theorem am {f:Addr}{fd:FuncData}(F:Fun K "end_of" "end_of" aE f fd):FnOk P w K mg base CX0 1 f fd ["net","lane"] gA:=by
 refine F.ok scD (λd H Q E h=>?_) (λj A outer s H d Q E g h=>?_)
 ·obtain⟨r,fr,c,e,N,a,rfl,_⟩:=h
  rfl
 obtain⟨r,fr,c,e,N,a,rfl,ok,na,i,k⟩:=h;refine⟨_,(@zJ _ _ _ (@zV _ _ _ _ (@lX _ _ _ _ _ _ _ g.units (@zi _ _ _ _ _ _ _ yA (@qv _ 0 _ _ (by rfl')) zH (λ_ _=>rfl)) (@zA _ _ _ _ _ (@qv _ 1 _ _ (by rfl')) zC (by rfl)) (by rfl) (by rfl) (by rfl) (by rfl)))),?_⟩;have b:=na.ends;rw[oN]at b;refine⟨_,rfl,r,_,_,_,rfl,rfl,SqT.of na.net,rfl,c,_,rfl,b,_,rfl,(a:Int),rfl,b,?_,?_⟩
 ·exact Jv.mpr ⟨a,ok.en.mem_iff.mpr (Zm.mpr i),rfl⟩
 ·rw[tU];exact k
theorem scR:FnScope ["net","turns","lane","back","behind","here","number","fork","turn"] ["net","turns","lane","back"] (zN bv):=by rfl'
theorem af {f fD:Addr}{fd dD:FuncData}(F:Fun K "run_through" "run_through" bv f fd) (G:Mgs mg) (M:Use P w K mg base "end_of" ["net","lane"] 1 gA fD dD):FnOk P w K mg base CX0 2 f fd ["net","turns","lane","back"] i7:=by
 refine F.ok scR (λvs H Q E h=>?_) (λab A outer s H vs Q E hr h=>?_)
 ·obtain⟨us,back,rfl,r,fr,er,J,N,D,ts,lane,rfl,_⟩:=h
  rfl
 obtain⟨us,back,rfl,r,fr,er,J,N,D,ts,lane,rfl,ok,na,S,tl,bits,hl,k⟩:=h;refine⟨_,(@zE _ _ _ _ _ (@zp _ _ 4 _ _ _ _ scR.nd rfl (.inl rfl) (@zv _ _ _ _ _ _ _ _ _ yu (by rfl) G.list (by rfl) (@zA _ _ _ _ _ (@qv _ 1 _ _ (by rfl')) zC (by rfl)) (by decide) (by decide) (by rfl) (by rfl)) (by rfl) (by rfl')) (@zE _ _ _ _ _ (@zp _ _ 5 _ _ _ _ scR.nd rfl (.inl rfl) (@qv _ 2 _ _ (by rfl')) (by rfl) (by rfl')) (@zE _ _ _ _ _ (@xG _ _ _ _ _ _ _ _ Yp rfl (@lW _ _ _ _ _ _ _ _ false rfl G.enum (@zA _ _ _ _ _ (@zi _ _ _ _ _ _ _ yA (@qv _ 0 _ _ (by rfl')) zH (λ_ _=>rfl)) zC (by rfl)) (by rfl)) (@yJ _ _ _ _ _ _ rfl (@zK _ _ _ _ _ (@zM _ _ 6 _ scR.nd rfl (.inl rfl) (by rfl')) (@zK _ _ _ _ _ (@zM _ _ 7 _ scR.nd rfl (.inl rfl) (by rfl')) yC (by rfl)) (by rfl)) (by rfl) (by rfl)) (@zJ _ _ _ (@yO _ _ _ _ _ _ _ _ (@zY _ _ _ _ _ _ _ _ rJ (@qv _ 5 _ _ (by rfl')) (@qv _ 7 _ _ (by rfl')) (by rfl)) (@zE _ _ _ _ _ (@zp _ _ 8 _ _ _ _ scR.nd rfl (.inl rfl) (@zi _ _ _ _ _ _ _ yE (@qv _ 4 _ _ (by rfl')) (@qv _ 6 _ _ (by rfl')) (λ_ _=>rfl)) (by rfl) (by rfl')) (@zE _ _ _ _ _ (@yP _ _ _ _ _ _ (@zS _ _ _ _ _ _ _ _ vf zH (@qv _ 8 _ _ (by rfl'))) (@wq _ _ _ _ _ _ _ (@qv _ 4 _ _ (by rfl')) (@qv _ 6 _ _ (by rfl')) xU (by intro _;rfl)) (by rfl) (by rfl) (by rfl)) (@zJ _ _ _ (@zp _ _ 5 _ _ _ _ scR.nd rfl (.inl rfl) (@zi _ _ _ _ _ _ _ yA (@qv _ 7 _ _ (by rfl')) (@oD _ _ _ _ _ _ _ _ (@aK _ _ _ (@qv _ 3 _ _ (by rfl')) (by intro _;rfl)) (@zS _ _ _ _ _ _ _ _ vf zH (@qv _ 8 _ _ (by rfl'))) (@qv _ 8 _ _ (by rfl'))) (λ_ _=>rfl)) (by rfl) (by rfl'))))) zr)) (by intro _;rfl)) (@zJ _ _ _ (@zV _ _ _ _ (@zT _ _ _ _ _ (@zA _ _ _ _ _ (@zv _ _ _ _ _ _ _ _ _ zz (by rfl) G.tuple (by rfl) (@zA _ _ _ _ _ (@qv _ 4 _ _ (by rfl')) zC (by rfl)) (by decide) (by decide) (by rfl) (by rfl)) (@zA _ _ _ _ _ (@zR _ _ _ _ _ _ _ _ _ _ _ _ _ _ _ _ M.ok hr (by rfl) M.m M.kp M.b .nil zu (@zA _ _ _ _ _ (@qv _ 0 _ _ (by rfl')) (@zA _ _ _ _ _ (@qv _ 5 _ _ (by rfl')) zC (by rfl)) (by rfl)) (by decide) (by rfl) (by rfl)) zC (by rfl)) (by rfl)))))))),?_⟩;refine⟨_,rfl,D,_,rfl,.inr (SqT.of S),λd I=>⟨_,rfl,?_⟩⟩;have O:=zB I (.lst (ts.map V.int));refine⟨_,rfl,r,_,_,_,rfl,rfl,SqT.of (O _ _ na.net),rfl,fr,J,rfl,SqT.of (O _ _ na.forks),?_⟩
 refine nB (K:=K) (b:=false) (a:=fr) (xs:=J) (λi σ m=>(∃ C B y,σ=[some (.ref r),some (.ref D),some (.int lane),some (.bl back),some (.ref d),some (.int (yL back N.forks ts lane i).2),C,B,y])/\Same H m/\m d=some (.lst ((yL back N.forks ts lane i).1.map V.int)))
  ⟨⟨_,_,_,rfl⟩,O,zD⟩ (λi σ m _ q=>SqT.of (q.2.1 _ _ na.forks)) ?_ ?_
 ·rintro i x σ m T hx hT ⟨⟨C,B,y,rfl⟩,v,n⟩
  obtain⟨a,g,rfl,eg,L⟩:=(na.prs.tups (Tups.of v)).get hx;have gi:i<N.forks.length:=(Jc.mp eg).1;have gd:N.forks.getD i (0,0)=g:=by rw[Ju,eg];rfl
  have rs:yL back N.forks ts lane (i+1)=yG back (yL back N.forks ts lane i) i g:=by show yG _ _ _ _=_;rw[gd]
  have rl:=wS (back:=back) (fs:=N.forks) (ts:=ts) (lane:=lane) i;have rb:=wA (back:=back) (fs:=N.forks) (lane:=lane) bits i;generalize yL back N.forks ts lane i=st at *;have u:=zB hT (.tup [.int i,.ref a]);have lT:d≠T:=zF n hT;refine⟨T,_,rfl,SqT.of zD,rfl,_,_,rfl,_,_,rfl,rfl,?_⟩;refine⟨_,rfl,_,rfl,a,_,rfl,.inr (SqT.of (u _ _ L)),rfl,rfl,_,rfl,?_⟩;show if (if false=true then !inV (V.int (st.2:Nat)) [V.int (g.1:Nat),V.int (g.2:Nat)] else inV (V.int (st.2:Nat)) [V.int (g.1:Nat),V.int (g.2:Nat)])=true then _ else _;rw[Jd Jp,fi];by_cases on:st.2=g.1\/st.2=g.2
  ·rw[JD on]
   refine xC ?_;have c:yG back st i g=(st.1.set i (1-st.1.getD i 0),if (if back then 1-st.1.getD i 0 else st.1.getD i 0)=0 then g.1 else g.2):=by unfold yG;rw[Jf on]
   have R:i<st.1.length:=by simp_all
   have U:=rb _ (L2.tY R);have Z:=u _ _ n;refine⟨_,rfl,_,rfl,d,_,_,_,rfl,rfl,SqL.of Z,vz R,?_⟩;refine⟨_,rfl,_,_,rfl,rfl,_,rfl,_,rfl,d,_,_,i,rfl,rfl,Z,kI (by rw[Jg];exact R),?_⟩
   have l:upd (upd m T (.tup [.int i,.ref a])) d (.lst ((st.1.map V.int).set i (.int (1-st.1.getD i 0)))) a=some (.tup [.int g.1,.int g.2]):=by
    rw[zG (by rintro rfl;rw[n]at L;cases L)];exact u _ _ L
   have fin:∀ nx:Nat,nx=(yG back st i g).2->(∃ C B y,([some (.ref r),some (.ref D),some (.int lane),some (.bl back),some (.ref d),some (.int nx),some (.int i),some (.ref a),some (.int (st.1.getD i 0))]:List (Option V))=[some (.ref r),some (.ref D),some (.int lane),some (.bl back),some (.ref d),some (.int (yL back N.forks ts lane (i+1)).2),C,B,y]) /\
     Same H (upd (upd m T (.tup [.int i,.ref a])) d (.lst ((st.1.map V.int).set i (.int (1-st.1.getD i 0)))))/\upd (upd m T (.tup [.int i,.ref a])) d (.lst ((st.1.map V.int).set i (.int (1-st.1.getD i 0)))) d=some (.lst ((yL back N.forks ts lane (i+1)).1.map V.int)):=λnx en=>by
    refine⟨⟨_,_,_,by rw[rs,en]⟩,λb o e=>?_,?_⟩
    ·rw[zG (zF e I)];exact u _ _ (v b o e)
    ·rw[zD,rs,c,pM]
   cases back with
   | false =>
    rcases U with z|z
    ·exact⟨_,rfl,_,rfl,_,rfl,yg ⟨_,rfl,a,_,_,_,rfl,rfl,SqT.of l,by rw[z];exact ya (j:=0) rfl,fin g.1 (by rw[c,z];rfl)⟩⟩
    ·exact⟨_,rfl,_,rfl,_,rfl,yg ⟨_,rfl,a,_,_,_,rfl,rfl,SqT.of l,by rw[z];exact ya (j:=1) rfl,fin g.2 (by rw[c,z];rfl)⟩⟩
   | true =>
    rcases U with z|z
    ·exact⟨_,rfl,_,rfl,_,rfl,xC ⟨_,rfl,_,_,rfl,rfl,a,_,_,_,rfl,rfl,SqT.of l,by rw[z];exact ya (j:=1) rfl,fin g.2 (by rw[c,z];rfl)⟩⟩
    ·exact⟨_,rfl,_,rfl,_,rfl,xC ⟨_,rfl,_,_,rfl,rfl,a,_,_,_,rfl,rfl,SqT.of l,by rw[z];exact ya (j:=0) rfl,fin g.1 (by rw[c,z];rfl)⟩⟩
  ·rw[Jt on]
   have c:yG back st i g=st:=by unfold yG;rw[Jd on]
   exact yg ⟨⟨_,_,_,by rw[rs,c];rfl⟩,v.trans u,by rw[rs,c];exact u _ _ n⟩
 ·rintro σ m ⟨⟨C,B,y,rfl⟩,v,n⟩
  have X:=na.prs.len;rw[X]at n;have hh:=wo (back:=back) (ts:=ts) ok.fk hl N.forks.length (Je _);refine⟨_,rfl,d,_,rfl,.inl ⟨SqL.of n,λt ht=>?_⟩⟩;have W:=zB ht (.tup ((yL back N.forks ts lane N.forks.length).1.map V.int));refine⟨_,rfl,_,rfl,r,fr,er,J,N,_,by rw[X];rfl,ok,na.tups (Tups.of (v.trans W)),hh,(by show 2<=sizeLine;decide),λp Y=>?_⟩;exact k p t _ ((v.trans W).trans (zB Y _)) zD (zB Y _ _ _ zD)
theorem scP:FnScope ["net","turns","lane"] ["net","turns","lane"] (zN qJ):=by rfl'
theorem ja {f k:Addr}{fd l:FuncData}(F:Fun K "passed" "passed" qJ f fd) (b:Use P w K mg base "run_through" ["net","turns","lane","back"] 2 i7 k l):FnOk P w K mg base CX0 3 f fd ["net","turns","lane"] (vY false):=by
 refine F.ok scP (λi H Q E h=>?_) (λm A outer s H i Q E j h=>?_)
 ·obtain⟨r,fr,g,e,N,c,d,a,rfl,_⟩:=h
  rfl
 obtain⟨r,fr,g,e,N,c,d,a,rfl,q⟩:=h;refine⟨_,(@zJ _ _ _ (@zV _ _ _ _ (@zR _ _ _ _ _ _ _ _ _ _ _ _ _ _ _ _ b.ok j (by rfl) b.m b.kp b.b .nil zu (@zA _ _ _ _ _ (@qv _ 0 _ _ (by rfl')) (@zA _ _ _ _ _ (@qv _ 1 _ _ (by rfl')) (@zA _ _ _ _ _ (@qv _ 2 _ _ (by rfl')) (@zA _ _ _ _ _ uI zC (by rfl)) (by rfl)) (by rfl)) (by rfl)) (by decide) (by rfl) (by rfl)))),?_⟩;exact⟨_,rfl,_,rfl,_,rfl,[.ref r,.ref c,.int a],false,rfl,r,fr,g,e,N,c,d,a,rfl,q⟩
end
end K37
namespace L2
open PySem PySem.Spec PyProof.Rows Own
theorem j4 {P:Program}{w:World}{K:PySem.W.Frag}{mg mb:Str->Option Value}{CX:CXT}{k:Nat}{U a:Addr}{fd:FuncData}{x:Str}{sp:Sp}{f:Shared}{vs:List Value}{ns:List Int}(ts:List Addr)
  (W:K.In f.heap) (J:f.heap.Ns mainGlobals mg) (hb:f.heap.Ns builtinsNs mb) (ab:∀ x:Str,x≠"__name__"->mb x=bootBuiltins x) (Q:f.heap.NoLimit) (hg:f.gens = #[])
  (ha:f.heap.get? a=some { cls:=.type "list",data:=.seq vs.toArray }) (hi:IntsAre vs ns) (hl:ns.length<=sizeLine) (hr:Room k callerA)
  (B:∀ p∈ts,f.heap.get? p=some (PySem.W.tabObj #[])/\K.lookup p=none/\∃ c,PySem.W.codeHdIn K c p=true)
  (Z:∃ bm ob,mg "__builtins__" = some (.ref bm)/\bm≠builtinsNs/\f.heap.get? bm=some ob/\ob.cls=.type "module"/\ob.dict=some builtinsNs/\ob.data=.plain)
  (F:∀ base:Heap,K.In base->base.Ns mainGlobals mg->(∀ p∈ts,base.BuiltinsAt mg p)->FnOk P w K mg base CX k U fd [x] sp) (L:∀ (s:Shared) (u:Value),BindsTo s fd ⟨[u],[]⟩ [(x,u)])
  (Y:∀ H:Hp,SqL K H a (ns.map V.int)->(∀ p∈ts,H p=some (.tbl #[]))->sp [.ref a] H (λv _=>v=.bl true) λ_ _ _=>False)
  (ao:∀ H e i,CX [] H f (λ_ _ _=>False) e i->False) :
  codeAny (model P w) callerA (.call (.ref U) ⟨[.ref a],[]⟩) (λr i=>r=.ok (.ret (.bool true))/\OldK f.heap i.heap/\i.os=f.os/\AllBare i.gens) f:=by
 have rv:=sU hi;have O:=hi.length
 have aT:a∉ts:=λh=>by
  have:=(B a h).1;rw[ha]at this;cases this
 have core:∀ H:Hp,(∀ b,H b=none\/(b=a/\∃ o S,H b=some (.frz o (.lst S)))\/(b∈ts/\H b=some (.tbl #[])))->(∀ p∈ts,H p=some (.tbl #[]))->SqL K H a (ns.map V.int)->HOk P w H f.heap->(H a≠none->K.lookup a=none) ->
   codeAny (model P w) callerA (.call (.ref U) ⟨[.ref a],[]⟩) (λr i=>r=.ok (.ret (.bool true))/\OldK f.heap i.heap/\i.os=f.os/\AllBare i.gens) f:=by
  intro H R hT hS M hK;have g:∀ {b:Addr}{o:Obj},f.heap.get? b=some o->H b=none->(sR f.heap H).get? b=some o:=λe n=>fj e n
  have X:∀ {b:Addr}{o:Obj}{D:Array DictEntry}{E:Nat},f.heap.get? b=some o->o.data=.dict D E->H b=none:=λ{b o D E} e d=>by
   rcases R b with z|⟨z,_⟩|⟨z,_⟩
   ·exact z
   ·rw[z,ha]at e
    cases e;cases (show Data.seq vs.toArray _=Data.dict D E from d)
   ·rw[(B b z).1]at e
    cases e;cases (show Data.fields #[]=Data.dict D E from d)
  have l:∀ {b:Addr}{m:Str->Option Value},f.heap.Ns b m->(sR f.heap H).Ns b m:=λ{b m} ⟨o,D,E,e,d,r⟩=>⟨o,D,E,g e (X e d),d,r⟩
  have N:K.In (sR f.heap H):=λb o e=>g (W b o e) (by
   rcases R b with z|⟨z,y⟩|⟨z,_⟩
   ·exact z
   ·obtain⟨o',S,q⟩:=y
    rw[z]at e q;rw[hK (by rw[q];simp)]at e;cases e
   ·rw[(B b z).2.1]at e;cases e)
  have hM:Mod K mg (sR f.heap H):=⟨N,l J,⟨mb,l hb,ab⟩,let ⟨mc,h1,h2⟩:=Q;⟨mc,l h1,h2⟩⟩;have e0:Env0 P w K mg (sR f.heap H) callerA [] f H:=⟨rfl,hM,λb o e=>cE e,Nat.le_of_eq (iA _ _),trivial,λb hb=>absurd (show b∈([]:List Addr) from hb) (by simp),M,.of_eq hg⟩
  have hB:∀ p∈ts,(sR f.heap H).BuiltinsAt mg p:=λp C=>by
   obtain⟨bm,ob,b1,b2,I,b4,b5,t⟩:=Z;refine⟨bm,ob,b1,b2,λz=>?_,λz=>?_,g I ?_,b4,b5,t⟩
   ·obtain⟨og,D,E,e,d,_⟩:=J
    rw[<- z,I]at e;rw[<- Jm e,t]at d;cases d
   ·have e:=(B p C).1
    rw[<- z,I]at e;rw[Jm e]at t;cases t
   ·rcases R bm with z|⟨z,_⟩|⟨z,_⟩
    ·exact z
    ·rw[z,ha]at I
     rw[<- Jm I]at t;cases t
    ·rw[(B bm z).1]at I
     rw[<- Jm I]at t;cases t
  refine ZD ((F _ N (l J) hB).run callerA [] f H ⟨[.ref a],[]⟩ [.ref a] [.ref a] _ _ hr e0 (L f (.ref a)) (.cons rfl .nil) (Y H hS hT)) λr i h=>?_
  cases r with
  | error e=>exact(ao H e i h).elim
  | ok fl =>
   cases fl with
   | next=>exact False.elim h
   | brk=>exact False.elim h
   | cont=>exact False.elim h
   | ret u =>
    obtain⟨v,H',os,bare,un,A,r',q⟩:=h;have q':v=.bl true:=q;subst q';obtain rfl:u=Value.bool true:=r'
    have kept:∀ b o,f.heap.get? b=some o->b∉ts->i.heap.get? b=some o:=λb o e nb=>by
     rcases R b with z|⟨_,ob,S,z⟩|⟨z,_⟩
     ·exact un.keep b o e z (λy=>absurd (show b∈([]:List Addr) from y) (by simp)) (by simp)
     ·have z2:=un.frzs b ob _ z
      obtain⟨e1,_⟩:=M b _ z;obtain⟨e2,_⟩:=A b _ z2;rw[e]at e1;cases e1;exact e2
     ·exact absurd z nb
    have tabs:∀ b∈ts,∃ more,i.heap.get? b=some (PySem.W.tabObj (#[]++more)):=λb hb=>by
     obtain⟨more,z⟩:=un.tbls b _ (hT b hb);exact⟨more,A b _ z⟩
    refine⟨rfl,⟨λb o e=>?_,λb o e=>un.there b o e (by simp)⟩,os,bare⟩;by_cases hb:b∈ts
    ·obtain⟨t1,_,c,t3⟩:=B b hb
     rw[t1]at e;cases e;obtain⟨o2,ws,_,_,_,_,_,_,_,g1,g2,g3,g4,_⟩:=PySem.W.codeHd_of_K W t3;obtain⟨more,z⟩:=tabs b hb;exact .inr (.inl ⟨⟨c,o2,ws,g1,g2,g3,g4⟩,rfl,#[],more,rfl,z⟩)
    ·exact .inl (kept b o e hb)
 have tab:∀ {H:Hp}{p:Addr},p∈ts->ObjOk P w H f.heap p (.tbl #[]):=λC=>(B _ C).1
 cases T:K.lookup a with
 | some o =>
  have e:=W a o T;rw[ha]at e;cases e;refine core (λb=>if b∈ts then some (.tbl #[]) else none) (λb=>?_) (λp C=>Jf C) (.inr ⟨_,vs.toArray,_,T,rfl,rfl,rfl,by rw[Jn,O];exact hl,by simpa using rv⟩) (λb u z=>?_) λz=>absurd (Jd aT) z
  ·by_cases hb:b∈ts
   ·exact .inr (.inr ⟨hb,Jf hb⟩)
   ·exact .inl (Jd hb)
  ·by_cases hb:b∈ts
   ·have j:=(Jf hb).symm.trans z
    cases j;exact tab hb
   ·have j:=(Jd hb).symm.trans z
    cases j
 | none =>
  refine core (λb=>if b∈ts then some (.tbl #[]) else if b=a then some (.frz { cls:=.type "list",data:=.seq vs.toArray } (.lst (ns.map V.int))) else none) (λb=>?_) (λp C=>Jf C) (.inl (.inr ⟨{ cls:=.type "list",data:=.seq vs.toArray },(Jd aT).trans (Jf rfl)⟩)) (λb u z=>?_) λ_=>T
  ·by_cases hb:b∈ts
   ·exact .inr (.inr ⟨hb,Jf hb⟩)
   ·by_cases G:b=a
    ·exact .inr (.inl ⟨G,_,_,(Jd hb).trans (Jf G)⟩)
    ·exact .inl ((Jd hb).trans (Jd G))
  ·by_cases hb:b∈ts
   ·have j:=(Jf hb).symm.trans z
    cases j;exact tab hb
   ·by_cases G:b=a
    ·have j:=((Jd hb).trans (Jf G)).symm.trans z
     cases j;subst G;exact⟨ha,by rw[Jg];exact hl,vs,_,rv,ha⟩
    ·have j:=((Jd hb).trans (Jd G)).symm.trans z
     cases j
theorem ic {l:PySem.W.OpenLaw}{n k:Nat}{q:Program}{loose:List Str}{R:(Str->Option Value)->Heap->Prop}{C:World->Heap->Prop}{d:DefRec}{K:Params->PySem.W.Frag}{CX:CXT}{sp:PySem.W.Frag->Sp}{x:Str}(ts:List Addr)(hn:l.most=some n)(t:n<=sizeLine)(z:d.params.defaults=[])(J:Room k callerA)(N:∀ (w:World) (h:Heap),C w h->(K w.params).In h/\∀ p∈ts,h.get? p=some (PySem.W.tabObj #[]))(F:∀ (w:World) (mg:Str->Option Value) (i:Addr) (h:Heap),(K w.params).In h->h.Ns mainGlobals mg->mg d.name=some (.ref i)->(∀ p∈ts,(K w.params).lookup p=none/\∃ c,PySem.W.codeHdIn (K w.params) c p=true) /\
   ∃ fd:FuncData,(∀ (s:Shared) (u:Value),BindsTo s fd ⟨[u],[]⟩ [(x,u)]) /\
    ∀ base:Heap,(K w.params).In base->base.Ns mainGlobals mg->(∀ p∈ts,base.BuiltinsAt mg p)->FnOk l.prog w (K w.params) mg base CX k i fd [x] (sp (K w.params)))(r:∀ (K:PySem.W.Frag) (H:Hp) (a:Addr) (ns:List Int),ns.length<=n->SqL K H a (ns.map V.int)->(∀ p∈ts,H p=some (.tbl #[]))->sp K [.ref a] H (λv _=>v=.bl true) λ_ _ _=>False)(A:∀ (H:Hp) (s:Shared) (e:Value) (j:Shared),CX [] H s (λ_ _ _=>False) e j->False) :
  PySem.W.WalkO q loose R C l.row.toRowW d [] (λf vs=>PySem.call f vs):=by
 refine Att.attach_call hn z λw E b mg T i o pm cd doc a vs ns G Y U W S y g hints hlen L=>?_;obtain⟨D,I⟩:=N w _ Y;obtain⟨B,fd,M,Q⟩:=F w mg i _ D G.T.g y;exact j4 ts D G.T.g G.T.b G.T.builtins G.T.nolimit L g hints (JR hlen t) J (λp m=>⟨I p m,(B p m).1,(B p m).2⟩) G.T.bmain Q M (λH P O=>r (K w.params) H a ns hlen P O) λH e j=>A H b e j
structure FunC (K:PySem.W.Frag) (x qual:Str) (st:Stmt) (f:Addr) (fd:FuncData) (c:Addr):Prop where
 ex:∃ (oc:Value) (od:Option Addr) (kV doc pm:Value) (an:Option Addr) (ct:Value) (osl:Array (Option Value)),
  fd=PySem.W.fnOf x qual (xK st) (yj st) (zN st) .none kV doc pm an (.ref c) ct/\K.lookup f=some ⟨oc,od,.func fd,osl⟩/\PySem.W.codeIn K (.ref c) qual=true
 kp:PySem.W.keepIn K (.ref f)=true
theorem FunC.ok {P:Program}{w:World}{K:PySem.W.Frag}{mg:Str->Option Value}{base:Heap}{x qual:Str}{st:Stmt}{f c:Addr}{fd:FuncData}{N ps:List Str}{k:Nat}{sp:Sp}(F:FunC K x qual st f fd c)(S:FnScope N ps (zN st))(len:∀ vs H Q E,sp vs H Q E->vs.length=ps.length)(a:∀ (A:Around) (outer:List Env) (s:Shared) (H:Hp) (vs:List V) (Q:VK) (E:XK),Room k (A.deeper (envOfC qual (zN st) s.heap.objs.size f (.ref c)))->sp vs H Q E ->
   ∃ t,PSs (lC CX0 P w K mg base N qual (zN st) f (.ref c) A outer s H E).nox (yj st) t/\t { nx:=λ_ i=>Q .non i,rt:=Q } (start N vs) H):FnOk P w K mg base CX0 (k+1) f fd ps sp:=by
 obtain⟨m,l,kV,doc,pm,an,n,j,rfl,e,d⟩:=F.ex;refine bT e d S len λA outer s H vs Q E g b=>?_;obtain⟨t,h,q⟩:=a A outer s H vs Q E g b;exact⟨t,h.nox,q⟩
end L2
namespace L2
open PySem PySem.Spec PyProof.Rows Own Bn
def wd (N:Nt)(ts:List Int)(lane:Nat):List Int:=(yL false N.forks ts lane N.forks.length).1
def passE (N:Nt)(ts:List Int)(lane:Nat):Nat:=N.ends.idxOf (yL false N.forks ts lane N.forks.length).2
def yN (N:Nt):KN->Nat->Option KN
 | [.inr ts,.inl r],m=>if ((passE N ts m:Nat):Int)=r then some (stK (wd N ts m) [(r+1)%(N.lanes:Nat)]) else none
 | _,_=>none
def OkP (N:Nt)(k:KN):Prop:=∃ (a:List Int) (r:Nat),k=stK a [(r:Nat)]/\a.length=N.forks.length/\Bits a/\r<N.lanes
theorem OkP.st {N:Nt}(ok:Nt.Ok N){k:KN}(h:OkP N k):StOk N.forks.length 1 k:=by
 obtain⟨a,r,rfl,d,c,e⟩:=h;refine⟨a,[(r:Nat)],rfl,d,c,rfl,λx b=>?_⟩;rw[Ja.mp b];have:=ok.l16;lia
theorem rF (N:Nt)(ts:List Int)(lane:Nat):(wd N ts lane).length=ts.length:=wS _
theorem tJ {N:Nt}{ts:List Int}{lane:Nat}(h:Bits ts):Bits (wd N ts lane):=wA h _
theorem wH {N:Nt}(ok:Nt.Ok N){s t:KN}{m:Nat}(h:OkP N s)(e:yN N s m=some t):OkP N t:=by
 obtain⟨a,r,rfl,d,c,f⟩:=h;have b:(if ((passE N a m:Nat):Int)=(r:Nat) then some (stK (wd N a m) [((r:Nat)+1)%(N.lanes:Nat)]) else none)=some t:=e;split at b
 ·cases b
  refine⟨wd N a m,(r+1)%N.lanes,?_,(rF _ _ _).trans d,tJ c,Nat.mod_lt _ (by have:=ok.l1;lia)⟩;rw[Int.natCast_emod];rfl
 ·cases b
def uU:Sp:=λe H Q _=>∃ r fr g f N b k,∃ a:Nat,e=[.ref r,.ref b,.int (a:Nat)]/\Nt.Ok N/\NetAt H r fr g f N/\NKey H k b/\OkP N k/\a<N.lanes /\
 (∀ c,Same H c->yN N k a=none->Q .non c)/\(∀ c d t,Same H c->yN N k a=some t->NKey c t d->Q (.ref d) c)
def wV:LSpc:=λvals c H Q E=>∃ r b,∃ a:Nat,vals=[.ref r]/\c=[.ref b,.int (a:Nat)]/\uU [.ref r,.ref b,.int (a:Nat)] H Q E
theorem fU {H:Hp}{r fr er:Addr}{ps:List V}{N:Nt}{moves:List Nat}(ok:Nt.Ok N)(na:NetAt H r fr er ps N)(lt:∀ m∈moves,m<N.lanes):Led wV [.ref r] (yN N) (OkP N) moves H:=λf s b m Q t os d e c a =>
 ⟨r,b,m,rfl,rfl,r,fr,er,ps,N,b,s,m,rfl,ok,na.tups t,e,os,lt m d,c,a⟩
def TabQ (q:Str)(Pt:Addr)(H:Hp):Prop:=∃ l,H Pt=some (.tbl (triples l).toArray)/\TabOk H q l
theorem TabQ.keep {q:Str}{Pt:Addr}{H H':Hp}(t:TabQ q Pt H)(k:∀ b o,H b=some o->(∃ ps,o=.tbl ps)\/(∃ u v,o=.frz u v)->H' b=some o):TabQ q Pt H':=by
 obtain⟨l,c,a⟩:=t;exact⟨l,k _ _ c (.inl ⟨_,rfl⟩),a.frz λb o u e=>k _ _ e (.inr ⟨_,_,rfl⟩)⟩
theorem TabQ.same {q:Str}{Pt:Addr}{H H':Hp}(t:TabQ q Pt H)(s:Same H H'):TabQ q Pt H':=t.keep λb o e _=>s b o e
theorem TabQ.but {q:Str}{Pt l:Addr}{H H':Hp}{xs:List V}(t:TabQ q Pt H)(b:But l H H')(h:H l=some (.lst xs)):TabQ q Pt H':=t.keep λc o e z=>b c o e λy=>by
 rw[y,h]at e;cases e;rcases z with ⟨_,z⟩|⟨_,_,z⟩<;>cases z
def yB (N:Nt)(moves:List Nat)(most:Nat):LRes:=yW (yN N) moves most (most+1) [(stK (List.replicate N.forks.length 0) [0],List.replicate N.lanes 0)] [] []
def TellV (H:Hp)(p:Addr):LRes->Prop
 | .opn=>H p=some (.tup [.str "open",.non])
 | .brk c=>∃ b,H p=some (.tup [.str "breaks",.ref b])/\H b=some (.tup (c.map V.int))
 | .whl ls=>∃ b bs ks,H p=some (.tup [.str "stair",.ref b])/\H b=some (.tup (List.map V.ref bs))/\KeysAt H bs ks/\BookOf ks ls
def uq:Sp:=λb H Q _=>∃ r fr d c N,b=[.ref r]/\Nt.Ok N/\NetAt H r fr d c N/\∀ p a,Same H a->a p=some (.tup ((List.replicate N.forks.length (0:Int)).map V.int))->Q (.ref p) a
def xT:Sp:=λb H Q _=>∃ r fr d c N,b=[.ref r]/\Nt.Ok N/\NetAt H r fr d c N/\∀ p a,Same H a->NKey a (stK (List.replicate N.forks.length 0) [0]) p->Q (.ref p) a
def vX (q:Str)(Pt:Addr):Sp:=λc H Q _=>∃ r fr e d N b,∃ (moves:List Nat) (most:Nat),c=[.ref r,.ref b,.int (most:Nat)]/\Nt.Ok N/\NetAt H r fr e d N/\H b=some (.tup (moves.map λm=>V.int (m:Nat)))/\(∀ m∈moves,m<N.lanes)/\moves.length<=16/\0<most/\(most<=10000\/moves.length<=1/\most<=100000)/\TabQ q Pt H /\
 ∀ p a,But Pt H a->TabQ q Pt a->TellV a p (yB N moves most)->Q (.ref p) a
structure Whole (Ok:KN->Prop) (most:Nat) (ls:List LvL):Prop where
 ok:∀ lv∈ls,∀ p∈lv,Ok p.1
 few:(ls.map List.length).sum<=most
theorem xh {step:KN->Nat->Option KN}{Ok:KN->Prop}{moves:List Nat}{most:Nat}(g:∀ s m t,Ok s->m∈moves->step s m=some t->Ok t):∀ (m:Nat) (level seen:LvL) (ls a:List LvL),Whole Ok most ls->(ls.map List.length).sum=seen.length->seen.length<=most->(∀ p∈level,Ok p.1)->yW step moves most m level seen ls=.whl a->Whole Ok most a
 | 0,_,_,_,_,_,_,_,_,e=>by cases e
 | m+1,level,seen,ls,a,d,i,le,lo,e=>by
  by_cases c:level=[]
  ·subst c;rw[xO]at e;cases e;exact d
  by_cases h:most<seen.length+level.length
  ·rw[xy c h]at e;cases e
  by_cases f:(yI step (seen++level) moves level).fl=[]
  ·rw[x5 c h f]at e
   have e2:((ls++[level]).map List.length).sum=(seen++level).length:=by rw[Y2,List.sum_append,i,Jb];rfl
   refine xh g m _ (seen++level) _ a ⟨λlv j p b=>?_,?_⟩ e2 (by rw[Jb];simp_all) (λp b=>?_) e
   ·rcases Jy.mp j with z|z
    ·exact d.ok lv z p b
    ·rw[Ja.mp z]at b;exact lo p b
   ·rw[e2,Jb];simp_all
   ·exact(wU (step:=step) (seen:=seen++level) (moves:=moves) (Ok:=Ok) level λp b k l t e=>g _ _ _ (lo p b) l e).ok p b
  ·rw[x6 c h f]at e;cases e
theorem sH {step:KN->Nat->Option KN}{moves:List Nat}{most:Nat}(d:moves.length<=1):∀ (m:Nat) (level seen:LvL) (ls a:List LvL),(∀ lv∈ls,lv.length<=1)->level.length<=1->yW step moves most m level seen ls=.whl a->∀ lv∈a,lv.length<=1
 | 0,_,_,_,_,_,_,e=>by cases e
 | m+1,level,seen,ls,a,c,l1,e=>by
  by_cases b:level=[]
  ·subst b;rw[xO]at e;cases e;exact c
  by_cases h:most<seen.length+level.length
  ·rw[xy b h]at e;cases e
  by_cases f:(yI step (seen++level) moves level).fl=[]
  ·rw[x5 b h f]at e
   refine sH d m _ (seen++level) _ a (λlv g=>?_) ?_ e
   ·rcases Jy.mp g with z|z
    ·exact c lv z
    ·rw[Ja.mp z];exact l1
   ·have:=oV step (seen++level) moves level
    have:level.length*moves.length<=1*1:=Nat.mul_le_mul l1 d;lia
  ·rw[x6 b h f]at e;cases e
theorem TellR.kept {P:Program}{w:World}{H H':Hp}{p:Addr}{R:LRes}(h:TellR P w H p R)(k:∀ b o,H b=some o->(∀ q,o≠FZ q)->H' b=some o):TellR P w H' p R:=by
 have t:Tups H H':=λb f e=>k b _ e λq z=>by cases z
 cases R with
 | opn=>exact t _ _ h
 | brk c=>obtain⟨b,d,a⟩:=h;exact⟨b,t _ _ d,t _ _ a⟩
 | whl ls =>
  obtain⟨l,as,d,a,g⟩:=h;refine⟨l,as,t _ _ d,k _ _ a (λq z=>by cases z),?_⟩;clear d a
  induction g with
  | nil=>exact .nil
  | cons q _ ih =>
   obtain⟨f,e,le⟩:=q;exact .cons ⟨f,k _ _ e (λq z=>by cases z),le.tups t⟩ ih
theorem nv {cs:List (Str × Addr)}{H:Hp}(fz:CellsFz cs H):∀ b o,H b=some o->(∀ q,o≠FZ q)->yT cs H b=some o:=λb o e n=>by
 rw[yD];· exact e
 ·intro a
  obtain⟨q,z⟩:=fz b a;rw[e]at z;exact n q (Jm z)
theorem xu {N:Nt}(ok:Nt.Ok N):OkP N (stK (List.replicate N.forks.length 0) [0]):=⟨_,0,rfl,Z3,λt a=>.inl (List.eq_of_mem_replicate a),ok.l1⟩
end L2
namespace K37
open PySem L2 Own Bn
abbrev qK:Stmt:=top 9
abbrev qL:Stmt:=top 15
abbrev mF:Stmt:=top 16
abbrev pQ:Stmt:=top 14
theorem oe (n:Nat):List.replicate n (V.int 0)=(List.replicate n (0:Int)).map V.int:=(List.map_replicate).symm
theorem nr {ls:List LvL}{lv:LvL}(h:lv∈ls):lv.length<=(ls.map List.length).sum:=by
 induction ls with
 | nil=>cases h
 | cons a ls ih =>
  show lv.length<=a.length+(ls.map List.length).sum;rcases Js.mp h with rfl|z
  ·exact Nat.le_add_right _ _
  ·exact JR (ih z) (Nat.le_add_left _ _)
section
variable {P:Program}{w:World}{K:PySem.W.Frag}{mg:Str->Option Value}{base:Heap}
theorem zbk:FnScope ["net"] ["net"] (zN qK):=by rfl'
theorem jc {f:Addr}{fd:FuncData}(F:Fun K "first_turns" "first_turns" qK f fd) (G:Mgs mg):FnOk P w K mg base CX0 1 f fd ["net"] uq:=by
 refine F.ok zbk (λc H Q E h=>?_) (λm A outer s H c Q E n h=>?_)
 ·obtain⟨r,fr,j,b,N,rfl,_⟩:=h
  rfl
 obtain⟨r,fr,j,b,N,rfl,ok,na,k⟩:=h;refine⟨_,(@zJ _ _ _ (@zV _ _ _ _ (@zS _ _ _ _ _ _ _ _ uX (@zT _ _ _ _ _ (@zA _ _ _ _ _ zH zC (by rfl))) (@zU _ _ _ _ _ _ _ _ _ zo (by rfl) G.len Yd (@zA _ _ _ _ _ (@zi _ _ _ _ _ _ _ yA (@qv _ 0 _ _ (by rfl')) zH (λ_ _=>rfl)) zC (by rfl)) (by decide) (by decide) (by rfl) (by rfl))))),?_⟩;refine⟨by show 1<=sizeLine;decide,λt g=>?_⟩;have a:=zB g (.tup [.int 0]);have e:=na.prs.len;have o:=ok.fm;refine⟨_,rfl,r,_,_,_,rfl,rfl,SqT.of (a _ _ na.net),rfl,fr,b,rfl,.inr (SqT.of (a _ _ na.forks)),t,_,b.length,rfl,rfl,zD,by lia,λp l d i=>k p l (a.trans d) ?_⟩;rw[i,oe,e]
theorem zbl:FnScope ["net"] ["net"] (zN qL):=by rfl'
theorem je {f m:Addr}{fd dT:FuncData}(F:Fun K "first_pair" "first_pair" qL f fd) (a:Use P w K mg base "first_turns" ["net"] 1 uq m dT):FnOk P w K mg base CX0 2 f fd ["net"] xT:=by
 refine F.ok zbl (λe H Q E h=>?_) (λn A outer s H e Q E i h=>?_)
 ·obtain⟨r,fr,d,c,N,rfl,_⟩:=h
  rfl
 obtain⟨r,fr,d,c,N,rfl,ok,na,k⟩:=h;refine⟨_,(@zJ _ _ _ (@zV _ _ _ _ (@zT _ _ _ _ _ (@zA _ _ _ _ _ (@zR _ _ _ _ _ _ _ _ _ _ _ _ _ _ _ _ a.ok i (by rfl) a.m a.kp a.b .nil zu (@zA _ _ _ _ _ (@qv _ 0 _ _ (by rfl')) zC (by rfl)) (by decide) (by rfl) (by rfl)) (@zA _ _ _ _ _ zH zC (by rfl)) (by rfl))))),?_⟩;refine⟨_,rfl,r,fr,d,c,N,rfl,ok,na,λt o g l=>⟨by show 2<=sizeLine;decide,λp j=>?_⟩⟩;have b:=zB j (.tup [.ref t,.int 0]);exact k p _ (g.trans b) (nX (is:=[0]) (t:=t) zD (b _ _ l))
theorem gM:FnScope ["net","pair","lane","turns","rest","onward","end"] ["net","pair","lane"] (zN mF):=by rfl'
theorem gv {f L:Addr}{fd M:FuncData}(F:Fun K "pair_behind" "pair_behind" mF f fd) (g:Use P w K mg base "passed" ["net","turns","lane"] 3 (vY false) L M):FnOk P w K mg base CX0 4 f fd ["net","pair","lane"] uU:=by
 refine F.ok gM (λo H Q E h=>?_) (λR A outer s H o Q E D h=>?_)
 ·obtain⟨r,fr,n,m,N,b,k,a,rfl,_⟩:=h
  rfl
 obtain⟨r,fr,n,m,N,b,k,a,rfl,ok,na,B,⟨d,rest,rfl,u,bits,S⟩,y,x,v⟩:=h;refine⟨_,(@zE _ _ _ _ _ (@yP _ _ _ _ _ _ (@qv _ 1 _ _ (by rfl')) (@yJ _ _ _ _ _ _ rfl (@zK _ _ _ _ _ (@zM _ _ 3 _ gM.nd rfl (.inl rfl) (by rfl')) (@zK _ _ _ _ _ (@zM _ _ 4 _ gM.nd rfl (.inl rfl) (by rfl')) yC (by rfl)) (by rfl)) (by rfl) (by rfl)) (by rfl) (by rfl) (by rfl)) (@zE _ _ _ _ _ (@yP _ _ _ _ _ _ (@zR _ _ _ _ _ _ _ _ _ _ _ _ _ _ _ _ g.ok D (by rfl) g.m g.kp g.b .nil zu (@zA _ _ _ _ _ (@qv _ 0 _ _ (by rfl')) (@zA _ _ _ _ _ (@qv _ 3 _ _ (by rfl')) (@zA _ _ _ _ _ (@qv _ 2 _ _ (by rfl')) zC (by rfl)) (by rfl)) (by rfl)) (by decide) (by rfl) (by rfl)) (@yJ _ _ _ _ _ _ rfl (@zK _ _ _ _ _ (@zM _ _ 5 _ gM.nd rfl (.inl rfl) (by rfl')) (@zK _ _ _ _ _ (@zM _ _ 6 _ gM.nd rfl (.inl rfl) (by rfl')) yC (by rfl)) (by rfl)) (by rfl) (by rfl)) (by rfl) (by rfl) (by rfl)) (@zE _ _ _ _ _ (@yO _ _ _ _ _ _ _ _ (@zY _ _ _ _ _ _ _ _ oF (@qv _ 6 _ _ (by rfl')) (@qv _ 4 _ _ (by rfl')) (zw _)) (@zJ _ _ _ (@zV _ _ _ _ vd)) zr) (@zJ _ _ _ (@zV _ _ _ _ (@zT _ _ _ _ _ (@zA _ _ _ _ _ (@qv _ 5 _ _ (by rfl')) (@zA _ _ _ _ _ (@zS _ _ _ _ _ _ _ _ xi (@zS _ _ _ _ _ _ _ _ yY (@qv _ 4 _ _ (by rfl')) zH) (@zi _ _ _ _ _ _ _ yA (@qv _ 0 _ _ (by rfl')) zH (λ_ _=>rfl))) zC (by rfl)) (by rfl)))))))),?_⟩;obtain⟨t,J,C⟩:=uh B;refine⟨_,rfl,b,_,rfl,SqT.of J,rfl,_,_,rfl,_,_,rfl,rfl,?_⟩;refine⟨_,rfl,_,rfl,_,rfl,r,fr,n,m,N,t,d,a,rfl,ok,na,C,u,bits,y,λp e T i I j=>?_⟩;refine⟨p,_,rfl,SqT.of I,rfl,_,_,rfl,_,_,rfl,rfl,?_⟩;have st:yN N (stK d [(rest:Nat)]) a=if ((passE N d a:Nat):Int)=(rest:Nat) then some (stK (wd N d a) [((rest:Nat)+1)%(N.lanes:Nat)]) else none:=rfl;refine⟨_,rfl,_,rfl,rfl,_,rfl,?_⟩;by_cases c:((passE N d a:Nat):Int)=(rest:Nat)
 ·rw[Jf c]at st
  have O:((List.idxOf (yL false N.forks d a N.forks.length).snd N.ends:Nat):Int)=(rest:Nat):=c;rw[show (!decide (V.int ↑(List.idxOf (yL false N.forks d a N.forks.length).snd N.ends)=V.int ↑rest))=false from by rw[JD (JW V.int O)];rfl];refine yg ⟨_,rfl,_,rfl,_,_,rfl,rfl,_,rfl,r,_,_,_,rfl,rfl,SqT.of (i _ _ na.net),rfl,_,_,rfl,rfl,by have:=ok.l1;lia,by show 2<=sizeLine;decide,λq G=>?_⟩;have l:=zB G (.tup [.ref e,.int (((rest:Nat)+1)%(N.lanes:Nat))]);exact v _ q _ (i.trans l) st (nX (is:=[((rest:Nat)+1)%(N.lanes:Nat)]) (t:=e) zD (l _ _ j))
 ·rw[Jd c]at st
  rw[show (!decide (V.int ↑(List.idxOf (yL false N.forks d a N.forks.length).snd N.ends)=V.int ↑rest))=true from by rw[Jt (λz=>c (by injection z))];rfl];exact xC (x _ i st)
def zaV (q:Str):Stmt->Lam
 | .Assign _ (.Call _ (_::_::_::.Lambda p b s _::_) _ _) _=>⟨p,b,s,q⟩
 | _=>⟨⟨[],[],none,[],[],none,[]⟩,.Name "" ⟨0,0,0,0⟩,zN pQ,q⟩
def qf (q:Str):Lam:=zaV q ((yj pQ).getD 0 (.Pass ⟨0,0,0,0⟩))
theorem bX {us:List Value}(h:us.length=2):∃ u v,us=[u,v]:=by
 match us,h with
 | [u,v],_=>exact⟨u,v,rfl⟩
theorem cO {l:List (Str × NameKind)}{x:Str}{k:NameKind}(h:l.lookup x=some k):(x,k)∈l:=by
 obtain⟨a,c,e,_⟩:=List.lookup_eq_some_iff.mp h;rw[e];exact Jy.mpr (.inr (.head _))
theorem zbi:LamScope ["pair","lane"] ["net"] (qf "").scope:=⟨rfl,rfl,rfl,by decide +kernel,by decide +kernel,by decide +kernel,by decide +kernel,λx a=>(show ∀ y∈(qf "").scope.names,y.2=.free->y.1∈[("net":Str)] from by decide +kernel) _ (cO a) rfl⟩
theorem fg (q:Str) {f:Addr}{fd:FuncData}(d:Use P w K mg base "pair_behind" ["net","pair","lane"] 4 uU f fd):LamQ CX0 P w K mg base 4 (qf q) ["net"] ["pair","lane"] wV:=by
 refine⟨zbi,λvals e H Q E h=>?_,λcl k i pm j n=>by obtain⟨u,v,rfl⟩:=bX i;rfl,λcl l c A outer s H vals e Q E m g fz h=>?_⟩
 ·obtain⟨r,b,a,_,rfl,_⟩:=h
  rfl
 obtain⟨r,b,a,rfl,rfl,h⟩:=h;refine⟨_,zR d.ok g (by rfl) d.m d.kp d.b .nil zu (zA (pv 2) (zA (pv 0) (zA (pv 1) zC))),?_⟩;exact⟨_,rfl,_,rfl,_,rfl,h⟩
theorem eA {sc:Scope}{x0:Str}{env:Env}(h:(sc.names.filter λy=>y.2 == .free)=[(x0,.free)])(k:env.kindOf x0=some .cell):∀ x,(x,NameKind.free)∈sc.names->env.kindOf x=some .cell\/env.kindOf x=some .free:=λx a=>by
 have z:(x,NameKind.free)∈sc.names.filter λy=>y.2 == .free:=List.mem_filter.mpr ⟨a,rfl⟩;rw[h]at z;obtain⟨e,_⟩:=Prod.mk.inj (Ja.mp z);exact .inl (e ▸ k)
theorem zaf {X:Cx}{x:Str}{i:Nat}(d:X.N[i]?=some x)(c:X.env.scope.names.lookup x=some .cell)(b:X.fn x=true):∀ p∈[(x,i)],X.N[p.2]?=some p.1/\X.env.scope.names.lookup p.1=some .cell/\X.fn p.1=true:=λp a=>by
 rw[Ja.mp a];exact⟨d,c,b⟩
theorem oH {cs:List (Str × Addr)}{x:Str}(h:cs.map (·.1)=[x]):∃ c,cs=[(x,c)]:=by
 match cs,h with
 | [(y,c)],h=>exact⟨c,by rw[show y=x from (List.cons.inj h).1]⟩
def qV:Str:=("verdict":Str)++(".<locals>.":Str)++("<lambda>":Str)
theorem bj:FnScope ["net","some","most","word","found"] ["net","some","most"] (zN pQ):=by rfl'
theorem mP {f fC fF fB c Pt:Addr}{fd dC dF dB:FuncData}(F:FunC K "verdict" "verdict" pQ f fd c) (CK:CodeK K mg base c Pt) (UC:Use P w K mg base "climbed" ["first","counts","moves","led","most"] 7 (qE P w K (qf qV) ["net"] wV) fC dC) (UF:Use P w K mg base "first_pair" ["net"] 2 xT fF dF)
  (UB:∀ F0,Use P w K mg base "book_of" ["levels"] 1 (gC P w F0 1) fB dB):FnOk P w K mg base CX0 8 f fd ["net","some","most"] (vX qV Pt):=by
 refine F.ok bj (λD H Q E h=>?_) (λA outer s H D Q E hr h=>?_)
 ·obtain⟨r,fr,er,ps,N,sm,moves,most,rfl,_⟩:=h
  rfl
 obtain⟨r,fr,er,ps,N,sm,moves,most,rfl,ok,na,aT,mlt,ml,mp,mb,tab,k⟩:=h;refine⟨_,(@zE _ _ _ _ _ (@yP _ _ _ _ _ _ (gn (E:=E0) UC.ok hr (by rfl) UC.m UC.kp UC.b [("net",0)] (by decide) (zaf rfl rfl rfl) (@zA _ _ _ _ _ (@zR _ _ _ _ _ _ _ _ _ _ _ _ _ _ _ _ UF.ok (hr.mono (by decide)) (by rfl) UF.m UF.kp UF.b .nil zu (@zA _ _ _ _ _ (@qv _ 0 _ _ (by rfl')) zC (by rfl)) (by decide) (by rfl) (by rfl)) (@zA _ _ _ _ _ (@zS _ _ _ _ _ _ _ _ uX (@zT _ _ _ _ _ (@zA _ _ _ _ _ zH zC (by rfl))) (@zi _ _ _ _ _ _ _ yA (@qv _ 0 _ _ (by rfl')) zH (λ_ _=>rfl))) (@zA _ _ _ _ _ (@qv _ 1 _ _ (by rfl')) (@zA _ _ _ _ _ (aQ (fr:=["net"]) CK rfl rfl (eA (x0:="net") rfl rfl) rfl) (@zA _ _ _ _ _ (@qv _ 2 _ _ (by rfl')) zC (by rfl)) (by rfl)) (by rfl)) (by rfl)) (by rfl))) (@yJ _ _ _ _ _ _ rfl (@zK _ _ _ _ _ (@zM _ _ 3 _ bj.nd rfl (.inl rfl) (by rfl')) (@zK _ _ _ _ _ (@zM _ _ 4 _ bj.nd rfl (.inl rfl) (by rfl')) yC (by rfl)) (by rfl)) (by rfl) (by rfl)) (by rfl) (by rfl) (by rfl)) (@zE _ _ _ _ _ (@yO _ _ _ _ _ _ _ _ (@zY _ _ _ _ _ _ _ _ xA (@qv _ 3 _ _ (by rfl')) xH (zw _)) (@zJ _ _ _ (@zV _ _ _ _ (@zT _ _ _ _ _ (@zA _ _ _ _ _ xH (@zA _ _ _ _ _ (@zR _ _ _ _ _ _ _ _ _ _ _ _ _ _ _ _ (UB N.forks.length).ok (hr.mono (by decide)) (by rfl) (UB 0).m (UB 0).kp (UB 0).b .nil zu (@zA _ _ _ _ _ (@qv _ 4 _ _ (by rfl')) zC (by rfl)) (by decide) (by rfl) (by rfl)) zC (by rfl)) (by rfl))))) zr) (@zJ _ _ _ (@zV _ _ _ _ (@zT _ _ _ _ _ (@zA _ _ _ _ _ (@qv _ 3 _ _ (by rfl')) (@zA _ _ _ _ _ (@qv _ 4 _ _ (by rfl')) zC (by rfl)) (by rfl))))))),?_⟩;have a8:=ok.l16;refine⟨_,rfl,r,fr,er,ps,N,rfl,ok,na,λb0 H1 s1 k1=>⟨by show 1<=sizeLine;decide,λt ht=>?_⟩⟩;have s2:=zB ht (.tup [.int 0]);refine⟨_,rfl,r,_,_,_,rfl,rfl,SqT.of (s2 _ _ (s1 _ _ na.net)),rfl,t,_,N.lanes,rfl,rfl,zD,by lia,λc0 H2 s3 h3=>?_⟩;rw[oe]at h3;have Z:=(s1.trans s2).trans s3;obtain⟨l,hP,tok⟩:=tab.same Z;refine⟨_,rfl,l,hP,tok,λfL cl l' H3 a6 a7 hf raw a3 T kp=>?_⟩;refine⟨_,rfl,[.ref r],rfl,λj x i v hx hv=>?_,λcs I a5 Y nd ca out S=>?_⟩
 ·cases j with
  | zero=>cases hx;cases hv;rfl
  | succ j=>cases hx
 obtain⟨a,rfl⟩:=oH a6;obtain⟨c2,rfl⟩:=oH a5;have cc:a=c2:=Jm ((a7 _ (.head _)).symm.trans (Y _ (.head _)));subst cc;have b3:But Pt H H3:=λb o e n=>kp b o (Z b o e) n
 have d:Same H3 I:=λb o e=>by
  rw[out b λL=>by rw[S b L]at e;cases e];exact e
 have ab:NetAt I r fr er ps N:=(na.tups (Tups.of Z)).tups λb xs e=>d _ _ (kp _ _ e (yQ e hP λz=>by cases z));have C:Tups H2 I:=λb xs e=>d _ _ (kp _ _ e (yQ e hP λz=>by cases z))
 have X:LamRaw I fL (qf qV) [("net",a)]:=by
  obtain⟨pm,cd,ct,oc,fs,tk,r1,r2,r3,r4⟩:=raw.ex;exact⟨pm,cd,ct,oc,fs,tk,d _ _ r1,d _ _ r2,r3,r4⟩
 have la:LamAt I fL (qf qV) [("net",a)] [.ref r]:=X.at_ ca (JP.mpr ⟨Jz,YS⟩) (JP.mpr ⟨Jz,YS⟩) rfl λi x c v hx hv=>⟨i,hx,hv⟩;have W:Way K I sm fL (qf qV) ["net"] wV [("net",a)] [.ref r] (yN N) (OkP N) moves N.lanes:=⟨.inl (C _ _ (Z _ _ aT)),rfl,la,fU ok ab mlt,mlt,λs m t os _ e=>wH ok os e,by lia⟩;refine⟨b0,c0,sm,fL,_,List.replicate N.lanes 0,moves,[("net",a)],[.ref r],yN N,OkP N,N.lanes,most,rfl,(k1.tups (Tups.of (s2.trans s3))).tups C,C _ _ h3,Z3,xu ok,W,by lia,ml,mp,λp G s5 tell=>?_⟩
 have a4:CellsFz [("net",a)] G:=λb L=>by
  obtain⟨o,z⟩:=ca.fz b L;exact⟨o,s5 _ _ z⟩
 replace tell:=TellR.kept tell (nv a4)
 have O:Same H3 (yT [("net",a)] G):=λb o e=>by
  rw[yD λL=>by rw[S b L]at e;cases e];exact s5 _ _ (d _ _ e)
 have b6:But Pt H (yT [("net",a)] G):=b3.trans (But.of O);have y:TabQ qV Pt (yT [("net",a)] G):=TabQ.same ⟨l',a3,T⟩ O;show zag _ _ _ _ _ (yT [("net",a)] G) _;generalize yT [("net",a)] G=H6 at *
 have fin:∀ (q:Addr) (D:List V) (R:LRes),H6 q=none->yB N moves most=R->TellV (L2.upd H6 q (.tup D)) q R->Q (.ref q) (L2.upd H6 q (.tup D)):=λq D R g e z=>by
  have J:=zB g (.tup D);refine k q _ (b6.trans (But.of J)) (y.same J) ?_;rw[e];exact z
 change TellR P w H6 p (yB N moves most) at tell
 cases u:yB N moves most with
 | opn =>
  rw[u]at tell;refine⟨p,_,rfl,SqT.of tell,rfl,_,_,rfl,_,_,rfl,rfl,?_⟩;refine⟨_,rfl,rfl,false,JW V.bl (Jt λz=>absurd (V.str.inj z) (by decide)),yg ?_⟩
  exact⟨_,rfl,_,rfl,by show 2<=sizeLine;decide,λq g=>fin q _ .opn g u zD⟩
 | brk bc =>
  rw[u]at tell;obtain⟨b,M,h2⟩:=tell;refine⟨p,_,rfl,SqT.of M,rfl,_,_,rfl,_,_,rfl,rfl,?_⟩;refine⟨_,rfl,rfl,false,JW V.bl (Jt λz=>absurd (V.str.inj z) (by decide)),yg ?_⟩
  exact⟨_,rfl,_,rfl,by show 2<=sizeLine;decide,λq g=>fin q _ (.brk bc) g u ⟨b,zD,zB g _ _ _ h2⟩⟩
 | whl ls =>
  rw[u]at tell;obtain⟨ll,as,M,h2,h3⟩:=tell;refine⟨p,_,rfl,SqT.of M,rfl,_,_,rfl,_,_,rfl,rfl,?_⟩;refine⟨_,rfl,rfl,true,JW V.bl (JD rfl),xC ?_⟩;have wh:=xh (Ok:=OkP N) (moves:=moves) (λs m t os _ e=>wH ok os e) _ _ [] [] ls ⟨λlv B=>absurd B Jz,JJ _⟩ rfl (JJ _) (λp hp=>by rw[Ja.mp hp];exact xu ok) u;have U:moves.length<=1->∀ lv∈ls,lv.length<=1:=λM=>sH M _ _ [] [] ls (λlv B=>absurd B Jz) (Je _) u;have wf:=wh.few;refine⟨_,rfl,ll,as,ls,rfl,h2,h3,λlv B=>⟨?_,λp hp=>(wh.ok lv B p hp).st ok⟩,by lia,λq bs ks H7 J g ao bk=>?_⟩
  ·rcases mb with z|z
   ·have:=nr B
    lia
   ·have:=U z.1 lv B
    lia
  refine⟨by show 2<=sizeLine;decide,λq2 a0=>?_⟩;have s8:=zB a0 (.tup [.str "stair",.ref q]);refine k q2 _ ((b6.trans (But.of J)).trans (But.of s8)) ((y.same J).same s8) ?_;rw[u];exact⟨q,bs,ks,zD,s8 _ _ g,ao.tups (Tups.of s8),bk⟩
end
end K37
namespace L2
open PySem
theorem mw {c:TT}{d b u:TS}{D:Ends}{σ:St}{H:Hp}(I:St->Hp->Prop)(key:∀ σ H,I σ H->u D σ H)(h:∀ a:Ends,(∀ σ H,I σ H->a.nx σ H)->a.rt=D.rt->bf c d b a σ H):wa (bf c d b) u D σ H:=h { D with nx:=u D } key rfl
theorem za4 {v:V}{i:Nat}{u:TS}{D:Ends}{σ:St}{H:Hp}(h:u D (σ.set i (some v)) H):wa (dX (tC v) (vQ i)) u D σ H:=h
theorem wK {H H':Hp}{x:Addr}(s:Same H H')(h:H' x=none):H x=none:=by
 cases e:H x with
 | none=>rfl
 | some o=>rw[s _ _ e]at h;cases h
def bN (K:PySem.W.Frag):List V->Hp->VK->Prop:=λb H Q=>∃ p a,b=[V.ref p]/\(SqL K H p a\/SqT K H p a)/\Q (V.int a.length) H
theorem iP {X:Cx}:CallR X (.builtin "len") (bN X.K):=zo
end L2
namespace Bn
open PySem L2 Own
structure Pk3 (H:Hp) (l:Addr):Prop where
 ex:∃ a b c:Int,H l=some (.lst [.int a,.int b,.int c])/\0<=a/\0<=b/\b<2 ^ 31
theorem Pk3.keep {H H':Hp}{l:Addr}(S:Pk3 H l)(s:Same H H'):Pk3 H' l:=by
 obtain⟨a,b,c,h,r⟩:=S.ex;exact⟨a,b,c,s _ _ h,r⟩
theorem Pk3.lst {H:Hp}{l:Addr}(S:Pk3 H l):∃ xs,H l=some (.lst xs):=by
 obtain⟨a,b,c,h,_⟩:=S.ex;exact⟨_,h⟩
theorem Pk3.ne {H:Hp}{l p:Addr}(S:Pk3 H l)(h:H p=none):l≠p:=by
 obtain⟨a,e⟩:=S.lst;exact zF e h
theorem Pk3.upd {H:Hp}{l p:Addr}{o:HO}(S:Pk3 H l)(h:l≠p):Pk3 (upd H p o) l:=by
 obtain⟨a,b,c,e,r⟩:=S.ex;exact⟨a,b,c,by rw[zG h];exact e,r⟩
theorem But.tups3 {H H':Hp}{l:Addr}(x:But l H H')(S:Pk3 H l):Tups H H':=λa b e=>x a _ e (by
 rintro rfl;obtain⟨_,z⟩:=S.lst
 rw[z]at e;cases e)
def qC (K:PySem.W.Frag):Sp:=λc H Q _=>∃ (a:Addr) (ns:List Int) (k:Int),c=[.ref a,.int k]/\SqL K H a (ns.map V.int)/\ns.length<=63/\0<=k/\k<=1000/\∀ l b,H l=none->Same H b->Pk3 b l->Q (.ref l) b
def vF:Sp:=λa H Q _=>∃ (l:Addr) (m:Int),a=[.ref l,.int m]/\0<m/\m<1073741824/\Pk3 H l/\∀ (v:Nat) H',(v:Int)<m->Pk3 H' l->But l H H'->Q (.int v) H'
end Bn
namespace K37
open PySem L2 Own Bn
abbrev gQ:Stmt:=top 18
abbrev gN:Stmt:=top 19
section
variable {P:Program}{w:World}{K:PySem.W.Frag}{mg:Str->Option Value}{base:Heap}
theorem scK:FnScope ["_law_left_here","_law_many","_law_digit"] ["_law_left_here","_law_many"] (zN gN):=by rfl'
theorem dz {f:Addr}{fd:FuncData}(F:Fun K "_law_pick" "_law_pick" gN f fd):FnOk P w K mg base CX0 1 f fd ["_law_left_here","_law_many"] vF:=by
 refine F.ok scK (λy H Q E h=>?_) (λL A outer s H y Q E M h=>?_)
 ·obtain⟨l,m,rfl,_⟩:=h
  rfl
 obtain⟨l,m,rfl,g,z,S,k⟩:=h;obtain⟨a,b,c,d,r,D,C⟩:=S.ex;refine⟨_,(@zE _ _ _ _ _ (@yO _ _ _ _ _ _ _ _ (@zY _ _ _ _ _ _ _ _ lZ (@zi _ _ _ _ _ _ _ yE (@qv _ 0 _ _ (by rfl')) zH (λ_ _=>rfl)) zH (zw _)) (@zE _ _ _ _ _ (@zp _ _ 2 _ _ _ _ scK.nd rfl (.inl rfl) (@zS _ _ _ _ _ _ _ _ xi (@zi _ _ _ _ _ _ _ yE (@qv _ 0 _ _ (by rfl')) zH (λ_ _=>rfl)) (@qv _ 1 _ _ (by rfl'))) (by rfl) (by rfl')) (@zE _ _ _ _ _ (@yP _ _ _ _ _ _ (@zS _ _ _ _ _ _ _ _ vM (@zi _ _ _ _ _ _ _ yE (@qv _ 0 _ _ (by rfl')) zH (λ_ _=>rfl)) (@qv _ 1 _ _ (by rfl'))) (@wq _ _ _ _ _ _ _ (@qv _ 0 _ _ (by rfl')) zH xU (by intro _;rfl)) (by rfl) (by rfl) (by rfl)) (@zJ _ _ _ (@zV _ _ _ _ (@qv _ 2 _ _ (by rfl')))))) zr) (@zE _ _ _ _ _ (@yP _ _ _ _ _ _ (@zS _ _ _ _ _ _ _ _ yY (@zi _ _ _ _ _ _ _ yE (@qv _ 0 _ _ (by rfl')) zH (λ_ _=>rfl)) zH) (@wq _ _ _ _ _ _ _ (@qv _ 0 _ _ (by rfl')) zH xU (by intro _;rfl)) (by rfl) (by rfl) (by rfl)) (@zE _ _ _ _ _ (@yP _ _ _ _ _ _ (@zS _ _ _ _ _ _ _ _ xi (@zS _ _ _ _ _ _ _ _ yY (@zS _ _ _ _ _ _ _ _ yY (@zS _ _ _ _ _ _ _ _ vg (@zi _ _ _ _ _ _ _ yE (@qv _ 0 _ _ (by rfl')) zH (λ_ _=>rfl)) zH) zH) (@zi _ _ _ _ _ _ _ yE (@qv _ 0 _ _ (by rfl')) zH (λ_ _=>rfl))) zH) (@wq _ _ _ _ _ _ _ (@qv _ 0 _ _ (by rfl')) zH xU (by intro _;rfl)) (by rfl) (by rfl) (by rfl)) (@zJ _ _ _ (@zV _ _ _ _ (@zS _ _ _ _ _ _ _ _ xi (@zS _ _ _ _ _ _ _ _ vM (@zS _ _ _ _ _ _ _ _ xi (@zS _ _ _ _ _ _ _ _ vg (@zi _ _ _ _ _ _ _ yE (@qv _ 0 _ _ (by rfl')) zH (λ_ _=>rfl)) (@zi _ _ _ _ _ _ _ yE (@qv _ 0 _ _ (by rfl')) zH (λ_ _=>rfl))) zH) zH) (@qv _ 1 _ _ (by rfl')))))))),?_⟩
 have fin:∀ (x:Int) (i:Hp),0<=x->x<m->Pk3 i l->But l H i->Q (.int x) i:=λx i u t G J=>by
  obtain⟨v,rfl⟩:=ZU u;exact k v i t G J
 refine⟨_,rfl,l,_,_,_,rfl,rfl,SqL.of d,rfl,_,_,rfl,rfl,_,rfl,sQ (λq=>?_) (λq=>?_)⟩
 ·refine⟨_,rfl,l,_,_,_,rfl,rfl,SqL.of d,rfl,_,rfl,_,_,rfl,rfl,g,?_⟩
  refine⟨_,rfl,l,_,_,_,rfl,rfl,SqL.of d,rfl,_,rfl,_,_,rfl,rfl,⟨g,z⟩,_,rfl,l,_,_,0,rfl,rfl,d,rfl,_,rfl,?_⟩;exact fin _ _ (Wn _ (by lia)) (Wz _ g) ⟨a / m,b,c,zD,Int.ediv_nonneg r (by lia),D,C⟩ λx o e ne=>by rw[zG ne];exact e
 ·refine⟨_,rfl,l,_,_,_,rfl,rfl,SqL.of d,rfl,_,_,rfl,rfl,_,rfl,l,_,_,2,rfl,rfl,d,rfl,?_⟩
  have n:L2.upd H l (.lst ([V.int a,V.int b,V.int c].set 2 (V.int (c+1)))) l=some (.lst [.int a,.int b,.int (c+1)]):=zD;have I:But l H (L2.upd H l (.lst ([V.int a,V.int b,V.int c].set 2 (V.int (c+1))))):=λx o e ne=>by rw[zG ne];exact e
  show wa _ _ _ _ (L2.upd H l (.lst ([V.int a,V.int b,V.int c].set 2 (V.int (c+1)))));generalize L2.upd H l (.lst ([V.int a,V.int b,V.int c].set 2 (V.int (c+1))))=H1 at *;refine⟨_,rfl,l,_,_,_,rfl,rfl,SqL.of n,rfl,_,_,rfl,rfl,.inr ⟨by decide,by decide⟩,_,_,rfl,rfl,_,rfl,l,_,_,_,rfl,rfl,SqL.of n,rfl,_,_,rfl,rfl,_,_,rfl,rfl,(by show (0:Int)<2147483647;decide),_,rfl,l,_,_,1,rfl,rfl,n,rfl,?_⟩;have B:0<=(b*48271+12345+(c+1))%2147483647:=Wn _ (by decide);have N:(b*48271+12345+(c+1))%2147483647<2147483647:=Wz _ (by decide);generalize p:L2.upd H1 l (HO.lst ([V.int a,V.int b,V.int (c+1)].set 1 (V.int ((b*48271+12345+(c+1))%2147483647))))=H2;have j:H2 l=some (.lst [.int a,.int ((b*48271+12345+(c+1))%2147483647),.int (c+1)]):=by rw[<- p];exact zD
  refine⟨_,rfl,l,_,_,_,rfl,rfl,SqL.of j,rfl,_,rfl,l,_,_,_,rfl,rfl,SqL.of j,rfl,_,_,rfl,rfl,.inl ⟨by grind,by grind⟩,_,_,rfl,rfl,(by show (0:Int)<1999999973;decide),_,_,rfl,rfl,⟨by decide,by decide⟩,_,rfl,_,_,rfl,rfl,g,?_⟩;exact fin _ _ (Wn _ (by lia)) (Wz _ g) ⟨a,_,_,j,r,B,by grind⟩ λx o e ne=>by rw[<- p,zG ne];exact I x o e ne
theorem scL:FnScope ["_law_script","_law_k","_law_cell","_law_digits"] ["_law_script","_law_k"] (zN gQ):=by rfl'
theorem cC {f:Addr}{fd:FuncData}(F:Fun K "_law_left" "_law_left" gQ f fd) (G:Mgs mg):FnOk P w K mg base CX0 1 f fd ["_law_script","_law_k"] (qC K):=by
 refine F.ok scL (λn H Q E h=>?_) (λy A outer s H n Q E I h=>?_)
 ·obtain⟨a,ns,k,rfl,_⟩:=h
  rfl
 obtain⟨a,ns,k,rfl,e,v,C,B,q⟩:=h;refine⟨_,(@zE _ _ _ _ _ (@zp _ _ 2 _ _ _ _ scL.nd rfl (.inl rfl) zH (by rfl) (by rfl')) (@zE _ _ _ _ _ (@yO _ _ _ _ _ _ _ _ (@zY _ _ _ _ _ _ _ _ lZ (@zU _ _ _ _ _ _ _ _ _ zo (by rfl) G.len Yd (@zA _ _ _ _ _ (@qv _ 0 _ _ (by rfl')) zC (by rfl)) (by decide) (by decide) (by rfl) (by rfl)) zH (zw _)) (@zJ _ _ _ (@zp _ _ 2 _ _ _ _ scL.nd rfl (.inl rfl) (@zi _ _ _ _ _ _ _ yE (@qv _ 0 _ _ (by rfl')) (@zS _ _ _ _ _ _ _ _ xi (@qv _ 1 _ _ (by rfl')) (@zU _ _ _ _ _ _ _ _ _ zo (by rfl) G.len Yd (@zA _ _ _ _ _ (@qv _ 0 _ _ (by rfl')) zC (by rfl)) (by decide) (by decide) (by rfl) (by rfl))) (λ_ _=>rfl)) (by rfl) (by rfl'))) zr) (@zE _ _ _ _ _ (@zp _ _ 3 _ _ _ _ scL.nd rfl (.inl rfl) (@zS _ _ _ _ _ _ _ _ vg (@zS _ _ _ _ _ _ _ _ xi (@zU _ _ _ _ _ _ _ _ _ nS (by rfl) G.abs (by rfl) (@zA _ _ _ _ _ (@qv _ 2 _ _ (by rfl')) zC (by rfl)) (by decide) (by decide) (by rfl) (by rfl)) (@zS _ _ _ _ _ _ _ _ gp zH zH)) (@zv _ _ _ _ _ _ _ _ _ iQ (by rfl) G.int (by rfl) (@zA _ _ _ _ _ (@vL _ _ _ _ _ _ _ _ zaL (@zU _ _ _ _ _ _ _ _ _ nS (by rfl) G.abs (by rfl) (@zA _ _ _ _ _ (@qv _ 2 _ _ (by rfl')) zC (by rfl)) (by decide) (by decide) (by rfl) (by rfl)) (@zS _ _ _ _ _ _ _ _ gp zH zH) (zw _)) zC (by rfl)) (by decide) (by decide) (by rfl) (by rfl))) (by rfl) (by rfl')) (@zJ _ _ _ (@zV _ _ _ _ (@yR _ _ _ _ (@zA _ _ _ _ _ (@qv _ 3 _ _ (by rfl')) (@zA _ _ _ _ _ (@zS _ _ _ _ _ _ _ _ xi (@zS _ _ _ _ _ _ _ _ vg (@zS _ _ _ _ _ _ _ _ yY (@zS _ _ _ _ _ _ _ _ yY (@zS _ _ _ _ _ _ _ _ xi (@qv _ 2 _ _ (by rfl')) zH) (@zS _ _ _ _ _ _ _ _ vg (@zS _ _ _ _ _ _ _ _ vg zH (@qv _ 1 _ _ (by rfl'))) (@qv _ 1 _ _ (by rfl')))) zH) zH) zH) (@zA _ _ _ _ _ zH zC (by rfl)) (by rfl)) (by rfl)))))))),?_⟩;have d:(ns.map V.int).length=ns.length:=Jg _;refine za4 ?_;refine mw (λσ m=>m=H/\∃ x:Int,σ=[some (.ref a),some (.int k),some (.int x),none]) ?_ λD c _=>?_
 ·rintro σ m ⟨rfl,x,rfl⟩
  have o:=Wn ((x%2305843009213693951+7919*k*k+11)*48271) (show (2147483647:Int)≠0 by decide);have J:=Wz ((x%2305843009213693951+7919*k*k+11)*48271) (show (0:Int)<2147483647 by decide);have u:∀ b:Bool,(0:Int)<=(if b=true then (1:Int) else 0):=by decide
  have t:∀ b:Bool,-(2 ^ 64)<(if b=true then (1:Int) else 0)/\(if b=true then (1:Int) else 0)<2 ^ 64:=by decide
  refine⟨_,rfl,_,rfl,_,_,rfl,rfl,⟨by decide,by decide,by decide⟩,_,_,rfl,rfl,(by show (0:Int)<10 ^ 60;decide),?_⟩;refine⟨_,rfl,_,rfl,_,_,rfl,rfl,⟨by decide,by decide,by decide⟩,_,_,rfl,rfl,.inr ⟨_,rfl,_,_,rfl,rfl,.inr (t _),?_⟩⟩;refine⟨_,rfl,_,rfl,_,_,rfl,rfl,(by show (0:Int)<2305843009213693951;decide),_,rfl,_,_,rfl,rfl,.inl ⟨by decide,by decide⟩,_,rfl,_,_,rfl,rfl,.inr ⟨by lia,by lia⟩,_,_,rfl,rfl,_,_,rfl,rfl,_,_,rfl,rfl,.inr ⟨by decide,by decide⟩,_,_,rfl,rfl,(by show (0:Int)<2147483647;decide),(by show 3<=sizeLine;decide),λl g=>?_⟩;refine q l _ g (zB g _) ⟨_,_,_,zD,Int.mul_nonneg (Wn _ (by decide)) (u _),o,by grind⟩
 refine⟨_,rfl,a,_,rfl,.inl e,_,_,rfl,rfl,_,rfl,sQ (λz=>?_) (λz=>?_)⟩
 ·have np:0<ns.length:=by
   have:=Ze z;rw[d]at this;simp_all
  refine⟨_,rfl,_,rfl,_,rfl,a,_,rfl,.inl e,_,_,rfl,rfl,by rw[d];simp_all,?_⟩;have r:=Wn k (show ((ns.length:Nat):Int)≠0 by lia);have p:=Wz k (show (0:Int)<(ns.length:Nat) by simp_all);rw[d];obtain⟨j,i⟩:=ZU r;rw[i]at p;exact⟨a,_,k%(ns.length:Nat),_,rfl,rfl,e,(by rw[i];exact vz (by simp_all)),c _ _ ⟨rfl,_,rfl⟩⟩
 ·exact c _ _ ⟨rfl,0,rfl⟩
end
end K37
namespace L2
open PySem PySem.Spec PyProof.Rows Own
theorem FnOk.any {P:Program}{w:World}{K:PySem.W.Frag}{mg:Str->Option Value}{base:Heap}{CX:CXT}{k:Nat}{f:Addr}{fd:FuncData}{ps:List Str}{sp:Nat->Sp}(M:Nat)(F:∀ m,m<=M->FnOk P w K mg base CX k f fd ps (sp m)) :
  FnOk P w K mg base CX k f fd ps (λvs H Q E=>∃ m,m<=M/\sp m vs H Q E) :=
 ⟨λvs H Q E ⟨m,a,q⟩=>(F m a).len vs H Q E q,λA outer s H args b vs Q E d e g c ⟨m,a,q⟩=>(F m a).run A outer s H args b vs Q E d e g c q⟩
end L2
namespace Bn
open PySem L2 Own
def xQ:Nat->List Nat->List Fk × List Nat
 | 0,row=>([],row)
 | m+1,row=>((row.getD 0 0,row.getD (row.length / 2) 0)::((xQ m (row.take (row.length / 2))).1++(xQ m (row.drop (row.length / 2))).1),yU (xQ m (row.take (row.length / 2))).2 (xQ m (row.drop (row.length / 2))).2)
def mergeN:Nat->List Nat->List Nat->List Fk × List Nat
 | 0,a,b=>(a.zip b,a++b)
 | m+1,a,b=>((mergeN m (by2 0 a) (by2 1 b)).1++(mergeN m (by2 1 a) (by2 0 b)).1++(mergeN m (by2 0 a) (by2 1 b)).2.zip (mergeN m (by2 1 a) (by2 0 b)).2,yU (mergeN m (by2 0 a) (by2 1 b)).2 (mergeN m (by2 1 a) (by2 0 b)).2)
def xF:Nat->List Nat->List Fk × List Nat
 | 0,row=>([],row)
 | m+1,row=>((xF m (row.take (row.length / 2))).1++(xF m (row.drop (row.length / 2))).1++(mergeN m (xF m (row.take (row.length / 2))).2 (xF m (row.drop (row.length / 2))).2).1,(mergeN m (xF m (row.take (row.length / 2))).2 (xF m (row.drop (row.length / 2))).2).2)
theorem vB {m n:Nat}(h:n=2 ^ (m+1)):n / 2=2 ^ m/\n-n / 2=2 ^ m/\n / 2<=n:=by
 rw[ZF]at h;lia
theorem wL {m:Nat}{row:List Nat}(h:row.length=2 ^ (m+1)):(row.take (row.length / 2)).length=2 ^ m/\(row.drop (row.length / 2)).length=2 ^ m:=by
 obtain⟨a,b,c⟩:=vB h;rw[JC,Yh];exact⟨by rw[Zr c];exact a,b⟩
theorem vV {α:Type}{m:Nat}{a:List α}(h:a.length=2 ^ (m+1)):(by2 0 a).length=2 ^ m/\(by2 1 a).length=2 ^ m:=by
 rw[qo 0 (by decide),qo 1 (by decide),h,ZF];lia
theorem vC:∀ (m:Nat) (row:List Nat),row.length=2 ^ m->(xQ m row).2.length=2 ^ m/\(xQ m row).1.length+1=2 ^ m
 | 0,row,h=>⟨h,rfl⟩
 | m+1,row,h=>by
  obtain⟨a,b⟩:=wL h;obtain⟨c,f⟩:=vC m _ a;obtain⟨d,e⟩:=vC m _ b;show (yU _ _).length=_/\(_::(_++_)).length+1=_;rw[xP _ _ (c.trans d.symm),JM,Jb,c,ZF];exact⟨by lia,by grind⟩
theorem xM:∀ (m:Nat) (a b:List Nat),a.length=2 ^ m->b.length=2 ^ m->(mergeN m a b).2.length=2 ^ (m+1)/\(mergeN m a b).1.length=(m+1)*2 ^ m
 | 0,a,b,ha,hb=>by
  show (a++b).length=_/\(a.zip b).length=_
  rw[Jb,ZN,ha,hb];exact⟨rfl,rfl⟩
 | m+1,a,b,ha,hb=>by
  obtain⟨j,a1⟩:=vV ha;obtain⟨i,h⟩:=vV hb;obtain⟨d,g⟩:=xM m _ _ j h;obtain⟨c,f⟩:=xM m _ _ a1 i;show (yU _ _).length=_/\(_++_++List.zip _ _).length=_;rw[xP _ _ (d.trans c.symm),Jb,Jb,ZN,d,c,g,f,Nat.min_self];have e:(m+1)*2 ^ m+(m+1)*2 ^ m=(m+1)*2 ^ (m+1):=by rw[<- Nat.two_mul,ZF,Nat.mul_left_comm,Nat.mul_comm 2 (2 ^ m)]
  refine⟨by rw[ZF 2 (m+1),Nat.mul_comm],?_⟩;rw[e,<- Nat.succ_mul]
def vW:Nat->Nat
 | 0=>0
 | m+1=>vW m+vW m+(m+1)*2 ^ m
theorem vE:∀ m,m<=10->vW m<=100000/\(m+1)*2 ^ m<=20000:=by decide +kernel
theorem wQ:∀ (m:Nat) (row:List Nat),row.length=2 ^ m->(xF m row).2.length=2 ^ m/\(xF m row).1.length=vW m
 | 0,row,h=>⟨h,rfl⟩
 | m+1,row,h=>by
  obtain⟨a,b⟩:=wL h;obtain⟨i,g⟩:=wQ m _ a;obtain⟨f,e⟩:=wQ m _ b;obtain⟨d,c⟩:=xM m _ _ i f;refine⟨d,?_⟩;show (List.append (List.append _ _) _).length=vW m+vW m+(m+1)*2 ^ m;rw[List.append_eq,List.append_eq,Jb,Jb,c,g,e]
def xq (k:Nat):Nt:=⟨2 ^ k,(xQ k (List.range (2 ^ k))).1,(xQ k (List.range (2 ^ k))).2⟩
def xS (k:Nat):Nt:=⟨2 ^ k,(xF k (List.range (2 ^ k))).1,(xF k (List.range (2 ^ k))).2⟩
def au (m:Nat):Nt:=⟨2 ^ (m+1),(mergeN m ((List.range (2 ^ (m+1))).take (2 ^ m)) ((List.range (2 ^ (m+1))).drop (2 ^ m))).1,(mergeN m ((List.range (2 ^ (m+1))).take (2 ^ m)) ((List.range (2 ^ (m+1))).drop (2 ^ m))).2⟩
theorem ip:∀ k,k<5->(xq k).forks.length<=128/\(∀ f∈(xq k).forks,f.1<2 ^ k/\f.2<2 ^ k/\f.1≠f.2)/\(xq k).ends.Perm (List.range (2 ^ k)):=by decide +kernel
theorem jH:∀ k,k<5->(xS k).forks.length<=128/\(∀ f∈(xS k).forks,f.1<2 ^ k/\f.2<2 ^ k/\f.1≠f.2)/\(xS k).ends.Perm (List.range (2 ^ k)):=by decide +kernel
theorem wW {k:Nat}(h:k<5):1<=2 ^ k/\2 ^ k<=16:=⟨ZS,YT (show 0<2 by decide) (show k<=4 by lia)⟩
theorem ez {k:Nat}(h:k<5):(xq k).Ok:=let ⟨a,b,c⟩:=ip k h;⟨(wW h).1,(wW h).2,a,b,c⟩
theorem iz {k:Nat}(h:k<5):(xS k).Ok:=let ⟨a,b,c⟩:=jH k h;⟨(wW h).1,(wW h).2,a,b,c⟩
def Deep (K:PySem.W.Frag)(H:Hp):Nat->V->Prop
 | 0,x=>AnyT K H x
 | n+1,x=>AnyT K H x/\∀ xs,rowOf H x=some xs->xs.length<=1000/\∀ y∈xs,Deep K H n y
end Bn
namespace L2
open PySem PySem.Spec PyProof.Rows Own
theorem kM {K:PySem.W.Frag}{b1 b2:Bool}{a1 a2:Addr}{xs ys:List V}(w:xs.length=ys.length){g:TG}{h:TS}{D:Ends}{σ:St}{H:Hp}(a:Nat->St->Hp->Prop)(s:a 0 σ H)(o:∀ i σ H,i<=xs.length->a i σ H->SqB b1 K H a1 xs/\SqB b2 K H a2 ys)(n:∀ i x y T σ H,xs[i]?=some x->ys[i]?=some y->H T=none->a i σ H->g (.ref T) σ (upd H T (.tup [x,y])) λc f=>h { D with nx:=a (i+1),ct:=a (i+1),bk:=D.nx } c f)(q:∀ σ H,a xs.length σ H->D.nx σ H) :
  ∃ W:Nat->Nat->St->Hp->Prop,(∃ m,W 0 m σ H)/\∀ i m σ H,W i m σ H ->
   ((Itz K b1 b2 a1 a2).stop i H/\D.nx σ H)\/((Itz K b1 b2 a1 a2).go i H/\∃ N:St->Hp->Prop,(∀ d b,N d b->∃ k,k<m/\W (i+1) k d b)/\∀ x b,(Itz K b1 b2 a1 a2).yld i H x b->g x σ b λc f=>h { D with nx:=N,ct:=N,bk:=D.nx } c f):=by
 refine⟨λi m σ H=>m=xs.length-i/\i<=xs.length/\a i σ H,⟨_,rfl,JJ _,s⟩,?_⟩;rintro i m σ H ⟨rfl,hi,p⟩;obtain⟨e,j⟩:=o i σ H hi p;by_cases more:i<xs.length
 ·refine .inr ⟨⟨xs,ys,_,_,e,j,J9 more,J9 (by simp_all)⟩,a (i+1),λd b l=>⟨xs.length-(i+1),by lia,rfl,more,l⟩,λv b ⟨x,y,ex,t,T,r,u,e2⟩=>?_⟩
  subst u e2;exact n i x y T σ H (ex xs e) (t ys j) r p
 ·obtain rfl:i=xs.length:=by lia
  exact .inl ⟨⟨xs,e,rfl⟩,q σ H p⟩
end L2
namespace K37
open PySem L2 Own Bn
abbrev pT:Stmt:=top 20
def uo (m:Nat):Sp:=λh H Q _=>∃ g f a b,h=[.ref g,.ref f]/\H g=some (.lst (zQ a))/\H f=some (.lst (zQ b))/\a.length=2 ^ m/\b.length=2 ^ m/\m<=8/\∀ c lf le e d,Same H d->H lf=none->d c=some (.tup [.ref lf,.ref le])->d lf=some (.lst e)->Prs d e (Bn.mergeN m a b).1->d le=some (.lst (zQ (Bn.mergeN m a b).2))->Q (.ref c) d
theorem mY (row:List Nat)(i:Nat)(h:i<=row.length):xx (zQ row) none (some (i:Int))=zQ (row.take i):=by
 rw[tj _ _ (by rw[zZ];exact h)];unfold zQ;rw[List.map_take]
theorem mZ (row:List Nat)(i:Nat)(h:i<=row.length):xx (zQ row) (some (i:Int)) none=zQ (row.drop i):=by
 rw[tu _ _ (by rw[zZ];exact h)];unfold zQ;rw[List.map_drop]
theorem kE (off:Nat)(a:List Nat):by2 off (zQ a)=zQ (by2 off a):=by unfold zQ;exact bD _ off a
theorem om (a b:List Nat):zQ a++zQ b=zQ (a++b):=by unfold zQ;exact(Y2 ..).symm
theorem oj (row:List Nat)(i:Nat)(h:i<row.length):(zQ row)[i]?=some (.int ((row.getD i 0:Nat):Int)):=by
 unfold zQ;rw[Y6,J9 h,Ju,J9 h];rfl
theorem wm:∀ (a b:List Nat) (j:Nat),j<a.length->j<b.length->yU (a.take (j+1)) (b.take (j+1))=yU (a.take j) (b.take j)++[a.getD j 0,b.getD j 0]
 | x::a,y::b,0,_,_=>by rw[Zk,Zk,Wv,Wv];rfl
 | x::a,y::b,j+1,ha,hb=>by
  rw[Zk,Zk,Zk,Zk];show x::y::yU (a.take (j+1)) (b.take (j+1))=x::y::(yU (a.take j) (b.take j)++[a.getD j 0,b.getD j 0]);rw[wm a b j (by simpa using ha) (by simpa using hb)]
theorem qu {a b:List Nat}{j:Nat}(ha:j<a.length)(hb:j<b.length):(a.zip b).take (j+1)=(a.zip b).take j++[(a.getD j 0,b.getD j 0)]:=by
 rw[W0 (by rw[ZN];lia),List.getElem_zip,Ju,J9 ha,Ju,J9 hb];rfl
theorem tK {a:List Nat}{j:Nat}{x:V}(h:(zQ a)[j]?=some x):j<a.length/\x=.int ((a.getD j 0:Nat):Int):=by
 have b:j<a.length:=by rw[<- zZ a];exact(Jc.mp h).1
 rw[oj a j b]at h;exact⟨b,(Jm h).symm⟩
section
variable {P:Program}{w:World}{K:PySem.W.Frag}{mg:Str->Option Value}{base:Heap}
theorem pP:FnScope ["_law_one","_law_other","_law_forks","_law_first_here","_law_more_here","_law_second","_law_ends","_law_x","_law_y"] ["_law_one","_law_other"] (zN pT):=by rfl'
theorem oK {f:Addr}{fd:FuncData}(F:Fun K "_law_merger" "_law_merger" pT f fd) (G:Mgs mg) (bS:Binds K fd ["_law_one","_law_other"] []) (mS:mg "_law_merger" = some (.ref f)) (n:Nat)
  (GS:FnOk P w K mg base CX0 n f fd ["_law_one","_law_other"] (λvs H Q E=>∃ m,n=m+1/\uo m vs H Q E)):FnOk P w K mg base CX0 (n+1) f fd ["_law_one","_law_other"] (uo n):=by
 have D:Use P w K mg base "_law_merger" ["_law_one","_law_other"] n (λvs H Q E=>∃ m,n=m+1/\uo m vs H Q E) f fd:=⟨GS,bS,F.kp,mS⟩;refine F.ok pP (λvs H Q E h=>?_) (λcH A outer s H vs Q E hr h=>?_)
 ·obtain⟨L,U,a,b,rfl,_⟩:=h
  rfl
 obtain⟨L,U,a,b,rfl,h1,h2,al,bl,bB,k⟩:=h;refine⟨_,(@zE _ _ _ _ _ (@yO _ _ _ _ _ _ _ _ (@zY _ _ _ _ _ _ _ _ xA (@zU _ _ _ _ _ _ _ _ _ zo (by rfl) G.len Yd (@zA _ _ _ _ _ (@qv _ 0 _ _ (by rfl')) zC (by rfl)) (by decide) (by decide) (by rfl) (by rfl)) zH (zw _)) (@zJ _ _ _ (@zV _ _ _ _ (@zT _ _ _ _ _ (@zA _ _ _ _ _ (@yR _ _ _ _ (@zA _ _ _ _ _ (@zT _ _ _ _ _ (@zA _ _ _ _ _ (@zi _ _ _ _ _ _ _ yE (@qv _ 0 _ _ (by rfl')) zH (λ_ _=>rfl)) (@zA _ _ _ _ _ (@zi _ _ _ _ _ _ _ yE (@qv _ 1 _ _ (by rfl')) zH (λ_ _=>rfl)) zC (by rfl)) (by rfl))) zC (by rfl))) (@zA _ _ _ _ _ (@yR _ _ _ _ (@zA _ _ _ _ _ (@zi _ _ _ _ _ _ _ yE (@qv _ 0 _ _ (by rfl')) zH (λ_ _=>rfl)) (@zA _ _ _ _ _ (@zi _ _ _ _ _ _ _ yE (@qv _ 1 _ _ (by rfl')) zH (λ_ _=>rfl)) zC (by rfl)) (by rfl))) zC (by rfl)) (by rfl))))) zr) (@zE _ _ _ _ _ (@yP _ _ _ _ _ _ (@zR _ _ _ _ _ _ _ _ _ _ _ _ _ _ _ _ D.ok hr (by rfl) D.m D.kp D.b .nil zu (@zA _ _ _ _ _ (@qT _ _ _ _ _ _ _ _ _ (@qv _ 0 _ _ (by rfl')) yH (@zt _ _ _ zH)) (@zA _ _ _ _ _ (@qT _ _ _ _ _ _ _ _ _ (@qv _ 1 _ _ (by rfl')) (@zt _ _ _ zH) (@zt _ _ _ zH)) zC (by rfl)) (by rfl)) (by decide) (by rfl) (by rfl)) (@yJ _ _ _ _ _ _ rfl (@zK _ _ _ _ _ (@zM _ _ 2 _ pP.nd rfl (.inl rfl) (by rfl')) (@zK _ _ _ _ _ (@zM _ _ 3 _ pP.nd rfl (.inl rfl) (by rfl')) yC (by rfl)) (by rfl)) (by rfl) (by rfl)) (by rfl) (by rfl) (by rfl)) (@zE _ _ _ _ _ (@yP _ _ _ _ _ _ (@zR _ _ _ _ _ _ _ _ _ _ _ _ _ _ _ _ D.ok hr (by rfl) D.m D.kp D.b .nil zu (@zA _ _ _ _ _ (@qT _ _ _ _ _ _ _ _ _ (@qv _ 0 _ _ (by rfl')) (@zt _ _ _ zH) (@zt _ _ _ zH)) (@zA _ _ _ _ _ (@qT _ _ _ _ _ _ _ _ _ (@qv _ 1 _ _ (by rfl')) yH (@zt _ _ _ zH)) zC (by rfl)) (by rfl)) (by decide) (by rfl) (by rfl)) (@yJ _ _ _ _ _ _ rfl (@zK _ _ _ _ _ (@zM _ _ 4 _ pP.nd rfl (.inl rfl) (by rfl')) (@zK _ _ _ _ _ (@zM _ _ 5 _ pP.nd rfl (.inl rfl) (by rfl')) yC (by rfl)) (by rfl)) (by rfl) (by rfl)) (by rfl) (by rfl) (by rfl)) (@zE _ _ _ _ _ (@qQ _ _ 2 6 _ _ _ _ _ _ _ _ _ _ _ rfl pP.nd rfl rfl (by decide) rfl rfl (@zA _ _ _ _ _ (@zS _ _ _ _ _ _ _ _ wu (@qv _ 2 _ _ (by rfl')) (@qv _ 4 _ _ (by rfl'))) (@zA _ _ _ _ _ (@yR _ _ _ _ zC) zC (by rfl)) (by rfl)) (by rfl) (by rfl)) (@zE _ _ _ _ _ (@xG _ _ _ _ _ _ _ _ Yp rfl (@gj _ _ _ _ _ _ _ _ _ true true rfl G.zip (@zA _ _ _ _ _ (@qv _ 3 _ _ (by rfl')) (@zA _ _ _ _ _ (@qv _ 5 _ _ (by rfl')) zC (by rfl)) (by rfl)) (by rfl) (by rfl)) (@yJ _ _ _ _ _ _ rfl (@zK _ _ _ _ _ (@zM _ _ 7 _ pP.nd rfl (.inl rfl) (by rfl')) (@zK _ _ _ _ _ (@zM _ _ 8 _ pP.nd rfl (.inl rfl) (by rfl')) yC (by rfl)) (by rfl)) (by rfl) (by rfl)) (@zE _ _ _ _ _ (@y4 _ _ _ _ (@uH _ _ _ _ _ _ _ _ _ _ _ _ YK ZJ ZK yx (@qv _ 2 _ _ (by rfl')) (@zA _ _ _ _ _ (@zT _ _ _ _ _ (@zA _ _ _ _ _ (@qv _ 7 _ _ (by rfl')) (@zA _ _ _ _ _ (@qv _ 8 _ _ (by rfl')) zC (by rfl)) (by rfl))) zC (by rfl)) (by rfl) (by rfl) (by rfl) (by rfl) (by rfl)) (by rfl)) (@zJ _ _ _ (@y4 _ _ _ _ (@uH _ _ _ _ _ _ _ _ _ _ _ _ YK PySem.F.slot_list_extend PySem.F.type_list_extend vh (@qv _ 6 _ _ (by rfl')) (@zA _ _ _ _ _ (@yR _ _ _ _ (@zA _ _ _ _ _ (@qv _ 7 _ _ (by rfl')) (@zA _ _ _ _ _ (@qv _ 8 _ _ (by rfl')) zC (by rfl)) (by rfl))) zC (by rfl)) (by rfl) (by rfl) (by rfl) (by rfl) (by rfl)) (by rfl)))) (by intro _;rfl)) (@zJ _ _ _ (@zV _ _ _ _ (@zT _ _ _ _ _ (@zA _ _ _ _ _ (@qv _ 2 _ _ (by rfl')) (@zA _ _ _ _ _ (@qv _ 6 _ _ (by rfl')) zC (by rfl)) (by rfl)))))))))),?_⟩;have na:=zZ a;have nb:=zZ b;have p8:2 ^ n<=2 ^ 8:=YT (by decide) bB;have e8:2 ^ 8=256:=rfl;refine⟨_,rfl,L,_,rfl,.inl (SqL.of h1),rfl,_,rfl,?_⟩
 cases n with
 | zero =>
  have ba:a.length=1:=al;have ct:b.length=1:=bl;rw[JD (show V.int (((zQ a).length:Nat):Int)=V.int 1 by rw[na,ba];rfl)];obtain⟨x,rfl⟩:=List.length_eq_one_iff.mp ba;obtain⟨y,rfl⟩:=List.length_eq_one_iff.mp ct;refine xC ⟨_,rfl,L,_,0,_,rfl,rfl,SqL.of h1,rfl,_,rfl,U,_,0,_,rfl,rfl,SqL.of h2,rfl,(by show 2<=sizeLine;decide),λt ht=>⟨(by show 1<=sizeLine;decide),λlf hf=>?_⟩⟩;have Z:=zB ht (.tup [.int x,.int y]);have Y:=zB hf (.lst [.ref t]);have u2:=Z.trans Y;refine⟨_,rfl,L,_,0,_,rfl,rfl,SqL.of (u2 _ _ h1),rfl,_,rfl,U,_,0,_,rfl,rfl,SqL.of (u2 _ _ h2),rfl,(by show 2<=sizeLine;decide),λle he=>⟨(by show 2<=sizeLine;decide),λc hc=>?_⟩⟩;have X:=zB he (.lst [.int x,.int y]);have J:=zB hc (.tup [.ref lf,.ref le])
  exact k c lf le [.ref t] _ ((u2.trans X).trans J) (wK Z hf) (zW hc _) (J _ _ (X _ _ (zW hf _))) ⟨⟨t,rfl,J _ _ (X _ _ (Y _ _ (zW ht _)))⟩,trivial⟩ (J _ _ (zW he _))
 | succ m =>
  obtain⟨a0,a1⟩:=vV al;obtain⟨b0,b1⟩:=vV bl;have pw:2 ^ (m+1)=2 ^ m*2:=ZF ..;have p0:=ZS (n:=m);rw[Jt (show ¬ V.int (((zQ a).length:Nat):Int)=V.int 1 by intro z;injection z with z;lia)];refine yg ⟨_,rfl,2,rfl,rfl,0,L,_,.inl ⟨rfl,rfl⟩,rfl,SqL.of h1,λq1 a7=>?_⟩;rw[kE];have Z:=zB a7 (.lst (zQ (by2 0 a)));refine⟨_,rfl,1,rfl,2,rfl,rfl,1,U,_,.inr ⟨rfl,rfl⟩,rfl,SqL.of (Z _ _ h2),λq2 a6=>?_⟩;rw[kE];have Y:=zB a6 (.lst (zQ (by2 1 b)));refine⟨m,rfl,q1,q2,by2 0 a,by2 1 b,rfl,Y _ _ (zW a7 _),zW a6 _,a0,b1,by lia,λc3 b3 i N H3 X _ cb b7 aT b8=>?_⟩;have u3:=(Z.trans Y).trans X;refine⟨c3,_,rfl,SqT.of cb,rfl,_,_,rfl,_,_,rfl,rfl,?_⟩;refine⟨_,rfl,1,rfl,2,rfl,rfl,1,L,_,.inr ⟨rfl,rfl⟩,rfl,SqL.of (u3 _ _ h1),λq4 a5=>?_⟩;rw[kE];have J:=zB a5 (.lst (zQ (by2 1 a)));refine⟨_,rfl,2,rfl,rfl,0,U,_,.inl ⟨rfl,rfl⟩,rfl,SqL.of (J _ _ (u3 _ _ h2)),λq5 a4=>?_⟩;rw[kE];have s5:=zB a4 (.lst (zQ (by2 0 b)));refine⟨m,rfl,q4,q5,by2 1 a,by2 0 b,rfl,s5 _ _ (zW a5 _),zW a4 _,a1,b0,by lia,λc6 a3 g M H6 s6 _ b9 b6 ao R=>?_⟩;have u6:=(J.trans s5).trans s6;refine⟨c6,_,rfl,SqT.of b9,rfl,_,_,rfl,_,_,rfl,rfl,?_⟩;obtain⟨xl,xf⟩:=xM m _ _ a0 b1;obtain⟨yl,yf⟩:=xM m _ _ a1 b0;have bd:=(vE m (by lia)).2;have cx:=aT.len;have cv:=ao.len;have O:=u3.trans u6;have B:=u6 _ _ b8;refine⟨_,rfl,_,rfl,b3,a3,_,_,rfl,rfl,u6 _ _ b7,b6,by rw[JG];lia,λd p=>⟨(by show 0<=sizeLine;decide),λu l=>⟨_,_,rfl,?_⟩⟩⟩;have I:=zB p (.lst (N++M));have W:=zB l (.lst []);have a9:d≠u:=zF (zW p (.lst (N++M))) l;have bo:=(Prs.app (aT.tups (Tups.of u6)) ao).tups (Tups.of (I.trans W));have a8:H d=none:=wK O p;have b5:H u=none:=wK (O.trans I) l;generalize hF:(Bn.mergeN m (by2 0 a) (by2 1 b)).2=fst at *;generalize hS:(Bn.mergeN m (by2 1 a) (by2 0 b)).2=snd at *;have e3:=W _ _ (I _ _ B);have e6:=W _ _ (I _ _ R);have n3:i≠d:=zF B p;have n6:g≠d:=zF R p;have bu:i≠u:=zF (I _ _ B) l;have bt:g≠u:=zF (I _ _ R) l;refine⟨_,rfl,_,rfl,i,g,_,_,rfl,SqL.of e3,SqL.of e6,?_⟩;refine kM (K:=K) (b1:=true) (b2:=true) (a1:=i) (a2:=g) (xs:=zQ fst) (ys:=zQ snd) (by rw[zZ,zZ,xl,yl]) (λj σ C=>(∃ v7 v8,σ=[some (.ref L),some (.ref U),some (.ref d),some (.ref i),some (.ref a3),some (.ref g),some (.ref u),v7,v8])/\Same H C/\C i=some (.lst (zQ fst))/\C g=some (.lst (zQ snd))/\(∃ r,C d=some (.lst r)/\Prs C r ((Bn.mergeN m (by2 0 a) (by2 1 b)).1++(Bn.mergeN m (by2 1 a) (by2 0 b)).1++(fst.zip snd).take j))/\C u=some (.lst (zQ (yU (fst.take j) (snd.take j))))) ?_ (λj σ C _ z=>⟨SqL.of z.2.2.1,SqL.of z.2.2.2.1⟩) ?_ ?_
  ·refine⟨⟨_,_,rfl⟩,(O.trans I).trans W,e3,e6,⟨N++M,W _ _ (zW p _),?_⟩,zW l _⟩
   rw[Wv,Y3];exact bo
  ·rintro j x y T σ C hx hy hT ⟨⟨v7,v8,rfl⟩,s9,e3,e6,⟨r,h7,v⟩,h8⟩
   obtain⟨j1,rfl⟩:=tK hx;obtain⟨j2,rfl⟩:=tK hy;have pl:=v.len;rw[Jb,Jb,JC,ZN]at pl;have sT:=zB hT (.tup [.int ((fst.getD j 0:Nat):Int),.int ((snd.getD j 0:Nat):Int)]);refine⟨T,_,rfl,SqT.of zD,rfl,_,_,rfl,_,_,rfl,rfl,?_⟩;refine⟨_,rfl,.inl ⟨rfl,_,SqL.of (sT _ _ h7)⟩,_,rfl,_,rfl,(by show 2<=sizeLine;decide),λt ht=>?_⟩;have st:=zB ht (.tup [.int ((fst.getD j 0:Nat):Int),.int ((snd.getD j 0:Nat):Int)]);have ut:=sT.trans st;refine⟨d,r,_,rfl,rfl,ut _ _ h7,by rw[JG];lia,?_⟩;have b4:=zW ht (.tup [.int ((fst.getD j 0:Nat):Int),.int ((snd.getD j 0:Nat):Int)]);have cf:=ut _ _ h7;have cc:=ut _ _ h8;have cn:=ut _ _ e3;have ck:=ut _ _ e6;have bc:=s9.trans ut;have ab:=v.tups (Tups.of ut);generalize L2.upd (L2.upd C T (.tup [.int ((fst.getD j 0:Nat):Int),.int ((snd.getD j 0:Nat):Int)])) t (.tup [.int ((fst.getD j 0:Nat):Int),.int ((snd.getD j 0:Nat):Int)])=H9 at *;have tq:=Tups.lst (ys:=r++[.ref t]) cf;have S:L2.upd H9 d (.lst (r++[.ref t])) u=some (.lst (zQ (yU (fst.take j) (snd.take j)))):=by rw[zG a9.symm];exact cc
   refine⟨_,rfl,.inl ⟨rfl,_,SqL.of S⟩,_,rfl,_,rfl,(by show 2<=sizeLine;decide),λq hq=>?_⟩;have sq:=zB hq (.lst [.int ((fst.getD j 0:Nat):Int),.int ((snd.getD j 0:Nat):Int)]);have tl:=xP (fst.take j) (snd.take j) (by rw[JC,JC];lia);rw[JC]at tl;refine⟨u,q,_,_,rfl,rfl,sq _ _ S,zW hq _,by rw[zZ,JG,tl];show _+2<=_;lia,?_⟩;have n8:∀ {c:Addr}{o:HO},L2.upd H9 d (.lst (r++[.ref t])) c=some o->c≠u->L2.upd (L2.upd (L2.upd H9 d (.lst (r++[.ref t]))) q (.lst [.int ((fst.getD j 0:Nat):Int),.int ((snd.getD j 0:Nat):Int)])) u (.lst (zQ (yU (fst.take j) (snd.take j))++[.int ((fst.getD j 0:Nat):Int),.int ((snd.getD j 0:Nat):Int)])) c=some o:=λe ne=>by rw[zG ne];exact sq _ _ e
   refine⟨⟨_,_,rfl⟩,λc o e=>n8 (by rw[zG (zF e a8)];exact bc c o e) (zF e b5),n8 (by rw[zG n3];exact cn) bu,n8 (by rw[zG n6];exact ck) bt,⟨r++[.ref t],n8 zD a9,?_⟩,?_⟩
   ·rw[qu j1 j2,<- Y0]
    have tz:Tups (L2.upd H9 d (.lst (r++[.ref t]))) _:=λc xs e=>n8 e (yQ e S (λz=>by cases z));exact(Prs.add (f:=(fst.getD j 0,snd.getD j 0)) (tq _ _ b4) (ab.tups tq)).tups tz
   ·rw[wm fst snd j j1 j2]
    have e:zQ (yU (fst.take j) (snd.take j)++[fst.getD j 0,snd.getD j 0])=zQ (yU (fst.take j) (snd.take j))++[.int ((fst.getD j 0:Nat):Int),.int ((snd.getD j 0:Nat):Int)]:=by rw[<- om];rfl
    rw[e];exact zD
  ·rintro σ C ⟨⟨v7,v8,rfl⟩,s9,e3,e6,⟨r,h7,v⟩,h8⟩
   refine⟨_,rfl,_,rfl,(by show 2<=sizeLine;decide),λc hc=>?_⟩;have sc:=zB hc (.tup [.ref d,.ref u]);have eN:Bn.mergeN (m+1) a b=((Bn.mergeN m (by2 0 a) (by2 1 b)).1++(Bn.mergeN m (by2 1 a) (by2 0 b)).1++fst.zip snd,yU fst snd):=by rw[<- hF,<- hS];rfl
   refine k c d u r _ (s9.trans sc) a8 (zW hc _) (sc _ _ h7) ?_ ?_
   ·rw[eN]
    rw[JS (by rw[zZ,ZN];simp_all)]at v;exact v.tups (Tups.of sc)
   ·rw[eN]
    rw[JS (by rw[zZ];exact Je _),JS (by rw[zZ];simp_all)]at h8;exact sc _ _ h8
theorem lu {f:Addr}{fd:FuncData}(F:Fun K "_law_merger" "_law_merger" pT f fd) (G:Mgs mg) (b:Binds K fd ["_law_one","_law_other"] []) (a:mg "_law_merger" = some (.ref f)):∀ n:Nat,FnOk P w K mg base CX0 (n+1) f fd ["_law_one","_law_other"] (uo n)
 | 0=>oK F G b a 0 ⟨λvs H Q E ⟨m,h,_⟩=>by simp_all,λA outer s H args us vs Q E _ _ _ _ ⟨m,h,_⟩=>by simp_all⟩
 | m+1=>oK F G b a (m+1) ((lu F G b a m).imp λvs H Q E ⟨c,h,q⟩=>by cases h;exact q)
abbrev wI:Sp:=λa H Q E=>∃ m,m<=4/\uo m a H Q E
theorem jb {f:Addr}{fd:FuncData}(F:Fun K "_law_merger" "_law_merger" pT f fd) (G:Mgs mg) (b:Binds K fd ["_law_one","_law_other"] []) (a:mg "_law_merger" = some (.ref f)):FnOk P w K mg base CX0 5 f fd ["_law_one","_law_other"] wI :=
 FnOk.any 4 λm c=>(lu F G b a m).mono (by simp_all)
structure Few (l f:Nat) (N:Nt):Prop where
 ok:N.Ok
 ln:N.lanes<=l
 fk:N.forks.length<=f
abbrev aG:Stmt:=top 25
def gB:Sp:=λi H Q _=>∃ l r fr k j N h b,i=[.ref l,.ref r]/\Pk3 H l/\Few h b N/\b<=100/\NetAt H r fr k j N/\∀ g e f d c a,Few h (b+1) c->c.lanes=N.lanes->NetAt a g e f d c->Pk3 a l->But l H a->Q (.ref g) a
theorem bU (xs:List V)(i j:Nat):xx xs (some (i:Int)) (some (j:Int))=(xs.drop i).take (j-i):=by
 unfold xx;rw[HT.sIx_nat,HT.sIx_nat];by_cases c:i<=xs.length
 ·rw[Zr c]
  by_cases d:j<=xs.length
  ·rw[Zr d]
  ·rw[Nat.min_eq_right (by lia),JS (by rw[Yh];lia),JS (by rw[Yh];lia)]
 ·rw[List.drop_of_length_le (show xs.length<=i by lia),List.drop_of_length_le (by lia),Wd,Wd]
theorem nK (xs:List V)(i:Nat):xx xs (some (i:Int)) none=xs.drop i:=by
 unfold xx;rw[HT.sIx_none,HT.sIx_nat];by_cases c:i<=xs.length
 ·rw[Zr c]
  exact JS (by rw[Yh];exact Je _)
 ·rw[List.drop_of_length_le (show xs.length<=i by lia),List.drop_of_length_le (by lia),Wd]
theorem kU (xs:List V)(i:Nat):xx xs none (some (i:Int))=xs.take i:=by
 unfold xx;rw[HT.sIx_none,HT.sIx_nat,ZY,Nat.sub_zero];by_cases c:i<=xs.length
 ·rw[Zr c]
 ·rw[JS (by lia),JS (by lia)]
theorem vK {H:Hp}:∀ {ps:List V}{fs:List (Nat × Nat)}(n:Nat),Prs H ps fs->Prs H (ps.take n) (fs.take n)
 | [],[],n,_=>by rw[Wd,Wd];trivial
 | _::_,_::_,0,_=>trivial
 | _::_,_::_,n+1,⟨x,r⟩=>⟨x,vK n r⟩
theorem y8 {H:Hp}:∀ {ps:List V}{fs:List (Nat × Nat)}(n:Nat),Prs H ps fs->Prs H (ps.drop n) (fs.drop n)
 | [],[],n,_=>by rw[List.drop_nil,List.drop_nil];trivial
 | _::_,_::_,0,h=>h
 | _::_,_::_,n+1,⟨_,r⟩=>y8 n r
def FksOk (lanes:Nat)(a:List (Nat × Nat)):Prop:=∀ f∈a,f.1<lanes/\f.2<lanes/\f.1≠f.2
theorem FksOk.app {lanes:Nat}{a b:List (Nat × Nat)}(x:FksOk lanes a)(y:FksOk lanes b):FksOk lanes (a++b):=λf c=>(Jy.mp c).elim (x f) (y f)
theorem FksOk.take {lanes:Nat}{a:List (Nat × Nat)}(x:FksOk lanes a)(n:Nat):FksOk lanes (a.take n):=λf b=>x f (Wh b)
theorem FksOk.drop {lanes:Nat}{a:List (Nat × Nat)}(x:FksOk lanes a)(n:Nat):FksOk lanes (a.drop n):=λf b=>x f (Wg b)
theorem mC:FnScope ["_law_left_here","_law_net","_law_lanes","_law_forks","_law_ends","_law_way","_law_at","_law_k","_law_here","_law_row"] ["_law_left_here","_law_net"] (zN aG):=by rfl'
theorem ap {f fK:Addr}{fd dK:FuncData}(F:Fun K "_law_changed" "_law_changed" aG f fd) (G:Mgs mg) (W:Use P w K mg base "_law_pick" ["_law_left_here","_law_many"] 1 vF fK dK):FnOk P w K mg base CX0 2 f fd ["_law_left_here","_law_net"] gB:=by
 refine F.ok mC (λvs H Q E h=>?_) (λb7 A outer s H vs Q E hr h=>?_)
 ·obtain⟨l,r,fr,er,C,N,lb,fb,rfl,_⟩:=h
  rfl
 obtain⟨l,r,fr,er,C,N,lb,fb,rfl,S,a6,b6,na,k⟩:=h;refine⟨_,(@zE _ _ _ _ _ (@yP _ _ _ _ _ _ (@qv _ 1 _ _ (by rfl')) (@yJ _ _ _ _ _ _ rfl (@zK _ _ _ _ _ (@zM _ _ 2 _ mC.nd rfl (.inl rfl) (by rfl')) (@zK _ _ _ _ _ (@zM _ _ 3 _ mC.nd rfl (.inl rfl) (by rfl')) (@zK _ _ _ _ _ (@zM _ _ 4 _ mC.nd rfl (.inl rfl) (by rfl')) yC (by rfl)) (by rfl)) (by rfl)) (by rfl) (by rfl)) (by rfl) (by rfl) (by rfl)) (@zE _ _ _ _ _ (di (i:=5) (j:=6) (k:=7) rfl mC.nd rfl rfl rfl (by decide) (by decide) (by decide) rfl rfl rfl (@zA _ _ _ _ _ (@zR _ _ _ _ _ _ _ _ _ _ _ _ _ _ _ _ W.ok hr (by rfl) W.m W.kp W.b .nil zu (@zA _ _ _ _ _ (@qv _ 0 _ _ (by rfl')) (@zA _ _ _ _ _ zH zC (by rfl)) (by rfl)) (by decide) (by rfl) (by rfl)) (@zA _ _ _ _ _ (@zR _ _ _ _ _ _ _ _ _ _ _ _ _ _ _ _ W.ok hr (by rfl) W.m W.kp W.b .nil zu (@zA _ _ _ _ _ (@qv _ 0 _ _ (by rfl')) (@zA _ _ _ _ _ (@zS _ _ _ _ _ _ _ _ yY (@zU _ _ _ _ _ _ _ _ _ zo (by rfl) G.len Yd (@zA _ _ _ _ _ (@qv _ 3 _ _ (by rfl')) zC (by rfl)) (by decide) (by decide) (by rfl) (by rfl)) zH) zC (by rfl)) (by rfl)) (by decide) (by rfl) (by rfl)) (@zA _ _ _ _ _ (@zR _ _ _ _ _ _ _ _ _ _ _ _ _ _ _ _ W.ok hr (by rfl) W.m W.kp W.b .nil zu (@zA _ _ _ _ _ (@qv _ 0 _ _ (by rfl')) (@zA _ _ _ _ _ (@qv _ 2 _ _ (by rfl')) zC (by rfl)) (by rfl)) (by decide) (by rfl) (by rfl)) zC (by rfl)) (by rfl)) (by rfl)) (by rfl)) (@zE _ _ _ _ _ (@zp _ _ 8 _ _ _ _ mC.nd rfl (.inl rfl) (@zx _ _ _ _ _ _ _ _ _ _ yX (@qv _ 3 _ _ (by rfl')) (@zt _ _ _ (@qv _ 6 _ _ (by rfl'))) (@zt _ _ _ (@zS _ _ _ _ _ _ _ _ yY (@qv _ 6 _ _ (by rfl')) zH))) (by rfl) (by rfl')) (@zE _ _ _ _ _ (@yO _ _ _ _ _ _ _ _ (@zY _ _ _ _ _ _ _ _ xA (@qv _ 5 _ _ (by rfl')) zH (zw _)) (@zJ _ _ _ (@zV _ _ _ _ (@zT _ _ _ _ _ (@zA _ _ _ _ _ (@qv _ 2 _ _ (by rfl')) (@zA _ _ _ _ _ (@zS _ _ _ _ _ _ _ _ yi (@zS _ _ _ _ _ _ _ _ yi (@zx _ _ _ _ _ _ _ _ _ _ yX (@qv _ 3 _ _ (by rfl')) yH (@zt _ _ _ (@qv _ 6 _ _ (by rfl')))) (@zv _ _ _ _ _ _ _ _ _ zz (by rfl) G.tuple (by rfl) (@zA _ _ _ _ _ (@gm _ _ _ _ none _ _ _ (zag K 2 (ft (vQ 0) (ft (vQ 1) za0))) _ _ ["_law_a","_law_b"] [none,none] rfl (@vZ _ _ _ _ (@qv _ 8 _ _ (by rfl'))) (CapOk.of (by kernel_rfl)) (λ_ _ _ _ _=>(@yJ _ _ _ _ _ _ rfl (@zK _ _ _ _ _ (@zM _ _ 0 _ (show (["_law_a","_law_b"]:List Str).Nodup from by decide +kernel) rfl (.inl rfl) (.inr rfl)) (@zK _ _ _ _ _ (@zM _ _ 1 _ (show (["_law_a","_law_b"]:List Str).Nodup from by decide +kernel) rfl (.inl rfl) (.inr rfl)) yC (by rfl)) (by rfl)) (by rfl) (by rfl))) (λ_ _ _ _ _=>uV) (λ_ _ _ _ _=>(@zT _ _ _ _ _ (@zA _ _ _ _ _ (@qv _ 1 _ _ (by rfl')) (@zA _ _ _ _ _ (@qv _ 0 _ _ (by rfl')) zC (by rfl)) (by rfl)))) (by intro _;rfl)) zC (by rfl)) (by decide) (by decide) (by rfl) (by rfl))) (@zx _ _ _ _ _ _ _ _ _ _ yX (@qv _ 3 _ _ (by rfl')) (@zt _ _ _ (@zS _ _ _ _ _ _ _ _ yY (@qv _ 6 _ _ (by rfl')) zH)) yH)) (@zA _ _ _ _ _ (@qv _ 4 _ _ (by rfl')) zC (by rfl)) (by rfl)) (by rfl))))) zr) (@zE _ _ _ _ _ (@yO _ _ _ _ _ _ _ _ (@zY _ _ _ _ _ _ _ _ xA (@qv _ 5 _ _ (by rfl')) zH (zw _)) (@zJ _ _ _ (@zV _ _ _ _ (@zT _ _ _ _ _ (@zA _ _ _ _ _ (@qv _ 2 _ _ (by rfl')) (@zA _ _ _ _ _ (@zS _ _ _ _ _ _ _ _ yi (@zx _ _ _ _ _ _ _ _ _ _ yX (@qv _ 3 _ _ (by rfl')) yH (@zt _ _ _ (@qv _ 6 _ _ (by rfl')))) (@zx _ _ _ _ _ _ _ _ _ _ yX (@qv _ 3 _ _ (by rfl')) (@zt _ _ _ (@zS _ _ _ _ _ _ _ _ yY (@qv _ 6 _ _ (by rfl')) zH)) yH)) (@zA _ _ _ _ _ (@qv _ 4 _ _ (by rfl')) zC (by rfl)) (by rfl)) (by rfl))))) zr) (@zE _ _ _ _ _ (@yO _ _ _ _ _ _ _ _ (@zY _ _ _ _ _ _ _ _ xA (@qv _ 5 _ _ (by rfl')) zH (zw _)) (@zJ _ _ _ (@zV _ _ _ _ (@zT _ _ _ _ _ (@zA _ _ _ _ _ (@qv _ 2 _ _ (by rfl')) (@zA _ _ _ _ _ (@zS _ _ _ _ _ _ _ _ yi (@zS _ _ _ _ _ _ _ _ yi (@zx _ _ _ _ _ _ _ _ _ _ yX (@qv _ 3 _ _ (by rfl')) yH (@zt _ _ _ (@qv _ 6 _ _ (by rfl')))) (@qv _ 8 _ _ (by rfl'))) (@zx _ _ _ _ _ _ _ _ _ _ yX (@qv _ 3 _ _ (by rfl')) (@zt _ _ _ (@qv _ 6 _ _ (by rfl'))) yH)) (@zA _ _ _ _ _ (@qv _ 4 _ _ (by rfl')) zC (by rfl)) (by rfl)) (by rfl))))) zr) (@zE _ _ _ _ _ (@yO _ _ _ _ _ _ _ _ (@zY _ _ _ _ _ _ _ _ xA (@qv _ 5 _ _ (by rfl')) zH (zw _)) (@zJ _ _ _ (@zV _ _ _ _ (@zT _ _ _ _ _ (@zA _ _ _ _ _ (@qv _ 2 _ _ (by rfl')) (@zA _ _ _ _ _ (@zS _ _ _ _ _ _ _ _ yi (@zS _ _ _ _ _ _ _ _ yi (@zS _ _ _ _ _ _ _ _ yi (@zx _ _ _ _ _ _ _ _ _ _ yX (@qv _ 3 _ _ (by rfl')) yH (@zt _ _ _ (@qv _ 6 _ _ (by rfl')))) (@zx _ _ _ _ _ _ _ _ _ _ yX (@qv _ 3 _ _ (by rfl')) (@zt _ _ _ (@zS _ _ _ _ _ _ _ _ yY (@qv _ 6 _ _ (by rfl')) zH)) (@zt _ _ _ (@zS _ _ _ _ _ _ _ _ yY (@qv _ 6 _ _ (by rfl')) zH)))) (@qv _ 8 _ _ (by rfl'))) (@zx _ _ _ _ _ _ _ _ _ _ yX (@qv _ 3 _ _ (by rfl')) (@zt _ _ _ (@zS _ _ _ _ _ _ _ _ yY (@qv _ 6 _ _ (by rfl')) zH)) yH)) (@zA _ _ _ _ _ (@qv _ 4 _ _ (by rfl')) zC (by rfl)) (by rfl)) (by rfl))))) zr) (@zE _ _ _ _ _ (@zp _ _ 9 _ _ _ _ mC.nd rfl (.inl rfl) (@zv _ _ _ _ _ _ _ _ _ yu (by rfl) G.list (by rfl) (@zA _ _ _ _ _ (@qv _ 4 _ _ (by rfl')) zC (by rfl)) (by decide) (by decide) (by rfl) (by rfl)) (by rfl) (by rfl')) (@zE _ _ _ _ _ (@yP _ _ _ _ _ _ (@zT _ _ _ _ _ (@zA _ _ _ _ _ (@zi _ _ _ _ _ _ _ yA (@qv _ 4 _ _ (by rfl')) (@qv _ 7 _ _ (by rfl')) (λ_ _=>rfl)) (@zA _ _ _ _ _ (@zi _ _ _ _ _ _ _ yA (@qv _ 4 _ _ (by rfl')) zH (λ_ _=>rfl)) zC (by rfl)) (by rfl))) (@yJ _ _ _ _ _ _ rfl (@zK _ _ _ _ _ (@wq _ _ _ _ _ _ _ (@qv _ 9 _ _ (by rfl')) zH xU (by intro _;rfl)) (@zK _ _ _ _ _ (@wq _ _ _ _ _ _ _ (@qv _ 9 _ _ (by rfl')) (@qv _ 7 _ _ (by rfl')) xU (by intro _;rfl)) yC (by rfl)) (by rfl)) (by rfl) (by rfl)) (by rfl) (by rfl) (by rfl)) (@zJ _ _ _ (@zV _ _ _ _ (@zT _ _ _ _ _ (@zA _ _ _ _ _ (@qv _ 2 _ _ (by rfl')) (@zA _ _ _ _ _ (@qv _ 3 _ _ (by rfl')) (@zA _ _ _ _ _ (@zv _ _ _ _ _ _ _ _ _ zz (by rfl) G.tuple (by rfl) (@zA _ _ _ _ _ (@qv _ 9 _ _ (by rfl')) zC (by rfl)) (by decide) (by decide) (by rfl) (by rfl)) zC (by rfl)) (by rfl)) (by rfl)))))))))))))),?_⟩;have ok:=a6.ok;have ba:=ok.l16;have l1:=ok.l1;have fk:=a6.fk;have pl:=na.prs.len;refine⟨_,rfl,r,_,rfl,SqT.of na.net,rfl,_,_,rfl,_,_,rfl,_,_,rfl,rfl,?_⟩;refine⟨_,rfl,l,5,rfl,by decide,by decide,S,λway H1 hw S1 B1=>?_⟩;have a3:=na.tups (B1.tups3 S);refine⟨_,rfl,_,rfl,fr,C,rfl,.inr (SqT.of a3.forks),_,_,rfl,rfl,l,_,rfl,by simp_all,by lia,S1,λd H2 b3 S2 B2=>?_⟩;refine⟨_,rfl,_,rfl,l,_,rfl,by lia,by lia,S2,λL H3 hk S3 B3=>⟨_,_,_,rfl,?_⟩⟩;have y:=(a3.tups (B2.tups3 S1)).tups (B3.tups3 S2);have B':But l H H3:=(B1.trans B2).trans B3;clear a3 B1 B2 B3 S1 S2;have p2:d<=C.length:=by lia
 refine⟨_,rfl,_,rfl,_,rfl,_,rfl,_,_,rfl,rfl,_,rfl,fr,C,rfl,y.forks,λhh H4 s4 aT=>?_⟩;have e1:((d:Nat):Int)+1=((d+1:Nat):Int):=rfl;have e2:((d:Nat):Int)+2=((d+2:Nat):Int):=rfl;rw[e1,bU,show d+1-d=1 by simp_all]at aT;have v:FksOk N.lanes N.forks:=ok.fk;have a9:=a6.ln;have bl:N.forks.length<=100:=by lia
 have fin:∀ (a:Addr) (qs:List V) (gs:List (Nat × Nat)) (Y:Hp),Same H3 Y->Y a=some (.tup qs)->Prs Y qs gs->FksOk N.lanes gs->gs.length<=fb+1->∀ q,Y q=none->Q (.ref q) (L2.upd Y q (.tup [.int (N.lanes:Nat),.ref a,.ref er])):=λa qs gs Y J ha pr go gl q hq=>by
  have U:=zB hq (.tup [.int (N.lanes:Nat),.ref a,.ref er]);have u:=J.trans U;exact k q a er qs ⟨N.lanes,gs,N.ends⟩ _ ⟨⟨l1,ba,by show gs.length<=128;lia,go,ok.en⟩,a9,gl⟩ rfl ⟨zW hq _,U _ _ ha,pr.tups (Tups.of U),u _ _ y.ends⟩ (S3.keep u) (B'.trans (But.of u))
 have I:=y.prs;have f4:=s4 _ _ y.forks;have b4:((C.drop d).take 1).length<=1:=by rw[JC];lia
 have ab:=vK 1 (y8 d I);have b5:((N.forks.drop d).take 1).length<=1:=by rw[JC];simp_all
 have pA:=vK d I;have lA:(N.forks.take d).length=d:=by rw[JC];simp_all
 have b2:(C.take d).length=d:=by rw[JC];lia
 have lD:∀ n,(N.forks.drop n).length=N.forks.length-n:=λn=>Yh;have ao:∀ n,(C.drop n).length=N.forks.length-n:=λn=>by rw[Yh,pl]
 dsimp only[vQ];refine⟨_,rfl,rfl,_,rfl,sQ (λ_=>?_) (λ_=>?_)⟩
 ·refine⟨_,rfl,_,rfl,_,rfl,_,rfl,fr,C,rfl,f4,λp1 Y J X=>?_⟩
  rw[kU]at X;have Z:=s4.trans J;have bo:=J _ _ aT;have bB:=ab.tups (Tups.of Z);refine⟨_,rfl,hh,rfl,⟨_,SqT.of bo⟩,λlc a5=>?_⟩;have U:=zB a5 (.lst []);refine ay (K:=K) (a:=hh) (xs:=(C.drop d).take 1) (λi acc σ H6=>(∃ v0 v1,σ=[v0,v1])/\Same Y H6/\H6 lc=some (.lst acc)/\acc.length=i/\Prs H6 acc ((((N.forks.drop d).take 1).take i).map λg=>(g.2,g.1))) ⟨⟨_,_,rfl⟩,U,zW a5 _,rfl,trivial⟩ (λi acc σ H6 z=>⟨z.2.2.1,SqT.of (z.2.1 _ _ bo)⟩) ?_ ?_
  ·rintro i x acc σ H6 hx ⟨⟨v0,v1,rfl⟩,s7,h7,al,p7⟩
   obtain⟨a,g,rfl,eg,ha⟩:=(bB.tups (Tups.of s7)).get hx;have gi:=(Jc.mp eg).1;refine⟨a,_,rfl,SqT.of ha,rfl,_,_,rfl,_,_,rfl,rfl,?_⟩;refine⟨_,rfl,_,rfl,(by show 2<=sizeLine;decide),λt ht=>?_⟩;have s8:=zB ht (.tup [.int (g.2:Nat),.int (g.1:Nat)]);have h8:=s8 _ _ h7;refine⟨h8,by rw[JG];lia,nx (Jc.mp hx).1 ⟨⟨_,_,rfl⟩,λb o e=>?_,zD,by rw[Jb,al];rfl,?_⟩⟩
   ·rw[zG (zF e a5)];exact s8 _ _ (s7 b o e)
   ·rw[<- Yq gi,Y2,(Jc.mp eg).2]
    exact Prs.add (f:=(g.2,g.1)) (Tups.lst h8 _ _ (zW ht _)) ((p7.tups (Tups.of s8)).tups (Tups.lst h8))
  rintro acc σ H6 ⟨⟨v0,v1,rfl⟩,s7,h7,al,p7⟩;rw[JS (by rw[ab.len];exact Je _)]at p7;refine⟨lc,_,rfl,.inl ⟨SqL.of h7,λt8 bc=>?_⟩⟩;have s8:=zB bc (.tup acc);refine⟨p1,t8,_,_,rfl,rfl,s8 _ _ (s7 _ _ X),zW bc _,by rw[JG];lia,λp9 H9 s9 h9=>?_⟩;have u9:=((Z.trans s7).trans s8).trans s9;refine⟨_,rfl,_,rfl,_,_,rfl,rfl,_,rfl,fr,C,rfl,u9 _ _ y.forks,λO a8 p B=>?_⟩;rw[e1,nK]at B;refine⟨p9,O,_,_,rfl,rfl,p _ _ h9,B,by rw[JG,Jb,ao (d+1)];lia,λM a7 D R=>?_⟩;have m:=(u9.trans p).trans D;refine⟨_,rfl,(by show 3<=sizeLine;decide),fin M _ _ _ m R (Prs.app (Prs.app (pA.tups (Tups.of m)) (p7.tups (Tups.of (((s8.trans s9).trans p).trans D)))) ((y8 (d+1) I).tups (Tups.of m))) ?_ ?_⟩
  ·refine((v.take _).app λf hf=>?_).app (v.drop _)
   obtain⟨g,hg,rfl⟩:=Jv.mp hf;obtain⟨a,b,c⟩:=v g (Wg (Wh hg));exact⟨b,a,c.symm⟩
  ·rw[Jb,Jb,Jg,lA,lD];lia
 refine⟨_,rfl,rfl,_,rfl,sQ (λ_=>?_) (λ_=>?_)⟩
 ·refine⟨_,rfl,_,rfl,_,rfl,_,rfl,fr,C,rfl,f4,λp1 Y J X=>?_⟩
  rw[kU]at X;have Z:=s4.trans J;refine⟨_,rfl,_,rfl,_,_,rfl,rfl,_,rfl,fr,C,rfl,Z _ _ y.forks,λO a8 p B=>?_⟩;rw[e1,nK]at B;refine⟨p1,O,_,_,rfl,rfl,p _ _ X,B,by rw[JG,ao (d+1)];lia,λM a7 D R=>?_⟩;have m:=(Z.trans p).trans D;refine⟨_,rfl,(by show 3<=sizeLine;decide),fin M _ _ _ m R (Prs.app (pA.tups (Tups.of m)) ((y8 (d+1) I).tups (Tups.of m))) ((v.take _).app (v.drop _)) ?_⟩;rw[Jb,lA,lD];lia
 refine⟨_,rfl,rfl,_,rfl,sQ (λ_=>?_) (λ_=>?_)⟩
 ·refine⟨_,rfl,_,rfl,_,rfl,_,rfl,fr,C,rfl,f4,λp1 Y J X=>?_⟩
  rw[kU]at X;have Z:=s4.trans J;refine⟨_,rfl,p1,hh,_,_,rfl,rfl,X,J _ _ aT,by rw[JG];lia,λp9 H9 s9 h9=>?_⟩;have u9:=Z.trans s9;refine⟨_,rfl,_,rfl,_,rfl,fr,C,rfl,u9 _ _ y.forks,λO a8 p B=>?_⟩;rw[nK]at B;refine⟨p9,O,_,_,rfl,rfl,p _ _ h9,B,by rw[JG,Jb,ao d];lia,λM a7 D R=>?_⟩;have m:=(u9.trans p).trans D;refine⟨_,rfl,(by show 3<=sizeLine;decide),fin M _ _ _ m R (Prs.app (Prs.app (pA.tups (Tups.of m)) (ab.tups (Tups.of m))) ((y8 d I).tups (Tups.of m))) (((v.take _).app ((v.drop _).take _)).app (v.drop _)) ?_⟩;rw[Jb,Jb,lA,lD];lia
 refine⟨_,rfl,rfl,_,rfl,sQ (λ_=>?_) (λ_=>?_)⟩
 ·refine⟨_,rfl,_,rfl,_,rfl,_,rfl,fr,C,rfl,f4,λp1 Y J X=>?_⟩
  rw[kU]at X;have Z:=s4.trans J;refine⟨_,rfl,_,rfl,_,_,rfl,rfl,_,rfl,_,rfl,_,_,rfl,rfl,_,rfl,fr,C,rfl,Z _ _ y.forks,λp6 H6 U h6=>?_⟩;rw[e1,e2,bU,show d+2-(d+1)=1 by simp_all]at h6;have l6:((C.drop (d+1)).take 1).length<=1:=by rw[JC];lia
  have g6:((N.forks.drop (d+1)).take 1).length<=1:=by rw[JC];simp_all
  refine⟨p1,p6,_,_,rfl,rfl,U _ _ X,h6,by rw[JG];lia,λp7 H7 s7 h7=>?_⟩;have u7:=(Z.trans U).trans s7;refine⟨_,rfl,p7,hh,_,_,rfl,rfl,h7,s7 _ _ (U _ _ (J _ _ aT)),by rw[JG,Jb];lia,λp9 H9 s9 h9=>?_⟩;have u9:=u7.trans s9;refine⟨_,rfl,_,rfl,_,_,rfl,rfl,_,rfl,fr,C,rfl,u9 _ _ y.forks,λO a8 p B=>?_⟩;rw[e2,nK]at B;refine⟨p9,O,_,_,rfl,rfl,p _ _ h9,B,by rw[JG,Jb,Jb,ao (d+2)];lia,λM a7 D R=>?_⟩;have m:=(u9.trans p).trans D;refine⟨_,rfl,(by show 3<=sizeLine;decide),fin M _ _ _ m R (Prs.app (Prs.app (Prs.app (pA.tups (Tups.of m)) ((vK 1 (y8 (d+1) I)).tups (Tups.of m))) (ab.tups (Tups.of m))) ((y8 (d+2) I).tups (Tups.of m))) ((((v.take _).app ((v.drop _).take _)).app ((v.drop _).take _)).app (v.drop _)) ?_⟩;have c6:((N.forks.drop (d+1)).take 1).length=min 1 (N.forks.length-(d+1)):=by rw[JC,lD]
  have c7:((N.forks.drop d).take 1).length=min 1 (N.forks.length-d):=by rw[JC,lD]
  rw[Jb,Jb,Jb,lA,lD,c6,c7];lia
 have bu:=s4 _ _ y.ends;have el:N.ends.length=N.lanes:=by rw[ok.en.length_eq,YW]
 have b1:=zZ N.ends;have k1:L<N.ends.length:=by simp_all
 refine⟨_,rfl,er,_,rfl,.inr (SqT.of bu),λlr a4=>?_⟩;have J:=zB a4 (.lst (zQ N.ends));have bt:=J _ _ bu;have a1:=ya (oj N.ends L k1);have a0:=ya (j:=0) (oj N.ends 0 (by lia));refine⟨_,rfl,_,rfl,er,_,_,_,rfl,rfl,SqT.of bt,a1,_,rfl,er,_,0,_,rfl,rfl,SqT.of bt,a0,(by show 2<=sizeLine;decide),λT hT=>?_⟩;have U:=zB hT (.tup [.int ((N.ends.getD L 0:Nat):Int),.int ((N.ends.getD 0 0:Nat):Int)]);have h6:=U _ _ (zW a4 (.lst (zQ N.ends)));refine⟨T,_,rfl,SqT.of zD,rfl,_,_,rfl,?_⟩;have u6:=(s4.trans J).trans U
 let d1:List Nat:=N.ends.set 0 (N.ends.getD L 0)
 let d2:List Nat:=d1.set L (N.ends.getD 0 0)
 have z1:(zQ N.ends).set 0 (.int ((N.ends.getD L 0:Nat):Int))=zQ d1:=List.map_set.symm;have z2:(zQ d1).set L (.int ((N.ends.getD 0 0:Nat):Int))=zQ d2:=List.map_set.symm;have b0:(zQ d1).length=N.ends.length:=by rw[zZ];exact List.length_set
 have pd:d2.Perm N.ends:=by
  have:=List.set_set_perm (as:=N.ends) (i:=0) (j:=L) (by lia) k1;have g1:N.ends.getD L 0=N.ends[L]:=by rw[Ju,J9 k1];rfl
  have g0:N.ends.getD 0 0=N.ends[0]:=by rw[Ju,J9 (by lia)];rfl
  show ((N.ends.set 0 (N.ends.getD L 0)).set L (N.ends.getD 0 0)).Perm N.ends;rw[g1,g0];exact this
 refine⟨_,rfl,lr,_,0,0,rfl,rfl,h6,kI (i:=0) (by lia),?_⟩;rw[z1];have bS:L2.upd (L2.upd (L2.upd H4 lr (.lst (zQ N.ends))) T (.tup [.int ((N.ends.getD L 0:Nat):Int),.int ((N.ends.getD 0 0:Nat):Int)])) lr (.lst (zQ d1)) lr=some (.lst (zQ d1)):=zD;have n3:H3 lr=none:=wK s4 a4
 have sm:∀ (xs ys:List V),Same H3 (L2.upd (L2.upd (L2.upd (L2.upd H4 lr (.lst (zQ N.ends))) T (.tup [.int ((N.ends.getD L 0:Nat):Int),.int ((N.ends.getD 0 0:Nat):Int)])) lr (.lst xs)) lr (.lst ys)):=λxs ys b o e=>by
  rw[zG (zF e n3),zG (zF e n3)];exact u6 b o e
 refine⟨_,_,rfl,_,rfl,_,rfl,lr,_,_,L,rfl,rfl,bS,by rw[b0];exact kI k1,?_⟩;rw[z2];refine⟨rfl,_,rfl,_,rfl,_,rfl,lr,_,rfl,.inl ⟨SqL.of zD,λt ht=>⟨(by show 3<=sizeLine;decide),λq hq=>?_⟩⟩⟩;have s7:=zB ht (.tup (zQ d2));have s8:=zB hq (.tup [.int (N.lanes:Nat),.ref fr,.ref t]);have u:=((sm (zQ d1) (zQ d2)).trans s7).trans s8;exact k q fr t C ⟨N.lanes,N.forks,d2⟩ _ ⟨⟨l1,ba,ok.fm,ok.fk,pd.trans ok.en⟩,a9,by show N.forks.length<=fb+1;lia⟩ rfl ⟨zW hq _,u _ _ y.forks,I.tups (Tups.of u),s8 _ _ (zW ht _)⟩ (S3.keep u) (B'.trans (But.of u))
abbrev mE:Stmt:=top 26
structure Lns (lanes:Nat) (moves:List Nat):Prop where
 ne:moves≠[]
 lt:∀ m∈moves,m<lanes
 up:moves.Pairwise (· < ·)
def qB:Sp:=λb H Q _=>∃ l r fr d c N,b=[.ref l,.ref r]/\Pk3 H l/\Nt.Ok N/\NetAt H r fr d c N/\∀ p moves a,Lns N.lanes moves->a p=some (.tup (zQ moves))->Pk3 a l->But l H a->Q (.ref p) a
theorem Lns.all {lanes:Nat}(h:1<=lanes):Lns lanes (List.range lanes):=⟨λz=>by have:=JW List.length z;rw[YW,Z6]at this;simp_all,λm a=>Zm.mp a,List.pairwise_lt_range⟩
theorem zaG:FnScope ["_law_left_here","_law_net","_law_some_here"] ["_law_left_here","_law_net"] (zN mE):=by rfl'
theorem gu {f fK:Addr}{fd dK:FuncData}(F:Fun K "_law_some" "_law_some" mE f fd) (G:Mgs mg) (d:Use P w K mg base "_law_pick" ["_law_left_here","_law_many"] 1 vF fK dK):FnOk P w K mg base CX0 2 f fd ["_law_left_here","_law_net"] qB:=by
 refine F.ok zaG (λvs H Q E h=>?_) (λa5 A outer s H vs Q E hr h=>?_)
 ·obtain⟨l,r,fr,er,ps,N,rfl,_⟩:=h
  rfl
 obtain⟨l,r,fr,er,ps,N,rfl,S,ok,na,k⟩:=h;have a4:=ok.l16;have l1:=ok.l1;refine⟨_,(@zE _ _ _ _ _ (@pi _ 2 _ _ _ _ (some _) _ _ _ _ _ _ _ _ ["_law_lane","_law_left_here"] [none,some 0] zaG.nd rfl rfl rfl (@vc _ _ _ _ _ _ rfl G.range (@zA _ _ _ _ _ (@zi _ _ _ _ _ _ _ yA (@qv _ 1 _ _ (by rfl')) zH (λ_ _=>rfl)) zC (by rfl)) (by rfl)) (CapOk.of (by kernel_rfl)) (λ_ _ _ _ _=>(@zM _ _ 0 _ (show (["_law_lane","_law_left_here"]:List Str).Nodup from by decide +kernel) rfl (.inl rfl) (.inr rfl))) (λ_ _ _ _ _=>(@lS _ _ _ (@zY _ _ _ _ _ _ _ _ xA (@zR _ _ _ _ _ _ _ _ _ _ _ _ _ _ _ _ d.ok hr (by rfl) d.m d.kp d.b .nil zu (@zA _ _ _ _ _ (@qv _ 1 _ _ (by rfl')) (@zA _ _ _ _ _ zH zC (by rfl)) (by rfl)) (by decide) (by rfl) (by rfl)) zH (zw _)))) (λ_ _ _ _ _=>(@qv _ 0 _ _ (by rfl'))) (by intro _;rfl) (by with_unfolding_all rfl)) (@zJ _ _ _ (@zV _ _ _ _ (@zi _ _ _ _ _ _ _ yE (@yR _ _ _ _ (@zA _ _ _ _ _ (@jV _ _ _ _ _ _ _ rfl (by rfl) G.tuple (by rfl) G.range (@zA _ _ _ _ _ (@zi _ _ _ _ _ _ _ yA (@qv _ 1 _ _ (by rfl')) zH (λ_ _=>rfl)) zC (by rfl)) (by rfl) (by rfl)) (@zA _ _ _ _ _ (@oD _ _ _ _ _ _ _ _ (@zY _ _ _ _ _ _ _ _ (gq hr.units0) (@qv _ 2 _ _ (by rfl')) (@yR _ _ _ _ zC) (zw _)) (@zv _ _ _ _ _ _ _ _ _ zz (by rfl) G.tuple (by rfl) (@zA _ _ _ _ _ (@qv _ 2 _ _ (by rfl')) zC (by rfl)) (by decide) (by decide) (by rfl) (by rfl)) (@zT _ _ _ _ _ (@zA _ _ _ _ _ (@zR _ _ _ _ _ _ _ _ _ _ _ _ _ _ _ _ d.ok hr (by rfl) d.m d.kp d.b .nil zu (@zA _ _ _ _ _ (@qv _ 0 _ _ (by rfl')) (@zA _ _ _ _ _ (@zi _ _ _ _ _ _ _ yA (@qv _ 1 _ _ (by rfl')) zH (λ_ _=>rfl)) zC (by rfl)) (by rfl)) (by decide) (by rfl) (by rfl)) zC (by rfl)))) zC (by rfl)) (by rfl))) (@zR _ _ _ _ _ _ _ _ _ _ _ _ _ _ _ _ d.ok hr (by rfl) d.m d.kp d.b .nil zu (@zA _ _ _ _ _ (@qv _ 0 _ _ (by rfl')) (@zA _ _ _ _ _ zH zC (by rfl)) (by rfl)) (by decide) (by rfl) (by rfl)) (λ_ _=>rfl))))),?_⟩;refine⟨_,rfl,r,_,_,_,rfl,rfl,SqT.of na.net,rfl,_,rfl,by simp_all,by lia,λlc B=>?_⟩;have O:=S.ne B;have a3:Frs l H lc:=λb o e _=>zF e B;refine j3 (lo:=0) (n:=((N.lanes:Nat):Int).toNat) (λi acc σ D=>(∃ v0,σ=[v0,some (.ref l)])/\Pk3 D l/\But l H D/\D lc=some (.lst acc)/\∃ ms:List Nat,acc=zQ ms/\ms.length<=i/\(∀ m∈ms,m<i)/\ms.Pairwise (· < ·)) ⟨⟨_,rfl⟩,S.upd O,But.of (zB B _),zW B _,[],rfl,Je _,λm L=>(nomatch L),.nil⟩ (λi acc σ D z=>z.2.2.2.1) ?_ ?_
 ·rintro i acc σ D hi ⟨⟨v0,rfl⟩,S2,Y,W,ms,rfl,ml,mlt,mp⟩
  refine⟨_,rfl,l,2,rfl,by decide,by decide,S2,λv H3 hv S3 B3=>⟨rfl,_,rfl,?_⟩⟩;have h3:=B3 lc _ W O.symm;have e0:(0:Int)+((i:Nat):Int)=((i:Nat):Int):=Int.zero_add _;refine sQ (λ_=>?_) (λ_=>?_)
  ·refine⟨_,rfl,h3,by rw[zZ,JG];lia,nx (by omega) ⟨⟨_,rfl⟩,S3.upd O,(Y.trans B3).upd a3,zD,ms++[i],?_,by rw[Jb];show _+1<=_;simp_all,λm L=>?_,?_⟩⟩
   ·rw[<- om,e0];rfl
   ·rcases Jy.mp L with y|y
    ·have:=mlt m y;lia
    ·rw[Ja.mp y];simp_all
   ·refine Yk.mpr ⟨mp,YU _ _,λa ha b hb=>?_⟩
    rw[Ja.mp hb];exact mlt a ha
  ·exact nx (by omega) ⟨⟨_,rfl⟩,S3,Y.trans B3,h3,ms,rfl,by lia,λm L=>by have:=mlt m L;lia,mp⟩
 rintro acc σ D ⟨⟨v0,rfl⟩,S2,Y,W,ms,rfl,ml,mlt,mp⟩;rw[Yf]at ml mlt;have R:=na.tups (Y.tups3 S);refine⟨_,rfl,r,_,_,_,rfl,rfl,SqT.of R.net,rfl,N.lanes,rfl,by lia,λI T=>?_⟩;have Z:=zB T (.tup (zQ (List.range N.lanes)));have h1:=zW T (.tup (zQ (List.range N.lanes)));have U:=Z _ _ W;have S1:=S2.keep Z;have B1:=Y.trans (But.of (l:=l) Z);have ab:=R.tups (Tups.of Z);show lJ _ _ _ (L2.upd D I (.tup (zQ (List.range N.lanes)))) _;generalize L2.upd D I (.tup (zQ (List.range N.lanes)))=H3 at *;clear W Z S2 Y R T;refine⟨_,rfl,(by show 0<=sizeLine;decide),λe he=>?_⟩;have J:=zB he (.lst []);refine⟨lc,e,_,rfl,rfl,SqL.of (J _ _ U),SqL.of (zW he _),_,rfl,?_⟩;have a0:=J _ _ U;have ao:=J _ _ h1;have S4:=S1.keep J;have B4:=B1.trans (But.of (l:=l) J);have aT:=ab.tups (Tups.of J);generalize L2.upd H3 e (.lst [])=H4 at *;clear U h1 S1 B1 ab J he
 have fin:∀ (q:Addr) (moves:List Nat) (C:Hp),Lns N.lanes moves->C q=some (.tup (zQ moves))->C I=some (.tup (zQ (List.range N.lanes)))->Pk3 C l->But l H C->∀ t,C t=none->∀ (v:Nat) (g:Hp),(v:Int)<2->Pk3 g l->But l (L2.upd C t (.lst [.ref I,.ref q])) g->∃ a xs j x,V.ref t=.ref a/\V.int (v:Nat)=.int j/\SqL K g a xs/\atI xs j=some x/\Q x g:=λq moves C ln W h1 S5 B5 t c v g hv X M=>by
  have s5:=zB c (.lst [.ref I,.ref q]);have t6:=(Tups.of s5).trans (M.tups3 (S5.keep s5));have B':=(B5.trans (But.of (l:=l) s5)).trans M
  have hx:∃ x,[V.ref I,V.ref q][v]?=some x/\Q x g:=by
   rcases v with _|_|v
   ·exact⟨_,rfl,k I _ g (Lns.all l1) (t6 _ _ h1) X B'⟩
   ·exact⟨_,rfl,k q moves g ln (t6 _ _ W) X B'⟩
   ·lia
  obtain⟨x,ex,qx⟩:=hx;exact⟨t,_,_,x,rfl,rfl,SqL.of (M t _ (zW c _) (S5.ne c).symm),ya ex,qx⟩
 by_cases un:ms=[]
 ·rw[show (!(zQ ms).isEmpty)=false by rw[un];rfl]
  refine yg ⟨_,rfl,_,rfl,r,_,_,_,rfl,rfl,SqT.of aT.net,rfl,l,_,rfl,by lia,by lia,S4,λone C ho S5 B5=>⟨(by show 1<=sizeLine;decide),λq p=>?_⟩⟩;have u:=zB p (.tup [.int (one:Nat)]);have t5:=B5.tups3 S4;refine⟨(by show 2<=sizeLine;decide),λt c=>⟨_,rfl,l,2,rfl,by decide,by decide,(S5.keep u).keep (zB c _),λv g hv X M=>?_⟩⟩;exact fin q [one] _ ⟨by simp,λm L=>by rw[Ja.mp L];simp_all,YU _ _⟩ (zW p _) (u _ _ (t5 _ _ ao)) (S5.keep u) ((B4.trans B5).trans (But.of u)) t c v g hv X M
 ·rw[show (!(zQ ms).isEmpty)=true by cases ms with
   | nil=>exact absurd rfl un
   | cons a b=>rfl]
  refine xC ⟨_,rfl,lc,_,rfl,.inl ⟨SqL.of a0,λq p=>?_⟩⟩;have u:=zB p (.tup (zQ ms));refine⟨(by show 2<=sizeLine;decide),λt c=>⟨_,rfl,l,2,rfl,by decide,by decide,(S4.keep u).keep (zB c _),λv g hv X M=>?_⟩⟩;exact fin q ms _ ⟨un,mlt,mp⟩ (zW p _) (u _ _ ao) (S4.keep u) (B4.trans (But.of u)) t c v g hv X M
abbrev pS:Stmt:=top 21
def uk (m:Nat):Sp:=λd H Q _=>∃ p row,d=[.ref p]/\H p=some (.lst (zQ row))/\row.length=2 ^ m/\m<=4/\∀ c lf le b a,Same H a->a c=some (.tup [.ref lf,.ref le])->a lf=some (.lst b)->Prs a b (xF m row).1->a le=some (.lst (zQ (xF m row).2))->Q (.ref c) a
theorem pN:FnScope ["_law_row","_law_half","_law_forks","_law_one","_law_more_here","_law_other","_law_last","_law_ends"] ["_law_row"] (zN pS):=by rfl'
theorem oJ {f fB:Addr}{fd dB:FuncData}(F:Fun K "_law_stairway" "_law_stairway" pS f fd) (G:Mgs mg) (D:Use P w K mg base "_law_merger" ["_law_one","_law_other"] 5 wI fB dB) (bS:Binds K fd ["_law_row"] []) (mS:mg "_law_stairway" = some (.ref f)) (n:Nat)
  (GS:FnOk P w K mg base CX0 (n+5) f fd ["_law_row"] (λvs H Q E=>∃ m,n=m+1/\uk m vs H Q E)):FnOk P w K mg base CX0 (n+6) f fd ["_law_row"] (uk n):=by
 have a:Use P w K mg base "_law_stairway" ["_law_row"] (n+5) (λvs H Q E=>∃ m,n=m+1/\uk m vs H Q E) f fd:=⟨GS,bS,F.kp,mS⟩;refine F.ok pN (λvs H Q E h=>?_) (λba A outer s H vs Q E M h=>?_)
 ·obtain⟨p,row,rfl,_⟩:=h
  rfl
 obtain⟨p,row,rfl,e,L,S,k⟩:=h;have Y:Room 5 _:=M.mono (by lia);refine⟨_,(@zE _ _ _ _ _ (@yO _ _ _ _ _ _ _ _ (@zY _ _ _ _ _ _ _ _ xA (@zU _ _ _ _ _ _ _ _ _ zo (by rfl) G.len Yd (@zA _ _ _ _ _ (@qv _ 0 _ _ (by rfl')) zC (by rfl)) (by decide) (by decide) (by rfl) (by rfl)) zH (zw _)) (@zJ _ _ _ (@zV _ _ _ _ (@zT _ _ _ _ _ (@zA _ _ _ _ _ (@yR _ _ _ _ zC) (@zA _ _ _ _ _ (@zv _ _ _ _ _ _ _ _ _ yu (by rfl) G.list (by rfl) (@zA _ _ _ _ _ (@qv _ 0 _ _ (by rfl')) zC (by rfl)) (by decide) (by decide) (by rfl) (by rfl)) zC (by rfl)) (by rfl))))) zr) (@zE _ _ _ _ _ (@zp _ _ 1 _ _ _ _ pN.nd rfl (.inl rfl) (@zS _ _ _ _ _ _ _ _ vM (@zU _ _ _ _ _ _ _ _ _ zo (by rfl) G.len Yd (@zA _ _ _ _ _ (@qv _ 0 _ _ (by rfl')) zC (by rfl)) (by decide) (by decide) (by rfl) (by rfl)) zH) (by rfl) (by rfl')) (@zE _ _ _ _ _ (@yP _ _ _ _ _ _ (@zR _ _ _ _ _ _ _ _ _ _ _ _ _ _ _ _ a.ok M (by rfl) a.m a.kp a.b .nil zu (@zA _ _ _ _ _ (@zx _ _ _ _ _ _ _ _ _ _ wR (@qv _ 0 _ _ (by rfl')) yH (@zt _ _ _ (@qv _ 1 _ _ (by rfl')))) zC (by rfl)) (by decide) (by rfl) (by rfl)) (@yJ _ _ _ _ _ _ rfl (@zK _ _ _ _ _ (@zM _ _ 2 _ pN.nd rfl (.inl rfl) (by rfl')) (@zK _ _ _ _ _ (@zM _ _ 3 _ pN.nd rfl (.inl rfl) (by rfl')) yC (by rfl)) (by rfl)) (by rfl) (by rfl)) (by rfl) (by rfl) (by rfl)) (@zE _ _ _ _ _ (@yP _ _ _ _ _ _ (@zR _ _ _ _ _ _ _ _ _ _ _ _ _ _ _ _ a.ok M (by rfl) a.m a.kp a.b .nil zu (@zA _ _ _ _ _ (@zx _ _ _ _ _ _ _ _ _ _ wR (@qv _ 0 _ _ (by rfl')) (@zt _ _ _ (@qv _ 1 _ _ (by rfl'))) yH) zC (by rfl)) (by decide) (by rfl) (by rfl)) (@yJ _ _ _ _ _ _ rfl (@zK _ _ _ _ _ (@zM _ _ 4 _ pN.nd rfl (.inl rfl) (by rfl')) (@zK _ _ _ _ _ (@zM _ _ 5 _ pN.nd rfl (.inl rfl) (by rfl')) yC (by rfl)) (by rfl)) (by rfl) (by rfl)) (by rfl) (by rfl) (by rfl)) (@zE _ _ _ _ _ (@yP _ _ _ _ _ _ (@zR _ _ _ _ _ _ _ _ _ _ _ _ _ _ _ _ D.ok Y (by rfl) D.m D.kp D.b .nil zu (@zA _ _ _ _ _ (@qv _ 3 _ _ (by rfl')) (@zA _ _ _ _ _ (@qv _ 5 _ _ (by rfl')) zC (by rfl)) (by rfl)) (by decide) (by rfl) (by rfl)) (@yJ _ _ _ _ _ _ rfl (@zK _ _ _ _ _ (@zM _ _ 6 _ pN.nd rfl (.inl rfl) (by rfl')) (@zK _ _ _ _ _ (@zM _ _ 7 _ pN.nd rfl (.inl rfl) (by rfl')) yC (by rfl)) (by rfl)) (by rfl) (by rfl)) (by rfl) (by rfl) (by rfl)) (@zJ _ _ _ (@zV _ _ _ _ (@zT _ _ _ _ _ (@zA _ _ _ _ _ (@zS _ _ _ _ _ _ _ _ wu (@zS _ _ _ _ _ _ _ _ wu (@qv _ 2 _ _ (by rfl')) (@qv _ 4 _ _ (by rfl'))) (@qv _ 6 _ _ (by rfl'))) (@zA _ _ _ _ _ (@qv _ 7 _ _ (by rfl')) zC (by rfl)) (by rfl)))))))))),?_⟩;have nl:=zZ row;have p8:2 ^ n<=2 ^ 4:=YT (by decide) S;have e8:2 ^ 4=16:=rfl;refine⟨_,rfl,p,_,rfl,.inl (SqL.of e),rfl,_,rfl,?_⟩
 cases n with
 | zero =>
  have O:row.length=1:=L;rw[JD (show V.int (((zQ row).length:Nat):Int)=V.int 1 by rw[nl,O];rfl)];refine xC ⟨(by show 0<=sizeLine;decide),λl N=>⟨_,rfl,p,_,rfl,.inl (SqL.of (zB N _ _ _ e)),λle hle=>⟨(by show 2<=sizeLine;decide),λc g=>?_⟩⟩⟩;have J:=zB N (.lst []);have C:=zB hle (.lst (zQ row));have d:=zB g (.tup [.ref l,.ref le])
  exact k c l le [] _ ((J.trans C).trans d) (zW g _) (d _ _ (C _ _ (zW N _))) trivial (d _ _ (zW hle _))
 | succ m =>
  obtain⟨t1,t2,t3⟩:=vB L;obtain⟨la,lb⟩:=wL L;have pw:2 ^ (m+1)=2 ^ m*2:=ZF ..;have p0:=ZS (n:=m);rw[Jt (show ¬ V.int (((zQ row).length:Nat):Int)=V.int 1 by intro z;injection z with z;lia)];refine yg ⟨_,rfl,p,_,rfl,.inl (SqL.of e),_,_,rfl,rfl,⟨by decide,by decide⟩,?_⟩;have eh:(((zQ row).length:Nat):Int) / 2=((row.length / 2:Nat):Int):=by rw[nl];lia
  simp only[eh];refine⟨_,rfl,_,rfl,_,rfl,p,_,rfl,SqL.of e,λp1 v=>?_⟩;rw[mY row _ t3];have J:=zB v (.lst (zQ (row.take (row.length / 2))));refine⟨m,rfl,p1,row.take (row.length / 2),rfl,zW v _,la,by lia,λc2 W le2 j H2 C a6 ao r a3=>?_⟩;have u2:=J.trans C;refine⟨c2,_,rfl,SqT.of a6,rfl,_,_,rfl,_,_,rfl,rfl,?_⟩;refine⟨_,rfl,_,rfl,_,rfl,p,_,rfl,SqL.of (u2 _ _ e),λp3 u=>?_⟩;rw[mZ row _ t3];have d:=zB u (.lst (zQ (row.drop (row.length / 2))));refine⟨m,rfl,p3,row.drop (row.length / 2),rfl,zW u _,lb,by lia,λc4 U X i H4 s4 a5 ab q a0=>?_⟩;have B:=d.trans s4;refine⟨c4,_,rfl,SqT.of a5,rfl,_,_,rfl,_,_,rfl,rfl,?_⟩;obtain⟨xl,xf⟩:=wQ m _ la;obtain⟨yl,yf⟩:=wQ m _ lb;obtain⟨zl,zf⟩:=xM m _ _ xl yl;have a9:=r.len;have a8:=q.len;obtain⟨bl,bc⟩:=vE m (by lia);refine⟨_,rfl,_,rfl,m,by lia,le2,X,_,_,rfl,B _ _ a3,a0,xl,yl,by lia,λc6 T t R H6 b _ a4 Z o aT=>?_⟩;refine⟨c6,_,rfl,SqT.of a4,rfl,_,_,rfl,_,_,rfl,rfl,?_⟩;have a7:=o.len;refine⟨_,rfl,_,rfl,W,U,_,_,rfl,rfl,b _ _ (B _ _ ao),b _ _ ab,by rw[JG];lia,λl7 y=>?_⟩;have s7:=zB y (.lst (j++i));refine⟨_,rfl,l7,T,_,_,rfl,rfl,zW y _,s7 _ _ Z,by rw[JG,Jb];lia,λl8 x=>?_⟩;have s8:=zB x (.lst ((j++i)++R));refine⟨_,rfl,(by show 2<=sizeLine;decide),λc g=>?_⟩;have s9:=zB g (.tup [.ref l8,.ref t]);have I:=(s7.trans s8).trans s9;refine k c l8 t _ _ ((u2.trans B).trans (b.trans I)) (zW g _) (s9 _ _ (zW x _)) ?_ (I _ _ aT);refine Prs.tups (Tups.of I) ?_;exact Prs.app (Prs.app ((r.tups (Tups.of B)).tups (Tups.of b)) (q.tups (Tups.of b))) o
theorem lj {f d:Addr}{fd e:FuncData}(F:Fun K "_law_stairway" "_law_stairway" pS f fd) (G:Mgs mg) (c:Use P w K mg base "_law_merger" ["_law_one","_law_other"] 5 wI d e) (b:Binds K fd ["_law_row"] []) (a:mg "_law_stairway" = some (.ref f)):∀ n:Nat,FnOk P w K mg base CX0 (n+6) f fd ["_law_row"] (uk n)
 | 0=>oJ F G c b a 0 ⟨λvs H Q E ⟨m,h,_⟩=>by simp_all,λA outer s H args us vs Q E _ _ _ _ ⟨m,h,_⟩=>by simp_all⟩
 | m+1=>oJ F G c b a (m+1) ((lj F G c b a m).imp λvs H Q E ⟨g,h,q⟩=>by cases h;exact q)
abbrev um:Sp:=λa H Q E=>∃ m,m<=4/\uk m a H Q E
theorem jZ {f b:Addr}{fd c:FuncData}(F:Fun K "_law_stairway" "_law_stairway" pS f fd) (G:Mgs mg) (e:Use P w K mg base "_law_merger" ["_law_one","_law_other"] 5 wI b c) (d:Binds K fd ["_law_row"] []) (a:mg "_law_stairway" = some (.ref f)):FnOk P w K mg base CX0 10 f fd ["_law_row"] um :=
 FnOk.any 4 λm g=>(lj F G e d a m).mono (by simp_all)
abbrev pR:Stmt:=top 23
def ui (m:Nat):Sp:=λd H Q _=>∃ p row,d=[.ref p]/\H p=some (.lst (zQ row))/\row.length=2 ^ m/\m<=4/\∀ c lf le b a,Same H a->a c=some (.tup [.ref lf,.ref le])->a lf=some (.lst b)->Prs a b (xQ m row).1->a le=some (.lst (zQ (xQ m row).2))->Q (.ref c) a
theorem qI:FnScope ["_law_row","_law_half","_law_forks","_law_one","_law_more_here","_law_other","_law_ends","_law_x","_law_y"] ["_law_row"] (zN pR):=by rfl'
theorem oI {f:Addr}{fd:FuncData}(F:Fun K "_law_tree" "_law_tree" pR f fd) (G:Mgs mg) (bS:Binds K fd ["_law_row"] []) (mS:mg "_law_tree" = some (.ref f)) (n:Nat)
  (GS:FnOk P w K mg base CX0 n f fd ["_law_row"] (λvs H Q E=>∃ m,n=m+1/\ui m vs H Q E)):FnOk P w K mg base CX0 (n+1) f fd ["_law_row"] (ui n):=by
 have u:Use P w K mg base "_law_tree" ["_law_row"] n (λvs H Q E=>∃ m,n=m+1/\ui m vs H Q E) f fd:=⟨GS,bS,F.kp,mS⟩;refine F.ok qI (λvs H Q E h=>?_) (λb3 A outer s H vs Q E hr h=>?_)
 ·obtain⟨p,row,rfl,_⟩:=h
  rfl
 obtain⟨p,row,rfl,D,rl,a6,k⟩:=h;refine⟨_,(@zE _ _ _ _ _ (@yO _ _ _ _ _ _ _ _ (@zY _ _ _ _ _ _ _ _ xA (@zU _ _ _ _ _ _ _ _ _ zo (by rfl) G.len Yd (@zA _ _ _ _ _ (@qv _ 0 _ _ (by rfl')) zC (by rfl)) (by decide) (by decide) (by rfl) (by rfl)) zH (zw _)) (@zJ _ _ _ (@zV _ _ _ _ (@zT _ _ _ _ _ (@zA _ _ _ _ _ (@yR _ _ _ _ zC) (@zA _ _ _ _ _ (@zv _ _ _ _ _ _ _ _ _ yu (by rfl) G.list (by rfl) (@zA _ _ _ _ _ (@qv _ 0 _ _ (by rfl')) zC (by rfl)) (by decide) (by decide) (by rfl) (by rfl)) zC (by rfl)) (by rfl))))) zr) (@zE _ _ _ _ _ (@zp _ _ 1 _ _ _ _ qI.nd rfl (.inl rfl) (@zS _ _ _ _ _ _ _ _ vM (@zU _ _ _ _ _ _ _ _ _ zo (by rfl) G.len Yd (@zA _ _ _ _ _ (@qv _ 0 _ _ (by rfl')) zC (by rfl)) (by decide) (by decide) (by rfl) (by rfl)) zH) (by rfl) (by rfl')) (@zE _ _ _ _ _ (@yP _ _ _ _ _ _ (@zR _ _ _ _ _ _ _ _ _ _ _ _ _ _ _ _ u.ok hr (by rfl) u.m u.kp u.b .nil zu (@zA _ _ _ _ _ (@zx _ _ _ _ _ _ _ _ _ _ wR (@qv _ 0 _ _ (by rfl')) yH (@zt _ _ _ (@qv _ 1 _ _ (by rfl')))) zC (by rfl)) (by decide) (by rfl) (by rfl)) (@yJ _ _ _ _ _ _ rfl (@zK _ _ _ _ _ (@zM _ _ 2 _ qI.nd rfl (.inl rfl) (by rfl')) (@zK _ _ _ _ _ (@zM _ _ 3 _ qI.nd rfl (.inl rfl) (by rfl')) yC (by rfl)) (by rfl)) (by rfl) (by rfl)) (by rfl) (by rfl) (by rfl)) (@zE _ _ _ _ _ (@yP _ _ _ _ _ _ (@zR _ _ _ _ _ _ _ _ _ _ _ _ _ _ _ _ u.ok hr (by rfl) u.m u.kp u.b .nil zu (@zA _ _ _ _ _ (@zx _ _ _ _ _ _ _ _ _ _ wR (@qv _ 0 _ _ (by rfl')) (@zt _ _ _ (@qv _ 1 _ _ (by rfl'))) yH) zC (by rfl)) (by decide) (by rfl) (by rfl)) (@yJ _ _ _ _ _ _ rfl (@zK _ _ _ _ _ (@zM _ _ 4 _ qI.nd rfl (.inl rfl) (by rfl')) (@zK _ _ _ _ _ (@zM _ _ 5 _ qI.nd rfl (.inl rfl) (by rfl')) yC (by rfl)) (by rfl)) (by rfl) (by rfl)) (by rfl) (by rfl) (by rfl)) (@zE _ _ _ _ _ (@zp _ _ 6 _ _ _ _ qI.nd rfl (.inl rfl) (@yR _ _ _ _ zC) (by rfl) (by rfl')) (@zE _ _ _ _ _ (@xG _ _ _ _ _ _ _ _ Yp rfl (@gj _ _ _ _ _ _ _ _ _ true true rfl G.zip (@zA _ _ _ _ _ (@qv _ 3 _ _ (by rfl')) (@zA _ _ _ _ _ (@qv _ 5 _ _ (by rfl')) zC (by rfl)) (by rfl)) (by rfl) (by rfl)) (@yJ _ _ _ _ _ _ rfl (@zK _ _ _ _ _ (@zM _ _ 7 _ qI.nd rfl (.inl rfl) (by rfl')) (@zK _ _ _ _ _ (@zM _ _ 8 _ qI.nd rfl (.inl rfl) (by rfl')) yC (by rfl)) (by rfl)) (by rfl) (by rfl)) (@zJ _ _ _ (@y4 _ _ _ _ (@uH _ _ _ _ _ _ _ _ _ _ _ _ YK PySem.F.slot_list_extend PySem.F.type_list_extend vh (@qv _ 6 _ _ (by rfl')) (@zA _ _ _ _ _ (@yR _ _ _ _ (@zA _ _ _ _ _ (@qv _ 7 _ _ (by rfl')) (@zA _ _ _ _ _ (@qv _ 8 _ _ (by rfl')) zC (by rfl)) (by rfl))) zC (by rfl)) (by rfl) (by rfl) (by rfl) (by rfl) (by rfl)) (by rfl))) (by intro _;rfl)) (@zJ _ _ _ (@zV _ _ _ _ (@zT _ _ _ _ _ (@zA _ _ _ _ _ (@zS _ _ _ _ _ _ _ _ wu (@zS _ _ _ _ _ _ _ _ wu (@yR _ _ _ _ (@zA _ _ _ _ _ (@zT _ _ _ _ _ (@zA _ _ _ _ _ (@zi _ _ _ _ _ _ _ yE (@qv _ 0 _ _ (by rfl')) zH (λ_ _=>rfl)) (@zA _ _ _ _ _ (@zi _ _ _ _ _ _ _ yE (@qv _ 0 _ _ (by rfl')) (@qv _ 1 _ _ (by rfl')) (λ_ _=>rfl)) zC (by rfl)) (by rfl))) zC (by rfl))) (@qv _ 2 _ _ (by rfl'))) (@qv _ 4 _ _ (by rfl'))) (@zA _ _ _ _ _ (@qv _ 6 _ _ (by rfl')) zC (by rfl)) (by rfl))))))))))),?_⟩;have nl:=zZ row;have p8:2 ^ n<=2 ^ 4:=YT (by decide) a6;have e8:2 ^ 4=16:=rfl;refine⟨_,rfl,p,_,rfl,.inl (SqL.of D),rfl,_,rfl,?_⟩
 cases n with
 | zero =>
  have a4:row.length=1:=rl;rw[JD (show V.int (((zQ row).length:Nat):Int)=V.int 1 by rw[nl,a4];rfl)];refine xC ⟨(by show 0<=sizeLine;decide),λl hl=>⟨_,rfl,p,_,rfl,.inl (SqL.of (zB hl _ _ _ D)),λle hle=>⟨(by show 2<=sizeLine;decide),λc J=>?_⟩⟩⟩;have s1:=zB hl (.lst []);have s2:=zB hle (.lst (zQ row));have I:=zB J (.tup [.ref l,.ref le])
  exact k c l le [] _ ((s1.trans s2).trans I) (zW J _) (I _ _ (s2 _ _ (zW hl _))) trivial (I _ _ (zW hle _))
 | succ m =>
  obtain⟨t1,t2,t3⟩:=vB rl;obtain⟨la,lb⟩:=wL rl;have pw:2 ^ (m+1)=2 ^ m*2:=ZF ..;have p0:=ZS (n:=m);rw[Jt (show ¬ V.int (((zQ row).length:Nat):Int)=V.int 1 by intro z;injection z with z;lia)];refine yg ⟨_,rfl,p,_,rfl,.inl (SqL.of D),_,_,rfl,rfl,⟨by decide,by decide⟩,?_⟩;have eh:(((zQ row).length:Nat):Int) / 2=((row.length / 2:Nat):Int):=by rw[nl];lia
  simp only[eh];refine⟨_,rfl,_,rfl,_,rfl,p,_,rfl,SqL.of D,λp1 aT=>?_⟩;rw[mY row _ t3];have s1:=zB aT (.lst (zQ (row.take (row.length / 2))));refine⟨m,rfl,p1,row.take (row.length / 2),rfl,zW aT _,la,by lia,λc2 W le2 O H2 s2 bl a9 S ba=>?_⟩;have u2:=s1.trans s2;refine⟨c2,_,rfl,SqT.of bl,rfl,_,_,rfl,_,_,rfl,rfl,?_⟩;refine⟨_,rfl,_,rfl,_,rfl,p,_,rfl,SqL.of (u2 _ _ D),λp3 Z=>?_⟩;rw[mZ row _ t3];have I:=zB Z (.lst (zQ (row.drop (row.length / 2))));refine⟨m,rfl,p3,row.drop (row.length / 2),rfl,zW Z _,lb,by lia,λc4 U g a5 H4 s4 bc a8 R C=>?_⟩;have u4:=I.trans s4;refine⟨c4,_,rfl,SqT.of bc,rfl,_,_,rfl,_,_,rfl,rfl,?_⟩;have B:=u2.trans u4;obtain⟨xl,xf⟩:=vC m _ la;obtain⟨yl,yf⟩:=vC m _ lb;have bt:=S.len;have bo:=R.len;have b:=u4 _ _ ba;have ao:=u4 _ _ a9;have ab:=S.tups (Tups.of u4);have a7:=B _ _ D;generalize hF:(xQ m (row.take (row.length / 2))).2=fst at *;generalize hS:(xQ m (row.drop (row.length / 2))).2=snd at *;refine⟨(by show 0<=sizeLine;decide),λr a=>?_⟩;have s8:=zB a (.lst []);have b0:H r=none:=wK B a;have bB:le2≠r:=zF b a;have bu:g≠r:=zF C a;refine⟨_,rfl,_,rfl,le2,g,_,_,rfl,SqL.of (s8 _ _ b),SqL.of (s8 _ _ C),?_⟩;refine kM (K:=K) (b1:=true) (b2:=true) (a1:=le2) (a2:=g) (xs:=zQ fst) (ys:=zQ snd) (by rw[zZ,zZ,xl,yl]) (λj σ M=>(∃ v7 v8,σ=[some (.ref p),some (.int ((row.length / 2:Nat):Int)),some (.ref W),some (.ref le2),some (.ref U),some (.ref g),some (.ref r),v7,v8])/\Same H4 M/\M r=some (.lst (zQ (yU (fst.take j) (snd.take j))))) ⟨⟨_,_,rfl⟩,s8,zW a _⟩ (λj σ M _ z=>⟨SqL.of (z.2.1 _ _ b),SqL.of (z.2.1 _ _ C)⟩) ?_ ?_
  ·rintro j x y T σ M hx hy hT ⟨⟨v7,v8,rfl⟩,i,L⟩
   obtain⟨j1,rfl⟩:=tK hx;obtain⟨j2,rfl⟩:=tK hy;have sT:=zB hT (.tup [.int ((fst.getD j 0:Nat):Int),.int ((snd.getD j 0:Nat):Int)]);refine⟨T,_,rfl,SqT.of zD,rfl,_,_,rfl,_,_,rfl,rfl,?_⟩;refine⟨_,rfl,.inl ⟨rfl,_,SqL.of (sT _ _ L)⟩,_,rfl,_,rfl,(by show 2<=sizeLine;decide),λq hq=>?_⟩;have sq:=zB hq (.lst [.int ((fst.getD j 0:Nat):Int),.int ((snd.getD j 0:Nat):Int)]);have tl:=xP (fst.take j) (snd.take j) (by rw[JC,JC];lia);rw[JC]at tl;refine⟨r,q,_,_,rfl,rfl,sq _ _ (sT _ _ L),zW hq _,by rw[zZ,JG,tl];show _+2<=_;grind,?_⟩;refine⟨⟨_,_,rfl⟩,λc o e=>?_,?_⟩
   ·rw[zG (zF e a)];exact sq _ _ (sT _ _ (i c o e))
   ·rw[wm fst snd j j1 j2]
    have e:zQ (yU (fst.take j) (snd.take j)++[fst.getD j 0,snd.getD j 0])=zQ (yU (fst.take j) (snd.take j))++[.int ((fst.getD j 0:Nat):Int),.int ((snd.getD j 0:Nat):Int)]:=by rw[<- om];rfl
    rw[e];exact zD
  ·rintro σ M ⟨⟨v7,v8,rfl⟩,i,L⟩
   rw[JS (by rw[zZ];exact Je _),JS (by rw[zZ];simp_all)]at L;have Y:=i _ _ a7;refine⟨_,rfl,p,_,0,_,rfl,rfl,SqL.of Y,ya (j:=0) (oj row 0 (by lia)),?_⟩;refine⟨_,rfl,_,rfl,p,_,_,_,rfl,rfl,SqL.of Y,ya (oj row (row.length / 2) (by lia)),(by show 2<=sizeLine;decide),λt ht=>?_⟩;have s5:=zB ht (.tup [.int ((row.getD 0 0:Nat):Int),.int ((row.getD (row.length / 2) 0:Nat):Int)]);refine⟨(by show 1<=sizeLine;decide),λl6 a3=>?_⟩;have s6:=zB a3 (.lst [.ref t]);refine⟨_,rfl,l6,W,_,_,rfl,rfl,zW a3 _,s6 _ _ (s5 _ _ (i _ _ ao)),by rw[JG];simp only[JM,Z6];lia,λl7 a0=>?_⟩;have s7:=zB a0 (.lst ([.ref t]++O));refine⟨_,rfl,l7,U,_,_,rfl,rfl,zW a0 _,s7 _ _ (s6 _ _ (s5 _ _ (i _ _ a8))),by rw[JG,Jb];simp only[JM,Z6];lia,λX v=>?_⟩;have N:=zB v (.lst (([.ref t]++O)++a5));have u8:=((s5.trans s6).trans s7).trans N;refine⟨_,rfl,(by show 2<=sizeLine;decide),λc J=>?_⟩;have d:=zB J (.tup [.ref X,.ref r]);have t8:=N _ _ (s7 _ _ (s6 _ _ (zW ht (.tup [.int ((row.getD 0 0:Nat):Int),.int ((row.getD (row.length / 2) 0:Nat):Int)]))));have eN:xQ (m+1) row=((row.getD 0 0,row.getD (row.length / 2) 0)::((xQ m (row.take (row.length / 2))).1++(xQ m (row.drop (row.length / 2))).1),yU fst snd):=by rw[<- hF,<- hS];rfl
   refine k c X r _ _ (B.trans (i.trans (u8.trans d))) (zW J _) (d _ _ (zW v _)) ?_ (by rw[eN];exact d _ _ (u8 _ _ L));refine Prs.tups (Tups.of d) ?_;rw[Y0,eN];exact Prs.app (ps:=[.ref t]) (fs:=[(row.getD 0 0,row.getD (row.length / 2) 0)]) (show Prs _ [.ref t] [(row.getD 0 0,row.getD (row.length / 2) 0)] from⟨⟨t,rfl,t8⟩,trivial⟩) (Prs.app ((ab.tups (Tups.of i)).tups (Tups.of u8)) ((R.tups (Tups.of i)).tups (Tups.of u8)))
theorem lh {f:Addr}{fd:FuncData}(F:Fun K "_law_tree" "_law_tree" pR f fd) (G:Mgs mg) (b:Binds K fd ["_law_row"] []) (a:mg "_law_tree" = some (.ref f)):∀ n:Nat,FnOk P w K mg base CX0 (n+1) f fd ["_law_row"] (ui n)
 | 0=>oI F G b a 0 ⟨λvs H Q E ⟨m,h,_⟩=>by simp_all,λA outer s H args us vs Q E _ _ _ _ ⟨m,h,_⟩=>by simp_all⟩
 | m+1=>oI F G b a (m+1) ((lh F G b a m).imp λvs H Q E ⟨c,h,q⟩=>by cases h;exact q)
abbrev uj:Sp:=λa H Q E=>∃ m,m<=4/\ui m a H Q E
theorem jY {f:Addr}{fd:FuncData}(F:Fun K "_law_tree" "_law_tree" pR f fd) (G:Mgs mg) (b:Binds K fd ["_law_row"] []) (a:mg "_law_tree" = some (.ref f)):FnOk P w K mg base CX0 5 f fd ["_law_row"] uj :=
 FnOk.any 4 λm c=>(lh F G b a m).mono (by simp_all)
end
end K37
namespace Bn
open PySem L2 Own
def cu (k:Nat)(A:Nt):Nt:=⟨A.lanes+A.lanes,(A.forks++A.forks.map (shF A.lanes))++(mergeN k A.ends (A.ends.map (A.lanes + ·))).1,(mergeN k A.ends (A.ends.map (A.lanes + ·))).2⟩
end Bn
namespace K37
open PySem L2 Own Bn
abbrev pU:Stmt:=top 22
def ur (m:Nat):Sp:=λc H Q _=>∃ p row,c=[.ref p]/\H p=some (.lst (zQ row))/\row.length=2 ^ m/\m<=4/\∀ l b a,Same H a->a l=some (.lst b)->Prs a b (xj m row)->Q (.ref l) a
theorem aI (row:List Nat)(j:Nat)(h:j<row.length):row.reverse.getD j 0=row.getD (row.length-1-j) 0:=by
 rw[Ju,List.getElem?_reverse h,Ju]
section
variable {P:Program}{w:World}{K:PySem.W.Frag}{mg:Str->Option Value}{base:Heap}
theorem bn:FnScope ["_law_row","_law_half","_law_forks"] ["_law_row"] (zN pU):=by rfl'
theorem oM {f:Addr}{fd:FuncData}(F:Fun K "_law_block" "_law_block" pU f fd) (G:Mgs mg) (bS:Binds K fd ["_law_row"] []) (mS:mg "_law_block" = some (.ref f)) (n:Nat)
  (GS:FnOk P w K mg base CX0 n f fd ["_law_row"] (λvs H Q E=>∃ m,n=m+1/\ur m vs H Q E)):FnOk P w K mg base CX0 (n+1) f fd ["_law_row"] (ur n):=by
 have d:Use P w K mg base "_law_block" ["_law_row"] n (λvs H Q E=>∃ m,n=m+1/\ur m vs H Q E) f fd:=⟨GS,bS,F.kp,mS⟩;refine F.ok bn (λvs H Q E h=>?_) (λa7 A outer s H vs Q E hr h=>?_)
 ·obtain⟨p,row,rfl,_⟩:=h
  rfl
 obtain⟨p,row,rfl,v,W,a0,k⟩:=h;refine⟨_,(@zE _ _ _ _ _ (@yO _ _ _ _ _ _ _ _ (@zY _ _ _ _ _ _ _ _ xA (@zU _ _ _ _ _ _ _ _ _ zo (by rfl) G.len Yd (@zA _ _ _ _ _ (@qv _ 0 _ _ (by rfl')) zC (by rfl)) (by decide) (by decide) (by rfl) (by rfl)) zH (zw _)) (@zJ _ _ _ (@zV _ _ _ _ (@yR _ _ _ _ zC))) zr) (@zE _ _ _ _ _ (@zp _ _ 1 _ _ _ _ bn.nd rfl (.inl rfl) (@zS _ _ _ _ _ _ _ _ vM (@zU _ _ _ _ _ _ _ _ _ zo (by rfl) G.len Yd (@zA _ _ _ _ _ (@qv _ 0 _ _ (by rfl')) zC (by rfl)) (by decide) (by decide) (by rfl) (by rfl)) zH) (by rfl) (by rfl')) (@zE _ _ _ _ _ (@pi _ 2 _ _ _ _ none _ _ _ _ _ _ _ _ ["_law_i","_law_row"] [none,some 0] bn.nd rfl rfl rfl (@vc _ _ _ _ _ _ rfl G.range (@zA _ _ _ _ _ (@qv _ 1 _ _ (by rfl')) zC (by rfl)) (by rfl)) (CapOk.of (by kernel_rfl)) (λ_ _ _ _ _=>(@zM _ _ 0 _ (show (["_law_i","_law_row"]:List Str).Nodup from by decide +kernel) rfl (.inl rfl) (.inr rfl))) (λ_ _ _ _ _=>uV) (λ_ _ _ _ _=>(@zT _ _ _ _ _ (@zA _ _ _ _ _ (@zi _ _ _ _ _ _ (aJ K) yE (@qv _ 1 _ _ (by rfl')) (@qv _ 0 _ _ (by rfl')) (λ_ _=>rfl)) (@zA _ _ _ _ _ (@zi _ _ _ _ _ _ (aJ K) yE (@qv _ 1 _ _ (by rfl')) (@zS _ _ _ _ _ _ _ _ vf (@zS _ _ _ _ _ _ _ _ vf (@zU _ _ _ _ _ _ _ _ (bN K) iP (by rfl) G.len Yd (@zA _ _ _ _ _ (@qv _ 1 _ _ (by rfl')) zC (by rfl)) (by decide) (by decide) (by rfl) (by rfl)) zH) (@qv _ 0 _ _ (by rfl'))) (λ_ _=>rfl)) zC (by rfl)) (by rfl)))) (by intro _;rfl) (by with_unfolding_all rfl)) (@zJ _ _ _ (@zV _ _ _ _ (@zS _ _ _ _ _ _ _ _ wu (@zS _ _ _ _ _ _ _ _ wu (@qv _ 2 _ _ (by rfl')) (@zR _ _ _ _ _ _ _ _ _ _ _ _ _ _ _ _ d.ok hr (by rfl) d.m d.kp d.b .nil zu (@zA _ _ _ _ _ (@zx _ _ _ _ _ _ _ _ _ _ wR (@qv _ 0 _ _ (by rfl')) yH (@zt _ _ _ (@qv _ 1 _ _ (by rfl')))) zC (by rfl)) (by decide) (by rfl) (by rfl))) (@zR _ _ _ _ _ _ _ _ _ _ _ _ _ _ _ _ d.ok hr (by rfl) d.m d.kp d.b .nil zu (@zA _ _ _ _ _ (@zx _ _ _ _ _ _ _ _ _ _ wR (@qv _ 0 _ _ (by rfl')) (@zt _ _ _ (@qv _ 1 _ _ (by rfl'))) yH) zC (by rfl)) (by decide) (by rfl) (by rfl)))))))),?_⟩;have nl:=zZ row;have p8:2 ^ n<=2 ^ 4:=YT (by decide) a0;have e8:2 ^ 4=16:=rfl;refine⟨_,rfl,p,_,rfl,.inl (SqL.of v),rfl,_,rfl,?_⟩
 cases n with
 | zero =>
  have ao:row.length=1:=W;rw[JD (show V.int (((zQ row).length:Nat):Int)=V.int 1 by rw[nl,ao];rfl)]
  exact xC ⟨(by show 0<=sizeLine;decide),λl hl=>k l [] _ (zB hl _) (zW hl _) trivial⟩
 | succ m =>
  obtain⟨t1,t2,t3⟩:=vB W;obtain⟨la,lb⟩:=wL W;have pw:2 ^ (m+1)=2 ^ m*2:=ZF ..;have p0:=ZS (n:=m);rw[Jt (show ¬ V.int (((zQ row).length:Nat):Int)=V.int 1 by intro z;injection z with z;lia)];refine yg ⟨_,rfl,p,_,rfl,.inl (SqL.of v),_,_,rfl,rfl,⟨by decide,by decide⟩,?_⟩;have eh:(((zQ row).length:Nat):Int) / 2=((row.length / 2:Nat):Int):=by rw[nl];lia
  simp only[eh];refine⟨_,rfl,((row.length / 2:Nat):Int),rfl,by lia,by lia,λlc J=>?_⟩;refine fW (lo:=0) (n:=((row.length / 2:Nat):Int).toNat) (λj acc σ r=>(∃ N,σ=[N,some (.ref p)])/\Same H r/\r lc=some (.lst acc)/\acc.length=j/\Prs r acc (((row.take (row.length / 2)).zip row.reverse).take j)) ⟨⟨_,rfl⟩,zB J _,zD,rfl,trivial⟩ (λj acc σ r z=>z.2.2.1) ?_ ?_
  ·rintro j acc σ r hj ⟨⟨N,rfl⟩,u,Y,al,a⟩
   have jl:j<row.length / 2:=by lia
   have b:=u _ _ v;have e0:(0:Int)+((j:Nat):Int)=((j:Nat):Int):=Int.zero_add _;refine⟨_,rfl,_,rfl,p,_,_,_,rfl,rfl,SqL.of b,(by rw[e0];exact ya (oj row j (by grind))),?_⟩;refine⟨_,rfl,_,rfl,p,_,rfl,.inl (SqL.of b),_,_,rfl,rfl,_,rfl,_,_,rfl,rfl,?_⟩;have ei:(((zQ row).length:Nat):Int)-1-(0+((j:Nat):Int))=((row.length-1-j:Nat):Int):=by rw[nl];grind
   refine⟨p,_,_,_,rfl,rfl,SqL.of b,(by rw[ei];exact ya (oj row (row.length-1-j) (by lia))),?_⟩;rw[<- aI row j (by grind)];refine⟨(by show 2<=sizeLine;decide),λt ht=>?_⟩;have U:=zB ht (.tup [.int ((row.getD j 0:Nat):Int),.int ((row.reverse.getD j 0:Nat):Int)]);have X:=U _ _ Y;refine⟨X,by rw[JG];lia,nx hj ⟨⟨_,rfl⟩,λc o e=>?_,zD,by rw[Jb,al];rfl,?_⟩⟩
   ·rw[zG (zF e J)];exact U _ _ (u c o e)
   ·rw[qu (by rw[JC];simp_all) (by rw[List.length_reverse];grind)]
    refine Prs.add (f:=((row.take (row.length / 2)).getD j 0,row.reverse.getD j 0)) ?_ ((a.tups (Tups.of U)).tups (Tups.lst X));rw[Tups.lst X _ _ (zW ht _),Ju (l:=row.take _),Zg jl,<- Ju]
  rintro acc σ r ⟨⟨N,rfl⟩,u,Y,al,a⟩;rw[Yf]at al a;rw[JS (by rw[ZN,JC,List.length_reverse];simp_all)]at a;have b:=u _ _ v;refine⟨_,rfl,_,rfl,_,rfl,_,rfl,p,_,rfl,SqL.of b,λp5 I=>?_⟩;rw[mY row _ t3];have s5:=zB I (.lst (zQ (row.take (row.length / 2))));refine⟨m,rfl,p5,row.take (row.length / 2),rfl,zW I _,la,by lia,λl6 q H7 ab a4 g=>?_⟩;have S:=s5.trans ab;have b6:=x9 m (row.take (row.length / 2));rw[la]at b6;have a8:m*2 ^ m<=4*16:=Nat.mul_le_mul (by lia) (by lia);have a6:=g.len;refine⟨lc,l6,_,_,rfl,rfl,S _ _ Y,a4,by rw[JG];lia,λl7 L=>?_⟩;have T:=zB L (.lst (acc++q));have B:=(Prs.app (a.tups (Tups.of S)) g).tups (Tups.of T);have R:=u.trans (S.trans T);have D:=R _ _ v;have h8:=zW L (.lst (acc++q));generalize L2.upd H7 l7 _=H8 at T B R D h8 ⊢;refine⟨_,rfl,_,rfl,_,rfl,p,_,rfl,SqL.of D,λp9 C=>?_⟩;rw[mZ row _ t3];have s9:=zB C (.lst (zQ (row.drop (row.length / 2))));refine⟨m,rfl,p9,row.drop (row.length / 2),rfl,zW C _,lb,by lia,λl9 aT H9 Z h9 y=>?_⟩;have O:=s9.trans Z;have b9:=x9 m (row.drop (row.length / 2));rw[lb]at b9;have a5:=y.len;refine⟨l7,l9,_,_,rfl,rfl,O _ _ h8,h9,by rw[Jb,JG];lia,λa3 i=>?_⟩;have x:=zB i (.lst ((acc++q)++aT));have M:=(Prs.app (B.tups (Tups.of O)) y).tups (Tups.of x);refine k a3 _ _ (R.trans (O.trans x)) (zW i _) ?_
  have e:xj (m+1) row=(row.take (row.length / 2)).zip row.reverse++xj m (row.take (row.length / 2))++xj m (row.drop (row.length / 2)):=by
   conv=>lhs;unfold xj
   rw[Jd (by lia)]
  rw[e];exact M
theorem lz {f:Addr}{fd:FuncData}(F:Fun K "_law_block" "_law_block" pU f fd) (G:Mgs mg) (b:Binds K fd ["_law_row"] []) (a:mg "_law_block" = some (.ref f)):∀ n:Nat,FnOk P w K mg base CX0 (n+1) f fd ["_law_row"] (ur n)
 | 0=>oM F G b a 0 ⟨λvs H Q E ⟨m,h,_⟩=>by simp_all,λA outer s H args us vs Q E _ _ _ _ ⟨m,h,_⟩=>by simp_all⟩
 | m+1=>oM F G b a (m+1) ((lz F G b a m).imp λvs H Q E ⟨c,h,q⟩=>by cases h;exact q)
abbrev uu:Sp:=λa H Q E=>∃ m,m<=4/\ur m a H Q E
theorem jf {f:Addr}{fd:FuncData}(F:Fun K "_law_block" "_law_block" pU f fd) (G:Mgs mg) (b:Binds K fd ["_law_row"] []) (a:mg "_law_block" = some (.ref f)):FnOk P w K mg base CX0 5 f fd ["_law_row"] uu :=
 FnOk.any 4 λm c=>(lz F G b a m).mono (by simp_all)
abbrev gO:Stmt:=top 24
def yc (way k:Nat):Nt:=if way=0 then xS k else if way=1 then xq k else xb k
theorem kD {way k:Nat}(h:k<5):(yc way k).Ok:=by
 unfold yc;split
 ·exact iz h
 ·split
  ·exact ez h
  ·exact jQ h
theorem tN (way k:Nat):(yc way k).lanes=2 ^ k:=by
 unfold yc;split
 ·rfl
 ·split<;>rfl
def n5:Sp:=λb H Q _=>∃ way k:Nat,b=[.int (way:Nat),.int (k:Nat)]/\k<5/\∀ r fr d c a,Same H a->NetAt a r fr d c (yc way k)->Q (.ref r) a
theorem qR {H:Hp}{ps:List V}{fs:List Fk}(h:Prs H ps fs):∀ n:Nat,Prs H (List.replicate n ps).flatten (List.replicate n fs).flatten
 | 0=>trivial
 | n+1=>by
  rw[Yr,Yr,Za,Za];exact Prs.app h (qR h n)
theorem mB:FnScope ["_law_way","_law_k","_law_row","_law_forks","_law_ends"] ["_law_way","_law_k"] (zN gO):=by rfl'
theorem cB {f fB fS fT:Addr}{fd dB dS dT:FuncData}(F:Fun K "_law_made" "_law_made" gO f fd) (G:Mgs mg) (UB:Use P w K mg base "_law_block" ["_law_row"] 5 uu fB dB) (US:Use P w K mg base "_law_stairway" ["_law_row"] 10 um fS dS) (Z:Use P w K mg base "_law_tree" ["_law_row"] 5 uj fT dT):FnOk P w K mg base CX0 11 f fd ["_law_way","_law_k"] n5:=by
 refine F.ok mB (λvs H Q E h=>?_) (λaT A outer s H vs Q E hr h=>?_)
 ·obtain⟨way,k,rfl,_⟩:=h
  rfl
 obtain⟨way,k,rfl,k5,q⟩:=h;have L:Room 5 _:=hr.mono (by decide);refine⟨_,(@zE _ _ _ _ _ (@zp _ _ 2 _ _ _ _ mB.nd rfl (.inl rfl) (@jW _ _ _ _ _ _ _ rfl (by rfl) G.list (by rfl) G.range (@zA _ _ _ _ _ (@zi _ _ _ _ _ _ _ yE (@yR _ _ _ _ (@zA _ _ _ _ _ zH (@zA _ _ _ _ _ zH (@zA _ _ _ _ _ zH (@zA _ _ _ _ _ zH (@zA _ _ _ _ _ zH zC (by rfl)) (by rfl)) (by rfl)) (by rfl)) (by rfl))) (@qv _ 1 _ _ (by rfl')) (λ_ _=>rfl)) zC (by rfl)) (by rfl) (by rfl)) (by rfl) (by rfl')) (@zE _ _ _ _ _ (@qQ _ _ 3 4 _ _ _ _ _ _ _ _ _ _ _ rfl mB.nd rfl rfl (by decide) rfl rfl (@zA _ _ _ _ _ (@zS _ _ _ _ _ _ _ _ aS (@zR _ _ _ _ _ _ _ _ _ _ _ _ _ _ _ _ UB.ok L (by rfl) UB.m UB.kp UB.b .nil zu (@zA _ _ _ _ _ (@qv _ 2 _ _ (by rfl')) zC (by rfl)) (by decide) (by rfl) (by rfl)) (@qv _ 1 _ _ (by rfl'))) (@zA _ _ _ _ _ (@qv _ 2 _ _ (by rfl')) zC (by rfl)) (by rfl)) (by rfl) (by rfl)) (@zE _ _ _ _ _ (@yO _ _ _ _ _ _ _ _ (@zY _ _ _ _ _ _ _ _ xA (@qv _ 0 _ _ (by rfl')) zH (zw _)) (@zJ _ _ _ (@yP _ _ _ _ _ _ (@zR _ _ _ _ _ _ _ _ _ _ _ _ _ _ _ _ US.ok hr (by rfl) US.m US.kp US.b .nil zu (@zA _ _ _ _ _ (@qv _ 2 _ _ (by rfl')) zC (by rfl)) (by decide) (by rfl) (by rfl)) (@yJ _ _ _ _ _ _ rfl (@zK _ _ _ _ _ (@zM _ _ 3 _ mB.nd rfl (.inl rfl) (by rfl')) (@zK _ _ _ _ _ (@zM _ _ 4 _ mB.nd rfl (.inl rfl) (by rfl')) yC (by rfl)) (by rfl)) (by rfl) (by rfl)) (by rfl) (by rfl) (by rfl))) zr) (@zE _ _ _ _ _ (@yO _ _ _ _ _ _ _ _ (@zY _ _ _ _ _ _ _ _ xA (@qv _ 0 _ _ (by rfl')) zH (zw _)) (@zJ _ _ _ (@yP _ _ _ _ _ _ (@zR _ _ _ _ _ _ _ _ _ _ _ _ _ _ _ _ Z.ok L (by rfl) Z.m Z.kp Z.b .nil zu (@zA _ _ _ _ _ (@qv _ 2 _ _ (by rfl')) zC (by rfl)) (by decide) (by rfl) (by rfl)) (@yJ _ _ _ _ _ _ rfl (@zK _ _ _ _ _ (@zM _ _ 3 _ mB.nd rfl (.inl rfl) (by rfl')) (@zK _ _ _ _ _ (@zM _ _ 4 _ mB.nd rfl (.inl rfl) (by rfl')) yC (by rfl)) (by rfl)) (by rfl) (by rfl)) (by rfl) (by rfl) (by rfl))) zr) (@zJ _ _ _ (@zV _ _ _ _ (@zT _ _ _ _ _ (@zA _ _ _ _ _ (@zU _ _ _ _ _ _ _ _ _ zo (by rfl) G.len Yd (@zA _ _ _ _ _ (@qv _ 2 _ _ (by rfl')) zC (by rfl)) (by decide) (by decide) (by rfl) (by rfl)) (@zA _ _ _ _ _ (@zv _ _ _ _ _ _ _ _ _ zz (by rfl) G.tuple (by rfl) (@zA _ _ _ _ _ (@qv _ 3 _ _ (by rfl')) zC (by rfl)) (by decide) (by decide) (by rfl) (by rfl)) (@zA _ _ _ _ _ (@zv _ _ _ _ _ _ _ _ _ zz (by rfl) G.tuple (by rfl) (@zA _ _ _ _ _ (@qv _ 4 _ _ (by rfl')) zC (by rfl)) (by decide) (by decide) (by rfl) (by rfl)) zC (by rfl)) (by rfl)) (by rfl))))))))),?_⟩;have ab:2 ^ k<=2 ^ 4:=YT (by decide) (by lia);have ao:2 ^ 4=16:=rfl
 have O:atI [V.int 1,V.int 2,V.int 4,V.int 8,V.int 16] ((k:Nat):Int)=some (.int ((2 ^ k:Nat):Int)):=by
  have:∀ k,k<5->atI [V.int 1,V.int 2,V.int 4,V.int 8,V.int 16] ((k:Nat):Int)=some (.int ((2 ^ k:Nat):Int)):=by decide
  exact this k k5
 refine⟨(by show 5<=sizeLine;decide),λt ht=>?_⟩;have s0:=zB ht (.lst [.int 1,.int 2,.int 4,.int 8,.int 16]);refine⟨_,rfl,t,_,_,_,rfl,rfl,SqL.of zD,O,?_⟩;refine⟨2 ^ k,rfl,by lia,λp hp=>?_⟩;have s1:=zB hp (.lst (zQ (List.range (2 ^ k))));have u1:=s0.trans s1;have g:=zW hp (.lst (zQ (List.range (2 ^ k))));show wa _ _ _ _ (L2.upd _ p (.lst (zQ (List.range (2 ^ k)))));generalize L2.upd _ p (.lst (zQ (List.range (2 ^ k))))=H1 at u1 g ⊢;clear s0 s1 hp;refine⟨_,rfl,k,by lia,p,List.range (2 ^ k),rfl,g,YW,by lia,λl T H2 i hl pr=>?_⟩;have pl:=pr.len;have bl:=x9 k (List.range (2 ^ k));rw[YW]at bl;have b2:k*2 ^ k<=4*2 ^ 4:=Nat.mul_le_mul (by lia) ab;have b3:T.length*k<=(4*2 ^ 4)*4:=Nat.mul_le_mul (by lia) (by lia);refine⟨_,rfl,l,k,T,rfl,rfl,hl,by simp_all,by lia,by rw[Yf,JG];lia,λW x=>?_⟩;rw[Yf];have m:=zB x (.lst (List.replicate k T).flatten);refine⟨_,rfl,_,_,rfl,?_⟩
 let I:Nt->St->Hp->Prop:=λN σ G=>∃ lf le n,σ=[some (.int (way:Nat)),some (.int (k:Nat)),some (.ref p),some (.ref lf),some (.ref le)]/\Same H G/\G p=some (.lst (zQ (List.range (2 ^ k))))/\G lf=some (.lst n)/\Prs G n N.forks/\G le=some (.lst (zQ N.ends))
 have i0:I (xb k) [some (.int (way:Nat)),some (.int (k:Nat)),some (.ref p),some (.ref W),some (.ref p)] (L2.upd H2 W (.lst (List.replicate k T).flatten)):=⟨W,p,_,rfl,(u1.trans i).trans m,m _ _ (i _ _ g),zW x _,(qR pr k).tups (Tups.of m),m _ _ (i _ _ g)⟩;dsimp only;refine mw (I (if way=0 then xS k else xb k)) ?_ λD j _=>?_
 ·rintro σ G ⟨lf,le,n,rfl,C,d,X,U,Y⟩
  refine mw (I (yc way k)) ?_ λD j _=>?_
  ·rintro σ G ⟨lf,le,n,rfl,C,d,X,U,Y⟩
   refine⟨_,rfl,p,_,rfl,.inl (SqL.of d),_,rfl,lf,_,rfl,.inl ⟨SqL.of X,λa ha=>?_⟩⟩;have s4:=zB ha (.tup n);refine⟨_,rfl,le,_,rfl,.inl ⟨SqL.of (s4 _ _ Y),λb hb=>?_⟩⟩;have s5:=zB hb (.tup (zQ (yc way k).ends));refine⟨(by show 3<=sizeLine;decide),λr M=>?_⟩;rw[zZ,YW];have S:=zB M (.tup [.int ((2 ^ k:Nat):Int),.ref a,.ref b]);refine q r a b n _ (((C.trans s4).trans s5).trans S) ⟨?_,S _ _ (s5 _ _ (zW ha _)),U.tups (Tups.of ((s4.trans s5).trans S)),S _ _ (zW hb _)⟩;rw[tN];exact zW M _
  ·refine⟨_,rfl,rfl,_,rfl,?_⟩
   by_cases R:way=1
   ·rw[JD (show V.int ((way:Nat):Int)=V.int 1 by rw[R];rfl)]
    refine xC ⟨_,rfl,k,by lia,p,List.range (2 ^ k),rfl,d,YW,by lia,λc v le2 o G2 i hc y u B=>?_⟩;refine⟨c,_,rfl,SqT.of hc,rfl,_,_,rfl,_,_,rfl,rfl,?_⟩;refine j _ _ ⟨v,le2,o,rfl,C.trans i,i _ _ d,y,?_,?_⟩
    ·rw[show yc way k=xq k from by unfold yc;rw[Jd (by lia),Jf R]];exact u
    ·rw[show yc way k=xq k from by unfold yc;rw[Jd (by lia),Jf R]];exact B
   ·rw[Jt (show ¬ V.int ((way:Nat):Int)=V.int 1 by intro z;injection z with z;lia)]
    have e:yc way k=if way=0 then xS k else xb k:=by unfold yc;rw[Jd R]
    refine yg (j _ _ ⟨lf,le,n,rfl,C,d,X,?_,?_⟩)
    ·rw[e];exact U
    ·rw[e];exact Y
 ·obtain⟨lf,le,n,e,C,d,X,U,Y⟩:=i0
  refine⟨_,rfl,rfl,_,rfl,?_⟩;by_cases J:way=0
  ·rw[JD (show V.int ((way:Nat):Int)=V.int 0 by rw[J];rfl)]
   refine xC ⟨_,rfl,k,by lia,p,List.range (2 ^ k),rfl,d,YW,by lia,λc v le2 o G2 i hc y u B=>?_⟩;refine⟨c,_,rfl,SqT.of hc,rfl,_,_,rfl,_,_,rfl,rfl,?_⟩;refine j _ _ ⟨v,le2,o,rfl,C.trans i,i _ _ d,y,?_,?_⟩
   ·rw[Jf J];exact u
   ·rw[Jf J];exact B
  ·rw[Jt (show ¬ V.int ((way:Nat):Int)=V.int 0 by intro z;injection z with z;simp_all)]
   refine yg (j _ _ ⟨W,p,_,rfl,(u1.trans i).trans m,m _ _ (i _ _ g),zW x _,?_,?_⟩)
   ·rw[Jd J];exact(qR pr k).tups (Tups.of m)
   ·rw[Jd J];exact m _ _ (i _ _ g)
abbrev bw:Stmt:=top 27
abbrev bz:Stmt:=top 28
abbrev aD:Stmt:=top 29
def i8:Sp:=λd H Q _=>∃ a b,∃ (place:Nat),d=[.ref a,.int (place:Nat)]/\H a=some (.tup (List.map V.int b))/\place<b.length/\b.length<=1000/\∀ p c,Same H c->c p=some (.tup ((zj b place).map V.int))->Q (.ref p) c
theorem gL:FnScope ["_law_net","_law_turns","_law_lane","_law_row","_law_k","_law_fork"] ["_law_net","_law_turns","_law_lane"] (zN bw):=by rfl'
theorem ag {f:Addr}{fd:FuncData}(F:Fun K "_law_passed" "_law_passed" bw f fd) (G:Mgs mg):FnOk P w K mg base CX0 1 f fd ["_law_net","_law_turns","_law_lane"] (vY false):=by
 refine F.ok gL (λZ H Q E h=>?_) (λab A outer s H Z Q E hr h=>?_)
 ·obtain⟨r,fr,X,B,N,J,ts,lane,rfl,_⟩:=h
  rfl
 obtain⟨r,fr,X,B,N,J,ts,lane,rfl,ok,na,S,tl,bits,hl,k⟩:=h;refine⟨_,(@zE _ _ _ _ _ (@zp _ _ 3 _ _ _ _ gL.nd rfl (.inl rfl) (@zv _ _ _ _ _ _ _ _ _ yu (by rfl) G.list (by rfl) (@zA _ _ _ _ _ (@qv _ 1 _ _ (by rfl')) zC (by rfl)) (by decide) (by decide) (by rfl) (by rfl)) (by rfl) (by rfl')) (@zE _ _ _ _ _ (@xG _ _ _ _ _ _ _ _ Yp rfl (@lW _ _ _ _ _ _ _ _ false rfl G.enum (@zA _ _ _ _ _ (@zi _ _ _ _ _ _ _ yA (@qv _ 0 _ _ (by rfl')) zH (λ_ _=>rfl)) zC (by rfl)) (by rfl)) (@yJ _ _ _ _ _ _ rfl (@zK _ _ _ _ _ (@zM _ _ 4 _ gL.nd rfl (.inl rfl) (by rfl')) (@zK _ _ _ _ _ (@zM _ _ 5 _ gL.nd rfl (.inl rfl) (by rfl')) yC (by rfl)) (by rfl)) (by rfl) (by rfl)) (@zJ _ _ _ (@yO _ _ _ _ _ _ _ _ (@zY _ _ _ _ _ _ _ _ rJ (@qv _ 2 _ _ (by rfl')) (@qv _ 5 _ _ (by rfl')) (by rfl)) (@zE _ _ _ _ _ (@zp _ _ 2 _ _ _ _ gL.nd rfl (.inl rfl) (@zi _ _ _ _ _ _ _ yA (@qv _ 5 _ _ (by rfl')) (@zi _ _ _ _ _ _ _ yE (@qv _ 3 _ _ (by rfl')) (@qv _ 4 _ _ (by rfl')) (λ_ _=>rfl)) (λ_ _=>rfl)) (by rfl) (by rfl')) (@zJ _ _ _ (@yP _ _ _ _ _ _ (@zS _ _ _ _ _ _ _ _ vf zH (@zi _ _ _ _ _ _ _ yE (@qv _ 3 _ _ (by rfl')) (@qv _ 4 _ _ (by rfl')) (λ_ _=>rfl))) (@wq _ _ _ _ _ _ _ (@qv _ 3 _ _ (by rfl')) (@qv _ 4 _ _ (by rfl')) xU (by intro _;rfl)) (by rfl) (by rfl) (by rfl)))) zr)) (by intro _;rfl)) (@zJ _ _ _ (@zV _ _ _ _ (@zT _ _ _ _ _ (@zA _ _ _ _ _ (@zv _ _ _ _ _ _ _ _ _ zz (by rfl) G.tuple (by rfl) (@zA _ _ _ _ _ (@qv _ 3 _ _ (by rfl')) zC (by rfl)) (by decide) (by decide) (by rfl) (by rfl)) (@zA _ _ _ _ _ (@lX _ _ _ _ _ _ _ hr.units (@zi _ _ _ _ _ _ _ yA (@qv _ 0 _ _ (by rfl')) zH (λ_ _=>rfl)) (@zA _ _ _ _ _ (@qv _ 2 _ _ (by rfl')) zC (by rfl)) (by rfl) (by rfl) (by rfl) (by rfl)) zC (by rfl)) (by rfl))))))),?_⟩;refine⟨_,rfl,J,_,rfl,.inr (SqT.of S),λm y=>?_⟩;have L:=zB y (.lst (ts.map V.int));refine⟨_,rfl,r,_,_,_,rfl,rfl,SqT.of (L _ _ na.net),rfl,fr,B,rfl,SqT.of (L _ _ na.forks),?_⟩
 refine nB (K:=K) (b:=false) (a:=fr) (xs:=B) (λi σ v=>(∃ I D,σ=[some (.ref r),some (.ref J),some (.int (yL false N.forks ts lane i).2),some (.ref m),I,D])/\Same H v/\v m=some (.lst ((yL false N.forks ts lane i).1.map V.int)))
  ⟨⟨_,_,rfl⟩,L,zD⟩ (λi σ v _ q=>SqT.of (q.2.1 _ _ na.forks)) ?_ ?_
 ·rintro i x σ v T hx hT ⟨⟨I,D,rfl⟩,n,u⟩
  obtain⟨a,g,rfl,Y,W⟩:=(na.prs.tups (Tups.of n)).get hx;have gi:i<N.forks.length:=(Jc.mp Y).1;have gd:N.forks.getD i (0,0)=g:=by rw[Ju,Y];rfl
  have rs:yL false N.forks ts lane (i+1)=yG false (yL false N.forks ts lane i) i g:=by show yG _ _ _ _=_;rw[gd]
  have rl:=wS (back:=false) (fs:=N.forks) (ts:=ts) (lane:=lane) i;have rb:=wA (back:=false) (fs:=N.forks) (lane:=lane) bits i;generalize yL false N.forks ts lane i=st at *;have l:=zB hT (.tup [.int i,.ref a]);refine⟨T,_,rfl,SqT.of zD,rfl,_,_,rfl,_,_,rfl,rfl,?_⟩;refine⟨_,rfl,_,rfl,a,_,rfl,.inr (SqT.of (l _ _ W)),rfl,rfl,_,rfl,?_⟩;show if (if false=true then !inV (V.int (st.2:Nat)) [V.int (g.1:Nat),V.int (g.2:Nat)] else inV (V.int (st.2:Nat)) [V.int (g.1:Nat),V.int (g.2:Nat)])=true then _ else _;rw[Jd Jp,fi];by_cases on:st.2=g.1\/st.2=g.2
  ·rw[JD on]
   refine xC ?_;have c:yG false st i g=(st.1.set i (1-st.1.getD i 0),if st.1.getD i 0=0 then g.1 else g.2):=by unfold yG;rw[Jf on];rfl
   have C:i<st.1.length:=by simp_all
   have R:=l _ _ u
   obtain⟨d,en,ex⟩:∃ d:Nat,d=(yG false st i g).2/\atI [V.int (g.1:Nat),V.int (g.2:Nat)] (st.1.getD i 0)=some (.int (d:Nat)):=by
    rcases rb _ (L2.tY C) with z|z
    ·exact⟨g.1,by rw[c,z];rfl,by rw[z];exact ya (j:=0) rfl⟩
    ·exact⟨g.2,by rw[c,z];rfl,by rw[z];exact ya (j:=1) rfl⟩
   refine⟨_,rfl,_,rfl,_,rfl,m,_,_,_,rfl,rfl,SqL.of R,vz C,a,_,_,_,rfl,rfl,SqT.of (l _ _ W),ex,?_⟩;refine⟨_,rfl,_,rfl,m,_,_,_,rfl,rfl,SqL.of R,vz C,_,_,rfl,rfl,_,rfl,_,rfl,m,_,_,i,rfl,rfl,R,kI (by rw[Jg];exact C),⟨_,_,by rw[rs,<- en];rfl⟩,λb o e=>?_,?_⟩
   ·rw[zG (zF e y)];exact l _ _ (n b o e)
   ·rw[zD,rs,c,pM]
  ·rw[Jt on]
   have c:yG false st i g=st:=by unfold yG;rw[Jd on]
   exact yg ⟨⟨_,_,by rw[rs,c];rfl⟩,n.trans l,by rw[rs,c];exact l _ _ u⟩
 ·rintro σ v ⟨⟨I,D,rfl⟩,n,u⟩
  have M:=na.prs.len;rw[M]at u;have hh:=wo (back:=false) (ts:=ts) ok.fk hl N.forks.length (Je _);refine⟨_,rfl,m,_,rfl,.inl ⟨SqL.of u,λt ht=>?_⟩⟩;have s3:=zB ht (.tup ((yL false N.forks ts lane N.forks.length).1.map V.int));have u3:=n.trans s3;have O:=u3 _ _ na.ends;rw[oN]at O;refine⟨_,rfl,r,_,_,_,rfl,rfl,SqT.of (u3 _ _ na.net),rfl,X,_,rfl,O,_,rfl,(((yL false N.forks ts lane B.length).2:Nat):Int),rfl,O,?_,?_⟩
  ·rw[M];exact Jv.mpr ⟨_,ok.en.mem_iff.mpr (Zm.mpr hh),rfl⟩
  ·rw[tU,M]
   exact⟨by show 2<=sizeLine;decide,λp U=>k p t _ (u3.trans (zB U _)) zD (zB U _ _ _ zD)⟩
theorem zbh:FnScope ["_law_counts","_law_lane"] ["_law_counts","_law_lane"] (zN bz):=by rfl'
theorem ah {f:Addr}{fd:FuncData}(F:Fun K "_law_more" "_law_more" bz f fd):FnOk P w K mg base CX0 1 f fd ["_law_counts","_law_lane"] i8:=by
 refine F.ok zbh (λn H Q E h=>?_) (λC A outer s H n Q E I h=>?_)
 ·obtain⟨a,b,place,rfl,_⟩:=h
  rfl
 obtain⟨a,b,place,rfl,c,j,D,k⟩:=h;refine⟨_,(@zJ _ _ _ (@zV _ _ _ _ (@zS _ _ _ _ _ _ _ _ yi (@zS _ _ _ _ _ _ _ _ yi (@zx _ _ _ _ _ _ _ _ _ _ yX (@qv _ 0 _ _ (by rfl')) yH (@zt _ _ _ (@qv _ 1 _ _ (by rfl')))) (@zT _ _ _ _ _ (@zA _ _ _ _ _ (@zS _ _ _ _ _ _ _ _ yY (@zi _ _ _ _ _ _ _ yA (@qv _ 0 _ _ (by rfl')) (@qv _ 1 _ _ (by rfl')) (λ_ _=>rfl)) zH) zC (by rfl)))) (@zx _ _ _ _ _ _ _ _ _ _ yX (@qv _ 0 _ _ (by rfl')) (@zt _ _ _ (@zS _ _ _ _ _ _ _ _ yY (@qv _ 1 _ _ (by rfl')) zH)) yH)))),?_⟩;have G:(b.map V.int).length=b.length:=Jg _;refine⟨_,rfl,_,rfl,_,rfl,a,_,rfl,c,λv M i m=>?_⟩;rw[tj _ place (by lia)]at m;refine⟨_,rfl,_,rfl,a,_,_,_,rfl,rfl,SqT.of (i _ _ c),vz j,_,_,rfl,rfl,(by show 1<=sizeLine;decide),λu d=>?_⟩;have g:=zB d (.tup [.int (b.getD place 0+1)]);refine⟨v,u,_,_,rfl,rfl,g _ _ m,zD,?_,λt L p y=>?_⟩
 ·rw[JC,JG];show _+1<=_;grind
 have u3:=(i.trans g).trans p;refine⟨_,rfl,_,rfl,_,_,rfl,rfl,_,rfl,a,_,rfl,u3 _ _ c,λr J e l=>?_⟩;rw[show ((place:Int)+1)=((place+1:Nat):Int) from rfl,tu _ (place+1) (by lia)]at l;refine⟨t,r,_,_,rfl,rfl,e _ _ y,l,?_,λq B o x=>?_⟩
 ·rw[Jb,JC,Yh,JG];show _+1+_<=_;grind
 refine k q B ((u3.trans e).trans o) ?_;rw[x];exact JW (λz=>some (HO.tup z)) (lO b place _ j)
theorem zbm:FnScope ["_law_net"] ["_law_net"] (zN aD):=by rfl'
theorem ak {f:Addr}{fd:FuncData}(F:Fun K "_law_first" "_law_first" aD f fd) (G:Mgs mg):FnOk P w K mg base CX0 1 f fd ["_law_net"] xT:=by
 refine F.ok zbm (λd H Q E h=>?_) (λn A outer s H d Q E o h=>?_)
 ·obtain⟨r,fr,m,b,N,rfl,_⟩:=h
  rfl
 obtain⟨r,fr,m,b,N,rfl,ok,na,k⟩:=h;refine⟨_,(@zJ _ _ _ (@zV _ _ _ _ (@zT _ _ _ _ _ (@zA _ _ _ _ _ (@zS _ _ _ _ _ _ _ _ uX (@zT _ _ _ _ _ (@zA _ _ _ _ _ zH zC (by rfl))) (@zU _ _ _ _ _ _ _ _ _ zo (by rfl) G.len Yd (@zA _ _ _ _ _ (@zi _ _ _ _ _ _ _ yA (@qv _ 0 _ _ (by rfl')) zH (λ_ _=>rfl)) zC (by rfl)) (by decide) (by decide) (by rfl) (by rfl))) (@zA _ _ _ _ _ zH zC (by rfl)) (by rfl))))),?_⟩;refine⟨by show 1<=sizeLine;decide,λt i=>?_⟩;have a:=zB i (.tup [.int 0]);have g:=na.prs.len;have u:=ok.fm;refine⟨_,rfl,r,_,_,_,rfl,rfl,SqT.of (a _ _ na.net),rfl,fr,b,rfl,.inr (SqT.of (a _ _ na.forks)),t,_,b.length,rfl,rfl,zD,by lia,λq v e l=>⟨by show 2<=sizeLine;decide,λp j=>?_⟩⟩;have c:=zB j (.tup [.ref q,.int 0]);refine k p _ ((a.trans e).trans c) (nX (is:=[0]) (t:=q) zD (c _ _ ?_));rw[l,g,<- List.map_replicate]
end
end K37
namespace L2
open PySem PySem.Spec PyProof.Rows Own Bn
theorem rY:∀ x:List Int,cmpR x x=.eq
 | []=>rfl
 | a::x=>by show (compare a a).then (cmpR x x)=.eq;rw[Yu.mpr rfl,rY x];rfl
theorem kX:∀ {x y:List Int},cmpR x y=.eq->x=y
 | [],[],_=>rfl
 | [],_::_,h=>by cases h
 | _::_,[],h=>by cases h
 | a::x,b::y,h=>by
  have h':(compare a b).then (cmpR x y)=.eq:=h
  cases z:compare a b with
  | lt=>rw[z]at h';cases h'
  | gt=>rw[z]at h';cases h'
  | eq=>rw[z]at h';rw[Yu.mp z,kX h']
theorem vn:∀ x y:List Int,cmpR y x=(cmpR x y).swap
 | [],[]=>rfl
 | [],_::_=>rfl
 | _::_,[]=>rfl
 | a::x,b::y=>by
  show (compare b a).then (cmpR y x)=((compare a b).then (cmpR x y)).swap;rw[vn x y];rcases Zw a b with h|h|h
  ·rw[YD.mpr h,YE.mpr h];rfl
  ·subst h
   rw[Yu.mpr (rfl:a=a)];rfl
  ·rw[YE.mpr h,YD.mpr h];rfl
def leR (x y:List Int):Prop:=cmpR x y≠.gt
theorem vO (x:List Int):leR x x:=by unfold leR;rw[rY];exact λh=>by cases h
theorem xN:∀ {x y z:List Int},leR x y->leR y z->leR x z
 | [],[],[],_,_=>λh=>by cases h
 | [],_,_::_,_,_=>λh=>by cases h
 | [],_::_,[],_,h=>absurd rfl h
 | _::_,[],_,h,_=>absurd rfl h
 | _::_,_::_,[],_,h=>absurd rfl h
 | a::x,b::y,c::z,g,f=>by
  have e:(compare a b).then (cmpR x y)≠.gt:=g;have d:(compare b c).then (cmpR y z)≠.gt:=f;show (compare a c).then (cmpR x z)≠.gt;rcases Zw a b with p|p|p
  ·rcases Zw b c with q|q|q
   ·rw[YD.mpr (show a<c by lia)];exact λh=>by cases h
   ·rw[YD.mpr (show a<c by simp_all)];exact λh=>by cases h
   ·rw[YE.mpr q]at d;exact absurd rfl d
  ·subst p
   rw[Yu.mpr (rfl:a=a)]at e;rcases Zw a c with q|q|q
   ·rw[YD.mpr q];exact λh=>by cases h
   ·subst q
    rw[Yu.mpr (rfl:a=a)]at d ⊢;exact xN (x:=x) (y:=y) (z:=z) e d
   ·rw[YE.mpr q]at d;exact absurd rfl d
  ·rw[YE.mpr p]at e;exact absurd rfl e
theorem kC (x y:List Int):leR (yd x y) x/\leR (yd x y) y:=by
 unfold yd;by_cases h:cmpR y x=.lt
 ·rw[Jf h];exact⟨(by unfold leR;rw[h];exact λz=>by cases z),vO y⟩
 ·rw[Jd h]
  refine⟨vO x,λz=>h ?_⟩;rw[vn x y,z];rfl
theorem g9:∀ {l:List (List Int)},l≠[]->jy l∈l
 | [],h=>absurd rfl h
 | x::r,_=>by
  have key:∀ (r:List (List Int)) (x:List Int),r.foldl yd x∈x::r:=by
   intro r
   induction r with
   | nil=>intro x;exact .head _
   | cons y r ih =>
    intro x;show r.foldl yd (yd x y)∈x::y::r;rcases Js.mp (ih (yd x y)) with z|z
    ·rw[z]
     rcases uY x y with e|e
     ·rw[e];exact .head _
     ·rw[e];exact .tail _ (.head _)
    ·exact .tail _ (.tail _ z)
  exact key r x
theorem cL:∀ {l:List (List Int)}{x:List Int},x∈l->leR (jy l) x
 | [],x,h=>by cases h
 | a::r,x,h=>by
  have key:∀ (r:List (List Int)) (a:List Int),leR (r.foldl yd a) a/\∀ x∈r,leR (r.foldl yd a) x:=by
   intro r
   induction r with
   | nil=>intro a;exact⟨vO a,λx b=>(nomatch b)⟩
   | cons y r ih =>
    intro a;obtain⟨c,f⟩:=ih (yd a y);obtain⟨e,d⟩:=kC a y;refine⟨xN c e,λx b=>?_⟩;rcases Js.mp b with rfl|z
    ·exact xN c d
    ·exact f x z
  rcases Js.mp h with rfl|z
  ·exact(key r _).1
  ·exact(key r a).2 x z
theorem qW:∀ {c d:List Int}{m:Nat},c.length=d.length->leR c d->leR (zj c m) (zj d m)
 | [],[],m,_,h=>by unfold zj kg;exact h
 | a::c,b::d,0,_,h=>by
  have h':(compare a b).then (cmpR c d)≠.gt:=h;show (compare (a+1) (b+1)).then (cmpR c d)≠.gt
  have e:compare (a+1) (b+1)=compare a b:=by
   rcases Zw a b with p|p|p
   ·rw[YD.mpr p,YD.mpr (by simp_all)]
   ·subst p;rw[Yu.mpr (rfl:a=a),Yu.mpr rfl]
   ·rw[YE.mpr p,YE.mpr (by simp_all)]
  rw[e];exact h'
 | a::c,b::d,m+1,l,h=>by
  have h':(compare a b).then (cmpR c d)≠.gt:=h;show (compare a b).then (cmpR (zj c m) (zj d m))≠.gt
  cases z:compare a b with
  | lt=>exact λh=>by cases h
  | gt=>rw[z]at h';exact absurd rfl h'
  | eq=>rw[z]at h';exact qW (c:=c) (d:=d) (by simpa using l) h'
theorem we (ps:LvL)(k:KN)(r:List Int):zX (xZ ps k r) k=some r:=by
 unfold xZ;split
 ·rename_i h
  have key:∀ ps:LvL,(zX ps k).isSome=true->zX (ps.map λx=>if x.1=k then (x.1,r) else x) k=some r:=by
   intro ps
   induction ps with
   | nil=>intro h;cases h
   | cons p ps ih =>
    intro h;unfold zX at ih h ⊢;rw[JT,YH];rw[YH]at h;by_cases z:p.1=k
    ·rw[Jf z]
     show (match decide (p.1=k) with|true=>some (p.1,r)|false=>_).map _=_;rw[JD z];rfl
    ·rw[Jd z,Jt z]
     rw[Jt z]at h;exact ih h
  exact key ps h
 ·rename_i h
  have e:zX ps k=none:=by
   cases g:zX ps k with
   | none=>rfl
   | some x=>rw[g]at h;exact absurd rfl h
  unfold zX at e ⊢;rw[Option.map_eq_none_iff]at e;rw[List.find?_append,e];show Option.map _ ((none:Option (KN × List Int)).or (List.find? _ [(k,r)]))=_;rw[YH];show Option.map _ ((none:Option (KN × List Int)).or (match decide (k=k) with|true=>some (k,r)|false=>_))=_;rw[JD rfl];rfl
theorem o7 {k j:KN}(r:List Int)(h:j≠k):∀ ps:LvL,zX (ps.map λx=>if x.1=k then (x.1,r) else x) j=zX ps j:=by
 intro ps
 induction ps with
 | nil=>rfl
 | cons p ps ih =>
  unfold zX at ih ⊢;rw[JT,YH,YH];by_cases z:p.1=k
  ·rw[Jf z]
   have n:¬ p.1=j:=λy=>h (y.symm.trans z);show (match decide (p.1=j) with|true=>_|false=>_:Option (KN × List Int)).map _=_;rw[Jt n];exact ih
  ·rw[Jd z]
   by_cases y:p.1=j
   ·rw[JD y]
   ·rw[Jt y];exact ih
theorem uO (ps:LvL){k j:KN}(r:List Int)(h:j≠k):zX (xZ ps k r) j=zX ps j:=by
 unfold xZ;split
 ·exact o7 r h ps
 ·unfold zX
  rw[List.find?_append]
  cases e:List.find? (λx=>decide (x.1=j)) ps with
  | some x=>rfl
  | none =>
   show Option.map _ ((none:Option (KN × List Int)).or (List.find? _ [(k,r)]))=_;rw[YH];show Option.map _ ((none:Option (KN × List Int)).or (match decide (k=j) with|true=>some (k,r)|false=>_))=_;rw[Jt (λz=>h z.symm)];rfl
abbrev Tri:=KN × List Int × Nat
structure Met (step:KN->Nat->Option KN) (seen:LvL) (T:List Tri) (a:LAcc):Prop where
 on:∀ t c,zX a.on t=some c->∃ x∈T,step x.1 x.2.2=some t/\c=zj x.2.1 x.2.2
 has:∀ x∈T,∀ t,step x.1 x.2.2=some t->zX seen t=none->∃ c,zX a.on t=some c/\leR c (zj x.2.1 x.2.2)
 fl1:∀ r∈a.fl,∃ x∈T,step x.1 x.2.2=none/\r=zj x.2.1 x.2.2
 fl2:∀ x∈T,step x.1 x.2.2=none->zj x.2.1 x.2.2∈a.fl
theorem o6 {α:Type}{o:Option α}(h:¬ o.isSome=true):o=none:=by
 cases o with
 | none=>rfl
 | some x=>exact absurd rfl h
section
variable {step:KN->Nat->Option KN}{seen:LvL}
theorem Met.go {T:List Tri}{a:LAcc}(h:Met step seen T a)(s:KN)(c:List Int)(m:Nat):Met step seen (T++[(s,c,m)]) (go1 step seen s c a m):=by
 have last:∀ {p:Tri->Prop}{x:Tri},x∈T++[(s,c,m)]->(x∈T->p x)->p (s,c,m)->p x:=λb F E=>by
  rcases Jy.mp b with z|z
  ·exact F z
  ·rw[Ja.mp z];exact E
 have d:∀ {x:Tri},x∈T->x∈T++[(s,c,m)]:=λz=>Yj _ z;have l:((s,c,m):Tri)∈T++[(s,c,m)]:=JB _ (Ja.mpr rfl);unfold go1
 cases e:step s m with
 | none =>
  refine⟨λt j g=>?_,λx b t f sn=>?_,λr n=>?_,λx b ex=>?_⟩
  ·obtain⟨x,b,q⟩:=h.on t j g;exact⟨x,d b,q⟩
  ·refine last (p:=λx=>step x.1 x.2.2=some t->∃ j,zX a.on t=some j/\leR j (zj x.2.1 x.2.2)) b (λz f=>h.has x z t f sn) (λf=>?_) f
   have i:step s m=some t:=f;rw[e]at i;cases i
  ·rcases Jy.mp n with z|z
   ·obtain⟨x,b,q⟩:=h.fl1 r z;exact⟨x,d b,q⟩
   ·exact⟨_,l,e,Ja.mp z⟩
  ·exact last (p:=λx=>step x.1 x.2.2=none->zj x.2.1 x.2.2∈a.fl++[zj c m]) b (λz ex=>Yj _ (h.fl2 x z ex)) (λ_=>JB _ (Ja.mpr rfl)) ex
 | some u =>
  dsimp only;by_cases o:(zX seen u).isSome=true
  ·rw[Jf o]
   refine⟨λt j g=>?_,λx b t f sn=>?_,λr n=>?_,λx b ex=>?_⟩
   ·obtain⟨x,b,q⟩:=h.on t j g;exact⟨x,d b,q⟩
   ·refine last (p:=λx=>step x.1 x.2.2=some t->∃ j,zX a.on t=some j/\leR j (zj x.2.1 x.2.2)) b (λz f=>h.has x z t f sn) (λf=>?_) f
    have i:step s m=some t:=f;rw[e]at i;cases i;rw[sn]at o;cases o
   ·obtain⟨x,b,q⟩:=h.fl1 r n;exact⟨x,d b,q⟩
   ·refine last (p:=λx=>step x.1 x.2.2=none->zj x.2.1 x.2.2∈a.fl) b (λz ex=>h.fl2 x z ex) (λex=>?_) ex
    have k:step s m=none:=ex;rw[e]at k;cases k
  ·rw[Jd o]
   obtain⟨C,w⟩:=kC (zj c m) ((zX a.on u).getD (zj c m));refine⟨λt j g=>?_,λx b t f sn=>?_,λr n=>?_,λx b ex=>?_⟩
   ·by_cases tt:t=u
    ·subst tt
     rw[we]at g;cases g;rcases uY (zj c m) ((zX a.on t).getD (zj c m)) with q|q
     ·exact⟨_,l,e,q⟩
     ·cases v:zX a.on t with
      | none=>rw[v]at q;exact⟨_,l,e,by rw[Option.getD_none]at q ⊢;exact q⟩
      | some y =>
       rw[v]at q;obtain⟨x,b,B,A⟩:=h.on t y v;exact⟨x,d b,B,by rw[W9]at q ⊢;rw[q];exact A⟩
    ·rw[uO _ _ tt]at g
     obtain⟨x,b,q⟩:=h.on t j g;exact⟨x,d b,q⟩
   ·by_cases tt:t=u
    ·subst tt
     rw[we];refine⟨_,rfl,?_⟩;refine last (p:=λx=>step x.1 x.2.2=some t->leR (yd (zj c m) ((zX a.on t).getD (zj c m))) (zj x.2.1 x.2.2)) b (λz f=>?_) (λ_=>C) f;obtain⟨y,G,D⟩:=h.has x z t f sn;rw[G,W9]at w ⊢;exact xN w D
    ·rw[uO _ _ tt]
     refine last (p:=λx=>step x.1 x.2.2=some t->∃ j,zX a.on t=some j/\leR j (zj x.2.1 x.2.2)) b (λz f=>h.has x z t f sn) (λf=>?_) f;have i:step s m=some t:=f;rw[e]at i;exact absurd (Jm i).symm tt
   ·obtain⟨x,b,q⟩:=h.fl1 r n;exact⟨x,d b,q⟩
   ·refine last (p:=λx=>step x.1 x.2.2=none->zj x.2.1 x.2.2∈a.fl) b (λz ex=>h.fl2 x z ex) (λex=>?_) ex
    have k:step s m=none:=ex;rw[e]at k;cases k
theorem Met.row (s:KN)(c:List Int):∀ (ms:List Nat) {T:List Tri}{a:LAcc},Met step seen T a->Met step seen (T++ms.map λm=>(s,c,m)) (ms.foldl (go1 step seen s c) a)
 | [],T,a,h=>by rw[List.map_nil,Y3];exact h
 | m::r,T,a,h=>by
  have:=Met.row s c r (h.go s c m)
  rwa [Y0]at this
def jE (moves:List Nat)(level:LvL):List Tri:=level.flatMap λp=>moves.map λm=>(p.1,p.2,m)
theorem Met.lev (moves:List Nat):∀ (level:LvL) {T:List Tri}{a:LAcc},Met step seen T a->Met step seen (T++jE moves level) (level.foldl (goS step seen moves) a)
 | [],T,a,h=>by show Met step seen (T++[]) a;rw[Y3];exact h
 | p::r,T,a,h=>by
  have:=Met.lev moves r (Met.row p.1 p.2 moves h)
  rwa [Y0]at this
theorem tL (moves:List Nat)(level:LvL):Met step seen (jE moves level) (yI step seen moves level) :=
 Met.lev moves level (T:=[]) (a:=⟨[],[]⟩) ⟨λt c g=>(by cases g),λx b=>absurd b Jz,λr d=>absurd d Jz,λx b=>absurd b Jz⟩
end
theorem xn {moves:List Nat}{level:LvL}{x:Tri}:x∈jE moves level↔(x.1,x.2.1)∈level/\x.2.2∈moves:=by
 unfold jE;rw[List.mem_flatMap];constructor
 ·rintro⟨p,b,a⟩
  obtain⟨m,c,rfl⟩:=Jv.mp a;exact⟨b,c⟩
 ·rintro⟨e,d⟩
  exact⟨_,e,Jv.mpr ⟨_,d,rfl⟩⟩
def wp (step:KN->Nat->Option KN):KN->List Nat->Option KN
 | s,[]=>some s
 | s,m::r=>(step s m).bind λt=>wp step t r
def vT (c:List Int)(row:List Nat):List Int:=row.foldl zj c
theorem xL (step:KN->Nat->Option KN):∀ (r:List Nat) (s:KN) (m:Nat),wp step s (r++[m])=(wp step s r).bind λt=>step t m
 | [],s,m=>by
  show (step s m).bind (λt=>some t)=step s m
  cases step s m<;>rfl
 | a::r,s,m=>by
  show (step s a).bind (λt=>wp step t (r++[m]))=((step s a).bind λt=>wp step t r).bind λt=>step t m
  cases step s a with
  | none=>rfl
  | some t=>exact xL step r t m
theorem wY (c:List Int)(r:List Nat)(m:Nat):vT c (r++[m])=zj (vT c r) m:=by unfold vT;rw[W5];rfl
theorem tw (c:List Int)(r:List Nat):(vT c r).length=c.length:=by
 unfold vT
 induction r generalizing c with
 | nil=>rfl
 | cons m r ih=>show (r.foldl zj (zj c m)).length=_;rw[ih,xV]
theorem tD {r:List Nat}{n:Nat}(h:r.length=n+1):∃ q m,r=q++[m]/\q.length=n:=by
 have ne:r≠[]:=λz=>by rw[z]at h;cases h
 refine⟨r.dropLast,r.getLast ne,(List.dropLast_concat_getLast ne).symm,?_⟩;rw[List.length_dropLast];simp_all
def Over (moves row:List Nat):Prop:=∀ m∈row,m∈moves
structure Clm (step:KN->Nat->Option KN) (moves:List Nat) (k0:KN) (c0:List Int) (n:Nat) (level seen:LvL):Prop where
 fst:(zX (seen++level) k0).isSome=true
 way:∀ t c,zX level t=some c->∃ row,row.length=n/\Over moves row/\wp step k0 row=some t/\vT c0 row=c
 all:∀ row,row.length<=n->Over moves row->∃ s,wp step k0 row=some s/\(zX (seen++level) s).isSome=true
 cls:∀ s,(zX seen s).isSome=true->∀ m∈moves,∃ t,step s m=some t/\(zX (seen++level) t).isSome=true
 new:∀ s,(zX level s).isSome=true->zX seen s=none
 lst:∀ row s c,row.length=n->Over moves row->wp step k0 row=some s->zX level s=some c->leR c (vT c0 row)
 nd:LvNd level
 num:n<=seen.length
 rch:∀ s,(zX seen s).isSome=true->∃ row,Over moves row/\wp step k0 row=some s
section
variable {step:KN->Nat->Option KN}{moves:List Nat}{k0:KN}{c0:List Int}{n:Nat}{level seen:LvL}
theorem y0:∀ {ps:LvL},LvNd ps->∀ {s:KN}{c:List Int},(s,c)∈ps->zX ps s=some c
 | [],_,s,c,h=>by cases h
 | p::ps,nd,s,c,h=>by
  unfold LvNd at nd;rw[JT,JP]at nd;unfold zX;rw[YH];rcases Js.mp h with z|z
  ·rw[<- z]
   show (match decide (s=s) with|true=>some (s,c)|false=>_:Option (KN × List Int)).map _=_;rw[JD rfl];rfl
  ·have n:¬ p.1=s:=λy=>nd.1 (Jv.mpr ⟨_,z,y.symm⟩)
   rw[Jt n];exact y0 nd.2 z
theorem Clm.step_of (h:Clm step moves k0 c0 n level seen){row:List Nat}(e:row.length=n)(b:Over moves row):∃ s,wp step k0 row=some s/\((zX seen s).isSome=true\/∃ c,zX level s=some c):=by
 obtain⟨s,d,a⟩:=h.all row (by simp_all) b;refine⟨s,d,?_⟩;rw[xW,Wk]at a;rcases a with z|z
 ·exact .inl z
 ·exact .inr (ZH.mp z)
theorem Clm.next (h:Clm step moves k0 c0 n level seen)(ne:level≠[])(cl:∀ p∈level,p.2.length=c0.length)(fl:(yI step (seen++level) moves level).fl=[]):Clm step moves k0 c0 (n+1) (yI step (seen++level) moves level).on (seen++level):=by
 have M:=tL (step:=step) (seen:=seen++level) moves level;have W:=wU (step:=step) (seen:=seen++level) (moves:=moves) (Ok:=λ_=>True) level λ_ _ _ _ _ _=>trivial
 have f:∀ s,(zX (yI step (seen++level) moves level).on s).isSome=true->zX (seen++level) s=none:=λs a=>by
  obtain⟨r,G⟩:=xv a;exact W.new _ G
 have o:∀ s c,zX level s=some c->∀ m∈moves,∃ t,step s m=some t/\((zX (seen++level) t).isSome=true\/∃ v,zX (yI step (seen++level) moves level).on t=some v/\leR v (zj c m)):=λs c g m b=>by
  have D:((s,c,m):Tri)∈jE moves level:=xn.mpr ⟨yh g,b⟩
  cases e:step s m with
  | none =>
   have:=M.fl2 _ D e
   rw[fl]at this;cases this
  | some t =>
   refine⟨t,rfl,?_⟩;by_cases z:(zX (seen++level) t).isSome=true
   ·exact .inl z
   ·exact .inr (M.has _ D t e (o6 z))
 have lead:∀ s,(zX (seen++level) s).isSome=true->∀ m∈moves,∃ t,step s m=some t/\(zX ((seen++level)++(yI step (seen++level) moves level).on) t).isSome=true:=λs a m b=>by
  rw[xW,Wk]at a;rcases a with z|z
  ·obtain⟨t,e,q⟩:=h.cls s z m b
   exact⟨t,e,by rw[xW,q];rfl⟩
  ·obtain⟨c,g⟩:=ZH.mp z
   obtain⟨t,e,q⟩:=o s c g m b;refine⟨t,e,?_⟩;rw[xW];rcases q with q|⟨v,q,_⟩
   ·rw[q];rfl
   ·rw[q];exact Bool.or_true _
 refine⟨by rw[xW,h.fst];rfl,λt c g=>?_,λrow G j=>?_,lead,f,λrow s c P j a g=>?_,W.nd,?_,λs a=>?_⟩
 ·obtain⟨x,O,e,Q⟩:=M.on t c g
  obtain⟨J,I⟩:=xn.mp O;obtain⟨row,N,A,w,L⟩:=h.way x.1 x.2.1 (y0 h.nd J);refine⟨row++[x.2.2],by rw[Jb,N];rfl,λm b=>?_,by rw[xL,w];exact e,by rw[wY,L,Q]⟩;rcases Jy.mp b with z|z
  ·exact A m z
  ·rw[Ja.mp z];exact I
 ·rcases Nat.lt_or_ge n row.length with z|z
  ·obtain⟨q,m,rfl,B⟩:=tD (show row.length=n+1 by lia)
   obtain⟨s,k,l⟩:=h.all q (by simp_all) λm b=>j m (Yj _ b);obtain⟨t,e,i⟩:=lead s l m (j m (JB _ (Ja.mpr rfl)));exact⟨t,by rw[xL,k];exact e,i⟩
  ·obtain⟨s,k,l⟩:=h.all row z j
   exact⟨s,k,by rw[xW,l];rfl⟩
 ·obtain⟨q,m,rfl,B⟩:=tD P
  have F:m∈moves:=j m (JB _ (Ja.mpr rfl));have E:Over moves q:=λm b=>j m (Yj _ b);obtain⟨t,k,l⟩:=h.step_of B E;rw[xL,k]at a;have u:step t m=some s:=a;have sn:=f s (by rw[g];rfl);rcases l with z|⟨d,C⟩
  ·obtain⟨K,e,i⟩:=h.cls t z m F
   rw[u]at e;rw[<- Jm e,sn]at i;cases i
  ·obtain⟨K,e,i⟩:=o t d C m F
   rw[u]at e;rw[<- Jm e]at i;rcases i with y|⟨v,H,lc⟩
   ·rw[sn]at y;cases y
   ·rw[g]at H
    rw[Jm H,wY];refine xN lc (qW ?_ (h.lst q t d B E k C));rw[tw];exact cl _ (yh C)
 ·rw[Jb]
  have:=h.num;have:0<level.length:=YY.mpr ne;lia
 ·rw[xW,Wk]at a
  rcases a with z|z
  ·exact h.rch s z
  ·obtain⟨c,g⟩:=ZH.mp z
   obtain⟨row,_,A,w,_⟩:=h.way s c g;exact⟨row,A,w⟩
structure Broke (step:KN->Nat->Option KN) (moves:List Nat) (k0:KN) (c0:List Int) (n:Nat) (c:List Int):Prop where
 ex:∃ row m,row.length=n/\Over moves (row++[m])/\vT c0 (row++[m])=c/\wp step k0 (row++[m])=none
 few:∀ row,row.length<=n->Over moves row->∃ s,wp step k0 row=some s
 lst:∀ row,row.length=n+1->Over moves row->wp step k0 row=none->leR c (vT c0 row)
theorem Clm.brk (h:Clm step moves k0 c0 n level seen)(cl:∀ p∈level,p.2.length=c0.length)(fl:(yI step (seen++level) moves level).fl≠[]):Broke step moves k0 c0 n (jy (yI step (seen++level) moves level).fl):=by
 have M:=tL (step:=step) (seen:=seen++level) moves level;obtain⟨x,B,e,F⟩:=M.fl1 _ (g9 fl);obtain⟨r,o⟩:=xn.mp B;obtain⟨row,A,y,w,v⟩:=h.way x.1 x.2.1 (y0 h.nd r);refine⟨⟨row,x.2.2,A,λm f=>?_,by rw[wY,v,F],by rw[xL,w];exact e⟩,λrow C b=>?_,λrow D b l=>?_⟩
 ·rcases Jy.mp f with z|z
  ·exact y m z
  ·rw[Ja.mp z];exact o
 ·obtain⟨s,c,_⟩:=h.all row C b
  exact⟨s,c⟩
 ·obtain⟨q,m,rfl,i⟩:=tD D
  have k:m∈moves:=b m (JB _ (Ja.mpr rfl));have j:Over moves q:=λm f=>b m (Yj _ f);obtain⟨t,c,E⟩:=h.step_of i j;rw[xL,c]at l;have a:step t m=none:=l;rcases E with z|⟨d,g⟩
  ·obtain⟨G,e,_⟩:=h.cls t z m k
   rw[a]at e;cases e
  ·have u:((t,d,m):Tri)∈jE moves level:=xn.mpr ⟨yh g,k⟩
   rw[wY];refine xN (cL (M.fl2 _ u a)) (qW ?_ (h.lst q t d i j c g));rw[tw];exact cl _ (yh g)
end
structure Shut (step:KN->Nat->Option KN) (moves:List Nat) (k0:KN) (ks:List KN):Prop where
 fst:k0∈ks
 cls:∀ s∈ks,∀ m∈moves,∃ t∈ks,step s m=some t
def xB (ls:List LvL):List KN:=ls.flatMap λlv=>lv.map (·.1)
theorem rP (a b:List LvL):xB (a++b)=xB a++xB b:=by unfold xB;rw[List.flatMap_append]
theorem yp {ps:LvL}{s:KN}:(zX ps s).isSome=true↔s∈ps.map (·.1):=by
 constructor
 ·intro h
  obtain⟨r,a⟩:=xv h;exact Jv.mpr ⟨_,a,rfl⟩
 ·intro h
  obtain⟨p,b,rfl⟩:=Jv.mp h;exact xw b
section
variable {step:KN->Nat->Option KN}{moves:List Nat}{k0:KN}{c0:List Int}{most:Nat}
theorem nQ:∀ (m n:Nat) (level seen:LvL) (ls:List LvL),Clm step moves k0 c0 n level seen->(∀ p∈level,p.2.length=c0.length)->xB ls=seen.map (·.1)->LvNd (seen++level)->seen.length<=most ->
  match yW step moves most m level seen ls with
  | .opn=>True
  | .brk c=>∃ l,l<=most/\Broke step moves k0 c0 l c
  | .whl d=>Shut step moves k0 (xB d)/\(xB d).Nodup/\(xB d).length<=most/\∀ s∈xB d,∃ row,Over moves row/\wp step k0 row=some s
 | 0,_,_,_,_,_,_,_,_,_=>trivial
 | m+1,n,level,seen,ls,h,cl,k,nd,le=>by
  by_cases g:level=[]
  ·subst g
   rw[xO];have e:xB ls=(seen++([]:LvL)).map (λp:KN × List Int=>p.1):=by rw[Y3];exact k
   refine⟨⟨by rw[e];exact yp.mp h.fst,λs i m j=>?_⟩,by rw[e];exact nd,by rw[k,Jg];exact le,λs i=>?_⟩
   ·rw[k]at i
    obtain⟨t,q,o⟩:=h.cls s (yp.mpr i) m j;exact⟨t,by rw[e];exact yp.mp o,q⟩
   ·rw[k]at i
    exact h.rch s (yp.mpr i)
  by_cases j:most<seen.length+level.length
  ·rw[xy g j];trivial
  by_cases f:(yI step (seen++level) moves level).fl=[]
  ·rw[x5 g j f]
   have na:=oX (step:=step) (seen:=seen++level) (moves:=moves) (n:=c0.length) level cl;have W:=wU (step:=step) (seen:=seen++level) (moves:=moves) (Ok:=λ_=>True) level λ_ _ _ _ _ _=>trivial;refine nQ m (n+1) _ _ _ (h.next g cl f) na.on ?_ ?_ (by rw[Jb];simp_all)
   ·rw[rP,k,Y2]
    congr 1
    show level.map (λp:KN × List Int=>p.1)++[]=level.map (λp:KN × List Int=>p.1);rw[Y3]
   ·unfold LvNd
    rw[Y2];refine WD.mpr ⟨nd,W.nd,λa v b u e=>?_⟩;subst e;obtain⟨p,r,rfl⟩:=Jv.mp u;have:=W.new p r;have z:=yp.mpr v;rw[this]at z;cases z
  ·rw[x6 g j f]
   exact⟨n,by have:=h.num;lia,h.brk cl f⟩
theorem iL:Clm step moves k0 c0 0 [(k0,c0)] []:=by
 have b:zX [(k0,c0)] k0=some c0:=y0 (show LvNd [(k0,c0)] from JP.mpr ⟨Jz,YS⟩) (.head _)
 have only:∀ {t:KN}{c:List Int},zX [(k0,c0)] t=some c->t=k0/\c=c0:=λg=>by
  have e:=Ja.mp (yh g);injection e with j e2;exact⟨j,e2⟩
 have nil:∀ {row:List Nat},row.length<=0->row=[]:=λh=>YV.mp (by lia);refine⟨by rw[List.nil_append,b];rfl,λt c g=>?_,λrow d _=>?_,λs a=>(by cases a),λs _=>rfl,λrow s c i _ a g=>?_,JP.mpr ⟨Jz,YS⟩,Je _,λs a=>(by cases a)⟩
 ·obtain⟨rfl,rfl⟩:=only g
  exact⟨[],rfl,λm f=>absurd f Jz,rfl,rfl⟩
 ·rw[nil d]
  exact⟨k0,rfl,by rw[List.nil_append,b];rfl⟩
 ·obtain⟨_,rfl⟩:=only g
  rw[nil (Nat.le_of_eq i)];exact vO _
theorem rZ:match yW step moves most (most+1) [(k0,c0)] [] [] with
  | .opn=>True
  | .brk c=>∃ b,b<=most/\Broke step moves k0 c0 b c
  | .whl a=>Shut step moves k0 (xB a)/\(xB a).Nodup/\(xB a).length<=most/\∀ s∈xB a,∃ row,Over moves row/\wp step k0 row=some s :=
 nQ (most+1) 0 _ _ _ iL (λp d=>by rw[Ja.mp d]) rfl (JP.mpr ⟨Jz,YS⟩) (JJ _)
theorem uZ {α:Type}[DecidableEq α]:∀ {l ks:List α},l.Nodup->(∀ x∈l,x∈ks)->l.length<=ks.length
 | [],_,_,_=>JJ _
 | a::l,ks,nd,h=>by
  rw[JP]at nd;have ha:=h a (.head _);have:=uZ (l:=l) (ks:=ks.erase a) nd.2 λx b=>(List.mem_erase_of_ne λ(z:x=a)=>nd.1 (z ▸ b)).mpr (h x (.tail _ b));rw[List.length_erase_of_mem ha]at this;have:0<ks.length:=List.length_pos_of_mem ha;rw[JM];lia
theorem uy {ks:List KN}(sh:Shut step moves k0 ks)(y:ks.length<=most):∀ (m:Nat) (level seen:LvL) (ls:List LvL),(∀ p∈level,p.1∈ks)->(∀ p∈seen,p.1∈ks)->(∀ s∈xB ls,s∈ks)->LvNd (seen++level)->most+1<=m+seen.length->∃ h,yW step moves most m level seen ls=.whl h/\∀ s∈xB h,s∈ks
 | 0,level,seen,ls,g,i,o,nd,hm=>by
  have:=uZ (l:=(seen++level).map (λp:KN × List Int=>p.1)) (ks:=ks) nd λx d=>by
   obtain⟨p,c,rfl⟩:=Jv.mp d;exact(Jy.mp c).elim (i p) (g p)
  rw[Jg,Jb]at this
  lia
 | m+1,level,seen,ls,g,i,o,nd,hm=>by
  have w:=uZ (l:=(seen++level).map (λp:KN × List Int=>p.1)) (ks:=ks) nd λx d=>by
   obtain⟨p,c,rfl⟩:=Jv.mp d;exact(Jy.mp c).elim (i p) (g p)
  rw[Jg,Jb]at w;by_cases n:level=[]
  ·subst n
   exact⟨ls,xO,o⟩
  have D:0<level.length:=YY.mpr n;have M:=tL (step:=step) (seen:=seen++level) moves level;have W:=wU (step:=step) (seen:=seen++level) (moves:=moves) (Ok:=λ_=>True) level λ_ _ _ _ _ _=>trivial
  have f:(yI step (seen++level) moves level).fl=[]:=by
   cases e:(yI step (seen++level) moves level).fl with
   | nil=>rfl
   | cons r rs =>
    obtain⟨x,d,q,_⟩:=M.fl1 r (by rw[e];exact .head _);obtain⟨k,j⟩:=xn.mp d;obtain⟨t,_,e2⟩:=sh.cls _ (g _ k) _ j;rw[q]at e2;cases e2
  rw[x5 n (by lia) f];refine uy sh y m _ _ _ (λp c=>?_) (λp c=>(Jy.mp c).elim (i p) (g p)) (λs v=>?_) ?_ (by rw[Jb];lia)
  ·obtain⟨x,d,q,_⟩:=M.on p.1 p.2 (y0 W.nd c)
   obtain⟨k,j⟩:=xn.mp d;obtain⟨t,A,e2⟩:=sh.cls _ (g _ k) _ j;rw[q]at e2;rw[Jm e2];exact A
  ·rw[rP]at v
   rcases Jy.mp v with z|z
   ·exact o s z
   ·have u:s∈level.map (λp:KN × List Int=>p.1)++[]:=z
    rw[Y3]at u;obtain⟨p,c,rfl⟩:=Jv.mp u;exact g p c
  ·unfold LvNd
   rw[Y2];refine WD.mpr ⟨nd,W.nd,λa C b B e=>?_⟩;subst e;obtain⟨p,c,rfl⟩:=Jv.mp B;have z:=yp.mpr C;rw[W.new p c]at z;cases z
end
def zL (N:Nt):List Int:=List.replicate N.lanes 0
section
variable {N:Nt}
theorem bC (N:Nt)(row:List Nat):(vT (zL N) row).length=N.lanes:=by rw[tw];exact Z3
theorem rX:∀ (row:List Nat) (c:List Int) (p:Nat),p<c.length->(vT c row).getD p 0=c.getD p 0+(row.count p:Nat)
 | [],c,p,h=>by show c.getD p 0=_;rw[List.count_nil];lia
 | m::r,c,p,h=>by
  show (vT (zj c m) r).getD p 0=_;rw[rX r (zj c m) p (by rw[xV];exact h),List.count_cons];unfold zj kg;by_cases z:m=p
  ·subst z
   rw[Ju,List.getElem?_set_self h,Wa,Jf rfl];show c.getD m 0+1+_=_;rw[Int.natCast_add];lia
  ·rw[Ju,List.getElem?_set_ne z,<- Ju,Jd (by simpa using z),Zq]
theorem eS (N:Nt)(p:Nat):(zL N).getD p 0=0:=kn _ _
end
def yw (N:Nt):KN->Nat->KN
 | [.inr ts,.inl r],m=>stK (wd N ts m) [(r+1)%(N.lanes:Nat)]
 | k,_=>k
theorem iy {N:Nt}{s t:KN}{m:Nat}(h:yN N s m=some t):t=yw N s m:=by
 unfold yN at h;split at h
 ·split at h
  ·exact(Jm h).symm
  ·cases h
 ·cases h
theorem aq {N:Nt}(ok:Nt.Ok N){s:KN}{m:Nat}(h:OkP N s):OkP N (yw N s m):=by
 obtain⟨a,r,rfl,c,b,d⟩:=h;refine⟨wd N a m,(r+1)%N.lanes,?_,(rF _ _ _).trans c,tJ b,Nat.mod_lt _ (by have:=ok.l1;lia)⟩;rw[Int.natCast_emod];rfl
theorem jw (x y:List Int):yd x y=yd y x:=by
 unfold yd;have sw:=vn x y
 cases e:cmpR x y with
 | lt=>rw[sw,e,Jd (by decide),Jf rfl]
 | gt=>rw[sw,e,Jf (by rfl),Jd (by decide)]
 | eq=>rw[sw,e,Jd (by decide),Jd (by decide),kX e]
def mx (ks:List KN)(k:KN):Bool:=ks.any λx=>decide (x=k)
theorem tX {ks:List KN}{k:KN}:mx ks k=true↔k∈ks:=by
 unfold mx;rw[List.any_eq_true];exact⟨λ⟨x,a,e⟩=>Ze e ▸ a,λh=>⟨k,h,JD rfl⟩⟩
section
variable (N:Nt)(ks:List KN)
def la1 (s:KN)(c:List Int)(a:LAcc)(m:Nat):LAcc :=
 ⟨if mx ks (yw N s m)=true then a.on else xZ a.on (yw N s m) (yd ((zX a.on (yw N s m)).getD (zj c m)) (zj c m)),if yN N s m=none then a.fl++[zj c m] else a.fl⟩
def laS (moves:List Nat)(a:LAcc)(p:KN × List Int):LAcc:=moves.foldl (la1 N ks p.1 p.2) a
def laL (moves:List Nat)(level:LvL):LAcc:=level.foldl (laS N ks moves) ⟨[],[]⟩
end
section
variable {N:Nt}{seen:LvL}
def Lik (A B:LAcc):Prop:=A.fl=B.fl/\(A.fl=[]->A.on=B.on)
theorem ax {A B:LAcc}(h:Lik A B)(s:KN)(c:List Int)(m:Nat):Lik (la1 N (seen.map (·.1)) s c A m) (go1 (yN N) seen s c B m):=by
 obtain⟨a,d⟩:=h;unfold la1 go1
 cases e:yN N s m with
 | none =>
  refine⟨?_,λz=>?_⟩
  ·show (if (none:Option KN)=none then A.fl++[zj c m] else A.fl)=B.fl++[zj c m]
   rw[Jf rfl,a]
  ·have b:(if (none:Option KN)=none then A.fl++[zj c m] else A.fl)=[]:=z
   rw[Jf rfl]at b
   exact absurd (JW List.length b) (by rw[Jb];show _+1≠0;lia)
 | some t =>
  have f:=iy e;subst f;have nn:¬((some (yw N s m):Option KN)=none):=λz=>by cases z
  dsimp only;rw[Jd nn];by_cases g:(zX seen (yw N s m)).isSome=true
  ·rw[Jf g,Jf (tX.mpr (yp.mp g))]
   exact⟨a,d⟩
  ·rw[Jd g,Jd (λz=>g (yp.mpr (tX.mp z)))]
   exact⟨a,λz=>by show xZ _ _ _=xZ _ _ _;rw[d z,jw]⟩
theorem zaS {A B:LAcc}(h:Lik A B)(moves:List Nat)(p:KN × List Int):Lik (laS N (seen.map (·.1)) moves A p) (goS (yN N) seen moves B p):=by
 unfold laS goS
 induction moves generalizing A B with
 | nil=>exact h
 | cons m r ih=>exact ih (ax h p.1 p.2 m)
theorem zaT (moves:List Nat)(level:LvL):Lik (laL N (seen.map (·.1)) moves level) (yI (yN N) seen moves level):=by
 unfold laL yI
 have key:∀ (level:LvL) {A B:LAcc},Lik A B->Lik (level.foldl (laS N (seen.map (·.1)) moves) A) (level.foldl (goS (yN N) seen moves) B):=by
  intro level
  induction level with
  | nil=>exact λh=>h
  | cons p r ih=>exact λh=>ih (zaS h moves p)
 exact key level ⟨rfl,λ_=>rfl⟩
end
structure AccL (N:Nt) (n m:Nat) (a:LAcc):Prop where
 on:∀ p∈a.on,OkP N p.1/\p.2.length=n
 fl:∀ r∈a.fl,r.length=n
 onl:a.on.length<=m
 fll:a.fl.length<=m
theorem AccL.go {N:Nt}(ok:Nt.Ok N){ks:List KN}{s:KN}{c:List Int}{a:LAcc}{n m k:Nat}(h:AccL N n m a)(i:OkP N s)(o:c.length=n):AccL N n (m+1) (la1 N ks s c a k):=by
 have f:(zj c k).length=n:=by rw[xV,o]
 refine⟨λp l=>?_,λr j=>?_,?_,?_⟩
 ·have d:p∈(if mx ks (yw N s k)=true then a.on else xZ a.on (yw N s k) (yd ((zX a.on (yw N s k)).getD (zj c k)) (zj c k))):=l
  split at d
  ·exact h.on p d
  ·rcases vJ d with z|z
   ·exact h.on p z
   ·rw[z]
    refine⟨aq ok i,?_⟩;show (yd _ _).length=n;rcases uY ((zX a.on (yw N s k)).getD (zj c k)) (zj c k) with e|e
    ·rw[e]
     cases g:zX a.on (yw N s k) with
     | none=>exact f
     | some r=>exact(h.on _ (yh g)).2
    ·rw[e];exact f
 ·have b:r∈(if yN N s k=none then a.fl++[zj c k] else a.fl):=j
  split at b
  ·rcases Jy.mp b with z|z
   ·exact h.fl r z
   ·rw[Ja.mp z];exact f
  ·exact h.fl r b
 ·show (if mx ks (yw N s k)=true then a.on else xZ a.on (yw N s k) (yd ((zX a.on (yw N s k)).getD (zj c k)) (zj c k))).length<=m+1
  have:=h.onl;split
  ·lia
  ·have:=tF a.on (yw N s k) (yd ((zX a.on (yw N s k)).getD (zj c k)) (zj c k));lia
 ·show (if yN N s k=none then a.fl++[zj c k] else a.fl).length<=m+1
  have:=h.fll;split
  ·rw[Jb];show _+1<=_;simp_all
  ·lia
end L2
namespace L2
open PySem PySem.Spec PyProof.Rows Own
section
variable {prog:Program}{w:World}{A:Around}{E:Value->Shared->Prop}
theorem NIs.same {h h':Heap}(t:∀ b o,o.cls=.type "tuple"->h.get? b=some o->h'.get? b=some o) {ks:KN}{a:Addr}(p:NIs prog w h ks a):NIs prog w h' ks a:=by
 have one:∀ {k:KI}{v:Value},NIt prog w h k v->NIt prog w h' k v:=λ{k v} q=>by
  cases k with
  | inl i=>exact q
  | inr u =>
   obtain⟨b,e,o,c,n,j,d,g⟩:=q;exact⟨b,e,o,c,n,t b o d j,d,g⟩
 have all:∀ {ks:KN}{f:List Value},NIts prog w h ks f->NIts prog w h' ks f:=λ{ks}=>by
  induction ks with
  | nil=>exact λq=>q
  | cons k ks ih =>
   intro f q;obtain⟨v,r,e,m,l⟩:=q;exact⟨v,r,e,one m,ih l⟩
 obtain⟨o,c,n,j,d,g,s⟩:=p;exact⟨o,c,n,t a o d j,d,g,all s⟩
variable {d it l:Addr}{its:Array Value}{ps:List (KN × Addr × Value)}{res:Value}
def PairsH (P:Program)(w:World)(h:Heap)(its:Array Value)(ps:List (KN × Addr × Value)):Prop :=
 its.size=ps.length/\∀ (i:Nat) (x:Value),its[i]?=some x->∃ t v k b ob m,x=.ref t/\h.get? t=some ob/\ob.cls=.type "tuple"/\ob.data=.seq #[.ref b,v] m/\NIs P w h k b/\ps[i]?=some (k,b,v)
theorem PairsH.same {h h':Heap}(p:PairsH prog w h its ps) (f:∀ b o,o.cls=.type "tuple"->h.get? b=some o->h'.get? b=some o):PairsH prog w h' its ps :=
 ⟨p.1,λi x e=>let ⟨t,v,k,b,ob,m,j,e2,a,g,d,c⟩:=p.2 i x e;⟨t,v,k,b,ob,m,j,f t ob a e2,a,g,d.same f,c⟩⟩
theorem oE {R:Result->Shared->Prop}(hh:A.handled=none)(hu:A.units+3<cLine):∀ (m i:Nat) (s:Shared) (xs:List (KN × Addr × Value)),i+m=its.size->s.heap.IsListIter it l i->s.heap.IsList l its->s.heap.DictOfH (yM prog w) d xs->PairsH prog w s.heap its ps->it≠d->xs.length+m<=sizeLine ->
  (∀ h' tk,h'.DictOfH (yM prog w) d (mergeN xs (ps.drop i))->(∀ b o,b≠d->b≠it->s.heap.get? b=some o->h'.get? b=some o)->R (.ok (.ret res)) { s with heap:=h',toks:=tk }) ->
  codeAny (model prog w) A (.builtin "dict.update.loop" ⟨[.ref d,.ref it,rawInt (i:Int),res],[]⟩) R s:=by
 intro m
 induction m with
 | zero =>
  intro i s xs im hit G p n ne hz fin;refine YG wN ?_;rw[Yv yo];show wpAny _ A.in1 (pyNext (Value.ref it) >>= _) _ _ _;refine J0 (wpAny_pyNext_list_end (A:=A.in1) hh hit G (Z0 (by simp_all)) λh' j=>?_);refine J0 (J7 (J7 (fin h' s.toks ?_ λb o _ nb e=>j b o nb e)));rw[List.drop_eq_nil_of_le (by rw[<- n.1];simp_all)];obtain⟨o,u,y,e,c,H,O,h,N⟩:=p;refine⟨o,u,y,j d o (Ne.symm ne) e,c,H,O,λx M=>(h x M).same λb o' I X=>j b o' ?_ X,N⟩;rintro rfl;obtain⟨F,e2,a,_⟩:=hit;rw[X]at e2;obtain rfl:=Jm e2
  rw[I]at a;exact absurd (Value.type.inj a) (by decide)
 | succ m ih =>
  intro i s xs im hit G p n ne hz fin;obtain⟨x,ex⟩:∃ x,its[i]?=some x:=⟨_,getElem?_pos its i (by lia)⟩;obtain⟨t,v,k,b,ob,mm,rfl,et,I,dt,hk,V⟩:=n.2 i x ex;refine YG wN ?_;rw[Yv yo];show wpAny _ A.in1 (pyNext (Value.ref it) >>= _) _ _ _;refine J0 (wpAny_pyNext_list_item (A:=A.in1) hit G ex λQ E f=>?_)
  have W:∀ {b:Addr}{o:Obj},o.cls=.type "tuple"->s.heap.get? b=some o->b≠it:=λ{b o} c e z=>by
   obtain⟨F,e2,a,_⟩:=hit;rw[z]at e;rw[e]at e2;obtain rfl:=Jm e2;rw[c]at a;exact absurd (Value.type.inj a) (by decide)
  have Y:∀ {b:Addr}{o:Obj},o.cls=.type "tuple"->s.heap.get? b=some o->b≠d:=λ{b o} c e z=>by
   obtain⟨F,u,y,e2,a,H,_⟩:=p;rw[z]at e;rw[e]at e2;obtain rfl:=Jm e2;have q:=a.1;rw[c]at q;exact absurd (Value.type.inj q) (by decide)
  have L:∀ b o,o.cls=.type "tuple"->s.heap.get? b=some o->Q.get? b=some o:=λb o c e=>(f.2 b (W c e)).trans e;have C:=L t ob I et;have ty:({ s with heap:=Q }:Shared).TypeIs (.ref t) "tuple":=⟨ob,C,I⟩
  have U:Q.DictOfH (yM prog w) d xs:=by
   obtain⟨o,u,y,e,c,H,O,h,N⟩:=p;exact⟨o,u,y,(f.2 d (Ne.symm ne)).trans e,c,H,O,λx M=>(h x M).same L,N⟩
  refine J0 (JX (J0 (Wy ?_)));unfold Builtin.Dict.pairItems;refine J0 (YF ty ?_);rw[Jf (by decide)];refine J0 (Yi C dt (J7 ?_));refine JX (wpAny_dictSet_heap (knd:=yM prog w) (show A.in1.units+2<cLine by rw[Around.in1_units];omega) (hk.same L) U (λP T B=>?_) (by lia));refine J7 ⟨Zh yo _,?_⟩;have g:∀ b o,b≠d->b≠it->s.heap.get? b=some o->P.get? b=some o:=λb o K J e=>(B.2 b K).trans ((f.2 b J).trans e);have Z:=sW xs (k,b,v)
  have D:P.IsListIter it l (i+1):=by
   obtain⟨o,e,r⟩:=E;exact⟨o,(B.2 it ne).trans e,r⟩
  have S:P.IsList l its:=by
   obtain⟨o,e,c,r⟩:=G;refine⟨o,g l o (λz=>?_) (λz=>?_) e,c,r⟩
   ·obtain⟨F,u,y,e2,a,_⟩:=p
    rw[<- z,e]at e2;obtain rfl:=Jm e2;have q:=a.1;rw[c]at q;exact absurd (Value.type.inj q) (by decide)
   ·obtain⟨F,e2,a,_⟩:=hit
    rw[<- z,e]at e2;obtain rfl:=Jm e2;rw[c]at a;exact absurd (Value.type.inj a) (by decide)
  refine ih (i+1) _ (storedH xs k b v) (by lia) D S T (n.same λb o c e=>g b o (Y c e) (W c e) e) ne (by have:(storedH xs k b v).length<=xs.length+1:=Z;lia) λh' tk d' j=>fin h' tk ?_ λb o K J e=>j b o K J (g b o K J e);have il:i<ps.length:=by rw[<- n.1];lia
  rw[YC il,show ps[i]=(k,b,v) from (Jc.mp V).2];exact d'
theorem nJ {s:Shared}{n:Nat}{Q:Value->Shared->Prop}(y:A.handled=none) (N:A.units+4<cLine) (I:s.heap.get? l=some { cls:=.type "list",data:=.seq its n }) (H:PairsH prog w s.heap its ps) (M:its.size<=sizeLine)
  (h:∀ f k,f.DictOfH (yM prog w) s.heap.objs.size (mergeN [] ps)->(∀ b o,s.heap.get? b=some o->f.get? b=some o)->Q (.ref s.heap.objs.size) { s with heap:=f,toks:=k }) :
  wpAny (model prog w) A (call (.type "dict") [.ref l]) Q E s:=by
 refine callType_codes (Q₁:=λob v=>ob=.ref s.heap.objs.size/\v={ s with heap:=s.heap.push { cls:=.type "dict",data:=.dict #[] } }) F.kt_called_dict (F.kt_typeCall_dict_1 _) F.entry_dict_init (kt_code_dict_new _ ⟨rfl,rfl⟩) ?_;rintro ob v ⟨rfl,rfl⟩;have nw:(s.heap.push { cls:=.type "dict",data:=.dict #[] }).DictOfH (yM prog w) s.heap.objs.size []:=Heap.DictOfH.new s.heap;have d:=J8 ({ cls:=.type "dict",data:=.dict #[] }:Obj) I;have B:({ s with heap:=s.heap.push { cls:=.type "dict",data:=.dict #[] } }:Shared).TypeIs (.ref l) "list":=⟨_,d,rfl⟩;refine⟨nw.typeIs,F.args_dict_init_2 _ _,?_⟩;unfold Builtin.«dict.__init__» Builtin.Dict.selfAndRest;refine J0 (J0 (Zv nw.typeIs (J7 ?_)));show wpAny _ _ (Builtin.Dict.updateFrom "dict.__init__" s.heap.objs.size (Value.ref l) [] Value.none) _ _ _;unfold Builtin.Dict.updateFrom;refine J0 (YF B ?_);rw[Jf (by decide)];refine J0 (jz d y λj m c=>?_);rw[Jf (by rfl)];refine J0 (YJ ?_);have g:=c _ _ d;refine J0 (wpAny_pyIter_list ⟨_,g,rfl,_,rfl⟩ ?_);refine J7 ⟨Zh yo _,?_⟩;have a:∀ b o,(s.heap.push { cls:=.type "dict",data:=.dict #[] }).get? b=some o->(j.push ({ cls:=.type "list_iterator",data:=.fields #[.ref l,.int 0 0] }:Obj)).get? b=some o:=λb o e=>J8 _ (c b o e);obtain⟨C,t,u,z,cd,J,q,L,p⟩:=nw;have dl:s.heap.objs.size<j.objs.size:=Jr (c _ _ z);refine oE (A:=A.in1) (R:=wants (λr i=>r=Value.none/\Q (.ref s.heap.objs.size) i) E) (it:=j.objs.size) (ps:=ps) (l:=l) (its:=its) y (by rw[Around.in1_units];omega) its.size 0 { s with heap:=j.push { cls:=.type "list_iterator",data:=.fields #[.ref l,.int 0 0] },toks:=m } [] (by lia) ⟨_,Jq _ rfl,rfl,rfl⟩ ⟨_,J8 _ g,rfl,_,rfl⟩ ⟨C,t,u,a _ _ z,cd,J,q,λx G=>absurd G Jz,p⟩ (H.same λb o _ e=>a b o (J8 _ e)) (YZ dl) (by rw[Z6];simp_all) λf k K D=>⟨rfl,h f k K λb o e=>?_⟩;have bl:=Jr e;exact D b o (JH bl) (JH (Nat.lt_trans bl dl)) (a b o (J8 _ e))
end
def PrH (H:Hp)(t:V)(p:KN × Addr × V):Prop:=∃ a,t=.ref a/\H a=some (.tup [.ref p.2.1,p.2.2])/\NKey H p.1 p.2.1
section
variable {X:Cx}{pins:List (Addr × Obj)}{σ:St}{H:Hp}{s:Shared}{A:Around}{E:Value->Shared->Prop}
theorem ga (I:Inv X pins σ H s){ts:List V}{xs:KVN}(p:Paired (PrH H) ts xs):∀ {its:List Value},Vals ts its->∃ ps,Paired PrN xs ps/\its.length=ps.length/\∀ (i:Nat) (x:Value),its[i]?=some x->∃ t v k b ob m,x=.ref t/\s.heap.get? t=some ob/\ob.cls=.type "tuple"/\ob.data=.seq #[.ref b,v] m/\NIs X.prog X.w s.heap k b/\ps[i]?=some (k,b,v):=by
 induction p with
 | nil =>
  intro its r;cases r
  exact⟨[],.nil,rfl,λi x e=>by simp at e⟩
 | @cons t q ts xs h _ ih =>
  intro its r
  cases r with
  | cons r rs =>
   obtain⟨ps,rel,len,j⟩:=ih rs;obtain⟨a,rfl,n,l⟩:=h;cases r;obtain⟨c,g,⟨o,u,co,m,w⟩,_⟩:=I.tuple (SqT.of (K:=X.K) n);obtain⟨x,y,rfl,f,d⟩:=qz g;cases f;refine⟨(q.1,q.2.1,y)::ps,.cons ⟨rfl,rfl,d⟩ rel,by simp[len],λi z e=>?_⟩
   cases i with
   | zero =>
    obtain rfl:Value.ref a=z:=by simpa using e
    exact⟨a,y,q.1,q.2.1,o,m,rfl,u,co,w,xg I.hok l,rfl⟩
   | succ i=>exact j i z (by simpa using e)
theorem cJ {l:Addr}{ts:List V}{xs:KVN}{Q:Value->Shared->Prop}(k:A.handled=none)(g:A.units+4<cLine)(I:Inv X pins σ H s)(e:H l=some (.lst ts))(p:Paired (PrH H) ts xs)(h:∀ q b,H q=none->Inv X pins σ (upd H q (DN X.prog X.w q (yz [] xs))) b->Q (.ref q) b):wpAny (model X.prog X.w) A (call (.type "dict") [.ref l]) Q E s:=by
 obtain⟨z,t,n,r,m⟩:=I.hok _ _ e;obtain⟨ps,rel,len,j⟩:=ga I p r;have u:=Ya p;refine nJ (ps:=ps) k g m ⟨by simpa using len,λi x ex=>j i x (by simpa using ex)⟩ (by rw[Jn,<- r.length];exact z) λv c o f=>?_;have d:=mergeV_len xs [];rw[Z6]at d;exact h _ _ (I.hok.fresh (Je _)) (I.laid (a:=s.heap.objs.size) (t':=c) f (Je _) (dn_new (by lia) (Zi.mpr (Ne.symm (JH I.big))) (mergeV_rel rel .nil) o))
end
section
variable {X:Cx}
theorem lE (d:X.calm=true)(c:X.A.units+4<cLine):CallR X (.type "dict") (λvs H Q=>∃ l ts xs,vs=[.ref l]/\H l=some (.lst ts)/\Paired (PrH H) ts xs/\∀ q,H q=none->Q (.ref q) (upd H q (DN X.prog X.w q (yz [] xs)))):=by
 intro pins s σ H vs g Q I r h;obtain⟨l,ts,xs,rfl,e,p,q⟩:=h;obtain⟨u,rfl,a⟩:=uA r;obtain rfl:u=Value.ref l:=a;exact cJ (I.ok.hd d) c I e p λx i b f=>⟨.ref x,_,f,rfl,q x b⟩
end
section
variable {prog:Program}{w:World}{A:Around}{E:Value->Shared->Prop}{s:Shared}{a b:Addr}{oa ob:Obj}{es:Array DictEntry}{ea eb:Nat}
theorem mD {nm:String}{Q:Bool->Shared->Prop}(ha:(a == sysModules)=false)(hb:(b == sysModules)=false)(f:s.heap.get? a=some oa)(g:oa.data=.dict es ea)(k:s.heap.get? b=some ob)(m:ob.data=.dict #[] eb)(h:Q es.isEmpty s):wpAny (model prog w) A (Builtin.Dict.samePairs nm a b) Q E s:=by
 unfold Builtin.Dict.samePairs
 have c:∀ {d:Addr}{R:Unit->Shared->Prop},(d == sysModules)=false->R () s->wpAny (model prog w) A (Builtin.Dict.showsAll d) R E s:=λ{d R} j q=>by
  unfold Builtin.Dict.showsAll;rw[j];exact J7 q
 refine J0 (c ha (J0 (c hb (J0 (Y5 f g (J0 (Y5 k m ?_)))))));dsimp only;by_cases z:es.size=0
 ·have e:es = #[]:=Array.eq_empty_of_size_eq_zero z
  subst e;rw[Jd (by decide)];refine J0 (Yb f g (J0 ?_));have l:List.range' [:(#[]:Array DictEntry).size].start [:(#[]:Array DictEntry).size].size [:(#[]:Array DictEntry).size].step=[]:=rfl;rw[Zz,l,Zy];exact J7 (Q:=_) (J7 (by exact h))
 ·rw[Jf (by simpa using z)]
  have i:es.isEmpty=false:=by simpa [Array.isEmpty] using z
  exact J0 (YJ (J7 (i ▸ h)))
end
section
variable {X:Cx}
theorem aV (w:X.A.units<cLine):OpR X (compareOp .NotEq) (λx y H Q=>∃ a b xs,x=.ref a/\y=.ref b/\H a=some (DN X.prog X.w a xs)/\H b=some (DN X.prog X.w b [])/\Q (.bl (!xs.isEmpty)) H):=by
 intro pins s σ H x y v u Q I m l h;obtain⟨a,b,xs,rfl,rfl,B,A,q⟩:=h;cases m;cases l;obtain⟨⟨z,C,ws,r,o,c,S,j,F,E,D,P⟩,_,_⟩:=(show ObjOk X.prog X.w H s.heap a (DN X.prog X.w a xs) from I.hok a _ B);obtain⟨⟨O,e,M,n,t,f,N,k,K,J,G,R⟩,_,_⟩:=(show ObjOk X.prog X.w H s.heap b (DN X.prog X.w b []) from I.hok b _ A);cases n
 have L:f = #[]:=by
  apply Array.eq_empty_of_size_eq_zero;rw[Z7 G];rfl
 subst L;have d:s.TypeIs (.ref a) "dict":=⟨o,j,F.1⟩;have g:s.TypeIs (.ref b) "dict":=⟨t,k,K.1⟩
 have em:c.isEmpty=xs.isEmpty:=by
  have i:c.size=xs.length:=by rw[Z7 D,<- Ya r]
  cases xs with
  | nil =>
   have:c = #[]:=Array.eq_empty_of_size_eq_zero i
   rw[this];rfl
  | cons p xs =>
   rw[JM]at i;show decide (c.size=0)=false;exact Jt (by simp_all)
 refine wpAny_richCompare_same_room (op:=.NotEq) d g PySem.F.slot_dict_ne (Y1 PySem.F.slot_dict_ne d PySem.F.entry_dict_ne ?_ (PySem.F.args_dict_ne_2 _ _)) w;refine J0 ?_;unfold Builtin.Dict.dictSlotArgs;refine J0 (Zv d ?_);dsimp only;refine J0 (J7 (Q:=_) (J7 (Q:=_) ?_));refine J0 (YA (b:=true) g (by rfl) ?_);rw[Jd (by decide)];refine J0 (J7 (J0 (J7 (J0 (mD C e j E k J ?_)))));rw[em];refine J7 ⟨_,rfl,(λz=>by cases z),.bl _,H,I,rfl,?_⟩;have eq:(List.isEmpty xs == false) = !List.isEmpty xs:=by cases List.isEmpty xs<;>rfl
 rw[eq];exact q
def bb (P:Program)(w:World)(t:TE):TE:=λσ H Q=>t σ H λx c=>∃ d o b a,H d=some (DN P w d a)/\c d=some (.frz o (DN P w d b))/\Q x (upd c d (DN P w d b))
theorem gk {e:Expr}{t:TE}(h:PE X e t):PE X e (bb X.prog X.w t):=by
 intro pins s σ H Q I c;refine thn (h pins s σ H _ I c) λv k q=>?_;obtain⟨x,l,g,a,d,o,j,i,f,b,q⟩:=q;exact⟨x,_,g.thawN b (I.meltedN f),a,q⟩
end
theorem zaU {P:Program}{w:World}{d:Addr}{o:Obj}{xs:KVN}{g:TG}{tt:TT}{e:TE}{l:Addr}{σ:St}{H:Hp}{Q:VK}(c:Nat->List V->St->Hp->Prop)(s:c 0 [] σ H)(r:∀ i acc σ H,c i acc σ H->H l=some (.lst acc)/\H d=some (.frz o (DN P w d xs)))(n:∀ (i:Nat) acc σ H p,xs[i]?=some p->c i acc σ H->g (.ref p.2.1) σ H λa u=>tt a u λb j=>if b=true then e a j λz h=>h l=some (.lst acc)/\acc.length<sizeLine/\Nx xs.length i (c (i+1) (acc++[z]) a (upd h l (.lst (acc++[z])))) else Nx xs.length i (c (i+1) acc a j))(hd:∀ acc σ H,c xs.length acc σ H->Q (.ref l) H):∃ W:Nat->Nat->List V->St->Hp->Prop,(∃ m,W 0 m [] σ H)/\LCW (Itn P w d o xs) g tt e l Q W:=by
 refine⟨λi m acc σ H=>m=xs.length-i/\i<=xs.length/\c i acc σ H,⟨_,rfl,JJ _,s⟩,λi m acc σ H ⟨em,hi,pv⟩=>?_⟩;subst em;obtain⟨k,f⟩:=r i acc σ H pv;refine⟨k,?_⟩;by_cases lt:i<xs.length
 ·refine .inr ⟨⟨f,lt⟩,λx v ⟨t,p,q,e2⟩=>?_⟩
  subst t e2;exact n i acc σ _ p q pv
 ·obtain rfl:i=xs.length:=by lia
  exact .inl ⟨⟨f,rfl⟩,hd acc σ H pv⟩
end L2
namespace L2
open PySem PySem.Spec PyProof.Rows Own
theorem sV (p:KN × Addr × V)(xs:KVN)(k:KN):yn (p::xs) k=if p.1=k then some p.2.2 else yn xs k:=by
 unfold yn;rw[YH];by_cases z:p.1=k
 ·rw[JD z,Jf z];rfl
 ·rw[Jt z,Jd z]
theorem ie {xs:KVN}{k:KN}:(yn xs k).isSome=true↔k∈xs.map (·.1):=by
 induction xs with
 | nil=>exact⟨λh=>(nomatch h),λh=>(nomatch h)⟩
 | cons p xs ih =>
  rw[sV,JT,Js];by_cases z:p.1=k
  ·rw[Jf z];exact⟨λ_=>.inl z.symm,λ_=>rfl⟩
  ·rw[Jd z,ih]
   exact⟨.inr,λh=>h.elim (λq=>absurd q.symm z) id⟩
end L2
namespace Bn
open PySem PySem.Spec PyProof.Rows L2 Own
abbrev Ent:=(Nat × Nat) × Int
def rkK (k:Nat × Nat):Int:=(k.1:Int)*1000+(k.2:Int)
def EntAt (H:Hp)(x:V)(e:Ent):Prop:=∃ a b,x=.ref a/\H a=some (.tup [.ref b,.int e.2])/\H b=some (.tup [.int (e.1.1:Nat),.int (e.1.2:Nat)])
open Classical in
noncomputable def rkE (H:Hp)(x:V):Int:=if h:∃ e,EntAt H x e then rkK h.choose.1 else 0
end Bn
namespace L2
open PySem PySem.Spec PyProof.Rows Own Bn
theorem iE {P:Program}{w:World}{d:Addr}{o:Obj}{xs:KVN}{g:TG}{h:TS}{D:Ends}{σ:St}{H:Hp}(a:Nat->St->Hp->Prop)(s:a 0 σ H)(n:∀ i σ H,a i σ H->H d=some (.frz o (DN P w d xs)))(l:∀ i p σ H,xs[i]?=some p->a i σ H->g (.ref p.2.1) σ H λc f=>h { D with nx:=a (i+1),ct:=a (i+1),bk:=D.nx } c f)(r:∀ σ H,a xs.length σ H->D.nx σ H) :
  ∃ W:Nat->Nat->St->Hp->Prop,(∃ m,W 0 m σ H)/\∀ i m σ H,W i m σ H ->
   ((Itn P w d o xs).stop i H/\D.nx σ H)\/((Itn P w d o xs).go i H/\∃ N:St->Hp->Prop,(∀ e b,N e b->∃ j,j<m/\W (i+1) j e b)/\∀ x b,(Itn P w d o xs).yld i H x b->g x σ b λc f=>h { D with nx:=N,ct:=N,bk:=D.nx } c f):=by
 refine⟨λi m σ H=>m=xs.length-i/\i<=xs.length/\a i σ H,⟨xs.length,rfl,JJ _,s⟩,?_⟩;rintro i m σ H ⟨rfl,hi,pv⟩;have k:=n i σ H pv;rcases Nat.lt_or_ge i xs.length with lt|ge
 ·exact .inr ⟨⟨k,lt⟩,a (i+1),λe b q=>⟨xs.length-(i+1),by lia,rfl,lt,q⟩,λx b ⟨u,p,t,e2⟩=>by rw[u,e2];exact l i p σ H t pv⟩
 ·obtain rfl:i=xs.length:=by lia
  exact .inl ⟨⟨k,rfl⟩,r σ H pv⟩
theorem mI {H:Hp}{F c:Nat}{xs:KVN}{lv:LvL}{ys:List V}(le:LvE H xs lv)(ok:∀ p∈lv,StOk F c p.1)(pm:ys.Perm (xs.map λp=>.ref p.2.1))(so:ys.Pairwise λx y=>rkH H x<=rkH H y):∃ cs a,ys=cs.map V.ref/\KeysAt H cs a/\a.Perm (lv.map (·.1))/\a.Pairwise λx y=>yt x<=yt y:=by
 obtain⟨cs,rfl,pc⟩:=tH (f:=V.ref) (zs:=xs.map λp=>p.2.1) pm (by rw[Zb];rfl);obtain⟨a,d,b⟩:=rO pc le.keys;refine⟨cs,a,rfl,d,b,uK (F:=F) (c:=c) d (λk g=>?_) so⟩;obtain⟨p,e,rfl⟩:=Jv.mp (b.mem_iff.mp g);exact ok p e
theorem cj (ys:KVN)(k:KN):(yn ys k).isSome=mx (ys.map (·.1)) k:=by
 rw[Yw,ie,tX]
theorem lG:∀ {xs:KVN},(xs.map (·.1)).Nodup->∀ {p:KN × Addr × V},p∈xs->yn xs p.1=some p.2.2
 | [],_,_,h=>by cases h
 | x::xs,nd,p,h=>by
  rw[JT,JP]at nd;rw[sV];rcases Js.mp h with rfl|z
  ·exact Jf rfl
  ·rw[Jd (λ(e:x.1=p.1)=>nd.1 (by rw[e];exact Jv.mpr ⟨p,z,rfl⟩))]
   exact lG nd.2 z
theorem fQ {H:Hp}{g q:Addr}{x y:List Int}{n:Nat}(b:H g=some (.tup (x.map V.int)))(a:H q=some (.tup (y.map V.int)))(d:x.length=n)(c:y.length=n):(∀ u∈[V.ref g,V.ref q],∀ v∈[V.ref g,V.ref q],Lx H 1 u v (vq H u v))/\∃ h,xI (vq H) (.ref g) (.ref q)=.ref h/\H h=some (.tup ((yd x y).map V.int)) :=
 ⟨qM (fs:=[g,q]) (rs:=[x,y]) (.cons b (.cons a .nil)) λr e=>by
  rcases Js.mp e with rfl|z
  ·exact d
  ·rw[Ja.mp z];exact c,nV (fs:=[q]) (rs:=[y]) (.cons a .nil) b⟩
theorem dv {H:Hp}{N:Nt}{ts:List Int}{r lane:Nat}{T t:Addr}(b:H T=some (.tup [.ref t,.int (((r:Nat)+1)%(N.lanes:Nat))]))(a:H t=some (.tup ((wd N ts lane).map V.int))):NKey H (yw N (stK ts [(r:Nat)]) lane) T:=nX (is:=[((r:Nat)+1)%(N.lanes:Nat)]) b a
theorem uD {N:Nt}{ts:List Int}{r lane:Nat}:yN N (stK ts [(r:Nat)]) lane=none↔passE N ts lane≠r:=by
 show (if ((passE N ts lane:Nat):Int)=(r:Nat) then some (stK (wd N ts lane) [((r:Nat)+1)%(N.lanes:Nat)]) else none)=none↔_;by_cases z:passE N ts lane=r
 ·rw[Jf (by simp_all)]
  exact⟨λy=>(nomatch y),λy=>absurd z y⟩
 ·rw[Jd (by lia)]
  exact⟨λ_=>z,λ_=>rfl⟩
def yb (xs:KVN):KVN:=xs.map λp=>(p.1,p.2.1,V.bl true)
theorem nj (xs:KVN):(yb xs).map (·.1)=xs.map (·.1):=by unfold yb;rw[Zb];rfl
theorem io {H:Hp}{xs:KVN}(h:KsIn H xs):KsIn H (yb xs):=λx a=>by
 obtain⟨p,b,rfl⟩:=Jv.mp a;exact h p b
theorem rM {xs ys:KVN}(nd:(ys.map (·.1)).Nodup)(ds:∀ k∈ys.map (·.1),k∉xs.map (·.1)):yz xs ys=xs++ys :=
 vj ys xs nd λy a x b e=>ds y.1 (Jv.mpr ⟨y,a,rfl⟩) (e ▸ Jv.mpr ⟨x,b,rfl⟩)
def RowsK (H:Hp)(as:List Addr)(b:List (List KN)):Prop:=Paired (λa c=>∃ bs,H a=some (.lst (bs.map V.ref))/\KeysAt H bs c) as b
theorem RowsK.keep {H H':Hp}{as:List Addr}{b:List (List KN)}(h:RowsK H as b)(t:Tups H H')(k:∀ a∈as,∀ xs,H a=some (.lst xs)->H' a=some (.lst xs)):RowsK H' as b:=by
 unfold RowsK at h ⊢
 induction h with
 | nil=>exact .nil
 | cons q _ ih =>
  obtain⟨bs,e,c⟩:=q;exact .cons ⟨bs,k _ (.head _) _ e,c.tups t⟩ (ih λa d=>k a (.tail _ d))
theorem RowsK.same {H H':Hp}{as:List Addr}{a:List (List KN)}(h:RowsK H as a)(s:Same H H'):RowsK H' as a:=h.keep (Tups.of s) λ_ _ _ e=>s _ _ e
def LvRow (a:List KN)(lv:LvL):Prop:=a.Perm (lv.map (·.1))/\a.Pairwise λx y=>yt x<=yt y
end L2
namespace K37
open PySem L2 Own Bn
abbrev aA:Stmt:=top 30
def TellL (P:Program)(w:World)(H:Hp)(p:Addr)(most:Nat):LRes->Prop
 | .opn=>∃ d a ys v,H p=some (.tup [.ref d,.ref a,v])/\H a=some (DN P w a ys)/\most<ys.length
 | .brk c=>∃ d a ys b,H p=some (.tup [.ref d,.ref a,.ref b])/\H a=some (DN P w a ys)/\ys.length<=most/\H b=some (.tup (c.map V.int))
 | .whl ls=>∃ d a ys as e,H p=some (.tup [.ref d,.ref a,.non])/\H a=some (DN P w a ys)/\ys.length<=most/\H d=some (.lst (as.map V.ref))/\RowsK H as e/\Paired LvRow e ls
def i9 (P:Program)(w:World):Sp:=λc H Q _=>∃ r fr e d N b,∃ (moves:List Nat) (most:Nat),c=[.ref r,.ref b,.int (most:Nat)]/\Nt.Ok N/\NetAt H r fr e d N/\H b=some (.tup (zQ moves))/\(∀ m∈moves,m<N.lanes)/\moves.length<=16/\0<most/\most<=10000 /\
 ∀ p a,Same H a->TellL P w a p most (yB N moves most)->Q (.ref p) a
section
variable {P:Program}{w:World}{K:PySem.W.Frag}{mg:Str->Option Value}{base:Heap}
theorem uR:FnScope ["_law_net","_law_some_here","_law_most","_law_level","_law_met","_law_rows","_law_further","_law_bad","_law_turns","_law_rest","_law_lane","_law_later","_law_end","_law_pair","_law_counts"] ["_law_net","_law_some_here","_law_most"] (zN aA):=by rfl'
theorem ai {f fF fP fM:Addr}{fd dF dP dM:FuncData}(F:Fun K "_law_levels" "_law_levels" aA f fd) (G:Mgs mg) (GD:MgD mg) (UF:Use P w K mg base "_law_first" ["_law_net"] 1 xT fF dF) (UP:Use P w K mg base "_law_passed" ["_law_net","_law_turns","_law_lane"] 1 (vY false) fP dP) (UM:Use P w K mg base "_law_more" ["_law_counts","_law_lane"] 1 i8 fM dM):FnOk P w K mg base CX0 2 f fd ["_law_net","_law_some_here","_law_most"] (i9 P w):=by
 refine F.ok uR (λvs H Q E h=>?_) (λhQ A outer s H vs Q E hr h=>?_)
 ·obtain⟨r,fr,er,ps,N,sm,moves,most,rfl,_⟩:=h
  rfl
 obtain⟨r,fr,er,ps,N,sm,moves,most,rfl,ok,na,hs,mlt,ml,mp,mb,k⟩:=h;refine⟨_,(@zE _ _ _ _ _ (@qQ _ _ 3 4 _ _ _ _ _ _ _ _ _ _ _ rfl uR.nd rfl rfl (by decide) rfl rfl (@zA _ _ _ _ _ (tI hr.u3 (@zR _ _ _ _ _ _ _ _ _ _ _ _ _ _ _ _ UF.ok hr (by rfl) UF.m UF.kp UF.b .nil zu (@zA _ _ _ _ _ (@qv _ 0 _ _ (by rfl')) zC (by rfl)) (by decide) (by rfl) (by rfl)) (@zS _ _ _ _ _ _ _ _ uX (@zT _ _ _ _ _ (@zA _ _ _ _ _ zH zC (by rfl))) (@zi _ _ _ _ _ _ _ yA (@qv _ 0 _ _ (by rfl')) zH (λ_ _=>rfl)))) (@zA _ _ _ _ _ (tI hr.u3 (@zR _ _ _ _ _ _ _ _ _ _ _ _ _ _ _ _ UF.ok hr (by rfl) UF.m UF.kp UF.b .nil zu (@zA _ _ _ _ _ (@qv _ 0 _ _ (by rfl')) zC (by rfl)) (by decide) (by rfl) (by rfl)) uI) zC (by rfl)) (by rfl)) (by rfl) (by rfl)) (@zE _ _ _ _ _ (@zp _ _ 5 _ _ _ _ uR.nd rfl (.inl rfl) (@yR _ _ _ _ zC) (by rfl) (by rfl')) (@zE _ _ _ _ _ (@pY _ _ _ _ _ _ Yp (@gY _ _ _ _ _ _ _ (@zY _ _ _ _ _ _ _ _ (aV hr.units0) (@qv _ 3 _ _ (by rfl')) uW (zw _)) (@lQ _ _ _ _ (@zY _ _ _ _ _ _ _ _ zaK (@zU _ _ _ _ _ _ _ _ _ vw (by rfl) G.len Yd (@zA _ _ _ _ _ (@qv _ 4 _ _ (by rfl')) zC (by rfl)) (by decide) (by decide) (by rfl) (by rfl)) (@qv _ 2 _ _ (by rfl')) (zw _)))).pt (@zE _ _ _ _ _ (@y4 _ _ _ _ (@uH _ _ _ _ _ _ _ _ _ _ _ _ YK ZJ ZK yx (@qv _ 5 _ _ (by rfl')) (@zA _ _ _ _ _ (@zU _ _ _ _ _ _ _ _ _ (wj rfl hr.units) (by rfl) G.sorted (by rfl) (@zA _ _ _ _ _ (@qv _ 3 _ _ (by rfl')) zC (by rfl)) (by decide) (by decide) (by rfl) (by rfl)) zC (by rfl)) (by rfl) (by rfl) (by rfl) (by rfl) (by rfl)) (by rfl)) (@zE _ _ _ _ _ (@qQ _ _ 6 7 _ _ _ _ _ _ _ _ _ _ _ rfl uR.nd rfl rfl (by decide) rfl rfl (@zA _ _ _ _ _ uW (@zA _ _ _ _ _ (@yR _ _ _ _ zC) zC (by rfl)) (by rfl)) (by rfl) (by rfl)) (@zE _ _ _ _ _ (pZ (@xG _ _ _ _ _ _ _ _ Yp rfl (oB (@qv _ 3 _ _ (by rfl'))) (@yJ _ _ _ _ _ _ rfl (@zK _ _ _ _ _ (@zM _ _ 8 _ uR.nd rfl (.inl rfl) (by rfl')) (@zK _ _ _ _ _ (@zM _ _ 9 _ uR.nd rfl (.inl rfl) (by rfl')) yC (by rfl)) (by rfl)) (by rfl) (by rfl)) (@zJ _ _ _ (@xG _ _ _ _ _ _ _ _ Yp rfl (@vZ _ _ _ _ (@qv _ 1 _ _ (by rfl'))) (@zM _ _ 10 _ uR.nd rfl (.inl rfl) (by rfl')) (@zE _ _ _ _ _ (@yP _ _ _ _ _ _ (@zR _ _ _ _ _ _ _ _ _ _ _ _ _ _ _ _ UP.ok hr (by rfl) UP.m UP.kp UP.b .nil zu (@zA _ _ _ _ _ (@qv _ 0 _ _ (by rfl')) (@zA _ _ _ _ _ (@qv _ 8 _ _ (by rfl')) (@zA _ _ _ _ _ (@qv _ 10 _ _ (by rfl')) zC (by rfl)) (by rfl)) (by rfl)) (by decide) (by rfl) (by rfl)) (@yJ _ _ _ _ _ _ rfl (@zK _ _ _ _ _ (@zM _ _ 11 _ uR.nd rfl (.inl rfl) (by rfl')) (@zK _ _ _ _ _ (@zM _ _ 12 _ uR.nd rfl (.inl rfl) (by rfl')) yC (by rfl)) (by rfl)) (by rfl) (by rfl)) (by rfl) (by rfl) (by rfl)) (@zE _ _ _ _ _ (@zp _ _ 13 _ _ _ _ uR.nd rfl (.inl rfl) (@zT _ _ _ _ _ (@zA _ _ _ _ _ (@qv _ 11 _ _ (by rfl')) (@zA _ _ _ _ _ (@zS _ _ _ _ _ _ _ _ xi (@zS _ _ _ _ _ _ _ _ yY (@qv _ 9 _ _ (by rfl')) zH) (@zi _ _ _ _ _ _ _ yA (@qv _ 0 _ _ (by rfl')) zH (λ_ _=>rfl))) zC (by rfl)) (by rfl))) (by rfl) (by rfl')) (@zE _ _ _ _ _ (@zp _ _ 14 _ _ _ _ uR.nd rfl (.inl rfl) (@zR _ _ _ _ _ _ _ _ _ _ _ _ _ _ _ _ UM.ok hr (by rfl) UM.m UM.kp UM.b .nil zu (@zA _ _ _ _ _ (dk hr.u3 (@qv _ 3 _ _ (by rfl')) (@zT _ _ _ _ _ (@zA _ _ _ _ _ (@qv _ 8 _ _ (by rfl')) (@zA _ _ _ _ _ (@qv _ 9 _ _ (by rfl')) zC (by rfl)) (by rfl))) (λ_ _=>rfl)) (@zA _ _ _ _ _ (@qv _ 10 _ _ (by rfl')) zC (by rfl)) (by rfl)) (by decide) (by rfl) (by rfl)) (by rfl) (by rfl')) (@zE _ _ _ _ _ (@yO _ _ _ _ _ _ _ _ (@zY _ _ _ _ _ _ _ _ oF (@qv _ 12 _ _ (by rfl')) (@qv _ 9 _ _ (by rfl')) (zw _)) (@zJ _ _ _ (@y4 _ _ _ _ (@uH _ _ _ _ _ _ _ _ _ _ _ _ YK ZJ ZK yx (@qv _ 7 _ _ (by rfl')) (@zA _ _ _ _ _ (@qv _ 14 _ _ (by rfl')) zC (by rfl)) (by rfl) (by rfl) (by rfl) (by rfl) (by rfl)) (by rfl))) zr) (@zJ _ _ _ (@yO _ _ _ _ _ _ _ _ (@aM _ _ _ _ _ _ (jX hr.u3 (@qv _ 13 _ _ (by rfl')) (@qv _ 4 _ _ (by rfl'))) (by rfl)) (@zJ _ _ _ (lU hr.u3 (@qv _ 6 _ _ (by rfl')) (@qv _ 13 _ _ (by rfl')) (@zU _ _ _ _ _ _ _ _ _ (sK rfl hr.units) (by rfl) G.min (by rfl) (@zA _ _ _ _ _ (oC hr.u3 (@qv _ 6 _ _ (by rfl')) (@qv _ 13 _ _ (by rfl')) (@qv _ 14 _ _ (by rfl')) ⟨rfl,rfl,rfl,rfl⟩) (@zA _ _ _ _ _ (@qv _ 14 _ _ (by rfl')) zC (by rfl)) (by rfl)) (by decide) (by decide) (by rfl) (by rfl)) (by rfl))) zr)))))) (by intro _;rfl))) (by intro _;rfl))) (@zE _ _ _ _ _ (@yO _ _ _ _ _ _ _ _ (@zY _ _ _ _ _ _ _ _ (gq hr.units0) (@qv _ 7 _ _ (by rfl')) (@yR _ _ _ _ zC) (zw _)) (@zJ _ _ _ (@zV _ _ _ _ (@zT _ _ _ _ _ (@zA _ _ _ _ _ (@qv _ 5 _ _ (by rfl')) (@zA _ _ _ _ _ (@qv _ 4 _ _ (by rfl')) (@zA _ _ _ _ _ (@zU _ _ _ _ _ _ _ _ _ (re rfl true hr.units) (by rfl) G.min (by rfl) (@zA _ _ _ _ _ (@qv _ 7 _ _ (by rfl')) zC (by rfl)) (by decide) (by decide) (by rfl) (by rfl)) zC (by rfl)) (by rfl)) (by rfl))))) zr) (@zE _ _ _ _ _ (@y4 _ _ _ _ (lY hr.u3 (@qv _ 4 _ _ (by rfl')) (@zv _ _ _ _ _ _ _ _ _ (lE rfl (WA (Nat.add_le_add_left (by decide) _) hr.units)) (by rfl) GD.dict (by rfl) (@zA _ _ _ _ _ (gk (@gm _ _ _ _ none _ _ _ _ _ _ ["_law_pair"] [none] rfl (oB (@qv _ 6 _ _ (by rfl'))) (CapOk.of (by kernel_rfl)) (λ_ _ _ _ _=>(@zM _ _ 0 _ (show (["_law_pair"]:List Str).Nodup from by decide +kernel) rfl (.inl rfl) (.inr rfl))) (λ_ _ _ _ _=>uV) (λ_ _ _ _ _=>(@zT _ _ _ _ _ (@zA _ _ _ _ _ (@qv _ 0 _ _ (by rfl')) (@zA _ _ _ _ _ uI zC (by rfl)) (by rfl)))) (by intro _;rfl))) zC (by rfl)) (by decide) (by decide) (by rfl) (by rfl)) ⟨rfl,rfl,rfl,rfl⟩) (by rfl)) (@zJ _ _ _ (@zp _ _ 3 _ _ _ _ uR.nd rfl (.inl rfl) (@qv _ 6 _ _ (by rfl')) (by rfl) (by rfl'))))))))) (@zJ _ _ _ (@zV _ _ _ _ (@zT _ _ _ _ _ (@zA _ _ _ _ _ (@qv _ 5 _ _ (by rfl')) (@zA _ _ _ _ _ (@qv _ 4 _ _ (by rfl')) (@zA _ _ _ _ _ vd zC (by rfl)) (by rfl)) (by rfl)))))))),?_⟩;have hM:=ok.l16;have l1:=ok.l1
 let k0:KN:=stK (List.replicate N.forks.length 0) [0]
 refine yF (λDz hv=>?_);refine λdl eg=>?_;have s1:=zB eg (DN P w dl []);refine⟨_,rfl,r,fr,er,ps,N,rfl,ok,na.tups (Tups.of s1),λb0 H1 s2 fy=>?_⟩;have u2:=s1.trans s2;refine⟨by show 1<=sizeLine;decide,λt1 fB=>?_⟩;have s3:=zB fB (.tup [.int 0]);have u3:=u2.trans s3;refine⟨_,rfl,r,_,_,_,rfl,rfl,SqT.of (u3 _ _ na.net),rfl,t1,_,N.lanes,rfl,rfl,zD,by lia,λc0 W s4 h4=>?_⟩;rw[<- List.map_replicate]at h4;have u4:=u3.trans s4;have U:=s4 _ _ (s3 _ _ (s2 _ _ (zD (H:=H) (o:=DN P w dl []) (a:=dl))));have k4:=fy.tups (Tups.of (s3.trans s4));refine⟨b0,k0,rfl,U,k4,λn ba=>?_⟩;replace ba:L2.upd W dl (DN P w dl [(k0,b0,.ref c0)]) n=none:=ba;have s5:Same H (L2.upd W dl (DN P w dl [(k0,b0,.ref c0)])):=λb u e=>by rw[zG (zF e eg)];exact u4 b u e
 have t5:Tups W (L2.upd W dl (DN P w dl [(k0,b0,.ref c0)])):=λb xs e=>by rw[zG (yQ e U λz=>by cases z)];exact e
 have eh:L2.upd W dl (DN P w dl [(k0,b0,.ref c0)]) dl=some (DN P w dl [(k0,b0,.ref c0)]):=zD;have k5:=k4.tups t5;have c5:=t5 _ _ h4;show bL xT [] E0 _ _ (L2.upd (L2.upd W dl (DN P w dl [(k0,b0,.ref c0)])) n (DN P w n [])) _;generalize L2.upd W dl (DN P w dl [(k0,b0,.ref c0)])=HA at *;have d6:=zB ba (DN P w n []);refine⟨_,rfl,r,fr,er,ps,N,rfl,ok,na.tups (Tups.of (s5.trans d6)),λb1 H3 s6 kb1=>?_⟩;have ee:=s6 _ _ (zD (H:=HA) (o:=DN P w n []) (a:=n));have u6:=d6.trans s6
 have dH:H n=none:=by
  cases e:H n with
  | none=>rfl
  | some o=>rw[s5 _ _ e]at ba;cases ba
 have gg:dl≠n:=zF eh ba;refine⟨b1,k0,rfl,ee,kb1,_,_,rfl,hv _ _ ⟨by show 0<=sizeLine;decide,λJ cb=>?_⟩⟩;replace cb:L2.upd H3 n (DN P w n [(k0,b1,.bl true)]) J=none:=cb;have q7:∀ {b u},HA b=some u->L2.upd H3 n (DN P w n [(k0,b1,.bl true)]) b=some u:=λ{b u} e=>by rw[zG (zF e ba)];exact u6 b u e
 have t7:Tups H3 (L2.upd H3 n (DN P w n [(k0,b1,.bl true)])):=λb xs e=>by rw[zG (yQ e ee λz=>by cases z)];exact e
 have s7:Same HA (L2.upd H3 n (DN P w n [(k0,b1,.bl true)])):=λb u e=>q7 e;have fL:L2.upd H3 n (DN P w n [(k0,b1,.bl true)]) n=some (DN P w n [(k0,b1,.bl true)]):=zD;have fx:=kb1.tups t7;show wa _ _ _ _ (L2.upd (L2.upd H3 n (DN P w n [(k0,b1,.bl true)])) J (.lst []));generalize L2.upd H3 n (DN P w n [(k0,b1,.bl true)])=HB at *;have s8:=zB cb (.lst []);have sX:=(s5.trans s7).trans s8;have fR:L2.upd HB J (.lst []) J=some (.lst []):=zD;have f3:=s8 _ _ (q7 eh);have fG:=s8 _ _ fL;have fv:=k5.tups (Tups.of (s7.trans s8));have cX:=s8 _ _ (q7 c5);have fb:=fx.tups (Tups.of s8)
 have hg:H J=none:=by
  cases e:H J with
  | none=>rfl
  | some o=>rw[q7 (s5 _ _ e)]at cb;cases cb
 generalize L2.upd HB J (.lst [])=HX at *;clear s8 s7 t7 q7 fL fx u6 s6 ee kb1 d6 c5 k5 eh s5 t5 u4 k4 U h4 s4 u3 s3 fB cb ba u2 s2 fy s1 H1 W H3 HA HB t1
 refine⟨λm σ W=>∃ dl xs ys level seen as bl ls v6 v7 v8 v9 v10 v11 T S R,σ=[some (.ref r),some (.ref sm),some (.int (most:Nat)),some (.ref dl),some (.ref n),some (.ref J),v6,v7,v8,v9,v10,v11,T,S,R]/\Same H W/\W dl=some (DN P w dl xs)/\LvE W xs level/\W n=some (DN P w n ys)/\KsIn W ys/\ys.map (·.1)=(seen++level).map (·.1)/\dl≠n/\W J=some (.lst (as.map V.ref))/\RowsK W as bl/\Paired LvRow bl ls/\J∉as /\
  as.length<=seen.length/\LvNd level/\(∀ p∈level,zX seen p.1=none)/\(∀ p∈level,OkP N p.1/\p.2.length=N.lanes)/\seen.length<=most/\(0<seen.length+level.length)/\level.length<=16*most+1/\most+1<=m+seen.length/\yB N moves most=yW (yN N) moves most m level seen ls,⟨most+1,?_⟩,?_⟩
 ·exact⟨dl,_,_,[(k0,List.replicate N.lanes 0)],[],[],[],[],_,_,_,_,_,_,_,_,_,rfl,sX,f3,⟨λx hx=>by rw[Ja.mp hx];exact fv,.cons ⟨rfl,c0,rfl,cX⟩ .nil⟩,fG,λx hx=>by rw[Ja.mp hx];exact fb,rfl,gg,fR,.nil,.nil,Jz,Je _,JP.mpr ⟨Jz,YS⟩,λp I=>rfl,λp I=>by rw[Ja.mp I];exact⟨xu ok,Z3⟩,JJ _,Nat.one_pos,by show 1<=_;lia,Je _,rfl⟩
 clear fR f3 fG fv cX fb sX eg gg HX b0 b1 c0 dl;rintro m σ W ⟨dl,xs,ys,level,seen,as,bl,ls,v6,v7,v8,v9,v10,v11,T,S,R,rfl,s2,ei,ea,c1,fo,ek,hI,a5,d8,e5,e8,hR,nd,new,dT,gs,pos,hL,em,ec⟩
 have e0:(!xs.isEmpty) = !level.isEmpty:=by
  have:=ea.len;cases xs<;>cases level<;>first|rfl|cases this
 have yl:ys.length=seen.length+level.length:=by
  have:=JW List.length ek
  rwa [Jg,Jg,Jb]at this
 obtain⟨m,rfl⟩:∃ m',m=m'+1:=⟨m-1,by lia⟩;refine⟨_,rfl,λe he=>?_⟩;have sE:=zB he (DN P w e []);refine⟨dl,e,xs,rfl,rfl,sE _ _ ei,zD,_,rfl,?_⟩;rw[e0];by_cases le:level=[]
 ·rw[le]
  refine yg (yg ?_);refine⟨_,rfl,_,rfl,by show 3<=sizeLine;decide,λp I=>?_⟩;have s3:=zB I (.tup [.ref J,.ref n,.non]);have u3:=sE.trans s3;refine k p _ (s2.trans u3) ?_;rw[ec,le,xO];rw[le]at yl;exact⟨J,n,ys,as,bl,zD,u3 _ _ c1,by rw[yl];exact gs,u3 _ _ a5,d8.same u3,e5⟩
 rw[show (!level.isEmpty)=true by cases level;exact absurd rfl le;rfl];refine xC ?_;refine⟨_,rfl,n,ys,rfl,.inl (sE _ _ c1),_,rfl,_,_,rfl,rfl,_,rfl,?_⟩;by_cases mo:most<seen.length+level.length
 ·rw[Jt (by rw[yl];lia)]
  refine yg ?_;refine⟨_,rfl,_,rfl,by show 3<=sizeLine;decide,λp I=>?_⟩;have s3:=zB I (.tup [.ref J,.ref n,.non]);have u3:=sE.trans s3;refine k p _ (s2.trans u3) ?_;rw[ec,xy le mo];exact⟨J,n,ys,_,zD,u3 _ _ c1,by rw[yl];exact mo⟩
 rw[JD (by rw[yl];lia)];refine xC ⟨_,λhJ H' hN=>⟨m,Nat.lt_succ_self _,hN⟩,?_⟩;have lp:0<level.length:=YY.mpr le;have d3:=sE _ _ ei;have cx:=ea.keep sE;have eb:=sE _ _ c1;have ff:=fo.tups (Tups.of sE);have bB:=sE _ _ a5;have rkE:=d8.same sE;have uE:=s2.trans sE;show wa _ _ _ _ (L2.upd W e (DN P w e []));generalize L2.upd W e (DN P w e [])=HE at *;clear sE s2 ei ea c1 fo a5 d8 he e W;refine yF (λDy hy=>?_);refine⟨_,rfl,.inl ⟨rfl,_,SqL.of bB⟩,_,rfl,dl,xs,rkH HE,rfl,d3,cx.len_le (by lia),pV cx (λp I=>((dT p I).1).st ok),λq v hq pm so=>?_⟩;obtain⟨cs,js,rfl,kj,pj,sj⟩:=mI cx (λp I=>((dT p I).1).st ok) pm so;have s3:=zB hq (.lst (cs.map V.ref));have fT:=s3 _ _ bB;refine⟨J,_,_,rfl,rfl,fT,by rw[Jg,JG];lia,?_⟩;have lq:q≠J:=λz=>by rw[z,bB]at hq;cases hq
 have q4:∀ {b:Addr}{u:HO},HE b=some u->b≠J->L2.upd (L2.upd HE q (.lst (cs.map V.ref))) J (.lst (as.map V.ref++[.ref q])) b=some u:=λh ne=>by rw[zG ne];exact s3 _ _ h
 have t4:Tups HE (L2.upd (L2.upd HE q (.lst (cs.map V.ref))) J (.lst (as.map V.ref++[.ref q]))):=λb ws h=>q4 h (yQ h bB λz=>by cases z);have fD:L2.upd (L2.upd HE q (.lst (cs.map V.ref))) J (.lst (as.map V.ref++[.ref q])) q=some (.lst (cs.map V.ref)):=by rw[zG lq];exact zD
 have fS:L2.upd (L2.upd HE q (.lst (cs.map V.ref))) J (.lst (as.map V.ref++[.ref q])) J=some (.lst ((as++[q]).map V.ref)):=by rw[Y2];exact zD
 have U:=q4 d3 (yQ d3 bB λz=>by cases z);have bu:=q4 eb (yQ eb bB λz=>by cases z);have s4:Same H (L2.upd (L2.upd HE q (.lst (cs.map V.ref))) J (.lst (as.map V.ref++[.ref q]))):=λb u h=>q4 (uE b u h) (zF h hg);have gP:RowsK (L2.upd (L2.upd HE q (.lst (cs.map V.ref))) J (.lst (as.map V.ref++[.ref q]))) (as++[q]) (bl++[js]):=ZT (rkE.keep t4 λa ha ws h=>q4 h λz=>e8 (z ▸ ha)) ⟨cs,fD,kj.tups t4⟩;have g0:Paired LvRow (bl++[js]) (ls++[level]):=ZT e5 ⟨pj,sj⟩
 have eu:J∉as++[q]:=λz=>by
  rcases Jy.mp z with y|y
  ·exact e8 y
  ·exact lq (Ja.mp y).symm
 have cH:=cx.tups t4;have fm:=ff.tups t4;refine hy _ _ ?_;show wa _ _ _ _ (L2.upd (L2.upd HE q (.lst (cs.map V.ref))) J (.lst (as.map V.ref++[.ref q])));generalize L2.upd (L2.upd HE q (.lst (cs.map V.ref))) J (.lst (as.map V.ref++[.ref q]))=H4 at *;clear q4 t4 fD fT s3 d3 cx eb ff bB rkE uE hq pm so kj pj sj;refine yF (λDx hz=>?_);refine λo ho=>⟨by show 0<=sizeLine;decide,λl hl=>⟨_,_,rfl,?_⟩⟩;replace ho:H4 o=none:=ho;replace hl:L2.upd H4 o (DN P w o []) l=none:=hl;have s5:=zB ho (DN P w o []);have s6:=zB hl (.lst []);have u6:=s5.trans s6;have ol:o≠l:=λz=>by rw[<- z,zD]at hl;cases hl
 have fV:H4 l=none:=by rwa [zG ol.symm]at hl
 have es:dl≠o:=zF U ho;have et:dl≠l:=zF U fV;have gd:n≠o:=zF bu ho;have f9:L2.upd (L2.upd H4 o (DN P w o [])) l (.lst []) o=some (DN P w o []):=by rw[zG ol];exact zD
 have gc:L2.upd (L2.upd H4 o (DN P w o [])) l (.lst []) l=some (.lst []):=zD;refine hz _ _ ?_;refine yF (λDw hC=>?_);refine⟨_,rfl,dl,xs,rfl,u6 _ _ U,λob=>?_⟩
 let D:Nat->LAcc:=λi=>(level.take i).foldl (laS N ((seen++level).map (·.1)) moves) ⟨[],[]⟩
 have ll:xs.length=level.length:=cH.len;refine iE (P:=P) (w:=w) (d:=dl) (o:=ob) (xs:=xs) (λi σ H6=>(∃ v8 v9 v10 v11 T S R,σ=[some (.ref r),some (.ref sm),some (.int (most:Nat)),some (.ref dl),some (.ref n),some (.ref J),some (.ref o),some (.ref l),v8,v9,v10,v11,T,S,R])/\But dl H4 H6/\H6 dl=some (.frz ob (DN P w dl xs))/\∃ v fs,H6 o=some (DN P w o v)/\LvE H6 v (D i).on/\H6 l=some (.lst (fs.map V.ref))/\RowsAt H6 fs (D i).fl/\AccL N N.lanes (i*moves.length) (D i)) ?_ (λi σ H6 z=>z.2.2.1) ?_ ?_
 ·refine⟨⟨_,_,_,_,_,_,_,rfl⟩,λb u h ne=>?_,zD,[],[],?_,LvE.nil,?_,.nil,⟨λp I=>(nomatch I),λp I=>(nomatch I),JJ _,JJ _⟩⟩
  ·rw[zG ne];exact u6 b u h
  ·rw[zG es.symm];exact f9
  ·rw[zG et.symm];exact gc
 ·rintro i p σ H6 I ⟨⟨v8,v9,v10,v11,T,S,R,rfl⟩,bt,c2,v,fs,d0,cv,d1,rws,c4⟩
  have tb:∀ {H7:Hp},But dl H4 H7->Tups H4 H7:=λB c ws h=>B c _ h λz=>by
   rw[z,U]at h;cases h
  have il:i<level.length:=by rw[<- ll];exact(Jc.mp I).1
  obtain⟨c,ca,ep,kb,hH,hc⟩:=cH.at_ I;have pin:(p.1,c)∈level:=JQ ep;obtain⟨d9,cl⟩:=dT _ pin;replace cl:c.length=N.lanes:=cl
  have vx:yn xs p.1=some (.ref ca):=by
   rcases qb cH.pr p.1 with ⟨_,z⟩|⟨_,_,z,_,_⟩
   ·rw[y0 nd pin]at z;cases z
   ·have hn:(xs.map (·.1)).Nodup:=by rw[vN cH.pr];exact nd
    rw[<- hH];exact lG hn (JQ I)
  obtain⟨ts,rest,cf,tl,bits,rl⟩:=d9;have d9:OkP N p.1:=⟨ts,rest,cf,tl,bits,rl⟩;rw[cf]at kb;obtain⟨t0,ej,fC⟩:=uh kb;replace ej:H4 p.2.1=some (.tup [.ref t0,.int (rest:Nat)]):=ej;refine⟨p.2.1,_,rfl,SqT.of (tb bt _ _ ej),rfl,_,_,rfl,_,_,rfl,rfl,?_⟩;have dr:=s4 _ _ hs;refine⟨_,rfl,sm,rfl,⟨_,SqT.of (tb bt _ _ dr)⟩,?_⟩
  have g6:D (i+1)=laS N ((seen++level).map (·.1)) moves (D i) (p.1,c):=by
   show List.foldl _ _ (level.take (i+1))=_;rw[<- Yq il,W5,show level[i]=(p.1,c) from (Jc.mp ep).2];rfl
  generalize hA:D i=a0 at *
  let C:Nat->LAcc:=λj=>(moves.take j).foldl (la1 N ((seen++level).map (·.1)) p.1 c) a0
  have fin:C moves.length=D (i+1):=by rw[g6];show List.foldl _ _ (moves.take moves.length)=_;rw[YN];rfl
  have e6:(zQ moves).length=moves.length:=Jg _;refine uc (K:=K) (a:=sm) (xs:=zQ moves) (λj σ H7=>(∃ v10 v11 T S R,σ=[some (.ref r),some (.ref sm),some (.int (most:Nat)),some (.ref dl),some (.ref n),some (.ref J),some (.ref o),some (.ref l),some (.ref t0),some (.int (rest:Nat)),v10,v11,T,S,R])/\But dl H4 H7/\H7 dl=some (.frz ob (DN P w dl xs))/\∃ v fs,H7 o=some (DN P w o v)/\LvE H7 v (C j).on/\H7 l=some (.lst (fs.map V.ref))/\RowsAt H7 fs (C j).fl/\AccL N N.lanes (i*moves.length+j) (C j)) ?_ (λj σ H7 _ z=>SqT.of (tb z.2.1 _ _ dr)) ?_ ?_
  ·exact⟨⟨_,_,_,_,_,rfl⟩,bt,c2,v,fs,d0,cv,d1,rws,c4⟩
  ·rintro j x σ H7 hx ⟨⟨v10,v11,T,S,R,rfl⟩,ck,c3,Z,cc,bo,a9,bS,a4,M⟩
   rw[zQ,Y6]at hx;obtain⟨lane,eo,rfl⟩:=Y9.mp hx;have jl:j<moves.length:=(Jc.mp eo).1;have lt:=mlt lane (JQ eo)
   have ct:C (j+1)=la1 N ((seen++level).map (·.1)) p.1 c (C j) lane:=by
    show List.foldl _ _ (moves.take (j+1))=_;rw[<- Yq jl,W5,show moves[j]=lane from (Jc.mp eo).2];rfl
   have b6:=M.go ok (ks:=(seen++level).map (·.1)) (s:=p.1) (k:=lane) d9 cl;rw[<- ct]at b6
   have hP:i*moves.length+j<=160000:=by
    have h1:(i+1)*moves.length<=level.length*moves.length:=Nat.mul_le_mul_right _ il;have h2:level.length*moves.length<=10000*16:=Nat.mul_le_mul (by lia) ml;rw[Nat.add_mul,Nat.one_mul]at h1;lia
   have hK:=M.onl;have hO:=M.fll;generalize hB:C j=a1 at *;have t7:=tb ck;refine kh (λD0 f7=>?_);refine yF (λDa hF=>?_);refine⟨_,rfl,_,rfl,_,rfl,r,fr,er,ps,N,t0,ts,lane,rfl,ok,(na.tups (Tups.of s4)).tups t7,t7 _ _ fC,tl,bits,lt,λp1 tr H8 s8 fE fA=>?_⟩;refine⟨p1,_,rfl,SqT.of fE,rfl,_,_,rfl,_,_,rfl,rfl,hF _ _ ?_⟩;refine yF (λDb hE=>?_);have gi:=ck.trans (But.of (l:=dl) s8);refine⟨_,rfl,_,rfl,_,_,rfl,rfl,_,rfl,r,_,_,_,rfl,rfl,SqT.of (tb gi _ _ (s4 _ _ na.net)),rfl,_,_,rfl,rfl,by lia,by show 2<=sizeLine;decide,λT2 f6=>?_⟩;have s9:=zB f6 (.tup [.ref tr,.int (((rest:Nat)+1)%(N.lanes:Nat))]);have dd:=dv (N:=N) (ts:=ts) (r:=rest) (lane:=lane) (t:=tr) (zD (H:=H8) (a:=T2) (o:=.tup [.ref tr,.int (((rest:Nat)+1)%(N.lanes:Nat))])) (s9 _ _ fA);refine hE _ _ ?_;refine yF (λDc hD=>?_);refine⟨_,rfl,_,rfl,_,rfl,by show 2<=sizeLine;decide,λT3 f5=>?_⟩;have O:=zB f5 (.tup [.ref t0,.int (rest:Nat)]);have a7:=(s8.trans s9).trans O;have b5:=ck.trans (But.of (l:=dl) a7);have tt:=tb b5;have bc:=dd.tups (Tups.of O)
   have kx:NKey (L2.upd (L2.upd H8 T2 (.tup [.ref tr,.int (((rest:Nat)+1)%(N.lanes:Nat))])) T3 (.tup [.ref t0,.int (rest:Nat)])) p.1 T3:=by
    rw[cf];exact nX (is:=[((rest:Nat):Int)]) zD (tt _ _ fC)
   refine⟨dl,T3,xs,p.1,_,rfl,rfl,⟨.inr ⟨ob,a7 _ _ c3⟩,cH.ks.tups tt⟩,kx,vx,?_⟩;have dD:=a7 _ _ c3;have dp:=a7 _ _ bo;have c9:=a9.keep a7;have dA:=a7 _ _ bS;have c7:=a4.tups (Tups.of a7);have ey:=tt _ _ hc;show lJ _ _ _ (L2.upd (L2.upd H8 T2 (.tup [.ref tr,.int (((rest:Nat)+1)%(N.lanes:Nat))])) T3 (.tup [.ref t0,.int (rest:Nat)])) _;generalize L2.upd (L2.upd H8 T2 (.tup [.ref tr,.int (((rest:Nat)+1)%(N.lanes:Nat))])) T3 (.tup [.ref t0,.int (rest:Nat)])=HC at *;clear a7 O s9 dd s8 gi f6 f5 fE fA kx ck c3 bo a9 bS a4 t7 tt;refine⟨_,rfl,ca,c,lane,rfl,ey,by simp_all,by lia,λq cn a8 b4=>?_⟩;have dE:=b5.trans (But.of (l:=dl) a8);have dn:=a8 _ _ dp;have c8:=c9.keep a8;have a6:=a8 _ _ dA;have b3:=c7.tups (Tups.of a8);have dC:=a8 _ _ dD;have dG:=bc.tups (Tups.of a8);clear b5 dp c9 dA c7 dD bc a8;refine hD _ _ ?_;refine yF (λD1 hG=>?_);have e4:(zj c lane).length=N.lanes:=by rw[xV];exact cl
   have tail:∀ L aT,But dl H4 L->L dl=some (.frz ob (DN P w dl xs))->L o=some (DN P w o Z)->LvE L Z a1.on->L l=some (.lst (aT.map V.ref))->RowsAt L aT (C (j+1)).fl->NKey L (yw N p.1 lane) T2->L q=some (.tup ((zj c lane).map V.int))->D1.nx [some (.ref r),some (.ref sm),some (.int (most:Nat)),some (.ref dl),some (.ref n),some (.ref J),some (.ref o),some (.ref l),some (.ref t0),some (.int (rest:Nat)),some (.int (lane:Nat)),some (.ref tr),some (.int ((passE N ts lane:Nat):Int)),some (.ref T2),some (.ref q)] L:=by
    intro L aT d4 dB ao X dx c6 ab dt;refine hG _ _ ?_;have ew:L n=some (DN P w n ys):=d4 _ _ bu hI.symm;refine⟨_,rfl,_,rfl,n,T2,ys,_,rfl,rfl,⟨.inl ew,fm.tups (tb d4)⟩,ab,_,rfl,?_⟩;rw[cj,ek]
    cases hk:mx ((seen++level).map (·.1)) (yw N p.1 lane) with
    | true =>
     refine yg ?_;have e1:(C (j+1)).on=a1.on:=by rw[ct];exact Jf hk
     exact f7 _ _ ⟨⟨_,_,_,_,_,rfl⟩,d4,dB,Z,aT,ao,e1 ▸ X,dx,c6,b6⟩
    | false =>
     refine xC ?_
     have e1:(C (j+1)).on=xZ a1.on (yw N p.1 lane) (yd ((zX a1.on (yw N p.1 lane)).getD (zj c lane)) (zj c lane)):=by
      rw[ct];exact Jd (by rw[hk];decide)
     refine⟨_,rfl,o,rfl,⟨_,.inl ao⟩,_,rfl,_,rfl,T2,Z,_,rfl,⟨.inl ao,X.ks⟩,ab,?_⟩
     have le2:∃ g sr,(yn Z (yw N p.1 lane)).getD (.ref q)=.ref g/\(zX a1.on (yw N p.1 lane)).getD (zj c lane)=sr/\L g=some (.tup (sr.map V.int))/\sr.length=N.lanes:=by
      rcases qb X.pr (yw N p.1 lane) with ⟨y1,y2⟩|⟨g,sr,y1,y2,y3⟩
      ·exact⟨q,zj c lane,by rw[y1];rfl,by rw[y2];rfl,dt,e4⟩
      ·exact⟨g,sr,by rw[y1];rfl,by rw[y2];rfl,y3,(M.on _ (yh y2)).2⟩
     obtain⟨g,sr,g1,g2,g3,g4⟩:=le2;obtain⟨lx,h,p1,p2⟩:=fQ g3 dt g4 e4;rw[g1];refine⟨_,rfl,_,_,1,vq L,rfl,by decide,lx,?_⟩;rw[p1];refine⟨_,rfl,_,rfl,o,T2,Z,_,rfl,rfl,ao,X.ks,ab,by rw[X.len,JG];grind,?_⟩;have tq:Tups L (L2.upd L o (DN P w o (wD Z (yw N p.1 lane) T2 (.ref h)))):=λb ws z=>by rw[zG (yQ z ao λy=>by cases y)];exact z
     refine f7 _ _ ⟨⟨_,_,_,_,_,rfl⟩,λb u z ne=>?_,?_,_,aT,zD,?_,?_,c6.tups tq,b6⟩
     ·rw[zG (zF z ho)];exact d4 b u z ne
     ·rw[zG es];exact dB
     ·rw[e1,g2];exact(X.put ab p2).tups tq
     ·rw[zG ol.symm];exact dx
   refine⟨_,rfl,_,rfl,rfl,_,rfl,?_⟩;show if (!decide (V.int ((passE N ts lane:Nat):Int)=V.int (rest:Nat)))=true then _ else _;have a3:NKey cn (yw N p.1 lane) T2:=by rw[cf];exact dG
   by_cases z:passE N ts lane=rest
   ·rw[JD (by rw[z])]
    have e2:(C (j+1)).fl=a1.fl:=by
     rw[ct];exact Jd (by rw[cf,uD];exact λy=>y z)
    exact yg (tail cn cc dE dC dn c8 a6 (e2 ▸ b3) a3 b4)
   ·rw[Jt (λy=>z (by injection y with y;lia))]
    have e2:(C (j+1)).fl=a1.fl++[zj c lane]:=by
     rw[ct];exact Jf (by rw[cf,uD];exact z)
    refine xC ?_;refine⟨_,rfl,.inl ⟨rfl,_,SqL.of a6⟩,_,rfl,l,_,_,rfl,rfl,a6,by rw[Jg,Ya b3,JG];lia,?_⟩;have lq:∀ {b:Addr}{u:HO},cn b=some u->b≠l->L2.upd cn l (.lst (cc.map V.ref++[.ref q])) b=some u:=λh ne=>by rw[zG ne];exact h
    have tq:Tups cn (L2.upd cn l (.lst (cc.map V.ref++[.ref q]))):=λb ws h=>lq h (yQ h a6 λy=>by cases y);refine tail _ (cc++[q]) (λb u h ne=>lq (dE b u h ne) (zF h fV)) (lq dC et) (lq dn ol) (c8.tups tq) ?_ ?_ (a3.tups tq) (tq _ _ b4)
    ·rw[Y2];exact zD
    ·rw[e2];exact ZT (b3.tups tq) (tq _ _ b4)
  ·rintro σ H7 ⟨⟨v10,v11,T,S,R,rfl⟩,ck,c3,Z,cc,bo,a9,bS,a4,M⟩
   have eN:C (zQ moves).length=D (i+1):=by rw[e6];exact fin
   rw[eN]at a9 a4 M;refine⟨⟨_,_,_,_,_,_,_,rfl⟩,ck,c3,Z,cc,bo,a9,bS,a4,?_⟩;rw[e6]at M;rw[Nat.add_mul,Nat.one_mul];exact M
 ·rintro σ H6 ⟨⟨v8,v9,v10,v11,T,S,R,rfl⟩,bt,c2,v,fs,d0,cv,d1,rws,c4⟩
  have e1:D xs.length=laL N ((seen++level).map (·.1)) moves level:=by show List.foldl _ _ (level.take xs.length)=_;rw[ll,YN];rfl
  rw[e1]at cv rws c4
  clear_value D
  clear e1 D;refine⟨dl,ob,xs,xs,u6 _ _ U,c2,hC _ _ ?_⟩
  have sT:Same H4 (L2.upd H6 dl (DN P w dl xs)):=λb u h=>by
   by_cases z:b=dl
   ·rw[z]at h ⊢;rw[U]at h;rw[<- h];exact zD
   ·rw[zG z];exact bt b u h z
  have tz:Tups H6 (L2.upd H6 dl (DN P w dl xs)):=λb ws h=>by rw[zG (yQ h c2 λz=>by cases z)];exact h
  have bo:L2.upd H6 dl (DN P w dl xs) o=some (DN P w o v):=by rw[zG es.symm];exact d0
  have bS:L2.upd H6 dl (DN P w dl xs) l=some (.lst (fs.map V.ref)):=by rw[zG et.symm];exact d1
  have a9:=cv.tups tz;have a4:=rws.tups tz;show wa _ _ _ _ (L2.upd H6 dl (DN P w dl xs));generalize L2.upd H6 dl (DN P w dl xs)=H7 at *;clear tz cv rws d1 d0 c2 bt u6 gc f9 s5 s6 hl H6;have dV:=zaT (N:=N) (seen:=seen++level) moves level;have en:=Ya a4;refine⟨_,rfl,by show 0<=sizeLine;decide,λe he=>?_⟩;have s8:=zB he (.lst []);have u8:=sT.trans s8;have ef:=s8 _ _ bS;have cP:=s8 _ _ bo;have b7:=a9.keep s8;have d7:=a4.tups (Tups.of s8);refine⟨l,e,_,rfl,rfl,SqL.of ef,SqL.of zD,_,rfl,?_⟩;by_cases fe:(laL N ((seen++level).map (·.1)) moves level).fl=[]
  ·have f0:fs=[]:=by rw[fe]at en;exact YV.mp en
   rw[f0];refine yg ?_;have fN:(yI (yN N) (seen++level) moves level).fl=[]:=dV.1 ▸ fe;have on:=dV.2 fe;have nw:=wU (step:=yN N) (seen:=seen++level) (moves:=moves) (Ok:=OkP N) level λp I m hm t h=>wH ok (dT p I).1 h;have fw:=oV (yN N) (seen++level) moves level;have f2:level.length*moves.length<=level.length*16:=Nat.mul_le_mul_left _ ml;rw[on]at b7;have g5:∀ p∈(yI (yN N) (seen++level) moves level).on,p.2.length=N.lanes:=λp I=>(c4.on p (on ▸ I)).2;show wa _ _ _ _ (L2.upd H7 e (.lst []));have ed:=u8 _ _ bu;have hh:=fm.tups (Tups.of u8);have o8:H4 o=none:=ho;generalize L2.upd H7 e (.lst [])=H8 at *;clear s8 ef d7 he bS bo a9 a4 sT;refine⟨_,rfl,n,rfl,⟨_,.inl ed⟩,_,rfl,o,v,rfl,cP,λdS l2 a5=>?_⟩;have b8:But o H8 (L2.upd H8 o (.frz dS (DN P w o v))):=λb u h ne=>by rw[zG ne];exact h
   have sl:=zB a5 (.lst []);have zl:v.length=(yI (yN N) (seen++level) moves level).on.length:=b7.len;have tz:∀ {Y:Hp},But o H8 Y->Tups H8 Y:=λB b ws h=>B b _ h λz=>by rw[z,cP]at h;cases h
   have e9:H8 l2=none:=by
    have ne:l2≠o:=λz=>by rw[z,zD]at a5;cases a5
    rwa [zG ne]at a5
   refine zaU (P:=P) (w:=w) (d:=o) (o:=dS) (xs:=v) (λi acc σ Y=>(∃ v0,σ=[v0])/\But o H8 Y/\Y l2=some (.lst acc)/\Y o=some (.frz dS (DN P w o v))/\Paired (PrH Y) acc (yb (v.take i))) ⟨⟨_,rfl⟩,b8.trans (But.of sl),zD,sl _ _ zD,.nil⟩ (λi acc σ Y z=>⟨z.2.2.1,z.2.2.2.1⟩) ?_ ?_
   ·rintro i acc σ Y p I ⟨⟨v0,rfl⟩,b9,h9,b2,pr⟩
    have il:i<v.length:=(Jc.mp I).1;have tk:v.take (i+1)=v.take i++[p]:=by rw[W0 il,(Jc.mp I).2]
    have al:=Ya pr;have hS:(yb (v.take i)).length<=i:=by unfold yb;rw[Jg,JC];lia
    refine⟨_,rfl,by show 2<=sizeLine;decide,λt ht=>?_⟩;have O:=zB ht (.tup [.ref p.2.1,.bl true]);have el:=O _ _ h9;refine⟨el,by rw[JG];lia,nx il ⟨⟨_,rfl⟩,λb u h ne=>?_,zD,?_,?_⟩⟩
    ·rw[zG (zF h e9)];exact O _ _ (b9 b u h ne)
    ·rw[zG (yQ (O _ _ b2) el λz=>by cases z)];exact O _ _ b2
    ·have dK:Tups _ (L2.upd (L2.upd Y t (.tup [.ref p.2.1,.bl true])) l2 (.lst (acc++[.ref t]))):=Tups.lst el
     have kz:NKey H8 p.1 p.2.1:=b7.ks p (JQ I);rw[tk];unfold yb;rw[Y2];refine ZT (y9 (λx y ⟨a,h1,h2,h3⟩=>⟨a,h1,dK _ _ (O _ _ h2),(h3.tups (Tups.of O)).tups dK⟩) pr) ⟨t,rfl,dK _ _ zD,((kz.tups (tz b9)).tups (Tups.of O)).tups dK⟩
   ·rintro acc σ Y ⟨⟨v0,rfl⟩,b9,h9,b2,pr⟩
    rw[YN]at pr;refine⟨o,dS,v,v,cP,b2,?_⟩
    have sB:Same H8 (L2.upd Y o (DN P w o v)):=λb u h=>by
     by_cases z:b=o
     ·rw[z]at h ⊢;rw[cP]at h;rw[<- h];exact zD
     ·rw[zG z];exact b9 b u h z
    have tB:Tups Y (L2.upd Y o (DN P w o v)):=λb ws h=>by rw[zG (yQ h b2 λz=>by cases z)];exact h
    have hu:L2.upd Y o (DN P w o v) l2=some (.lst acc):=by rw[zG (yQ h9 b2 λz=>by cases z)];exact h9
    have gV:Paired (PrH (L2.upd Y o (DN P w o v))) acc (yb v):=y9 (λx y ⟨a,h1,h2,h3⟩=>⟨a,h1,tB _ _ h2,h3.tups tB⟩) pr;show dU _ (L2.upd Y o (DN P w o v)) _;generalize L2.upd Y o (DN P w o v)=HB at *;clear tB b9 h9 b2 pr Y b8 sl e9 a5 tz;refine⟨l2,acc,yb v,rfl,hu,gV,λdq d2=>?_⟩;replace d2:HB dq=none:=d2;have zk:(yb v).map (·.1)=((yI (yN N) (seen++level) moves level).on).map (·.1):=by rw[nj,vN b7.pr]
    have e3:((yb v).map (·.1)).Nodup:=by rw[zk];exact nw.nd
    have m0:yz [] (yb v)=yb v:=rM e3 λk hk z=>(nomatch z)
    have m1:yz ys (yb v)=ys++yb v:=rM e3 λk1 hk z=>by
     rw[zk]at hk;obtain⟨p,I,rfl⟩:=Jv.mp hk;rw[ek]at z;have:=yp.mpr z;rw[nw.new p I]at this;cases this
    rw[m0];have sC:=zB d2 (DN P w dq (yb v));have uC:=sB.trans sC;have fK:=uC _ _ ed;have fk:=hh.tups (Tups.of uC);have fa:=io (b7.ks.tups (Tups.of uC));have tl:(yb v).length=v.length:=Jg _;have g7:n≠dq:=zF (sB _ _ ed) d2;refine⟨dq,ys,yb v,rfl,g7,fK,fk,⟨.inl zD,fa⟩,by rw[JG];lia,.inl (λz=>by rw[z]at yl;simp at yl;simp_all),?_⟩;rw[m1];have hj:=uC _ _ cP;have hb:=b7.keep uC;have d5:Tups (L2.upd HB dq (DN P w dq (yb v))) (L2.upd (L2.upd HB dq (DN P w dq (yb v))) n (DN P w n (ys++yb v))):=λb ws h=>by rw[zG (yQ h fK λz=>by cases z)];exact h
    have dR:∀ {b:Addr}{u:HO},H4 b=some u->b≠n->L2.upd (L2.upd HB dq (DN P w dq (yb v))) n (DN P w n (ys++yb v)) b=some u:=λh ne=>by rw[zG ne];exact uC _ _ (u8 _ _ h)
    refine⟨_,rfl,?_⟩;refine⟨o,v,ys++yb v,_,seen++level,as++[q],bl++[js],ls++[level],_,_,_,_,_,_,_,_,_,rfl,λb u h=>dR (s4 b u h) (zF h dH),?_,hb.tups d5,zD,?_,?_,gd.symm,?_,?_,g0,eu,?_,nw.nd,nw.new,λp I=>⟨nw.ok p I,g5 p I⟩,by rw[Jb];simp_all,?_,by lia,by rw[Jb];lia,by rw[ec,x5 le mo fN]⟩
    ·show L2.upd _ n (DN P w n (ys++yb v)) o=_
     rw[zG gd.symm];exact hj
    ·exact λx hx=>by
      rcases Jy.mp hx with z|z
      ·exact(fk x z).tups d5
      ·exact(fa x z).tups d5
    ·rw[Y2,ek,zk];exact Y2.symm
    ·exact dR fS (yQ fS bu λz=>by cases z)
    ·exact gP.keep (λb ws h=>dR h (yQ h bu λz=>by cases z)) λa _ ws h=>dR h (yQ h bu λz=>by cases z)
    ·rw[Jb,Jb];show as.length+1<=_;lia
    ·rw[Jb];lia
  ·have fp:0<(fs.map V.ref).length:=by
    rw[Jg,en];exact YY.mpr fe
   rw[show (!(fs.map V.ref).isEmpty)=true by
    cases fs with
    | nil=>exact absurd fp (by simp)
    | cons a b=>rfl]
   refine xC ?_;obtain⟨g,g1,g2⟩:=nW d7 fe;refine⟨_,rfl,_,rfl,_,rfl,l,_,1,vq _,rfl,SqL.of ef,fp,by decide,qM d7 c4.fl,?_⟩;rw[g1];refine⟨by show 3<=sizeLine;decide,λp I=>?_⟩;have s9:=zB I (.tup [.ref J,.ref n,.ref g]);refine k p _ ((s4.trans u8).trans s9) ?_;rw[ec,x6 le mo (dV.1 ▸ fe),<- dV.1];exact⟨J,n,ys,g,zD,s9 _ _ (u8 _ _ bu),by simp_all,s9 _ _ g2⟩
abbrev bp:Stmt:=top 31
def i4:Sp:=λc H Q _=>∃ r fr e d N b,∃ (moves:List Nat) (most:Nat),c=[.ref r,.ref b,.int (most:Nat)]/\Nt.Ok N/\NetAt H r fr e d N/\H b=some (.tup (zQ moves))/\(∀ m∈moves,m<N.lanes)/\moves.length<=16/\0<most/\most<=10000 /\
 ∀ p a,Same H a->TellV a p (yB N moves most)->Q (.ref p) a
theorem gS:∀ {b:List (List KN)}{ls:List LvL},Paired LvRow b ls->(b.map List.length).sum=(ls.map List.length).sum:=by
 intro b ls h
 induction h with
 | nil=>rfl
 | cons a _ ih=>rw[JT,JT,List.sum_cons,List.sum_cons,ih,a.1.length_eq,Jg]
theorem pH:∀ (ls:List (List KN)) (i:Nat),((ls.take i).map List.length).sum<=(ls.map List.length).sum
 | [],i=>by rw[Wd];exact Je _
 | x::xs,0=>JJ _
 | x::xs,i+1=>by
  rw[Zk,JT,JT,List.sum_cons,List.sum_cons];exact Nat.add_le_add_left (pH xs i) _
theorem jN:FnScope ["_law_net","_law_some_here","_law_most","_law_rows","_law_met","_law_bad","_law_book","_law_row"] ["_law_net","_law_some_here","_law_most"] (zN bp):=by rfl'
theorem ad {f fL:Addr}{fd dL:FuncData}(F:Fun K "_law_verdict" "_law_verdict" bp f fd) (G:Mgs mg) (U:Use P w K mg base "_law_levels" ["_law_net","_law_some_here","_law_most"] 2 (i9 P w) fL dL):FnOk P w K mg base CX0 3 f fd ["_law_net","_law_some_here","_law_most"] i4:=by
 refine F.ok jN (λvs H Q E h=>?_) (λa0 A outer s H vs Q E hr h=>?_)
 ·obtain⟨r,fr,er,ps,N,X,moves,most,rfl,_⟩:=h
  rfl
 obtain⟨r,fr,er,ps,N,X,moves,most,rfl,ok,na,ab,mlt,ml,mp,mb,k⟩:=h;refine⟨_,(@zE _ _ _ _ _ (@yP _ _ _ _ _ _ (@zR _ _ _ _ _ _ _ _ _ _ _ _ _ _ _ _ U.ok hr (by rfl) U.m U.kp U.b .nil zu (@zA _ _ _ _ _ (@qv _ 0 _ _ (by rfl')) (@zA _ _ _ _ _ (@qv _ 1 _ _ (by rfl')) (@zA _ _ _ _ _ (@qv _ 2 _ _ (by rfl')) zC (by rfl)) (by rfl)) (by rfl)) (by decide) (by rfl) (by rfl)) (@yJ _ _ _ _ _ _ rfl (@zK _ _ _ _ _ (@zM _ _ 3 _ jN.nd rfl (.inl rfl) (by rfl')) (@zK _ _ _ _ _ (@zM _ _ 4 _ jN.nd rfl (.inl rfl) (by rfl')) (@zK _ _ _ _ _ (@zM _ _ 5 _ jN.nd rfl (.inl rfl) (by rfl')) yC (by rfl)) (by rfl)) (by rfl)) (by rfl) (by rfl)) (by rfl) (by rfl) (by rfl)) (@zE _ _ _ _ _ (@yO _ _ _ _ _ _ _ _ (@zY _ _ _ _ _ _ _ _ lZ (@zU _ _ _ _ _ _ _ _ _ vw (by rfl) G.len Yd (@zA _ _ _ _ _ (@qv _ 4 _ _ (by rfl')) zC (by rfl)) (by decide) (by decide) (by rfl) (by rfl)) (@qv _ 2 _ _ (by rfl')) (zw _)) (@zJ _ _ _ (@zV _ _ _ _ (@zT _ _ _ _ _ (@zA _ _ _ _ _ xH (@zA _ _ _ _ _ vd zC (by rfl)) (by rfl))))) zr) (@zE _ _ _ _ _ (@yO _ _ _ _ _ _ _ _ (@zY _ _ _ _ _ _ _ _ dw (@qv _ 5 _ _ (by rfl')) vd (by rfl)) (@zJ _ _ _ (@zV _ _ _ _ (@zT _ _ _ _ _ (@zA _ _ _ _ _ xH (@zA _ _ _ _ _ (@qv _ 5 _ _ (by rfl')) zC (by rfl)) (by rfl))))) zr) (@zE _ _ _ _ _ (@zp _ _ 6 _ _ _ _ jN.nd rfl (.inl rfl) (@yR _ _ _ _ zC) (by rfl) (by rfl')) (@zE _ _ _ _ _ (@xG _ _ _ _ _ _ _ _ Yp rfl (@qS _ _ _ _ (@qv _ 3 _ _ (by rfl'))) (@zM _ _ 7 _ jN.nd rfl (.inl rfl) (by rfl')) (@zJ _ _ _ (@y4 _ _ _ _ (@uH _ _ _ _ _ _ _ _ _ _ _ _ YK PySem.F.slot_list_extend PySem.F.type_list_extend vh (@qv _ 6 _ _ (by rfl')) (@zA _ _ _ _ _ (@qv _ 7 _ _ (by rfl')) zC (by rfl)) (by rfl) (by rfl) (by rfl) (by rfl) (by rfl)) (by rfl))) (by intro _;rfl)) (@zJ _ _ _ (@zV _ _ _ _ (@zT _ _ _ _ _ (@zA _ _ _ _ _ xH (@zA _ _ _ _ _ (@zv _ _ _ _ _ _ _ _ _ zz (by rfl) G.tuple (by rfl) (@zA _ _ _ _ _ (@qv _ 6 _ _ (by rfl')) zC (by rfl)) (by decide) (by decide) (by rfl) (by rfl)) zC (by rfl)) (by rfl)))))))))),?_⟩;refine⟨_,rfl,_,rfl,_,rfl,r,fr,er,ps,N,X,moves,most,rfl,ok,na,ab,mlt,ml,mp,mb,λp H1 Z tell=>?_⟩;have wh:∀ ls,yB N moves most=.whl ls->Whole (OkP N) most ls:=λls e=>xh (Ok:=OkP N) (λs m t h _ e=>wH ok h e) (most+1) _ [] [] ls ⟨λlv hl=>(nomatch hl),JJ _⟩ rfl (JJ _) (λp l=>by rw[Ja.mp l];exact xu ok) e
 cases ev:yB N moves most with
 | opn =>
  rw[ev]at tell k;obtain⟨D,o,y,v,l,L,lt⟩:=tell;refine⟨p,_,rfl,SqT.of l,rfl,_,_,rfl,_,_,rfl,_,_,rfl,rfl,?_⟩;refine⟨_,rfl,o,y,rfl,.inl L,_,rfl,_,_,rfl,rfl,_,rfl,?_⟩;rw[JD (p:=_) (by simp_all)];refine xC ⟨by show 2<=sizeLine;decide,λq J=>?_⟩
  exact k q _ (Z.trans (zB J _)) zD
 | brk c =>
  rw[ev]at tell k;obtain⟨D,o,y,b,l,L,le,n⟩:=tell;refine⟨p,_,rfl,SqT.of l,rfl,_,_,rfl,_,_,rfl,_,_,rfl,rfl,?_⟩;refine⟨_,rfl,o,y,rfl,.inl L,_,rfl,_,_,rfl,rfl,_,rfl,?_⟩;rw[Jt (p:=_) (by simp_all)];refine yg ⟨_,rfl,rfl,_,rfl,xC ⟨_,rfl,by show 2<=sizeLine;decide,λq J=>?_⟩⟩;have C:=zB J (.tup [.str "breaks",.ref b])
  exact k q _ (Z.trans C) ⟨b,zD,C _ _ n⟩
 | whl ls =>
  have aT:=(wh ls ev).few;rw[ev]at tell k;obtain⟨D,o,y,as,g,l,L,le,M,rk,pl⟩:=tell;have kl:=gS pl;refine⟨p,_,rfl,SqT.of l,rfl,_,_,rfl,_,_,rfl,_,_,rfl,rfl,?_⟩;refine⟨_,rfl,o,y,rfl,.inl L,_,rfl,_,_,rfl,rfl,_,rfl,?_⟩;rw[Jt (p:=_) (by simp_all)];refine yg ⟨_,rfl,rfl,_,rfl,yg ?_⟩;refine⟨by show 0<=sizeLine;decide,λI O=>?_⟩;have C:=zB O (.lst []);have al:as.length=g.length:=Ya rk;refine⟨_,rfl,D,rfl,⟨_,SqL.of (C _ _ M)⟩,?_⟩;refine eB (K:=K) (a:=D) (xs:=as.map V.ref) (λi σ j=>(∃ W,σ=[some (.ref r),some (.ref X),some (.int (most:Nat)),some (.ref D),some (.ref o),some .non,some (.ref I),W])/\Same H1 j/\∃ bs,j I=some (.lst (bs.map V.ref))/\KeysAt j bs (g.take i).flatten/\bs.length=((g.take i).map List.length).sum) ⟨⟨_,rfl⟩,C,[],zD,.nil,rfl⟩ (λi σ j _ z=>SqL.of (z.2.1 _ _ M)) ?_ ?_
  ·rintro i x σ j hx ⟨⟨W,rfl⟩,B,bs,n,T,bl⟩
   rw[Y6]at hx;obtain⟨a,ea,rfl⟩:=Y9.mp hx;obtain⟨ks,R,cs,ha,kc⟩:=rG rk ea;have il:i<g.length:=(Jc.mp R).1;have tk:g.take (i+1)=g.take i++[ks]:=by rw[<- Yq il,(Jc.mp R).2]
   have cl:cs.length=ks.length:=Ya kc;have S:((g.take (i+1)).map List.length).sum=bs.length+cs.length:=by rw[tk,Y2,List.sum_append,<- bl,cl];rfl
   have sum2:=pH g (i+1);have ao:=B _ _ ha;refine⟨_,rfl,.inl ⟨rfl,_,SqL.of n⟩,_,rfl,I,a,_,_,rfl,rfl,n,ao,by rw[Jg,Jg,JG];lia,?_⟩;have t3:Tups j (L2.upd j I (.lst (bs.map V.ref++cs.map V.ref))):=Tups.lst n;refine⟨⟨_,rfl⟩,λb u e=>?_,bs++cs,?_,?_,?_⟩
   ·rw[zG (zF e O)];exact B b u e
   ·rw[Y2];exact zD
   ·rw[tk,List.flatten_append]
    refine wt (T.tups t3) ?_;show Paired _ cs (ks++[]);rw[Y3];exact(kc.tups (Tups.of B)).tups t3
   ·rw[S,Jb]
  ·rintro σ j ⟨⟨W,rfl⟩,B,bs,n,T,bl⟩
   rw[Jg,al,YN]at T;refine⟨_,rfl,I,_,rfl,.inl ⟨SqL.of n,λq J=>⟨by show 2<=sizeLine;decide,λd hd=>?_⟩⟩⟩;have s4:=zB J (.tup (bs.map V.ref));have Y:=zB (show L2.upd j q (.tup (bs.map V.ref)) d=none from hd) (.tup [.str "stair",.ref q]);exact k d _ ((Z.trans B).trans (s4.trans Y)) ⟨q,bs,_,zD,Y _ _ zD,T.tups (Tups.of (s4.trans Y)),g,rfl,pl⟩
end
end K37
namespace Bn
open PySem PySem.Spec PyProof.Rows PySem.NumText
def txt (n:Int):Str:=Str.ofString (toString n)
def nH (m:Nat):List Nat:=(Nat.toDigits 10 m).map Char.toNat
theorem cy (m:Nat):1<=(nH m).length:=by
 unfold nH;rw[Jg];exact toDigits_len_ge 10 m
theorem cw {m k:Nat}(a:1<=k)(h:m<10 ^ k):(nH m).length<=k:=by
 unfold nH;rw[Jg];exact toDigits_len_pow (by decide) a h
theorem eX (m:Nat):(txt (m:Nat)).cps.toList=nH m:=PySem.W.KIN.signs_num m
theorem eY (m:Nat)(h:1<=m):(txt (-(m:Nat))).cps.toList=45::nH m:=by
 obtain⟨k,rfl⟩:∃ k,m=k+1:=⟨m-1,by simp_all⟩;have a:toString (-((k+1:Nat):Int)) = "-"++toString (((k+1:Nat):Int)):=rfl;unfold txt;rw[a];generalize k+1=m
 have:(Str.ofString ("-"++toString ((m:Nat):Int))).cps.toList=(Str.ofString "-").cps.toList++(Str.ofString (toString ((m:Nat):Int))).cps.toList:=by
  rw[signs_ofString,signs_ofString,signs_ofString,String.toList_append,Y2]
 rw[this,PySem.W.KIN.signs_num];rfl
open Builtin Builtin.Str
theorem ku (n:Int):(0<=n/\(txt n).cps.toList=nH n.natAbs)\/(n<0/\(txt n).cps.toList=45::nH n.natAbs):=by
 by_cases h:0<=n
 ·obtain⟨m,rfl⟩:=ZU h
  exact .inl ⟨h,eX m⟩
 ·obtain⟨m,rfl⟩:∃ m:Nat,n = -(m:Nat):=⟨n.natAbs,by grind⟩
  refine .inr ⟨by lia,?_⟩;rw[eY m (by lia),show (-(m:Nat):Int).natAbs=m by simp_all]
theorem dZ (z:Str):z.cps.toList.length=z.length:=by simp[Str.length]
theorem lH {n:Int}(h:n.natAbs<10 ^ 30):1<=(txt n).length/\(txt n).length<=31:=by
 have g:=cy n.natAbs;have l:=cw (k:=30) (by decide) h;rw[<- dZ];rcases ku n with ⟨_,e⟩|⟨_,e⟩
 ·rw[e];lia
 ·rw[e,JM];simp_all
end Bn
namespace L2
open PySem PySem.Spec PyProof.Rows Own Bn
structure ShB (m:Nat) (d:PyData):Prop where
 sh:d.showable=true
 nd:d.hasDict=false
 le:d.shown.length<=m
theorem ShB.up {m n:Nat}{d:PyData}(h:ShB m d)(l:m<=n):ShB n d:=⟨h.sh,h.nd,JR h.le l⟩
theorem lN {m:Nat}:∀ {ds:List PyData},(∀ e∈ds,ShB m e)->PyData.showableAll ds=true/\PyData.hasDictAll ds=false/\∀ t∈PyData.shownAll ds,t.length<=m
 | [],_=>⟨rfl,rfl,λt b=>by cases b⟩
 | d::ds,h=>by
  have a:=h d JF;obtain⟨i,g,f⟩:=lN (ds:=ds) λe c=>h e (JE _ c);refine⟨?_,?_,λt b=>?_⟩
  ·show (d.showable && PyData.showableAll ds)=true
   rw[a.sh,i];rfl
  ·show (d.hasDict || PyData.hasDictAll ds)=false
   rw[a.nd,g];rfl
  ·change t∈d.shown::PyData.shownAll ds at b
   rcases (Js.1 b) with rfl|b
   ·exact a.le
   ·exact f t b
theorem vG:∀ ds:List PyData,(PyData.shownAll ds).length=ds.length
 | []=>rfl
 | d::ds=>by show (d.shown::PyData.shownAll ds).length=_;rw[JM,vG ds];rfl
end L2
namespace Bn
open PySem L2 Own
def gD:V->Bool
 | .int i=>decide (i.natAbs<=1000)
 | .str z=>decide ((PyData.str z).shown.length<=40) && (PyData.str z).canLay0
 | .bl _=>true
 | .non=>true
 | _=>false
def toD:V->PyData
 | .int i=>.int i
 | .str z=>.str z
 | .bl b=>.bool b
 | _=>.none
theorem ud {K:PySem.W.Frag}{H:Hp}{x:V}(a:AnyT K H x)(r:rowOf H x=none):∀ n,Deep K H n x
 | 0=>a
 | n+1=>⟨a,λxs e=>by rw[r]at e;cases e⟩
theorem uw {v:V}(h:gD v=true):FlD v (toD v)/\ShB 40 (toD v)/\∀ (K:PySem.W.Frag) (H:Hp) (n:Nat),Deep K H n v:=by
 cases v with
 | int i =>
  have hi:i.natAbs<=1000:=Ze h
  have c:i.natAbs.log2<1920:=by
   by_cases z:i.natAbs=0
   ·rw[z];decide
   ·exact(Nat.log2_lt z).mpr (WA hi (by decide))
  refine⟨.inl ⟨i,rfl,rfl⟩,⟨JD c,rfl,?_⟩,λK H n=>ud ⟨_,.int i,_,rfl⟩ rfl n⟩;have:=(lH (n:=i) (WA hi (by decide))).2;show (txt i).length<=40
  lia
 | str z =>
  have a:decide ((PyData.str z).shown.length<=40)=true/\(PyData.str z).canLay0=true:=by rw[<- Zn];exact h
  exact⟨.inr (.inl ⟨z,rfl,rfl,a.2⟩),⟨rfl,rfl,Ze a.1⟩,λK H n=>ud ⟨_,.str z,_,rfl⟩ rfl n⟩
 | bl b=>exact⟨.inr (.inr (.inl ⟨b,rfl,rfl⟩)),⟨rfl,rfl,by cases b<;>decide⟩,λK H n=>ud ⟨_,.bl b,_,rfl⟩ rfl n⟩
 | non=>exact⟨.inr (.inr (.inr ⟨rfl,rfl⟩)),⟨rfl,rfl,by decide⟩,λK H n=>ud ⟨_,.non,_,rfl⟩ rfl n⟩
 | _=>cases h
end Bn
namespace L2
open PySem PySem.Spec PyProof.Rows Own Bn
section
variable {X:Cx}
theorem sJ (h:X.A.guards=some [])(l:X.A.units+64<cLine):CallR X (.builtin "repr") (λxs H Q=>∃ a d,xs=[.ref a]/\DD H 4 (.ref a) d/\ShB 1000000 d/\Q (.str d.shown) H):=by
 rintro pins s σ H xs i Q I r ⟨a,d,rfl,f,b,q⟩;obtain⟨u,rfl,c⟩:=uA r;have big:d.shown.length<=sizeLine:=by have:=b.le;rw[JG];lia
 obtain⟨as,g⟩:=DD.reads I 4 _ d _ f c;have n:=f.ok.2;obtain rfl:u=Value.ref a:=c;exact repr_of_reads' g b.sh (λz=>by rw[b.nd]at z;cases z) h (by lia) (λ_ _ e=>e) (λm u j k=>⟨.str d.shown,H,I.kept k,⟨_,rfl⟩,q⟩) big
end
theorem ShB.long {m k:Nat}{ds:List PyData}(h:∀ e∈ds,ShB m e)(l:ds.length<=k):ShB (k*(m+2)+3) (.tuple ds):=by
 obtain⟨a,b,c⟩:=lN h;refine⟨a,b,?_⟩;have t:=uB (PyData.shownAll ds);have p:=tG c;rw[vG]at p;have q:=Nat.mul_le_mul_right (m+2) l;exact JR t (by lia)
structure MgR (mg:Str->Option Value):Prop where
 repr:mg "repr" = none
end L2
namespace Bn
open PySem L2 Own
inductive Pln where
 | net (N:Nt)|way (w k:Nat)|dbl (p:Pln)|ren (p:Pln) (ns:List Nat)|bes (p q:Pln)|beh (p q:Pln)
def pwr (n:Nat):Nat:=if n=2 then 1 else if n=4 then 2 else if n=8 then 3 else if n=16 then 4 else 0
def za5 (w k:Nat):Nat:=if w=0 then 2 ^ k*k*(k+1) / 4 else if w=1 then 2 ^ k*k*k / 2 else 2 ^ k*k / 2
namespace Pln
def lanes:Pln->Nat
 | .net N=>N.lanes
 | .way _ k=>2 ^ k
 | .dbl p=>2*p.lanes
 | .ren p _=>p.lanes
 | .bes p q=>p.lanes+q.lanes
 | .beh p _=>p.lanes
def many:Pln->Nat
 | .net N=>N.forks.length
 | .way w k=>za5 w k
 | .dbl p=>2*p.many+p.lanes*pwr (2*p.lanes)
 | .ren p _=>p.many
 | .bes p q=>p.many+q.many
 | .beh p q=>p.many+q.many
def hi:Pln->Nat
 | .net _=>1
 | .way _ _=>1
 | .dbl p=>p.hi+1
 | .ren p _=>p.hi+1
 | .bes p q=>max p.hi q.hi+1
 | .beh p q=>max p.hi q.hi+1
end Pln
inductive Kn where
 | no|stair|merges|halves
 deriving DecidableEq
def Kn.v:Kn->V
 | .no=>.non
 | .stair=>.str "stair"
 | .merges=>.str "merges"
 | .halves=>.str "halves"
def Pln.known:Pln->Kn
 | .net N=>if N.lanes=1 then .stair else .no
 | .way w k=>if w<2 then .stair else if k=1 then .stair else .merges
 | .dbl p=>if p.known=.stair then .stair else .no
 | .ren p _=>if p.known=.merges then .no else p.known
 | .bes p q=>if p.known=.stair/\q.known=.stair/\p.lanes=q.lanes then .halves else .no
 | .beh p q=>if q.known=.stair\/p.known=.halves/\q.known=.merges then .stair else .no
end Bn
namespace Bn
open PySem L2 Own
def Pln.raw:Pln->Nt
 | .net N=>N
 | .way w k=>if w=0 then xS k else if w=1 then xb k else au (k-1)
 | .dbl p=>cu (pwr (2*p.lanes)-1) p.raw
 | .ren p ns=>gT p.raw ns
 | .bes p q=>bF p.raw q.raw
 | .beh p q=>bG p.raw q.raw
end Bn
namespace L2
open PySem PySem.Spec PyProof.Rows Own Bn
theorem ShB.two {m n:Nat}{a b:PyData}(ha:ShB m a)(hb:ShB n b):ShB (m+n+7) (.tuple [a,b]):=by
 refine⟨?_,?_,?_⟩
 ·show (a.showable && (b.showable && true))=true
  rw[ha.sh,hb.sh];rfl
 ·show (a.hasDict || (b.hasDict || false))=false
  rw[ha.nd,hb.nd];rfl
 ·have t:=uB [a.shown,b.shown]
  have p:piled [a.shown,b.shown]=a.shown.length+2+(b.shown.length+2+0):=rfl;have:=ha.le;have:=hb.le;exact JR t (by rw[p];lia)
theorem qH {i:Int}(h:i.natAbs<=100000):ShB 40 (.int i):=by
 have a:i.natAbs.log2<1920:=by
  by_cases z:i.natAbs=0
  ·rw[z];decide
  ·exact(Nat.log2_lt z).mpr (WA h (JL (show 100000<2 ^ 20 by decide) (YT (by decide) (by decide))))
 refine⟨JD a,rfl,?_⟩;have:=(lH (n:=i) (WA h (by decide))).2;show (txt i).length<=40;lia
theorem de {i:Int}(h:i=0\/i=1):ShB 1 (.int i):=by
 refine⟨(qH (by omega)).sh,rfl,?_⟩;rcases h with rfl|rfl<;>decide
def cV:KN->PyData
 | [.inr ts,.inl r]=>.tuple [.tuple (ts.map PyData.int),.int r]
 | _=>.none
theorem wz {H:Hp}{n:Nat}{b:Addr}{x y:V}{d e:PyData}(h:H b=some (.tup [x,y]))(c:DD H n x d)(a:DD H n y e):DD H (n+1) (.ref b) (.tuple [d,e]):=by
 refine DD.tup h rfl λj u f p q=>?_
 match j,p,q with
 | 0,p,q=>obtain rfl:=Jm p;obtain rfl:=Jm q;exact c
 | 1,p,q=>obtain rfl:=Jm p;obtain rfl:=Jm q;exact a
 | j+2,p,q=>cases p
section
variable {N:Nt}{H:Hp}
theorem zal {k:KN}{b:Addr}(h:NKey H k b)(ok:OkP N k):DD H 2 (.ref b) (cV k):=by
 obtain⟨d,r,rfl,_⟩:=ok;obtain⟨t,c,a⟩:=uh h;exact wz c (qh a) (DD.i _)
theorem dc {k:KN}(c:Nt.Ok N)(ok:OkP N k)(f:N.forks.length<=60):ShB 230 (cV k):=by
 obtain⟨b,r,rfl,j,bits,l⟩:=ok;have h:=c.l16
 have a:ShB (60*(1+2)+3) (.tuple (b.map PyData.int)):=ShB.long (λe g=>by
  obtain⟨t,d,rfl⟩:=Jv.mp g
  exact de (bits t d)) (by rw[Jg];simp_all)
 exact(a.two (qH (i:=(r:Nat)) (by lia))).up (by decide)
theorem kT {b:Addr}{bs:List Addr}{ks:List KN}(h:H b=some (.tup (bs.map V.ref)))(a:KeysAt H bs ks)(ok:∀ k∈ks,OkP N k):DD H 3 (.ref b) (.tuple (ks.map cV)):=by
 have l:bs.length=ks.length:=Ya a;refine DD.tup h (by rw[Jg,Jg,l]) ?_;clear h l b;unfold KeysAt at a
 induction a with
 | nil=>intro j u e p;cases p
 | @cons b k bs ks q _ ih =>
  intro j u e p r
  cases j with
  | zero=>cases Jm p;cases Jm r;exact zal q (ok k (.head _))
  | succ j=>exact ih (λk c=>ok k (.tail _ c)) j u e p r
end
theorem uF:∀ {xs ys:List KN}{F c:Nat},xs.Perm ys->(∀ k∈xs,StOk F c k)->(xs.Pairwise λx y=>yt x<=yt y)->(ys.Pairwise λx y=>yt x<=yt y)->xs=ys
 | [],ys,_,_,p,_,_,_=>(List.nil_perm.mp p).symm
 | x::xs,[],_,_,p,_,_,_=>absurd p.length_eq (by simp)
 | x::xs,y::ys,F,c,p,ok,b,a=>by
  rw[Wt]at b a;have f:∀ k∈y::ys,StOk F c k:=λk d=>ok k (p.mem_iff.mpr d)
  have e:x=y:=by
   refine eI (ok x (.head _)) (f y (.head _)) (Int.le_antisymm ?_ ?_)
   ·rcases Js.mp (p.mem_iff.mpr (.head _):y∈x::xs) with z|z
    ·rw[z];exact ZA _
    ·exact b.1 y z
   ·rcases Js.mp (p.mem_iff.mp (.head _):x∈y::ys) with z|z
    ·rw[z];exact ZA _
    ·exact a.1 x z
  subst e;rw[uF (List.perm_cons x |>.mp p) (λk d=>ok k (.tail _ d)) b.2 a.2]
theorem iT {F c:Nat}{ks d:List KN}{ls:List LvL}(h:BookOf ks ls)(g:BookOf d ls)(ok:∀ lv∈ls,∀ p∈lv,StOk F c p.1):ks=d:=by
 obtain⟨m,rfl,a⟩:=h;obtain⟨e,rfl,b⟩:=g
 congr 1
 induction a generalizing e with
 | nil=>cases b;rfl
 | @cons n lv _ _ q _ ih =>
  cases b with
  | cons f t =>
   rw[ih (λlv j=>ok lv (.tail _ j)) _ t]
   rw[uF (q.1.trans f.1.symm) (λk l=>by
    obtain⟨p,i,rfl⟩:=Jv.mp (q.1.mem_iff.mp l)
    exact ok lv (.head _) p i) q.2 f.2]
theorem bE {Ok:KN->Prop}{ks:List KN}{ls:List LvL}(h:BookOf ks ls)(ok:∀ lv∈ls,∀ p∈lv,Ok p.1):(∀ k∈ks,Ok k)/\ks.length=(ls.map List.length).sum:=by
 obtain⟨c,rfl,a⟩:=h
 induction a with
 | nil=>exact⟨λk b=>(nomatch b),rfl⟩
 | @cons i lv c ls q _ ih =>
  obtain⟨e,d⟩:=ih λlv g=>ok lv (.tail _ g);refine⟨λk b=>?_,?_⟩
  ·rw[Za]at b
   rcases Jy.mp b with z|z
   ·obtain⟨p,f,rfl⟩:=Jv.mp (q.1.mem_iff.mp z)
    exact ok lv (.head _) p f
   ·exact e k z
  ·rw[Za,Jb,d,q.1.length_eq,Jg];rfl
theorem iq {N:Nt}{H:Hp}{p q:Addr}{R:LRes}(y:Nt.Ok N)(f:N.forks.length<=60)(g:TellV H p R)(j:TellV H q R)(B:∀ ls,R=.whl ls->Whole (OkP N) 4000 ls)(bk:∀ c,R=.brk c->c.length<=16/\∀ x∈c,x.natAbs<=100000):∃ d,DD H 4 (.ref p) d/\DD H 4 (.ref q) d/\ShB 1000000 d:=by
 have st:∀ {n:Nat}{z:Str},gD (.str z)=true->DD H n (.str z) (.str z)/\ShB 40 (.str z):=λh=>⟨DD.fl (uw h).1,(uw h).2.1⟩
 cases R with
 | opn =>
  have s:=st (n:=3) (z:="open") (by decide +kernel);have n:=uw (v:=.non) rfl
  exact⟨_,wz g s.1 (DD.fl n.1),wz j s.1 (DD.fl n.1),(s.2.two n.2.1).up (by decide)⟩
 | brk c =>
  obtain⟨b,o,m⟩:=g;obtain⟨O,u,r⟩:=j;obtain⟨M,L⟩:=bk c rfl;have s:=st (n:=3) (z:="breaks") (by decide +kernel)
  have a:ShB (16*(40+2)+3) (.tuple (c.map PyData.int)):=ShB.long (λe l=>by
   obtain⟨t,E,rfl⟩:=Jv.mp l
   exact qH (L t E)) (by rw[Jg];exact M)
  exact⟨_,wz o s.1 (qh m),wz u s.1 (qh r),(s.2.two a).up (by decide)⟩
 | whl ls =>
  obtain⟨b,bs,C,o,m,I,A⟩:=g;obtain⟨O,Q,P,u,r,K,J⟩:=j;have w:=B ls rfl;obtain rfl:=iT A J λlv F p g=>(w.ok lv F p g).st y;obtain⟨i,D⟩:=bE A w.ok;have s:=st (n:=3) (z:="stair") (by decide +kernel)
  have a:ShB (4000*(230+2)+3) (.tuple (C.map cV)):=ShB.long (λe l=>by
   obtain⟨k,G,rfl⟩:=Jv.mp l
   exact dc y (i k G) f) (by rw[Jg,D];exact w.few)
  exact⟨_,wz o s.1 (kT m I i),wz u s.1 (kT r K i),(s.2.two a).up (by decide)⟩
end L2
namespace K37
open PySem L2 Own Bn
abbrev br:Stmt:=top 32
def i5:Sp:=λa H Q _=>∃ p q d,a=[.ref p,.ref q]/\DD H 4 (.ref p) d/\DD H 4 (.ref q) d/\ShB 1000000 d/\Q (.bl true) H
section
variable {P:Program}{w:World}{K:PySem.W.Frag}{mg:Str->Option Value}{base:Heap}
theorem zbg:FnScope ["_law_found","_law_due"] ["_law_found","_law_due"] (zN br):=by rfl'
theorem ae {f:Addr}{fd:FuncData}(F:Fun K "_law_same" "_law_same" br f fd) (g:MgR mg):FnOk P w K mg base CX0 1 f fd ["_law_found","_law_due"] i5:=by
 refine F.ok zbg (λi H Q E h=>?_) (λj A outer s H i Q E a h=>?_)
 ·obtain⟨p,q,d,rfl,_⟩:=h
  rfl
 obtain⟨p,q,d,rfl,b,e,c,k⟩:=h;refine⟨_,(@zJ _ _ _ (@zV _ _ _ _ (@aR _ _ _ _ _ _ _ (@vL _ _ _ _ _ _ _ _ (aY a.units) (@qv _ 0 _ _ (by rfl')) (@qv _ 1 _ _ (by rfl')) (zw _)) (@aO _ _ _ _ _ (@vL _ _ _ _ _ _ _ _ xA (@zU _ _ _ _ _ _ _ _ _ (sJ a.gd a.units) (by rfl) g.repr (by rfl) (@zA _ _ _ _ _ (@qv _ 0 _ _ (by rfl')) zC (by rfl)) (by decide) (by decide) (by rfl) (by rfl)) (@zU _ _ _ _ _ _ _ _ _ (sJ a.gd a.units) (by rfl) g.repr (by rfl) (@zA _ _ _ _ _ (@qv _ 1 _ _ (by rfl')) zC (by rfl)) (by decide) (by decide) (by rfl) (by rfl)) (zw _)))))),?_⟩;refine⟨_,rfl,_,rfl,4,d,d,by decide,b,e,_,rfl,?_⟩;show if PyData.eqv d d=true then _ else _;rw[PySem.SeqAt.eqv_refl _ b.ok.1];refine xC ⟨_,rfl,p,d,rfl,b,c,_,rfl,q,d,rfl,e,c,rfl,?_⟩;rw[show decide (V.str d.shown=V.str d.shown)=true from JD rfl];exact k
end
end K37
namespace L2
open PySem PySem.Spec PyProof.Rows Own Bn
def ug (led:Bool)(p:Nat):SetTable:={ SetTable.fresh 0 0 led with place:=#[p] }
def sN (led:Bool)(p q:Nat):SetTable:={ SetTable.fresh 0 0 led with place:=#[p,q] }
theorem cT (led:Bool)(v:Value):∀ i:Nat,i<16->layNew (.fresh 0 0 led) #[] (i:Int) v=(#[((i:Int),v)],ug led (i%8),false,false)
 | 0,_=>rfl
 | 1,_=>rfl
 | 2,_=>rfl
 | 3,_=>rfl
 | 4,_=>rfl
 | 5,_=>rfl
 | 6,_=>rfl
 | 7,_=>rfl
 | 8,_=>rfl
 | 9,_=>rfl
 | 10,_=>rfl
 | 11,_=>rfl
 | 12,_=>rfl
 | 13,_=>rfl
 | 14,_=>rfl
 | 15,_=>rfl
 | i+16,h=>absurd h (by lia)
theorem fu:∀ (led:Bool) (i j:Fin 16),i≠j->∃ q:Fin 8,q.1≠i.1%8/\(ug led (i.1%8)).freeSlot (j.1:Int)=some (q.1,false):=by decide +kernel
theorem dh:∀ (led:Bool) (p q:Fin 8),q≠p->(ug led p.1).put q.1=(if p.1<q.1 then (sN led p.1 q.1,1) else (sN led q.1 p.1,0)):=by decide +kernel
theorem cS (led:Bool)(u v:Value){i j:Nat}(hi:i<16)(b:j<16)(ne:i≠j):∃ p q,p<q/\q<8/\(layNew (ug led (i%8)) #[((i:Int),u)] (j:Int) v=(#[((i:Int),u),((j:Int),v)],sN led p q,false,false)\/layNew (ug led (i%8)) #[((i:Int),u)] (j:Int) v=(#[((j:Int),v),((i:Int),u)],sN led p q,false,false)):=by
 obtain⟨q,a,f⟩:=fu led ⟨i,hi⟩ ⟨j,b⟩ (λz=>ne (Fin.mk.inj z));have pt:=dh led ⟨i%8,by lia⟩ q (λz=>a (JW Fin.val z));dsimp only at a f pt;unfold layNew;rw[f];dsimp only;rw[pt];by_cases c:i%8<q.1
 ·rw[Jf c]
  exact⟨_,_,c,q.2,.inl rfl⟩
 ·rw[Jd c]
  exact⟨q.1,i%8,by lia,by lia,.inr rfl⟩
section
variable {prog:Program}{w:World}{A:Around}{E:Value->Shared->Prop}{s:Shared}{a:Addr}{o:Obj}{es:Array (Int × Value)}{ep:Nat}{t:SetTable}{k:Int}{tk:Tok}
theorem kf {Q:Bool->Shared->Prop}{es':Array (Int × Value)}{t':SetTable}(c:s.heap.get? a=some o)(hd:o.data=.set es ep t)(d:t.fits es.size=true)(b:ElemsOf (intKind prog w) es.toList)(hb:es.size<99)(j:es.toList.findIdx? (λe=>(intKind prog w).is k e.2)=none)(h:layNew t es (hashInt k) (.int k tk)=(es',t',false,false))(g:t'.plain=true)(f:t'.tooFull=false)(z:es'.size<=99)(q:Q true { s with toks:=s.toks+1,heap:=s.heap.update a (Obj.putSet es' t') }):wpAny (model prog w) A (setAdd a (.int k tk)) Q E s:=by
 have i:(intKind prog w).is k (.int k tk)=true:=by simp[intKind,Value.isInt]
 unfold setAdd;refine JX (J0 (wpAny_pyHash_int ?_));unfold setAddHashed;refine JX ?_;show wpAny _ _ (setState a >>= _) _ _ _;apply J0;refine YX (s:={ s with toks:=s.toks+1 }) c hd d ?_;dsimp only;rw[Jf (byScan_of (knd:=intKind prog w) rfl (Nat.lt_trans hb (by decide)) b)];refine J0 ?_;unfold setAddByScan;refine J0 (YJ (J0 (wpAny_setScan_of (knd:=intKind prog w) (k:=k) i c hd d b ?_)));rw[j];dsimp only;rw[h];dsimp only;refine J0 (show wpAny _ _ (pure ()) _ _ _ from J7 ?_);rw[Jf g];refine J0 (show wpAny _ _ (pure true) _ _ _ from J7 ?_);rw[Jf rfl];refine J0 (wpAny_storeSet_of (s:={ s with toks:=s.toks+1 }) c hd ?_ (JR z (by decide)));rw[f,Jd (by decide)];exact J7 (J7 q)
theorem bJ {Q:Bool->Shared->Prop}{j:Nat}(c:s.heap.get? a=some o)(hd:o.data=.set es ep t)(d:t.fits es.size=true)(b:ElemsOf (intKind prog w) es.toList)(hb:es.size<99)(g:es.toList.findIdx? (λe=>(intKind prog w).is k e.2)=some j)(q:Q false { s with toks:=s.toks+1 }):wpAny (model prog w) A (setAdd a (.int k tk)) Q E s:=by
 have f:(intKind prog w).is k (.int k tk)=true:=by simp[intKind,Value.isInt]
 unfold setAdd;refine JX (J0 (wpAny_pyHash_int ?_));unfold setAddHashed;refine JX ?_;show wpAny _ _ (setState a >>= _) _ _ _;apply J0;refine YX (s:={ s with toks:=s.toks+1 }) c hd d ?_;dsimp only;rw[Jf (byScan_of (knd:=intKind prog w) rfl (Nat.lt_trans hb (by decide)) b)];refine J0 ?_;unfold setAddByScan;refine J0 (YJ (J0 (wpAny_setScan_of (knd:=intKind prog w) (k:=k) f c hd d b ?_)));rw[g];exact J7 (J7 q)
end
end L2
namespace L2
open PySem PySem.Spec PyProof.Rows Own PySem.W
theorem xt:Slot "set_iterator" "__next__" "set_iterator.__next__":=by
 refine Slot.of (owner:="set_iterator") (n:="__next__") ?_ (by decide +kernel) (by decide +kernel) (by decide +kernel) (.inl (by decide +kernel)) ?_
 ·rw[typeLookup_type,builtinLookup_eq_fast];kernel_rfl
 ·rw[isSubtype_type];kernel_rfl
theorem pK:Slot "set_iterator" "__iter__" "set_iterator.__iter__":=by
 refine Slot.of (owner:="set_iterator") (n:="__iter__") ?_ (by decide +kernel) (by decide +kernel) (by decide +kernel) (.inl (by decide +kernel)) ?_
 ·rw[typeLookup_type,builtinLookup_eq_fast];kernel_rfl
 ·rw[isSubtype_type];kernel_rfl
theorem sk:entryFor table "set_iterator.__next__" = some Builtin.«set_iterator.__next__»:=entryFor_of_tree (by kernel_rfl)
theorem n9:entryFor table "set_iterator.__iter__" = some Builtin.«dict_keyiterator.__iter__»:=entryFor_alias (id':="dict_keyiterator.__iter__") (by kernel_rfl) rfl (by decide +kernel) (by kernel_rfl)
theorem jK:entryFor table "set.__iter__" = some Builtin.«frozenset.__iter__»:=entryFor_alias (id':="frozenset.__iter__") (by kernel_rfl) rfl (by decide +kernel) (by kernel_rfl)
theorem si:Manifest.owners.lookup (String.ofList "rotareti_tes".toList.reverse)=some Manifest.sig_set_iterator:=by kernel_rfl
theorem pL (a:Value):argsOk "set_iterator.__next__" ⟨[a],[]⟩:=by
 unfold argsOk;rw[signature?_of (n:="__txen__".toList) (by kernel_rfl) si]
 kernel_rfl
theorem jJ (a:Value):argsOk "set_iterator.__iter__" ⟨[a],[]⟩:=by
 unfold argsOk;rw[signature?_of (n:="__reti__".toList) (by kernel_rfl) si]
 kernel_rfl
def byT (w:World):Bool:=w.params.followText "set-order"
def uS (w:World)(d:Addr)(ep:Nat)(es:Array (Int × Value)):Array (Int × Value):=if byT w then pickOrder (w.params.setOrder d ep) es else es
theorem nF {α:Type}:∀ (l:List α) (n:Nat) (h:n<l.length),(l[n]::l.eraseIdx n).Perm l
 | [],n,h=>absurd h (Nat.not_lt_zero _)
 | x::l,0,h=>.refl _
 | x::l,n+1,h=>(List.Perm.swap _ _ _).trans ((nF l n (Nat.lt_of_succ_lt_succ h)).cons x)
theorem lV {α:Type}(nx:Nat->Nat):∀ (n k:Nat) (left:List α) (out:Array α),left.length<=n->(pickOrder.go nx n k left out).toList.Perm (out.toList++left)
 | 0,k,left,out,h=>by
  have:left=[]:=YV.mp (by lia);subst this;unfold pickOrder.go
  simp
 | n+1,k,left,out,h=>by
  unfold pickOrder.go;by_cases z:left=[]
  ·subst z
   simp
  ·have lt:nx k%left.length<left.length:=Nat.mod_lt _ (YY.mpr z)
   rw[J9 lt];dsimp only;refine(lV nx n (k+1) _ _ (by rw[List.length_eraseIdx_of_lt lt];simp_all)).trans ?_;rw[Zc,Y0];apply List.Perm.append_left;show (left[nx k%left.length]::left.eraseIdx _).Perm left;exact nF _ _ lt
theorem rH (w:World)(d:Addr)(ep:Nat)(es:Array (Int × Value)):(uS w d ep es).toList.Perm es.toList:=by
 unfold uS;split
 ·exact lV _ _ _ _ _ (by simp)
 ·exact .refl _
def SIt (h:Heap)(it d:Addr)(slot i n ep:Nat):Prop:=∃ o,h.get? it=some o/\o.cls=.type "set_iterator"/\o.data=.fields #[.int slot 0,.int i 0,.ref d,.int n 0,.int ep 0]
section
variable {prog:Program}{w:World}{A:Around}{E:Value->Shared->Prop}{s:Shared}{d it:Addr}{o:Obj}{es:Array (Int × Value)}{ep slot i:Nat}{t:SetTable}
theorem gH {Q:Value->Shared->Prop}(a:s.heap.get? d=some o) (f:o.ExactSet) (hd:o.data=.set es ep t) (b:t.fits es.size=true) (e:t.plain=true)
  (q:Q (.ref s.heap.objs.size) { s with heap:=s.heap.push { cls:=.type "set_iterator",data:=.fields #[.int 0 0,.int 0 0,.ref d,.int es.size 0,.int ep 0] } }):wpAny (model prog w) A (pyIter (.ref d)) Q E s:=by
 have ty:s.TypeIs (.ref d) "set":=⟨o,a,f.1⟩;refine wpAny_pyIter_slot ty F.slot_set_iter (Y1 F.slot_set_iter ty jK ?_ (F.args_set_iter_1 _));unfold Builtin.«frozenset.__iter__»;refine J0 ?_;refine(show wpAny _ _ (pure d) _ _ _ from J7 (J0 ?_));unfold Builtin.Frozenset.sizeOf setEntries;refine J0 (J0 (YX a hd b (J7 (J7 (J0 ?_)))));unfold setDrawn setsByText;refine J0 (YX a hd b (J0 (J0 (Wc (J7 (J7 ?_))))));rw[Jd ?_]
 ·refine J0 (J7 (J0 (wpAny_setEpoch_of a hd b (J0 ?_))))
  exact JK (J7 ⟨_,rfl,_,_,⟨_,Jq _ rfl,rfl⟩,xt.lookup,q⟩)
 ·intro z
  have c:(!t.plain && decide (es.size > 1))=true:=((Zn _ _).mp z).2;rw[e]at c;exact absurd c (by simp)
def nxS (w:World)(d:Addr)(ep:Nat)(es:Array (Int × Value))(t:SetTable)(slot i:Nat):Option (Value × Nat) :=
 if byT w then ((pickOrder (w.params.setOrder d ep) es)[i]?).map λe=>(e.2,slot) else
  (es[SetTable.below t.place slot]?).bind λe=>(t.place[SetTable.below t.place slot]?).map λj=>(e.2,j+1)
theorem oT {Q:Option (Value × Nat)->Shared->Prop}(e:s.heap.get? d=some o)(hd:o.data=.set es ep t)(f:t.fits es.size=true)(g:t.plain=true)(ld:byT w=false->t.led=true)(q:Q (nxS w d ep es t slot i) s) :
  wpAny (model prog w) A (setNext d slot i ep) Q E s:=by
 unfold setNext setsByText;refine J0 (YX e hd f (J0 (J0 (Wc (J7 ?_)))));unfold nxS at q;refine Yx (λb=>?_) λb=>?_
 ·rw[Jf (c:=byT w=true) b]at q
  refine Yx (λz=>absurd z (by simp)) λ_=>?_;unfold setWalk setsByText;refine J0 (J0 (YX e hd f (J0 (J0 (Wc (J7 ?_))))));refine Yx (λ_=>?_) λz=>absurd b z;exact J0 (Wc (J7 (J7 q)))
 ·rw[Jd (c:=byT w=true) b]at q
  refine Yx (λz=>?_) λ_=>?_
  ·have a:(!t.plain && decide (es.size > 1))=true:=z
   rw[g]at a;exact absurd a (by simp)
  ·have h:=ld (by simpa using (show ¬ byT w=true from b))
   refine J0 ?_;show wpAny _ _ (if (!t.led && !es.isEmpty)=true then _ else _) _ _ _;refine Yx (λz=>?_) λ_=>J7 (J7 ?_)
   ·rw[h]at z
    exact absurd z (by simp)
   ·generalize es[SetTable.below t.place slot]?=u at q ⊢
    generalize t.place[SetTable.below t.place slot]?=v at q ⊢;rcases u with _|⟨_,_⟩<;>rcases v with _|_<;>exact q
theorem gE {Q:Option Value->Shared->Prop}(j:s.heap.get? d=some o)(hd:o.data=.set es ep t)(l:t.fits es.size=true)(hi:SIt s.heap it d slot i es.size ep)(p:t.plain=true)(ld:byT w=false->t.led=true){x:Value}{k:Nat}(nx:nxS w d ep es t slot i=some (x,k))(q:∀ h',SIt h' it d k (i+1) es.size ep->(∀ b u,b≠it->s.heap.get? b=some u->h'.get? b=some u)->Q (some x) { s with heap:=h' }):wpAny (model prog w) A (pyNext (.ref it)) Q E s:=by
 obtain⟨a,e,m,g⟩:=id hi;have ty:s.TypeIs (.ref it) "set_iterator":=⟨a,e,m⟩;unfold pyNext;refine J0 (Zs (wpAny_callSpecial?_slot ty xt (Y1 xt ty sk ?_ (pL _))));unfold Builtin.«set_iterator.__next__»;refine J0 (show wpAny _ _ (pure ((.ref it,[]):Value × List Value)) _ _ _ from J7 ?_);refine J0 (Ww e g ?_);show wpAny _ _ (setEntries d >>= _) _ _ _;unfold setEntries;refine J0 (J0 (YX j hd l (J7 ?_)));dsimp only;rw[Jd (c:=((es.size:Int) != (es.size:Int))=true) (by simp)];refine J0 ?_;refine oT j hd l p ld ?_;rw[show nxS w d (ep:Int).toNat es t (slot:Int).toNat (i:Int).toNat=some (x,k) from nx];dsimp only;refine J0 (Wx e g (by show 0<5;lia) ?_);have f:(a.mapFields (·.setIfInBounds 0 (rawInt (k:Int)))).data=.fields #[.int (k:Int) 0,.int (i:Int) 0,.ref d,.int es.size 0,.int ep 0]:=Obj.data_mapFields g _;have n:=Yg (Obj.mapFields (·.setIfInBounds 0 (rawInt (k:Int)))) e (Obj.isFreed_of_fields f);have v:(a.mapFields (·.setIfInBounds 0 (rawInt (k:Int)))).cls=.type "set_iterator":=(Obj.cls_mapFields ..).trans m;refine J0 (Wx (s:={ s with heap:=s.heap.update it (Obj.mapFields (·.setIfInBounds 0 (rawInt (k:Int)))) }) n f (by show 1<5;lia) ?_);have h:((a.mapFields (·.setIfInBounds 0 (rawInt (k:Int)))).mapFields (·.setIfInBounds 1 (rawInt ((i:Int)+1)))).data=.fields #[.int (k:Int) 0,.int ((i+1:Nat):Int) 0,.ref d,.int es.size 0,.int ep 0]:=Obj.data_mapFields f _;have e2:=Yg (Obj.mapFields (·.setIfInBounds 1 (rawInt ((i:Int)+1)))) n (Obj.isFreed_of_fields h);refine J7 ⟨_,rfl,J7 (q _ ⟨_,e2,(Obj.cls_mapFields ..).trans v,h⟩ λb u nb r=>?_)⟩;exact((Y8 _ it _).2 b nb).trans (((Y8 s.heap it _).2 b nb).trans r)
theorem gG {Q:Option Value->Shared->Prop}(k:A.handled=none)(e:s.heap.get? d=some o)(hd:o.data=.set es ep t)(f:t.fits es.size=true)(hi:SIt s.heap it d slot i es.size ep)(j:t.plain=true)(ld:byT w=false->t.led=true)(nx:nxS w d ep es t slot i=none)(q:∀ h',Heap.ExtBut it s.heap h'->Q none { s with heap:=h' }):wpAny (model prog w) A (pyNext (.ref it)) Q E s:=by
 obtain⟨h,a,m,g⟩:=id hi;have ty:s.TypeIs (.ref it) "set_iterator":=⟨h,a,m⟩;unfold pyNext;refine J0 (Zs (wpAny_callSpecial?_slot ty xt (Y1 xt ty sk ?_ (pL _))));unfold Builtin.«set_iterator.__next__»;refine J0 (show wpAny _ _ (pure ((.ref it,[]):Value × List Value)) _ _ _ from J7 ?_);refine J0 (Ww a g ?_);show wpAny _ _ (setEntries d >>= _) _ _ _;unfold setEntries;refine J0 (J0 (YX e hd f (J7 ?_)));dsimp only;rw[Jd (c:=((es.size:Int) != (es.size:Int))=true) (by simp)];refine J0 ?_;refine oT e hd f j ld ?_;rw[show nxS w d (ep:Int).toNat es t (slot:Int).toNat (i:Int).toNat=none from nx];dsimp only;refine J0 (Wx a g (by show 2<5;lia) (J0 ?_));unfold newExc newTuple;refine J0 (JK ?_ (by show 0<=sizeLine;exact JJ _));unfold firstArgMember;refine J0 (J0 (J7 (J7 (JK (wpAny_raiseNew_none k ?_) ?_))))
 rotate_left
 ·show (_++_:Array Value).size<=sizeLine+2
  rw[Jw];show 6+0<=sizeLine+2;rw[JG];lia
 refine J0 (YA ⟨_,Jq _ rfl,rfl⟩ isSubtype_stop (J7 (q _ λb u nb l=>?_)));exact J8 _ (J8 _ (((Y8 s.heap it _).2 b nb).trans l))
theorem jL {Q:Value->Shared->Prop}(hi:SIt s.heap it d slot i es.size ep)(q:Q (.ref it) s):wpAny (model prog w) A (pyIter (.ref it)) Q E s:=by
 obtain⟨a,c,b,e⟩:=id hi;have ty:s.TypeIs (.ref it) "set_iterator":=⟨a,c,b⟩;refine wpAny_pyIter_slot ty pK (Y1 pK ty n9 ?_ (jJ _));exact(show wpAny _ _ (ret (.ref it)) _ _ s from J7 ⟨_,rfl,_,_,ty,xt.lookup,q⟩)
structure WlkS (w:World) (d:Addr) (ep:Nat) (es:Array (Int × Value)) (t:SetTable) (sl:Nat->Nat):Prop where
 zero:sl 0=0
 on:∀ (i:Nat) (e:Int × Value),(uS w d ep es)[i]?=some e->nxS w d ep es t (sl i) i=some (e.2,sl (i+1))
 out:nxS w d ep es t (sl es.size) es.size=none
theorem ve (w:World)(d:Addr)(ep:Nat)(es:Array (Int × Value)):(uS w d ep es).size=es.size:=by
 rw[<- Jx,(rH w d ep es).length_eq,Jx]
theorem da {sl:Nat->Nat}(l:o.ExactSet)(hd:o.data=.set es ep t)(m:t.fits es.size=true)(j:t.plain=true)(ld:byT w=false->t.led=true)(W:WlkS w d ep es t sl):KdlSrc prog w "set" d d es.size (λi v=>∃ e,(uS w d ep es)[i]?=some e/\v=e.2) (λh=>h.get? d=some o) where
 type:=λs a=>⟨o,a,l.1⟩
 there:=λh a=>⟨Jr a,Jr a⟩
 keep:=λh f a k=>k d (.inl rfl) _ a
 notList:=by decide
 notTuple:=by decide
 hint:=λA E s Q a q=>by
  have ty:s.TypeIs (.ref d) "set":=⟨o,a,l.1⟩;show wpAny _ _ (specialOf (.ref d) _ >>= _) _ _ _;refine J0 (ZM (T:="set") ty F.slot_set_len.lookup ?_);show wpAny _ _ (isInstance (.ref d) (.type "set") >>= _) _ _ _;refine J0 (YA (T:="set") (b:=true) ty rfl ?_);show wpAny _ _ (typeOf (.ref d) >>= _) _ _ _;exact J0 (YF ty (J7 q))
 iter:=λA s C a=>by
  refine⟨{ cls:=.type "set_iterator",data:=.fields #[.int 0 0,.int 0 0,.ref d,.int es.size 0,.int ep 0] },λi h=>SIt h s.heap.objs.size d (sl i) i es.size ep/\h.get? d=some o,λE Q q=>gH a l hd m j q,?_,⟨_,Jq _ rfl,rfl,by rw[W.zero];rfl⟩,J8 _ a⟩;have y:d≠s.heap.objs.size:=JH (Jr a);refine⟨λb c=>Js.mpr (.inl (Ja.mp c)),λi h f st k=>⟨?_,k d (JE _ JF) _ st.2⟩,λi g Q E B st q=>?_,λg Q E st q=>?_,λi g Q E st q=>jL st.1 q⟩
  ·obtain⟨u,x,r,u3⟩:=st.1
   exact⟨u,k _ JF _ x,r,u3⟩
  ·have p:(uS w d ep es)[i]?=some ((uS w d ep es)[i]'(by rw[ve];exact B)):=YL _
   exact gE st.2 hd m st.1 j ld (W.on i _ p) λf n k=>q _ f g.toks ⟨_,p,rfl⟩ ⟨n,k d o y st.2⟩ λb u nb c=>k b u (λz=>nb (Ja.mpr z)) c
  ·exact gG C st.2 hd m st.1 j ld W.out λf k=>q f g.toks λb u nb c=>k b u (λz=>nb (Ja.mpr z)) c
theorem eM:∀ p:Fin 8,SetTable.below #[p.1] 0=0/\SetTable.below #[p.1] (p.1+1)=1:=by decide +kernel
theorem eL:∀ p q:Fin 8,p<q->SetTable.below #[p.1,q.1] 0=0/\SetTable.below #[p.1,q.1] (p.1+1)=1/\SetTable.below #[p.1,q.1] (q.1+1)=2:=by decide +kernel
theorem qw (b:byT w=true):WlkS w d ep es t (λ_=>0) where
 zero:=rfl
 on:=λi e a=>by
  unfold uS at a;rw[Jf b]at a;unfold nxS;rw[Jf b,a];rfl
 out:=by
  have z:=ve w d ep es;unfold uS at z;rw[Jf b]at z;unfold nxS;rw[Jf b,Z0 (by simp_all)];rfl
theorem eU (b:byT w=false){led:Bool}{e:Int × Value}{p:Nat}(c:p<8):WlkS w d ep #[e] (ug led p) (λi=>if i=0 then 0 else p+1) where
 zero:=rfl
 on:=λi f a=>by
  unfold uS at a;rw[b]at a;unfold nxS;rw[b];rcases i with _|i
  ·cases (show some e=some f from a)
   have z:=(eM ⟨p,c⟩).1;dsimp only at z;show ((#[e][SetTable.below #[p] 0]?).bind λe=>(#[p][SetTable.below #[p] 0]?).map λj=>(e.2,j+1))=_;rw[z];rfl
  ·have:(#[e]:Array _)[i+1]?=none:=Z0 (by show 1<=i+1;lia)
   rw[show (if false=true then pickOrder (w.params.setOrder d ep) #[e] else #[e]) = #[e] from rfl,this]at a;exact absurd a (by simp)
 out:=by
  unfold nxS;rw[b];have z:=(eM ⟨p,c⟩).2;dsimp only at z;show ((#[e][SetTable.below #[p] (p+1)]?).bind λe=>(#[p][SetTable.below #[p] (p+1)]?).map λj=>(e.2,j+1))=_;rw[z];rfl
theorem eT (b:byT w=false){led:Bool}{e f:Int × Value}{p q:Nat}(m:p<q)(l:q<8):WlkS w d ep #[e,f] (sN led p q) (λi=>if i=0 then 0 else if i=1 then p+1 else q+1) where
 zero:=rfl
 on:=λi g a=>by
  obtain⟨k,h,c⟩:=eL ⟨p,by lia⟩ ⟨q,l⟩ m;dsimp only at k h c;unfold uS at a;rw[b]at a;unfold nxS;rw[b];rcases i with _|_|i
  ·cases (show some e=some g from a)
   show ((#[e,f][SetTable.below #[p,q] 0]?).bind λe=>(#[p,q][SetTable.below #[p,q] 0]?).map λj=>(e.2,j+1))=_;rw[k];rfl
  ·cases (show some f=some g from a)
   show ((#[e,f][SetTable.below #[p,q] (p+1)]?).bind λe=>(#[p,q][SetTable.below #[p,q] (p+1)]?).map λj=>(e.2,j+1))=_;rw[h];rfl
  ·have:(#[e,f]:Array _)[i+1+1]?=none:=Z0 (by show 2<=i+1+1;lia)
   rw[show (if false=true then pickOrder (w.params.setOrder d ep) #[e,f] else #[e,f]) = #[e,f] from rfl,this]at a;exact absurd a (by simp)
 out:=by
  obtain⟨k,h,c⟩:=eL ⟨p,by lia⟩ ⟨q,l⟩ m;dsimp only at k h c;unfold nxS;rw[b];show ((#[e,f][SetTable.below #[p,q] (q+1)]?).bind λe=>(#[p,q][SetTable.below #[p,q] (q+1)]?).map λj=>(e.2,j+1))=_;rw[c];rfl
end
end L2
namespace L2
open PySem PySem.Spec PyProof.Rows Own Bn
def isW:LRes->Bool
 | .whl _=>true
 | _=>false
theorem iY:∀ s,s<4->isW (yB (xq s) [0] 4000)=true:=by decide +kernel
theorem iX:∀ s,s<4->0<s->isW (yB (xq s) [0,(xq s).lanes-1] 4000)=decide ((xq s).lanes=2):=by decide +kernel
section
variable {N:Nt}{moves fewer:List Nat}{most:Nat}
theorem iG (h:isW (yB N moves most)=true)(sub:∀ m∈fewer,m∈moves):isW (yB N fewer most)=true:=by
 have al:=rZ (step:=yN N) (moves:=moves) (most:=most) (k0:=stK (List.replicate N.forks.length 0) [0]) (c0:=List.replicate N.lanes 0);unfold yB at h ⊢
 cases e:yW (yN N) moves most (most+1) [(stK (List.replicate N.forks.length 0) [0],List.replicate N.lanes 0)] [] [] with
 | opn=>rw[e]at h;cases h
 | brk c=>rw[e]at h;cases h
 | whl ls =>
  rw[e]at al;obtain⟨a,k,le,_⟩:=al;have f:Shut (yN N) fewer (stK (List.replicate N.forks.length 0) [0]) (xB ls):=⟨a.fst,λs b m g=>a.cls s b m (sub m g)⟩;obtain⟨j,i,_⟩:=uy f le (most+1) [(stK (List.replicate N.forks.length 0) [0],List.replicate N.lanes 0)] [] [] (λp d=>by rw[Ja.mp d];exact a.fst) (λp d=>(nomatch d)) (λs b=>(nomatch b)) (JP.mpr ⟨Jz,YS⟩) (Je _);rw[i];rfl
theorem iS {c:List Int}(h:yB N moves most=.brk c)(l16:N.lanes<=16)(m:most<=10000):c.length<=16/\∀ x∈c,x.natAbs<=100000:=by
 have al:=rZ (step:=yN N) (moves:=moves) (most:=most) (k0:=stK (List.replicate N.forks.length 0) [0]) (c0:=List.replicate N.lanes 0);unfold yB at h;rw[h]at al;obtain⟨n,nl,B⟩:=al;obtain⟨r,x,f,j,b,_⟩:=B.ex;have cl:c.length=N.lanes:=by rw[<- b];exact bC N _
 refine⟨by simp_all,λy d=>?_⟩;obtain⟨i,hi,rfl⟩:=List.getElem_of_mem d
 have e:c.getD i 0=((r++[x]).count i:Nat):=by
  rw[<- b];have:=rX (r++[x]) (zL N) i (by rw[show (zL N).length=N.lanes from Z3];lia);rw[eS]at this;rw[show vT (List.replicate N.lanes 0) (r++[x])=vT (zL N) (r++[x]) from rfl,this];lia
 rw[Ju,J9 hi]at e;have g:c[i]=((r++[x]).count i:Nat):=e;have:=List.count_le_length (a:=i) (l:=r++[x]);rw[Jb,f]at this;rw[g];have:(r++[x]).count i<=n+1:=this;lia
end
def wZ (i j:Int):List Int:=if i=j then [i] else if i<j then [i,j] else [j,i]
structure SetRl (P:Program) (w:World) (T:Addr->Int->Int->HO):Prop where
 nw:∀ {X:Cx},X.prog=P->X.w=w->X.calm=true->X.A.units+64<cLine->CallR X (.type "set") (λvs H Q=>∃ l i j,vs=[.ref l]/\H l=some (.lst [.int i,.int j])/\0<=i/\i<16/\0<=j/\j<16/\∀ q,H q=none->Q (.ref q) (upd H q (T q i j)))
 st:∀ {X:Cx},X.prog=P->X.w=w->X.calm=true->X.A.units+64<cLine->CallR X (.builtin "sorted") (λvs H Q=>∃ q i j,vs=[.ref q]/\H q=some (T q i j)/\∀ l,H l=none->Q (.ref l) (upd H l (.lst ((wZ i j).map V.int))))
structure MgSet (mg:Str->Option Value):Prop where
 set:mg "set" = none
def bQ:LRes->Str
 | .opn=>"open"
 | .brk _=>"breaks"
 | .whl _=>"stair"
theorem wP {H:Hp}{p:Addr}{R:LRes}(h:TellV H p R):∃ v,H p=some (.tup [.str (bQ R),v]):=by
 cases R with
 | opn=>exact⟨_,h⟩
 | brk c=>obtain⟨b,a,_⟩:=h;exact⟨_,a⟩
 | whl ls=>obtain⟨b,bs,d,a,_⟩:=h;exact⟨_,a⟩
theorem qX (R:LRes):decide (V.str (bQ R)=V.str "stair")=isW R:=by
 cases R with
 | opn=>exact Jt λz=>absurd (V.str.inj z) (by decide)
 | brk c=>exact Jt λz=>absurd (show ("breaks":Str) = "stair" from V.str.inj z) (by decide)
 | whl ls=>exact JD rfl
theorem jF {H H':Hp}{p:Addr}{R:LRes}(t:Tups H H')(h:TellV H p R):TellV H' p R:=by
 cases R with
 | opn=>exact t _ _ h
 | brk c=>obtain⟨b,d,a⟩:=h;exact⟨b,t _ _ d,t _ _ a⟩
 | whl ls=>obtain⟨b,bs,e,d,a,g,f⟩:=h;exact⟨b,bs,e,t _ _ d,t _ _ a,g.tups t,f⟩
theorem iZ {N:Nt}(ok:Nt.Ok N){moves:List Nat}{most:Nat}:∀ ls,yB N moves most=.whl ls->Whole (OkP N) most ls:=λls e=>xh (Ok:=OkP N) (λs m t h _ e=>wH ok h e) (most+1) _ [] [] ls ⟨λlv b=>(nomatch b),JJ _⟩ rfl (JJ _) (λp a=>by rw[Ja.mp a];exact xu ok) e
theorem eJ {N:Nt}{H:Hp}{p q:Addr}{moves:List Nat}(ok:Nt.Ok N)(f:N.forks.length<=60)(b:TellV H p (yB N moves 4000))(a:TellV H q (yB N moves 4000)):∃ d,DD H 4 (.ref p) d/\DD H 4 (.ref q) d/\ShB 1000000 d :=
 iq ok f b a (iZ ok) λc e=>iS e ok.l16 (by decide)
end L2
namespace L2
open PySem PySem.Spec PyProof.Rows Own PySem.W
section
variable {prog:Program}{w:World}{A:Around}{E:Value->Shared->Prop}{s:Shared}
abbrev bK:Value:=.type "set"
def yk (w:World):Obj:={ cls:=.type "set",dict:=none,data:=.set #[] 0 (.fresh 0 0 (!byT w)) }
theorem gF (a:Value){Q:Value->Shared->Prop}(q:Q (.ref s.heap.objs.size) { s with heap:=s.heap.push (yk w) }) :
  codeAny (model prog w) A (.call (.builtin "set.__new__") ⟨[.type "set",a],[]⟩) (wants Q E) s:=by
 refine codeAny_call_builtin F.plain_set_new F.entry_set_new ?_;rw[F.newCall_set_1];refine J7 ?_;unfold Builtin.«set.__new__»;unfold Builtin.Frozenset.newClass;refine J0 ?_;show wpAny _ _ (isType (.type "set") >>= _) _ _ _;refine J0 (show wpAny _ _ (pure true) _ _ _ from J7 ?_);show wpAny _ _ (isSubtype (.type "set") (.type "set") >>= _) _ _ _;rw[show isSubtype (.type "set") (.type "set")=pure true from by rw[isSubtype_type];kernel_rfl];refine J0 (J7 (J7 (J0 ?_)));unfold newSet;unfold setsByText;exact J0 (J0 (Wc (J7 (JK (J7 q)))))
theorem cz {a:Value}{n:Nat}{Q:String->Shared->Prop}(ty:s.TypeIs a "set") (q:∀ x,Q x s):wpAny (model prog w) A (typeNameOfCut n a) Q E s:=by
 unfold typeNameOfCut;unfold shownTypeOf;refine J0 (J0 (YF ty (Yx (λz=>absurd z (by decide)) λ_=>J7 ?_)));exact(show wpAny _ _ (pure _) _ _ _ from J7 (q _))
theorem kN {R:Result->Shared->Prop}{d it l:Addr}{i:Nat}{its:Array Value}{x:Value}(hit:s.heap.IsListIter it l i) (j:s.heap.IsList l its) (ex:its[i]?=some x)
  (q:∀ f,f.IsListIter it l (i+1)->Heap.SameBut it s.heap f->wpAny (model prog w) A.in1 (setAdd d x) (λ_ a=>codeAny (model prog w) A (.builtin "set.update.loop" ⟨[.ref d,.ref it],[]⟩) R a) (λe a=>R (.error e) a) { s with heap:=f }) :
  codeAny (model prog w) A (.builtin "set.update.loop" ⟨[.ref d,.ref it],[]⟩) R s:=by
 refine YG PyProof.Rows.F.entry_set_update_loop ?_;rw[Yv PyProof.Rows.F.plain_set_update_loop];show wpAny _ A.in1 (pyNext (Value.ref it) >>= _) _ _ _;refine J0 (wpAny_pyNext_list_item (A:=A.in1) hit j ex λf g h=>J0 (JX ?_));refine JN (q f g h) (λb a c=>?_) λe a c=>c;exact J7 ⟨Zh PyProof.Rows.F.plain_set_update_loop _,c⟩
theorem nE {R:Result->Shared->Prop}{d it l:Addr}{i:Nat}{its:Array Value}(c:A.handled=none)(hit:s.heap.IsListIter it l i)(b:s.heap.IsList l its)(ex:its[i]?=none)(q:∀ a,Heap.ExtBut it s.heap a->R (.ok (.ret .none)) { s with heap:=a }) :
  codeAny (model prog w) A (.builtin "set.update.loop" ⟨[.ref d,.ref it],[]⟩) R s:=by
 refine YG PyProof.Rows.F.entry_set_update_loop ?_;rw[Yv PyProof.Rows.F.plain_set_update_loop];show wpAny _ A.in1 (pyNext (Value.ref it) >>= _) _ _ _;exact J0 (wpAny_pyNext_list_end (A:=A.in1) c hit b ex λa k=>J7 (q a k))
theorem gI {l d:Addr}{its:Array Value}{R:PySem.Fin->Shared->Prop}(f:s.heap.get? d=some (yk w)) (g:s.heap.IsList l its)
  (q:codeAny (model prog w) A (.builtin "set.update.loop" ⟨[.ref d,.ref s.heap.objs.size],[]⟩) (wants (λ_=>R (.done (.ret .none))) E) { s with heap:=s.heap.push { cls:=.type "list_iterator",data:=.fields #[.ref l,.int 0 0] } }) :
  wpAny (model prog w) A (Builtin.«set.__init__» ⟨[.ref d,.ref l],[]⟩) R E s:=by
 obtain⟨ol,i,h,k⟩:=id g;have a:s.TypeIs (.ref l) "list":=⟨_,i,h⟩;have ty:s.TypeIs (.ref d) "set":=⟨_,f,rfl⟩;unfold Builtin.«set.__init__»;refine J0 (show wpAny _ _ (pure ()) _ _ _ from J7 ?_);refine J0 (cz ty λx=>(J0 (show wpAny _ _ (pure ()) _ _ _ from J7 ?_)));refine J0 (show wpAny _ _ (pure d) _ _ _ from J7 ?_);unfold setUsed;refine J0 (J0 (YX f rfl rfl (J7 ?_)));refine Yx (λz=>absurd z (by simp[SetTable.fill,SetTable.fresh])) λ_=>?_;refine J0 ?_;unfold Builtin.Frozenset.updateFrom Builtin.Frozenset.isAnySet;apply J0;show wpAny _ _ (isInstance (.ref l) (.type "set") >>= _) _ _ _;refine J0 (YA (b:=false) a (by rw[isSubtype_type];kernel_rfl) ?_);refine(show wpAny _ _ (isInstance (.ref l) (.type "frozenset")) _ _ _ from YA (b:=false) a (by rw[isSubtype_type];kernel_rfl) ?_);refine Yx (λz=>absurd z (by decide)) λ_=>?_;refine J0 (YF a (Yx (λz=>absurd z (by decide)) λ_=>?_));refine J0 (wpAny_pyIter_list g (J0 (wpAny_runValue (ZD q λr j c=>?_))))
 cases r with
 | error e=>exact c
 | ok fl =>
  cases fl with
  | ret v=>exact J7 (J7 c)
  | _=>exact c
theorem gJ {l:Addr}{its:Array Value}{Q:Value->Shared->Prop}(n:A.handled=none) (i:s.heap.IsList l its)
  (q:codeAny (model prog w) A.in1.in1 (.builtin "set.update.loop" ⟨[.ref s.heap.objs.size,.ref (s.heap.push (yk w)).objs.size],[]⟩) (wants (λ_=>Q (.ref s.heap.objs.size)) E) { s with heap:=(s.heap.push (yk w)).push { cls:=.type "list_iterator",data:=.fields #[.ref l,.int 0 0] } }) :
  wpAny (model prog w) A (call bK [.ref l]) Q E s:=by
 apply wpAny_call;apply codeAny_of_tree;refine(show wpAny _ _ (callAny (.type "set") _) _ _ _ from J7 ⟨Code.quiet_builtin _ (by decide +kernel),?_⟩);refine YG F.entry_type_call ?_;rw[Around.under_plain rfl rfl]
 delta Builtin.«type.__call__»
 dsimp only;refine Yx (λz=>absurd z (by decide)) λ_=>?_;refine Yx (λz=>absurd z (by rw[F.called_set.canCreate];decide)) λ_=>?_;rw[F.typeCall_set_1];refine J0 (J7 ?_);obtain⟨m,k,f⟩:=F.called_set.mro;rw[f];refine J0 (J7 (Yx (λz=>absurd z (by simp)) λ_=>?_));rw[F.called_set.made];refine J0 (J7 (J0 (J7 (J0 (JX ?_)))));refine wpAny_call (ZD (gF (E:=E) (Q:=λob a=>ob=.ref s.heap.objs.size/\a={ s with heap:=s.heap.push (yk w) }) (.ref l) ⟨rfl,rfl⟩) λr a c=>?_)
 cases r with
 | error e=>exact c
 | ok fl =>
  cases fl with
  | ret v =>
   obtain⟨rfl,rfl⟩:=c;have d:(s.heap.push (yk w)).get? s.heap.objs.size=some (yk w):=Jq _ rfl;have ty:({ s with heap:=s.heap.push (yk w) }:Shared).TypeIs (.ref s.heap.objs.size) "set":=⟨_,d,rfl⟩;refine J0 (YA (b:=true) ty F.called_set.sub (Yx (λz=>absurd z (by decide)) λ_=>J0 (JX ?_)));refine wpAny_callSpecial?_slot ty F.called_set.init (wpAny_call (codeAny_call_builtin F.called_set.init.plain F.entry_set_init (check_set_init_1 ty ?_)));refine JN (gI (R:=λfin a=>fin=.done (.ret .none)/\Q (.ref s.heap.objs.size) a) (E:=E) d (by obtain⟨ol,h,g⟩:=i;exact⟨ol,J8 _ h,g⟩) (ZD q λr a c=>?_)) (λfin a c=>?_) λe a c=>c
   ·cases r with
    | error e=>exact c
    | ok fl =>
     cases fl with
     | ret v=>exact⟨rfl,c⟩
     | _=>exact c
   ·obtain⟨rfl,j⟩:=c
    exact J7 j
  | _=>exact c
def PhS (w:World)(a:Addr)(i j:Int)(h:Heap):Prop:=∃ o b d t,h.get? a=some o/\o.ExactSet/\o.data=.set b d t/\t.fits b.size=true/\t.plain=true/\(byT w=false->t.led=true)/\(∃ e,WlkS w a d b t e) /\
 ∃ c:List Int,c.Perm (wZ i j)/\Vals (c.map V.int) (b.toList.map (·.2))
theorem wy:∀ k:Nat,k<16->hashInt (k:Int)=(k:Int):=by decide +kernel
theorem pE {i j:Int}(ne:i≠j):[i,j].Perm (wZ i j):=by
 unfold wZ;rw[Jd ne];split
 ·exact .refl _
 ·exact .swap _ _ _
theorem lR {h:Heap}{a:Addr}{o:Obj}{es es':Array (Int × Value)}{ep:Nat}{t t':SetTable}(c:h.get? a=some o)(b:o.ExactSet)(hd:o.data=.set es ep t) :
  ∃ o',(h.update a (Obj.putSet es' t')).get? a=some o'/\o'.ExactSet/\o'.data=.set es' (ep+1) t':=by
 refine⟨{ o with data:=.set es' (ep+1) t' },?_,b,rfl⟩;have e:=Yg (Obj.putSet es' t') c (by rw[putSet_of es' t' hd];rfl)
 rwa [putSet_of es' t' hd]at e
theorem eZ {l:Addr}{i j:Nat}{u v:Tok}{Q:Value->Shared->Prop}(R:A.handled=none)(hl:s.heap.IsList l #[.int i u,.int j v])(hi:i<16)(hj:j<16)(q:∀ h' tk,PhS w s.heap.objs.size i j h'->(∀ b o,s.heap.get? b=some o->h'.get? b=some o)->Q (.ref s.heap.objs.size) { s with heap:=h',toks:=tk }) :
  wpAny (model prog w) A (call bK [.ref l]) Q E s:=by
 refine gJ R hl ?_;obtain⟨ol,B,L⟩:=hl;have lt:=Jr B;generalize T:s.heap.objs.size=d at lt q ⊢;have pd:(s.heap.push (yk w)).objs.size=d+1:=by rw[size_push',T]
 rw[pd]
 have g0:((s.heap.push (yk w)).push { cls:=.type "list_iterator",data:=.fields #[.ref l,.int 0 0] }).get? (d+1)=some { cls:=.type "list_iterator",data:=.fields #[.ref l,.int 0 0] }:=by
  rw[<- pd];exact Jq _ rfl
 have g1:((s.heap.push (yk w)).push { cls:=.type "list_iterator",data:=.fields #[.ref l,.int 0 0] }).get? d=some (yk w):=J8 _ (by rw[<- T];exact Jq _ rfl);have old:∀ b o,s.heap.get? b=some o->((s.heap.push (yk w)).push { cls:=.type "list_iterator",data:=.fields #[.ref l,.int 0 0] }).get? b=some o:=λb o e=>J8 _ (J8 _ e);generalize (s.heap.push (yk w)).push { cls:=.type "list_iterator",data:=.fields #[.ref l,.int 0 0] }=h0 at g0 g1 old ⊢
 have bl:∀ b o,s.heap.get? b=some o->b≠d/\b≠d+1:=λb o e=>by
  have z:b<d:=by rw[<- T];exact Jr e
  exact⟨JH z,JH (ZW z)⟩
 have n:d≠d+1:=JH (Nat.lt_succ_self d);refine kN (x:=.int i u) ⟨_,g0,rfl,rfl⟩ ⟨ol,old l ol B,L⟩ rfl λC ao H=>?_;have o1:C.get? d=some (yk w):=(H.2 d n).trans g1;have J:∀ b o,s.heap.get? b=some o->C.get? b=some o:=λb o e=>(H.2 b (bl b o e).2).trans (old b o e);refine kf (s:={ s with heap:=C }) (es:=#[]) (ep:=0) (t:=.fresh 0 0 (!byT w)) (es':=#[((i:Int),.int i u)]) (t':=ug (!byT w) (i%8)) o1 rfl rfl (λe S=>(nomatch S)) (by decide) rfl (by rw[wy i hi];exact cT _ _ i hi) rfl rfl (show 1<=99 from by decide) ?_;obtain⟨P,a1,a2,N⟩:=lR (es':=#[((i:Int),.int i u)]) (t':=ug (!byT w) (i%8)) o1 ⟨rfl,rfl,rfl⟩ rfl;have m:=Y8 C d (Obj.putSet #[((i:Int),.int i u)] (ug (!byT w) (i%8)));generalize C.update d (Obj.putSet #[((i:Int),.int i u)] (ug (!byT w) (i%8)))=h2 at a1 m ⊢
 have Z:h2.IsListIter (d+1) l 1:=by
  obtain⟨O,U,e2⟩:=ao;exact⟨O,(m.2 _ (Ne.symm n)).trans U,e2⟩
 have g:∀ b o,s.heap.get? b=some o->h2.get? b=some o:=λb o e=>(m.2 b (bl b o e).1).trans (J b o e);refine kN (x:=.int j v) Z ⟨ol,g l ol B,L⟩ rfl λp I G=>?_;have K:p.get? d=some P:=(G.2 d n).trans a1;have a:∀ b o,s.heap.get? b=some o->p.get? b=some o:=λb o e=>(G.2 b (bl b o e).2).trans (g b o e)
 have el:ElemsOf (intKind prog w) (#[((i:Int),Value.int i u)]).toList:=λe S=>by
  rw[show e=((i:Int),Value.int i u) from Ja.mp S];exact⟨⟨i,by simp[intKind,Value.isInt],(wy i hi).symm⟩,rfl⟩
 have led:byT w=false->(!byT w)=true:=λz=>by rw[z];rfl
 by_cases ne:i=j
 ·subst ne
  refine bJ (s:={ s with heap:=p,toks:=s.toks+1 }) (j:=0) K N rfl el (show 1<99 from by decide) ?_ ?_
  ·simp[intKind,Value.isInt]
  ·refine nE R I ⟨ol,a l ol B,L⟩ rfl λM D=>?_
   refine q M _ ⟨P,_,_,_,D d P n K,a2,N,rfl,rfl,led,?_,[(i:Int)],?_,?_⟩ λb o e=>D b o (bl b o e).2 (a b o e)
   ·by_cases F:byT w=true
    ·exact⟨_,qw F⟩
    ·exact⟨_,eU (by simpa using F) (Nat.mod_lt _ (by decide))⟩
   ·unfold wZ
    rw[Jf rfl]
   ·exact .cons ⟨_,rfl⟩ .nil
 ·obtain⟨y,r,X,W,h⟩:=cS (!byT w) (.int i u) (.int j v) hi hj ne
  have ab:(#[((i:Int),Value.int i u)]).toList.findIdx? (λe=>(intKind prog w).is (j:Int) e.2)=none:=by
   simp[intKind,Value.isInt];lia
  have ne':(i:Int)≠j:=λz=>ne (Int.ofNat.inj z)
  obtain⟨es',z2,z3,z4,h⟩:∃ es':Array (Int × Value),es'.size=2/\(∃ e f,es' = #[e,f])/\(∃ xs:List Int,xs.Perm (wZ i j)/\Vals (xs.map V.int) (es'.toList.map (·.2)))/\layNew (ug (!byT w) (i%8)) #[((i:Int),.int i u)] (j:Int) (.int j v)=(es',sN (!byT w) y r,false,false):=by
   rcases h with h|h
   ·exact⟨_,rfl,⟨_,_,rfl⟩,⟨[(i:Int),j],pE ne',.cons ⟨_,rfl⟩ (.cons ⟨_,rfl⟩ .nil)⟩,h⟩
   ·exact⟨_,rfl,⟨_,_,rfl⟩,⟨[(j:Int),i],(List.Perm.swap _ _ _).trans (pE ne'),.cons ⟨_,rfl⟩ (.cons ⟨_,rfl⟩ .nil)⟩,h⟩
  refine kf (s:={ s with heap:=p,toks:=s.toks+1 }) (es':=es') (t':=sN (!byT w) y r) K N rfl el (show 1<99 from by decide) ab (by rw[wy j hj];exact h) rfl rfl (by rw[z2];decide) ?_;obtain⟨o4,b1,b2,b3⟩:=lR (es':=es') (t':=sN (!byT w) y r) K a2 N;have k:=Y8 p d (Obj.putSet es' (sN (!byT w) y r));generalize p.update d (Obj.putSet es' (sN (!byT w) y r))=M at b1 k ⊢
  have Y:M.IsListIter (d+1) l 2:=by
   obtain⟨O,U,e2⟩:=I;exact⟨O,(k.2 _ (Ne.symm n)).trans U,e2⟩
  have c:∀ b o,s.heap.get? b=some o->M.get? b=some o:=λb o e=>(k.2 b (bl b o e).1).trans (a b o e);refine nE R Y ⟨ol,c l ol B,L⟩ rfl λh5 D=>?_;refine q h5 _ ⟨o4,_,_,_,D d o4 n b1,b2,b3,?_,rfl,led,?_,z4⟩ λb o e=>D b o (bl b o e).2 (c b o e)
  ·rw[z2];rfl
  ·obtain⟨e,f,rfl⟩:=z3
   by_cases F:byT w=true
   ·exact⟨_,qw F⟩
   ·exact⟨_,eT (by simpa using F) X W⟩
end
def tS (w:World)(a:Addr)(i j:Int):HO:=.ext (PhS w a i j)
theorem PhS.ok {P:Program}{w:World}{H:Hp}{h:Heap}{a:Addr}{i j:Int}(p:PhS w a i j h):ObjOk P w H h a (tS w a i j):=by
 obtain⟨o,d,e,t,b,c⟩:=id p;exact⟨p,⟨o,b⟩,λg f ⟨o,d,e,t,b,c⟩ s=>⟨o,d,e,t,s o b,c⟩⟩
def nmV:V->Int
 | .int i=>i
 | _=>0
theorem lI (i j:Int):(wZ i j).length<=2:=by
 unfold wZ
 repeat' split
 all_goals exact Nat.le_of_ble_eq_true rfl
theorem nY (i j:Int):((wZ i j).map V.int).Pairwise (λx y=>nmV x<=nmV y):=by
 unfold wZ;split
 ·exact YU _ _
 ·split
  ·exact .cons (λy a=>by rw[Ja.mp a];show i<=j;lia) (YU _ _)
  ·exact .cons (λy a=>by rw[Ja.mp a];show j<=i;simp_all) (YU _ _)
section
variable {X:Cx}
theorem iN (r:X.calm=true):CallR X (.type "set") (λvs H Q=>∃ l i j,vs=[.ref l]/\H l=some (.lst [.int i,.int j])/\0<=i/\i<16/\0<=j/\j<16/\∀ q,H q=none->Q (.ref q) (upd H q (tS X.w q i j))):=by
 intro pins s σ H vs a Q I c h;obtain⟨l,i,j,rfl,p,n,x,m,w,q⟩:=h;obtain⟨u,rfl,d⟩:=c.one;cases d;obtain⟨z,a,e,gt,f⟩:=I.hok l _ p;obtain⟨i,rfl⟩:=ZU n;obtain⟨j,rfl⟩:=ZU m;obtain⟨v,t,rfl,⟨B,rfl⟩,⟨A,rfl⟩⟩:=qz gt;refine eZ (I.ok.hd r) ⟨_,f,rfl,_,rfl⟩ (by lia) (by lia) λy b g k=>?_;exact⟨.ref _,_,I.laid (t':=b) (o:=tS X.w s.heap.objs.size i j) k (Je _) g.ok,rfl,q _ (I.hok.fresh (Je _))⟩
theorem qk (T:X.calm=true)(f:X.A.units+64<cLine):CallR X (.builtin "sorted") (λvs H Q=>∃ q i j,vs=[.ref q]/\H q=some (tS X.w q i j)/\∀ l,H l=none->Q (.ref l) (upd H l (.lst ((wZ i j).map V.int)))):=by
 intro pins s σ H vs us Q I M h;obtain⟨a,i,j,rfl,S,q⟩:=h;obtain⟨u,rfl,N⟩:=M.one;cases N;obtain⟨⟨o,n,ep,t,m,h2,h3,Z,Y,U,⟨sl,W⟩,w,pm,vs⟩,_,_⟩:=(show ObjOk X.prog X.w H s.heap a (tS X.w a i j) from I.hok a _ S);refine lL (kdu_collect (da h2 h3 Z Y U W) (I.ok.hd T) m ?_ λm A acc D g=>?_)
 ·have z:(n.toList.map λx=>x.2).length=(wZ i j).length:=by rw[<- vs.length,Jg,pm.length_eq]
  rw[Jg,Jx]at z;rw[z];exact JR (lI i j) (by decide)
 obtain⟨a1,a2⟩:=g
 have al:acc.toList=(uS X.w a ep n).toList.map (·.2):=by
  refine List.ext_getElem (by rw[Jg,Jx,Jx,a1,ve]) λk j1 j2=>?_;obtain⟨e,e1,e2⟩:=a2 k acc[k] (YL _);rw[List.getElem_map,ZB,ZB,e2];rw[(JU.mp e1).2]
 have b:acc.toList.Perm (n.toList.map λx=>x.2):=by rw[al];exact(rH _ _ _ _).map _
 have R:Rk H (w.map V.int) nmV:=.inl λx d=>by
  obtain⟨k,_,rfl⟩:=Jv.mp d;exact⟨k,rfl,rfl⟩
 obtain⟨ex,rel⟩:=vA vs R.kinds;have G:Vals (acc.toList.map vOf) acc.toList:=wO λu f=>rel u (b.mem_iff.mp f)
 have Ra:Rk H (acc.toList.map vOf) nmV:=.inl λx d=>by
  have:x∈w.map V.int:=by rw[ex];exact(b.map vOf).mem_iff.mp d
  obtain⟨k,_,rfl⟩:=Jv.mp this;exact⟨k,rfl,rfl⟩
 have p:Inv X pins σ H { s with heap:=m,toks:=A }:=I.kept D;obtain⟨E,r,v⟩:=zbH p f G Ra
 have C:acc.toList.length<=2:=by
  rw[b.length_eq,<- vs.length,Jg,pm.length_eq];exact lI i j
 refine⟨E,λu=>nmV (vOf u),JR C (by decide),r,v,λh' l e out lo eo po L O=>?_⟩;have F:Vals (out.map vOf) out:=wO λu f=>rel u (b.mem_iff.mp (po.mem_iff.mp f))
 have eq:out.map vOf=(wZ i j).map V.int:=by
  have B:(out.map vOf).Perm ((wZ i j).map V.int):=((po.trans b).map vOf).trans (by rw[<- ex];exact pm.map _);refine List.Perm.eq_of_pairwise (le:=λx y=>nmV x<=nmV y) (λx y d P K J=>?_) (List.pairwise_map.mpr L) (nY i j) B;obtain⟨D,_,rfl⟩:=Jv.mp (B.mem_iff.mp d);obtain⟨k2,_,rfl⟩:=Jv.mp P;exact JW V.int (Int.le_antisymm K J)
 refine⟨.ref l,_,p.laid (t':=A) (o:=.lst (out.map vOf)) (λc o q=>O c o q) lo ⟨?_,out,e,F,eo⟩,rfl,?_⟩
 ·rw[Jg,po.length_eq];exact JR C (by decide)
 ·rw[eq]
  exact q l (p.hok.fresh lo)
theorem bi (P:Program)(w:World):SetRl P w (tS w) where
 nw:=λ{X} b a c _=>by subst b a;exact iN c
 st:=λ{X} b a c d=>by subst b a;exact qk c d
end
end L2
namespace L2
open PySem PySem.Spec PyProof.Rows Own Bn
theorem zbF {i:Nat}{v:V}{σ:St}{H:Hp}{a u:TS}{D:Ends}(R:VK)(h:wa a u D (σ.set i (some v)) H):(λx b=>vQ i x σ b ({ nx:=wa a u D,rt:=R }:Ends).nx) v H:=h
end L2
namespace K37
open PySem L2 Own Bn
abbrev aB:Stmt:=top 33
def lK (K:PySem.W.Frag)(Pt:Addr):Sp:=λb H Q _=>∃ (a:Addr) (ns:List Int),b=[.ref a]/\SqL K H a (ns.map V.int)/\ns.length<=63/\H Pt=some (.tbl #[])/\∀ c,Q (.bl true) c
def Scr (K:PySem.W.Frag)(a:Addr)(xs:List V)(H:Hp):Prop:=H a=some (.lst xs)\/(∃ o,H a=some (.frz o (.lst xs)))\/∀ b,SqL K b a xs
theorem Scr.of {K:PySem.W.Frag}{a:Addr}{xs:List V}{H:Hp}(h:SqL K H a xs):Scr K a xs H:=by
 rcases h with (h|h)|h
 ·exact .inl h
 ·exact .inr (.inl h)
 ·exact .inr (.inr λb=>.inr h)
theorem Scr.sq {K:PySem.W.Frag}{a:Addr}{xs:List V}{H:Hp}(h:Scr K a xs H):SqL K H a xs:=by
 rcases h with h|h|h
 ·exact .inl (.inl h)
 ·exact .inl (.inr h)
 ·exact h H
theorem Scr.keep {K:PySem.W.Frag}{a:Addr}{xs:List V}{H H':Hp}(h:Scr K a xs H)(k:∀ o,H a=some o->(o=.lst xs\/∃ u,o=.frz u (.lst xs))->(∀ H',SqL K H' a xs)\/H' a=some o):Scr K a xs H':=by
 rcases h with h|⟨o,h⟩|h
 ·rcases k _ h (.inl rfl) with z|z
  ·exact .inr (.inr z)
  ·exact .inl z
 ·rcases k _ h (.inr ⟨o,rfl⟩) with z|z
  ·exact .inr (.inr z)
  ·exact .inr (.inl ⟨o,z⟩)
 ·exact .inr (.inr h)
structure LE (K:PySem.W.Frag) (a l Pt:Addr) (xs:List V) (H:Hp):Prop where
 S:Pk3 H l
 tab:TabQ qV Pt H
 scr:Scr K a xs H
 al:a≠l\/∀ H',SqL K H' a xs
section
variable {K:PySem.W.Frag}{a l Pt:Addr}{xs:List V}{H H':Hp}
theorem LE.same (h:LE K a l Pt xs H)(s:Same H H'):LE K a l Pt xs H':=⟨h.S.keep s,h.tab.same s,h.scr.keep λo e _=>.inr (s _ _ e),h.al⟩
theorem LE.pick (h:LE K a l Pt xs H)(d:Pk3 H' l)(b:But l H H'):LE K a l Pt xs H':=by
 obtain⟨f,c⟩:=h.S.lst;refine⟨d,h.tab.but b c,h.scr.keep λo e _=>?_,h.al⟩;rcases h.al with z|z
 ·exact .inr (b _ _ e z)
 ·exact .inl z
theorem LE.ver (h:LE K a l Pt xs H)(t:TabQ qV Pt H')(b:But Pt H H'):LE K a l Pt xs H':=by
 obtain⟨ls,f,_⟩:=h.tab;obtain⟨x,y,z,d,r⟩:=h.S.ex;refine⟨⟨x,y,z,b _ _ d (yQ d f λq=>by cases q),r⟩,t,h.scr.keep λo e c=>.inr (b _ _ e λq=>?_),h.al⟩;rw[q,f]at e;cases e;rcases c with c|⟨u,c⟩<;>cases c
theorem wF {q:Str}(t:TabQ q Pt H)(b:But Pt H H'):Tups H H':=λc d e=>by
 obtain⟨ls,a,_⟩:=t;exact b _ _ e (yQ e a λq=>by cases q)
end
theorem Lns.len {lanes:Nat}{moves:List Nat}(h:Lns lanes moves):moves.length<=lanes:=by
 have:=uZ (l:=moves) (ks:=List.range lanes) (h.up.imp λz=>JH z) λx a=>Zm.mpr (h.lt x a)
 rwa [YW]at this
section
variable {P:Program}{w:World}{K:PySem.W.Frag}{mg:Str->Option Value}{base:Heap}
theorem uQ:FnScope ["_law_script","_law_k","_law_left_here","_law_size","_law_wood","_law_lanes","_law_stairs_net","_law_cut","_law_net","_law_some_here","_law_fewer","_law_lot"] ["_law_script"] (zN aB):=by rfl'
theorem aj {SX:Addr->Int->Int->HO}{f fL fK fM fC fS fV fR fE Pt:Addr}{fd dL dK dM dC dS dV dR dE:FuncData}(F:Fun K "law" "law" aB f fd) (G:Mgs mg) (GS:MgSet mg) (SR:SetRl P w SX) (UL:Use P w K mg base "_law_left" ["_law_script","_law_k"] 1 (qC K) fL dL) (UK:Use P w K mg base "_law_pick" ["_law_left_here","_law_many"] 1 vF fK dK) (UM:Use P w K mg base "_law_made" ["_law_way","_law_k"] 11 n5 fM dM) (UC:Use P w K mg base "_law_changed" ["_law_left_here","_law_net"] 2 gB fC dC) (US:Use P w K mg base "_law_some" ["_law_left_here","_law_net"] 2 qB fS dS)
  (B:Use P w K mg base "verdict" ["net","some","most"] 8 (vX qV Pt) fV dV) (UR:Use P w K mg base "_law_verdict" ["_law_net","_law_some_here","_law_most"] 3 i4 fR dR) (UE:Use P w K mg base "_law_same" ["_law_found","_law_due"] 1 i5 fE dE):FnOk P w K mg base CX0 12 f fd ["_law_script"] (lK K Pt):=by
 refine F.ok uQ (λvs H Q E h=>?_) (λhq A outer s H vs Q E hr h=>?_)
 ·obtain⟨a,ns,rfl,_⟩:=h
  rfl
 obtain⟨a,ns,rfl,hS,gg,fB,k⟩:=h;have tab:TabQ qV Pt H:=⟨[],fB,λp hp=>absurd hp Jz⟩;have bB:Room 1 _:=hr.mono (by decide);have ej:Room 2 _:=hr.mono (by decide);have c7:Room 3 _:=hr.mono (by decide);have bu:Room 8 _:=hr.mono (by decide);have ct:Room 11 _:=hr.mono (by decide);refine⟨_,(@zE _ _ _ _ _ (@xG _ _ _ _ _ _ _ _ Yp rfl (@vc _ _ _ _ _ _ rfl G.range (@zA _ _ _ _ _ (@zU _ _ _ _ _ _ _ _ _ (iO rfl) (by rfl) G.max (by rfl) (@zA _ _ _ _ _ zH (@zA _ _ _ _ _ (@zU _ _ _ _ _ _ _ _ _ (rh rfl) (by rfl) G.min (by rfl) (@zA _ _ _ _ _ (@zU _ _ _ _ _ _ _ _ _ zo (by rfl) G.len Yd (@zA _ _ _ _ _ (@qv _ 0 _ _ (by rfl')) zC (by rfl)) (by decide) (by decide) (by rfl) (by rfl)) (@zA _ _ _ _ _ zH zC (by rfl)) (by rfl)) (by decide) (by decide) (by rfl) (by rfl)) zC (by rfl)) (by rfl)) (by decide) (by decide) (by rfl) (by rfl)) zC (by rfl)) (by rfl)) (@zM _ _ 1 _ uQ.nd rfl (.inl rfl) (by rfl')) (@zE _ _ _ _ _ (@zp _ _ 2 _ _ _ _ uQ.nd rfl (.inr rfl) (@zR _ _ _ _ _ _ _ _ _ _ _ _ _ _ _ _ UL.ok bB (by rfl) UL.m UL.kp UL.b .nil zu (@zA _ _ _ _ _ (@qv _ 0 _ _ (by rfl')) (@zA _ _ _ _ _ (@qv _ 1 _ _ (by rfl')) zC (by rfl)) (by rfl)) (by decide) (by rfl) (by rfl)) (by rfl) (by rfl')) (@zE _ _ _ _ _ (@zp _ _ 3 _ _ _ _ uQ.nd rfl (.inl rfl) (@zS _ _ _ _ _ _ _ _ yY zH (@zR _ _ _ _ _ _ _ _ _ _ _ _ _ _ _ _ UK.ok bB (by rfl) UK.m UK.kp UK.b .nil zu (@zA _ _ _ _ _ (@qv _ 2 _ _ (by rfl')) (@zA _ _ _ _ _ zH zC (by rfl)) (by rfl)) (by decide) (by rfl) (by rfl))) (by rfl) (by rfl')) (@zE _ _ _ _ _ (@zp _ _ 4 _ _ _ _ uQ.nd rfl (.inl rfl) (@zR _ _ _ _ _ _ _ _ _ _ _ _ _ _ _ _ UM.ok ct (by rfl) UM.m UM.kp UM.b .nil zu (@zA _ _ _ _ _ zH (@zA _ _ _ _ _ (@qv _ 3 _ _ (by rfl')) zC (by rfl)) (by rfl)) (by decide) (by rfl) (by rfl)) (by rfl) (by rfl')) (@zE _ _ _ _ _ (@zp _ _ 5 _ _ _ _ uQ.nd rfl (.inl rfl) (@zi _ _ _ _ _ _ _ yA (@qv _ 4 _ _ (by rfl')) zH (λ_ _=>rfl)) (by rfl) (by rfl')) (@zE _ _ _ _ _ (@yO _ _ _ _ _ _ _ _ (@zY _ _ _ _ _ _ _ _ oF (@zi _ _ _ _ _ _ _ yA (@zR _ _ _ _ _ _ _ _ _ _ _ _ _ _ _ _ B.ok bu (by rfl) B.m B.kp B.b .nil zu (@zA _ _ _ _ _ (@qv _ 4 _ _ (by rfl')) (@zA _ _ _ _ _ (@zT _ _ _ _ _ (@zA _ _ _ _ _ zH zC (by rfl))) (@zA _ _ _ _ _ zH zC (by rfl)) (by rfl)) (by rfl)) (by decide) (by rfl) (by rfl)) zH (λ_ _=>rfl)) xH (zw _)) (@zJ _ _ _ (@zV _ _ _ _ uI)) zr) (@zE _ _ _ _ _ (@yO _ _ _ _ _ _ _ _ (@zY _ _ _ _ _ _ _ _ oF (@vL _ _ _ _ _ _ _ _ xA (@zi _ _ _ _ _ _ _ yA (@zR _ _ _ _ _ _ _ _ _ _ _ _ _ _ _ _ B.ok bu (by rfl) B.m B.kp B.b .nil zu (@zA _ _ _ _ _ (@qv _ 4 _ _ (by rfl')) (@zA _ _ _ _ _ (@zT _ _ _ _ _ (@zA _ _ _ _ _ zH (@zA _ _ _ _ _ (@zS _ _ _ _ _ _ _ _ vf (@qv _ 5 _ _ (by rfl')) zH) zC (by rfl)) (by rfl))) (@zA _ _ _ _ _ zH zC (by rfl)) (by rfl)) (by rfl)) (by decide) (by rfl) (by rfl)) zH (λ_ _=>rfl)) xH (zw _)) (@vL _ _ _ _ _ _ _ _ xA (@qv _ 5 _ _ (by rfl')) zH (zw _)) (zw _)) (@zJ _ _ _ (@zV _ _ _ _ uI)) zr) (@zE _ _ _ _ _ (@zp _ _ 6 _ _ _ _ uQ.nd rfl (.inl rfl) (@zR _ _ _ _ _ _ _ _ _ _ _ _ _ _ _ _ UM.ok ct (by rfl) UM.m UM.kp UM.b .nil zu (@zA _ _ _ _ _ zH (@zA _ _ _ _ _ (@zU _ _ _ _ _ _ _ _ _ (rh rfl) (by rfl) G.min (by rfl) (@zA _ _ _ _ _ zH (@zA _ _ _ _ _ (@qv _ 3 _ _ (by rfl')) zC (by rfl)) (by rfl)) (by decide) (by decide) (by rfl) (by rfl)) zC (by rfl)) (by rfl)) (by decide) (by rfl) (by rfl)) (by rfl) (by rfl')) (@zE _ _ _ _ _ (@zp _ _ 7 _ _ _ _ uQ.nd rfl (.inl rfl) (@zT _ _ _ _ _ (@zA _ _ _ _ _ (@zi _ _ _ _ _ _ _ yA (@qv _ 6 _ _ (by rfl')) zH (λ_ _=>rfl)) (@zA _ _ _ _ _ (@zx _ _ _ _ _ _ _ _ _ _ yX (@zi _ _ _ _ _ _ _ yA (@qv _ 6 _ _ (by rfl')) zH (λ_ _=>rfl)) (@zt _ _ _ (@zR _ _ _ _ _ _ _ _ _ _ _ _ _ _ _ _ UK.ok bB (by rfl) UK.m UK.kp UK.b .nil zu (@zA _ _ _ _ _ (@qv _ 2 _ _ (by rfl')) (@zA _ _ _ _ _ zH zC (by rfl)) (by rfl)) (by decide) (by rfl) (by rfl))) yH) (@zA _ _ _ _ _ (@zi _ _ _ _ _ _ _ yA (@qv _ 6 _ _ (by rfl')) zH (λ_ _=>rfl)) zC (by rfl)) (by rfl)) (by rfl))) (by rfl) (by rfl')) (@zJ _ _ _ (@xG _ _ _ _ _ _ _ _ Yp rfl (@vZ _ _ _ _ (@zT _ _ _ _ _ (@zA _ _ _ _ _ (@qv _ 4 _ _ (by rfl')) (@zA _ _ _ _ _ (@zR _ _ _ _ _ _ _ _ _ _ _ _ _ _ _ _ UC.ok ej (by rfl) UC.m UC.kp UC.b .nil zu (@zA _ _ _ _ _ (@qv _ 2 _ _ (by rfl')) (@zA _ _ _ _ _ (@qv _ 4 _ _ (by rfl')) zC (by rfl)) (by rfl)) (by decide) (by rfl) (by rfl)) (@zA _ _ _ _ _ (@qv _ 7 _ _ (by rfl')) zC (by rfl)) (by rfl)) (by rfl)))) (@zM _ _ 8 _ uQ.nd rfl (.inl rfl) (by rfl')) (@zE _ _ _ _ _ (@zp _ _ 9 _ _ _ _ uQ.nd rfl (.inl rfl) (@zR _ _ _ _ _ _ _ _ _ _ _ _ _ _ _ _ US.ok ej (by rfl) US.m US.kp US.b .nil zu (@zA _ _ _ _ _ (@qv _ 2 _ _ (by rfl')) (@zA _ _ _ _ _ (@qv _ 8 _ _ (by rfl')) zC (by rfl)) (by rfl)) (by decide) (by rfl) (by rfl)) (by rfl) (by rfl')) (@zE _ _ _ _ _ (@zp _ _ 10 _ _ _ _ uQ.nd rfl (.inl rfl) (@zv _ _ _ _ _ _ _ _ _ zz (by rfl) G.tuple (by rfl) (@zA _ _ _ _ _ (@gm _ _ _ _ (some _) _ _ _ _ _ _ ["_law_lane","_law_left_here"] [none,some 2] rfl (@vZ _ _ _ _ (@qv _ 9 _ _ (by rfl'))) (CapOk.of (by kernel_rfl)) (λ_ _ _ _ _=>(@zM _ _ 0 _ (show (["_law_lane","_law_left_here"]:List Str).Nodup from by decide +kernel) rfl (.inl rfl) (.inr rfl))) (λ_ _ _ _ _=>(@lS _ _ _ (@zY _ _ _ _ _ _ _ _ xA (@zR _ _ _ _ _ _ _ _ _ _ _ _ _ _ _ _ UK.ok bB (by rfl) UK.m UK.kp UK.b .nil zu (@zA _ _ _ _ _ (@qv _ 1 _ _ (by rfl')) (@zA _ _ _ _ _ zH zC (by rfl)) (by rfl)) (by decide) (by rfl) (by rfl)) zH (zw _)))) (λ_ _ _ _ _=>(@qv _ 0 _ _ (by rfl'))) (by intro _;rfl)) zC (by rfl)) (by decide) (by decide) (by rfl) (by rfl)) (by rfl) (by rfl')) (@zE _ _ _ _ _ (@xG _ _ _ _ _ _ _ _ Yp rfl (@vZ _ _ _ _ (@zT _ _ _ _ _ (@zA _ _ _ _ _ (@qv _ 9 _ _ (by rfl')) (@zA _ _ _ _ _ (@zT _ _ _ _ _ (@zA _ _ _ _ _ (@zi _ _ _ _ _ _ _ yA (@qv _ 9 _ _ (by rfl')) zH (λ_ _=>rfl)) zC (by rfl))) (@zA _ _ _ _ _ (@zT _ _ _ _ _ (@zA _ _ _ _ _ (@zi _ _ _ _ _ _ _ yA (@qv _ 9 _ _ (by rfl')) (@bP _ _ _ _ _ _ ig zH) (λ_ _=>rfl)) zC (by rfl))) (@zA _ _ _ _ _ (@zv _ _ _ _ _ _ _ _ _ zz (by rfl) G.tuple (by rfl) (@zA _ _ _ _ _ (@zU _ _ _ _ _ _ _ _ _ (SR.st rfl rfl rfl hr.units) (by rfl) G.sorted (by rfl) (@zA _ _ _ _ _ (@zv _ _ _ _ _ _ _ _ _ (SR.nw rfl rfl rfl hr.units) (by rfl) GS.set (by rfl) (@zA _ _ _ _ _ (@yR _ _ _ _ (@zA _ _ _ _ _ (@zi _ _ _ _ _ _ _ yA (@qv _ 9 _ _ (by rfl')) zH (λ_ _=>rfl)) (@zA _ _ _ _ _ (@zi _ _ _ _ _ _ _ yA (@qv _ 9 _ _ (by rfl')) (@bP _ _ _ _ _ _ ig zH) (λ_ _=>rfl)) zC (by rfl)) (by rfl))) zC (by rfl)) (by decide) (by decide) (by rfl) (by rfl)) zC (by rfl)) (by decide) (by decide) (by rfl) (by rfl)) zC (by rfl)) (by decide) (by decide) (by rfl) (by rfl)) zC (by rfl)) (by rfl)) (by rfl)) (by rfl)))) (@zM _ _ 11 _ uQ.nd rfl (.inl rfl) (by rfl')) (@zJ _ _ _ (@yO _ _ _ _ _ _ _ _ (@aL _ _ _ _ (@pX _ _ _ (@zR _ _ _ _ _ _ _ _ _ _ _ _ _ _ _ _ UE.ok bB (by rfl) UE.m UE.kp UE.b .nil zu (@zA _ _ _ _ _ (@zR _ _ _ _ _ _ _ _ _ _ _ _ _ _ _ _ B.ok bu (by rfl) B.m B.kp B.b .nil zu (@zA _ _ _ _ _ (@qv _ 8 _ _ (by rfl')) (@zA _ _ _ _ _ (@qv _ 11 _ _ (by rfl')) (@zA _ _ _ _ _ zH zC (by rfl)) (by rfl)) (by rfl)) (by decide) (by rfl) (by rfl)) (@zA _ _ _ _ _ (@zR _ _ _ _ _ _ _ _ _ _ _ _ _ _ _ _ UR.ok c7 (by rfl) UR.m UR.kp UR.b .nil zu (@zA _ _ _ _ _ (@qv _ 8 _ _ (by rfl')) (@zA _ _ _ _ _ (@qv _ 11 _ _ (by rfl')) (@zA _ _ _ _ _ zH zC (by rfl)) (by rfl)) (by rfl)) (by decide) (by rfl) (by rfl)) zC (by rfl)) (by rfl)) (by decide) (by rfl) (by rfl)) (λ_=>rfl))) (@zJ _ _ _ (@zV _ _ _ _ uI)) zr)) (by intro _;rfl)) (@zJ _ _ _ (@yO _ _ _ _ _ _ _ _ (@gY _ _ _ _ _ _ _ (@zY _ _ _ _ _ _ _ _ xA (@zi _ _ _ _ _ _ _ yA (@zR _ _ _ _ _ _ _ _ _ _ _ _ _ _ _ _ B.ok bu (by rfl) B.m B.kp B.b .nil zu (@zA _ _ _ _ _ (@qv _ 8 _ _ (by rfl')) (@zA _ _ _ _ _ (@qv _ 9 _ _ (by rfl')) (@zA _ _ _ _ _ zH zC (by rfl)) (by rfl)) (by rfl)) (by decide) (by rfl) (by rfl)) zH (λ_ _=>rfl)) xH (zw _)) (@lQ _ _ _ _ (@zY _ _ _ _ _ _ _ _ (aU hr.units0) (@qv _ 10 _ _ (by rfl')) (@zT _ _ _ _ _ zC) (zw _)))).pt (@zJ _ _ _ (@yO _ _ _ _ _ _ _ _ (@zY _ _ _ _ _ _ _ _ oF (@zi _ _ _ _ _ _ _ yA (@zR _ _ _ _ _ _ _ _ _ _ _ _ _ _ _ _ B.ok bu (by rfl) B.m B.kp B.b .nil zu (@zA _ _ _ _ _ (@qv _ 8 _ _ (by rfl')) (@zA _ _ _ _ _ (@qv _ 10 _ _ (by rfl')) (@zA _ _ _ _ _ zH zC (by rfl)) (by rfl)) (by rfl)) (by decide) (by rfl) (by rfl)) zH (λ_ _=>rfl)) xH (zw _)) (@zJ _ _ _ (@zV _ _ _ _ uI)) zr)) zr))))) (by intro _;rfl))))))))))) (by intro _;rfl)) (@zJ _ _ _ (@zV _ _ _ _ uI))),?_⟩;have ml:(ns.map V.int).length=ns.length:=Jg _;refine⟨_,rfl,a,_,rfl,.inl hS,_,_,rfl,_,_,rfl,?_⟩;rw[ml]
 have e6:(if (if (6:Int)<(ns.length:Nat) then (6:Int) else (ns.length:Nat)) > 1 then (if (6:Int)<(ns.length:Nat) then (6:Int) else (ns.length:Nat)) else 1)<=6/\(1:Int)<=(if (if (6:Int)<(ns.length:Nat) then (6:Int) else (ns.length:Nat)) > 1 then (if (6:Int)<(ns.length:Nat) then (6:Int) else (ns.length:Nat)) else 1):=by
  split<;>split at *<;>lia
 refine⟨_,rfl,by omega,by omega,?_⟩;generalize (if (if (6:Int)<(ns.length:Nat) then (6:Int) else (ns.length:Nat)) > 1 then (if (6:Int)<(ns.length:Nat) then (6:Int) else (ns.length:Nat)) else 1)=cnt at e6;refine iD (lo:=0) (n:=cnt.toNat) (λi σ H2=>(∃ v1 v2 v3 v4 v5 v6 v7 v8 v9 v10 v11,σ=[some (.ref a),v1,v2,v3,v4,v5,v6,v7,v8,v9,v10,v11])/\Scr K a (ns.map V.int) H2/\TabQ qV Pt H2) ⟨⟨_,_,_,_,_,_,_,_,_,_,_,rfl⟩,Scr.of hS,tab⟩ ?_ ?_
 rotate_left
 ·rintro σ H2 ⟨⟨v1,v2,v3,v4,v5,v6,v7,v8,v9,v10,v11,rfl⟩,a9,tab⟩
  exact k _
 rintro i σ H2 hi ⟨⟨v1,v2,v3,v4,v5,v6,v7,v8,v9,v10,v11,rfl⟩,a9,tab⟩;have i6:i<6:=by lia
 refine kh (λD0 gc=>?_);refine yF (λD1 f9=>?_);refine⟨_,rfl,_,rfl,a,ns,_,rfl,a9.sq,gg,by simp_all,by lia,λl H3 hl s3 S3=>?_⟩
 have X:LE K a l Pt (ns.map V.int) H3:=⟨S3,tab.same s3,a9.keep λo e _=>.inr (s3 _ _ e),by
  rcases a9 with z|⟨o,z⟩|z
  ·exact .inl (zF z hl)
  ·exact .inl (zF z hl)
  ·exact .inr z⟩
 clear a9 tab s3 hl;refine f9 _ _ ?_;refine yF (λD2 f7=>?_);refine⟨_,rfl,l,3,rfl,by decide,by decide,X.S,λsz H4 ha S4 B4=>?_⟩;have bt:=X.pick S4 B4;refine⟨_,_,rfl,rfl,f7 _ _ ?_⟩;refine yF (λD3 f6=>?_);refine⟨_,rfl,1,1+sz,?_,by lia,λr fr er ps H5 s5 na=>?_⟩
 ·rfl
 have bo:=bt.same s5;have ew:yc 1 (1+sz)=xq (1+sz):=by unfold yc;rw[Jd (by decide),Jf rfl]
 have a5:=kD (way:=1) (k:=1+sz) (by lia);have w1:=iY (1+sz) (by lia);have w2:=iX (1+sz) (by lia) (by lia);have lw:(yc 1 (1+sz)).lanes=2 ^ (1+sz):=tN 1 (1+sz);have lp:=a5.l1;have d7:=a5.l16;rw[<- ew]at w1 w2
 have fw:(yc 1 (1+sz)).forks.length<=40:=by
  rw[ew];have z:∀ s,s<4->(xq s).forks.length<=40:=by decide +kernel
  exact z _ (by lia)
 have l8:(yc 1 (1+sz)).lanes<=16:=d7;clear ew B4 X bt s5 S4;generalize yc 1 (1+sz)=W at *;refine f6 _ _ ?_;refine⟨_,rfl,r,_,_,_,rfl,rfl,SqT.of na.net,rfl,?_⟩;refine zbF (λ_ _=>True) ?_;refine yF (λD4 f5=>?_);refine⟨_,rfl,by show 1<=sizeLine;decide,λt1 eh=>?_⟩;have s6:=zB eh (.tup [.int 0]);have a7:=bo.same s6;have dt:=na.tups (Tups.of s6);refine⟨r,fr,er,ps,W,t1,[0],4000,rfl,a5,dt,zD,λm D=>by rw[Ja.mp D];exact lp,by decide,by decide,.inl (by decide),a7.tab,λq1 H7 B7 b4 J=>?_⟩;have u:=a7.ver b4 B7;have R:=dt.tups (wF a7.tab B7);obtain⟨x1,el⟩:=wP J;refine⟨q1,_,_,_,rfl,rfl,SqT.of el,rfl,rfl,_,rfl,?_⟩;rw[qX,w1];refine yg ?_;clear B7 b4 J el bo a7 na dt s6 eh;refine f5 _ _ ?_;refine yF (λC4 gd=>?_);refine⟨_,rfl,_,rfl,_,_,rfl,rfl,by show 2<=sizeLine;decide,λt2 eg=>?_⟩;have s8:=zB eg (.tup [.int 0,.int ((W.lanes:Nat)-1)]);have t:=u.same s8;have dr:=R.tups (Tups.of s8)
 have et:L2.upd H7 t2 (.tup [.int 0,.int ((W.lanes:Nat)-1)]) t2=some (.tup ([0,W.lanes-1].map λm=>V.int ((m:Nat):Int))):=by
  rw[zD];show some (HO.tup [.int 0,.int (((W.lanes:Nat):Int)-1)])=some (HO.tup [.int ((0:Nat):Int),.int ((W.lanes-1:Nat):Int)]);rw[Int.ofNat_sub lp];rfl
 refine⟨r,fr,er,ps,W,t2,[0,W.lanes-1],4000,rfl,a5,dr,et,λm D=>?_,by show 2<=16;decide,by decide,.inl (by decide),t.tab,λq2 H9 B9 b3 I=>?_⟩
 ·rcases Js.mp D with rfl|z
  ·exact lp
  ·rw[Ja.mp z];omega
 have a6:=t.ver b3 B9;have eb:=dr.tups (wF t.tab B9);obtain⟨x2,ek⟩:=wP I;refine⟨q2,_,_,_,rfl,rfl,SqT.of ek,rfl,rfl,?_⟩;refine⟨_,rfl,rfl,rfl,_,rfl,?_⟩
 rw[qX,w2,show decide (V.int (W.lanes:Nat)=V.int 2)=decide (W.lanes=2) from by
  by_cases z:W.lanes=2
  ·rw[z];rfl
  ·rw[Jt z];exact Jt λy=>z (by injection y with y;lia),JD rfl]
 refine yg ?_;clear B9 b3 I ek u t R dr s8 eg et w1 w2 H7 q1 q2 t1 t2 x1 x2;refine gd _ _ ?_;refine yF (λD5 f3=>?_)
 have mn:∃ k2:Nat,k2<=2/\(if (1:Int)+(sz:Nat)<2 then (1:Int)+(sz:Nat) else 2)=((k2:Nat):Int):=by
  split
  ·exact⟨1+sz,by lia,by simp_all⟩
  ·exact⟨2,by decide,rfl⟩
 obtain⟨k2,hh,g5⟩:=mn;refine⟨_,rfl,_,_,rfl,0,k2,?_,by lia,λr2 gP b2 fe g6 a4 c4=>?_⟩
 ·exact JW (λz=>[V.int 0,V.int z]) g5
 have C:=a6.same a4;have b8:=eb.tups (Tups.of a4);have c3:=kD (way:=0) (k:=k2) (by lia);have es:yc 0 k2=xS k2:=by unfold yc;rw[Jf rfl]
 have f2:(yc 0 k2).forks.length<=40/\(yc 0 k2).lanes<=16:=by
  rw[es];have z:∀ s,s<3->(xS s).forks.length<=40/\(xS s).lanes<=16:=by decide +kernel
  exact z _ (by lia)
 generalize yc 0 k2=N2 at *;refine f3 _ _ ?_;refine yF (λD6 fT=>?_);refine⟨_,rfl,r2,_,_,_,rfl,rfl,SqT.of c4.net,rfl,?_⟩;refine⟨_,rfl,r2,_,_,_,rfl,rfl,SqT.of c4.net,rfl,?_⟩;refine⟨_,rfl,l,3,rfl,by decide,by decide,C.S,λcv hs ho e3 d0=>?_⟩;have cf:=C.pick e3 d0;have dp:=d0.tups3 C.S;have b7:=b8.tups dp;have aT:=c4.tups dp;refine⟨_,rfl,gP,_,rfl,aT.forks,λbl e4 c2 dG=>?_⟩;rw[nK]at dG;have cc:=cf.same c2;have b6:=b7.tups (Tups.of c2);have Z:=aT.tups (Tups.of c2);refine⟨_,rfl,r2,_,_,_,rfl,rfl,SqT.of Z.net,rfl,by show 3<=sizeLine;decide,λr3 c7=>?_⟩;have a3:=zB c7 (.tup [.int (N2.lanes:Nat),.ref bl,.ref b2]);have ab:=cc.same a3;have a0:=b6.tups (Tups.of a3);have n3:NetAt (L2.upd e4 r3 (.tup [.int (N2.lanes:Nat),.ref bl,.ref b2])) r3 bl b2 (fe.drop cv) ⟨N2.lanes,N2.forks.drop cv,N2.ends⟩:=⟨zD,a3 _ _ dG,y8 cv (Z.prs.tups (Tups.of a3)),a3 _ _ Z.ends⟩;have hj:(N2.forks.drop cv).length<=40:=by rw[Yh];lia
 have ff:Nt.Ok ⟨N2.lanes,N2.forks.drop cv,N2.ends⟩:=⟨c3.l1,c3.l16,by show (N2.forks.drop cv).length<=128;lia,λf hf=>c3.fk f (Wg hf),c3.en⟩;generalize L2.upd e4 r3 (.tup [.int (N2.lanes:Nat),.ref bl,.ref b2])=H13 at *;clear a6 C cf cc eb b8 b7 b6 aT Z c4 a4 c2 a3 c7 dG d0 e3 dp;refine fT _ _ ?_;refine⟨_,rfl,_,rfl,_,rfl,l,r,fr,er,ps,W,16,40,rfl,ab.S,⟨a5,l8,fw⟩,by decide,a0,λrc gs g4 fb Nc dP cH hn ea e1 dT=>?_⟩;have cb:=ab.pick e1 dT;have dn:=dT.tups3 ab.S;have b5:=a0.tups dn;have b9:=n3.tups dn;refine⟨_,rfl,by show 3<=sizeLine;decide,λT hT=>?_⟩;have ba:=zB hT (.tup [.ref r,.ref rc,.ref r3]);have d6:=cb.same ba
 have d3:∀ x∈[V.ref r,V.ref rc,V.ref r3],∃ rx fx ex px N,x=.ref rx/\NetAt (L2.upd dP T (.tup [.ref r,.ref rc,.ref r3])) rx fx ex px N/\Nt.Ok N/\N.forks.length<=60:=by
  intro x hx;rcases Js.mp hx with rfl|dF
  ·exact⟨r,fr,er,ps,W,rfl,b5.tups (Tups.of ba),a5,by lia⟩
  rcases Js.mp dF with rfl|dD
  ·exact⟨rc,gs,g4,fb,Nc,rfl,ea.tups (Tups.of ba),cH.ok,by have:=cH.fk;lia⟩
  rw[Ja.mp dD];exact⟨r3,bl,b2,_,_,rfl,b9.tups (Tups.of ba),ff,by show (N2.forks.drop cv).length<=60;lia⟩
 refine⟨T,rfl,⟨_,SqT.of zD⟩,?_⟩;have d8:L2.upd dP T (.tup [.ref r,.ref rc,.ref r3]) T=some (.tup [.ref r,.ref rc,.ref r3]):=zD;generalize L2.upd dP T (.tup [.ref r,.ref rc,.ref r3])=H15 at *;clear ab cb a0 b5 n3 b9 ea ba hT dT e1 dn;refine uc (K:=K) (a:=T) (xs:=[.ref r,.ref rc,.ref r3]) (λj σ H2=>(∃ v8 v9 v10 v11,σ=[some (.ref a),some (.int (0+(i:Nat))),some (.ref l),some (.int (1+(sz:Nat))),some (.ref r),some (.int (W.lanes:Nat)),some (.ref r2),some (.ref r3),v8,v9,v10,v11])/\LE K a l Pt (ns.map V.int) H2/\Tups H15 H2) ⟨⟨_,_,_,_,rfl⟩,d6,λb xs e=>e⟩ (λj σ H2 _ z=>SqT.of (z.2.2 _ _ d8)) ?_ ?_
 rotate_left
 ·rintro σ H2 ⟨⟨v8,v9,v10,v11,rfl⟩,le,_⟩
  exact gc _ _ ⟨⟨_,_,_,_,_,_,_,_,_,_,_,rfl⟩,le.scr,le.tab⟩
 rintro j x σ H2 hx ⟨⟨v8,v9,v10,v11,rfl⟩,le2,t2⟩;obtain⟨rn,bS,b1,bc,N,rfl,nan,U,g0⟩:=d3 x (JQ hx);have d4:=nan.tups t2;have hc:=U.l16;refine kh (λE0 dB=>?_);refine yF (λE1 fP=>?_);refine⟨_,rfl,_,rfl,l,rn,bS,b1,bc,N,rfl,le2.S,U,d4,λp moves H3 ln hp S3 B3=>?_⟩;have X:=le2.pick S3 B3;have t3:=t2.trans (B3.tups3 le2.S);have fk:=nan.tups t3;have g7:=ln.len;refine fP _ _ ?_;refine yF (λE2 fN=>?_);have a8:=X.S;refine⟨_,rfl,p,rfl,⟨_,SqT.of hp⟩,λlc c9=>?_⟩;have dq:=a8.ne c9;have e0:Frs l H3 lc:=λb o e _=>zF e c9;refine cR (K:=K) (a:=p) (xs:=zQ moves) (λj acc σ H4=>(∃ v0,σ=[v0,some (.ref l)])/\Pk3 H4 l/\But l H3 H4/\H4 lc=some (.lst acc)/\∃ ms:List Nat,acc=zQ ms/\ms.length<=j/\∀ m∈ms,m∈moves) ⟨⟨_,rfl⟩,a8.upd dq,But.of (zB c9 _),zW c9 _,[],rfl,Je _,λm D=>(nomatch D)⟩ (λj acc σ H4 z=>⟨z.2.2.2.1,SqT.of (z.2.2.1.tups3 a8 _ _ hp)⟩) ?_ ?_
 ·rintro j x acc σ H4 hx ⟨⟨v0,rfl⟩,S4,B4,h4,ms,rfl,hb,mm⟩
  obtain⟨jl,rfl⟩:=tK hx
  have jm:moves.getD j 0∈moves:=by
   rw[Ju,J9 jl];exact YM jl
  refine⟨_,rfl,l,2,rfl,by decide,by decide,S4,λv H5 hv S5 B5=>⟨rfl,_,rfl,?_⟩⟩;have h5:=B5 lc _ h4 dq.symm;refine sQ (λ_=>?_) (λ_=>?_)
  ·refine⟨_,rfl,h5,by rw[zZ,JG];lia,nx (by rw[zZ];exact jl) ⟨⟨_,rfl⟩,S5.upd dq,(B4.trans B5).upd e0,zD,ms++[moves.getD j 0],?_,by rw[Jb];show _+1<=_;simp_all,λm D=>?_⟩⟩
   ·rw[<- om];rfl
   ·rcases Jy.mp D with y|y
    ·exact mm m y
    ·rw[Ja.mp y];exact jm
  ·exact nx (by rw[zZ];exact jl) ⟨⟨_,rfl⟩,S5,B4.trans B5,h5,ms,rfl,by lia,mm⟩
 rintro acc σ H4 ⟨⟨v0,rfl⟩,S4,B4,h4,fm,rfl,gV,eN⟩;rw[zZ]at gV;have bt:=X.pick S4 B4;have t4:=t3.trans (B4.tups3 a8);have eo:=B4.tups3 a8 _ _ hp;clear a8 e0 hp t3 fk B3 S3 X;refine⟨lc,_,rfl,.inl ⟨SqL.of h4,λpf en=>?_⟩⟩;have s5:=zB en (.tup (zQ fm));have bo:=bt.same s5;have t5:=t4.trans (Tups.of s5);have Y:=s5 _ _ eo;have ey:L2.upd H4 pf (.tup (zQ fm)) pf=some (.tup (zQ fm)):=zD;generalize L2.upd H4 pf (.tup (zQ fm))=H5 at *;clear bt t4 eo h4 en B4 S4 s5;refine fN _ _ ?_;refine yF (λE3 fG=>?_)
 obtain⟨c,b0,dH⟩:∃ c:Nat,c∈moves/\atI (zQ moves) 0=some (.int (c:Nat)):=by
  have z:0<moves.length:=YY.mpr ln.ne;refine⟨moves.getD 0 0,?_,ya (j:=0) (oj moves 0 z)⟩;rw[Ju,J9 z];exact YM z
 obtain⟨g,c5,dx⟩:∃ g:Nat,g∈moves/\atI (zQ moves) (-1)=some (.int (g:Nat)):=by
  refine⟨moves.getLast ln.ne,List.getLast_mem _,?_⟩;have z:=List.dropLast_concat_getLast ln.ne
  have e:zQ moves=zQ moves.dropLast++[.int ((moves.getLast ln.ne:Nat):Int)]:=by
   rw[<- JW zQ z,<- om];rfl
  rw[e];exact eO _ _
 have hk:=ln.lt c b0;have hg:=ln.lt g c5
 obtain⟨S,dd,e8,e9⟩:∃ S:List Nat,(wZ (c:Nat) (g:Nat)).map V.int=zQ S/\(∀ m∈S,m∈moves)/\S.length<=16:=by
  unfold wZ;split
  ·exact⟨[c],rfl,λm D=>by rw[Ja.mp D];exact b0,by show 1<=16;decide⟩
  ·have two:∀ x y:Nat,x∈moves->y∈moves->∀ m∈[x,y],m∈moves:=λx y hx hy m D=>by
    rcases Js.mp D with rfl|z
    ·exact hx
    ·rw[Ja.mp z];exact hy
   split
   ·exact⟨[c,g],rfl,two _ _ b0 c5,by show 2<=16;decide⟩
   ·exact⟨[g,c],rfl,two _ _ c5 b0,by show 2<=16;decide⟩
 refine⟨_,rfl,_,rfl,p,_,_,_,rfl,rfl,SqT.of Y,dH,by show 1<=sizeLine;decide,λO ef=>?_⟩;have s6:=zB ef (.tup [.int (c:Nat)]);refine⟨_,rfl,_,rfl,p,_,_,_,rfl,rfl,SqT.of (s6 _ _ Y),dx,by show 1<=sizeLine;decide,λM c6=>?_⟩;replace c6:L2.upd H5 O (.tup [.int (c:Nat)]) M=none:=c6;have s7:=zB c6 (.tup [.int (g:Nat)]);have u7:=s6.trans s7;have cn:=s7 _ _ (zD (H:=H5) (a:=O) (o:=.tup [.int (c:Nat)]));have ck:L2.upd (L2.upd H5 O (.tup [.int (c:Nat)])) M (.tup [.int (g:Nat)]) M=some (.tup [.int (g:Nat)]):=zD;refine⟨_,rfl,p,_,_,_,rfl,rfl,SqT.of (u7 _ _ Y),dH,_,rfl,_,rfl,p,_,_,_,rfl,rfl,SqT.of (u7 _ _ Y),dx,by show 2<=sizeLine;decide,λli c8=>?_⟩;replace c8:L2.upd (L2.upd H5 O (.tup [.int (c:Nat)])) M (.tup [.int (g:Nat)]) li=none:=c8;refine⟨li,c,g,rfl,zD,by lia,by lia,by lia,by lia,λst ei=>⟨st,c,g,rfl,zD,λlo ep=>⟨lo,_,rfl,.inl ⟨SqL.of zD,λu3 dA=>?_⟩⟩⟩⟩;rw[dd];rw[dd]at dA;have s8:=zB c8 (.lst [.int (c:Nat),.int (g:Nat)]);have s9:=zB (show L2.upd (L2.upd (L2.upd H5 O (.tup [.int (c:Nat)])) M (.tup [.int (g:Nat)])) li (.lst [.int (c:Nat),.int (g:Nat)]) st=none from ei) (SX st c g);have a4:=zB ep (.lst (zQ S));have d9:=zB dA (.tup (zQ S));have c1:=((s8.trans s9).trans a4).trans d9;refine⟨by show 4<=sizeLine;decide,λL hL=>?_⟩;replace hL:L2.upd (L2.upd (L2.upd (L2.upd (L2.upd (L2.upd H5 O (.tup [.int (c:Nat)])) M (.tup [.int (g:Nat)])) li (.lst [.int (c:Nat),.int (g:Nat)])) st (SX st c g)) lo (.lst (zQ S))) u3 (.tup (zQ S)) L=none:=hL;have sL:=zB hL (.tup [.ref p,.ref O,.ref M,.ref u3]);have uL:=(u7.trans c1).trans sL;refine⟨L,rfl,⟨_,SqT.of zD⟩,?_⟩
 have d5:∀ x∈[V.ref p,V.ref O,V.ref M,V.ref u3],∃ q lm,x=.ref q/\L2.upd (L2.upd (L2.upd (L2.upd (L2.upd (L2.upd (L2.upd H5 O (.tup [.int (c:Nat)])) M (.tup [.int (g:Nat)])) li (.lst [.int (c:Nat),.int (g:Nat)])) st (SX st c g)) lo (.lst (zQ S))) u3 (.tup (zQ S))) L (.tup [.ref p,.ref O,.ref M,.ref u3]) q=some (.tup (zQ lm))/\(∀ m∈lm,m∈moves)/\lm.length<=16:=by
  intro x hx;have one:∀ y:Nat,y∈moves->∀ m∈[y],m∈moves:=λy hy m D=>by rw[Ja.mp D];exact hy
  rcases Js.mp hx with rfl|dF
  ·exact⟨p,moves,rfl,uL _ _ Y,λm D=>D,by lia⟩
  rcases Js.mp dF with rfl|dD
  ·exact⟨O,[c],rfl,(c1.trans sL) _ _ cn,one c b0,by show 1<=16;decide⟩
  rcases Js.mp dD with rfl|gi
  ·exact⟨M,[g],rfl,(c1.trans sL) _ _ ck,one g c5,by show 1<=16;decide⟩
  rw[Ja.mp gi];exact⟨u3,S,rfl,sL _ _ zD,e8,e9⟩
 have a7:=bo.same uL;have t6:=t5.trans (Tups.of uL);have fy:=uL _ _ Y;have fA:=uL _ _ ey;have fD:L2.upd (L2.upd (L2.upd (L2.upd (L2.upd (L2.upd (L2.upd H5 O (.tup [.int (c:Nat)])) M (.tup [.int (g:Nat)])) li (.lst [.int (c:Nat),.int (g:Nat)])) st (SX st c g)) lo (.lst (zQ S))) u3 (.tup (zQ S))) L (.tup [.ref p,.ref O,.ref M,.ref u3]) L=some (.tup [.ref p,.ref O,.ref M,.ref u3]):=zD;generalize L2.upd (L2.upd (L2.upd (L2.upd (L2.upd (L2.upd (L2.upd H5 O (.tup [.int (c:Nat)])) M (.tup [.int (g:Nat)])) li (.lst [.int (c:Nat),.int (g:Nat)])) st (SX st c g)) lo (.lst (zQ S))) u3 (.tup (zQ S))) L (.tup [.ref p,.ref O,.ref M,.ref u3])=H6 at *;clear uL sL hL c1 d9 a4 s9 s8 dA ep ei c8 cn ck u7 s7 s6 ef c6 bo t5 Y ey dH dx dd;refine uc (K:=K) (a:=L) (xs:=[.ref p,.ref O,.ref M,.ref u3]) (λj σ H7=>(∃ v11,σ=[some (.ref a),some (.int (0+(i:Nat))),some (.ref l),some (.int (1+(sz:Nat))),some (.ref r),some (.int (W.lanes:Nat)),some (.ref r2),some (.ref r3),some (.ref rn),some (.ref p),some (.ref pf),v11])/\LE K a l Pt (ns.map V.int) H7/\Tups H6 H7) ⟨⟨_,rfl⟩,a7,λb xs e=>e⟩ (λj σ H7 _ z=>SqT.of (z.2.2 _ _ fD)) ?_ ?_
 ·rintro j x σ H7 hx ⟨⟨v11,rfl⟩,u,t7⟩
  obtain⟨ec,lm,rfl,cx,fo,ee⟩:=d5 x (JQ hx);have ed:∀ m∈lm,m<N.lanes:=λm D=>ln.lt m (fo m D);have R:=(nan.tups t6).tups t7;refine kh (λG0 fF=>?_);refine⟨_,rfl,_,rfl,rn,bS,b1,bc,N,ec,lm,4000,rfl,U,R,t7 _ _ cx,ed,ee,by decide,.inl (by decide),u.tab,λq1 H8 B8 ao J=>?_⟩;have t:=u.ver ao B8;have t8:=wF u.tab B8;refine⟨_,rfl,_,rfl,rn,bS,b1,bc,N,ec,lm,4000,rfl,U,R.tups t8,t8 _ _ (t7 _ _ cx),ed,ee,by decide,by decide,λq2 H9 s9 I=>?_⟩;obtain⟨d,d1,d2,sh⟩:=eJ U g0 (jF (Tups.of s9) J) I;refine⟨q1,q2,d,rfl,d1,d2,sh,?_⟩;refine⟨true,rfl,?_⟩;exact yg (fF _ _ ⟨⟨_,rfl⟩,t.same s9,(t7.trans t8).trans (Tups.of s9)⟩)
 rintro σ H7 ⟨⟨v11,rfl⟩,u,t7⟩;refine fG _ _ ?_;have R:=(nan.tups t6).tups t7;have dm:=t6.trans t7;refine⟨_,rfl,_,rfl,rn,bS,b1,bc,N,p,moves,4000,rfl,U,R,t7 _ _ fy,ln.lt,by lia,by decide,.inl (by decide),u.tab,λq3 H8 B8 ao cX=>?_⟩;have t:=u.ver ao B8;have t8:=wF u.tab B8;obtain⟨x3,fv⟩:=wP cX;refine⟨q3,_,_,_,rfl,rfl,SqT.of fv,rfl,rfl,_,rfl,?_⟩;rw[qX]
 cases hw:isW (yB N moves 4000) with
 | false=>exact yg (yg (dB _ _ ⟨⟨_,_,_,_,rfl⟩,t,dm.trans t8⟩))
 | true =>
  refine xC ⟨_,rfl,by show 0<=sizeLine;decide,λe he=>?_⟩;have s9:=zB he (.tup []);have eu:=s9 _ _ (t8 _ _ (t7 _ _ fA));refine⟨pf,e,_,_,rfl,rfl,SqT.of eu,SqT.of zD,W8.mpr (λx hx=>by obtain⟨y,_,rfl⟩:=Jv.mp hx;rfl),rfl,_,rfl,sQ (λ_=>?_) (λ_=>?_)⟩
  rotate_left
  ·exact dB _ _ ⟨⟨_,_,_,_,rfl⟩,t.same s9,(dm.trans t8).trans (Tups.of s9)⟩
  have a6:=t.same s9;refine⟨_,rfl,_,rfl,rn,bS,b1,bc,N,pf,fm,4000,rfl,U,(R.tups t8).tups (Tups.of s9),eu,λm D=>ln.lt m (eN m D),by lia,by decide,.inl (by decide),a6.tab,λq4 g6 e5 c0 cP=>?_⟩;have C:=a6.ver c0 e5;have fa:=wF a6.tab e5;obtain⟨x4,fp⟩:=wP cP;refine⟨q4,_,_,_,rfl,rfl,SqT.of fp,rfl,rfl,_,rfl,?_⟩;rw[qX,iG hw eN];exact yg (dB _ _ ⟨⟨_,_,_,_,rfl⟩,C,((dm.trans t8).trans (Tups.of s9)).trans fa⟩)
end
structure FnAt (K:PySem.W.Frag) (x:Str) (st:Stmt) (f:Addr) (fd:FuncData):Prop where
 ns:PySem.W.nsIn K mainGlobals x=some (some (.ref f))
 fn:Fun K x x st f fd
theorem yV {K:PySem.W.Frag}{x:Str}{st:Stmt}{f:Addr}{oc:Value}{od an:Option Addr}{osl:Array (Option Value)}{kV doc pm cdv ct:Value}(a:PySem.W.nsIn K mainGlobals x=some (some (.ref f)))(l:K.lookup f=some ⟨oc,od,.func (PySem.W.fnOf x x (xK st) (yj st) (zN st) .none kV doc pm an cdv ct),osl⟩)(c:PySem.W.codeIn K cdv x=true)(k:PySem.W.keepIn K (.ref f)=true):FnAt K x st f (PySem.W.fnOf x x (xK st) (yj st) (zN st) .none kV doc pm an cdv ct):=⟨a,zah l c k⟩
structure FnAtC (K:PySem.W.Frag) (x:Str) (st:Stmt) (f:Addr) (fd:FuncData) (c:Addr):Prop where
 ns:PySem.W.nsIn K mainGlobals x=some (some (.ref f))
 fn:FunC K x x st f fd c
theorem zai {K:PySem.W.Frag}{x:Str}{st:Stmt}{f c:Addr}{oc:Value}{od an:Option Addr}{osl:Array (Option Value)}{kV doc pm ct:Value}(a:PySem.W.nsIn K mainGlobals x=some (some (.ref f)))(l:K.lookup f=some ⟨oc,od,.func (PySem.W.fnOf x x (xK st) (yj st) (zN st) .none kV doc pm an (.ref c) ct),osl⟩)(cd:PySem.W.codeIn K (.ref c) x=true)(k:PySem.W.keepIn K (.ref f)=true):FnAtC K x st f (PySem.W.fnOf x x (xK st) (yj st) (zN st) .none kV doc pm an (.ref c) ct) c:=⟨a,⟨⟨_,_,_,_,_,_,_,_,rfl,l,cd⟩,k⟩⟩
theorem _root_.L2.FunC.fun {K:PySem.W.Frag}{x qual:Str}{st:Stmt}{f:Addr}{fd:FuncData}{c:Addr}(F:FunC K x qual st f fd c):Fun K x qual st f fd:=by
 obtain⟨d,b,kV,doc,pm,an,g,a,e,l,q⟩:=F.ex;exact⟨⟨d,b,kV,doc,pm,an,.ref c,g,a,e,l,q⟩,F.kp⟩
theorem iJ {K:PySem.W.Frag}{c P:Addr}{od:Option Addr}{vs:Array Value}{osl:Array (Option Value)}(l:K.lookup c=some ⟨.type "code",od,.fields vs,osl⟩) (e:PySem.W.codeHdIn [(c,⟨.type "code",od,.fields vs,osl⟩)] c P=true):PySem.W.codeHdIn K c P=true:=by
 have q:List.lookup c [(c,(⟨.type "code",od,.fields vs,osl⟩:Obj))]=some ⟨.type "code",od,.fields vs,osl⟩:=by rw[Yz,Wa]
 unfold PySem.W.codeHdIn at e ⊢;rw[q]at e;rw[l];exact e
theorem us1 {us:List Value}(h:us.length=1):∃ a,us=[a]:=by
 match us,h with
 | [a],_=>exact⟨a,rfl⟩
theorem us2 {us:List Value}(h:us.length=2):∃ b a,us=[b,a]:=by
 match us,h with
 | [b,a],_=>exact⟨b,a,rfl⟩
theorem us3 {us:List Value}(h:us.length=3):∃ c b a,us=[c,b,a]:=by
 match us,h with
 | [c,b,a],_=>exact⟨c,b,a,rfl⟩
theorem us4 {us:List Value}(h:us.length=4):∃ c b a u3,us=[c,b,a,u3]:=by
 match us,h with
 | [c,b,a,u3],_=>exact⟨c,b,a,u3,rfl⟩
theorem us5 {us:List Value}(h:us.length=5):∃ d c b u3 a,us=[d,c,b,u3,a]:=by
 match us,h with
 | [d,c,b,u3,a],_=>exact⟨d,c,b,u3,a,rfl⟩
set_option maxHeartbeats 4000001 in
theorem zao {l:PySem.W.OpenLaw}{w:World}{K:PySem.W.Frag}{h:Heap}{mg:Str->Option Value}{fa f1 f2 f3 f4 f5 f6 f7 f8 f9 a5 dP a4 a3 a0 aT ao ab Z Y W V U T S R Q P dM:Addr}{d1 d2 d3 d4 d5 d6 d7 d8 d9 cv dR cn ck cf cc cb b0 bS bu bt bo bl bc ba a9 a8 a7 a6:FuncData}(X:K.In h) (G:h.Ns mainGlobals mg) (dK:mg "law" = some (.ref fa))
  {g Pt:Addr}
  (A1:FnAt K "end_of" aE f1 d1)
  (A2:FnAt K "run_through" bv f2 d2)
  (A3:FnAt K "passed" qJ f3 d3)
  (A4:FnAt K "given_at" mG f4 d4)
  (A5:FnAt K "added" mH f5 d5)
  (A6:FnAt K "first_turns" qK f6 d6)
  (A7:FnAt K "first_pair" qL f7 d7)
  (A8:FnAt K "pair_behind" mF f8 d8)
  (A9:FnAt K "next_level" bx f9 d9)
  (F:FnAt K "climbed" aF a5 cv)
  (E:FnAt K "book_of" gR dP dR)
  (D:FnAtC K "verdict" pQ a4 cn g)
  (C:FnAt K "_law_left" gQ a3 ck)
  (B:FnAt K "_law_pick" gN a0 cf)
  (A:FnAt K "_law_merger" pT aT cc)
  (z:FnAt K "_law_stairway" pS ao cb)
  (y:FnAt K "_law_block" pU ab b0)
  (x:FnAt K "_law_tree" pR Z bS)
  (u:FnAt K "_law_made" gO Y bu)
  (t:FnAt K "_law_changed" aG W bt)
  (r:FnAt K "_law_some" mE V bo)
  (q:FnAt K "_law_passed" bw U bl)
  (o:FnAt K "_law_more" bz T bc)
  (n:FnAt K "_law_first" aD S ba)
  (m:FnAt K "_law_levels" aA R a9)
  (k:FnAt K "_law_verdict" bp Q a8)
  (j:FnAt K "_law_same" br P a7)
  (I:FnAt K "law" aB dM a6)
  (z1:PySem.W.nsIn K mainGlobals "len" = some none)
  (z2:PySem.W.nsIn K mainGlobals "range" = some none)
  (z3:PySem.W.nsIn K mainGlobals "tuple" = some none)
  (z4:PySem.W.nsIn K mainGlobals "enumerate" = some none)
  (z5:PySem.W.nsIn K mainGlobals "abs" = some none)
  (z6:PySem.W.nsIn K mainGlobals "zip" = some none)
  (z7:PySem.W.nsIn K mainGlobals "isinstance" = some none)
  (z8:PySem.W.nsIn K mainGlobals "all" = some none)
  (z9:PySem.W.nsIn K mainGlobals "sum" = some none)
  (dd:PySem.W.nsIn K mainGlobals "bool" = some none)
  (c9:PySem.W.nsIn K mainGlobals "int" = some none)
  (c8:PySem.W.nsIn K mainGlobals "str" = some none)
  (c7:PySem.W.nsIn K mainGlobals "max" = some none)
  (c6:PySem.W.nsIn K mainGlobals "min" = some none)
  (c5:PySem.W.nsIn K mainGlobals "sorted" = some none)
  (c4:PySem.W.nsIn K mainGlobals "list" = some none)
  (c3:PySem.W.nsIn K mainGlobals "set" = some none)
  (c2:PySem.W.nsIn K mainGlobals "repr" = some none)
  (c1:PySem.W.nsIn K mainGlobals "dict" = some none)
  (cH:PySem.W.codeHdIn K g Pt=true) (dm:mainGlobals≠Pt) (kP:K.lookup Pt=none)
  : (K.lookup Pt=none/\∃ c,PySem.W.codeHdIn K c Pt=true)/\∃ fd:FuncData,(∀ (s:Shared) (v:Value),BindsTo s fd ⟨[v],[]⟩ [("_law_script",v)])/\∀ base:Heap,K.In base->base.Ns mainGlobals mg->(∀ p∈[Pt],base.BuiltinsAt mg p)->FnOk l.prog w K mg base CX0 12 fa fd ["_law_script"] (lK K Pt):=by
 have e:=dK.symm.trans (JV X G I.ns);cases e;have M:Mgs mg:=⟨JZ X G z1,JZ X G z2,JZ X G z3,JZ X G z4,JZ X G z5,JZ X G z6,JZ X G z7,JZ X G z8,JZ X G z9,JZ X G dd,JZ X G c9,JZ X G c8,JZ X G c7,JZ X G c6,JZ X G c5,JZ X G c4⟩;have M2:MgSet mg:=⟨JZ X G c3⟩;have M3:MgR mg:=⟨JZ X G c2⟩;have M4:MgD mg:=⟨JZ X G c1⟩;have b1:=A1.fn.binds (ps:=["net","lane"]) λ_ _ _ _ _ _ b a=>by obtain⟨d,f,rfl⟩:=us2 a;rfl
 have m1:=JV X G A1.ns;have b2:=A2.fn.binds (ps:=["net","turns","lane","back"]) λ_ _ _ _ _ _ b a=>by obtain⟨d,f,i,u3,rfl⟩:=us4 a;rfl
 have m2:=JV X G A2.ns;have b3:=A3.fn.binds (ps:=["net","turns","lane"]) λ_ _ _ _ _ _ b a=>by obtain⟨d,f,i,rfl⟩:=us3 a;rfl
 have m3:=JV X G A3.ns;have b4:=A4.fn.binds (ps:=["row","place","value"]) λ_ _ _ _ _ _ b a=>by obtain⟨d,f,i,rfl⟩:=us3 a;rfl
 have m4:=JV X G A4.ns;have b5:=A5.fn.binds (ps:=["counts","place","many"]) λ_ _ _ _ _ _ b a=>by obtain⟨d,f,i,rfl⟩:=us3 a;rfl
 have m5:=JV X G A5.ns;have b6:=A6.fn.binds (ps:=["net"]) λ_ _ _ _ _ _ b a=>by obtain⟨d,rfl⟩:=us1 a;rfl
 have m6:=JV X G A6.ns;have b7:=A7.fn.binds (ps:=["net"]) λ_ _ _ _ _ _ b a=>by obtain⟨d,rfl⟩:=us1 a;rfl
 have m7:=JV X G A7.ns;have b8:=A8.fn.binds (ps:=["net","pair","lane"]) λ_ _ _ _ _ _ b a=>by obtain⟨d,f,i,rfl⟩:=us3 a;rfl
 have m8:=JV X G A8.ns;have b9:=A9.fn.binds (ps:=["level","seen","moves","led"]) λ_ _ _ _ _ _ b a=>by obtain⟨d,f,i,u3,rfl⟩:=us4 a;rfl
 have m9:=JV X G A9.ns;have ek:=F.fn.binds (ps:=["first","counts","moves","led","most"]) λ_ _ _ _ _ _ b a=>by obtain⟨d,f,i,u3,u4,rfl⟩:=us5 a;rfl
 have dH:=JV X G F.ns;have ej:=E.fn.binds (ps:=["levels"]) λ_ _ _ _ _ _ b a=>by obtain⟨d,rfl⟩:=us1 a;rfl
 have dG:=JV X G E.ns;have ei:=D.fn.fun.binds (ps:=["net","some","most"]) λ_ _ _ _ _ _ b a=>by obtain⟨d,f,i,rfl⟩:=us3 a;rfl
 have dF:=JV X G D.ns;have eh:=C.fn.binds (ps:=["_law_script","_law_k"]) λ_ _ _ _ _ _ b a=>by obtain⟨d,f,rfl⟩:=us2 a;rfl
 have dE:=JV X G C.ns;have eg:=B.fn.binds (ps:=["_law_left_here","_law_many"]) λ_ _ _ _ _ _ b a=>by obtain⟨d,f,rfl⟩:=us2 a;rfl
 have dD:=JV X G B.ns;have c0:=A.fn.binds (ps:=["_law_one","_law_other"]) λ_ _ _ _ _ _ b a=>by obtain⟨d,f,rfl⟩:=us2 a;rfl
 have O:=JV X G A.ns;have cX:=z.fn.binds (ps:=["_law_row"]) λ_ _ _ _ _ _ b a=>by obtain⟨d,rfl⟩:=us1 a;rfl
 have N:=JV X G z.ns;have cP:=y.fn.binds (ps:=["_law_row"]) λ_ _ _ _ _ _ b a=>by obtain⟨d,rfl⟩:=us1 a;rfl
 have L:=JV X G y.ns;have cx:=x.fn.binds (ps:=["_law_row"]) λ_ _ _ _ _ _ b a=>by obtain⟨d,rfl⟩:=us1 a;rfl
 have J:=JV X G x.ns;have ef:=u.fn.binds (ps:=["_law_way","_law_k"]) λ_ _ _ _ _ _ b a=>by obtain⟨d,f,rfl⟩:=us2 a;rfl
 have dC:=JV X G u.ns;have ee:=t.fn.binds (ps:=["_law_left_here","_law_net"]) λ_ _ _ _ _ _ b a=>by obtain⟨d,f,rfl⟩:=us2 a;rfl
 have dB:=JV X G t.ns;have ec:=r.fn.binds (ps:=["_law_left_here","_law_net"]) λ_ _ _ _ _ _ b a=>by obtain⟨d,f,rfl⟩:=us2 a;rfl
 have dA:=JV X G r.ns;have eb:=q.fn.binds (ps:=["_law_net","_law_turns","_law_lane"]) λ_ _ _ _ _ _ b a=>by obtain⟨d,f,i,rfl⟩:=us3 a;rfl
 have dx:=JV X G q.ns;have ea:=o.fn.binds (ps:=["_law_counts","_law_lane"]) λ_ _ _ _ _ _ b a=>by obtain⟨d,f,rfl⟩:=us2 a;rfl
 have dt:=JV X G o.ns;have d0:=n.fn.binds (ps:=["_law_net"]) λ_ _ _ _ _ _ b a=>by obtain⟨d,rfl⟩:=us1 a;rfl
 have dr:=JV X G n.ns;have dV:=m.fn.binds (ps:=["_law_net","_law_some_here","_law_most"]) λ_ _ _ _ _ _ b a=>by obtain⟨d,f,i,rfl⟩:=us3 a;rfl
 have dq:=JV X G m.ns;have dT:=k.fn.binds (ps:=["_law_net","_law_some_here","_law_most"]) λ_ _ _ _ _ _ b a=>by obtain⟨d,f,i,rfl⟩:=us3 a;rfl
 have dp:=JV X G k.ns;have dS:=j.fn.binds (ps:=["_law_found","_law_due"]) λ_ _ _ _ _ _ b a=>by obtain⟨d,f,rfl⟩:=us2 a;rfl
 have dn:=JV X G j.ns;obtain⟨oc,od,kV,doc,pm,an,e8,ct,e6,ed,_,_⟩:=id I.fn.ex;refine⟨⟨kP,g,cH⟩,a6,λs v=>by rw[ed];exact .of_eq rfl,λbase _ _ bB=>?_⟩;have CK:CodeK K mg base g Pt:=⟨cH,bB Pt (.head _),dm⟩;have U1:Use l.prog w K mg base "end_of" ["net","lane"] 1 gA f1 d1:=⟨am A1.fn,b1,A1.fn.kp,m1⟩;have U2:Use l.prog w K mg base "run_through" ["net","turns","lane","back"] 2 i7 f2 d2:=⟨af A2.fn M U1,b2,A2.fn.kp,m2⟩;have U3:Use l.prog w K mg base "passed" ["net","turns","lane"] 3 (vY false) f3 d3:=⟨ja A3.fn U2,b3,A3.fn.kp,m3⟩;have U4:Use l.prog w K mg base "given_at" ["row","place","value"] 1 qD f4 d4:=⟨gw A4.fn M,b4,A4.fn.kp,m4⟩;have U5:Use l.prog w K mg base "added" ["counts","place","many"] 2 qF f5 d5:=⟨gx A5.fn M U4,b5,A5.fn.kp,m5⟩;have U6:Use l.prog w K mg base "first_turns" ["net"] 1 uq f6 d6:=⟨jc A6.fn M,b6,A6.fn.kp,m6⟩;have U7:Use l.prog w K mg base "first_pair" ["net"] 2 xT f7 d7:=⟨je A7.fn U6,b7,A7.fn.kp,m7⟩;have U8:Use l.prog w K mg base "pair_behind" ["net","pair","lane"] 4 uU f8 d8:=⟨gv A8.fn U3,b8,A8.fn.kp,m8⟩;have U9:Use l.prog w K mg base "next_level" ["level","seen","moves","led"] 6 (n4 l.prog w K (qf qV) ["net"] wV) f9 d9:=⟨cA A9.fn M U5 (fg qV U8),b9,A9.fn.kp,m9⟩;have e5:Use l.prog w K mg base "climbed" ["first","counts","moves","led","most"] 7 (qE l.prog w K (qf qV) ["net"] wV) a5 cv:=⟨mQ F.fn M U9,ek,F.fn.kp,dH⟩;have e4:Use l.prog w K mg base "verdict" ["net","some","most"] 8 (vX qV Pt) a4 cn:=⟨mP D.fn CK e5 U7 (λF0=>⟨cD F0 1 E.fn M,ej,E.fn.kp,dG⟩),ei,D.fn.kp,dF⟩;have e3:Use l.prog w K mg base "_law_left" ["_law_script","_law_k"] 1 (qC K) a3 ck:=⟨cC C.fn M,eh,C.fn.kp,dE⟩;have H:Use l.prog w K mg base "_law_pick" ["_law_left_here","_law_many"] 1 vF a0 cf:=⟨dz B.fn,eg,B.fn.kp,dD⟩;have e1:Use l.prog w K mg base "_law_merger" ["_law_one","_law_other"] 5 wI aT cc:=⟨jb A.fn M c0 O,c0,A.fn.kp,O⟩;have e0:Use l.prog w K mg base "_law_stairway" ["_law_row"] 10 um ao cb:=⟨jZ z.fn M e1 cX N,cX,z.fn.kp,N⟩;have eN:Use l.prog w K mg base "_law_block" ["_law_row"] 5 uu ab b0:=⟨jf y.fn M cP L,cP,y.fn.kp,L⟩;have ey:Use l.prog w K mg base "_law_tree" ["_law_row"] 5 uj Z bS:=⟨jY x.fn M cx J,cx,x.fn.kp,J⟩;have ew:Use l.prog w K mg base "_law_made" ["_law_way","_law_k"] 11 n5 Y bu:=⟨cB u.fn M eN e0 ey,ef,u.fn.kp,dC⟩;have eu:Use l.prog w K mg base "_law_changed" ["_law_left_here","_law_net"] 2 gB W bt:=⟨ap t.fn M H,ee,t.fn.kp,dB⟩;have et:Use l.prog w K mg base "_law_some" ["_law_left_here","_law_net"] 2 qB V bo:=⟨gu r.fn M H,ec,r.fn.kp,dA⟩;have es:Use l.prog w K mg base "_law_passed" ["_law_net","_law_turns","_law_lane"] 1 (vY false) U bl:=⟨ag q.fn M,eb,q.fn.kp,dx⟩;have er:Use l.prog w K mg base "_law_more" ["_law_counts","_law_lane"] 1 i8 T bc:=⟨ah o.fn,ea,o.fn.kp,dt⟩;have ep:Use l.prog w K mg base "_law_first" ["_law_net"] 1 xT S ba:=⟨ak n.fn M,d0,n.fn.kp,dr⟩;have eo:Use l.prog w K mg base "_law_levels" ["_law_net","_law_some_here","_law_most"] 2 (i9 l.prog w) R a9:=⟨ai m.fn M M4 ep es er,dV,m.fn.kp,dq⟩;have en:Use l.prog w K mg base "_law_verdict" ["_law_net","_law_some_here","_law_most"] 3 i4 Q a8:=⟨ad k.fn M eo,dT,k.fn.kp,dp⟩;have el:Use l.prog w K mg base "_law_same" ["_law_found","_law_due"] 1 i5 P a7:=⟨ae j.fn M3,dS,j.fn.kp,dn⟩;exact aj I.fn M M2 (bi l.prog w) e3 H ew eu et e4 en el
theorem za6 {l:PySem.W.OpenLaw}{q:Program}{loose:List Str}{v:(Str->Option Value)->Heap->Prop}{i:World->Heap->Prop}{d:DefRec}{K:Params->PySem.W.Frag}{Pt:Addr}(hn:l.most=some 63) (g:d.params.defaults=[])
  (r:∀ (w:World) (h:Heap),i w h->(K w.params).In h/\∀ p∈[Pt],h.get? p=some (PySem.W.tabObj #[]))
  (F:∀ (w:World) (mg:Str->Option Value) (e:Addr) (h:Heap),(K w.params).In h->h.Ns mainGlobals mg->mg d.name=some (.ref e)->((K w.params).lookup Pt=none/\∃ c,PySem.W.codeHdIn (K w.params) c Pt=true) /\
   ∃ fd:FuncData,(∀ (s:Shared) (u:Value),BindsTo s fd ⟨[u],[]⟩ [("_law_script",u)])/\∀ base:Heap,(K w.params).In base->base.Ns mainGlobals mg->(∀ p∈[Pt],base.BuiltinsAt mg p)->FnOk l.prog w (K w.params) mg base CX0 12 e fd ["_law_script"] (lK (K w.params) Pt)) :
  PySem.W.WalkO q loose v i l.row.toRowW d [] (λf vs=>PySem.call f vs) :=
 L2.ic (n:=63) (k:=12) (x:="_law_script") (CX:=CX0) (sp:=λK=>lK K Pt) [Pt] hn (by decide) g ⟨rfl,by decide,by decide,rfl⟩ r (λw mg e h a b c=>⟨λp m=>Ja.mp m ▸ (F w mg e h a b c).1,(F w mg e h a b c).2⟩) (λ_ _ a ns o t j=>⟨a,ns,rfl,t,o,j Pt (.head _),λ_=>rfl⟩) λ_ _ _ _ z=>z
end K37
theorem PySem.W.Fast.tw212751569787243574:True:=trivial
theorem PySem.W.Fast.tw5668250736493570683:True:=trivial
theorem PySem.W.Fast.tw12015471966637309614:True:=trivial
theorem PySem.W.Fast.tw10458906024866600987:True:=trivial
theorem PySem.W.Fast.tw6089609896284365829:True:=trivial
theorem PySem.W.Fast.tw9657625017158234450:True:=trivial
theorem PySem.W.Fast.tw17388886493411265579:True:=trivial
theorem PySem.W.Fast.tw4951470225825384445:True:=trivial
theorem PySem.W.Fast.tw4609157761968170615:True:=trivial
theorem PySem.W.Fast.tw9779586261836760907:True:=trivial
theorem PySem.W.Fast.tw13144895538527295223:True:=trivial
theorem PySem.W.Fast.tw3190054326733630944:True:=trivial
theorem PySem.W.Fast.tw13652962018134111416:True:=trivial
theorem PySem.W.Fast.tw12776548299211062989:True:=trivial
theorem PySem.W.Fast.tw976807066831643045:True:=trivial
theorem PySem.W.Fast.tw2279569166930730832:True:=trivial
theorem PySem.W.Fast.tw6289523839833166924:True:=trivial
theorem PySem.W.Fast.tw11899285413752371645:True:=trivial
theorem PySem.W.Fast.tw5676343849082682640:True:=trivial
theorem PySem.W.Fast.tw15034819621449428660:True:=trivial
theorem PySem.W.Fast.tw9404777492800975824:True:=trivial
theorem PySem.W.Fast.tw5249196265530181478:True:=trivial
theorem PySem.W.Fast.tw15463701857723654982:True:=trivial
theorem PySem.W.Fast.tw1808662492447485933:True:=trivial
theorem PySem.W.Fast.tw85792335385609363:True:=trivial
theorem PySem.W.Fast.tw10373580532491366545:True:=trivial
theorem PySem.W.Fast.tw18065920521794468664:True:=trivial
theorem PySem.W.Fast.tw388969255663787877:True:=trivial
theorem PySem.W.Fast.tw15649301175412296291:True:=trivial
theorem PySem.W.Fast.tw11747515148030112341:True:=trivial
theorem PySem.W.Fast.tw7901854530944775371:True:=trivial
theorem PySem.W.Fast.tw4169979571893439287:True:=trivial
theorem PySem.W.Fast.tw7062700667956770432:True:=trivial
theorem PySem.W.Fast.tw11415768239382051522:True:=trivial
theorem PySem.W.Fast.tw283476676011302734:True:=trivial
theorem PySem.W.Fast.tw14388044022713747735:True:=trivial
theorem PySem.W.Fast.tw10482977725339603218:True:=trivial
open PySem PySem.W PyProof.Rows
set_option maxRecDepth 100000 in
set_option maxHeartbeats 0 in
theorem PySem.Challenge.cw_stairlanes_k37_lanes_told_and_not_holds : PySem.Challenge.rw_stairlanes_k37_lanes_told_and_not.Holds := by
 w_on;o_law;k_head;(case hw=>w_witness2)
 k_fill
 refine K37.za6 (l:=PySem.Challenge.rw_stairlanes_k37_lanes_told_and_not) rfl rfl (fun w h Y=>⟨PySem.W.km_in_of Y,PySem.W.km_tabs_of Y⟩) ?F
 case F =>
  intro w mg fa h KX G hmg
  refine' K37.zao KX G hmg (K37.yV ?a1 ?l1 ?c1 ?k1) (K37.yV ?a2 ?l2 ?c2 ?k2) (K37.yV ?a3 ?l3 ?c3 ?k3) (K37.yV ?a4 ?l4 ?c4 ?k4) (K37.yV ?a5 ?l5 ?c5 ?k5) (K37.yV ?a6 ?l6 ?c6 ?k6) (K37.yV ?a7 ?l7 ?c7 ?k7) (K37.yV ?a8 ?l8 ?c8 ?k8) (K37.yV ?a9 ?l9 ?c9 ?k9) (K37.yV ?a10 ?l10 ?c10 ?k10) (K37.yV ?a11 ?l11 ?c11 ?k11) (K37.zai ?a12 ?l12 ?c12 ?k12) (K37.yV ?a13 ?l13 ?c13 ?k13) (K37.yV ?a14 ?l14 ?c14 ?k14) (K37.yV ?a15 ?l15 ?c15 ?k15) (K37.yV ?a16 ?l16 ?c16 ?k16) (K37.yV ?a17 ?l17 ?c17 ?k17) (K37.yV ?a18 ?l18 ?c18 ?k18) (K37.yV ?a19 ?l19 ?c19 ?k19) (K37.yV ?a20 ?l20 ?c20 ?k20) (K37.yV ?a21 ?l21 ?c21 ?k21) (K37.yV ?a22 ?l22 ?c22 ?k22) (K37.yV ?a23 ?l23 ?c23 ?k23) (K37.yV ?a24 ?l24 ?c24 ?k24) (K37.yV ?a25 ?l25 ?c25 ?k25) (K37.yV ?a26 ?l26 ?c26 ?k26) (K37.yV ?a27 ?l27 ?c27 ?k27) (K37.yV ?a28 ?l28 ?c28 ?k28) ?z1 ?z2 ?z3 ?z4 ?z5 ?z6 ?z7 ?z8 ?z9 ?z10 ?z11 ?z12 ?z13 ?z14 ?z15 ?z16 ?z17 ?z18 ?z19 (K37.iJ ?lH2 ?eH2) ?nB4 ?kP
  (case a1=>k_is);(case l1=>k_is);(case c1=>k_is);(case k1=>k_is)
  (case a2=>k_is);(case l2=>k_is);(case c2=>k_is);(case k2=>k_is)
  (case a3=>k_is);(case l3=>k_is);(case c3=>k_is);(case k3=>k_is)
  (case a4=>k_is);(case l4=>k_is);(case c4=>k_is);(case k4=>k_is)
  (case a5=>k_is);(case l5=>k_is);(case c5=>k_is);(case k5=>k_is)
  (case a6=>k_is);(case l6=>k_is);(case c6=>k_is);(case k6=>k_is)
  (case a7=>k_is);(case l7=>k_is);(case c7=>k_is);(case k7=>k_is)
  (case a8=>k_is);(case l8=>k_is);(case c8=>k_is);(case k8=>k_is)
  (case a9=>k_is);(case l9=>k_is);(case c9=>k_is);(case k9=>k_is)
  (case a10=>k_is);(case l10=>k_is);(case c10=>k_is);(case k10=>k_is)
  (case a11=>k_is);(case l11=>k_is);(case c11=>k_is);(case k11=>k_is)
  (case a12=>k_is);(case l12=>k_is);(case c12=>k_is);(case k12=>k_is)
  (case a13=>k_is);(case l13=>k_is);(case c13=>k_is);(case k13=>k_is)
  (case a14=>k_is);(case l14=>k_is);(case c14=>k_is);(case k14=>k_is)
  (case a15=>k_is);(case l15=>k_is);(case c15=>k_is);(case k15=>k_is)
  (case a16=>k_is);(case l16=>k_is);(case c16=>k_is);(case k16=>k_is)
  (case a17=>k_is);(case l17=>k_is);(case c17=>k_is);(case k17=>k_is)
  (case a18=>k_is);(case l18=>k_is);(case c18=>k_is);(case k18=>k_is)
  (case a19=>k_is);(case l19=>k_is);(case c19=>k_is);(case k19=>k_is)
  (case a20=>k_is);(case l20=>k_is);(case c20=>k_is);(case k20=>k_is)
  (case a21=>k_is);(case l21=>k_is);(case c21=>k_is);(case k21=>k_is)
  (case a22=>k_is);(case l22=>k_is);(case c22=>k_is);(case k22=>k_is)
  (case a23=>k_is);(case l23=>k_is);(case c23=>k_is);(case k23=>k_is)
  (case a24=>k_is);(case l24=>k_is);(case c24=>k_is);(case k24=>k_is)
  (case a25=>k_is);(case l25=>k_is);(case c25=>k_is);(case k25=>k_is)
  (case a26=>k_is);(case l26=>k_is);(case c26=>k_is);(case k26=>k_is)
  (case a27=>k_is);(case l27=>k_is);(case c27=>k_is);(case k27=>k_is)
  (case a28=>k_is);(case l28=>k_is);(case c28=>k_is);(case k28=>k_is)
  (case z1=>k_is)
  (case z2=>k_is)
  (case z3=>k_is)
  (case z4=>k_is)
  (case z5=>k_is)
  (case z6=>k_is)
  (case z7=>k_is)
  (case z8=>k_is)
  (case z9=>k_is)
  (case z10=>k_is)
  (case z11=>k_is)
  (case z12=>k_is)
  (case z13=>k_is)
  (case z14=>k_is)
  (case z15=>k_is)
  (case z16=>k_is)
  (case z17=>k_is)
  (case z18=>k_is)
  (case z19=>k_is)
  (case lH2=>k_is);(case eH2=>rfl);(case nB4=>decide);(case kP=>rfl)
