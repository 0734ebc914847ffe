import PyProof.Rows.All
import Wide.All
import OpenK.AllK
import Wide.FinOn
import Lean
import PyProof.EqAt
import PyProof.EqKinds
import PyProof.TupleCall
import PyProof.NeKinds
import KE.KIntText
import PyProof.TupleOfStr
import PyProof.ReprRoads
import PyProof.NeData
import PyProof.DictKinds
import PyProof.AttrMiss
import PyProof.IsiH_list
import KE.KDictOf
import KE.KSortTup
import KE.KItemsList
import KE.KDictSum
import PyProof.DictWalks
import PyProof.DictItems
import KE.KDictList
import KE.KEqDict
import KE.KPairComp
import PyProof.DictTruth
import PyProof.MeetsDict
import PyProof.DictCompW
import PyProof.EvalArms
import KE.KLam
import KE.KNestM
import PyProof.Defs
import PyProof.P3In
import PyProof.Rows.SortRev
import PyProof.Rows.Range3
import PyProof.AutoIntG2
import PyProof.StrBlockL
import PyProof.StrLawsTight
import PyProof.StrWalks
import PyProof.SliceStr2
import PyProof.StrLawsIdx
import PyProof.Rows.ReprOcc
import PyProof.Rows.StrBin
import PyProof.CollectIter
import PyProof.Rows.FStr
import PySem.Challenge.RW_stairlanes_k40_breaks_looked_at
set_option Elab.async false
set_option linter.all false
local macro_rules|`(tactic| lia)=>`(tactic| first|with_reducible(first|assumption|exact Nat.le_of_lt ‹_›|exact Nat.lt_succ_of_le ‹_›|exact Nat.le_succ_of_le ‹_›|exact Nat.le_of_not_lt ‹_›|exact Nat.le_trans ‹_› ‹_›|exact Nat.lt_of_lt_of_le ‹_› ‹_›|exact Nat.sub_one_lt_of_le ‹_› ‹_›)|lia -verbose)
set_option maxRecDepth 100000
local macro_rules|`(tactic|trivial)=>`(tactic|first|exact⟨by rfl,by first|exact Or.inl rfl|exact Or.inr (.inl rfl)|exact Or.inr (.inr rfl),by decide,by decide⟩|exact⟨rfl,rfl,rfl,by decide +kernel,rfl,by decide +kernel,by decide +kernel⟩|exact True.intro|rfl|assumption|exact .inl rfl|exact .inr rfl)
section
open PySem PySem.Spec PyProof.Rows
def J0:=@wpAny_bind
def J7:=@List.getElem?_eq_getElem
def J8:=@Heap.get?_push_of_some
def J9:=@wpAny_pure
def Ja:=@List.getD_eq_getElem?_getD
def Jb:=@List.getElem?_eq_some_iff
def Jc:=@List.length_append
def Jd:=@List.mem_singleton
def Je:=@List.length_map
def Jf:=@Nat.le_refl
def Jg:=@if_neg
def Jh:=@List.size_toArray
def Jj:=@if_pos
def Jm:=@Bool.false_ne_true
def Jn:=@decide_eq_false
def Jp:=@Heap.lt_size
def Jq:=@Option.some.inj
def Jr:=@List.mem_cons
def Js:=@Heap.get?_push_size
def Jt:=@List.length_take
def Ju:=@wpS_bind
def Jv:=@List.mem_append
def Jw:=@decide_eq_true
def Jx:=@List.not_mem_nil
def Jy:=@wpS_pure
def Jz:=@List.mem_append_right
def JA:=@Array.length_toList
def JB:=@sizeLine_eq
def JC:=@List.take_of_length_le
def JD:=@Nat.ne_of_lt
def JE:=@List.mem_map
def JF:=@PySem.W.mg_of
def JG:=@List.getElem?_map
def JH:=@List.mem_cons_of_mem
def JJ:=@wpAny_newObj_type
def JK:=@Nat.le_trans
def JL:=@Nat.lt_of_lt_of_le
def JM:=@List.mem_cons_self
def JN:=@Nat.zero_le
def JP:=@List.mem_of_getElem?
def JQ:=@List.map_append
def JR:=@List.getElem_mem
def JS:=@congrArg
def JT:=@List.nodup_cons
def JU:=@wpAny_mono
def JV:=@List.append_assoc
def JW:=@List.length_cons
def JX:=@List.length_replicate
def JY:=@List.map_cons
def JZ:=@PySem.boot_len
def Y0:=@Option.map_eq_some_iff
def Y1:=@PySem.W.mg_none_of
def Y2:=@List.mem_range
def Y3:=@Int.toNat_natCast
def Y4:=@List.length_drop
def Y5:=@wpAny_call_entry
def Y6:=@List.append_nil
def Y7:=@List.length_range
def Y8:=@PySem.F.plainAttrs_list
def Y9:=@Array.getElem?_toList
def Ya:=@Bool.eq_iff_iff
def Yb:=@Array.toList_append
def Yc:=@List.all_eq_true
def Yd:=@wpAny_dictEntries
def Ye:=@wpAny_setField_rec
def Yf:=@wpAny_holding
def Yg:=@Array.size_push
def Yh:=@wpAny_dictEpoch
def Yi:=@PassesOwn.never
def Yj:=@wpAny_seqItems
def Yk:=@List.take_succ_eq_append_getElem
def Ym:=@PyProof.Rows.callWith_type1
def Yn:=@List.replicate_succ
def Yp:=@Array.getElem?_eq_some_iff
def Yq:=@List.mem_append_left
def Yr:=@List.pairwise_append
def Ys:=@Heap.get?_update_other
def Yt:=@wpS_forRange
def Yu:=@Array.size_append
def Yv:=@List.getElem?_append_right
def Yw:=@Bool.false_eq_true
def Yx:=@Bool.and_eq_true
def Yy:=@List.lookup_cons
def Yz:=@List.take_length
def YA:=@List.getElem?_append_left
def YB:=@or_false
def YC:=@wpAny_truthy_bool
def YD:=@of_decide_eq_true
def YE:=@Int.compare_eq_lt
def YF:=@Int.compare_eq_gt
def YG:=@Nat.lt_irrefl
def YH:=@List.take_append_getElem
def YJ:=@PySem.F.slot_list_append
def YK:=@PySem.F.type_list_append
def YL:=@Heap.SameBut.update
def YM:=@PySem.W.kia_one
def YN:=@List.find?_cons
def YQ:=@PyProof.Rows.slot_tuple_getitem
def YR:=@List.drop_eq_getElem_cons
def YS:=@Heap.get?_update_self
def YT:=@F.plain_min_loop
def YU:=@Paired.length
def YV:=@if_true
def YW:=@Heap.size_push
def YX:=@List.mem_of_mem_take
def YY:=@decide_eq_true_eq
def YZ:=@decide_eq_false_iff_not
def Z0:=@Int.compare_eq_eq
def Z1:=@wpAny_rule
def Z2:=@List.forIn_cons
def Z3:=@wpS_mono
def Z4:=@Int.emod_lt_of_pos
def Z5:=@List.extract_eq_take_drop
def Z6:=@List.length_set
def Z7:=@Nat.min_eq_left
def Z8:=@Int.emod_nonneg
def Z9:=@Nat.ne_of_gt
def Za:=@wpAny_typeOf
def Zb:=@List.mem_iff_getElem
def Zc:=@Nat.pow_le_pow_right
def Zd:=@wpAny_standAt
def Ze:=@List.getElem?_take_of_lt
def Zf:=@beq_eq_false_iff_ne
def Zg:=@PySem.mem_of_lookup
def Zh:=@List.length_reverse
def Zi:=@List.take_zero
def Zj:=@List.nodup_nil
def Zk:=@wpAny_field
def Zm:=@wpAny_Call_Name_kw
def Zn:=@List.filterMap_map
def Zp:=@Nat.zero_add
def Zq:=@Int.le_trans
def Zr:=@Nat.not_lt_zero
def Zs:=@List.mem_iff_getElem?
def Zt:=@List.foldl_append
def Zu:=@Array.toList_push
def Zv:=@Int.lt_trichotomy
def Zw:=@if_false
def Zx:=@List.forIn_nil
def Zy:=@Around.under_plainId
def Zz:=@Int.le_refl
def ZA:=@Array.toList_extract
def ZB:=@wpAny_isInstance
def ZC:=@List.ext_getElem
def ZD:=@List.map_map
def ZE:=@Option.getD_some
def ZF:=@beq_self_eq_true
def ZG:=@Nat.add_zero
def ZH:=@Nat.pow_succ
def ZJ:=@List.mem_nil_iff
def ZK:=@Array.getElem?_eq_getElem
def ZL:=@List.length_zipWith
def ZM:=@List.take_succ_cons
def ZN:=@Option.isSome_iff_exists
def ZP:=@wpAny_attempt
def ZQ:=@wpAny_passesOwn
def ZR:=@codeAny_builtin
def ZS:=@List.length_nil
def ZT:=@size_of_entries
def ZU:=@List.length_zip
def ZV:=@assignInOrder_cons
def ZW:=@Calls.spliced_cons
def ZX:=@Nat.one_le_two_pow
def ZY:=@wpAny_letGo
def ZZ:=@Calls.callWith_builtin
def W0:=@List.flatten_cons
def W5:=@Nat.lt_succ_of_lt
def W6:=@Bool.not_eq_true'
def W7:=@List.drop_zero
def W8:=@List.perm_append_comm
def W9:=@List.take_append_drop
def Wa:=@Nat.lt_succ_self
def Wb:=@List.getElem_map
def Wc:=@wpAny_typeNameOfWhole_itemiter
def Wd:=@plainId_quiet
def We:=@List.getElem?_set_ne
def Wf:=@List.mem_of_mem_drop
def Wg:=@wpAny_typeNameOfWhole_keyiter
def Wh:=@F.slot_dict_itemiterator_next
def Wi:=@List.nil_append
def Wj:=@F.slot_zip_next
def Wk:=@Bool.or_eq_true
def Wm:=@F.slot_dict_keyiterator_next
def Wn:=@List.filterMap_cons
def Wp:=@List.getElem_of_mem
def Wq:=@List.map_congr_left
def Wr:=@Array.toList_modify
def Ws:=@List.idxOf_lt_length_of_mem
def Wt:=@wpS_get
def Wu:=@call_meets
def Wv:=@decide_eq_true_iff
def Ww:=@wpS_modify
def Wx:=@List.getElem?_drop
def Wy:=@List.getElem?_zip_eq_some
def Wz:=@Calls.spliced_nil
def WA:=@AutoSeq1.wpAny_loadPart'
def WB:=@not_or
def WC:=@List.eq_of_mem_replicate
def WD:=@List.take_nil
end
abbrev Jl:=PySem.W.Frag
abbrev Jo:=PySem.Value
abbrev JI:=PySem.Addr
abbrev JO:=PySem.Shared
abbrev Yl:=PySem.FuncData
abbrev Yo:=PySem.Program
abbrev YI:=PySem.World
abbrev YO:=PySem.Around
abbrev YP:=PySem.Heap
namespace L2
open PySem PySem.Spec PyProof.Rows
abbrev Key:=Sum Int Str
def sS:Key->Jo->Bool
  | .inl k,v=>Value.isInt k v
  | .inr x,v=>Value.isStrOf x v
def zcG (w:YI):Key->Int
  | .inl k=>hashInt k
  | .inr x=>hashStr w x
theorem yV:∀ {k:Key}{v:Jo},sS k v=true->(∃ i t,k=Sum.inl i/\v=Value.int i t)\/(∃ x t,k=Sum.inr x/\v=Value.str x t)
  | .inl i,v,h=>by
    obtain⟨t,e⟩:=Value.isInt_shape (k:=i) (v:=v) h
    exact .inl ⟨i,t,rfl,e⟩
  | .inr x,v,h=>by
    obtain⟨t,e⟩:=Value.isStrOf_shape (x:=x) (v:=v) h;exact .inr ⟨x,t,rfl,e⟩
theorem gC (i:Int)(t:Tok):sS (.inl i) (.int i t)=true:=by simp[sS,Value.isInt]
theorem gB (x:Str)(t:Tok):sS (.inr x) (.str x t)=true:=by simp[sS,Value.isStrOf]
theorem zbd (a b:Int):decide ((Sum.inl a:Key)=Sum.inl b)=(a == b):=by
  by_cases e:a=b
  · subst e;simp
  · have h:¬(Sum.inl a:Key)=Sum.inl b:=λq=>e (Sum.inl.inj q)
    rw[Jn h];exact(Zf.mpr e).symm
theorem za9 (a b:Str):decide ((Sum.inr a:Key)=Sum.inr b)=decide (a=b):=by
  by_cases e:a=b
  · subst e;simp
  · have h:¬(Sum.inr a:Key)=Sum.inr b:=λq=>e (Sum.inr.inj q)
    rw[Jn h,Jn e]
theorem zbc (a:Int)(b:Str):decide ((Sum.inl a:Key)=Sum.inr b)=false:=Jn (λq=>nomatch q)
theorem zba (a:Str)(b:Int):decide ((Sum.inr a:Key)=Sum.inl b)=false:=Jn (λq=>nomatch q)
def yj (prog:Yo)(w:YI):PySem.KeyKind prog w Key where
  is:=sS
  hash:=zcG w
  inj:=λv a b l f=>by
    rcases yV l with ⟨i,t,rfl,rfl⟩|⟨x,t,rfl,rfl⟩
    · rcases yV f with ⟨j,u,rfl,e⟩|⟨y,u,rfl,e⟩
      · injection e with c _;rw[c]
      · exact nomatch e
    · rcases yV f with ⟨j,u,rfl,e⟩|⟨y,u,rfl,e⟩
      · exact nomatch e
      · injection e with c _;rw[c]
  byValue:=λk v h=>by
    rcases yV h with ⟨i,t,rfl,rfl⟩|⟨x,t,rfl,rfl⟩<;>rfl
  pyHash:=λd h=>by
    rcases yV d with ⟨i,t,rfl,rfl⟩|⟨x,t,rfl,rfl⟩
    · exact wpAny_pyHash_int h
    · exact wpAny_pyHash_str h
  eqBool:=λg d h=>by
    rcases yV g with ⟨i,t,rfl,rfl⟩|⟨x,t,rfl,rfl⟩
    · rcases yV d with ⟨j,u,rfl,rfl⟩|⟨y,u,rfl,rfl⟩
      · rw[zbd]at h;exact wpAny_eqBool_int h
      · rw[zbc]at h;exact SeqAt.EqAt.int_str i t y u _ _ _ _ h
    · rcases yV d with ⟨j,u,rfl,rfl⟩|⟨y,u,rfl,rfl⟩
      · rw[zba]at h;exact SeqAt.EqAt.str_int x t j u _ _ _ _ h
      · rw[za9]at h;exact wpAny_eqBool_str h
  «strs»:=λk x t v h=>by
    rcases yV h with ⟨i,u,rfl,e⟩|⟨y,u,rfl,e⟩
    · exact nomatch e
    · injection e with c _
      subst c;cases v<;>rfl
theorem kD (prog:Yo)(w:YI)(k:Key)(v:Jo):(yj prog w).is k v=sS k v:=rfl
theorem nU (prog:Yo)(w:YI)(i:Int)(t:Tok):(yj prog w).is (.inl i) (.int i t)=true:=gC i t
theorem nS (prog:Yo)(w:YI)(x:Str)(t:Tok):(yj prog w).is (.inr x) (.str x t)=true:=gB x t
inductive V where
  | non|bl (b:Bool)|int (i:Int)|str (x:Str)|byt (b:Array UInt8)|flt (b:UInt64)|ref (a:JI)|ty (n:String)
  deriving DecidableEq
def RelV:V->Jo->Prop
  | .non,u=>u=Value.none
  | .bl b,u=>u=Value.bool b
  | .int i,u=>∃ t,u=Value.int i t
  | .str x,u=>∃ t,u=Value.str x t
  | .byt b,u=>∃ t,u=Value.bytes b t
  | .flt b,u=>∃ t,u=Value.float b t
  | .ref a,u=>u=Value.ref a
  | .ty n,u=>u=Value.type n
abbrev Vals:List V->List Jo->Prop:=Paired RelV
theorem Vals.length {xs:List V}{us:List Jo}(r:Vals xs us):xs.length=us.length:=YU r
theorem Vals.get:∀ {xs:List V}{us:List Jo}{i:Nat}{x:V},Vals xs us->xs[i]?=some x->∃ u,us[i]?=some u/\RelV x u
  | _,_,_,_,.nil,e=>by simp at e
  | _,_,0,_,.cons r _,e=>by simp at e;subst e;exact⟨_,rfl,r⟩
  | _,_,i+1,x,.cons _ t,e=>by
    obtain⟨u,b,a⟩:=Vals.get (i:=i) (x:=x) t (by simpa using e);exact⟨u,by simpa using b,a⟩
theorem Vals.set {x:V}{u:Jo}(r:RelV x u):∀ {xs:List V}{us:List Jo}(i:Nat),Vals xs us->Vals (xs.set i x) (us.set i u)
  | _,_,_,.nil=>.nil
  | _,_,0,.cons _ t=>.cons r t
  | _,_,i+1,.cons q t=>.cons q (Vals.set r i t)
theorem Vals.append:∀ {xs ys:List V}{us ws:List Jo},Vals xs us->Vals ys ws->Vals (xs++ys) (us++ws)
  | _,_,_,_,.nil,s=>s
  | _,_,_,_,.cons r t,s=>.cons r (Vals.append t s)
theorem Vals.take:∀ {xs:List V}{us:List Jo}(n:Nat),Vals xs us->Vals (xs.take n) (us.take n)
  | _,_,0,_=>.nil
  | _,_,_+1,.nil=>.nil
  | _,_,n+1,.cons r t=>.cons r (Vals.take n t)
theorem Vals.drop:∀ {xs:List V}{us:List Jo}(n:Nat),Vals xs us->Vals (xs.drop n) (us.drop n)
  | _,_,0,r=>r
  | _,_,_+1,.nil=>.nil
  | _,_,n+1,.cons _ t=>Vals.drop n t
def RelO:Option V->Option Jo->Prop
  | some v,some u=>RelV v u
  | none,none=>True
  | _,_=>False
def KV {κ:Type}:List (κ × V)->List (κ × Jo)->Prop:=Paired λ(p:κ × V) (q:κ × Jo)=>p.1=q.1/\RelV p.2 q.2
def kV:Key->V
  | .inl i=>.int i
  | .inr x=>.str x
inductive HO where
  | lst (xs:List V)
  | tup (xs:List V)
  | dK (kvs:List (Key × V))|dT (kvs:List (List Key × V))
  | set (S:Int->Bool) (n:Nat)
  | ins (C dx:JI) (fs:List (Str × V))
  | own (x:JI)
  | xd (fs:List (Str × V))
  | met (f x:JI)
  | rng (lo hi:Int)
  | frz (o:Obj) (u:HO)
  | tbl (ps:Array Jo)
  | ext (φ:YP->Prop)
abbrev Hp:=JI->Option HO
def upd (H:Hp)(a:JI)(o:HO):Hp:=λb=>if b=a then some o else H b
theorem zG {H:Hp}{a:JI}{o:HO}:upd H a o a=some o:=by unfold upd;rw[Jj rfl]
theorem zK {H:Hp}{a b:JI}{o:HO}(h:b≠a):upd H a o b=H b:=by unfold upd;rw[Jg h]
theorem wE {H:Hp}{a b:JI}{o u:HO}(h:H a=some o)(h':H b=some u)(d:o≠u):a≠b:=by
  intro e;subst e;rw[h]at h';exact d (Jq h')
theorem zJ {H:Hp}{a b:JI}{o:HO}(h:H a=some o)(h':H b=none):a≠b:=by
  intro e;subst e;rw[h]at h';cases h'
def TupX (h:YP)(a:JI)(items:Array Jo):Prop:=∃ o,h.get? a=some o/\o.cls=.type "tuple"/\∃ n,o.data=.seq items n/\o.dict=none
theorem TupX.tup {h:YP}{a:JI}{items:Array Jo}(x:TupX h a items):IsTup h a items:=let ⟨o,e,c,n,d,_⟩:=x;⟨o,e,c,n,d⟩
theorem TupX.new (h:YP)(items:Array Jo):TupX (h.push { cls:=.type "tuple",data:=.seq items }) h.objs.size items:=⟨_,Js _ rfl,rfl,0,rfl,rfl⟩
section
variable (P:Yo)(w:YI)
def ObjOk (H:Hp)(h:YP)(a:JI):HO->Prop
  | .lst xs=>xs.length<=sizeLine/\∃ (its:List Jo) (n:Nat),Vals xs its/\h.get? a=some { cls:=.type "list",data:=.seq its.toArray n }
  | .tup xs=>xs.length<=sizeLine/\∃ its:List Jo,Vals xs its/\TupX h a its.toArray
  | .dK b=>b.length<=sizeLine/\(a == sysModules)=false/\∃ g,KV b g/\h.DictOf (yj P w) a g
  | .dT b=>b.length<=sizeLine/\(a == sysModules)=false/\∃ xs:List (List Key × JI × Jo),
      Paired (λ(p:List Key × V) (q:List Key × JI × Jo)=>p.1=q.1/\H q.2.1=some (.tup (p.1.map kV))/\RelV p.2 q.2.2) b xs /\
      ∃ o k m,h.get? a=some o/\o.ExactDict/\o.data=.dict k m/\k.toList=xs.map (entryOfKey (tupleKind (yj P w)))/\(xs.map (·.1)).Nodup
  | .set S n=>h.SetOf (intKind P w) a S n
  | .ins C d fs=>H d=some (.own a)/\fs.length<=1000/\d≠a/\h.get? a=some (PySem.W.instObj C d) /\
      ∃ c,h.Ns1 d c/\(∀ f,RelO (fs.lookup f) (c f))/\PySem.Within c (fs.map (·.1))
  | .own _=>∃ o,h.get? a=some o
  | .xd fs=>∃ c,h.Ns1 a c/\∀ f,RelO (fs.lookup f) (c f)
  | .rng lo hi=>∃ t u v,h.get? a=some { cls:=.type "range",data:=.fields #[.int lo t,.int hi u,.int 1 v] }
  | .frz o u=>h.get? a=some o/\ObjOk H h a u
  | .tbl l=>h.get? a=some { cls:=.none,data:=.fields l }
  | .met f x=>h.get? a=some (PySem.W.methodObj (.ref f) (.ref x))
  | .ext e=>e h/\(∃ o,h.get? a=some o)/\∀ j i:YP,e j->(∀ o,j.get? a=some o->i.get? a=some o)->e i
def HOk (H:Hp)(h:YP):Prop:=∀ a o,H a=some o->ObjOk P w H h a o
end
section
variable {P:Yo}{w:YI}{H H':Hp}{h h':YP}{a:JI}{o:HO}
theorem ObjOk.lt (x:ObjOk P w H h a o):a<h.objs.size:=by
  cases o with
  | lst c=>obtain⟨_,_,_,_,e⟩:=x;exact Jp e
  | tup c=>obtain⟨_,_,_,p⟩:=x;exact p.tup.lt
  | dK b=>obtain⟨_,_,_,_,o,_,_,e,_⟩:=x;exact Jp e
  | dT b=>obtain⟨_,_,_,_,o,_,_,e,_⟩:=x;exact Jp e
  | set S n=>obtain⟨o,_,_,_,e,_⟩:=x;exact Jp e
  | ins C i fs=>obtain⟨_,_,_,e,_⟩:=x;exact Jp e
  | own y=>obtain⟨_,e⟩:=x;exact Jp e
  | xd fs=>obtain⟨_,⟨_,_,_,e,_⟩,_⟩:=x;exact Jp e
  | rng lo hi=>obtain⟨_,_,_,e⟩:=x;exact Jp e
  | frz ob u=>obtain⟨e,_⟩:=x;exact Jp e
  | tbl g=>exact Jp (show h.get? a=some _ from x)
  | met f y=>exact Jp (show h.get? a=some _ from x)
  | ext d=>obtain⟨_,⟨_,e⟩,_⟩:=x;exact Jp e
theorem Paired.mapP {α β:Type}{F G:α->β->Prop}:∀ {l₁:List α}{l₂:List β},Paired F l₁ l₂->(∀ a b,F a b->G a b)->Paired G l₁ l₂
  | _,_,.nil,_=>.nil
  | _,_,.cons r t,f=>.cons (f _ _ r) (Paired.mapP t f)
theorem ObjOk.stay (x:ObjOk P w H h a o)(k:∀ b u,(b=a\/H b=some (.own a))->h.get? b=some u->h'.get? b=some u)(E:∀ b,H b=some (.own a)->H' b=some (.own a))(D:∀ b xs,H b=some (.tup xs)->H' b=some (.tup xs)):ObjOk P w H' h' a o:=by
  induction o with
  | lst xs=>obtain⟨z,j,n,r,e⟩:=x;exact⟨z,j,n,r,k _ _ (.inl rfl) e⟩
  | tup xs=>obtain⟨z,j,r,ob,e,c⟩:=x;exact⟨z,j,r,ob,k _ _ (.inl rfl) e,c⟩
  | dK s=>obtain⟨z,y,B,r,ob,g,i,e,c⟩:=x;exact⟨z,y,B,r,ob,g,i,k _ _ (.inl rfl) e,c⟩
  | dT s =>
    obtain⟨z,y,xs,r,ob,g,i,e,c⟩:=x
    exact⟨z,y,xs,Paired.mapP r λp q z=>⟨z.1,D _ _ z.2.1,z.2.2⟩,ob,g,i,k _ _ (.inl rfl) e,c⟩
  | set S n=>obtain⟨ob,g,i,t,e,c⟩:=x;exact⟨ob,g,i,t,k _ _ (.inl rfl) e,c⟩
  | ins C G fs =>
    obtain⟨d,z,ne,e,m,⟨l,g,i,e2,c⟩,r⟩:=x
    exact⟨E _ d,z,ne,k _ _ (.inl rfl) e,m,⟨l,g,i,k _ _ (.inr d) e2,c⟩,r⟩
  | own y=>obtain⟨ob,e⟩:=x;exact⟨ob,k _ _ (.inl rfl) e⟩
  | xd fs=>obtain⟨m,⟨l,g,i,e,c⟩,r⟩:=x;exact⟨m,⟨l,g,i,k _ _ (.inl rfl) e,c⟩,r⟩
  | rng lo hi=>obtain⟨t,u,v,e⟩:=x;exact⟨t,u,v,k _ _ (.inl rfl) e⟩
  | frz ob u ih=>obtain⟨e,q⟩:=x;exact⟨k _ _ (.inl rfl) e,ih q⟩
  | tbl A =>
    have e:h.get? a=some { cls:=.none,data:=.fields A }:=x;show h'.get? a=some { cls:=.none,data:=.fields A }
    exact k a _ (.inl rfl) e
  | met f y =>
    have e:h.get? a=some (PySem.W.methodObj (.ref f) (.ref y)):=x;show h'.get? a=some (PySem.W.methodObj (.ref f) (.ref y))
    exact k a _ (.inl rfl) e
  | ext F=>obtain⟨p,⟨o,e⟩,st⟩:=x;exact⟨st _ _ p λo q=>k _ _ (.inl rfl) q,⟨o,k _ _ (.inl rfl) e⟩,st⟩
theorem HOk.lt (x:HOk P w H h)(e:H a=some o):a<h.objs.size:=(x a o e).lt
theorem HOk.fresh (x:HOk P w H h)(e:h.objs.size<=a):H a=none:=by
  cases q:H a with
  | none=>rfl
  | some u=>exact absurd (JL (x.lt q) e) (YG _)
theorem HOk.kept (x:HOk P w H h)(k:∀ b u,h.get? b=some u->h'.get? b=some u):HOk P w H h':=λa o e =>
  (x a o e).stay (λb u _ q=>k b u q) (λ_ q=>q) λ_ _ q=>q
theorem HOk.laid (x:HOk P w H h)(k:∀ b u,h.get? b=some u->h'.get? b=some u)(g:h.objs.size<=a)(new:ObjOk P w (upd H a o) h' a o):HOk P w (upd H a o) h':=λb u e=>by
  have d:=x.fresh g;by_cases f:b=a
  · subst f;rw[zG]at e;cases e;exact new
  · rw[zK f]at e
    exact(x b u e).stay (λc v _ q=>k c v q) (λc q=>by rw[zK (zJ q d)];exact q) λc i q=>by rw[zK (zJ q d)];exact q
end
def Rd (H:Hp)(a:JI)(u:HO):Prop:=H a=some u\/∃ o,H a=some (.frz o u)
theorem Rd.ok {P:Yo}{w:YI}{H:Hp}{h:YP}{a:JI}{u:HO}(r:Rd H a u)(x:HOk P w H h):ObjOk P w H h a u:=by
  rcases r with r|⟨o,r⟩
  · exact x a u r
  · obtain⟨_,q⟩:=x a _ r
    exact q
def Mut:Option HO->Prop
  | some (.lst _)=>True
  | some (.dK _)=>True
  | some (.dT _)=>True
  | some (.set _ _)=>True
  | some (.ins _ _ _)=>True
  | some (.ext _)=>True
  | _=>False
section
variable {P:Yo}{w:YI}{H:Hp}{h h':YP}{x e:JI}{o':HO}
theorem HOk.write (ok:HOk P w H h)(i:Mut (H x))(o:e=x\/H e=some (.own x))(k:∀ b u,b≠e->h.get? b=some u->h'.get? b=some u)(m:∃ u,h'.get? e=some u)(new:ObjOk P w (upd H x o') h' x o'):HOk P w (upd H x o') h':=λb u q=>by
  have d:∀ c y,H c=some (.own y)->c≠x:=λc y r z=>by subst z;rw[r]at i;exact i
  have f:∀ c g,H c=some (.tup g)->c≠x:=λc g r z=>by subst z;rw[r]at i;exact i
  by_cases l:b=x
  · subst l;rw[zG]at q;cases q;exact new
  · rw[zK l]at q
    by_cases a:b=e
    · have n:H b=some (.own x):=by
        rcases o with z|z
        · exact absurd (a.trans z) l
        · rw[a];exact z
      rw[q]at n;cases n;obtain⟨v,p⟩:=m;exact⟨v,by rw[a];exact p⟩
    · refine(ok b u q).stay (λc v j r=>k c v ?_ r) (λc r=>by rw[zK (d c b r)];exact r) λc g r=>by rw[zK (f c g r)];exact r
      rcases j with rfl|j
      · exact a
      · rintro rfl
        rcases o with z|z
        · exact d c b j z
        · rw[j]at z;cases z;exact l rfl
end
structure Un (fs ex:List JI) (H H':Hp) (h h':YP):Prop where
  keep:∀ b o,h.get? b=some o->H b=none->b∉fs->b∉ex->h'.get? b=some o
  slot:∀ b o,h.get? b=some o->H b=none->b∈fs->b∉ex->∃ sl,h'.get? b=some { o with slots:=sl }
  free:∀ b o,h.get? b=some o->H b=none->b∉ex->H' b=none
  there:∀ b o,h.get? b=some o->b∉ex->∃ o',h'.get? b=some o'
  tups:∀ b xs,H b=some (.tup xs)->H' b=some (.tup xs)
  frzs:∀ b o u,H b=some (.frz o u)->H' b=some (.frz o u)
  tbls:∀ b ps,H b=some (.tbl ps)->∃ more,H' b=some (.tbl (ps++more))
section
variable {fs ex:List JI}{H H1:Hp}{h h1 h':YP}{a x e:JI}{o:HO}
theorem Un.any (u:Un fs ex H H1 h h1){b:JI}{ob:Obj}(q:h.get? b=some ob)(n:H b=none)(a:b∉ex):∃ sl,h1.get? b=some { ob with slots:=sl }:=by
  by_cases c:b∈fs
  · exact u.slot b ob q n c a
  · exact⟨ob.slots,u.keep b ob q n c a⟩
theorem Un.kept (k:∀ b u,h.get? b=some u->h'.get? b=some u):Un fs ex H H h h' :=
  ⟨λb ob q _ _ _=>k b ob q,λb ob q _ _ _=>⟨ob.slots,k b ob q⟩,λ_ _ _ n _=>n,λb ob q _=>⟨ob,k b ob q⟩,λ_ _ q=>q,λ_ _ _ q=>q,λ_ a q=>⟨#[],by rw[q];simp⟩⟩
theorem Un.refl:Un fs ex H H h h:=Un.kept λ_ _ q=>q
theorem Un.laid (k:∀ b u,h.get? b=some u->h'.get? b=some u)(d:h.objs.size<=a)(hn:H a=none):Un fs ex H (upd H a o) h h' where
  keep:=λb u q _ _ _=>k b u q
  slot:=λb u q _ _ _=>⟨u.slots,k b u q⟩
  free:=λb u q n _=>by rw[zK (JD (JL (Jp q) d))];exact n
  there:=λb u q _=>⟨u,k b u q⟩
  tups:=λb c q=>by rw[zK (zJ q hn)];exact q
  frzs:=λb u c q=>by rw[zK (zJ q hn)];exact q
  tbls:=λb e q=>⟨#[],by rw[zK (zJ q hn),q];simp⟩
theorem Un.write (c:Mut (H x))(l:e=x\/H e=some (.own x))(k:∀ b u,b≠e->h.get? b=some u->h'.get? b=some u)(f:∃ u,h'.get? e=some u):Un fs ex H (upd H x o) h h':=by
  have g:∀ b,H b=none->b≠x:=λb n z=>by subst z;rw[n]at c;exact c
  have i:∀ b,H b=none->b≠e:=λb n z=>by
    subst z;rcases l with r|r
    · exact g b n r
    · rw[n]at r;cases r
  have d:∀ b u,H b=some u->¬ Mut (some u)->b≠x:=λb u q nm z=>by subst z;rw[q]at c;exact nm c
  refine⟨λb u q n _ _=>k b u (i b n) q,λb u q n _ _=>⟨u.slots,k b u (i b n) q⟩,λb u q n _=>by rw[zK (g b n)];exact n,λb u q _=>?_,
    λb j q=>by rw[zK (d b _ q λz=>z)];exact q,λb u j q=>by rw[zK (d b _ q λz=>z)];exact q,λb m q=>⟨#[],by rw[zK (d b _ q λz=>z),q];simp⟩⟩
  by_cases a:b=e
  · subst a;exact f
  · exact⟨u,k b u a q⟩
end
def trk (h:YP)(H:Hp):List JI:=(List.range h.objs.size).filter λa=>(H a).isSome
def rT (h:YP)(H:Hp):YP:=PySem.W.hideAll h (trk h H)
theorem gG (h:YP)(H:Hp):(rT h H).objs.size=h.objs.size:=PySem.W.hideAll_size _ _
theorem cu {h:YP}{H:Hp}{b:JI}{o:Obj}(e:h.get? b=some o)(n:H b=none):(rT h H).get? b=some o :=
  PySem.W.hideAll_get _ e λa=>by
    have q:(H b).isSome=true:=(List.mem_filter.mp a).2;rw[n]at q;simp at q
theorem aV {h:YP}{H:Hp}{b:JI}{o:Obj}(e:(rT h H).get? b=some o):h.get? b=some o/\H b=none:=by
  have a:h.get? b=some o:=PySem.W.of_hideAll (trk h H) e;refine⟨a,?_⟩
  cases q:H b with
  | none=>rfl
  | some x =>
    have c:b∈trk h H:=List.mem_filter.mpr ⟨Y2.mpr (Jp a),by simp[q]⟩;have z:(rT h H).get? b=none:=PySem.W.hideAll_none (trk h H) c;rw[z]at e;cases e
def zae (g h:YP)(L:JI):List (JI × Obj):=(List.range h.objs.size).filterMap λa=>if a=L\/(g.get? a).isSome=true then none else (h.get? a).map λo=>(a,o)
def rest (g h:YP)(L d:JI):List (JI × Obj):=(zae g h L).filter λp=>decide (p.1≠d)
structure Mod (K:Jl) (mg:Str->Option Jo) (base:YP):Prop where
  kin:K.In base
  glob:base.Ns mainGlobals mg
  blt:∃ mb,base.Ns builtinsNs mb/\∀ x:Str,x≠"__name__"->mb x=bootBuiltins x
  nolimit:base.NoLimit
structure Cx where
  prog:Yo
  w:YI
  K:Jl
  mg:Str->Option Jo
  base:YP
  A:YO
  N:List Str
  s₀:JO
  H₀:Hp
  env:Env
  outer:List Env
  stack:List Env
  ex:List JI
  fn:Str->Bool
  calm:Bool
  pn:List (JI × Obj)
  xe:Jo->JO->Prop
def frs (l:List Env):List JI:=l.filterMap (·.frame)
abbrev Cx.fs (X:Cx):List JI:=frs X.outer
def Vis (sc:Scope)(x:Str):Prop:=sc.names.lookup x=some .local \/ sc.names.lookup x=some .cell\/sc.names.lookup x=some .free
def Loc (sc:Scope)(x:Str):Prop:=sc.names.lookup x=some .local \/ sc.names.lookup x=some .cell
def Look (env:Env)(h:YP)(m:Str->Option Jo)(x:Str)(u:Jo):Prop :=
  (env.kindOf x=some .local /\ m x=some u)\/((env.kindOf x=some .cell\/env.kindOf x=some .free)/\∃ c,env.cells.lookup x=some c/\h.IsCell c (some u))
structure Cx.Ok (X:Cx):Prop where
  mod:Mod X.K X.mg X.base
  kind:X.env.scope.kind=.function
  glob:X.env.globals=mainGlobals
  blt:X.env.builtins=builtinsNs
  above:X.s₀.heap.objs.size<=X.env.locals
  inj:∀ x y c,X.env.cells.lookup x=some c->X.env.cells.lookup y=some c->x=y
  has:∀ x,(X.env.kindOf x=some .cell\/X.env.kindOf x=some .free)->∃ c,X.env.cells.lookup x=some c
  cab:∀ x c,X.fn x=true->X.env.cells.lookup x=some c->X.s₀.heap.objs.size<=c
  hd:X.calm=true->X.A.handled=none
  frames:X.A.frames=some X.stack
  stk:X.stack=X.outer\/(X.stack=X.env::X.outer/\X.env.frame=some X.env.locals)
  exf:∀ b∈X.ex,b≠X.env.locals/\∀ x c,X.env.cells.lookup x=some c->c≠b
  bs:∀ b o,X.base.get? b=some o->X.s₀.heap.get? b=some o/\X.H₀ b=none
  bsz:X.base.objs.size<=X.s₀.heap.objs.size
  noex:∀ b o,X.base.get? b=some o->b∉X.ex
  exfs:∀ b∈X.ex,b∉X.fs
  funs:X.s₀.heap.FunFrames X.base X.outer
  frf:∀ b∈X.fs,X.H₀ b=none
structure Inv (X:Cx) (pins:List (JI × Obj)) (σ:List (Option V)) (H:Hp) (s:JO):Prop where
  ok:X.Ok
  os:s.os=X.s₀.os
  bare:AllBare s.gens
  base:Un X.fs X.ex X.H₀ H X.s₀.heap s.heap
  loc:∃ m,s.heap.Ns X.env.locals m/\∀ (i:Nat) (x:Str) (v:V),X.N[i]?=some x->σ[i]?=some (some v)->Vis X.env.scope x->∃ u,RelV v u/\Look X.env s.heap m x u
  cell:∀ x c,X.env.cells.lookup x=some c->∃ v,s.heap.IsCell c v
  free:H X.env.locals=none
  freeC:∀ x c,X.env.cells.lookup x=some c->H c=none
  pin:∀ p∈X.pn++pins,s.heap.get? p.1=some p.2/\H p.1=none/\p.1≠X.env.locals/\p.1∉X.fs/\∀ v,p.2.data≠.cell v
  hok:HOk X.prog X.w H s.heap
  len:σ.length=X.N.length
section
variable {X:Cx}{pins:List (JI × Obj)}{σ:List (Option V)}{H H':Hp}{s:JO}{h':YP}
theorem Cx.Ok.nofr (ok:X.Ok){b:JI}{o:Obj}(e:X.base.get? b=some o):b∉X.fs:=λa=>by
  have:=(ok.funs.mem a).1;rw[e]at this;cases this
theorem Inv.bs (I:Inv X pins σ H s):∀ b o,X.base.get? b=some o->s.heap.get? b=some o/\H b=none:=λb o e =>
  ⟨I.base.keep b o (I.ok.bs b o e).1 (I.ok.bs b o e).2 (I.ok.nofr e) (I.ok.noex b o e),I.base.free b o (I.ok.bs b o e).1 (I.ok.bs b o e).2 (I.ok.noex b o e)⟩
theorem Inv.bk (I:Inv X pins σ H s):∀ b o,X.base.get? b=some o->s.heap.get? b=some o:=λb o e=>(I.bs b o e).1
theorem Inv.mod (I:Inv X pins σ H s):Mod X.K X.mg X.base:=I.ok.mod
theorem Inv.kIn (I:Inv X pins σ H s):X.K.In s.heap:=I.ok.mod.kin.keeps I.bk
theorem Inv.lt (I:Inv X pins σ H s):X.env.locals<s.heap.objs.size:=let ⟨_,a,_⟩:=I.loc;a.lt
theorem Inv.sz (I:Inv X pins σ H s):X.s₀.heap.objs.size<=s.heap.objs.size:=JK I.ok.above (Nat.le_of_lt I.lt)
theorem Inv.nofs (I:Inv X pins σ H s){a:JI}(h:s.heap.objs.size<=a):a∉X.fs:=λc=>by
  obtain⟨_,o,b,_⟩:=I.ok.funs.mem c;exact absurd (JL (Jp b) (JK I.sz h)) (YG _)
theorem Inv.cne (I:Inv X pins σ H s):∀ x c,X.env.cells.lookup x=some c->c≠X.env.locals:=λx c e z=>by
  obtain⟨v,o,d,f⟩:=I.cell x c e;obtain⟨m,⟨g,h,i,a,b,_⟩,_⟩:=I.loc;rw[z,a]at d;cases d;rw[b]at f;cases f
theorem Inv.funs (I:Inv X pins σ H s):s.heap.FunFrames X.base X.outer:=by
  have all:∀ (l:List Env),(∀ b∈frs l,b∈X.fs)->X.s₀.heap.FunFrames X.base l->s.heap.FunFrames X.base l:=by
    intro l
    induction l with
    | nil=>intro _ _;trivial
    | cons env r ih =>
      intro f j;obtain⟨k,⟨L,o,a,i,h,m⟩,g⟩:=j;have d:L∈X.fs:=f L (by unfold frs;rw[Wn,a];exact JM);obtain⟨n,e⟩:=I.base.slot L o h (I.ok.frf L d) d λz=>I.ok.exfs L z d;exact⟨k,⟨L,_,a,i,e,m⟩,ih (λb c=>f b (by unfold frs;rw[Wn,a];exact JH _ c)) g⟩
  exact all X.outer (λ_ c=>c) I.ok.funs
theorem Inv.stack (I:Inv X pins σ H s):s.heap.FunFrames X.base X.stack:=by
  rcases I.ok.stk with e|⟨e,b⟩
  · rw[e];exact I.funs
  · rw[e]
    obtain⟨m,a,_⟩:=I.loc;refine .cons (by rw[I.ok.kind];decide) b a ?_ I.funs;exact Heap.get?_none_of_le (JK I.ok.bsz I.ok.above)
theorem Inv.stkSub (I:Inv X pins σ H s):∀ b∈frs X.stack,b∈X.env.locals::X.fs:=λb a=>by
  rcases I.ok.stk with e|⟨e,c⟩
  · rw[e]at a;exact JH _ a
  · rw[e]at a
    unfold frs at a;rw[Wn,c]at a;exact a
theorem Inv.stkFree (I:Inv X pins σ H s):∀ b∈frs X.stack,H b=none:=λb a=>by
  rcases Jr.mp (I.stkSub b a) with e|a
  · rw[e];exact I.free
  · obtain⟨_,o,c,_⟩:=I.ok.funs.mem a
    exact I.base.free b o c (I.ok.frf b a) λz=>I.ok.exfs b z a
theorem Inv.step {g':Array GenState}{t':Nat}{d':Drawn}{ch:List JI}(I:Inv X pins σ H s)(g:∀ b∈ch,(b∈X.ex\/X.s₀.heap.objs.size<=b)/\b≠X.env.locals/\(∀ x c,X.env.cells.lookup x=some c->c≠b)/\∀ p∈X.pn++pins,p.1≠b)(keep:∀ b o,b≠X.env.locals->b∉X.fs->b∉ch->s.heap.get? b=some o->H b=none->h'.get? b=some o)(slot:∀ b o,b≠X.env.locals->b∈X.fs->b∉ch->s.heap.get? b=some o->H b=none->∃ sl,h'.get? b=some { o with slots:=sl })(free:∀ b o,b∉ch->s.heap.get? b=some o->H b=none->H' b=none)(there:∀ b o,b∉ch->s.heap.get? b=some o->∃ A,h'.get? b=some A)(tups:∀ b t,H b=some (.tup t)->H' b=some (.tup t))(D:∀ b o u,H b=some (.frz o u)->H' b=some (.frz o u))(C:∀ b E,H b=some (.tbl E)->∃ more,H' b=some (.tbl (E++more)))(ns:∀ m,s.heap.Ns X.env.locals m->h'.Ns X.env.locals m)(J:HOk X.prog X.w H' h')(R:AllBare g') :
    Inv X pins σ H' { s with heap:=h',gens:=g',drawn:=d',toks:=t' }:=by
  have B:∀ b o,X.s₀.heap.get? b=some o->b≠X.env.locals:=λb o e=>JD (JL (Jp e) I.ok.above)
  have j:∀ b o,X.s₀.heap.get? b=some o->b∉X.ex->b∉ch:=λb o e a w=>by
    rcases (g b w).1 with z|z
    · exact a z
    · exact absurd (JL (Jp e) z) (YG _)
  have cellK:∀ x c,X.env.cells.lookup x=some c->∀ v,s.heap.IsCell c v->h'.IsCell c v:=λx c e v ⟨o,y,F⟩=>by
    have f:c∉ch:=λz=>(g c z).2.2.1 x c e rfl;by_cases M:c∈X.fs
    · obtain⟨sl,q⟩:=slot c o (I.cne x c e) M f y (I.freeC x c e)
      exact⟨_,q,F⟩
    · exact⟨o,keep c o (I.cne x c e) M f y (I.freeC x c e),F⟩
  refine⟨I.ok,I.os,R,⟨λb o e n w a=>?_,λb o e n w a=>?_,λb o e n a=>?_,λb o e a=>?_,λb t e=>tups b t (I.base.tups b t e),λb o t e=>D b o t (I.base.frzs b o t e),λb E e=>?_⟩,?_,λx c e=>?_,?_,λx c e=>?_,λp L=>?_,J,I.len⟩
  · exact keep b o (B b o e) w (j b o e a) (I.base.keep b o e n w a) (I.base.free b o e n a)
  · obtain⟨sl,h⟩:=I.base.slot b o e n w a
    obtain⟨G,e2⟩:=slot b _ (B b o e) w (j b o e a) h (I.base.free b o e n a);exact⟨G,e2⟩
  · obtain⟨A,h⟩:=I.base.there b o e a
    exact free b A (j b o e a) h (I.base.free b o e n a)
  · obtain⟨A,h⟩:=I.base.there b o e a
    exact there b A (j b o e a) h
  · obtain⟨O,h⟩:=I.base.tbls b E e
    obtain⟨N,e2⟩:=C b _ h;exact⟨O++N,by rw[e2,Array.append_assoc]⟩
  · obtain⟨m,P,Q⟩:=I.loc
    refine⟨m,ns m P,λi x v h e2 S=>?_⟩;obtain⟨u,r,l⟩:=Q i x v h e2 S;refine⟨u,r,?_⟩;rcases l with l|⟨k,c,e,z⟩
    · exact .inl l
    · exact .inr ⟨k,c,e,cellK x c e _ z⟩
  · obtain⟨v,z⟩:=I.cell x c e
    exact⟨v,cellK x c e v z⟩
  · obtain⟨m,⟨o,_,_,y,_⟩,_⟩:=I.loc
    exact free _ o (λz=>(g _ z).2.1 rfl) y I.free
  · obtain⟨v,o,y,F⟩:=I.cell x c e
    exact free c o (λz=>(g c z).2.2.1 x c e rfl) y (I.freeC x c e)
  · obtain⟨e,n,ne,K,d⟩:=I.pin p L
    have f:p.1∉ch:=λz=>(g p.1 z).2.2.2 p L rfl;exact⟨keep p.1 p.2 ne K f e n,free p.1 p.2 f e n,ne,K,d⟩
theorem Inv.un {t':Nat}(I:Inv X pins σ H s)(u:Un X.fs [] H H' s.heap h')(hok:HOk X.prog X.w H' h'):Inv X pins σ H' { s with heap:=h',toks:=t' }:=by
  obtain⟨m,⟨o,q,t,g,r⟩,_⟩:=id I.loc;obtain⟨k,j⟩:=u.any g I.free (by simp)
  exact I.step (g':=s.gens) (d':=s.drawn) (ch:=[]) (λ_ z=>nomatch z) (λb o _ c _ e n=>u.keep b o e n c (by simp)) (λb o _ c _ e n=>u.slot b o e n c (by simp)) (λb o _ e n=>u.free b o e n (by simp)) (λb o _ e=>u.there b o e (by simp)) u.tups u.frzs u.tbls (λp i=>by
    obtain⟨l,d,f,a,h⟩:=i;rw[g]at a;cases a
    exact⟨_,d,f,j,h⟩) hok I.bare
theorem Inv.call {g':Array GenState}{t':Nat}{d':Drawn}{ch:List JI}(I:Inv X pins σ H s)(u:Un (frs X.stack) ch H H' s.heap h')(hok:HOk X.prog X.w H' h')(q:AllBare g')(f:∀ b∈ch,(b∈X.ex\/X.s₀.heap.objs.size<=b)/\b≠X.env.locals/\(∀ x c,X.env.cells.lookup x=some c->c≠b)/\∀ p∈X.pn++pins,p.1≠b) :
    Inv X pins σ H' { s with heap:=h',gens:=g',drawn:=d',toks:=t' }:=by
  obtain⟨m,⟨o,A,B,j,r⟩,_⟩:=id I.loc;obtain⟨v,g⟩:=u.any j I.free λz=>(f _ z).2.1 rfl
  exact I.step (ch:=ch) f (λb o g t a e n=>u.keep b o e n (λz=>(Jr.mp (I.stkSub b z)).elim g t) a) (λb o _ _ a e n=>u.any e n a) (λb o a e n=>u.free b o e n a) (λb o a e=>u.there b o e a) u.tups u.frzs u.tbls (λy l=>by
    obtain⟨w,h,i,d,k⟩:=l;rw[j]at d;cases d
    exact⟨_,h,i,g,k⟩) hok q
theorem Inv.turned {t':Nat}{it:JI}(I:Inv X pins σ H s)(k:∀ b o,b≠it->s.heap.get? b=some o->h'.get? b=some o)(hn:H it=none)(f:it≠X.env.locals)(t:it∈X.ex\/X.s₀.heap.objs.size<=it)(l:∀ x c,X.env.cells.lookup x=some c->c≠it)(j:∀ p∈X.pn++pins,p.1≠it):Inv X pins σ H { s with heap:=h',toks:=t' }:=by
  have d:∀ b u,H b=some u->b≠it:=λb u e z=>by rw[z,hn]at e;cases e
  refine I.step (g':=s.gens) (d':=s.drawn) (ch:=[it]) (λb i=>?_) (λb o _ _ a e _=>k b o (λz=>a (by simp[z])) e) (λb o _ _ a e _=>⟨o.slots,k b o (λz=>a (by simp[z])) e⟩) (λ_ _ _ _ n=>n)
    (λb o a e=>⟨o,k b o (λz=>a (by simp[z])) e⟩) (λ_ _ e=>e) (λ_ _ _ e=>e) (λb A e=>⟨#[],by rw[e];simp⟩) (λm h=>?_) (λb u e=>?_) I.bare
  · have e:b=it:=by simpa using i
    subst e;exact⟨t,f,l,j⟩
  · obtain⟨o,w,y,g,r⟩:=h
    exact⟨o,w,y,k _ o (Ne.symm f) g,r⟩
  · refine(I.hok b u e).stay (λc v a q=>k c v ?_ q) (λ_ q=>q) λ_ _ q=>q
    rcases a with z|z
    · rw[z];exact d b u e
    · exact d c _ z
theorem Inv.tok (I:Inv X pins σ H s)(t:Nat):Inv X pins σ H { s with toks:=t }:=I.un (h':=s.heap) (t':=t) Un.refl I.hok
theorem Inv.kept {t':Nat}(I:Inv X pins σ H s)(k:∀ b u,s.heap.get? b=some u->h'.get? b=some u):Inv X pins σ H { s with heap:=h',toks:=t' }:=I.un (Un.kept k) (I.hok.kept k)
theorem Inv.laid {a:JI}{o:HO}{t':Nat}(I:Inv X pins σ H s)(k:∀ b u,s.heap.get? b=some u->h'.get? b=some u)(c:s.heap.objs.size<=a)(new:ObjOk X.prog X.w (upd H a o) h' a o) :
    Inv X pins σ (upd H a o) { s with heap:=h',toks:=t' }:=I.un (Un.laid k c (I.hok.fresh c)) (I.hok.laid k c new)
theorem Inv.write {x e:JI}{o:HO}{t':Nat}(I:Inv X pins σ H s)(c:Mut (H x))(d:e=x\/H e=some (.own x))(k:∀ b u,b≠e->s.heap.get? b=some u->h'.get? b=some u)(a:∃ u,h'.get? e=some u)(new:ObjOk X.prog X.w (upd H x o) h' x o):Inv X pins σ (upd H x o) { s with heap:=h',toks:=t' }:=I.un (Un.write c d k a) (I.hok.write c d k a new)
theorem Inv.pins_of {a:List (JI × Obj)}(I:Inv X pins σ H s)(h:∀ p∈a,s.heap.get? p.1=some p.2/\H p.1=none/\p.1≠X.env.locals/\p.1∉X.fs/\∀ v,p.2.data≠.cell v):Inv X a σ H s :=
  ⟨I.ok,I.os,I.bare,I.base,I.loc,I.cell,I.free,I.freeC,λp b=>(Jv.mp b).elim (λz=>I.pin p (Yq _ z)) (h p),I.hok,I.len⟩
theorem nM {N:List Str}(c:N.Nodup){i j:Nat}{x:Str}(a:N[i]?=some x)(b:N[j]?=some x):i=j:=by
  obtain⟨f,d⟩:=Jb.mp a;obtain⟨e,e2⟩:=Jb.mp b;exact(List.getElem_inj c).mp (d.trans e2.symm)
theorem rg {M:Model}{A:YO}{E:Jo->JO->Prop}{i:Nat}{x:Str}{v:V}{u:Jo}{Q:Unit->JO->Prop}(I:Inv X pins σ H s)(hN:X.N.Nodup)(hi:X.N[i]?=some x)(t:Loc X.env.scope x)(r:RelV v u)(h:∀ W,Inv X pins (σ.set i (some v)) H W->(∃ a,Heap.SameBut a s.heap W.heap/\(a=X.env.locals\/X.env.cells.lookup x=some a))->Q () W)(hf:X.fn x=true\/X.env.scope.names.lookup x=some .local:=by first|exact .inl rfl|exact .inr rfl|assumption):wpAny M A (storeName X.env x u) Q E s:=by
  obtain⟨m,hn,hl⟩:=id I.loc;have O:(X.env.scope.kind == .class || (X.env.scope.kind == .module && X.env.locals != X.env.globals))=false:=by rw[I.ok.kind];rfl
  have C:i<σ.length:=by rw[I.len];exact(Jb.mp hi).1
  have cne:=I.cne
  have tracked:∀ {a:JI}{h':YP},(∃ o,s.heap.get? a=some o/\H a=none)->Heap.SameBut a s.heap h'->HOk X.prog X.w H h':=λ{a h'} ha f b ob e=>by
    obtain⟨_,_,w⟩:=ha;refine(I.hok b ob e).stay (λc P l q=>(f.2 c ?_).trans q) (λ_ q=>q) λ_ _ q=>q;rintro rfl;rcases l with rfl|l
    · rw[w]at e;cases e
    · rw[w]at l;cases l
  rcases t with B|B
  · refine wpAny_storeName_local B hn (λh' ao f=>?_) O
    obtain⟨oL,_,_,ab,_⟩:=id hn;refine h _ ⟨I.ok,I.os,I.bare,⟨λb o e n F t=>?_,λb o e n F t=>?_,I.base.free,λb o e t=>?_,I.base.tups,I.base.frzs,I.base.tbls⟩,⟨_,ao,λj y S g e2 e3=>?_⟩,λy c e=>?_,I.free,I.freeC,λp hp=>?_,tracked ⟨oL,ab,I.free⟩ f,by simpa using I.len⟩ ⟨_,f,.inl rfl⟩
    · exact(f.2 b (JD (JL (Jp e) I.ok.above))).trans (I.base.keep b o e n F t)
    · obtain⟨U,g⟩:=I.base.slot b o e n F t
      exact⟨U,(f.2 b (JD (JL (Jp e) I.ok.above))).trans g⟩
    · obtain⟨Z,g⟩:=I.base.there b o e t
      exact⟨Z,(f.2 b (JD (JL (Jp e) I.ok.above))).trans g⟩
    · by_cases D:j=i
      · subst D
        rw[hi]at g;cases g;rw[List.getElem?_set_self C]at e2;cases e2;exact⟨u,r,.inl ⟨B,by simp⟩⟩
      · rw[We (Ne.symm D)]at e2
        obtain⟨T,Y,q⟩:=hl j y S g e2 e3;refine⟨T,Y,?_⟩;rcases q with ⟨k,e⟩|⟨k,c,e,z⟩
        · refine .inl ⟨k,?_⟩
          have:y≠x:=λe=>D (nM hN g (e ▸ hi));simp[this,e]
        · exact .inr ⟨k,c,e,z.sameBut f (cne y c e)⟩
    · obtain⟨P,z⟩:=I.cell y c e
      exact⟨P,z.sameBut f (cne y c e)⟩
    · obtain⟨e,n,ne,nf,d⟩:=I.pin p hp
      exact⟨(f.2 p.1 ne).trans e,n,ne,nf,d⟩
  · have G:X.fn x=true:=by
      rcases hf with z|z
      · exact z
      · rw[z]at B;cases B
    obtain⟨c,l⟩:=I.ok.has x (.inl B);obtain⟨P,z⟩:=I.cell x c l;refine wpAny_storeName_cell I.ok.kind B l z (λh' L f=>?_);obtain⟨oc,J,N⟩:=id z;refine h { s with heap:=h' } ⟨I.ok,I.os,I.bare,⟨λb o e n F t=>?_,λb o e n F t=>?_,I.base.free,λb o e t=>?_,I.base.tups,I.base.frzs,I.base.tbls⟩,⟨m,hn.sameBut f (Ne.symm (cne x c l)),λj y S g e2 e3=>?_⟩,λy R e=>?_,I.free,I.freeC,λp hp=>?_,tracked ⟨oc,J,I.freeC x c l⟩ f,by simpa using I.len⟩ ⟨c,f,.inr l⟩
    · exact(f.2 b (JD (JL (Jp e) (I.ok.cab x c G l)))).trans (I.base.keep b o e n F t)
    · obtain⟨U,g⟩:=I.base.slot b o e n F t
      exact⟨U,(f.2 b (JD (JL (Jp e) (I.ok.cab x c G l)))).trans g⟩
    · obtain⟨Z,g⟩:=I.base.there b o e t
      exact⟨Z,(f.2 b (JD (JL (Jp e) (I.ok.cab x c G l)))).trans g⟩
    · by_cases D:j=i
      · subst D
        rw[hi]at g;cases g;rw[List.getElem?_set_self C]at e2;cases e2;exact⟨u,r,.inr ⟨.inl B,c,l,L⟩⟩
      · rw[We (Ne.symm D)]at e2
        obtain⟨T,Y,q⟩:=hl j y S g e2 e3;refine⟨T,Y,?_⟩;rcases q with q|⟨k,R,e,z'⟩
        · exact .inl q
        · refine .inr ⟨k,R,e,z'.sameBut f ?_⟩
          rintro rfl;exact D (nM hN g (I.ok.inj _ _ _ e l ▸ hi))
    · by_cases K:R=c
      · subst K;exact⟨_,L⟩
      · obtain⟨w2,z2⟩:=I.cell y R e
        exact⟨w2,z2.sameBut f K⟩
    · obtain⟨e,n,ne,nf,d⟩:=I.pin p hp
      refine⟨(f.2 p.1 ?_).trans e,n,ne,nf,d⟩;intro q;rw[q,J]at e;have q':oc=p.2:=Jq e;exact d P (by rw[<- q'];exact N)
theorem xi {M:Model}{A:YO}{E:Jo->JO->Prop}{i:Nat}{x:Str}{v:V}{u:Jo}{Q:Unit->JO->Prop}(I:Inv X pins σ H s)(d:X.N.Nodup)(hi:X.N[i]?=some x)(b:Loc X.env.scope x)(r:RelV v u)(h:∀ a,Inv X pins (σ.set i (some v)) H a->Q () a)(c:X.fn x=true\/X.env.scope.names.lookup x=some .local:=by first|exact .inl rfl|exact .inr rfl|assumption):wpAny M A (storeName X.env x u) Q E s :=
  rg I d hi b r (λa e _=>h a e) c
theorem Inv.call' {a:JO}{ch:List JI}(I:Inv X pins σ H s)(g:a.os=s.os)(u:Un (frs X.stack) ch H H' s.heap a.heap)(hok:HOk X.prog X.w H' a.heap)(h:AllBare a.gens)(d:∀ b∈ch,(b∈X.ex\/X.s₀.heap.objs.size<=b)/\b≠X.env.locals/\(∀ x c,X.env.cells.lookup x=some c->c≠b)/\∀ p∈X.pn++pins,p.1≠b):Inv X pins σ H' a:=by
  obtain⟨h',g',d',t',f⟩:=a;have e:f=s.os:=g;subst e;exact I.call (g':=g') (t':=t') (d':=d') u hok h d
end
abbrev XK:=Jo->Option JI->Hp->Prop
abbrev St:=List (Option V)
abbrev VK:=V->Hp->Prop
abbrev TE:=St->Hp->VK->Prop
abbrev TT:=St->Hp->(Bool->Hp->Prop)->Prop
abbrev TA:=St->Hp->(List V->Hp->Prop)->Prop
structure Ends where
  nx:St->Hp->Prop
  rt:VK
  bk:St->Hp->Prop:=λ_ _=>False
  ct:St->Hp->Prop:=λ_ _=>False
abbrev TS:=Ends->St->Hp->Prop
def EP (X:Cx)(pins:List (JI × Obj))(σ:St)(Q:VK)(u:Jo)(b:JO):Prop:=∃ v a,Inv X pins σ a b/\RelV v u/\Q v a
def TP (X:Cx)(pins:List (JI × Obj))(σ:St)(Q:Bool->Hp->Prop)(b:Bool)(c:JO):Prop:=∃ a,Inv X pins σ a c/\Q b a
def AP (X:Cx)(pins:List (JI × Obj))(σ:St)(Q:List V->Hp->Prop)(us:List Jo)(c:JO):Prop:=∃ a b,Inv X pins σ b c/\Vals a us/\Q a b
def SP (X:Cx)(pins:List (JI × Obj))(D:Ends)(f:Flow)(c:JO):Prop :=
  match f with
  | .next=>∃ a b,Inv X pins a b c/\D.nx a b
  | .brk=>∃ a b,Inv X pins a b c/\D.bk a b
  | .cont=>∃ a b,Inv X pins a b c/\D.ct a b
  | .ret u=>∃ v a b,Inv X pins a b c/\RelV v u/\D.rt v b
def PE (X:Cx)(e:Expr)(t:TE):Prop :=
  ∀ (pins:List (JI × Obj)) (s:JO) (σ:St) (H:Hp) (Q:VK),Inv X pins σ H s->t σ H Q->wpAny (model X.prog X.w) X.A (eval e X.env) (EP X pins σ Q) X.xe s
def PT (X:Cx)(e:Expr)(t:TT):Prop :=
  ∀ (pins:List (JI × Obj)) (s:JO) (σ:St) (H:Hp) (Q:Bool->Hp->Prop),Inv X pins σ H s->t σ H Q->wpAny (model X.prog X.w) X.A (isTrue e X.env (eval e X.env)) (TP X pins σ Q) X.xe s
def PW (X:Cx)(e:Expr)(t:TT):Prop :=
  ∀ (whole:Sem Jo) (pins:List (JI × Obj)) (s:JO) (σ:St) (H:Hp) (Q:Bool->Hp->Prop),Inv X pins σ H s->t σ H Q->wpAny (model X.prog X.w) X.A (isTrue e X.env whole) (TP X pins σ Q) X.xe s
theorem PW.pt {X:Cx}{e:Expr}{t:TT}(h:PW X e t):PT X e t:=h _
def PA (X:Cx)(es:List Expr)(t:TA):Prop :=
  ∀ (pos:Pos) (pins:List (JI × Obj)) (s:JO) (σ:St) (H:Hp) (Q:List V->Hp->Prop),Inv X pins σ H s->t σ H Q->wpAny (model X.prog X.w) X.A (spliced (backTo pos (starEach es X.env))) (AP X pins σ Q) X.xe s
def PS (X:Cx)(st:Stmt)(t:TS):Prop :=
  ∀ (pins:List (JI × Obj)) (s:JO) (σ:St) (H:Hp) (D:Ends),Inv X pins σ H s->t D σ H->wpAny (model X.prog X.w) X.A (exec st X.env) (SP X pins D) X.xe s
def PSs (X:Cx)(st:List Stmt)(t:TS):Prop :=
  ∀ (pins:List (JI × Obj)) (s:JO) (σ:St) (H:Hp) (D:Ends),Inv X pins σ H s->t D σ H->wpAny (model X.prog X.w) X.A (execs st X.env) (SP X pins D) X.xe s
theorem thn {α:Type}{t:Sem α}{Q b:α->JO->Prop}{M:Model}{A:YO}{E:Jo->JO->Prop}{s:JO}(h:wpAny M A t Q E s)(c:∀ a s,Q a s->b a s):wpAny M A t b E s:=JU h c λ_ _ x=>x
section
variable {X:Cx}
def fH (i:Nat):TE:=λσ H Q=>∃ v,σ[i]?=some (some v)/\Q v H
def tC (v:V):TE:=λ_ H Q=>Q v H
theorem dH {i:Nat}{x:Str}{pos:Pos}(o:X.N[i]?=some x) (g:Vis X.env.scope x) (hd:(x == ("__debug__":Str))=false:=by decide) (d:(x == ("__classdict__":Str))=false:=by decide):PE X (.Name x pos) (fH i):=by
  intro pins s σ H Q I h;obtain⟨v,e,h⟩:=h;obtain⟨m,j,n⟩:=I.loc;obtain⟨u,r,l⟩:=n i x v o e g;have fin:EP X pins σ Q u s:=⟨v,H,I,r,h⟩;rcases l with ⟨b,k⟩|⟨b,c,f,a⟩
  · exact wpAny_Name (wpAny_loadName_local I.ok.kind b j k fin) hd
  · rcases b with b|b
    · exact wpAny_Name (wpAny_loadName_cell I.ok.kind b f a fin) hd
    · exact wpAny_Name (wpAny_loadName_free I.ok.kind b f a fin d) hd
theorem zE {i j pos}:PE X (.Constant (.int i) j pos) (tC (.int i)):=λ_ _ _ H _ I h=>wpAny_Constant_int ⟨.int i,H,I.tok _,⟨_,rfl⟩,h⟩
theorem x4 {b j pos}:PE X (.Constant (.bool b) j pos) (tC (.bl b)):=λ_ _ _ H _ I h=>Constant_bool ⟨.bl b,H,I,rfl,h⟩
theorem sO {j pos}:PE X (.Constant .none j pos) (tC .non):=λ_ _ _ H _ I h=>Constant_none ⟨.non,H,I,rfl,h⟩
theorem wQ {x j pos}:PE X (.Constant (.str x) j pos) (tC (.str x)):=λ_ _ _ H _ I h=>Calls.Constant_str ⟨.str x,H,I.tok _,⟨_,rfl⟩,h⟩
def Gl (X:Cx)(x:Str):Prop:=X.env.kindOf x=some .globalImplicit
theorem jT {E:Jo->JO->Prop}{pins:List (JI × Obj)}{s:JO}{σ:St}{H:Hp}{x:Str}{u:Jo}{pos:Pos}{Q:Jo->JO->Prop}(I:Inv X pins σ H s) (a:Gl X x) (hm:X.mg x=some u) (h:Q u s)
    (hd:(x == ("__debug__":Str))=false:=by decide):wpAny (model X.prog X.w) X.A (eval (.Name x pos) X.env) Q E s :=
  Calls.Name_function_global I.ok.kind a (Calls.loadGlobal_global (by rw[I.ok.glob];exact I.mod.glob.keeps I.bk) hm h) hd
theorem xu {E:Jo->JO->Prop}{pins:List (JI × Obj)}{s:JO}{σ:St}{H:Hp}{x:Str}{u:Jo}{pos:Pos}{Q:Jo->JO->Prop}(I:Inv X pins σ H s) (b:Gl X x) (hm:X.mg x=none) (a:bootBuiltins x=some u) (h:Q u s)
    (hn:x≠"__name__":=by decide) (c:(x == ("__debug__":Str))=false:=by decide):wpAny (model X.prog X.w) X.A (eval (.Name x pos) X.env) Q E s:=by
  obtain⟨f,e,d⟩:=I.mod.blt;exact Calls.Name_function_global I.ok.kind b (Calls.loadGlobal_builtin (by rw[I.ok.glob];exact I.mod.glob.keeps I.bk) hm (by rw[I.ok.blt];exact e.keeps I.bk) ((d x hn).trans a) h) c
theorem xM {x:Str}{v:V}{u:Jo}{pos:Pos}(b:Gl X x) (hm:X.mg x=none) (a:bootBuiltins x=some u) (r:RelV v u) (hn:x≠"__name__":=by decide) (c:(x == ("__debug__":Str))=false:=by decide):PE X (.Name x pos) (tC v) :=
  λ_ _ _ H _ I h=>xu I b hm a ⟨v,H,I,r,h⟩ hn c
variable {a b:Expr}{ta tb:TE}{pos:Pos}
def tB (t:TE):TT:=λσ H Q=>t σ H λx a=>∃ c,x=.bl c/\Q c a
theorem wd {e:Expr}{t:TE}(h:PE X e t)(f:∀ whole,isTrue e X.env whole=(do let v <- whole;standAt e.pos;holding [v] (truthy v)):=by intro _;rfl):PT X e (tB t):=by
  intro pins s σ H Q I c;refine isTrue_plain (thn (h pins s σ H _ I c) λv j ⟨x,i,g,a,b⟩=>?_) (f _);obtain⟨d,rfl,q⟩:=b;cases a;exact YC ⟨i,g,q⟩
variable {tA tB':TT}{rest:List Expr}
def zcg (t u:TT):TT:=λσ H Q=>t σ H λc a=>if c=true then u σ a Q else Q false a
def tOr (t u:TT):TT:=λσ H Q=>t σ H λc a=>if c=true then Q true a else u σ a Q
def zcb (t:TT):TT:=λσ H Q=>t σ H λc a=>Q (!c) a
theorem pL (ha:PT X a tA):PW X (.BoolOp .And [a] pos) tA:=by
  intro b pins s σ H Q I h;refine isTrue_and (thn (ha pins s σ H Q I h) λc d e=>?_)
  cases c with
  | true=>exact isTrue_and_nil e
  | false=>exact e
theorem lU (ha:PT X a tA):PW X (.BoolOp .Or [a] pos) tA:=by
  intro b pins s σ H Q I h;refine isTrue_or (thn (ha pins s σ H Q I h) λc d e=>?_)
  cases c with
  | false=>exact isTrue_or_nil e
  | true=>exact e
theorem pM (ha:PT X a tA)(hb:PW X (.BoolOp .And (b::rest) pos) tB'):PW X (.BoolOp .And (a::b::rest) pos) (zcg tA tB'):=by
  intro g pins s σ H Q I h;refine isTrue_and (thn (ha pins s σ H _ I h) λc i ⟨f,e,d⟩=>?_)
  cases c with
  | true=>exact hb g pins i σ f Q e d
  | false=>exact⟨f,e,d⟩
theorem eW (ha:PT X a tA)(hb:PW X (.BoolOp .Or (b::rest) pos) tB'):PW X (.BoolOp .Or (a::b::rest) pos) (tOr tA tB'):=by
  intro g pins s σ H Q I h;refine isTrue_or (thn (ha pins s σ H _ I h) λc i ⟨f,e,d⟩=>?_)
  cases c with
  | true=>exact⟨f,e,d⟩
  | false=>exact hb g pins i σ f Q e d
theorem pN (ha:PT X a tA):PT X (.UnaryOp .Not a pos) (zcb tA):=by
  intro pins s σ H Q I h;exact isTrue_not (ha pins s σ H (λc b=>Q (!c) b) I h)
def zbF (ta tb:TE):TE:=λσ H Q=>ta σ H λx a=>∃ c,x=.bl c/\if c=true then tb σ a Q else Q (.bl false) a
def zbx (ta:TE):TE:=λσ H Q=>ta σ H λx a=>∃ c,x=.bl c/\Q (.bl (!c)) a
theorem vT {op}{t:TE}(h:PE X a t):PE X (.BoolOp op [a] pos) t:=λpins s σ H Q I b=>BoolOp_one (h pins s σ H Q I b)
theorem wj (ha:PE X a ta)(hb:PE X (.BoolOp .And (b::rest) pos) tb):PE X (.BoolOp .And (a::b::rest) pos) (zbF ta tb):=by
  intro pins s σ H Q I h;refine BoolOp_and (thn (ha pins s σ H _ I h) λv g ⟨x,f,e,i,d⟩=>?_);obtain⟨c,rfl,d⟩:=d;cases i;refine YC ?_
  cases c with
  | true=>exact hb pins g σ f Q e d
  | false=>exact⟨.bl false,f,e,rfl,d⟩
theorem pR (ha:PE X a ta):PE X (.UnaryOp .Not a pos) (zbx ta):=by
  intro pins s σ H Q I h;refine UnaryOp_ (thn (ha pins s σ H _ I h) λv g ⟨x,f,e,d,b⟩=>?_);obtain⟨c,rfl,b⟩:=b;cases d;exact not_of (YC ⟨.bl (!c),f,e,rfl,b⟩)
def tIf (t:TT)(ta tb:TE):TE:=λσ H Q=>t σ H λc a=>if c=true then ta σ a Q else tb σ a Q
theorem nA {c:Expr}(j:PT X c tA)(ha:PE X a ta)(hb:PE X b tb):PE X (.IfExp c a b pos) (tIf tA ta tb):=by
  intro pins s σ H Q I h;refine wpAny_IfExp (thn (j pins s σ H _ I h) λd e ⟨i,g,f⟩=>?_)
  cases d with
  | true=>exact ha pins e σ i Q g f
  | false=>exact hb pins e σ i Q g f
end
def SqL (K:Jl)(H:Hp)(a:JI)(xs:List V):Prop :=
  Rd H a (.lst xs) \/
    ∃ (o:Obj) (b:Array Jo) (n:Nat),K.lookup a=some o/\o.cls=.type "list"/\o.dict=none/\o.data=.seq b n/\b.size<=sizeLine/\Vals xs b.toList
def SqT (K:Jl)(H:Hp)(a:JI)(xs:List V):Prop :=
  Rd H a (.tup xs) \/
    ∃ (o:Obj) (b:Array Jo) (n:Nat),K.lookup a=some o/\o.cls=.type "tuple"/\o.data=.seq b n/\b.size<=sizeLine/\Vals xs b.toList
def zcL:Jo->Option V
  | .none=>some .non
  | .bool b=>some (.bl b)
  | .int i _=>some (.int i)
  | .str x _=>some (.str x)
  | .bytes b _=>some (.byt b)
  | .float b _=>some (.flt b)
  | .ref a=>some (.ref a)
  | .type n=>some (.ty n)
  | _=>none
theorem RelV.abs {x:V}{u:Jo}(r:RelV x u):zcL u=some x:=by
  cases x with
  | non=>cases r;rfl
  | bl _=>cases r;rfl
  | int _=>obtain⟨t,rfl⟩:=r;rfl
  | str _=>obtain⟨t,rfl⟩:=r;rfl
  | byt _=>obtain⟨t,rfl⟩:=r;rfl
  | flt _=>obtain⟨t,rfl⟩:=r;rfl
  | ref _=>cases r;rfl
  | ty _=>cases r;rfl
theorem RelV.inj {x y:V}{u:Jo}(r:RelV x u)(q:RelV y u):x=y:=Jq (r.abs.symm.trans q.abs)
theorem Vals.inj:∀ {xs ys:List V}{us:List Jo},Vals xs us->Vals ys us->xs=ys
  | _,_,_,.nil,.nil=>rfl
  | _,_,_,.cons r t,.cons a t'=>by rw[r.inj a,Vals.inj t t']
section
variable {X:Cx}{pins:List (JI × Obj)}{σ:St}{H:Hp}{s:JO}{a:JI}{xs ys:List V}
theorem SqL.of {K:Jl}(h:H a=some (.lst xs)):SqL K H a xs:=.inl (.inl h)
theorem SqT.of {K:Jl}(h:H a=some (.tup xs)):SqT K H a xs:=.inl (.inl h)
theorem Inv.list (I:Inv X pins σ H s)(h:SqL X.K H a xs):∃ its:List Jo,Vals xs its/\PlainL s.heap a its.toArray/\xs.length<=sizeLine:=by
  rcases h with h|⟨o,its,n,c,f,d,b,g,r⟩
  · obtain⟨z,its,n,r,e⟩:=h.ok I.hok
    exact⟨its,r,⟨_,n,e,rfl,rfl,rfl⟩,z⟩
  · refine⟨its.toList,r,⟨o,n,I.kIn a o c,f,d,by simpa using b⟩,?_⟩
    have e:=r.length;simp only[JA]at e
    simp_all
theorem Inv.tuple (I:Inv X pins σ H s)(h:SqT X.K H a xs):∃ its:List Jo,Vals xs its/\IsTup s.heap a its.toArray/\xs.length<=sizeLine:=by
  rcases h with h|⟨o,its,n,c,d,b,f,r⟩
  · obtain⟨z,its,r,p⟩:=h.ok I.hok
    exact⟨its,r,p.tup,z⟩
  · refine⟨its.toList,r,⟨o,I.kIn a o c,d,n,by simpa using b⟩,?_⟩
    have e:=r.length;simp only[JA]at e
    simp_all
theorem Inv.list_inj (I:Inv X pins σ H s)(h:SqL X.K H a xs)(h':SqL X.K H a ys):xs=ys:=by
  obtain⟨c,r,⟨o,n,e,_,_,d⟩,_⟩:=I.list h;obtain⟨b,i,⟨k,l,f,_,_,g⟩,_⟩:=I.list h';rw[e]at f;cases f;rw[d]at g;injection g with j _;have:c=b:=by simpa using JS Array.toList j
  subst this;exact r.inj i
theorem Inv.tuple_inj (I:Inv X pins σ H s)(h:SqT X.K H a xs)(h':SqT X.K H a ys):xs=ys:=by
  obtain⟨c,r,⟨o,e,_,n,d⟩,_⟩:=I.tuple h;obtain⟨b,i,⟨k,f,_,l,g⟩,_⟩:=I.tuple h';rw[e]at f;cases f;rw[d]at g;injection g with j _;have:c=b:=by simpa using JS Array.toList j
  subst this;exact r.inj i
end
abbrev Cx.wish (X:Cx)(E:Jo->JO->Prop):Cx:={ X with xe:=E }
abbrev Cx.nox (X:Cx):Cx:=X.wish λ_ _=>False
theorem Cx.Ok.wish {X:Cx}(ok:X.Ok)(E:Jo->JO->Prop):(X.wish E).Ok :=
  ⟨ok.mod,ok.kind,ok.glob,ok.blt,ok.above,ok.inj,ok.has,ok.cab,ok.hd,ok.frames,ok.stk,ok.exf,ok.bs,ok.bsz,ok.noex,ok.exfs,ok.funs,ok.frf⟩
theorem Cx.Ok.unwish {X:Cx}{E:Jo->JO->Prop}(ok:(X.wish E).Ok):X.Ok :=
  ⟨ok.mod,ok.kind,ok.glob,ok.blt,ok.above,ok.inj,ok.has,ok.cab,ok.hd,ok.frames,ok.stk,ok.exf,ok.bs,ok.bsz,ok.noex,ok.exfs,ok.funs,ok.frf⟩
section
variable {X:Cx}{pins:List (JI × Obj)}{σ:St}{H:Hp}{s:JO}{E:Jo->JO->Prop}
theorem Inv.wish (I:Inv X pins σ H s)(E:Jo->JO->Prop):Inv (X.wish E) pins σ H s:=⟨I.ok.wish E,I.os,I.bare,I.base,I.loc,I.cell,I.free,I.freeC,I.pin,I.hok,I.len⟩
theorem Inv.unwish (I:Inv (X.wish E) pins σ H s):Inv X pins σ H s:=⟨I.ok.unwish,I.os,I.bare,I.base,I.loc,I.cell,I.free,I.freeC,I.pin,I.hok,I.len⟩
theorem SP.unwish {D:Ends}{f:Flow}{c:JO}(h:SP (X.wish E) pins D f c):SP X pins D f c:=by
  cases f with
  | next=>obtain⟨a,b,I,q⟩:=h;exact⟨a,b,I.unwish,q⟩
  | brk=>obtain⟨a,b,I,q⟩:=h;exact⟨a,b,I.unwish,q⟩
  | cont=>obtain⟨a,b,I,q⟩:=h;exact⟨a,b,I.unwish,q⟩
  | ret u=>obtain⟨v,a,b,I,r,q⟩:=h;exact⟨v,a,b,I.unwish,r,q⟩
theorem PSs.nox {st:List Stmt}{t:TS}(h:PSs X.nox st t):PSs X st t:=λpins s σ H D I a =>
  JU (h pins s σ H D (I.wish _) a) (λ_ _ q=>q.unwish) λ_ _ z=>False.elim z
end
section
variable {X:Cx}{st:Stmt}{rest:List Stmt}{t u:TS}{e:Expr}{te:TE}{pos:Pos}
def fU:TS:=λD σ H=>D.nx σ H
def qh (t u:TS):TS:=λD σ H=>t { D with nx:=u D } σ H
theorem yA:PSs X [] fU:=λ_ _ σ H _ I h=>wpAny_execs_nil ⟨σ,H,I,h⟩
theorem zH (d:PS X st t)(c:PSs X rest u):PSs X (st::rest) (qh t u):=by
  intro pins s σ H D I h;refine wpAny_execs_cons (thn (d pins s σ H { D with nx:=u D } I h) λf b q=>?_)
  cases f with
  | next =>
    obtain⟨a,g,e,q⟩:=q
    exact c pins b a g D e q
  | ret v=>exact q
  | brk=>exact q
  | cont=>exact q
theorem zM (a:PS X st t):PSs X [st] t:=by
  intro pins s σ H D I h;refine wpAny_execs_cons (thn (a pins s σ H D I h) λf b q=>?_)
  cases f with
  | next=>exact wpAny_execs_nil q
  | ret v=>exact q
  | brk=>exact q
  | cont=>exact q
def zbE:TS:=λD σ H=>D.ct σ H
theorem o8:PS X (.Continue pos) zbE:=λ_ _ σ H _ I h=>wpAny_Continue ⟨σ,H,I,h⟩
theorem Inv.quiet {pins:List (JI × Obj)}{σ:St}{H:Hp}{s:JO}(I:Inv X pins σ H s):interactive X.env=false:=by simp[interactive,I.ok.kind]
def zbD (te:TE):TS:=λD σ H=>te σ H λ_ a=>D.nx σ a
theorem xA (c:PE X e te)(b:swapsWith e none pos.line X.env=pure false:=by rfl):PS X (.Expr e pos) (zbD te):=by
  intro pins s σ H D I h;exact wpAny_Expr_any (thn (c pins s σ H _ I h) λv g ⟨x,f,d,i,a⟩=>⟨σ,f,d,a⟩) I.quiet b
def zb9 (te:TE):TS:=λD σ H=>te σ H D.rt
theorem zV (c:PE X e te):PS X (.Return (some e) pos) (zb9 te):=by
  intro pins s σ H D I h;exact wpAny_Return_some (thn (c pins s σ H _ I h) λv g ⟨x,f,d,a,b⟩=>⟨x,σ,f,d,a,b⟩)
def zaw (c:TT)(t u:TS):TS:=λD σ H=>c σ H λb a=>if b=true then t D σ a else u D σ a
theorem yX {c:Expr}{a b:List Stmt}{e:TT}(k:PT X c e)(ha:PSs X a t)(hb:PSs X b u):PS X (.If c a b pos) (zaw e t u):=by
  intro pins s σ H D I h;refine wpAny_If (thn (k pins s σ H _ I h) λd f ⟨j,i,g⟩=>?_)
  cases d with
  | true=>exact ha pins f σ j D i g
  | false=>exact hb pins f σ j D i g
end
abbrev TG:=V->St->Hp->(St->Hp->Prop)->Prop
abbrev TGs:=List V->St->Hp->(St->Hp->Prop)->Prop
def PG (X:Cx)(target:Expr)(t:TG):Prop :=
  ∀ (pins:List (JI × Obj)) (s:JO) (σ:St) (H:Hp) (v:V) (u:Jo) (Q:St->Hp->Prop),Inv X pins σ H s->RelV v u->t v σ H Q ->
    wpAny (model X.prog X.w) X.A (assign target X.env u) (λ_ c=>∃ a b,Inv X pins a b c/\Q a b) X.xe s
def PGs (X:Cx)(ts:List Expr)(t:TGs):Prop :=
  ∀ (pins:List (JI × Obj)) (s:JO) (σ:St) (H:Hp) (b:List V) (c:List Jo) (Q:St->Hp->Prop),Inv X pins σ H s->Vals b c->t b σ H Q ->
    wpAny (model X.prog X.w) X.A (assignInOrder ((assignEach ts X.env).map (·.2)) c) (λ_ e=>∃ a d,Inv X pins a d e/\Q a d) X.xe s
abbrev TSet:=V->V->V->Hp->(Hp->Prop)->Prop
def PSet (X:Cx)(t:TSet):Prop :=
  ∀ (pins:List (JI × Obj)) (s:JO) (σ:St) (H:Hp) (o i v:V) (a b u:Jo) (Q:Hp->Prop),Inv X pins σ H s->RelV o a->RelV i b->RelV v u->t o i v H Q ->
    wpAny (model X.prog X.w) X.A (setItem a b u) (λ_ d=>∃ c,Inv X pins σ c d/\Q c) X.xe s
section
variable {X:Cx}{pos:Pos}
def xw (i:Nat):TG:=λv σ H Q=>Q (σ.set i (some v)) H
theorem zP {i:Nat}{x:Str}(c:X.N.Nodup)(hi:X.N[i]?=some x)(a:Loc X.env.scope x)(b:X.fn x=true\/X.env.scope.names.lookup x=some .local:=by first|exact .inl rfl|exact .inr rfl|assumption):PG X (.Name x pos) (xw i):=by
  intro pins s σ H v u Q I r h;exact wpAny_assign_Name (xi I c hi a r (λe d=>⟨_,H,d,h⟩) b)
def ar:TGs:=λa σ H Q=>a=[]/\Q σ H
def sZ (t:TG)(u:TGs):TGs:=λb σ H Q=>∃ v r,b=v::r/\t v σ H λa c=>u r a c Q
theorem yD:PGs X [] ar:=by
  intro pins s σ H a b Q I r h;obtain⟨e,h⟩:=h;subst e;cases r;exact assignInOrder_nil ⟨σ,H,I,h⟩
theorem zS {e:Expr}{es:List Expr}{t:TG}{u:TGs}(i:PG X e t)(g:PGs X es u)(f:(assignEach (e::es) X.env).map (·.2)=assign e X.env::(assignEach es X.env).map (·.2):=by rfl):PGs X (e::es) (sZ t u):=by
  intro pins s σ H m o Q I r h;obtain⟨v,n,j,h⟩:=h;subst j
  cases r with
  | cons r c =>
    rw[f];refine ZV (thn (i pins s σ H _ _ _ I r h) λ_ b ⟨a,l,k,d⟩=>?_);exact g pins b a l _ _ Q k c d
def cy (K:Jl)(n:Nat)(t:TGs):TG:=λv σ H Q=>∃ a b,v=.ref a/\SqT K H a b/\b.length=n/\t b σ H Q
theorem yR {es:List Expr}{k:Nat}{t:TGs}{n:Nat}(p:X.calm=true)(h:PGs X es t)(hn:(assignEach es X.env).length=n:=by rfl)(d:(assignEach es X.env).findIdx? (·.1)=none:=by rfl):PG X (.Tuple es k pos) (cy X.K n t):=by
  intro pins s σ H v u Q I r c;obtain⟨a,g,w,l,m,c⟩:=c;subst w;cases r;obtain⟨y,f,j,z⟩:=I.tuple l;refine assign_Tuple_tuple (I.ok.hd p) j (by simp[hn,<- m,f.length]) d λq i=>?_;have x:Inv X pins σ H { s with heap:=q }:=I.kept (t':=s.toks) λb o e=>i b o (JD (Jp e)) e;exact h pins _ σ H g _ Q x (by simpa using f) c
def zcK (to a:TE)(t:TSet):TG:=λv σ H Q=>to σ H λo d=>a σ d λi c=>t o i v c λb=>Q σ b
theorem x9 {o i:Expr}{to c:TE}{t:TSet}(n:PE X o to)(hi:PE X i c)(m:PSet X t)(ha:∀ v,assign (.Subscript o i pos) X.env v=(do
      let a <- holding [v] (eval o X.env)
      let b <- holding [v,a] (eval i X.env)
      standAt pos
      holding [v,a,b] (setItem a b v)
      release [v,a,b] []):=by intro _;rfl):PG X (.Subscript o i pos) (zcK to c t):=by
  intro pins s σ H v u Q I r h;rw[ha];refine J0 (Yf (thn (n pins s σ H _ I h) λa e ⟨x,B,w,g,l⟩=>?_));refine J0 (Yf (thn (hi pins e σ B _ w l) λb d ⟨y,A,q,f,k⟩=>?_));refine J0 (Zd (J0 (Yf (thn (m pins d σ A x y v a b u _ q g f r k) λ_ C ⟨z,p,j⟩=>?_))));exact wpAny_release ⟨σ,z,p,j⟩
def bh (a:TE)(g:TG):TS:=λD σ H=>a σ H λx b=>g x σ b D.nx
theorem yU {tg e:Expr}{a:TE}{g:TG}(k:PE X e a)(j:PG X tg g)(i:swapsWithSole [tg] e pos.line X.env=pure false:=by rfl)(f:swappedStores [tg] e X.env=pure none:=by rfl)(l:(assignEach [tg] X.env).map (·.2)=[assign tg X.env]:=by rfl):PS X (.Assign [tg] e pos) (bh a g):=by
  intro pins s σ H D I h;refine wpAny_Assign_stores (thn (k pins s σ H _ I h) λv b ⟨x,n,m,c,d⟩=>?_) i f;rw[l];exact thn (j pins b σ n x v _ m c d) λ_ o q=>q
theorem zi {i:Nat}{x:Str}{e:Expr}{a:TE}{pos':Pos}(k:X.N.Nodup)(hi:X.N[i]?=some x)(d:Loc X.env.scope x)(j:PE X e a)(f:swapsWith e (some (.Name x pos')) pos.line X.env=pure false:=by rfl)(g:X.fn x=true\/X.env.scope.names.lookup x=some .local:=by first|exact .inl rfl|exact .inr rfl|assumption) :
    PS X (.Assign [.Name x pos'] e pos) (bh a (xw i)):=by
  intro pins s σ H D I h;refine wpAny_Assign_Name (thn (j pins s σ H _ I h) λv p ⟨y,n,m,b,c⟩=>?_) f;exact xi m k hi d b (λo l=>⟨_,n,l,c⟩) g
def zca (i j:Nat)(b:TA):TS:=λD σ H=>b σ H λa c=>∃ v w,a=[v,w]/\D.nx ((σ.set i (some v)).set j (some w)) c
theorem lV {i j:Nat}{x y:Str}{a b:Expr}{r:TA}{k py pt:Pos}{kt k2 pt2}(N:X.calm=true)(z:X.N.Nodup)(hi:X.N[i]?=some x)(M:X.N[j]?=some y)(n:i≠j)(u:X.env.scope.names.lookup x=some .local)(t:X.env.scope.names.lookup y=some .local)(ha:PA X [a,b] r)(K:swappedStores [.Tuple [.Name x k,.Name y py] kt pt] (.Tuple [a,b] k2 pt2) X.env=pure (some [x,y]))(L:swapsWithSole [.Tuple [.Name x k,.Name y py] kt pt] (.Tuple [a,b] k2 pt2) pos.line X.env=pure false:=by rfl) :
    PS X (.Assign [.Tuple [.Name x k,.Name y py] kt pt] (.Tuple [a,b] k2 pt2) pos) (zca i j r):=by
  intro pins s σ H D I h;rw[exec_Assign_arm];refine J0 (Zd ?_);rw[L];refine J0 (J9 ?_);rw[Jg (by decide)];refine J0 (Tuple_ (thn (ha _ pins s σ H _ I h) λC f ⟨T,B,S,F,g⟩=>?_));obtain⟨v,w,O,g⟩:=g;subst O
  obtain⟨d,c,rfl,E,l⟩:∃ d c,C=[d,c]/\RelV v d/\RelV w c:=by
    cases F with
    | cons p q =>
      cases q with
      | cons J G =>
        cases G;exact⟨_,_,rfl,p,J⟩
  refine JJ ?_ (by show 2<=sizeLine;decide);have R:Inv X pins σ B { f with heap:=f.heap.push { cls:=.type "tuple",data:=.seq [d,c].toArray } }:=S.kept (t':=f.toks) λb o e=>J8 _ e;rw[K];refine J0 (J9 ?_);show wpAny (model X.prog X.w) X.A (do rule "assign.swapped-stores";let items <- unpackItems (.ref f.heap.objs.size) 2 none;assignInOrder [λv=>bindName X.env y v,λv=>bindName X.env x v] items.reverse;pure Flow.next) _ _ _;refine J0 (Z1 (J0 (unpackItems_tuple (items:=#[d,c]) (I.ok.hd N) (IsTup.new f.heap _) λh' m=>?_)));have Q:=R.kept (h':=h') (t':=f.toks) λb o e=>m b o (JD (Jp e)) e;show wpAny _ _ (assignInOrder [λv=>bindName X.env y v,λv=>bindName X.env x v] [c,d] >>= λ_=>pure Flow.next) _ _ _;refine J0 (ZV (wpAny_bindName (xi Q z M (.inl t) l (λV P=>?_) (.inr t))));refine ZV (wpAny_bindName (xi P z hi (.inl u) E (λU A=>assignInOrder_nil (J9 ?_)) (.inr u)));rw[List.set_comm _ _ (Ne.symm n)]at A;exact⟨_,B,A,g⟩
def zat (c:TT)(g:TS):TS:=λD σ H=>∃ W:Nat->St->Hp->Prop,(∃ m,W m σ H)/\∀ m σ H,W m σ H ->
  c σ H λb e=>if b=true then ∃ N:St->Hp->Prop,(∀ a f,N a f->∃ d,d<m/\W d a f)/\g { D with nx:=N,ct:=N,bk:=D.nx } σ e else D.nx σ e
theorem o6 {c:Expr}{body:List Stmt}{q:TT}{r:TS}(t:PassesOwn (model X.prog X.w) X.A X.env X.xe)(J:PT X c q)(hb:PSs X body r):PS X (.While c body [] pos) (zat q r):=by
  intro pins s σ H D I h;obtain⟨W,⟨G,B⟩,turn⟩:=h;refine wpAny_While (codeAny_whileLoop (λn F=>∃ g z,Inv X pins g z F/\W n g z) ?_ G ⟨σ,H,I,B⟩);rintro n E ⟨d,y,K,A⟩;refine ZQ t (thn (J pins E d y _ K (turn n d y A)) λb C ⟨x,w,j⟩=>?_)
  cases b with
  | true =>
    obtain⟨N,u,j⟩:=j;rw[Jj rfl];refine ZQ t (thn (hb pins C d x _ w j) λf L i=>?_)
    cases f with
    | next =>
      obtain⟨a,e,p,l⟩:=i;obtain⟨m,o,k⟩:=u a e l
      exact⟨m,o,a,e,p,k⟩
    | cont =>
      obtain⟨a,e,p,l⟩:=i;obtain⟨m,o,k⟩:=u a e l
      exact⟨m,o,a,e,p,k⟩
    | brk=>exact i
    | ret v=>exact i
  | false =>
    rw[Jg Jm];exact wpAny_execs_nil ⟨d,x,w,j⟩
end
structure It where
  go:Nat->Hp->Prop
  yld:Nat->Hp->V->Hp->Prop
  stop:Nat->Hp->Prop
def FpOk (X:Cx)(pins:List (JI × Obj))(H:Hp)(b:JI):Prop :=
  H b=none/\b≠X.env.locals/\b∉X.fs/\(b∈X.ex\/X.s₀.heap.objs.size<=b)/\(∀ x c,X.env.cells.lookup x=some c->c≠b)/\∀ p∈X.pn++pins,p.1≠b
theorem Inv.fpOk {X:Cx}{pins:List (JI × Obj)}{σ:St}{H H':Hp}{s:JO}{b:JI}(I:Inv X pins σ H s)(hb:s.heap.objs.size<=b)(hn:H' b=none):FpOk X pins H' b:=by
  refine⟨hn,Z9 (JL I.lt hb),I.nofs hb,.inr (JK I.sz hb),λx c e z=>?_,λp a z=>?_⟩
  · obtain⟨v,q⟩:=I.cell x c e
    exact absurd (JL q.lt (by rw[z];exact hb)) (YG _)
  · exact absurd (JL (Jp (I.pin p a).1) (by rw[z];exact hb)) (YG _)
structure Turn (P:Yo) (w:YI) (K:Jl) (tg:Expr) (J:It) (fp:List JI) (it:JI) (tn:Nat->YP->Prop):Prop where
  mem:it∈fp
  obj:∀ i h,tn i h->∀ b∈fp,∃ o,h.get? b=some o/\∀ v,o.data≠.cell v
  keep:∀ i h h',tn i h->(∀ b∈fp,∀ o,h.get? b=some o->h'.get? b=some o)->tn i h'
  item:∀ (X:Cx),X.prog=P->X.w=w->X.K=K->X.calm=true->∀ (i:Nat) (pins:List (JI × Obj)) (s:JO) (σ:St) (H:Hp) (E:Jo->JO->Prop),Inv X pins σ H s->(∀ b∈fp,FpOk X pins H b)->tn i s.heap->J.go i H ->
    wpAny (model P w) X.A (pyNext (.ref it)) (λr s1=>∃ u,r=some u /\
      wpAny (model P w) X.A (letOwnedTupleGo tg (.ref it) u) (λ_ s2=>∃ x H',Inv X pins σ H' s2/\RelV x u/\J.yld i H x H'/\tn (i+1) s2.heap/\∀ b∈fp,H' b=none) E s1) E s
  done:∀ (X:Cx),X.prog=P->X.w=w->X.K=K->X.calm=true->∀ (i:Nat) (pins:List (JI × Obj)) (s:JO) (σ:St) (H:Hp) (E:Jo->JO->Prop),Inv X pins σ H s->(∀ b∈fp,FpOk X pins H b)->tn i s.heap->J.stop i H ->
    wpAny (model P w) X.A (pyNext (.ref it)) (λr s1=>r=none/\Inv X pins σ H s1) E s
  self:∀ (A:YO) (i:Nat) (s:JO) (Q:Jo->JO->Prop) (E:Jo->JO->Prop),tn i s.heap->Q (.ref it) s->wpAny (model P w) A (pyIter (.ref it)) Q E s
abbrev TI:=St->Hp->(It->Hp->Prop)->Prop
def PIE (X:Cx)(pins:List (JI × Obj))(σ:St)(tg:Expr)(R:It->Hp->Prop)(c:Jo)(s2:JO):Prop :=
  ∃ (it:JI) (e:List JI) (d:Nat->YP->Prop) (J:It) (a:Hp),c=.ref it/\Inv X pins σ a s2/\Turn X.prog X.w X.K tg J e it d/\d 0 s2.heap/\(∀ b∈e,FpOk X pins a b)/\R J a
def PI (X:Cx)(tg iter:Expr)(a:TI):Prop :=
  ∀ (pins:List (JI × Obj)) (s:JO) (σ:St) (H:Hp) (R:It->Hp->Prop),Inv X pins σ H s->a σ H R ->
    wpAny (model X.prog X.w) X.A (eval iter X.env) (λv b=>wpAny (model X.prog X.w) X.A (pyIter v) (PIE X pins σ tg R) X.xe b) X.xe s
theorem cv {M:Model}{A:YO}{E:Jo->JO->Prop}{s:JO}{tg:Expr}{it:JI}{u:Jo}{o:Obj}{n:String}{vs:Array Jo}{Q:Unit->JO->Prop}(b:s.heap.get? it=some o) (c:o.cls=.type n) (hd:o.data=.fields vs)
    (hn:["enumerate","zip","dict_itemiterator","dict_reverseitemiterator","odict_iterator","itertools.zip_longest","itertools.pairwise"].contains n=false) (a:Q () s):wpAny M A (letOwnedTupleGo tg (.ref it) u) Q E s:=by
  unfold letOwnedTupleGo
  cases tg<;>first
    | exact J9 a
    | (cases u<;>first
        | exact J9 a
        | (refine J0 (wpAny_load b ?_)
           rw[c,hd];show wpAny M A (if (["enumerate","zip","dict_itemiterator","dict_reverseitemiterator","odict_iterator","itertools.zip_longest","itertools.pairwise"].contains n && vs[0]? == some (rawInt _))=true then _ else _) Q E s;rw[Jg (by intro h;rw[hn,Bool.false_and]at h;cases h)]
           exact J9 a))
def Itl (K:Jl)(a:JI):It :=
  ⟨λi H=>∃ b x,SqL K H a b/\b[i]?=some x,λi H x c=>c=H/\∀ b,SqL K H a b->b[i]?=some x,λi H=>∃ b,SqL K H a b/\b.length<=i⟩
def Itt (K:Jl)(a:JI):It :=
  ⟨λi H=>∃ b x,SqT K H a b/\b[i]?=some x,λi H x c=>c=H/\∀ b,SqT K H a b->b[i]?=some x,λi H=>∃ b,SqT K H a b/\b.length<=i⟩
def Itr (lo:Int)(n:Nat):It:=⟨λi _=>i<n,λi H x a=>a=H/\x=.int (lo+i),λi _=>n<=i⟩
theorem j7 {P:Yo}{w:YI}{K:Jl}{tg:Expr}(a it:JI):Turn P w K tg (Itl K a) [it] it (λi h=>h.IsListIter it a i) where
  mem:=by simp
  obj:=λi h st b f=>by
    have e:b=it:=by simpa using f
    subst e;obtain⟨o,e,c,d⟩:=st;exact⟨o,e,λv z=>by rw[d]at z;cases z⟩
  keep:=λi h m st k=>st.at λo e=>k it (by simp) o e
  item:=by
    intro X y r A L i pins s σ H E I l st t;subst y r A;obtain⟨M,x,j,q⟩:=t;obtain⟨J,n,p,Q⟩:=I.list j;obtain⟨u,S,O⟩:=n.get q;obtain⟨G,F,T,D,C,B⟩:=l it (by simp);refine wpAny_pyNext_list_item st p.isList (x:=u) (by simpa using S) λm g N=>?_;have V:Inv X pins σ H { s with heap:=m }:=I.turned (t':=s.toks) (λb o f e=>(N.2 b f).trans e) G F D C B;obtain⟨o,e,c,d⟩:=id g;exact⟨u,rfl,cv (s:={ s with heap:=m }) e c d (by decide) ⟨x,H,V,O,⟨rfl,λW R=>by rw[I.list_inj R j];exact q⟩,g,λb f=>(l b f).1⟩⟩
  done:=by
    intro X y r A L i pins s σ H E I l st t;subst y r A;obtain⟨M,j,q⟩:=t;obtain⟨J,n,p,Q⟩:=I.list j;obtain⟨G,F,T,D,C,B⟩:=l it (by simp);have Y:=n.length;exact wpAny_pyNext_list_end (I.ok.hd L) st p.isList (by simp;simp_all) λm U=>⟨rfl,I.turned (t':=s.toks) (λb o f e=>U b o f e) G F D C B⟩
  self:=λ_ _ _ _ _ st h=>wpAny_pyIter_listiter st h
theorem mP {P:Yo}{w:YI}{K:Jl}{tg:Expr}(a it:JI):Turn P w K tg (Itt K a) [it] it (λi h=>h.IsTupleIter it a i) where
  mem:=by simp
  obj:=λi h st b f=>by
    have e:b=it:=by simpa using f
    subst e;obtain⟨o,e,c,d⟩:=st;exact⟨o,e,λv z=>by rw[d]at z;cases z⟩
  keep:=λi h n st k=>st.at λo e=>k it (by simp) o e
  item:=by
    intro X A t B L i pins s σ H E I m st y;subst A t B;obtain⟨M,x,l,r⟩:=y;obtain⟨g,q,p,Q⟩:=I.tuple l;obtain⟨u,S,O⟩:=q.get r;obtain⟨J,G,T,F,D,C⟩:=m it (by simp);refine wpAny_pyNext_tuple_item st (show s.heap.IsTuple a g.toArray from p) (x:=u) (by simpa using S) λn j N=>?_;have V:Inv X pins σ H { s with heap:=n }:=I.turned (t':=s.toks) (λb o f e=>(N.2 b f).trans e) J G F D C;obtain⟨o,e,c,d⟩:=id j;exact⟨u,rfl,cv (s:={ s with heap:=n }) e c d (by decide) ⟨x,H,V,O,⟨rfl,λW R=>by rw[I.tuple_inj R l];exact r⟩,j,λb f=>(m b f).1⟩⟩
  done:=by
    intro X A t B L i pins s σ H E I m st y;subst A t B;obtain⟨M,l,r⟩:=y;obtain⟨g,q,p,Q⟩:=I.tuple l;obtain⟨J,G,T,F,D,C⟩:=m it (by simp);have Y:=q.length;exact wpAny_pyNext_tuple_end (I.ok.hd L) st (show s.heap.IsTuple a g.toArray from p) (by simp;simp_all) λn U=>⟨rfl,I.turned (t':=s.toks) (λb o f e=>U b o f e) J G F D C⟩
  self:=λ_ _ _ _ _ st h=>wpAny_pyIter_tupleiter st h
theorem mQ {P:Yo}{w:YI}{K:Jl}{tg:Expr}(it:JI)(lo:Int)(n:Nat):Turn P w K tg (Itr lo n) [it] it (λi h=>IsRangeIter h it (lo+(i:Nat)*1) ((n:Int)-(i:Nat)) 1) where
  mem:=by simp
  obj:=λi h st b a=>by
    have e:b=it:=by simpa using a
    subst e
    exact⟨_,st,λv z=>by
      have B:Data.fields _=Data.cell v:=z
      cases B⟩
  keep:=λi h f st k=>k it (by simp) _ st
  item:=by
    intro X m g p l i pins s σ H E I d st j;subst m g p;obtain⟨y,x,F,u,r,q⟩:=d it (by simp);have W:=Walks.range (prog:=X.prog) (w:=X.w) (I.ok.hd l) it lo 1 n;refine W.item i s _ _ j st λv f A D c C=>?_;obtain⟨t,rfl⟩:=D;have J:Inv X pins σ H { s with heap:=f,toks:=A }:=I.turned (λb o a e=>C b o (by simpa using a) e) y x u r q;refine⟨_,rfl,cv (s:={ s with heap:=f,toks:=A }) (n:="range_iterator") c rfl rfl (by decide) ⟨.int (lo+i),H,J,⟨t,?_⟩,⟨rfl,rfl⟩,c,λb a=>(d b a).1⟩⟩;rw[Int.mul_one]
  done:=by
    intro X m g p l i pins s σ H E I d st j;subst m g p;obtain⟨y,x,F,u,r,q⟩:=d it (by simp);exact wpAny_pyNext_range_end (I.ok.hd l) st (by have:n<=i:=j;lia) λf G=>⟨rfl,I.turned (t':=s.toks) (λb o a e=>G b o a e) y x u r q⟩
  self:=λ_ _ _ _ _ st h=>wpAny_pyIter_rangeiter st h
section
variable {X:Cx}{tg:Expr}
def zal (K:Jl)(d:TE):TI:=λσ H R=>d σ H λx b=>∃ a,x=.ref a/\(∃ c,SqL K b a c)/\R (Itl K a) b
def zcI (K:Jl)(d:TE):TI:=λσ H R=>d σ H λx b=>∃ a,x=.ref a/\(∃ c,SqT K b a c)/\R (Itt K a) b
theorem pP {l:Expr}{f:TE}(k:PE X l f):PI X tg l (zal X.K f):=by
  intro pins s σ H R I h;refine thn (k pins s σ H _ I h) λv c ⟨x,n,d,g,i⟩=>?_;obtain⟨a,e,⟨t,j⟩,q⟩:=i;subst e;cases g;obtain⟨r,u,p,w⟩:=d.list j;refine wpAny_pyIter_list p.isList ?_;refine⟨c.heap.objs.size,[c.heap.objs.size],_,_,n,rfl,d.kept (t':=c.toks) λb o e=>J8 _ e,j7 a _,⟨_,Js _ rfl,rfl,rfl⟩,λb m=>?_,q⟩;have e:b=c.heap.objs.size:=by simpa using m
  subst e;exact d.fpOk (Jf _) (d.hok.fresh (Jf _))
theorem wg {l:Expr}{g:TE}(m:PE X l g):PI X tg l (zcI X.K g):=by
  intro pins s σ H R I h;refine thn (m pins s σ H _ I h) λv c ⟨x,r,d,i,j⟩=>?_;obtain⟨a,e,⟨t,k⟩,q⟩:=j;subst e;cases i;obtain⟨f,u,p,w⟩:=d.tuple k;refine wpAny_pyIter_tuple (show c.heap.IsTuple a f.toArray from p) ?_;refine⟨c.heap.objs.size,[c.heap.objs.size],_,_,r,rfl,d.kept (t':=c.toks) λb o e=>J8 _ e,mP a _,⟨_,Js _ rfl,rfl,rfl⟩,λb n=>?_,q⟩;have e:b=c.heap.objs.size:=by simpa using n
  subst e;exact d.fpOk (Jf _) (d.hok.fresh (Jf _))
theorem eS {pins:List (JI × Obj)}{σ:St}{H:Hp}{s:JO}{R:It->Hp->Prop}{E:Jo->JO->Prop}{lo hi:Int}{t u v:Tok}{tk:Nat}(I:Inv X pins σ H s)(h:-(2 ^ 62)<=lo)(g:lo<2 ^ 62)(f:-(2 ^ 62)<=hi)(d:hi<2 ^ 62)(q:R (Itr lo (hi-lo).toNat) H):wpAny (model X.prog X.w) X.A (pyIter (.ref s.heap.objs.size)) (PIE X pins σ tg R) E { s with heap:=s.heap.push { cls:=.type "range",data:=.fields #[.int lo t,.int hi u,.int 1 v] },toks:=tk }:=by
  refine wpAny_pyIter_range (IsRange.new ..) (small_one h g f d) ?_;have a:Inv X pins σ H { s with heap:=s.heap.push { cls:=.type "range",data:=.fields #[.int lo t,.int hi u,.int 1 v] },toks:=tk }:=I.kept λb o e=>J8 _ e
  refine⟨(s.heap.push { cls:=.type "range",data:=.fields #[.int lo t,.int hi u,.int 1 v] }).objs.size,[(s.heap.push { cls:=.type "range",data:=.fields #[.int lo t,.int hi u,.int 1 v] }).objs.size],_,_,H,rfl,
    a.kept (t':=tk) λb o e=>J8 _ e,mQ _ lo (hi-lo).toNat,?_,λb c=>?_,q⟩
  · have i:lo+((0:Nat):Int)*1=lo:=by simp
    have e2:(((hi-lo).toNat:Nat):Int)-((0:Nat):Int)=Builtin.Range.rangeSize lo hi 1:=by rw[rangeSize_one];split<;>grind
    show IsRangeIter _ _ (lo+((0:Nat):Int)*1) ((((hi-lo).toNat:Nat):Int)-((0:Nat):Int)) 1;rw[i,e2];exact Js _ rfl
  · have e:b=(s.heap.push { cls:=.type "range",data:=.fields #[.int lo t,.int hi u,.int 1 v] }).objs.size:=by simpa using c
    subst e;exact a.fpOk (Jf _) (a.hok.fresh (Jf _))
def zbZ (b:TA):TI:=λσ H R=>b σ H λa c=>∃ j:Int,a=[.int j]/\-(2 ^ 62)<=j/\j<2 ^ 62/\R (Itr 0 j.toNat) c
theorem yw {a:Expr}{c:TA}{p pos:Pos}(k:Gl X "range") (hm:X.mg "range" = none) (ha:PA X [a] c) (i:starEach [a] X.env=[(false,eval a X.env)]:=by rfl):PI X tg (.Call (.Name "range" p) [a] [] pos) (zbZ c):=by
  intro pins s σ H R I h;refine Call_ (xu I k hm boot_range (Ym (thn (ha pos pins s σ H _ I h) λn o ⟨m,u,l,f,b⟩=>?_) i rfl));obtain⟨j,e,b,g,q⟩:=b;subst e
  cases f with
  | cons r d =>
    cases d;obtain⟨t,rfl⟩:=r;exact call_range_1 (eS l (by simp_all) (by simp_all) b g (by simpa using q))
def zce (e:TI)(g:TG)(f:TS):TS:=λD σ H=>e σ H λJ j=>∃ W:Nat->Nat->St->Hp->Prop,(∃ m,W 0 m σ j)/\∀ i m σ H,W i m σ H ->
  (J.stop i H/\D.nx σ H)\/(J.go i H/\∃ N:St->Hp->Prop,(∀ b a,N b a->∃ d,d<m/\W (i+1) d b a)/\∀ x a,J.yld i H x a->g x σ a λc h=>f { D with nx:=N,ct:=N,bk:=D.nx } c h)
def we (fp:List JI)(h:YP):List (JI × Obj):=fp.filterMap λb=>(h.get? b).map λo=>(b,o)
theorem yp {fp:List JI}{h:YP}{b:JI}{o:Obj}(hb:b∈fp)(e:h.get? b=some o):(b,o)∈we fp h:=List.mem_filterMap.mpr ⟨b,hb,by rw[e];rfl⟩
theorem ii {fp:List JI}{h:YP}{p:JI × Obj}(a:p∈we fp h):p.1∈fp/\h.get? p.1=some p.2:=by
  obtain⟨b,c,e⟩:=List.mem_filterMap.mp a
  cases q:h.get? b with
  | none=>rw[q]at e;cases e
  | some o =>
    rw[q]at e;have d:(b,o)=p:=Jq e;subst d;exact⟨c,q⟩
theorem Inv.pinned {pins:List (JI × Obj)}{σ:St}{H:Hp}{s:JO}{fp:List JI}(I:Inv X pins σ H s)(h:∀ b∈fp,FpOk X pins H b)(g:∀ b∈fp,∃ o,s.heap.get? b=some o/\∀ v,o.data≠.cell v):Inv X (pins++we fp s.heap) σ H s :=
  I.pins_of λp f=>(Jv.mp f).elim (λz=>I.pin p (Jz _ z)) λz=>by
    obtain⟨a,e⟩:=ii z;obtain⟨k,j,i,_⟩:=h p.1 a;obtain⟨o,c,d⟩:=g p.1 a;rw[e]at c;cases c;exact⟨e,k,j,i,d⟩
theorem Inv.unpinned {pins a:List (JI × Obj)}{σ:St}{H:Hp}{s:JO}(I:Inv X (pins++a) σ H s):Inv X pins σ H s:=I.pins_of λp b=>I.pin p (Jz _ (Yq _ b))
theorem xH {iter:Expr}{body:List Stmt}{P:TI}{g:TG}{R:TS}{pos:Pos}(z:PassesOwn (model X.prog X.w) X.A X.env X.xe)(Y:X.calm=true)(hi:PI X tg iter P)(hg:PG X tg g)(hb:PSs X body R)(hs:∀ x,foldedSetIterable iter X.env x=pure x:=by intro _;rfl):PS X (.For tg iter body [] pos) (zce P g R):=by
  intro pins s σ H D I h;refine wpAny_For (thn (hi pins s σ H _ I h) λv s1 h1=>thn h1 λab s2 h2=>?_) hs;obtain⟨it,A,Q,J,H2,e,I2,T,L,Z,W,⟨m0,w0⟩,turn⟩:=h2;subst e;have p:∀ {q:Hp},(∀ b∈A,q b=none)->∀ b∈A,FpOk X pins q b:=λhn b hb=>⟨hn b hb,(Z b hb).2⟩;refine codeAny_forLoop_any (λn V=>∃ i l q,Inv X pins l q V/\Q i V.heap/\(∀ b∈A,q b=none)/\W i n l q) ?_ m0 ⟨0,σ,H2,I2,L,λb hb=>(Z b hb).1,w0⟩;rintro n U ⟨i,k,E,I3,B,C,w3⟩;rcases turn i n k E w3 with ⟨stop,qn⟩|⟨go,N,hN,step⟩
  · refine ZQ z (thn (T.done X rfl rfl rfl Y i pins U k E X.xe I3 (p C) B stop) λr s4 ⟨G,I4⟩=>?_)
    subst G;exact wpAny_execs_nil ⟨k,E,I4,qn⟩
  · refine ZQ z (thn (T.item X rfl rfl rfl Y i pins U k E X.xe I3 (p C) B go) λr s4 ⟨u,G,h4⟩=>?_)
    subst G;refine ZQ z (thn h4 λ_ S ⟨x,H5,I5,r5,y5,w,M⟩=>?_);have O:=I5.pinned (p M) (T.obj _ _ w);refine ZQ z (thn (hg _ S k H5 x u _ O r5 (step x H5 y5)) λ_ s6 ⟨K,H6,I6,q6⟩=>?_);refine ZQ z (thn (hb _ s6 K H6 _ I6 q6) λf F t=>?_)
    have again:∀ {a:St}{j:Hp},Inv X (pins++we A S.heap) a j F->N a j->∃ m,m<n/\∃ i l q,Inv X pins l q F/\Q i F.heap/\(∀ b∈A,q b=none)/\W i m l q:=λ{a j} c y=>by
      obtain⟨m',hm,w7⟩:=hN a j y;refine⟨m',hm,i+1,a,j,c.unpinned,T.keep _ _ _ w λb hb o e=>(c.pin (b,o) (Jz _ (Jz _ (yp hb e)))).1,λb hb=>?_,w7⟩;obtain⟨o,e,d⟩:=T.obj _ _ w b hb;exact(c.pin (b,o) (Jz _ (Jz _ (yp hb e)))).2.1
    cases f with
    | next=>obtain⟨a,j,c,y⟩:=t;exact again c y
    | cont=>obtain⟨a,j,c,y⟩:=t;exact again c y
    | brk=>obtain⟨a,j,c,t⟩:=t;exact⟨a,j,c.unpinned,t⟩
    | ret v=>obtain⟨x7,a,j,c,r7,t⟩:=t;exact⟨x7,a,j,c.unpinned,r7,t⟩
end
theorem bC {K:Jl}{a:JI}{xs:List V}{g:TG}{k:TS}{D:Ends}{σ:St}{H:Hp}(b:Nat->St->Hp->Prop)(t:b 0 σ H)(r:∀ i σ H,i<=xs.length->b i σ H->SqL K H a xs)(o:∀ i x σ H,xs[i]?=some x->b i σ H->g x σ H λd j=>k { D with nx:=b (i+1),ct:=b (i+1),bk:=D.nx } d j)(s:∀ σ H,b xs.length σ H->D.nx σ H) :
    ∃ W:Nat->Nat->St->Hp->Prop,(∃ m,W 0 m σ H)/\∀ i m σ H,W i m σ H ->
      ((Itl K a).stop i H/\D.nx σ H)\/((Itl K a).go i H/\∃ N:St->Hp->Prop,(∀ f c,N f c->∃ l,l<m/\W (i+1) l f c)/\∀ x c,(Itl K a).yld i H x c->g x σ c λd j=>k { D with nx:=N,ct:=N,bk:=D.nx } d j):=by
  refine⟨λi m σ H=>m=xs.length-i/\i<=xs.length/\b i σ H,⟨xs.length,by simp,JN _,t⟩,?_⟩;rintro i m σ H ⟨rfl,hi,p⟩;have q:=r i σ H hi p;by_cases h:i<xs.length
  · refine .inr ⟨⟨xs,xs[i],q,by simp[h]⟩,b (i+1),λf c n=>⟨xs.length-(i+1),by omega,rfl,h,n⟩,λx c y=>?_⟩
    obtain⟨e,y⟩:=y;subst e;exact o i x σ _ (y xs q) p
  · have e:i=xs.length:=by lia
    subst e;exact .inl ⟨⟨xs,q,Jf _⟩,s σ H p⟩
theorem oA {K:Jl}{a:JI}{xs:List V}{g:TG}{k:TS}{D:Ends}{σ:St}{H:Hp}(b:Nat->St->Hp->Prop)(t:b 0 σ H)(r:∀ i σ H,i<=xs.length->b i σ H->SqT K H a xs)(o:∀ i x σ H,xs[i]?=some x->b i σ H->g x σ H λd j=>k { D with nx:=b (i+1),ct:=b (i+1),bk:=D.nx } d j)(s:∀ σ H,b xs.length σ H->D.nx σ H) :
    ∃ W:Nat->Nat->St->Hp->Prop,(∃ m,W 0 m σ H)/\∀ i m σ H,W i m σ H ->
      ((Itt K a).stop i H/\D.nx σ H)\/((Itt K a).go i H/\∃ N:St->Hp->Prop,(∀ f c,N f c->∃ l,l<m/\W (i+1) l f c)/\∀ x c,(Itt K a).yld i H x c->g x σ c λd j=>k { D with nx:=N,ct:=N,bk:=D.nx } d j):=by
  refine⟨λi m σ H=>m=xs.length-i/\i<=xs.length/\b i σ H,⟨xs.length,by simp,JN _,t⟩,?_⟩;rintro i m σ H ⟨rfl,hi,p⟩;have q:=r i σ H hi p;by_cases h:i<xs.length
  · refine .inr ⟨⟨xs,xs[i],q,by simp[h]⟩,b (i+1),λf c n=>⟨xs.length-(i+1),by grind,rfl,h,n⟩,λx c y=>?_⟩
    obtain⟨e,y⟩:=y;subst e;exact o i x σ _ (y xs q) p
  · have e:i=xs.length:=by grind
    subst e;exact .inl ⟨⟨xs,q,Jf _⟩,s σ H p⟩
theorem wH {lo:Int}{n:Nat}{g:TG}{j:TS}{D:Ends}{σ:St}{H:Hp}(a:Nat->St->Hp->Prop)(r:a 0 σ H)(o:∀ i σ H,i<n->a i σ H->g (.int (lo+i)) σ H λc h=>j { D with nx:=a (i+1),ct:=a (i+1),bk:=D.nx } c h)(q:∀ σ H,a n σ H->D.nx σ H) :
    ∃ W:Nat->Nat->St->Hp->Prop,(∃ m,W 0 m σ H)/\∀ i m σ H,W i m σ H ->
      ((Itr lo n).stop i H/\D.nx σ H)\/((Itr lo n).go i H/\∃ N:St->Hp->Prop,(∀ d b,N d b->∃ k,k<m/\W (i+1) k d b)/\∀ x b,(Itr lo n).yld i H x b->g x σ b λc h=>j { D with nx:=N,ct:=N,bk:=D.nx } c h):=by
  refine⟨λi m σ H=>m=n-i/\i<=n/\a i σ H,⟨n,by simp,JN _,r⟩,?_⟩;rintro i m σ H ⟨rfl,hi,p⟩;by_cases f:i<n
  · refine .inr ⟨f,a (i+1),λd b l=>⟨n-(i+1),by grind,rfl,f,l⟩,λx b y=>?_⟩
    obtain⟨e,y⟩:=y;subst e y;exact o i σ _ f p
  · have e:i=n:=by lia
    subst e;exact .inl ⟨Jf _,q σ H p⟩
abbrev R2:=V->V->Hp->VK->Prop
def OpR (X:Cx)(f:Jo->Jo->Sem Jo)(r:R2):Prop :=
  ∀ (pins:List (JI × Obj)) (s:JO) (σ:St) (H:Hp) (x y:V) (v u:Jo) (Q:VK),Inv X pins σ H s->RelV x v->RelV y u->r x y H Q ->
    wpAny (model X.prog X.w) X.A (f v u) (EP X pins σ Q) X.xe s
def UnR (X:Cx)(f:Jo->Sem Jo)(r:V->Hp->VK->Prop):Prop :=
  ∀ (pins:List (JI × Obj)) (s:JO) (σ:St) (H:Hp) (x:V) (v:Jo) (Q:VK),Inv X pins σ H s->RelV x v->r x H Q ->
    wpAny (model X.prog X.w) X.A (f v) (EP X pins σ Q) X.xe s
def CallR (X:Cx)(f:Jo)(r:List V->Hp->VK->Prop):Prop :=
  ∀ (pins:List (JI × Obj)) (s:JO) (σ:St) (H:Hp) (a:List V) (b:List Jo) (Q:VK),Inv X pins σ H s->Vals a b->r a H Q ->
    wpAny (model X.prog X.w) X.A (call f b) (EP X pins σ Q) X.xe s
def TruR (X:Cx)(r:V->Hp->(Bool->Hp->Prop)->Prop):Prop :=
  ∀ (pins:List (JI × Obj)) (s:JO) (σ:St) (H:Hp) (x:V) (v:Jo) (Q:Bool->Hp->Prop),Inv X pins σ H s->RelV x v->r x H Q ->
    wpAny (model X.prog X.w) X.A (truthy v) (TP X pins σ Q) X.xe s
def tOp (r:R2)(b a:TE):TE:=λσ H Q=>b σ H λx d=>a σ d λy c=>r x y c Q
def tUn (r:V->Hp->VK->Prop)(a:TE):TE:=λσ H Q=>a σ H λx b=>r x b Q
def rI (C:Int->Int->Prop)(g:Int->Int->V):R2:=λx y H Q=>∃ i j,x=.int i/\y=.int j/\C i j/\Q (g i j) H
def rI0 (g:Int->Int->V):R2:=λx y H Q=>∃ i j,x=.int i/\y=.int j/\Q (g i j) H
def rU (g:Int->V):V->Hp->VK->Prop:=λx H Q=>∃ i,x=.int i/\Q (g i) H
section
variable {X:Cx}{a b:Expr}{ta tb:TE}{pos:Pos}
theorem zbm (ha:PE X a ta)(hb:PE X b tb){pins:List (JI × Obj)}{s:JO}{σ:St}{H:Hp}{R:V->V->Hp->Prop}(I:Inv X pins σ H s)(h:ta σ H λx g=>tb σ g λy c=>R x y c){Q:Jo->JO->Prop}{f:Jo->Jo->Sem Jo}(n:∀ v u s2 x y c,Inv X pins σ c s2->RelV x v->RelV y u->R x y c->wpAny (model X.prog X.w) X.A (f v u) Q X.xe s2) :
    wpAny (model X.prog X.w) X.A (eval a X.env) (λv e=>wpAny (model X.prog X.w) X.A (eval b X.env) (λu d=>wpAny (model X.prog X.w) X.A (f v u) Q X.xe d) X.xe e) X.xe s:=by
  refine thn (ha pins s σ H _ I h) λv i ⟨x,g,p,k,m⟩=>?_;refine thn (hb pins i σ g _ p m) λu s2 ⟨y,c,o,j,l⟩=>?_;exact n v u s2 x y c o k j l
theorem zQ {op:Operator}{r:R2}(f:OpR X (binaryOp op) r)(ha:PE X a ta)(hb:PE X b tb):PE X (.BinOp a op b pos) (tOp r ta tb):=by
  intro pins s σ H Q I h;exact wpAny_BinOp (zbm ha hb I h λv u c x y i g e d q=>f pins c σ i x y v u Q g e d q)
theorem jA {op:UnaryOp}{r:V->Hp->VK->Prop}(e:UnR X (unaryOp op) r)(ha:PE X a ta):PE X (.UnaryOp op a pos) (tUn r ta):=by
  intro pins s σ H Q I h;exact UnaryOp_ (thn (ha pins s σ H _ I h) λv b ⟨x,g,f,c,d⟩=>e pins b σ g x v Q f c d)
theorem opI {f:Jo->Jo->Sem Jo}{C:Int->Int->Prop}{g:Int->Int->Int}(rule:∀ (i j:Int) (t u:Tok) (s:JO) (Q:Jo->JO->Prop) (E:Jo->JO->Prop),C i j->Q (.int (g i j) s.toks) { s with toks:=s.toks+1 }->wpAny (model X.prog X.w) X.A (f (.int i t) (.int j u)) Q E s) :
    OpR X f (rI C λi j=>.int (g i j)):=by
  intro pins s σ H x y v u Q I c b h;obtain⟨i,j,rfl,rfl,d,q⟩:=h;obtain⟨t,rfl⟩:=c;obtain⟨a,rfl⟩:=b;exact rule i j t a s _ _ d ⟨.int (g i j),H,I.tok _,⟨_,rfl⟩,q⟩
theorem zbP {f:Jo->Jo->Sem Jo}{g:Int->Int->Int}(rule:∀ (i j:Int) (t u:Tok) (s:JO) (Q:Jo->JO->Prop) (E:Jo->JO->Prop),Q (.int (g i j) s.toks) { s with toks:=s.toks+1 }->wpAny (model X.prog X.w) X.A (f (.int i t) (.int j u)) Q E s) :
    OpR X f (rI0 λi j=>.int (g i j)):=by
  intro pins s σ H x y v u Q I c b h;obtain⟨i,j,rfl,rfl,q⟩:=h;obtain⟨t,rfl⟩:=c;obtain⟨a,rfl⟩:=b;exact rule i j t a s _ _ ⟨.int (g i j),H,I.tok _,⟨_,rfl⟩,q⟩
theorem aI {f:Jo->Jo->Sem Jo}{g:Int->Int->Bool}(rule:∀ (i j:Int) (t u:Tok) (s:JO) (Q:Jo->JO->Prop) (E:Jo->JO->Prop),Q (.bool (g i j)) s->wpAny (model X.prog X.w) X.A (f (.int i t) (.int j u)) Q E s) :
    OpR X f (rI0 λi j=>.bl (g i j)):=by
  intro pins s σ H x y v u Q I c b h;obtain⟨i,j,rfl,rfl,q⟩:=h;obtain⟨t,rfl⟩:=c;obtain⟨a,rfl⟩:=b;exact rule i j t a s _ _ ⟨.bl (g i j),H,I,rfl,q⟩
def CDiv (i j:Int):Prop:=0<j/\j<1073741824
def CPow (i j:Int):Prop:=0<=j/\j<=1000000/\i.natAbs<2 ^ 64
def CMul (i j:Int):Prop:=(-(2 ^ 64)<i/\i<2 ^ 64)\/(-(2 ^ 64)<j/\j<2 ^ 64)
theorem CMul.ok {i j:Int}(h:CMul i j):IntMulOk i j:=by
  rcases h with ⟨b,a⟩|⟨b,a⟩
  · exact .of_left (intBits_le_64 b a)
  · exact .of_right (intBits_le_64 b a)
theorem yQ:OpR X (binaryOp .Add) (rI0 λi j=>.int (i+j)):=zbP λ_ _ _ _ _ _ _ q=>add_int q
theorem wR:OpR X (binaryOp .Sub) (rI0 λi j=>.int (i-j)):=zbP λ_ _ _ _ _ _ _ q=>sub_int q
theorem xT:OpR X (binaryOp .Mult) (rI CMul λi j=>.int (i*j)):=opI λ_ _ _ _ _ _ _ a q=>mul_int q a.ok
theorem xN:OpR X (binaryOp .FloorDiv) (rI CDiv λi j=>.int (i / j)):=opI λi j _ _ _ _ _ a q=>by
  have c:(0:Int)<j:=a.1;have b:j<1073741824:=a.2;exact floordiv_int (by grind) (by rw[Int.fdiv_eq_ediv_of_nonneg i (by lia)];exact q) (.inl (PyProof.noPylong_small (by omega)))
theorem xq:OpR X (binaryOp .Mod) (rI (λ_ j=>0<j) λi j=>.int (i%j)):=opI λi j _ _ _ _ _ a q=>by
  have b:(0:Int)<j:=a;exact mod_int' (by grind) (by rw[Int.fmod_eq_emod_of_nonneg i (by grind)];exact q)
theorem vU:OpR X (binaryOp .Pow) (rI CPow λi j=>.int (i ^ j.toNat)):=opI λ_ _ _ _ _ _ _ a q=>pow_int_small a.1 a.2.1 a.2.2 q
theorem unI {f:Jo->Sem Jo}{g:Int->Int}(rule:∀ (i:Int) (t:Tok) (s:JO) (Q:Jo->JO->Prop) (E:Jo->JO->Prop),Q (.int (g i) s.toks) { s with toks:=s.toks+1 }->wpAny (model X.prog X.w) X.A (f (.int i t)) Q E s) :
    UnR X f (rU λi=>.int (g i)):=by
  intro pins s σ H x v Q I a h;obtain⟨i,rfl,q⟩:=h;obtain⟨t,rfl⟩:=a;exact rule i t s _ _ ⟨.int (g i),H,I.tok _,⟨_,rfl⟩,q⟩
theorem qf:UnR X (unaryOp .USub) (rU λi=>.int (-i)):=unI λ_ _ _ _ _ q=>neg_int q
end
def zbG:V->V->Bool
  | .non,.non=>true|.non,.int _=>true|.int _,.non=>true|.non,.bl _=>true|.bl _,.non=>true|.non,.str _=>true|.str _,.non=>true
  | .int _,.int _=>true|.bl _,.bl _=>true|.str _,.str _=>true|.byt _,.byt _=>true
  | .int _,.str _=>true|.str _,.int _=>true|.bl _,.str _=>true|.str _,.bl _=>true
  | _,_=>false
def rEq:R2:=λx y H Q=>zbG x y=true/\Q (.bl (decide (x=y))) H
def rNe:R2:=λx y H Q=>zbG x y=true/\Q (.bl (!decide (x=y))) H
theorem jb {i j:Int}:decide (V.int i=V.int j)=(i == j):=by
  rw[Ya];simp
theorem bJ {i j:Bool}:decide (V.bl i=V.bl j)=(i == j):=by
  rw[Ya];simp
theorem ja {i j:Str}:decide (V.str i=V.str j)=(i == j):=by
  rw[Ya];simp
theorem jc {i j:Array UInt8}:decide (V.byt i=V.byt j)=(i.toList == j.toList):=by
  rw[Ya];cases i;cases j;simp
section
variable {X:Cx}{a b c:Expr}{ta tb tc:TE}{pos:Pos}
theorem yG {pins:List (JI × Obj)}{σ:St}{H:Hp}{s:JO}{Q:VK}{k a:Bool}(I:Inv X pins σ H s)(q:Q (.bl k) H)(e:k=a):EP X pins σ Q (.bool a) s:=by
  subst e;exact⟨.bl k,H,I,rfl,q⟩
theorem xt:OpR X (compareOp .Eq) rEq:=by
  intro pins s σ H x y v u Q I d a h;obtain⟨c,q⟩:=h
  cases x with
  | non =>
    cases d
    cases y with
    | non=>cases a;exact PySem.EqNone.eq_none_none (yG I q (by simp))
    | bl j=>cases a;exact PySem.EqNone.eq_none_bool (yG I q (by simp))
    | int j=>obtain⟨b,rfl⟩:=a;exact PySem.EqNone.eq_none_int (yG I q (by simp))
    | str j=>obtain⟨b,rfl⟩:=a;exact PySem.EqNone.eq_none_str (yG I q (by simp))
    | _=>exact absurd (show false=true from c) Jm
  | bl i =>
    cases d
    cases y with
    | non=>cases a;exact PySem.EqNone.eq_bool_none (yG I q (by simp))
    | bl j=>cases a;exact eq_bool (yG I q bJ)
    | str j=>obtain⟨b,rfl⟩:=a;exact PySem.EqMixed.eq_bool_str (yG I q (by simp))
    | _=>exact absurd (show false=true from c) Jm
  | int i =>
    obtain⟨t,rfl⟩:=d
    cases y with
    | non=>cases a;exact PySem.EqNone.eq_int_none (yG I q (by simp))
    | int j=>obtain⟨b,rfl⟩:=a;exact eq_int (yG I q jb)
    | str j=>obtain⟨b,rfl⟩:=a;exact PySem.EqMixed.eq_int_str (yG I q (by simp))
    | _=>exact absurd (show false=true from c) Jm
  | str i =>
    obtain⟨t,rfl⟩:=d
    cases y with
    | non=>cases a;exact PySem.EqNone.eq_str_none (yG I q (by simp))
    | bl j=>cases a;exact PySem.EqMixed.eq_str_bool (yG I q (by simp))
    | int j=>obtain⟨b,rfl⟩:=a;exact PySem.EqMixed.eq_str_int (yG I q (by simp))
    | str j=>obtain⟨b,rfl⟩:=a;exact eq_str (yG I q ja)
    | _=>exact absurd (show false=true from c) Jm
  | byt i =>
    obtain⟨t,rfl⟩:=d
    cases y with
    | byt j=>obtain⟨b,rfl⟩:=a;exact PySem.W.eq_bytes (yG I q jc)
    | _=>exact absurd (show false=true from c) Jm
  | _=>cases y<;>exact absurd (show false=true from c) Jm
theorem jE:OpR X (compareOp .NotEq) rNe:=by
  intro pins s σ H x y v u Q I d a h;obtain⟨c,q⟩:=h
  cases x with
  | non =>
    cases d
    cases y with
    | non=>cases a;exact PySem.EqNone.ne_none_none (yG I q (by simp))
    | bl j=>cases a;exact PySem.EqNone.ne_none_bool (yG I q (by simp))
    | int j=>obtain⟨b,rfl⟩:=a;exact PySem.EqNone.ne_none_int (yG I q (by simp))
    | str j=>obtain⟨b,rfl⟩:=a;exact PySem.EqNone.ne_none_str (yG I q (by simp))
    | _=>exact absurd (show false=true from c) Jm
  | bl i =>
    cases d
    cases y with
    | non=>cases a;exact PySem.EqNone.ne_bool_none (yG I q (by simp))
    | bl j=>cases a;exact ne_bool (yG I q (JS not bJ))
    | str j=>obtain⟨b,rfl⟩:=a;exact PySem.EqMixed.ne_bool_str (yG I q (by simp))
    | _=>exact absurd (show false=true from c) Jm
  | int i =>
    obtain⟨t,rfl⟩:=d
    cases y with
    | non=>cases a;exact PySem.EqNone.ne_int_none (yG I q (by simp))
    | int j=>obtain⟨b,rfl⟩:=a;exact ne_int (yG I q (JS not jb))
    | str j=>obtain⟨b,rfl⟩:=a;exact PySem.EqMixed.ne_int_str (yG I q (by simp))
    | _=>exact absurd (show false=true from c) Jm
  | str i =>
    obtain⟨t,rfl⟩:=d
    cases y with
    | non=>cases a;exact PySem.EqNone.ne_str_none (yG I q (by simp))
    | bl j=>cases a;exact PySem.EqMixed.ne_str_bool (yG I q (by simp))
    | int j=>obtain⟨b,rfl⟩:=a;exact PySem.EqMixed.ne_str_int (yG I q (by simp))
    | str j=>obtain⟨b,rfl⟩:=a;exact ne_str (yG I q (JS not ja))
    | _=>exact absurd (show false=true from c) Jm
  | byt i =>
    obtain⟨t,rfl⟩:=d
    cases y with
    | byt j=>obtain⟨b,rfl⟩:=a;exact PySem.W.ne_bytes (yG I q (JS not jc))
    | _=>exact absurd (show false=true from c) Jm
  | _=>cases y<;>exact absurd (show false=true from c) Jm
theorem zbO:OpR X (compareOp .Lt) (rI0 λi j=>.bl (decide (i<j))):=aI λ_ _ _ _ _ _ _ q=>lt_int q
theorem zaj:OpR X (compareOp .LtE) (rI0 λi j=>.bl (decide (i<=j))):=aI λ_ _ _ _ _ _ _ q=>le_int q
theorem qD:OpR X (compareOp .Gt) (rI0 λi j=>.bl (decide (j<i))):=aI λ_ _ _ _ _ _ _ q=>gt_int q
theorem df:OpR X (compareOp .GtE) (rI0 λi j=>.bl (decide (j<=i))):=aI λ_ _ _ _ _ _ _ q=>ge_int q
theorem zaU:OpR X (compareOp .Is) (λx y H Q=>y=.non/\Q (.bl (decide (x=.non))) H):=by
  intro pins s σ H x y v u Q I a b h;obtain⟨rfl,q⟩:=h;cases b;refine is_none_gen (yG I q ?_)
  cases x<;>first
    | (cases a;rfl)
    | (obtain⟨t,rfl⟩:=a;rfl)
theorem yC (b:Expr){op:CmpOp}(h:op≠.In:=by decide)(a:op≠.NotIn:=by decide):behindInMarks op b=false:=by
  have c:(op == CmpOp.In)=false:=by cases op<;>first|rfl|exact absurd rfl h
  have e2:(op == CmpOp.NotIn)=false:=by cases op<;>first|rfl|exact absurd rfl a
  cases b<;>simp[behindInMarks,c,e2]
theorem xI {op:CmpOp}{r:R2}(f:OpR X (compareOp op) r)(ha:PE X a ta)(hb:PE X b tb)(hm:behindInMarks op b=false):PE X (.Compare a [op] [b] pos) (tOp r ta tb):=by
  intro pins s σ H Q I h;exact wpAny_Compare1 (zbm ha hb I h λv u c x y i g e d q=>f pins c σ i x y v u Q g e d q) hm
def zbu (t:TE):TT:=λσ H Q=>t σ H λx a=>∃ k,x=.bl k/\Q k a
theorem zy {op:CmpOp}{r:R2}(o:OpR X (compareOp op) r)(ha:PE X a ta)(hb:PE X b tb)(hm:behindInMarks op b=false):PT X (.Compare a [op] [b] pos) (zbu (tOp r ta tb)):=by
  intro pins s σ H Q I h
  refine wpAny_isTrue_Compare1 (thn (ha pins s σ H _ I h) λv f ⟨x,B,t,j,n⟩=>thn (hb pins f σ B _ t n) λu d ⟨y,A,q,i,m⟩ =>
    thn (o pins d σ A x y v u _ q j i m) λc C ⟨z,w,p,g,k,e,l⟩=>?_) hm
  subst e;cases g;exact YC ⟨w,p,l⟩
def zay (r c:R2)(ta tb tc:TE):TE:=λσ H Q=>ta σ H λx f=>tb σ f λy e=>r x y e λz a=>∃ k,z=.bl k /\
  (if k=true then tc σ a λb d=>c y b d Q else Q (.bl false) a)
theorem dU {op f:CmpOp}{r j:R2}(J:OpR X (compareOp op) r)(g:OpR X (compareOp f) j)(ha:PE X a ta)(hb:PE X b tb)(K:PE X c tc)(hm:lastMarks [op,f] [b,c]=false:=by with_unfolding_all rfl):PE X (.Compare a [op,f] [b,c] pos) (zay r j ta tb tc):=by
  intro pins s σ H Q I h
  refine Compare_chain (thn (ha pins s σ H _ I h) λv A ⟨x,R,N,D,G⟩=>chain_link (thn (hb pins A σ R _ N G) λu w ⟨y,P,M,i,F⟩ =>
    thn (J pins w σ P x y v u _ M D i F) λd t ⟨z,n,m,C,k,e,l⟩=>?_)) hm
  subst e;cases C;refine YC ?_
  cases k with
  | false=>exact ite_ff ⟨.bl false,n,m,rfl,l⟩
  | true=>exact ite_tt (chain_last (thn (K pins t σ n _ m l) λp q ⟨o,O,L,B,E⟩=>g pins q σ O y o u p Q L i B E))
def TruV (K:Jl)(x:V)(H:Hp)(k:Bool):Prop :=
  match x with
  | .non=>k=false
  | .bl b=>k=b
  | .int i=>k=(i != 0)
  | .str y=>y.length<=sizeLine/\k=((y.length:Int) != 0)
  | .byt y=>y.size<=sizeLine/\k=((y.size:Int) != 0)
  | .ref p=>(∃ a,SqL K H p a/\k = !a.isEmpty)\/(∃ a,SqT K H p a/\k = !a.isEmpty)\/∃ c,H p=some (.dK c)/\k = !c.isEmpty
  | _=>False
theorem kU {κ:Type}{kvs:List (κ × V)}{vs:List (κ × Jo)}(r:KV kvs vs):(!vs.isEmpty) = !kvs.isEmpty:=by
  cases r<;>rfl
theorem sV {xs:List V}{its:List Jo}(r:Vals xs its):(!its.toArray.isEmpty) = !xs.isEmpty:=by
  cases r<;>simp
theorem sQ:(sizeLine:Nat)<2 ^ 63:=by rw[JB];decide
theorem zas:TruR X (λx H Q=>∃ k,TruV X.K x H k/\Q k H):=by
  intro pins s σ H x v Q I f h;obtain⟨k,e,q⟩:=h;have A:=sQ;have z:sizeLine=16777216:=JB
  cases x with
  | non =>
    cases f;have a:k=false:=e;subst a
    exact truthy_none ⟨H,I,q⟩
  | bl b =>
    cases f;have a:k=b:=e;subst a
    exact YC ⟨H,I,q⟩
  | int i =>
    obtain⟨t,rfl⟩:=f;have a:k=(i != 0):=e;subst a
    exact PySem.P.truthy_int ⟨H,I,q⟩
  | str y =>
    obtain⟨t,rfl⟩:=f;obtain⟨u,a⟩:y.length<=sizeLine/\k=((y.length:Int) != 0):=e;subst a
    exact PySem.P.truthy_str (by lia) ⟨H,I.tok _,q⟩
  | byt y =>
    obtain⟨t,rfl⟩:=f;obtain⟨u,a⟩:y.size<=sizeLine/\k=((y.size:Int) != 0):=e;subst a
    exact PySem.W.truthy_bytes (by lia) ⟨H,I.tok _,q⟩
  | ref p =>
    cases f;have a:(∃ d,SqL X.K H p d/\k = !d.isEmpty)\/(∃ d,SqT X.K H p d/\k = !d.isEmpty)\/∃ c,H p=some (.dK c)/\k = !c.isEmpty:=e;rcases a with ⟨d,g,a⟩|⟨d,g,a⟩|⟨c,g,a⟩
    · subst a
      obtain⟨n,r,l,o⟩:=I.list g;have hlen:=r.length;exact wpAny_truthy_list l.isList (by simp only[Jh];lia) ⟨H,I.tok _,by rw[sV r];exact q⟩
    · subst a
      obtain⟨n,r,l,o⟩:=I.tuple g;have hlen:=r.length;exact truthy_tuple l (by simp only[Jh];grind) ⟨H,I.tok _,by rw[sV r];exact q⟩
    · subst a
      obtain⟨o,w,j,r,m⟩:c.length<=sizeLine/\(p == sysModules)=false/\∃ j,KV c j/\s.heap.DictOf (yj X.prog X.w) p j:=I.hok p _ g;have hlen:c.length=j.length:=YU r
      exact wpAny_truthy_dict w m (by lia) ⟨H,I.tok _,by rw[kU r];exact q⟩
  | _=>exact(show False from e).elim
theorem o5 (ha:PE X a ta)(e:∀ whole,isTrue a X.env whole=(do let v <- whole;standAt a.pos;holding [v] (truthy v))) :
    PT X a (λσ H Q=>ta σ H λx H'=>∃ k,TruV X.K x H' k/\Q k H'):=by
  intro pins s σ H Q I h;exact isTrue_plain (thn (ha pins s σ H _ I h) λv b ⟨x,g,f,c,d⟩=>zas pins b σ g x v Q f c d) (e _)
theorem vd {x:V}{us:List Jo}(r:Vals [x] us):∃ u,us=[u]/\RelV x u:=by
  cases r with
  | cons b a=>cases a;exact⟨_,rfl,b⟩
theorem gy {x y:V}{us:List Jo}(r:Vals [x,y] us):∃ u a,us=[u,a]/\RelV x u/\RelV y a:=by
  cases r with
  | cons e d =>
    cases d with
    | cons c b=>cases b;exact⟨_,_,rfl,e,c⟩
theorem rL:CallR X (.builtin "abs") (λxs H Q=>∃ i,xs=[.int i]/\Q (.int (if i<0 then -i else i)) H):=by
  intro pins s σ H xs a Q I r h;obtain⟨i,rfl,q⟩:=h;obtain⟨u,rfl,t,rfl⟩:=vd r;exact call_abs_int λu b=>⟨.int (if i<0 then -i else i),H,I.tok _,⟨_,rfl⟩,q⟩
theorem gh (b:X.calm=true):CallR X (.builtin "max") (λxs H Q=>∃ i j,xs=[.int i,.int j]/\Q (.int (if j > i then j else i)) H):=by
  intro pins s σ H xs d Q I r h;obtain⟨i,j,rfl,q⟩:=h;obtain⟨u,c,rfl,⟨t,rfl⟩,⟨f,rfl⟩⟩:=gy r;refine max_two_ints (I.ok.hd b) λg e k=>⟨_,H,I.kept k,?_,q⟩;by_cases a:j > i
  · rw[Jj a,Jj a];exact⟨_,rfl⟩
  · rw[Jg a,Jg a];exact⟨_,rfl⟩
theorem gf (b:X.calm=true):CallR X (.builtin "min") (λxs H Q=>∃ i j,xs=[.int i,.int j]/\Q (.int (if j<i then j else i)) H):=by
  intro pins s σ H xs d Q I r h;obtain⟨i,j,rfl,q⟩:=h;obtain⟨u,c,rfl,⟨t,rfl⟩,⟨f,rfl⟩⟩:=gy r;refine min_two_ints (I.ok.hd b) λg e k=>⟨_,H,I.kept k,?_,q⟩;by_cases a:j<i
  · rw[Jj a,Jj a];exact⟨_,rfl⟩
  · rw[Jg a,Jg a];exact⟨_,rfl⟩
theorem vF:CallR X (.type "int") (λxs H Q=>(∃ i,xs=[.int i]/\Q (.int i) H)\/∃ k,xs=[.bl k]/\Q (.int (if k then 1 else 0)) H):=by
  intro pins s σ H xs b Q I r h;rcases h with ⟨i,rfl,q⟩|⟨k,rfl,q⟩
  · obtain⟨u,rfl,t,rfl⟩:=vd r
    exact call_int_int ⟨.int i,H,I,⟨_,rfl⟩,q⟩
  · obtain⟨u,rfl,a⟩:=vd r
    cases a;exact call_int_bool ⟨.int (if k then 1 else 0),H,I.tok _,⟨_,rfl⟩,q⟩
theorem rK:CallR X (.type "bool") (λxs H Q=>(∃ i,xs=[.int i]/\Q (.bl (i != 0)) H)\/∃ k,xs=[.bl k]/\Q (.bl k) H):=by
  intro pins s σ H xs b Q I r h;rcases h with ⟨i,rfl,q⟩|⟨k,rfl,q⟩
  · obtain⟨u,rfl,t,rfl⟩:=vd r
    exact call_bool_int ⟨.bl (i != 0),H,I,rfl,q⟩
  · obtain⟨u,rfl,a⟩:=vd r
    cases a;exact call_bool_bool ⟨.bl k,H,I,rfl,q⟩
end
structure ObjM (h:YP) (x dx C:JI) (mA:Str->Option Jo):Prop where
  obj:h.get? x=some (PySem.W.instObj C dx)
  ns:h.Ns1 dx mA
  ne:dx≠x
theorem i4 {h:YP}{dx:JI}{mA:Str->Option Jo}(n:h.Ns1 dx mA):∃ od,h.get? dx=some od/\∀ name,PySem.W.lookIn name od=some (mA name):=by
  obtain⟨o,c,l,f,j,i,_,g⟩:=n;refine⟨o,f,λname=>?_⟩;have e:=g name;unfold nsFind findBy at e;rw[<- Array.find?_toList]at e;unfold PySem.W.lookIn;rw[j];dsimp only;split
  · rename_i y q
    rw[q]at e;exact JS some e
  · rename_i q
    rw[q]at e
    have a:c.toList.any (·.refKey)=false:=by
      rw[List.any_eq_false];intro y d;obtain⟨z,t,b⟩:=i y (Array.mem_toList_iff.mp d);simp[DictEntry.refKey,b]
    have k:¬ c.toList.any (·.refKey)=true:=by rw[a];exact Jm
    rw[Jg k];exact JS some e
theorem ObjM.look {h:YP}{x dx C:JI}{mA:Str->Option Jo}(I:ObjM h x dx C mA):∃ od,PySem.W.InstAt h x (PySem.W.instObj C dx) C (some od)/\∀ name,PySem.W.lookIn name od=some (mA name) :=
  let ⟨od,a,b⟩:=i4 I.ns
  ⟨od,⟨I.obj,rfl,rfl,a⟩,b⟩
section
variable {P:Yo}{w:YI}{H:Hp}{h:YP}{a C dx:JI}{fs:List (Str × V)}
theorem ak (hok:HOk P w H h)(e:H a=some (.ins C dx fs)):∃ mA,ObjM h a dx C mA/\(∀ f,RelO (fs.lookup f) (mA f))/\PySem.Within mA (fs.map (·.1))/\fs.length<=1000/\H dx=some (.own a):=by
  obtain⟨d,z,ne,ob,mA,n,r,q⟩:=(show ObjOk P w H h a (.ins C dx fs) from hok a _ e);exact⟨mA,⟨ob,n,ne⟩,r,q,z,d⟩
end
structure Cls (K:Jl) (C:JI):Prop where
  pg:PySem.W.plainGet K C Str.empty=true
  hd:PySem.W.hasDictIn K C=true
  po:PySem.W.plainOver K C=true
  sa:PySem.W.findIn K (.ref C) "__setattr__" = some (some (.builtin "object.__setattr__"))
theorem Cls.get {K:Jl}{C:JI}(c:Cls K C)(f:Str):PySem.W.plainGet K C f=true:=c.pg
section
variable {X:Cx}{pins:List (JI × Obj)}{σ:St}{H:Hp}{s:JO}{A:YO}{E:Jo->JO->Prop}{Q:Jo->JO->Prop}{c:Jo}{b:Bool}
inductive TyOf (K:Jl) (H:Hp):V->Jo->Prop where
  | non:TyOf K H .non (.type "NoneType")
  | bl (x:Bool):TyOf K H (.bl x) (.type "bool")
  | int (i:Int):TyOf K H (.int i) (.type "int")
  | str (x:Str):TyOf K H (.str x) (.type "str")
  | flt (x:UInt64):TyOf K H (.flt x) (.type "float")
  | lst {a:JI}{xs:List V}(e:H a=some (.lst xs)):TyOf K H (.ref a) (.type "list")
  | frz {a:JI}{o:Obj}{xs:List V}(e:H a=some (.frz o (.lst xs))):TyOf K H (.ref a) (.type "list")
  | tup {a:JI}{xs:List V}(e:H a=some (.tup xs)):TyOf K H (.ref a) (.type "tuple")
  | dK {a:JI}{kvs:List (Key × V)}(e:H a=some (.dK kvs)):TyOf K H (.ref a) (.type "dict")
  | dT {a:JI}{kvs:List (List Key × V)}(e:H a=some (.dT kvs)):TyOf K H (.ref a) (.type "dict")
  | ins {a C dx:JI}{fs:List (Str × V)}(e:H a=some (.ins C dx fs)) (cl:Cls K C) (ha:PySem.W.findIn K (.ref C) "__class__" = some (some (.builtin "object.__class__")))
      (hn:PySem.W.specialIn K (.builtin "object.__class__") "__get__" = some (some (.builtin "getset_descriptor.__get__"))) (htk:PySem.W.takesIn K (.builtin "object.__class__")=some true)
      (hm:PySem.W.mroIn K C (.type "object")=some true):TyOf K H (.ref a) (.ref C)
theorem gE {x:V}{u t:Jo}(I:Inv X pins σ H s)(d:RelV x u)(ty:TyOf X.K H x t)(e:PySem.W.kitOne X.K t c=some b)(h:∀ tk,Q (.bool b) { s with toks:=tk }) :
    wpAny (model X.prog X.w) A (call (.builtin "isinstance") [u,c]) Q E s:=by
  cases ty with
  | non=>cases (show u=Value.none from d);exact YM PySem.W.kitx_none I.kIn True.intro e (λz=>nomatch z) h
  | bl y=>cases (show u=Value.bool y from d);exact YM PySem.W.kitx_bool I.kIn True.intro e (λz=>nomatch z) h
  | int i=>obtain⟨t,q⟩:=(show ∃ t,u=Value.int i t from d);cases q;exact YM PySem.W.kitx_int I.kIn True.intro e (λz=>nomatch z) h
  | str y=>obtain⟨t,q⟩:=(show ∃ t,u=Value.str y t from d);cases q;exact YM PySem.W.kitx_str I.kIn True.intro e (λz=>nomatch z) h
  | flt y=>obtain⟨t,q⟩:=(show ∃ t,u=Value.float y t from d);cases q;exact YM PySem.W.kitx_float I.kIn True.intro e (λz=>nomatch z) h
  | @lst a k f =>
    cases (show u=Value.ref a from d);obtain⟨_,_,n,_,g⟩:=(show ObjOk X.prog X.w H s.heap a (.lst k) from I.hok a _ f)
    exact YM PySem.W.kitx_list I.kIn ⟨_,g,rfl⟩ e (λz=>nomatch z) h
  | @frz a ob k f =>
    cases (show u=Value.ref a from d);obtain⟨_,_,_,n,_,g⟩:=(show ObjOk X.prog X.w H s.heap a (.frz ob (.lst k)) from I.hok a _ f)
    exact YM PySem.W.kitx_list I.kIn ⟨_,g,rfl⟩ e (λz=>nomatch z) h
  | @tup a k f =>
    cases (show u=Value.ref a from d);obtain⟨_,_,_,r⟩:=(show ObjOk X.prog X.w H s.heap a (.tup k) from I.hok a _ f);have p:=r.tup;obtain⟨o,g,l,_⟩:=p
    exact YM PySem.W.kitx_tuple I.kIn ⟨o,g,l⟩ e (λz=>nomatch z) h
  | @dK a j f =>
    cases (show u=Value.ref a from d);obtain⟨_,_,G,_,p⟩:=(show ObjOk X.prog X.w H s.heap a (.dK j) from I.hok a _ f);obtain⟨o,D,F,g,l,_⟩:=p
    exact YM PySem.W.kitx_dict I.kIn ⟨o,g,l.1⟩ e (λz=>nomatch z) h
  | @dT a j f =>
    cases (show u=Value.ref a from d);obtain⟨_,_,k,_,o,D,F,g,l,_⟩:=(show ObjOk X.prog X.w H s.heap a (.dT j) from I.hok a _ f)
    exact YM PySem.W.kitx_dict I.kIn ⟨o,g,l.1⟩ e (λz=>nomatch z) h
  | @ins a C M fs f cl B v m w =>
    cases (show u=Value.ref a from d);obtain⟨L,O,_⟩:=ak I.hok f;obtain⟨K,J,_⟩:=O.look;exact YM (PySem.W.kitx_own (cl.get _) cl.hd B v m w) I.kIn J e (λz=>nomatch z) h
end
structure Room (k:Nat) (A:YO):Prop where
  hd:A.handled=none
  dp:A.depth+3*k+5<recursionLimit
  un:A.units+16*k+200<cLine
  gd:A.guards=some []
theorem Room.mono {j k:Nat}{A:YO}(r:Room k A)(h:j<=k):Room j A:=⟨r.hd,by have:=r.dp;grind,by have:=r.un;grind,r.gd⟩
theorem Room.deeper {k:Nat}{A:YO}(r:Room (k+1) A)(env:Env):Room k (A.deeper env) :=
  ⟨r.hd,by have:=r.dp;show A.depth+1+3*k+5<_;lia,by have:=r.un;show A.units+3+16*k+200<_;lia,r.gd⟩
theorem Room.depth {k:Nat}{A:YO}(r:Room k A):A.depth<recursionLimit:=by have:=r.dp;grind
theorem Room.units {k:Nat}{A:YO}(r:Room k A):A.units+64<cLine:=by have:=r.un;grind
theorem Room.units0 {k:Nat}{A:YO}(r:Room k A):A.units<cLine:=by have:=r.un;grind
def zau:TA:=λ_ H Q=>Q [] H
def fY (c:TE)(b:TA):TA:=λσ H Q=>c σ H λx e=>b σ e λa d=>Q (x::a) d
section
variable {X:Cx}{e:Expr}{es:List Expr}{te:TE}{t:TA}{pos:Pos}
theorem zC:PA X [] zau:=λ_ _ _ _ H Q I h=>Wz ⟨[],H,I,.nil,h⟩
theorem zA (ha:PE X e te)(j:PA X es t)(i:starEach (e::es) X.env=(false,eval e X.env)::starEach es X.env:=by rfl):PA X (e::es) (fY te t):=by
  intro pos pins s σ H Q I h;rw[i];show wpAny _ _ (spliced ((false,eval e X.env)::backTo pos (starEach es X.env))) _ _ s;refine ZW (thn (ha pins s σ H _ I h) λu b ⟨x,n,l,d,g⟩=>?_);exact thn (j pos pins b σ n _ l g) λo p ⟨a,m,k,c,f⟩=>⟨x::a,m,k,.cons d c,f⟩
def zb8 (t:TA):TE:=λσ H Q=>t σ H λa b=>a.length<=sizeLine/\∀ p,b p=none->Q (.ref p) (upd b p (.tup a))
def zcc (t:TA):TE:=λσ H Q=>t σ H λa b=>a.length<=sizeLine/\∀ p,b p=none->Q (.ref p) (upd b p (.lst a))
theorem zp {x1}(h:PA X es t):PE X (.Tuple es x1 pos) (zb8 t):=by
  intro pins s σ H Q I i;refine wpAny_Tuple_spliced (thn (h pos pins s σ H _ I i) λg a ⟨f,d,c,r,z,q⟩=>⟨by rw[<- r.length];exact z,?_⟩);have j:d a.heap.objs.size=none:=c.hok.fresh (Jf _);refine⟨.ref a.heap.objs.size,upd d a.heap.objs.size (.tup f),c.laid (t':=a.toks) (λb u e=>J8 _ e) (Jf _) ?_,rfl,q _ j⟩;exact⟨z,g,r,TupX.new _ _⟩
theorem zw (h:PA X es t):PE X (.List es pos) (zcc t):=by
  intro pins s σ H Q I i;refine wpAny_List_spliced (thn (h pos pins s σ H _ I i) λg a ⟨f,d,c,r,z,q⟩=>⟨by rw[<- r.length];exact z,?_⟩);have j:d a.heap.objs.size=none:=c.hok.fresh (Jf _);refine⟨.ref a.heap.objs.size,upd d a.heap.objs.size (.lst f),c.laid (t':=a.toks) (λb u e=>J8 _ e) (Jf _) ?_,rfl,q _ j⟩;exact⟨z,g,0,r,Js _ rfl⟩
end
abbrev Sp:=List V->Hp->VK->XK->Prop
abbrev CXT:=List Env->Hp->JO->XK->Jo->JO->Prop
structure Env0 (P:Yo) (w:YI) (K:Jl) (mg:Str->Option Jo) (base:YP) (A:YO) (outer:List Env) (s:JO) (H:Hp):Prop where
  frames:A.frames=some outer
  mod:Mod K mg base
  bs:∀ b o,base.get? b=some o->s.heap.get? b=some o/\H b=none
  bsz:base.objs.size<=s.heap.objs.size
  funs:s.heap.FunFrames base outer
  frf:∀ b∈frs outer,H b=none
  hok:HOk P w H s.heap
  bare:AllBare s.gens
def CE (outer:List Env)(P:Yo)(w:YI)(H:Hp)(s:JO)(Q:VK)(u:Jo)(a:JO):Prop :=
  ∃ v b,a.os=s.os/\AllBare a.gens/\Un (frs outer) [] H b s.heap a.heap/\HOk P w b a.heap/\RelV v u/\Q v b
def CR (CX:CXT)(outer:List Env)(P:Yo)(w:YI)(H:Hp)(s:JO)(Q:VK)(E:XK)(r:Result)(a:JO):Prop :=
  match r with
  | .ok (.ret u)=>CE outer P w H s Q u a
  | .ok _=>False
  | .error e=>CX outer H s E e a
structure FnOk (P:Yo) (w:YI) (K:Jl) (mg:Str->Option Jo) (base:YP) (CX:CXT) (k:Nat) (f:JI) (fd:Yl) (ps:List Str) (sp:Sp):Prop where
  len:∀ vs H Q E,sp vs H Q E->vs.length=ps.length
  run:∀ (A:YO) (outer:List Env) (s:JO) (H:Hp) (args:Args) (us:List Jo) (vs:List V) (Q:VK) (E:XK),Room k A->Env0 P w K mg base A outer s H->BindsTo s fd args (ps.zip us)->Vals vs us->sp vs H Q E ->
    codeAny (model P w) A (.call (.ref f) args) (CR CX outer P w H s Q E) s
theorem FnOk.mono {P:Yo}{w:YI}{K:Jl}{mg:Str->Option Jo}{base:YP}{CX:CXT}{j k:Nat}{f:JI}{fd:Yl}{ps:List Str}{sp:Sp}(F:FnOk P w K mg base CX j f fd ps sp)(h:j<=k) :
    FnOk P w K mg base CX k f fd ps sp:=⟨F.len,λA outer s H args b a Q E c=>F.run A outer s H args b a Q E (c.mono h)⟩
theorem FnOk.imp {P:Yo}{w:YI}{K:Jl}{mg:Str->Option Jo}{base:YP}{CX:CXT}{k:Nat}{f:JI}{fd:Yl}{ps:List Str}{sp a:Sp}(F:FnOk P w K mg base CX k f fd ps sp)(h:∀ vs H Q E,a vs H Q E->sp vs H Q E):FnOk P w K mg base CX k f fd ps a :=
  ⟨λvs H Q E q=>F.len vs H Q E (h _ _ _ _ q),λA outer s H args b vs Q E e g i c d=>F.run A outer s H args b vs Q E e g i c (h _ _ _ _ d)⟩
section
variable {X:Cx}{pins:List (JI × Obj)}{σ:St}{H:Hp}{s s':JO}
theorem Inv.env0 (I:Inv X pins σ H s):Env0 X.prog X.w X.K X.mg X.base X.A X.stack s H :=
  ⟨I.ok.frames,I.ok.mod,I.bs,JK I.ok.bsz I.sz,I.stack,I.stkFree,I.hok,I.bare⟩
theorem Inv.after {Q:VK}{u:Jo}(I:Inv X pins σ H s)(h:CE X.stack X.prog X.w H s Q u s'):EP X pins σ Q u s':=by
  obtain⟨v,f,os,bare,un,c,r,q⟩:=h;obtain⟨e,g,d,t,a⟩:=s';obtain rfl:a=s.os:=os;exact⟨v,f,I.call (h':=e) (g':=g) (d':=d) (t':=t) (ch:=[]) un c bare (λb z=>absurd z (by simp)),r,q⟩
end
def zaf (sp:Sp)(a:List V)(E:XK)(t:TA):TE:=λσ H Q=>t σ H λb c=>sp (b++a) c Q E
def Binds (K:Jl)(fd:Yl)(ps:List Str)(ds:List Jo):Prop :=
  ∀ (s:JO) (a:List Jo),K.In s.heap->(a++ds).length=ps.length->BindsTo s fd ⟨a,[]⟩ (ps.zip (a++ds))
theorem Binds.all {K:Jl}{fd:Yl}{ps:List Str}(h:∀ us:List Jo,us.length=ps.length->bindArgs fd ⟨us,[]⟩=pure (ps.zip us)):Binds K fd ps []:=λs us _ a=>by
  rw[Y6]at a ⊢;exact .of_eq (h us a)
def Passes (CX:CXT)(X:Cx)(E:XK):Prop:=∀ (pins:List (JI × Obj)) (σ:St) (H:Hp) (s:JO) (e:Jo) (a:JO),Inv X pins σ H s->CX X.stack H s E e a->X.xe e a
section
variable {X:Cx}{CX:CXT}{k:Nat}{f:JI}{fd:Yl}{ps:List Str}{sp:Sp}{dvs:List V}{ds:List Jo}{E:XK}{x:Str}{p pos:Pos}{e:Expr}{es:List Expr}{t:TA}
theorem zaP {pins:List (JI × Obj)}{σ:St}{H:Hp}{s:JO}{Q:VK}{us:List Jo}{vs:List V}(F:FnOk X.prog X.w X.K X.mg X.base CX k f fd ps sp)(g:Room k X.A)(hb:Binds X.K fd ps ds)(hd:Vals dvs ds)(d:Passes CX X E)(I:Inv X pins σ H s)(r:Vals vs us)(h:sp (vs++dvs) H Q E):wpAny (model X.prog X.w) X.A (call (.ref f) us) (EP X pins σ Q) X.xe s:=by
  have b:Vals (vs++dvs) (us++ds):=r.append hd;have i:(us++ds).length=ps.length:=by rw[<- b.length];exact F.len _ _ _ _ h
  refine wpAny_call (codeAny_mono (F.run X.A X.stack s H ⟨us,[]⟩ (us++ds) (vs++dvs) Q E g I.env0 (hb s us I.kIn i) b h) λr c a=>?_)
  cases r with
  | error e=>exact d pins σ H s e c I a
  | ok j =>
    cases j with
    | ret u=>exact I.after a
    | next=>exact False.elim a
    | brk=>exact False.elim a
    | cont=>exact False.elim a
theorem pS (F:FnOk X.prog X.w X.K X.mg X.base CX k f fd ps sp) (g:Room k X.A) (j:Gl X x) (hm:X.mg x=some (.ref f)) (i:PySem.W.keepIn X.K (.ref f)=true) (hb:Binds X.K fd ps ds) (hd:Vals dvs ds) (d:Passes CX X E)
    (ha:PA X (e::es) t) (b:(x == ("__debug__":Str))=false:=by decide) (l:starEach (e::es) X.env=(false,eval e X.env)::starEach es X.env:=by rfl) (a:(backTo pos (starEach es X.env)).any (·.1)=false:=by rfl) :
    PE X (.Call (.Name x p) (e::es) [] pos) (zaf sp dvs E t):=by
  intro pins s σ H Q I h;refine Zm (jT I j hm ?_ b);refine PySem.W.callWith_K (h₀:=X.base) I.ok.mod.kin i (thn (ha pos pins s σ H _ I h) λn o ⟨m,u,c,r,q⟩=>⟨c.kIn,?_⟩) l a;exact zaP F g hb hd d c r q
end
structure FnScope (N P:List Str) (sc:Scope):Prop where
  kind:sc.kind=.function
  co:sc.isCoroutine=false
  gen:sc.isGenerator=false
  nd:N.Nodup
  pre:N.take P.length=P
  par:∀ x∈P,sc.names.lookup x=some .local \/ sc.names.lookup x=some .cell
  nofree:∀ y∈sc.names,y.2≠.free
theorem qX {kindOf:Str->Option NameKind}{x:Str}:∀ {binds:List (Str × Jo)}{m:Str->Option Jo},(∀ v,(x,v)∉binds)->bindL kindOf binds m x=m x
  | [],_,_=>rfl
  | (n,v)::r,m,h=>by
    unfold bindL;rw[qX λw a=>h w (JH _ a)];split
    · have:x≠n:=by rintro rfl;exact h v JM
      simp[this]
    · rfl
theorem qZ {kindOf:Str->Option NameKind}{x:Str}:∀ {binds:List (Str × Jo)}{m:Str->Option Jo},(∀ v,(x,v)∉binds)->bindC kindOf binds m x=m x
  | [],_,_=>rfl
  | (n,v)::r,m,h=>by
    unfold bindC;rw[qZ λw a=>h w (JH _ a)];split
    · rfl
    · have:x≠n:=by rintro rfl;exact h v JM
      simp[this]
theorem qY {kindOf:Str->Option NameKind}{x:Str}{v:Jo}:∀ {P:List Str}{vs:List Jo}{i:Nat}{m:Str->Option Jo},P.Nodup->P[i]?=some x->vs[i]?=some v->kindOf x=some .local ->
    bindL kindOf (P.zip vs) m x=some v
  | [],_,_,_,_,h,_,_=>by simp at h
  | _::_,[],_,_,_,_,h,_=>by simp at h
  | p::P,w::vs,0,m,nd,b,a,c=>by
    simp at b a;subst b;subst a;show bindL kindOf ((p,w)::P.zip vs) m p=_;unfold bindL;rw[qX λv d=>(JT.mp nd).1 (List.of_mem_zip d).1,Jj c]
    simp
  | p::P,w::vs,i+1,m,nd,b,a,c=>by
    show bindL kindOf ((p,w)::P.zip vs) m x=_;unfold bindL;exact qY (i:=i) (JT.mp nd).2 (by simpa using b) (by simpa using a) c
theorem qb {kindOf:Str->Option NameKind}{x:Str}{v:Jo}:∀ {P:List Str}{vs:List Jo}{i:Nat}{m:Str->Option Jo},P.Nodup->P[i]?=some x->vs[i]?=some v->kindOf x≠some .local ->
    bindC kindOf (P.zip vs) m x=some v
  | [],_,_,_,_,h,_,_=>by simp at h
  | _::_,[],_,_,_,_,h,_=>by simp at h
  | p::P,w::vs,0,m,nd,b,a,c=>by
    simp at b a;subst b;subst a;show bindC kindOf ((p,w)::P.zip vs) m p=_;unfold bindC;rw[qZ λv d=>(JT.mp nd).1 (List.of_mem_zip d).1,Jg c]
    simp
  | p::P,w::vs,i+1,m,nd,b,a,c=>by
    show bindC kindOf ((p,w)::P.zip vs) m x=_;unfold bindC;exact qb (i:=i) (JT.mp nd).2 (by simpa using b) (by simpa using a) c
def vI (N:List Str)(vs:List V):St:=vs.map some++List.replicate (N.length-vs.length) none
def mB (CX:CXT)(P:Yo)(w:YI)(K:Jl)(mg:Str->Option Jo)(base:YP)(N:List Str)(qual:Str)(scope:Scope)(f:JI)(cd:Jo)(A:YO)(outer:List Env)(s:JO)(H:Hp)(E:XK):Cx where
  prog:=P
  w:=w
  K:=K
  mg:=mg
  base:=base
  A:=A.deeper (envOfC qual scope s.heap.objs.size f cd)
  N:=N
  s₀:=s
  H₀:=H
  env:=envOfC qual scope s.heap.objs.size f cd
  outer:=outer
  stack:=envOfC qual scope s.heap.objs.size f cd::outer
  ex:=[]
  calm:=true
  fn:=λ_=>true
  pn:=[]
  xe:=λe b=>wpAny (model P w) (A.deeper (envOfC qual scope s.heap.objs.size f cd)) (leaving (envOfC qual scope s.heap.objs.size f cd) e) (λ_ a=>CX outer H s E e a) (λc a=>CX outer H s E c a) b
theorem mH {sc:Scope}{n:Nat}{x:Str}(h:sc.names.lookup x=some .cell):∃ c,(cellsFrom n sc.names []).lookup x=some c:=by
  have q:=PySem.W.cellsFrom_some sc.names n [] (.inl h);exact ZN.mp q
theorem gF {CX:CXT}{P:Yo}{w:YI}{K:Jl}{mg:Str->Option Jo}{base:YP}{N ps:List Str}{qual:Str}{scope:Scope}{f:JI}{cd:Jo}{A:YO}{outer:List Env}{s s1:JO}{H:Hp}{E:XK}{us:List Jo}{vs:List V}(S:FnScope N ps scope)(hd:A.handled=none)(g:Env0 P w K mg base A outer s H)(J:vs.length=ps.length)(r:Vals vs us)(x:InCallC s s.heap.objs.size (bindL (envOfC qual scope s.heap.objs.size f cd).kindOf (ps.zip us) λ_=>none) (cellsFrom (s.heap.objs.size+1) scope.names []) (bindC (envOfC qual scope s.heap.objs.size f cd).kindOf (ps.zip us) λ_=>none) s1) :
    Inv (mB CX P w K mg base N qual scope f cd A outer s H E) [] (vI N vs) H s1:=by
  have G:ps.length<=N.length:=by have:=JS List.length S.pre;rw[Jt]at this;lia
  obtain⟨t,I,rfl,C⟩:=x.done;have l:∀ b:JI,b∉(mB CX P w K mg base N qual scope f cd A outer s H E).ex:=λb z=>absurd (show b∈([]:List JI) from z) (by simp)
  refine⟨⟨g.mod,S.kind,rfl,rfl,Jf _,λy z c t d=>?_,λy j=>?_,λy c _ h=>?_,λ_=>hd,Around.frames_deeper g.frames,.inr ⟨rfl,rfl⟩,λb z=>absurd z (l b),g.bs,g.bsz,λb _ _=>l b,λb z=>absurd z (l b),g.funs,g.frf⟩,
    rfl,g.bare,Un.kept C,⟨_,x.toInCall.ns,λi y v t d L=>?_⟩,λy c h=>⟨_,x.cell y c h⟩,g.hok.fresh (Jf _),λy c h=>?_,λp m=>absurd (show p∈([]:List (JI × Obj)) from m) (by simp),g.hok.kept C,?_⟩
  · exact name_of_addr x.apart (Zg t) (Zg d)
  · have j:scope.names.lookup y=some .cell\/scope.names.lookup y=some .free:=j
    rcases j with j|j
    · exact mH j
    · exact absurd rfl (S.nofree _ (Zg j))
  · exact Nat.le_of_lt (x.above y c (Zg h))
  · have hi:i<vs.length:=by
      unfold vI at d;by_cases hi:i<vs.length
      · exact hi
      · rw[Yv (by simpa using hi)]at d
        rw[List.getElem?_replicate]at d;split at d<;>cases d
    have F:vs[i]?=some v:=by
      unfold vI at d;rw[YA (by simpa using hi),JG]at d
      cases e:vs[i]? with
      | none=>rw[e]at d;cases d
      | some a=>rw[e]at d;cases d;rfl
    obtain⟨u,B,D⟩:=r.get F
    have m:ps[i]?=some y:=by
      rw[<- S.pre,Ze (by simp_all)];exact t
    have o:ps.Nodup:=by rw[<- S.pre];exact S.nd.sublist (List.take_sublist _ _)
    refine⟨u,D,?_⟩;rcases S.par y (JP m) with k|k
    · exact .inl ⟨k,qY o m B k⟩
    · obtain⟨c,e⟩:=mH (n:=s.heap.objs.size+1) k
      refine .inr ⟨.inl k,c,e,?_⟩;have q:=x.cell y c e;rw[qb o m B (by show scope.names.lookup y≠_;rw[k];decide)]at q;exact q
  · exact g.hok.fresh (Nat.le_of_lt (x.above y c (Zg h)))
  · unfold vI
    show _=N.length;rw[Jc,Je,JX]
    simp_all
theorem zam {CX:CXT}{P:Yo}{w:YI}{K:Jl}{mg:Str->Option Jo}{base:YP}{k:Nat}{f:JI}{name qual:Str}{params:Arguments}{body:List Stmt}{scope:Scope}{C kV doc pm cdv ct oc:Jo}{an od:Option JI}{osl:Array (Option Jo)}{N ps:List Str}{sp:Sp}(G:K.lookup f=some ⟨oc,od,.func (PySem.W.fnOf name qual params body scope C kV doc pm an cdv ct),osl⟩)(z:PySem.W.codeIn K cdv qual=true)(S:FnScope N ps scope)(len:∀ vs H Q E,sp vs H Q E->vs.length=ps.length)(g:∀ (A:YO) (outer:List Env) (s:JO) (H:Hp) (vs:List V) (Q:VK) (E:XK),Room k (A.deeper (envOfC qual scope s.heap.objs.size f cdv))->sp vs H Q E ->
      ∃ t,PSs (mB CX P w K mg base N qual scope f cdv A outer s H E) body t/\t { nx:=λ_ c=>Q .non c,rt:=Q } (vI N vs) H) :
    FnOk P w K mg base CX (k+1) f (PySem.W.fnOf name qual params body scope C kV doc pm an cdv ct) ps sp:=by
  refine⟨len,λA outer s H args F vs Q E p i U r j=>?_⟩;have R:=len _ _ _ _ j;have D:K.In s.heap:=i.mod.kin.keeps λb o e=>(i.bs b o e).1;have lim:s.heap.NoLimit:=i.mod.nolimit.keeps λb o e=>(i.bs b o e).1
  have d:∀ y∈ps.zip F,scope.names.lookup y.1=some .local \/ (scope.names.lookup y.1=some .cell/\((cellsFrom (s.heap.objs.size+1) scope.names []).lookup y.1).isSome=true):=λ⟨n,v⟩ L=>by
    rcases S.par n (List.of_mem_zip L).1 with q|q
    · exact .inl q
    · exact .inr ⟨q,PySem.W.cellsFrom_some _ _ _ (.inl q)⟩
  refine codeAny_call_function p.depth (D _ _ G) rfl S.co S.gen rfl (PySem.W.codeRec_of D z) (U _ _ _ _ ?_);refine wpAny_newFunctionEnv_cells S.kind d λenv T B x=>?_;subst T;refine⟨lim.keeps x.toInCall.keep,codeAny_func ?_⟩;obtain⟨t,M,O⟩:=g A outer s H vs Q E (p.deeper _) j;have I:Inv (mB CX P w K mg base N qual scope f cdv A outer s H E) [] (vI N vs) H B:=gF S p.hd i R r x;refine JU (M [] B (vI N vs) H _ I O) (λW l h=>?_) λe l h=>h
  have fin:∀ {a:St}{c:Hp}{v:V}{u:Jo},Inv (mB CX P w K mg base N qual scope f cdv A outer s H E) [] a c l->RelV v u->Q v c->CE outer P w H s Q u l :=
    λ{a c v u} J m q=>⟨v,c,J.os,J.bare,J.base,J.hok,m,q⟩
  cases W with
  | ret u =>
    obtain⟨v,a,c,J,m,q⟩:=h
    exact fin J m q
  | next =>
    obtain⟨a,c,J,q⟩:=h
    exact fin (v:=V.non) (u:=Value.none) J rfl q
  | brk =>
    obtain⟨_,_,_,q⟩:=h
    exact False.elim q
  | cont =>
    obtain⟨_,_,_,q⟩:=h;exact False.elim q
section
variable {X:Cx}{x:Str}{p pos:Pos}{e:Expr}{es:List Expr}{t:TA}{id T:String}{r:List V->Hp->VK->Prop}
def tCB (r:List V->Hp->VK->Prop)(t:TA):TE:=λσ H Q=>t σ H λa b=>r a b Q
theorem zU (m:CallR X (.builtin id) r) (k:Gl X x) (hm:X.mg x=none) (j:bootBuiltins x=some (.builtin id)) (ha:PA X (e::es) t) (hn:x≠"__name__":=by decide) (b:(x == ("__debug__":Str))=false:=by decide)
    (l:starEach (e::es) X.env=(false,eval e X.env)::starEach es X.env:=by rfl) (a:(backTo pos (starEach es X.env)).any (·.1)=false:=by rfl):PE X (.Call (.Name x p) (e::es) [] pos) (tCB r t):=by
  intro pins s σ H Q I h;refine Zm (xu I k hm j ?_ hn b);exact PyProof.Rows.callWith_builtin1 (thn (ha pos pins s σ H _ I h) λd f ⟨c,o,n,g,i⟩=>m pins f σ o c d Q n g i) l a
theorem zj (m:CallR X (.type T) r) (k:Gl X x) (hm:X.mg x=none) (j:bootBuiltins x=some (.type T)) (ha:PA X (e::es) t) (hn:x≠"__name__":=by decide) (b:(x == ("__debug__":Str))=false:=by decide)
    (l:starEach (e::es) X.env=(false,eval e X.env)::starEach es X.env:=by rfl) (a:(backTo pos (starEach es X.env)).any (·.1)=false:=by rfl):PE X (.Call (.Name x p) (e::es) [] pos) (tCB r t):=by
  intro pins s σ H Q I h;refine Zm (xu I k hm j ?_ hn b);exact Ym (thn (ha pos pins s σ H _ I h) λd f ⟨c,o,n,g,i⟩=>m pins f σ o c d Q n g i) l a
end
end L2
namespace HT
open PySem PyProof.Rows
section
variable {prog:Yo}{w:YI}{A:YO}{E:Jo->JO->Prop}{s:JO}
theorem cat_tup {t b:JI}{vs ws:List Jo}{Q:Jo->JO->Prop}(u:IsTup s.heap t vs.toArray) (hb:IsTup s.heap b ws.toArray) (m:vs≠[])
    (x:ws=[]->Q (.ref t) s) (v:ws≠[]->Q (.ref s.heap.objs.size) { s with heap:=s.heap.push { cls:=.type "tuple",data:=.seq (vs++ws).toArray } })
    (j:vs.length+ws.length<=sizeLine):wpAny (model prog w) A (binaryOp .Add (.ref t) (.ref b)) Q E s:=by
  obtain⟨⟨cls,q,data,k⟩,i,p,n,o⟩:=id u;obtain⟨⟨r,g,data2,c⟩,a,f,l,d⟩:=id hb;simp only at p o f d;subst p o f d;have e:vs.toArray++ws.toArray=(vs++ws).toArray:=by simp
  by_cases h:ws=[]
  · exact concat_meets ⟨_,i,rfl⟩ ⟨_,a,rfl⟩ noFill_tuple_add seq_tuple_add PySem.F.slot_tuple_add PySem.F.entry_tuple_add (PySem.F.args_tuple_add_2 _ _)
      (tuple_addW1 t b vs.toArray ws.toArray n l q g k c (by simpa using m) (by simp[h])) ⟨i,a,x h⟩
  · refine concat_meets ⟨_,i,rfl⟩ ⟨_,a,rfl⟩ noFill_tuple_add seq_tuple_add PySem.F.slot_tuple_add PySem.F.entry_tuple_add (PySem.F.args_tuple_add_2 _ _)
      (tuple_addW2 t b vs.toArray ws.toArray n l q g k c (by simpa using m) (by simpa using h) (by rw[Jh,Jh];exact j)) ⟨i,a,?_⟩
    rw[e];exact v h
def sIx (n d:Nat):Option Int->Nat
  | none=>d
  | some v=>if v<0 then (v+(n:Int)).toNat else min v.toNat n
theorem sIx_none (n d:Nat):sIx n d none=d:=rfl
theorem sIx_nat (n d k:Nat):sIx n d (some (k:Int))=min k n:=by
  show (if (k:Int)<0 then ((k:Int)+(n:Int)).toNat else min (k:Int).toNat n)=min k n;rw[Jg (by simp_all),Y3]
theorem zaL (n d:Nat)(hd:d<=n)(o:Option Int):sIx n d o<=n:=by
  cases o with
  | none=>exact hd
  | some v =>
    show (if v<0 then (v+(n:Int)).toNat else min v.toNat n)<=n;by_cases a:v<0
    · rw[Jj a];grind
    · rw[Jg a];exact Nat.min_le_right _ _
theorem jj (v:Int)(n d:Nat):(if v<0 then max (v+(n:Int)) 0 else min v (n:Int))=((sIx n d (some v):Nat):Int):=by
  show (if v<0 then max (v+(n:Int)) 0 else min v (n:Int))=(((if v<0 then (v+(n:Int)).toNat else min v.toNat n):Nat):Int);by_cases a:v<0
  · simp only[Jj a];simp_all
  · simp only[Jg a];grind
theorem kh (lo hi:Option Int)(n:Nat):Builtin.Slice.sliceAdjust lo hi 1 (n:Int)=(((sIx n 0 lo:Nat):Int),((sIx n n hi:Nat):Int)):=by
  have a:¬((1:Int)<0):=by simp_all
  unfold Builtin.Slice.sliceAdjust;simp only[a,Zw];refine Prod.ext ?_ ?_
  · cases lo with
    | none=>rfl
    | some v=>exact jj v n 0
  · cases hi with
    | none=>rfl
    | some v=>exact jj v n n
theorem lW (i j:Nat):Builtin.Slice.slicePlaces (i:Int) (j:Int) 1=j-i:=by
  unfold Builtin.Slice.slicePlaces;have a:(1:Int) > 0:=by simp_all
  simp only[a,YV,Int.ediv_one];split<;>simp_all
theorem sH {v:Jo}{o:Option Int}{Q:Option Int->JO->Prop}(p:IsPart v o)(h:Q o s):wpAny (model prog w) A (Builtin.Slice.slicePartIndex v) Q E s:=by
  cases p with
  | none=>exact slicePart_none h
  | int i t=>exact slicePart_int h
theorem sliceApplied_gen {sl:JI}{d c:Jo}{lo hi:Option Int}{n:Nat}{Q:Int × Int × Nat->JO->Prop}(f:s.heap.IsSliceOf sl d c .none)(e:IsPart d lo)(pu:IsPart c hi)(h:Q (((sIx n 0 lo:Nat):Int),1,sIx n n hi-sIx n 0 lo) s):wpAny (model prog w) A (Builtin.Slice.sliceApplied (.ref sl) (pure (n:Int))) Q E s:=by
  obtain⟨os,a,g,b⟩:=id f;unfold Builtin.Slice.sliceApplied Builtin.Slice.sliceFields;refine J0 (J0 (Zk a b (x:=d) rfl (J0 (Zk a b (x:=c) rfl (J0 (Zk a b (x:=.none) rfl (J9 ?_)))))));refine J0 (slicePart_none ?_);show wpAny _ _ (if ((1:Int) == 0)=true then _ else _) _ _ s;rw[Jg (by decide)];refine J0 (sH e (J0 (sH pu (J0 (J9 ?_)))));show wpAny _ _ (match Builtin.Slice.sliceAdjust lo hi 1 (n:Int) with|(lo,hi)=>pure (lo,(1:Int),Builtin.Slice.slicePlaces lo hi 1)) _ _ s;rw[kh lo hi n];show wpAny _ _ (pure (((sIx n 0 lo:Nat):Int),(1:Int),Builtin.Slice.slicePlaces ((sIx n 0 lo:Nat):Int) ((sIx n n hi:Nat):Int) 1)) _ _ s;rw[lW];exact J9 h
theorem e5 (xs:Array Jo)(i k:Nat):((List.range k).filterMap λ(m:Nat)=>xs[((i:Int)+(m:Int)*1).toNat]?).toArray=((xs.toList.drop i).take k).toArray:=by
  have e:(λ(m:Nat)=>xs[((i:Int)+(m:Int)*1).toNat]?)=λm=>xs[i+m]?:=by
    funext m
    have:((i:Int)+(m:Int)*1).toNat=i+m:=by grind
    rw[this]
  rw[e];have:=pick_run xs i k;rw[Zn]at this;have e2:((λx=>xs[x]?)∘λx=>i+x)=λm=>xs[i+m]?:=rfl;rw[e2]at this;rw[this]
theorem getItem_tuple_cut {t sl:JI}{items:Array Jo}{i g:Jo}{lo hi:Option Int}{Q:Jo->JO->Prop}(b:IsTup s.heap t items) (j:s.heap.IsSliceOf sl i g .none) (k:IsPart i lo) (pu:IsPart g hi)
    (l:¬(sIx items.size 0 lo=0/\sIx items.size items.size hi=items.size))
    (h:Q (.ref s.heap.objs.size) { s with heap:=s.heap.push { cls:=.type "tuple",data:=.seq ((items.toList.drop (sIx items.size 0 lo)).take (sIx items.size items.size hi-sIx items.size 0 lo)).toArray } })
    (n:items.size<=sizeLine):wpAny (model prog w) A (getItem (.ref t) (.ref sl)) Q E s:=by
  have a:sizeOk (.seq ((items.toList.drop (sIx items.size 0 lo)).take (sIx items.size items.size hi-sIx items.size 0 lo)).toArray):=by
    show ((items.toList.drop (sIx items.size 0 lo)).take (sIx items.size items.size hi-sIx items.size 0 lo)).toArray.size<=sizeLine;rw[Jh,Jt,Y4,JA];omega
  have u:sIx items.size items.size hi<=items.size:=zaL _ _ (Jf _) hi;obtain⟨os,c,e,o⟩:=id j;have f:s.TypeIs (.ref sl) "slice":=⟨os,c,e⟩;unfold getItem
  try with_reducible refine Yf ?_
  first|refine J0 (J9 ?_)|skip
  refine J0 (wpAny_sequenceKey b.typeIs (by decide) ?_)
  refine J0 (wpAny_callSpecial?_slot (name:=Str.ofString "__getitem__") b.typeIs YQ
    (Y5 YQ b.typeIs entry_tuple_getitem ?_ (args_tuple_getitem _ _)))
  show wpAny _ _ (Builtin.Tuple.tupleItemsOf (.ref t) >>= _) _ _ s;refine J0 (tupleItemsOf_ b ?_);refine J0 (Za f ?_);rw[Jj (by decide)];refine J0 (sliceApplied_gen j k pu ?_)
  have d:¬((((sIx items.size 0 lo:Nat):Int) == 0 && (1:Int) == 1 && (sIx items.size items.size hi-sIx items.size 0 lo) == items.size)=true):=by
    intro q;rw[Yx,Yx]at q;have r:((sIx items.size 0 lo:Nat):Int)=0:=eq_of_beq q.1.1;have p:sIx items.size items.size hi-sIx items.size 0 lo=items.size:=eq_of_beq q.2;exact l ⟨by simp_all,by simp_all⟩
  show wpAny _ _ (if (((sIx items.size 0 lo:Nat):Int) == 0 && (1:Int) == 1 && (sIx items.size items.size hi-sIx items.size 0 lo) == items.size)=true then _ else _) _ _ s;rw[Jg d,e5]
  first
    | exact J0 (m:=Builtin.Tuple.tupleExact _) (JJ (J9 ⟨_,rfl,J9 h⟩) a)
    | exact J0 (m:=Builtin.Tuple.tupleExact _) (JJ (J0 (J9 (J9 ⟨_,rfl,J9 h⟩))) a)
    | exact J0 (J0 (m:=Builtin.Tuple.tupleExact _) (JJ (J9 (J9 ⟨_,rfl,J9 h⟩)) a))
    | exact J0 (J0 (m:=Builtin.Tuple.tupleExact _) (JJ (J9 ⟨_,rfl,J9 h⟩) a))
end
end HT
namespace L2
open PySem PySem.Spec PyProof.Rows
abbrev TO:=St->Hp->(Option Int->Hp->Prop)->Prop
def PO (X:Cx)(e:Option Expr)(t:TO):Prop :=
  ∀ (pins:List (JI × Obj)) (s:JO) (σ:St) (H:Hp) (Q:Option Int->Hp->Prop),Inv X pins σ H s->t σ H Q ->
    wpAny (model X.prog X.w) X.A (evalPart e X.env) (λu b=>∃ o a,Inv X pins σ a b/\IsPart u o/\Q o a) X.xe s
def bg:TO:=λ_ H Q=>Q none H
def zbv (t:TE):TO:=λσ H Q=>t σ H λx a=>∃ i,x=.int i/\Q (some i) a
section
variable {X:Cx}{e:Expr}{te:TE}{lo hi:Option Expr}{tl th:TO}{pos p2:Pos}
theorem yN:PO X none bg:=by
  intro pins s σ H Q I h;rw[evalPart_none];exact J9 ⟨none,H,I,.none,h⟩
theorem zu (h:PE X e te):PO X (some e) (zbv te):=by
  intro pins s σ H Q I c;rw[evalPart_some];refine thn (h pins s σ H _ I c) λu g ⟨x,f,d,a,b⟩=>?_;obtain⟨i,rfl,q⟩:=b;obtain⟨t,rfl⟩:=a;exact⟨some i,f,d,.int i t,q⟩
def SlR (X:Cx)(r:V->Option Int->Option Int->Hp->VK->Prop):Prop :=
  ∀ (pins:List (JI × Obj)) (s:JO) (σ:St) (H:Hp) (x:V) (v b a:Jo) (lo hi:Option Int) (c:JI) (Q:VK),Inv X pins σ H s->RelV x v->s.heap.IsSliceOf c b a .none->IsPart b lo->IsPart a hi->r x lo hi H Q ->
    ∃ T id,typeLookup (.type T) "__getitem__" = pure (some (.builtin id))/\s.TypeIs v T/\wpAny (model X.prog X.w) X.A (getItem v (.ref c)) (EP X pins σ Q) X.xe s
def tSl (r:V->Option Int->Option Int->Hp->VK->Prop)(te:TE)(tl th:TO):TE:=λσ H Q=>te σ H λx c=>tl σ c λl b=>th σ b λu a=>r x l u a Q
theorem zz {r:V->Option Int->Option Int->Hp->VK->Prop}(w:SlR X r)(A:PE X e te)(y:PO X lo tl)(p:PO X hi th):PE X (.Subscript e (.Slice lo hi none p2) pos) (tSl r te tl th):=by
  intro pins s σ H Q I h;refine Subscript_ (thn (A pins s σ H _ I h) λv i ⟨x,J,F,j,n⟩=>?_);refine wpAny_Slice (thn (y pins i σ J _ F n) λd g ⟨l,G,E,o,m⟩=>thn (p pins g σ G _ E m) λc a ⟨u,f,D,pu,k⟩=>?_);rw[evalPart_none];refine J9 ?_;have C:Inv X pins σ f { a with heap:=a.heap.push { cls:=.type "slice",data:=.fields #[d,c,.none] } }:=D.kept (t':=a.toks) λb ob q=>J8 _ q;obtain⟨T,id,B,t,z⟩:=w pins { a with heap:=a.heap.push { cls:=.type "slice",data:=.fields #[d,c,.none] } } σ f x v d c l u a.heap.objs.size Q C j (Heap.IsSliceOf.new ..) o pu k;show wpAny (model X.prog X.w) X.A (subscriptTail e (.Slice lo hi none p2) v (.ref a.heap.objs.size)) (EP X pins σ Q) X.xe { a with heap:=a.heap.push { cls:=.type "slice",data:=.fields #[d,c,.none] } };exact tail_any (ops:=[.ref a.heap.objs.size,v]) t B z (by with_unfolding_all rfl)
def xJ (xs:List V)(lo hi:Option Int):List V:=(xs.drop (HT.sIx xs.length 0 lo)).take (HT.sIx xs.length xs.length hi-HT.sIx xs.length 0 lo)
theorem uw (xs:List V)(lo hi:Option Int):(xJ xs lo hi).length<=xs.length:=by
  unfold xJ;rw[Jt,Y4]
  grind
def zcu (K:Jl):V->Option Int->Option Int->Hp->VK->Prop:=λx lo hi H Q=>∃ a b,x=.ref a/\SqT K H a b /\
  ¬(HT.sIx b.length 0 lo=0/\HT.sIx b.length b.length hi=b.length)/\∀ p,H p=none->Q (.ref p) (upd H p (.tup (xJ b lo hi)))
theorem zaB:SlR X (zcu X.K):=by
  intro pins s σ H x v n m lo hi p Q I g l i pu h;obtain⟨a,c,rfl,j,k,q⟩:=h;cases g;obtain⟨d,r,f,e⟩:=I.tuple j;have hlen:d.toArray.size=c.length:=by rw[Jh];exact r.length.symm
  refine⟨"tuple",_,PyProof.Rows.slot_tuple_getitem.lookup,f.typeIs,?_⟩;refine HT.getItem_tuple_cut f l i pu (by rw[hlen];exact k) ?_ (by rw[hlen];exact e);rw[hlen];refine⟨.ref s.heap.objs.size,_,I.laid (t':=s.toks) (o:=.tup (xJ c lo hi)) (λb ob q=>J8 _ q) (Jf _) ?_,rfl,q _ (I.hok.fresh (Jf _))⟩;exact⟨JK (uw c lo hi) e,_,(r.drop (HT.sIx c.length 0 lo)).take (HT.sIx c.length c.length hi-HT.sIx c.length 0 lo),TupX.new _ _⟩
def zbM (K:Jl):R2:=λx y H Q=>∃ a b d c,x=.ref a/\y=.ref b/\SqT K H a d/\SqT K H b c/\d≠[]/\d.length+c.length<=sizeLine /\
  (c=[]->Q (.ref a) H)/\(c≠[]->∀ p,H p=none->Q (.ref p) (upd H p (.tup (d++c))))
theorem Vals.nil_iff {xs:List V}{us:List Jo}(r:Vals xs us):us=[]↔xs=[]:=by
  cases r with
  | nil=>simp
  | cons _ _=>simp
theorem aG:OpR X (binaryOp .Add) (zbM X.K):=by
  intro pins s σ H x y v u Q I k j h;obtain⟨a,b,i,g,rfl,rfl,t,r,p,e,m,l⟩:=h;cases k;cases j;obtain⟨A,d,n,_⟩:=I.tuple t;obtain⟨f,c,p2,_⟩:=I.tuple r;refine HT.cat_tup n p2 (λz=>p (d.nil_iff.mp z)) (λz=>⟨.ref a,H,I,rfl,m (c.nil_iff.mp z)⟩) (λz=>?_) (by rw[<- d.length,<- c.length];exact e);refine⟨.ref s.heap.objs.size,_,I.laid (t':=s.toks) (o:=.tup (i++g)) (λb ob q=>J8 _ q) (Jf _) ?_,rfl,l (λw=>z (c.nil_iff.mpr w)) _ (I.hok.fresh (Jf _))⟩;exact⟨by rw[Jc];exact e,_,d.append c,TupX.new _ _⟩
end
def ixN (n:Nat)(i:Int):Option Nat:=if 0<=i then (if i<n then some i.toNat else none) else if -(n:Int)<=i then some (i+n).toNat else none
def atI {α:Type}(xs:List α)(i:Int):Option α:=(ixN xs.length i).bind λj=>xs[j]?
theorem ph {n:Nat}{i:Int}{j:Nat}(h:ixN n i=some j):seqIndex? i n=some j/\j<n/\-(n:Int)<=i/\i<n:=by
  unfold ixN at h;by_cases b:0<=i
  · rw[Jj b]at h
    by_cases a:i<n
    · rw[Jj a]at h
      have e:i.toNat=j:=Jq h;exact⟨by rw[seqIndex_of b a,e],by omega,by grind,a⟩
    · rw[Jg a]at h;cases h
  · rw[Jg b]at h
    by_cases a:-(n:Int)<=i
    · rw[Jj a]at h
      have e:(i+n).toNat=j:=Jq h;exact⟨by rw[seqIndex_neg (by simp_all) a,e],by grind,a,by grind⟩
    · rw[Jg a]at h;cases h
theorem jt {α:Type}{xs:List α}{i:Int}{v:α}(h:atI xs i=some v):∃ j,seqIndex? i xs.length=some j/\xs[j]?=some v/\j<xs.length/\-(xs.length:Int)<=i/\i<xs.length:=by
  unfold atI at h
  cases e:ixN xs.length i with
  | none=>rw[e]at h;cases h
  | some j =>
    rw[e]at h;obtain⟨d,c,b,a⟩:=ph e;exact⟨j,d,h,c,b,a⟩
theorem yJ {α:Type}{xs:List α}{j:Nat}{v:α}(h:xs[j]?=some v):atI xs (j:Int)=some v:=by
  have a:j<xs.length:=(Jb.mp h).1
  have e:ixN xs.length (j:Int)=some j:=by
    unfold ixN;rw[Jj (by simp_all),Jj (by simp_all)];simp
  unfold atI;rw[e];exact h
theorem bT {α:Type}(xs:List α)(v:α):atI (xs++[v]) (-1)=some v:=by
  have a:(xs++[v]).length=xs.length+1:=by simp
  have e:ixN (xs++[v]).length (-1)=some xs.length:=by
    unfold ixN;rw[a,Jg (by decide),Jj (by grind)]
    congr 1
    grind
  unfold atI;rw[e];show (xs++[v])[xs.length]?=some v;simp
def PlainIx (b:Expr):Prop:=∀ o i,subscripted b false o i=operate [o,i] (getItem o i)
def IxR (X:Cx)(r:R2):Prop :=
  ∀ (value slice:Expr) (pins:List (JI × Obj)) (s:JO) (σ:St) (H:Hp) (x y:V) (v u:Jo) (Q:VK),Inv X pins σ H s->RelV x v->RelV y u->r x y H Q ->
    subscripted slice false v u=operate [v,u] (getItem v u)->wpAny (model X.prog X.w) X.A (subscriptTail value slice v u) (EP X pins σ Q) X.xe s
def MtR (X:Cx)(id:String)(r:V->List V->Hp->VK->Prop):Prop :=
  ∀ (pins:List (JI × Obj)) (s:JO) (σ:St) (H:Hp) (x:V) (a:List V) (v:Jo) (b:List Jo) (Q:VK),Inv X pins σ H s->RelV x v->Vals a b->r x a H Q ->
    wpAny (model X.prog X.w) X.A (call (.builtin id) (v::b)) (EP X pins σ Q) X.xe s
section
variable {X:Cx}{a b:Expr}{ta tb:TE}{pos:Pos}
theorem zZ {r:R2}(g:IxR X r)(ha:PE X a ta)(hb:PE X b tb)(f:PlainIx b):PE X (.Subscript a b pos) (tOp r ta tb):=by
  intro pins s σ H Q I h;exact Subscript_ (zbm ha hb I h λv u c x y j i e d q=>g a b pins c σ j x y v u Q i e d q (f _ _))
def eU (K:Jl):R2:=λx y H Q=>∃ p a i v,x=.ref p/\y=.int i/\SqL K H p a/\atI a i=some v/\Q v H
def zcy (K:Jl):R2:=λx y H Q=>∃ p a i v,x=.ref p/\y=.int i/\SqT K H p a/\atI a i=some v/\Q v H
theorem zo:IxR X (eU X.K):=by
  intro value slice pins s σ H x y v u Q I n m h f;obtain⟨p,F,i,z,rfl,rfl,o,B,q⟩:=h;cases n;obtain⟨t,rfl⟩:=m;obtain⟨e,r,b,G⟩:=I.list o;obtain⟨j,a,E,K,D,C⟩:=jt B;obtain⟨w,k,d⟩:=r.get E;have A:=r.length;have J:=sQ;have fin:EP X pins σ Q w s:=⟨z,H,I,d,q⟩;by_cases g:0<=i
  · have c:i.toNat=j:=by
      rw[seqIndex_of g C]at a;exact Jq a
    exact item_listR b.isList g (by lia) (by rw[c];simpa using k) fin f
  · have c:(i+(e.toArray.size:Int)).toNat=j:=by
      rw[seqIndex_neg (by simp_all) D]at a;rw[Jh,<- A];exact Jq a
    exact subscriptTail_builtinR (x:=w) b.isList.typeIs slot_list_getitem.lookup
      (wpAny_getItem_list_neg (Q:=λr l=>r=w/\EP X pins σ Q r l) b.isList (by simp_all) (by rw[Jh]<;>simp_all) (by grind) (by rw[c];simpa using k) ⟨rfl,fin⟩) f
theorem yL:IxR X (zcy X.K):=by
  intro value slice pins s σ H x y v u Q I e d h f;obtain⟨p,B,i,z,rfl,rfl,g,l,q⟩:=h;cases e;obtain⟨t,rfl⟩:=d;obtain⟨A,r,b,C⟩:=I.tuple g;obtain⟨j,n,m,G,F,E⟩:=jt l;obtain⟨w,o,a⟩:=r.get m;have k:=r.length;have D:=sQ;have fin:EP X pins σ Q w s:=⟨z,H,I,a,q⟩
  exact subscriptTail_builtinR (x:=w) b.typeIs slot_tuple_getitem.lookup
    (getItem_tuple (j:=j) (Q:=λr c=>r=w/\EP X pins σ Q r c) b (by grind) (by grind) (by rw[Jh,<- k];exact n) (by simpa using o) ⟨rfl,fin⟩) f
theorem kH (its:List Jo)(n j:Nat)(u:Jo):Obj.mapSeq (·.setIfInBounds j u) { cls:=.type "list",data:=.seq its.toArray n }={ cls:=.type "list",data:=.seq (its.set j u).toArray n }:=by
  simp[Obj.mapSeq]
theorem Inv.lst {pins:List (JI × Obj)}{σ:St}{H:Hp}{s:JO}{p:JI}{xs:List V}(I:Inv X pins σ H s)(h:H p=some (.lst xs)) :
    ∃ (its:List Jo) (n:Nat),Vals xs its/\s.heap.get? p=some { cls:=.type "list",data:=.seq its.toArray n }/\xs.length<=sizeLine:=by
  obtain⟨z,its,n,r,e⟩:=I.hok p _ h;exact⟨its,n,r,e,z⟩
theorem Inv.lstUpd {pins:List (JI × Obj)}{σ:St}{H:Hp}{s:JO}{p:JI}{xs ys:List V}{its its':List Jo}{n a:Nat}{f:Obj->Obj}(I:Inv X pins σ H s) (h:H p=some (.lst xs))
    (g:s.heap.get? p=some { cls:=.type "list",data:=.seq its.toArray n }) (c:f { cls:=.type "list",data:=.seq its.toArray n }={ cls:=.type "list",data:=.seq its'.toArray a }) (r:Vals ys its') (d:ys.length<=sizeLine) (t:Nat) :
    Inv X pins σ (upd H p (.lst ys)) { s with heap:=s.heap.update p f,toks:=t }:=by
  have e:(s.heap.update p f).get? p=some { cls:=.type "list",data:=.seq its'.toArray a }:=by
    rw[YS f g (by rw[c]<;>rfl),c]
  refine I.write (x:=p) (e:=p) (by rw[h];trivial) (.inl rfl) (λb u i q=>(Ys _ _ (Ne.symm i)).trans q) ⟨_,e⟩ ?_;exact⟨d,its',a,r,e⟩
def zbL:V->V->V->Hp->(Hp->Prop)->Prop:=λo i v H Q=>∃ p a k j,o=.ref p/\i=.int k/\H p=some (.lst a)/\ixN a.length k=some j/\Q (upd H p (.lst (a.set j v)))
theorem y7:PSet X zbL:=by
  intro pins s σ H o i v D E u Q I z A y h;obtain⟨p,x,k,j,rfl,rfl,f,C,q⟩:=h;cases z;obtain⟨t,rfl⟩:=A;obtain⟨a,n,r,c,B⟩:=I.lst f;obtain⟨b,G,l,g⟩:=ph C;have d:=r.length;have F:=sQ
  have w:Inv X pins σ (upd H p (.lst (x.set j v))) { s with heap:=s.heap.update p (Obj.mapSeq (·.setIfInBounds j u)) } :=
    I.lstUpd f c (kH a n j u) (r.set y j) (by rw[Z6];exact B) s.toks
  by_cases m:0<=k
  · have e:k.toNat=j:=by
      rw[seqIndex_of m g]at b;exact Jq b
    exact PySem.W.ki_setAt c m (by grind) (by rw[Jh,<- d];exact g) (by rw[e];exact⟨_,w,q⟩)
  · have e:(k+(a.toArray.size:Int)).toNat=j:=by
      rw[seqIndex_neg (by simp_all) l]at b;rw[Jh,<- d];exact Jq b
    exact PySem.W.ki_setBack c (by simp_all) (by rw[Jh,<- d];exact l) (by grind) (by rw[e];exact⟨_,w,q⟩)
theorem qz (lo hi:Option Int)(n:Nat):(sliceBounds lo hi none n).1=((HT.sIx n 0 lo:Nat):Int)/\(sliceBounds lo hi none n).2.1=((HT.sIx n n hi:Nat):Int)/\(sliceBounds lo hi none n).2.2=1:=by
  refine⟨?_,?_,rfl⟩
  · cases lo with
    | none=>simp[sliceBounds,HT.sIx]
    | some i =>
      simp only[sliceBounds,HT.sIx,Option.getD_none,show (1:Int) > 0 by decide,YV];by_cases h:i<0
      · simp only[h,YV]<;>grind
      · simp only[h,Zw]<;>grind
  · cases hi with
    | none=>simp[sliceBounds,HT.sIx]
    | some i =>
      simp only[sliceBounds,HT.sIx,Option.getD_none,show (1:Int) > 0 by decide,YV];by_cases h:i<0
      · simp only[h,YV]<;>grind
      · simp only[h,Zw]<;>grind
theorem rP (its:List Jo)(lo hi:Option Int):slicePick its.toArray lo hi none=((its.drop (HT.sIx its.length 0 lo)).take (HT.sIx its.length its.length hi-HT.sIx its.length 0 lo)).toArray:=by
  obtain⟨c,b,a⟩:=qz lo hi its.toArray.size;unfold slicePick;rw[c,b,a];simp only[sliceRange_one,pick_run,Jh]<;>rfl
def zcv (K:Jl):V->Option Int->Option Int->Hp->VK->Prop:=λx lo hi H Q=>∃ a b,x=.ref a/\SqL K H a b/\∀ p,H p=none->Q (.ref p) (upd H p (.lst (xJ b lo hi)))
theorem wz:SlR X (zcv X.K):=by
  intro pins s σ H x v m l lo hi n Q I e j f pu h;obtain⟨a,c,rfl,i,q⟩:=h;cases e;obtain⟨k,r,d,g⟩:=I.list i;have hlen:=r.length;refine⟨"list",_,slot_list_getitem.lookup,d.isList.typeIs,?_⟩;refine wpAny_getItem_list_slice d.isList j f pu .none (by simp) ?_ (by rw[Jh]<;>simp_all);rw[rP,<- hlen];refine⟨.ref s.heap.objs.size,_,I.laid (t':=s.toks) (o:=.lst (xJ c lo hi)) (λb ob q=>J8 _ q) (Jf _) ?_,rfl,q _ (I.hok.fresh (Jf _))⟩;exact⟨JK (uw c lo hi) g,_,0,(r.drop (HT.sIx c.length 0 lo)).take (HT.sIx c.length c.length hi-HT.sIx c.length 0 lo),Js _ rfl⟩
def wK:V->Bool
  | .non=>true
  | .bl _=>true
  | .int _=>true
  | .str _=>true
  | _=>false
def eqV:V->V->Bool
  | .non,.non=>true
  | .bl a,.bl b=>a == b
  | .bl a,.int b=>(if a then 1 else 0) == b
  | .int a,.bl b=>a == (if b then 1 else 0)
  | .int a,.int b=>a == b
  | .str a,.str b=>a == b
  | _,_=>false
theorem kX {A:YO}{s:JO}{y x:V}{u v:Jo}(e:RelV y u)(c:RelV x v)(g:wK y=true)(f:wK x=true):SeqAt.EqAt A s u v (eqV y x):=by
  cases y with
  | non =>
    cases e
    cases x with
    | non=>cases c;exact SeqAt.EqAt.same _
    | bl b=>cases c;exact SeqAt.EqAt.none_bool b
    | int b=>obtain⟨t,rfl⟩:=c;exact SeqAt.EqAt.none_int b t
    | str b=>obtain⟨t,rfl⟩:=c;exact SeqAt.EqAt.none_str b t
    | _=>exact absurd (show false=true from f) Jm
  | bl a =>
    cases e
    cases x with
    | non=>cases c;exact SeqAt.EqAt.bool_none a
    | bl b=>cases c;exact SeqAt.EqAt.bool_bool a b
    | int b=>obtain⟨t,rfl⟩:=c;exact SeqAt.EqAt.bool_int a b t
    | str b=>obtain⟨t,rfl⟩:=c;exact SeqAt.EqAt.bool_str a b t
    | _=>exact absurd (show false=true from f) Jm
  | int a =>
    obtain⟨d,rfl⟩:=e
    cases x with
    | non=>cases c;exact SeqAt.EqAt.int_none a d
    | bl b=>cases c;exact SeqAt.EqAt.int_bool a d b
    | int b=>obtain⟨t,rfl⟩:=c;exact SeqAt.EqAt.int_int a d b t
    | str b=>obtain⟨t,rfl⟩:=c;exact SeqAt.EqAt.int_str a d b t
    | _=>exact absurd (show false=true from f) Jm
  | str a =>
    obtain⟨d,rfl⟩:=e
    cases x with
    | non=>cases c;exact SeqAt.EqAt.str_none a d
    | bl b=>cases c;exact SeqAt.EqAt.str_bool a d b
    | int b=>obtain⟨t,rfl⟩:=c;exact SeqAt.EqAt.str_int a d b t
    | str b=>obtain⟨t,rfl⟩:=c;exact SeqAt.EqAt.str_str a d b t
    | _=>exact absurd (show false=true from f) Jm
  | _=>exact absurd (show false=true from g) Jm
def eqU (x:V)(u:Jo):Bool:=match u with
  | .none=>eqV .non x
  | .bool b=>eqV (.bl b) x
  | .int i _=>eqV (.int i) x
  | .str z _=>eqV (.str z) x
  | _=>false
theorem bD {x y:V}{u:Jo}(r:RelV y u)(f:wK y=true):eqU x u=eqV y x:=by
  cases y with
  | non=>cases r;rfl
  | bl b=>cases r;rfl
  | int i=>obtain⟨t,rfl⟩:=r;rfl
  | str z=>obtain⟨t,rfl⟩:=r;rfl
  | _=>exact absurd (show false=true from f) Jm
theorem uJ {x:V}:∀ {xs:List V}{us:List Jo},Vals xs us->xs.all wK=true->us.any (eqU x)=xs.any λy=>eqV y x
  | _,_,.nil,_=>rfl
  | y::xs,u::us,.cons r t,f=>by
    rw[List.all_cons,Yx]at f;rw[List.any_cons,List.any_cons,bD r f.1,uJ t f.2]
theorem wo {A:YO}{s:JO}{x:V}{v:Jo}(b:RelV x v)(c:wK x=true):∀ {xs:List V}{us:List Jo},Vals xs us->xs.all wK=true->∀ u∈us,SeqAt.EqAt A s u v (eqU x u)
  | _,_,.nil,_=>λu a=>by cases a
  | y::xs,u::us,.cons r t,f=>λd a=>by
    rw[List.all_cons,Yx]at f;rcases Jr.mp a with rfl|a
    · rw[bD r f.1];exact kX r b f.1 c
    · exact wo b c t f.2 d a
def inV (x:V)(xs:List V):Bool:=xs.any λy=>eqV y x
def rIn (K:Jl)(neg:Bool):R2:=λx y H Q=>∃ p a,y=.ref p/\(SqL K H p a\/SqT K H p a)/\wK x=true/\a.all wK=true/\Q (.bl (if neg then !inV x a else inV x a)) H
theorem uT:OpR X (compareOp .In) (rIn X.K false):=by
  intro pins s σ H x y v u Q I e g h;obtain⟨p,j,rfl,b,f,fs,q⟩:=h;cases g;rcases b with b|b
  · obtain⟨a,r,c,i⟩:=I.list b
    refine SeqAt.in_listAt (eqU x) c.isList (λw d=>wo e f r fs w (by simpa using d)) ⟨.bl _,H,I,rfl,?_⟩;rw[show a.toArray.any (eqU x)=a.any (eqU x) by simp,uJ r fs];exact q
  · obtain⟨a,r,c,i⟩:=I.tuple b
    refine SeqAt.in_tupleAt (eqU x) c (λw d=>wo e f r fs w (by simpa using d)) ⟨.bl _,H,I,rfl,?_⟩;rw[show a.toArray.any (eqU x)=a.any (eqU x) by simp,uJ r fs];exact q
theorem uB:OpR X (compareOp .NotIn) (rIn X.K true):=by
  intro pins s σ H x y v u Q I e g h;obtain⟨p,j,rfl,b,f,fs,q⟩:=h;cases g;rcases b with b|b
  · obtain⟨a,r,c,i⟩:=I.list b
    refine SeqAt.notIn_listAt (eqU x) c.isList (λw d=>wo e f r fs w (by simpa using d)) ⟨.bl _,H,I,rfl,?_⟩;rw[show a.toArray.any (eqU x)=a.any (eqU x) by simp,uJ r fs];exact q
  · obtain⟨a,r,c,i⟩:=I.tuple b
    refine SeqAt.notIn_tupleAt (eqU x) c (λw d=>wo e f r fs w (by simpa using d)) ⟨.bl _,H,I,rfl,?_⟩;rw[show a.toArray.any (eqU x)=a.any (eqU x) by simp,uJ r fs];exact q
theorem zY:CallR X (.builtin "len") (λxs H Q=>∃ p ys,xs=[.ref p]/\(SqL X.K H p ys\/SqT X.K H p ys)/\Q (.int ys.length) H):=by
  intro pins s σ H xs g Q I r h;obtain⟨p,ys,rfl,a,q⟩:=h;obtain⟨u,rfl,e⟩:=vd r;cases e;have i:=sQ;rcases a with a|a
  · obtain⟨d,b,c,f⟩:=I.list a
    have hlen:=b.length;exact Calls.call_len_list c.isList (by simp only[Jh]<;>lia) ⟨.int ys.length,H,I.tok _,⟨s.toks+1,by rw[Jh,hlen]⟩,q⟩
  · obtain⟨d,b,c,f⟩:=I.tuple a
    have hlen:=b.length;exact len_tuple c (by simp only[Jh]<;>grind) ⟨.int ys.length,H,I.tok _,⟨s.toks+1,by rw[Jh,hlen]⟩,q⟩
theorem yY:CallR X (.type "list") (λxs H Q=>∃ p ys,xs=[.ref p]/\(SqL X.K H p ys\/SqT X.K H p ys)/\∀ l,H l=none->Q (.ref l) (upd H l (.lst ys))):=by
  intro pins s σ H xs x Q I r h;obtain⟨p,ys,rfl,i,q⟩:=h;obtain⟨u,rfl,w⟩:=vd r;cases w
  have fin:∀ (a:List Jo),Vals ys a->ys.length<=sizeLine->∀ (c:YP) (f:Nat),(∀ b v,s.heap.get? b=some v->c.get? b=some v) ->
      c.get? s.heap.objs.size=some { cls:=.type "list",dict:=none,data:=.seq a.toArray f,slots:=#[] }->EP X pins σ Q (.ref s.heap.objs.size) { s with heap:=c }:=λa d g c f kp e =>
    ⟨.ref s.heap.objs.size,_,I.laid (t':=s.toks) kp (Jf _) (show ObjOk X.prog X.w _ c _ (.lst ys) from⟨g,a,f,d,e⟩),rfl,q _ (I.hok.fresh (Jf _))⟩
  rcases i with i|i
  · obtain⟨a,d,j,g⟩:=I.list i
    have hlen:=d.length;obtain⟨o,k,t,n,m⟩:=j.isList;exact call_list_seq p (.inl rfl) k t m (λc f kp e=>fin a d g c f kp e) (by simp only[Jh]<;>simp_all)
  · obtain⟨a,d,j,g⟩:=I.tuple i
    have hlen:=d.length;obtain⟨o,k,t,n,m⟩:=j;exact call_list_seq p (.inr rfl) k t m (λc f kp e=>fin a d g c f kp e) (by simp only[Jh]<;>simp_all)
theorem zt:CallR X (.type "tuple") (λxs H Q=>∃ p ys,xs=[.ref p]/\((SqL X.K H p ys/\∀ l,H l=none->Q (.ref l) (upd H l (.tup ys)))\/(SqT X.K H p ys/\Q (.ref p) H))):=by
  intro pins s σ H xs n Q I r h;obtain⟨p,ys,rfl,h⟩:=h;obtain⟨u,rfl,k⟩:=vd r;cases k;rcases h with ⟨g,q⟩|⟨g,q⟩
  · obtain⟨a,d,f,i⟩:=I.list g
    have hlen:=d.length;refine call_tuple_list f.isList (λc kp=>?_) (by simp only[Jh]<;>simp_all);have j:Inv X pins σ H { s with heap:=c }:=I.kept (t':=s.toks) kp
    have m:Inv X pins σ (upd H c.objs.size (.tup ys)) { s with heap:=c.push { cls:=.type "tuple",data:=.seq a.toArray } } :=
      j.laid (t':=s.toks) (λb o e=>J8 _ e) (Jf _) (show ObjOk X.prog X.w _ _ _ (.tup ys) from⟨i,a,d,TupX.new _ _⟩)
    exact⟨.ref c.objs.size,_,m,rfl,q _ (j.hok.fresh (Jf _))⟩
  · obtain⟨a,d,f,i⟩:=I.tuple g
    exact call_tuple_same f ⟨.ref p,H,I,rfl,q⟩
def tyV (K:Jl)(T:String)(x:V)(H:Hp):Prop:=match x with
  | .str _=>T = "str"
  | .int _=>T = "int"
  | .ref p=>(T = "list"/\∃ b,SqL K H p b)\/(T = "tuple"/\∃ o,K.lookup p=some o/\o.cls=.type "tuple"/\o.dict=none) \/
      (T = "dict"/\((∃ a,H p=some (.dK a))\/∃ a,H p=some (.dT a)))\/(T = "set"/\∃ S n,H p=some (.set S n))
  | _=>False
theorem zaq {pins:List (JI × Obj)}{σ:St}{H:Hp}{s:JO}{T:String}{x:V}{v:Jo}(I:Inv X pins σ H s)(r:RelV x v)(ty:tyV X.K T x H) :
    s.TypeIs v T/\∀ a,v=.ref a->∃ ob,s.heap.get? a=some ob/\ob.dict=none:=by
  cases x with
  | str z =>
    obtain⟨t,rfl⟩:=r;cases (show T = "str" from ty)
    exact⟨typeIs_str s z t,λ_ e=>nomatch e⟩
  | int i =>
    obtain⟨t,rfl⟩:=r;cases (show T = "int" from ty)
    exact⟨typeIs_int s i t,λ_ e=>nomatch e⟩
  | ref p =>
    cases r;rcases ty with ⟨rfl,l,h⟩|⟨rfl,o,b,j,d⟩|⟨rfl,b⟩|⟨rfl,S,n,b⟩
    · obtain⟨k,_,g,_⟩:=I.list h
      refine⟨g.isList.typeIs,λa e=>?_⟩;cases e;obtain⟨o,n,e,c,d,_⟩:=g;exact⟨o,e,d⟩
    · refine⟨⟨o,I.kIn p o b,j⟩,λa e=>?_⟩
      cases e;exact⟨o,I.kIn _ o b,d⟩
    · have z:∃ o,s.heap.get? p=some o/\o.ExactDict:=by
        rcases b with ⟨f,b⟩|⟨f,b⟩
        · obtain⟨_,_,_,_,o,_,_,e,ex,_⟩:=I.hok p _ b
          exact⟨o,e,ex⟩
        · obtain⟨_,_,_,_,o,_,_,e,ex,_⟩:=I.hok p _ b
          exact⟨o,e,ex⟩
      obtain⟨o,e,ex⟩:=z;refine⟨⟨o,e,ex.1⟩,λa e2=>?_⟩;cases e2;exact⟨o,e,ex.2.1⟩
    · obtain⟨o,_,_,_,e,ex,_⟩:=I.hok p _ b
      refine⟨⟨o,e,ex.1⟩,λa e2=>?_⟩;cases e2
      exact⟨o,e,ex.2.1⟩
  | _=>exact False.elim ty
def tBM (K:Jl)(T:String)(r:V->List V->Hp->VK->Prop)(to:TE)(t:TA):TE:=λσ H Q=>to σ H λx a=>tyV K T x a/\t σ a λb c=>r x b c Q
variable {o e:Expr}{es:List Expr}{to:TE}{t:TA}{name:Str}{apos cpos:Pos}{T id:String}{r:V->List V->Hp->VK->Prop}
theorem wV (w:PlainAttrs T) (slot:Slot T name id) (f:typeOf (.builtin id)=pure (.type "method_descriptor")) (hm:MtR X id r) (z:PE X o to) (ha:PA X (e::es) t)
    (c:attributeBase o name X.env (eval o X.env)=eval o X.env:=by rfl)
    (d:((backTo cpos (starEach (e::es) X.env)).all (λx=>!x.1) && (backToKw cpos (keywordEach [] X.env)).all (λx=>x.1.isSome)
      && decide ((e::es).length+([]:List Keyword).length+(if ([]:List Keyword).isEmpty then 0 else 1)<30))=true:=by rfl)
    (b:(apos.endLine == cpos.line)=true:=by rfl) (y:starEach (e::es) X.env=(false,eval e X.env)::starEach es X.env:=by rfl) (a:(backTo cpos (starEach es X.env)).any (·.1)=false:=by rfl) :
    PE X (.Call (.Attribute o name apos) (e::es) [] cpos) (tBM X.K T r to t):=by
  intro pins s σ H Q I h;refine wpAny_Call_method_late c d b rfl (thn (z pins s σ H _ I h) λv n ⟨x,E,j,g,ty,u⟩=>?_);obtain⟨B,A⟩:=zaq j g ty;refine⟨T,id,w,slot,f,B,A,?_⟩;have i:=ha cpos pins n σ E _ j u;rw[y]at i ⊢;refine ZZ (by show (false || (backTo cpos (starEach es X.env)).any (·.1))=false;rw[a]<;>rfl) (Calls.evalArgs_plain ?_);exact thn i λl m ⟨k,D,C,p,q⟩=>hm pins m σ D x k v l Q C g p q
end
def MtM (X:Cx)(id:String)(r:V->List V->Hp->VK->Prop):Prop :=
  ∀ (pins:List (JI × Obj)) (s:JO) (σ:St) (H:Hp) (x:V) (a:List V) (v:Jo) (b:List Jo) (Q:VK),Inv X pins σ H s->RelV x v->Vals a b->r x a H Q ->
    wpAny (model X.prog X.w) X.A (call (.builtin id) (v::b)) (EP X pins σ Q) X.xe s
theorem Vals.one:∀ {x:V}{us:List Jo},Vals [x] us->∃ u,us=[u]/\RelV x u
  | _,_,.cons r .nil=>⟨_,rfl,r⟩
theorem Vals.two:∀ {x y:V}{us:List Jo},Vals [x,y] us->∃ u v,us=[u,v]/\RelV x u/\RelV y v
  | _,_,_,.cons r (.cons q .nil)=>⟨_,_,rfl,r,q⟩
theorem Vals.eraseIdx:∀ {xs:List V}{us:List Jo}(i:Nat),Vals xs us->Vals (xs.eraseIdx i) (us.eraseIdx i)
  | _,_,_,.nil=>.nil
  | _,_,0,.cons _ t=>t
  | _,_,i+1,.cons r t=>.cons r (Vals.eraseIdx i t)
theorem Vals.reverse {xs:List V}{us:List Jo}(h:Vals xs us):Vals xs.reverse us.reverse:=by
  induction h with
  | nil=>exact .nil
  | cons r t ih=>rw[List.reverse_cons,List.reverse_cons];exact Vals.append ih (.cons r .nil)
theorem Vals.rep {xs:List V}{us:List Jo}(h:Vals xs us):∀ k:Nat,Vals (List.replicate k xs).flatten (List.replicate k us).flatten
  | 0=>.nil
  | k+1=>by
    rw[Yn,Yn,W0,W0];exact Vals.append h (Vals.rep h k)
theorem qJ {α:Type}:∀ (l:List α) (i:Nat),(l.eraseIdx i).length<=l.length
  | [],_=>Jf _
  | _::_,0=>Nat.le_succ _
  | _::r,i+1=>Nat.succ_le_succ (qJ r i)
theorem qQ (its:List Jo):∀ (k:Nat) (acc:List Jo),
    List.foldl (λb a=>b++a) acc.toArray (List.replicate k its.toArray)=(acc++(List.replicate k its).flatten).toArray
  | 0,acc=>by simp
  | k+1,acc=>by
    have e:acc.toArray++its.toArray=(acc++its).toArray:=by simp
    have e2:(acc++its)++(List.replicate k its).flatten=acc++(List.replicate (k+1) its).flatten:=by
      rw[Yn,W0,JV]
    rw[<- e2,<- qQ its k (acc++its),<- e,Yn,List.foldl_cons]
section
variable {X:Cx}{pins:List (JI × Obj)}{σ:St}{H:Hp}{s:JO}{l:JI}{xs ys:List V}
theorem Inv.lset {its its':List Jo}{n:Nat}{f:Array Jo->Array Jo}{t':Nat}(I:Inv X pins σ H s) (h:H l=some (.lst xs))
    (e:s.heap.get? l=some { cls:=.type "list",data:=.seq its.toArray n }) (d:f its.toArray=its'.toArray) (b:Vals ys its') (a:ys.length<=sizeLine) :
    Inv X pins σ (upd H l (.lst ys)) { s with heap:=s.heap.update l (Obj.mapSeq f),toks:=t' }:=by
  have q:=PySem.IsL.update e f;rw[d]at q;refine I.write (x:=l) (e:=l) (by rw[h];exact trivial) (.inl rfl) (λi u g c=>(Ys s.heap (Obj.mapSeq f) (Ne.symm g)).trans c) ⟨_,q⟩ ?_;exact⟨a,its',_,b,q⟩
theorem Inv.lnew {its:List Jo}{t':Nat}(I:Inv X pins σ H s)(b:Vals ys its)(a:ys.length<=sizeLine) :
    Inv X pins σ (upd H s.heap.objs.size (.lst ys)) { s with heap:=s.heap.push { cls:=.type "list",data:=.seq its.toArray },toks:=t' } :=
  I.laid (λ_ _ q=>J8 _ q) (Jf _) ⟨a,its,0,b,Js _ rfl⟩
theorem Inv.fresh (I:Inv X pins σ H s):H s.heap.objs.size=none:=I.hok.fresh (Jf _)
theorem Inv.lstM (I:Inv X pins σ H s)(a:H l=some (.lst xs)):xs.length<=sizeLine/\∃ (its:List Jo) (n:Nat),Vals xs its/\xs.length=its.length/\s.heap.get? l=some { cls:=.type "list",data:=.seq its.toArray n }:=by
  obtain⟨z,its,n,r,e⟩:=I.hok l _ a;exact⟨z,its,n,r,r.length,e⟩
theorem nL {n:Nat}(h:n<=sizeLine):Builtin.List.listTooLong n=false:=by
  unfold Builtin.List.listTooLong;exact Jn (by simp_all)
end
section
variable {X:Cx}
def rAppend:V->List V->Hp->VK->Prop:=λx b H Q=>∃ l a y,x=.ref l/\b=[y]/\H l=some (.lst a)/\a.length<sizeLine/\Q .non (upd H l (.lst (a++[y])))
theorem yn:MtM X "list.append" rAppend:=by
  intro pins s σ H x i v j Q I c d h;obtain⟨l,g,y,rfl,rfl,b,k,q⟩:=h;cases c;obtain⟨u,rfl,f⟩:=d.one;obtain⟨z,a,n,r,m,e⟩:=I.lstM b;refine Wu F.slot_list_append ⟨_,e,rfl⟩ F.entry_list_append (F.args_list_append_2 _ _) (PySem.list_append l a.toArray n u (by rw[Jh];simp_all)) ⟨e,?_⟩;refine⟨.non,_,I.lset (its':=a++[u]) b e (by simp) (r.append (.cons f .nil)) ?_,rfl,q⟩;rw[Jc,List.length_singleton]
  grind
def rExtend:V->List V->Hp->VK->Prop:=λx d H Q=>∃ l b c a,x=.ref l/\d=[.ref b]/\H l=some (.lst c)/\H b=some (.lst a)/\c.length+a.length<=sizeLine/\Q .non (upd H l (.lst (c++a)))
theorem uU:MtM X "list.extend" rExtend:=by
  intro pins s σ H x B v C Q I i j h;obtain⟨l,b,A,w,rfl,rfl,g,p,D,q⟩:=h;cases i;obtain⟨u,rfl,k⟩:=j.one;cases k;obtain⟨z,c,n,r,E,e⟩:=I.lstM g;obtain⟨y,a,o,m,t,e2⟩:=I.lstM p;have f:c.toArray.size+a.toArray.size<=sizeLine:=by rw[Jh,Jh];simp_all
  have d:¬(!c.toArray.isEmpty && Builtin.List.listTooLong (c.toArray.size+a.toArray.size))=true:=by
    rw[nL f,Bool.and_false];exact Jm
  refine Wu F.slot_list_extend ⟨_,e,rfl⟩ F.entry_list_extend (F.args_list_extend_2 _ _)
    (AutoSeq1.list_extend_list_list_0 l c.toArray n b a.toArray o d (by rw[Jh];simp_all) (by lia)) ⟨e,e2,?_⟩
  refine⟨.non,_,I.lset (its':=c++a) g e (by simp) (r.append m) ?_,rfl,q⟩;rw[Jc];omega
def rPopAt:V->List V->Hp->VK->Prop:=λx b H Q=>∃ l a i k y,x=.ref l/\b=[.int i]/\H l=some (.lst a)/\-(2 ^ 63)<=i/\i<2 ^ 63/\seqIndex? i a.length=some k/\a[k]?=some y/\Q y (upd H l (.lst (a.eraseIdx k)))
theorem cI:MtM X "list.pop" rPopAt:=by
  intro pins s σ H x D v E Q I f g h;obtain⟨l,d,i,k,y,rfl,rfl,c,C,B,A,m,q⟩:=h;cases f;obtain⟨u,rfl,j⟩:=g.one;obtain⟨t,rfl⟩:=j;obtain⟨z,a,n,r,p,e⟩:=I.lstM c;obtain⟨w,o,b⟩:=r.get m
  refine Wu F.slot_list_pop ⟨_,e,rfl⟩ F.entry_list_pop (F.args_list_pop_2 _ _)
    (MeetsSeq.list_pop_at l a.toArray n i t k w (fitsIndex_both C B) (by rw[Jh,<- p];exact A) (by rw[<- Y9];exact o) (by rw[Jh];simp_all)) ⟨e,?_⟩
  refine⟨y,_,I.lset (its':=a.eraseIdx k) c e ?_ (r.eraseIdx k) ?_,b,q⟩
  · show a.toArray.eraseIdxIfInBounds k=(a.eraseIdx k).toArray
    rw[List.eraseIdxIfInBounds_toArray]
  · have:=qJ d k
    lia
def zcB:R2:=λx y H Q=>∃ l b c a,x=.ref l/\y=.ref b/\H l=some (.lst c)/\H b=some (.lst a)/\c.length+a.length<=sizeLine/\∀ p,H p=none->Q (.ref p) (upd H p (.lst (c++a)))
theorem wA:OpR X (binaryOp .Add) zcB:=by
  intro pins s σ H x y v u Q I f d h;obtain⟨l,b,t,o,rfl,rfl,i,j,A,q⟩:=h;cases f;cases d;obtain⟨z,c,n,r,B,e⟩:=I.lstM i;obtain⟨p,a,w,g,m,e2⟩:=I.lstM j;refine PySem.P.add_list e e2 ?_ (by rw[Jh,Jh];simp_all);have k:c.toArray++a.toArray=(c++a).toArray:=by simp
  rw[k];exact⟨.ref _,_,I.lnew (t':=s.toks) (r.append g) (by rw[Jc];omega),rfl,q _ I.fresh⟩
def zcw:R2:=λx y H Q=>∃ l k a,x=.ref l/\y=.int k/\H l=some (.lst a)/\-(2 ^ 63)<=k/\k<2 ^ 63/\a.length*k.toNat<=sizeLine /\
  ∀ p,H p=none->Q (.ref p) (upd H p (.lst (List.replicate k.toNat a).flatten))
theorem af {α:Type}(xs:List α)(k:Nat):(List.replicate k xs).flatten.length=k*xs.length:=by
  induction k with
  | zero=>simp
  | succ k ih=>rw[Yn,W0,Jc,ih,Nat.succ_mul,Nat.add_comm]
theorem dc:OpR X (binaryOp .Mult) zcw:=by
  intro pins s σ H x y v u Q I A w h;obtain⟨l,k,J,rfl,rfl,C,E,D,o,q⟩:=h;cases A;obtain⟨t,rfl⟩:=w;obtain⟨z,b,n,r,B,e⟩:=I.lstM C;have hlen:b.toArray.size*k.toNat<=sizeLine:=by rw[Jh,<- B];exact o
  have g:¬ b.toArray.size*k.toNat > (2 ^ 63-1) / 8:=by
    have:(sizeLine:Nat)<=(2 ^ 63-1) / 8:=by decide
    lia
  have f:¬(!Builtin.List.listFitsIndex k)=true:=by
    rw[fitsIndex_both E D];exact Jm
  have c:¬ Builtin.List.listTooLong (b.toArray.size*k.toNat)=true:=by
    rw[nL hlen];exact Jm
  have d:List.foldl (λj i=>j++i) #[] (List.replicate (if b.toArray.isEmpty=true then 0 else k.toNat) b.toArray)=(List.replicate k.toNat b).flatten.toArray:=by
    have G:∀ m:Nat,List.foldl (λj i=>j++i) #[] (List.replicate m b.toArray)=(List.replicate m b).flatten.toArray:=λm=>by
      have:=qQ b m [];rw[Wi]at this;exact this
    rw[G]
    cases b with
    | nil=>simp
    | cons a K=>rw[Jg (by simp)]
  refine wpAny_binaryOp_repeat_ref (T:="list") (U:="int") (by decide) ⟨_,e,rfl⟩ (λp=>typeIs_int p k t) noFill_list_mul F.fills_int_mul F.slot_int_rmul repeat_list F.slot_int_index.lookup
    (Wu F.slot_int_rmul (typeIs_int s k t) F.entry_int_rmul (F.args_int_rmul_2 _ _) (int___rmul___int_list k t l b.toArray n)
      ⟨e,rfl,⟨_,e,rfl⟩,Wu F.slot_list_mul ⟨_,e,rfl⟩ F.entry_list_mul (F.args_list_mul_2 _ _) (AutoListH.list___mul___list_int_3 l b.toArray n k t f g c) ⟨e,?_⟩⟩)
  rw[d];exact⟨.ref _,_,I.lnew (t':=s.toks) (r.rep k.toNat) (by rw[af,Nat.mul_comm];exact o),rfl,q _ I.fresh⟩
end
end L2
namespace Att
open PySem PySem.W PySem.Calls PyProof.Rows
theorem tF {P:Params}{h:YP}:∀ (ns:List Int) (vs:List Jo),WellAll P h vs (ns.map WData.int)->IntsAre vs ns:=by
  intro ns
  induction ns with
  | nil =>
    intro vs w;rw[List.map_nil]at w;cases w
    exact .nil
  | cons n ns ih =>
    intro vs w;rw[JY]at w
    cases w with
    | cons a b =>
      cases a;exact .cons _ _ (ih _ b)
theorem iG {l:OpenLaw}{n:Nat}(hn:l.most=some n){P:Params}{h:YP}{args:List WData}{vals:List Jo}(b:l.row.toRowW.claim.pre args=true)(g:WellAll P h vals args) :
    ∃ a vs ns,vals=[Value.ref a]/\args=[WData.list (ns.map WData.int)]/\h.get? a=some { cls:=.type "list",data:=.seq vs.toArray }/\IntsAre vs ns/\ns.length<=n:=by
  have i:WShape.hasAll [] args [.list .int]=true:=(pre_splitW b).1;have j:l.pre.holds [] { args:=args }=true:=(pre_splitW b).2;obtain⟨d,r,rfl,u,t⟩:=hasAllW_cons i;obtain rfl:=hasAllW_nil t;obtain⟨v,rfl,s⟩:=hasW_list u;obtain⟨ns,rfl⟩:=items_int s
  have hlen:ns.length<=n:=by
    unfold OpenLaw.pre at j
    have f:(WTm.not (.lt (.lit (.int (n:Int))) (.len (.arg 0)))).holds [] { args:=[.list (ns.map .int)] }=true:=by
      have f:=(holds_andW j).1;rw[hn]at f;exact f
    have e:=condW_of f (w_not (w_lt w_lit (w_len_list (w_arg rfl))));rw[Je]at e;refine Nat.le_of_not_lt λq=>?_;have o:(n:Int)<((ns.length:Nat):Int):=by simp_all
    first
      | (rw[Jw o]at e;exact absurd e (by decide))
      | (simp at e;omega)
  cases g with
  | cons m k =>
    cases k
    cases m with
    | list p c=>exact⟨_,_,ns,rfl,rfl,p,tF ns _ c,hlen⟩
theorem iL (l:OpenLaw)(args:List WData):l.row.toRowW.claim.post args (.bool true) args=true :=
  postW_of (r:=l.row.toRowW) (X:=(true == true))
    (show WShape.has [] (.bool true) .bool=true by first|rfl|decide|simp[WShape.has,WShape.arms,WShape.armsAll])
    (show (WTm.eq .res (.lit (.bool true))).value [] { args:=args,res:=some (.bool true),after:=args }=some (.bool (true == true)) from w_eq_bool (w_res rfl) w_lit) rfl
theorem attach_call {l:OpenLaw}{n:Nat}{q:Yo}{loose:List Str}{t:(Str->Option Jo)->YP->Prop}{s:YI->YP->Prop}{d:DefRec}
    (hn:l.most=some n) (k:d.params.defaults=[])
    (call:∀ (w:YI) (s₀ b:JO) (mg mb:Str->Option Jo) (c:JI) (o:Obj) (pm cd doc:Jo) (a:JI) (vs:List Jo) (ns:List Int),
      Ground q loose [] t w s₀ mg mb b.heap->s w b.heap ->
      b.heap.get? c=some o->o.data=.func (docDef d.name d.params d.body d.scope pm cd doc)->b.heap.CodeRec cd d.name->mg d.name=some (.ref c) ->
      b.heap.get? a=some { cls:=.type "list",data:=.seq vs.toArray }->IntsAre vs ns->ns.length<=n->b.gens = #[] ->
      codeAny (model l.prog w) callerA (.call (.ref c) ⟨[.ref a],[]⟩) (λr h=>r=.ok (.ret (.bool true))/\OldK b.heap h.heap/\h.os=b.os/\AllBare h.gens) b) :
    WalkO q loose t s l.row.toRowW d [] (λf vs=>PySem.call f vs):=by
  intro w s₀ b mg mb G Y c o pm cd doc E kV x A m p j z args vals as e u F i H;obtain rfl:E=.none:=Dflts.none p k;obtain rfl:kV=.none:=Dflts.noKw p;obtain⟨a,vs,ns,rfl,rfl,g,hints,hlen⟩:=iG hn e i;refine enter_call (codeAny_mono (call w s₀ b mg mb c o pm cd doc a vs ns G Y x (fd_plain A) m j g hints hlen z) λr h v=>?_);obtain⟨rfl,D,C,B⟩:=v;exact⟨.inl ⟨.bool true,.bool true,[],rfl,λ_=>rfl,.bool true,iL l _,λ_=>⟨List.Pairwise.nil,λ_ y=>(nomatch y)⟩⟩,D,C,B⟩
section
def zcE (h:YP)(L d:JI):List (JI × Obj):=(List.range h.objs.size).filterMap λa=>if a=L\/a=d then none else (h.get? a).map λo=>(a,o)
end
end Att
namespace L2
open PySem PySem.Spec PyProof.Rows
theorem rZ:∀ {vs:List Jo}{ns:List Int},IntsAre vs ns->Vals (ns.map V.int) vs
  | _,_,.nil=>.nil
  | _,_,.cons n t h=>.cons ⟨t,rfl⟩ (rZ h)
abbrev KOf {K:Jl}{h:YP}(_:K.In h):Jl:=K
def xX (s:Stmt):Arguments:=match s with
  | .FunctionDef _ a _ _ _ _ _ _ _ _=>a
  | _=>{ posonlyargs:=[],args:=[],vararg:=none,kwonlyargs:=[],kw_defaults:=[],kwarg:=none,defaults:=[] }
def yx (s:Stmt):List Stmt:=match s with
  | .FunctionDef _ _ b _ _ _ _ _ _ _=>b
  | _=>[]
def zN (s:Stmt):Scope:=match s with
  | .FunctionDef _ _ _ _ _ _ sc _ _ _=>sc
  | _=>{ kind:=.function,names:=[],isGenerator:=false,isCoroutine:=false }
abbrev CX0:CXT:=λ_ _ _ _ _ _=>False
abbrev E0:XK:=λ_ _ _=>False
theorem jC {X:Cx}:Passes CX0 X E0:=λ_ _ _ _ _ _ _ h=>h.elim
structure Fun (K:Jl) (x qual:Str) (st:Stmt) (f:JI) (fd:Yl):Prop where
  ex:∃ (oc:Jo) (od:Option JI) (kV doc pm:Jo) (an:Option JI) (cdv ct:Jo) (osl:Array (Option Jo)),
    fd=PySem.W.fnOf x qual (xX st) (yx st) (zN st) .none kV doc pm an cdv ct/\K.lookup f=some ⟨oc,od,.func fd,osl⟩/\PySem.W.codeIn K cdv qual=true
  kp:PySem.W.keepIn K (.ref f)=true
section
variable {P:Yo}{w:YI}{K:Jl}{mg:Str->Option Jo}{base:YP}
theorem Fun.ok {x qual:Str}{st:Stmt}{f:JI}{fd:Yl}{N ps:List Str}{k:Nat}{sp:Sp}(F:Fun K x qual st f fd)(S:FnScope N ps (zN st))(len:∀ vs H Q E,sp vs H Q E->vs.length=ps.length)(a:∀ (cdv:Jo) (A:YO) (outer:List Env) (s:JO) (H:Hp) (vs:List V) (Q:VK) (E:XK),Room k (A.deeper (envOfC qual (zN st) s.heap.objs.size f cdv))->sp vs H Q E ->
      ∃ t,PSs (mB CX0 P w K mg base N qual (zN st) f cdv A outer s H E).nox (yx st) t/\t { nx:=λ_ g=>Q .non g,rt:=Q } (vI N vs) H):FnOk P w K mg base CX0 (k+1) f fd ps sp:=by
  obtain⟨l,j,kV,doc,pm,an,cdv,m,i,rfl,d,c⟩:=F.ex;refine zam d c S len λA outer s H vs Q E e b=>?_;obtain⟨t,h,q⟩:=a cdv A outer s H vs Q E e b;exact⟨t,h.nox,q⟩
theorem Fun.binds {x qual:Str}{st:Stmt}{f:JI}{fd:Yl}{ps:List Str}(F:Fun K x qual st f fd)(h:∀ (kV doc pm:Jo) (an:Option JI) (cdv ct:Jo) (us:List Jo),us.length=ps.length->bindArgs (PySem.W.fnOf x qual (xX st) (yx st) (zN st) .none kV doc pm an cdv ct) ⟨us,[]⟩=pure (ps.zip us)):Binds K fd ps []:=by
  obtain⟨d,c,kV,doc,pm,an,cdv,ct,a,rfl,e,b⟩:=F.ex;exact .all (h kV doc pm an cdv ct)
theorem zbh {x qual:Str}{st:Stmt}{f:JI}{oc:Jo}{od an:Option JI}{osl:Array (Option Jo)}{kV doc pm cdv ct:Jo}(l:K.lookup f=some ⟨oc,od,.func (PySem.W.fnOf x qual (xX st) (yx st) (zN st) .none kV doc pm an cdv ct),osl⟩)(c:PySem.W.codeIn K cdv qual=true)(k:PySem.W.keepIn K (.ref f)=true):Fun K x qual st f (PySem.W.fnOf x qual (xX st) (yx st) (zN st) .none kV doc pm an cdv ct):=⟨⟨oc,od,kV,doc,pm,an,cdv,ct,osl,rfl,l,c⟩,k⟩
end
section
variable {X:Cx}
theorem pv (i:Nat) {x:Str}{pos:Pos}(d:X.N[i]?=some x:=by rfl) (b:Vis X.env.scope x:=by first|exact Or.inl rfl|exact Or.inr (.inl rfl)|exact Or.inr (.inr rfl)) (c:(x == ("__debug__":Str))=false:=by decide)
    (a:(x == ("__classdict__":Str))=false:=by decide):PE X (.Name x pos) (fH i):=dH d b c a
theorem qv (i:Nat) {x:Str}{pos:Pos}(h:X.N[i]?=some x/\Vis X.env.scope x/\(x == ("__debug__":Str))=false/\(x == ("__classdict__":Str))=false):PE X (.Name x pos) (fH i):=dH h.1 h.2.1 h.2.2.1 h.2.2.2
end
theorem yF {A B:Prop}(h:B):if false=true then A else B:=by
  rw[Jg Jm];exact h
theorem yZ {A B:Prop}(h:A):if true=true then A else B:=by
  rw[Jj rfl];exact h
theorem pi {c A B:Prop}[Decidable c](b:c->A)(a:¬ c->B):if c then A else B:=by
  by_cases h:c
  · rw[Jj h]
    exact b h
  · rw[Jg h]
    exact a h
def Same (H H':Hp):Prop:=∀ b o,H b=some o->H' b=some o
theorem Same.refl (H:Hp):Same H H:=λ_ _ h=>h
theorem Same.trans {H e d:Hp}(a:Same H e)(b:Same e d):Same H d:=λc o h=>b c o (a c o h)
end L2
set_option maxHeartbeats 4000001
namespace L2
open PySem PySem.Spec PyProof.Rows
def va (cells:List (Str × JI)):List (Str × NameKind)->List (Str × JI)->List (Str × JI)
 | [],cs=>cs
 | (n,k)::r,cs=>if k == .free then va cells r ((n,(cells.lookup n).getD 0)::cs) else va cells r cs
theorem rJ {env:Env}:∀ (names:List (Str × NameKind)) (cs:List (Str × JI)),(∀ y∈names,y.2=.free->∃ c,env.cells.lookup y.1=some c) ->
  (forIn names cs λx r=>match x with|(name,kind)=>if (kind == NameKind.free)=true then (do let a <- cellOf env name;pure (ForInStep.yield ((name,a)::r))) else pure (ForInStep.yield r):Sem (List (Str × JI)))=pure (va env.cells names cs)
 | [],cs,_=>rfl
 | (n,k)::r,cs,h=>by
  rw[Z2];by_cases e:(k == NameKind.free)=true
  ·obtain⟨c,g⟩:=h (n,k) JM (by simpa using e)
   have d:cellOf env n=pure c:=by
    have b:env.cells.lookup n=some c:=g;unfold cellOf;rw[b]
   simp only[e,YV,d,pure_bind];rw[rJ r _ λy f=>h y (JH _ f)];have b:env.cells.lookup n=some c:=g;show _=pure (if (k == NameKind.free)=true then _ else _);rw[Jj e,b];rfl
  ·have i:(k == NameKind.free)=false:=by simpa using e
   simp only[i,Yw,Zw,pure_bind];rw[rJ r _ λy f=>h y (JH _ f)];show _=pure (if (k == NameKind.free)=true then _ else _);rw[Jg e]
theorem rG {scope:Scope}{env:Env}(h:∀ y∈scope.names,y.2=.free->∃ c,env.cells.lookup y.1=some c):closureFor scope env=pure (va env.cells scope.names []):=by
 unfold closureFor;show (forIn scope.names [] _ >>= λr=>pure r)=_;rw[bind_pure];exact rJ _ _ h
theorem uH {cells:List (Str × JI)}:∀ (names:List (Str × NameKind)) (cs:List (Str × JI)) (x:Str) (c:JI),(∀ y∈names,y.2=.free->∃ c,cells.lookup y.1=some c) ->
  (∀ x c,cs.lookup x=some c->cells.lookup x=some c)->(va cells names cs).lookup x=some c->cells.lookup x=some c
 | [],cs,x,c,_,f,e=>f x c e
 | (n,k)::r,cs,x,c,h,f,e=>by
  unfold va at e;by_cases q:(k == NameKind.free)=true
  ·rw[Jj q]at e
   obtain⟨c0,l⟩:=h (n,k) JM (by simpa using q);refine uH r _ x c (λy g=>h y (JH _ g)) (λd m a=>?_) e;rw[Yy]at a
   cases i:d == n with
   | true =>
    rw[i]at a;have j:d=n:=by simpa using i
    subst j;have b:cells.lookup d=some c0:=l;rw[b]at a ⊢
    exact a
   | false =>
    rw[i]at a;exact f d m a
  ·rw[Jg q]at e
   exact uH r _ x c (λy g=>h y (JH _ g)) f e
theorem ue {cells:List (Str × JI)}:∀ (names:List (Str × NameKind)) (cs:List (Str × JI)) (x:Str),(∃ c,cs.lookup x=some c)->∃ c,(va cells names cs).lookup x=some c
 | [],cs,x,e=>e
 | (n,k)::r,cs,x,e=>by
  unfold va;by_cases q:(k == NameKind.free)=true
  ·rw[Jj q]
   refine ue r _ x ?_;rw[Yy]
   cases a:x == n with
   | true=>exact⟨_,rfl⟩
   | false=>exact e
  ·rw[Jg q]
   exact ue r _ x e
theorem wN {cells:List (Str × JI)}:∀ (names:List (Str × NameKind)) (cs:List (Str × JI)) (x:Str),names.lookup x=some .free->∃ c,(va cells names cs).lookup x=some c
 | [],cs,x,e=>by simp at e
 | (n,k)::r,cs,x,e=>by
  rw[Yy]at e;unfold va
  cases a:x == n with
  | true =>
   rw[a]at e;have b:k=.free:=Jq e;subst b;rw[Jj (by decide)];refine ue r _ x ?_;rw[Yy,a]
   exact⟨_,rfl⟩
  | false =>
   rw[a]at e;by_cases q:(k == NameKind.free)=true
   ·rw[Jj q];exact wN r _ x e
   ·rw[Jg q];exact wN r _ x e
def bU (env:Env)(p:Str × NameKind):Bool:=p.2 == .free && env.scope.kind == .function && env.kindOf p.1 == some .cell
def vD (env:Env)(p:Str × NameKind):Str × NameKind:=if bU env p=true then (p.1,.cell) else p
theorem uo (env:Env)(p:Str × NameKind):(vD env p).1=p.1:=by unfold vD;split<;>rfl
theorem um (env:Env)(p:Str × NameKind):(vD env p).2=p.2\/((vD env p).2=.cell/\p.2=.free):=by
 unfold vD;split
 ·rename_i h
  refine .inr ⟨rfl,?_⟩;unfold bU at h;cases e:p.2<;>simp[e]at h<;>rfl
 ·exact .inl rfl
theorem vJ (scope:Scope)(env:Env):(relabel scope env).names=scope.names.map (vD env):=rfl
theorem sP {f:Str × NameKind->Str × NameKind}(a:∀ p,(f p).1=p.1):∀ (l:List (Str × NameKind)) (x:Str),(l.map f).lookup x=none/\l.lookup x=none\/∃ p∈l,(l.map f).lookup x=some (f p).2/\l.lookup x=some p.2
 | [],_=>.inl ⟨rfl,rfl⟩
 | p::r,x=>by
  have c:((p::r).map f).lookup x=if x == p.1 then some (f p).2 else (r.map f).lookup x:=by
   show List.lookup x (((f p).1,(f p).2)::r.map f)=_;rw[Yy,a p];cases x == p.1<;>rfl
  have e2:(p::r).lookup x=if x == p.1 then some p.2 else r.lookup x:=by
   show List.lookup x ((p.1,p.2)::r)=_;rw[Yy];cases x == p.1<;>rfl
  rw[c,e2];cases x == p.1
  ·rcases sP a r x with z|⟨q,b,z⟩
   ·exact .inl z
   ·exact .inr ⟨q,JH _ b,z⟩
  ·exact .inr ⟨p,JM,rfl,rfl⟩
theorem xW {scope:Scope}{env:Env}{x:Str}{a:NameKind}(h:(relabel scope env).names.lookup x=some a):scope.names.lookup x=some a\/(a=.cell/\scope.names.lookup x=some .free):=by
 rw[vJ]at h;rcases sP (uo env) scope.names x with ⟨z,_⟩|⟨p,_,z,e⟩
 ·rw[z]at h;cases h
 ·rw[z]at h
  obtain rfl:=Jq h;rcases um env p with q|⟨q,b⟩
  ·rw[q];exact .inl e
  ·exact .inr ⟨q,by rw[e,b]⟩
theorem vq {scope:Scope}{env:Env}{x:Str}(h:scope.names.lookup x=some .free):(relabel scope env).names.lookup x=some .cell\/(relabel scope env).names.lookup x=some .free:=by
 rw[vJ];rcases sP (uo env) scope.names x with ⟨_,z⟩|⟨p,_,z,e⟩
 ·rw[z]at h;cases h
 ·rw[e]at h
  rcases um env p with q|⟨q,_⟩
  ·rw[z,q,h];exact .inr rfl
  ·rw[z,q];exact .inl rfl
def ya (X:Cx)(N':List Str)(scope:Scope)(C:JI)(s₀:JO)(H₀:Hp)(fp:List JI)(pins:List (JI × Obj)):Cx :=
 { X with N:=N',s₀:=s₀,H₀:=H₀,env:=compEnvC scope (va X.env.cells scope.names []) C X.env,outer:=X.stack,stack:=X.stack,ex:=fp,fn:=λ_=>false,pn:=X.pn++pins,xe:=λ_ _=>False }
def gX (cap:List (Option Nat))(σ:St):St:=cap.map λo=>match o with|some i=>(match σ[i]? with|some v=>v|none=>none)|none=>none
def tst (M:Model)(A:YO)(env:Env)(E:Jo->JO->Prop)(o:Option Expr)(Q:Bool->JO->Prop)(s:JO):Prop:=match o with
 | none=>Q true s
 | some c=>wpAny M A (isTrue c env (eval c env)) Q E s
theorem oS {M:Model}{A:YO}{env:Env}{E:Jo->JO->Prop}{o:Option Expr}{Q a:Bool->JO->Prop}{s:JO}(h:tst M A env E o Q s)(k:∀ b z,Q b z->a b z):tst M A env E o a s:=by
 cases o with
 | none=>exact k _ _ h
 | some c=>exact thn h k
def PTo (X:Cx)(o:Option Expr)(t:TT):Prop :=
 ∀ (pins:List (JI × Obj)) (s:JO) (σ:St) (H:Hp) (Q:Bool->Hp->Prop),Inv X pins σ H s->t σ H Q->tst (model X.prog X.w) X.A X.env X.xe o (TP X pins σ Q) s
def mU:TT:=λ_ H Q=>Q true H
theorem xG {X:Cx}:PTo X none mU:=λ_ _ _ H _ I h=>⟨H,I,h⟩
theorem bv {X:Cx}{c:Expr}{t:TT}(h:PT X c t):PTo X (some c) t:=λpins s σ H Q I a=>h pins s σ H Q I a
abbrev NoX:Jo->JO->Prop:=λ_ _=>False
def Go (M:Model)(A:YO)(tg elt:Expr)(o:Option Expr)(it acc:Jo)(env:Env)(R:Result->JO->Prop)(g:JO->Prop)(s:JO):Prop :=
 wpAny M A (pyNext it) (λr a=>match r with
  | none=>R (.ok .next) a
  | some v=>wpAny M A (letOwnedTupleGo tg it v) (λ_ b=>wpAny M A (assign tg env v) (λ_ c=>tst M A env NoX o (λyes d =>
    if yes=true then wpAny M A (eval elt env) (λx e=>wpAny M A (call (.builtin "list.append") [acc,x]) (λ_ f=>g f) NoX e) NoX d else g d) c) NoX b) NoX a) NoX s
theorem gR {prog:Yo}{w:YI}{A:YO}{R:Result->JO->Prop}{s:JO}{elt tg iter:Expr}{o:Option Expr}{scope:Scope}{pos:Pos}{it acc:Jo}{env:Env}(J:Nat->JO->Prop)(turn:∀ n s,J n s->Go (model prog w) A tg elt o it acc env R (λz=>∃ m,m<n/\J m z) s)(n:Nat)(h:J n s) :
  codeAny (model prog w) A (.compLoop (.ListComp elt [⟨tg,iter,o.toList,0⟩] scope pos) 0 it acc env) R s:=by
 cases o with
 | none =>
  refine PySem.W.kcp_loop J (λn a l=>JU (turn n a l) (λr b g=>?_) λ_ _ z=>z.elim) n h
  cases r with
  | none=>exact g
  | some v=>exact JU g (λ_ c k=>JU k (λ_ d j=>JU (show wpAny _ _ _ _ _ d from j) (λx e i=>JU i (λ_ _ q=>q) λ_ _ z=>z.elim) λ_ _ z=>z.elim) λ_ _ z=>z.elim) λ_ _ z=>z.elim
 | some t =>
  refine PySem.W.kct_loop J (λn a l=>JU (turn n a l) (λr b g=>?_) λ_ _ z=>z.elim) n h
  cases r with
  | none=>exact g
  | some v =>
   refine JU g (λ_ c k=>JU k (λ_ d j=>JU (show wpAny _ _ _ _ _ d from j) (λyes e i=>?_) λ_ _ z=>z.elim) λ_ _ z=>z.elim) λ_ _ z=>z.elim;cases yes
   ·exact i
   ·exact JU (show wpAny _ _ _ _ _ e from i) (λx f p=>JU p (λ_ _ q=>q) λ_ _ z=>z.elim) λ_ _ z=>z.elim
structure CapOk (N N':List Str) (sc scope:Scope) (cap:List (Option Nat)):Prop where
 kind:scope.kind=.function
 nocell:∀ y∈scope.names,y.2≠.cell
 names:∀ y∈scope.names,y.2=.local -> scope.names.lookup y.1=some .local
 free:∀ y∈scope.names,y.2=.free->sc.names.lookup y.1=some .cell\/sc.names.lookup y.1=some .free
 len:cap.length=N'.length
 cap:∀ p∈N'.zip cap,∀ i,p.2=some i->N[i]?=some p.1/\scope.names.lookup p.1=some .free/\(sc.names.lookup p.1=some .cell\/sc.names.lookup p.1=some .free)
theorem vX {α:Type}:∀ {l:List (Str × α)}{x:Str}{a:α},l.lookup x=some a->(x,a)∈l
 | [],_,_,h=>by simp at h
 | (n,k)::r,x,a,h=>by
  rw[Yy]at h
  cases b:x == n with
  | true =>
   rw[b]at h;have e:k=a:=Jq h;have e2:x=n:=by simpa using b
   subst e e2
   exact JM
  | false=>rw[b]at h;exact JH _ (vX h)
def LCW (J:It)(g:TG)(tt:TT)(k:TE)(l:JI)(Q:VK)(W:Nat->Nat->List V->St->Hp->Prop):Prop :=
 ∀ i m acc e c,W i m acc e c->c l=some (.lst acc) /\
  ((J.stop i c/\Q (.ref l) c)\/(J.go i c/\∀ x j,J.yld i c x j->g x e j λa n=>tt a n λb h =>
   if b=true then k a h λy f=>f l=some (.lst acc)/\acc.length<sizeLine/\∃ d,d<m/\W (i+1) d (acc++[y]) a (upd f l (.lst (acc++[y])))
   else ∃ d,d<m/\W (i+1) d acc a h))
def tLC (cap:List (Option Nat))(b:TI)(g:TG)(tt:TT)(c:TE):TE:=λσ H Q=>b σ H λJ a=>∀ l,a l=none ->
 ∃ W:Nat->Nat->List V->St->Hp->Prop,(∃ m,W 0 m [] (gX cap σ) (upd a l (.lst [])))/\LCW J g tt c l Q W
theorem jU {X:Cx}{elt tg iter:Expr}{o:Option Expr}{scope:Scope}{pos a0:Pos}{wi:TI}{g:TG}{tt:TT}{te:TE}{N':List Str}{cap:List (Option Nat)}{use:Option (Jo->Sem Unit)}{Q0:Jo->JO->Prop}(hc:X.calm=true)(hi:PI X tg iter wi)(P:CapOk X.N N' X.env.scope scope cap)(hg:∀ C s₀ H₀ fp pins,PG (ya X N' scope C s₀ H₀ fp pins) tg g)(ht:∀ C s₀ H₀ fp pins,PTo (ya X N' scope C s₀ H₀ fp pins) o tt)(he:∀ C s₀ H₀ fp pins,PE (ya X N' scope C s₀ H₀ fp pins) elt te)(hs:∀ x,foldedSetIterable iter X.env x=pure x){pins:List (JI × Obj)}{s:JO}{σ:St}{H:Hp}{Q:VK}(I:Inv X pins σ H s)(h:tLC cap wi g tt te σ H Q)(fin:∀ (l C:JI) (O:Hp) (U:JO) (m:Str->Option Jo),Inv X pins σ O U->Q (.ref l) O->U.heap.Ns C m->FpOk X pins O C->compPost (model X.prog X.w) X.A X.xe use Q0 (.ref l) C (.ok .next) U) :
  wpAny (model X.prog X.w) X.A (comprehension (.ListComp elt [⟨tg,iter,o.toList,0⟩] scope pos) scope X.env a0 (newList []) false (eval iter X.env) use) Q0 X.xe s:=by
 have F:∀ y∈scope.names,y.2=.free->∃ c,X.env.cells.lookup y.1=some c:=λy hy hf=>I.ok.has y.1 (P.free y hy hf);refine wpAny_comprehension_free (use:=use) rfl hs (rG F) P.kind P.names (thn (hi pins s σ H _ I h) λv s1 h1=>thn h1 λcn A h2=>?_);obtain⟨it,fp,tn,J,H2,e,I2,T,a6,N,body⟩:=h2;subst e;have a4:H2 A.heap.objs.size=none:=I2.hok.fresh (Jf _);obtain⟨W,⟨m0,w0⟩,turn⟩:=body A.heap.objs.size a4;have k:Inv X pins σ (upd H2 A.heap.objs.size (.lst [])) { A with heap:=A.heap.push { cls:=.type "list",data:=.seq ([]:List Jo).toArray },toks:=A.toks }:=I2.lnew (its:=[]) (t':=A.toks) .nil (JN _);refine JJ (wpAny_newFunctionEnv P.nocell (by intro y hy;simp at hy) (λw E D=>?_) P.kind);dsimp only at E D ⊢;generalize hl:A.heap.objs.size=l at *;generalize hP:A.heap.push { cls:=.type "list",dict:=none,data:=.seq ([]:List Jo).toArray }=P2 at *;generalize b3:upd H2 l (.lst [])=H3 at *;have old:∀ b o,P2.get? b=some o->w.get? b=some o:=λb o e=>D.extBut b o (JD (Jp e)) (J8 _ e);have a3:∀ b o,A.heap.get? b=some o->P2.get? b=some o:=λb o e=>hP ▸ J8 _ e
 have bc:∀ b∈fp,b<l:=λb a=>by
  obtain⟨o,e,_⟩:=T.obj _ _ a6 b a;rw[<- hl];exact Jp e
 have b5:∀ b∈fp,H3 b=none:=λb a=>by
  rw[<- b3,zK (JD (bc b a))];exact(N b a).1
 have b2:P2.objs.size=l+1:=by rw[<- hP,YW,hl]
 have t:∀ x c,(va X.env.cells scope.names []).lookup x=some c->X.env.cells.lookup x=some c:=λx c e=>uH _ _ x c F (λ_ _ z=>by simp at z) e;generalize a8:({ A with heap:=P2,toks:=A.toks }:JO)=s3 at *;have f:s3.heap=P2:=by rw[<- a8]
 let Y:=ya X N' scope P2.objs.size s3 H3 fp pins
 have B:Y.Ok:=by
  refine⟨k.ok.mod,P.kind,k.ok.glob,k.ok.blt,by show s3.heap.objs.size<=P2.objs.size;rw[f];exact Jf _,λx y c e1 e2=>k.ok.inj x y c (t x c e1) (t y c e2),λx Z=>?_,λx c Z=>absurd (show false=true from Z) Jm,k.ok.hd,k.ok.frames,.inl rfl,λb a=>⟨?_,λx c e=>?_⟩,k.bs,
   JK k.ok.bsz k.sz,λb o e a=>?_,λb a hz=>?_,k.stack,k.stkFree⟩
  ·have bu:scope.names.lookup x=some .free:=by
    rcases Z with Z|Z
    ·rcases xW Z with z|z
     ·exact absurd rfl (P.nocell _ (vX z))
     ·exact z.2
    ·rcases xW Z with z|z
     ·exact z
     ·exact z.2
   exact wN _ _ x bu
  ·exact JD (by show b<P2.objs.size;rw[b2];exact W5 (bc b a))
  ·exact(N b a).2.2.2.2.1 x c (t x c e)
  ·rcases (N b a).2.2.2.1 with z|z
   ·exact k.ok.noex b o e z
   ·exact absurd (JL (Jp e) (JK k.ok.bsz z)) (YG _)
  ·rcases Jr.mp (k.stkSub b hz) with z|z
   ·exact(N b a).2.1 z
   ·exact(N b a).2.2.1 z
 have b1:Inv Y [] (gX cap σ) H3 { A with heap:=w,toks:=A.toks }:=by
  refine⟨B,by show A.os=s3.os;rw[<- a8],I2.bare,by show Un _ _ _ _ s3.heap w;rw[f];exact Un.kept old,⟨_,E,λj x v e1 e2 e3=>?_⟩,λx c e=>?_,?_,λx c e=>k.freeC x c (t x c e),λp hp=>?_,λb o e=>?_,?_⟩
  ·have b8:N'[j]?=some x:=e1
   unfold gX at e2;rw[JG]at e2
   cases ec:cap[j]? with
   | none=>rw[ec]at e2;cases e2
   | some oc =>
    rw[ec]at e2
    cases oc with
    | none=>cases e2
    | some i =>
     have b6:σ[i]?=some (some v):=by
      cases ei:σ[i]? with
      | none=>simp[ei]at e2
      | some v' =>
       simp[ei]at e2;rw[e2]
     have hz:(x,some i)∈N'.zip cap:=by
      refine JP (i:=j) ?_;rw[Wy];exact⟨b8,ec⟩
     obtain⟨hN,hf,hk⟩:=P.cap _ hz i rfl;obtain⟨m,hn,bB⟩:=k.loc;obtain⟨u,r,lk⟩:=bB i x v hN b6 (by rcases hk with z|z;exact .inr (.inl z);exact .inr (.inr z));refine⟨u,r,.inr ⟨?_,?_⟩⟩
     ·exact vq hf
     ·rcases lk with ⟨z,_⟩|⟨_,c,b0,ab⟩
      ·have z':X.env.scope.names.lookup x=some .local:=z
       rcases hk with q|q
       ·rw[q]at z';cases z'
       ·rw[q]at z';cases z'
      ·obtain⟨c',a9⟩:=wN (cells:=X.env.cells) scope.names [] x hf
       have:=t x c' a9;rw[b0]at this;cases this;obtain⟨ob,e,d⟩:=ab;rw[f]at e;exact⟨c,a9,ob,old c ob e,d⟩
  ·obtain⟨v,ob,e',d⟩:=k.cell x c (t x c e)
   rw[f]at e';exact⟨v,ob,old c ob e',d⟩
  ·refine k.hok.fresh ?_
   rw[f];exact Jf _
  ·have aT:p∈X.pn++pins:=(Jv.mp hp).elim (λz=>z) (λz=>nomatch z)
   obtain⟨e,n,ne,nf,d⟩:=k.pin p aT;rw[f]at e;refine⟨old _ _ e,n,JD (Jp e),λz=>?_,d⟩;rcases Jr.mp (k.stkSub _ z) with q|q
   ·exact ne q
   ·exact nf q
  ·have:=k.hok.kept (h':=w) (λb u q=>old b u (by rw[<- f];exact q))
   exact this b o e
  ·show (cap.map _).length=N'.length
   rw[Je,P.len]
 have L:∀ {G:Hp},(∀ b∈fp,G b=none)->∀ b∈fp,FpOk Y [] G b:=λ{G} hn b a=>by
  refine⟨hn b a,(B.exf b a).1,B.exfs b a,.inl a,(B.exf b a).2,λp hp=>?_⟩;have aT:p∈X.pn++pins:=(Jv.mp hp).elim (λz=>z) (λz=>nomatch z);exact(N b a).2.2.2.2.2 p aT
 have a7:tn 0 w:=T.keep 0 _ _ a6 λb a o e=>old b o (a3 b o e)
 have loop:codeAny (model X.prog X.w) X.A (.compLoop (.ListComp elt [⟨tg,iter,o.toList,0⟩] scope pos) 0 (.ref it) (.ref l) Y.env) (compPost (model X.prog X.w) X.A X.xe use Q0 (.ref l) P2.objs.size) { A with heap:=w,toks:=A.toks }:=by
  refine gR (λn s'=>∃ i acc K G,Inv Y [] K G s'/\tn i s'.heap/\(∀ b∈fp,G b=none)/\W i n acc K G) ?_ m0 ⟨0,[],_,H3,b1,a7,b5,w0⟩;rintro n s4 ⟨i,acc,S,O,I4,a5,ba,w4⟩;obtain⟨cc,q4⟩:=turn i n acc S O w4;rcases q4 with ⟨stop,qn⟩|⟨go,step⟩
  ·refine thn (T.done Y rfl rfl rfl hc i [] s4 S O Y.xe I4 (L ba) a5 stop) λr U ⟨hr,I5⟩=>?_
   subst hr;obtain⟨m,hn,_⟩:=id I5.loc;have un:Un (frs X.stack) fp H3 O s3.heap U.heap:=I5.base;have bo:s3.heap.objs.size<=P2.objs.size:=by rw[f];exact Jf _
   have IX:Inv X pins σ O U:=k.call' (ch:=fp) I5.os un I5.hok I5.bare λb a=>⟨(N b a).2.2.2.1,(N b a).2.1,(N b a).2.2.2.2.1,(N b a).2.2.2.2.2⟩;exact fin l P2.objs.size O U m IX qn hn (k.fpOk bo I5.free)
  ·refine thn (T.item Y rfl rfl rfl hc i [] s4 S O Y.xe I4 (L ba) a5 go) λr U ⟨u,hr,h5⟩=>?_
   subst hr;refine thn h5 λ_ s6 ⟨x,H6,I6,r6,y6,ax,b4⟩=>?_;have b9:=I6.pinned (L b4) (T.obj _ _ ax);refine thn (hg _ _ _ _ _ _ s6 S H6 x u _ b9 r6 (step x H6 y6)) λ_ s7 ⟨ao,H7,I7,q7⟩=>?_;refine oS (ht _ _ _ _ _ _ s7 ao H7 _ I7 q7) λb s8 ⟨H8,I8,q8⟩=>?_
   have again:∀ {R:St}{H9:Hp}{s9:JO}{M:List V},Inv Y ([]++we fp s6.heap) R H9 s9->(∃ m',m'<n/\W (i+1) m' M R H9)->∃ m,m<n/\∃ i acc K G,Inv Y [] K G s9/\tn i s9.heap/\(∀ b∈fp,G b=none)/\W i m acc K G:=λ{R H9 s9 M} I9 ⟨m',hm,w9⟩=>by
    refine⟨m',hm,i+1,M,R,H9,I9.unpinned,T.keep _ _ _ ax λb a o e=>(I9.pin (b,o) (Jz _ (Jz _ (yp a e)))).1,λb a=>?_,w9⟩;obtain⟨o,e,d⟩:=T.obj _ _ ax b a;exact(I9.pin (b,o) (Jz _ (Jz _ (yp a e)))).2.1
   cases b with
   | false =>
    rw[Jg Jm]at q8 ⊢
    exact again I8 q8
   | true =>
    rw[Jj rfl]at q8 ⊢;refine thn (he _ _ _ _ _ _ s8 ao H8 _ I8 q8) λyv s9 ⟨y,H9,I9,r9,bS,bt,q9⟩=>?_;refine thn (yn (X:=Y) _ s9 ao H9 (.ref l) [y] (.ref l) [yv] (λ_ G=>G=upd H9 l (.lst (acc++[y]))) I9 rfl (.cons r9 .nil) ⟨l,acc,y,rfl,rfl,bS,bt,rfl⟩) λ_ cf ⟨_,cp,cb,_,b7⟩=>?_;subst b7;exact again cb q9
 exact codeAny_compStart_list loop (T.self X.A 0 _ _ _ a7 loop)
theorem Inv.gone {X:Cx}{pins:List (JI × Obj)}{σ:St}{H:Hp}{s:JO}{C:JI}{h':YP}(I:Inv X pins σ H s)(f:FpOk X pins H C)(sb:Heap.SameBut C s.heap h'):Inv X pins σ H { s with heap:=h' } :=
 I.turned (t':=s.toks) (λb o a e=>(sb.2 b a).trans e) f.1 f.2.1 f.2.2.2.1 f.2.2.2.2.1 f.2.2.2.2.2
theorem vw {X:Cx}{elt tg iter:Expr}{o:Option Expr}{scope:Scope}{pos:Pos}{a:TI}{g:TG}{tt:TT}{b:TE}{N':List Str}{cap:List (Option Nat)}(n:X.calm=true)(hi:PI X tg iter a)(p:CapOk X.N N' X.env.scope scope cap)(j:∀ C s₀ H₀ fp pins,PG (ya X N' scope C s₀ H₀ fp pins) tg g)(d:∀ C s₀ H₀ fp pins,PTo (ya X N' scope C s₀ H₀ fp pins) o tt)(k:∀ C s₀ H₀ fp pins,PE (ya X N' scope C s₀ H₀ fp pins) elt b)(e:∀ x,foldedSetIterable iter X.env x=pure x:=by intro _;rfl) :
  PE X (.ListComp elt [⟨tg,iter,o.toList,0⟩] scope pos) (tLC cap a g tt b):=by
 intro pins s σ H Q I h;rw[eval_ListComp];exact jU (use:=none) n hi p j d k e I h λl C t u m r q i f=>⟨m,i,λv c=>⟨.ref l,t,r.gone f c,rfl,q⟩⟩
theorem o7 {X:Cx}{i:Nat}{y:Str}{elt tg iter:Expr}{o:Option Expr}{scope:Scope}{pos b py:Pos}{k:TI}{g:TG}{tt:TT}{n:TE}{N':List Str}{cap:List (Option Nat)}(M:X.N.Nodup)(j:X.N[i]?=some y)(p:X.env.scope.names.lookup y=some .local)(K:X.calm=true)(hi:PI X tg iter k)(N:CapOk X.N N' X.env.scope scope cap)(G:∀ C s₀ H₀ fp pins,PG (ya X N' scope C s₀ H₀ fp pins) tg g)(B:∀ C s₀ H₀ fp pins,PTo (ya X N' scope C s₀ H₀ fp pins) o tt)(J:∀ C s₀ H₀ fp pins,PE (ya X N' scope C s₀ H₀ fp pins) elt n)(E:∀ x,foldedSetIterable iter X.env x=pure x:=by intro _;rfl)(d:swapsWith (.ListComp elt [⟨tg,iter,o.toList,0⟩] scope pos) (some (.Name y py)) b.line X.env=pure true:=by with_unfolding_all rfl) :
  PS X (.Assign [.Name y py] (.ListComp elt [⟨tg,iter,o.toList,0⟩] scope pos) b) (bh (tLC cap k g tt n) (xw i)):=by
 intro pins s σ H D I h;rw[exec_Assign_Name_used y py _ b d];refine J0 (Zd (J0 (J0 (thn (jU (use:=some (assign (.Name y py) X.env)) (Q0:=λ_ z=>SP X pins D .next z) K hi N G B J E I h λl C Q R m P q F f=>?_) λ_ z A=>J9 (J9 A)))));refine wpAny_assign_Name (rg (v:=.ref l) P M j (.inl p) rfl (λt O ⟨a,r,L⟩=>?_) (.inr p))
 have u:C≠a:=by
  rcases L with z|z
  ·rw[z];exact f.2.1
  ·exact λw=>f.2.2.2.2.1 y a z w.symm
 have e:t.heap.Ns C m:=F.sameBut r u;exact⟨m,e,λS c=>⟨_,Q,O.gone f c,q⟩⟩
end L2
namespace Own
open PySem PySem.Spec PyProof.Rows
section
variable {M:Model}{prog:Yo}{w:YI}{A:YO}{E:Jo->JO->Prop}{s:JO}{α:Type}{Q:α->JO->Prop}
theorem rf {a:JI}{o:Obj}{vs:Array Jo}{x:Jo}{f:Jo->Sem α}(k:Nat)(c:s.heap.get? a=some o)(hd:o.data=.fields vs)(b:vs[k]?=some x)(h:wpAny M A (f x) Q E s) :
  wpAny M A (field (.ref a) k >>= f) Q E s:=J0 (Zk c hd b h)
theorem nx {T id:String}{B:Builtin}{it:JI}{P:Jo->JO->Prop}(slot:Slot T "__next__" id) (ty:s.TypeIs (.ref it) T) (en:entryFor table id=some B) (ok:argsOk id ⟨[.ref it],[]⟩)
  (h:wpAny (model prog w) A.in1 (B ⟨[.ref it],[]⟩) (λr a=>∃ v,r=.done (.ret v)/\P v a) E s):wpAny (model prog w) A (Builtin.SmallTypes.nextOf (.ref it)) P E s:=by
 unfold Builtin.SmallTypes.nextOf;refine J0 (wpAny_callSpecial?_slot (name:="__next__") ty slot (Y5 slot ty en (thn2 h) ok))
where
 thn2 {b:Sem Fin}{P:Jo->JO->Prop}{c:YO}(h:wpAny (model prog w) c b (λr a=>∃ v,r=.done (.ret v)/\P v a) E s) :
   wpAny (model prog w) c b (λr a=>∃ v,r=.done (.ret v)/\wpAny (model prog w) A (pure v) P E a) E s :=
  JU h (λ_ _ ⟨v,e,q⟩=>⟨v,e,J9 q⟩) λ_ _ z=>z
end
theorem ends {A:YO}{E:Jo->JO->Prop}{prog:Yo}{w:YI}{s:JO}{α:Type}{Q:α->JO->Prop}(c:A.handled=none)
  (h:∀ h' x,(∀ b o,s.heap.get? b=some o->h'.get? b=some o)->(∃ o,h'.get? x=some o/\o.cls=.type "StopIteration")->E (.ref x) { s with heap:=h' }) :
  wpAny (model prog w) A (Builtin.SmallTypes.stopIteration:Sem α) Q E s:=by
 unfold Builtin.SmallTypes.stopIteration newExc newTuple;refine J0 (J0 (JJ ?_ (by size_fits)));refine J0 (wpAny_of_eq (a:=Value.none) (by rfl) (JJ (wpAny_raiseNew_none c (h _ _ (λb o e=>?_) ⟨_,Js _ rfl,rfl⟩)) (by size_fits)));exact J8 _ (J8 _ e)
def cN:Bool->String
 | true=>"list_iterator"
 | false=>"tuple_iterator"
abbrev RIt (b:Bool)(h:YP)(it a:JI)(i:Int):Prop:=h.get? it=some { cls:=.type (cN b),dict:=none,data:=.fields #[.ref a,.int i 0],slots:=#[] }
def SqO:Bool->YP->JI->Array Jo->Prop
 | true,h,a,xs=>h.IsList a xs
 | false,h,a,xs=>h.IsTuple a xs
theorem SqO.ob {b:Bool}{h:YP}{a:JI}{xs:Array Jo}(x:SqO b h a xs):∃ o n,h.get? a=some o/\o.data=.seq xs n:=by
 cases b<;>(obtain⟨o,e,_,n,d⟩:=x;exact⟨o,n,e,d⟩)
theorem SqO.mv {b:Bool}{h h':YP}{a:JI}{xs:Array Jo}(x:SqO b h a xs)(k:∀ o,h.get? a=some o->h'.get? a=some o):SqO b h' a xs:=by
 cases b<;>(obtain⟨o,e,r⟩:=x;exact⟨o,k o e,r⟩)
theorem SqO.ne {b c:Bool}{h:YP}{a it f:JI}{i:Int}{xs:Array Jo}(x:SqO b h a xs)(y:RIt c h it f i):a≠it:=λz=>by
 obtain⟨o,n,e,d⟩:=x.ob;rw[z,y]at e;cases e;cases d
section
variable {prog:Yo}{w:YI}{A:YO}{E:Jo->JO->Prop}{s:JO}
theorem ty {b:Bool}{it a:JI}{i:Int}(y:RIt b s.heap it a i):s.TypeIs (.ref it) (cN b):=⟨_,y,rfl⟩
theorem pJ {b:Bool}{it a:JI}{i:Nat}{xs:Array Jo}{x:Jo}{P:Jo->JO->Prop}{B:Builtin}(m:B=match b with|true=>Builtin.«list_iterator.__next__»|false=>Builtin.«tuple_iterator.__next__»)(y:RIt b s.heap it a i)(sq:SqO b s.heap a xs)(g:xs[i]?=some x)(h:∀ h',RIt b h' it a (i+1)->Heap.SameBut it s.heap h'->P x { s with heap:=h' }) :
  wpAny (model prog w) A (B ⟨[.ref it],[]⟩) (λr f=>∃ v,r=.done (.ret v)/\P v f) E s:=by
 obtain⟨o,n,e,d⟩:=sq.ob
 have fin:wpAny (model prog w) A (match xs[(i:Int).toNat]? with
   | some x=>(do setField (.ref it) 1 (rawInt ((i:Int)+1));ret x:Sem Fin)
   | none=>Builtin.SmallTypes.stopIteration) (λr f=>∃ v,r=.done (.ret v)/\P v f) E s:=by
  rw[Y3,g];exact J0 (Ye y (show 1<2 by decide) λh' j k=>J9 ⟨x,rfl,h h' j k⟩)
 rw[Y3,g]at fin;subst m;cases b <;>
 ·refine rf 0 y rfl rfl (PyIte (show ¬((Value.ref a == Value.none)=true) from Jm) (rf 1 y rfl rfl (J0 (Yj e d ?_))))
  simp only[Y3,g];exact fin
where
 PyIte {c:Prop} [Decidable c] {α:Type}{a b:Sem α}{M:Model}{A:YO}{Q:α->JO->Prop}{E:Jo->JO->Prop}{s:JO}(l:¬ c) (h:wpAny M A b Q E s):wpAny M A (if c then a else b) Q E s:=by
  rw[Jg l];exact h
theorem r8 {b:Bool}{it a:JI}{i:Nat}{xs:Array Jo}{Q:Fin->JO->Prop}{B:Builtin}(m:B=match b with|true=>Builtin.«list_iterator.__next__»|false=>Builtin.«tuple_iterator.__next__»)
  (j:A.handled=none) (y:RIt b s.heap it a i) (sq:SqO b s.heap a xs) (g:xs[i]?=none)
  (h:∀ h' x,(∀ c o,c≠it->s.heap.get? c=some o->h'.get? c=some o)->(∃ o,h'.get? x=some o/\o.cls=.type "StopIteration")->E (.ref x) { s with heap:=h' }) :
  wpAny (model prog w) A (B ⟨[.ref it],[]⟩) Q E s:=by
 obtain⟨o,n,e,d⟩:=sq.ob;subst m;cases b <;>
 ·refine rf 0 y rfl rfl (pJ.PyIte (show ¬((Value.ref a == Value.none)=true) from Jm) (rf 1 y rfl rfl (J0 (Yj e d ?_))))
  simp only[Y3,g];refine J0 (Z1 (J0 (Ye y (show 0<2 by decide) λr _ f=>?_)));exact ends j λp x k z=>h p x (λc o l q=>k c o ((f.2 c l).trans q)) z
theorem aX {b:Bool}{it a:JI}{i:Nat}{xs:Array Jo}{x:Jo}{P:Jo->JO->Prop}(y:RIt b s.heap it a i)(sq:SqO b s.heap a xs)(c:xs[i]?=some x)(h:∀ h',RIt b h' it a (i+1)->Heap.SameBut it s.heap h'->P x { s with heap:=h' }):wpAny (model prog w) A (Builtin.SmallTypes.nextOf (.ref it)) P E s:=by
 cases b
 ·exact nx F.slot_tuple_iterator_next (ty y) F.entry_tuple_iterator_next (F.args_tuple_iterator_next_1 _) (pJ (b:=false) rfl y sq c h)
 ·exact nx slot_listiter_next (ty y) entry_listiter_next (args_listiter_next _) (pJ (b:=true) rfl y sq c h)
theorem iq {b:Bool}{it a:JI}{i:Nat}{xs:Array Jo}{P:Jo->JO->Prop}(e:A.handled=none) (y:RIt b s.heap it a i) (sq:SqO b s.heap a xs) (d:xs[i]?=none)
  (h:∀ h' x,(∀ c o,c≠it->s.heap.get? c=some o->h'.get? c=some o)->(∃ o,h'.get? x=some o/\o.cls=.type "StopIteration")->E (.ref x) { s with heap:=h' }) :
  wpAny (model prog w) A (Builtin.SmallTypes.nextOf (.ref it)) P E s:=by
 have inner:A.in1.handled=none:=e;cases b
 ·exact nx F.slot_tuple_iterator_next (ty y) F.entry_tuple_iterator_next (F.args_tuple_iterator_next_1 _) (r8 (b:=false) rfl inner y sq d h)
 ·exact nx slot_listiter_next (ty y) entry_listiter_next (args_listiter_next _) (r8 (b:=true) rfl inner y sq d h)
theorem x6 {b:Bool}{a:JI}{xs:Array Jo}{P:Jo->JO->Prop}(sq:SqO b s.heap a xs)(h:P (.ref s.heap.objs.size) { s with heap:=s.heap.push { cls:=.type (cN b),data:=.fields #[.ref a,.int 0 0] } }):wpAny (model prog w) A (pyIter (.ref a)) P E s:=by
 cases b
 ·exact wpAny_pyIter_tuple sq h
 ·exact wpAny_pyIter_list sq h
end
theorem draws {prog:Yo}{w:YI}{A:YO}(l:A.handled=none)(b:Bool)(it a:JI)(xs:Array Jo)(f:a≠it) :
  Draws prog w A it [it,a] xs.size (λi v=>xs[i]?=some v) (λi h=>RIt b h it a i/\SqO b h a xs) :=
 ⟨λ_ _ st=>⟨_,st.1⟩,λ_ _ _ st k=>⟨k it JM _ st.1,st.2.mv λo e=>k a (JH _ JM) o e⟩,
  λi s Q E hi st k=>aX st.1 st.2 (ZK hi) λd y g=>k _ d s.toks (ZK hi) ⟨y,st.2.mv λo e=>(g.2 a f).trans e⟩ g,
  λs Q E st k=>iq l st.1 st.2 (by simp) λd x j z=>k d x (λc o m q=>j c o m q) z⟩
theorem bE (b:Bool)(a:JI)(o:Obj)(xs:Array Jo) :
  Meets (Builtin.«enumerate.__new__» ⟨[.type "enumerate",.ref a],[]⟩) (λ_ R s=>s.heap.get? a=some o/\SqO b s.heap a xs /\
   R (.ok (.ret (.ref (s.heap.push { cls:=.type (cN b),data:=.fields #[.ref a,.int 0 0] }).objs.size)))
    { s with heap:=(s.heap.push { cls:=.type (cN b),data:=.fields #[.ref a,.int 0 0] }).push { cls:=.type "enumerate",data:=.fields #[.none,.bool false,.ref s.heap.objs.size,rawInt 0,.none,.none] } }) :=
 .of_wp λprog w A R s h=>by
  obtain⟨j,g,d,i,os⟩:=s;obtain⟨f,sq,h⟩:=h;have sub:=sub_enumerate;have e:SqO b (Shared.heap ⟨j,g,d,i,os⟩) a xs:=sq
  wp_walk using WA f;refine wpAny_stack_any λst=>J9 ?_
  split
  case h_1 c _ _ _ _ _ =>
   cases (c == Value.type "enumerate")<;>(wp_walk using WA f,x6 e;exact⟨_,rfl,h⟩)
  all_goals (wp_walk using WA f,x6 e;exact⟨_,rfl,h⟩)
theorem gm {prog:Yo}{w:YI}{A:YO}{E:Jo->JO->Prop}{s:JO}{b:Bool}{a:JI}{xs:Array Jo}{P:Jo->JO->Prop}(sq:SqO b s.heap a xs)(h:∀ h' e it,s.heap.objs.size<=e->s.heap.objs.size<=it->e≠it->IsEnum h' e it 0 .none->RIt b h' it a 0->(∀ c o,s.heap.get? c=some o->h'.get? c=some o)->P (.ref e) { s with heap:=h' }) :
  wpAny (model prog w) A (call (.type "enumerate") [.ref a]) P E s:=by
 obtain⟨o,n,d,_⟩:=sq.ob;refine callType_new F.called_enumerate (by decide) (F.typeCall_enumerate_1 _) (F.newCall_enumerate_1 _) (λobj=>F.args_object_init_2 obj _) F.entry_enumerate_new (bE b a o xs) ⟨d,sq,⟨_,Js _ rfl,rfl⟩,?_⟩;refine h _ _ _ ?_ (Jf _) ?_ (Js _ rfl) (J8 _ (Js _ rfl)) λc o e=>J8 _ (J8 _ e)
 ·rw[YW];exact Nat.le_succ _
 ·rw[YW];exact Nat.succ_ne_self _
structure Sep (z TI TO i1 i2:JI) (f1 f2:List JI):Prop where
 all:[z,TI,TO,i1,i2].Nodup
 z1:z∉f1
 t1:TO∉f1
 o1:i2∉f1
 z2:z∉f2
 t2:TO∉f2
 o2:i1∉f2
section
variable {prog:Yo}{w:YI}{A:YO}{E:Jo->JO->Prop}{s:JO}{z TI TO i1 i2:JI}{f1 f2:List JI}{n1 n2 k:Nat}{P1 P2:Nat->Jo->Prop}{S1 S2:Nat->YP->Prop}{a b:Jo}
theorem gw (S:Sep z TI TO i1 i2 f1 f2)(D:Draws prog w A i1 f1 n1 P1 S1)(C:Draws prog w A i2 f2 n2 P2 S2){Q:Jo->JO->Prop}(n:IsZip s.heap z TI TO .none)(hI:IsPair s.heap TI (.ref i1) (.ref i2))(hO:IsPair s.heap TO a b)(d1:S1 k s.heap)(d2:S2 k s.heap)(l1:k<n1)(l2:k<n2)(h:∀ x y h' tk,P1 k x->P2 k y->IsZip h' z TI TO (rawInt s.heap.objs.size)->IsPair h' TO x y->S1 (k+1) h'->S2 (k+1) h'->IsPair h' s.heap.objs.size x y ->
   (∀ c o,c∉[z,TO,i1,i2]->s.heap.get? c=some o->h'.get? c=some o)->Q (.ref s.heap.objs.size) { s with heap:=h',toks:=tk }) :
  wpAny (model prog w) A (Builtin.«zip.__next__» ⟨[.ref z],[]⟩) (λr Y=>∃ v,r=.done (.ret v)/\Q v Y) E s:=by
 have L:=S.all;simp only[JT,Jr,Jx,YB,WB]at L;obtain⟨⟨zI,u,W,V⟩,⟨IO,I1,I2⟩,⟨O1,O2⟩,ab,_⟩:=L;refine rf 2 n rfl rfl (rf 3 n rfl rfl (J0 (Yj hI rfl (J0 (rf 0 n rfl rfl (J9 ?_))))));simp only[YV];refine J0 (Z1 (rf 4 n rfl rfl (J0 (Ye n (show 0<5 by decide) λha U m=>J0 ?_))));have F:IsZip ha z TI TO .ellipsis:=U;simp only[List.zipIdx_cons,List.zipIdx_nil,Z2,Zx];refine J0 (J0 (wpAny_onRaise (J0 (D.item k _ _ _ l1 (D.frame _ _ _ d1 λc g o e=>(m.2 c λq=>S.z1 (q ▸ g)).trans e) λx hb tb Z db l=>J9 ?_))));have P:IsPair hb TO a b:=(l.2 TO O1).trans ((m.2 TO (Ne.symm u)).trans hO);refine J0 (Yj P rfl (J0 (wpAny_updateSeq_pair P λg Oc sc=>J0 (ZY (J9 ?_)))));have H:IsPair g TO x b:=Oc;have G:S2 k g:=C.frame _ _ _ d2 λc d o e=>(sc.2 c λq=>S.t2 (q ▸ d)).trans ((l.2 c λq=>S.o2 (q ▸ d)).trans ((m.2 c λq=>S.z2 (q ▸ d)).trans e));refine J0 (J0 (wpAny_onRaise (J0 (C.item k _ _ _ l2 G λy hd X py dd j=>J9 ?_))));have O:IsPair hd TO x b:=(j.2 TO O2).trans H;refine J0 (Yj O rfl (J0 (wpAny_updateSeq_pair O λf Oe i=>J0 (ZY (J9 (J9 ?_))))));have t:IsPair f TO x y:=Oe;refine J0 (Yj t rfl (J0 (wpAny_newTuple (J0 ?_))));have sz:f.objs.size=s.heap.objs.size:=by rw[i.1,j.1,sc.1,l.1,m.1]
 have I:IsZip f z TI TO .ellipsis:=(i.2 z u).trans ((j.2 z V).trans ((sc.2 z u).trans ((l.2 z W).trans F)));have zn:f.objs.size≠z:=Z9 (Jp I);unfold Builtin.SmallTypes.ownedTupleHandOut;refine J0 (Ye (J8 _ I) (show 0<5 by decide) λhf T K=>Ye T (show 1<5 by decide) λB R J=>J9 ⟨_,rfl,?_⟩);have up:∀ c o,c≠z->f.get? c=some o->B.get? c=some o:=λc o q e=>(J.2 c q).trans ((K.2 c q).trans (J8 _ e));have new:IsPair B f.objs.size x y:=(J.2 _ zn).trans ((K.2 _ zn).trans (Js _ rfl));have p:IsZip B z TI TO (rawInt f.objs.size):=R;rw[sz]at new p;show Q (.ref f.objs.size) _;rw[sz];refine h x y B X Z py p (up _ _ (Ne.symm u) t) ?_ ?_ new λc o g e=>?_
 ·exact D.frame _ _ _ db λc d o e=>up c o (λq=>S.z1 (q ▸ d)) ((i.2 c λq=>S.t1 (q ▸ d)).trans ((j.2 c λq=>S.o1 (q ▸ d)).trans ((sc.2 c λq=>S.t1 (q ▸ d)).trans e)))
 ·exact C.frame _ _ _ dd λc d o e=>up c o (λq=>S.z2 (q ▸ d)) ((i.2 c λq=>S.t2 (q ▸ d)).trans e)
 ·simp only[Jr,Jx,YB,WB]at g
  obtain⟨N,M,c3,c4⟩:=g;exact up c o N ((i.2 c M).trans ((j.2 c c4).trans ((sc.2 c M).trans ((l.2 c c3).trans ((m.2 c N).trans e)))))
end
section
variable {prog:Yo}{w:YI}{A:YO}{E:Jo->JO->Prop}{s:JO}{z TI TO i1 i2:JI}{f1 f2:List JI}{n1:Nat}{P1:Nat->Jo->Prop}{S1:Nat->YP->Prop}
theorem gv (S:Sep z TI TO i1 i2 f1 f2) (m:Draws prog w A i1 f1 n1 P1 S1) {Q:Fin->JO->Prop}(a:IsZip s.heap z TI TO .none) (v:IsPair s.heap TI (.ref i1) (.ref i2)) (y:S1 n1 s.heap)
  (h:∀ h' x,(∀ c o,c∉[z,TO,i1,i2]->s.heap.get? c=some o->h'.get? c=some o)->(∃ o,h'.get? x=some o/\o.cls=.type "StopIteration")->E (.ref x) { s with heap:=h' }):wpAny (model prog w) A (Builtin.«zip.__next__» ⟨[.ref z],[]⟩) Q E s:=by
 have j:=S.all;simp only[JT,Jr,Jx,YB,WB]at j;obtain⟨⟨D,C,p,F⟩,⟨IO,J,I⟩,⟨H,G⟩,B,_⟩:=j;refine rf 2 a rfl rfl (rf 3 a rfl rfl (J0 (Yj v rfl (J0 (rf 0 a rfl rfl (J9 ?_))))));simp only[YV];refine J0 (Z1 (rf 4 a rfl rfl (J0 (Ye a (show 0<5 by decide) λu n i=>J0 ?_))));have f:IsZip u z TI TO .ellipsis:=n;simp only[List.zipIdx_cons,List.zipIdx_nil,Z2,Zx];refine J0 (J0 (wpAny_onRaise (J0 (m.done _ _ _ (m.frame _ _ _ y λc d o e=>(i.2 c λq=>S.z1 (q ▸ d)).trans e) λt x k ⟨r,ex,l⟩=>?_))));have g:IsZip t z TI TO .ellipsis:=k z _ p f;have xz:x≠z:=λq=>by rw[q,g]at ex;cases ex;exact absurd (show Value.type "zip" = Value.type "StopIteration" from l) (by decide)
 refine Ye g (show 0<5 by decide) λd _ sc=>h d x (λc o b e=>?_) ⟨r,(sc.2 x xz).trans ex,l⟩;simp only[Jr,Jx,YB,WB]at b;exact(sc.2 c b.1).trans (k c o b.2.2.1 ((i.2 c b.1).trans e))
end
theorem kj (b1 b2:Bool)(a1 a2:JI)(xs ys:Array Jo):Meets (Builtin.«zip.__new__» ⟨[.type "zip",.ref a1,.ref a2],[]⟩) (λ_ R s=>SqO b1 s.heap a1 xs/\SqO b2 s.heap a2 ys /\
  ∀ h' z,(∃ TI TO i1 i2,[z,TI,TO,i1,i2].Nodup/\(∀ c∈[z,TI,TO,i1,i2],s.heap.objs.size<=c)/\IsZip h' z TI TO .none/\IsPair h' TI (.ref i1) (.ref i2)/\IsPair h' TO .none .none/\RIt b1 h' i1 a1 0/\RIt b2 h' i2 a2 0) ->
   (∀ c o,s.heap.get? c=some o->h'.get? c=some o)->R (.ok (.ret (.ref z))) { s with heap:=h' }) :=
 .of_wp λprog w A R s h=>by
  obtain⟨a,g,d,b,os⟩:=s;obtain⟨k,j,h⟩:=h;have sub:=sub_zip;have i:SqO b1 (Shared.heap ⟨a,g,d,b,os⟩) a1 xs:=k;have f:SqO b2 (Shared.heap ⟨a.push { cls:=.type (cN b1),data:=.fields #[.ref a1,.int 0 0] },g,d,b,os⟩) a2 ys:=j.mv λo e=>J8 _ e
  wp_walk using x6 i,x6 f
  refine⟨_,rfl,h _ _ ⟨_,_,_,_,?_,?_,Js _ rfl,J8 _ (J8 _ (Js _ rfl)),J8 _ (Js _ rfl),
   J8 _ (J8 _ (J8 _ (J8 _ (Js _ rfl)))),J8 _ (J8 _ (J8 _ (Js _ rfl)))⟩ λc o e=>?_⟩
  ·simp only[YW,JT,Jr,Jx,YB,WB]
   simp<;>lia
  ·simp only[YW,Jr,Jx,YB]
   intro c l;have:a.objs.size<=c:=by lia
   exact this
  ·exact J8 _ (J8 _ (J8 _ (J8 _ (J8 _ e))))
end Own
namespace L2
open PySem PySem.Spec PyProof.Rows Own
section
variable {X:Cx}{pins:List (JI × Obj)}{σ:St}{H:Hp}{s:JO}{h':YP}
theorem Inv.spunN {fp:List JI}{T:JI}{o:HO}{t':Nat}(I:Inv X pins σ H s)(k:∀ b o,b∉fp->s.heap.get? b=some o->h'.get? b=some o)(h:∀ b∈fp,FpOk X pins H b)(i:s.heap.objs.size<=T)(new:ObjOk X.prog X.w (upd H T o) h' T o):Inv X pins σ (upd H T o) { s with heap:=h',toks:=t' }:=by
 have f:H T=none:=I.hok.fresh i;have neT:∀ b u,s.heap.get? b=some u->b≠T:=λb u e=>JD (JL (Jp e) i);have g:∀ b u,H b=some u->b∉fp:=λb u e a=>by rw[(h b a).1]at e;cases e
 refine I.step (g':=s.gens) (d':=s.drawn) (ch:=fp) (λb a=>?_) (λb o _ _ d e _=>k b o d e) (λb o _ _ d e _=>⟨o.slots,k b o d e⟩) (λb o _ e n=>by rw[zK (neT b o e)];exact n)
  (λb o d e=>⟨o,k b o d e⟩) (λb j e=>by rw[zK (zJ e f)];exact e) (λb o u e=>by rw[zK (zJ e f)];exact e) (λb C e=>⟨#[],by rw[zK (zJ e f),e];simp⟩) (λm p=>?_) (λb u e=>?_) I.bare
 ·obtain⟨E,y,D,x,w,t⟩:=h b a
  exact⟨x,y,w,t⟩
 ·obtain⟨o,A,B,l,r⟩:=p
  exact⟨o,A,B,k _ o (λa=>(h _ a).2.1 rfl) l,r⟩
 ·by_cases a:b=T
  ·subst a;rw[zG]at e;cases e;exact new
  ·rw[zK a]at e
   refine(I.hok b u e).stay (λc v d q=>k c v ?_ q) (λc q=>by rw[zK (zJ q f)];exact q) λc j q=>by rw[zK (zJ q f)];exact q
   rcases d with z|z
   ·rw[z];exact g b u e
   ·exact g c _ z
theorem Inv.spun {fp:List JI}{t':Nat}(I:Inv X pins σ H s)(k:∀ b o,b∉fp->s.heap.get? b=some o->h'.get? b=some o)(g:∀ b∈fp,FpOk X pins H b):Inv X pins σ H { s with heap:=h',toks:=t' }:=by
 have f:∀ b u,H b=some u->b∉fp:=λb u e d=>by rw[(g b d).1]at e;cases e
 refine I.step (g':=s.gens) (d':=s.drawn) (ch:=fp) (λb d=>?_) (λb o _ _ a e _=>k b o a e) (λb o _ _ a e _=>⟨o.slots,k b o a e⟩) (λb o _ e n=>n)
  (λb o a e=>⟨o,k b o a e⟩) (λb h e=>e) (λb o u e=>e) (λb A e=>⟨#[],by rw[e];simp⟩) (λm j=>?_) (λb u e=>?_) I.bare
 ·obtain⟨C,w,B,t,p,l⟩:=g b d
  exact⟨t,w,p,l⟩
 ·obtain⟨o,x,y,i,r⟩:=j
  exact⟨o,x,y,k _ o (λd=>(g _ d).2.1 rfl) i,r⟩
 ·refine(I.hok b u e).stay (λc v a q=>k c v ?_ q) (λc q=>q) λc h q=>q
  rcases a with z|z
  ·rw[z];exact f b u e
  ·exact f c _ z
end
def SqB:Bool->Jl->Hp->JI->List V->Prop
 | true,K,H,a,xs=>SqL K H a xs
 | false,K,H,a,xs=>SqT K H a xs
section
variable {X:Cx}{pins:List (JI × Obj)}{σ:St}{H:Hp}{s:JO}{a c:JI}{xs ys:List V}{b:Bool}
theorem Inv.sq (I:Inv X pins σ H s)(h:SqB b X.K H a xs):∃ its:List Jo,Vals xs its/\SqO b s.heap a its.toArray:=by
 cases b
 ·obtain⟨its,r,p,z⟩:=I.tuple h
  exact⟨its,r,p⟩
 ·obtain⟨its,r,p,z⟩:=I.list h
  exact⟨its,r,p.isList⟩
theorem Inv.sq_inj (I:Inv X pins σ H s)(h:SqB b X.K H a xs)(h':SqB b X.K H a ys):xs=ys:=by
 cases b
 ·exact I.tuple_inj h h'
 ·exact I.list_inj h h'
theorem Inv.sq_ne (I:Inv X pins σ H s)(h:SqB b X.K H a xs)(f:FpOk X pins H c):c≠a:=by
 rintro rfl
 have d:∀ o,X.K.lookup c=some o->False:=λo e=>by
  have g:=I.ok.mod.kin c o e;rcases f.2.2.2.1 with z|z
  ·exact I.ok.noex c o g z
  ·exact absurd (JL (Jp g) (JK I.ok.bsz z)) (YG _)
 cases b <;>
 ·rcases h with (h|⟨o,h⟩)|⟨o,_,_,e,_⟩
  ·rw[f.1]at h;cases h
  ·rw[f.1]at h;cases h
  ·exact d o e
end
def Pr (v u:V)(H:Hp)(x:V)(H':Hp):Prop:=∃ T,H T=none/\x=.ref T/\H'=upd H T (.tup [v,u])
theorem pU {P:Yo}{w:YI}{H:Hp}{h:YP}{T:JI}{v u:V}{a b:Jo}(e:IsPair h T a b)(c:RelV v a)(d:RelV u b):ObjOk P w (upd H T (.tup [v,u])) h T (.tup [v,u]) :=
 ⟨show 2<=sizeLine by decide,[a,b],.cons c (.cons d .nil),⟨_,e,rfl,_,rfl,rfl⟩⟩
def Ite (K:Jl)(b:Bool)(a:JI):It :=
 ⟨λi H=>∃ c x,SqB b K H a c/\c[i]?=some x,λi H x d=>∃ y,(∀ c,SqB b K H a c->c[i]?=some y)/\Pr (.int i) y H x d,λi H=>∃ c,SqB b K H a c/\c.length=i⟩
theorem j8 {P:Yo}{w:YI}{K:Jl}{es:List Expr}{k1}{p1:Pos}(b:Bool)(a e it:JI)(j:e≠it):Turn P w K (.Tuple es k1 p1) (Ite K b a) [e,it] e (λi h=>(∃ old,IsEnum h e it i old)/\RIt b h it a i) where
 mem:=JM
 obj:=λi h ⟨⟨old,f⟩,hi⟩ c m=>by
  rcases Jr.mp m with q|q
  ·rw[q];exact⟨_,f,λv z=>by cases z⟩
  ·rw[Jd.mp q];exact⟨_,hi,λv z=>by cases z⟩
 keep:=λi h h' ⟨⟨old,f⟩,hi⟩ J=>⟨⟨old,J e (by simp) _ f⟩,J it (by simp) _ hi⟩
 item:=by
  intro X B y C m i pins s σ H E I l ⟨⟨old,f⟩,hi⟩ ⟨N,x,k,n⟩;subst B y C;obtain⟨d,t,p⟩:=I.sq k;obtain⟨u,L,Q⟩:=t.get n;have D:i<d.toArray.size:=by simpa using (Jb.mp L).1
  refine wpAny_pyNext_enum_itemD (draws (prog:=X.prog) (w:=X.w) (A:=X.A.in1) (I.ok.hd m) b it a d.toArray (p.ne hi)) f ⟨hi,p⟩ D j (by simp[j,I.sq_ne k (l e (by simp))]) λv h1 O U W V Z _ Y=>?_;obtain rfl:u=v:=Jq (L.symm.trans (by simpa using U));refine⟨_,rfl,wpAny_letOwnedTupleGo_enum W λh2 F r=>?_⟩;have G:s.heap.objs.size≠e:=Z9 (Jp f);have R:s.heap.objs.size≠it:=Z9 (Jp hi);refine⟨.ref s.heap.objs.size,_,I.spunN (fp:=[e,it]) (λc o g q=>?_) l (Jf _) (pU (v:=.int i) (u:=x) ((r.2 _ G).trans Z) ⟨O,rfl⟩ Q),rfl,⟨x,λys T=>by rw[I.sq_inj T k];exact n,_,I.fresh,rfl,rfl⟩,⟨⟨_,F⟩,(r.2 it (Ne.symm j)).trans V.1⟩,λc g=>?_⟩
  ·have M:c≠e:=λz=>g (by simp[z])
   exact(r.2 c M).trans (Y c o M (λz=>g (by simp[z])) q)
  ·rw[zK,(l c g).1]
   rintro rfl;rcases Jr.mp g with z|z
   ·exact G z
   ·exact R (Jd.mp z)
 done:=by
  intro X B y C m i pins s σ H E I l ⟨⟨old,f⟩,hi⟩ ⟨N,k,n⟩;subst B y C;obtain⟨d,t,p⟩:=I.sq k;have S:i=d.toArray.size:=by rw[Jh,<- t.length,n]
  refine wpAny_pyNext_enum_endD (draws (prog:=X.prog) (w:=X.w) (A:=X.A.in1) (I.ok.hd m) b it a d.toArray (p.ne hi)) f ⟨by rw[<- S];exact hi,p⟩ λh' eb=>⟨rfl,I.spun (t':=s.toks) (fp:=[e,it]) (λc o g q=>eb c o (λz=>g (by simp[z])) q) l⟩
 self:=λ_ _ _ _ _ ⟨⟨_,f⟩,_⟩ h=>wpAny_pyIter_enum f h
def zb0 (K:Jl)(b:Bool)(f:TA):TI:=λσ H R=>f σ H λe c=>∃ a d,e=[.ref a]/\SqB b K c a d/\R (Ite K b a) c
theorem pQ {X:Cx}{a:Expr}{g:TA}{p pos p1:Pos}{es:List Expr}{k1} (b:Bool) (x:Gl X "enumerate") (hm:X.mg "enumerate" = none) (ha:PA X [a] g) (t:starEach [a] X.env=[(false,eval a X.env)]:=by rfl) :
  PI X (.Tuple es k1 p1) (.Call (.Name "enumerate" p) [a] [] pos) (zb0 X.K b g):=by
 intro pins s σ H R I h;refine Call_ (xu I x hm (u:=.type "enumerate") (by rfl) (Ym (thn (ha pos pins s σ H _ I h) λF i ⟨E,B,f,l,m⟩=>?_) t rfl));obtain⟨A,D,rfl,v,q⟩:=m;obtain⟨u,rfl,k⟩:=l.one;cases k;obtain⟨C,G,n⟩:=f.sq v;refine gm n λJ e it r o ne j hi w=>wpAny_pyIter_enum j ⟨_,[e,it],_,_,B,rfl,f.kept (t':=i.toks) w,j8 b A e it ne,⟨⟨_,j⟩,hi⟩,λc y=>?_,q⟩
 have d:i.heap.objs.size<=c:=by
  rcases Jr.mp y with z|z
  ·rw[z];exact r
  ·rw[Jd.mp z];exact o
 exact f.fpOk d (f.hok.fresh d)
def Itz (K:Jl)(b1 b2:Bool)(a1 a2:JI):It :=
 ⟨λi H=>∃ a b x y,SqB b1 K H a1 a/\SqB b2 K H a2 b/\a[i]?=some x/\b[i]?=some y,λi H v c=>∃ x y,(∀ a,SqB b1 K H a1 a->a[i]?=some x)/\(∀ b,SqB b2 K H a2 b->b[i]?=some y)/\Pr x y H v c,
  λi H=>∃ a,SqB b1 K H a1 a/\a.length=i⟩
theorem xg {P:Yo}{w:YI}{K:Jl}{es:List Expr}{k1}{p1:Pos}(b1 b2:Bool)(a1 a2 z TI TO i1 i2:JI)(nd:[z,TI,TO,i1,i2].Nodup) :
  Turn P w K (.Tuple es k1 p1) (Itz K b1 b2 a1 a2) [z,TI,TO,i1,i2] z (λi h=>IsZip h z TI TO .none/\IsPair h TI (.ref i1) (.ref i2)/\(∃ a b,IsPair h TO a b)/\RIt b1 h i1 a1 i/\RIt b2 h i2 a2 i) where
 mem:=JM
 obj:=λi h ⟨f,n,⟨a,b,t⟩,m,p⟩ c D=>by
  simp only[Jr,Jx,YB]at D;rcases D with rfl|rfl|rfl|rfl|rfl
  ·exact⟨_,f,λv q=>by cases q⟩
  ·exact⟨_,n,λv q=>by cases q⟩
  ·exact⟨_,t,λv q=>by cases q⟩
  ·exact⟨_,m,λv q=>by cases q⟩
  ·exact⟨_,p,λv q=>by cases q⟩
 keep:=λi h h' ⟨f,n,⟨a,b,t⟩,m,p⟩ G=>⟨G z (by simp) _ f,G TI (by simp) _ n,⟨a,b,G TO (by simp) _ t⟩,G i1 (by simp) _ m,G i2 (by simp) _ p⟩
 item:=by
  intro X Y V Z D i pins s σ H E I r ⟨f,n,⟨a,b,t⟩,m,p⟩ ⟨xs,ys,x,y,C,U,N,hy⟩;subst Y V Z;obtain⟨M,R,p1⟩:=I.sq C;obtain⟨u2,r2,p2⟩:=I.sq U;obtain⟨v1,e1,rx⟩:=R.get N;obtain⟨v2,e2,ry⟩:=r2.get hy;have j:=nd;simp only[JT,Jr,Jx,YB,WB]at j;obtain⟨⟨Q,zO,L,J⟩,⟨IO,I1,I2⟩,⟨O1,O2⟩,k,_⟩:=j;have e:∀ c∈[z,TI,TO,i1,i2],c≠a1:=λc d=>I.sq_ne C (r c d);have u:∀ c∈[z,TI,TO,i1,i2],c≠a2:=λc d=>I.sq_ne U (r c d);have S:Sep z TI TO i1 i2 [i1,a1] [i2,a2]:=⟨nd,by simp[L,e z (by simp)],by simp[O1,e TO (by simp)],by simp[Ne.symm k,e i2 (by simp)],by simp[J,u z (by simp)],by simp[O2,u TO (by simp)],by simp[k,u i1 (by simp)]⟩;have hd:=I.ok.hd D;have D1:=draws (prog:=X.prog) (w:=X.w) (A:=X.A.in1) hd b1 i1 a1 M.toArray (p1.ne m);have D2:=draws (prog:=X.prog) (w:=X.w) (A:=X.A.in1) hd b2 i2 a2 u2.toArray (p2.ne p);have g:s.TypeIs (.ref z) "zip":=⟨_,f,rfl⟩;unfold pyNext
  refine J0 (ZP (wpAny_callSpecial?_slot (name:="__next__") g Wj (Y5 Wj g F.entry_zip_next (gw S D1 D2 f n t ⟨m,p1⟩ ⟨p,p2⟩ (by simpa using (Jb.mp e1).1) (by simpa using (Jb.mp e2).1)
   λw1 w2 h' tk ao ab zh Oh d1 d2 new O=>J9 ?_) (F.args_zip_next_1 _))))
  obtain rfl:v1=w1:=Jq (e1.symm.trans (by simpa using ao));obtain rfl:v2=w2:=Jq (e2.symm.trans (by simpa using ab));refine⟨_,rfl,wpAny_letOwnedTupleGo_zip zh λh3 z3 B=>?_⟩;have nz:s.heap.objs.size≠z:=Z9 (Jp f)
  have aT:∀ c∈[z,TI,TO,i1,i2],c≠s.heap.objs.size:=λc d=>by
   simp only[Jr,YB,Jx]at d;rcases d with rfl|rfl|rfl|rfl|rfl
   ·exact JD (Jp f)
   ·exact JD (Jp n)
   ·exact JD (Jp t)
   ·exact JD (Jp m)
   ·exact JD (Jp p)
  refine⟨.ref s.heap.objs.size,_,I.spunN (fp:=[z,TI,TO,i1,i2]) (λc o d q=>?_) r (Jf _) (pU ((B.2 _ nz).trans new) rx ry),rfl,⟨x,y,λl W=>by rw[I.sq_inj W C];exact N,λl W=>by rw[I.sq_inj W U];exact hy,_,I.fresh,rfl,rfl⟩,
   ⟨z3,(B.2 _ (Ne.symm Q)).trans (O TI _ (by simp[Ne.symm Q,IO,I1,I2]) n),⟨_,_,(B.2 _ (Ne.symm zO)).trans Oh⟩,(B.2 _ (Ne.symm L)).trans d1.1,(B.2 _ (Ne.symm J)).trans d2.1⟩,λc d=>by rw[zK (aT c d),(r c d).1]⟩
  simp only[Jr,Jx,YB,WB]at d;exact(B.2 c d.1).trans (O c o (by simp[d]) q)
 done:=by
  intro X Y V Z D i pins s σ H E I r ⟨f,n,⟨a,b,t⟩,m,p⟩ ⟨xs,C,N⟩;subst Y V Z;obtain⟨M,R,p1⟩:=I.sq C;have j:=nd;simp only[JT,Jr,Jx,YB,WB]at j;obtain⟨⟨Q,zO,L,J⟩,⟨IO,I1,I2⟩,⟨O1,O2⟩,k,_⟩:=j;have e:∀ c∈[z,TI,TO,i1,i2],c≠a1:=λc d=>I.sq_ne C (r c d);have S:Sep z TI TO i1 i2 [i1,a1] [i2]:=⟨nd,by simp[L,e z (by simp)],by simp[O1,e TO (by simp)],by simp[Ne.symm k,e i2 (by simp)],by simp[J],by simp[O2],by simp[k]⟩;have ax:i=M.toArray.size:=by rw[Jh,<- R.length,N]
  have g:s.TypeIs (.ref z) "zip":=⟨_,f,rfl⟩;unfold pyNext
  refine J0 (ZP (wpAny_callSpecial?_slot (name:="__next__") g Wj (Y5 Wj g F.entry_zip_next
   (gv S (draws (prog:=X.prog) (w:=X.w) (A:=X.A.in1) (I.ok.hd D) b1 i1 a1 M.toArray (p1.ne m)) f n ⟨by rw[<- ax];exact m,p1⟩ λh' x O ⟨o,eo,co⟩=>?_) (F.args_zip_next_1 _))))
  refine J0 (ZB (T:="StopIteration") (b:=true) ⟨o,eo,co⟩ isSubtype_stop (J9 ⟨rfl,I.spun (t':=s.toks) (fp:=[z,TI,TO,i1,i2]) (λc o d q=>O c o ?_ q) r⟩));simp only[Jr,Jx,YB,WB]at d ⊢;exact⟨d.1,d.2.2.1,d.2.2.2.1,d.2.2.2.2⟩
 self:=λ_ _ _ _ _ st h=>wpAny_pyIter_zip st.1 h
def zcH (K:Jl)(b1 b2:Bool)(g:TA):TI:=λσ H R=>g σ H λf c=>∃ b a e d,f=[.ref b,.ref a]/\SqB b1 K c b e/\SqB b2 K c a d/\R (Itz K b1 b2 b a) c
theorem e7 {X:Cx}{a b:Expr}{o:TA}{p pos p1:Pos}{es:List Expr}{k1} (b1 b2:Bool) (L:Gl X "zip") (hm:X.mg "zip" = none) (ha:PA X [a,b] o) (J:starEach [a,b] X.env=[(false,eval a X.env),(false,eval b X.env)]:=by rfl) (e:starEach [b] X.env=[(false,eval b X.env)]:=by rfl) :
  PI X (.Tuple es k1 p1) (.Call (.Name "zip" p) [a,b] [] pos) (zcH X.K b1 b2 o):=by
 intro pins s σ H R I h;refine Call_ (xu I L hm (u:=.type "zip") (by rfl) (Ym (thn (ha pos pins s σ H _ I h) λV A ⟨U,Q,d,D,E⟩=>?_) (by rw[J,e]) (by rw[e];rfl)));obtain⟨y,x,T,S,rfl,n,m,q⟩:=E;obtain⟨u,v,rfl,C,B⟩:=D.two;cases C;cases B;obtain⟨l,_,j⟩:=d.sq n;obtain⟨k,_,i⟩:=d.sq m;refine callType_new F.called_zip (by decide) (F.typeCall_zip_2 _ _) (F.newCall_zip_2 _ _) (λobj=>F.args_object_init_3 obj _ _) F.entry_zip_new (kj b1 b2 y x l.toArray k.toArray) ⟨j,i,λW z ⟨TI,TO,t,r,G,f,g,N,M,P,O⟩ K=>⟨⟨_,g,rfl⟩,?_⟩⟩;exact wpAny_pyIter_zip g ⟨_,[z,TI,TO,t,r],_,_,Q,rfl,d.kept (t':=A.toks) K,xg b1 b2 y x z TI TO t r G,⟨g,N,⟨_,_,M⟩,P,O⟩,λc w=>d.fpOk (f c w) (d.hok.fresh (f c w)),q⟩
section
variable {X:Cx}
theorem kr {prog:Yo}{w:YI}{A:YO}(d:A.handled=none)(b:Bool)(I a:JI)(c:a≠I)(xs:Array Jo) :
  Walks prog w A I [I,a] [I] xs.size (λi v=>xs[i]?=some v) (λi h=>(match b with|true=>h.IsListIter I a i|false=>h.IsTupleIter I a i)/\SqO b h a xs):=by
 cases b
 ·exact Walks.tuple d I a c xs
 ·exact Walks.list d I a c xs
theorem ug (ns:List Int):∀ n,n<=ns.length->preSum (λi=>ns.getD i 0) n=(ns.take n).sum
 | 0,_=>by simp[preSum]
 | n+1,h=>by
  have e:ns[n]?=some ns[n]:=J7 h;rw[preSum,ug ns n (Nat.le_of_lt h),List.take_add_one,List.sum_append,e,Ja,e];simp
theorem gY (C:X.calm=true)(b:Bool):CallR X (.builtin "sum") (λvs H Q=>∃ a ns,vs=[.ref a]/\SqB b X.K H a (List.map V.int ns)/\Q (.int ns.sum) H):=by
 intro pins s σ H vs D Q I l h;obtain⟨a,ns,rfl,x,q⟩:=h;obtain⟨u,rfl,m⟩:=l.one;cases m;obtain⟨d,r,p⟩:=I.sq x
 have g:a≠s.heap.objs.size:=by
  obtain⟨o,n,e,_⟩:=p.ob;exact JD (Jp e)
 have A:d.length=ns.length:=by rw[<- r.length,Je]
 refine call_sum_walkG (x6 p ⟨s.heap.objs.size,[s.heap.objs.size,a],[s.heap.objs.size],_,_,_,λi=>ns.getD i 0,rfl,kr (show X.A.in1.handled=none from I.ok.hd C) b _ a g d.toArray,?_,?_,?_,?_⟩)
 ·refine⟨?_,p.mv λo e=>J8 _ e⟩
  cases b<;>exact⟨_,Js _ rfl,rfl,rfl⟩
 ·intro c y
  show c<(s.heap.push _).objs.size;rw[YW];rcases Jr.mp y with z|z
  ·rw[z];exact Wa _
  ·rw[Jd.mp z]
   obtain⟨o,n,e,_⟩:=p.ob;exact W5 (Jp e)
 ·intro i v w
  have f:d[i]?=some v:=by simpa using w
  have hi:=(Jb.mp f).1
  have e:(List.map V.int ns)[i]?=some (V.int (ns.getD i 0)):=by
   rw[JG,Ja,J7 (by simp_all)];rfl
  obtain⟨E,j,⟨t,rfl⟩⟩:=r.get e;rw[f]at j;exact⟨t,Jq j⟩
 ·intro F k t' B
  refine⟨.int ns.sum,H,I.kept (t':=k) λc o e=>B c o ?_ (J8 _ e),⟨t',?_⟩,q⟩
  ·exact λz=>JD (Jp e) (Jd.mp z)
  ·rw[Jh,A,ug ns _ (Jf _),Yz]
theorem qW (F:X.calm=true)(b:Bool):CallR X (.builtin "all") (λvs H Q=>∃ a bs,vs=[.ref a]/\SqB b X.K H a (List.map V.bl bs)/\Q (.bl (bs.all id)) H):=by
 intro pins s σ H vs J Q I y h;obtain⟨a,bs,rfl,C,q⟩:=h;obtain⟨u,rfl,l⟩:=y.one;cases l;obtain⟨f,r,p⟩:=I.sq C
 have m:a≠s.heap.objs.size:=by
  obtain⟨o,n,e,_⟩:=p.ob;exact JD (Jp e)
 have D:f.length=bs.length:=by rw[<- r.length,Je]
 refine call_all_walk (x6 p ⟨s.heap.objs.size,[s.heap.objs.size,a],[s.heap.objs.size],_,_,_,λi=>bs.getD i true,rfl,kr (show X.A.in1.handled=none from I.ok.hd F) b _ a m f.toArray,?_,?_,?_⟩)
 ·refine⟨?_,p.mv λo e=>J8 _ e⟩
  cases b<;>exact⟨_,Js _ rfl,rfl,rfl⟩
 ·intro i v L N O B G
  have g:f[i]?=some v:=by simpa using B
  have hi:=(Jb.mp g).1
  have e:(List.map V.bl bs)[i]?=some (V.bl (bs.getD i true)):=by
   rw[JG,Ja,J7 (by simp_all)];rfl
  obtain⟨K,t,l⟩:=r.get e;rw[g]at t;obtain rfl:=Jq t;obtain rfl:v=Value.bool (bs.getD i true):=l;exact YC G
 ·intro M w E
  refine⟨.bl (bs.all id),H,I.kept (t':=w) λc o e=>E c o ?_ (J8 _ e),?_,q⟩
  ·exact λz=>JD (Jp e) (Jd.mp z)
  ·show Value.bool _=Value.bool _
   congr 1
   rw[Jh,D,Ya,Yc,Yc];constructor
   ·intro h x A
    obtain⟨j,k,e⟩:=Wp A;have d:=h j (Y2.mpr k);rw[Ja,J7 k]at d;rw[<- e];exact d
   ·intro h j k
    rw[Ja,J7 (Y2.mp k)];exact h _ (JR _)
theorem y9:CallR X (.builtin "isinstance") (λvs H Q=>∃ x T t k,vs=[x,.ty T]/\TyOf X.K H x t/\PySem.W.kitOne X.K t (.type T)=some k/\Q (.bl k) H):=by
 intro pins s σ H vs g Q I c h;obtain⟨x,T,t,k,rfl,e,f,q⟩:=h;obtain⟨u,v,rfl,d,a⟩:=c.two;cases (show v=Value.type T from a);exact gE I d e f λb=>⟨.bl k,H,I.tok b,rfl,q⟩
theorem zbq (ns ms:List Int):((List.range (min (ns.map V.int).length (ms.map V.int).length)).all (λj=>eqV ((ns.map V.int).getD j .non) ((ms.map V.int).getD j .non)) && (ns.map V.int).length == (ms.map V.int).length)=decide (ns=ms):=by
 rw[Ya,Yx,Yc,Wv,beq_iff_eq,Je,Je]
 have at':∀ (l:List Int) (j:Nat) (h:j<l.length),(l.map V.int).getD j .non=.int l[j]:=λl j h=>by
  rw[Ja,JG,J7 h];rfl
 constructor
 ·rintro⟨h,e⟩
  refine ZC e λj d c=>?_;have:=h j (Y2.mpr (by simp_all));rw[at' ns j d,at' ms j c]at this;simpa [eqV] using this
 ·rintro rfl
  refine⟨λj b=>?_,rfl⟩;have a:j<ns.length:=by have:=Y2.mp b;simp_all
  rw[at' ns j a];simp[eqV]
theorem qS (ns:List Int):(ns.map V.int).all wK=true:=by
 rw[List.all_map,Yc];intro _ _;rfl
theorem zD {H:Hp}{p:JI}(h:H p=none)(o:HO):Same H (upd H p o):=λb u q=>by rw[zK (zJ q h)];exact q
def zb2 (N N':List Str)(sc scope:Scope)(cap:List (Option Nat)):Bool :=
 decide (scope.kind=.function) && (scope.names.all λy=>decide (y.2≠.cell) && (decide (y.2≠.local) || decide (scope.names.lookup y.1=some .local)) &&
  (decide (y.2≠.free) || (decide (sc.names.lookup y.1=some .cell) || decide (sc.names.lookup y.1=some .free)))) && decide (cap.length=N'.length) &&
 ((N'.zip cap).all λp=>match p.2 with
  | none=>true
  | some i=>decide (N[i]?=some p.1) && (decide (scope.names.lookup p.1=some .free) && (decide (sc.names.lookup p.1=some .cell) || decide (sc.names.lookup p.1=some .free))))
theorem CapOk.of {N N':List Str}{sc scope:Scope}{cap:List (Option Nat)}(h:zb2 N N' sc scope cap=true):CapOk N N' sc scope cap:=by
 unfold zb2 at h;simp only[Yx,Yc,Wk,YY]at h;obtain⟨⟨⟨g,b⟩,f⟩,d⟩:=h;refine⟨g,λy a=>(b y a).1.1,λy a e=>?_,λy a e=>?_,f,λp c i e=>?_⟩
 ·rcases (b y a).1.2 with z|z
  ·exact absurd e z
  ·exact z
 ·rcases (b y a).2 with z|z
  ·exact absurd e z
  ·exact z
 ·have q:=d p c
  rw[e]at q;simp only[Yx,Wk,YY]at q;exact q
def Nx (n i:Nat)(p:Prop):Prop:=∃ a,a<n-i/\a=n-(i+1)/\i+1<=n/\p
theorem nx {n i:Nat}{p:Prop}(h:i<n)(q:p):Nx n i p:=⟨n-(i+1),by lia,rfl,h,q⟩
theorem ng {lo:Int}{n:Nat}{g:TG}{d:TE}{l:JI}{σ:St}{H:Hp}{Q:VK}(a:Nat->List V->St->Hp->Prop)(k:a 0 [] σ H)(j:∀ i acc σ H,a i acc σ H->H l=some (.lst acc))(h:∀ i acc σ H,i<n->a i acc σ H->g (.int (lo+i)) σ H λb o=>d b o λy f=>f l=some (.lst acc)/\acc.length<sizeLine/\Nx n i (a (i+1) (acc++[y]) b (upd f l (.lst (acc++[y])))))(hd:∀ acc σ H,a n acc σ H->Q (.ref l) H):∃ W:Nat->Nat->List V->St->Hp->Prop,(∃ m,W 0 m [] σ H)/\LCW (Itr lo n) g mU d l Q W:=by
 refine⟨λi m acc σ H=>m=n-i/\i<=n/\a i acc σ H,⟨n,by simp,JN _,k⟩,?_⟩;rintro i m acc σ H ⟨rfl,hi,p⟩;refine⟨j i acc σ H p,?_⟩;by_cases c:i<n
 ·refine .inr ⟨c,λx q ⟨e,y⟩=>?_⟩
  subst e y;exact h i acc σ _ c p
 ·have e:i=n:=by lia
  subst e;exact .inl ⟨Jf _,hd acc σ H p⟩
theorem n4 {K:Jl}{b:Bool}{a:JI}{xs:List V}{g:TG}{l:TS}{D:Ends}{σ:St}{H:Hp}(c:Nat->St->Hp->Prop)(v:c 0 σ H)(s:∀ i σ H,i<=xs.length->c i σ H->SqB b K H a xs)(r:∀ i x σ H T,xs[i]?=some x->H T=none->c i σ H->g (.ref T) σ (upd H T (.tup [.int i,x])) λf k=>l { D with nx:=c (i+1),ct:=c (i+1),bk:=D.nx } f k)(t:∀ σ H,c xs.length σ H->D.nx σ H) :
  ∃ W:Nat->Nat->St->Hp->Prop,(∃ m,W 0 m σ H)/\∀ i m σ H,W i m σ H ->
   ((Ite K b a).stop i H/\D.nx σ H)\/((Ite K b a).go i H/\∃ N:St->Hp->Prop,(∀ h d,N h d->∃ n,n<m/\W (i+1) n h d)/\∀ x d,(Ite K b a).yld i H x d->g x σ d λf k=>l { D with nx:=N,ct:=N,bk:=D.nx } f k):=by
 refine⟨λi m σ H=>m=xs.length-i/\i<=xs.length/\c i σ H,⟨xs.length,by simp,JN _,v⟩,?_⟩;rintro i m σ H ⟨rfl,hi,p⟩;have q:=s i σ H hi p;by_cases j:i<xs.length
 ·refine .inr ⟨⟨xs,xs[i],q,J7 j⟩,c (i+1),λh d o=>⟨xs.length-(i+1),by lia,rfl,j,o⟩,λx d ⟨y,w,T,u,z,e2⟩=>?_⟩
  subst z e2;exact r i y σ H T (w xs q) u p
 ·have e:i=xs.length:=by lia
  subst e;exact .inl ⟨⟨xs,q,rfl⟩,t σ H p⟩
def zcA (K:Jl):R2:=λx y H Q=>∃ a b d c,x=.ref a/\y=.ref b/\SqT K H a d/\SqT K H b c/\d.all wK=true/\c.all wK=true/\Q (.bl ((List.range (min d.length c.length)).all (λj=>eqV (d.getD j .non) (c.getD j .non)) && d.length == c.length)) H
theorem zaW (D:X.A.units<cLine):OpR X (compareOp .Eq) (zcA X.K):=by
 intro pins s σ H x y v u Q I w t h;obtain⟨a,b,k,i,rfl,rfl,F,E,N,M,q⟩:=h;cases w;cases t;obtain⟨g,m,C,_⟩:=I.tuple F;obtain⟨f,l,B,_⟩:=I.tuple E;have o:=m.length;have n:=l.length;refine SeqAt.RcAt.tuples (e:=λj=>eqV (k.getD j .non) (i.getD j .non)) C B D (λj J G=>?_) X.prog X.w _ _ ?_
 ·have d:j<k.length:=by simpa [o] using J
  have c:j<i.length:=by simpa [n] using G
  obtain⟨r,O,A⟩:=m.get (J7 d);obtain⟨p,e2,z⟩:=l.get (J7 c);have L:g.toArray[j]=r:=by simpa using (Jb.mp O).2
  have K:f.toArray[j]=p:=by simpa using (Jb.mp e2).2
  rw[L,K,Ja,Ja,J7 d,J7 c];exact kX A z (Yc.mp N _ (JR d)) (Yc.mp M _ (JR c))
 ·rw[Jh,Jh,<- o,<- n]
  exact⟨.bl _,H,I,rfl,q⟩
theorem nu {ns:List Int}{i:Nat}(h:i<ns.length):ns.getD i 0∈ns:=by
 rw[Ja,J7 h];exact JR h
end
end L2
namespace L2
open PySem PySem.Spec PyProof.Rows Own
section
variable {X:Cx}
theorem aE:OpR X (compareOp .IsNot) (λx y H Q=>∃ c d:Bool,x=.bl c/\y=.bl d/\Q (.bl (!(c == d))) H):=by
 intro pins s σ H x y v u Q I b a h;obtain⟨c,d,rfl,rfl,q⟩:=h;cases b;cases a;exact wpAny_isNot_plain rfl (yG I q (by cases c<;>cases d<;>rfl))
end
theorem sR {K:Jl}{a:JI}{xs:List V}{g:TG}{h:TE}{l:JI}{σ:St}{H:Hp}{Q:VK}(b:Nat->List V->St->Hp->Prop)(q:b 0 [] σ H)(o:∀ i acc σ H,b i acc σ H->H l=some (.lst acc)/\SqT K H a xs)(n:∀ i x acc σ H,xs[i]?=some x->b i acc σ H->g x σ H λc r=>h c r λy j=>j l=some (.lst acc)/\acc.length<sizeLine/\Nx xs.length i (b (i+1) (acc++[y]) c (upd j l (.lst (acc++[y])))))(hd:∀ acc σ H,b xs.length acc σ H->Q (.ref l) H):∃ W:Nat->Nat->List V->St->Hp->Prop,(∃ m,W 0 m [] σ H)/\LCW (Itt K a) g mU h l Q W:=by
 refine⟨λi m acc σ H=>m=xs.length-i/\i<=xs.length/\b i acc σ H,⟨_,rfl,JN _,q⟩,?_⟩;rintro i m acc σ H ⟨rfl,hi,p⟩;obtain⟨k,d⟩:=o i acc σ H p;refine⟨k,?_⟩;by_cases f:i<xs.length
 ·refine .inr ⟨⟨xs,xs[i],d,J7 f⟩,λx s ⟨e,y⟩=>?_⟩
  subst e;exact n i x acc σ _ (y xs d) p
 ·obtain rfl:i=xs.length:=by lia
  exact .inl ⟨⟨xs,d,Jf _⟩,hd acc σ H p⟩
theorem qK {lo:Int}{n:Nat}{g:TG}{tt:TT}{f:TE}{l:JI}{σ:St}{H:Hp}{Q:VK}(c:Nat->List V->St->Hp->Prop)(q:c 0 [] σ H)(o:∀ i acc σ H,c i acc σ H->H l=some (.lst acc))(k:∀ i acc σ H,i<n->c i acc σ H->g (.int (lo+i)) σ H λa r=>tt a r λb j=>if b=true then f a j λy h=>h l=some (.lst acc)/\acc.length<sizeLine/\Nx n i (c (i+1) (acc++[y]) a (upd h l (.lst (acc++[y])))) else Nx n i (c (i+1) acc a j))(hd:∀ acc σ H,c n acc σ H->Q (.ref l) H):∃ W:Nat->Nat->List V->St->Hp->Prop,(∃ m,W 0 m [] σ H)/\LCW (Itr lo n) g tt f l Q W:=by
 refine⟨λi m acc σ H=>m=n-i/\i<=n/\c i acc σ H,⟨_,rfl,JN _,q⟩,?_⟩;rintro i m acc σ H ⟨rfl,hi,p⟩;refine⟨o i acc σ H p,?_⟩;by_cases d:i<n
 ·refine .inr ⟨d,λx s ⟨e,y⟩=>?_⟩
  subst e y;exact k i acc σ _ d p
 ·obtain rfl:i=n:=by lia
  exact .inl ⟨Jf _,hd acc σ H p⟩
end L2
namespace L2
open PySem PySem.Spec PyProof.Rows Own
section
variable {prog:Yo}{w:YI}{A:YO}{E:Jo->JO->Prop}{s:JO}
theorem mE {Q:List Jo->JO->Prop}{r:JI}{a b c:Int}{t u v:Tok}{n:Nat}(l:A.handled=none)(k:IsRange s.heap r a b c t u v)(sm:Builtin.Range.small a b c=true)(hn:Builtin.Range.rangeSize a b c=n)(hlen:n<=2 ^ 24)(q:∀ (h':YP) (tk:Nat) (acc:Array Jo),(∀ b o,s.heap.get? b=some o->h'.get? b=some o)->ItemsOf (λi v=>∃ t,v=.int (a+i*c) t) acc n->Q acc.toList { s with heap:=h',toks:=tk }):wpAny (model prog w) A (collect (.ref r)) Q E s:=by
 have key:∀ R:Result->JO->Prop,(∀ (h':YP) (tk:Nat) (acc:Array Jo) (f:Nat),(∀ b o,s.heap.get? b=some o->h'.get? b=some o)->h'.get? s.heap.objs.size=some { cls:=.type "list",data:=.seq acc f }->ItemsOf (λi v=>∃ t,v=.int (a+i*c) t) acc n->R (.ok (.ret (.ref s.heap.objs.size))) { s with heap:=h',toks:=tk }) ->
   codeAny (model prog w) A (.builtin "proto.collect" ⟨[.ref r],[]⟩) R s:=by
  intro R p;have j:=λz=>Zy (A:=A) F.plain_proto_collect z;have h:=λz=>Zy (A:=A) F.plain_list_iadd z;refine ZR F.entry_proto_collect ?_;rw[j];refine J0 (m:=newList []) (JJ (J9 ⟨Wd F.plain_list_iadd _,ZR F.entry_list_iadd ?_⟩));rw[h];have x:(s.heap.push { cls:=.type "list",data:=.seq ([]:List Jo).toArray }).get? s.heap.objs.size=some { cls:=.type "list",data:=.seq #[] 0 }:=Js _ rfl;exact wpAny_extend_range (s:={ s with heap:=s.heap.push { cls:=.type "list",data:=.seq ([]:List Jo).toArray } }) l (J8 _ k) sm hn hlen s.heap.objs.size (.ref s.heap.objs.size) _ x λh' tk d f g e it=>p h' tk d f (λb o z=>g b o (JD (Jp z)) (J8 _ z)) e it
 unfold collect;exact J0 (wpAny_runValue (key _ λh' tk acc f g e it=>J0 (m:=load s.heap.objs.size) (wpAny_load e (J9 (q h' tk acc g it)))))
theorem rS (r:JI)(a b c:Int)(t u v:Tok)(n:Nat)(sm:Builtin.Range.small a b c=true)(hn:Builtin.Range.rangeSize a b c=n)(hlen:n<=2 ^ 24) :
  Meets (Builtin.«tuple.__new__» ⟨[.type "tuple",.ref r],[]⟩) (λA R s=>A.handled=none/\IsRange s.heap r a b c t u v/\∀ (h':YP) (tk:Nat) (acc:Array Jo),(∀ b o,s.heap.get? b=some o->h'.get? b=some o)->ItemsOf (λi v=>∃ t,v=.int (a+i*c) t) acc n ->
   R (.ok (.ret (.ref h'.objs.size))) { s with heap:=h'.push { cls:=.type "tuple",data:=.seq acc },toks:=tk }) :=
 .of_wp λprog w A R s h=>by
  obtain⟨f,d,h⟩:=h;have p:=sub_tuple_self;have l:=init_tuple_lookup;have k:=madeHere_tuple;have j:s.TypeIs (.ref r) "range":=⟨_,d,rfl⟩;have g:A.in1.handled=none:=f
  wp_walk using Za j,mE g d sm hn hlen
  intro h' tk acc e it;rw[show acc.toList.toArray=acc by simp];exact J0 (m:=Builtin.Tuple.tupleExact acc) (JJ (J9 ⟨_,rfl,h h' tk acc e it⟩) (by show acc.size<=sizeLine;rw[it.1,JB];exact hlen))
theorem oG {Q:Jo->JO->Prop}{r:JI}{a b c:Int}{t u v:Tok}{n:Nat}(f:A.handled=none) (e:IsRange s.heap r a b c t u v) (sm:Builtin.Range.small a b c=true) (hn:Builtin.Range.rangeSize a b c=n) (hlen:n<=2 ^ 24)
  (q:∀ (h':YP) (tk:Nat) (acc:Array Jo),(∀ b o,s.heap.get? b=some o->h'.get? b=some o)->ItemsOf (λi v=>∃ t,v=.int (a+i*c) t) acc n->Q (.ref h'.objs.size) { s with heap:=h'.push { cls:=.type "tuple",data:=.seq acc },toks:=tk }) :
  wpAny (model prog w) A (call (.type "tuple") [.ref r]) Q E s :=
 callType_new F.called_tuple (by decide) (F.typeCall_tuple_1 _) (F.newCall_tuple_1 _) (λobj=>F.args_object_init_2 obj _) F.entry_tuple_new (rS r a b c t u v n sm hn hlen) ⟨f,e,λh' tk acc d it=>⟨⟨_,Js _ rfl,rfl⟩,q h' tk acc d it⟩⟩
end
def rO (n:Nat):List V:=(List.range n).map λ(i:Nat)=>V.int i
theorem vH {acc:Array Jo}{n:Nat}(h:ItemsOf (λi v=>∃ t,v=Value.int (0+i*1) t) acc n):Vals (rO n) acc.toList:=by
 obtain⟨d,c⟩:=h
 have go:∀ (l:List Jo) (k:Nat),(∀ (j:Nat) (v:Jo),l[j]?=some v->∃ t,v=Value.int ((k+j:Nat):Int) t)->Vals ((List.range l.length).map λ(i:Nat)=>V.int ((k+i:Nat):Int)) l:=by
  intro l
  induction l with
  | nil=>intro k _;exact .nil
  | cons x l ih =>
   intro k b;rw[JW,List.range_succ_eq_map,JY,ZD];refine .cons (by obtain⟨t,e⟩:=b 0 x rfl;exact⟨t,e⟩) ?_
   have:=ih (k+1) λj v a=>by
    obtain⟨t,e⟩:=b (j+1) v (by simpa using a);exact⟨t,by rw[e];congr 1;lia⟩
   refine cast (JS (λz=>Vals z l) (Wq λi _=>?_)) this;show V.int ((k+1+i:Nat):Int)=V.int ((k+(i+1):Nat):Int)
   congr 2;lia
 have:=go acc.toList 0 λj v a=>by
  obtain⟨t,e⟩:=c j v (by simpa using a);exact⟨t,by rw[e];congr 1;simp_all⟩
 rw[JA,d]at this;unfold rO;refine cast (JS (λz=>Vals z acc.toList) (Wq λi _=>?_)) this;show V.int ((0+i:Nat):Int)=V.int (i:Int);rw[Zp]
theorem oQ (n:Nat):(rO n).length=n:=by simp[rO]
section
variable {X:Cx}
def fJ (b:Bool)(d:TA):TE:=λσ H Q=>d σ H λc a=>∃ j:Nat,c=[.int j]/\j<=100000/\∀ l,a l=none->Q (.ref l) (upd a l (if b=true then .lst (rO j) else .tup (rO j)))
theorem oX {j:Nat}(h:j<=100000):Builtin.Range.small 0 (j:Int) 1=true:=small_one (by simp_all) (by simp_all) (by simp_all) (by lia)
theorem kw {j:Nat}:Builtin.Range.rangeSize 0 (j:Int) 1=((j:Nat):Int):=by rw[rangeSize_one];split<;>simp_all
theorem qC {a:Expr}{x:TA}{p i pos c:Pos}(F:X.calm=true) (w:Gl X "list") (r:X.mg "list" = none) (v:Gl X "range") (m:X.mg "range" = none) (ha:PA X [a] x) (E:starEach [a] X.env=[(false,eval a X.env)]:=by rfl)
  (d:starEach [.Call (.Name "range" i) [a] [] c] X.env=[(false,eval (.Call (.Name "range" i) [a] [] c) X.env)]:=by rfl):PE X (.Call (.Name "list" p) [.Call (.Name "range" i) [a] [] c] [] pos) (fJ true x):=by
 intro pins s σ H Q I h;refine Zm (xu I w r (u:=.type "list") (by rfl) (Ym ?_ d rfl));rw[d];refine ZW (Call_ (xu I v m boot_range (Ym (thn (ha c pins s σ H _ I h) λL g ⟨K,M,l,A,B⟩=>?_) E rfl)));obtain⟨j,rfl,k,q⟩:=B;obtain⟨u,rfl,t,rfl⟩:=A.one;refine call_range_1 (Wz ?_);refine call_list_range (n:=j) (l.ok.hd F) (IsRange.new ..) (oX k) kw (JK k (by decide)) λG y f J C e it=>?_;have D:∀ b o,g.heap.get? b=some o->G.get? b=some o:=λb o z=>C b o (J8 _ z);refine⟨.ref _,_,l.laid (t':=y) (o:=.lst (rO j)) D ?_ ⟨by rw[oQ];exact JK k (by decide),f.toList,J,vH it,by simpa using e⟩,rfl,q _ (l.hok.fresh ?_)⟩
 all_goals (show g.heap.objs.size<=(g.heap.push _).objs.size;rw[YW];exact Nat.le_succ _)
theorem uS {a:Expr}{w:TA}{p f pos c:Pos}(G:X.calm=true) (r:Gl X "tuple") (l:X.mg "tuple" = none) (m:Gl X "range") (k:X.mg "range" = none) (ha:PA X [a] w) (F:starEach [a] X.env=[(false,eval a X.env)]:=by rfl)
  (d:starEach [.Call (.Name "range" f) [a] [] c] X.env=[(false,eval (.Call (.Name "range" f) [a] [] c) X.env)]:=by rfl):PE X (.Call (.Name "tuple" p) [.Call (.Name "range" f) [a] [] c] [] pos) (fJ false w):=by
 intro pins s σ H Q I h;refine Zm (xu I r l (u:=.type "tuple") (by rfl) (Ym ?_ d rfl));rw[d];refine ZW (Call_ (xu I m k boot_range (Ym (thn (ha c pins s σ H _ I h) λL x ⟨K,J,A,B,C⟩=>?_) F rfl)));obtain⟨j,rfl,g,q⟩:=C;obtain⟨u,rfl,t,rfl⟩:=B.one;refine call_range_1 (Wz ?_);refine oG (n:=j) (A.ok.hd G) (IsRange.new ..) (oX g) kw (JK g (by decide)) λi v acc D it=>?_;have E:∀ b o,x.heap.get? b=some o->i.get? b=some o:=λb o z=>D b o (J8 _ z);have y:Inv X pins σ J { x with heap:=i,toks:=v }:=A.kept E;refine⟨.ref i.objs.size,_,y.laid (t':=v) (o:=.tup (rO j)) (λb o e=>J8 _ e) (Jf _) ⟨by rw[oQ];exact JK g (by decide),acc.toList,vH it,?_⟩,rfl,q _ (y.hok.fresh (Jf _))⟩;exact⟨_,Js _ rfl,rfl,0,by simp,rfl⟩
theorem de (g:X.A.units<cLine):OpR X (compareOp .NotEq) (λx y H Q=>∃ a b xs,x=.ref a/\y=.ref b/\SqL X.K H a xs/\SqL X.K H b []/\Q (.bl (!xs.isEmpty)) H):=by
 intro pins s σ H x y v u Q I k i h;obtain⟨a,b,xs,rfl,rfl,o,n,q⟩:=h;cases k;cases i;obtain⟨r,c,f,_⟩:=I.list o;obtain⟨p,l,d,_⟩:=I.list n;cases l;have m:=c.length
 cases xs with
 | nil =>
  cases c
  exact SeqAt.RcNeAt.lists (e:=λ_=>true) f.isList d.isList rfl g (λj h=>absurd h (Zr _)) X.prog X.w _ _ ⟨.bl _,H,I,rfl,q⟩
 | cons z t =>
  exact SeqAt.RcNeAt.lists_lengths f.isList d.isList (by rw[Jh,<- m];simp) g X.prog X.w _ _ ⟨.bl _,H,I,rfl,q⟩
theorem kG (l:JI) (o:Obj) (items:Array Jo) (n:Nat) (x:Jo) (j:Nat) (E:o.cls=.type "tuple") (hd:o.data=.seq items n) (e:Nat->Bool) (y:∀ i,i<j->e i=false) (v:e j=true) (D:j<items.size) :
  Meets (Builtin.«tuple.index» ⟨[.ref l,x],[]⟩) (λA R s=>s.heap.get? l=some o/\(∀ i (h:i<items.size),SeqAt.EqAt A.in1 s items[i] x (e i))/\R (.ok (.ret (.int j s.toks))) { s with toks:=s.toks+1 }) :=
 .of_wp λprog w A R s h=>by
  cases s with
  | mk m z C g os =>
  obtain⟨p,t,h⟩:=h;unfold Builtin.«tuple.index»;simp only[Std.Legacy.Range.forIn_eq_forIn_range']
  wp_walk using Yj p hd,wpAny_forIn_list _ (λrest b c=>c=⟨m,z,C,g,os⟩/\b.1=none/\∃ i,i<=j/\rest=List.range' i (items.size-i)) _
  case turn =>
   rintro i rest b c ⟨rfl,u,d,hi,a⟩;have k:items.size-d=(items.size-(d+1))+1:=by grind
   rw[k,List.range'_succ]at a;injection a with B e2;subst B;have f:i<items.size:=by lia
   have r:items[i]?=some items[i]:=by simp[f]
   simp only[r];refine J0 (t i f prog w _ _ ?_);by_cases q:i=j
   ·subst q;rw[v];wp_walk;exact⟨_,rfl,h⟩
   ·rw[y i (by lia)];wp_walk;exact⟨rfl,rfl,i+1,by lia,e2⟩
  case fin =>
   rintro b c ⟨rfl,u,d,hi,a⟩;have:=JS List.length a;simp at this;omega
  case h=>exact⟨rfl,rfl,0,JN _,by simp[Std.Legacy.Range.size]⟩
theorem sW:∀ {ns:List Int}{k:Int}{i:Nat},i<ns.idxOf k->(ns.getD i 0 == k)=false
 | [],k,i,h=>by simp at h
 | n::ns,k,i,h=>by
  rw[List.idxOf_cons]at h
  cases e:n == k with
  | true=>rw[e]at h;simp at h
  | false =>
   rw[e]at h;simp only[cond_false]at h
   cases i with
   | zero=>exact e
   | succ i=>exact sW (ns:=ns) (i:=i) (by simp_all)
def zbt (to:TE)(t:TA):TE:=λσ H Q=>to σ H λx c=>∃ a ns,x=.ref a/\c a=some (.tup (List.map V.int ns))/\t σ c λd b=>∃ k:Int,d=[.int k]/\b a=some (.tup (List.map V.int ns))/\k∈ns/\Q (.int (ns.idxOf k:Nat)) b
theorem aB {o e:Expr}{to:TE}{t:TA}{apos cpos:Pos}(hu:X.A.units+64<cLine) (S:PE X o to) (ha:PA X [e] t)
  (d:attributeBase o "index" X.env (eval o X.env)=eval o X.env:=by rfl)
  (j:((backTo cpos (starEach [e] X.env)).all (λx=>!x.1) && (backToKw cpos (keywordEach [] X.env)).all (λx=>x.1.isSome) && decide ([e].length+([]:List Keyword).length+(if ([]:List Keyword).isEmpty then 0 else 1)<30))=true:=by rfl)
  (c:(apos.endLine == cpos.line)=true:=by rfl) (R:starEach [e] X.env=(false,eval e X.env)::starEach [] X.env:=by rfl):PE X (.Call (.Attribute o "index" apos) [e] [] cpos) (zbt to t):=by
 intro pins s σ H Q I h;refine wpAny_Call_method_late d j c rfl (thn (S pins s σ H _ I h) λv n ⟨x,D,B,K,a,ns,ex,P,L⟩=>?_);subst ex;cases K;obtain⟨_,ao,_,⟨ob,y,Z,n1,d1,M⟩⟩:=(show ObjOk X.prog X.w D n.heap a (.tup (List.map V.int ns)) from B.hok a _ P);refine⟨"tuple","tuple.index",PySem.F.plainAttrs_tuple,PySem.F.slot_tuple_index,PySem.F.type_tuple_index,⟨ob,y,Z⟩,λa' W=>by cases W;exact⟨ob,y,M⟩,?_⟩;have w:=ha cpos pins n σ D _ B L;rw[R]at w ⊢;refine ZZ rfl (Calls.evalArgs_plain ?_);refine thn w λus G ⟨vs,C,A,J,k,ev,l,O,q⟩=>?_;subst ev;obtain⟨u,rfl,E,rfl⟩:=J.one;obtain⟨_,b,p,⟨f,g,z,N,Y,ab⟩⟩:=(show ObjOk X.prog X.w C G.heap a (.tup (List.map V.int ns)) from A.hok a _ l);have hlen:b.toArray.size=ns.length:=by rw[Jh,<- p.length,Je]
 have r:=Ws O
 refine Wu PySem.F.slot_tuple_index ⟨f,g,z⟩ PySem.F.entry_tuple_index (PySem.F.args_tuple_index_2 _ _)
  (kG a f b.toArray N (.int k E) (ns.idxOf k) z Y (λi=>ns.getD i 0 == k) (λi hi=>?_) ?_ (by rw[hlen];exact r)) ⟨g,λi hi=>?_,?_⟩
 ·exact sW hi
 ·rw[Ja,J7 r]
  simp
 ·have m:i<ns.length:=by rw[<- hlen];exact hi
  obtain⟨w1,U,F,rfl⟩:=p.get (show (List.map V.int ns)[i]?=some (V.int (ns.getD i 0)) by rw[JG,Ja,J7 m];rfl);have T:b.toArray[i]=.int (ns.getD i 0) F:=by simpa using (Jb.mp U).2
  rw[T];exact(MeetsSeq.EqGives.int _ _ _ _).at _ _
 ·exact⟨.int _,C,A.tok _,⟨_,rfl⟩,q⟩
theorem nN:fillsNumberSlot (.type "tuple") "mul" = pure false :=
 PySem.fillsNumberSlot_seq (id:="tuple.__mul__") (r:=some (.builtin "tuple.__rmul__")) F.slot_tuple_mul.lookup (by decide +kernel) F.slot_tuple_rmul.lookup (by decide +kernel)
theorem lQ:seqRepeat? (.type "tuple")=pure (some (.builtin "tuple.__mul__")):=by
 unfold seqRepeat?;rw[PySem.seqSlot_of (T:="tuple") (name:="__mul__") (id:="tuple.__mul__") F.slot_tuple_mul.lookup (by decide +kernel),PySem.seqSlot_of (T:="tuple") (name:="__rmul__") (id:="tuple.__rmul__") F.slot_tuple_rmul.lookup (by decide +kernel)];rfl
theorem bI (a:Int)(t:Tok)(l:JI)(c:Option JI)(sl:Array (Option Jo))(items:Array Jo)(n:Nat) :
  Meets (Builtin.«int.__rmul__» ⟨[.int a t,.ref l],[]⟩) (λ_ R s=>s.heap.get? l=some { cls:=.type "tuple",dict:=c,data:=.seq items n,slots:=sl }/\R (.ok (.ret Value.notImplemented)) s) :=
 .of_wp λprog w A R s h=>by
  cases s;obtain⟨b,h⟩:=h
  wp_walk using WA b
  exact⟨_,rfl,h⟩
theorem kF (l:JI) (o:Obj) (x:Jo) (n k:Nat) (t:Tok) (r:o.cls=.type "tuple") (hd:o.data=.seq #[x] n) (E:k<=100000) :
  Meets (Builtin.«tuple.__mul__» ⟨[.ref l,.int k t],[]⟩) (λ_ R s=>s.heap.get? l=some o /\
   (k=1->R (.ok (.ret (.ref l))) s)/\(k≠1->R (.ok (.ret (.ref s.heap.objs.size))) { s with heap:=s.heap.push { cls:=.type "tuple",data:=.seq (List.replicate k x).toArray } })) :=
 .of_wp λprog w A R s h=>by
  cases s with
  | mk q u z j os =>
  obtain⟨b,v,f⟩:=h;have ty:Shared.TypeIs ⟨q,u,z,j,os⟩ (.ref l) "tuple":=⟨o,b,r⟩
  wp_walk using Yj b hd,Za ty
  have D:¬(decide ((k:Int) < -2 ^ 63) || decide ((k:Int)>=2 ^ 63))=true:=by
   rw[Jn (by simp_all),Jn (by lia)];exact Jm
  rw[Jg D]
  wp_walk using Yj b hd,Za ty
  by_cases a:k=1
  ·have d:((#[x]:Array Jo).isEmpty || (k:Int) == 1)=true:=by subst a;rfl
   rw[Jj d]
   wp_walk using Za ty
   exact⟨_,rfl,v a⟩
  ·have d:¬((#[x]:Array Jo).isEmpty || (k:Int) == 1)=true:=by
    have:((k:Int) == 1)=false:=by rw[Zf];lia
    rw[this];exact Jm
   rw[Jg d]
   have y:∀ (m:Nat) (acc:Array Jo),(List.foldl (λi g=>i++g) acc (List.replicate m #[x]))=acc++(List.replicate m x).toArray:=λm=>by
    induction m with
    | zero=>intro acc;simp
    | succ m ih=>intro acc;rw[Yn,List.foldl_cons,ih,Yn];apply Array.ext';simp
   by_cases p:k=0
   ·subst p
    have c:(decide (((0:Nat):Int)<=0) || (#[x]:Array Jo).isEmpty)=true:=rfl;rw[Jj c]
    wp_walk
    exact⟨_,rfl,f (by decide)⟩
   ·have c:¬(decide ((k:Int)<=0) || (#[x]:Array Jo).isEmpty)=true:=by
     rw[Jn (by simp_all)];exact Jm
    have C:¬(((#[x]:Array Jo).size:Int)*(k:Int) > (2 ^ 63-1) / 8):=by
     show ¬((1:Int)*(k:Int) > (2 ^ 63-1) / 8);lia
    have B:¬ Builtin.Tuple.tupleTooMany (((#[x]:Array Jo).size:Int)*(k:Int))=true:=by
     unfold Builtin.Tuple.tupleTooMany;show ¬ decide ((1:Int)*(k:Int) > (sizeLine:Int))=true;rw[Jn (by rw[JB];lia)];exact Jm
    rw[Jg c,Jg C,Jg B,Y3,y];refine J0 (m:=Builtin.Tuple.tupleExact _) (JJ (J9 ⟨_,rfl,?_⟩) ?_)
    ·have e:(#[]++(List.replicate k x).toArray:Array Jo)=(List.replicate k x).toArray:=by simp
     rw[e];exact f a
    ·show (#[]++(List.replicate k x).toArray:Array Jo).size<=sizeLine
     rw[JB];simp;lia
theorem Vals.same {v:V}{u:Jo}(r:RelV v u):∀ k:Nat,Vals (List.replicate k v) (List.replicate k u)
 | 0=>.nil
 | k+1=>by rw[Yn,Yn];exact .cons r (Vals.same r k)
theorem uA:OpR X (binaryOp .Mult) (λx y H Q=>∃ a v,∃ k:Nat,x=.ref a/\y=.int k/\H a=some (.tup [v])/\k<=100000/\∀ r H',Same H H'->H' r=some (.tup (List.replicate k v))->Q (.ref r) H'):=by
 intro pins s σ H x y J G Q I A w h;obtain⟨a,v,k,rfl,rfl,j,D,q⟩:=h;cases A;obtain⟨t,rfl⟩:=w;obtain⟨_,E,r,⟨⟨c,K,d,n⟩,f,m,i,l,g⟩⟩:=(show ObjOk X.prog X.w H s.heap a (.tup [v]) from I.hok a _ j);simp only at m l g;subst m l g;obtain⟨u,rfl,B⟩:=r.one
 refine wpAny_binaryOp_repeat_ref (T:="tuple") (U:="int") (by decide) ⟨_,f,rfl⟩ (λp=>typeIs_int p k t) nN F.fills_int_mul F.slot_int_rmul lQ F.slot_int_index.lookup
  (Wu F.slot_int_rmul (typeIs_int s k t) F.entry_int_rmul (F.args_int_rmul_2 _ _) (bI k t a none n _ i)
   ⟨f,rfl,⟨_,f,rfl⟩,Wu F.slot_tuple_mul ⟨_,f,rfl⟩ F.entry_tuple_mul (F.args_tuple_mul_2 _ _) (kF a _ u i k t rfl rfl D) ⟨f,λe=>?_,λe=>?_⟩⟩)
 ·subst e
  exact⟨.ref a,H,I,rfl,q a H (Same.refl H) j⟩
 ·have C:(List.replicate k v).length<=sizeLine:=by rw[JX,JB];lia
  exact⟨.ref s.heap.objs.size,_,I.laid (t':=s.toks) (o:=.tup (List.replicate k v)) (λb ob z=>J8 _ z) (Jf _) ⟨C,_,Vals.same B k,TupX.new _ _⟩,rfl,q _ _ (zD (I.hok.fresh (Jf _)) _) zG⟩
end
end L2
namespace Bn
open PySem L2 Own
def Tups (H H':Hp):Prop:=∀ a b,H a=some (.tup b)->H' a=some (.tup b)
theorem Tups.trans {H d c:Hp}(x:Tups H d)(y:Tups d c):Tups H c:=λa b e=>y a b (x a b e)
theorem Tups.of {H H':Hp}(s:Same H H'):Tups H H':=λa _ e=>s a _ e
theorem Tups.lst {H:Hp}{l:JI}{xs ys:List V}(h:H l=some (.lst xs)):Tups H (upd H l (.lst ys)):=λa b e=>by
 rw[zK (by rintro rfl;rw[h]at e;cases e)];exact e
def But (l:JI)(H H':Hp):Prop:=∀ b o,H b=some o->b≠l->H' b=some o
theorem But.trans {l:JI}{H c a:Hp}(x:But l H c)(y:But l c a):But l H a:=λb o e n=>y b o (x b o e n) n
theorem But.of {l:JI}{H a:Hp}(x:Same H a):But l H a:=λb o e _=>x b o e
def Prs (H:Hp):List V->List (Nat × Nat)->Prop
 | [],[]=>True
 | p::ps,f::fs=>(∃ a,p=.ref a/\H a=some (.tup [.int f.1,.int f.2]))/\Prs H ps fs
 | _,_=>False
theorem Prs.tups {H H':Hp}(t:Tups H H'):∀ {ps:List V}{fs:List (Nat × Nat)},Prs H ps fs->Prs H' ps fs
 | [],[],_=>trivial
 | _::_,_::_,⟨⟨a,e,h⟩,r⟩=>⟨⟨a,e,t _ _ h⟩,r.tups t⟩
theorem Prs.len {H:Hp}:∀ {ps:List V}{fs:List (Nat × Nat)},Prs H ps fs->ps.length=fs.length
 | [],[],_=>rfl
 | _::_,_::_,⟨_,r⟩=>JS (· + 1) r.len
theorem Prs.add {H:Hp}{a:JI}{f:Nat × Nat}(h:H a=some (.tup [.int f.1,.int f.2])):∀ {ps:List V}{fs:List (Nat × Nat)},Prs H ps fs->Prs H (ps++[.ref a]) (fs++[f])
 | [],[],_=>⟨⟨a,rfl,h⟩,trivial⟩
 | _::_,_::_,⟨x,r⟩=>⟨x,r.add h⟩
theorem Prs.get {H:Hp}:∀ {ps:List V}{fs:List (Nat × Nat)}{i:Nat}{p:V},Prs H ps fs->ps[i]?=some p->∃ a f,p=.ref a/\fs[i]?=some f/\H a=some (.tup [.int f.1,.int f.2])
 | [],[],_,_,_,e=>by simp at e
 | _::_,f::_,0,p,⟨⟨a,b,h⟩,_⟩,e=>by
  have:_=p:=Jq e;subst this
  exact⟨a,f,b,rfl,h⟩
 | _::_,_::_,i+1,p,⟨_,r⟩,e=>r.get (i:=i) (by simpa using e)
structure Nt where
 lanes:Nat
 forks:List (Nat × Nat)
 ends:List Nat
structure Nt.Ok (N:Nt):Prop where
 l1:1<=N.lanes
 l16:N.lanes<=16
 fm:N.forks.length<=128
 fk:∀ f∈N.forks,f.1<N.lanes/\f.2<N.lanes/\f.1≠f.2
 en:N.ends.Perm (List.range N.lanes)
def zW (es:List Nat):List V:=es.map λ(e:Nat)=>V.int e
structure NetAt (H:Hp) (r fr er:JI) (ps:List V) (N:Nt):Prop where
 net:H r=some (.tup [.int N.lanes,.ref fr,.ref er])
 forks:H fr=some (.tup ps)
 prs:Prs H ps N.forks
 ends:H er=some (.tup (zW N.ends))
theorem NetAt.tups {H H':Hp}{r fr er:JI}{ps:List V}{N:Nt}(t:Tups H H')(h:NetAt H r fr er ps N):NetAt H' r fr er ps N:=⟨t _ _ h.net,t _ _ h.forks,h.prs.tups t,t _ _ h.ends⟩
def yT (st:List Int × List Int)(f:Nat × Nat):List Int × List Int :=
 ((st.1.set f.1 ((st.1.getD f.1 0+st.1.getD f.2 0+1) / 2)).set f.2 ((st.1.getD f.1 0+st.1.getD f.2 0) / 2),st.2++[(st.1.getD f.1 0+st.1.getD f.2 0)%2])
def yg (st:List Int × List Int)(fs:List (Nat × Nat)):List Int × List Int:=fs.foldl yT st
def yM (fs:List (Nat × Nat))(cs:List Int):List Int × List Int:=yg (cs,[]) fs
def yd (N:Nt)(cs:List Int):List Int:=N.ends.map λe=>(yM N.forks cs).1.getD e 0
def xB (N:Nt)(cs:List Int):List Int:=(yM N.forks cs).2
theorem gK (fs:List (Nat × Nat))(f:Nat × Nat)(cs:List Int):yM (fs++[f]) cs=yT (yM fs cs) f:=by
 unfold yM yg;rw[Zt];rfl
theorem yt (st:List Int × List Int)(f:Nat × Nat):(yT st f).1.length=st.1.length:=by simp[yT]
theorem wT:∀ (fs:List (Nat × Nat)) (st:List Int × List Int),(yg st fs).1.length=st.1.length/\(yg st fs).2.length=st.2.length+fs.length
 | [],st=>⟨rfl,rfl⟩
 | f::fs,st=>by
  have h:=wT fs (yT st f);refine⟨h.1.trans (yt st f),h.2.trans ?_⟩;simp[yT];lia
theorem wJ (fs:List (Nat × Nat))(cs:List Int):(yM fs cs).1.length=cs.length:=(wT fs (cs,[])).1
theorem xC (fs:List (Nat × Nat))(cs:List Int):(yM fs cs).2.length=fs.length:=by
 have:=(wT fs (cs,[])).2;simpa [yM] using this
theorem wI {fs:List (Nat × Nat)}{i:Nat}{f:Nat × Nat}(h:fs[i]?=some f)(cs:List Int):yM (fs.take (i+1)) cs=yT (yM (fs.take i) cs) f:=by
 have w:=Jb.mp h;obtain⟨hi,e⟩:=w;rw[Yk hi,gK,e]
theorem vm {xs:List Int}{i p:Nat}{a:Int}(h:p<xs.length):(xs.set i a).getD p 0=if i=p then a else xs.getD p 0:=by
 rw[Ja,List.getElem?_set];by_cases e:i=p
 ·subst e;simp[h]
 ·simp[e]
theorem jZ {N:Nt}(ok:N.Ok){e:Nat}(h:e∈N.ends):e<N.lanes:=Y2.mp (ok.en.mem_iff.mp h)
theorem uE {N:Nt}(ok:N.Ok):N.ends.length=N.lanes:=by rw[ok.en.length_eq,Y7]
theorem wU {cs:List Int}{i:Nat}(h:i<cs.length):atI (cs.map V.int) ((i:Nat):Int)=some (.int (cs.getD i 0)):=by
 refine yJ ?_;rw[JG,Ja,J7 h];rfl
theorem uj {α:Type}{xs:List α}{i:Nat}(h:i<xs.length):ixN xs.length ((i:Nat):Int)=some i:=by
 unfold ixN;rw[Jj (by lia),Jj (by simp_all)];simp
theorem wa (cs:List Int)(i:Nat)(a:Int):(cs.map V.int).set i (.int a)=(cs.set i a).map V.int:=by rw[List.map_set]
structure Mgs (mg:Str->Option Jo):Prop where
 len:mg "len" = none
 range:mg "range" = none
 tuple:mg "tuple" = none
 enum:mg "enumerate" = none
 abs:mg "abs" = none
 zip:mg "zip" = none
 isi:mg "isinstance" = none
 all:mg "all" = none
 sum:mg "sum" = none
 bool:mg "bool" = none
 int:mg "int" = none
 str:mg "str" = none
 max:mg "max" = none
 min:mg "min" = none
 sorted:mg "sorted" = none
 list:mg "list" = none
structure Use (P:Yo) (w:YI) (K:Jl) (mg:Str->Option Jo) (base:YP) (x:Str) (ps:List Str) (k:Nat) (sp:Sp) (f:JI) (fd:Yl):Prop where
 ok:FnOk P w K mg base CX0 k f fd ps sp
 b:Binds K fd ps []
 kp:PySem.W.keepIn K (.ref f)=true
 m:mg x=some (.ref f)
def tu:Sp:=λb H Q _=>∃ r fr e d N c cs,b=[.ref r,.ref c]/\Nt.Ok N/\NetAt H r fr e d N/\H c=some (.tup (List.map V.int cs))/\cs.length=N.lanes /\
 ∀ p lo lt a,Same H a->a p=some (.tup [.ref lo,.ref lt])->a lo=some (.lst ((yM N.forks cs).1.map V.int))->a lt=some (.lst ((yM N.forks cs).2.map V.int))->Q (.ref p) a
def uP:Sp:=λb H Q _=>∃ r fr e d N c cs,b=[.ref r,.ref c]/\Nt.Ok N/\NetAt H r fr e d N/\H c=some (.tup (List.map V.int cs))/\cs.length=N.lanes /\
 ∀ p a,Same H a->a p=some (.tup ((yd N cs).map V.int))->Q (.ref p) a
def Frs (l:JI)(H:Hp)(x:JI):Prop:=∀ b o,H b=some o->b≠l->b≠x
theorem But.frs {l x:JI}{H a:Hp}(B:But l H a)(h:a x=none):Frs l H x:=λb o e n=>zJ (B b o e n) h
theorem But.upd {l x:JI}{H a:Hp}{o:HO}(B:But l H a)(f:Frs l H x):But l H (upd a x o):=λb u e n=>by rw[zK (f b u e n)];exact B b u e n
theorem tK {xs:List Nat}{v:Nat}(h:v<xs.length):∃ n,n∈xs/\atI (zW xs) ((v:Nat):Int)=some (.int n):=by
 refine⟨xs[v],JR h,yJ ?_⟩;unfold zW;rw[JG,J7 h];rfl
theorem zr (es:List Nat):(zW es).length=es.length:=by simp[zW]
theorem da {one d lanes:Nat}(b:one<lanes)(a:d+1<lanes):(one+1+d)%lanes<lanes/\one≠(one+1+d)%lanes:=by
 refine⟨Nat.mod_lt _ (by lia),λe=>?_⟩;by_cases z:one+1+d<lanes
 ·rw[Nat.mod_eq_of_lt z]at e;lia
 ·rw[Nat.mod_eq_sub_mod (by lia),Nat.mod_eq_of_lt (by lia)]at e;lia
end Bn
namespace L2
open PySem
theorem zB {α:Type _}{o:Option (Option α)}{q:α->Prop}(r:match o with|some (some v)=>q v|_=>False):∃ v,o=some (some v)/\q v:=by
 match o,r with
 | some (some v),r=>exact⟨v,rfl,r⟩
theorem zR {α:Sort _}{p q:α->Prop}{a:α}(h:p a)(r:q a):∃ x,p x/\q x:=⟨a,h,r⟩
def okV (N:List Str)(sc:Scope)(i:Nat)(x:Str):Bool:=decide (N[i]?=some x) && (match sc.names.lookup x with|some .local => true|some .cell=>true|some .free=>true|_=>false) && !(x == ("__debug__":Str)) && !(x == ("__classdict__":Str))
theorem pvb {X:Cx}(i:Nat){x:Str}{pos:Pos}(h:okV X.N X.env.scope i x=true):PE X (.Name x pos) (fH i):=by
 unfold okV at h;rw[Yx,Yx,Yx,W6,W6]at h;obtain⟨⟨⟨d,a⟩,c⟩,b⟩:=h;refine dH (YD d) ?_ c b;unfold Vis;split at a
 ·exact .inl ‹_›
 ·exact .inr (.inl ‹_›)
 ·exact .inr (.inr ‹_›)
 ·cases a
theorem zT {X:Cx}{x:Str}{ps:List Str}{k:Nat}{sp:Sp}{f:JI}{fd:Yl}{e:Expr}{es:List Expr}{t:TA}{p pos:Pos}(U:Bn.Use X.prog X.w X.K X.mg X.base x ps k sp f fd) (c:Room k X.A) (ha:PA X (e::es) t)
  (d:Gl X x) (b:(x == ("__debug__":Str))=false) (g:starEach (e::es) X.env=(false,eval e X.env)::starEach es X.env) (a:(backTo pos (starEach es X.env)).any (·.1)=false):PE X (.Call (.Name x p) (e::es) [] pos) (zaf sp [] E0 t) :=
 pS U.ok c d U.m U.kp U.b .nil jC ha b g a
end L2
namespace Bn
open PySem L2 Own
def nm (ns:List Nat)(i:Nat):Nat:=ns.getD i 0
section
variable {ns:List Nat}{n:Nat}(pm:ns.Perm (List.range n))
include pm
end
def ren (ns:List Nat)(f:Nat × Nat):Nat × Nat:=(nm ns f.1,nm ns f.2)
def Nt.ren (N:Nt)(ns:List Nat):Nt:=⟨N.lanes,N.forks.map (Bn.ren ns),N.ends.map (nm ns)⟩
def Nt.again (N:Nt)(f:Nat × Nat):Nt:=⟨N.lanes,N.forks++[f],N.ends⟩
end Bn
namespace L2
open PySem PySem.Spec PyProof.Rows Own
section
variable {prog:Yo}{w:YI}{A:YO}{E:Jo->JO->Prop}{s:JO}
theorem nr {t sl:JI}{items:Array Jo}{f e:Jo}{lo hi:Option Int}{Q:Jo->JO->Prop}(a:IsTup s.heap t items)(g:s.heap.IsSliceOf sl f e .none)(i:IsPart f lo)(pu:IsPart e hi)(k:HT.sIx items.size 0 lo=0)(j:HT.sIx items.size items.size hi=items.size)(h:Q (.ref t) s):wpAny (model prog w) A (getItem (.ref t) (.ref sl)) Q E s:=by
 obtain⟨os,b,c,l⟩:=id g;have d:s.TypeIs (.ref sl) "slice":=⟨os,b,c⟩;unfold getItem
 try with_reducible refine Yf ?_
 first|refine J0 (J9 ?_)|skip
 refine J0 (wpAny_sequenceKey a.typeIs (by decide) (J0 (wpAny_callSpecial?_slot (name:=Str.ofString "__getitem__") a.typeIs YQ (Y5 YQ a.typeIs PyProof.Rows.entry_tuple_getitem ?_ (PyProof.Rows.args_tuple_getitem _ _)))));show wpAny _ _ (Builtin.Tuple.tupleItemsOf (.ref t) >>= _) _ _ s;refine J0 (tupleItemsOf_ a (J0 (Za d ?_)));rw[Jj (by decide)];refine J0 (HT.sliceApplied_gen g i pu ?_);rw[k,j];show wpAny _ _ (if (((0:Nat):Int) == 0 && (1:Int) == 1 && (items.size-0) == items.size)=true then _ else _) _ _ s;rw[Jj (by simp)];refine J0 ?_;unfold Builtin.Tuple.tupleIsExact;refine J0 (Za a.typeIs (J9 ?_));rw[Jj (by decide)];exact J0 (Z1 (J9 ⟨_,rfl,J9 h⟩))
end
end L2
namespace K40
open PySem L2 Own Bn
def top (i:Nat):Stmt:=PySem.Challenge.pw_stairlanes_k40_breaks_looked_at.main.body.getD i (.Pass ⟨0,0,0,0⟩)
end K40
namespace L2
open PySem PySem.Spec PyProof.Rows Own
section
variable {X:Cx}
theorem yi:OpR X (binaryOp .Add) (λx y H Q=>∃ a b xs ys,x=.ref a/\y=.ref b/\H a=some (.tup xs)/\H b=some (.tup ys)/\xs.length+ys.length<=sizeLine/\∀ r H',Same H H'->H' r=some (.tup (xs++ys))->Q (.ref r) H'):=by
 intro pins s σ H x y v u Q I o n h;obtain⟨a,b,xs,ys,rfl,rfl,j,i,F,q⟩:=h;by_cases z:xs=[]
 ·subst z
  cases o;cases n;obtain⟨L,A,C,_⟩:=I.tuple (SqT.of j);obtain⟨m,M,B,_⟩:=I.tuple (SqT.of i);cases A;obtain⟨⟨P,K,N,l⟩,w,g,E,d⟩:=C;obtain⟨⟨O,J,e2,k⟩,t,f,D,c⟩:=B;simp only at g d f c;subst g d f c;refine concat_meets ⟨_,w,rfl⟩ ⟨_,t,rfl⟩ noFill_tuple_add seq_tuple_add PySem.F.slot_tuple_add PySem.F.entry_tuple_add (PySem.F.args_tuple_add_2 _ _) (tuple_addW0 a b #[] m.toArray E D K J l k rfl) ⟨w,t,?_⟩;exact⟨.ref b,H,I,rfl,q b H (Same.refl H) (by rw[Wi];exact i)⟩
 ·exact aG pins s σ H _ _ v u Q I o n ⟨a,b,xs,ys,rfl,rfl,SqT.of j,SqT.of i,z,F,λe=>q a H (Same.refl H) (by rw[e,Y6];exact j),λ_ p G=>q p _ (zD G _) zG⟩
theorem yW:SlR X (λx lo hi H Q=>∃ a xs,x=.ref a/\H a=some (.tup xs)/\∀ p H',Same H H'->H' p=some (.tup (xJ xs lo hi))->Q (.ref p) H'):=by
 intro pins s σ H x v k j lo hi l Q I e i f pu h;obtain⟨a,xs,rfl,c,q⟩:=h;by_cases b:HT.sIx xs.length 0 lo=0/\HT.sIx xs.length xs.length hi=xs.length
 ·cases e
  obtain⟨d,r,g,n⟩:=I.tuple (SqT.of c);have hlen:d.toArray.size=xs.length:=by rw[Jh];exact r.length.symm
  refine⟨"tuple",_,PyProof.Rows.slot_tuple_getitem.lookup,g.typeIs,nr g i f pu (by rw[hlen];exact b.1) (by rw[hlen];exact b.2) ⟨.ref a,H,I,rfl,q a H (Same.refl H) ?_⟩⟩;unfold xJ;rw[b.1,b.2,W7,Nat.sub_zero,Yz];exact c
 ·exact zaB pins s σ H _ v k j lo hi l Q I e i f pu ⟨a,xs,rfl,SqT.of c,b,λp m=>q p _ (zD m _) zG⟩
end
theorem uG (xs:List V)(i:Nat)(h:i<=xs.length):xJ xs none (some (i:Int))=xs.take i:=by
 unfold xJ;rw[HT.sIx_none,HT.sIx_nat,W7,Nat.sub_zero,Z7 h]
theorem rD (xs:List V)(i:Nat)(h:i<=xs.length):xJ xs (some (i:Int)) none=xs.drop i:=by
 unfold xJ;rw[HT.sIx_none,HT.sIx_nat,Z7 h];exact JC (by rw[Y4];exact Jf _)
end L2
namespace L2
open PySem PySem.Spec PyProof.Rows Own
def AnyT (K:Jl)(H:Hp)(x:V):Prop:=∃ T,TyOf K H x T/\∃ t:String,T=.type t
def mM:V->Bool
 | .int _=>true
 | _=>false
def y8 (b:Int):V->Bool
 | .int i=>decide (b<=i)
 | _=>false
def yK (H:Hp):V->Option (List V)
 | .ref a=>match H a with
  | some (.tup xs)=>some xs
  | _=>none
 | _=>none
def pI (H:Hp)(m:Int)(x:V):Bool:=match yK H x with
 | some a=>decide ((a.length:Int)=m)
 | none=>false
theorem yk {H:Hp}{a:JI}{xs:List V}(h:H a=some (.tup xs)):yK H (.ref a)=some xs:=by
 show (match H a with
  | some (.tup xs)=>some xs
  | _=>none)=_
 rw[h]
theorem xK {H:Hp}{x:V}{xs:List V}(h:yK H x=some xs):∃ a,x=.ref a/\H a=some (.tup xs):=by
 cases x with
 | ref a =>
  refine⟨a,rfl,?_⟩
  cases z:H a with
  | none=>simp[yK,z]at h
  | some o=>cases o<;>simp[yK,z]at h;rw[h]
 | _=>cases h
theorem aj (i j:Int):decide (V.int i=V.int j)=decide (i=j):=by
 by_cases e:i=j
 ·rw[Jw e,Jw (JS V.int e)]
 ·rw[Jn e,Jn (λz=>e (V.int.inj z))]
theorem AnyT.same {K:Jl}{H H':Hp}{x:V}(s:∀ b o,H b=some o->H' b=some o)(h:AnyT K H x):AnyT K H' x:=by
 obtain⟨T,h,t,a⟩:=h
 cases h with
 | non=>exact⟨_,.non,_,rfl⟩
 | bl b=>exact⟨_,.bl b,_,rfl⟩
 | int i=>exact⟨_,.int i,_,rfl⟩
 | str x=>exact⟨_,.str x,_,rfl⟩
 | flt x=>exact⟨_,.flt x,_,rfl⟩
 | lst e=>exact⟨_,.lst (s _ _ e),_,rfl⟩
 | frz e=>exact⟨_,.frz (s _ _ e),_,rfl⟩
 | tup e=>exact⟨_,.tup (s _ _ e),_,rfl⟩
 | dK e=>exact⟨_,.dK (s _ _ e),_,rfl⟩
 | dT e=>exact⟨_,.dT (s _ _ e),_,rfl⟩
 | ins e _ _ _ _ _=>cases a
structure Isi (K:Jl) (H:Hp) (x:V) (t:Jo):Prop where
 ty:TyOf K H x t
 int:PySem.W.kitOne K t (.type "int")=some (match x with|.int _=>true|.bl _=>true|_=>false)
 bool:PySem.W.kitOne K t (.type "bool")=some (match x with|.bl _=>true|_=>false)
 str:PySem.W.kitOne K t (.type "str")=some (match x with|.str _=>true|_=>false)
 tup:PySem.W.kitOne K t (.type "tuple")=some (yK H x).isSome
theorem zbe {K:Jl}{H:Hp}{x:V}{T:Jo}(h:TyOf K H x T)(a:∃ t,T=.type t):Isi K H x T:=by
 cases h with
 | ins e _ _ _ _ _=>obtain⟨t,a⟩:=a;cases a
 | lst e=>exact⟨.lst e,rfl,rfl,rfl,by simp only[yK,e];rfl⟩
 | frz e=>exact⟨.frz e,rfl,rfl,rfl,by simp only[yK,e];rfl⟩
 | tup e=>exact⟨.tup e,rfl,rfl,rfl,by simp only[yK,e];rfl⟩
 | dK e=>exact⟨.dK e,rfl,rfl,rfl,by simp only[yK,e];rfl⟩
 | dT e=>exact⟨.dT e,rfl,rfl,rfl,by simp only[yK,e];rfl⟩
 | non=>exact⟨.non,rfl,rfl,rfl,rfl⟩
 | bl b=>exact⟨.bl b,rfl,rfl,rfl,rfl⟩
 | int i=>exact⟨.int i,rfl,rfl,rfl,rfl⟩
 | str x=>exact⟨.str x,rfl,rfl,rfl,rfl⟩
 | flt x=>exact⟨.flt x,rfl,rfl,rfl,rfl⟩
theorem AnyT.isi {K:Jl}{H:Hp}{x:V}(h:AnyT K H x):∃ t,Isi K H x t :=
 let ⟨T,h,a⟩:=h
 ⟨T,zbe h a⟩
end L2
namespace K40
open PySem L2 Own Bn
abbrev lC:Stmt:=top 4
abbrev lI:Stmt:=top 5
def qi (K:Jl):Sp:=λa H Q _=>∃ x,a=[x]/\AnyT K H x/\Q (.bl (mM x)) H
def qp (K:Jl):Sp:=λa H Q _=>∃ x m,a=[x,.int m]/\AnyT K H x/\Q (.bl (pI H m x)) H
section
variable {P:Yo}{w:YI}{K:Jl}{mg:Str->Option Jo}{base:YP}
theorem zcl:FnScope ["thing"] ["thing"] (zN lC):=by trivial
theorem dj {f:JI}{fd:Yl}(F:Fun K "is_whole" "is_whole" lC f fd) (G:Mgs mg):FnOk P w K mg base CX0 1 f fd ["thing"] (qi K):=by
 refine F.ok zcl (λa H Q E h=>?_) (λd A outer s H a Q E e h=>?_)
 ·obtain⟨x,rfl,_⟩:=h
  rfl
 obtain⟨x,rfl,c,k⟩:=h;refine⟨_,(@zM _ _ _ (@zV _ _ _ _ (@wj _ _ _ _ _ _ _ (@zU _ _ _ _ _ _ _ _ _ y9 rfl G.isi rfl (@zA _ _ _ _ _ (@pvb _ 0 _ _ rfl) (@zA _ _ _ _ _ (@xM _ _ (.ty "int") (.type "int") _ rfl G.int rfl rfl (by decide) (by decide)) zC rfl) rfl) (by decide) (by decide) rfl rfl) (@vT _ _ _ _ _ (@pR _ _ _ _ (@zU _ _ _ _ _ _ _ _ _ y9 rfl G.isi rfl (@zA _ _ _ _ _ (@pvb _ 0 _ _ rfl) (@zA _ _ _ _ _ (@xM _ _ (.ty "bool") (.type "bool") _ rfl G.bool rfl rfl (by decide) (by decide)) zC rfl) rfl) (by decide) (by decide) rfl rfl)))))),?_⟩;obtain⟨t,I⟩:=c.isi;refine zB ⟨_,"int",_,_,rfl,I.ty,I.int,_,rfl,?_⟩
 cases x with
 | int i=>exact yZ (zB ⟨_,"bool",_,_,rfl,I.ty,I.bool,_,rfl,k⟩)
 | bl b=>exact yZ (zB ⟨_,"bool",_,_,rfl,I.ty,I.bool,_,rfl,k⟩)
 | non=>exact yF k
 | str z=>exact yF k
 | flt z=>exact yF k
 | byt z=>exact yF k
 | ref z=>exact yF k
 | ty z=>exact yF k
theorem zcm:FnScope ["thing","many"] ["thing","many"] (zN lI):=by trivial
theorem dw {f:JI}{fd:Yl}(F:Fun K "is_row" "is_row" lI f fd) (G:Mgs mg):FnOk P w K mg base CX0 1 f fd ["thing","many"] (qp K):=by
 refine F.ok zcm (λc H Q E h=>?_) (λi A outer s H c Q E j h=>?_)
 ·obtain⟨x,m,rfl,_⟩:=h
  rfl
 obtain⟨x,m,rfl,g,k⟩:=h;refine⟨_,(@zM _ _ _ (@zV _ _ _ _ (@wj _ _ _ _ _ _ _ (@zU _ _ _ _ _ _ _ _ _ y9 rfl G.isi rfl (@zA _ _ _ _ _ (@pvb _ 0 _ _ rfl) (@zA _ _ _ _ _ (@xM _ _ (.ty "tuple") (.type "tuple") _ rfl G.tuple rfl rfl (by decide) (by decide)) zC rfl) rfl) (by decide) (by decide) rfl rfl) (@vT _ _ _ _ _ (@xI _ _ _ _ _ _ _ _ xt (@zU _ _ _ _ _ _ _ _ _ zY rfl G.len JZ (@zA _ _ _ _ _ (@pvb _ 0 _ _ rfl) zC rfl) (by decide) (by decide) rfl rfl) (@pvb _ 1 _ _ rfl) (yC _)))))),?_⟩;obtain⟨t,I⟩:=g.isi;refine zB ⟨_,"tuple",_,_,rfl,I.ty,I.tup,_,rfl,?_⟩
 cases z:yK H x with
 | none =>
  have e:pI H m x=false:=by unfold pI;rw[z]
  rw[e]at k
  exact yF k
 | some b =>
  have e:pI H m x=decide ((b.length:Int)=m):=by unfold pI;rw[z]
  rw[e]at k;obtain⟨a,rfl,d⟩:=xK z;exact yZ (zB ⟨a,_,rfl,.inr (SqT.of d),_,rfl,rfl,by rw[aj];exact k⟩)
end
end K40
namespace L2
open PySem PySem.Spec PyProof.Rows Own
theorem bG {P:Yo}{w:YI}{H:Hp}(h:YP)(hb:sysModules<h.objs.size):ObjOk P w H (h.push { cls:=.type "dict",data:=.dict #[] }) h.objs.size (.dK []) :=
 ⟨JN _,Zf.mpr (Ne.symm (JD hb)),[],.nil,Heap.DictOf.new h⟩
def zax:TE:=λ_ H Q=>∀ p,H p=none->Q (.ref p) (upd H p (.dK []))
section
variable {X:Cx}{pos:Pos}
theorem Inv.big {pins:List (JI × Obj)}{σ:St}{H:Hp}{s:JO}(I:Inv X pins σ H s):sysModules<s.heap.objs.size:=by
 have h:mainGlobals<s.heap.objs.size:=(I.mod.glob.keeps I.bk).lt;exact Nat.lt_trans (by decide) h
theorem nB:PE X (.Dict [] [] pos) zax:=λpins s σ H Q I h =>
 wpAny_Dict_empty ⟨.ref s.heap.objs.size,_,I.laid (a:=s.heap.objs.size) (o:=.dK []) (t':=s.toks) (λ_ _ q=>J8 _ q) (Jf _) (bG s.heap I.big),rfl,h _ (I.hok.fresh (Jf _))⟩
end
end L2
namespace Bn
open PySem L2 Own
structure Good (K:Jl) (D:JI->Prop) (H:Hp) (x:V):Prop where
 any:AnyT K H x
 ne:∀ a,x=.ref a->D a
def Flat:V->Prop
 | .ref _=>False
 | .ty _=>False
 | .byt _=>False
 | _=>True
theorem Good.flat {K:Jl}{D:JI->Prop}{H:Hp}:∀ {x:V},Flat x->Good K D H x
 | .non,_=>⟨⟨_,.non,_,rfl⟩,λ_ z=>by cases z⟩
 | .bl b,_=>⟨⟨_,.bl b,_,rfl⟩,λ_ z=>by cases z⟩
 | .int i,_=>⟨⟨_,.int i,_,rfl⟩,λ_ z=>by cases z⟩
 | .str s,_=>⟨⟨_,.str s,_,rfl⟩,λ_ z=>by cases z⟩
 | .flt s,_=>⟨⟨_,.flt s,_,rfl⟩,λ_ z=>by cases z⟩
end Bn
namespace L2
open PySem PySem.Spec PyProof.Rows
section
variable [DecidableEq κ]
theorem RelO.isSome_eq {o:Option V}{u:Option Jo}(r:RelO o u):o.isSome=u.isSome:=by
 cases o with
 | none=>cases u with
  | none=>rfl
  | some _=>exact(show False from r).elim
 | some _=>cases u with
  | none=>exact(show False from r).elim
  | some _=>rfl
theorem RelO.getD {o:Option V}{u:Option Jo}{d:V}{d':Jo}(r:RelO o u)(a:RelV d d'):RelV (o.getD d) (u.getD d'):=by
 cases o with
 | none=>cases u with
  | none=>exact a
  | some _=>exact(show False from r).elim
 | some _=>cases u with
  | none=>exact(show False from r).elim
  | some _=>exact r
end
theorem zbX {P:Yo}{w:YI}{k:Key}{u:Jo}(r:RelV (kV k) u):(yj P w).is k u=true:=by
 cases k with
 | inl i=>obtain⟨t,e⟩:=(show ∃ t,u=Value.int i t from r);subst e;exact nU P w i t
 | inr x=>obtain⟨t,e⟩:=(show ∃ t,u=Value.str x t from r);subst e;exact nS P w x t
theorem qL {P:Yo}{w:YI}:∀ {ks:List Key}{us:List Jo},Vals (ks.map kV) us->ItemsAre (yj P w) ks us
 | [],_,r=>by rw[List.map_nil]at r;cases r;exact .nil
 | k::ks,_,r=>by
  rw[JY]at r
  cases r with
  | cons h t=>exact .cons (zbX h) (qL t)
section
variable {P:Yo}{w:YI}{H:Hp}{h:YP}{a:JI}
theorem zah {u:HO}(ok:HOk P w H h)(e:Rd H a u):ObjOk P w H h a u:=e.ok ok
theorem zbb {ks:List Key}(ok:HOk P w H h)(e:H a=some (.tup (ks.map kV))):(tupleKind (yj P w)).is h ks a:=by
 obtain⟨_,b,r,o,f,d,n,c⟩:=(show ObjOk P w H h a (.tup (ks.map kV)) from ok a _ e);exact⟨o,b.toArray,n,f,d,c.1,by simpa using qL r⟩
end
section
variable {X:Cx}{pins:List (JI × Obj)}{σ:St}{H:Hp}{s:JO}{a:JI}
theorem oC {h':YP}{t':Nat}{ob:HO}(I:Inv X pins σ H s)(c:Mut (H a))(d:Heap.SameBut a s.heap h')(f:∃ q,h'.get? a=some q)(new:ObjOk X.prog X.w (upd H a ob) h' a ob) :
  Inv X pins σ (upd H a ob) { s with heap:=h',toks:=t' } :=
 I.write (x:=a) (e:=a) c (.inl rfl) (λb q g z=>(d.2 b g).trans z) f new
end
def fQ:List (TE × TE)->St->Hp->(List (V × V)->Hp->Prop)->Prop
 | [],_,H,Q=>Q [] H
 | (tk,a)::r,σ,H,Q=>tk σ H λx d=>a σ d λy c=>fQ r σ c λps b=>Q ((x,y)::ps) b
abbrev VV:List (V × V)->List (Jo × Jo)->Prop:=Paired λp q=>RelV p.1 q.1/\RelV p.2 q.2
def PPs (X:Cx)(pos:Pos)(keys:List (Option Expr))(values:List Expr)(a:List (TE × TE)):Prop :=
 ∀ (pins:List (JI × Obj)) (s:JO) (σ:St) (H:Hp) (Q:List (V × V)->Hp->Prop),Inv X pins σ H s->fQ a σ H Q ->
  wpAny (model X.prog X.w) X.A (evalPairs (pairTrees keys values X.env pos)) (λd e=>∃ b c,Inv X pins σ c e/\VV b d/\Q b c) X.xe s
theorem bz {X:Cx}{pos:Pos}:PPs X pos [] [] []:=λpins s σ H Q I h=>pairTrees_nil_walk ⟨[],H,I,.nil,h⟩
theorem ee {X:Cx}{pos:Pos}{k v:Expr}{ks:List (Option Expr)}{vs:List Expr}{tk b:TE}{a:List (TE × TE)}(o:PE X k tk)(m:PE X v b)(n:PPs X pos ks vs a) :
  PPs X pos (some k::ks) (v::vs) ((tk,b)::a):=λpins s σ H Q I h =>
 pairTrees_cons_walk (thn (o pins s σ H _ I h) λu d ⟨x,z,r,f,j⟩=>thn (m pins d σ z _ r j) λA c ⟨y,w,q,e,i⟩ =>
  thn (n pins c σ w _ q i) λws B ⟨l,t,p,rel,g⟩=>⟨(x,y)::l,t,p,.cons ⟨f,e⟩ rel,g⟩)
structure M1 (X:Cx) (o:Expr) (m:Str) (apos:Pos) (e:Expr) (cpos:Pos):Prop where
 base:attributeBase o m X.env (eval o X.env)=eval o X.env
 few:((backTo cpos (starEach [e] X.env)).all (λx=>!x.1) && (backToKw cpos (keywordEach [] X.env)).all (λx=>x.1.isSome)
  && decide (([e]:List Expr).length+([]:List Keyword).length+(if ([]:List Keyword).isEmpty then 0 else 1)<30))=true
 line:(apos.endLine == cpos.line)=true
 trees:backTo cpos (starEach [e] X.env)=[(false,eval e X.env)]
structure M2 (X:Cx) (o:Expr) (m:Str) (apos:Pos) (e f:Expr) (cpos:Pos):Prop where
 base:attributeBase o m X.env (eval o X.env)=eval o X.env
 few:((backTo cpos (starEach [e,f] X.env)).all (λx=>!x.1) && (backToKw cpos (keywordEach [] X.env)).all (λx=>x.1.isSome)
  && decide (([e,f]:List Expr).length+([]:List Keyword).length+(if ([]:List Keyword).isEmpty then 0 else 1)<30))=true
 line:(apos.endLine == cpos.line)=true
 trees:backTo cpos (starEach [e,f] X.env)=[(false,eval e X.env),(false,eval f X.env)]
end L2
namespace L2
open PySem PySem.Spec PyProof.Rows Own
theorem ju:∀ {ds:List PyData}{n:Nat},(∀ e∈ds,e.canLay0=true/\e.depth<=n)->PyData.canLayAll0 ds=true/\PyData.depthAll ds<=n
 | [],_,_=>⟨rfl,JN _⟩
 | d::ds,n,h=>by
  obtain⟨a1,a2⟩:=h d JM;obtain⟨b,c⟩:=ju (ds:=ds) λe a=>h e (JH _ a);refine⟨?_,?_⟩
  ·show (d.canLay0 && PyData.canLayAll0 ds)=true
   rw[a1,b];rfl
  ·show max d.depth (PyData.depthAll ds)<=n
   lia
abbrev KI:=Int ⊕ List Int
abbrev KN:=List KI
section
variable (prog:Yo)(w:YI)
def NIt (h:YP):KI->Jo->Prop
 | .inl i,v=>∃ t,v=.int i t
 | .inr xs,v=>∃ b,v=.ref b/\IsTupleKey (yj prog w) h (xs.map Sum.inl) b
def NIts (h:YP):KN->List Jo->Prop
 | [],vs=>vs=[]
 | k::ks,vs=>∃ v r,vs=v::r/\NIt prog w h k v/\NIts h ks r
def NIs (h:YP)(ks:KN)(a:JI):Prop:=∃ o items n,h.get? a=some o/\o.cls=.type "tuple"/\o.data=.seq items n/\NIts prog w h ks items.toList
def nh1:KI->Int
 | .inl i=>hashInt i
 | .inr xs=>tupleKeyHash (yj prog w) (xs.map Sum.inl)
def nd1:KI->Nat
 | .inl _=>1
 | .inr xs=>xs.length+1
def nds (ks:KN):Nat:=(ks.map nd1).sum
end
variable {prog:Yo}{w:YI}{A:YO}{E:Jo->JO->Prop}
theorem am {a b:List Int}(h:a.map (Sum.inl:Int->Key)=b.map Sum.inl):a=b :=
 List.map_inj_right (λx y e=>Sum.inl.inj e) |>.mp h
theorem NIt.inj {h:YP}{x y:KI}{v:Jo}(a:NIt prog w h x v)(b:NIt prog w h y v):x=y:=by
 cases x with
 | inl i =>
  obtain⟨t,rfl⟩:=a
  cases y with
  | inl j=>obtain⟨u,e⟩:=b;cases e;rfl
  | inr f=>obtain⟨b,e,_⟩:=b;cases e
 | inr l =>
  obtain⟨c,rfl,k⟩:=a
  cases y with
  | inl j=>obtain⟨u,e⟩:=b;cases e
  | inr f =>
   obtain⟨d,e,g⟩:=b;cases e;rw[am (k.inj g)]
theorem NIts.inj {h:YP}:∀ {x y:KN}{vs:List Jo},NIts prog w h x vs->NIts prog w h y vs->x=y
 | [],[],_,_,_=>rfl
 | [],_::_,_,a,b=>by obtain⟨v,r,e,_⟩:=b;rw[show _=[] from a]at e;cases e
 | _::_,[],_,a,b=>by obtain⟨v,r,e,_⟩:=a;rw[show _=[] from b]at e;cases e
 | x::j,y::i,_,a,b=>by
  obtain⟨v,r,rfl,g,f⟩:=a;obtain⟨k,l,e,d,c⟩:=b;cases e;rw[g.inj d,NIts.inj f c]
theorem NIs.inj {h:YP}{x y:KN}{a:JI}(p:NIs prog w h x a)(q:NIs prog w h y a):x=y:=by
 obtain⟨o,j,n,g,_,f,e⟩:=p;obtain⟨k,d,l,c,_,b,i⟩:=q;rw[g]at c;cases c;rw[f]at b;cases b;exact e.inj i
theorem NIt.keeps {h h':YP}{d:JI}{o:Obj}{es ep}(hd:h.get? d=some o)(c:o.data=.dict es ep)(s:Heap.SameBut d h h'){k:KI}{v:Jo}(a:NIt prog w h k v):NIt prog w h' k v:=by
 cases k with
 | inl i=>exact a
 | inr g =>
  obtain⟨b,e,f⟩:=a;exact⟨b,e,f.keeps hd c s⟩
theorem NIts.keeps {h h':YP}{d:JI}{o:Obj}{es ep}(hd:h.get? d=some o)(b:o.data=.dict es ep)(s:Heap.SameBut d h h'):∀ {ks:KN}{vs:List Jo},NIts prog w h ks vs->NIts prog w h' ks vs
 | [],_,a=>a
 | k::ks,_,a=>by
  obtain⟨v,r,e,a1,a2⟩:=a;exact⟨v,r,e,a1.keeps hd b s,NIts.keeps hd b s a2⟩
theorem NIs.keeps {h h':YP}{ks:KN}{a d:JI}{o:Obj}{es ep}(p:NIs prog w h ks a)(hd:h.get? d=some o)(f:o.data=.dict es ep)(s:Heap.SameBut d h h'):NIs prog w h' ks a:=by
 obtain⟨g,e,n,c,j,b,i⟩:=p;refine⟨g,e,n,?_,j,b,i.keeps hd f s⟩;rw[s.2 a (by rintro rfl;rw[hd]at c;cases c;rw[f]at b;cases b)];exact c
theorem sY:∀ (ks:KN) (vs:List Jo) (c:Array Int) (s:JO) (Q:Array Int->JO->Prop),A.units<cLine->NIts prog w s.heap ks vs->Q (c++(ks.map (nh1 prog w)).toArray) { s with toks:=s.toks+nds ks } ->
  wpAny (model prog w) A (forIn vs c λx c=>(do let r <- pyHash x;pure (ForInStep.yield (c.push r)))) Q E s
 | [],vs,c,s,Q,d,a,q=>by
  rw[show vs=[] from a,Zx];refine J9 ?_
  simpa [nds] using q
 | k::ks,vs,c,s,Q,d,a,q=>by
  obtain⟨v,r,rfl,f,j⟩:=a;rw[Z2]
  have h:∀ (m:Nat),m=nd1 k->({ s with toks:=s.toks+m+nds ks }:JO)={ s with toks:=s.toks+nds (k::ks) }:=λm e=>by
   subst e;unfold nds;rw[JY,List.sum_cons,Nat.add_assoc]
  have e2:c.push (nh1 prog w k)++(ks.map (nh1 prog w)).toArray=c++((k::ks).map (nh1 prog w)).toArray:=by simp
  have go:∀ (m:Nat),m=nd1 k->wpAny (model prog w) A (forIn r (c.push (nh1 prog w k)) λx c=>(do let r <- pyHash x;pure (ForInStep.yield (c.push r)))) Q E { s with toks:=s.toks+m }:=λm e =>
   sY ks r (c.push (nh1 prog w k)) { s with toks:=s.toks+m } Q d j (by rw[e2];have:=h m e;simp only at this ⊢;rw[this];exact q)
  cases k with
  | inl i =>
   obtain⟨t,rfl⟩:=f
   exact J0 (J0 (wpAny_pyHash_int (J9 (go 1 rfl))))
  | inr l =>
   obtain⟨b,rfl,g⟩:=f;exact J0 (J0 (wpAny_pyHash_tuple d g (J9 (go _ (by rw[Je];rfl)))))
theorem gI {s:JO}{a:JI}{ks:KN}{Q:Int->JO->Prop}(c:A.units+1<cLine)(d:NIs prog w s.heap ks a)(q:Q (reduceHash (Builtin.Tuple.tupleHashOf (ks.map (nh1 prog w)))) { s with toks:=s.toks+(nds ks+1) }):wpAny (model prog w) A (pyHash (.ref a)) Q E s:=by
 obtain⟨o,g,n,b,f,e,hi⟩:=d;show wpAny (model prog w) A (pyHashByItsType (.ref a)) Q E s;refine W.pyHash_slot (T:="tuple") (id:="tuple.__hash__") (B:=Builtin.«tuple.__hash__») ⟨o,b,f⟩ F.slot_tuple_hash F.entry_tuple_hash (F.args_tuple_hash_1 _) (by decide) (.inr (by lia)) ?_;unfold Builtin.«tuple.__hash__»;refine J0 ?_;show wpAny _ _ (pure _) _ _ _;refine J9 (J0 (wpAny_tupleItemsOf b e ?_));rw[<- Array.forIn_toList];refine J0 (sY ks _ _ s _ c hi ?_);simp only[Array.empty_append];unfold retInt;exact J0 (wpAny_mkInt (J9 ⟨_,_,rfl,q⟩))
theorem qB {i:Int}{t:Tok}{n:Nat}{s:JO}{Q:Bool->JO->Prop}(q:Q true s):wpAny (model prog w) A (eqIsQuiet n (.int i t)) Q E s:=by
 cases n<;>exact J9 q
theorem uf {n:Nat}{s:JO}:∀ (vs:List Jo) (Q:Option Bool × Unit->JO->Prop),(∀ v∈vs,∀ R:Bool->JO->Prop,R true s->wpAny (model prog w) A (eqIsQuiet n v) R E s)->Q (none,()) s ->
  wpAny (model prog w) A (forIn vs ((none,()):Option Bool × Unit) λy _=>(do
   let b <- eqIsQuiet n y
   if (!b)=true then pure (ForInStep.done (some false,())) else pure (ForInStep.yield (none,())))) Q E s
 | [],Q,_,q=>by rw[Zx];exact J9 q
 | v::vs,Q,h,q=>by
  rw[Z2];exact J0 (J0 (h v JM _ (J9 (uf vs Q (λu a=>h u (JH _ a)) q))))
theorem qA {s:JO}{a:JI}{o:Obj}{its:Array Jo}{m n:Nat}{Q:Bool->JO->Prop}(c:s.heap.get? a=some o) (d:o.cls=.type "tuple") (hd:o.data=.seq its m)
  (h:∀ v∈its.toList,∀ R:Bool->JO->Prop,R true s->wpAny (model prog w) A (eqIsQuiet n v) R E s) (q:Q true s):wpAny (model prog w) A (eqIsQuiet (n+1) (.ref a)) Q E s:=by
 have ty:s.TypeIs (.ref a) "tuple":=⟨o,c,d⟩;unfold eqIsQuiet;refine J0 (wpAny_specialOf (T:="tuple") ty F.slot_tuple_eq.lookup (J0 (ZB (T:="tuple") (b:=true) ty rfl ?_)));show wpAny _ _ (do let _ <- seqItems? _;_) _ _ _;refine J0 (Yj c hd (J0 ?_));rw[ZE,<- Array.forIn_toList];exact uf _ _ h (J9 q)
theorem NIts.mem {h:YP}:∀ {ks:KN}{vs:List Jo},NIts prog w h ks vs->∀ v∈vs,∃ k,NIt prog w h k v
 | [],_,a,v,b=>by rw[show _=[] from a]at b;cases b
 | k::ks,_,a,v,b=>by
  obtain⟨x,r,rfl,a1,a2⟩:=a;rcases Jr.mp b with rfl|z
  ·exact⟨k,a1⟩
  ·exact NIts.mem a2 v z
theorem nP {i:Int}{v:Jo}(h:(yj prog w).is (.inl i) v=true):∃ t,v=.int i t:=by
 rw[kD]at h;rcases yV h with ⟨j,t,e,rfl⟩|⟨x,t,e,_⟩
 ·cases e;exact⟨t,rfl⟩
 ·cases e
theorem kR {ks:List Key}{vs:List Jo}(h:ItemsAre (yj prog w) ks vs):∀ xs:List Int,ks=xs.map Sum.inl->∀ v∈vs,∃ i t,v=.int i t:=by
 induction h with
 | nil=>intro xs _ v a;cases a
 | cons b _ ih =>
  intro xs e v a
  cases xs with
  | nil=>cases e
  | cons x xs =>
   rw[JY]at e;injection e with c e2;subst c;rcases Jr.mp a with rfl|z
   ·obtain⟨t,e⟩:=nP b
    exact⟨x,t,e⟩
   ·exact ih xs e2 v z
theorem items_int {ks:List Int}{vs:List Jo}(h:ItemsAre (yj prog w) (ks.map Sum.inl) vs):∀ v∈vs,∃ i t,v=.int i t:=kR h ks rfl
theorem sM {s:JO}{a:JI}{ks:KN}{Q:Bool->JO->Prop}(c:NIs prog w s.heap ks a)(q:Q true s):wpAny (model prog w) A (eqIsQuiet 8 (.ref a)) Q E s:=by
 obtain⟨o,x,n,l,p,m,hi⟩:=c;refine qA l p m (λv h R r=>?_) q;obtain⟨k,c⟩:=hi.mem v h
 cases k with
 | inl i=>obtain⟨t,rfl⟩:=c;exact qB r
 | inr z =>
  obtain⟨b,rfl,B,y,C,d,g,f,e⟩:=c;refine qA d g f (λu j R r=>?_) r;obtain⟨i,t,rfl⟩:=items_int e u j;exact qB r
def dI:KI->PyData
 | .inl i=>.int i
 | .inr xs=>.tuple (xs.map PyData.int)
def dN (ks:KN):PyData:=.tuple (ks.map dI)
theorem lR {h:YP}{ks:List Key}{vs:List Jo}(a:ItemsAre (yj prog w) ks vs):∀ xs:List Int,ks=xs.map Sum.inl->∃ as,ReadsAll h vs (xs.map PyData.int) as:=by
 induction a with
 | nil =>
  intro xs e
  cases xs with
  | nil=>exact⟨_,.nil⟩
  | cons x xs=>cases e
 | cons b _ ih =>
  intro xs e
  cases xs with
  | nil=>cases e
  | cons x xs =>
   rw[JY]at e;injection e with c e2;subst c;obtain⟨t,rfl⟩:=nP b;obtain⟨as,r⟩:=ih xs e2;exact⟨_,.cons (.int x t) r⟩
theorem NIt.reads {h:YP}{k:KI}{v:Jo}(a:NIt prog w h k v):∃ as,Reads h v (dI k) as:=by
 cases k with
 | inl i=>obtain⟨t,rfl⟩:=a;exact⟨_,.int i t⟩
 | inr c =>
  obtain⟨b,rfl,o,j,n,g,f,e,d⟩:=a;obtain⟨as,r⟩:=lR (h:=h) d c rfl;exact⟨_,.tuple g f e r⟩
theorem NIts.reads {h:YP}:∀ {ks:KN}{vs:List Jo},NIts prog w h ks vs->∃ as,ReadsAll h vs (ks.map dI) as
 | [],_,a=>by rw[show _=[] from a];exact⟨_,.nil⟩
 | k::ks,_,a=>by
  obtain⟨v,r,rfl,a1,a2⟩:=a;obtain⟨as,p⟩:=a1.reads;obtain⟨bs,q⟩:=NIts.reads a2;exact⟨_,.cons p q⟩
theorem NIs.reads {h:YP}{ks:KN}{a:JI}(p:NIs prog w h ks a):∃ as,Reads h (.ref a) (dN ks) as:=by
 obtain⟨o,f,n,e,d,c,b⟩:=p;obtain⟨as,r⟩:=b.reads;exact⟨_,.tuple e d c r⟩
theorem n9:∀ (x y:List Int),PyData.eqvAll (x.map PyData.int) (y.map PyData.int)=decide (x=y)
 | [],[]=>rfl
 | [],_::_=>rfl
 | _::_,[]=>rfl
 | a::x,b::y=>by
  show (PyData.eqv (.int a) (.int b) && PyData.eqvAll (x.map PyData.int) (y.map PyData.int))=_;rw[n9 x y,show PyData.eqv (.int a) (.int b)=(a == b) from rfl,Ya];simp
theorem zbj (x y:KI):PyData.eqv (dI x) (dI y)=decide (x=y):=by
 cases x<;>cases y
 ·rw[show PyData.eqv (dI (.inl _)) (dI (.inl _))=(_ == _) from rfl,Ya];simp
 ·rfl
 ·rfl
 ·show PyData.eqvAll _ _=_
  rw[n9,Ya];simp
theorem jY:∀ (x y:KN),PyData.eqvAll (x.map dI) (y.map dI)=decide (x=y)
 | [],[]=>rfl
 | [],_::_=>rfl
 | _::_,[]=>rfl
 | a::x,b::y=>by
  show (PyData.eqv (dI a) (dI b) && PyData.eqvAll (x.map dI) (y.map dI))=_;rw[jY x y,zbj,Ya];simp
theorem nh:∀ x:List Int,PyData.canLayAll0 (x.map PyData.int)=true/\PyData.depthAll (x.map PyData.int)<=0
 | []=>⟨rfl,Jf _⟩
 | a::x=>by
  obtain⟨p,q⟩:=nh x;refine⟨?_,?_⟩
  ·show (PyData.canLay0 (.int a) && PyData.canLayAll0 (x.map PyData.int))=true
   rw[p];rfl
  ·show max 0 (PyData.depthAll (x.map PyData.int))<=0
   simp_all
theorem kN (ks:KN):(dN ks).canLay0=true/\(dN ks).depth<=2:=by
 have key:∀ e∈ks.map dI,e.canLay0=true/\e.depth<=1:=λe b=>by
  obtain⟨k,_,rfl⟩:=JE.mp b
  cases k with
  | inl i=>exact⟨rfl,by show 0<=1;lia⟩
  | inr a =>
   obtain⟨p,q⟩:=nh a;refine⟨p,?_⟩;show PyData.depthAll (a.map PyData.int)+1<=1
   simp_all
 obtain⟨p,q⟩:=ju key;refine⟨p,?_⟩;show PyData.depthAll (ks.map dI)+1<=2
 simp_all
theorem av {s:JO}{x y:KN}{a b:JI}{Q:Bool->JO->Prop}(k:A.units+2<cLine)(h:NIs prog w s.heap x a)(g:NIs prog w s.heap y b)(q:Q (decide (x=y)) s):wpAny (model prog w) A (eqBool (.ref a) (.ref b)) Q E s:=by
 obtain⟨as,d⟩:=h.reads;obtain⟨bs,c⟩:=g.reads;obtain⟨f,j⟩:=kN x;obtain⟨e,i⟩:=kN y;refine PySem.SeqAt.eqBoolOverData prog w A E s _ _ _ _ as bs Q d c f e (by lia) ?_;rw[show PyData.eqv (dN x) (dN y)=PyData.eqvAll (x.map dI) (y.map dI) from rfl,jY];exact q
variable (prog w)
def xP:HeapKind prog w KN where
 is:=NIs prog w
 hash:=λa=>reduceHash (Builtin.Tuple.tupleHashOf (a.map (nh1 prog w)))
 draws:=λa=>nds a+1
 room:=λA=>A.units+2<cLine
 inj:=λc b=>NIs.inj c b
 keeps:=λx g i f=>NIs.keeps x g i f
 pyHash:=λe d h=>gI (by lia) d h
 eqBool:=λe c b h=>av e c b h
 quiet:=λd h=>sM d h
end L2
namespace Ts
open PySem PyProof.Rows
structure Cmp (prog:Yo) (w:YI) (A:YO) (s:JO) (κ:SortKind) (P:Keyed->Prop) (rk:Keyed->Int):Prop where
 ask:∀ (x y:Keyed),P x->P y->∀ {Q:Bool->JO->Prop}{E:Jo->JO->Prop},Q (decide (rk x<rk y)) s->wpAny (model prog w) A (keyLt' κ x.1 y.1) Q E s
def R (rk:Keyed->Int)(xs:Array Keyed)(i:Nat):Int:=match xs[i]? with
 | some p=>rk p
 | none=>0
theorem R_congr {rk:Keyed->Int}{xs ys:Array Keyed}{i j:Nat}(h:xs[i]?=ys[j]?):R rk xs i=R rk ys j:=by unfold R;rw[h]
def Up (rk:Keyed->Int)(xs:Array Keyed)(lo n:Nat):Prop:=∀ i j,lo<=i->i<=j->j<lo+n->R rk xs i<=R rk xs j
def Dn (rk:Keyed->Int)(xs:Array Keyed)(lo n:Nat):Prop:=∀ i j,lo<=i->i<=j->j<lo+n->R rk xs j<=R rk xs i
structure Bs (κ:SortKind) (P:Keyed->Prop) (a₀:Array Keyed) (st:SortSt):Prop where
 kind:kindOf st=κ
 fail:failedOf st=none
 perm:(arrOf st).Perm a₀
 all:∀ p∈a₀.toList,P p
theorem Bs.size {κ:SortKind}{P:Keyed->Prop}{a₀:Array Keyed}{st:SortSt}(h:Bs κ P a₀ st):(arrOf st).size=a₀.size:=h.perm.size_eq
theorem Bs.at {κ:SortKind}{P:Keyed->Prop}{a₀:Array Keyed}{st:SortSt}(h:Bs κ P a₀ st){i:Nat}(hi:i<a₀.size)(rk:Keyed->Int):∃ p,(arrOf st)[i]?=some p/\P p/\R rk (arrOf st) i=rk p:=by
 have e:(arrOf st)[i]?=some ((arrOf st)[i]'(by rw[h.size];exact hi)):=getElem?_pos (arrOf st) i (by rw[h.size];exact hi);refine⟨_,e,h.all _ ((Array.perm_iff_toList_perm.mp h.perm).mem_iff.mp (by simp)),?_⟩;unfold R;rw[e]
theorem Bs.arr {κ:SortKind}{P:Keyed->Prop}{a₀:Array Keyed}{st:SortSt}(h:Bs κ P a₀ st){xs:Array Keyed}(a:xs.Perm (arrOf st)):Bs κ P a₀ (setArr st xs):=⟨h.kind,h.fail,a.trans h.perm,h.all⟩
section
variable {prog:Yo}{w:YI}{A:YO}{E:Jo->JO->Prop}{s:JO}{κ:SortKind}{P:Keyed->Prop}{rk:Keyed->Int}{a₀:Array Keyed}
theorem nW (C:Cmp prog w A s κ P rk){st:SortSt}{x y:Keyed}{Q:Option Bool->SortSt->Prop}(b:kindOf st=κ)(a:P x)(py:P y)(h:Q (some (decide (rk x<rk y))) st):wpS (model prog w) A E s (lt' x y) Q st:=by
 rw[lt'_eq];refine Ju (Wt (Ju (wpS_lift (ZP ?_))));rw[b];exact C.ask x y a py ⟨rfl,Jy h⟩
theorem vA {r:String}{st:SortSt}{Q:Unit->SortSt->Prop}(h:Q () st):wpS (model prog w) A E s (liftM (rule r):StateT SortSt Sem Unit) Q st:=wpS_lift (Z1 ⟨rfl,h⟩)
theorem yI {st:SortSt}{arr:Array Keyed}{i:Nat}{p:Keyed}{Q:Keyed->SortSt->Prop}(e:arr[i]?=some p)(h:Q p st):wpS (model prog w) A E s (elem' arr i) Q st:=by
 rw[elem'_eq,e];exact Jy h
theorem nX (C:Cmp prog w A s κ P rk){st:SortSt}{i j:Nat}{Q:Option Bool->SortSt->Prop}(a:Bs κ P a₀ st)(hi:i<a₀.size)(e:j<a₀.size)(h:Q (some (decide (R rk (arrOf st) i<R rk (arrOf st) j))) st):wpS (model prog w) A E s (ltAt' i j) Q st:=by
 obtain⟨p,f,pp,c⟩:=a.at hi rk;obtain⟨q,e2,d,b⟩:=a.at e rk;rw[c,b]at h;rw[ltAt'_eq];exact Ju (Wt (Ju (yI f (Ju (yI e2 (nW C a.kind pp d h))))))
structure Keep (κ:SortKind) (P:Keyed->Prop) (rk:Keyed->Int) (a₀:Array Keyed) (lo:Nat) (st st':SortSt):Prop where
 b:Bs κ P a₀ st'
 pend:pendingOf st'=pendingOf st
 low:∀ k,k<lo->R rk (arrOf st') k=R rk (arrOf st) k
theorem Keep.refl {lo:Nat}{st:SortSt}(h:Bs κ P a₀ st):Keep κ P rk a₀ lo st st:=⟨h,rfl,λ_ _=>rfl⟩
theorem Keep.trans {lo:Nat}{st a st2:SortSt}(h:Keep κ P rk a₀ lo st a)(g:Keep κ P rk a₀ lo a st2):Keep κ P rk a₀ lo st st2:=⟨g.b,g.pend.trans h.pend,λk b=>(g.low k b).trans (h.low k b)⟩
theorem R_mirror {xs:Array Keyed}{i j:Nat}(a:j<=xs.size)(k:Nat):R rk (mirror xs i j ((j-i) / 2)) k=if i<=k/\k<j then R rk xs (i+j-1-k) else R rk xs k:=by
 have e:=getElem?_mirror_all (xs:=xs) (i:=i) a k;split at e
 ·next h=>rw[Jj h];exact R_congr e
 ·next h=>rw[Jg h];exact R_congr e
theorem pK {lo i j:Nat}{st:SortSt}{Q:Unit->SortSt->Prop}(a:Bs κ P a₀ st)(c:lo<=i)(b:j<=a₀.size)(h:∀ st',Keep κ P rk a₀ lo st st'->(∀ k,R rk (arrOf st') k=if i<=k/\k<j then R rk (arrOf st) (i+j-1-k) else R rk (arrOf st) k)->Q () st'):wpS (model prog w) A E s (reverseSlice' i j) Q st:=by
 rw[reverseSlice'_eq];refine Ww (h _ ⟨a.arr (mirror_perm _ _ _ _),rfl,λk d=>?_⟩ λk=>?_)
 ·show R rk (mirror (arrOf st) i j ((j-i) / 2)) k=_
  rw[R_mirror (by rw[a.size];exact b),Jg (by lia)]
 ·exact R_mirror (by rw[a.size];exact b) k
theorem bL (C:Cmp prog w A s κ P rk){st:SortSt}{lo j:Nat}{Q:Option Nat->SortSt->Prop}(B:Bs κ P a₀ st)(h1:1<=j)(hn:lo+j<=a₀.size)(h:∀ st' m,Keep κ P rk a₀ lo st st'->1<=m->m<=j->Up rk (arrOf st') lo m->Q (some m) st'):wpS (model prog w) A E s (countRun' lo j) Q st:=by
 have asc:∀ (st:SortSt) (y:Nat) {Z:Option (Option Nat) × Nat->SortSt->Prop},Bs κ P a₀ st->1<=y->Up rk (arrOf st) lo y ->
   (∀ n,y<=n->n<=max y j->Up rk (arrOf st) lo n->(n<j->R rk (arrOf st) (lo+n)<R rk (arrOf st) (lo+n-1))->Z (none,n) st)->
   ∀ f:Nat->Option (Option Nat) × Nat->StateT SortSt Sem (ForInStep (Option (Option Nat) × Nat)),(∀ i n,f i (none,n)=(do
    let some v <- ltAt' (lo+n) (lo+n-1)|pure (.done (some none,n))
    if v then pure (.done (none,n)) else pure (.yield (none,n+1))))->wpS (model prog w) A E s (forIn [y:j] (none,y) f) Z st:=by
  intro st y Z B h0 F G f hf;refine Yt (I:=λi c st'=>st'=st/\c=(none,i)/\y<=i/\Up rk (arrOf st) lo i) ?_ ?_ ⟨rfl,rfl,Jf _,F⟩
  ·rintro i c st' hi ab ⟨rfl,rfl,O,r⟩
   rw[hf];refine Ju (nX C B (by lia) (by lia) ?_);by_cases z:R rk (arrOf st') (lo+i)<R rk (arrOf st') (lo+i-1)
   ·rw[Jw z]
    exact Jy (G i O (by lia) r λ_=>z)
   ·rw[Jn z]
    refine Jy ⟨rfl,rfl,by lia,λa b p l x=>?_⟩;by_cases q:b<lo+i
    ·exact r a b p l q
    ·obtain rfl:b=lo+i:=by lia
     by_cases L:a=lo+i
     ·rw[L];exact Zz _
     ·have:=r a (lo+i-1) p (by lia) (by lia)
      lia
  ·rintro c st' ⟨rfl,rfl,O,r⟩
   exact G _ O (Jf _) r λq=>by lia
 rw[countRun'_eq];refine Ju (asc st 1 B (Jf _) (λa b h1 h2 O=>by rw[show a=b by lia];exact Zz _) (λn n1 n2 F X=>?_) _ (λi n=>rfl));dsimp only;by_cases z:n=j
 ·subst z
  rw[Jj (ZF _)];exact Jy (h _ _ (Keep.refl B) n1 (Jf _) F)
 rw[Jg (by simpa using z)];have nl:n<j:=by lia
 have X:=X nl;generalize hT:(bind (liftM (rule "list.sort.descending-run")) _:StateT SortSt Sem (Option Nat))=T
 have tail:∀ o,Keep κ P rk a₀ lo st o->Dn rk (arrOf o) lo n->R rk (arrOf o) (lo+n)<R rk (arrOf o) (lo+n-1)->wpS (model prog w) A E s T Q o:=by
  intro o K1 d1 l1;rw[<- hT];refine Ju (vA ?_)
  have last:∀ d m,Keep κ P rk a₀ lo st d->1<=m->m<=j->Dn rk (arrOf d) lo m->∀ g,Keep κ P rk a₀ lo d g->(∀ k,R rk (arrOf g) k=if lo<=k/\k<lo+m then R rk (arrOf d) (lo+(lo+m)-1-k) else R rk (arrOf d) k)->Up rk (arrOf g) lo m:=by
   intro d m t U m2 u g D H a b p l x;rw[H,H,Jj ⟨by omega,by lia⟩,Jj ⟨by lia,by omega⟩];exact u _ _ (by lia) (by omega) (by omega)
  refine Ju (Z3 (Yt (I:=λi c d=>∃ m q,c=(none,m,q)/\m=i/\q+1<=m/\Keep κ P rk a₀ lo st d/\(i<=j->Dn rk (arrOf d) lo m/\∀ k,lo+m-(q+1)<=k->k<lo+m->R rk (arrOf d) k=R rk (arrOf d) (lo+m-1)))
   (Q:=λc d=>∃ m q,c=(none,m,q)/\1<=m/\m<=j/\q+1<=m/\Keep κ P rk a₀ lo st d/\Dn rk (arrOf d) lo m/\∀ k,lo+m-(q+1)<=k->k<lo+m->R rk (arrOf d) k=R rk (arrOf d) (lo+m-1)) ?step ?fin ?init) ?post)
  case init =>
   refine⟨n+1,0,rfl,rfl,by lia,K1,λ_=>⟨λa b p l x=>?_,λk W V=>by rw[show k=lo+(n+1)-1 by lia]⟩⟩;by_cases q:b<lo+n
   ·exact d1 a b p l q
   ·obtain rfl:b=lo+n:=by lia
    by_cases L:a=lo+n
    ·rw[L];exact Zz _
    ·have:=d1 a (lo+n-1) p (by lia) (by lia)
     lia
  case fin =>
   rintro c d ⟨m,q,rfl,e,G,t,Y⟩;obtain⟨u,eq2⟩:=Y (by lia);exact⟨m,q,rfl,by lia,by lia,G,t,u,eq2⟩
  case step =>
   rintro i c d hi ab ⟨m,q,rfl,rfl,G,t,Y⟩;obtain⟨u,eq2⟩:=Y (by lia);dsimp only;refine Ju (nX C t.b (by lia) (by lia) ?_)
   have more:∀ g,Dn rk (arrOf g) lo m->R rk (arrOf g) (lo+m)<=R rk (arrOf g) (lo+m-1)->Dn rk (arrOf g) lo (m+1):=by
    intro g S le a b p l x;by_cases q:b<lo+m
    ·exact S a b p l q
    ·obtain rfl:b=lo+m:=by lia
     by_cases L:a=lo+m
     ·rw[L];exact Zz _
     ·have:=S a (lo+m-1) p (by lia) (by lia)
      lia
   by_cases z1:R rk (arrOf d) (lo+m)<R rk (arrOf d) (lo+m-1)
   ·rw[Jw z1]
    dsimp only;rw[Jj rfl];by_cases J:q > 0
    ·rw[Jj J]
     refine Ju (pK (rk:=rk) (lo:=lo) t.b (by lia) (by lia) λg D H=>Jy ?_)
     have same:∀ k,R rk (arrOf g) k=R rk (arrOf d) k:=λk=>by
      rw[H];split
      ·rw[eq2 _ (by lia) (by omega),eq2 k (by simp_all) (by simp_all)]
      ·rfl
     refine⟨m+1,0,rfl,rfl,by lia,t.trans D,λ_=>⟨more g (λa b p l x=>by rw[same,same];exact u a b p l x) (by rw[same,same];lia),λk W V=>by rw[show k=lo+(m+1)-1 by lia]⟩⟩
    ·rw[Jg J]
     exact Jy ⟨m+1,0,rfl,rfl,by lia,t,λ_=>⟨more d u (by lia),λk W V=>by rw[show k=lo+(m+1)-1 by lia]⟩⟩
   ·rw[Jn z1]
    dsimp only;rw[Jg Jm];refine Ju (nX C t.b (by lia) (by lia) ?_);by_cases K:R rk (arrOf d) (lo+m-1)<R rk (arrOf d) (lo+m)
    ·rw[Jw K]
     dsimp only;rw[Jj rfl];exact Jy ⟨m,q,rfl,by lia,by lia,G,t,u,eq2⟩
    ·rw[Jn K]
     dsimp only;rw[Jg Jm];have e:R rk (arrOf d) (lo+m)=R rk (arrOf d) (lo+m-1):=by lia
     refine Jy ⟨m+1,q+1,rfl,rfl,by simp_all,t,λ_=>⟨more d u (by simp_all),λk W V=>?_⟩⟩;rw[show lo+(m+1)-1=lo+m by simp_all];by_cases q3:k=lo+m
     ·rw[q3]
     ·rw[eq2 k (by lia) (by lia),e]
  case post =>
   rintro c d ⟨m,q,rfl,U,m2,G,t,u,eq2⟩;dsimp only;generalize ao:(bind (reverseSlice' lo (lo+m)) _:StateT SortSt Sem (Option Nat))=T2
   have on:∀ g,Keep κ P rk a₀ lo st g->Dn rk (arrOf g) lo m->wpS (model prog w) A E s T2 Q g:=by
    intro g D S;rw[<- ao];refine Ju (pK (rk:=rk) (lo:=lo) D.b (by lia) (by lia) λM K4 r4=>?_);refine Ju (asc M m K4.b U (last g m D U m2 S M K4 r4) (λn' a1 a2 r _=>?_) _ (λi n=>rfl));exact Jy (h _ _ (D.trans K4) (by lia) (by simp_all) r)
   by_cases J:q > 0
   ·rw[Jj J]
    refine Ju (pK (rk:=rk) (lo:=lo) t.b (by lia) (by lia) λg D H=>?_)
    have same:∀ k,R rk (arrOf g) k=R rk (arrOf d) k:=λk=>by
     rw[H];split
     ·rw[eq2 _ (by lia) (by omega),eq2 k (by simp_all) (by simp_all)]
     ·rfl
    exact on g (t.trans D) (λa b p l x=>by rw[same,same];exact u a b p l x)
   ·rw[Jg J]
    exact on d t u
 by_cases K:n > 1
 ·rw[Jj K]
  refine Ju (nX C B (by lia) (by lia) ?_);by_cases z3:R rk (arrOf st) lo<R rk (arrOf st) (lo+n-1)
  ·rw[Jw z3]
   exact Jy (h _ _ (Keep.refl B) n1 (by simp_all) F)
  ·rw[Jn z3]
   dsimp only;rw[Jg Jm];refine Ju (pK (rk:=rk) (lo:=lo) B (by lia) (by lia) λo K1 N=>tail o K1 (λa b p l x=>?_) ?_)
   ·rw[N,N,Jj ⟨by lia,by omega⟩,Jj ⟨by omega,by lia⟩]
    exact F _ _ (by lia) (by omega) (by omega)
   ·rw[N,N,Jg (by lia),Jj ⟨by lia,by lia⟩]
    have:=F (lo+(lo+n)-1-(lo+n-1)) (lo+n-1) (by omega) (by omega) (by lia);have e:lo+(lo+n)-1-(lo+n-1)=lo:=by omega
    rw[e]at this ⊢;have:=F lo (lo+n-1) (by lia) (by omega) (by omega);lia
 ·rw[Jg K]
  exact tail st (Keep.refl B) (λa b p l x=>by rw[show a=b by lia];exact Zz _) X
theorem R_bubble {xs:Array Keyed}{src d:Nat}(c:src<xs.size)(hd:d<=src)(k:Nat):R rk (bubble xs src d) k=if k=src-d then R rk xs src else if src-d<k/\k<=src then R rk xs (k-1) else R rk xs k:=by
 have e:=getElem?_bubble (xs:=xs) c d hd k;by_cases b:k=src-d
 ·rw[Jj b]at e ⊢;exact R_congr e
 ·rw[Jg b]at e ⊢
  by_cases a:(src-d<k/\k<=src)
  ·rw[Jj a]at e ⊢;exact R_congr e
  ·rw[Jg a]at e ⊢;exact R_congr e
theorem zbl (C:Cmp prog w A s κ P rk){st:SortSt}{lo n ok:Nat}{Q:Bool->SortSt->Prop}(J:Bs κ P a₀ st)(S:1<=ok)(hok:ok<=n)(hn:lo+n<=a₀.size)(O:Up rk (arrOf st) lo ok)(h:∀ st',Keep κ P rk a₀ lo st st'->Up rk (arrOf st') lo n->Q true st'):wpS (model prog w) A E s (binarySort' lo n ok) Q st:=by
 rw[binarySort'_eq];rw[show max ok 1=ok by simp_all];refine Ju (Z3 (Yt (I:=λk c a=>c=(none,())/\Keep κ P rk a₀ lo st a/\Up rk (arrOf a) lo (min k n)) (Q:=λc a=>c=(none,())/\Keep κ P rk a₀ lo st a/\Up rk (arrOf a) lo n) ?step ?fin ?init) ?post)
 case init=>exact⟨rfl,Keep.refl J,by rwa [Z7 hok]⟩
 case fin =>
  rintro c a ⟨rfl,f,e⟩;rw[show min (max ok n) n=n by simp_all]at e;exact⟨rfl,f,e⟩
 case post =>
  rintro c a ⟨rfl,f,e⟩;exact Jy (h a f e)
 case step =>
  rintro k c a L K ⟨rfl,f,e⟩;rw[show min k n=k by lia]at e
  refine Ju (Z3 (Yt (I:=λx c b=>b=a/\∃ l r,c=(none,l,r)/\l<=r/\r<=k/\r-l<=k-x/\(∀ i,lo<=i->i<lo+l->R rk (arrOf a) i<=R rk (arrOf a) (lo+k))/\(∀ i,lo+r<=i->i<lo+k->R rk (arrOf a) (lo+k)<=R rk (arrOf a) i))
   (Q:=λc b=>b=a/\∃ l r,c=(none,l,r)/\l<=k/\(∀ i,lo<=i->i<lo+l->R rk (arrOf a) i<=R rk (arrOf a) (lo+k))/\(∀ i,lo+l<=i->i<lo+k->R rk (arrOf a) (lo+k)<=R rk (arrOf a) i)) ?istep ?ifin ?iinit) ?ipost)
  case iinit=>exact⟨rfl,0,k,rfl,by lia,by lia,by simp_all,λi _ _=>by lia,λi _ _=>by lia⟩
  case ifin =>
   rintro c b ⟨rfl,l,r,rfl,G,g,m,p,o⟩;obtain rfl:l=r:=by lia
   exact⟨rfl,l,l,rfl,g,p,o⟩
  case istep =>
   rintro x c b _ N ⟨rfl,l,r,rfl,G,g,m,p,o⟩;dsimp only;by_cases ge:l>=r
   ·rw[Jj ge]
    obtain rfl:l=r:=by lia
    exact Jy ⟨rfl,l,l,rfl,g,p,o⟩
   ·rw[Jg ge]
    refine Ju (nX C f.b (by lia) (by lia) ?_);by_cases z:R rk (arrOf b) (lo+k)<R rk (arrOf b) (lo+(l+r) / 2)
    ·rw[Jw z]
     refine Jy ⟨rfl,l,(l+r) / 2,rfl,by lia,by lia,by grind,p,λi u H=>?_⟩;have:=e (lo+(l+r) / 2) i (by simp_all) u (by omega);lia
    ·rw[Jn z]
     refine Jy ⟨rfl,(l+r) / 2+1,r,rfl,by lia,by omega,by grind,λi u H=>?_,o⟩;have:=e i (lo+(l+r) / 2) u (by lia) (by lia);lia
  case ipost =>
   rintro c b ⟨rfl,l,r,rfl,M,p,o⟩;dsimp only;rw[moveDown'_eq];have sz:=f.b.size
   have t:∀ j,R rk (arrOf (setArr b (bubble (arrOf b) (lo+k) (lo+k-(lo+l))))) j=if j=lo+l then R rk (arrOf b) (lo+k) else if lo+l<j/\j<=lo+k then R rk (arrOf b) (j-1) else R rk (arrOf b) j:=λj=>by
    have:=R_bubble (rk:=rk) (xs:=arrOf b) (src:=lo+k) (d:=lo+k-(lo+l)) (by rw[sz];lia) (by simp_all) j;rw[show lo+k-(lo+k-(lo+l))=lo+l by lia]at this;exact this
   refine Ju (Ww (Jy ⟨rfl,f.trans ⟨f.b.arr (bubble_perm _ _ _),rfl,λj y=>?_⟩,λi j hi v y=>?_⟩))
   ·rw[t,Jg (by lia),Jg (by lia)]
   ·rw[show min (k+1) n=k+1 by lia]at y
    rw[t,t];by_cases F:i=lo+l
    ·rw[Jj F]
     by_cases q:j=lo+l
     ·rw[Jj q];exact Zz _
     ·rw[Jg q,Jj ⟨by lia,by lia⟩]
      exact o _ (by lia) (by lia)
    ·rw[Jg F]
     by_cases D:lo+l<i/\i<=lo+k
     ·rw[Jj D,Jg (by lia),Jj ⟨by lia,by lia⟩]
      exact e _ _ (by lia) (by lia) (by lia)
     ·rw[Jg D]
      by_cases q:j=lo+l
      ·rw[Jj q];exact p _ hi (by lia)
      ·rw[Jg q]
       by_cases B:lo+l<j/\j<=lo+k
       ·rw[Jj B];exact e _ _ hi (by grind) (by lia)
       ·rw[Jg B];exact e _ _ hi v (by lia)
end
def aq:Bool->Keyed->Array Keyed->Nat->Nat->Nat->StateT SortSt Sem (Option Nat):=sortPriv% PySem.Builtin.gallop
def bd (left:Bool)(k r:Int):Bool:=if left=true then decide (r<k) else !decide (k<r)
theorem zad {left:Bool}{k r a:Int}(h:r<=a)(b:bd left k a=true):bd left k r=true:=by
 unfold bd at *;cases left
 ·simp only[Yw,Zw,W6,YZ]at *;omega
 ·simp only[YV,YY]at *;omega
section
variable {prog:Yo}{w:YI}{A:YO}{E:Jo->JO->Prop}{s:JO}{κ:SortKind}{P:Keyed->Prop}{rk:Keyed->Int}
theorem mI (C:Cmp prog w A s κ P rk){st:SortSt}{left:Bool}{key:Keyed}{arr:Array Keyed}{j:Nat}{Q:Option Bool->SortSt->Prop}(d:kindOf st=κ)(c:P key)(a:∃ p,arr[j]?=some p/\P p)(h:Q (some (bd left (rk key) (R rk arr j))) st) :
  wpS (model prog w) A E s (elem' arr j >>= λx=>if left=true then lt' x key else (lt' key x >>= λr=>pure (r.map λb=>!b))) Q st:=by
 obtain⟨p,e,pp⟩:=a;have r:R rk arr j=rk p:=by unfold R;rw[e]
 rw[r]at h;refine Ju (yI e ?_);unfold bd at h;cases left
 ·rw[Jg Jm]at h ⊢
  exact Ju (nW C d c pp (Jy h))
 ·rw[Jj rfl]at h ⊢
  exact nW C d pp c h
theorem uV (C:Cmp prog w A s κ P rk){st:SortSt}{left:Bool}{key:Keyed}{arr:Array Keyed}{base n hint:Nat}{Q:Option Nat->SortSt->Prop}(D:kindOf st=κ)(y:P key)(g:∀ i,i<n->∃ p,arr[base+i]?=some p/\P p)(hu:Up rk arr base n)(hh:hint<n)(h:∀ k,k<=n->(∀ i,i<k->bd left (rk key) (R rk arr (base+i))=true)->(∀ i,k<=i->i<n->bd left (rk key) (R rk arr (base+i))=false)->Q (some k) st):wpS (model prog w) A E s (aq left key arr base n hint) Q st:=by
 have K:∀ i j,i<=j->j<n->bd left (rk key) (R rk arr (base+j))=true->bd left (rk key) (R rk arr (base+i))=true:=λi j J H b=>zad (hu _ _ (by simp_all) (by simp_all) (by simp_all)) b
 have up:∀ i j,i<=j->j<n->bd left (rk key) (R rk arr (base+i))=false->bd left (rk key) (R rk arr (base+j))=false:=λi j J H b=>by
  cases q:bd left (rk key) (R rk arr (base+j)) with
  | false=>rfl
  | true=>rw[K i j J H q]at b;cases b
 refine Ju (mI C D y (g hint hh) ?_);dsimp only
 have half:∀ (lo hi:Nat) (f:Nat->Option (Option Nat) × Nat × Nat->StateT SortSt Sem (ForInStep (Option (Option Nat) × Nat × Nat))),lo<=hi->hi<=n ->
   (∀ i,i<lo->bd left (rk key) (R rk arr (base+i))=true)->(∀ i,hi<=i->i<n->bd left (rk key) (R rk arr (base+i))=false) ->
   (∀ x l r (u:ForInStep (Option (Option Nat) × Nat × Nat)->SortSt->Prop),(r<=l->u (.done (none,l,r)) st)->(l<r->r<=n->bd left (rk key) (R rk arr (base+(l+(r-l) / 2)))=true->u (.yield (none,l+(r-l) / 2+1,r)) st) ->
    (l<r->r<=n->bd left (rk key) (R rk arr (base+(l+(r-l) / 2)))=false->u (.yield (none,l,l+(r-l) / 2)) st)->r<=n->wpS (model prog w) A E s (f x (none,l,r)) u st) ->
   wpS (model prog w) A E s (forIn [:n] (none,lo,hi) f) (λc a=>a=st/\∃ k,c=(none,k,k)/\Q (some k) st) st:=by
  intro lo hi f J H h3 h4 hf;refine Yt (I:=λx c a=>a=st/\∃ l r,c=(none,l,r)/\l<=r/\r<=n/\r-l<=n-x/\(∀ i,i<l->bd left (rk key) (R rk arr (base+i))=true)/\(∀ i,r<=i->i<n->bd left (rk key) (R rk arr (base+i))=false)) ?_ ?_ ⟨rfl,lo,hi,rfl,J,H,by grind,h3,h4⟩
  ·rintro x c a _ V ⟨rfl,l,r,rfl,Z,e,m,M,L⟩
   refine hf x l r _ (λz=>?_) (λY X b=>?_) (λY X b=>?_) e
   ·obtain rfl:l=r:=by grind
    exact⟨rfl,l,rfl,h l e M L⟩
   ·exact⟨rfl,_,r,rfl,by grind,e,by grind,λi F=>K i _ (by grind) (by grind) b,L⟩
   ·exact⟨rfl,l,_,rfl,by simp_all,by grind,by omega,M,λi G B=>up _ i G B b⟩
  ·rintro c a ⟨rfl,l,r,rfl,Z,e,m,M,L⟩
   obtain rfl:l=r:=by grind
   exact⟨rfl,l,rfl,h l e M L⟩
 cases W:bd left (rk key) (R rk arr (base+hint)) with
 | true =>
  rw[Jj rfl]
  refine Ju (Z3 (Yt (I:=λx c a=>a=st/\∃ l o,c=(none,l,o)/\x+1<=o/\l<o/\hint+l<n/\bd left (rk key) (R rk arr (base+(hint+l)))=true)
   (Q:=λc a=>a=st/\∃ l o,c=(none,l,o)/\l<o/\hint+l<n/\bd left (rk key) (R rk arr (base+(hint+l)))=true/\(o<n-hint->bd left (rk key) (R rk arr (base+(hint+o)))=false)) ?_ ?_ ⟨rfl,0,1,rfl,by simp_all,by simp_all,by omega,W⟩) ?_)
  ·rintro x c a _ V ⟨rfl,l,o,rfl,N,d,ln,b⟩
   dsimp only;by_cases z:o>=n-hint
   ·rw[Jj z]
    exact Jy ⟨rfl,l,o,rfl,d,ln,b,λq=>by omega⟩
   ·rw[Jg z]
    refine Ju (mI C D y (g (hint+o) (by grind)) ?_)
    cases q:bd left (rk key) (R rk arr (base+(hint+o))) with
    | true=>exact Jy ⟨rfl,o,2*o+1,rfl,by grind,by grind,by grind,q⟩
    | false=>exact Jy ⟨rfl,l,o,rfl,d,ln,b,λ_=>q⟩
  ·rintro c a ⟨rfl,l,o,rfl,N,d,ln,b⟩
   exact⟨rfl,l,o,rfl,d,ln,b,λq=>by grind⟩
  ·rintro c a ⟨rfl,l,o,rfl,d,ln,b,nb⟩
   dsimp only;refine Ju (Z3 (half _ _ _ (by omega) (by omega) (λi F=>K i _ (by grind) ln b) (λi G B=>?_) ?_) ?_)
   ·have q:o<n-hint:=by omega
    exact up _ i (by grind) B (nb q)
   ·intro x t v u T S O e
    dsimp only;by_cases z:t>=v
    ·rw[Jj z];exact Jy (T z)
    ·rw[Jg z]
     refine Ju (mI C D y (g _ (by grind)) ?_)
     cases q:bd left (rk key) (R rk arr (base+(t+(v-t) / 2))) with
     | true=>exact Jy (S (by simp_all) e q)
     | false=>exact Jy (O (by simp_all) e q)
   ·rintro c a ⟨rfl,k,rfl,U⟩
    exact Jy U
 | false =>
  rw[Jg Jm]
  refine Ju (Z3 (Yt (I:=λx c a=>a=st/\∃ l o,c=(none,l,o)/\x+1<=o/\l<o/\l<=hint/\bd left (rk key) (R rk arr (base+(hint-l)))=false)
   (Q:=λc a=>a=st/\∃ l o,c=(none,l,o)/\l<o/\l<=hint/\bd left (rk key) (R rk arr (base+(hint-l)))=false/\(o<hint+1->bd left (rk key) (R rk arr (base+(hint-o)))=true)) ?_ ?_ ⟨rfl,0,1,rfl,by simp_all,by simp_all,by simp_all,W⟩) ?_)
  ·rintro x c a _ V ⟨rfl,l,o,rfl,N,d,ln,b⟩
   dsimp only;by_cases z:o>=hint+1
   ·rw[Jj z]
    exact Jy ⟨rfl,l,o,rfl,d,ln,b,λq=>by omega⟩
   ·rw[Jg z]
    refine Ju (mI C D y (g (hint-o) (by grind)) ?_)
    cases q:bd left (rk key) (R rk arr (base+(hint-o))) with
    | true=>exact Jy ⟨rfl,l,o,rfl,d,ln,b,λ_=>q⟩
    | false=>exact Jy ⟨rfl,o,2*o+1,rfl,by grind,by grind,by grind,q⟩
  ·rintro c a ⟨rfl,l,o,rfl,N,d,ln,b⟩
   exact⟨rfl,l,o,rfl,d,ln,b,λq=>by grind⟩
  ·rintro c a ⟨rfl,l,o,rfl,d,ln,b,nb⟩
   dsimp only;refine Ju (Z3 (half _ _ _ (by omega) (by grind) (λi F=>?_) (λi G B=>up _ i G B b) ?_) ?_)
   ·have q:o<hint+1:=by omega
    exact K i _ (by grind) (by grind) (nb q)
   ·intro x t v u T S O e
    dsimp only;by_cases z:t>=v
    ·rw[Jj z];exact Jy (T z)
    ·rw[Jg z]
     refine Ju (mI C D y (g _ (by grind)) ?_)
     cases q:bd left (rk key) (R rk arr (base+(t+(v-t) / 2))) with
     | true=>exact Jy (S (by simp_all) e q)
     | false=>exact Jy (O (by simp_all) e q)
   ·rintro c a ⟨rfl,k,rfl,U⟩
    exact Jy U
end
def Srt (rk:Keyed->Int)(l:List Keyed):Prop:=l.Pairwise λx y=>rk x<=rk y
structure Lo (rk:Keyed->Int) (T out a b:List Keyed):Prop where
 so:Srt rk out
 sa:Srt rk a
 sb:Srt rk b
 oa:∀ x∈out,∀ y∈a,rk x<=rk y
 ob:∀ x∈out,∀ y∈b,rk x<=rk y
 pm:(out++(a++b)).Perm T
section
variable {rk:Keyed->Int}{T out a b c:List Keyed}
theorem Lo.swap (h:Lo rk T out a b):Lo rk T out b a:=⟨h.so,h.sb,h.sa,h.ob,h.oa,((W8 (l₁:=b) (l₂:=a)).append_left out).trans h.pm⟩
theorem Lo.take (h:Lo rk T out (c++a) b)(le:∀ x∈c,∀ y∈b,rk x<=rk y):Lo rk T (out++c) a b:=by
 obtain⟨i,g,f⟩:=Yr.mp h.sa;refine⟨Yr.mpr ⟨h.so,i,λx e y d=>h.oa x e y (Yq _ d)⟩,g,h.sb,λx e y d=>?_,λx e y d=>?_,?_⟩
 ·rcases Jv.mp e with q|q
  ·exact h.oa x q y (Jz _ d)
  ·exact f x q y d
 ·rcases Jv.mp e with q|q
  ·exact h.ob x q y d
  ·exact le x q y d
 ·have:=h.pm
  rw[JV]at this ⊢;exact this
theorem Lo.end (h:Lo rk T out a []):(out++a).Perm T/\Srt rk (out++a):=by
 have:=h.pm;rw[Y6]at this;exact⟨this,Yr.mpr ⟨h.so,h.sa,h.oa⟩⟩
theorem Lo.lone (h:Lo rk T out a b)(le:∀ x∈b,∀ y∈a,rk x<=rk y):(out++b++a).Perm T/\Srt rk (out++b++a):=by
 refine⟨?_,Yr.mpr ⟨Yr.mpr ⟨h.so,h.sb,h.ob⟩,h.sa,λx d y c=>?_⟩⟩
 ·rw[JV]
  exact((W8 (l₁:=b) (l₂:=a)).append_left out).trans h.pm
 ·rcases Jv.mp d with q|q
  ·exact h.oa x q y c
  ·exact le x q y c
theorem oB {arr:Array Keyed}{i:Nat}{p:Keyed}(e:arr[i]?=some p):arr.toList.drop i=p::arr.toList.drop (i+1):=by
 obtain⟨hi,e⟩:=Yp.mp e;have a:i<arr.toList.length:=by rw[JA];exact hi
 rw[YR a,Array.getElem_toList,e]
theorem sv (arr:Array Keyed)(i k:Nat):arr.toList.drop i=(arr.extract i (i+k)).toList++arr.toList.drop (i+k):=by
 rw[ZA,Z5,Nat.add_sub_cancel_left,<- List.drop_drop,W9]
theorem uX (arr:Array Keyed)(i:Nat):(arr.extract i).toList=arr.toList.drop i:=by
 rw[ZA,Z5];exact JC (by rw[Y4,JA];exact Jf _)
theorem ay {arr:Array Keyed}{i k:Nat}{x:Keyed}(h:x∈(arr.extract i (i+k)).toList):∃ j,j<k/\arr[i+j]?=some x:=by
 rw[ZA,Z5,Nat.add_sub_cancel_left]at h;obtain⟨j,a⟩:=Zs.mp h
 have b:j<k:=by
  have:=(Jb.mp a).1;rw[Jt]at this;grind
 rw[Ze b,Wx]at a;exact⟨j,b,by rw[<- Y9];exact a⟩
theorem su {arr:Array Keyed}{i:Nat}{x:Keyed}(h:x∈arr.toList.drop i):∃ j,arr[i+j]?=some x:=by
 obtain⟨j,a⟩:=Zs.mp h;rw[Wx]at a;exact⟨j,by rw[<- Y9];exact a⟩
theorem R_at {arr:Array Keyed}{i:Nat}{p:Keyed}(e:arr[i]?=some p):R rk arr i=rk p:=by unfold R;rw[e]
theorem rc {arr:Array Keyed}(h:Srt rk arr.toList){base n:Nat}(hn:base+n<=arr.size):Up rk arr base n:=by
 intro i j hi c d;have b:arr[i]?=some arr[i]:=getElem?_pos arr i (by lia);have a:arr[j]?=some arr[j]:=getElem?_pos arr j (by lia);rw[R_at b,R_at a];by_cases z:i=j
 ·subst z;exact Zz _
 ·have:=List.pairwise_iff_getElem.mp h i j (by rw[JA];grind) (by rw[JA];lia) (by lia)
  simpa using this
theorem tJ {arr:Array Keyed}{i:Nat}{p:Keyed}(h:Srt rk arr.toList)(e:arr[i]?=some p):∀ y∈arr.toList.drop i,rk p<=rk y:=by
 have a:Srt rk (arr.toList.drop i):=List.Pairwise.drop h;rw[oB e]at a ⊢;obtain⟨c,_⟩:=List.pairwise_cons.mp a;intro y b;rcases Jr.mp b with rfl|q
 ·exact Zz _
 ·exact c y q
end
section
variable {rk:Keyed->Int}{T:List Keyed}{out a b:Array Keyed}{ia ib k:Nat}{p:Keyed}
abbrev At (rk:Keyed->Int)(T:List Keyed)(out a b:Array Keyed)(ia ib:Nat):Prop:=Lo rk T out.toList (a.toList.drop ia) (b.toList.drop ib)
theorem At.pushA (h:At rk T out a b ia ib)(e:a[ia]?=some p)(le:∀ y∈b.toList.drop ib,rk p<=rk y):At rk T (out.push p) a b (ia+1) ib:=by
 have d:=h;unfold At at d ⊢;rw[oB e]at d;rw[Zu];exact Lo.take (c:=[p]) d λx g y f=>by rw[Jd.mp g];exact le y f
theorem At.pushB (h:At rk T out a b ia ib)(e:b[ib]?=some p)(le:∀ y∈a.toList.drop ia,rk p<=rk y):At rk T (out.push p) a b ia (ib+1):=(At.pushA (a:=b) (b:=a) h.swap e le).swap
theorem At.cutA (h:At rk T out a b ia ib)(le:∀ j x,j<k->a[ia+j]?=some x->∀ y∈b.toList.drop ib,rk x<=rk y):At rk T (out++a.extract ia (ia+k)) a b (ia+k) ib:=by
 have c:=h;unfold At at c ⊢;rw[sv a ia k]at c;rw[Yb]
 exact Lo.take c λx g y f=>by
  obtain⟨j,d,e⟩:=ay g;exact le j x d e y f
theorem At.cutB (h:At rk T out a b ia ib)(le:∀ j x,j<k->b[ib+j]?=some x->∀ y∈a.toList.drop ia,rk x<=rk y):At rk T (out++b.extract ib (ib+k)) a b ia (ib+k):=(At.cutA (a:=b) (b:=a) h.swap le).swap
theorem At.endB (h:At rk T out a b ia ib)(z:b.size<=ib):(out++a.extract ia++b.extract ib).toList.Perm T/\Srt rk (out++a.extract ia++b.extract ib).toList:=by
 have c:=h;unfold At at c;have e:b.toList.drop ib=[]:=List.drop_eq_nil_iff.mpr (by rw[JA];exact z);rw[e]at c;rw[Yb,Yb,uX,uX,e,Y6];exact c.end
theorem At.endA (h:At rk T out a b ia ib)(z:a.size<=ia):(out++a.extract ia++b.extract ib).toList.Perm T/\Srt rk (out++a.extract ia++b.extract ib).toList:=by
 have c:=h.swap;have e:a.toList.drop ia=[]:=List.drop_eq_nil_iff.mpr (by rw[JA];exact z);rw[e]at c;rw[Yb,Yb,uX,uX,e,Y6];exact c.end
theorem At.lastA (h:At rk T out a b ia ib)(le:∀ x∈b.toList.drop ib,∀ y∈a.toList.drop ia,rk x<=rk y):(out++b.extract ib++a.extract ia).toList.Perm T/\Srt rk (out++b.extract ib++a.extract ia).toList:=by
 rw[Yb,Yb,uX,uX];exact Lo.lone h le
end
def cM:Array Keyed->Array Keyed->StateT SortSt Sem (Array Keyed):=sortPriv% PySem.Builtin.mergeLo
def bp:Nat->StateT SortSt Sem Unit:=sortPriv% PySem.Builtin.setMinGallop
structure Sm (st st':SortSt):Prop where
 kind:kindOf st'=kindOf st
 arr:arrOf st'=arrOf st
 pend:pendingOf st'=pendingOf st
 fail:failedOf st'=failedOf st
theorem Sm.refl (st:SortSt):Sm st st:=⟨rfl,rfl,rfl,rfl⟩
theorem Sm.trans {a b c:SortSt}(h:Sm a b)(g:Sm b c):Sm a c:=⟨g.kind.trans h.kind,g.arr.trans h.arr,g.pend.trans h.pend,g.fail.trans h.fail⟩
theorem kn {c:Prop}{_:Decidable c}{β α σ:Type}{M:Model}{A:YO}{E:Jo->JO->Prop}{s:JO}{x y:β}{p q:StateT σ Sem α}{f:β->StateT σ Sem α}{Q:α->σ->Prop}{st:σ}(e:∀ z,z=x->p=f z)(e2:q=f y)(h:∀ z,wpS M A E s (f z) Q st):wpS M A E s (if c then p else q) Q st:=by
 rw[e x rfl,e2];split
 ·exact h x
 ·exact h y
theorem oN {c:Prop}{_:Decidable c}{β a α σ:Type}{M:Model}{A:YO}{E:Jo->JO->Prop}{s:JO}{n:β}{o:a}{x y:StateT σ Sem α}{f:β->a->StateT σ Sem α}(R:β->a->Prop){Q:α->σ->Prop}{st:σ}(e:∀ b o',b=n->o'=o->y=f b o')(g:c->(∀ k o,R k o->wpS M A E s (f k o) Q st)->wpS M A E s x Q st)(d:¬ c->R n o)(h:∀ k o,R k o->wpS M A E s (f k o) Q st):wpS M A E s (if c then x else y) Q st:=by
 rw[e n o rfl rfl];split
 ·next z=>exact g z h
 ·next z=>exact h n o (d z)
section
variable {prog:Yo}{w:YI}{A:YO}{E:Jo->JO->Prop}{s:JO}{κ:SortKind}{P:Keyed->Prop}{rk:Keyed->Int}
theorem pX {st:SortSt}{g:Nat}{Q:Unit->SortSt->Prop}(h:∀ st',Sm st st'->Q () st'):wpS (model prog w) A E s (bp g) Q st :=
 Ww (h _ ⟨rfl,rfl,rfl,rfl⟩)
theorem zbV (C:Cmp prog w A s κ P rk){st:SortSt}{a b:Array Keyed}{Q:Array Keyed->SortSt->Prop}(hk:kindOf st=κ)(pa:∀ x∈a.toList,P x)(pb:∀ x∈b.toList,P x)(sa:Srt rk a.toList)(sb:Srt rk b.toList)(a1:1<=a.size)(b1:1<=b.size)(first:∀ x,b[0]?=some x->∀ y∈a.toList,rk x<=rk y)(last:∀ x,a[a.size-1]?=some x->∀ y∈b.toList,rk y<=rk x)(h:∀ r st',Sm st st'->r.toList.Perm (a.toList++b.toList)->Srt rk r.toList->Q r st'):wpS (model prog w) A E s (cM a b) Q st:=by
 have ab:∀ i,i<a.size->∃ x,a[i]?=some x/\P x:=λi hi=>⟨_,getElem?_pos a i hi,pa _ (by simp)⟩;have U:∀ i,i<b.size->∃ x,b[i]?=some x/\P x:=λi hi=>⟨_,getElem?_pos b i hi,pb _ (by simp)⟩;obtain⟨b0,e0,_⟩:=U 0 b1
 have lone:∀ {out:Array Keyed}{d f:Nat},At rk (a.toList++b.toList) out a b d f->d+1=a.size->(out++b.extract f++a.extract d).toList.Perm (a.toList++b.toList)/\Srt rk (out++b.extract f++a.extract d).toList:=λ{out d f} L z=>L.lastA λx hx y hy=>by
  obtain⟨j,ej⟩:=su hy;have:=(Yp.mp ej).1;exact last y (by rw[show a.size-1=d+j by lia];exact ej) x (Wf hx)
 have L0:At rk (a.toList++b.toList) #[b0] a b 0 1:=by
  have e:=oB e0;rw[W7]at e;have hb:=sb;unfold Srt at hb;rw[e]at hb;obtain⟨h1,h2⟩:=List.pairwise_cons.mp hb;refine⟨List.pairwise_singleton _ _,by rw[W7];exact sa,h2,λx hx y hy=>?_,λx hx y hy=>?_,?_⟩
  ·rw[Jd.mp hx];exact first b0 e0 y (Wf hy)
  ·rw[Jd.mp hx];exact h1 y hy
  ·rw[W7]
   conv=>rhs;rw[e]
   show (b0::(a.toList++b.toList.drop 1)).Perm (a.toList++b0::b.toList.drop 1);exact List.perm_middle.symm
 have size:∀ {out:Array Keyed}{d f:Nat},At rk (a.toList++b.toList) out a b d f->out.size<=a.size+b.size:=λ{out d f} L=>by
  have:=L.pm.length_eq;simp only[Jc,JA]at this;lia
 refine Ju (vA ?_);refine Ju (yI e0 ?_);dsimp -zeta only;by_cases z1:1=b.size
 ·rw[Jj (by simpa using z1)]
  obtain⟨m,l⟩:=L0.endB (by simp_all);exact Jy (h _ _ (Sm.refl _) m l)
 rw[Jg (by simpa using z1)];by_cases z2:0+1=a.size
 ·rw[Jj (by simpa using z2)]
  obtain⟨m,l⟩:=lone L0 z2;exact Jy (h _ _ (Sm.refl _) m l)
 rw[Jg (by simpa using z2)];refine Ju (Wt ?_)
 refine Ju (Z3 (Yt (I:=λi c p=>Sm st p/\∃ out d f g,c=(none,out,d,f,g)/\At rk (a.toList++b.toList) out a b d f/\d+1<a.size/\f<b.size/\i+1<=out.size)
  (Q:=λc p=>Sm st p/\∃ r x,c=(some r,x)/\r.toList.Perm (a.toList++b.toList)/\Srt rk r.toList) ?step ?fin ⟨Sm.refl _,_,_,_,_,rfl,L0,by lia,by lia,by simp⟩) ?post)
 case post =>
  rintro c p ⟨S1,r,x,rfl,m,l⟩;exact Jy (h _ _ S1 m l)
 case fin =>
  rintro c p ⟨S1,out,d,f,g,rfl,L,_,_,sz⟩;have:=size L;lia
 case step =>
  rintro i c p _ hi ⟨S1,out,d,f,g,rfl,L,F,B,sz⟩;dsimp -zeta only
  refine Ju (Z3 (Yt (I:=λj c H=>H=p/\∃ out d f ca D,c=(none,out,d,f,ca,D)/\At rk (a.toList++b.toList) out a b d f/\d+1<a.size/\f<b.size/\i+1+j<=out.size)
   (Q:=λc H=>H=p/\((∃ r x,c=(some r,x)/\r.toList.Perm (a.toList++b.toList)/\Srt rk r.toList)\/∃ out d f ca D,c=(none,out,d,f,ca,D)/\At rk (a.toList++b.toList) out a b d f/\d+1<a.size/\f<b.size/\i+2<=out.size)) ?_ ?_ ⟨rfl,_,_,_,_,_,rfl,L,F,B,by omega⟩) ?_)
  ·rintro j c H _ hj ⟨rfl,out,d,f,ca,D,rfl,L,F,B,sz⟩
   dsimp only;obtain⟨x,ex,px⟩:=ab d (by lia);obtain⟨y,S,py⟩:=U f B;refine Ju (yI S (Ju (yI ex (Ju (nW C (S1.kind.trans hk) py px ?_)))));by_cases z:rk y<rk x
   ·rw[Jw z]
    dsimp -zeta only;rw[Jj rfl];have Z:=L.pushB S λu X=>Zq (Int.le_of_lt z) (tJ sa ex u X);refine Ju (yI S ?_);by_cases R:f+1=b.size
    ·rw[Jj (by simpa using R)]
     obtain⟨m,l⟩:=Z.endB (by simp_all);exact Jy ⟨rfl,.inl ⟨_,_,rfl,m,l⟩⟩
    ·rw[Jg (by simpa using R)]
     by_cases zg:D+1>=g
     ·rw[Jj zg]
      exact Jy ⟨rfl,.inr ⟨_,_,_,_,_,rfl,Z,F,by lia,by rw[Yg];lia⟩⟩
     ·rw[Jg zg]
      exact Jy ⟨rfl,_,_,_,_,_,rfl,Z,F,by lia,by rw[Yg];lia⟩
   ·rw[Jn z]
    dsimp only;rw[Jg Jm];have Z:=L.pushA ex λu X=>Zq (by simp_all) (tJ sb S u X);refine Ju (yI ex ?_);by_cases R:d+1+1=a.size
    ·rw[Jj (by simpa using R)]
     obtain⟨m,l⟩:=lone Z R;exact Jy ⟨rfl,.inl ⟨_,_,rfl,m,l⟩⟩
    ·rw[Jg (by simpa using R)]
     by_cases zg:ca+1>=g
     ·rw[Jj zg]
      exact Jy ⟨rfl,.inr ⟨_,_,_,_,_,rfl,Z,by lia,B,by rw[Yg];lia⟩⟩
     ·rw[Jg zg]
      exact Jy ⟨rfl,_,_,_,_,_,rfl,Z,by lia,B,by rw[Yg];lia⟩
  ·rintro c H ⟨rfl,out,d,f,ca,D,rfl,L,F,B,sz⟩
   have:=size L;omega
  ·rintro c H ⟨rfl,⟨r,x,rfl,m,l⟩|⟨out,d,f,ca,D,rfl,L,F,B,sz⟩⟩
   ·exact Jy ⟨S1,r,_,rfl,m,l⟩
   dsimp -zeta only;refine Ju (vA ?_)
   refine Ju (Z3 (Yt (I:=λj c G=>Sm st G/\∃ out d f g ca D,c=(none,out,d,f,g,ca,D)/\At rk (a.toList++b.toList) out a b d f/\d+1<a.size/\f<b.size/\i+2<=out.size)
    (Q:=λc G=>Sm st G/\((∃ r x,c=(some r,x)/\r.toList.Perm (a.toList++b.toList)/\Srt rk r.toList)\/∃ out d f g ca D,c=(none,out,d,f,g,ca,D)/\At rk (a.toList++b.toList) out a b d f/\d+1<a.size/\f<b.size/\i+2<=out.size)) ?_ ?_ ⟨S1,_,_,_,_,_,_,rfl,L,F,B,sz⟩) ?_)
   ·rintro j c G _ hj ⟨S3,out,d,f,g,ca,D,rfl,L,F,B,sz⟩
    dsimp -zeta only;obtain⟨y,S,py⟩:=U f B;refine kn (x:=g-1) (y:=g) (λz hz=>by rw[<- hz]) (by rfl) λg'=>?_;refine Ju (pX λaT q=>?_);have q:=S3.trans q;refine Ju (yI S (Ju (uV C (q.kind.trans hk) py (λt ht=>ab (d+t) (by lia)) (rc sa (by lia)) (by lia) λk a3 g1 g2=>?_)));dsimp -zeta only
    have L1:=L.cutA (k:=k) λt u tk eu v hv=>by
     have:=g1 t tk;rw[R_at eu]at this;unfold bd at this;simp only[Yw,Zw,W6,YZ]at this;have:=tJ sb S v hv;lia
    have hle:∀ u∈a.toList.drop (d+k),rk y<=rk u:=λu X=>by
     obtain⟨t,et⟩:=su X;have tl:=(Yp.mp et).1;have:=g2 (k+t) (by lia) (by lia);rw[<- Nat.add_assoc,R_at et]at this;unfold bd at this;simp only[Yw,Zw,Bool.not_eq_false',YY]at this;lia
    have T:i+2<=(out++a.extract d (d+k)).size:=by rw[Yu];lia
    refine oN (n:=d) (o:=out) (λK N=>At rk (a.toList++b.toList) N a b K f/\K+1<a.size/\i+2<=N.size/\∀ u∈a.toList.drop K,rk y<=rk u) (λn' o' h1 h2=>by rw[<- h1,<- h2]) (λ_ J=>?_) (λzk=>?_) ?_
    ·by_cases za:d+k+1=a.size
     ·rw[Jj (by simpa using za)]
      obtain⟨m,l⟩:=lone L1 za;exact Jy ⟨q,.inl ⟨_,_,rfl,m,l⟩⟩
     rw[Jg (by simpa using za)];by_cases zc:d+k=a.size
     ·rw[Jj (by simpa using zc)]
      obtain⟨m,l⟩:=L1.endA (by simp_all);exact Jy ⟨q,.inl ⟨_,_,rfl,m,l⟩⟩
     rw[Jg (by simpa using zc)];exact J _ _ ⟨L1,by lia,T,hle⟩
    ·obtain rfl:k=0:=by lia
     exact⟨L,F,sz,hle⟩
    clear g1 g2 hle L1 T a3;rintro K N ⟨L1,la1,T,hle⟩;refine Ju (yI S ?_);have L2:=L1.pushB S hle;by_cases R:f+1=b.size
    ·rw[Jj (by simpa using R)]
     obtain⟨m,l⟩:=L2.endB (by simp_all);exact Jy ⟨q,.inl ⟨_,_,rfl,m,l⟩⟩
    rw[Jg (by simpa using R)];obtain⟨x1,M,a0⟩:=ab _ (Nat.lt_of_succ_lt la1);refine Ju (yI M (Ju (uV C (q.kind.trans hk) a0 (λt ht=>U (f+1+t) (by lia)) (rc sb (by lia)) (by lia) λW a5 c1 c2=>?_)));dsimp only
    have L3:=L2.cutB (k:=W) λt u tk eu v hv=>by
     have:=c1 t tk;rw[R_at eu]at this;unfold bd at this;simp only[YV,YY]at this;have:=tJ sa M v hv;lia
    have O:∀ u∈b.toList.drop (f+1+W),rk x1<=rk u:=λu X=>by
     obtain⟨t,et⟩:=su X;have tl:=(Yp.mp et).1;have:=c2 (W+t) (by lia) (by lia);rw[<- Nat.add_assoc,R_at et]at this;unfold bd at this;simp only[YV,YZ]at this
     simp_all
    have a4:=T;by_cases ao:W > 0
    ·rw[Jj ao]
     by_cases zd:f+1+W=b.size
     ·rw[Jj (by simpa using zd)]
      obtain⟨m,l⟩:=L3.endB (by simp_all);exact Jy ⟨q,.inl ⟨_,_,rfl,m,l⟩⟩
     rw[Jg (by simpa using zd)];have ax:f+1+W<b.size:=by lia
     refine Ju (yI M ?_);have Y:=L3.pushA M O;by_cases V:K+1+1=a.size
     ·rw[Jj (by simpa using V)]
      obtain⟨m,l⟩:=lone Y V;exact Jy ⟨q,.inl ⟨_,_,rfl,m,l⟩⟩
     rw[Jg (by simpa using V)];split
     ·exact Jy ⟨q,.inr ⟨_,_,_,_,_,_,rfl,Y,by lia,ax,by simp only[Yg,Yu];lia⟩⟩
     ·exact Jy ⟨q,_,_,_,_,_,_,rfl,Y,by lia,ax,by simp only[Yg,Yu];lia⟩
    ·rw[Jg ao]
     obtain rfl:W=0:=by simp_all
     rw[ZG]at O;refine Ju (yI M ?_);have Y:=L2.pushA M O;by_cases V:K+1+1=a.size
     ·rw[Jj (by simpa using V)]
      obtain⟨m,l⟩:=lone Y V;exact Jy ⟨q,.inl ⟨_,_,rfl,m,l⟩⟩
     rw[Jg (by simpa using V)];split
     ·exact Jy ⟨q,.inr ⟨_,_,_,_,_,_,rfl,Y,by lia,by lia,by simp only[Yg,Yu];lia⟩⟩
     ·exact Jy ⟨q,_,_,_,_,_,_,rfl,Y,by lia,by lia,by simp only[Yg,Yu];lia⟩
   ·rintro c G ⟨S3,out,d,f,g,ca,D,rfl,L,F,B,sz⟩
    exact⟨S3,.inr ⟨_,_,_,_,_,_,rfl,L,F,B,sz⟩⟩
   ·rintro c G ⟨S3,⟨r,x,rfl,m,l⟩|⟨out,d,f,g,ca,D,rfl,L,F,B,sz⟩⟩
    ·exact Jy ⟨S3,r,_,rfl,m,l⟩
    dsimp only;refine Ju (pX λaT q=>?_);exact Jy ⟨S3.trans q,_,_,_,_,rfl,L,F,B,by omega⟩
end
def cO:Array Keyed->Array Keyed->StateT SortSt Sem (Array Keyed):=sortPriv% PySem.Builtin.mergeHi
structure Hi (rk:Keyed->Int) (T a b out:List Keyed):Prop where
 sa:Srt rk a
 sb:Srt rk b
 so:Srt rk out
 ao:∀ x∈a,∀ y∈out,rk x<=rk y
 bo:∀ x∈b,∀ y∈out,rk x<=rk y
 pm:(a++b++out).Perm T
section
variable {rk:Keyed->Int}{T out a b c:List Keyed}
theorem Hi.swap (h:Hi rk T a b out):Hi rk T b a out:=⟨h.sb,h.sa,h.so,h.bo,h.ao,((W8 (l₁:=b) (l₂:=a)).append_right out).trans h.pm⟩
theorem Hi.take (h:Hi rk T (a++c) b out)(le:∀ x∈b,∀ y∈c,rk x<=rk y):Hi rk T a b (c++out):=by
 obtain⟨i,g,f⟩:=Yr.mp h.sa;refine⟨i,h.sb,Yr.mpr ⟨g,h.so,λx d y e=>h.ao x (Jz _ d) y e⟩,λx d y e=>?_,λx d y e=>?_,?_⟩
 ·rcases Jv.mp e with q|q
  ·exact f x d y q
  ·exact h.ao x (Yq _ d) y q
 ·rcases Jv.mp e with q|q
  ·exact le x d y q
  ·exact h.bo x d y q
 ·refine List.Perm.trans ?_ h.pm
  rw[<- JV];refine List.Perm.append_right out ?_;rw[JV,JV];exact List.Perm.append_left a W8
theorem Hi.end (h:Hi rk T [] b out):(b++out).Perm T/\Srt rk (b++out):=⟨h.pm,Yr.mpr ⟨h.sb,h.so,h.bo⟩⟩
theorem Hi.lone (h:Hi rk T a b out)(le:∀ x∈b,∀ y∈a,rk x<=rk y):(b++a++out).Perm T/\Srt rk (b++a++out):=by
 refine⟨((W8 (l₁:=b) (l₂:=a)).append_right out).trans h.pm,Yr.mpr ⟨Yr.mpr ⟨h.sb,h.sa,le⟩,h.so,λx d y c=>?_⟩⟩;rcases Jv.mp d with q|q
 ·exact h.bo x q y c
 ·exact h.ao x q y c
theorem bf {arr:Array Keyed}{n:Nat}{p:Keyed}(b:1<=n)(e:arr[n-1]?=some p):arr.toList.take n=arr.toList.take (n-1)++[p]:=by
 obtain⟨hi,e⟩:=Yp.mp e;have a:n-1<arr.toList.length:=by rw[JA];exact hi
 have:=Yk a;rw[Nat.sub_add_cancel b,Array.getElem_toList,e]at this;exact this
theorem g8 (arr:Array Keyed){i n:Nat}(h:i<=n):arr.toList.take n=arr.toList.take i++(arr.extract i n).toList:=by
 rw[ZA,Z5];have:=List.take_add (l:=arr.toList) (i:=i) (j:=n-i);rw[show i+(n-i)=n by simp_all]at this;exact this
theorem vY (arr:Array Keyed)(n:Nat):(arr.extract 0 n).toList=arr.toList.take n:=by
 rw[ZA,Z5,W7,Nat.sub_zero]
theorem vZ {arr:Array Keyed}{i n:Nat}{x:Keyed}(h:x∈(arr.extract i n).toList):∃ j,i<=j/\j<n/\arr[j]?=some x:=by
 rw[ZA,Z5]at h;obtain⟨j,a⟩:=Zs.mp h
 have b:j<n-i:=by
  have:=(Jb.mp a).1;rw[Jt]at this;grind
 rw[Ze b,Wx]at a;exact⟨i+j,by lia,by omega,by rw[<- Y9];exact a⟩
theorem vj {arr:Array Keyed}{n:Nat}{x:Keyed}(h:x∈arr.toList.take n):∃ j,j<n/\arr[j]?=some x:=by
 obtain⟨j,a⟩:=Zs.mp h
 have b:j<n:=by
  have:=(Jb.mp a).1;rw[Jt]at this;grind
 rw[Ze b]at a;exact⟨j,b,by rw[<- Y9];exact a⟩
theorem uK {arr:Array Keyed}{n:Nat}{p:Keyed}(h:Srt rk arr.toList)(f:1<=n)(e:arr[n-1]?=some p):∀ y∈arr.toList.take n,rk y<=rk p:=by
 intro y a;obtain⟨j,c,b⟩:=vj a;have d:=(Yp.mp e).1;have:=rc h (base:=0) (n:=n) (by lia) j (n-1) (JN _) (by lia) (by lia);rw[R_at b,R_at e]at this;exact this
end
section
variable {rk:Keyed->Int}{T:List Keyed}{out a b:Array Keyed}{na nb i:Nat}{p:Keyed}
abbrev Bt (rk:Keyed->Int)(T:List Keyed)(a b out:Array Keyed)(na nb:Nat):Prop:=Hi rk T (a.toList.take na) (b.toList.take nb) out.toList.reverse
theorem Bt.pushA (h:Bt rk T a b out na nb)(i:1<=na)(e:a[na-1]?=some p)(le:∀ x∈b.toList.take nb,rk x<=rk p):Bt rk T a b (out.push p) (na-1) nb:=by
 have d:=h;unfold Bt at d ⊢;rw[bf i e]at d;rw[Zu,List.reverse_append];exact Hi.take (c:=[p]) d λx g y f=>by rw[Jd.mp f];exact le x g
theorem Bt.pushB (h:Bt rk T a b out na nb)(c:1<=nb)(e:b[nb-1]?=some p)(le:∀ x∈a.toList.take na,rk x<=rk p):Bt rk T a b (out.push p) na (nb-1):=(Bt.pushA (a:=b) (b:=a) h.swap c e le).swap
theorem Bt.cutA (h:Bt rk T a b out na nb)(hi:i<=na)(le:∀ j x,i<=j->j<na->a[j]?=some x->∀ y∈b.toList.take nb,rk y<=rk x):Bt rk T a b (out++(a.extract i na).reverse) i nb:=by
 have c:=h;unfold Bt at c ⊢;rw[g8 a hi]at c;rw[Yb,List.reverse_append,Array.toList_reverse,List.reverse_reverse]
 exact Hi.take c λy g x k=>by
  obtain⟨j,f,d,e⟩:=vZ k;exact le j x f d e y g
theorem Bt.cutB (h:Bt rk T a b out na nb)(hi:i<=nb)(le:∀ j x,i<=j->j<nb->b[j]?=some x->∀ y∈a.toList.take na,rk y<=rk x):Bt rk T a b (out++(b.extract i nb).reverse) na i:=(Bt.cutA (a:=b) (b:=a) h.swap hi le).swap
theorem Bt.endA (h:Bt rk T a b out 0 nb):(a.extract 0 0++b.extract 0 nb++out.reverse).toList.Perm T/\Srt rk (a.extract 0 0++b.extract 0 nb++out.reverse).toList:=by
 rw[Yb,Yb,vY,vY,Zi,Wi,Array.toList_reverse];exact Hi.end h
theorem Bt.endB (h:Bt rk T a b out na 0):(a.extract 0 na++b.extract 0 0++out.reverse).toList.Perm T/\Srt rk (a.extract 0 na++b.extract 0 0++out.reverse).toList:=by
 rw[Yb,Yb,vY,vY,Zi,Y6,Array.toList_reverse];exact Hi.end h.swap
theorem Bt.lone (h:Bt rk T a b out na nb)(le:∀ x∈b.toList.take nb,∀ y∈a.toList.take na,rk x<=rk y):(b.extract 0 nb++a.extract 0 na++out.reverse).toList.Perm T/\Srt rk (b.extract 0 nb++a.extract 0 na++out.reverse).toList:=by
 rw[Yb,Yb,vY,vY,Array.toList_reverse];exact Hi.lone h le
end
section
variable {prog:Yo}{w:YI}{A:YO}{E:Jo->JO->Prop}{s:JO}{κ:SortKind}{P:Keyed->Prop}{rk:Keyed->Int}
theorem zb1 (C:Cmp prog w A s κ P rk){st:SortSt}{a b:Array Keyed}{Q:Array Keyed->SortSt->Prop}(hk:kindOf st=κ)(pa:∀ x∈a.toList,P x)(pb:∀ x∈b.toList,P x)(sa:Srt rk a.toList)(sb:Srt rk b.toList)(a1:1<=a.size)(b1:1<=b.size)(first:∀ x,b[0]?=some x->∀ y∈a.toList,rk x<=rk y)(last:∀ x,a[a.size-1]?=some x->∀ y∈b.toList,rk y<=rk x)(h:∀ r st',Sm st st'->r.toList.Perm (a.toList++b.toList)->Srt rk r.toList->Q r st'):wpS (model prog w) A E s (cO a b) Q st:=by
 have S:∀ i,i<a.size->∃ x,a[i]?=some x/\P x:=λi hi=>⟨_,getElem?_pos a i hi,pa _ (by simp)⟩;have Y:∀ i,i<b.size->∃ x,b[i]?=some x/\P x:=λi hi=>⟨_,getElem?_pos b i hi,pb _ (by simp)⟩;obtain⟨z0,e0,_⟩:=S (a.size-1) (by lia)
 have lone:∀ {out:Array Keyed}{na:Nat},Bt rk (a.toList++b.toList) a b out na 1->(b.extract 0 1++a.extract 0 na++out.reverse).toList.Perm (a.toList++b.toList)/\Srt rk (b.extract 0 1++a.extract 0 na++out.reverse).toList:=λ{out na} L=>L.lone λx hx y hy=>by
  obtain⟨j,j1,ej⟩:=vj hx;exact first x (by rw[show 0=j by simp_all];exact ej) y (YX hy)
 have L0:Bt rk (a.toList++b.toList) a b #[z0] (a.size-1) b.size:=by
  have w0:Bt rk (a.toList++b.toList) a b #[] a.size b.size:=by
   have e1:a.toList.take a.size=a.toList:=JC (by rw[JA];exact Jf _);have e2:b.toList.take b.size=b.toList:=JC (by rw[JA];exact Jf _);unfold Bt;rw[e1,e2];exact⟨sa,sb,List.Pairwise.nil,λx hx y hy=>by simp at hy,λx hx y hy=>by simp at hy,by simp⟩
  exact w0.pushA a1 e0 λx hx=>last z0 e0 x (YX hx)
 have size:∀ {out:Array Keyed}{na nb:Nat},Bt rk (a.toList++b.toList) a b out na nb->out.size<=a.size+b.size:=λ{out na nb} L=>by
  have:=L.pm.length_eq;simp only[Jc,Zh,JA]at this;lia
 refine Ju (vA ?_);refine Ju (yI e0 ?_);dsimp -zeta only;by_cases z1:a.size-1=0
 ·rw[Jj (by simpa using z1)]
  rw[z1]at L0 ⊢;obtain⟨f,e⟩:=L0.endA;exact Jy (h _ _ (Sm.refl _) f e)
 rw[Jg (by simpa using z1)];by_cases z2:b.size=1
 ·rw[Jj (by simpa using z2)]
  rw[z2]at L0 ⊢;obtain⟨f,e⟩:=lone L0;exact Jy (h _ _ (Sm.refl _) f e)
 rw[Jg (by simpa using z2)];refine Ju (Wt ?_)
 refine Ju (Z3 (Yt (I:=λi c m=>Sm st m/\∃ na nb out g,c=(none,na,nb,out,g)/\Bt rk (a.toList++b.toList) a b out na nb/\1<=na/\na<=a.size/\2<=nb/\nb<=b.size/\i+1<=out.size)
  (Q:=λc m=>Sm st m/\∃ r x,c=(some r,x)/\r.toList.Perm (a.toList++b.toList)/\Srt rk r.toList) ?step ?fin ⟨Sm.refl _,_,_,_,_,rfl,L0,by lia,by simp_all,by lia,by lia,by simp⟩) ?post)
 case post =>
  rintro c m ⟨S1,r,x,rfl,f,e⟩;exact Jy (h _ _ S1 f e)
 case fin =>
  rintro c m ⟨S1,na,nb,out,g,rfl,L,_,_,_,_,sz⟩;have:=size L;lia
 case step =>
  rintro i c m _ hi ⟨S1,na,nb,out,g,rfl,L,q,d,H,l,sz⟩;dsimp -zeta only
  refine Ju (Z3 (Yt (I:=λj c F=>F=m/\∃ na nb out ca B,c=(none,na,nb,out,ca,B)/\Bt rk (a.toList++b.toList) a b out na nb/\1<=na/\na<=a.size/\2<=nb/\nb<=b.size/\i+1+j<=out.size)
   (Q:=λc F=>F=m/\((∃ r x,c=(some r,x)/\r.toList.Perm (a.toList++b.toList)/\Srt rk r.toList)\/∃ na nb out ca B,c=(none,na,nb,out,ca,B)/\Bt rk (a.toList++b.toList) a b out na nb/\1<=na/\na<=a.size/\2<=nb/\nb<=b.size/\i+2<=out.size)) ?_ ?_ ⟨rfl,_,_,_,_,_,rfl,L,q,d,H,l,by omega⟩) ?_)
  ·rintro j c F _ hj ⟨rfl,na,nb,out,ca,B,rfl,L,q,d,H,l,sz⟩
   dsimp only;obtain⟨x,ex,px⟩:=S (na-1) (by lia);obtain⟨y,N,py⟩:=Y (nb-1) (by lia);refine Ju (yI N (Ju (yI ex (Ju (nW C (S1.kind.trans hk) py px ?_)))));by_cases z:rk y<rk x
   ·rw[Jw z]
    dsimp -zeta only;rw[Jj rfl];have R:=L.pushA q ex λu W=>Zq (uK sb (by lia) N u W) (Int.le_of_lt z);refine Ju (yI ex ?_);by_cases K:na-1=0
    ·rw[Jj (by simpa using K)]
     rw[K]at R ⊢;obtain⟨f,e⟩:=R.endA;exact Jy ⟨rfl,.inl ⟨_,_,rfl,f,e⟩⟩
    ·rw[Jg (by simpa using K)]
     by_cases zg:ca+1>=g
     ·rw[Jj zg]
      exact Jy ⟨rfl,.inr ⟨_,_,_,_,_,rfl,R,by lia,by lia,H,l,by rw[Yg];lia⟩⟩
     ·rw[Jg zg]
      exact Jy ⟨rfl,_,_,_,_,_,rfl,R,by lia,by grind,H,l,by rw[Yg];lia⟩
   ·rw[Jn z]
    dsimp only;rw[Jg Jm];have R:=L.pushB (by lia) N λu W=>Zq (uK sa q ex u W) (by simp_all);refine Ju (yI N ?_);by_cases K:nb-1=1
    ·rw[Jj (by simpa using K)]
     rw[K]at R ⊢;obtain⟨f,e⟩:=lone R;exact Jy ⟨rfl,.inl ⟨_,_,rfl,f,e⟩⟩
    ·rw[Jg (by simpa using K)]
     by_cases zg:B+1>=g
     ·rw[Jj zg]
      exact Jy ⟨rfl,.inr ⟨_,_,_,_,_,rfl,R,q,d,by lia,by lia,by rw[Yg];lia⟩⟩
     ·rw[Jg zg]
      exact Jy ⟨rfl,_,_,_,_,_,rfl,R,q,d,by lia,by grind,by rw[Yg];lia⟩
  ·rintro c F ⟨rfl,na,nb,out,ca,B,rfl,L,q,d,H,l,sz⟩
   have:=size L;omega
  ·rintro c F ⟨rfl,⟨r,x,rfl,f,e⟩|⟨na,nb,out,ca,B,rfl,L,q,d,H,l,sz⟩⟩
   ·exact Jy ⟨S1,r,_,rfl,f,e⟩
   dsimp -zeta only;refine Ju (vA ?_)
   refine Ju (Z3 (Yt (I:=λj c D=>Sm st D/\∃ na nb out g ca B,c=(none,na,nb,out,g,ca,B)/\Bt rk (a.toList++b.toList) a b out na nb/\1<=na/\na<=a.size/\2<=nb/\nb<=b.size/\i+2<=out.size)
    (Q:=λc D=>Sm st D/\((∃ r x,c=(some r,x)/\r.toList.Perm (a.toList++b.toList)/\Srt rk r.toList)\/∃ na nb out g ca B,c=(none,na,nb,out,g,ca,B)/\Bt rk (a.toList++b.toList) a b out na nb/\1<=na/\na<=a.size/\2<=nb/\nb<=b.size/\i+2<=out.size)) ?_ ?_ ⟨S1,_,_,_,_,_,_,rfl,L,q,d,H,l,sz⟩) ?_)
   ·rintro j c D _ hj ⟨S3,na,nb,out,g,ca,B,rfl,L,q,d,H,l,sz⟩
    dsimp -zeta only;obtain⟨y,N,py⟩:=Y (nb-1) (by lia);refine kn (x:=g-1) (y:=g) (λz hz=>by rw[<- hz]) (by rfl) λg'=>?_;refine Ju (pX λax p=>?_);have p:=S3.trans p;refine Ju (yI N (Ju (uV C (p.kind.trans hk) py (λt ht=>S (0+t) (by lia)) (rc sa (by simp_all)) (by lia) λk ao g1 g2=>?_)));dsimp -zeta only
    have L1:=L.cutA (i:=k) ao λt u V tn eu v hv=>by
     have:=g2 t V tn;rw[Zp,R_at eu]at this;unfold bd at this;simp only[Yw,Zw,Bool.not_eq_false',YY]at this;have:=uK sb (by lia) N v hv;lia
    have hle:∀ u∈a.toList.take k,rk u<=rk y:=λu W=>by
     obtain⟨t,V,et⟩:=vj W;have:=g1 t V;rw[Zp,R_at et]at this;unfold bd at this;simp only[Yw,Zw,W6,YZ]at this
     simp_all
    have X:i+2<=(out++(a.extract k na).reverse).size:=by rw[Yu];lia
    generalize ek:na-k=kk;refine oN (n:=na) (o:=out) (λk M=>Bt rk (a.toList++b.toList) a b M k nb/\1<=k/\k<=a.size/\i+2<=M.size/\∀ u∈a.toList.take k,rk u<=rk y) (λn' o' h1 h2=>by rw[<- h1,<- h2]) (λ_ J=>?_) (λzk=>?_) ?_
    ·by_cases zc:k=0
     ·rw[Jj (by simpa using zc)]
      subst zc;obtain⟨f,e⟩:=L1.endA;exact Jy ⟨p,.inl ⟨_,_,rfl,f,e⟩⟩
     rw[Jg (by simpa using zc)];exact J _ _ ⟨L1,by lia,by lia,X,hle⟩
    ·obtain rfl:k=na:=by lia
     exact⟨L,q,d,sz,hle⟩
    clear g1 g2 hle L1 X ek ao;rintro k M ⟨L1,ka,a3,X,hle⟩;refine Ju (yI N ?_);have L2:=L1.pushB (by lia) N hle;by_cases K:nb-1=1
    ·rw[Jj (by simpa using K)]
     rw[K]at L2 ⊢;obtain⟨f,e⟩:=lone L2;exact Jy ⟨p,.inl ⟨_,_,rfl,f,e⟩⟩
    rw[Jg (by simpa using K)];obtain⟨x1,G,aT⟩:=S (k-1) (by lia);refine Ju (yI G (Ju (uV C (p.kind.trans hk) aT (λt ht=>Y (0+t) (by lia)) (rc sb (by lia)) (by lia) λZ a0 c1 c2=>?_)));dsimp only
    have L3:=L2.cutB (i:=Z) a0 λt u V tn eu v hv=>by
     have:=c2 t V tn;rw[Zp,R_at eu]at this;unfold bd at this;simp only[YV,YZ]at this;have:=uK sa ka G v hv;lia
    have T:∀ u∈b.toList.take Z,rk u<=rk x1:=λu W=>by
     obtain⟨t,V,et⟩:=vj W;have:=c1 t V;rw[Zp,R_at et]at this;unfold bd at this;simp only[YV,YY]at this;lia
    by_cases ab:nb-1-Z > 0
    ·rw[Jj ab]
     by_cases zd:Z=1
     ·rw[Jj (by simpa using zd)]
      subst zd;obtain⟨f,e⟩:=lone L3;exact Jy ⟨p,.inl ⟨_,_,rfl,f,e⟩⟩
     rw[Jg (by simpa using zd)];by_cases zf:Z=0
     ·rw[Jj (by simpa using zf)]
      subst zf;obtain⟨f,e⟩:=L3.endB;exact Jy ⟨p,.inl ⟨_,_,rfl,f,e⟩⟩
     rw[Jg (by simpa using zf)];refine Ju (yI G ?_);have O:=L3.pushA ka G T;by_cases U:k-1=0
     ·rw[Jj (by simpa using U)]
      rw[U]at O ⊢;obtain⟨f,e⟩:=O.endA;exact Jy ⟨p,.inl ⟨_,_,rfl,f,e⟩⟩
     rw[Jg (by simpa using U)];split
     ·exact Jy ⟨p,.inr ⟨_,_,_,_,_,_,rfl,O,by lia,by lia,by lia,by lia,by simp only[Yg,Yu];lia⟩⟩
     ·exact Jy ⟨p,_,_,_,_,_,_,rfl,O,by lia,by lia,by lia,by lia,by simp only[Yg,Yu];lia⟩
    ·rw[Jg ab]
     obtain rfl:Z=nb-1:=by lia
     refine Ju (yI G ?_);have O:=L2.pushA ka G T;by_cases U:k-1=0
     ·rw[Jj (by simpa using U)]
      rw[U]at O ⊢;obtain⟨f,e⟩:=O.endA;exact Jy ⟨p,.inl ⟨_,_,rfl,f,e⟩⟩
     rw[Jg (by simpa using U)];split
     ·exact Jy ⟨p,.inr ⟨_,_,_,_,_,_,rfl,O,by lia,by lia,by lia,by lia,by simp only[Yg,Yu];lia⟩⟩
     ·exact Jy ⟨p,_,_,_,_,_,_,rfl,O,by lia,by lia,by lia,by lia,by simp only[Yg,Yu];lia⟩
   ·rintro c D ⟨S3,na,nb,out,g,ca,B,rfl,L,q,d,H,l,sz⟩
    exact⟨S3,.inr ⟨_,_,_,_,_,_,rfl,L,q,d,H,l,sz⟩⟩
   ·rintro c D ⟨S3,⟨r,x,rfl,f,e⟩|⟨na,nb,out,g,ca,B,rfl,L,q,d,H,l,sz⟩⟩
    ·exact Jy ⟨S3,r,_,rfl,f,e⟩
    dsimp only;refine Ju (pX λax p=>?_);exact Jy ⟨S3.trans p,_,_,_,_,rfl,L,q,d,H,l,by omega⟩
end
section
variable {rk:Keyed->Int}
theorem tN (b:Nat):∀ (l:List Keyed) (o:Nat) (arr:Array Keyed),b+o+l.length<=arr.size->(List.foldl (λ(a:Array Keyed) (x:Keyed × Nat)=>a.setIfInBounds (b+x.2) x.1) arr (l.zipIdx o)).toList=arr.toList.take (b+o)++l++arr.toList.drop (b+o+l.length)
 | [],o,arr,_=>by
  show arr.toList=_
  rw[Y6,ZS,ZG,W9]
 | x::l,o,arr,h=>by
  rw[JW]at h;rw[List.zipIdx_cons,List.foldl_cons,tN b l (o+1) _ (by rw[Array.size_setIfInBounds];lia)];have c:b+o<arr.toList.length:=by rw[JA];lia
  rw[Array.toList_setIfInBounds,<- Nat.add_assoc,List.drop_set_of_lt (by lia),JW,show b+o+1+l.length=b+o+(l.length+1) by lia]
  have e:(arr.toList.set (b+o) x).take (b+o+1)=arr.toList.take (b+o)++[x]:=by
   rw[Yk (by rw[Z6];exact c),List.getElem_set_self,List.take_set_of_le (Jf _)]
  rw[e,JV (arr.toList.take (b+o)) [x] l];rfl
theorem jh {arr:Array Keyed}{i n j:Nat}(h:i+j<n)(hn:n<=arr.size):(arr.extract i n)[j]?=arr[i+j]?:=by
 rw[Array.getElem?_extract_of_lt (by lia)];exact(getElem?_pos arr (i+j) (by lia)).symm
theorem mf {arr:Array Keyed}{lo n:Nat}(h:Up rk arr lo n)(hn:lo+n<=arr.size):Srt rk (arr.extract lo (lo+n)).toList:=by
 refine List.pairwise_iff_getElem.mpr λi j hi b c=>?_;have a:(arr.extract lo (lo+n)).size=n:=by rw[Array.size_extract];simp_all
 rw[JA,a]at hi b;have:=h (lo+i) (lo+j) (by lia) (by lia) (by simp_all);rw[R_at (getElem?_pos arr (lo+i) (by lia)),R_at (getElem?_pos arr (lo+j) (by lia))]at this;simpa using this
end
section
variable {prog:Yo}{w:YI}{A:YO}{E:Jo->JO->Prop}{s:JO}{κ:SortKind}{P:Keyed->Prop}{rk:Keyed->Int}{a₀:Array Keyed}
theorem zb3 (C:Cmp prog w A s κ P rk){st:SortSt}{Q:Bool->SortSt->Prop}{i sa na p sb nb q:Nat}(D:Bs κ P a₀ st)(e1:(pendingOf st)[i]?=some (sa,na,p))(e2:(pendingOf st)[i+1]?=some (sb,nb,q))(hs:sb=sa+na)(n1:1<=na)(n2:1<=nb)(hz:sb+nb<=a₀.size)(K:Up rk (arrOf st) sa na)(J:Up rk (arrOf st) sb nb)(h:∀ st',Bs κ P a₀ st'->pendingOf st'=((pendingOf st).setIfInBounds i (sa,na+nb,p)).eraseIdxIfInBounds (i+1)->(∀ k,k<sa\/sb+nb<=k->R rk (arrOf st') k=R rk (arrOf st) k)->Up rk (arrOf st') sa (na+nb)->Q true st'):wpS (model prog w) A E s (mergeAt' i) Q st:=by
 refine Ju (Wt ?_);dsimp only;rw[e1,e2];dsimp only;obtain⟨b0,V,aT,ao⟩:=D.at (i:=sb) (by lia) rk;have sz:=D.size
 have Y:∀ {c st2:SortSt}{Q':PUnit->SortSt->Prop},Q' ⟨⟩ st2->wpS (model prog w) A E s (set st2:StateT SortSt Sem PUnit) Q' c:=λ{c st2 Q'} hq=>by
  unfold wpS;rw[StateT.run_set];exact J9 ⟨rfl,hq⟩
 refine Ju (Y (st2:=SortSt.mk' (kindOf st) (arrOf st) (((pendingOf st).setIfInBounds i (sa,na+nb,p)).eraseIdxIfInBounds (i+1)) (gallopOf st) (failedOf st)) ?_);generalize M:SortSt.mk' (kindOf st) (arrOf st) (((pendingOf st).setIfInBounds i (sa,na+nb,p)).eraseIdxIfInBounds (i+1)) (gallopOf st) (failedOf st)=c;have d:Bs κ P a₀ c:=by rw[<- M];exact⟨D.kind,D.fail,D.perm,D.all⟩
 have T:arrOf c=arrOf st:=by rw[<- M]
 have ep:pendingOf c=((pendingOf st).setIfInBounds i (sa,na+nb,p)).eraseIdxIfInBounds (i+1):=by rw[<- M]
 have pat:∀ j,j<a₀.size->∃ x,(arrOf st)[j]?=some x/\P x:=λj B=>by
  obtain⟨x,ex,px,_⟩:=D.at B rk;exact⟨x,ex,px⟩
 refine Ju (yI V (Ju (uV (arr:=arrOf st) C d.kind aT (λt O=>pat (sa+t) (by lia)) K (by lia) λk a4 g1 g2=>?_)));dsimp only
 have f1:∀ j,sa<=j->j<sa+k->R rk (arrOf st) j<=rk b0:=λj l o=>by
  have:=g1 (j-sa) (by lia);rw[show sa+(j-sa)=j by simp_all]at this;unfold bd at this;simp only[Yw,Zw,W6,YZ]at this
  simp_all
 have f2:∀ j,sa+k<=j->j<sb->rk b0<=R rk (arrOf st) j:=λj l o=>by
  have:=g2 (j-sa) (by lia) (by lia);rw[show sa+(j-sa)=j by lia]at this;unfold bd at this;simp only[Yw,Zw,Bool.not_eq_false',YY]at this;lia
 have f0:∀ j,sb<=j->j<sb+nb->rk b0<=R rk (arrOf st) j:=λj l o=>by rw[<- ao];exact J _ _ (Jf _) l o
 by_cases zk:na-k=0
 ·rw[Jj (by simpa using zk)]
  refine Jy (h c d ep (λj _=>by rw[T]) λx y g b I=>?_);rw[T];by_cases q1:y<sb
  ·exact K _ _ g b (by simp_all)
  ·by_cases q2:sb<=x
   ·exact J _ _ q2 b (by lia)
   ·exact Zq (f1 x g (by lia)) (f0 y (by simp_all) (by lia))
 rw[Jg (by simpa using zk)];have ka:sa+k+(na-k)-1=sb-1:=by lia
 rw[ka];obtain⟨l0,U,ax,ab⟩:=D.at (i:=sb-1) (by lia) rk;refine Ju (yI U (Ju (uV (arr:=arrOf st) C d.kind ax (λt O=>pat (sb+t) (by lia)) J (by lia) λn a3 c1 c2=>?_)));dsimp only
 have f3:∀ j,sb<=j->j<sb+n->R rk (arrOf st) j<=rk l0:=λj l o=>by
  have:=c1 (j-sb) (by grind);rw[show sb+(j-sb)=j by simp_all]at this;unfold bd at this;simp only[YV,YY]at this;lia
 have f4:∀ j,sb+n<=j->j<sb+nb->rk l0<=R rk (arrOf st) j:=λj l o=>by
  have:=c2 (j-sb) (by lia) (by lia);rw[show sb+(j-sb)=j by lia]at this;unfold bd at this;simp only[YV,YZ]at this
  simp_all
 have f5:∀ j,sa<=j->j<sb->R rk (arrOf st) j<=rk l0:=λj l o=>by rw[<- ab];exact K _ _ l (by lia) (by lia)
 by_cases zn:n=0
 ·rw[Jj (by simpa using zn)]
  refine Jy (h c d ep (λj _=>by rw[T]) λx y g b I=>?_);rw[T];by_cases q1:y<sb
  ·exact K _ _ g b (by simp_all)
  ·by_cases q2:sb<=x
   ·exact J _ _ q2 b (by lia)
   ·exact Zq (f5 x g (by simp_all)) (f4 y (by simp_all) (by lia))
 rw[Jg (by simpa using zn)];have sx:((arrOf st).extract (sa+k) sb).size=na-k:=by rw[Array.size_extract];lia
 have sy:((arrOf st).extract sb (sb+n)).size=n:=by rw[Array.size_extract];lia
 have px:∀ x∈((arrOf st).extract (sa+k) sb).toList,P x:=λx g=>by
  obtain⟨j,l,o,L⟩:=vZ g;obtain⟨y,S,py⟩:=pat j (by lia);rw[L]at S;cases S;exact py
 have py:∀ x∈((arrOf st).extract sb (sb+n)).toList,P x:=λx g=>by
  obtain⟨j,l,o,L⟩:=vZ g;obtain⟨y,S,py⟩:=pat j (by lia);rw[L]at S;cases S;exact py
 have ox:Srt rk ((arrOf st).extract (sa+k) sb).toList:=by
  have:=mf (rk:=rk) (arr:=arrOf st) (lo:=sa+k) (n:=na-k) (λx y g b I=>K x y (by lia) b (by grind)) (by lia)
  rwa [show sa+k+(na-k)=sb by grind]at this
 have oy:Srt rk ((arrOf st).extract sb (sb+n)).toList:=mf (λx y g b I=>J x y (by omega) b (by lia)) (by lia)
 have first:∀ x,((arrOf st).extract sb (sb+n))[0]?=some x->∀ y∈((arrOf st).extract (sa+k) sb).toList,rk x<=rk y:=λx ex y I=>by
  rw[jh (by lia) (by lia),ZG,V]at ex;obtain⟨j,l,o,L⟩:=vZ I;have:=f2 j l o;rw[R_at L]at this;cases ex;exact this
 have last:∀ x,((arrOf st).extract (sa+k) sb)[((arrOf st).extract (sa+k) sb).size-1]?=some x->∀ y∈((arrOf st).extract sb (sb+n)).toList,rk y<=rk x:=λx ex y I=>by
  rw[sx,jh (by grind) (by lia),show sa+k+(na-k-1)=sb-1 by lia,U]at ex;obtain⟨j,l,o,L⟩:=vZ I;have:=f3 j l (by omega);rw[R_at L]at this;cases ex;exact this
 have fin:∀ (m:Array Keyed) (st2:SortSt),Sm c st2->m.toList.Perm (((arrOf st).extract (sa+k) sb).toList++((arrOf st).extract sb (sb+n)).toList)->Srt rk m.toList ->
   wpS (model prog w) A E s (do
    modify λs=>setArr s (m.toList.zipIdx.foldl (λ(a:Array Keyed) (x:Keyed × Nat)=>a.setIfInBounds (sa+k+x.2) x.1) (arrOf s))
    let s' <- get
    pure (failedOf s').isNone) Q st2:=by
  intro m st2 G pm sm;have X:arrOf st2=arrOf st:=G.arr.trans T;have N:m.toList.length=na-k+n:=by rw[pm.length_eq,Jc,JA,JA,sx,sy]
  have wl:=tN (sa+k) m.toList 0 (arrOf st2) (by rw[X,sz,N];grind);generalize hW:List.foldl (λ(a:Array Keyed) (x:Keyed × Nat)=>a.setIfInBounds (sa+k+x.2) x.1) (arrOf st2) m.toList.zipIdx=W at wl;rw[ZG,N,X,show sa+k+(na-k+n)=sb+n by grind]at wl
  have Z:(arrOf st).toList=(arrOf st).toList.take (sa+k)++(((arrOf st).extract (sa+k) sb).toList++((arrOf st).extract sb (sb+n)).toList)++(arrOf st).toList.drop (sb+n):=by
   have d1:=sv (arrOf st) (sa+k) (na-k);rw[show sa+k+(na-k)=sb by lia]at d1;have d2:=sv (arrOf st) sb n;rw[JV,JV,<- d2,<- d1,W9]
  have pw:W.Perm (arrOf st):=by
   rw[Array.perm_iff_toList_perm,wl]
   conv=>rhs;rw[Z]
   exact((pm.append_left _).append_right _)
  have r:((arrOf st).toList.take (sa+k)).length=sa+k:=by rw[Jt,JA,sz];lia
  have a0:W.size=a₀.size:=by rw[pw.size_eq,sz]
  have z:∀ j,j<sa+k->R rk W j=R rk (arrOf st) j:=λj B=>R_congr (by
   rw[<- Y9,<- Y9,wl,JV,YA (by rw[r];exact B),Ze B])
  have f:∀ j,sb+n<=j->R rk W j=R rk (arrOf st) j:=λj B=>R_congr (by
   rw[<- Y9,<- Y9,wl,Yv (by rw[Jc,r,N];lia),Jc,r,N,Wx]
   congr 1;lia)
  have mid:∀ j,sa+k<=j->j<sb+n->∃ x,m[j-(sa+k)]?=some x/\R rk W j=rk x:=λj l o=>by
   have jl:j-(sa+k)<m.size:=by rw[<- JA,N];lia
   refine⟨_,getElem?_pos m _ jl,R_at ?_⟩;rw[<- Y9,wl,JV,Yv (by rw[r];exact l),r,YA (by rw[N];lia),Y9];exact getElem?_pos m _ jl
  have kids:∀ j x,m[j]?=some x->∃ t,((sa+k<=t/\t<sb)\/(sb<=t/\t<sb+n))/\R rk (arrOf st) t=rk x:=λj x ex=>by
   have hm:x∈m.toList:=by
    obtain⟨B,e⟩:=Yp.mp ex;rw[<- e];simp
   rcases Jv.mp (pm.mem_iff.mp hm) with u|u
   ·obtain⟨t,F,H,et⟩:=vZ u
    exact⟨t,.inl ⟨F,H⟩,R_at et⟩
   ·obtain⟨t,F,H,et⟩:=vZ u
    exact⟨t,.inr ⟨F,H⟩,R_at et⟩
  refine Ju (Ww (Ju (Wt (Jy ?_))));rw[hW]
  have ff:(failedOf (setArr st2 W)).isNone=true:=by
   show (failedOf st2).isNone=true;rw[G.fail,d.fail];rfl
  rw[ff];refine h _ ⟨G.kind.trans d.kind,G.fail.trans d.fail,pw.trans D.perm,D.all⟩ (G.pend.trans ep) (λj B=>?_) λx y g b I=>?_
  ·rcases B with B|B
   ·exact z j (by lia)
   ·exact f j (by lia)
  ·show R rk W x<=R rk W y
   by_cases x1:x<sa+k
   ·rw[z x x1]
    by_cases y1:y<sa+k
    ·rw[z y y1];exact K _ _ g b (by lia)
    ·by_cases y2:y<sb+n
     ·obtain⟨v,ev,rv⟩:=mid y (by lia) y2
      obtain⟨t,O,rt⟩:=kids _ v ev;rw[rv,<- rt];rcases O with ⟨F,H⟩|⟨F,H⟩
      ·exact K _ _ g (by lia) (by lia)
      ·exact Zq (f1 x g x1) (f0 t F (by lia))
     ·rw[f y (by lia)]
      exact Zq (f1 x g x1) (f0 y (by lia) (by lia))
   ·by_cases x2:x<sb+n
    ·obtain⟨u,eu,ru⟩:=mid x (by lia) x2
     rw[ru];by_cases y2:y<sb+n
     ·obtain⟨v,ev,rv⟩:=mid y (by lia) y2
      rw[rv]
      have:=rc sm (base:=0) (n:=m.size) (by lia) (x-(sa+k)) (y-(sa+k)) (JN _) (by lia) (by
       have:=(Yp.mp ev).1
       lia)
      rwa [R_at eu,R_at ev]at this
     ·rw[f y (by lia)]
      obtain⟨t,O,rt⟩:=kids _ u eu;rw[<- rt];rcases O with ⟨F,H⟩|⟨F,H⟩
      ·exact Zq (f5 t (by lia) H) (f4 y (by lia) (by lia))
      ·exact J _ _ F (by lia) (by lia)
    ·rw[f x (by lia),f y (by lia)]
     exact J _ _ (by lia) b (by lia)
 split
 ·exact Ju (zbV C d.kind px py ox oy (by rw[sx];lia) (by rw[sy];lia) first last λm st2 G pm sm=>fin m st2 G pm sm)
 ·exact Ju (zb1 C d.kind px py ox oy (by rw[sx];lia) (by rw[sy];lia) first last λm st2 G pm sm=>fin m st2 G pm sm)
abbrev Run:=Nat × Nat × Nat
def Runs:List Run->Nat->Nat->Prop
 | [],u,v=>u=v
 | x::r,u,v=>x.1=u/\1<=x.2.1/\Runs r (u+x.2.1) v
theorem Runs.cut:∀ {l r:List Run}{u v:Nat},Runs (l++r) u v->∃ m,Runs l u m/\Runs r m v
 | [],_,u,_,h=>⟨u,rfl,h⟩
 | x::l,r,u,v,⟨e,d,c⟩=>by
  obtain⟨m,a,b⟩:=Runs.cut (l:=l) (r:=r) c;exact⟨m,⟨e,d,a⟩,b⟩
theorem Runs.app:∀ {l r:List Run}{u m v:Nat},Runs l u m->Runs r m v->Runs (l++r) u v
 | [],_,_,_,_,h,g=>by cases h;exact g
 | x::l,r,u,m,v,⟨c,b,a⟩,g=>⟨c,b,Runs.app a g⟩
theorem Runs.len:∀ {l:List Run}{u v:Nat},Runs l u v->u+l.length<=v
 | [],_,_,h=>by cases h;exact Jf _
 | x::l,u,v,⟨c,b,a⟩=>by
  have:=Runs.len a;rw[JW];lia
theorem Runs.mem:∀ {l:List Run}{u v:Nat}{x:Run},Runs l u v->x∈l->u<=x.1/\1<=x.2.1/\x.1+x.2.1<=v
 | y::l,u,v,x,⟨e,d,b⟩,c=>by
  rcases Jr.mp c with rfl|a
  ·have:=Runs.len b;lia
  ·have:=Runs.mem b a;lia
theorem Runs.modify {f:Run->Run}(a:∀ x,(f x).1=x.1/\(f x).2.1=x.2.1):∀ {l:List Run}{i u v:Nat},Runs l u v->Runs (l.modify i f) u v
 | [],i,_,_,h=>by cases i<;>exact h
 | x::l,0,u,v,⟨d,c,b⟩=>by
  rw[List.modify_zero_cons]
  refine⟨(a x).1.trans d,by rw[(a x).2];exact c,by rw[(a x).2];exact b⟩
 | x::l,i+1,u,v,⟨d,c,b⟩=>by
  rw[List.modify_succ_cons];exact⟨d,c,Runs.modify a b⟩
theorem vW {f:Run->Run}(a:∀ x,(f x).1=x.1/\(f x).2.1=x.2.1):∀ {l:List Run}{i:Nat}{x:Run},x∈l.modify i f->∃ y∈l,x.1=y.1/\x.2.1=y.2.1
 | [],i,x,h=>by cases i<;>simp at h
 | y::l,0,x,h=>by
  rw[List.modify_zero_cons]at h;rcases Jr.mp h with rfl|b
  ·exact⟨y,JM,(a y).1,(a y).2⟩
  ·exact⟨x,JH _ b,rfl,rfl⟩
 | y::l,i+1,x,h=>by
  rw[List.modify_succ_cons]at h;rcases Jr.mp h with rfl|b
  ·exact⟨x,JM,rfl,rfl⟩
  ·obtain⟨z,c,e⟩:=vW a b
   exact⟨z,JH _ c,e⟩
structure Ji (κ:SortKind) (P:Keyed->Prop) (rk:Keyed->Int) (a₀:Array Keyed) (lo:Nat) (st:SortSt):Prop where
 b:Bs κ P a₀ st
 runs:Runs (pendingOf st).toList 0 lo
 up:∀ x∈(pendingOf st).toList,Up rk (arrOf st) x.1 x.2.1
theorem cL (C:Cmp prog w A s κ P rk){st:SortSt}{lo i:Nat}{Q:Bool->SortSt->Prop}(J:Ji κ P rk a₀ lo st)(X:lo<=a₀.size)(hi:i+1<(pendingOf st).size)(h:∀ st',Ji κ P rk a₀ lo st'->(∀ k,lo<=k->R rk (arrOf st') k=R rk (arrOf st) k)->(pendingOf st').size+1=(pendingOf st).size->Q true st'):wpS (model prog w) A E s (mergeAt' i) Q st:=by
 obtain⟨x,ex⟩:∃ x,(pendingOf st)[i]?=some x:=⟨_,getElem?_pos _ i (by lia)⟩;obtain⟨y,I⟩:∃ y,(pendingOf st)[i+1]?=some y:=⟨_,getElem?_pos _ (i+1) hi⟩;have t:(pendingOf st).toList[i]?=some x:=by rw[Y9];exact ex
 have r:(pendingOf st).toList[i+1]?=some y:=by rw[Y9];exact I
 obtain⟨o,T⟩:=Jb.mp t;obtain⟨n,S⟩:=Jb.mp r
 have sp:(pendingOf st).toList=(pendingOf st).toList.take i++x::y::(pendingOf st).toList.drop (i+1+1):=by
  rw[<- T,<- S,<- YR n,<- YR o,W9]
 have D:=J.runs;have up:=J.up;generalize e:(pendingOf st).toList.take i=pre at sp;generalize u:(pendingOf st).toList.drop (i+1+1)=post at sp;have O:pre.length=i:=by rw[<- e,Jt];lia
 rw[sp]at D up;obtain⟨m,F,N⟩:=D.cut;obtain⟨B,H,M,G,f⟩:=N;obtain⟨v,na,p⟩:=x;obtain⟨L,nb,q⟩:=y;simp only at B H M G f;have Y:=f.len;refine zb3 C J.b ex I (by simp_all) H G (by lia) (up (v,na,p) (by simp)) (up (L,nb,q) (by simp)) λst' W U low K=>?_
 have l:(pendingOf st').toList=pre++(v,na+nb,p)::post:=by
  rw[U,Array.toList_eraseIdxIfInBounds,Array.toList_setIfInBounds,sp,List.set_append_right _ _ (by simp_all),List.eraseIdx_append_of_length_le (by simp_all),O,Nat.sub_self,Nat.add_sub_cancel_left];rfl
 refine h st' ⟨W,?_,?_⟩ (λk Z=>low k (.inr (by lia))) ?_
 ·rw[l]
  refine F.app ⟨B,by show 1<=na+nb;lia,?_⟩;show Runs post (m+(na+nb)) lo;rw[<- Nat.add_assoc];exact f
 ·rw[l]
  intro z a;rcases Jv.mp a with a|a
  ·have V:=F.mem a
   intro c d j b g;rw[low c (.inl (by lia)),low d (.inl (by lia))];exact up z (Yq _ a) c d j b g
  ·rcases Jr.mp a with rfl|a
   ·exact K
   ·have V:=f.mem a
    intro c d j b g;rw[low c (.inr (by lia)),low d (.inr (by lia))];exact up z (Jz _ (by simp[a])) c d j b g
 ·rw[<- JA,<- JA,l,sp]
  simp only[Jc,JW];lia
theorem br (C:Cmp prog w A s κ P rk){st:SortSt}{Q:Unit->SortSt->Prop}(hB:Bs κ P a₀ st)(hp:pendingOf st = #[])(h:∀ st',Bs κ P a₀ st'->Up rk (arrOf st') 0 a₀.size->Q () st'):wpS (model prog w) A E s sortRuns' Q st:=by
 rw[sortRuns'_eq];refine Ju (Wt ?_);dsimp only;rw[hB.size];generalize minRun' a₀.size a₀.size 0=S
 refine Ju (Z3 (Yt (I:=λi c o=>∃ lo,c=(none,lo)/\i<=lo/\lo<=a₀.size/\Ji κ P rk a₀ lo o)
  (Q:=λc o=>∃ lo,c=(none,lo)/\lo=a₀.size/\Ji κ P rk a₀ lo o) ?step ?fin ?init) ?post)
 case init=>exact⟨0,rfl,Jf _,JN _,hB,by rw[hp];rfl,λx u=>by rw[hp]at u;simp at u⟩
 case fin =>
  rintro c o ⟨lo,rfl,h1,V,J⟩;exact⟨lo,rfl,by lia,J⟩
 case step =>
  rintro i c o _ hi ⟨lo,rfl,h1,V,J⟩;dsimp only;by_cases z:lo>=a₀.size
  ·rw[Jj z]
   exact Jy ⟨lo,rfl,by lia,J⟩
  rw[Jg z];refine Ju (bL C J.b (by lia) (by simp_all) λf n X M n2 u2=>?_);dsimp only
  have Jk:∀ g,Keep κ P rk a₀ lo o g->Ji κ P rk a₀ lo g:=λg H=>⟨H.b,by rw[H.pend];exact J.runs,λx u=>by
   rw[H.pend]at u;have:=J.runs.mem u;intro c d D v L;rw[H.low c (by lia),H.low d (by lia)]
   exact J.up x u c d D v L⟩
  by_cases Z:n<S
  ·rw[Jj Z]
   refine Ju (vA ?_);refine Ju (zbl C X.b M (by grind) (by lia) u2 λg H u3=>?_);have M:1<=min (a₀.size-lo) S:=by lia
   have n2:min (a₀.size-lo) S<=a₀.size-lo:=by omega
   have B:=Jk g (X.trans H);generalize min (a₀.size-lo) S=n at M n2 u3 ⊢;rw[Jg (show ¬(!true)=true by decide)];refine Ju (Wt ?_)
   have last:∀ a,Ji κ P rk a₀ lo a->Up rk (arrOf a) lo n->wpS (model prog w) A E s (do
     modify λm=>setPending m ((pendingOf m).push (lo,n,0))
     pure (ForInStep.yield ((none:Option Unit),lo+n))) (λr st'=>match r with|.done G=>∃ lo,G=(none,lo)/\lo=a₀.size/\Ji κ P rk a₀ lo st'|.yield G=>∃ lo,G=(none,lo)/\i+1<=lo/\lo<=a₀.size/\Ji κ P rk a₀ lo st') a:=by
    intro a e l;refine Ju (Ww (Jy ⟨lo+n,rfl,by lia,by lia,⟨e.b.kind,e.b.fail,e.b.perm,e.b.all⟩,?_,?_⟩))
    ·show Runs ((pendingOf a).push (lo,n,0)).toList 0 (lo+n)
     rw[Zu];exact e.runs.app ⟨rfl,M,rfl⟩
    ·show ∀ x∈((pendingOf a).push (lo,n,0)).toList,Up rk (arrOf a) x.1 x.2.1
     rw[Zu];intro x u;rcases Jv.mp u with p|p
     ·exact e.up x p
     ·rw[Jd.mp p];exact l
   split
   ·rename_i s1 m1 w1 hb
    refine Ju (Z3 (Yt (I:=λj c a=>c=(none,())/\Ji κ P rk a₀ lo a/\Up rk (arrOf a) lo n) (Q:=λc a=>c=(none,())/\Ji κ P rk a₀ lo a/\Up rk (arrOf a) lo n) ?_ (λc a U=>U) ⟨rfl,B,u3⟩) ?_)
    ·rintro j c a _ hj ⟨rfl,e,l⟩
     refine Ju (Wt ?_);split
     ·rename_i a1 a2 K N
      split
      ·exact Jy ⟨rfl,e,l⟩
      ·have sz:(pendingOf a).size > 1:=by
        by_cases q:(pendingOf a).size > 1
        ·exact q
        ·rw[Jg q]at N;cases N
       refine Ju (cL C e V (by grind) λm Y k _=>?_);rw[Jg (show ¬(!true)=true by decide)];exact Jy ⟨rfl,Y,λc d D v L=>by rw[k c D,k d (by lia)];exact l c d D v L⟩
     ·exact Jy ⟨rfl,e,l⟩
    ·rintro c a ⟨rfl,e,l⟩
     dsimp only;refine Ju (Ww ?_);refine last _ ⟨⟨e.b.kind,e.b.fail,e.b.perm,e.b.all⟩,?_,?_⟩ l
     ·show Runs ((pendingOf a).modify _ _).toList 0 lo
      rw[Wr];refine Runs.modify ?_ e.runs;exact λx=>⟨rfl,rfl⟩
     ·show ∀ x∈((pendingOf a).modify _ _).toList,Up rk (arrOf a) x.1 x.2.1
      rw[Wr];intro x u;obtain⟨y,T,W,e2⟩:=vW (by exact λx=>⟨rfl,rfl⟩) u;rw[W,e2];exact e.up y T
   ·exact last _ B u3
  ·rw[Jg Z]
   have B:=Jk f X;have u3:=u2;generalize f=g at B u3 ⊢;refine Ju (Wt ?_)
   have last:∀ a,Ji κ P rk a₀ lo a->Up rk (arrOf a) lo n->wpS (model prog w) A E s (do
     modify λm=>setPending m ((pendingOf m).push (lo,n,0))
     pure (ForInStep.yield ((none:Option Unit),lo+n))) (λr st'=>match r with|.done G=>∃ lo,G=(none,lo)/\lo=a₀.size/\Ji κ P rk a₀ lo st'|.yield G=>∃ lo,G=(none,lo)/\i+1<=lo/\lo<=a₀.size/\Ji κ P rk a₀ lo st') a:=by
    intro a e l;refine Ju (Ww (Jy ⟨lo+n,rfl,by lia,by grind,⟨e.b.kind,e.b.fail,e.b.perm,e.b.all⟩,?_,?_⟩))
    ·show Runs ((pendingOf a).push (lo,n,0)).toList 0 (lo+n)
     rw[Zu];exact e.runs.app ⟨rfl,M,rfl⟩
    ·show ∀ x∈((pendingOf a).push (lo,n,0)).toList,Up rk (arrOf a) x.1 x.2.1
     rw[Zu];intro x u;rcases Jv.mp u with p|p
     ·exact e.up x p
     ·rw[Jd.mp p];exact l
   split
   ·rename_i s1 m1 w1 hb
    refine Ju (Z3 (Yt (I:=λj c a=>c=(none,())/\Ji κ P rk a₀ lo a/\Up rk (arrOf a) lo n) (Q:=λc a=>c=(none,())/\Ji κ P rk a₀ lo a/\Up rk (arrOf a) lo n) ?_ (λc a U=>U) ⟨rfl,B,u3⟩) ?_)
    ·rintro j c a _ hj ⟨rfl,e,l⟩
     refine Ju (Wt ?_);split
     ·rename_i a1 a2 K N
      split
      ·exact Jy ⟨rfl,e,l⟩
      ·have sz:(pendingOf a).size > 1:=by
        by_cases q:(pendingOf a).size > 1
        ·exact q
        ·rw[Jg q]at N;cases N
       refine Ju (cL C e V (by lia) λm Y k _=>?_);rw[Jg (show ¬(!true)=true by decide)];exact Jy ⟨rfl,Y,λc d D v L=>by rw[k c D,k d (by lia)];exact l c d D v L⟩
     ·exact Jy ⟨rfl,e,l⟩
    ·rintro c a ⟨rfl,e,l⟩
     dsimp only;refine Ju (Ww ?_);refine last _ ⟨⟨e.b.kind,e.b.fail,e.b.perm,e.b.all⟩,?_,?_⟩ l
     ·show Runs ((pendingOf a).modify _ _).toList 0 lo
      rw[Wr];refine Runs.modify ?_ e.runs;exact λx=>⟨rfl,rfl⟩
     ·show ∀ x∈((pendingOf a).modify _ _).toList,Up rk (arrOf a) x.1 x.2.1
      rw[Wr];intro x u;obtain⟨y,T,W,e2⟩:=vW (by exact λx=>⟨rfl,rfl⟩) u;rw[W,e2];exact e.up y T
   ·exact last _ B u3
 case post =>
  rintro c o ⟨lo,rfl,rfl,J⟩;dsimp only
  refine Ju (Z3 (Yt (I:=λi c f=>c=(none,())/\Ji κ P rk a₀ a₀.size f/\(pendingOf f).size<=a₀.size-i+1)
   (Q:=λc f=>c=(none,())/\Ji κ P rk a₀ a₀.size f/\(pendingOf f).size<=1) ?_ ?_ ⟨rfl,J,?_⟩) ?_)
  ·rintro i c f _ hi ⟨rfl,F,sz⟩
   refine Ju (Wt ?_);by_cases z:(pendingOf f).size<=1
   ·rw[Jj z]
    exact Jy ⟨rfl,F,z⟩
   rw[Jg z]
   have go:∀ t,t+1<(pendingOf f).size->wpS (model prog w) A E s (mergeAt' t) (λb g=>b=true/\Ji κ P rk a₀ a₀.size g/\(pendingOf g).size<=a₀.size-(i+1)+1) f:=λt ht =>
    cL C F (Jf _) ht λg B _ O=>⟨rfl,B,by grind⟩
   refine Ju (Z3 (go _ ?_) ?_)
   ·repeat' split
    all_goals omega
   ·rintro b g ⟨rfl,B,O⟩
    exact Jy ⟨rfl,B,O⟩
  ·rintro c f ⟨rfl,F,sz⟩
   exact⟨rfl,F,by simp_all⟩
  ·have:=J.runs.len
   rw[JA]at this;lia
  ·rintro c f ⟨rfl,F,sz⟩
   refine Jy (h f F.b ?_);have R:=F.runs;have up:=F.up;have ln:(pendingOf f).toList.length<=1:=by rw[JA];exact sz
   match hq:(pendingOf f).toList,ln with
   | [],_ =>
    rw[hq]at R;intro c d D v L;have:0=a₀.size:=R
    lia
   | [x],_ =>
    rw[hq]at R up;obtain⟨r1,r2,r3⟩:=R;have:0+x.2.1=a₀.size:=r3;have:=up x (by simp);rw[r1,show x.2.1=a₀.size by simp_all]at this;exact this
end
end Ts
namespace L2
open PySem PySem.Spec PyProof.Rows Own
def LtAt (A:YO)(s:JO)(y x:Jo)(b:Bool):Prop:=∀ (prog:Yo) (w:YI) (E:Jo->JO->Prop) (Q:Jo->JO->Prop),Q (.bool b) s->wpAny (model prog w) A (richCompare .Lt y x) Q E s
theorem LtAt.ints {A:YO}{s:JO}(a b:Int)(t u:Tok):LtAt A s (.int a t) (.int b u) (decide (a<b)):=λ_ _ _ _ h=>lt_int h
theorem nY (l b:JI)(xs ys:Array Jo)(n m:Nat)(L K:Option JI)(p o:Array (Option Jo))(k:Nat)(k1:k<xs.size)(M:k<ys.size)(c:Bool) :
  Meets (Builtin.«tuple.__lt__» ⟨[.ref l,.ref b],[]⟩)
   (λA R s=>s.heap.get? l=some { cls:=.type "tuple",dict:=L,data:=.seq xs n,slots:=p }/\s.heap.get? b=some { cls:=.type "tuple",dict:=K,data:=.seq ys m,slots:=o } /\
    (∀ j (O:j<xs.size) (N:j<ys.size),j<k->SeqAt.EqAt A.in1 s xs[j] ys[j] true)/\SeqAt.EqAt A.in1 s xs[k] ys[k] false/\LtAt A.in1 s xs[k] ys[k] c/\R (.ok (.ret (.bool c))) s) :=
 .of_wp λprog w A R s h=>by
  obtain⟨D,g,d,u,os⟩:=s;obtain⟨E,I,G,F,H,h⟩:=h;have kinds:=AutoSeq1.sub_tuple_tuple;have r:(xs.toList.zip ys.toList).length=min xs.size ys.size:=by simp
  wp_walk using wpAny_loadPart' E,wpAny_loadPart' I,wpAny_forIn_list _ (λrest b e=>b.1=none/\e=⟨D,g,d,u,os⟩/\∃ i,i<=k/\rest=(xs.toList.zip ys.toList).drop i) _
  case turn =>
   rintro⟨y,x⟩ rest b e ⟨q,rfl,i,v,a⟩;have C:i<xs.size:=by lia
   have B:i<ys.size:=by lia
   have f:i<(xs.toList.zip ys.toList).length:=by rw[r];lia
   rw[YR f]at a;obtain⟨t,e2⟩:=List.cons.inj a;have J:y=xs[i]:=by simpa using JS Prod.fst t
   have ex:x=ys[i]:=by simpa using JS Prod.snd t
   subst J ex;by_cases z:i=k
   ·subst z
    refine J0 (F prog w _ _ ?_);simp only[YV,Bool.not_false];refine J0 (Z1 (J0 (H prog w _ _ ?_)))
    wp_walk
    exact⟨_,rfl,h⟩
   ·refine J0 (G i C B (by lia) prog w _ _ ?_)
    wp_walk
    exact⟨rfl,rfl,i+1,by lia,e2⟩
  case fin =>
   rintro⟨Q,P⟩ e ⟨q,rfl,i,v,a⟩;have f:i<(xs.toList.zip ys.toList).length:=by rw[r];lia
   rw[YR f]at a;cases a
  case h =>
   exact⟨rfl,rfl,0,JN _,rfl⟩
theorem LtAt.tuples {A:YO}{s:JO}{l b:JI}{xs ys:Array Jo}{k:Nat}{c:Bool}(u:IsTup s.heap l xs)(hb:IsTup s.heap b ys)(t:A.units<cLine)(k1:k<xs.size)(r:k<ys.size)(y:∀ j (I:j<xs.size) (H:j<ys.size),j<k->SeqAt.EqAt A.in1 s xs[j] ys[j] true)(v:SeqAt.EqAt A.in1 s xs[k] ys[k] false)(z:LtAt A.in1 s xs[k] ys[k] c):LtAt A s (.ref l) (.ref b) c:=λprog w E Q h=>by
 obtain⟨⟨G,f,C,d⟩,i,q,n,o⟩:=u;obtain⟨⟨D,e,B,a⟩,g,p,m,e2⟩:=hb;simp only at q o p e2;subst q o p e2;exact richCompare_meets_room (op:=.Lt) ⟨_,i,rfl⟩ ⟨_,g,rfl⟩ F.slot_tuple_lt F.entry_tuple_lt (F.args_tuple_lt_2 _ _) (nY l b xs ys n m f e d a k k1 r c) ⟨i,g,y,v,z,show Value.bool c≠Value.notImplemented/\Q (.bool c) s from⟨(λx=>nomatch x),h⟩⟩ t
end L2
namespace Ts
open PySem PyProof.Rows
section
variable {prog:Yo}{w:YI}{A:YO}{E:Jo->JO->Prop}{s:JO}
theorem iE {a:JI}{vs:List Jo}{n:Nat}{B:Fin->JO->Prop}(t:s.heap.get? a=some (seqObj "list" vs.toArray n)) (K:vs.length<=10000) (κ:SortKind) (g:Jo->Int)
  (j:∀ h',(∀ c o,c≠a->s.heap.get? c=some o->h'.get? c=some o)->2<=vs.length->∀ {Q:SortKind->JO->Prop}{E:Jo->JO->Prop},Q κ { s with heap:=h' }->wpAny (model prog w) A (keyKind' vs.toArray) Q E { s with heap:=h' })
  (m:∀ h',(∀ c o,c≠a->s.heap.get? c=some o->h'.get? c=some o)->Cmp prog w A { s with heap:=h' } κ (λp=>p.1∈vs) (λp=>g p.1))
  (h:∀ out:List Jo,out.Perm vs->out.Pairwise (λx y=>g x<=g y)->B (.done (.ret .none)) { s with heap:=sortedHeap s.heap a vs out.toArray }) :
  wpAny (model prog w) A (Builtin.«list.sort» ⟨[.ref a],[]⟩) B E s:=by
 have al:a<s.heap.objs.size:=Jp t;have ln:vs.toArray.size=vs.length:=Jh ..;have H:vs.length<=sizeLine:=JK K (by decide);rw[list_sort_plain];refine J0 (listItems_at t rfl (J0 (listUpdate_at t rfl ?_ (hsz:=by rw[ln];exact H))));obtain⟨v,F⟩:∃ v,(s.heap.update a (Obj.mapSeq λ_=>#[])).get? a=some (seqObj "list" #[] v):=⟨_,get?_update_seq t λ_=>#[]⟩;refine J0 (seqEpoch_at F rfl (J0 (wpAny_newTuple (J0 (wpAny_newList (Yf ?_))))))
 have l:(((s.heap.update a (Obj.mapSeq λ_=>#[])).push (seqObj "tuple" vs.toArray 0)).push (seqObj "list" #[] 0)).get? a=some (seqObj "list" #[] v) :=
  J8 _ (J8 _ F)
 have old:∀ c o,c≠a->s.heap.get? c=some o->(((s.heap.update a (Obj.mapSeq λ_=>#[])).push (seqObj "tuple" vs.toArray 0)).push (seqObj "list" #[] 0)).get? c=some o:=λc o J q =>
  J8 _ (J8 _ ((Ys _ _ (Ne.symm J)).trans q))
 show wpAny (model prog w) A _ B E { s with heap:=((s.heap.update a (Obj.mapSeq λ_=>#[])).push (seqObj "tuple" vs.toArray 0)).push (seqObj "list" #[] 0) };have lo:∀ out:List Jo,out.Perm vs->out.toArray.size<=sizeLine+1:=λout I=>by rw[Jh,I.length_eq];lia
 generalize N:((s.heap.update a (Obj.mapSeq λ_=>#[])).push (seqObj "tuple" vs.toArray 0)).push (seqObj "list" #[] 0)=h6 at l old ⊢;have back:∀ out:Array Jo,sortedHeap s.heap a vs out=h6.update a (Obj.mapSeq λ_=>out):=λout=>by rw[<- N];rfl
 by_cases f:vs.toArray.size<2
 ·rw[Jj f,Jj f]
  refine J0 (J9 (?_:wpAny _ _ _ _ _ _));refine J0 (J9 ?_)
  have em:(vs.toArray.zip vs.toArray).map (·.2)=vs.toArray:=by
   apply Array.ext';rw[Array.toList_map,Array.toList_zip];exact List.map_snd_zip (Jf _)
  have one:vs.Pairwise (λx y=>g x<=g y):=by
   match vs,f with
   | [],_=>exact List.Pairwise.nil
   | [x],_=>exact List.pairwise_singleton _ _
   | _::_::_,z=>simp at z;lia
  have k:=h vs (List.Perm.refl _) one;rw[back]at k;dsimp only;rw[em];refine J0 (seqEpoch_at l rfl (J0 (listUpdate_at l rfl ?_ (hsz:=JN _) (hsz2:=lo vs (List.Perm.refl _)))));simp only[Zw,bne_self_eq_false,Yw];exact J9 k
 rw[Jg f,Jg f];refine J0 (j h6 old (by simp_all) ?_);have C:=m h6 old
 refine J0 (JU (br C (a₀:=vs.toArray.zip vs.toArray) (st:=SortSt.mk' κ (vs.toArray.zip vs.toArray) #[] 7 none)
  (Q:=λ_ d=>Bs κ (λp=>p.1∈vs) (vs.toArray.zip vs.toArray) d/\Up (λp=>g p.1) (arrOf d) 0 (vs.toArray.zip vs.toArray).size) ⟨rfl,rfl,Array.Perm.refl _,λp r=>?_⟩ rfl λd b u=>⟨b,u⟩) ?_ λ_ _ e=>e)
 ·have:(vs.toArray.zip vs.toArray).toList=vs.zip vs:=by simp
  rw[this]at r;exact(List.of_mem_zip r).1
 rintro⟨⟨⟩,d⟩ P ⟨rfl,b,u⟩
 have D:(arrOf d).toList.Perm (vs.zip vs):=by
  have:=Array.perm_iff_toList_perm.mp b.perm;simpa using this
 have same:∀ p∈(arrOf d).toList,p.1=p.2:=λp r=>by
  have O:=D.mem_iff.mp r;obtain⟨i,hi⟩:=Zs.mp O;rw[Wy]at hi;have:=hi.1.symm.trans hi.2;exact Jq this
 have G:Srt (λp=>g p.1) (arrOf d).toList:=by
  have:=mf (arr:=arrOf d) (lo:=0) (n:=(arrOf d).size) (by rw[b.size];exact u) (by lia);rw[Zp,vY,<- JA,Yz]at this;exact this
 have pm:((arrOf d).toList.map (·.2)).Perm vs:=by
  have:=D.map (·.2)
  rwa [List.map_snd_zip (Jf _)]at this
 have em:(arrOf d).map (·.2)=((arrOf d).toList.map (·.2)).toArray:=by
  apply Array.ext';simp
 have k:=h _ pm (by
  refine List.pairwise_map.mpr (List.Pairwise.imp_of_mem ?_ G);intro x y M L le
  rw[<- same x M,<- same y L];exact le)
 rw[back]at k;dsimp only;rw[em,b.fail];refine J0 (seqEpoch_at l rfl (J0 (listUpdate_at l rfl ?_ (hsz:=JN _) (hsz2:=lo _ pm))));simp only[Zw,bne_self_eq_false,Yw];exact J9 k
end
end Ts
namespace Own
open PySem PySem.Spec PyProof.Rows Ts
section
variable {prog:Yo}{w:YI}{A:YO}{E:Jo->JO->Prop}{s:JO}
theorem bj {x:Jo}{Q:Jo->JO->Prop}
  (h:wpAny (model prog w) A.in1 (collect x) (λvs s1=>∃ (κ:SortKind) (a:Jo->Int),vs.length<=10000 /\
   (∀ h':YP,(∀ c o,s1.heap.get? c=some o->h'.get? c=some o)->2<=vs.length->∀ (b:YO) {Q:SortKind->JO->Prop}{E:Jo->JO->Prop},Q κ { s1 with heap:=h' }->wpAny (model prog w) b (keyKind' vs.toArray) Q E { s1 with heap:=h' }) /\
   (∀ h':YP,(∀ c o,s1.heap.get? c=some o->h'.get? c=some o)->∀ (b:YO),b.units<=A.units+8->Cmp prog w b { s1 with heap:=h' } κ (λp=>p.1∈vs) (λp=>a p.1)) /\
   ∀ (h':YP) (l:JI) (e:Nat) (out:List Jo),s1.heap.objs.size<=l->h'.get? l=some (seqObj "list" out.toArray e)->out.Perm vs->out.Pairwise (λx y=>a x<=a y)->(∀ c o,s1.heap.get? c=some o->h'.get? c=some o)->Q (.ref l) { s1 with heap:=h' }) E s) :
  wpAny (model prog w) A (call (.builtin "sorted") [x]) Q E s:=by
 refine Calls.call_function_entry kind_sorted plain_sorted entry_sorted (args_sorted1 _) ?_;unfold Builtin.«sorted»;refine J0 (m:=checkCount "sorted" 1 1 _) (J9 (J0 (JU h (λvs s1 z=>?_) λ_ _ e=>e)));obtain⟨κ,a,d,n,t,fin⟩:=z;have f:vs.length<=sizeLine:=JK d (by decide);refine J0 (wpAny_newList ?_ (hsz:=f));have new:(s1.heap.push (seqObj "list" vs.toArray 0)).get? s1.heap.objs.size=some (seqObj "list" vs.toArray 0):=Js _ rfl;have up:∀ h':YP,(∀ c o,c≠s1.heap.objs.size->(s1.heap.push (seqObj "list" vs.toArray 0)).get? c=some o->h'.get? c=some o)->∀ c o,s1.heap.get? c=some o->h'.get? c=some o:=λh' k c o e=>k c o (JD (Jp e)) (J8 _ e);refine J0 (Yf (Y5 slot_list_sort ⟨_,new,rfl⟩ entry_list_sort (iE new d κ a (λh' k j=>n h' (up h' k) j _) (λh' k=>t h' (up h' k) _ ?_) λout i g=>⟨_,rfl,?_⟩) (args_list_sort _)))
 ·show A.units+1+1<=A.units+8
  lia
 obtain⟨e,r⟩:=sortedHeap_at (out:=out.toArray) new;refine J9 ⟨_,rfl,fin _ _ e out (Jf _) r i g λc o q=>?_⟩;have lt:=Jp q;rw[sortedHeap_old (JD lt) (by rw[size_push'];exact W5 lt)];exact J8 _ q
end
end Own
namespace L2
open PySem PySem.Spec PyProof.Rows Own Ts
inductive Lx (H:Hp):Nat->V->V->Ordering->Prop where
 | int (n:Nat) (i j:Int):Lx H n (.int i) (.int j) (compare i j)
 | row {n:Nat}{a b:JI}{xs ys:List V}{cs:List Ordering}(ha:H a=some (.tup xs)) (hb:H b=some (.tup ys)) (l1:xs.length=cs.length) (l2:ys.length=cs.length) (h:∀ (i:Nat) u v c,xs[i]?=some u->ys[i]?=some v->cs[i]?=some c->Lx H n u v c) :
   Lx H (n+1) (.ref a) (.ref b) (cs.foldr Ordering.then .eq)
theorem vi:∀ {cs:List Ordering},cs.foldr Ordering.then .eq=.eq↔∀ c∈cs,c=.eq
 | []=>by simp
 | c::cs=>by
  rw[List.foldr_cons];constructor
  ·intro h
   cases c<;>simp[Ordering.then]at h;intro d hd;rcases Jr.mp hd with rfl|a
   ·rfl
   ·exact vi.mp h d a
  ·intro h
   rw[h c JM];exact vi.mpr λd hd=>h d (JH _ hd)
theorem qg:∀ {cs:List Ordering},cs.foldr Ordering.then .eq≠.eq->∃ (k:Nat) (c:Ordering),cs[k]?=some c/\c≠.eq/\cs.foldr Ordering.then .eq=c/\∀ j:Nat,j<k->cs[j]?=some Ordering.eq
 | [],h=>absurd rfl h
 | c::cs,h=>by
  by_cases z:c=.eq
  ·subst z
   have e:(Ordering.eq::cs).foldr Ordering.then .eq=cs.foldr Ordering.then .eq:=rfl;rw[e]at h ⊢;obtain⟨k,d,i,g,f,b⟩:=qg h;refine⟨k+1,d,by simpa using i,g,f,λj a=>?_⟩
   cases j with
   | zero=>rfl
   | succ j=>simpa using b j (by simp_all)
  ·refine⟨0,c,rfl,z,?_,λj a=>by simp_all⟩
   rw[List.foldr_cons];cases c<;>first|rfl|exact absurd rfl z
section
variable {X:Cx}
theorem vz (i j:Int):(compare i j == .eq)=decide (i=j)/\(compare i j == .lt)=decide (i<j):=by
 rw[show compare i j=compareOfLessAndEq i j from rfl];unfold compareOfLessAndEq;by_cases b:i<j
 ·rw[Jj b,Jw b,Jn (by lia)];exact⟨rfl,rfl⟩
 ·rw[Jg b,Jn b]
  by_cases a:i=j
  ·rw[Jj a,Jw a];exact⟨rfl,rfl⟩
  ·rw[Jg a,Jn a];exact⟨rfl,rfl⟩
theorem Lx.refl {H:Hp}{n:Nat}{x y:V}{c:Ordering}(h:Lx H n x y c):x=y->c=.eq:=by
 induction h with
 | int n i j =>
  intro e;cases e;have:=(vz i i).1;rw[Jw rfl]at this
  simpa using this
 | @row n a b l k cs g d o m h ih =>
  intro e;cases e;rw[g]at d;cases d;refine vi.mpr λc f=>?_;obtain⟨i,hi⟩:=Zs.mp f;have p:=(Jb.mp hi).1;exact ih i _ _ c (J7 (by simp_all)) (J7 (by simp_all)) hi rfl
theorem jQ {pins:List (JI × Obj)}{σ:St}{H:Hp}{s:JO}(I:Inv X pins σ H s){n:Nat}{x y:V}{c:Ordering}(h:Lx H n x y c):∀ (A:YO) (u v:Jo),A.units+n<cLine->RelV x u->RelV y v->SeqAt.EqAt A s u v (c == .eq):=by
 induction h with
 | int n i j =>
  intro A u v _ p o;have:=kX (A:=A) (s:=s) (x:=.int j) (y:=.int i) p o rfl rfl;rw[(vz i j).1]
  have e:eqV (.int i) (.int j)=decide (i=j):=by
   show (i == j)=decide (i=j);by_cases z:i=j<;>simp[z]
  rwa [e]at this
 | @row n a b Q P cs F E B w h ih =>
  intro A u v hu p o;cases p;cases o;by_cases M:a=b
  ·subst M
   have:cs.foldr Ordering.then .eq=.eq:=Lx.refl (.row F E B w h) rfl;rw[this];exact SeqAt.EqAt.same _
  ·obtain⟨g,K,Y,_⟩:=I.tuple (SqT.of F)
   obtain⟨f,J,W,_⟩:=I.tuple (SqT.of E);have r:=K.length;have q:=J.length;refine SeqAt.EqAt.of_refs M ?_
   have e:((List.range (min g.toArray.size f.toArray.size)).all (λj=>(cs.getD j .eq) == .eq) && g.toArray.size == f.toArray.size)=(cs.foldr Ordering.then .eq == .eq):=by
    rw[Jh,Jh,<- r,<- q,B,w,ZF,Bool.and_true,Nat.min_self];by_cases z:cs.foldr Ordering.then .eq=.eq
    ·rw[z]
     refine(Yc.mpr λj hj=>?_).trans rfl;have D:=Y2.mp hj;rw[Ja,J7 D,ZE,vi.mp z _ (JR D)];rfl
    ·obtain⟨k,d,G,h2,h3,_⟩:=qg z
     have Z:=(Jb.mp G).1;rw[h3];have L:(d == Ordering.eq)=false:=by simpa using h2
     rw[L];refine Bool.eq_false_iff.mpr λt=>?_;have:=Yc.mp t k (Y2.mpr Z);rw[Ja,G,ZE,L]at this;cases this
   have:=SeqAt.RcAt.tuples (e:=λj=>(cs.getD j .eq) == .eq) Y W (A:=A) (s:=s) (by lia) (λj k1 k2=>?_)
   ·rwa [e]at this
   ·have m:j<Q.length:=by simpa [r] using k1
    have l:j<P.length:=by simpa [q] using k2
    obtain⟨S,e1,U⟩:=K.get (J7 m);obtain⟨R,e2,T⟩:=J.get (J7 l);have O:g.toArray[j]=S:=by simpa using (Jb.mp e1).2
    have N:f.toArray[j]=R:=by simpa using (Jb.mp e2).2
    have C:j<cs.length:=by lia
    rw[O,N,Ja,J7 C,ZE];exact ih j _ _ _ (J7 m) (J7 l) (J7 C) A.in1 _ _ (by show A.units+1+n<cLine;lia) U T
theorem zak {pins:List (JI × Obj)}{σ:St}{H:Hp}{s:JO}(I:Inv X pins σ H s){n:Nat}{x y:V}{c:Ordering}(h:Lx H n x y c):c≠.eq->∀ (A:YO) (u v:Jo),A.units+n<cLine->RelV x u->RelV y v->LtAt A s u v (c == .lt):=by
 induction h with
 | int n i j =>
  intro _ A u v _ ⟨P,C⟩ ⟨O,e2⟩;subst C e2;rw[(vz i j).2]
  exact LtAt.ints i j P O
 | @row n a b z w cs ha Z l1 l2 h ih =>
  intro ne A u v hu l g;cases l;cases g;obtain⟨f,F,T,_⟩:=I.tuple (SqT.of ha);obtain⟨e,E,S,_⟩:=I.tuple (SqT.of Z);have W:=F.length;have U:=E.length;obtain⟨k,d,B,D,h3,h4⟩:=qg ne;have kl:=(Jb.mp B).1
  have at_:∀ j (t:j<f.toArray.size) (r:j<e.toArray.size),∃ (o:j<z.length) (m:j<w.length),RelV z[j] f.toArray[j]/\RelV w[j] e.toArray[j]:=λj t r=>by
   have q:j<z.length:=by simpa [W] using t
   have p:j<w.length:=by simpa [U] using r
   obtain⟨N,C,R⟩:=F.get (J7 q);obtain⟨M,e2,Q⟩:=E.get (J7 p);have L:f.toArray[j]=N:=by simpa using (Jb.mp C).2
   have K:e.toArray[j]=M:=by simpa using (Jb.mp e2).2
   rw[L,K];exact⟨q,p,R,Q⟩
  rw[h3];have J:k<f.toArray.size:=by rw[Jh];simp_all
  have G:k<e.toArray.size:=by rw[Jh];simp_all
  obtain⟨o,m,l,g⟩:=at_ k J G;refine LtAt.tuples (k:=k) T S (by lia) J G (λj t r Y=>?_) ?_ ?_
  ·obtain⟨o,m,l,g⟩:=at_ j t r
   exact jQ I (h j _ _ _ (J7 o) (J7 m) (h4 j Y)) A.in1 _ _ (by show A.units+1+n<cLine;lia) l g
  ·have:=jQ I (h k _ _ _ (J7 o) (J7 m) B) A.in1 _ _ (by show A.units+1+n<cLine;lia) l g
   rwa [show (d == Ordering.eq)=false from by simpa using D]at this
  ·exact ih k _ _ _ (J7 o) (J7 m) B D A.in1 _ _ (by show A.units+1+n<cLine;lia) l g
end
def vOf:Jo->V
 | .int i _=>.int i
 | .ref a=>.ref a
 | _=>.non
theorem qd:∀ {xs:List V}{us:List Jo},Vals xs us->(∀ x∈xs,(∃ i,x=.int i)\/∃ a,x=.ref a)->xs=us.map vOf/\∀ u∈us,RelV (vOf u) u
 | _,_,.nil,_=>⟨rfl,λu g=>by simp at g⟩
 | x::xs,u::us,.cons r rs,h=>by
  obtain⟨e,f⟩:=qd rs λy c=>h y (JH _ c)
  have one:vOf u=x/\RelV (vOf u) u:=by
   rcases h x JM with ⟨i,rfl⟩|⟨a,rfl⟩
   ·obtain⟨t,rfl⟩:=r;exact⟨rfl,t,rfl⟩
   ·cases r;exact⟨rfl,rfl⟩
  refine⟨by rw[JY,one.1,<- e],λv d=>?_⟩;rcases Jr.mp d with rfl|b
  ·exact one.2
  ·exact f v b
theorem ra:∀ {us:List Jo},(∀ u∈us,RelV (vOf u) u)->Vals (us.map vOf) us
 | [],_=>.nil
 | u::us,h=>.cons (h u JM) (ra λv a=>h v (JH _ a))
section
variable {prog:Yo}{w:YI}{A:YO}{E:Jo->JO->Prop}{s:JO}
theorem dh {u v:Jo}{b:Bool}{Q:Bool->JO->Prop}(l:LtAt A s u v b)(h:Q b s):wpAny (model prog w) A (oneLt' false u v) Q E s:=by
 rw[oneLt'_eq,Jg Jm];exact J0 (l prog w _ _ (YC h))
end
section
variable {X:Cx}{pins:List (JI × Obj)}{σ:St}{H:Hp}{s:JO}
theorem Inv.adopt {T:JI}{o:HO}(I:Inv X pins σ H s)(d:FpOk X pins H T)(new:ObjOk X.prog X.w (upd H T o) s.heap T o):Inv X pins σ (upd H T o) s:=by
 have a:=d.1
 have J:Inv X pins σ (upd H T o) { s with heap:=s.heap,gens:=s.gens,drawn:=s.drawn,toks:=s.toks }:=by
  refine I.step (ch:=[T]) (λb f=>?_) (λb u _ _ _ e _=>e) (λb u _ _ _ e _=>⟨u.slots,e⟩) (λb u i _ n=>by rw[zK λq=>i (Jd.mpr q)];exact n)
   (λb u _ e=>⟨u,e⟩) (λb g e=>by rw[zK (zJ e a)];exact e) (λb u x e=>by rw[zK (zJ e a)];exact e) (λb j e=>⟨#[],by rw[zK (zJ e a),e];simp⟩) (λm h=>h) (λb u e=>?_) I.bare
  ·have only:=Jd.mp f
   subst only;exact⟨d.2.2.2.1,d.2.1,d.2.2.2.2.1,d.2.2.2.2.2⟩
  ·by_cases f:b=T
   ·subst f;rw[zG]at e;cases e;exact new
   ·rw[zK f]at e
    exact(I.hok b u e).stay (λc v _ q=>q) (λc q=>by rw[zK (zJ q a)];exact q) λc g q=>by rw[zK (zJ q a)];exact q
 exact J
end
end L2
namespace L2
open PySem PySem.Spec PyProof.Rows Own
section
variable {X:Cx}{pins:List (JI × Obj)}{σ:St}{H:Hp}{s:JO}{d:JI}
theorem Inv.reword {u v:HO}(I:Inv X pins σ H s)(hd:H d=some u)(h:∀ xs,u≠.tup xs)(nb:∀ ps,u≠.tbl ps)(no:∀ a,u≠.own a)(l:∀ o' i,X.H₀ d≠some (.frz o' i))(new:ObjOk X.prog X.w (upd H d v) s.heap d v):Inv X pins σ (upd H d v) s:=by
 have ne:∀ {b},H b=none->b≠d:=λe z=>by rw[z,hd]at e;cases e
 have f:∀ {b} {q:HO},H b=some q->q≠u->upd H d v b=some q:=λ{b q} e n=>by
  rw[zK];· exact e
  ·intro z
   rw[z,hd]at e;exact n (Jq e).symm
 refine⟨I.ok,I.os,I.bare,⟨I.base.keep,I.base.slot,λb q e n m=>?_,I.base.there,λb xs e=>f (I.base.tups b xs e) λz=>h xs z.symm,λb q w e=>?_,λb ps e=>?_⟩,I.loc,I.cell,?_,λx c e=>?_,λp o=>?_,λb q e=>?_,I.len⟩
 ·have z:=I.base.free b q e n m
  rw[zK (ne z)];exact z
 ·rw[zK]
  ·exact I.base.frzs b q w e
  ·rintro rfl;exact l q w e
 ·obtain⟨more,z⟩:=I.base.tbls b ps e
  exact⟨more,f z λq=>nb _ q.symm⟩
 ·rw[zK (ne I.free)];exact I.free
 ·have z:=I.freeC x c e
  rw[zK (ne z)];exact z
 ·obtain⟨k,g,j⟩:=I.pin p o
  exact⟨k,by rw[zK (ne g)];exact g,j⟩
 ·by_cases z:b=d
  ·subst z
   rw[zG]at e;cases e;exact new
  ·rw[zK z]at e
   exact(I.hok b q e).stay (λc w _ r=>r) (λc r=>f r λz=>no _ z.symm) λc xs r=>f r λz=>h _ z.symm
end
def NIv (H:Hp):KI->V->Prop
 | .inl i,v=>v=.int i
 | .inr xs,v=>∃ b,v=.ref b/\H b=some (.tup (xs.map V.int))
def NIvs (H:Hp):KN->List V->Prop
 | [],vs=>vs=[]
 | k::ks,vs=>∃ v r,vs=v::r/\NIv H k v/\NIvs H ks r
def NKey (H:Hp)(k:KN)(b:JI):Prop:=∃ a,H b=some (.tup a)/\NIvs H k a
theorem NIvs.tups {H H':Hp}(t:∀ b ys,H b=some (.tup ys)->H' b=some (.tup ys)):∀ {k:KN}{ys:List V},NIvs H k ys->NIvs H' k ys
 | [],_,h=>h
 | .inl i::k,_,h=>by
  obtain⟨v,r,e,c,a⟩:=h
  exact⟨v,r,e,c,NIvs.tups t a⟩
 | .inr f::k,_,h=>by
  obtain⟨v,r,e,⟨b,c,d⟩,a⟩:=h;exact⟨v,r,e,⟨b,c,t _ _ d⟩,NIvs.tups t a⟩
theorem NKey.tups {H H':Hp}(t:∀ b ys,H b=some (.tup ys)->H' b=some (.tup ys)){k:KN}{b:JI}(h:NKey H k b):NKey H' k b:=by
 obtain⟨ys,c,a⟩:=h;exact⟨ys,t _ _ c,a.tups t⟩
section
variable {P:Yo}{w:YI}{H:Hp}{h:YP}
theorem nO (ok:HOk P w H h):∀ {k:KN}{ys:List V}{its:List Jo},NIvs H k ys->Vals ys its->NIts P w h k its
 | [],_,its,a,r=>by
  rw[show _=[] from a]at r
  cases r;rfl
 | k::ks,_,its,a,r=>by
  obtain⟨v,q,rfl,a1,a2⟩:=a
  cases r with
  | @cons _ u _ g c r =>
   refine⟨u,g,rfl,?_,nO ok a2 r⟩
   cases k with
   | inl i=>rw[show v=.int i from a1]at c;exact c
   | inr d =>
    obtain⟨b,rfl,f⟩:=a1;refine⟨b,c,?_⟩;have e:d.map V.int=(d.map (Sum.inl:Int->Key)).map kV:=by rw[ZD];rfl
    rw[e]at f;exact zbb ok f
theorem uC (ok:HOk P w H h){k:KN}{b:JI}(a:NKey H k b):NIs P w h k b:=by
 obtain⟨d,e,a⟩:=a;obtain⟨_,c,r,o,i,g,n,f⟩:=(show ObjOk P w H h b (.tup d) from ok b _ e);exact⟨o,c.toArray,n,i,g,f.1,by simpa using nO ok a r⟩
end
abbrev KVN:=List (KN × JI × V)
def PrN:KN × JI × V->KN × JI × Jo->Prop:=λp q=>p.1=q.1/\p.2.1=q.2.1/\RelV p.2.2 q.2.2
def vG (xs:KVN)(k:KN):Option V:=(xs.find? λx=>decide (x.1=k)).map (·.2.2)
def wb (xs:KVN)(k:KN)(b:JI)(v:V):KVN:=if (vG xs k).isSome then xs.map λx=>if x.1=k then (x.1,x.2.1,v) else x else xs++[(k,b,v)]
theorem tO {xs:KVN}{vs:List (KN × JI × Jo)}(r:Paired PrN xs vs)(k:KN):RelO (vG xs k) ((atKey vs k).map (·.2)):=by
 induction r with
 | nil=>exact True.intro
 | @cons p q b a h t ih =>
  unfold vG atKey at ih ⊢;rw[YN,YN,h.1];by_cases c:q.1=k
  ·rw[Jw c];exact h.2.2
  ·rw[Jn c];exact ih
theorem eX {xs:KVN}{vs:List (KN × JI × Jo)}(r:Paired PrN xs vs)(k:KN){v:V}{u:Jo}(a:RelV v u):Paired PrN (xs.map λx=>if x.1=k then (x.1,x.2.1,v) else x) (vs.map (putAt k u)):=by
 induction r with
 | nil=>exact .nil
 | @cons p q d b h t ih =>
  refine .cons ?_ ih;unfold putAt;dsimp only;by_cases c:q.1=k
  ·rw[Jj (h.1.trans c),Jj c];exact⟨h.1,h.2.1,a⟩
  ·rw[Jg (λz=>c (h.1.symm.trans z)),Jg c];exact h
theorem putN_rel {xs:KVN}{vs:List (KN × JI × Jo)}(r:Paired PrN xs vs)(k:KN)(b:JI){v:V}{u:Jo}(a:RelV v u):Paired PrN (wb xs k b v) (storedH vs k b u):=by
 have e:=(tO r k).isSome_eq;rw[Option.isSome_map]at e;unfold wb storedH;rw[<- e];by_cases c:(vG xs k).isSome=true
 ·rw[Jj c,Jj c];exact eX r k a
 ·rw[Jg c,Jg c];exact Paired.snoc r ⟨rfl,rfl,a⟩
theorem oz (xs:KVN)(k:KN)(b:JI)(v:V):(wb xs k b v).length<=xs.length+1:=by
 unfold wb;split
 ·rw[Je];lia
 ·rw[Jc];exact Jf _
def PhN (P:Yo)(w:YI)(a:JI)(xs:KVN):YP->Prop:=λh=>xs.length<=sizeLine/\(a == sysModules)=false/\∃ b,Paired PrN xs b /\
 ∃ o c d,h.get? a=some o/\o.ExactDict/\o.data=.dict c d/\c.toList=b.map (entryOfKey (xP P w))/\(b.map (·.1)).Nodup
def DN (P:Yo)(w:YI)(a:JI)(xs:KVN):HO:=.ext (PhN P w a xs)
def KsIn (H:Hp)(xs:KVN):Prop:=∀ x∈xs,NKey H x.1 x.2.1
theorem KsIn.tups {H H':Hp}{xs:KVN}(t:∀ b ys,H b=some (.tup ys)->H' b=some (.tup ys))(h:KsIn H xs):KsIn H' xs:=λx a=>(h x a).tups t
section
variable {P:Yo}{w:YI}{H H':Hp}{h h':YP}{a:JI}{xs:KVN}
theorem dn_new (z:xs.length<=sizeLine)(hd:(a == sysModules)=false){vs:List (KN × JI × Jo)}(r:Paired PrN xs vs)(d:h'.DictOfH (xP P w) a vs):ObjOk P w H' h' a (DN P w a xs):=by
 obtain⟨o,h,i,b,g,f,e,_,c⟩:=d;refine⟨⟨z,hd,vs,r,o,h,i,b,g,f,e,c⟩,⟨o,b⟩,λk j ⟨z,hd,vs,r,o,h,i,b,g,f,e,c⟩ s=>⟨z,hd,vs,r,o,h,i,s o b,g,f,e,c⟩⟩
theorem sw (ok:HOk P w H h)(e:Rd H a (DN P w a xs))(ks:KsIn H xs):xs.length<=sizeLine/\(a == sysModules)=false/\∃ vs,Paired PrN xs vs/\h.DictOfH (xP P w) a vs:=by
 obtain⟨⟨z,i,vs,r,o,m,n,l,k,j,f,d⟩,u,s⟩:=(show ObjOk P w H h a (DN P w a xs) from zah ok e);refine⟨z,i,vs,r,o,m,n,l,k,j,f,?_,d⟩;clear f d e z u s
 induction r with
 | nil=>intro x b;exact nomatch b
 | @cons p q A v c t ih =>
  intro x b;rcases Jr.mp b with here|there
  ·have:=uC ok (ks p JM)
   rw[c.1,c.2.1,<- here]at this;exact this
  ·exact ih (λy g=>ks y (JH _ g)) x there
end
section
variable {X:Cx}{pins:List (JI × Obj)}{σ:St}{H:Hp}{s:JO}{a b:JI}{xs:KVN}{k:KN}{v d:V}{r:Jo}{A:YO}{E:Jo->JO->Prop}
theorem jJ (a:A.units+3<cLine):(xP X.prog X.w).room A.in1:=by show A.in1.units+2<cLine;rw[Around.in1_units];omega
theorem zcD {Q:Jo->JO->Prop}(f:A.units+3<cLine)(I:Inv X pins σ H s)(e:Rd H a (DN X.prog X.w a xs))(ks:KsIn H xs)(d:NKey H k b)(h:∀ c,Inv X pins σ H c->Q (.bool (vG xs k).isSome) c) :
  wpAny (model X.prog X.w) A (compareOp .In (.ref b) (.ref a)) Q E s:=by
 obtain⟨z,g,j,rel,i⟩:=sw I.hok e ks;refine wpAny_in_heap (jJ f) (uC I.hok d) g i ?_;have q:=(tO rel k).isSome_eq;rw[Option.isSome_map]at q;rw[<- q];exact h _ (I.tok _)
theorem za4 {Q:Jo->JO->Prop}(m:A.units+3<cLine)(I:Inv X pins σ H s)(e:Rd H a (DN X.prog X.w a xs))(ks:KsIn H xs)(l:NKey H k b)(j:RelV d r)(h:∀ c f,Inv X pins σ H f->RelV ((vG xs k).getD d) c->Q c f) :
  wpAny (model X.prog X.w) A (call (.builtin "dict.get") [.ref a,.ref b,r]) Q E s:=by
 obtain⟨z,n,i,rel,g⟩:=sw I.hok e ks;exact call_meetsIn PySem.F.slot_dict_get g.typeIs PySem.F.entry_dict_get (PySem.F.args_dict_get_3 _ _ _) (meetsH_dict_get_default (xP X.prog X.w) a b n r) ⟨jJ m,k,i,uC I.hok l,g,h _ _ (I.tok _) ((tO rel k).getD j)⟩
theorem iu {Q:Unit->JO->Prop}(m:A.units+3<cLine)(I:Inv X pins σ H s)(e:H a=some (DN X.prog X.w a xs))(ks:KsIn H xs)(i:NKey H k b)(g:RelV v r)(l:xs.length<sizeLine)(h:∀ d,Inv X pins σ (upd H a (DN X.prog X.w a (wb xs k b v))) d->Q () d) :
  wpAny (model X.prog X.w) A (setItem (.ref a) (.ref b) r) Q E s:=by
 obtain⟨z,u,f,rel,x⟩:=sw I.hok (.inl e) ks;have j:f.length<=sizeLine:=by rw[<- YU rel];exact z
 have p:(wb xs k b v).length<=sizeLine:=by have:=oz xs k b v;lia
 refine wpAny_setItem_heap (hsz:=j) (jJ m) (uC I.hok i) x λw c n=>h _ ?_;have t:∃ q,w.get? a=some q:=let ⟨q,_,_,o,_⟩:=c;⟨q,o⟩;exact oC I (by rw[e];exact True.intro) n t (dn_new p u (putN_rel rel k b g) c)
end
section
variable {prog:Yo}{w:YI}{A:YO}{E:Jo->JO->Prop}{s:JO}{d:JI}
theorem gQ {o:Obj}{es:Array DictEntry}{f:Nat}{Q:Jo->JO->Prop}(a:s.heap.get? d=some o)(c:o.ExactDict)(hd:o.data=.dict es f)(e:(d == sysModules)=false)(h:Q (.int es.size s.toks) { s with toks:=s.toks+1 }) :
  wpAny (model prog w) A (Builtin.«dict.__len__» ⟨[.ref d],[]⟩) (λfin b=>∃ r,fin=.done (.ret r)/\Q r b) E s:=by
 have ty:s.TypeIs (.ref d) "dict":=⟨o,a,c.1⟩;unfold Builtin.«dict.__len__» Builtin.Dict.dictSlotNone;refine J0 (J0 (wpAny_notOrdered_dict ty ?_));refine J0 ?_;show wpAny _ _ (pure ((.ref d,[]):Jo × List Jo)) _ _ _;refine J9 (J9 (J0 ?_));show wpAny _ _ (pure d) _ _ _;unfold dictSize;refine J9 (J0 (J0 (Yd a hd (J9 (J0 (wpAny_pendingCount_other e ?_))))));unfold retInt
 have g:Q (.int ((es.size:Int)+((0:Nat):Int)) s.toks) { s with toks:=s.toks+1 }:=by
  rw[show ((es.size:Int)+((0:Nat):Int))=es.size from Int.add_zero _];exact h
 exact J0 (wpAny_mkInt (J9 ⟨_,rfl,g⟩))
theorem nZ {o:Obj}{es:Array DictEntry}{f:Nat}{Q:Jo->JO->Prop}(b:s.heap.get? d=some o)(a:o.ExactDict)(hd:o.data=.dict es f)(e:(d == sysModules)=false)(g:(es.size:Int)<2 ^ 63)(h:∀ t,Q (.int es.size t) { s with toks:=s.toks+1+1 }) :
  wpAny (model prog w) A (Builtin.«len» ⟨[.ref d],[]⟩) (λfin c=>∃ r,fin=.done (.ret r)/\Q r c) E s:=by
 have ty:s.TypeIs (.ref d) "dict":=⟨o,b,a.1⟩;unfold Builtin.«len»;refine J0 ?_;show wpAny _ _ (pure (Value.ref d)) _ _ _;refine J9 (J0 (wpAny_callSpecial?_slot ty PySem.F.slot_dict_len (Y5 PySem.F.slot_dict_len ty PySem.F.entry_dict_len (gQ b a hd e ?_) (PySem.F.args_dict_len_1 _))));show wpAny _ _ (holding [Value.int (es.size:Int) s.toks] (asIndex (.int (es.size:Int) s.toks)) >>= _) _ _ _;refine J0 (Yf (show wpAny _ _ (pure (es.size:Int)) _ _ _ from J9 (J0 (ZY ?_))));dsimp only;rw[Jg (by simp_all),Jg (by simp_all)];unfold retInt;exact J0 (wpAny_mkInt (J9 ⟨_,rfl,h _⟩))
end
section
variable {X:Cx}{pins:List (JI × Obj)}{σ:St}{H:Hp}{s:JO}{a:JI}{xs:KVN}{A:YO}{E:Jo->JO->Prop}
theorem jM {P:Yo}{w:YI}{h:YP}(ok:HOk P w H h)(e:Rd H a (DN P w a xs)):(a == sysModules)=false/\∃ o es b,h.get? a=some o/\o.ExactDict/\o.data=.dict es b/\es.size=xs.length/\(es.size:Int)<2 ^ 63:=by
 obtain⟨⟨z,c,j,r,o,es,b,i,g,f,d,k⟩,_,_⟩:=(show ObjOk P w H h a (DN P w a xs) from zah ok e);have l:es.size=xs.length:=by rw[ZT d,<- YU r]
 refine⟨c,o,es,b,i,g,f,l,?_⟩;rw[JB]at z;lia
theorem zbR {Q:Jo->JO->Prop}(I:Inv X pins σ H s)(e:Rd H a (DN X.prog X.w a xs))(h:∀ t b,Inv X pins σ H b->Q (.int xs.length t) b):wpAny (model X.prog X.w) A (call (.builtin "len") [.ref a]) Q E s:=by
 obtain⟨c,o,j,k,i,g,d,l,f⟩:=jM I.hok e;refine Calls.call_function_entry kind_len plain_len entry_len (args_len1 _) (nZ i g d c f λt=>?_);rw[l];exact h _ _ (I.tok _)
theorem aY {Q:Bool->JO->Prop}(I:Inv X pins σ H s)(e:Rd H a (DN X.prog X.w a xs))(h:∀ c,Inv X pins σ H c->Q (!xs.isEmpty) c):wpAny (model X.prog X.w) A (truthy (.ref a)) Q E s:=by
 obtain⟨j,o,i,u,g,d,k,l,f⟩:=jM I.hok e;have ty:s.TypeIs (.ref a) "dict":=⟨o,g,d.1⟩
 have q:∀ (n:Nat) (b:Bool),n=xs.length->b=((n:Int) != 0)->b = !xs.isEmpty:=λn b m e2=>by
  subst m e2
  cases xs with
  | nil=>rfl
  | cons x r=>rw[Ya];simp;lia
 unfold truthy;show wpAny _ _ (callSpecial? (Value.ref a) (Str.ofString "__bool__") >>= _) _ _ _;refine J0 (wpAny_callSpecial?_none (T:="dict") ty noBool_dict ?_);show wpAny _ _ (specialOf (Value.ref a) (Str.ofString "__len__") >>= _) _ _ _;refine J0 (wpAny_specialOf (T:="dict") ty PySem.F.slot_dict_len.lookup ?_);show wpAny _ _ (runValue (Code.builtin "len" { pos:=[Value.ref a] }) >>= _) _ _ _;refine J0 (wpAny_runValue (ZR entry_len ?_));refine JU (nZ (Q:=λr c=>(∃ t,r=.int i.size t)/\Inv X pins σ H c) g d k j f λt=>⟨⟨t,rfl⟩,I.tok _⟩) ?_ λ_ _ z=>z;rintro fin c ⟨r,rfl,⟨t,rfl⟩,p⟩;refine J9 ?_;rw[q i.size _ l rfl];exact h c p
end
def NAt (P:Yo)(w:YI)(H:Hp)(a:JI)(xs:KVN):Prop:=Rd H a (DN P w a xs)/\KsIn H xs
def zav (P:Yo)(w:YI)(g ty f:TE):TE:=λσ H Q=>g σ H λx e=>∃ a,x=.ref a/\(∃ c,Rd e a (DN P w a c))/\ty σ e λy h=>f σ h λz d=>∃ b c k,y=.ref b/\NAt P w d a c/\NKey d k b/\Q ((vG c k).getD z) d
def zbK (P:Yo)(w:YI)(f ty e:TE):TS:=λD σ H=>e σ H λv h=>f σ h λx g=>ty σ g λy d=>∃ a b c k,x=.ref a/\y=.ref b/\d a=some (DN P w a c)/\KsIn d c/\NKey d k b/\c.length<sizeLine/\D.nx σ (upd d a (DN P w a (wb c k b v)))
section
variable {X:Cx}{o i e f value:Expr}{pos pos' apos cpos:Pos}{td ty tv tx:TE}
theorem kC {pins:List (JI × Obj)}{σ:St}{H:Hp}{s:JO}{a:JI}{xs:KVN}(I:Inv X pins σ H s)(d:Rd H a (DN X.prog X.w a xs)) :
  s.TypeIs (.ref a) "dict"/\∀ b,Value.ref a=.ref b->∃ ob,s.heap.get? b=some ob/\ob.dict=none:=by
 obtain⟨_,q,f,g,e,c,_⟩:=jM I.hok d;refine⟨⟨q,e,c.1⟩,λb z=>?_⟩;cases z;exact⟨q,e,c.2.1⟩
theorem dQ (D:X.A.units+3<cLine) (E:PE X o td) (G:PE X e ty) (F:PE X f tx) (m:M2 X o "get" apos e f cpos):PE X (.Call (.Attribute o "get" apos) [e,f] [] cpos) (zav X.prog X.w td ty tx):=by
 intro pins s σ H Q I h;refine wpAny_Call_method m.base m.few m.line PySem.F.plainAttrs_dict PySem.F.slot_dict_get PySem.F.type_dict_get (thn (E pins s σ H _ I h) λu p ⟨x,P,g,t,a,ex,⟨R,d⟩,A⟩=>?_);subst ex;cases (show u=Value.ref a from t);obtain⟨j,i⟩:=kC g d;refine⟨j,i,?_⟩;rw[m.trees]
 refine ZZ rfl (Calls.evalArgs_plain (ZW (thn (G pins p σ P _ g A) λC l ⟨y,O,M,r,w⟩ =>
  ZW (thn (F pins l σ O _ M w) λW V ⟨z,N,L,q,b,S,k,J,n,B,v⟩=>Wz ?_))))
 subst J;cases (show C=Value.ref b from r);exact za4 D L n.1 n.2 B q λT U K c=>⟨_,N,K,c,v⟩
theorem bx (z:X.A.units+3<cLine)(B:PE X o td)(hi:PE X i ty)(w:PE X value tv)(A:swapsWith value (some (.Subscript o i pos')) pos.line X.env=pure false) :
  PS X (.Assign [.Subscript o i pos'] value pos) (zbK X.prog X.w td ty tv):=by
 intro pins s σ H D I h;refine wpAny_Assign_Subscript (thn (w pins s σ H _ I h) λr d ⟨v,M,K,g,n⟩=>thn (B pins d σ M _ K n) λu c ⟨x,L,J,f,m⟩=>thn (hi pins c σ L _ J m) λt P ⟨y,Q,G,e,a,b,N,k,ex,E,C,p,q,l,j⟩=>?_) A;subst ex E;cases (show u=Value.ref a from f);cases (show t=Value.ref b from e);exact iu z G C p q g l λO F=>⟨σ,_,F,j⟩
theorem ga:CallR X (.builtin "len") (λvs H Q=>∃ a xs,vs=[.ref a]/\Rd H a (DN X.prog X.w a xs)/\Q (.int xs.length) H):=by
 intro pins s σ H vs g Q I b ⟨a,xs,e,d,q⟩;subst e;obtain⟨u,rfl,c⟩:=b.one;cases (show u=Value.ref a from c);exact zbR I d λt h f=>⟨.int xs.length,H,f,⟨t,rfl⟩,q⟩
theorem zbs:TruR X (λx H Q=>∃ a xs,x=.ref a/\Rd H a (DN X.prog X.w a xs)/\Q (!xs.isEmpty) H):=by
 intro pins s σ H x v Q I b ⟨a,xs,e,d,q⟩;subst e;cases (show v=Value.ref a from b);exact aY I d λf c=>⟨H,c,q⟩
theorem zcC (ha:PE X o td)(e:∀ whole,isTrue o X.env whole=(do let v <- whole;standAt o.pos;holding [v] (truthy v))) :
  PT X o (λσ H Q=>td σ H λx H'=>∃ a xs,x=.ref a/\Rd H' a (DN X.prog X.w a xs)/\Q (!xs.isEmpty) H'):=by
 intro pins s σ H Q I h;exact isTrue_plain (thn (ha pins s σ H _ I h) λv b ⟨x,g,f,c,d⟩=>zbs pins b σ g x v Q f c d) (e _)
def zbA (P:Yo)(w:YI):TE:=λ_ H Q=>∀ p,H p=none->Q (.ref p) (upd H p (DN P w p []))
theorem jB:PE X (.Dict [] [] pos) (zbA X.prog X.w):=λpins s σ H Q I h =>
 wpAny_Dict_empty ⟨.ref s.heap.objs.size,_,I.laid (a:=s.heap.objs.size) (o:=DN X.prog X.w s.heap.objs.size []) (t':=s.toks) (λ_ _ q=>J8 _ q) (Jf _)
  (dn_new (vs:=[]) (JN _) (Zf.mpr (Z9 I.big)) .nil (Heap.DictOfH.new _)),rfl,h _ (I.hok.fresh (Jf _))⟩
end
def zcx (P:Yo)(w:YI)(p:JI)(Q:VK):List (V × V)->Hp->Prop
 | [(y,v)],a=>∃ b k,y=.ref b/\a p=some (DN P w p [])/\NKey a k b/\Q (.ref p) (upd a p (DN P w p [(k,b,v)]))
 | _,_=>False
def zbz (P:Yo)(w:YI)(ty c:TE):TE:=λσ H Q=>∀ p,H p=none->ty σ (upd H p (DN P w p [])) λy d=>c σ d λv a=>∃ b k,y=.ref b/\a p=some (DN P w p [])/\NKey a k b/\Q (.ref p) (upd a p (DN P w p [(k,b,v)]))
section
variable {X:Cx}{e f:Expr}{pos:Pos}{ty tv:TE}
theorem dJ (N:X.A.units+3<cLine)(D:PE X e ty)(w:PE X f tv):PE X (.Dict [some e] [f] pos) (zbz X.prog X.w ty tv):=by
 intro pins s σ H Q I q;have C:=I.hok.fresh (Jf s.heap.objs.size)
 have J:=I.laid (a:=s.heap.objs.size) (o:=DN X.prog X.w s.heap.objs.size []) (h':=s.heap.push { cls:=.type "dict",data:=.dict #[] }) (t':=s.toks) (λ_ _ q=>J8 _ q) (Jf _)
  (dn_new (vs:=[]) (JN _) (Zf.mpr (Z9 I.big)) .nil (Heap.DictOfH.new _))
 refine wpAny_Dict_any rfl rfl (by simp) (by show 1<=15;lia) (thn ((ee D w bz) pins _ σ _ (zcx X.prog X.w s.heap.objs.size Q) J (q _ C)) ?_);rintro vs M ⟨n,O,d,rel,r⟩
 match n,rel,r with
 | [(y,v)],rel,r =>
  obtain⟨b,k,rfl,g,p,m⟩:=r
  cases rel with
  | @cons _ i _ K h t =>
   cases t;obtain⟨j,L⟩:=i;cases (show j=Value.ref b from h.1);obtain⟨z,F,vs,l,G⟩:=sw d.hok (.inl g) (λx u=>nomatch u);cases l;unfold storeAll;rw[Z2];refine J0 (J0 (wpAny_dictSet_heap (knd:=xP X.prog X.w) (k:=k) (hsz:=JN _) (show X.A.units+2<cLine by lia) (uC d.hok p) G λh' c A=>J9 ?_));dsimp only;rw[Zx];refine J9 ⟨.ref s.heap.objs.size,_,?_,rfl,m⟩;have E:∃ q,h'.get? s.heap.objs.size=some q:=let ⟨q,_,_,B,_⟩:=c;⟨q,B⟩
   exact oC d (by rw[g];exact True.intro) A E (dn_new (by show 1<=sizeLine;decide) F (.cons ⟨rfl,rfl,h.2⟩ .nil) c)
 | [],_,r=>exact r.elim
 | _::_::_,_,r=>exact r.elim
end
end L2
namespace Bn
open PySem L2 Own
structure Grp where
 many:Int
 lane:Nat
 fork:Nat
def yH (back:Bool)(st:List Int × Nat)(k:Nat)(f:Nat × Nat):List Int × Nat :=
 if st.2=f.1\/st.2=f.2 then (st.1.set k (1-st.1.getD k 0),if (if back then 1-st.1.getD k 0 else st.1.getD k 0)=0 then f.1 else f.2) else st
def yB (back:Bool)(fs:List (Nat × Nat))(ts:List Int)(lane:Nat):Nat->List Int × Nat
 | 0=>(ts,lane)
 | i+1=>yH back (yB back fs ts lane i) i (fs.getD i (0,0))
def yE (xs:List Int)(i:Nat)(d:Int):List Int:=xs.set i (xs.getD i 0+d)
theorem yh (xs:List Int)(i:Nat)(d:Int):(yE xs i d).length=xs.length:=by simp[yE]
theorem yb {xs:List Int}{i p:Nat}{d:Int}(h:p<xs.length):(yE xs i d).getD p 0=xs.getD p 0+if i=p then d else 0:=by
 unfold yE;rw[vm h];by_cases e:i=p
 ·subst e;rw[Jj rfl,Jj rfl]
 ·rw[Jg e,Jg e,Int.add_zero]
theorem wL {xs ys:List Int}(b:xs.length=ys.length)(h:∀ p,p<xs.length->xs.getD p 0=ys.getD p 0):xs=ys:=by
 refine ZC b λp a c=>?_;have:=h p a
 rwa [Ja,Ja,J7 a,J7 c]at this
theorem wx {L T:List Int}{f:Nat × Nat}{p:Nat}(a:p<L.length):(yT (L,T) f).1.getD p 0=if f.2=p then (L.getD f.1 0+L.getD f.2 0) / 2 else if f.1=p then (L.getD f.1 0+L.getD f.2 0+1) / 2 else L.getD p 0:=by
 unfold yT;simp only;rw[vm (by rw[Z6];exact a),vm a]
theorem di (back:Bool)(L T:List Int)(f:Nat × Nat)(here k:Nat)(ts:List Int)(x:f.1<L.length)(w:f.2<L.length)(ne:f.1≠f.2)(B:here<L.length)(t:ts.getD k 0=(L.getD f.1 0+L.getD f.2 0)%2) :
  let d:Int:=if back then -1 else 1
  let r:=yH back (ts,here) k f
  (yT (yE L here d,T) f).1=yE (yT (L,T) f).1 r.2 d/\r.2<L.length /\
   ((here=f.1\/here=f.2)->((yE L here d).getD f.1 0+(yE L here d).getD f.2 0)%2=1-ts.getD k 0)/\(¬(here=f.1\/here=f.2)->((yE L here d).getD f.1 0+(yE L here d).getD f.2 0)%2=ts.getD k 0):=by
 intro d r;have m:d=if back then -1 else 1:=rfl;have v:=yb (xs:=L) (i:=here) (d:=d) x;have u:=yb (xs:=L) (i:=here) (d:=d) w;generalize o:L.getD f.1 0+L.getD f.2 0=c at *;have j:r=yH back (ts,here) k f:=rfl;unfold yH at j;simp only at j;by_cases on:here=f.1\/here=f.2
 ·rw[Jj on]at j
  have n:(yE L here d).getD f.1 0+(yE L here d).getD f.2 0=c+d:=by
   rw[v,u,<- o];rcases on with e|e
   ·subst e;rw[Jj rfl,Jg ne];lia
   ·subst e;rw[Jg (Ne.symm ne),Jj rfl];lia
  have h:r.2=if (if back then 1-c%2 else c%2)=0 then f.1 else f.2:=by rw[j,t]
  refine⟨wL (by rw[yt,yh,yh,yt]) λp l=>?_,?_,λ_=>?_,λz=>absurd on z⟩
  ·rw[yt,yh]at l
   have a:p<L.length:=l;rw[wx (by rw[yh];exact a),n,yb (xs:=(yT (L,T) f).1) (by rw[yt];exact a),wx a,o,yb (xs:=L) a,h];cases back
   ·simp only[Yw,Zw]at m ⊢
    rw[m];by_cases b:f.2=p
    ·subst b
     simp only[YV];by_cases z:c%2=0
     ·rw[Jj z,Jg ne];lia
     ·rw[Jg z,Jj rfl];lia
    ·rw[Jg b,Jg b]
     by_cases g:f.1=p
     ·subst g
      simp only[YV];by_cases z:c%2=0
      ·rw[Jj z,Jj rfl];lia
      ·rw[Jg z,Jg (Ne.symm ne)];lia
     ·rw[Jg g,Jg g]
      have s:¬ here=p:=by rcases on with e|e<;>simp_all
      have q:¬(if c%2=0 then f.1 else f.2)=p:=by split<;>assumption
      rw[Jg s,Jg q]
   ·simp only[YV]at m ⊢
    rw[m];by_cases b:f.2=p
    ·subst b
     simp only[YV];by_cases z:1-c%2=0
     ·rw[Jj z,Jg ne];lia
     ·rw[Jg z,Jj rfl];lia
    ·rw[Jg b,Jg b]
     by_cases g:f.1=p
     ·subst g
      simp only[YV];by_cases z:1-c%2=0
      ·rw[Jj z,Jj rfl];lia
      ·rw[Jg z,Jg (Ne.symm ne)];lia
     ·rw[Jg g,Jg g]
      have s:¬ here=p:=by rcases on with e|e<;>simp_all
      have q:¬(if 1-c%2=0 then f.1 else f.2)=p:=by split<;>assumption
      rw[Jg s,Jg q]
  ·rw[h]
   by_cases z:(if back=true then 1-c%2 else c%2)=0
   ·rw[Jj z];exact x
   ·rw[Jg z];exact w
  ·rw[n,t]
   cases back<;>simp at m<;>lia
 ·rw[Jg on]at j
  have A:¬ here=f.1:=λz=>on (.inl z);have y:¬ here=f.2:=λz=>on (.inr z);rw[Jg A]at v;rw[Jg y]at u;have n:(yE L here d).getD f.1 0+(yE L here d).getD f.2 0=c:=by rw[v,u,<- o];lia
  have h:r.2=here:=by rw[j]
  refine⟨wL (by rw[yt,yh,yh,yt]) λp l=>?_,by rw[h];exact B,λz=>absurd z on,λ_=>by rw[n,t]⟩;rw[yt,yh]at l;have a:p<L.length:=l;rw[wx (by rw[yh];exact a),n,yb (xs:=(yT (L,T) f).1) (by rw[yt];exact a),wx a,o,yb (xs:=L) a,h];by_cases b:f.2=p
  ·rw[Jj b,Jj b,Jg (by simp_all)];lia
  ·rw[Jg b,Jg b]
   by_cases g:f.1=p
   ·rw[Jj g,Jj g,Jg (by simp_all)];lia
   ·rw[Jg g,Jg g]
structure Ran (back:Bool) (fs:List (Nat × Nat)) (cs ts:List Int) (lane i:Nat):Prop where
 flows:(yM (fs.take i) (yE cs lane (if back then -1 else 1))).1=yE (yM (fs.take i) cs).1 (yB back fs ts lane i).2 (if back then -1 else 1)
 turns:∀ k,k<i->(yM (fs.take i) (yE cs lane (if back then -1 else 1))).2.getD k 0=(yB back fs ts lane i).1.getD k 0
 rest:∀ k,i<=k->(yB back fs ts lane i).1.getD k 0=ts.getD k 0
 len:(yB back fs ts lane i).1.length=ts.length
 here:(yB back fs ts lane i).2<cs.length
 bits:∀ t∈(yB back fs ts lane i).1,t=0\/t=1
theorem ur (cs:List Int)(T:List Int):∀ (a:List (Nat × Nat)) (L:List Int) (k:Nat),k<T.length->(yg (L,T) a).2.getD k 0=T.getD k 0
 | [],_,_,_=>rfl
 | g::a,L,k,h=>by
  have:=ur cs (yT (L,T) g).2 a (yT (L,T) g).1 k (by simp[yT];lia);rw[show yg (L,T) (g::a)=yg ((yT (L,T) g).1,(yT (L,T) g).2) a from rfl,this];show (T++[_]).getD k 0=T.getD k 0;rw[Ja,YA h,<- Ja]
theorem bb {fs:List (Nat × Nat)}{i:Nat}{f:Nat × Nat}(h:fs[i]?=some f)(cs:List Int):(yM fs cs).2.getD i 0=((yM (fs.take i) cs).1.getD f.1 0+(yM (fs.take i) cs).1.getD f.2 0)%2:=by
 have sp:fs=fs.take (i+1)++fs.drop (i+1):=(W9 _ _).symm
 have e:yM fs cs=yg (yM (fs.take (i+1)) cs) (fs.drop (i+1)):=by
  conv=>lhs;rw[sp]
  unfold yM yg;rw[Zt]
 have hi:i<fs.length:=(Jb.mp h).1;have a:(yM (fs.take i) cs).2.length=i:=by rw[xC,Jt];lia
 rw[e,wI h];have:=ur cs (yT (yM (fs.take i) cs) f).2 (fs.drop (i+1)) (yT (yM (fs.take i) cs) f).1 i (by simp[yT,a]);rw[this];unfold yT;simp only;rw[Ja,Yv (by lia),a];simp
theorem oY {ts:List Int}{k:Nat}(h:∀ t∈ts,t=0\/t=1):∀ t∈ts.set k (1-ts.getD k 0),t=0\/t=1:=λt a=>by
 rcases List.mem_or_eq_of_mem_set a with z|z
 ·exact h t z
 ·by_cases b:k<ts.length
  ·have:=h _ (L2.nu b);lia
  ·rw[List.set_eq_of_length_le (by simp_all)]at a;exact h t a
theorem ran {back:Bool}{fs:List (Nat × Nat)}{cs:List Int}{lane:Nat}(ok:∀ f∈fs,f.1<cs.length/\f.2<cs.length/\f.1≠f.2)(h:lane<cs.length)(hb:∀ t∈(yM fs cs).2,t=0\/t=1):∀ i,i<=fs.length->Ran back fs cs (yM fs cs).2 lane i
 | 0,_=>⟨rfl,λk b=>absurd b (Zr _),λ_ _=>rfl,rfl,h,hb⟩
 | i+1,hi=>by
  have ih:=ran (back:=back) ok h hb i (by lia);have c:fs[i]?=some fs[i]:=J7 (by lia);have w:fs.getD i (0,0)=fs[i]:=by rw[Ja,c];rfl
  have d:=ok _ (JR (show i<fs.length by lia));have j:=wI c (yE cs lane (if back then -1 else 1));have e2:=wI c cs;have tt:=bb c cs;generalize fs[i]=f at *;have g:(yM (fs.take i) cs).1.length=cs.length:=wJ _ _;have n:(yM (fs.take i) (yE cs lane (if back then -1 else 1))).2.length=i:=by rw[xC,Jt];lia
  have o:(yM fs cs).2.length=fs.length:=xC _ _;have of:=di back (yM (fs.take i) cs).1 (yM (fs.take i) (yE cs lane (if back then -1 else 1))).2 f (yB back fs (yM fs cs).2 lane i).2 i (yB back fs (yM fs cs).2 lane i).1 (by simp_all) (by simp_all) d.2.2 (by rw[g];exact ih.here) (by rw[ih.rest i (Jf _)];exact tt);obtain⟨u,s,q,p⟩:=of;have rs:yB back fs (yM fs cs).2 lane (i+1)=yH back ((yB back fs (yM fs cs).2 lane i).1,(yB back fs (yM fs cs).2 lane i).2) i f:=by show yH _ _ _ _=_;rw[w]
  have st:yM (fs.take i) (yE cs lane (if back then -1 else 1))=(yE (yM (fs.take i) cs).1 (yB back fs (yM fs cs).2 lane i).2 (if back then -1 else 1),(yM (fs.take i) (yE cs lane (if back then -1 else 1))).2):=by rw[<- ih.flows]
  generalize a:yB back fs (yM fs cs).2 lane i=r at *;generalize v:(yM (fs.take i) (yE cs lane (if back then -1 else 1))).2=T at *
  have m:(yH back (r.1,r.2) i f).1.getD i 0=(yT (yE (yM (fs.take i) cs).1 r.2 (if back then -1 else 1),T) f).2.getD i 0:=by
   unfold yT;simp only;rw[Ja (l:=T++_),Yv (by simp_all),n];simp only[Nat.sub_self,List.getElem?_cons_zero,ZE];unfold yH;by_cases on:r.2=f.1\/r.2=f.2
   ·rw[Jj on,q on]
    simp only;rw[vm (by have z:=ih.len;rw[a,o]at z;lia),Jj rfl]
   ·rw[Jg on,p on]
  have keep:∀ k,k≠i->(yH back (r.1,r.2) i f).1.getD k 0=r.1.getD k 0:=λk b=>by
   unfold yH;split
   ·simp only
    rw[Ja,We (Ne.symm b),<- Ja]
   ·rfl
  refine⟨?_,λk b=>?_,λk b=>?_,?_,?_,?_⟩
  ·rw[j,st,u,rs,e2,show yM (fs.take i) cs=((yM (fs.take i) cs).1,(yM (fs.take i) cs).2) from rfl];rfl
  ·rw[j,st,rs]
   by_cases e:k=i
   ·subst e;exact m.symm
   ·have z:=ih.turns k (by lia)
    rw[a,v]at z;rw[keep k e,<- z];unfold yT;simp only;rw[Ja,YA (by lia),<- Ja]
  ·have z:=ih.rest k (by lia)
   rw[a]at z;rw[rs,keep k (by lia),z]
  ·rw[rs]
   unfold yH;split
   ·simp only;rw[Z6,<- ih.len,a]
   ·rw[<- ih.len,a]
  ·rw[rs,<- g];exact s
  ·rw[rs]
   unfold yH;split
   ·exact oY (by have z:=ih.bits;rw[a]at z;exact z)
   ·have z:=ih.bits;rw[a]at z;exact z
theorem vS {back:Bool}{fs:List (Nat × Nat)}{ts:List Int}{lane:Nat}(h:∀ t∈ts,t=0\/t=1):∀ i,∀ t∈(yB back fs ts lane i).1,t=0\/t=1
 | 0=>h
 | i+1=>by
  have ih:=vS (back:=back) (fs:=fs) (lane:=lane) h i;show ∀ t∈(yH back (yB back fs ts lane i) i (fs.getD i (0,0))).1,t=0\/t=1;unfold yH;split
  ·exact oY ih
  ·exact ih
theorem uR {back:Bool}{fs:List (Nat × Nat)}{ts:List Int}{lane:Nat}:∀ i,(yB back fs ts lane i).1.length=ts.length
 | 0=>rfl
 | i+1=>by
  have ih:=uR (back:=back) (fs:=fs) (ts:=ts) (lane:=lane) i;show (yH back (yB back fs ts lane i) i (fs.getD i (0,0))).1.length=_;unfold yH;split
  ·simp only;rw[Z6];exact ih
  ·exact ih
theorem vR {back:Bool}{fs:List (Nat × Nat)}{ts:List Int}{lane n:Nat}(ok:∀ f∈fs,f.1<n/\f.2<n/\f.1≠f.2)(b:lane<n):∀ i,i<=fs.length->(yB back fs ts lane i).2<n
 | 0,_=>b
 | i+1,hi=>by
  have ih:=vR (back:=back) (ts:=ts) ok b i (by lia);have a:=ok _ (JR (show i<fs.length by lia));have c:fs.getD i (0,0)=fs[i]:=by rw[Ja,J7 (show i<fs.length by lia)];rfl
  show (yH back (yB back fs ts lane i) i (fs.getD i (0,0))).2<n;rw[c];generalize fs[i]=f at *;unfold yH;split
  ·simp only
   by_cases z:(if back=true then 1-(yB back fs ts lane i).1.getD i 0 else (yB back fs ts lane i).1.getD i 0)=0
   ·rw[Jj z];exact a.1
   ·rw[Jg z];exact a.2.1
  ·exact ih
theorem nk (k:Nat):∀ es:List Nat,(es.map λ(e:Nat)=>(e:Int)).idxOf (k:Int)=es.idxOf k
 | []=>rfl
 | e::es=>by
  rw[JY,List.idxOf_cons,List.idxOf_cons,nk k es]
  have:((e:Int) == (k:Int))=(e == k):=by
   rw[Ya,beq_iff_eq];rw[beq_iff_eq];lia
  rw[this]
theorem cC (es:List Nat):zW es=(es.map λ(e:Nat)=>(e:Int)).map V.int:=by unfold zW;rw[ZD];rfl
def fi:Sp:=λb H Q _=>∃ r fr d c N,∃ a:Nat,b=[.ref r,.int a]/\Nt.Ok N/\NetAt H r fr d c N/\a<N.lanes/\Q (.int (N.ends.idxOf a:Nat)) H
def RunQ (back:Bool)(vs:List V)(H:Hp)(Q:VK):Prop:=∃ r fr g f N e b,∃ a:Nat,vs=[.ref r,.ref e,.int a]/\Nt.Ok N/\NetAt H r fr g f N/\H e=some (.tup (List.map V.int b))/\b.length=N.forks.length/\(∀ t∈b,t=0\/t=1)/\a<N.lanes /\
 ∀ p c d,Same H d->d p=some (.tup [.ref c,.int (N.ends.idxOf (yB back N.forks b a N.forks.length).2:Nat)])->d c=some (.tup ((yB back N.forks b a N.forks.length).1.map V.int))->Q (.ref p) d
def mi (back:Bool):Sp:=λa H Q _=>RunQ back a H Q
def fh:Sp:=λb H Q _=>∃ (a:List V) (back:Bool),b=a++[.bl back]/\RunQ back a H Q
theorem bn (xs:List Int)(i:Nat)(v:Int)(h:i<xs.length):(xs.map V.int).take i++[V.int v]++(xs.map V.int).drop (i+1)=(xs.set i v).map V.int:=by
 rw[List.set_eq_take_append_cons_drop,Jj h,JQ,JY,List.map_take,List.map_drop,JV];rfl
def part (m:Int)(lane k:Nat):List Grp:=if m=0 then [] else [⟨m,lane,k⟩]
theorem vN:∀ (fs:List (Nat × Nat)) (st:List Int × List Int),(∀ t∈st.2,t=0\/t=1)->∀ t∈(yg st fs).2,t=0\/t=1
 | [],_,h=>h
 | f::fs,st,h=>vN fs (yT st f) λt a=>by
  unfold yT at a;simp only at a;rcases Jv.mp a with z|z
  ·exact h t z
  ·rw[Jd.mp z];lia
theorem gL (fs:List (Nat × Nat))(cs:List Int):∀ t∈(yM fs cs).2,t=0\/t=1:=vN fs (cs,[]) λt a=>by simp at a
theorem ww (n p:Nat):(List.replicate n (0:Int)).getD p 0=0:=by
 rw[Ja,List.getElem?_replicate];split<;>rfl
theorem oM (n p:Nat):(List.replicate n (0:Int)).set p 0=List.replicate n 0:=by
 refine ZC (by simp) λi b a=>?_;rw[List.getElem_set];split<;>simp
theorem vM (n:Nat):∀ (fs:List (Nat × Nat)) (T:List Int),yg (List.replicate n 0,T) fs=(List.replicate n 0,T++List.replicate fs.length 0)
 | [],T=>by simp[yg]
 | f::fs,T=>by
  have e:yT (List.replicate n 0,T) f=(List.replicate n 0,T++[0]):=by
   unfold yT;simp only[ww];rw[show ((0:Int)+0+1) / 2=0 by decide,show ((0:Int)+0) / 2=0 by decide,show ((0:Int)+0)%2=0 by decide,oM,oM]
  show yg (yT (List.replicate n 0,T) f) fs=_;rw[e,vM n fs (T++[0]),JW,Yn,JV];rfl
theorem qR (n:Nat)(fs:List (Nat × Nat)):yM fs (List.replicate n 0)=(List.replicate n 0,List.replicate fs.length 0):=by
 unfold yM;rw[vM,Wi]
theorem gO (N:Nt)(ok:N.Ok):yd N (List.replicate N.lanes 0)=List.replicate N.lanes 0:=by
 unfold yd;rw[qR];refine ZC (by rw[Je,JX,uE ok]) λi b a=>?_;rw[Wb,List.getElem_replicate];exact ww _ _
theorem mN (N:Nt):xB N (List.replicate N.lanes 0)=List.replicate N.forks.length 0:=by unfold xB;rw[qR]
theorem zbn {N:Nt}(ok:N.Ok)(back:Bool){cs:List Int}(cl:cs.length=N.lanes){lane:Nat}(o:lane<N.lanes) :
  xB N (yE cs lane (if back then -1 else 1))=(yB back N.forks (xB N cs) lane N.forks.length).1 /\
  yd N (yE cs lane (if back then -1 else 1))=yE (yd N cs) (N.ends.idxOf (yB back N.forks (xB N cs) lane N.forks.length).2) (if back then -1 else 1) /\
  (yB back N.forks (xB N cs) lane N.forks.length).2<N.lanes:=by
 have R:=ran (back:=back) (fs:=N.forks) (cs:=cs) (lane:=lane) (λf m=>by rw[cl];exact ok.fk f m) (by simp_all) (gL _ _) N.forks.length (Jf _);have j:N.forks.take N.forks.length=N.forks:=Yz;have i:=R.flows;have h:=R.turns;rw[j]at i h;have d:=R.here;rw[cl]at d;refine⟨?_,?_,d⟩
 ·refine wL ?_ λp b=>?_
  ·unfold xB;rw[xC,R.len,xC]
  ·unfold xB at b;rw[xC]at b;exact h p b
 ·have ne:(yB back N.forks (xB N cs) lane N.forks.length).2∈N.ends:=ok.en.mem_iff.mpr (Y2.mpr d)
  have k:N.ends.Nodup:=ok.en.nodup_iff.mpr List.nodup_range;have n:(yd N cs).length=N.ends.length:=by unfold yd;rw[Je]
  refine wL (by rw[yh];unfold yd;rw[Je,Je]) λp b=>?_;have a:p<N.ends.length:=by unfold yd at b;rwa [Je]at b
  rw[yb (by rw[n];exact a)]
  have g:∀ c:List Int,(N.ends.map λe=>c.getD e 0).getD p 0=c.getD N.ends[p] 0:=λc=>by
   rw[Ja (l:=List.map _ _),JG,J7 a];rfl
  unfold yd;rw[g,g,i];have lt':N.ends[p]<(yM N.forks cs).1.length:=by rw[wJ,cl];exact jZ ok (JR a)
  rw[yb lt']
  congr 1
  show (if (yB back N.forks (xB N cs) lane N.forks.length).2=N.ends[p] then _ else _)=_
  have iff:(yB back N.forks (xB N cs) lane N.forks.length).2=N.ends[p]↔N.ends.idxOf (yB back N.forks (xB N cs) lane N.forks.length).2=p:=by
   constructor
   ·intro e;rw[e];exact k.idxOf_getElem p a
   ·intro e
    have:=List.getElem_idxOf (Ws ne);subst e;exact this.symm
  by_cases e:(yB back N.forks (xB N cs) lane N.forks.length).2=N.ends[p]
  ·rw[Jj e,Jj (iff.mp e)]
  ·rw[Jg e,Jg λz=>e (iff.mpr z)]
end Bn
namespace L2
open PySem PySem.Spec PyProof.Rows Own
theorem mL (n:Nat):Builtin.Slice.sliceAdjust none none (-1) (n:Int)=((n:Int)-1,-1):=by
 unfold Builtin.Slice.sliceAdjust;rfl
theorem o9 (n:Nat):Builtin.Slice.slicePlaces ((n:Int)-1) (-1) (-1)=n:=by
 unfold Builtin.Slice.slicePlaces;by_cases z:n=0
 ·subst z;rfl
 ·simp
  lia
theorem iN (vs:List Jo):((List.range vs.length).filterMap λ(k:Nat)=>(vs.toArray)[(((vs.length:Int)-1)+(k:Int)*(-1)).toNat]?).toArray=vs.reverse.toArray:=by
 congr 1
 have e:∀ k,k<vs.length->(vs.toArray)[(((vs.length:Int)-1)+(k:Int)*(-1)).toNat]?=vs.reverse[k]?:=λk b=>by
  rw[List.getElem?_reverse b,List.getElem?_toArray]
  congr 1
  lia
 have all:∀ (ws:List Jo) (f:Nat->Option Jo),(∀ k,k<ws.length->f k=ws[k]?)->(List.range ws.length).filterMap f=ws:=by
  intro ws
  induction ws with
  | nil=>intro f _;rfl
  | cons a ws ih =>
   intro f c;rw[JW,List.range_succ_eq_map,Wn,c 0 (by simp),Zn];show a::_=_
   congr 1
   exact ih (f∘Nat.succ) λk b=>by show f (k+1)=_;rw[c (k+1) (by simpa using b)];rfl
 have:=all vs.reverse (λk=>(vs.toArray)[(((vs.length:Int)-1)+(k:Int)*(-1)).toNat]?) (λk b=>e k (by simpa using b))
 rwa [Zh]at this
section
variable {prog:Yo}{w:YI}{A:YO}{E:Jo->JO->Prop}{s:JO}
theorem rY (n:Nat){sl:JI}{t:Tok}{Q:Int × Int × Nat->JO->Prop}(c:s.heap.IsSliceOf sl .none .none (.int (-1) t))(h:Q ((n:Int)-1,-1,n) s):wpAny (model prog w) A (Builtin.Slice.sliceApplied (.ref sl) (pure (n:Int))) Q E s:=by
 obtain⟨os,a,d,b⟩:=id c;unfold Builtin.Slice.sliceApplied Builtin.Slice.sliceFields;refine J0 (J0 (Zk a b (x:=.none) rfl (J0 (Zk a b (x:=.none) rfl (J0 (Zk a b (x:=.int (-1) t) rfl (J9 ?_)))))));refine J0 (slicePart_int ?_);show wpAny _ _ (if ((-1:Int) == 0)=true then _ else _) _ _ s;rw[Jg (by decide)];refine J0 (slicePart_none (J0 (slicePart_none (J0 (J9 ?_)))));show wpAny _ _ (match Builtin.Slice.sliceAdjust none none (-1) (n:Int) with|(lo,hi)=>pure (lo,(-1:Int),Builtin.Slice.slicePlaces lo hi (-1))) _ _ s;rw[mL n];show wpAny _ _ (pure ((n:Int)-1,(-1:Int),Builtin.Slice.slicePlaces ((n:Int)-1) (-1) (-1))) _ _ s;rw[o9 n];exact J9 h
theorem rV {t sl:JI}{vs:List Jo}{tk:Tok}{Q:Jo->JO->Prop}(b:IsTup s.heap t vs.toArray) (g:vs.length<=sizeLine) (f:s.heap.IsSliceOf sl .none .none (.int (-1) tk)) (h:Q (.ref s.heap.objs.size) { s with heap:=s.heap.push { cls:=.type "tuple",data:=.seq vs.reverse.toArray } }) :
  wpAny (model prog w) A (getItem (.ref t) (.ref sl)) Q E s:=by
 obtain⟨os,c,d,i⟩:=id f;have e:s.TypeIs (.ref sl) "slice":=⟨os,c,d⟩;unfold getItem
 try with_reducible refine Yf ?_
 first|refine J0 (J9 ?_)|skip
 refine J0 (wpAny_sequenceKey b.typeIs (by decide) (J0 (wpAny_callSpecial?_slot (name:=Str.ofString "__getitem__") b.typeIs YQ (Y5 YQ b.typeIs PyProof.Rows.entry_tuple_getitem ?_ (PyProof.Rows.args_tuple_getitem _ _)))));show wpAny _ _ (Builtin.Tuple.tupleItemsOf (.ref t) >>= _) _ _ s;refine J0 (tupleItemsOf_ b (J0 (Za e ?_)));rw[Jj (by decide)];have sz:vs.toArray.size=vs.length:=Jh ..;rw[sz];refine J0 (rY vs.length f ?_);show wpAny _ _ (if (((vs.length:Int)-1) == 0 && (-1:Int) == 1 && vs.length == vs.toArray.size)=true then _ else _) _ _ s;rw[Jg (by rw[show ((-1:Int) == 1)=false from rfl,Bool.and_false,Bool.false_and];exact Jm)];rw[iN];have a:vs.reverse.toArray.size<=sizeLine:=by rw[Jh,Zh];exact g
 first
  | exact J0 (m:=Builtin.Tuple.tupleExact _) (JJ (J9 ⟨_,rfl,J9 h⟩) a)
  | exact J0 (m:=Builtin.Tuple.tupleExact _) (JJ (J0 (J9 (J9 ⟨_,rfl,J9 h⟩))) a)
  | exact J0 (J0 (m:=Builtin.Tuple.tupleExact _) (JJ (J9 (J9 ⟨_,rfl,J9 h⟩)) a))
  | exact J0 (J0 (m:=Builtin.Tuple.tupleExact _) (JJ (J9 ⟨_,rfl,J9 h⟩) a))
end
section
variable {X:Cx}
def zaA (K:Jl)(d:TE)(ts:TO):TE:=λσ H Q=>d σ H λx e=>ts σ e λo b=>o=some (-1)/\∃ a c,x=.ref a/\SqT K b a c/\∀ p,b p=none->Q (.ref p) (upd b p (.tup c.reverse))
theorem dZ {e st:Expr}{i:TE}{ts:TO}{j pos:Pos}(B:PE X e i)(z:PO X (some st) ts):PE X (.Subscript e (.Slice none none (some st) j) pos) (zaA X.K i ts):=by
 intro pins s σ H Q I h;refine Subscript_ (thn (B pins s σ H _ I h) λv n ⟨x,F,D,p,w⟩=>wpAny_Slice ?_);rw[evalPart_none];refine J9 (J9 (thn (z pins n σ F _ D w) λf c ⟨o,E,C,po,u⟩=>?_));obtain⟨rfl,a,m,rfl,A,k⟩:=u;cases p;obtain⟨t,rfl⟩:∃ t,f=.int (-1) t:=by cases po;exact⟨_,rfl⟩
 have d:Inv X pins σ E { c with heap:=c.heap.push { cls:=.type "slice",data:=.fields #[.none,.none,.int (-1) t] } }:=C.kept (t':=c.toks) λb ob q=>J8 _ q;obtain⟨g,r,l,y⟩:=d.tuple A;have G:=r.length;show wpAny (model X.prog X.w) X.A (subscriptTail e (.Slice none none (some st) j) (.ref a) (.ref c.heap.objs.size)) (EP X pins σ Q) X.xe { c with heap:=c.heap.push { cls:=.type "slice",data:=.fields #[.none,.none,.int (-1) t] } };refine tail_any (ops:=[.ref a,.ref c.heap.objs.size]) l.typeIs PyProof.Rows.slot_tuple_getitem.lookup (rV l (by simp_all) (Heap.IsSliceOf.new ..) ?_) (by with_unfolding_all rfl);exact⟨.ref _,_,d.laid (t':=c.toks) (o:=.tup m.reverse) (λb ob q=>J8 _ q) (Jf _) ⟨by rw[Zh];exact y,g.reverse,r.reverse,TupX.new _ _⟩,rfl,k _ (d.hok.fresh (Jf _))⟩
structure MgA (mg:Str->Option Jo):Prop where
 any:mg "any" = none
theorem gr (bs:List Bool):(List.range bs.length).any (λi=>bs.getD i true)=bs.any id:=by
 rw[Ya];simp only[List.any_eq_true];constructor
 ·rintro⟨j,c,h⟩
  have a:=Y2.mp c;rw[Ja,J7 a]at h;exact⟨_,JR a,h⟩
 ·rintro⟨x,b,h⟩
  obtain⟨j,a,rfl⟩:=Wp b;exact⟨j,Y2.mpr a,by rw[Ja,J7 a];exact h⟩
theorem gn (y:X.calm=true)(b:Bool):CallR X (.builtin "any") (λvs H Q=>∃ a bs,vs=[.ref a]/\SqB b X.K H a (List.map V.bl bs)/\Q (.bl (bs.any id)) H):=by
 rintro pins s σ H vs C Q I k ⟨a,bs,rfl,m,q⟩;obtain⟨u,rfl,g⟩:=k.one;cases g;obtain⟨d,r,p⟩:=I.sq m;obtain⟨o,n,B,_⟩:=p.ob;have t:d.length=bs.length:=by rw[<- r.length,Je]
 refine call_any_walk (x6 p ⟨s.heap.objs.size,[s.heap.objs.size,a],[s.heap.objs.size],_,_,_,λi=>bs.getD i true,rfl,kr (show X.A.in1.handled=none from I.ok.hd y) b _ a (JD (Jp B)) d.toArray,⟨?_,p.mv λo e=>J8 _ e⟩,λi v E G J l A=>?_,λF j w=>?_⟩)
 ·cases b<;>exact⟨_,Js _ rfl,rfl,rfl⟩
 ·have f:d[i]?=some v:=by simpa using l
  have hi:=(Jb.mp f).1;obtain⟨D,h,g⟩:=r.get (i:=i) (x:=V.bl (bs.getD i true)) (by rw[JG,Ja,J7 (show i<bs.length by simp_all)];rfl);rw[f]at h;obtain rfl:=Jq h;cases g;exact YC A
 ·refine⟨.bl (bs.any id),H,I.kept (t':=j) λc o e=>w c o (λz=>JD (Jp e) (Jd.mp z)) (J8 _ e),?_,q⟩
  show Value.bool _=Value.bool _;rw[Jh,t,gr]
end
theorem cV {K:Jl}{b:Bool}{a:JI}{xs:List V}{g:TG}{tt:TT}{h:TE}{l:JI}{σ:St}{H:Hp}{Q:VK}(d:Nat->List V->St->Hp->Prop)(s:d 0 [] σ H)(q:∀ i acc σ H,d i acc σ H->H l=some (.lst acc)/\SqB b K H a xs)(o:∀ (i:Nat) acc σ H x T,xs[i]?=some x->H T=none->d i acc σ H->g (.ref T) σ (upd H T (.tup [.int i,x])) λc w=>tt c w λb k=>if b=true then h c k λz j=>j l=some (.lst acc)/\acc.length<sizeLine/\Nx xs.length i (d (i+1) (acc++[z]) c (upd j l (.lst (acc++[z])))) else Nx xs.length i (d (i+1) acc c k))(hd:∀ acc σ H,d xs.length acc σ H->Q (.ref l) H):∃ W:Nat->Nat->List V->St->Hp->Prop,(∃ m,W 0 m [] σ H)/\LCW (Ite K b a) g tt h l Q W:=by
 refine⟨λi m acc σ H=>m=xs.length-i/\i<=xs.length/\d i acc σ H,⟨_,rfl,JN _,s⟩,?_⟩;rintro i m acc σ H ⟨rfl,hi,p⟩;obtain⟨n,e⟩:=q i acc σ H p;refine⟨n,?_⟩;by_cases f:i<xs.length
 ·refine .inr ⟨⟨xs,_,e,J7 f⟩,λv A ⟨y,t,T,r,u,e2⟩=>?_⟩
  subst u e2;exact o i acc σ H y T (t xs e) r p
 ·obtain rfl:i=xs.length:=by lia
  exact .inl ⟨⟨xs,e,rfl⟩,hd acc σ H p⟩
end L2
namespace Bn
open PySem L2 Own
def big (x y:Int):Int:=if y > x then y else x
def ah (st:List Int × List Int)(f:Nat × Nat):List Int × List Int :=
 ((st.1.set f.1 (1+big (st.1.getD f.1 0) (st.1.getD f.2 0))).set f.2 (1+big (st.1.getD f.1 0) (st.1.getD f.2 0)),st.2++[1+big (st.1.getD f.1 0) (st.1.getD f.2 0)])
def lay (n:Nat)(fs:List (Nat × Nat)):List Int × List Int:=fs.foldl ah (List.replicate n 0,[])
def zbS (g f:Nat × Nat):Bool:=decide (g.1=f.1\/g.1=f.2) || decide (g.2=f.1\/g.2=f.2)
def zcM (fs:List (Nat × Nat))(a:List Int)(f:Nat × Nat)(i:Nat):List Int:=((List.range i).filter λj=>zbS (fs.getD j (0,0)) f).map λj=>a.getD j 0
def zcF (N:Nt):List Int:=(lay N.lanes N.forks).2
abbrev Fk:=Nat × Nat
def run {σ α:Type}(step:σ->Fk->σ × α):σ->List Fk->σ × List (α × Fk)
 | s,[]=>(s,[])
 | s,f::fs=>((run step (step s f).1 fs).1,((step s f).2,f)::(run step (step s f).1 fs).2)
def rnk (x:Int × Fk):Int:=x.1*1024+x.2.1*32+x.2.2
def ins (x:Int × Fk):List (Int × Fk)->List (Int × Fk)
 | []=>[x]
 | y::l=>if rnk x<=rnk y then x::y::l else y::ins x l
def nmq (p:List Nat)(i:Nat):Nat:=p.getD i 0
def zao (p:List Nat)(f:Fk):Fk:=(nmq p f.1,nmq p f.2)
def eR (N:Nt)(p:List Nat):Nt:=⟨N.lanes,N.forks.map (zao p),N.ends.map (nmq p)⟩
def zac (a b:Nt):Nt:=⟨a.lanes,a.forks++b.forks.map (zao a.ends),b.ends.map (nmq a.ends)⟩
def shF (n:Nat)(f:Fk):Fk:=(n+f.1,n+f.2)
def zab (a b:Nt):Nt:=⟨a.lanes+b.lanes,a.forks++b.forks.map (shF a.lanes),a.ends++b.ends.map (a.lanes + ·)⟩
theorem zX {H:Hp}{a:JI}(_:H a=none)(o:HO):L2.upd H a o a=some o:=zG
theorem Prs.app {H:Hp}:∀ {ps a:List V}{fs b:List Fk},Prs H ps fs->Prs H a b->Prs H (ps++a) (fs++b)
 | [],_,[],_,_,h=>h
 | _::_,_,_::_,_,⟨x,r⟩,h=>⟨x,Prs.app r h⟩
end Bn
namespace L2
open PySem PySem.Spec PyProof.Rows Own
section
variable {prog:Yo}{w:YI}{A:YO}{E:Jo->JO->Prop}{s:JO}{d:JI}
theorem gH {Q:Int->JO->Prop}(q:Q (reduceHash 0xFCA86420) { s with toks:=s.toks+1 }):wpAny (model prog w) A (pyHash .none) Q E s:=by
 show wpAny (model prog w) A (pyHashByItsType .none) Q E s;refine W.pyHash_slot (T:="NoneType") (id:="NoneType.__hash__") (B:=Builtin.«NoneType.__hash__») rfl F.slot_NoneType_hash F.entry_NoneType_hash (F.args_NoneType_hash_1 _) (by decide) (.inl rfl) ?_;unfold Builtin.«NoneType.__hash__»;refine J0 ?_;show wpAny _ _ (pure _) _ _ _;unfold retInt;exact J9 (J0 (wpAny_mkInt (J9 ⟨_,_,rfl,q⟩)))
theorem uW {a:JI}{k:KN}{Q:Bool->JO->Prop}(d:A.units<cLine)(c:NIs prog w s.heap k a)(q:Q false s):wpAny (model prog w) A (eqBool (.ref a) .none) Q E s:=by
 obtain⟨as,b⟩:=c.reads;exact PySem.SeqAt.eqBoolOverData prog w A E s _ _ _ .none as [] Q b .none (kN k).1 rfl (by show A.units+min _ 0<cLine;simp_all) q
theorem lS {n:Nat}{Q:Bool->JO->Prop}(q:Q true s):wpAny (model prog w) A (eqIsQuiet n .none) Q E s:=by
 cases n<;>exact J9 q
theorem rh {α β:Type}{f:α->β->Sem (ForInStep β)}{b:β}:∀ (l:List α) {Q:β->JO->Prop},(∀ i∈l,∀ R:ForInStep β->JO->Prop,R (.yield b) s->wpAny (model prog w) A (f i b) R E s)->Q b s->wpAny (model prog w) A (forIn l b f) Q E s
 | [],Q,_,q=>by rw[Zx];exact J9 q
 | i::l,Q,h,q=>by
  rw[Z2];exact J0 (h i JM _ (rh l (λj a=>h j (JH _ a)) q))
theorem iB {stored:List Jo}{Q:Bool->JO->Prop}(h:∀ v∈stored,∃ a k,v=.ref a/\NIs prog w s.heap k a)(q:Q false s):wpAny (model prog w) A (tableMayTell .none stored) Q E s:=by
 unfold tableMayTell;by_cases c:stored.isEmpty=true
 ·rw[Jj c];exact J9 q
 rw[Jg c];refine J0 (lS (J0 (rh stored (λv b R r=>?_) (J9 q))));obtain⟨a,k,rfl,d⟩:=h v b;exact J0 (sM d (J9 r))
theorem gN {o:Obj}{es:Array DictEntry}{g:Nat}{h:Int}{Q:Option Nat->JO->Prop}(t:A.units<cLine)(f:s.heap.get? d=some o)(hd:o.data=.dict es g)(C:∀ e∈es.toList,∃ a k,e.key=.ref a/\NIs prog w s.heap k a)(q:Q none s) :
  wpAny (model prog w) A (dictFind d .none h) Q E s:=by
 have key:∀ (i:Nat) (e:DictEntry),es[i]?=some e->∃ a k,e.key=.ref a/\NIs prog w s.heap k a:=λi e b=>C e (by
  obtain⟨l,z⟩:=Yp.mp b
  rw[<- z];exact Array.getElem_mem_toList l)
 unfold dictFind;refine Yf (J0 (Yd f hd ?_));by_cases c:(Value.none::List.filterMap (λi=>Option.map (λx=>x.key) es[i]?) (placesWithHash es.size (λi=>Option.map (λx=>x.hash) es[i]?) h)).all carriedByValue=true
 ·refine(JS (λm=>wpAny (model prog w) A m Q E s) (Jj c)).mpr ?_
  unfold dictWalkPlain;refine J0 (rh _ (λi hi R r=>?_) (J9 q))
  cases b:es[i]? with
  | none=>exact J9 r
  | some e =>
   obtain⟨a,k,n,j⟩:=key i e b;by_cases ch:(e.hash == h)=true
   ·refine(JS (λm=>wpAny (model prog w) A m R E s) (Jj ch)).mpr (J0 (Yh f hd (J0 ?_)))
    rw[n];refine uW t j (J0 (Yh f hd ?_));dsimp only;rw[Jg (c:=(g != g)=true) (by simp),Jg Jm];exact J0 (Z1 (J9 r))
   ·exact(JS (λm=>wpAny (model prog w) A m R E s) (Jg ch)).mpr (J9 r)
 ·refine(JS (λm=>wpAny (model prog w) A m Q E s) (Jg c)).mpr ?_
  have u:∀ v∈List.filterMap (λi=>Option.map (λx=>x.key) es[i]?) (placesWithHash es.size (λi=>Option.map (λx=>x.hash) es[i]?) h),∃ a k,v=.ref a/\NIs prog w s.heap k a:=λv B=>by
   obtain⟨i,-,e,b,rfl⟩:∃ i:Nat,True/\∃ e:DictEntry,es[i]?=some e/\e.key=v:=by
    obtain⟨i,p⟩:=List.mem_filterMap.mp B;exact⟨i,True.intro,Y0.mp p.2⟩
   exact key i e b
  by_cases y:(List.filterMap (λi=>Option.map (λx=>x.key) es[i]?) (placesWithHash es.size (λi=>Option.map (λx=>x.hash) es[i]?) h) == [Value.none])=true
  ·refine(JS (λm=>wpAny (model prog w) A m Q E s) (Jj y)).mpr (J0 (J9 ?_))
   dsimp only;rw[Jg (by simp)];refine J0 (rh _ (λi hi R r=>?_) (J9 q))
   cases b:es[i]? with
   | none=>exact J9 r
   | some e =>
    obtain⟨a,k,n,j⟩:=key i e b;by_cases ch:(e.hash == h)=true
    ·refine(JS (λm=>wpAny (model prog w) A m R E s) (Jj ch)).mpr (J0 (Yh f hd (J0 ?_)))
     rw[n];refine uW t j (J0 (Yh f hd ?_));rw[Jg (c:=(g != g)=true) (by simp),Jg Jm];refine J0 (Z1 ?_);rw[Jg (by simp)];exact J9 r
    ·exact(JS (λm=>wpAny (model prog w) A m R E s) (Jg ch)).mpr (J9 r)
  ·refine(JS (λm=>wpAny (model prog w) A m Q E s) (Jg y)).mpr (J0 (iB u ?_))
   dsimp only;rw[Jg (by simp)];refine J0 (rh _ (λi hi R r=>?_) (J9 q))
   cases b:es[i]? with
   | none=>exact J9 r
   | some e =>
    obtain⟨a,k,n,j⟩:=key i e b;by_cases ch:(e.hash == h)=true
    ·refine(JS (λm=>wpAny (model prog w) A m R E s) (Jj ch)).mpr (J0 (Yh f hd (J0 ?_)))
     rw[n];refine uW t j (J0 (Yh f hd ?_));rw[Jg (c:=(g != g)=true) (by simp),Jg Jm];refine J0 (Z1 ?_);rw[Jg (by simp)];exact J9 r
    ·exact(JS (λm=>wpAny (model prog w) A m R E s) (Jg ch)).mpr (J9 r)
theorem cw {o:Obj}{es:Array DictEntry}{g:Nat}{Q:Option Jo->JO->Prop}(b:A.units<cLine)(c:s.heap.get? d=some o)(hd:o.data=.dict es g)(f:∀ e∈es.toList,∃ a k,e.key=.ref a/\NIs prog w s.heap k a)(q:Q none { s with toks:=s.toks+1 }) :
  wpAny (model prog w) A (dictGet d .none) Q E s:=by
 unfold dictGet;exact Yf (J0 (gH (J0 (gN (s:={ s with toks:=s.toks+1 }) b c hd f (J9 q)))))
theorem rW {o:Obj}{es:Array DictEntry}{i:Nat}{Q:Jo->JO->Prop}(c:A.units<cLine)(g:s.heap.get? d=some o)(j:o.ExactDict)(hd:o.data=.dict es i)(f:(d == sysModules)=false)(h:∀ e∈es.toList,∃ a k,e.key=.ref a/\NIs prog w s.heap k a)(q:Q (.bool false) { s with toks:=s.toks+1 }) :
  wpAny (model prog w) A (Builtin.«dict.__contains__» ⟨[.ref d,.none],[]⟩) (λfin b=>∃ r,fin=.done (.ret r)/\Q r b) E s:=by
 unfold Builtin.«dict.__contains__»;refine J0 ?_;show wpAny _ _ (pure (d,Value.none)) _ _ _;refine J9 (J0 (cw c g hd h ?_));show wpAny _ _ (Builtin.Dict.pendingKey? d .none >>= _) _ _ _;exact J0 (wpAny_pendingKey_other f (J9 ⟨_,rfl,q⟩))
section
variable {X:Cx}{pins:List (JI × Obj)}{σ:St}{H:Hp}{a:JI}{xs:KVN}
theorem cG {Q:Jo->JO->Prop}(r:A.units+3<cLine)(I:Inv X pins σ H s)(e:Rd H a (DN X.prog X.w a xs))(ks:KsIn H xs)(h:∀ b,Inv X pins σ H b->Q (.bool false) b) :
  wpAny (model X.prog X.w) A (compareOp .In .none (.ref a)) Q E s:=by
 obtain⟨z,j,q,rel,o,p,u,f,d,n,m,l,t⟩:=sw I.hok e ks
 have i:∀ e∈p.toList,∃ a k,e.key=.ref a/\NIs X.prog X.w s.heap k a:=λe c=>by
  rw[m]at c;obtain⟨x,g,rfl⟩:=JE.mp c;exact⟨x.2.1,x.1,rfl,l x g⟩
 have ty:s.TypeIs (.ref a) "dict":=⟨o,f,d.1⟩;show wpAny _ _ (contains (.ref a) .none >>= _) _ _ _
 exact J0 (wpAny_contains_slot ty slot_dict_contains (Y5 slot_dict_contains ty entry_dict_contains
  (rW (by rw[Around.in1_units];lia) f d n j i (YC (J9 (h _ (I.tok _))))) (args_dict_contains _ _)))
end
def zcz (P:Yo)(w:YI):V->V->Hp->VK->Prop:=λx y H Q=>∃ a c,y=.ref a/\NAt P w H a c/\((∃ b k,x=.ref b/\NKey H k b/\Q (.bl (vG c k).isSome) H)\/(x=.non/\Q (.bl false) H))
theorem zaV {X:Cx}(e:X.A.units+3<cLine):OpR X (compareOp .In) (zcz X.prog X.w):=by
 intro pins s σ H x y v u Q I d h ⟨a,f,j,n,q⟩;subst j;cases (show u=Value.ref a from h);rcases q with ⟨b,k,ex,i,q⟩|⟨ex,q⟩
 ·subst ex
  cases (show v=Value.ref b from d);exact zcD e I n.1 n.2 i λg c=>⟨.bl (vG f k).isSome,H,c,rfl,q⟩
 ·subst ex
  cases (show v=Value.none from d);exact cG e I n.1 n.2 λg c=>⟨.bl false,H,c,rfl,q⟩
end
section
variable {prog:Yo}{w:YI}{A:YO}{E:Jo->JO->Prop}{s:JO}{d b:JI}{K:Type}[DecidableEq K]{knd:HeapKind prog w K}{xs:List (K × JI × Jo)}{k:K}{v:Jo}
theorem sI {Q:Unit->JO->Prop}(H:knd.room A)(t:knd.is s.heap k b)(hm:s.heap.DictOfH knd d xs)(F:xs.length<=sizeLine)(q:∀ h',h'.DictOfH knd d (storedH xs k b v)->Heap.SameBut d s.heap h'->Q () { s with heap:=h' }):wpAny (model prog w) A (dictSetHashed d (.ref b) (knd.hash k) v) Q E s:=by
 obtain⟨o,I,J,g,r,f,n,l,h⟩:=hm;unfold dictSetHashed;refine Yf (J0 (wpAny_dictFind_heap H t g f n l h (λno=>?_) (λj p m=>?_)))
 ·refine J0 (Z1 (wpAny_updateDictKeys g f (q _ ?_ (YL _ _ _)) (by rw[ZT n];exact F) (by simp)))
  have sm:=YL s.heap d (Obj.mapDictKeys λx=>x.push ⟨knd.hash k,.ref b,v⟩);refine⟨_,_,_,YS _ g (Obj.isFreed_of_dict (Obj.data_mapDictKeys f _)),r.mapDictKeys _,Obj.data_mapDictKeys f _,?_,?_,?_⟩
  ·rw[storedH_new (atKey_none_of_get no),JQ,Zu,n];rfl
  ·rw[storedH_new (atKey_none_of_get no)]
   intro x i;rcases Jv.mp i with z|z
   ·exact knd.keeps (l x z) g f sm
   ·rw[Jd.mp z];exact knd.keeps t g f sm
  ·rw[storedH_new (atKey_none_of_get no),JQ,List.nodup_append]
   refine⟨h,by simp,λa B c u=>?_⟩;rw[List.map_singleton,Jd]at u;rintro rfl;rw[u]at B;exact not_mem_keys_of_get no B
 ·refine J0 (Z1 (J0 (wpAny_updateDict g f (wpAny_point (q _ ?_ (YL _ _ _))) (by simp))))
  have sm:=YL s.heap d (Obj.mapDict λx=>x.modify j λe=>{ e with val:=v });refine⟨_,_,_,YS _ g (Obj.isFreed_of_dict (Obj.data_mapDict f _)),r.mapDict _,Obj.data_mapDict f _,?_,?_,?_⟩
  ·rw[storedH_old (atKey_of_get h m),Wr,n]
   exact modify_map_putAt _ _ k v (λa C=>rfl) h m
  ·have D:=storedH_old (atKey_of_get h m) b v
   rw[D];intro x i;obtain⟨y,G,rfl⟩:=JE.mp i;have:=knd.keeps (l y G) g f sm;unfold putAt;split
   ·exact this
   ·exact this
  ·rw[storedH_old (atKey_of_get h m),keys_map_putAt];exact h
def mergeN (xs ys:List (K × JI × Jo)):List (K × JI × Jo):=ys.foldl (λacc y=>storedH acc y.1 y.2.1 y.2.2) xs
theorem iC (acc:List (K × JI × Jo))(y:K × JI × Jo):(storedH acc y.1 y.2.1 y.2.2).length<=acc.length+1:=by
 unfold storedH;split
 ·rw[Je];simp_all
 ·rw[Jc];exact Jf _
theorem vV {o:JI}{ob:Obj}{ys:List (K × JI × Jo)}{Q:PUnit->JO->Prop}{f:Nat->PUnit->Sem (ForInStep PUnit)}(ne:d≠o)(step:∀ (i:Nat) (a:i<ys.length) (s:JO) (acc:List (K × JI × Jo)) (R:ForInStep PUnit->JO->Prop),s.heap.get? o=some ob->s.heap.DictOfH knd d acc->knd.is s.heap ys[i].1 ys[i].2.1->acc.length<=sizeLine ->
   (∀ h',h'.DictOfH knd d (storedH acc ys[i].1 ys[i].2.1 ys[i].2.2)->Heap.SameBut d s.heap h'->R (.yield PUnit.unit) { s with heap:=h' })->wpAny (model prog w) A (f i PUnit.unit) R E s) :
  ∀ (m i:Nat) (s:JO) (acc:List (K × JI × Jo)),i+m=ys.length->s.heap.get? o=some ob->s.heap.DictOfH knd d acc->(∀ x∈ys,knd.is s.heap x.1 x.2.1)->acc.length+m<=sizeLine ->
  (∀ h',h'.DictOfH knd d (mergeN acc (ys.drop i))->Heap.SameBut d s.heap h'->Q PUnit.unit { s with heap:=h' })->wpAny (model prog w) A (forIn (List.range' i m) PUnit.unit f) Q E s
 | 0,i,s,acc,hi,e,b,c,l,q=>by
  rw[List.range'_zero,Zx];refine J9 (q s.heap ?_ (Heap.SameBut.refl _ _));rw[List.drop_eq_nil_of_le (by simp_all)]
  exact b
 | m+1,i,s,acc,hi,e,b,c,l,q=>by
  have a:i<ys.length:=by lia
  rw[show List.range' i (m+1)=i::List.range' (i+1) m from rfl,Z2];refine J0 (step i a s acc _ e b (c _ (JR a)) (by lia) λh' j sm=>?_);obtain⟨y,u,v,t,F,r,D,C,B⟩:=b;have k:h'.get? o=some ob:=by rw[sm.2 o (λz=>ne z.symm)];exact e
  refine vV ne step m (i+1) { s with heap:=h' } _ (by lia) k j (λx n=>knd.keeps (c x n) t r sm) ?_ λp h g=>q p ?_ (sm.trans g)
  ·have:=iC acc ys[i]
   lia
  ·rw[YR a]
   exact h
end
section
variable {prog:Yo}{w:YI}{A:YO}{E:Jo->JO->Prop}{s:JO}{d:JI}{K:Type}[DecidableEq K]{knd:HeapKind prog w K}{xs ys:List (K × JI × Jo)}
theorem dg {o:JI}{ob:Obj}{es:Array DictEntry}{j:Nat}{nm:String}{Q:Array DictEntry->JO->Prop}(i:s.heap.get? o=some ob)(h:ob.data=.dict es j)(d:es.toList=ys.map (entryOfKey knd))(k:ys.length<=1)(g:∀ x∈ys,∀ R:Bool->JO->Prop,R false s->wpAny (model prog w) A (Builtin.Dict.quietEq (.ref x.2.1)) R E s)(q:Q es s):wpAny (model prog w) A (Builtin.Dict.entriesForEmpty nm o) Q E s:=by
 show wpAny _ _ (dictEntries o >>= _) _ _ _;refine J0 (Yd i h (J0 ?_));rw[<- Array.forIn_toList];refine rh _ (λe b R r=>?_) (J9 q);rw[d]at b;obtain⟨x,f,rfl⟩:=JE.mp b;refine J0 (g x f _ ?_)
 have a:¬(Array.filter (λz=>z.hash == (entryOfKey knd x).hash) es).size > 1:=by
  have m:=Array.size_filter_le (p:=λz:DictEntry=>z.hash == (entryOfKey knd x).hash) (xs:=es);have l:=ZT d;lia
 rw[Jj (c:=(!false)=true) rfl,Jg a];exact J9 r
theorem zaX {o2:Obj}{es b:Array DictEntry}{c:Nat}{y:K × JI × Jo}(e:s.heap.get? d=some o2)(i:o2.ExactDict)(a:o2.data=.dict b c)(h:es.toList=[y].map (entryOfKey knd))(g:knd.is s.heap y.1 y.2.1) :
  (s.heap.update d (Obj.mapDictKeys λ_=>es)).DictOfH knd d [y]:=by
 have sm:=YL s.heap d (Obj.mapDictKeys λ_=>es);refine⟨_,_,_,YS _ e (Obj.isFreed_of_dict (Obj.data_mapDictKeys a _)),i.mapDictKeys _,Obj.data_mapDictKeys a _,h,?_,by simp⟩;intro x f;rw[Jd.mp f];exact knd.keeps g e a sm
theorem kE {o:JI}{nm:String}{Q:Unit->JO->Prop}(M:knd.room A)(ne:d≠o)(P:(o == sysModules)=false)(hm:s.heap.DictOfH knd d xs)(hn:s.heap.DictOfH knd o ys)(L:xs.length+ys.length<=sizeLine)(O:xs≠[]\/ys.length=1)(N:∀ x∈ys,∀ R:Bool->JO->Prop,R false s->wpAny (model prog w) A (Builtin.Dict.quietEq (.ref x.2.1)) R E s)(q:∀ h',h'.DictOfH knd d (mergeN xs ys)->Heap.SameBut d s.heap h'->Q () { s with heap:=h' }):wpAny (model prog w) A (Builtin.Dict.mergeDict nm d o) Q E s:=by
 obtain⟨ob,g,r,f,X,b,j,F,W⟩:=id hn;obtain⟨V,p,U,H,T,G,S,Z,Y⟩:=id hm
 have sz:([:g.size]:Std.Legacy.Range).size=ys.length:=by
  rw[<- ZT j];simp[Std.Legacy.Range.size]
 unfold Builtin.Dict.mergeDict;rw[Jg (by simpa using ne)];refine J0 ?_;unfold Builtin.Dict.showsAll;rw[Jg (by rw[P];simp)];refine J9 (J0 (Yd f b ?_));dsimp only;by_cases n:(!(decide (g.size<=8) && g.all λe=>(keyPart e.key).isSome))=true
 ·rw[Jj n]
  refine J0 (Yd H G ?_);by_cases em:p.isEmpty=true
  ·rw[Jj em]
   have e2:p.size=0:=by simpa using em
   have K:xs=[]:=by
    rw[ZT S]at e2;exact List.eq_nil_of_length_eq_zero e2
   have J:ys.length=1:=O.resolve_left λz=>z K;have t:g.size=1:=(ZT j).trans J;refine J0 (dg f b j (by simp_all) N ?_);rw[Jj (c:=(!g.isEmpty)=true) (by simp;intro z;rw[z]at t;cases t)];refine J0 (wpAny_updateDictKeys H G (J9 (q _ ?_ (YL _ _ _))) (by rw[e2];exact JN _) (by rw[t];lia));obtain⟨y,rfl⟩:=List.length_eq_one_iff.mp J;subst K;exact zaX H T G j (F y JM)
  ·rw[Jg em]
   refine J0 (Yh f b (J0 (Yd f b (J0 ?_))));refine(JS (λm=>wpAny (model prog w) A m _ E s) (Std.Legacy.Range.forIn_eq_forIn_range' _ _ _)).mpr ?_;rw[sz];refine vV (ob:=ob) (ys:=ys) ne (λi D s acc R l B C u v=>?_) ys.length 0 s xs (by lia) f hm F L λh' a sm=>J9 (q h' a sm);have I:g[i]?=some (entryOfKey knd ys[i]):=by rw[entry_at j,J7 D];rfl
   refine J0 (Yd l b ?_);rw[I];refine J0 (Yf (sI (k:=ys[i].1) M C B u λh' a sm=>?_));have h:h'.get? o=some ob:=by rw[sm.2 o (λz=>ne z.symm)];exact l
   refine J0 (Yh (s:={ s with heap:=h' }) h b ?_);rw[Jg (c:=(r != r)=true) (by simp)];exact J9 (v h' a sm)
 ·rw[Jg n]
  refine J0 (Yh f b (J0 (Yd f b (J0 ?_))));refine(JS (λm=>wpAny (model prog w) A m _ E s) (Std.Legacy.Range.forIn_eq_forIn_range' _ _ _)).mpr ?_;rw[sz];refine vV (ob:=ob) (ys:=ys) ne (λi D s acc R l B C u v=>?_) ys.length 0 s xs (by lia) f hm F L λh' a sm=>J9 (q h' a sm);have I:g[i]?=some (entryOfKey knd ys[i]):=by rw[entry_at j,J7 D];rfl
  refine J0 (Yd l b ?_);rw[I];refine J0 (Yf (sI (k:=ys[i].1) M C B u λh' a sm=>?_));have h:h'.get? o=some ob:=by rw[sm.2 o (λz=>ne z.symm)];exact l
  refine J0 (Yh (s:={ s with heap:=h' }) h b ?_);rw[Jg (c:=(r != r)=true) (by simp)];exact J9 (v h' a sm)
theorem eV {a:JI}{k:KN}{R:Bool->JO->Prop}(h:NIs prog w s.heap k a)(r:R false s):wpAny (model prog w) A (Builtin.Dict.quietEq (.ref a)) R E s:=by
 obtain⟨o,d,n,c,b,f,e⟩:=h;exact J0 (wpAny_specialOf (T:="tuple") ⟨o,c,b⟩ F.slot_tuple_eq.lookup (J9 r))
theorem oP {o:JI}{Q:Jo->JO->Prop}(f:knd.room A)(ne:d≠o)(i:(o == sysModules)=false)(hm:s.heap.DictOfH knd d xs)(hn:s.heap.DictOfH knd o ys)(e:xs.length+ys.length<=sizeLine)(h:xs≠[]\/ys.length=1)(g:∀ x∈ys,∀ R:Bool->JO->Prop,R false s->wpAny (model prog w) A (Builtin.Dict.quietEq (.ref x.2.1)) R E s)(q:∀ h',h'.DictOfH knd d (mergeN xs ys)->Heap.SameBut d s.heap h'->Q .none { s with heap:=h' }):wpAny (model prog w) A (Builtin.«dict.update» ⟨[.ref d,.ref o],[]⟩) (λfin c=>∃ r,fin=.done (.ret r)/\Q r c) E s:=by
 have ty:=hn.typeIs;unfold Builtin.«dict.update»;refine J0 ?_;show wpAny _ _ (Builtin.Dict.notOrdered "update" ⟨[Value.ref d,Value.ref o],[]⟩ >>= _) _ _ _;refine J0 (wpAny_notOrdered_dict (s:=s) hm.typeIs ?_);show wpAny _ _ (pure (d,[Value.ref o])) _ _ _;refine J9 ?_;show wpAny _ _ (Builtin.Dict.updateFrom "dict.update" d (.ref o) [] .none) _ _ _;show wpAny _ _ (typeOf (Value.ref o) >>= _) _ _ _;refine J0 (Za ty ?_);rw[Jg (by simp)];refine J0 ?_;unfold Builtin.Dict.merge Builtin.Dict.readDirectly;refine J0 (J0 (ZB (T:="dict") (b:=true) ty rfl ?_));rw[Jg (by simp)];refine J0 (wpAny_specialOf (T:="dict") ty F.slot_dict_iter.lookup (J9 ?_));rw[Jj (by decide)];refine J0 ?_;show wpAny _ _ (pure o) _ _ _;refine J9 (kE f ne i hm hn e h g λh' a sm=>?_);refine J0 ?_;show wpAny _ _ (pure ()) _ _ _;exact J9 (J9 ⟨_,rfl,q h' a sm⟩)
end
def wn (xs ys:KVN):KVN:=ys.foldl (λacc y=>wb acc y.1 y.2.1 y.2.2) xs
theorem mergeV_rel:∀ {ys:KVN}{us:List (KN × JI × Jo)}{xs:KVN}{vs:List (KN × JI × Jo)},Paired PrN ys us->Paired PrN xs vs->Paired PrN (wn xs ys) (mergeN vs us):=by
 intro ys us xs vs r
 induction r generalizing xs vs with
 | nil=>intro q;exact q
 | @cons p u a us h t ih =>
  intro q;have e:=putN_rel q p.1 p.2.1 h.2.2;rw[show storedH vs p.1 p.2.1 u.2.2=storedH vs u.1 u.2.1 u.2.2 by rw[h.1,h.2.1]]at e;exact ih e
theorem mergeV_len:∀ (ys xs:KVN),(wn xs ys).length<=xs.length+ys.length
 | [],xs=>Jf _
 | y::ys,xs=>by
  have b:=mergeV_len ys (wb xs y.1 y.2.1 y.2.2);have a:=oz xs y.1 y.2.1 y.2.2;show (wn (wb xs y.1 y.2.1 y.2.2) ys).length<=_;rw[JW];lia
section
variable {X:Cx}{pins:List (JI × Obj)}{σ:St}{H:Hp}{s:JO}{a b:JI}{xs ys:KVN}{A:YO}{E:Jo->JO->Prop}
theorem cF {Q:Jo->JO->Prop}(t:A.units+3<cLine)(ne:a≠b)(I:Inv X pins σ H s)(k:H a=some (DN X.prog X.w a xs))(n:KsIn H xs)(F:Rd H b (DN X.prog X.w b ys))(m:KsIn H ys)(j:xs.length+ys.length<=sizeLine)(w:xs≠[]\/ys.length=1)(h:∀ i,Inv X pins σ (upd H a (DN X.prog X.w a (wn xs ys))) i->Q .none i):wpAny (model X.prog X.w) A (call (.builtin "dict.update") [.ref a,.ref b]) Q E s:=by
 obtain⟨z,B,J,rel,l⟩:=sw I.hok (.inl k) n;obtain⟨G,g,K,c,d⟩:=sw I.hok F m;refine Y5 PySem.F.slot_dict_update l.typeIs PySem.F.entry_dict_update (oP (jJ t) ne g l d (by rw[<- YU rel,<- YU c];exact j) ?_ ?_ λD f u=>h _ ?_) (PySem.F.args_dict_update_2 _ _)
 ·rcases w with z|z
  ·refine .inl λe=>z ?_
   subst e;cases rel;rfl
  ·exact .inr (by rw[<- YU c];exact z)
 ·intro x p R r
  obtain⟨o,S,T,P,O,N,M,C,L⟩:=d;exact eV (C x p) r
 ·have y:∃ q,D.get? a=some q:=let ⟨q,_,_,v,_⟩:=f;⟨q,v⟩
  exact oC I (by rw[k];exact True.intro) u y (dn_new (JK (mergeV_len _ _) j) B (mergeV_rel c rel) f)
end
def zby (P:Yo)(w:YI)(g ty:TE):TE:=λσ H Q=>g σ H λx f=>∃ a,x=.ref a/\(∃ c,Rd f a (DN P w a c))/\ty σ f λy e=>∃ b c d,y=.ref b/\a≠b/\e a=some (DN P w a c)/\KsIn e c/\NAt P w e b d/\c.length+d.length<=sizeLine/\(c≠[]\/d.length=1)/\Q .non (upd e a (DN P w a (wn c d)))
theorem aC {X:Cx}{o e:Expr}{apos cpos:Pos}{c ty:TE}(w:X.A.units+3<cLine) (z:PE X o c) (B:PE X e ty) (m:M1 X o "update" apos e cpos):PE X (.Call (.Attribute o "update" apos) [e] [] cpos) (zby X.prog X.w c ty):=by
 intro pins s σ H Q I h;refine wpAny_Call_method m.base m.few m.line PySem.F.plainAttrs_dict PySem.F.slot_dict_update PySem.F.type_dict_update (thn (z pins s σ H _ I h) λu j ⟨x,G,f,l,a,ex,⟨J,d⟩,q⟩=>?_);subst ex;cases (show u=Value.ref a from l);obtain⟨i,g⟩:=kC f d;refine⟨i,g,?_⟩;rw[m.trees];refine ZZ rfl (Calls.evalArgs_plain (ZW (thn (B pins j σ G _ f q) λt N ⟨y,O,F,k,b,L,K,C,ne,D,r,n,v,A,p⟩=>Wz ?_)));subst C;cases (show t=Value.ref b from k);exact cF w ne F D r n.1 n.2 v A λM E=>⟨.non,_,E,rfl,p⟩
section
variable {prog:Yo}{w:YI}{A:YO}{E:Jo->JO->Prop}{s:JO}{d:JI}{o:Obj}{es:Array DictEntry}{ep:Nat}
theorem gD {Q:Jo->JO->Prop}(a:s.heap.get? d=some o) (e:o.ExactDict) (hd:o.data=.dict es ep) (f:(d == sysModules)=false)
  (q:Q (.ref s.heap.objs.size) { s with heap:=s.heap.push { cls:=.type "dict_keyiterator",data:=.fields #[.ref d,.int 0 0,.int es.size 0,.int ep 0] } }):wpAny (model prog w) A (pyIter (.ref d)) Q E s:=by
 have ty:s.TypeIs (.ref d) "dict":=⟨o,a,e.1⟩;have nx:=F.slot_dict_keyiterator_next.lookup
 have body:wpAny (model prog w) A.in1 (Builtin.«dict.__iter__» ⟨[.ref d],[]⟩) (λfin b=>∃ v,fin=.done (.ret v)/\∃ c r,b.TypeIs v c/\typeLookup (Value.type c) (Str.ofString "__next__")=pure (some r)/\Q v b) E s:=by
  unfold Builtin.«dict.__iter__» Builtin.Dict.dictSlotNone;refine J0 (J0 (wpAny_notOrdered_dict ty (J0 ?_)));show wpAny _ _ (pure ((.ref d,[]):Jo × List Jo)) _ _ _;refine J9 (J9 (J0 ?_));refine(show wpAny _ _ (pure d) _ _ _ from J9 (J0 ?_));unfold Builtin.Dict.showsAll;rw[Jg (by rw[f];simp)];refine J9 (J0 (Yd a hd (J0 (Yh a hd (J0 ?_)))));exact JJ (J9 ⟨_,rfl,_,_,⟨_,Js _ rfl,rfl⟩,nx,q⟩)
 exact wpAny_pyIter_slot ty F.slot_dict_iter (Y5 F.slot_dict_iter ty F.entry_dict_iter body (F.args_dict_iter_1 _))
end
section
variable {prog:Yo}{w:YI}{A:YO}{E:Jo->JO->Prop}{s:JO}{d it:JI}{o:Obj}{es:Array DictEntry}{ep i:Nat}{e:DictEntry}
theorem ir {Q:Jo->JO->Prop}(m:s.heap.get? d=some o)(hd:o.data=.dict es ep)(hi:s.heap.IsKeyIter it d i es.size ep)(p:es[i]?=some e)(q:∀ h',h'.IsKeyIter it d (i+1) es.size ep->(∀ b u,b≠it->s.heap.get? b=some u->h'.get? b=some u)->Q e.key { s with heap:=h' }) :
  wpAny (model prog w) A (Builtin.«dict_keyiterator.__next__» ⟨[.ref it],[]⟩) (λfin n=>∃ v,fin=.done (.ret v)/\Q v n) E s:=by
 obtain⟨k,f,h,g⟩:=id hi;have ty:s.TypeIs (.ref it) "dict_keyiterator":=⟨k,f,h⟩;unfold Builtin.«dict_keyiterator.__next__»;refine J0 ?_;show wpAny _ _ (pure (Value.ref it)) _ _ _;refine J9 (J0 (J0 (J0 (Wg ty (J9 (J0 (wpAny_fieldsOf f g ?_)))))));show wpAny _ _ (Builtin.Dict_items.addrOf (Value.ref d) >>= _) _ _ _;refine J0 (show wpAny _ _ (pure d) _ _ _ from J9 (J0 (Yd m hd ?_)));dsimp only;rw[Jg (c:=((es.size:Int) != (es.size:Int))=true) (by simp)];refine J0 (show wpAny _ _ (pure d) _ _ _ from J9 (J0 (Yh m hd ?_)));rw[Jg (c:=((ep:Int) != (ep:Int))=true) (by simp)];refine J9 ?_;dsimp only;rw[Jg (c:=(i:Int)<0) (by simp_all),Y3,p];refine J0 (J0 (Wg ty (J9 (J0 (wpAny_isOneOf_keyiter ty ?_)))));show wpAny _ _ (setField (.ref it) 1 (rawInt ((i:Int)+1)) >>= _) _ _ _;refine J0 (wpAny_setField f g (by show 1<4;lia) ?_);have l:(k.mapFields (·.setIfInBounds 1 (rawInt ((i:Int)+1)))).data=.fields #[.ref d,.int ((i+1:Nat):Int) 0,.int es.size 0,.int ep 0]:=Obj.data_mapFields g _;have sm:=YL s.heap it (Obj.mapFields (·.setIfInBounds 1 (rawInt ((i:Int)+1))));have a:=YS (Obj.mapFields (·.setIfInBounds 1 (rawInt ((i:Int)+1)))) f (Obj.isFreed_of_fields l);have j:(s.heap.update it (Obj.mapFields (·.setIfInBounds 1 (rawInt ((i:Int)+1))))).IsKeyIter it d (i+1) es.size ep:=⟨_,a,(Obj.cls_mapFields ..).trans h,l⟩;refine J0 (Yf (J0 (wpAny_isOneOf_keyiter ⟨_,a,(Obj.cls_mapFields ..).trans h⟩ ?_)));exact J9 (J9 ⟨_,rfl,q _ j λb u nb r=>(sm.2 b nb).trans r⟩)
theorem cD {Q:Option Jo->JO->Prop}(f:s.heap.get? d=some o)(hd:o.data=.dict es ep)(hi:s.heap.IsKeyIter it d i es.size ep)(g:es[i]?=some e)(q:∀ h',h'.IsKeyIter it d (i+1) es.size ep->(∀ b u,b≠it->s.heap.get? b=some u->h'.get? b=some u)->Q (some e.key) { s with heap:=h' }):wpAny (model prog w) A (pyNext (.ref it)) Q E s:=by
 obtain⟨c,j,h,l⟩:=id hi;have ty:s.TypeIs (.ref it) "dict_keyiterator":=⟨c,j,h⟩;unfold pyNext;exact J0 (ZP (wpAny_callSpecial?_slot ty Wm (Y5 Wm ty F.entry_dict_keyiterator_next (ir f hd hi g λh' a k=>J9 (q h' a k)) (F.args_dict_keyiterator_next_1 _))))
theorem i9 {Q:Fin->JO->Prop}(h:A.handled=none) (e:s.heap.get? d=some o) (hd:o.data=.dict es ep) (hi:s.heap.IsKeyIter it d i es.size ep) (j:es[i]?=none)
  (q:∀ h' ev,Heap.ExtBut it s.heap h'->({ s with heap:=h' }:JO).TypeIs ev "StopIteration"->E ev { s with heap:=h' }) :
  wpAny (model prog w) A (Builtin.«dict_keyiterator.__next__» ⟨[.ref it],[]⟩) Q E s:=by
 obtain⟨g,a,l,f⟩:=id hi;have ty:s.TypeIs (.ref it) "dict_keyiterator":=⟨g,a,l⟩;unfold Builtin.«dict_keyiterator.__next__»;refine J0 ?_;show wpAny _ _ (pure (Value.ref it)) _ _ _;refine J9 (J0 (J0 (J0 (Wg ty (J9 (J0 (wpAny_fieldsOf a f ?_)))))));show wpAny _ _ (Builtin.Dict_items.addrOf (Value.ref d) >>= _) _ _ _;refine J0 (show wpAny _ _ (pure d) _ _ _ from J9 (J0 (Yd e hd ?_)));dsimp only;rw[Jg (c:=((es.size:Int) != (es.size:Int))=true) (by simp)];refine J0 (show wpAny _ _ (pure d) _ _ _ from J9 (J0 (Yh e hd ?_)));rw[Jg (c:=((ep:Int) != (ep:Int))=true) (by simp)];refine J9 ?_;dsimp only;rw[Jg (c:=(i:Int)<0) (by lia),Y3,j];refine J0 (J0 (Wg ty (J9 (J0 ?_))));show wpAny _ _ (setField (.ref it) 0 .none) _ _ _;refine wpAny_setField a f (by show 0<4;lia) (J0 ?_);unfold newExc newTuple;refine J0 (JJ ?_ (by show 0<=sizeLine;exact JN _));unfold firstArgMember;refine J0 (J0 (J9 (J9 (JJ (wpAny_raiseNew_none h ?_) ?_))))
 rotate_left
 ·show (_++_:Array Jo).size<=sizeLine+2
  rw[Yu];show 6+0<=sizeLine+2;rw[JB];lia
 refine q _ _ (λb u nb k=>?_) ⟨_,Js _ rfl,rfl⟩;exact J8 _ (J8 _ (((YL s.heap it _).2 b nb).trans k))
theorem cE {Q:Option Jo->JO->Prop}(e:A.handled=none)(c:s.heap.get? d=some o)(hd:o.data=.dict es ep)(hi:s.heap.IsKeyIter it d i es.size ep)(f:es[i]?=none)(q:∀ h',Heap.ExtBut it s.heap h'->Q none { s with heap:=h' }):wpAny (model prog w) A (pyNext (.ref it)) Q E s:=by
 obtain⟨b,h,g,j⟩:=id hi;have ty:s.TypeIs (.ref it) "dict_keyiterator":=⟨b,h,g⟩;unfold pyNext;refine J0 (ZP (wpAny_callSpecial?_slot ty Wm (Y5 Wm ty F.entry_dict_keyiterator_next (i9 e c hd hi f λh' ev k a=>?_) (F.args_dict_keyiterator_next_1 _))));exact J0 (ZB a isSubtype_stop (J9 (q h' k)))
end
section
variable {X:Cx}{pins:List (JI × Obj)}{σ:St}{H:Hp}{s:JO}{d:JI}{o:Obj}{xs:KVN}
theorem Inv.freezeN (I:Inv X pins σ H s)(hd:H d=some (DN X.prog X.w d xs)):∃ o es a,s.heap.get? d=some o/\o.ExactDict/\o.data=.dict es a/\es.size=xs.length/\(d == sysModules)=false/\Inv X pins σ (upd H d (.frz o (DN X.prog X.w d xs))) s:=by
 obtain⟨f,o,es,a,b,h,g,l,_⟩:=jM I.hok (.inl hd);refine⟨o,es,a,b,h,g,l,f,I.reword hd (λxs q=>by cases q) (λxs q=>by cases q) (λxs q=>by cases q) (λe c q=>?_) ⟨b,(show ObjOk X.prog X.w H s.heap d (DN X.prog X.w d xs) from I.hok d _ hd)⟩⟩;have:=I.base.frzs d e c q;rw[hd]at this;cases this
theorem Inv.thawN (I:Inv X pins σ H s)(hd:H d=some (.frz o (DN X.prog X.w d xs)))(b:∀ o' a,X.H₀ d≠some (.frz o' a)):Inv X pins σ (upd H d (DN X.prog X.w d xs)) s:=by
 obtain⟨_,r⟩:=(show ObjOk X.prog X.w H s.heap d (.frz o (DN X.prog X.w d xs)) from I.hok d _ hd);exact I.reword hd (λxs q=>by cases q) (λxs q=>by cases q) (λxs q=>by cases q) b r
theorem Inv.meltedN (I:Inv X pins σ H s){ys:KVN}(hd:H d=some (DN X.prog X.w d ys)):∀ o' a,X.H₀ d≠some (.frz o' a):=λo' a q=>by
 have:=I.base.frzs d o' a q;rw[hd]at this;cases this
theorem Inv.walkedN {es:Array DictEntry}{f:Nat}(I:Inv X pins σ H s)(hd:H d=some (.frz o (DN X.prog X.w d xs)))(c:o.data=.dict es f):s.heap.get? d=some o/\∃ vs,Paired PrN xs vs/\es.toList=vs.map (entryOfKey (xP X.prog X.w)):=by
 obtain⟨g,⟨z,k,vs,r,j,h,i,b,m,a,e,l⟩,_,_⟩:=(show ObjOk X.prog X.w H s.heap d (.frz o (DN X.prog X.w d xs)) from I.hok d _ hd);rw[g]at b;obtain rfl:=Jq b;rw[c]at a;cases a;exact⟨g,vs,r,e⟩
end
theorem zbN {xs:KVN}{vs:List (KN × JI × Jo)}(r:Paired PrN xs vs):∀ {i:Nat}{p:KN × JI × V},xs[i]?=some p->∃ q,vs[i]?=some q/\PrN p q:=by
 induction r with
 | nil=>intro i p h;cases h
 | cons q t ih =>
  intro i p h
  cases i with
  | zero=>cases Jq h;exact⟨_,rfl,q⟩
  | succ i=>exact ih h
section
variable {prog:Yo}{w:YI}{A:YO}{E:Jo->JO->Prop}{s:JO}{d it:JI}{o:Obj}{es:Array DictEntry}{ep i:Nat}{e:DictEntry}{k0 v0:Jo}
theorem kB {Q:Jo->JO->Prop}(x:s.heap.get? d=some o) (hd:o.data=.dict es ep) (hi:IsItemIter s.heap it d i es.size ep k0 v0) (B:es[i]?=some e)
  (q:∀ h',IsItemIterOut h' it d (i+1) es.size ep e.key e.val s.heap.objs.size->h'.get? s.heap.objs.size=some { cls:=.type "tuple",data:=.seq #[e.key,e.val] }->(∀ b u,b≠it->s.heap.get? b=some u->h'.get? b=some u)->Q (.ref s.heap.objs.size) { s with heap:=h' }) :
  wpAny (model prog w) A (Builtin.«dict_itemiterator.__next__» ⟨[.ref it],[]⟩) (λfin z=>∃ v,fin=.done (.ret v)/\Q v z) E s:=by
 have ty:s.TypeIs (.ref it) "dict_itemiterator":=⟨_,hi,rfl⟩;unfold Builtin.«dict_itemiterator.__next__»;refine J0 ?_;show wpAny _ _ (pure (Value.ref it)) _ _ _;refine J9 (J0 (J0 (J0 (Wc ty (J9 (J0 (wpAny_fieldsOf hi rfl ?_)))))));show wpAny _ _ (Builtin.Dict_items.addrOf (Value.ref d) >>= _) _ _ _;refine J0 (show wpAny _ _ (pure d) _ _ _ from J9 (J0 (Yd x hd ?_)));dsimp only;rw[Jg (c:=((es.size:Int) != (es.size:Int))=true) (by simp)];refine J0 (show wpAny _ _ (pure d) _ _ _ from J9 (J0 (Yh x hd ?_)));rw[Jg (c:=((ep:Int) != (ep:Int))=true) (by simp)];refine J9 ?_;dsimp only;rw[Jg (c:=(i:Int)<0) (by lia),Y3,B];refine J0 (J0 (Wc ty (J9 (J0 (wpAny_isOneOf_itemiter ty ?_)))));show wpAny _ _ (setField (.ref it) 3 (rawInt ((i:Int)+1)) >>= _) _ _ _;refine J0 (Ye hi (by show 3<8;lia) λa h g=>J0 (Yf (J0 (wpAny_isOneOf_itemiter ⟨_,h,rfl⟩ ?_))));show wpAny _ _ (Builtin.Dict_items.isOneOf _ _ >>= _) _ _ _;refine J0 (wpAny_isOneOf_itemiter ⟨_,h,rfl⟩ ?_);show wpAny _ _ (Builtin.Dict_items.pairFromOwner (.ref it) 6 e.key e.val) _ _ _;unfold Builtin.Dict_items.pairFromOwner newTuple;refine J0 (JJ ?_ (by show 2<=sizeLine;decide));have f:=J8 { cls:=Value.type "tuple",data:=Data.seq #[e.key,e.val] } h;have k:=Js a (o:={ cls:=Value.type "tuple",data:=Data.seq #[e.key,e.val] }) rfl;have r:a.objs.size≠it:=Z9 (Jp h);have sz:a.objs.size=s.heap.objs.size:=g.1;have t:∀ b u,b≠it->s.heap.get? b=some u->(a.push { cls:=Value.type "tuple",data:=Data.seq #[e.key,e.val] }).get? b=some u:=λb u nb j=>J8 _ ((g.2 b nb).trans j);show wpAny (model prog w) A _ _ E { s with heap:=a.push { cls:=Value.type "tuple",data:=Data.seq #[e.key,e.val] } };generalize a.push { cls:=Value.type "tuple",data:=Data.seq #[e.key,e.val] }=h2 at f k t;show wpAny _ _ ((field (.ref it) 0 >>= _) >>= _) _ _ _;refine J0 (J0 (Zk f rfl rfl ?_));show wpAny _ _ (pure true) _ _ _;refine J9 ?_;show wpAny _ _ (field (.ref it) 6 >>= _) _ _ _;refine J0 (Zk f rfl rfl (J0 (Zk f rfl rfl ?_)));refine J0 (Ye f (by show 6<8;lia) λJ G p=>J0 (Ye G (by show 7<8;lia) λI F n=>J0 (Ye F (by show 0<8;lia) λH D m=>J0 (Ye D (by show 1<8;lia) λC y l=>J0 (ZY ?_)))));have sm:=((p.trans n).trans m).trans l;refine J9 (J9 ⟨_,rfl,?_⟩);show Q (.ref a.objs.size) _;rw[sz]at k y r ⊢;exact q C y ((sm.2 _ r).trans k) λb u nb j=>(sm.2 b nb).trans (t b u nb j)
theorem io {Q:Option Jo->JO->Prop}(a:s.heap.get? d=some o) (hd:o.data=.dict es ep) (hi:IsItemIter s.heap it d i es.size ep k0 v0) (c:es[i]?=some e)
  (q:∀ h',IsItemIterOut h' it d (i+1) es.size ep e.key e.val s.heap.objs.size->h'.get? s.heap.objs.size=some { cls:=.type "tuple",data:=.seq #[e.key,e.val] }->(∀ b u,b≠it->s.heap.get? b=some u->h'.get? b=some u)->Q (some (.ref s.heap.objs.size)) { s with heap:=h' }):wpAny (model prog w) A (pyNext (.ref it)) Q E s:=by
 have ty:s.TypeIs (.ref it) "dict_itemiterator":=⟨_,hi,rfl⟩;unfold pyNext;exact J0 (ZP (wpAny_callSpecial?_slot ty Wh (Y5 Wh ty F.entry_dict_itemiterator_next (kB a hd hi c λh' h g f=>J9 (q h' h g f)) (F.args_dict_itemiterator_next_1 _))))
theorem kO {Q:Fin->JO->Prop}(e:A.handled=none) (a:s.heap.get? d=some o) (hd:o.data=.dict es ep) (hi:IsItemIter s.heap it d i es.size ep k0 v0) (f:es[i]?=none)
  (q:∀ h' ev,Heap.ExtBut it s.heap h'->({ s with heap:=h' }:JO).TypeIs ev "StopIteration"->E ev { s with heap:=h' }) :
  wpAny (model prog w) A (Builtin.«dict_itemiterator.__next__» ⟨[.ref it],[]⟩) Q E s:=by
 have ty:s.TypeIs (.ref it) "dict_itemiterator":=⟨_,hi,rfl⟩;unfold Builtin.«dict_itemiterator.__next__»;refine J0 ?_;show wpAny _ _ (pure (Value.ref it)) _ _ _;refine J9 (J0 (J0 (J0 (Wc ty (J9 (J0 (wpAny_fieldsOf hi rfl ?_)))))));show wpAny _ _ (Builtin.Dict_items.addrOf (Value.ref d) >>= _) _ _ _;refine J0 (show wpAny _ _ (pure d) _ _ _ from J9 (J0 (Yd a hd ?_)));dsimp only;rw[Jg (c:=((es.size:Int) != (es.size:Int))=true) (by simp)];refine J0 (show wpAny _ _ (pure d) _ _ _ from J9 (J0 (Yh a hd ?_)));rw[Jg (c:=((ep:Int) != (ep:Int))=true) (by simp)];refine J9 ?_;dsimp only;rw[Jg (c:=(i:Int)<0) (by lia),Y3,f];refine J0 (J0 (Wc ty (J9 (J0 ?_))));show wpAny _ _ (setField (.ref it) 2 .none) _ _ _;refine wpAny_setField hi rfl (by show 2<8;lia) (J0 ?_);unfold newExc newTuple;refine J0 (JJ ?_ (by show 0<=sizeLine;exact JN _));unfold firstArgMember;refine J0 (J0 (J9 (J9 (JJ (wpAny_raiseNew_none e ?_) ?_))))
 rotate_left
 ·show (_++_:Array Jo).size<=sizeLine+2
  rw[Yu];show 6+0<=sizeLine+2;rw[JB];lia
 refine q _ _ (λb u nb g=>?_) ⟨_,Js _ rfl,rfl⟩;exact J8 _ (J8 _ (((YL s.heap it _).2 b nb).trans g))
theorem ip {Q:Option Jo->JO->Prop}(c:A.handled=none)(b:s.heap.get? d=some o)(hd:o.data=.dict es ep)(hi:IsItemIter s.heap it d i es.size ep k0 v0)(e:es[i]?=none)(q:∀ h',Heap.ExtBut it s.heap h'->Q none { s with heap:=h' }):wpAny (model prog w) A (pyNext (.ref it)) Q E s:=by
 have ty:s.TypeIs (.ref it) "dict_itemiterator":=⟨_,hi,rfl⟩;unfold pyNext;refine J0 (ZP (wpAny_callSpecial?_slot ty Wh (Y5 Wh ty F.entry_dict_itemiterator_next (kO c b hd hi e λh' ev k a=>?_) (F.args_dict_itemiterator_next_1 _))));exact J0 (ZB a isSubtype_stop (J9 (q h' k)))
theorem kQ {v:JI}{Q:Jo->JO->Prop}(b:s.heap.IsItemsView v d) (c:s.heap.get? d=some o) (hd:o.data=.dict es ep)
  (q:Q (.ref s.heap.objs.size) { s with heap:=s.heap.push { cls:=.type "dict_itemiterator",data:=.fields #[.none,.bool false,.ref d,.int 0 0,.int es.size 0,.int ep 0,.none,.none] } }):wpAny (model prog w) A (pyIter (.ref v)) Q E s:=by
 obtain⟨i,g,h,f⟩:=id b;have ty:=b.typeIs;have nx:=F.slot_dict_itemiterator_next.lookup
 have body:wpAny (model prog w) A.in1 (Builtin.«dict_items.__iter__» ⟨[.ref v],[]⟩) (λfin a=>∃ v,fin=.done (.ret v)/\∃ e r,a.TypeIs v e/\typeLookup (Value.type e) (Str.ofString "__next__")=pure (some r)/\Q v a) E s:=by
  unfold Builtin.«dict_items.__iter__» Builtin.Dict_items.newIterator;refine J0 (show wpAny _ _ (pure (Value.ref v)) _ _ _ from J9 (J0 (J0 (Zk g f rfl ?_))));refine(show wpAny _ _ (pure d) _ _ _ from J9 (J0 ?_));refine J0 (Yd c hd (J0 (Yh c hd ?_)));refine JJ (J9 ⟨_,rfl,_,_,⟨_,Js _ rfl,rfl⟩,nx,q⟩) ?_;show 8<=sizeLine+2;rw[JB];lia
 exact wpAny_pyIter_slot ty F.slot_dict_items_iter (Y5 F.slot_dict_items_iter ty F.entry_dict_items_iter body (F.args_dict_items_iter_1 _))
end
def Itni (P:Yo)(w:YI)(d:JI)(o:Obj)(xs:KVN):It:=⟨λi H=>H d=some (.frz o (DN P w d xs))/\i<xs.length,λi H x a=>∃ p T,xs[i]?=some p/\H T=none/\x=.ref T/\a=upd H T (.tup [.ref p.2.1,p.2.2]),λi H=>H d=some (.frz o (DN P w d xs))/\i=xs.length⟩
theorem oR {P:Yo}{w:YI}{K:Jl}{D:List Expr}{k1}{p1:Pos}(d it:JI)(o:Obj)(xs:KVN){es:Array DictEntry}{N:Nat}(j:o.data=.dict es N)(hl:es.size=xs.length):Turn P w K (.Tuple D k1 p1) (Itni P w d o xs) [it] it (λi h=>∃ a b,IsItemIter h it d i es.size N a b) where
 mem:=Jd.mpr rfl
 obj:=λi h ⟨a,b,st⟩ c m=>by
  cases Jd.mp m;exact⟨_,st,λv z=>by cases z⟩
 keep:=λi h W ⟨a,b,st⟩ k=>⟨a,b,k it (Jd.mpr rfl) _ st⟩
 item:=by
  intro X A t B m i pins s σ H E I l ⟨a,b,st⟩ ⟨y,L⟩;subst A t B;obtain⟨g,Q,r,O⟩:=I.walkedN y j;have f:=l it (Jd.mpr rfl);obtain⟨p,M⟩:∃ p,xs[i]?=some p:=⟨_,J7 L⟩;obtain⟨q,T,G⟩:=zbN r M;have ei:es[i]?=some (entryOfKey (xP X.prog X.w) q):=by rw[entry_at O,T];rfl
  have J:s.heap.objs.size≠it:=Z9 (Jp st);refine io g j st ei λh1 S V n=>⟨_,rfl,wpAny_letOwnedTupleGo_items S λh2 C F=>?_⟩;have R:RelV (.ref p.2.1) (Value.ref q.2.1):=by show Value.ref q.2.1=Value.ref p.2.1;rw[G.2.1]
  refine⟨.ref s.heap.objs.size,upd H s.heap.objs.size (.tup [.ref p.2.1,p.2.2]),I.spunN (t':=s.toks) (fp:=[it]) (λc u x e=>?_) l (Jf _) (pU ((F.2 _ J).trans V) R G.2.2),rfl,⟨p,_,M,I.fresh,rfl,rfl⟩,⟨_,_,C⟩,λc x=>?_⟩
  ·have ne:c≠it:=λz=>x (Jd.mpr z)
   exact(F.2 c ne).trans (n c u ne e)
  ·cases Jd.mp x
   rw[zK J.symm];exact f.1
 done:=by
  intro X A t B m i pins s σ H E I l ⟨a,b,st⟩ ⟨y,L⟩;subst A t B;obtain⟨g,Q,r,O⟩:=I.walkedN y j;obtain⟨f0,f1,f2,f3,Z,Y⟩:=l it (Jd.mpr rfl);exact ip (I.ok.hd m) g j st (Array.getElem?_eq_none (by simp_all)) λW n=>⟨rfl,I.turned (t':=s.toks) (λc u U e=>n c u U e) f0 f1 f3 Z Y⟩
 self:=λ_ _ _ _ _ ⟨_,_,st⟩ h=>PySem.W.kcp_self st h
section
variable {X:Cx}
def ap (P:Yo)(w:YI)(c:TE):TI:=λσ H R=>c σ H λx b=>∃ d a,x=.ref d/\b d=some (DN P w d a)/\∀ o,R (Itni P w d o a) (upd b d (.frz o (DN P w d a)))
theorem kS {prog:Yo}{w:YI}{A:YO}{E:Jo->JO->Prop}{s:JO}{d:JI}{o:Obj}{Q:Jo->JO->Prop}(c:s.heap.get? d=some o) (a:o.ExactDict) (b:(d == sysModules)=false)
  (q:Q (.ref s.heap.objs.size) { s with heap:=s.heap.push { cls:=.type "dict_items",data:=.fields #[.ref d] } }):wpAny (model prog w) A (call (.builtin "dict.items") [.ref d]) Q E s:=by
 have ty:s.TypeIs (.ref d) "dict":=⟨o,c,a.1⟩;refine Y5 F.slot_dict_items ty F.entry_dict_items ?_ (F.args_dict_items_1 _);unfold Builtin.«dict.items» Builtin.Dict.showsAll;refine J0 ?_;show wpAny _ _ (Builtin.Dict.notOrdered "items" ⟨[Value.ref d],[]⟩ >>= _) _ _ _;refine J0 (wpAny_notOrdered_dict (s:=s) ty ?_);refine(show wpAny _ _ (pure d) _ _ _ from J9 ?_);rw[Jg (by rw[b];simp)];refine J0 (J9 (J0 (JJ (J9 ⟨_,rfl,q⟩) ?_)));show 1<=sizeLine+2;rw[JB];lia
theorem iO {l:Expr}{k:TE}{apos cpos p1:Pos}{j:List Expr}{k1} (B:PE X l k) (c:attributeBase l "items" X.env (eval l X.env)=eval l X.env:=by rfl) (a:(apos.endLine == cpos.line)=true:=by rfl):PI X (.Tuple j k1 p1) (.Call (.Attribute l "items" apos) [] [] cpos) (ap X.prog X.w k):=by
 intro pins s σ H R I h;refine wpAny_Call_method0_late c a (thn (B pins s σ H _ I h) λv f ⟨x,J,p,y,d,r,ex,n,q⟩=>?_);subst ex;cases y;obtain⟨w,t⟩:=kC p (.inl n);obtain⟨o,F,G,g,z,m,le,A,E⟩:=p.freezeN n;refine⟨"dict","dict.items",PySem.F.plainAttrs_dict,PySem.F.slot_dict_items,PySem.F.type_dict_items,w,t,ZZ rfl (PySem.evalArgs_none ?_)⟩;refine kS g z A ?_;have i:=E.kept (t':=f.toks) (h':=f.heap.push { cls:=.type "dict_items",data:=.fields #[.ref d] }) λb u e=>J8 _ e;have D:=J8 { cls:=.type "dict_items",data:=.fields #[.ref d] } g;refine kQ (s:={ f with heap:=f.heap.push { cls:=.type "dict_items",data:=.fields #[.ref d] } }) ⟨_,Js _ rfl,rfl,rfl⟩ D m ?_;refine⟨_,[_],_,_,_,rfl,i.kept (t':=f.toks) λb u e=>J8 _ e,oR d _ o r m le,⟨_,_,Js _ rfl⟩,λb C=>?_,q o⟩;cases Jd.mp C;exact i.fpOk (Jf _) (i.hok.fresh (Jf _))
end
end L2
namespace L2
open PySem PySem.Spec PyProof.Rows Own PySem.W
section
variable {prog:Yo}{w:YI}{d:JI}{o:Obj}{es:Array DictEntry}{ep:Nat}
theorem fc (j:o.ExactDict)(hd:o.data=.dict es ep)(r:(d == sysModules)=false):KdlSrc prog w "dict" d d es.size (λi v=>∃ e,es[i]?=some e/\v=e.key) (λh=>h.get? d=some o) where
 type:=λs a=>⟨o,a,j.1⟩
 there:=λh a=>⟨Jp a,Jp a⟩
 keep:=λh f a k=>k d (.inl rfl) _ a
 notList:=by decide
 notTuple:=by decide
 hint:=λA E s Q a q=>by
  have ty:s.TypeIs (.ref d) "dict":=⟨o,a,j.1⟩;show wpAny _ _ (specialOf (.ref d) _ >>= _) _ _ _;refine J0 (wpAny_specialOf (T:="dict") ty F.slot_dict_len.lookup ?_);show wpAny _ _ (isInstance (.ref d) (.type "dict") >>= _) _ _ _;refine J0 (ZB (T:="dict") (b:=true) ty rfl ?_);show wpAny _ _ (typeOf (.ref d) >>= _) _ _ _;exact J0 (Za ty (J9 q))
 iter:=λA s t a=>by
  refine⟨{ cls:=.type "dict_keyiterator",data:=.fields #[.ref d,.int 0 0,.int es.size 0,.int ep 0] },λi h=>h.IsKeyIter s.heap.objs.size d i es.size ep/\h.get? d=some o,λE Q q=>gD a j hd r q,?_,⟨_,Js _ rfl,rfl,rfl⟩,J8 _ a⟩;have n:d≠s.heap.objs.size:=JD (Jp a);refine⟨λb c=>Jr.mpr (.inl (Jd.mp c)),λi h f st k=>⟨st.1.at (k _ JM),k d (JH _ JM) _ st.2⟩,λi g Q E p st q=>?_,λg Q E st q=>?_,λi g Q E st q=>wpAny_pyIter_keyiter st.1 q⟩
  ·have m:es[i]?=some es[i]:=ZK p
   exact cD st.2 hd st.1 m λf l k=>q _ f g.toks ⟨_,m,rfl⟩ ⟨l,k d o n st.2⟩ λb u nb c=>k b u (λz=>nb (Jd.mpr z)) c
  ·exact cE t st.2 hd st.1 (Array.getElem?_eq_none (Jf _)) λf k=>q f g.toks λb u nb c=>k b u (λz=>nb (Jd.mpr z)) c
end
end L2
namespace L2
open PySem PySem.Spec PyProof.Rows Own Ts PySem.W
section
variable {prog:Yo}{w:YI}{A:YO}{s:JO}
theorem cj {Q:Bool->JO->Prop}(cs:List Ordering):∀ (us vs:List Jo) (i:Nat),us.length=cs.length->vs.length=cs.length->(∀ (j:Nat) u v c,us[j]?=some u->vs[j]?=some v->cs[j]?=some c->SeqAt.EqAt A s u v (c == .eq)/\(c≠.eq->LtAt A s u v (c == .lt))) ->
  Q (cs.foldr Ordering.then .eq == .lt) s->PySem.W.KatLex prog w A false false Q (us.zip vs) i s:=by
 induction cs with
 | nil =>
  intro us vs i a b _ q;rw[List.length_eq_zero_iff.mp a]
  exact PySem.W.kat_nil q
 | cons c cs ih =>
  intro us vs i a b h q
  obtain⟨u,us,rfl⟩:∃ u e,us=u::e:=by
   cases us with
   | nil=>simp at a
   | cons u us=>exact⟨u,us,rfl⟩
  obtain⟨v,vs,rfl⟩:∃ v d,vs=v::d:=by
   cases vs with
   | nil=>simp at b
   | cons v vs=>exact⟨v,vs,rfl⟩
  have f:=h 0 u v c rfl rfl rfl;refine PySem.W.kat_cons (f.1 prog w _ _ ?_);by_cases z:c=.eq
  ·subst z
   refine PySem.W.kat_yes (ih us vs (i+1) (by simpa using a) (by simpa using b) (λj u v c m l k=>h (j+1) u v c (by simpa using m) (by simpa using l) (by simpa using k)) q)
  ·have g:(c == Ordering.eq)=false:=by simpa using z
   have e2:(c::cs).foldr Ordering.then .eq=c:=by
    rw[List.foldr_cons];cases c<;>first|rfl|exact absurd rfl z
   rw[e2]at q;rw[g];refine PySem.W.kat_no ?_;rw[Bool.false_and];exact dh (f.2 z) q
end
def RkN (H:Hp)(xs:List V)(rk:V->Int):Prop:=∃ n,n<=20/\∀ x∈xs,(∃ a b r c,x=.ref a/\H a=some (.tup (.ref b::r))/\H b=some (.tup c))/\∀ y∈xs,Lx H n x y (compare (rk x) (rk y))
section
variable {X:Cx}
theorem zb4 {pins:List (JI × Obj)}{σ:St}{H:Hp}{s1:JO}(I:Inv X pins σ H s1)(C:X.A.units+64<cLine){xs:List V}{vs:List Jo}{rk:V->Int}(r:Vals xs vs)(R:RkN H xs rk) :
  ∃ κ:SortKind,(∀ h':YP,(∀ c o,s1.heap.get? c=some o->h'.get? c=some o)->2<=vs.length->∀ (l:YO) {Q:SortKind->JO->Prop}{E:Jo->JO->Prop},Q κ { s1 with heap:=h' }->wpAny (model X.prog X.w) l (keyKind' vs.toArray) Q E { s1 with heap:=h' }) /\
   (∀ h':YP,(∀ c o,s1.heap.get? c=some o->h'.get? c=some o)->∀ (l:YO),l.units<=X.A.units+8->Cmp X.prog X.w l { s1 with heap:=h' } κ (λp=>p.1∈vs) (λp=>rk (vOf p.1))):=by
 obtain⟨n,hn,R⟩:=R
 obtain⟨ex,rel⟩:=qd r λx M=>by
  obtain⟨⟨a,b,r,B,e,_⟩,_⟩:=R x M;exact .inr ⟨a,e⟩
 have mem:∀ u∈vs,vOf u∈xs:=λu C=>by rw[ex];exact JE.mpr ⟨u,C,rfl⟩
 refine⟨tuples' (Value.type "tuple" != Value.type "tuple"),λh' k l2 l Q E q=>?_,λh' k l hA=>⟨λx y M U Q E q=>?_⟩⟩
 ·have m:Inv X pins σ H { s1 with heap:=h',toks:=s1.toks }:=I.kept k
  have kt:∀ t:List Jo,(∀ u∈t,vOf u∈xs/\RelV (vOf u) u)->∃ fs,PySem.W.KatTups h' t fs/\fs.length=t.length/\∀ f∈fs,∃ b B,f=Value.ref b/\H b=some (.tup B):=by
   intro t
   induction t with
   | nil=>intro _;exact⟨[],PySem.W.KatTups.nil,rfl,λf D=>by simp at D⟩
   | cons u t ih =>
    intro h;obtain⟨fs,S,k2,P⟩:=ih λv w=>h v (JH _ w);obtain⟨m1,r1⟩:=h u JM;obtain⟨⟨a,b,rr,B,e,N,z⟩,_⟩:=R _ m1;rw[e]at r1;cases r1;obtain⟨d,g,⟨o,W,co,no,dt⟩,_⟩:=m.tuple (SqT.of N);obtain⟨f0,ef,rf⟩:=g.get (i:=0) (x:=.ref b) rfl;cases rf
    exact⟨_,PySem.W.KatTups.cons W co dt (by simpa using ef) S,by rw[JW,JW,k2],λf' D=>by
     rcases Jr.mp D with here|D
     ·exact⟨b,B,here,z⟩
     ·exact P f' D⟩
  obtain⟨fs,S,k2,P⟩:=kt vs λu C=>⟨mem u C,rel u C⟩;refine PySem.W.kat_kind (T:=.type "tuple") S (by lia) (λv w=>?_) (by decide) q;obtain⟨b,B,rfl,z⟩:=P v w;obtain⟨d,g,⟨o,W,co,no,dt⟩,_⟩:=m.tuple (SqT.of z);exact λA Q E s ks q=>Za ⟨o,ks _ _ W,co⟩ q
 ·have m:Inv X pins σ H { s1 with heap:=h',toks:=s1.toks }:=I.kept k
  obtain⟨x1,x2⟩:=x;obtain⟨O,y2⟩:=y;have rx:=rel x1 M;have ry:=rel O U;obtain⟨⟨a,a2,xr,_,ea,N,_⟩,lx⟩:=R _ (mem x1 M);obtain⟨⟨b,b2,yr,_,eb,z,_⟩,_⟩:=R _ (mem O U);have L:=lx _ (mem O U);simp only at q;rw[ea]at rx L q;rw[eb]at ry L q;cases rx;cases ry;generalize hc:compare (rk (V.ref a)) (rk (V.ref b))=c at L;rw[<- (vz (rk (V.ref a)) (rk (V.ref b))).2,hc]at q
  cases L with
  | @row n _ _ a0 aT cs K J l1 l2 hL =>
   rw[N]at K;cases K;rw[z]at J;cases J;obtain⟨d,g1,⟨o1,ab,a6,a4,ax⟩,_⟩:=m.tuple (SqT.of N);obtain⟨F,g2,⟨o2,Z,a5,a3,ao⟩,_⟩:=m.tuple (SqT.of z);have m1:=g1.length;have m2:=g2.length;show wpAny _ _ (keyLt' (tuples' false) (.ref a) (.ref b)) _ _ _;refine PySem.W.kat_lt ab ax Z ao ?_;have ds:decide (d.toArray.size<F.toArray.size)=false:=Jn (by rw[Jh,Jh];simp_all);rw[ds];refine cj cs d F 0 (by simp_all) (by simp_all) (λj u v c G w Y=>?_) q;have j1:j<(V.ref a2::xr).length:=by have:=(Jb.mp G).1;simp_all
   have j2:j<(V.ref b2::yr).length:=by have:=(Jb.mp w).1;simp_all
   obtain⟨u',e1,q1⟩:=g1.get (J7 j1);obtain⟨v',e2,q2⟩:=g2.get (J7 j2);rw[G]at e1;obtain rfl:=Jq e1;rw[w]at e2;obtain rfl:=Jq e2;have LL:=hL j _ _ c (J7 j1) (J7 j2) Y;exact⟨jQ m LL l _ _ (by lia) q1 q2,λne=>zak m LL ne l _ _ (by lia) q1 q2⟩
theorem bY {xs:KVN}{ws:List (KN × JI × Jo)}(r:Paired PrN xs ws):Vals (xs.map λp=>V.ref p.2.1) (ws.map λq=>Value.ref q.2.1):=by
 induction r with
 | nil=>exact .nil
 | @cons p q b a h t ih=>exact .cons (by show Value.ref q.2.1=Value.ref p.2.1;rw[h.2.1]) ih
theorem bW {es:Array DictEntry}{acc:Array Jo}(a1:acc.size=es.size)(a2:∀ (j:Nat) (v:Jo),acc[j]?=some v->∃ e,es[j]?=some e/\v=e.key):acc.toList=es.toList.map (·.key):=by
 refine ZC (by rw[Je,JA,JA,a1]) λj b d=>?_;obtain⟨e,a,c⟩:=a2 j acc[j] (ZK _);rw[Wb,Array.getElem_toList,Array.getElem_toList,c];rw[ZK (by rw[<- a1];exact b)]at a;rw[Jq a]
theorem oH (J:X.calm=true)(d:X.A.units+64<cLine):CallR X (.builtin "sorted") (λvs H Q=>∃ a xs rk,vs=[.ref a]/\H a=some (DN X.prog X.w a xs)/\xs.length<=10000/\RkN H (xs.map λp=>.ref p.2.1) rk/\∀ (l:JI) (ys:List V),H l=none->ys.Perm (xs.map λp=>.ref p.2.1)->ys.Pairwise (λx y=>rk x<=rk y)->Q (.ref l) (upd H l (.lst ys))):=by
 intro pins s σ H vs S Q I A h;obtain⟨a,xs,rk,rfl,G,T,R,q⟩:=h;obtain⟨u,rfl,B⟩:=A.one;cases B;obtain⟨⟨z,K,ws,r,o,N,Y,f,M,L,m,U⟩,_,_⟩:=(show ObjOk X.prog X.w H s.heap a (DN X.prog X.w a xs) from I.hok a _ G);have wl:N.size=xs.length:=by rw[ZT m,<- YU r]
 refine bj (kdu_collect (fc M L K) (I.ok.hd J) f (by rw[wl];exact z) λf k acc E b=>?_);obtain⟨n,P⟩:=b
 have al:acc.toList=ws.map λq=>Value.ref q.2.1:=by
  rw[bW n P,m,ZD];rfl
 have vs:Vals (xs.map λp=>V.ref p.2.1) acc.toList:=by rw[al];exact bY r
 have C:acc.toList.length=xs.length:=by rw[JA,n,wl]
 have g:Inv X pins σ H { s with heap:=f,toks:=k }:=I.kept E;obtain⟨t,i,j⟩:=zb4 g d vs R
 obtain⟨ex,rel⟩:=qd vs λx F=>by
  obtain⟨p,_,rfl⟩:=JE.mp F;exact .inr ⟨_,rfl⟩
 refine⟨t,λu=>rk (vOf u),by simp_all,i,j,λW l e out lo O pm w D=>?_⟩;have v:Vals (out.map vOf) out:=ra λu d=>rel u (pm.mem_iff.mp d);have pv:(out.map vOf).Perm (xs.map λp=>V.ref p.2.1):=by rw[ex];exact pm.map vOf
 refine⟨.ref l,_,g.laid (t':=k) (o:=.lst (out.map vOf)) (λc o q=>D c o q) lo ⟨?_,out,e,v,O⟩,rfl,?_⟩
 ·rw[Je,pm.length_eq,C];exact z
 ·exact q l _ (g.hok.fresh lo) pv (List.pairwise_map.mpr w)
end
end L2
namespace L2
open PySem PySem.Spec PyProof.Rows Own
section
def le2 (p q a b:Int):Prop:=p<a\/p=a/\q<=b
end
theorem kM (l b:JI)(xs ys:Array Jo)(n m:Nat)(I H:Option JI)(k f:Array (Option Jo))(sz:xs.size=ys.size) :
  Meets (Builtin.«tuple.__lt__» ⟨[.ref l,.ref b],[]⟩)
   (λA R s=>s.heap.get? l=some { cls:=.type "tuple",dict:=I,data:=.seq xs n,slots:=k }/\s.heap.get? b=some { cls:=.type "tuple",dict:=H,data:=.seq ys m,slots:=f } /\
    (∀ j (M:j<xs.size) (L:j<ys.size),SeqAt.EqAt A.in1 s xs[j] ys[j] true)/\R (.ok (.ret (.bool false))) s) :=
 .of_wp λprog w A R s h=>by
  rcases h with ⟨C,E,D,h⟩;rcases s with ⟨B,g,d,q,os⟩;have kinds:=AutoSeq1.sub_tuple_tuple;have K:(xs.toList.zip ys.toList).length=min xs.size ys.size:=by simp
  wp_walk using wpAny_loadPart' C,wpAny_loadPart' E,wpAny_forIn_list _ (λrest b e=>b.1=none/\e=⟨B,g,d,q,os⟩/\∃ i,i<=(xs.toList.zip ys.toList).length/\rest=(xs.toList.zip ys.toList).drop i) _
  case turn =>
   rintro⟨y,x⟩ rest b e ⟨c,rfl,i,t,a⟩
   have r:i<(xs.toList.zip ys.toList).length:=by
    rcases Nat.lt_or_ge i (xs.toList.zip ys.toList).length with z|z
    ·exact z
    ·rw[List.drop_eq_nil_of_le z]at a;cases a
   have v:i<xs.size:=by simp_all
   have u:i<ys.size:=by simp_all
   rw[YR r]at a;obtain⟨p,e2⟩:=List.cons.inj a;have G:y=xs[i]:=by simpa using JS Prod.fst p
   have ex:x=ys[i]:=by simpa using JS Prod.snd p
   subst G ex;refine J0 (D i v u prog w _ _ ?_)
   wp_walk
   exact⟨rfl,rfl,i+1,by lia,e2⟩
  case fin =>
   rintro⟨J,N⟩ e ⟨c,rfl,i,t,a⟩;have o:J=none:=c;subst o;have F:Builtin.Tuple.tupleCompareSizes CmpOp.Lt xs.size ys.size=.bool false:=by rw[sz];simp[Builtin.Tuple.tupleCompareSizes]
   show wpAny _ _ (ret (Builtin.Tuple.tupleCompareSizes CmpOp.Lt xs.size ys.size)) _ _ _;rw[F];exact J9 ⟨_,rfl,h⟩
  case h =>
   exact⟨rfl,rfl,0,JN _,rfl⟩
theorem LtAt.tuplesS {A:YO}{s:JO}{l b:JI}{xs ys:Array Jo}(q:IsTup s.heap l xs)(hb:IsTup s.heap b ys)(p:A.units<cLine)(sz:xs.size=ys.size)(r:∀ j (B:j<xs.size) (z:j<ys.size),SeqAt.EqAt A.in1 s xs[j] ys[j] true):LtAt A s (.ref l) (.ref b) false:=λprog w E Q h=>by
 obtain⟨⟨y,e,u,c⟩,g,o,n,i⟩:=q;obtain⟨⟨v,d,t,a⟩,f,k,m,e2⟩:=hb;simp only at o i k e2;subst o i k e2;exact richCompare_meets_room (op:=.Lt) ⟨_,g,rfl⟩ ⟨_,f,rfl⟩ F.slot_tuple_lt F.entry_tuple_lt (F.args_tuple_lt_2 _ _) (kM l b xs ys n m e d c a sz) ⟨g,f,r,show Value.bool false≠Value.notImplemented/\Q (.bool false) s from⟨(λx=>nomatch x),h⟩⟩ p
section
variable {X:Cx}
theorem ad {pins:List (JI × Obj)}{σ:St}{H:Hp}{s:JO}(I:Inv X pins σ H s){n:Nat}{x y:V}{c:Ordering}(h:Lx H n x y c)(A:YO)(u v:Jo)(P:A.units+n<cLine)(g:RelV x u)(f:RelV y v):LtAt A s u v (c == .lt):=by
 by_cases z:c=.eq
 ·cases h with
  | int n i j =>
   obtain⟨E,rfl⟩:=g;obtain⟨D,rfl⟩:=f;rw[(vz i j).2]
   exact LtAt.ints i j E D
  | @row n a b w t cs R Q U T h =>
   cases g;cases f;obtain⟨l,p,K,_⟩:=I.tuple (SqT.of R);obtain⟨k,o,J,_⟩:=I.tuple (SqT.of Q);have M:=p.length;have L:=o.length;rw[z];refine LtAt.tuplesS K J (by lia) (by rw[Jh,Jh];simp_all) λj O N=>?_;have e:j<w.length:=by simpa [M] using O
   have d:j<t.length:=by simpa [L] using N
   have m:j<cs.length:=by simp_all
   obtain⟨C,S,G⟩:=p.get (J7 e);obtain⟨B,e2,F⟩:=o.get (J7 d);have r:l.toArray[j]=C:=by simpa using (Jb.mp S).2
   have q:k.toArray[j]=B:=by simpa using (Jb.mp e2).2
   have ce:cs[j]=.eq:=vi.mp z _ (JR m);have:=jQ I (h j _ _ _ (J7 e) (J7 d) (J7 m)) A.in1 _ _ (by show A.units+1+n<cLine;lia) G F;rw[ce]at this;rw[r,q];exact this
 ·exact zak I h z A u v P g f
end
section
variable {prog:Yo}{w:YI}{A:YO}{R:Result->JO->Prop}{I S:JI}{fp wr:List JI}{n:Nat}{P:Nat->Jo->Prop}{St:Nat->YP->Prop}
def AskM (prog:Yo)(w:YI)(A:YO)(a:JO)(wr:List JI)(S:JI)(v e:Jo)(c:Bool):Prop :=
 ∀ (h:YP) (d:Nat) (Q:Jo->JO->Prop) (E:Jo->JO->Prop),(∀ b o,b∉wr->b≠S->a.heap.get? b=some o->h.get? b=some o)->Q (.bool c) { a with heap:=h,toks:=d }->wpAny (model prog w) A.in1 (richCompare .Lt v e) Q E { a with heap:=h,toks:=d }
theorem qG (W:Walks prog w A.in1 I fp wr n P St)(away:S∉fp)(p:JO)(l:Nat->Jo->Prop)(more:∀ j v a,0<j->P j v->l j a->∃ c:Bool,l (j+1) (if c=true then v else a)/\AskM prog w A p wr S v a c) :
  ∀ (m j:Nat) (h:YP) (tk:Nat) (c:Nat) (a:Jo),j+m=n->0<j->l j a->St j h->h.get? S=some { cls:=.type "list",dict:=none,data:=.seq #[a,a] c,slots:=#[] }->(∀ b o,b∉wr->b≠S->p.heap.get? b=some o->h.get? b=some o) ->
   (∀ u B y,l n u->(∀ b o,b∉wr->b≠S->p.heap.get? b=some o->B.get? b=some o)->R (.ok (.ret u)) { p with heap:=B,toks:=y })->codeAny (model prog w) A (.builtin "min.loop" ⟨[.ref I,.none,.ref S],[]⟩) R { p with heap:=h,toks:=tk }:=by
 have out:S∉wr:=λz=>away (W.sub _ z);have nm:(toString "min"++toString ".loop":String) = "min.loop":=by decide
 intro m
 induction m with
 | zero =>
  intro j h tk c a C jp bs st s old k;have D:j=n:=by omega
  subst D
  refine ZR F.entry_min_loop (by
   refine Zy YT _ ▸ (show wpAny _ A.in1 (seqItems? (.ref S) >>= _) _ _ _ from ?_);refine J0 (Yj s rfl (show wpAny _ A.in1 (tryCatch (pyNext (.ref I)) _ >>= _) _ _ _ from J0 (wpAny_tryCatch (W.done { p with heap:=h,toks:=tk } _ _ st λx r keep=>?_))));have d:=keep S _ out s
   show wpAny _ A.in1 (updateSeq S (λ_=>#[]) >>= _) _ _ _;exact J0 (wpAny_updateSeq d rfl (J0 (ZY (J9 (k _ _ r bs λb o g q e=>(Ys _ _ (Ne.symm q)).trans (keep b o g (old b o g q e))))))))
 | succ m ih =>
  intro j h tk c a C jp bs st s old k
  refine ZR F.entry_min_loop (by
   refine Zy YT _ ▸ (show wpAny _ A.in1 (seqItems? (.ref S) >>= _) _ _ _ from ?_);refine J0 (Yj s rfl (show wpAny _ A.in1 (tryCatch (pyNext (.ref I)) _ >>= _) _ _ _ from J0 (wpAny_tryCatch (W.item j { p with heap:=h,toks:=tk } _ _ (by lia) st λv x r pv t keep=>?_))));have d:=keep S _ out s;have f:∀ b o,b∉wr->b≠S->p.heap.get? b=some o->x.get? b=some o:=λb o g q e=>keep b o g (old b o g q e);obtain⟨E,i,ask⟩:=more j v a jp pv bs;show wpAny _ A.in1 (tryCatch (holding [v,v] (richCompare .Lt v a >>= _)) _ >>= _) _ _ _;refine J0 (wpAny_tryCatch (Yf (J0 (ask x r _ _ f (J0 (Yf (YC (J0 (ZY (J9 ?_))))))))))
   cases E with
   | false =>
    rw[Jg Jm]at i;rw[Jg Jm];refine J0 (ZY ?_);rw[nm]
    exact J9 ⟨Wd YT _,ih (j+1) _ _ _ a (by lia) (by lia) i t d f k⟩
   | true =>
    rw[Jj rfl]at i;rw[Jj rfl];refine J0 (wpAny_updateSeq d rfl (J0 (ZY ?_)));rw[nm]
    exact J9 ⟨Wd YT _,ih (j+1) _ _ _ v (by lia) (by lia) i (W.frame _ _ _ t λb g o e=>(Ys _ _ (λz=>away (by rw[z];exact g))).trans e) (YS _ d rfl) (λb o g q e=>(Ys _ _ (Ne.symm q)).trans (f b o g q e)) k⟩)
end
section
variable {prog:Yo}{w:YI}{A:YO}{E:Jo->JO->Prop}{s:JO}
def WalkM (prog:Yo)(w:YI)(A:YO)(Q:Jo->JO->Prop)(it:Jo)(s2:JO):Prop :=
 ∃ (I:JI) (f wr:List JI) (n:Nat) (P:Nat->Jo->Prop) (St:Nat->YP->Prop),it=.ref I/\Walks prog w A.in1 I f wr n P St/\St 0 s2.heap/\(∀ b∈f,b<s2.heap.objs.size)/\0<n /\
   ∃ a:Nat->Jo->Prop,(∀ v,P 0 v->a 1 v)/\(∀ j v d,0<j->P j v->a j d->∃ c:Bool,a (j+1) (if c=true then v else d)/\AskM prog w A s2 wr s2.heap.objs.size v d c) /\
   ∀ u e g,a n u->(∀ b o,b∉wr->s2.heap.get? b=some o->e.get? b=some o)->Q u { s2 with heap:=e,toks:=g }
theorem iy {x:Jo}{Q:Jo->JO->Prop}(h:wpAny (model prog w) A.in1 (pyIter x) (WalkM prog w A Q) E s):wpAny (model prog w) A (call (.builtin "min") [x]) Q E s:=by
 have nm:(toString "min"++toString ".loop":String) = "min.loop":=by decide
 refine call_function_tree F.kind_min F.plain_min F.entry_min (F.args_min1 _) ?_;show wpAny _ A.in1 (Builtin.Builtins.bindParams "min" ["key","default"] 0 ⟨[],[]⟩ >>= _) _ _ s;refine J0 (wpAny_of_eq (show Builtin.Builtins.bindParams "min" ["key","default"] 0 ⟨[],[]⟩=pure [none,none] from rfl) (J0 (J9 (J0 (JU h (λit a z=>?_) λ_ _ e=>e)))));obtain⟨I,q,wr,n,P,St,rfl,W,st,low,pos,l,first,more,k⟩:=z;have away:a.heap.objs.size∉q:=λz=>YG _ (low _ z);have out:a.heap.objs.size∉wr:=λz=>away (W.sub _ z);refine J0 (JJ ?_);rw[nm];refine J9 ⟨Wd YT _,ZR F.entry_min_loop ?_⟩;have new:(a.heap.push { cls:=.type "list",data:=.seq #[] }).get? a.heap.objs.size=some { cls:=.type "list",dict:=none,data:=.seq #[] 0,slots:=#[] }:=Js _ rfl;have j:St 0 (a.heap.push { cls:=.type "list",data:=.seq #[] }):=W.frame _ _ _ st λb _ o e=>J8 _ e;refine Zy YT _ ▸ (show wpAny _ A.in1 (seqItems? (.ref a.heap.objs.size) >>= _) _ _ _ from ?_);refine J0 (Yj new rfl (show wpAny _ A.in1 (tryCatch (pyNext (.ref I)) _ >>= _) _ _ _ from J0 (wpAny_tryCatch (W.item 0 _ _ _ pos j λv p B pv i keep=>?_))));have y:=first v pv
 have c:=keep _ _ out new;show wpAny _ A.in1 (updateSeq a.heap.objs.size (λ_=>#[v,v]) >>= _) _ _ _;refine J0 (wpAny_updateSeq c rfl ?_);rw[nm];have up:∀ b o,b∉wr->b≠a.heap.objs.size->a.heap.get? b=some o->(p.update a.heap.objs.size (Obj.mapSeq λ_=>#[v,v])).get? b=some o:=λb o f t e=>(Ys _ _ (Ne.symm t)).trans (keep b o f (J8 _ e));exact J9 ⟨Wd YT _,qG W away a l more (n-1) 1 _ _ _ v (by lia) (by lia) y (W.frame _ _ _ i λb f o e=>(Ys _ _ (λz=>away (by rw[z];exact f))).trans e) (YS _ c rfl) up λu m g r d=>k u m g r λb o f e=>d b o f (JD (Jp e)) e⟩
theorem cJ {x y:Jo}{Q:Jo->JO->Prop}(h:wpAny (model prog w) A.in1 (pyIter (.ref s.heap.objs.size)) (WalkM prog w A Q) E { s with heap:=s.heap.push { cls:=.type "tuple",data:=.seq #[x,y] } }):wpAny (model prog w) A (call (.builtin "min") [x,y]) Q E s:=by
 have nm:(toString "min"++toString ".loop":String) = "min.loop":=by decide
 refine call_function_tree F.kind_min F.plain_min F.entry_min (F.args_min2 _ _) ?_;show wpAny _ A.in1 (Builtin.Builtins.bindParams "min" ["key","default"] 0 ⟨[],[]⟩ >>= _) _ _ s;refine J0 (wpAny_of_eq (show Builtin.Builtins.bindParams "min" ["key","default"] 0 ⟨[],[]⟩=pure [none,none] from rfl) (J0 ?_));refine wpAny_newTuple (J0 (JU h (λit a z=>?_) λ_ _ e=>e));obtain⟨I,q,wr,n,P,St,rfl,W,st,low,pos,l,first,more,k⟩:=z;have away:a.heap.objs.size∉q:=λz=>YG _ (low _ z);have out:a.heap.objs.size∉wr:=λz=>away (W.sub _ z);refine J0 (JJ ?_);rw[nm];refine J9 ⟨Wd YT _,ZR F.entry_min_loop ?_⟩;have new:(a.heap.push { cls:=.type "list",data:=.seq #[] }).get? a.heap.objs.size=some { cls:=.type "list",dict:=none,data:=.seq #[] 0,slots:=#[] }:=Js _ rfl;have j:St 0 (a.heap.push { cls:=.type "list",data:=.seq #[] }):=W.frame _ _ _ st λb _ o e=>J8 _ e;refine Zy YT _ ▸ (show wpAny _ A.in1 (seqItems? (.ref a.heap.objs.size) >>= _) _ _ _ from ?_);refine J0 (Yj new rfl (show wpAny _ A.in1 (tryCatch (pyNext (.ref I)) _ >>= _) _ _ _ from J0 (wpAny_tryCatch (W.item 0 _ _ _ pos j λv p C pv i keep=>?_))));have B:=first v pv
 have c:=keep _ _ out new;show wpAny _ A.in1 (updateSeq a.heap.objs.size (λ_=>#[v,v]) >>= _) _ _ _;refine J0 (wpAny_updateSeq c rfl ?_);rw[nm];have up:∀ b o,b∉wr->b≠a.heap.objs.size->a.heap.get? b=some o->(p.update a.heap.objs.size (Obj.mapSeq λ_=>#[v,v])).get? b=some o:=λb o f t e=>(Ys _ _ (Ne.symm t)).trans (keep b o f (J8 _ e));exact J9 ⟨Wd YT _,qG W away a l more (n-1) 1 _ _ _ v (by lia) (by lia) B (W.frame _ _ _ i λb f o e=>(Ys _ _ (λz=>away (by rw[z];exact f))).trans e) (YS _ c rfl) up λu m g r d=>k u m g r λb o f e=>d b o f (JD (Jp e)) e⟩
end
def x3 (cmp:V->V->Ordering)(b y:V):V:=if cmp y b=.lt then y else b
def xx (cmp:V->V->Ordering):List V->V
 | []=>.non
 | x::r=>r.foldl (x3 cmp) x
theorem gq (cmp:V->V->Ordering){l:List V}(h:l≠[])(y:V):xx cmp (l++[y])=x3 cmp (xx cmp l) y:=by
 cases l with
 | nil=>exact absurd rfl h
 | cons x r=>show List.foldl _ _ (r++[y])=_;rw[Zt];rfl
theorem n5 (cmp:V->V->Ordering):∀ (r:List V) (x:V),r.foldl (x3 cmp) x∈x::r
 | [],x=>.head _
 | y::r,x=>by
  have:=n5 cmp r (x3 cmp x y);show List.foldl (x3 cmp) (x3 cmp x y) r∈x::y::r;rcases Jr.mp this with z|z
  ·rw[z]
   unfold x3;split
   ·exact .tail _ (.head _)
   ·exact .head _
  ·exact .tail _ (.tail _ z)
theorem bR (cmp:V->V->Ordering){l:List V}(h:l≠[]):xx cmp l∈l:=by
 cases l with
 | nil=>exact absurd rfl h
 | cons x r=>exact n5 cmp r x
section
variable {X:Cx}{pins:List (JI × Obj)}{σ:St}{H:Hp}{s:JO}
theorem oO {b:Bool}{a:JI}{xs:List V}{its:List Jo}{n:Nat}{cmp:V->V->Ordering}{Q:VK}(J:X.calm=true)(T:X.A.units+64<cLine)(I:Inv X pins σ H s)(m:Vals xs its)(pp:SqO b s.heap a its.toArray)(al:a<s.heap.objs.size)(k:0<xs.length)(R:n<=20)(K:∀ x∈xs,∀ y∈xs,Lx H n x y (cmp x y))(q:Q (xx cmp xs) H) :
  wpAny (model X.prog X.w) X.A.in1 (pyIter (.ref a)) (WalkM X.prog X.w X.A (EP X pins σ Q)) X.xe s:=by
 have U:its.length=xs.length:=m.length.symm;refine x6 pp ⟨s.heap.objs.size,[s.heap.objs.size,a],[s.heap.objs.size],its.toArray.size,(λi v=>its.toArray[i]?=some v),_,rfl,kr (show X.A.in1.handled=none from I.ok.hd J) b _ a (JD al) its.toArray,⟨?_,pp.mv λo e=>J8 _ e⟩,λc F=>?_,by rw[Jh];simp_all,(λj v=>0<j/\j<=xs.length/\RelV (xx cmp (xs.take j)) v),λv t=>?_,λj v B jp t ⟨_,S,w⟩=>?_,λu W l ⟨_,_,f⟩ G=>?_⟩
 ·cases b<;>exact⟨_,Js _ rfl,rfl,rfl⟩
 ·show c<(s.heap.push _).objs.size
  rw[YW];rcases Jr.mp F with z|z
  ·exact z ▸ Wa _
  ·exact Jd.mp z ▸ W5 al
 ·have E:xs[0]?=some xs[0]:=J7 k
  obtain⟨C,g,f⟩:=m.get E;have d:its[0]?=some v:=by simpa using t
  rw[d]at g;cases g;refine⟨by lia,k,?_⟩
  cases xs with
  | nil=>cases k
  | cons x r=>exact f
 ·have d:its[j]?=some v:=by simpa using t
  have p:j<xs.length:=by
   have:=(Jb.mp d).1
   simp_all
  obtain⟨C,g,f⟩:=m.get (J7 p);rw[d]at g;cases g
  have ne:xs.take j≠[]:=λz=>by
   have:=JS List.length z;rw[Jt,ZS]at this
   simp_all
  have bm:xx cmp (xs.take j)∈xs:=YX (bR cmp ne);have L:=K _ (JR p) _ bm;refine⟨cmp xs[j] (xx cmp (xs.take j)) == .lt,⟨by lia,by lia,?_⟩,λh l N P old D=>?_⟩
  ·rw[<- YH p,gq cmp ne]
   unfold x3;by_cases z:cmp xs[j] (xx cmp (xs.take j))=.lt
   ·rw[Jj z,Jj (by rw[z];rfl)];exact f
   ·rw[Jg z,Jg (λy=>z (by simpa using y))];exact w
  ·have O:Inv X pins σ H { s with heap:=h,toks:=l }:=I.kept λc o e=>old c o (λz=>JD (Jp e) (Jd.mp z)) (λz=>by
    have M:=Jp e;have A:c=(s.heap.push { cls:=.type (cN b),data:=.fields #[.ref a,.int 0 0] }).objs.size:=z;rw[YW]at A
    exact absurd A (JD (W5 M))) (J8 _ e)
   exact ad O L X.A.in1 v B (by show X.A.units+1+n<cLine;lia) f w X.prog X.w P N D
 ·refine⟨xx cmp xs,H,I.kept (t':=l) λc o e=>G c o (λz=>JD (Jp e) (Jd.mp z)) (J8 _ e),?_,q⟩
  have:xs.take its.toArray.size=xs:=JC (by rw[Jh];simp_all);rw[this]at f;exact f
theorem gb (j:X.calm=true)(b:Bool)(h:X.A.units+64<cLine):CallR X (.builtin "min") (λvs H Q=>∃ a xs n cmp,vs=[.ref a]/\SqB b X.K H a xs/\0<xs.length/\n<=20/\(∀ x∈xs,∀ y∈xs,Lx H n x y (cmp x y))/\Q (xx cmp xs) H):=by
 rintro pins s σ H vs r Q I e ⟨a,xs,n,cmp,rfl,i,d,c,k,q⟩;obtain⟨u,rfl,f⟩:=e.one;cases f;obtain⟨p,g,pp⟩:=I.sq (b:=b) i;obtain⟨o,m,l,_⟩:=pp.ob;exact iy (oO j h I g pp (Jp l) d c k q)
theorem ke (i:X.calm=true)(h:X.A.units+64<cLine):CallR X (.builtin "min") (λvs H Q=>∃ x y n cmp,vs=[x,y]/\n<=20/\(∀ u∈[x,y],∀ v∈[x,y],Lx H n u v (cmp u v))/\Q (x3 cmp x y) H):=by
 rintro pins s σ H vs l Q I d ⟨x,y,n,cmp,rfl,c,j,q⟩;obtain⟨u,a,rfl,g,f⟩:=gy d;refine cJ ?_;have k:=I.kept (t':=s.toks) (h':=s.heap.push { cls:=.type "tuple",data:=.seq #[u,a] }) λb u e=>J8 _ e;refine oO (s:={ s with heap:=s.heap.push { cls:=.type "tuple",data:=.seq #[u,a] } }) (b:=false) (xs:=[x,y]) (its:=[u,a]) i h k (.cons g (.cons f .nil)) ⟨_,Js _ rfl,rfl,_,rfl⟩ ?_ (by show 0<2;lia) c j q;show s.heap.objs.size<(s.heap.push _).objs.size;rw[YW];simp_all
end
def cmpR:List Int->List Int->Ordering
 | [],[]=>.eq
 | [],_::_=>.lt
 | _::_,[]=>.gt
 | a::x,b::y=>(compare a b).then (cmpR x y)
theorem uY:∀ {x y:List Int},x.length=y.length->(List.zipWith compare x y).foldr Ordering.then .eq=cmpR x y
 | [],[],_=>rfl
 | a::x,b::y,h=>by
  show (compare a b).then _=(compare a b).then _;rw[uY (x:=x) (y:=y) (by simpa using h)]
theorem jP {H:Hp}{a b:JI}{x y:List Int}(ha:H a=some (.tup (x.map V.int)))(hb:H b=some (.tup (y.map V.int)))(l:x.length=y.length):Lx H 1 (.ref a) (.ref b) (cmpR x y):=by
 rw[<- uY l];refine .row ha hb (by rw[Je,ZL];simp_all) (by rw[Je,ZL];simp_all) λi u v c e d f=>?_;rw[JG]at e d;obtain⟨p,h,rfl⟩:=Y0.mp e;obtain⟨q,g,rfl⟩:=Y0.mp d;rw[List.getElem?_zipWith,h,g]at f;cases f;exact .int 0 p q
def xU (x y:List Int):List Int:=if cmpR y x=.lt then y else x
def i3:List (List Int)->List Int
 | []=>[]
 | x::r=>r.foldl xU x
def zaH (P:Yo)(w:YI)(t:TS):TS:=λD σ H=>t { D with nx:=λa e=>∃ d o c b,H d=some (DN P w d b)/\e d=some (.frz o (DN P w d c))/\D.nx a (upd e d (DN P w d c)) } σ H
section
variable {X:Cx}
theorem eZ {st:Stmt}{t:TS}(h:PS X st t):PS X st (zaH X.prog X.w t):=by
 intro pins s σ H D I c;refine thn (h pins s σ H _ I c) λf k q=>?_
 cases f with
 | next =>
  obtain⟨a,l,g,d,o,j,i,e,b,q⟩:=q
  exact⟨a,_,g.thawN b (I.meltedN e),q⟩
 | brk=>exact q
 | cont=>exact q
 | ret u=>exact q
end
theorem kW {P:Yo}{w:YI}{d:JI}{o:Obj}{xs:KVN}{g:TG}{j:TS}{D:Ends}{σ:St}{H:Hp}(a:Nat->St->Hp->Prop)(u:a 0 σ H)(r:∀ i σ H,i<=xs.length->a i σ H->H d=some (.frz o (DN P w d xs)))(n:∀ i p σ H T,xs[i]?=some p->H T=none->a i σ H->g (.ref T) σ (upd H T (.tup [.ref p.2.1,p.2.2])) λc h=>j { D with nx:=a (i+1),ct:=a (i+1),bk:=D.nx } c h)(s:∀ σ H,a xs.length σ H->D.nx σ H) :
  ∃ W:Nat->Nat->St->Hp->Prop,(∃ m,W 0 m σ H)/\∀ i m σ H,W i m σ H ->
   ((Itni P w d o xs).stop i H/\D.nx σ H)\/((Itni P w d o xs).go i H/\∃ N:St->Hp->Prop,(∀ f b,N f b->∃ k,k<m/\W (i+1) k f b)/\∀ x b,(Itni P w d o xs).yld i H x b->g x σ b λc h=>j { D with nx:=N,ct:=N,bk:=D.nx } c h):=by
 refine⟨λi m σ H=>m=xs.length-i/\i<=xs.length/\a i σ H,⟨xs.length,by simp,JN _,u⟩,λi m σ H ⟨em,hi,p⟩=>?_⟩;subst em;have q:=r i σ H hi p;by_cases lt:i<xs.length
 ·refine .inr ⟨⟨q,lt⟩,a (i+1),λf b l=>⟨xs.length-(i+1),by lia,rfl,lt,l⟩,λx b ⟨y,T,v,t,z,e2⟩=>?_⟩
  subst z e2;exact n i y σ H T v t p
 ·have e:i=xs.length:=by lia
  subst e;exact .inl ⟨⟨q,rfl⟩,s σ H p⟩
end L2
namespace L2
open PySem
theorem jw {i:Nat}{x:V}{t:TS}{D:Ends}{σ:St}{H:Hp}(h:∀ b:Ends,(∀ σ H,D.nx σ H->b.nx σ H)->t b (σ.set i (some x)) H):xw i x σ H λa c=>t D a c:=h D λ_ _ x=>x
theorem zbr {i:Nat}{x:V}{t:TS}{D:Ends}{σ:St}{H:Hp}(h:∀ a:Ends,(∀ σ H,D.nx σ H->a.nx σ H)->(∀ σ H,D.ct σ H->a.ct σ H)->t a (σ.set i (some x)) H):xw i x σ H λb c=>t D b c:=h D (λ_ _ x=>x) λ_ _ x=>x
theorem zv {t u:TS}{D:Ends}{σ:St}{H:Hp}(h:∀ a:Ends,(∀ σ H,u D σ H->a.nx σ H)->t a σ H):qh t u D σ H:=h { D with nx:=u D } λ_ _ x=>x
end L2
namespace L2
open PySem Own PyProof.Rows PySem.Spec
section
variable {X:Cx}
def zbw (i j k:Nat)(b:TA):TS:=λD σ H=>b σ H λa c=>∃ u v w,a=[u,v,w]/\D.nx (((σ.set i (some u)).set j (some v)).set k (some w)) c
theorem mT {u v w:V}{us:List Jo}(r:Vals [u,v,w] us):∃ a b c,us=[a,b,c]/\RelV u a/\RelV v b/\RelV w c:=by
 cases r with
 | cons p r =>
  obtain⟨b,c,rfl,q,t⟩:=Vals.two r;exact⟨_,b,c,rfl,p,q,t⟩
theorem bw {i j k:Nat}{x y z:Str}{a b c:Expr}{r:TA}{pos m py l pt:Pos}{kt k2 pt2}(W:X.calm=true)(n:X.N.Nodup)(hi:X.N[i]?=some x)(V:X.N[j]?=some y)(U:X.N[k]?=some z)(P:i≠j)(O:i≠k)(N:j≠k)(B:X.env.scope.names.lookup x=some .local)(A:X.env.scope.names.lookup y=some .local)(t:X.env.scope.names.lookup z=some .local)(ha:PA X [a,b,c] r)(Q:swappedStores [.Tuple [.Name x m,.Name y py,.Name z l] kt pt] (.Tuple [a,b,c] k2 pt2) X.env=pure (some [x,y,z]))(R:swapsWithSole [.Tuple [.Name x m,.Name y py,.Name z l] kt pt] (.Tuple [a,b,c] k2 pt2) pos.line X.env=pure false:=by rfl) :
  PS X (.Assign [.Tuple [.Name x m,.Name y py,.Name z l] kt pt] (.Tuple [a,b,c] k2 pt2) pos) (zbw i j k r):=λpins s σ H D I h=>by
 rw[exec_Assign_arm];refine J0 (Zd ?_);rw[R];refine J0 (J9 ?_);rw[Jg Jm];refine J0 (PyProof.Rows.Tuple_ (thn (ha _ pins s σ H _ I h) λus d q=>?_));obtain⟨vs,E,I1,L,u,v,w,rfl,M⟩:=q;obtain⟨f,e,u3,rfl,K,G,F⟩:=mT L;refine JJ ?_ (by show 3<=sizeLine;decide);have J:Inv X pins σ E { d with heap:=d.heap.push { cls:=.type "tuple",data:=.seq [f,e,u3].toArray } }:=I1.kept (t':=d.toks) λ_ _ g=>J8 _ g;rw[Q];refine J0 (J9 ?_);show wpAny (model X.prog X.w) X.A (do rule "assign.swapped-stores";let items <- unpackItems (.ref d.heap.objs.size) 3 none;assignInOrder [λv=>bindName X.env z v,λv=>bindName X.env y v,λv=>bindName X.env x v] items.reverse;pure Flow.next) _ _ _;refine J0 (Z1 (J0 (PyProof.Rows.unpackItems_tuple (items:=#[f,e,u3]) (I.ok.hd W) (IsTup.new d.heap _) λT S=>?_)));have J3:=J.kept (h':=T) (t':=d.toks) λb o g=>S b o (JD (Jp g)) g;show wpAny _ _ (assignInOrder [λv=>bindName X.env z v,λv=>bindName X.env y v,λv=>bindName X.env x v] [u3,e,f] >>= λ_=>pure Flow.next) _ _ _;refine J0 (ZV (wpAny_bindName (xi J3 n U (.inl t) F (λs2 Z=>?_) (.inr t))));refine ZV (wpAny_bindName (xi Z n V (.inl A) G (λs3 Y=>?_) (.inr A)));refine ZV (wpAny_bindName (xi Y n hi (.inl B) K (λs4 C=>assignInOrder_nil (J9 ?_)) (.inr B)))
 have p:((σ.set k (some w)).set j (some v)).set i (some u)=((σ.set i (some u)).set j (some v)).set k (some w):=by
  rw[List.set_comm _ _ (Ne.symm P),List.set_comm _ _ (Ne.symm O),List.set_comm _ _ (Ne.symm N)]
 rw[p]at C;exact⟨_,E,C,M⟩
end
end L2
namespace Bn
open PySem L2 Own
abbrev Sn:=List Int × List Grp × List Int
abbrev Sn.none (N:Nt):Sn:=(List.replicate N.forks.length 0,[],List.replicate N.lanes 0)
end Bn
namespace L2
open PySem PySem.Spec PyProof.Rows Own
abbrev FZ (o:Obj):HO:=.frz o (.ext λ_=>True)
theorem nv {P:Yo}{w:YI}{H:Hp}{h:YP}{a:JI}{o:Obj}(e:h.get? a=some o):ObjOk P w H h a (FZ o):=⟨e,trivial,⟨o,e⟩,λ_ _ _ _=>trivial⟩
structure Lam where
 params:Arguments
 body:Expr
 scope:Scope
 qual:Str
def ni (L:Lam)(cl:List (Str × JI))(pm:Jo)(c:JI)(ct:Jo):Obj:=PySem.W.kla_obj "<lambda>" L.qual L.params L.body L.scope cl pm c ct
structure LamAt (H:Hp) (f:JI) (L:Lam) (cl:List (Str × JI)) (vs:List V):Prop where
 ex:∃ (pm:Jo) (c:JI) (ct:Jo) (oc:Obj) (fs:Array Jo) (t:Tok),H f=some (FZ (ni L cl pm c ct))/\H c=some (FZ oc)/\oc.data=.fields fs/\fs[1]?=some (.str L.qual t)
 len:cl.length=vs.length
 cell:∀ (i:Nat) x c v,cl[i]?=some (x,c)->vs[i]?=some v->∃ o u,H c=some (FZ o)/\o.data=.cell (some u)/\RelV v u
 nd1:(cl.map (·.1)).Nodup
 nd2:(cl.map (·.2)).Nodup
theorem LamAt.frz {H H':Hp}{f:JI}{L:Lam}{cl:List (Str × JI)}{vs:List V}(h:LamAt H f L cl vs)(z:∀ b o u,H b=some (.frz o u)->H' b=some (.frz o u)):LamAt H' f L cl vs:=by
 obtain⟨pm,c,p,j,fs,t,n,m,l,k⟩:=h.ex;refine⟨⟨pm,c,p,j,fs,t,z _ _ _ n,z _ _ _ m,l,k⟩,h.len,λi x c v a b=>?_,h.nd1,h.nd2⟩;obtain⟨o,u,g,e,d⟩:=h.cell i x c v a b;exact⟨o,u,z _ _ _ g,e,d⟩
def yc (cl:List (Str × JI))(H:Hp):Hp:=λb=>if b∈cl.map (·.2) then none else H b
def back (cl:List (Str × JI))(H H':Hp):Hp:=λb=>if b∈cl.map (·.2) then H b else H' b
theorem wY {cl:List (Str × JI)}{H:Hp}{b:JI}(h:b∈cl.map (·.2)):yc cl H b=none:=Jj h
theorem yP {cl:List (Str × JI)}{H:Hp}{b:JI}(h:b∉cl.map (·.2)):yc cl H b=H b:=Jg h
theorem oJ {cl:List (Str × JI)}{H H':Hp}{b:JI}(h:b∈cl.map (·.2)):back cl H H' b=H b:=Jj h
theorem xR {cl:List (Str × JI)}{H H':Hp}{b:JI}(h:b∉cl.map (·.2)):back cl H H' b=H' b:=Jg h
theorem mW {cl:List (Str × JI)}{H:Hp}{b:JI}{o:HO}(h:yc cl H b=some o):b∉cl.map (·.2)/\H b=some o:=by
 by_cases c:b∈cl.map (·.2)
 ·rw[wY c]at h;cases h
 ·rw[yP c]at h;exact⟨c,h⟩
def CellsFz (cl:List (Str × JI))(H:Hp):Prop:=∀ b∈cl.map (·.2),∃ o,H b=some (FZ o)
theorem LamAt.fz {H:Hp}{f:JI}{L:Lam}{cl:List (Str × JI)}{vs:List V}(h:LamAt H f L cl vs):CellsFz cl H:=λb k=>by
 obtain⟨⟨x,c⟩,j,rfl⟩:=JE.mp k;obtain⟨i,a,e⟩:=Zb.mp j;have g:i<vs.length:=by rw[<- h.len];exact a
 obtain⟨o,u,d,_⟩:=h.cell i x c vs[i] (by rw[J7 a,e]) (J7 g);exact⟨o,d⟩
section
variable {P:Yo}{w:YI}{H H':Hp}{h h':YP}{cl:List (Str × JI)}
theorem qO (x:HOk P w H h)(fz:CellsFz cl H):HOk P w (yc cl H) h:=λb u e=>by
 obtain⟨nb,f⟩:=mW e
 have keep:∀ {c:JI}{o:HO},H c=some o->(∀ q,o≠FZ q)->yc cl H c=some o:=λ{c o} z n=>by
  rw[yP];· exact z
  ·intro d
   obtain⟨q,a⟩:=fz c d;rw[z]at a;exact n q (Jq a)
 exact(x b u f).stay (λc v _ q=>q) (λc q=>keep q λz y=>by cases y) λc g q=>keep q λz y=>by cases y
theorem bZ {fs:List JI}(un:Un fs [] (yc cl H) H' h h')(fz:CellsFz cl H)(k:∀ b∈fs,H b=none)(there:∀ b o,H b=some (FZ o)->h.get? b=some o)(low:∀ b∈cl.map (·.2),H' b=none)(ok:HOk P w H' h'):Un fs [] H (back cl H H') h h'/\HOk P w (back cl H H') h':=by
 have d:∀ {b:JI},H b=none->b∉cl.map (·.2):=λe a=>by
  obtain⟨o,q⟩:=fz _ a;rw[e]at q;cases q
 have kept:∀ b∈cl.map (·.2),∀ o,h.get? b=some o->h'.get? b=some o:=λb a o e=>un.keep b o e (wY a) (λz=>d (k b z) a) (by simp)
 have f:∀ {b:JI}{o:HO},H b=some o->(∀ q,o≠FZ q)->b∉cl.map (·.2):=λz n a=>by
  obtain⟨q,i⟩:=fz _ a;rw[z]at i;exact n q (Jq i)
 refine⟨⟨λb o e n x y=>un.keep b o e (by rw[yP (d n)];exact n) x y,λb o e n x y=>un.slot b o e (by rw[yP (d n)];exact n) x y,λb o e n y=>?_,un.there,λb g e=>?_,λb o u e=>?_,λb j e=>?_⟩,λb u e=>?_⟩
 ·rw[xR (d n)]
  exact un.free b o e (by rw[yP (d n)];exact n) y
 ·have nb:=f e λq z=>by cases z
  rw[xR nb];exact un.tups b g (by rw[yP nb];exact e)
 ·by_cases c:b∈cl.map (·.2)
  ·rw[oJ c];exact e
  ·rw[xR c];exact un.frzs b o u (by rw[yP c];exact e)
 ·have nb:=f e λq z=>by cases z
  rw[xR nb];exact un.tbls b j (by rw[yP nb];exact e)
 ·by_cases c:b∈cl.map (·.2)
  ·rw[oJ c]at e
   obtain⟨o,q⟩:=fz b c;rw[q]at e;cases e;exact nv (kept b c o (there b o q))
  ·rw[xR c]at e
   have old:∀ {x:JI}{o:HO},H' x=some o->back cl H H' x=some o:=λ{x o} z=>by
    rw[xR];· exact z
    ·intro l
     rw[low x l]at z;cases z
   exact(ok b u e).stay (λx v _ q=>q) (λx q=>old q) λx g q=>old q
end
def kY (L:Lam)(cl:List (Str × JI))(a f c:JI):Env:={ scope:=L.scope,locals:=a,globals:=mainGlobals,cells:=cl,qual:=L.qual++".<locals>.",func:=some f,code:=.ref c,frame:=some a,builtins:=builtinsNs }
def bK (CX:CXT)(P:Yo)(w:YI)(K:Jl)(mg:Str->Option Jo)(base:YP)(N:List Str)(L:Lam)(cl:List (Str × JI))(f c:JI)(A:YO)(outer:List Env)(s:JO)(H:Hp)(E:XK):Cx where
 prog:=P
 w:=w
 K:=K
 mg:=mg
 base:=base
 A:=A.deeper (kY L cl s.heap.objs.size f c)
 N:=N
 s₀:=s
 H₀:=yc cl H
 env:=kY L cl s.heap.objs.size f c
 outer:=outer
 stack:=kY L cl s.heap.objs.size f c::outer
 ex:=[]
 calm:=true
 fn:=λ_=>false
 pn:=[]
 xe:=λe b=>wpAny (model P w) (A.deeper (kY L cl s.heap.objs.size f c)) (leaving (kY L cl s.heap.objs.size f c) e) (λ_ a=>CX outer H s E e a) (λd a=>CX outer H s E d a) b
structure LamScope (ps fr:List Str) (sc:Scope):Prop where
 kind:sc.kind=.function
 co:sc.isCoroutine=false
 gen:sc.isGenerator=false
 nd:(ps++fr).Nodup
 par:∀ x∈ps,sc.names.lookup x=some .local
 fre:∀ x∈fr,sc.names.lookup x=some .free
 noc:∀ y∈sc.names,y.2≠.cell
 all:∀ x,sc.names.lookup x=some .free->x∈fr
section
variable {CX:CXT}{P:Yo}{w:YI}{K:Jl}{mg:Str->Option Jo}{base:YP}{L:Lam}{cl:List (Str × JI)}{vals vs:List V}{ps:List Str}{f c:JI}{A:YO}{outer:List Env}{s:JO}{H:Hp}{us:List Jo}{E:XK}
theorem jR {cl:List (Str × JI)}(nd:(cl.map (·.1)).Nodup):∀ {i:Nat}{x:Str}{c:JI},cl[i]?=some (x,c)->cl.lookup x=some c:=by
 induction cl with
 | nil=>intro i x c h;cases h
 | cons p r ih =>
  intro i x c h;rw[JY,JT]at nd
  cases i with
  | zero =>
   cases Jq h
   rw[Yy,ZF]
  | succ i =>
   have m:=JP (show r[i]?=some (x,c) from h);rw[Yy,show (x == p.1)=false from Zf.mpr λz=>nd.1 (JE.mpr ⟨_,m,z⟩)];exact ih nd.2 (show r[i]?=some (x,c) from h)
theorem lP {ps:List Str}{us:List Jo}(nd:ps.Nodup)(d:us.length=ps.length){i:Nat}{x:Str}{u:Jo}(b:ps[i]?=some x)(c:us[i]?=some u):(ps.zip us).reverse.lookup x=some u:=by
 have a:((ps.zip us).reverse.map (·.1)).Nodup:=by
  rw[List.map_reverse,List.map_fst_zip (by simp_all)];exact List.pairwise_reverse.mpr (nd.imp λh=>h.symm)
 have m:(x,u)∈(ps.zip us).reverse:=List.mem_reverse.mpr (JP (i:=i) (by rw[Wy];exact⟨b,c⟩));generalize (ps.zip us).reverse=l at a m
 induction l with
 | nil=>cases m
 | cons p r ih =>
  rw[JY,JT]at a;rcases Jr.mp m with e|z
  ·rw[<- e,Yy,ZF]
  ·rw[Yy,show (x == p.1)=false from Zf.mpr λy=>a.1 (JE.mpr ⟨_,z,y⟩)]
   exact ih a.2 z
theorem ai {h':YP}{tk:Nat}(S:LamScope ps (cl.map (·.1)) L.scope)(hd:A.handled=none)(g:Env0 P w K mg base A outer s H)(la:LamAt H f L cl vals)(r:Vals vs us)(J:vs.length=ps.length)(ns:h'.Ns s.heap.objs.size (λx=>(ps.zip us).reverse.lookup x))(kp:∀ b o,s.heap.get? b=some o->h'.get? b=some o) :
  Inv (bK CX P w K mg base (ps++cl.map (·.1)) L cl f c A outer s H E) [] ((vs++vals).map some) (yc cl H) { s with heap:=h',toks:=tk }:=by
 have fz:=la.fz;have O:=List.nodup_append.mp S.nd;have ul:us.length=ps.length:=by rw[<- r.length];exact J
 have d:∀ {x:Str}{a:JI},cl.lookup x=some a->(x,a)∈cl:=λh=>Zg h
 have cellOf:∀ {x:Str}{a:JI},(x,a)∈cl->∃ (i:Nat) (v:V) (o:Obj) (u:Jo),cl[i]?=some (x,a)/\vals[i]?=some v/\H a=some (FZ o)/\o.data=.cell (some u)/\RelV v u/\s.heap.get? a=some o:=λ{x a} m=>by
  obtain⟨i,t,e⟩:=Zb.mp m;have R:cl[i]?=some (x,a):=by rw[J7 t,e]
  have Q:i<vals.length:=by rw[<- la.len];exact t
  obtain⟨o,u,C,B,F⟩:=la.cell i x a vals[i] R (J7 Q);exact⟨i,_,o,u,R,J7 Q,C,B,F,(g.hok a _ C).1⟩
 refine⟨⟨g.mod,S.kind,rfl,rfl,Jf _,λy z a k n=>?_,λy G=>?_,λy a q=>(by cases q),λ_=>hd,Around.frames_deeper g.frames,.inr ⟨rfl,rfl⟩,λb z=>(Jx z).elim,λb o e=>⟨(g.bs b o e).1,?_⟩,g.bsz,λb _ _=>Jx,λb z=>(Jx z).elim,g.funs,λb hb=>?_⟩,
  rfl,g.bare,Un.kept kp,⟨_,ns,λi y v k n h3=>?_⟩,λy a h=>?_,?_,λy a h=>wY (JE.mpr ⟨_,d h,rfl⟩),λp I=>(Jx I).elim,(qO g.hok fz).kept kp,?_⟩
 ·-- one cell,one name
  have X:=d k;have W:=d n;obtain⟨i,t,D⟩:=Zb.mp X;obtain⟨j,Y,M⟩:=Zb.mp W;have:i=j:=(List.getElem_inj (h₀:=by rw[Je];exact t) (h₁:=by rw[Je];exact Y) la.nd2).mp (by rw[Wb,Wb,D,M]);subst this;rw[D]at M;exact JS Prod.fst M
 ·have G:L.scope.names.lookup y=some .cell\/L.scope.names.lookup y=some .free:=G
  rcases G with q|q
  ·exact absurd rfl (S.noc _ (Zg q))
  ·obtain⟨p,I,e⟩:=JE.mp (S.all y q)
   obtain⟨i,t,D⟩:=Zb.mp I;exact⟨p.2,jR la.nd1 (i:=i) (by rw[J7 t,D,<- e])⟩
 ·show yc cl H b=none
  unfold yc;split
  ·rfl
  ·exact(g.bs b o e).2
 ·show yc cl H b=none
  unfold yc;split
  ·rfl
  ·exact g.frf b hb
 ·have l:(vs++vals)[i]?=some v:=by
   rw[JG]at n
   cases e:(vs++vals)[i]? with
   | none=>rw[e]at n;cases n
   | some z=>rw[e]at n;cases n;rfl
  replace k:(ps++cl.map (·.1))[i]?=some y:=k;by_cases ci:i<vs.length
  ·rw[YA ci]at l
   rw[YA (by simp_all)]at k;obtain⟨u,Z,T⟩:=r.get l;exact⟨u,T,.inl ⟨S.par y (JP k),lP O.1 ul k Z⟩⟩
  ·rw[Yv (by simp_all)]at l
   rw[Yv (by simp_all),JG,<- J]at k;obtain⟨⟨x,a⟩,N,rfl⟩:=Y0.mp k;obtain⟨o,u,C,B,F⟩:=la.cell _ x a v N l;exact⟨u,F,.inr ⟨.inr (S.fre x (JE.mpr ⟨_,JP N,rfl⟩)),a,jR la.nd1 N,o,kp _ _ (g.hok a _ C).1,B⟩⟩
 ·obtain⟨i,v,o,u,_,_,_,B,_,U⟩:=cellOf (d h)
  exact⟨some u,o,kp _ _ U,B⟩
 ·show yc cl H s.heap.objs.size=none
  unfold yc;split
  ·rfl
  ·exact g.hok.fresh (Jf _)
 ·show ((vs++vals).map some).length=(ps++cl.map (·.1)).length
  rw[Je,Jc,Jc,Je,J,la.len]
end
theorem mF {sc:Scope}{env:Env}(h:∀ x,(x,NameKind.free)∈sc.names->∃ c,env.cells.lookup x=some c) :
  ∃ cl,closureFor sc env=pure cl/\cl.map (·.1)=((sc.names.filter λy=>y.2 == .free).map (·.1)).reverse/\∀ p∈cl,env.cells.lookup p.1=some p.2:=by
 unfold closureFor
 have key:∀ (l:List (Str × NameKind)) (acc:List (Str × JI)),(∀ x,(x,NameKind.free)∈l->∃ c,env.cells.lookup x=some c)->(∀ p∈acc,env.cells.lookup p.1=some p.2) ->
   ∃ cl,(forIn l acc λ(y:Str × NameKind) (r:List (Str × JI))=>(match y with|(name,kind)=>if (kind == NameKind.free)=true then do let a <- cellOf env name;pure (ForInStep.yield ((name,a)::r)) else pure (ForInStep.yield r):Sem (ForInStep (List (Str × JI)))))=pure cl/\cl.map (·.1)=((l.filter λy=>y.2 == .free).map (·.1)).reverse++acc.map (·.1)/\∀ p∈cl,env.cells.lookup p.1=some p.2:=by
  intro l
  induction l with
  | nil=>intro acc _ e;exact⟨acc,rfl,rfl,e⟩
  | cons y l ih =>
   intro acc j e;obtain⟨x,f⟩:=y;rw[Z2];by_cases c:(f == NameKind.free)=true
   ·have n:f=.free:=by
     cases f<;>first|rfl|cases c
    subst n;obtain⟨a,k⟩:=j x (.head _)
    obtain⟨cl,d,e2,b⟩:=ih ((x,a)::acc) (λz g=>j z (.tail _ g)) (λp i=>by
     rcases Jr.mp i with rfl|q
     ·exact k
     ·exact e p q)
    refine⟨cl,?_,?_,b⟩
    ·have o:cellOf env x=pure a:=by unfold cellOf;rw[k]
     simp only[o,pure_bind];exact d
    ·rw[e2,List.filter_cons,Jj (show ((x,NameKind.free).2 == NameKind.free)=true from rfl),JY (l:=List.filter _ l),List.reverse_cons,JV];rfl
   ·obtain⟨cl,d,e2,b⟩:=ih acc (λz g=>j z (.tail _ g)) e
    refine⟨cl,?_,?_,b⟩
    ·simp only[c,pure_bind]
     exact d
    ·rw[e2,List.filter_cons,Jg c]
 obtain⟨cl,d,e2,b⟩:=key sc.names [] h (λp i=>(Jx i).elim);refine⟨cl,?_,by rw[e2,List.map_nil,Y6],b⟩;have s:=JS (λ(m:Sem (List (Str × JI)))=>m >>= λr=>pure r) d;exact s.trans (pure_bind _ _)
def TabOk (H:Hp)(qual:Str)(l:List (Pos × JI)):Prop:=∀ p∈l,∃ (a:Obj) (fs:Array Jo) (t:Tok),H p.2=some (FZ a)/\a.data=.fields fs/\fs[1]?=some (.str qual t)
theorem TabOk.frz {H H':Hp}{qual:Str}{l:List (Pos × JI)}(h:TabOk H qual l)(z:∀ b o u,H b=some (.frz o u)->H' b=some (.frz o u)):TabOk H' qual l:=λp c=>by
 obtain⟨a,fs,t,e,d⟩:=h p c;exact⟨a,fs,t,z _ _ _ e,d⟩
theorem rN (pos:Pos):∀ l:List (Pos × JI),codeAmong pos (triples l)=none\/∃ p∈l,codeAmong pos (triples l)=some (.ref p.2)
 | []=>.inl rfl
 | (q,a)::l=>by
  show (if (((q.line:Int) == pos.line && (q.col:Int) == pos.col)=true) then some (Value.ref a) else codeAmong pos (triples l))=none\/∃ p∈(q,a)::l,(if (((q.line:Int) == pos.line && (q.col:Int) == pos.col)=true) then some (Value.ref a) else codeAmong pos (triples l))=some (.ref p.2);split
  ·exact .inr ⟨_,.head _,rfl⟩
  ·rcases rN pos l with h|⟨p,b,h⟩
   ·exact .inl h
   ·exact .inr ⟨p,.tail _ b,h⟩
theorem vP:∀ l:List (Pos × JI),TriplesOk (triples l)
 | []=>trivial
 | (q,a)::l=>vP l
structure CodeK (K:Jl) (mg:Str->Option Jo) (base:YP) (c P:JI):Prop where
 hd:PySem.W.codeHdIn K c P=true
 blt:base.BuiltinsAt mg P
 gP:mainGlobals≠P
structure LamRaw (H:Hp) (f:JI) (L:Lam) (cl:List (Str × JI)):Prop where
 ex:∃ (pm:Jo) (c:JI) (ct:Jo) (oc:Obj) (fs:Array Jo) (t:Tok),H f=some (FZ (ni L cl pm c ct))/\H c=some (FZ oc)/\oc.data=.fields fs/\fs[1]?=some (.str L.qual t)
def CellsOf (env:Env)(cl:List (Str × JI)):Prop:=∀ p∈cl,env.cells.lookup p.1=some p.2
def zcd (env:Env)(P:JI)(L:Lam)(fr:List Str):TE:=λ_ H Q=>∃ l,H P=some (.tbl (triples l).toArray)/\TabOk H L.qual l /\
 ∀ f cl c a,cl.map (·.1)=fr->CellsOf env cl->H f=none->LamRaw a f L cl->a P=some (.tbl (triples c).toArray)->TabOk a L.qual c->(∀ b o,H b=some o->b≠P->a b=some o)->Q (.ref f) a
section
variable {X:Cx}{pins:List (JI × Obj)}{σ:St}{H:Hp}{s:JO}{h':YP}
theorem Inv.tab {P:JI}{ps more:Array Jo}{tk:Nat}(I:Inv X pins σ H s)(d:H P=some (.tbl ps))(k:Heap.ExtBut P s.heap h')(new:h'.get? P=some (PySem.W.tabObj (ps++more))):Inv X pins σ (upd H P (.tbl (ps++more))) { s with heap:=h',toks:=tk }:=by
 have ne:∀ {b:JI},H b=none->b≠P:=λe z=>by rw[z,d]at e;cases e
 have a:∀ {b:JI}{o:HO},H b=some o->(∀ q,o≠.tbl q)->upd H P (.tbl (ps++more)) b=some o:=λ{b o} e n=>by
  rw[zK];· exact e
  ·intro z
   rw[z,d]at e;exact n ps (Jq e).symm
 refine I.step (g':=s.gens) (d':=s.drawn) (ch:=[]) (λb j=>(Jx j).elim) (λb o _ _ _ e n=>k b o (ne n) e) (λb o _ _ _ e n=>⟨o.slots,k b o (ne n) e⟩) (λb o _ e n=>by rw[zK (ne n)];exact n) (λb o _ e=>?_) (λb f e=>a e λq z=>by cases z) (λb o u e=>a e λq z=>by cases z) (λb t e=>?_) (λm i=>?_) (λb u e=>?_) I.bare
 ·by_cases c:b=P
  ·subst c;exact⟨_,new⟩
  ·exact⟨o,k b o c e⟩
 ·by_cases c:b=P
  ·subst c
   rw[d]at e;cases e;exact⟨more,zG⟩
  ·exact⟨#[],by rw[zK c,e];simp⟩
 ·obtain⟨o,l,p,h,r⟩:=i
  exact⟨o,l,p,k _ o (ne I.free) h,r⟩
 ·by_cases c:b=P
  ·subst c
   rw[zG]at e;cases e;exact new
  ·rw[zK c]at e
   refine(I.hok b u e).stay (λx v g q=>k x v ?_ q) (λx q=>a q λz y=>by cases y) λx f q=>a q λz y=>by cases y
   rcases g with z|z
   ·rw[z];exact c
   ·rintro rfl
    rw[d]at z;cases z
theorem zaT {params:Arguments}{body:Expr}{scope:Scope}{pos:Pos}{c P:JI}{fr:List Str}(N:CodeK X.K X.mg X.base c P)(i:X.env.code=.ref c)(B:defaultsOf params X.env=([],[]))(r:∀ x,(x,NameKind.free)∈scope.names->X.env.kindOf x=some .cell\/X.env.kindOf x=some .free)(S:((scope.names.filter λy=>y.2 == .free).map (·.1)).reverse=fr) :
  PE X (.Lambda params body scope pos) (zcd X.env P ⟨params,body,scope,X.env.qual++"<lambda>"⟩ fr):=by
 intro pins s σ H Q I h;obtain⟨l,w,tok,q⟩:=h;obtain⟨cl,A,m,z⟩:=mF (sc:=scope) (env:=X.env) λx hx=>I.ok.has x (r x hx);rw[S]at m;have Y:s.heap.Ns mainGlobals X.mg:=I.mod.glob.keeps I.bk;have Z:s.heap.BuiltinsAt X.mg P:=N.blt.keeps I.bk;have C:=PySem.W.codeHd_of_K I.kIn N.hd;have E:s.heap.get? P=some (PySem.W.tabObj (triples l).toArray):=I.hok P _ w;refine PySem.W.kla_eval B ?_;rcases rN pos l with hn|⟨p,K,hy⟩
 ·refine PySem.W.kla_makeFunction A I.ok.glob Y i C E (by rw[List.toList_toArray];exact vP l) (by rw[List.toList_toArray];exact hn) N.gP Z λd f h' tk ex lo hi cr U=>?_
  obtain⟨c2,j,fs,t,ec,g1,g2,g3⟩:=cr;cases ec;have V:P<s.heap.objs.size:=Jp E;have sz:s.heap.objs.size<=h'.objs.size:=JK lo (Nat.le_of_lt hi);have cP:d≠P:=Z9 (JL V lo);have fP:h'.objs.size≠P:=Z9 (JL V sz);have M:d≠h'.objs.size:=JD hi
  have L:(triples l).toArray++#[rawInt pos.line,rawInt pos.col,.ref d]=(triples (l++[(pos,d)])).toArray:=by
   rw[triples_append];simp
  rw[L]at U;have D:=I.tab (tk:=tk) (h':=h'.push (ni ⟨params,body,scope,X.env.qual++"<lambda>"⟩ cl ((X.mg "__name__").getD .none) d f)) (more:=#[rawInt pos.line,rawInt pos.col,.ref d]) w (λb o n e=>J8 _ (ex b o n e)) (by rw[L];exact J8 _ U);rw[L]at D;have W:H d=none:=I.hok.fresh lo;have J:H h'.objs.size=none:=I.hok.fresh sz;have m1:upd H P (.tbl (triples (l++[(pos,d)])).toArray) d=none:=by rw[zK cP];exact W
  have I2:=D.adopt (o:=FZ j) (I.fpOk lo m1) (nv (J8 _ g1));have m2:upd (upd H P (.tbl (triples (l++[(pos,d)])).toArray)) d (FZ j) h'.objs.size=none:=by rw[zK M.symm,zK fP];exact J
  have I3:=I2.adopt (o:=FZ (ni ⟨params,body,scope,X.env.qual++"<lambda>"⟩ cl ((X.mg "__name__").getD .none) d f)) (I.fpOk sz m2) (nv (Js _ rfl))
  have keep:∀ b o,H b=some o->b≠P->upd (upd (upd H P (.tbl (triples (l++[(pos,d)])).toArray)) d (FZ j)) h'.objs.size (FZ (ni ⟨params,body,scope,X.env.qual++"<lambda>"⟩ cl ((X.mg "__name__").getD .none) d f)) b=some o:=λb o e n=>by
   rw[zK (zJ e J),zK (zJ e W),zK n];exact e
  refine⟨.ref h'.objs.size,_,I3,rfl,q _ cl (l++[(pos,d)]) _ m z J ⟨_,d,f,j,fs,t,zG,by rw[zK M];exact zG,g2,g3⟩ (by rw[zK fP.symm,zK cP.symm];exact zG) (λp K=>?_) keep⟩;rcases Jv.mp K with O|is
  ·obtain⟨R,T,t',v,G,F⟩:=tok p O
   exact⟨R,T,t',keep _ _ v (wE v w (λy=>by cases y)),G,F⟩
  ·rw[Jd.mp is]
   exact⟨j,fs,t,by rw[zK M];exact zG,g2,g3⟩
 ·obtain⟨j,fs,t,v,G,F⟩:=tok p K
  refine PySem.W.kla_makeFunctionHit A I.ok.glob Y i C E (by rw[List.toList_toArray];exact vP l) (by rw[List.toList_toArray];exact hy) Z λf h' tk k sz=>?_;have kk:∀ b o,s.heap.get? b=some o->(h'.push (ni ⟨params,body,scope,X.env.qual++"<lambda>"⟩ cl ((X.mg "__name__").getD .none) p.2 f)).get? b=some o:=λb o e=>J8 _ (k b o e);have g:=I.hok.fresh (a:=h'.objs.size) sz;have D:=I.laid (a:=h'.objs.size) (o:=FZ (ni ⟨params,body,scope,X.env.qual++"<lambda>"⟩ cl ((X.mg "__name__").getD .none) p.2 f)) (t':=tk) kk sz (nv (Js _ rfl));refine⟨.ref h'.objs.size,_,D,rfl,q _ cl l _ m z g ⟨_,p.2,f,j,fs,t,zG,by rw[zK (zJ v g)];exact v,G,F⟩ (by rw[zK (zJ w g)];exact w) (tok.frz λb o u e=>by rw[zK (zJ e g)];exact e) λb o e _=>by rw[zK (zJ e g)];exact e⟩
end
def CellsAt (H:Hp)(cs:List (Str × JI))(vals:List V):Prop:=cs.length=vals.length/\∀ (i:Nat) x c v,cs[i]?=some (x,c)->vals[i]?=some v->∃ o u,H c=some (FZ o)/\o.data=.cell (some u)/\RelV v u
theorem CellsAt.fz {H:Hp}{cs:List (Str × JI)}{vals:List V}(h:CellsAt H cs vals):CellsFz cs H:=λb j=>by
 obtain⟨⟨x,c⟩,g,rfl⟩:=JE.mp j;obtain⟨i,a,e⟩:=Zb.mp g;have f:i<vals.length:=by rw[<- h.1];exact a
 obtain⟨o,u,d,_⟩:=h.2 i x c vals[i] (by rw[J7 a,e]) (J7 f);exact⟨o,d⟩
theorem LamRaw.at_ {H:Hp}{f:JI}{L:Lam}{cl cs:List (Str × JI)}{vals ws:List V}(r:LamRaw H f L cl)(h:CellsAt H cs vals)(n1:(cl.map (·.1)).Nodup)(d:(cl.map (·.2)).Nodup)(len:cl.length=ws.length)(sub:∀ (i:Nat) x c v,cl[i]?=some (x,c)->ws[i]?=some v->∃ j:Nat,cs[j]?=some (x,c)/\vals[j]?=some v):LamAt H f L cl ws:=by
 refine⟨r.ex,len,λi x c v a b=>?_,n1,d⟩;obtain⟨j,e,e2⟩:=sub i x c v a b;exact h.2 j x c v e e2
def zaz (env:Env)(xs:List (Str × Nat))(sp:Sp)(E:XK)(t:TA):TE:=λσ H Q=>t σ H λd c=>∃ vals:List V,vals.length=xs.length/\(∀ (j:Nat) x i v,xs[j]?=some (x,i)->vals[j]?=some v->σ[i]?=some (some v)) /\
 ∀ cs a,cs.map (·.1)=xs.map (·.1)->CellsOf env cs->(cs.map (·.2)).Nodup->CellsAt a cs vals->(∀ b,b∉cs.map (·.2)->a b=c b)->(∀ b∈cs.map (·.2),c b=none)->sp d a (λv e=>Q v (yc cs e)) E
section
variable {X:Cx}{pins:List (JI × Obj)}{σ:St}{H:Hp}{s:JO}
theorem Inv.cells {xs:List (Str × Nat)}{vals:List V}(I:Inv X pins σ H s)(nd:(xs.map (·.1)).Nodup)(y:∀ p∈xs,X.N[p.2]?=some p.1/\X.env.scope.names.lookup p.1=some .cell/\X.fn p.1=true)(n:vals.length=xs.length)(k:∀ (j:Nat) x i v,xs[j]?=some (x,i)->vals[j]?=some v->σ[i]?=some (some v)):∃ cs:List (Str × JI),cs.map (·.1)=xs.map (·.1)/\CellsOf X.env cs/\(cs.map (·.2)).Nodup/\cs.length=vals.length /\
   ∀ (j:Nat) x c v,cs[j]?=some (x,c)->vals[j]?=some v->∃ o u,s.heap.get? c=some o/\o.data=.cell (some u)/\RelV v u/\X.s₀.heap.objs.size<=c:=by
 induction xs generalizing vals with
 | nil =>
  cases vals with
  | nil=>exact⟨[],rfl,λp K=>(Jx K).elim,Zj,rfl,λj x c v h=>by cases h⟩
  | cons a b=>cases n
 | cons p xs ih =>
  cases vals with
  | nil=>cases n
  | cons t vals =>
   rw[JY,JT]at nd;obtain⟨cs,B,A,Q,P,O⟩:=ih (vals:=vals) nd.2 (λq f=>y q (.tail _ f)) (by simpa using n) (λj x i v a b=>k (j+1) x i v a b);obtain⟨d,l⟩:=p;obtain⟨G,w,F⟩:=y (d,l) (.head _);have J:=k 0 d l t rfl rfl;obtain⟨m,S,lo⟩:=I.loc;obtain⟨u,C,D⟩:=lo l d t G J (.inr (.inl w));rcases D with ⟨E,_⟩|⟨_,c,r,o,L,N⟩
   ·have g:X.env.scope.names.lookup d=some .local:=E
    rw[w]at g;cases g
   refine⟨(d,c)::cs,by rw[JY,JY,B],λq f=>?_,?_,by rw[JW,JW,P],λj x R v a b=>?_⟩
   ·rcases Jr.mp f with rfl|z
    ·exact r
    ·exact A q z
   ·rw[JY,JT]
    refine⟨λM=>?_,Q⟩;obtain⟨q,f,e⟩:=JE.mp M;have:=I.ok.inj q.1 d c (by rw[A q f];exact JS some e) r;exact nd.1 (by rw[<- B,<- this];exact JE.mpr ⟨q,f,rfl⟩)
   ·cases j with
    | zero =>
     cases Jq a;cases Jq b
     exact⟨o,u,L,N,C,I.ok.cab d c F r⟩
    | succ j=>exact O j x R v a b
variable {k:Nat}{f:JI}{fd:Yl}{ps:List Str}{sp:Sp}{x:Str}{p pos:Pos}{e:Expr}{es:List Expr}{t:TA}{E:XK}
theorem dY (F:FnOk X.prog X.w X.K X.mg X.base CX0 k f fd ps sp) (hr:Room k X.A) (hg:Gl X x) (hm:X.mg x=some (.ref f)) (T:PySem.W.keepIn X.K (.ref f)=true) (hb:Binds X.K fd ps []) (xs:List (Str × Nat)) (nd:(xs.map (·.1)).Nodup)
  (hk:∀ p∈xs,X.N[p.2]?=some p.1/\X.env.scope.names.lookup p.1=some .cell/\X.fn p.1=true) (ha:PA X (e::es) t) (U:(x == ("__debug__":Str))=false:=by decide) (he:starEach (e::es) X.env=(false,eval e X.env)::starEach es X.env:=by rfl) (S:(backTo pos (starEach es X.env)).any (·.1)=false:=by rfl) :
  PE X (.Call (.Name x p) (e::es) [] pos) (zaz X.env xs sp E t):=by
 intro pins s σ H Q I h;refine Zm (jT I hg hm ?_ U);refine PySem.W.callWith_K (h₀:=X.base) I.ok.mod.kin T (thn (ha pos pins s σ H _ I h) λM m ⟨vs,K,l,r,vals,vl,R,q⟩=>⟨l.kIn,?_⟩) he S;obtain⟨cs,c1,c2,c3,Z,Y⟩:=l.cells nd hk vl R
 have cell:∀ b∈cs.map (·.2),∃ y o u,X.env.cells.lookup y=some b/\m.heap.get? b=some o/\o.data=.cell (some u)/\X.s₀.heap.objs.size<=b:=λb hb=>by
  obtain⟨⟨y,c⟩,D,rfl⟩:=JE.mp hb;obtain⟨j,W,ej⟩:=Zb.mp D;have jv:j<vals.length:=by rw[<- Z];exact W
  obtain⟨o,u,G,N,_,g4⟩:=Y j y c vals[j] (by rw[J7 W,ej]) (J7 jv);exact⟨y,o,u,c2 (y,c) D,G,N,g4⟩
 have free:∀ b∈cs.map (·.2),K b=none:=λb hb=>by
  obtain⟨y,o,u,O,_⟩:=cell b hb;exact l.freeC y b O
 have nofr:∀ b∈cs.map (·.2),b∉frs X.stack:=λb hb hf=>by
  obtain⟨y,o,u,O,_,_,lo⟩:=cell b hb;rcases Jr.mp (l.stkSub b hf) with z|z
  ·exact l.cne y b O z
  ·obtain⟨_,o',ho,_⟩:=l.ok.funs.mem z
   exact absurd (JL (Jp ho) lo) (YG _)
 let B:Hp:=λb=>if b∈cs.map (·.2) then (m.heap.get? b).map FZ else K b
 have C:∀ {b:JI}{o:Obj},b∈cs.map (·.2)->m.heap.get? b=some o->B b=some (FZ o):=λ{b o} hb e=>by
  show (if b∈cs.map (·.2) then (m.heap.get? b).map FZ else K b)=_;rw[Jj hb,e];rfl
 have d:∀ b,b∉cs.map (·.2)->B b=K b:=λb hb=>Jg hb
 have g:∀ {b:JI}{o:HO},K b=some o->B b=some o:=λ{b o} e=>by
  rw[d b λhb=>by rw[free b hb]at e;cases e];exact e
 have ca:CellsAt B cs vals:=⟨Z,λi y c v a b=>by
  obtain⟨o,u,G,N,g3,_⟩:=Y i y c v a b
  exact⟨o,u,C (JE.mpr ⟨_,JP a,rfl⟩) G,N,g3⟩⟩
 have P:HOk X.prog X.w B m.heap:=λb u e2=>by
  by_cases hb:b∈cs.map (·.2)
  ·obtain⟨y,o,u',_,G,_⟩:=cell b hb
   rw[C hb G]at e2;cases e2;exact nv G
  ·rw[d b hb]at e2
   exact(l.hok b u e2).stay (λ_ _ _ z=>z) (λ_ z=>g z) λ_ _ z=>g z
 have A:=l.env0;have e2:Env0 X.prog X.w X.K X.mg X.base X.A X.stack m B:=⟨A.frames,A.mod,λb o z=>⟨(A.bs b o z).1,?_⟩,A.bsz,A.funs,λb hb=>?_,P,A.bare⟩
 rotate_left
 ·rw[d b λD=>?_];· exact(A.bs b o z).2
  ·obtain⟨y,o',u,_,_,_,lo⟩:=cell b D
   exact absurd (JL (Jp z) (JK l.ok.bsz lo)) (YG _)
 ·rw[d b λD=>nofr b D hb];exact A.frf b hb
 have z:=q cs B c1 c2 c3 ca d free;have ul:M.length=ps.length:=by rw[<- r.length];exact F.len _ _ _ _ z
 refine wpAny_call (codeAny_mono (F.run X.A X.stack m B ⟨M,[]⟩ M vs _ E hr e2 (by have:=hb m M l.kIn (by rw[Y6];exact ul);rwa [Y6]at this) r z) λrs s' J=>?_)
 cases rs with
 | error e=>exact J.elim
 | ok fl =>
  cases fl with
  | next=>exact False.elim J
  | brk=>exact False.elim J
  | cont=>exact False.elim J
  | ret u =>
   obtain⟨v,H3,os,bare,un,L,rv,qq⟩:=J
   have V:CellsFz cs H3:=λb hb=>by
    obtain⟨o,w⟩:=ca.fz b hb;exact⟨o,un.frzs b o _ w⟩
   have same:∀ b∈cs.map (·.2),∀ o,m.heap.get? b=some o->s'.heap.get? b=some o:=λb hb o e=>by
    have:=un.frzs b o _ (C hb e);exact(L b _ this).1
   refine l.after ⟨v,yc cs H3,os,bare,⟨λb o e n x y=>?_,λb o e n x y=>?_,λb o e n y=>?_,un.there,λb ys e=>?_,λb o w e=>?_,λb qs e=>?_⟩,qO L V,rv,qq⟩
   ·by_cases hb:b∈cs.map (·.2)
    ·exact same b hb o e
    ·exact un.keep b o e (by rw[d b hb];exact n) x y
   ·by_cases hb:b∈cs.map (·.2)
    ·exact⟨o.slots,same b hb o e⟩
    ·exact un.slot b o e (by rw[d b hb];exact n) x y
   ·by_cases hb:b∈cs.map (·.2)
    ·exact wY hb
    ·rw[yP hb];exact un.free b o e (by rw[d b hb];exact n) y
   ·have hb:b∉cs.map (·.2):=λhb=>by rw[free b hb]at e;cases e
    rw[yP hb];exact un.tups b ys (g e)
   ·have hb:b∉cs.map (·.2):=λhb=>by rw[free b hb]at e;cases e
    rw[yP hb];exact un.frzs b o w (g e)
   ·have hb:b∉cs.map (·.2):=λhb=>by rw[free b hb]at e;cases e
    rw[yP hb];exact un.tbls b qs (g e)
end
def zbU (cl:List (Str × JI))(H:Hp)(Q:VK):VK:=λv a=>(∀ b∈cl.map (·.2),a b=none)->Q v (back cl H a)
section
variable {CX:CXT}{P:Yo}{w:YI}{K:Jl}{mg:Str->Option Jo}{base:YP}{L:Lam}{cl:List (Str × JI)}{vals vs:List V}{ps:List Str}{f c:JI}{A:YO}{outer:List Env}{s:JO}{H:Hp}{us:List Jo}{Q:VK}{E:XK}
theorem cZ {k:Nat}(S:LamScope ps (cl.map (·.1)) L.scope) (i:Room (k+1) A) (a:Env0 P w K mg base A outer s H) (la:LamAt H f L cl vals) (r:Vals vs us) (j:vs.length=ps.length)
  (hb:∀ pm cdv ct,bindArgs (PySem.W.kla_fn "<lambda>" L.qual L.params L.body L.scope cl pm cdv ct) ⟨us,[]⟩=pure (ps.zip us))
  (d:∀ c,Room k (A.deeper (kY L cl s.heap.objs.size f c))->∃ t,PE (bK CX P w K mg base (ps++cl.map (·.1)) L cl f c A outer s H E) L.body t/\t ((vs++vals).map some) (yc cl H) (zbU cl H Q)) :
  codeAny (model P w) A (.call (.ref f) ⟨us,[]⟩) (CR CX outer P w H s Q E) s:=by
 obtain⟨pm,c,ct,B,fs,m,O,N,M,G⟩:=la.ex;have lim:s.heap.NoLimit:=a.mod.nolimit.keeps λb o e=>(a.bs b o e).1;have ul:us.length=ps.length:=by rw[<- r.length];exact j
 refine PySem.W.kla_callFunE i.depth (a.hok f _ O).1 rfl S.co S.gen rfl ⟨c,B,fs,m,rfl,(a.hok c _ N).1,M,G⟩ ?_;rw[show bindArgs _ _=_ from hb pm (.ref c) ct];refine J9 (wpAny_newFunctionEnv S.noc (λy C=>S.par y.1 (List.of_mem_zip C).1) (λR ns n=>?_) S.kind);have kp:∀ b o,s.heap.get? b=some o->R.get? b=some o:=λb o e=>(n.2 b (JD (Jp e))).trans (J8 _ e);refine⟨lim.keeps kp,PySem.W.kla_codeExpr ?_⟩;obtain⟨t,D,F⟩:=d c (i.deeper _);have I:=ai (CX:=CX) (E:=E) (c:=c) (tk:=s.toks+(ps.zip us).length) S i.hd a la r j ns kp;refine JU (D [] _ _ _ _ I F) (λu p h=>?_) λe p h=>h;obtain⟨v,l,J,x,q⟩:=h;have g:=la.fz
 have low:∀ b∈cl.map (·.2),l b=none:=λb hb=>by
  obtain⟨o,z⟩:=g b hb;exact J.base.free b o (a.hok b _ z).1 (wY hb) Jx
 obtain⟨un,ok⟩:=bZ (H':=l) J.base g a.frf (λb o z=>(a.hok b _ z).1) low J.hok;exact⟨v,_,J.os,J.bare,un,ok,x,q low⟩
end
abbrev LSpc:=List V->List V->Hp->VK->XK->Prop
structure LamQ (CX:CXT) (P:Yo) (w:YI) (K:Jl) (mg:Str->Option Jo) (base:YP) (k:Nat) (L:Lam) (fr ps:List Str) (sp:LSpc):Prop where
 S:LamScope ps fr L.scope
 len:∀ vals vs H Q E,sp vals vs H Q E->vs.length=ps.length
 bind:∀ (cl:List (Str × JI)) (us:List Jo),us.length=ps.length->∀ pm cdv ct,bindArgs (PySem.W.kla_fn "<lambda>" L.qual L.params L.body L.scope cl pm cdv ct) ⟨us,[]⟩=pure (ps.zip us)
 body:∀ (cl:List (Str × JI)) (f c:JI) (A:YO) (outer:List Env) (s:JO) (H:Hp) (vals vs:List V) (Q:VK) (E:XK),cl.map (·.1)=fr->Room k (A.deeper (kY L cl s.heap.objs.size f c))->CellsFz cl H->sp vals vs (yc cl H) Q E ->
  ∃ t,PE (bK CX P w K mg base (ps++fr) L cl f c A outer s H E) L.body t/\t ((vs++vals).map some) (yc cl H) Q
def zbB (L:Lam)(fr:List Str)(sp:LSpc)(E:XK)(i:Nat)(t:TA):TE:=λσ H Q=>∃ f,σ[i]?=some (some (.ref f))/\(∃ cl pm c d,H f=some (FZ (ni L cl pm c d)))/\t σ H λb a=>∃ cl vals,cl.map (·.1)=fr/\LamAt a f L cl vals/\sp vals b (yc cl a) (zbU cl a Q) E
section
variable {X:Cx}{CX:CXT}{k:Nat}{L:Lam}{fr ps:List Str}{sp:LSpc}{E:XK}{x:Str}{i:Nat}{p pos:Pos}{e:Expr}{es:List Expr}{t:TA}
theorem aD (F:LamQ CX X.prog X.w X.K X.mg X.base k L fr ps sp)(O:Room (k+1) X.A)(S:PE X (.Name x p) (fH i))(M:Passes CX X E)(ha:PA X (e::es) t)(R:starEach (e::es) X.env=(false,eval e X.env)::starEach es X.env:=by rfl)(m:(backTo pos (starEach es X.env)).any (·.1)=false:=by rfl) :
  PE X (.Call (.Name x p) (e::es) [] pos) (zbB L fr sp E i t):=by
 intro pins s σ H Q I h;obtain⟨f,P,⟨ax,ab,c0,ao,n⟩,q⟩:=h;refine Zm (thn (S pins s σ H (λv H'=>v=.ref f/\H'=H) I ⟨_,P,rfl,rfl⟩) λg G ⟨v,Z,A,K,ev,V⟩=>?_);subst ev V;obtain rfl:g=.ref f:=K;refine PySem.W.callWith_F ⟨_,_,_,_,(A.hok f _ n).1⟩ ?_ R m;refine thn (ha pos pins G σ Z _ A q) λo w ⟨C,B,b,r,cl,vals,j,d,z⟩=>?_;obtain⟨pm,c,ct,oc,fs,tc,T,h2,h3,h4⟩:=d.ex;have y:=F.len _ _ _ _ _ z;have ul:o.length=ps.length:=by rw[<- r.length];exact y
 have Y:LamScope ps (cl.map (·.1)) L.scope:=by rw[j];exact F.S
 refine⟨⟨_,_,_,_,(b.hok f _ T).1⟩,?_⟩;refine wpAny_call (codeAny_mono (cZ (CX:=CX) (E:=E) (Q:=Q) Y O b.env0 d r y (F.bind cl o ul) λW l=>?_) λrs J a=>?_)
 ·obtain⟨D,N,a⟩:=F.body cl f W X.A X.stack w B vals C _ E j l d.fz z
  exact⟨D,by rw[j];exact N,a⟩
 ·cases rs with
  | error e=>exact M pins σ B w e J b a
  | ok U =>
   cases U with
   | ret u=>exact b.after a
   | next=>exact False.elim a
   | brk=>exact False.elim a
   | cont=>exact False.elim a
end
abbrev LvL:=List (KN × List Int)
def zx (ps:LvL)(k:KN):Option (List Int):=(ps.find? λx=>decide (x.1=k)).map (·.2)
def wc (ps:LvL)(k:KN)(c:List Int):LvL:=if (zx ps k).isSome then ps.map λx=>if x.1=k then (x.1,c) else x else ps++[(k,c)]
def yS (c:List Int)(m:Nat):List Int:=Bn.yE c m 1
structure LAcc where
 on:LvL
 fl:List (List Int)
section
variable (step:KN->Nat->Option KN)(seen:LvL)
def go1 (s:KN)(c:List Int)(a:LAcc)(m:Nat):LAcc :=
 match step s m with
 | none=>⟨a.on,a.fl++[yS c m]⟩
 | some t=>if (zx seen t).isSome then a else ⟨wc a.on t (xU (yS c m) ((zx a.on t).getD (yS c m))),a.fl⟩
def goS (moves:List Nat)(a:LAcc)(p:KN × List Int):LAcc:=moves.foldl (go1 step seen p.1 p.2) a
def yo (moves:List Nat)(level:LvL):LAcc:=level.foldl (goS step seen moves) ⟨[],[]⟩
end
inductive LRes
 | opn
 | brk (c:List Int)
 | whl (ls:List LvL)
def yq (step:KN->Nat->Option KN)(moves:List Nat)(most:Nat):Nat->LvL->LvL->List LvL->LRes
 | 0,_,_,_=>.opn
 | n+1,level,seen,ls =>
  if level=[] then .whl ls else
  if most<seen.length+level.length then .opn else
  if (yo step (seen++level) moves level).fl≠[] then .brk (i3 (yo step (seen++level) moves level).fl) else
  yq step moves most n (yo step (seen++level) moves level).on (seen++level) (ls++[level])
def LvX (H:Hp)(x:KN × JI × V)(p:KN × List Int):Prop:=x.1=p.1/\∃ c,x.2.2=.ref c/\H c=some (.tup (p.2.map V.int))
structure LvE (H:Hp) (xs:KVN) (ps:LvL):Prop where
 ks:KsIn H xs
 pr:Paired (LvX H) xs ps
theorem uh {α β:Type}{F G:α->β->Prop}(h:∀ a b,F a b->G a b){l1:List α}{l2:List β}(p:Paired F l1 l2):Paired G l1 l2:=by
 induction p with
 | nil=>exact .nil
 | cons a _ ih=>exact .cons (h _ _ a) ih
theorem LvX.tups {H H':Hp}(t:∀ b ys,H b=some (.tup ys)->H' b=some (.tup ys)){x:KN × JI × V}{p:KN × List Int}(h:LvX H x p):LvX H' x p:=by
 obtain⟨e,c,e2,a⟩:=h;exact⟨e,c,e2,t _ _ a⟩
theorem LvE.tups {H H':Hp}(t:∀ b ys,H b=some (.tup ys)->H' b=some (.tup ys)){xs:KVN}{ps:LvL}(h:LvE H xs ps):LvE H' xs ps:=⟨h.ks.tups t,uh (λ_ _ z=>z.tups t) h.pr⟩
theorem LvE.keep {H H':Hp}(s:Same H H'){xs:KVN}{ps:LvL}(h:LvE H xs ps):LvE H' xs ps:=h.tups λb a e=>s _ _ e
theorem LvE.nil {H:Hp}:LvE H [] []:=⟨λx a=>(nomatch a),.nil⟩
theorem LvE.len {H:Hp}{xs:KVN}{ps:LvL}(h:LvE H xs ps):xs.length=ps.length:=YU h.pr
theorem cS {H:Hp}{xs:KVN}{ps:LvL}(h:Paired (LvX H) xs ps)(k:KN):(vG xs k=none/\zx ps k=none)\/∃ c r,vG xs k=some (.ref c)/\zx ps k=some r/\H c=some (.tup (r.map V.int)):=by
 induction h with
 | nil=>exact Or.inl (And.intro rfl rfl)
 | @cons x p xs ps a t ih =>
  obtain⟨e,c,e2,b⟩:=a;unfold vG zx at ih ⊢;rw[YN,YN,e];by_cases z:p.1=k
  ·rw[Jw z]
   exact .inr ⟨c,p.2,JS some e2,rfl,b⟩
  ·rw[Jn z]
   exact ih
theorem qI {H:Hp}{xs:KVN}{ps:LvL}(h:Paired (LvX H) xs ps)(k:KN):(vG xs k).isSome=(zx ps k).isSome:=by
 rcases cS h k with ⟨a,b⟩|⟨c,r,a,b,_⟩<;>rw[a,b]<;>rfl
theorem za7 {H:Hp}{xs:KVN}{ps:LvL}(h:Paired (LvX H) xs ps)(k:KN){c:JI}{r:List Int}(b:H c=some (.tup (r.map V.int))):Paired (LvX H) (xs.map λx=>if x.1=k then (x.1,x.2.1,.ref c) else x) (ps.map λx=>if x.1=k then (x.1,r) else x):=by
 induction h with
 | nil=>exact .nil
 | @cons x p xs ps a t ih =>
  refine .cons ?_ ih;dsimp only;by_cases z:p.1=k
  ·rw[Jj (a.1.trans z),Jj z];exact⟨a.1,c,rfl,b⟩
  ·rw[Jg (λy=>z (a.1.symm.trans y)),Jg z];exact a
theorem LvE.put {H:Hp}{xs:KVN}{ps:LvL}(h:LvE H xs ps){k:KN}{b c:JI}{r:List Int}(f:NKey H k b)(d:H c=some (.tup (r.map V.int))):LvE H (wb xs k b (.ref c)) (wc ps k r):=by
 unfold wb wc;rw[qI h.pr k];by_cases z:(zx ps k).isSome=true
 ·rw[Jj z,Jj z]
  refine⟨λx a=>?_,za7 h.pr k d⟩;obtain⟨y,e,rfl⟩:=JE.mp a;have:=h.ks y e;split<;>exact this
 ·rw[Jg z,Jg z]
  refine⟨λx a=>?_,Paired.snoc h.pr ⟨rfl,c,rfl,d⟩⟩;rcases Jv.mp a with y|y
  ·exact h.ks x y
  ·rw[Jd.mp y];exact f
theorem lZ {α β:Type}{F:α->β->Prop}{a1:List α}{b1:List β}(p:Paired F a1 b1){a2:List α}{b2:List β}(q:Paired F a2 b2):Paired F (a1++a2) (b1++b2):=by
 induction p with
 | nil=>exact q
 | cons a _ ih=>exact .cons a ih
theorem LvE.app {H:Hp}{xs ys:KVN}{ps a:LvL}(h:LvE H xs ps)(g:LvE H ys a):LvE H (xs++ys) (ps++a):=⟨λx b=>by
 rcases Jv.mp b with y|y
 ·exact h.ks x y
 ·exact g.ks x y,lZ h.pr g.pr⟩
theorem LvE.at_ {H:Hp}{xs:KVN}{ps:LvL}(h:LvE H xs ps){i:Nat}{p:KN × JI × V}(e:xs[i]?=some p):∃ r c,ps[i]?=some (p.1,r)/\NKey H p.1 p.2.1/\p.2.2=.ref c/\H c=some (.tup (r.map V.int)):=by
 have key:∀ {xs:KVN}{ps:LvL},Paired (LvX H) xs ps->∀ {i:Nat}{p:KN × JI × V},xs[i]?=some p->∃ q,ps[i]?=some q/\LvX H p q:=by
  intro xs ps r
  induction r with
  | nil=>intro i p h;cases h
  | cons q t ih =>
   intro i p h
   cases i with
   | zero=>cases Jq h;exact⟨_,rfl,q⟩
   | succ i=>exact ih h
 obtain⟨q,e2,d,c,b,a⟩:=key h.pr e;refine⟨q.2,c,?_,h.ks p (JP e),b,a⟩;rw[e2,d]
theorem qP {ps:LvL}{k:KN}:zx ps k=none↔∀ p∈ps,p.1≠k:=by
 unfold zx;rw[Option.map_eq_none_iff,List.find?_eq_none];constructor
 ·intro h p a e;exact h p a (Jw e)
 ·intro h p a e;exact h p a (YD e)
theorem xQ {ps:LvL}{k:KN}{r:List Int}(h:zx ps k=some r):(k,r)∈ps:=by
 unfold zx at h;obtain⟨p,a,e⟩:=Y0.mp h;have d:=List.mem_of_find?_eq_some a;have b:=List.find?_some (p:=λx:KN × List Int=>decide (x.1=k)) a;have c:=YD b;rw[<- c,<- e];exact d
theorem wF {ps:LvL}{k:KN}(h:(zx ps k).isSome=true):∃ r,(k,r)∈ps:=by
 obtain⟨r,e⟩:=ZN.mp h;exact⟨r,xQ e⟩
theorem wG {ps:LvL}{k:KN}{r:List Int}(h:(k,r)∈ps):(zx ps k).isSome=true:=by
 cases e:zx ps k with
 | some r=>rfl
 | none=>exact absurd rfl (qP.mp e _ h)
theorem xv (a b:LvL)(k:KN):(zx (a++b) k).isSome=((zx a k).isSome || (zx b k).isSome):=by
 rw[Ya,Wk];constructor
 ·intro h
  obtain⟨r,c⟩:=wF h;rcases Jv.mp c with y|y
  ·exact .inl (wG y)
  ·exact .inr (wG y)
 ·rintro (h|h)
  ·obtain⟨r,c⟩:=wF h;exact wG (Yq _ c)
  ·obtain⟨r,c⟩:=wF h;exact wG (Jz _ c)
def LvNd (ps:LvL):Prop:=(ps.map (·.1)).Nodup
theorem iK (ps:LvL)(k:KN)(r:List Int):(wc ps k r).map (·.1)=if (zx ps k).isSome then ps.map (·.1) else ps.map (·.1)++[k]:=by
 unfold wc;split
 ·rw[ZD]
  refine Wq λx a=>?_;show (if x.1=k then (x.1,r) else x).1=x.1;split<;>rfl
 ·rw[JQ];rfl
theorem LvNd.put {ps:LvL}(h:LvNd ps)(k:KN)(r:List Int):LvNd (wc ps k r):=by
 unfold LvNd;rw[iK];split
 ·exact h
 ·rename_i z
  refine List.nodup_append.mpr ⟨h,JT.mpr ⟨Jx,Zj⟩,λa f b d e=>?_⟩;rw[Jd.mp d]at e;obtain⟨p,c,rfl⟩:=JE.mp f;exact z (wG (k:=k) (r:=p.2) (by rw[<- e];exact c))
theorem sN {ps:LvL}{k:KN}{r:List Int}{p:KN × List Int}(h:p∈wc ps k r):p∈ps\/p=(k,r):=by
 unfold wc at h;split at h
 ·obtain⟨x,a,rfl⟩:=JE.mp h
  by_cases z:x.1=k
  ·rw[Jj z,z];exact .inr rfl
  ·rw[Jg z];exact .inl a
 ·rcases Jv.mp h with y|y
  ·exact .inl y
  ·exact .inr (Jd.mp y)
theorem eY (ps:LvL)(k:KN)(r:List Int):(wc ps k r).length<=ps.length+1:=by
 unfold wc;split
 ·rw[Je];lia
 ·rw[Jc];exact Jf _
theorem qH:∀ (ys xs:KVN),(ys.map (·.1)).Nodup->(∀ y∈ys,∀ x∈xs,x.1≠y.1)->wn xs ys=xs++ys
 | [],xs,_,_=>by rw[Y6];rfl
 | y::ys,xs,nd,ds=>by
  rw[JY,JT]at nd
  have e:wb xs y.1 y.2.1 y.2.2=xs++[y]:=by
   unfold wb
   have:vG xs y.1=none:=by
    unfold vG;rw[Option.map_eq_none_iff,List.find?_eq_none];exact λx a z=>ds y (.head _) x a (YD z)
   rw[this];rfl
  show List.foldl _ (wb xs y.1 y.2.1 y.2.2) ys=_;rw[e]
  have:=qH ys (xs++[y]) nd.2 λz b x a=>by
   rcases Jv.mp a with q|q
   ·exact ds z (.tail _ b) x q
   ·rw[Jd.mp q]
    exact λe=>nd.1 (JE.mpr ⟨z,b,e.symm⟩)
  rw[show List.foldl (λacc y=>wb acc y.1 y.2.1 y.2.2) (xs++[y]) ys=wn (xs++[y]) ys from rfl,this,JV];rfl
theorem pZ {H:Hp}{xs:KVN}{ps:LvL}(h:Paired (LvX H) xs ps):xs.map (·.1)=ps.map (·.1):=by
 induction h with
 | nil=>rfl
 | cons a _ ih=>rw[JY,JY,ih,a.1]
theorem LvE.merge {H:Hp}{xs ys:KVN}{ps a:LvL}(h:LvE H xs ps)(g:LvE H ys a)(nd:LvNd a)(ds:∀ q∈a,zx ps q.1=none):wn xs ys=xs++ys:=by
 refine qH ys xs (by rw[pZ g.pr];exact nd) λy d x f e=>?_;have c:y.1∈a.map (·.1):=by rw[<- pZ g.pr];exact JE.mpr ⟨y,d,rfl⟩
 obtain⟨q,i,eq⟩:=JE.mp c;have b:x.1∈ps.map (·.1):=by rw[<- pZ h.pr];exact JE.mpr ⟨x,f,rfl⟩
 obtain⟨p,j,k⟩:=JE.mp b;exact qP.mp (ds q i) p j (k.trans (e.trans eq.symm))
end L2
namespace L2
open PySem PySem.Spec PyProof.Rows Own Bn
theorem Room.u3 {k:Nat}{A:YO}(r:Room k A):A.units+3<cLine:=by have:=r.un;lia
def RowsAt (H:Hp)(as:List JI)(rs:List (List Int)):Prop:=Paired (λa r=>H a=some (.tup (r.map V.int))) as rs
theorem RowsAt.tups {H H':Hp}(t:Tups H H'){as:List JI}{rs:List (List Int)}(h:RowsAt H as rs):RowsAt H' as rs:=uh (λ_ _ e=>t _ _ e) h
structure AccOk (n m:Nat) (a:LAcc):Prop where
 on:∀ p∈a.on,p.2.length=n
 fl:∀ r∈a.fl,r.length=n
 few:a.on.length+a.fl.length<=m
theorem wk (c:List Int)(m:Nat):(yS c m).length=c.length:=by unfold yS yE;rw[Z6]
theorem pY (x y:List Int):xU x y=x\/xU x y=y:=by unfold xU;split<;>simp
theorem AccOk.go {step:KN->Nat->Option KN}{seen:LvL}{s:KN}{c:List Int}{a:LAcc}{n m k:Nat}(h:AccOk n m a)(i:c.length=n):AccOk n (m+1) (go1 step seen s c a k):=by
 have b:(yS c k).length=n:=by rw[wk,i]
 have l:=h.few;unfold go1;split
 ·refine⟨h.on,λr d=>?_,by show a.on.length+(a.fl++[yS c k]).length<=_;rw[Jc];show _+(_+1)<=_;lia⟩
  rcases Jv.mp d with z|z
  ·exact h.fl r z
  ·rw[Jd.mp z];exact b
 ·rename_i t j
  split
  ·exact⟨h.on,h.fl,by lia⟩
  ·refine⟨λp f=>?_,h.fl,by have:=eY a.on t (xU (yS c k) ((zx a.on t).getD (yS c k)));show (wc a.on t _).length+a.fl.length<=_;lia⟩
   rcases sN f with z|z
   ·exact h.on p z
   ·rw[z]
    show (xU _ _).length=n;rcases pY (yS c k) ((zx a.on t).getD (yS c k)) with e|e
    ·rw[e];exact b
    ·rw[e]
     cases g:zx a.on t with
     | none=>exact b
     | some r=>exact h.on _ (xQ g)
theorem AccOk.row {step:KN->Nat->Option KN}{seen:LvL}{s:KN}{c:List Int}{n:Nat}(b:c.length=n):∀ (moves:List Nat) {a:LAcc}{m:Nat},AccOk n m a->AccOk n (m+moves.length) (moves.foldl (go1 step seen s c) a)
 | [],a,m,h=>h
 | k::r,a,m,h=>by
  have:=AccOk.row (step:=step) (seen:=seen) (s:=s) (c:=c) b r (h.go (step:=step) (seen:=seen) (s:=s) (k:=k) b);rw[JW,show m+(r.length+1)=m+1+r.length by lia];exact this
theorem AccOk.lev {step:KN->Nat->Option KN}{seen:LvL}{n:Nat}{moves:List Nat}:∀ (level:LvL) {a:LAcc}{m:Nat},(∀ p∈level,p.2.length=n)->AccOk n m a->AccOk n (m+level.length*moves.length) (level.foldl (goS step seen moves) a)
 | [],a,m,_,h=>by rw[ZS,Nat.zero_mul];exact h
 | p::r,a,m,b,h=>by
  have:=AccOk.lev (step:=step) (seen:=seen) (moves:=moves) r (λq c=>b q (.tail _ c)) (AccOk.row (step:=step) (seen:=seen) (s:=p.1) (b p (.head _)) moves h);rw[JW,Nat.add_mul,Nat.one_mul,show m+(r.length*moves.length+moves.length)=m+moves.length+r.length*moves.length by lia];exact this
def Led (lsp:LSpc)(vals:List V)(step:KN->Nat->Option KN)(Ok:KN->Prop)(moves:List Nat)(H:Hp):Prop :=
 ∀ (c:Hp) (s:KN) (b:JI) (m:Nat) (Q:VK),Tups H c->Ok s->m∈moves->NKey c s b->(∀ a,Same c a->step s m=none->Q .non a)->(∀ a d t,Same c a->step s m=some t->NKey a t d->Q (.ref d) a)->lsp vals [.ref b,.int (m:Nat)] c Q E0
theorem Led.tups {lsp:LSpc}{vals:List V}{step:KN->Nat->Option KN}{Ok:KN->Prop}{moves:List Nat}{H H':Hp}(h:Led lsp vals step Ok moves H)(t:Tups H H'):Led lsp vals step Ok moves H':=λc s b m Q a=>h c s b m Q (t.trans a)
theorem tQ {H:Hp}{cl:List (Str × JI)}(fz:CellsFz cl H):Tups H (yc cl H):=λa c e=>by
 rw[yP]
 ·exact e
 ·intro b
  obtain⟨o,q⟩:=fz a b;rw[e]at q;cases q
theorem rq {H a:Hp}{cl:List (Str × JI)}(s:Same (yc cl H) a):Same H (back cl H a):=λb o e=>by
 by_cases c:b∈cl.map (·.2)
 ·rw[oJ c];exact e
 ·rw[xR c];exact s b o (by rw[yP c];exact e)
theorem j9 {H a:Hp}{cl:List (Str × JI)}(low:∀ b∈cl.map (·.2),a b=none):Tups a (back cl H a):=λb d e=>by
 rw[xR]
 ·exact e
 ·intro c
  rw[low b c]at e;cases e
def MvAt (K:Jl)(H:Hp)(a:JI)(xs:List V):Prop:=H a=some (.tup xs)\/∀ b,SqT K b a xs
theorem MvAt.tups {K:Jl}{H H':Hp}(t:Tups H H'){a:JI}{xs:List V}(h:MvAt K H a xs):MvAt K H' a xs:=h.imp (t _ _) id
theorem MvAt.sq {K:Jl}{H:Hp}{a:JI}{xs:List V}(h:MvAt K H a xs):SqT K H a xs:=h.elim SqT.of λz=>z H
structure Way (K:Jl) (H:Hp) (mv f:JI) (L:Lam) (fr:List Str) (lsp:LSpc) (cl:List (Str × JI)) (vals:List V) (step:KN->Nat->Option KN) (Ok:KN->Prop) (moves:List Nat) (n:Nat):Prop where
 mv:MvAt K H mv (moves.map λm=>V.int (m:Nat))
 fr:cl.map (·.1)=fr
 la:LamAt H f L cl vals
 ld:Led lsp vals step Ok moves H
 lt:∀ m∈moves,m<n
 ok:∀ s m t,Ok s->m∈moves->step s m=some t->Ok t
 n1:n<=1000
theorem Way.keep {K:Jl}{H H':Hp}{mv f:JI}{L:Lam}{fr:List Str}{lsp:LSpc}{cl:List (Str × JI)}{vals:List V}{step:KN->Nat->Option KN}{Ok:KN->Prop}{moves:List Nat}{n:Nat}(h:Way K H mv f L fr lsp cl vals step Ok moves n)(t:Tups H H')(z:∀ b o u,H b=some (.frz o u)->H' b=some (.frz o u)):Way K H' mv f L fr lsp cl vals step Ok moves n :=
 ⟨h.mv.tups t,h.fr,h.la.frz z,h.ld.tups t,h.lt,h.ok,h.n1⟩
def mj (P:Yo)(w:YI)(K:Jl)(L:Lam)(fr:List Str)(lsp:LSpc):Sp:=λe H Q _=>∃ dl ds mv f d c level seen moves cl vals step Ok n,e=[.ref dl,.ref ds,.ref mv,.ref f]/\H dl=some (DN P w dl d)/\LvE H d level/\H ds=some (DN P w ds c)/\LvE H c seen/\dl≠ds /\
 Way K H mv f L fr lsp cl vals step Ok moves n/\(∀ p∈level,Ok p.1/\p.2.length=n)/\level.length*moves.length<=10000000 /\
 ∀ p o l b fs a,Same H a->H o=none->a p=some (.tup [.ref o,.ref l])->a o=some (DN P w o b)->LvE a b (yo step seen moves level).on->a l=some (.lst (fs.map V.ref))->RowsAt a fs (yo step seen moves level).fl->Q (.ref p) a
def qN:V->Int
 | .int i=>i
 | _=>0
def iI (H:Hp):V->List Int
 | .ref a=>match H a with
  | some (.tup xs)=>xs.map qN
  | _=>[]
 | _=>[]
theorem vn {H:Hp}{a:JI}{r:List Int}(h:H a=some (.tup (r.map V.int))):iI H (.ref a)=r:=by
 show (match H a with
  | some (.tup b)=>b.map qN
  | _=>[])=r
 rw[h];show (r.map V.int).map qN=r;rw[ZD];exact List.map_id r
def tG (H:Hp):V->V->Ordering:=λu v=>cmpR (iI H u) (iI H v)
theorem mK {H:Hp}:∀ {fs:List JI}{rs:List (List Int)}{a:JI}{r:List Int},RowsAt H fs rs->H a=some (.tup (r.map V.int))->∃ h,(fs.map V.ref).foldl (x3 (tG H)) (.ref a)=.ref h/\H h=some (.tup ((rs.foldl xU r).map V.int)):=by
 intro fs rs a r h
 induction h generalizing a r with
 | nil=>intro c;exact⟨a,rfl,c⟩
 | @cons b q fs rs d _ ih =>
  intro c;show ∃ h,(fs.map V.ref).foldl (x3 (tG H)) (x3 (tG H) (.ref a) (.ref b))=.ref h/\H h=some (.tup ((rs.foldl xU (xU r q)).map V.int));have e:tG H (.ref b) (.ref a)=cmpR q r:=by unfold tG;rw[vn c,vn d]
  unfold x3 xU;by_cases z:cmpR q r=.lt
  ·rw[Jj (e.trans z),Jj z];exact ih d
  ·rw[Jg (λy=>z (e.symm.trans y)),Jg z];exact ih c
theorem bQ {H:Hp}{fs:List JI}{rs:List (List Int)}(h:RowsAt H fs rs)(ne:rs≠[]):∃ g,xx (tG H) (fs.map V.ref)=.ref g/\H g=some (.tup ((i3 rs).map V.int)):=by
 cases h with
 | nil=>exact absurd rfl ne
 | cons a t=>exact mK t a
theorem ky {H:Hp}{n:Nat}{fs:List JI}{rs:List (List Int)}(h:RowsAt H fs rs)(f:∀ r∈rs,r.length=n):∀ x∈fs.map V.ref,∀ y∈fs.map V.ref,Lx H 1 x y (tG H x y):=by
 have at_:∀ {fs:List JI}{rs:List (List Int)},RowsAt H fs rs->∀ a∈fs,∃ r∈rs,H a=some (.tup (r.map V.int)):=by
  intro fs rs h
  induction h with
  | nil=>intro a c;cases c
  | cons p _ ih =>
   intro a c;rcases Jr.mp c with rfl|z
   ·exact⟨_,.head _,p⟩
   ·obtain⟨r,d,e⟩:=ih a z
    exact⟨r,.tail _ d,e⟩
 intro x j y i;obtain⟨a,c,rfl⟩:=JE.mp j;obtain⟨b,bm,rfl⟩:=JE.mp i;obtain⟨r,d,g⟩:=at_ h a c;obtain⟨q,k,e2⟩:=at_ h b bm;unfold tG;rw[vn g,vn e2];exact jP g e2 (by rw[f r d,f q k])
structure NewOk (seen:LvL) (Ok:KN->Prop) (a:LAcc):Prop where
 nd:LvNd a.on
 new:∀ p∈a.on,zx seen p.1=none
 ok:∀ p∈a.on,Ok p.1
section
variable {step:KN->Nat->Option KN}{seen:LvL}{Ok:KN->Prop}{moves:List Nat}
theorem NewOk.go {s:KN}{c:List Int}{a:LAcc}{k:Nat}(h:NewOk seen Ok a)(f:∀ t,step s k=some t->Ok t):NewOk seen Ok (go1 step seen s c a k):=by
 unfold go1;split
 ·exact⟨h.nd,h.new,h.ok⟩
 ·rename_i t d
  split
  ·exact h
  ·rename_i z
   refine⟨h.nd.put _ _,λp b=>?_,λp b=>?_⟩
   ·rcases sN b with y|y
    ·exact h.new p y
    ·rw[y]
     cases e:zx seen t with
     | none=>rfl
     | some r=>rw[e]at z;exact absurd rfl z
   ·rcases sN b with y|y
    ·exact h.ok p y
    ·rw[y];exact f t d
theorem NewOk.row {s:KN}{c:List Int}:∀ (ms:List Nat) {a:LAcc},NewOk seen Ok a->(∀ m∈ms,∀ t,step s m=some t->Ok t)->NewOk seen Ok (ms.foldl (go1 step seen s c) a)
 | [],a,h,_=>h
 | k::r,a,h,q=>NewOk.row r (h.go (q k (.head _))) λm hm=>q m (.tail _ hm)
theorem NewOk.lev:∀ (level:LvL) {a:LAcc},NewOk seen Ok a->(∀ p∈level,∀ m∈moves,∀ t,step p.1 m=some t->Ok t)->NewOk seen Ok (level.foldl (goS step seen moves) a)
 | [],a,h,_=>h
 | p::r,a,h,q=>NewOk.lev r (NewOk.row moves h (q p (.head _))) λm hm=>q m (.tail _ hm)
theorem tL (level:LvL)(q:∀ p∈level,∀ m∈moves,∀ t,step p.1 m=some t->Ok t):NewOk seen Ok (yo step seen moves level) :=
 NewOk.lev level ⟨Zj,λp a=>(nomatch a),λp a=>(nomatch a)⟩ q
theorem nR {n:Nat}(level:LvL)(h:∀ p∈level,p.2.length=n):AccOk n (level.length*moves.length) (yo step seen moves level):=by
 have:=AccOk.lev (step:=step) (seen:=seen) (moves:=moves) level (a:=⟨[],[]⟩) (m:=0) h ⟨λp b=>(nomatch b),λp b=>(nomatch b),Jf _⟩
 rwa [Zp]at this
end
section
variable {step:KN->Nat->Option KN}{moves:List Nat}{most m:Nat}{level seen:LvL}{ls:List LvL}
theorem uZ:yq step moves most (m+1) [] seen ls=.whl ls:=Jj rfl
theorem uc (ne:level≠[])(h:most<seen.length+level.length):yq step moves most (m+1) level seen ls=.opn:=by
 unfold yq;rw[Jg ne,Jj h]
theorem ud (ne:level≠[])(h:¬ most<seen.length+level.length)(f:(yo step (seen++level) moves level).fl≠[]):yq step moves most (m+1) level seen ls=.brk (i3 (yo step (seen++level) moves level).fl):=by
 unfold yq;rw[Jg ne,Jg h,Jj f]
theorem rH (ne:level≠[])(h:¬ most<seen.length+level.length)(f:(yo step (seen++level) moves level).fl=[]):yq step moves most (m+1) level seen ls=yq step moves most m (yo step (seen++level) moves level).on (seen++level) (ls++[level]):=by
 rw[yq,Jg ne,Jg h,Jg (not_not_intro f)]
end
def LvsAt (P:Yo)(w:YI)(H:Hp)(as:List JI)(ls:List LvL):Prop:=Paired (λa lv=>∃ b,H a=some (DN P w a b)/\LvE H b lv) as ls
theorem LvsAt.but {P:Yo}{w:YI}{H H':Hp}{as:List JI}{ls:List LvL}(h:LvsAt P w H as ls)(t:Tups H H')(k:∀ a∈as,∀ o,H a=some o->H' a=some o):LvsAt P w H' as ls:=by
 induction h with
 | nil=>exact .nil
 | @cons a lv as ls q _ ih =>
  obtain⟨c,e,le⟩:=q;exact .cons ⟨c,k a (.head _) _ e,le.tups t⟩ (ih λb d=>k b (.tail _ d))
theorem LvsAt.keep {P:Yo}{w:YI}{H H':Hp}{as:List JI}{ls:List LvL}(h:LvsAt P w H as ls)(s:Same H H'):LvsAt P w H' as ls:=h.but (Tups.of s) λa _ o e=>s a o e
def TellR (P:Yo)(w:YI)(H:Hp)(p:JI):LRes->Prop
 | .opn=>H p=some (.tup [.str "open",.non])
 | .brk c=>∃ b,H p=some (.tup [.str "breaks",.ref b])/\H b=some (.tup (c.map V.int))
 | .whl ls=>∃ l as,H p=some (.tup [.str "whole",.ref l])/\H l=some (.lst (as.map V.ref))/\LvsAt P w H as ls
def qw (P:Yo)(w:YI)(K:Jl)(L:Lam)(fr:List Str)(lsp:LSpc):Sp:=λg H Q _=>∃ e d mv f a c moves cl vals step Ok n,∃ most:Nat,g=[.ref e,.ref d,.ref mv,.ref f,.int (most:Nat)]/\NKey H a e/\H d=some (.tup (List.map V.int c))/\c.length=n/\Ok a/\Way K H mv f L fr lsp cl vals step Ok moves n/\most<=500000/\moves.length<=16/\0<most /\
 ∀ p b,Same H b->TellR P w b p (yq step moves most (most+1) [(a,c)] [] [])->Q (.ref p) b
end L2
namespace L2
open PySem PySem.Spec PyProof.Rows
abbrev e2 (elt tg iter b a:Expr)(ifs:List Expr)(scope:Scope)(pos:Pos):Expr:=.ListComp elt [⟨tg,iter,[],0⟩,⟨b,a,ifs,0⟩] scope pos
theorem j6 (elt tg iter b a:Expr)(ifs:List Expr)(scope:Scope)(pos:Pos)(it acc:Jo)(env:Env) :
  compTurn (e2 elt tg iter b a ifs scope pos) 0 it acc env=(standAt iter.pos >>= λ_=>pyNext it >>= λr=>match r with
   | none=>pure (.done .next)
   | some v=>letOwnedTupleGo tg it v >>= λ_=>assign tg env v >>= λ_ =>
    (eval a env >>= λx=>standAt a.pos >>= λ_=>foldedSetIterable a env x >>= λx=>holding [x] (pyIter x) >>= λi1=>runOwn (.compStart (e2 elt tg iter b a ifs scope pos) 1 i1 acc env) env >>= λ_ =>
     again (.compLoop (e2 elt tg iter b a ifs scope pos) 0 it acc env))):=by rfl
theorem j5 (elt tg iter b a:Expr)(scope:Scope)(pos:Pos)(it acc:Jo)(env:Env) :
  compTurn (e2 elt tg iter b a [] scope pos) 1 it acc env=(standAt a.pos >>= λ_=>pyNext it >>= λr=>match r with
   | none=>pure (.done .next)
   | some v=>letOwnedTupleGo b it v >>= λ_=>assign b env v >>= λ_ =>
    ((eval elt env >>= λx=>call (.builtin "list.append") [acc,x] >>= λ_=>pure ()) >>= λ_ =>
     again (.compLoop (e2 elt tg iter b a [] scope pos) 1 it acc env))):=by rfl
theorem mO (elt tg iter b a c:Expr)(scope:Scope)(pos:Pos)(it acc:Jo)(env:Env) :
  compTurn (e2 elt tg iter b a [c] scope pos) 1 it acc env=(standAt a.pos >>= λ_=>pyNext it >>= λr=>match r with
   | none=>pure (.done .next)
   | some v=>letOwnedTupleGo b it v >>= λ_=>assign b env v >>= λ_=>(forIn [c] true λc r=>if r=true then (isTrue c env (eval c env) >>= λok=>pure (ForInStep.yield ok)) else pure (ForInStep.yield r)) >>= λok =>
    if ok=true then
    ((eval elt env >>= λx=>call (.builtin "list.append") [acc,x] >>= λ_=>pure ()) >>= λ_ =>
     again (.compLoop (e2 elt tg iter b a [c] scope pos) 1 it acc env)) else again (.compLoop (e2 elt tg iter b a [c] scope pos) 1 it acc env)):=by rfl
section
variable {prog:Yo}{w:YI}{A:YO}{R:Result->JO->Prop}{s:JO}{elt tg iter tg1 iter1:Expr}{scope:Scope}{pos:Pos}{it acc:Jo}{env:Env}
theorem mD {ifs:List Expr}(c:codeAny (model prog w) A (.compLoop (e2 elt tg iter tg1 iter1 ifs scope pos) 1 it acc env) R s)(h:wpAny (model prog w) A (pyIter it) (λi2 z=>codeAny (model prog w) A (.compLoop (e2 elt tg iter tg1 iter1 ifs scope pos) 1 i2 acc env) R z) NoX s) :
  codeAny (model prog w) A (.compStart (e2 elt tg iter tg1 iter1 ifs scope pos) 1 it acc env) R s:=by
 refine codeAny_of_tree ?_;show wpAny _ A ((compStart (e2 elt tg iter tg1 iter1 ifs scope pos) 1 it acc env).onRaise (λx=>do noteFrame x env;standAt theWindowsPlace)) _ _ s;refine wpAny_notedAt ?_;unfold compStart;refine(show wpAny _ _ (ask >>= _) _ _ s from J0 (wpAny_askSetting (wpAny_ite ?_)));split
 ·first
   | exact J0 (J9 (J9 ⟨rfl,c⟩))
   | exact J9 ⟨rfl,c⟩
 ·apply J0;refine Z1 ?_
  first
   | exact J0 (Zd (J0 (JU h (λb d a=>J9 ⟨rfl,a⟩) λ_ _ z=>z.elim)))
   | (show wpAny _ _ (standAt iter1.pos >>= _) _ _ s;exact J0 (Zd (J0 (JU h (λb d a=>J9 ⟨rfl,a⟩) λ_ _ z=>z.elim))))
theorem j0 {o:Option Expr}(J:Nat->JO->Prop)(turn:∀ n s,J n s->Go (model prog w) A tg1 elt o it acc env R (λz=>∃ m,m<n/\J m z) s)(n:Nat)(h:J n s) :
  codeAny (model prog w) A (.compLoop (.ListComp elt [⟨tg,iter,[],0⟩,⟨tg1,iter1,o.toList,0⟩] scope pos) 1 it acc env) R s:=by
 cases o with
 | none =>
  refine codeAny_loop rfl J (λn s k=>?_) n h;show wpAny _ A ((compTurn (e2 elt tg iter tg1 iter1 [] scope pos) 1 it acc env).onRaise (λx=>do noteFrame x env;theTreesLotGoes x)) _ _ s;refine wpAny_noted ?_;rw[j5];refine J0 (Zd (J0 (JU (turn n s k) (λr a i=>?_) λ_ _ z=>z.elim)))
  cases r with
  | none=>exact J9 i
  | some v =>
   refine J0 (JU i (λ_ b q=>?_) λ_ _ z=>z.elim);refine J0 (JU q (λ_ c p=>?_) λ_ _ z=>z.elim);have g:wpAny (model prog w) A (eval elt env) (λx e=>wpAny (model prog w) A (call (.builtin "list.append") [acc,x]) (λ_ f=>∃ m,m<n/\J m f) NoX e) NoX c:=p
   exact J0 (J0 (JU g (λx d j=>J0 (JU j (λ_ e l=>J9 (J9 ⟨rfl,l⟩)) λ_ _ z=>z.elim)) λ_ _ z=>z.elim))
 | some t =>
  refine codeAny_loop rfl J (λn s k=>?_) n h;show wpAny _ A ((compTurn (e2 elt tg iter tg1 iter1 [t] scope pos) 1 it acc env).onRaise (λx=>do noteFrame x env;theTreesLotGoes x)) _ _ s;refine wpAny_noted ?_;rw[mO];refine J0 (Zd (J0 (JU (turn n s k) (λr a i=>?_) λ_ _ z=>z.elim)))
  cases r with
  | none=>exact J9 i
  | some v =>
   refine J0 (JU i (λ_ b q=>?_) λ_ _ z=>z.elim);refine J0 (JU q (λ_ c p=>?_) λ_ _ z=>z.elim);have g:wpAny (model prog w) A (isTrue t env (eval t env)) (λyes d=>if yes=true then wpAny (model prog w) A (eval elt env) (λx e=>wpAny (model prog w) A (call (.builtin "list.append") [acc,x]) (λ_ f=>∃ m,m<n/\J m f) NoX e) NoX d else ∃ m,m<n/\J m d) NoX c:=p;refine J0 (wpAny_tests_one (JU g (λyes d j=>?_) λ_ _ z=>z.elim))
   cases yes with
   | false=>exact J9 ⟨rfl,j⟩
   | true=>exact J0 (J0 (JU j (λx e l=>J0 (JU l (λ_ f u=>J9 (J9 ⟨rfl,u⟩)) λ_ _ z=>z.elim)) λ_ _ z=>z.elim))
theorem j3 {ifs:List Expr}(J:Nat->JO->Prop)(turn:∀ n s,J n s->wpAny (model prog w) A (pyNext it) (λr a=>match r with
   | none=>R (.ok .next) a
   | some v=>wpAny (model prog w) A (letOwnedTupleGo tg it v) (λ_ b=>wpAny (model prog w) A (assign tg env v) (λ_ c=>wpAny (model prog w) A (eval iter1 env) (λx d=>wpAny (model prog w) A (pyIter x) (λi1 e =>
     codeAny (model prog w) A (.compStart (e2 elt tg iter tg1 iter1 ifs scope pos) 1 i1 acc env) (λr f=>match r with|.ok _=>∃ m,m<n/\J m f|.error _=>False) e) NoX d) NoX c) NoX b) NoX a) NoX s)(n:Nat)(h:J n s)(j:∀ x,foldedSetIterable iter1 env x=pure x) :
  codeAny (model prog w) A (.compLoop (e2 elt tg iter tg1 iter1 ifs scope pos) 0 it acc env) R s:=by
 refine codeAny_loop rfl J (λn s k=>?_) n h;show wpAny _ A ((compTurn (e2 elt tg iter tg1 iter1 ifs scope pos) 0 it acc env).onRaise (λx=>do noteFrame x env;theTreesLotGoes x)) _ _ s;refine wpAny_noted ?_;rw[j6];refine J0 (Zd (J0 (JU (turn n s k) (λr a i=>?_) λ_ _ z=>z.elim)))
 cases r with
 | none=>exact J9 i
 | some v =>
  refine J0 (JU i (λ_ b q=>?_) λ_ _ z=>z.elim);refine J0 (JU q (λ_ c p=>?_) λ_ _ z=>z.elim);refine J0 (JU p (λx d o=>?_) λ_ _ z=>z.elim);refine J0 (Zd (J0 (wpAny_of_eq (j x) (J0 (Yf (JU o (λi1 e l=>?_) λ_ _ z=>z.elim))))));refine J0 (wpAny_runOwn (codeAny_mono l (λr f g=>?_)))
  cases r with
  | ok t=>exact J9 ⟨rfl,g⟩
  | error x=>exact g.elim
end
def LCW1 (J:It)(g:TG)(tt:TT)(k:TE)(l:JI)(Q:List V->St->Hp->Prop)(W:Nat->Nat->List V->St->Hp->Prop):Prop :=
 ∀ i m acc c d,W i m acc c d->d l=some (.lst acc) /\
  ((J.stop i d/\Q acc c d)\/(J.go i d/\∀ x j,J.yld i d x j->g x c j λa n=>tt a n λb h =>
   if b=true then k a h λy f=>f l=some (.lst acc)/\acc.length<sizeLine/\∃ e,e<m/\W (i+1) e (acc++[y]) a (upd f l (.lst (acc++[y])))
   else ∃ e,e<m/\W (i+1) e acc a h))
def zbC (cap:List (Option Nat))(n:TI)(g:TG)(d:TI)(q:TG)(tt:TT)(o:TE):TE:=λσ H Q=>n σ H λJ j=>∀ l,j l=none ->
 ∃ W:Nat->Nat->List V->St->Hp->Prop,(∃ m,W 0 m [] (gX cap σ) (upd j l (.lst []))) /\
  ∀ i m acc c a,W i m acc c a->a l=some (.lst acc)/\((J.stop i a/\Q (.ref l) a)\/(J.go i a/\∀ x h,J.yld i a x h->g x c h λb t=>d b t λr s =>
   ∃ f:Nat->Nat->List V->St->Hp->Prop,(∃ p,f 0 p acc b s)/\LCW1 r q tt o l (λac k G=>∃ e,e<m/\W (i+1) e ac k G) f))
theorem cW {X:Cx}{elt tg iter P B:Expr}{o:Option Expr}{scope:Scope}{pos ba:Pos}{wi bu:TI}{g g1:TG}{tt:TT}{te:TE}{N':List Str}{cap:List (Option Nat)}{use:Option (Jo->Sem Unit)}{Q0:Jo->JO->Prop}(hc:X.calm=true)(hi:PI X tg iter wi)(ck:CapOk X.N N' X.env.scope scope cap)(hg:∀ C s₀ H₀ fp pins,PG (ya X N' scope C s₀ H₀ fp pins) tg g)(cp:∀ C s₀ H₀ fp pins,PI (ya X N' scope C s₀ H₀ fp pins) P B bu)(ct:∀ C s₀ H₀ fp pins,PG (ya X N' scope C s₀ H₀ fp pins) P g1)(ht:∀ C s₀ H₀ fp pins,PTo (ya X N' scope C s₀ H₀ fp pins) o tt)(he:∀ C s₀ H₀ fp pins,PE (ya X N' scope C s₀ H₀ fp pins) elt te)(hs:∀ x,foldedSetIterable iter X.env x=pure x)(cc:∀ C x,foldedSetIterable B (compEnvC scope (va X.env.cells scope.names []) C X.env) x=pure x){pins:List (JI × Obj)}{s:JO}{σ:St}{H:Hp}{Q:VK}(I:Inv X pins σ H s)(h:zbC cap wi g bu g1 tt te σ H Q)(fin:∀ (l C:JI) (H4:Hp) (s5:JO) (m:Str->Option Jo),Inv X pins σ H4 s5->Q (.ref l) H4->s5.heap.Ns C m->FpOk X pins H4 C->compPost (model X.prog X.w) X.A X.xe use Q0 (.ref l) C (.ok .next) s5) :
  wpAny (model X.prog X.w) X.A (comprehension (.ListComp elt [⟨tg,iter,[],0⟩,⟨P,B,o.toList,0⟩] scope pos) scope X.env ba (newList []) false (eval iter X.env) use) Q0 X.xe s:=by
 have N:∀ y∈scope.names,y.2=.free->∃ c,X.env.cells.lookup y.1=some c:=λy hy hf=>I.ok.has y.1 (ck.free y hy hf);refine wpAny_comprehension_free (use:=use) rfl hs (rG N) ck.kind ck.names (thn (hi pins s σ H _ I h) λv s1 h1=>thn h1 λdn F h2=>?_);obtain⟨it,fp,tn,J,H2,e,I2,T,b1,f2,body⟩:=h2;subst e;have bo:H2 F.heap.objs.size=none:=I2.hok.fresh (Jf _);obtain⟨W,⟨m0,w0⟩,turn⟩:=body F.heap.objs.size bo;have A:Inv X pins σ (upd H2 F.heap.objs.size (.lst [])) { F with heap:=F.heap.push { cls:=.type "list",data:=.seq ([]:List Jo).toArray },toks:=F.toks }:=I2.lnew (its:=[]) (t':=F.toks) .nil (JN _);refine JJ (wpAny_newFunctionEnv ck.nocell (by intro y hy;simp at hy) (λE M L=>?_) ck.kind);dsimp only at M L ⊢;generalize hl:F.heap.objs.size=l at *;generalize hP:F.heap.push { cls:=.type "list",dict:=none,data:=.seq ([]:List Jo).toArray }=P2 at *;generalize cP:upd H2 l (.lst [])=H3 at *;have old:∀ b o,P2.get? b=some o->E.get? b=some o:=λb o e=>L.extBut b o (JD (Jp e)) (J8 _ e);have bc:∀ b o,F.heap.get? b=some o->P2.get? b=some o:=λb o e=>hP ▸ J8 _ e
 have b6:∀ b∈fp,b<l:=λb a=>by
  obtain⟨o,e,_⟩:=T.obj _ _ b1 b a;rw[<- hl];exact Jp e
 have c1:∀ b∈fp,H3 b=none:=λb a=>by
  rw[<- cP,zK (JD (b6 b a))];exact(f2 b a).1
 have cH:P2.objs.size=l+1:=by rw[<- hP,YW,hl]
 have D:∀ x c,(va X.env.cells scope.names []).lookup x=some c->X.env.cells.lookup x=some c:=λx c e=>uH _ _ x c N (λ_ _ z=>by simp at z) e;generalize b3:({ F with heap:=P2,toks:=F.toks }:JO)=s3 at *;have w:s3.heap=P2:=by rw[<- b3]
 let Y:=ya X N' scope P2.objs.size s3 H3 fp pins
 have K:Y.Ok:=by
  refine⟨A.ok.mod,ck.kind,A.ok.glob,A.ok.blt,by show s3.heap.objs.size<=P2.objs.size;rw[w];exact Jf _,λx y c e1 e2=>A.ok.inj x y c (D x c e1) (D y c e2),λx hx=>?_,λx c hx=>absurd (show false=true from hx) Jm,A.ok.hd,A.ok.frames,.inl rfl,λb a=>⟨?_,λx c e=>?_⟩,A.bs,
   JK A.ok.bsz A.sz,λb o e a=>?_,λb a hz=>?_,A.stack,A.stkFree⟩
  ·have cb:scope.names.lookup x=some .free:=by
    rcases hx with hx|hx
    ·rcases xW hx with z|z
     ·exact absurd rfl (ck.nocell _ (vX z))
     ·exact z.2
    ·rcases xW hx with z|z
     ·exact z
     ·exact z.2
   exact wN _ _ x cb
  ·exact JD (by show b<P2.objs.size;rw[cH];exact W5 (b6 b a))
  ·exact(f2 b a).2.2.2.2.1 x c (D x c e)
  ·rcases (f2 b a).2.2.2.1 with z|z
   ·exact A.ok.noex b o e z
   ·exact absurd (JL (Jp e) (JK A.ok.bsz z)) (YG _)
  ·rcases Jr.mp (A.stkSub b hz) with z|z
   ·exact(f2 b a).2.1 z
   ·exact(f2 b a).2.2.1 z
 have cz:Inv Y [] (gX cap σ) H3 { F with heap:=E,toks:=F.toks }:=by
  refine⟨K,by show F.os=s3.os;rw[<- b3],I2.bare,by show Un _ _ _ _ s3.heap E;rw[w];exact Un.kept old,⟨_,M,λj x v e1 e2 e3=>?_⟩,λx c e=>?_,?_,λx c e=>A.freeC x c (D x c e),λp hp=>?_,λb o e=>?_,?_⟩
  ·have c4:N'[j]?=some x:=e1
   unfold gX at e2;rw[JG]at e2
   cases ec:cap[j]? with
   | none=>rw[ec]at e2;cases e2
   | some oc =>
    rw[ec]at e2
    cases oc with
    | none=>cases e2
    | some i =>
     have c2:σ[i]?=some (some v):=by
      cases ei:σ[i]? with
      | none=>simp[ei]at e2
      | some v' =>
       simp[ei]at e2;rw[e2]
     have hz:(x,some i)∈N'.zip cap:=by
      refine JP (i:=j) ?_;rw[Wy];exact⟨c4,ec⟩
     obtain⟨hN,hf,hk⟩:=ck.cap _ hz i rfl;obtain⟨m,hn,cf⟩:=A.loc;obtain⟨u,r,lk⟩:=cf i x v hN c2 (by rcases hk with z|z;exact .inr (.inl z);exact .inr (.inr z));refine⟨u,r,.inr ⟨?_,?_⟩⟩
     ·exact vq hf
     ·rcases lk with ⟨z,_⟩|⟨_,c,cx,aT⟩
      ·have z':X.env.scope.names.lookup x=some .local:=z
       rcases hk with q|q
       ·rw[q]at z';cases z'
       ·rw[q]at z';cases z'
      ·obtain⟨c',b4⟩:=wN (cells:=X.env.cells) scope.names [] x hf
       have:=D x c' b4;rw[cx]at this;cases this;obtain⟨ob,e,d⟩:=aT;rw[w]at e;exact⟨c,b4,ob,old c ob e,d⟩
  ·obtain⟨v,ob,e',d⟩:=A.cell x c (D x c e)
   rw[w]at e';exact⟨v,ob,old c ob e',d⟩
  ·refine A.hok.fresh ?_
   rw[w];exact Jf _
  ·have a8:p∈X.pn++pins:=(Jv.mp hp).elim (λz=>z) (λz=>nomatch z)
   obtain⟨e,n,ne,nf,d⟩:=A.pin p a8;rw[w]at e;refine⟨old _ _ e,n,JD (Jp e),λz=>?_,d⟩;rcases Jr.mp (A.stkSub _ z) with q|q
   ·exact ne q
   ·exact nf q
  ·have:=A.hok.kept (h':=E) (λb u q=>old b u (by rw[<- w];exact q))
   exact this b o e
  ·show (cap.map _).length=N'.length
   rw[Je,ck.len]
 have S:∀ {t:Hp},(∀ b∈fp,t b=none)->∀ b∈fp,FpOk Y [] t b:=λ{t} hn b a=>by
  refine⟨hn b a,(K.exf b a).1,K.exfs b a,.inl a,(K.exf b a).2,λp hp=>?_⟩;have a8:p∈X.pn++pins:=(Jv.mp hp).elim (λz=>z) (λz=>nomatch z);exact(f2 b a).2.2.2.2.2 p a8
 have b2:tn 0 E:=T.keep 0 _ _ b1 λb a o e=>old b o (bc b o e)
 have loop:codeAny (model X.prog X.w) X.A (.compLoop (.ListComp elt [⟨tg,iter,[],0⟩,⟨P,B,o.toList,0⟩] scope pos) 0 (.ref it) (.ref l) Y.env) (compPost (model X.prog X.w) X.A X.xe use Q0 (.ref l) P2.objs.size) { F with heap:=E,toks:=F.toks }:=by
  refine j3 (λn s'=>∃ i acc f t,Inv Y [] f t s'/\tn i s'.heap/\(∀ b∈fp,t b=none)/\W i n acc f t) ?_ m0 ⟨0,[],_,H3,cz,b2,c1,w0⟩ (cc _);rintro n s4 ⟨i,acc,a5,H4,I4,b0,b5,w4⟩;obtain⟨c9,q4⟩:=turn i n acc a5 H4 w4;rcases q4 with ⟨stop,qn⟩|⟨go,step⟩
  ·refine thn (T.done Y rfl rfl rfl hc i [] s4 a5 H4 Y.xe I4 (S b5) b0 stop) λr s5 ⟨hr,I5⟩=>?_
   subst hr;obtain⟨m,hn,_⟩:=id I5.loc;have un:Un (frs X.stack) fp H3 H4 s3.heap s5.heap:=I5.base;have b7:s3.heap.objs.size<=P2.objs.size:=by rw[w];exact Jf _
   have IX:Inv X pins σ H4 s5:=A.call' (ch:=fp) I5.os un I5.hok I5.bare λb a=>⟨(f2 b a).2.2.2.1,(f2 b a).2.1,(f2 b a).2.2.2.2.1,(f2 b a).2.2.2.2.2⟩;exact fin l P2.objs.size H4 s5 m IX qn hn (A.fpOk b7 I5.free)
  ·refine thn (T.item Y rfl rfl rfl hc i [] s4 a5 H4 Y.xe I4 (S b5) b0 go) λr s5 ⟨u,hr,h5⟩=>?_
   subst hr;refine thn h5 λ_ s6 ⟨x,H6,I6,r6,y6,a7,c0⟩=>?_;have c7:=I6.pinned (S c0) (T.obj _ _ a7);refine thn (hg _ _ _ _ _ _ s6 a5 H6 x u _ c7 r6 (step x H6 y6)) λ_ s7 ⟨bt,H7,I7,q7⟩=>?_
   have again:∀ {a4:St}{H9:Hp}{s9:JO}{U:List V},Inv Y ([]++we fp s6.heap) a4 H9 s9->(∃ m',m'<n/\W (i+1) m' U a4 H9)->∃ m,m<n/\∃ i acc f t,Inv Y [] f t s9/\tn i s9.heap/\(∀ b∈fp,t b=none)/\W i m acc f t:=λ{a4 H9 s9 U} I9 ⟨m',hm,w9⟩=>by
    refine⟨m',hm,i+1,U,a4,H9,I9.unpinned,T.keep _ _ _ a7 λb a o e=>(I9.pin (b,o) (Jz _ (Jz _ (yp a e)))).1,λb a=>?_,w9⟩;obtain⟨o,e,d⟩:=T.obj _ _ a7 b a;exact(I9.pin (b,o) (Jz _ (Jz _ (yp a e)))).2.1
   generalize ([]++we fp s6.heap:List (JI × Obj))=pz at again I7;refine thn (cp _ _ _ _ _ _ s7 bt H7 _ I7 q7) λv1 s8 h8=>thn h8 λc8 s9 h9=>?_;obtain⟨b8,R,bB,J1,H9,e1,I9,T1,bS,f9,W1,⟨m1,w1⟩,ab⟩:=h9;subst e1;have G:∀ {t:Hp},(∀ b∈R,t b=none)->∀ b∈R,FpOk Y pz t b:=λhn b a=>⟨hn b a,(f9 b a).2⟩
   have Z:codeAny (model X.prog X.w) X.A (.compLoop (.ListComp elt [⟨tg,iter,[],0⟩,⟨P,B,o.toList,0⟩] scope pos) 1 (.ref b8) (.ref l) Y.env) (λr z=>match r with|.ok _=>∃ m,m<n/\∃ i acc f t,Inv Y [] f t z/\tn i z.heap/\(∀ b∈fp,t b=none)/\W i m acc f t|.error _=>False) s9:=by
    refine j0 (λn s'=>∃ i acc f t,Inv Y pz f t s'/\bB i s'.heap/\(∀ b∈R,t b=none)/\W1 i n acc f t) ?_ m1 ⟨0,acc,bt,H9,I9,bS,λb a=>(f9 b a).1,w1⟩;rintro k t4 ⟨j,ac,a3,G4,K4,u4,v4,z4⟩;obtain⟨dd,p4⟩:=ab j k ac a3 G4 z4;rcases p4 with ⟨ao,pn⟩|⟨go1,ax⟩
    ·refine thn (T1.done Y rfl rfl rfl hc j pz t4 a3 G4 Y.xe K4 (G v4) u4 ao) λr t5 ⟨hr,K5⟩=>?_
     subst hr;exact again K5 pn
    ·refine thn (T1.item Y rfl rfl rfl hc j pz t4 a3 G4 Y.xe K4 (G v4) u4 go1) λr t5 ⟨u,hr,h5⟩=>?_
     subst hr;refine thn h5 λ_ t6 ⟨y,G6,K6,e6,d6,u6,v6⟩=>?_;have c5:=K6.pinned (G v6) (T1.obj _ _ u6);refine thn (ct _ _ _ _ _ _ t6 a3 G6 y u _ c5 e6 (ax y G6 d6)) λ_ t7 ⟨a6,G7,K7,p7⟩=>?_;refine oS (ht _ _ _ _ _ _ t7 a6 G7 _ K7 p7) λb t8 ⟨G8,K8,p8⟩=>?_
     have O:∀ {a0:St}{G9:Hp}{t9:JO}{a9:List V},Inv Y (pz++we R t6.heap) a0 G9 t9->(∃ m',m'<k/\W1 (j+1) m' a9 a0 G9)->∃ m,m<k/\∃ i acc f t,Inv Y pz f t t9/\bB i t9.heap/\(∀ b∈R,t b=none)/\W1 i m acc f t:=λ{a0 G9 t9 a9} K9 ⟨m',hm,z9⟩=>by
      refine⟨m',hm,j+1,a9,a0,G9,K9.unpinned,T1.keep _ _ _ u6 λb a o e=>(K9.pin (b,o) (Jz _ (Jz _ (yp a e)))).1,λb a=>?_,z9⟩;obtain⟨o,e,d⟩:=T1.obj _ _ u6 b a;exact(K9.pin (b,o) (Jz _ (Jz _ (yp a e)))).2.1
     cases b with
     | false =>
      rw[Jg Jm]at p8 ⊢
      exact O K8 p8
     | true =>
      rw[Jj rfl]at p8 ⊢;refine thn (he _ _ _ _ _ _ t8 a6 G8 _ K8 p8) λyv t9 ⟨yy,G9,K9,e9,cn,b9,p9⟩=>?_;refine thn (yn (X:=Y) _ t9 a6 G9 (.ref l) [yy] (.ref l) [yv] (λ_ t=>t=upd G9 l (.lst (ac++[yy]))) K9 rfl (.cons e9 .nil) ⟨l,ac,yy,rfl,rfl,cn,b9,rfl⟩) λ_ dm ⟨_,dr,c6,_,c3⟩=>?_;subst c3;exact O c6 p9
   exact mD Z (T1.self X.A 0 _ _ _ bS Z)
 exact codeAny_compStart_list loop (T.self X.A 0 _ _ _ b2 loop)
theorem zaS {X:Cx}{elt tg iter b a:Expr}{o:Option Expr}{scope:Scope}{pos:Pos}{j c:TI}{g n:TG}{tt:TT}{k:TE}{N':List Str}{cap:List (Option Nat)}(y:X.calm=true)(hi:PI X tg iter j)(z:CapOk X.N N' X.env.scope scope cap)(v:∀ C s₀ H₀ fp pins,PG (ya X N' scope C s₀ H₀ fp pins) tg g)(e:∀ C s₀ H₀ fp pins,PI (ya X N' scope C s₀ H₀ fp pins) b a c)(i:∀ C s₀ H₀ fp pins,PG (ya X N' scope C s₀ H₀ fp pins) b n)(r:∀ C s₀ H₀ fp pins,PTo (ya X N' scope C s₀ H₀ fp pins) o tt)(w:∀ C s₀ H₀ fp pins,PE (ya X N' scope C s₀ H₀ fp pins) elt k)(t:∀ x,foldedSetIterable iter X.env x=pure x:=by intro _;rfl)(d:∀ C x,foldedSetIterable a (compEnvC scope (va X.env.cells scope.names []) C X.env) x=pure x:=by intro _ _;rfl) :
  PE X (.ListComp elt [⟨tg,iter,[],0⟩,⟨b,a,o.toList,0⟩] scope pos) (zbC cap j g c n tt k):=by
 intro pins s σ H Q I h;rw[eval_ListComp];exact cW (use:=none) y hi z v e i r w t d I h λl C B D m A q u f=>⟨m,u,λE p=>⟨.ref l,B,A.gone f p,rfl,q⟩⟩
end L2
namespace Bn
open PySem L2 Own
def pw (e:Nat):Int:=((2 ^ e:Nat):Int)
def wB:Nat->List Nat->List Fk
 | 0,_=>[]
 | m+1,row=>if row.length<2 then [] else (row.take (row.length / 2)).zip row.reverse++wB m (row.take (row.length / 2))++wB m (row.drop (row.length / 2))
def xL (k:Nat):Nt:=⟨2 ^ k,(List.replicate k (wB k (List.range (2 ^ k)))).flatten,List.range (2 ^ k)⟩
theorem lO:∀ k,k<5->(xL k).forks.length<=128/\∀ f∈(xL k).forks,f.1<2 ^ k/\f.2<2 ^ k/\f.1≠f.2:=by decide +kernel
theorem iJ {k:Nat}(h:k<5):(xL k).Ok:=by
 obtain⟨a,b⟩:=lO k h;refine⟨ZX,?_,a,b,.refl _⟩;show 2 ^ k<=2 ^ 4;exact Zc (show 0<2 by decide) (show k<=4 by lia)
theorem wO:∀ (m:Nat) (row:List Nat),(wB m row).length<=m*row.length
 | 0,_=>JN _
 | m+1,row=>by
  unfold wB;split
  ·exact JN _
  ·rw[Jc,Jc,ZU,Jt]
   have a:=wO m (row.take (row.length / 2));have b:=wO m (row.drop (row.length / 2));rw[Jt]at a;rw[Y4]at b
   have c:m*min (row.length / 2) row.length+m*(row.length-row.length / 2)=m*row.length:=by
    rw[<- Nat.mul_add];congr 1;lia
   rw[Nat.succ_mul]
   grind
end Bn
namespace L2
open PySem PySem.Spec PyProof.Rows Own
def ye {α:Type}(xs ys:List α):List α:=(xs.zip ys).flatMap λp=>[p.1,p.2]
theorem xc {α:Type}:∀ (xs ys:List α),xs.length=ys.length->(ye xs ys).length=2*xs.length
 | [],[],_=>rfl
 | x::xs,y::ys,h=>by
  have h':xs.length=ys.length:=by simpa using h
  have:=xc xs ys h';show (ye xs ys).length+2=2*(xs.length+1);rw[this];lia
theorem wu {α β:Type}{f g:α->Option β}:∀ (l:List α),(∀ x∈l,f x=g x)->l.filterMap f=l.filterMap g
 | [],_=>rfl
 | x::l,h=>by
  have e:=wu l λy a=>h y (JH _ a);simp only[Wn,h x JM,e]
def by2 {α:Type}(off:Nat)(xs:List α):List α:=(List.range ((xs.length+1-off) / 2)).filterMap λk=>xs[off+2*k]?
theorem oI {α:Type}(off:Nat)(a:off<=1)(xs:List α):(by2 off xs).length=(xs.length+1-off) / 2:=by
 unfold by2
 have e:(List.range ((xs.length+1-off) / 2)).filterMap (λk=>xs[off+2*k]?)=(List.range ((xs.length+1-off) / 2)).pmap (λk (h:k<(xs.length+1-off) / 2)=>xs[off+2*k]'(by omega)) (λk h=>Y2.mp h):=by
  rw[List.pmap_eq_map_attach,<- List.filterMap_eq_map]
  conv=>lhs;rw[<- List.attach_map_subtype_val (List.range ((xs.length+1-off) / 2)),Zn]
  refine wu _ λk b=>?_;have:=Y2.mp k.2;show xs[off+2*k.1]?=some _;rw[J7 (by omega)]
 rw[e,List.length_pmap,Y7]
theorem az {α β:Type}(f:α->β)(off:Nat)(xs:List α):by2 off (xs.map f)=(by2 off xs).map f:=by
 unfold by2;rw[Je,List.map_filterMap];refine wu _ λk _=>?_;rw[JG]
theorem jz {xs:List V}{us:List Jo}(r:Vals xs us)(a:List Nat):Vals (a.filterMap λk=>xs[k]?) (a.filterMap λk=>us[k]?):=by
 induction a with
 | nil=>exact .nil
 | cons i a ih =>
  cases e:xs[i]? with
  | none =>
   have e2:us[i]?=none:=List.getElem?_eq_none_iff.mpr (by rw[<- r.length];exact List.getElem?_eq_none_iff.mp e)
   rw[List.filterMap_cons_none e,List.filterMap_cons_none e2];exact ih
  | some x =>
   obtain⟨u,e2,b⟩:=r.get e;rw[List.filterMap_cons_some e,List.filterMap_cons_some e2];exact .cons b ih
theorem ez (items:Array Jo):slicePick items none none (some 2)=((List.range ((items.size+1) / 2)).filterMap λk=>items.toList[2*k]?).toArray:=by
 have b:sliceBounds none none (some 2) items.size=(0,(items.size:Int),2):=rfl
 have c:sliceRange 0 (items.size:Int) 2=(List.range ((items.size+1) / 2)).map λk=>2*k:=by
  unfold sliceRange;have a:(2:Int) > 0:=by decide
  by_cases h:(0:Int)<items.size
  ·have e:(((items.size:Int)-0+2-1) / 2).toNat=(items.size+1) / 2:=by lia
   simp only[a,YV,h,e];apply Wq;intro k _;lia
  ·have e:items.size=0:=by simp_all
   rw[e];rfl
 unfold slicePick;rw[b];show ((sliceRange 0 (items.size:Int) 2).filterMap (items[·]?)).toArray=_;rw[c,Zn];refine JS List.toArray (wu _ λk _=>?_);simp
theorem iM (items:Array Jo):slicePick items (some 1) none (some 2)=((List.range (items.size / 2)).filterMap λk=>items.toList[1+2*k]?).toArray:=by
 have b:sliceBounds (some 1) none (some 2) items.size=(max 0 (min 1 (items.size:Int)),(items.size:Int),2):=rfl
 have c:sliceRange (max 0 (min 1 (items.size:Int))) (items.size:Int) 2=(List.range (items.size / 2)).map λk=>1+2*k:=by
  unfold sliceRange;have a:(2:Int) > 0:=by decide
  by_cases h:(1:Int)<items.size
  ·have m:max 0 (min 1 (items.size:Int))=1:=by lia
   rw[m];have e:(((items.size:Int)-1+2-1) / 2).toNat=items.size / 2:=by lia
   simp only[a,YV,h,e];apply Wq;intro k _;lia
  ·have e:items.size=0\/items.size=1:=by lia
   rcases e with e|e<;>rw[e]<;>rfl
 unfold slicePick;rw[b];show ((sliceRange (max 0 (min 1 (items.size:Int))) (items.size:Int) 2).filterMap (items[·]?)).toArray=_;rw[c,Zn];refine JS List.toArray (wu _ λk _=>?_);simp
def zcf (K:Jl)(e:TE)(d ts:TO):TE:=λσ H Q=>e σ H λx g=>d σ g λlo f=>ts σ f λo b=>o=some 2/\∃ off a c,((lo=none/\off=0)\/(lo=some 1/\off=1))/\x=.ref a/\SqL K b a c/\∀ p,b p=none->Q (.ref p) (upd b p (.lst (by2 off c)))
theorem pT {X:Cx}{e st:Expr}{lo:Option Expr}{p:TE}{n ts:TO}{t pos:Pos}(L:PE X e p)(K:PO X lo n)(G:PO X (some st) ts):PE X (.Subscript e (.Slice lo none (some st) t) pos) (zcf X.K p n ts):=by
 intro pins s σ H Q I h;refine Subscript_ (thn (L pins s σ H _ I h) λv y ⟨x,R,N,A,C⟩=>wpAny_Slice (thn (K pins y σ R _ N C) λm z ⟨ol,S,O,E,D⟩=>?_));rw[evalPart_none];refine J9 (thn (G pins z σ S _ O D) λg d ⟨o,P,M,po,B⟩=>?_);obtain⟨rfl,off,a,l,f,rfl,J,k⟩:=B;cases A;have i:Inv X pins σ P { d with heap:=d.heap.push { cls:=.type "slice",data:=.fields #[m,.none,g] } }:=M.kept (t':=d.toks) λb ob q=>J8 _ q;obtain⟨c,r,u,T⟩:=i.list J;have hlen:=r.length;show wpAny (model X.prog X.w) X.A (subscriptTail e (.Slice lo none (some st) t) (.ref a) (.ref d.heap.objs.size)) (EP X pins σ Q) X.xe { d with heap:=d.heap.push { cls:=.type "slice",data:=.fields #[m,.none,g] } };refine tail_any (ops:=[.ref a,.ref d.heap.objs.size]) u.isList.typeIs slot_list_getitem.lookup (wpAny_getItem_list_slice u.isList (Heap.IsSliceOf.new ..) E .none po (by simp) ?_ (by rw[Jh]<;>simp_all)) (by with_unfolding_all rfl)
 have F:slicePick c.toArray ol none (some 2)=((List.range ((c.length+1-off) / 2)).filterMap λk=>c[off+2*k]?).toArray:=by
  rcases f with ⟨rfl,rfl⟩|⟨rfl,rfl⟩
  ·rw[ez];simp only[Jh,Nat.sub_zero,Zp]
  ·rw[iM];simp only[Jh,Nat.add_sub_cancel]
 rw[F];have j:off<=1:=by rcases f with ⟨_,rfl⟩|⟨_,rfl⟩<;>decide
 have w:Vals (by2 off l) ((List.range ((c.length+1-off) / 2)).filterMap λk=>c[off+2*k]?):=by
  have:=jz r ((List.range ((c.length+1-off) / 2)).map λk=>off+2*k);rw[Zn,Zn]at this;unfold by2;rw[hlen];exact this
 refine⟨.ref _,_,i.laid (t':=d.toks) (o:=.lst (by2 off l)) (λb ob q=>J8 _ q) (Jf _) ⟨by rw[oI off j];omega,_,0,w,?_⟩,rfl,k _ (i.hok.fresh (Jf _))⟩;exact Js _ rfl
theorem cX {K:Jl}{a:JI}{xs:List V}{g w:TG}{h:TI}{tt:TT}{u:TE}{l:JI}{σ:St}{H:Hp}{Q:VK}(c:Nat->List V->St->Hp->Prop)(C:c 0 [] σ H)(B:∀ i acc σ H,c i acc σ H->H l=some (.lst acc)/\SqL K H a xs)(A:∀ i acc σ H x,xs[i]?=some x->c i acc σ H->g x σ H λb r=>h b r λo q =>
   ∃ d:Nat->Nat->List V->St->Hp->Prop,(∃ n,d 0 n acc b q)/\LCW1 o w tt u l (λac j G=>Nx xs.length i (c (i+1) ac j G)) d)(hd:∀ acc σ H,c xs.length acc σ H->Q (.ref l) H):∃ W:Nat->Nat->List V->St->Hp->Prop,(∃ m,W 0 m [] σ H) /\
   ∀ i m acc f H',W i m acc f H'->H' l=some (.lst acc)/\(((Itl K a).stop i H'/\Q (.ref l) H')\/((Itl K a).go i H'/\∀ x s,(Itl K a).yld i H' x s->g x f s λb r=>h b r λo q =>
    ∃ d:Nat->Nat->List V->St->Hp->Prop,(∃ n,d 0 n acc b q)/\LCW1 o w tt u l (λac j G=>∃ v,v<m/\W (i+1) v ac j G) d)):=by
 refine⟨λi m acc σ H=>m=xs.length-i/\i<=xs.length/\c i acc σ H,⟨xs.length,by simp,JN _,C⟩,?_⟩;rintro i m acc σ H ⟨rfl,hi,p⟩;obtain⟨z,k⟩:=B i acc σ H p;refine⟨z,?_⟩;by_cases t:i<xs.length
 ·refine .inr ⟨⟨xs,xs[i],k,J7 t⟩,λx s ⟨e,y⟩=>?_⟩
  subst e;exact A i acc σ _ x (y xs k) p
 ·obtain rfl:i=xs.length:=by lia
  exact .inl ⟨⟨xs,k,Jf _⟩,hd acc σ H p⟩
end L2
namespace L2
open PySem PySem.Spec PyProof.Rows Own Bn
def uz (ts:List Int):Int:=ts.foldl (λa t=>2*a+t) 0
def ui (a:Int)(xs:List Int):Int:=xs.foldl (λa x=>1000*a+x) a
def Bits (ts:List Int):Prop:=∀ t∈ts,t=0\/t=1
def Small (xs:List Int):Prop:=∀ x∈xs,0<=x/\x<1000
theorem gT {a b c d m:Int}(e:0<m)(c0:0<=c)(i:c<m)(g:0<=d)(f:d<m):compare (m*a+c) (m*b+d)=(compare a b).then (compare c d):=by
 rcases Zv a b with h|h|h
 ·have:m*a+c<m*b+d:=by
   have:=Int.mul_le_mul_of_nonneg_left (show a+1<=b by lia) (Int.le_of_lt e);rw[Int.mul_add,Int.mul_one]at this;lia
  rw[YE.mpr this,YE.mpr h];rfl
 ·subst h
  rw[Z0.mpr (rfl:a=a)];show _=compare c d;rcases Zv c d with z|z|z
  ·rw[YE.mpr z,YE.mpr (by simp_all)]
  ·rw[z]
   rw[Z0.mpr (rfl:d=d),Z0.mpr rfl]
  ·rw[YF.mpr z,YF.mpr (by simp_all)]
 ·have:m*b+d<m*a+c:=by
   have:=Int.mul_le_mul_of_nonneg_left (show b+1<=a by lia) (Int.le_of_lt e);rw[Int.mul_add,Int.mul_one]at this;lia
  rw[YF.mpr this,YF.mpr h];rfl
theorem rF {m:Int}(d:0<m):∀ {x y:List Int}{a b:Int},x.length=y.length->(∀ t∈x,0<=t/\t<m)->(∀ t∈y,0<=t/\t<m)->compare (x.foldl (λa t=>m*a+t) a) (y.foldl (λa t=>m*a+t) b)=(compare a b).then (cmpR x y)
 | [],[],a,b,_,_,_=>by
  show compare a b=(compare a b).then .eq
  cases compare a b<;>rfl
 | s::x,t::y,a,b,l,f,e=>by
  have h:=f s (.head _);have g:=e t (.head _);show compare (x.foldl _ (m*a+s)) (y.foldl _ (m*b+t))=(compare a b).then ((compare s t).then (cmpR x y));rw[rF d (by simpa using l) (λu c=>f u (.tail _ c)) λu c=>e u (.tail _ c),gT d h.1 h.2 g.1 g.2];cases compare a b<;>rfl
theorem jr {x:List Int}(h:Bits x):∀ t∈x,0<=t/\t<2:=λt a=>by rcases h t a with e|e<;>simp_all
theorem bP {x y:List Int}(l:x.length=y.length)(b:Bits x)(a:Bits y):compare (uz x) (uz y)=cmpR x y:=by
 unfold uz;rw[rF (by decide) l (jr b) (jr a)];rfl
theorem bO {a b:Int}{x y:List Int}(l:x.length=y.length)(d:Small x)(c:Small y):compare (ui a x) (ui b y)=(compare a b).then (cmpR x y):=rF (by decide) l d c
def stK (ts is:List Int):KN:=.inr ts::is.map Sum.inl
structure StOk (F c:Nat) (k:KN):Prop where
 ex:∃ ts is,k=stK ts is/\ts.length=F/\Bits ts/\is.length=c/\Small is
def bM:KN->Int
 | .inr ts::r=>ui (uz ts) (r.map λx=>match x with|.inl i=>i|.inr _=>0)
 | _=>0
theorem oF (ts is:List Int):bM (stK ts is)=ui (uz ts) is:=by
 unfold stK bM;show ui _ ((is.map Sum.inl).map _)=_;rw[ZD]
 congr 1
 exact List.map_id is
def rkH (H:Hp):V->Int
 | .ref a=>match H a with
  | some (.tup (b::r))=>ui (uz (iI H b)) (r.map qN)
  | _=>0
 | _=>0
theorem oW {H:Hp}{ts is:List Int}{b:JI}(h:NKey H (stK ts is) b):∃ t,H b=some (.tup (.ref t::is.map V.int))/\H t=some (.tup (ts.map V.int)):=by
 obtain⟨d,j,a⟩:=h;obtain⟨v,r,e,⟨t,c,f⟩,g⟩:=(show ∃ v r,d=v::r/\(∃ t,v=.ref t/\H t=some (.tup (ts.map V.int)))/\NIvs H (is.map Sum.inl) r from a)
 have key:∀ {is:List Int}{r:List V},NIvs H (is.map Sum.inl) r->r=is.map V.int:=by
  intro is
  induction is with
  | nil=>intro r h;exact h
  | cons i is ih =>
   intro r h;obtain⟨v,q,e,c,a⟩:=(show ∃ v q,r=v::q/\v=.int i/\NIvs H (is.map Sum.inl) q from h);rw[e,c,ih a];rfl
 exact⟨t,by rw[j,e,c,key g],f⟩
theorem zap {H:Hp}{ts is:List Int}{b t:JI}(c:H b=some (.tup (.ref t::is.map V.int)))(a:H t=some (.tup (ts.map V.int))):NKey H (stK ts is) b:=by
 have key:∀ is:List Int,NIvs H (is.map Sum.inl) (is.map V.int):=by
  intro is
  induction is with
  | nil=>exact rfl
  | cons i is ih=>exact⟨_,_,rfl,rfl,ih⟩
 exact⟨_,c,⟨_,_,rfl,⟨t,rfl,a⟩,key is⟩⟩
theorem eQ {H:Hp}{ts is:List Int}{b:JI}(h:NKey H (stK ts is) b):rkH H (.ref b)=bM (stK ts is):=by
 obtain⟨t,c,a⟩:=oW h
 show (match H b with
  | some (.tup (b::r))=>ui (uz (iI H b)) (r.map qN)
  | _=>0)=_
 rw[c];show ui (uz (iI H (.ref t))) ((is.map V.int).map qN)=_;rw[vn a,oF,ZD]
 congr 1
 exact List.map_id is
theorem zbT {H:Hp}{F c:Nat}{x y:KN}{a b:JI}(r:StOk F c x)(o:StOk F c y)(ha:NKey H x a)(hb:NKey H y b):Lx H 2 (.ref a) (.ref b) (compare (rkH H (.ref a)) (rkH H (.ref b))):=by
 obtain⟨k,is,rfl,E,v,D,s⟩:=r.ex;obtain⟨j,h,rfl,I,z,G,w⟩:=o.ex;rw[eQ ha,eQ hb,oF,oF,bO (by lia) s w,bP (by lia) v z];obtain⟨t,C,e2⟩:=oW ha;obtain⟨u,B,A⟩:=oW hb;have l:is.length=h.length:=by lia
 rw[show (cmpR k j).then (cmpR is h)=(cmpR k j::List.zipWith compare is h).foldr Ordering.then .eq by rw[List.foldr_cons,uY l]];refine .row C B (by rw[JW,JW,Je,ZL];simp_all) (by rw[JW,JW,Je,ZL];simp_all) λi p q d f e g=>?_
 cases i with
 | zero=>cases f;cases e;cases g;exact jP e2 A (by lia)
 | succ i =>
  rw[List.getElem?_cons_succ]at f e g;rw[JG]at f e;obtain⟨p,n,rfl⟩:=Y0.mp f;obtain⟨q,m,rfl⟩:=Y0.mp e;rw[List.getElem?_zipWith,n,m]at g;cases g;exact .int 1 p q
def KeysAt (H:Hp)(bs:List JI)(ks:List KN):Prop:=Paired (λb k=>NKey H k b) bs ks
theorem KeysAt.mem {H:Hp}{bs:List JI}{ks:List KN}(h:KeysAt H bs ks):∀ b∈bs,∃ k∈ks,NKey H k b:=by
 induction h with
 | nil=>intro b a;cases a
 | cons q _ ih =>
  intro b a;rcases Jr.mp a with rfl|z
  ·exact⟨_,.head _,q⟩
  ·obtain⟨k,c,e⟩:=ih b z
   exact⟨k,.tail _ c,e⟩
theorem LvE.keys {H:Hp}{xs:KVN}{ps:LvL}(h:LvE H xs ps):KeysAt H (xs.map λp=>p.2.1) (ps.map (·.1)):=by
 obtain⟨b,pr⟩:=h
 induction pr with
 | nil=>exact .nil
 | @cons x p xs ps a t ih =>
  refine .cons ?_ (ih λy c=>b y (.tail _ c));show NKey H p.1 x.2.1;rw[<- a.1];exact b x (.head _)
def eT (P:Yo)(w:YI):List V->Hp->VK->Prop:=λe H Q=>∃ a b d,e=[.ref a]/\H a=some (DN P w a b)/\b.length<=10000/\RkN H (b.map λp=>.ref p.2.1) d/\∀ (l:JI) (c:List V),H l=none->c.Perm (b.map λp=>.ref p.2.1)->c.Pairwise (λx y=>d x<=d y)->Q (.ref l) (upd H l (.lst c))
theorem rX {X:Cx}(b:X.calm=true)(a:X.A.units+64<cLine):CallR X (.builtin "sorted") (eT X.prog X.w):=oH b a
theorem eP {H:Hp}{F c:Nat}{xs:KVN}{lv:LvL}(h:LvE H xs lv)(ok:∀ p∈lv,StOk F c p.1):RkN H (xs.map λp=>.ref p.2.1) (rkH H):=by
 refine⟨2,by decide,λx a=>?_⟩
 have at_:∀ x∈xs.map λp=>V.ref p.2.1,∃ b k,x=.ref b/\NKey H k b/\StOk F c k:=λx a=>by
  obtain⟨p,o,rfl⟩:=JE.mp a;obtain⟨k,r,e⟩:=h.keys.mem p.2.1 (JE.mpr ⟨p,o,rfl⟩);obtain⟨q,n,rfl⟩:=JE.mp r;exact⟨_,_,rfl,e,ok q n⟩
 obtain⟨b,k,rfl,g,f⟩:=at_ x a;refine⟨?_,λy m=>?_⟩
 ·obtain⟨v,is,rfl,_⟩:=f.ex
  obtain⟨t,u,s⟩:=oW g;exact⟨b,t,_,_,rfl,u,s⟩
 ·obtain⟨d,j,rfl,l,i⟩:=at_ y m
  exact zbT f i g l
theorem cY {K:Jl}{a:JI}{zs:List V}{g:TG}{h:TE}{l:JI}{ac:List V}{σ:St}{H:Hp}{Q:List V->St->Hp->Prop}(b:Nat->List V->St->Hp->Prop)(q:b 0 ac σ H)(o:∀ i acc σ H,b i acc σ H->H l=some (.lst acc)/\SqL K H a zs)(n:∀ i x acc σ H,zs[i]?=some x->b i acc σ H->g x σ H λc r=>h c r λy j=>j l=some (.lst acc)/\acc.length<sizeLine/\Nx zs.length i (b (i+1) (acc++[y]) c (upd j l (.lst (acc++[y])))))(hd:∀ acc σ H,b zs.length acc σ H->Q acc σ H):∃ W:Nat->Nat->List V->St->Hp->Prop,(∃ m,W 0 m ac σ H)/\LCW1 (Itl K a) g mU h l Q W:=by
 refine⟨λi m acc σ H=>m=zs.length-i/\i<=zs.length/\b i acc σ H,⟨_,rfl,JN _,q⟩,λi m acc σ H ⟨em,hi,p⟩=>?_⟩;subst em;obtain⟨k,d⟩:=o i acc σ H p;refine⟨k,?_⟩;by_cases f:i<zs.length
 ·refine .inr ⟨⟨zs,zs[i],d,J7 f⟩,λx s ⟨e,y⟩=>?_⟩
  subst e;exact n i x acc σ _ (y zs d) p
 ·obtain rfl:i=zs.length:=by lia
  exact .inl ⟨⟨zs,d,Jf _⟩,hd acc σ H p⟩
theorem LvE.len_le {H:Hp}{xs:KVN}{ps:LvL}(h:LvE H xs ps){n:Nat}(l:ps.length<=n):xs.length<=n:=by rw[h.len];exact l
theorem lX {α β:Type}{f:α->β}{ys l:List β}(p:ys.Perm l):∀ {zs:List α},l=zs.map f->∃ cs:List α,ys=cs.map f/\cs.Perm zs:=by
 induction p with
 | nil=>intro zs e;cases zs with
  | nil=>exact⟨[],rfl,.refl _⟩
  | cons a b=>cases e
 | cons b _ ih =>
  intro zs e
  cases zs with
  | nil=>cases e
  | cons a zs =>
   injection e with i e2;obtain⟨cs,h,g⟩:=ih e2
   exact⟨a::cs,by rw[h,i];rfl,g.cons _⟩
 | swap b c l =>
  intro zs e
  cases zs with
  | nil=>cases e
  | cons a zs=>cases zs with
   | nil=>cases e
   | cons d zs =>
    injection e with i e2;injection e2 with e2 o
    exact⟨d::a::zs,by rw[i,e2,o];rfl,.swap _ _ _⟩
 | trans _ _ k j =>
  intro zs e;obtain⟨cs,h,g⟩:=j e;obtain⟨ds,n,m⟩:=k h;exact⟨ds,n,m.trans g⟩
end L2
namespace L2
open PySem PySem.Spec PyProof.Rows Own Bn
inductive PlO:HO->Prop
 | tup (xs:List V):PlO (.tup xs)
 | lst (xs:List V):PlO (.lst xs)
 | dK:PlO (.dK [])
def KpN (H H':Hp):Prop:=∀ b o,H b=some o->PlO o->H' b=some o
theorem KpN.same {H H':Hp}(s:Same H H'):KpN H H':=λb o e _=>s b o e
instance memN (k:KN) (ks:List KN):Decidable (k∈ks):=decidable_of_iff (ks.any (λx=>decide (x=k))=true) (by simp)
end L2
namespace Bn
open PySem L2 Own
def Deep (K:Jl)(H:Hp):Nat->V->Prop
 | 0,x=>AnyT K H x
 | n+1,x=>AnyT K H x/\∀ xs,yK H x=some xs->xs.length<=1000/\∀ y∈xs,Deep K H n y
theorem Deep.any {K:Jl}{H:Hp}:∀ {n:Nat}{x:V},Deep K H n x->AnyT K H x
 | 0,_,h=>h
 | _+1,_,h=>h.1
end Bn
namespace L2
open PySem PySem.Spec PyProof.Rows Own
theorem i8 {P:Yo}{w:YI}{K:Jl}{mg mb:Str->Option Jo}{CX:CXT}{k:Nat}{U a:JI}{fd:Yl}{x:Str}{sp:Sp}{f:JO}{vs:List Jo}{ns:List Int}(ts:List JI)
  (W:K.In f.heap) (J:f.heap.Ns mainGlobals mg) (hb:f.heap.Ns builtinsNs mb) (ab:∀ x:Str,x≠"__name__"->mb x=bootBuiltins x) (Q:f.heap.NoLimit) (hg:f.gens = #[])
  (ha:f.heap.get? a=some { cls:=.type "list",data:=.seq vs.toArray }) (hi:IntsAre vs ns) (hl:ns.length<=sizeLine) (hr:Room k callerA)
  (B:∀ p∈ts,f.heap.get? p=some (PySem.W.tabObj #[])/\K.lookup p=none/\∃ c,PySem.W.codeHdIn K c p=true)
  (Z:∃ bm ob,mg "__builtins__" = some (.ref bm)/\bm≠builtinsNs/\f.heap.get? bm=some ob/\ob.cls=.type "module"/\ob.dict=some builtinsNs/\ob.data=.plain)
  (F:∀ base:YP,K.In base->base.Ns mainGlobals mg->(∀ p∈ts,base.BuiltinsAt mg p)->FnOk P w K mg base CX k U fd [x] sp) (L:∀ (s:JO) (u:Jo),BindsTo s fd ⟨[u],[]⟩ [(x,u)])
  (Y:∀ H:Hp,SqL K H a (ns.map V.int)->(∀ p∈ts,H p=some (.tbl #[]))->sp [.ref a] H (λv _=>v=.bl true) λ_ _ _=>False)
  (ao:∀ H e i,CX [] H f (λ_ _ _=>False) e i->False) :
  codeAny (model P w) callerA (.call (.ref U) ⟨[.ref a],[]⟩) (λr i=>r=.ok (.ret (.bool true))/\OldK f.heap i.heap/\i.os=f.os/\AllBare i.gens) f:=by
 have rv:=rZ hi;have O:=hi.length
 have aT:a∉ts:=λh=>by
  have:=(B a h).1;rw[ha]at this;cases this
 have core:∀ H:Hp,(∀ b,H b=none\/(b=a/\∃ o S,H b=some (.frz o (.lst S)))\/(b∈ts/\H b=some (.tbl #[])))->(∀ p∈ts,H p=some (.tbl #[]))->SqL K H a (ns.map V.int)->HOk P w H f.heap->(H a≠none->K.lookup a=none) ->
   codeAny (model P w) callerA (.call (.ref U) ⟨[.ref a],[]⟩) (λr i=>r=.ok (.ret (.bool true))/\OldK f.heap i.heap/\i.os=f.os/\AllBare i.gens) f:=by
  intro H R hT hS M hK;have g:∀ {b:JI}{o:Obj},f.heap.get? b=some o->H b=none->(rT f.heap H).get? b=some o:=λe n=>cu e n
  have X:∀ {b:JI}{o:Obj}{D:Array DictEntry}{E:Nat},f.heap.get? b=some o->o.data=.dict D E->H b=none:=λ{b o D E} e d=>by
   rcases R b with z|⟨z,_⟩|⟨z,_⟩
   ·exact z
   ·rw[z,ha]at e
    cases e;cases (show Data.seq vs.toArray _=Data.dict D E from d)
   ·rw[(B b z).1]at e
    cases e;cases (show Data.fields #[]=Data.dict D E from d)
  have l:∀ {b:JI}{m:Str->Option Jo},f.heap.Ns b m->(rT f.heap H).Ns b m:=λ{b m} ⟨o,D,E,e,d,r⟩=>⟨o,D,E,g e (X e d),d,r⟩
  have N:K.In (rT f.heap H):=λb o e=>g (W b o e) (by
   rcases R b with z|⟨z,y⟩|⟨z,_⟩
   ·exact z
   ·obtain⟨o',S,q⟩:=y
    rw[z]at e q;rw[hK (by rw[q];simp)]at e;cases e
   ·rw[(B b z).2.1]at e;cases e)
  have hM:Mod K mg (rT f.heap H):=⟨N,l J,⟨mb,l hb,ab⟩,let ⟨mc,h1,h2⟩:=Q;⟨mc,l h1,h2⟩⟩;have e0:Env0 P w K mg (rT f.heap H) callerA [] f H:=⟨rfl,hM,λb o e=>aV e,Nat.le_of_eq (gG _ _),trivial,λb hb=>absurd (show b∈([]:List JI) from hb) (by simp),M,.of_eq hg⟩
  have hB:∀ p∈ts,(rT f.heap H).BuiltinsAt mg p:=λp C=>by
   obtain⟨bm,ob,b1,b2,I,b4,b5,t⟩:=Z;refine⟨bm,ob,b1,b2,λz=>?_,λz=>?_,g I ?_,b4,b5,t⟩
   ·obtain⟨og,D,E,e,d,_⟩:=J
    rw[<- z,I]at e;rw[<- Jq e,t]at d;cases d
   ·have e:=(B p C).1
    rw[<- z,I]at e;rw[Jq e]at t;cases t
   ·rcases R bm with z|⟨z,_⟩|⟨z,_⟩
    ·exact z
    ·rw[z,ha]at I
     rw[<- Jq I]at t;cases t
    ·rw[(B bm z).1]at I
     rw[<- Jq I]at t;cases t
  refine codeAny_mono ((F _ N (l J) hB).run callerA [] f H ⟨[.ref a],[]⟩ [.ref a] [.ref a] _ _ hr e0 (L f (.ref a)) (.cons rfl .nil) (Y H hS hT)) λr i h=>?_
  cases r with
  | error e=>exact(ao H e i h).elim
  | ok fl =>
   cases fl with
   | next=>exact False.elim h
   | brk=>exact False.elim h
   | cont=>exact False.elim h
   | ret u =>
    obtain⟨v,H',os,bare,un,A,r',q⟩:=h;have q':v=.bl true:=q;subst q';obtain rfl:u=Value.bool true:=r'
    have kept:∀ b o,f.heap.get? b=some o->b∉ts->i.heap.get? b=some o:=λb o e nb=>by
     rcases R b with z|⟨_,ob,S,z⟩|⟨z,_⟩
     ·exact un.keep b o e z (λy=>absurd (show b∈([]:List JI) from y) (by simp)) (by simp)
     ·have z2:=un.frzs b ob _ z
      obtain⟨e1,_⟩:=M b _ z;obtain⟨e2,_⟩:=A b _ z2;rw[e]at e1;cases e1;exact e2
     ·exact absurd z nb
    have tabs:∀ b∈ts,∃ more,i.heap.get? b=some (PySem.W.tabObj (#[]++more)):=λb hb=>by
     obtain⟨more,z⟩:=un.tbls b _ (hT b hb);exact⟨more,A b _ z⟩
    refine⟨rfl,⟨λb o e=>?_,λb o e=>un.there b o e (by simp)⟩,os,bare⟩;by_cases hb:b∈ts
    ·obtain⟨t1,_,c,t3⟩:=B b hb
     rw[t1]at e;cases e;obtain⟨o2,ws,_,_,_,_,_,_,_,g1,g2,g3,g4,_⟩:=PySem.W.codeHd_of_K W t3;obtain⟨more,z⟩:=tabs b hb;exact .inr (.inl ⟨⟨c,o2,ws,g1,g2,g3,g4⟩,rfl,#[],more,rfl,z⟩)
    ·exact .inl (kept b o e hb)
 have tab:∀ {H:Hp}{p:JI},p∈ts->ObjOk P w H f.heap p (.tbl #[]):=λC=>(B _ C).1
 cases T:K.lookup a with
 | some o =>
  have e:=W a o T;rw[ha]at e;cases e;refine core (λb=>if b∈ts then some (.tbl #[]) else none) (λb=>?_) (λp C=>Jj C) (.inr ⟨_,vs.toArray,_,T,rfl,rfl,rfl,by rw[Jh,O];exact hl,by simpa using rv⟩) (λb u z=>?_) λz=>absurd (Jg aT) z
  ·by_cases hb:b∈ts
   ·exact .inr (.inr ⟨hb,Jj hb⟩)
   ·exact .inl (Jg hb)
  ·by_cases hb:b∈ts
   ·have j:=(Jj hb).symm.trans z
    cases j;exact tab hb
   ·have j:=(Jg hb).symm.trans z
    cases j
 | none =>
  refine core (λb=>if b∈ts then some (.tbl #[]) else if b=a then some (.frz { cls:=.type "list",data:=.seq vs.toArray } (.lst (ns.map V.int))) else none) (λb=>?_) (λp C=>Jj C) (.inl (.inr ⟨{ cls:=.type "list",data:=.seq vs.toArray },(Jg aT).trans (Jj rfl)⟩)) (λb u z=>?_) λ_=>T
  ·by_cases hb:b∈ts
   ·exact .inr (.inr ⟨hb,Jj hb⟩)
   ·by_cases G:b=a
    ·exact .inr (.inl ⟨G,_,_,(Jg hb).trans (Jj G)⟩)
    ·exact .inl ((Jg hb).trans (Jg G))
  ·by_cases hb:b∈ts
   ·have j:=(Jj hb).symm.trans z
    cases j;exact tab hb
   ·by_cases G:b=a
    ·have j:=((Jg hb).trans (Jj G)).symm.trans z
     cases j;subst G;exact⟨ha,by rw[Je];exact hl,vs,_,rv,ha⟩
    ·have j:=((Jg hb).trans (Jg G)).symm.trans z
     cases j
theorem gx {l:PySem.W.OpenLaw}{n k:Nat}{q:Yo}{loose:List Str}{R:(Str->Option Jo)->YP->Prop}{C:YI->YP->Prop}{d:DefRec}{K:Params->Jl}{CX:CXT}{sp:Jl->Sp}{x:Str}(ts:List JI)(hn:l.most=some n)(t:n<=sizeLine)(z:d.params.defaults=[])(J:Room k callerA)(N:∀ (w:YI) (h:YP),C w h->(K w.params).In h/\∀ p∈ts,h.get? p=some (PySem.W.tabObj #[]))(F:∀ (w:YI) (mg:Str->Option Jo) (i:JI) (h:YP),(K w.params).In h->h.Ns mainGlobals mg->mg d.name=some (.ref i)->(∀ p∈ts,(K w.params).lookup p=none/\∃ c,PySem.W.codeHdIn (K w.params) c p=true) /\
   ∃ fd:Yl,(∀ (s:JO) (u:Jo),BindsTo s fd ⟨[u],[]⟩ [(x,u)]) /\
    ∀ base:YP,(K w.params).In base->base.Ns mainGlobals mg->(∀ p∈ts,base.BuiltinsAt mg p)->FnOk l.prog w (K w.params) mg base CX k i fd [x] (sp (K w.params)))(r:∀ (K:Jl) (H:Hp) (a:JI) (ns:List Int),ns.length<=n->SqL K H a (ns.map V.int)->(∀ p∈ts,H p=some (.tbl #[]))->sp K [.ref a] H (λv _=>v=.bl true) λ_ _ _=>False)(A:∀ (H:Hp) (s:JO) (e:Jo) (j:JO),CX [] H s (λ_ _ _=>False) e j->False) :
  PySem.W.WalkO q loose R C l.row.toRowW d [] (λf vs=>PySem.call f vs):=by
 refine Att.attach_call hn z λw E b mg T i o pm cd doc a vs ns G Y U W S y g hints hlen L=>?_;obtain⟨D,I⟩:=N w _ Y;obtain⟨B,fd,M,Q⟩:=F w mg i _ D G.T.g y;exact i8 ts D G.T.g G.T.b G.T.builtins G.T.nolimit L g hints (JK hlen t) J (λp m=>⟨I p m,(B p m).1,(B p m).2⟩) G.T.bmain Q M (λH P O=>r (K w.params) H a ns hlen P O) λH e j=>A H b e j
structure FunC (K:Jl) (x qual:Str) (st:Stmt) (f:JI) (fd:Yl) (c:JI):Prop where
 ex:∃ (oc:Jo) (od:Option JI) (kV doc pm:Jo) (an:Option JI) (ct:Jo) (osl:Array (Option Jo)),
  fd=PySem.W.fnOf x qual (xX st) (yx st) (zN st) .none kV doc pm an (.ref c) ct/\K.lookup f=some ⟨oc,od,.func fd,osl⟩/\PySem.W.codeIn K (.ref c) qual=true
 kp:PySem.W.keepIn K (.ref f)=true
theorem FunC.ok {P:Yo}{w:YI}{K:Jl}{mg:Str->Option Jo}{base:YP}{x qual:Str}{st:Stmt}{f c:JI}{fd:Yl}{N ps:List Str}{k:Nat}{sp:Sp}(F:FunC K x qual st f fd c)(S:FnScope N ps (zN st))(len:∀ vs H Q E,sp vs H Q E->vs.length=ps.length)(a:∀ (A:YO) (outer:List Env) (s:JO) (H:Hp) (vs:List V) (Q:VK) (E:XK),Room k (A.deeper (envOfC qual (zN st) s.heap.objs.size f (.ref c)))->sp vs H Q E ->
   ∃ t,PSs (mB CX0 P w K mg base N qual (zN st) f (.ref c) A outer s H E).nox (yx st) t/\t { nx:=λ_ i=>Q .non i,rt:=Q } (vI N vs) H):FnOk P w K mg base CX0 (k+1) f fd ps sp:=by
 obtain⟨m,l,kV,doc,pm,an,n,j,rfl,e,d⟩:=F.ex;refine zam e d S len λA outer s H vs Q E g b=>?_;obtain⟨t,h,q⟩:=a A outer s H vs Q E g b;exact⟨t,h.nox,q⟩
end L2
namespace L2
open PySem PySem.Spec PyProof.Rows Own Bn
def vK (N:Nt)(ts:List Int)(lane:Nat):List Int:=(yB false N.forks ts lane N.forks.length).1
def passE (N:Nt)(ts:List Int)(lane:Nat):Nat:=N.ends.idxOf (yB false N.forks ts lane N.forks.length).2
def xD (N:Nt):KN->Nat->Option KN
 | [.inr ts,.inl r],m=>if ((passE N ts m:Nat):Int)=r then some (stK (vK N ts m) [(r+1)%(N.lanes:Nat)]) else none
 | _,_=>none
def OkP (N:Nt)(k:KN):Prop:=∃ (a:List Int) (r:Nat),k=stK a [(r:Nat)]/\a.length=N.forks.length/\Bits a/\r<N.lanes
theorem OkP.st {N:Nt}(ok:Nt.Ok N){k:KN}(h:OkP N k):StOk N.forks.length 1 k:=by
 obtain⟨a,r,rfl,d,c,e⟩:=h;refine⟨a,[(r:Nat)],rfl,d,c,rfl,λx b=>?_⟩;rw[Jd.mp b];have:=ok.l16;lia
theorem iQ (N:Nt)(ts:List Int)(lane:Nat):(vK N ts lane).length=ts.length:=uR _
theorem lY {N:Nt}{ts:List Int}{lane:Nat}(h:Bits ts):Bits (vK N ts lane):=vS h _
theorem oV {N:Nt}(ok:Nt.Ok N){s t:KN}{m:Nat}(h:OkP N s)(e:xD N s m=some t):OkP N t:=by
 obtain⟨a,r,rfl,d,c,f⟩:=h;have b:(if ((passE N a m:Nat):Int)=(r:Nat) then some (stK (vK N a m) [((r:Nat)+1)%(N.lanes:Nat)]) else none)=some t:=e;split at b
 ·cases b
  refine⟨vK N a m,(r+1)%N.lanes,?_,(iQ _ _ _).trans d,lY c,Nat.mod_lt _ (by have:=ok.l1;lia)⟩;rw[Int.natCast_emod];rfl
 ·cases b
def tH:Sp:=λe H Q _=>∃ r fr g f N b k,∃ a:Nat,e=[.ref r,.ref b,.int (a:Nat)]/\Nt.Ok N/\NetAt H r fr g f N/\NKey H k b/\OkP N k/\a<N.lanes /\
 (∀ c,Same H c->xD N k a=none->Q .non c)/\(∀ c d t,Same H c->xD N k a=some t->NKey c t d->Q (.ref d) c)
def vB:LSpc:=λvals c H Q E=>∃ r b,∃ a:Nat,vals=[.ref r]/\c=[.ref b,.int (a:Nat)]/\tH [.ref r,.ref b,.int (a:Nat)] H Q E
theorem cU {H:Hp}{r fr er:JI}{ps:List V}{N:Nt}{moves:List Nat}(ok:Nt.Ok N)(na:NetAt H r fr er ps N)(lt:∀ m∈moves,m<N.lanes):Led vB [.ref r] (xD N) (OkP N) moves H:=λf s b m Q t os d e c a =>
 ⟨r,b,m,rfl,rfl,r,fr,er,ps,N,b,s,m,rfl,ok,na.tups t,e,os,lt m d,c,a⟩
def TabQ (q:Str)(Pt:JI)(H:Hp):Prop:=∃ l,H Pt=some (.tbl (triples l).toArray)/\TabOk H q l
theorem TabQ.keep {q:Str}{Pt:JI}{H H':Hp}(t:TabQ q Pt H)(k:∀ b o,H b=some o->(∃ ps,o=.tbl ps)\/(∃ u v,o=.frz u v)->H' b=some o):TabQ q Pt H':=by
 obtain⟨l,c,a⟩:=t;exact⟨l,k _ _ c (.inl ⟨_,rfl⟩),a.frz λb o u e=>k _ _ e (.inr ⟨_,_,rfl⟩)⟩
theorem TabQ.same {q:Str}{Pt:JI}{H H':Hp}(t:TabQ q Pt H)(s:Same H H'):TabQ q Pt H':=t.keep λb o e _=>s b o e
theorem TabQ.but {q:Str}{Pt l:JI}{H H':Hp}{xs:List V}(t:TabQ q Pt H)(b:But l H H')(h:H l=some (.lst xs)):TabQ q Pt H':=t.keep λc o e z=>b c o e λy=>by
 rw[y,h]at e;cases e;rcases z with ⟨_,z⟩|⟨_,_,z⟩<;>cases z
def wX (N:Nt)(moves:List Nat)(most:Nat):LRes:=yq (xD N) moves most (most+1) [(stK (List.replicate N.forks.length 0) [0],List.replicate N.lanes 0)] [] []
def tw:Sp:=λb H Q _=>∃ r fr d c N,b=[.ref r]/\Nt.Ok N/\NetAt H r fr d c N/\∀ p a,Same H a->a p=some (.tup ((List.replicate N.forks.length (0:Int)).map V.int))->Q (.ref p) a
def sD:Sp:=λb H Q _=>∃ r fr d c N,b=[.ref r]/\Nt.Ok N/\NetAt H r fr d c N/\∀ p a,Same H a->NKey a (stK (List.replicate N.forks.length 0) [0]) p->Q (.ref p) a
structure Whole (Ok:KN->Prop) (most:Nat) (ls:List LvL):Prop where
 ok:∀ lv∈ls,∀ p∈lv,Ok p.1
 few:(ls.map List.length).sum<=most
theorem uy {step:KN->Nat->Option KN}{Ok:KN->Prop}{moves:List Nat}{most:Nat}(g:∀ s m t,Ok s->m∈moves->step s m=some t->Ok t):∀ (m:Nat) (level seen:LvL) (ls a:List LvL),Whole Ok most ls->(ls.map List.length).sum=seen.length->seen.length<=most->(∀ p∈level,Ok p.1)->yq step moves most m level seen ls=.whl a->Whole Ok most a
 | 0,_,_,_,_,_,_,_,_,e=>by cases e
 | m+1,level,seen,ls,a,d,sm,le,lo,e=>by
  by_cases c:level=[]
  ·subst c;rw[uZ]at e;cases e;exact d
  by_cases h:most<seen.length+level.length
  ·rw[uc c h]at e;cases e
  by_cases f:(yo step (seen++level) moves level).fl=[]
  ·rw[rH c h f]at e
   have e2:((ls++[level]).map List.length).sum=(seen++level).length:=by rw[JQ,List.sum_append,sm,Jc];rfl
   refine uy g m _ (seen++level) _ a ⟨λlv i p b=>?_,?_⟩ e2 (by rw[Jc];simp_all) (λp b=>?_) e
   ·rcases Jv.mp i with z|z
    ·exact d.ok lv z p b
    ·rw[Jd.mp z]at b;exact lo p b
   ·rw[e2,Jc];simp_all
   ·exact(tL (step:=step) (seen:=seen++level) (moves:=moves) (Ok:=Ok) level λp b k j t e=>g _ _ _ (lo p b) j e).ok p b
  ·rw[ud c h f]at e;cases e
theorem TellR.kept {P:Yo}{w:YI}{H H':Hp}{p:JI}{R:LRes}(h:TellR P w H p R)(k:∀ b o,H b=some o->(∀ q,o≠FZ q)->H' b=some o):TellR P w H' p R:=by
 have t:Tups H H':=λb f e=>k b _ e λq z=>by cases z
 cases R with
 | opn=>exact t _ _ h
 | brk c=>obtain⟨b,d,a⟩:=h;exact⟨b,t _ _ d,t _ _ a⟩
 | whl ls =>
  obtain⟨l,as,d,a,g⟩:=h;refine⟨l,as,t _ _ d,k _ _ a (λq z=>by cases z),?_⟩;clear d a
  induction g with
  | nil=>exact .nil
  | cons q _ ih =>
   obtain⟨f,e,le⟩:=q;exact .cons ⟨f,k _ _ e (λq z=>by cases z),le.tups t⟩ ih
theorem mY {cs:List (Str × JI)}{H:Hp}(fz:CellsFz cs H):∀ b o,H b=some o->(∀ q,o≠FZ q)->yc cs H b=some o:=λb o e n=>by
 rw[yP];· exact e
 ·intro a
  obtain⟨q,z⟩:=fz b a;rw[e]at z;exact n q (Jq z)
theorem qF {N:Nt}(ok:Nt.Ok N):OkP N (stK (List.replicate N.forks.length 0) [0]):=⟨_,0,rfl,JX,λt a=>.inl (WC a),ok.l1⟩
def An (H:Hp)(x:V):Prop:=Flat x\/∃ a,x=.ref a/\((∃ b,H a=some (.tup b))\/(∃ b,H a=some (.lst b))\/H a=some (.dK []))
theorem An.any {K:Jl}{H:Hp}{x:V}(h:An H x):AnyT K H x:=by
 rcases h with h|⟨a,rfl,⟨b,h⟩|⟨b,h⟩|h⟩
 ·exact(Good.flat (D:=λ_=>True) h).any
 ·exact⟨_,.tup h,_,rfl⟩
 ·exact⟨_,.lst h,_,rfl⟩
 ·exact⟨_,.dK h,_,rfl⟩
theorem An.kp {H H':Hp}{x:V}(k:KpN H H')(h:An H x):An H' x:=by
 rcases h with h|⟨a,e,⟨b,h⟩|⟨b,h⟩|h⟩
 ·exact .inl h
 ·exact .inr ⟨a,e,.inl ⟨b,k _ _ h (.tup _)⟩⟩
 ·exact .inr ⟨a,e,.inr (.inl ⟨b,k _ _ h (.lst _)⟩)⟩
 ·exact .inr ⟨a,e,.inr (.inr (k _ _ h .dK))⟩
theorem An.row {H H':Hp}{x:V}(k:KpN H H')(h:An H x):yK H' x=yK H x:=by
 rcases h with h|⟨a,e,⟨c,h⟩|⟨c,h⟩|h⟩
 ·cases x<;>first|rfl|exact h.elim
 ·subst e;rw[yk h,yk (k _ _ h (.tup _))]
 ·subst e
  have b:=k _ _ h (.lst _);simp only[yK,h,b]
 ·subst e
  have b:=k _ _ h .dK;simp only[yK,h,b]
def Dp (H:Hp):Nat->V->Prop
 | 0,x=>An H x
 | n+1,x=>An H x/\∀ xs,yK H x=some xs->xs.length<=1000/\∀ y∈xs,Dp H n y
theorem Dp.an {H:Hp}:∀ {n:Nat}{x:V},Dp H n x->An H x
 | 0,_,h=>h
 | _+1,_,h=>h.1
theorem Dp.deep {K:Jl}{H:Hp}:∀ {n:Nat}{x:V},Dp H n x->Deep K H n x
 | 0,_,h=>h.any
 | _+1,_,h=>⟨h.1.any,λxs e=>⟨(h.2 xs e).1,λy a=>((h.2 xs e).2 y a).deep⟩⟩
theorem Dp.flat {H:Hp}{n:Nat}{x:V}(h:Flat x):Dp H n x:=by
 cases n with
 | zero=>exact .inl h
 | succ n=>exact⟨.inl h,λa e=>by cases x<;>first|cases e|exact h.elim⟩
def uk (xs:List V):List Int:=xs.filterMap λx=>match x with|.int i=>some i|_=>none
theorem qM (is:List Int):uk (is.map V.int)=is:=by
 induction is with
 | nil=>rfl
 | cons i is ih=>show i::uk (is.map V.int)=_;rw[ih]
theorem cm {xs:List V}(h:∀ x∈xs,mM x=true):xs=(uk xs).map V.int:=by
 induction xs with
 | nil=>rfl
 | cons x xs ih =>
  have e:=h x (.head _)
  cases x with
  | int i=>show V.int i::xs=V.int i::(uk xs).map V.int;rw[<- ih λy a=>h y (.tail _ a)]
  | _=>cases e
def eM (H:Hp)(x:V):List Int:=uk ((yK H x).getD [])
def y4 (H:Hp)(many:Int)(x:V):Bool:=match yK H x with
 | some a=>decide ((a.length:Int)=many) && a.all (y8 0)
 | none=>false
theorem ny {x:V}{b:Int}(h:y8 b x=true):mM x=true:=by
 cases x with
 | int i=>rfl
 | _=>cases h
theorem zaQ {H H':Hp}{x:V}{n:Nat}(k:KpN H H')(d:Dp H n x):yK H' x=yK H x:=d.an.row k
end L2
namespace K40
open PySem L2 Own Bn
abbrev lL:Stmt:=top 6
def qu (K:Jl):Sp:=λb H Q _=>∃ x,∃ many:Int,b=[x,.int many]/\Deep K H 1 x/\∀ a,Same H a->Q (.bl (y4 H many x)) a
section
variable {P:Yo}{w:YI}{K:Jl}{mg:Str->Option Jo}{base:YP}
theorem zcs:FnScope ["thing","many"] ["thing","many"] (zN lL):=by trivial
theorem cA {f D C:JI}{fd J I:Yl}(F:Fun K "are_from_nought" "are_from_nought" lL f fd) (G:Mgs mg) (M:Use P w K mg base "is_row" ["thing","many"] 1 (qp K) D J) (L:Use P w K mg base "is_whole" ["thing"] 1 (qi K) C I):FnOk P w K mg base CX0 2 f fd ["thing","many"] (qu K):=by
 refine F.ok zcs (λB H Q E h=>?_) (λN A outer s H B Q E r h=>?_)
 ·obtain⟨x,many,rfl,_⟩:=h
  rfl
 obtain⟨x,many,rfl,n,k⟩:=h;refine⟨_,(@zM _ _ _ (@zV _ _ _ _ (@wj _ _ _ _ _ _ _ (@zT _ _ _ _ _ _ _ _ _ _ _ _ M r (@zA _ _ _ _ _ (@pvb _ 0 _ _ rfl) (@zA _ _ _ _ _ (@pvb _ 1 _ _ rfl) zC rfl) rfl) rfl rfl rfl rfl) (@vT _ _ _ _ _ (@zU _ _ _ _ _ _ _ _ _ (qW rfl true) rfl G.all rfl (@zA _ _ _ _ _ (@vw _ _ _ _ none _ _ _ _ _ _ ["number"] [none] rfl (@wg _ _ _ _ (@pvb _ 0 _ _ rfl)) (CapOk.of (by kernel_rfl)) (λ_ _ _ _ _=>(@zP _ _ 0 _ (show (["number"]:List Str).Nodup from by decide +kernel) rfl (.inl rfl) (.inr rfl))) (λ_ _ _ _ _=>xG) (λ_ _ _ _ _=>(@wj _ _ _ _ _ _ _ (@zT _ _ _ _ _ _ _ _ _ _ _ _ L r (@zA _ _ _ _ _ (@pvb _ 0 _ _ rfl) zC rfl) rfl rfl rfl rfl) (@vT _ _ _ _ _ (@xI _ _ _ _ _ _ _ _ df (@pvb _ 0 _ _ rfl) zE (yC _))))) (by intro _;rfl)) zC rfl) (by decide) (by decide) rfl rfl))))),?_⟩;refine zB (zB ⟨x,many,rfl,n.any,_,rfl,?_⟩)
 cases z:yK H x with
 | none =>
  have e:pI H many x=false:=by unfold pI;rw[z]
  have e2:y4 H many x=false:=by unfold y4;rw[z]
  rw[e];rw[e2]at k
  exact yF (k H (Same.refl H))
 | some xs =>
  have e:pI H many x=decide ((xs.length:Int)=many):=by unfold pI;rw[z]
  have e2:y4 H many x=(decide ((xs.length:Int)=many) && xs.all (y8 0)):=by unfold y4;rw[z]
  rw[e];rw[e2]at k;obtain⟨a,rfl,u⟩:=xK z;by_cases lm:(xs.length:Int)=many
  ·rw[Jw lm]at k ⊢
   refine yZ (zB ⟨a,rfl,⟨_,SqT.of u⟩,λl t=>?_⟩);refine sR (K:=K) (a:=a) (xs:=xs) (λi acc σ d=>(∃ v,σ=[v])/\Same H d/\d l=some (.lst acc)/\acc=((xs.take i).map (y8 0)).map V.bl) ⟨⟨_,rfl⟩,zD t _,zG,rfl⟩ (λi acc σ d q=>⟨q.2.2.1,SqT.of (q.2.1 _ _ u)⟩) ?_ ?_
   ·rintro i y acc σ d m ⟨⟨v,rfl⟩,g,j,rfl⟩
    have p:=(Jb.mp m).1
    have fin:d l=some (.lst (((xs.take i).map (y8 0)).map V.bl))/\(((xs.take i).map (y8 0)).map V.bl).length<sizeLine/\Nx xs.length i ((∃ v,[some y]=[v])/\Same H (L2.upd d l (.lst (((xs.take i).map (y8 0)).map V.bl++[V.bl (y8 0 y)])))/\L2.upd d l (.lst (((xs.take i).map (y8 0)).map V.bl++[V.bl (y8 0 y)])) l=some (.lst (((xs.take i).map (y8 0)).map V.bl++[V.bl (y8 0 y)]))/\((xs.take i).map (y8 0)).map V.bl++[V.bl (y8 0 y)]=((xs.take (i+1)).map (y8 0)).map V.bl):=by
     refine⟨j,?_,nx p ⟨⟨_,rfl⟩,λc o e=>?_,zG,?_⟩⟩
     ·rw[Je,Je,Jt];exact Nat.lt_of_le_of_lt (Nat.min_le_left _ _) (JL (show i<1000 by have:=(n.2 xs z).1;lia) (by decide))
     ·rw[zK (zJ e t)];exact g c o e
     ·rw[Yk p,JQ,JQ,(Jb.mp m).2];rfl
    refine zB (zR rfl ⟨AnyT.same g ((n.2 xs z).2 y (JP m)),_,rfl,?_⟩)
    cases y with
    | int O=>exact yZ (zB ⟨_,_,rfl,rfl,fin⟩)
    | bl b=>exact yF fin
    | non=>exact yF fin
    | str b=>exact yF fin
    | flt b=>exact yF fin
    | byt b=>exact yF fin
    | ref b=>exact yF fin
    | ty b=>exact yF fin
   ·rintro acc σ d ⟨⟨v,rfl⟩,g,j,rfl⟩
    rw[Yz]at j;refine⟨l,xs.map (y8 0),rfl,SqL.of j,?_⟩;rw[List.all_map];exact k d g
  ·rw[Jn lm]at k ⊢
   exact yF (k H (Same.refl H))
abbrev eH:Stmt:=top 1
abbrev pF:Stmt:=top 2
theorem scF:FnScope ["net","counts","on_lanes","turns","one","other","come"] ["net","counts"] (zN pF):=by trivial
theorem iZ {f:JI}{fd:Yl}(F:Fun K "flowed" "flowed" pF f fd) (G:Mgs mg):FnOk P w K mg base CX0 1 f fd ["net","counts"] tu:=by
 refine F.ok scF (λL H Q E h=>?_) (λU A outer s H L Q E W h=>?_)
 ·obtain⟨r,fr,S,B,N,c,cs,rfl,_⟩:=h
  rfl
 obtain⟨r,fr,S,B,N,c,cs,rfl,ok,na,M,cl,k⟩:=h;refine⟨_,(@zH _ _ _ _ _ (@zi _ _ 2 _ _ _ _ scF.nd rfl (.inl rfl) (@zj _ _ _ _ _ _ _ _ _ yY rfl G.list rfl (@zA _ _ _ _ _ (@pvb _ 1 _ _ rfl) zC rfl) (by decide) (by decide) rfl rfl) rfl (by trivial)) (@zH _ _ _ _ _ (@zi _ _ 3 _ _ _ _ scF.nd rfl (.inl rfl) (@zw _ _ _ _ zC) rfl (by trivial)) (@zH _ _ _ _ _ (@xH _ _ _ _ _ _ _ _ Yi rfl (@wg _ _ _ _ (@zZ _ _ _ _ _ _ _ yL (@pvb _ 0 _ _ rfl) zE (λ_ _=>rfl))) (@yR _ _ _ _ _ _ rfl (@zS _ _ _ _ _ (@zP _ _ 4 _ scF.nd rfl (.inl rfl) (by trivial)) (@zS _ _ _ _ _ (@zP _ _ 5 _ scF.nd rfl (.inl rfl) (by trivial)) yD rfl) rfl) rfl rfl) (@zH _ _ _ _ _ (@zi _ _ 6 _ _ _ _ scF.nd rfl (.inl rfl) (@zQ _ _ _ _ _ _ _ _ yQ (@zZ _ _ _ _ _ _ _ zo (@pvb _ 2 _ _ rfl) (@pvb _ 4 _ _ rfl) (λ_ _=>rfl)) (@zZ _ _ _ _ _ _ _ zo (@pvb _ 2 _ _ rfl) (@pvb _ 5 _ _ rfl) (λ_ _=>rfl))) rfl (by trivial)) (@zH _ _ _ _ _ (@yU _ _ _ _ _ _ (@zQ _ _ _ _ _ _ _ _ xN (@zQ _ _ _ _ _ _ _ _ yQ (@pvb _ 6 _ _ rfl) zE) zE) (@x9 _ _ _ _ _ _ _ (@pvb _ 2 _ _ rfl) (@pvb _ 4 _ _ rfl) y7 (by intro _;rfl)) rfl rfl rfl) (@zH _ _ _ _ _ (@yU _ _ _ _ _ _ (@zQ _ _ _ _ _ _ _ _ xN (@pvb _ 6 _ _ rfl) zE) (@x9 _ _ _ _ _ _ _ (@pvb _ 2 _ _ rfl) (@pvb _ 5 _ _ rfl) y7 (by intro _;rfl)) rfl rfl rfl) (@zM _ _ _ (@xA _ _ _ _ (@wV _ _ _ _ _ _ _ _ _ _ _ _ Y8 YJ YK yn (@pvb _ 3 _ _ rfl) (@zA _ _ _ _ _ (@zQ _ _ _ _ _ _ _ _ xq (@pvb _ 6 _ _ rfl) zE) zC rfl) rfl rfl rfl rfl rfl) rfl))))) (by intro _;rfl)) (@zM _ _ _ (@zV _ _ _ _ (@zp _ _ _ _ _ (@zA _ _ _ _ _ (@pvb _ 2 _ _ rfl) (@zA _ _ _ _ _ (@pvb _ 3 _ _ rfl) zC rfl) rfl))))))),?_⟩;refine zB ⟨c,_,rfl,.inr (SqT.of M),λlo l=>?_⟩;have C:=zD l (.lst (cs.map V.int));refine⟨(by show 0<=sizeLine;decide),λlt j=>?_⟩;have z:=C.trans (zD j (.lst []));have ne:lo≠lt:=zJ zG j;refine zB ⟨r,_,_,_,rfl,rfl,SqT.of (z _ _ na.net),rfl,fr,rfl,⟨_,SqT.of (z _ _ na.forks)⟩,?_⟩
 refine oA (K:=K) (a:=fr) (xs:=B) (λi σ d=>(∃ y x v,σ=[some (.ref r),some (.ref c),some (.ref lo),some (.ref lt),y,x,v])/\Same H d/\d lo=some (.lst ((yM (N.forks.take i) cs).1.map V.int))/\d lt=some (.lst ((yM (N.forks.take i) cs).2.map V.int)))
  ⟨⟨_,_,_,rfl⟩,z,by rw[zK ne];exact zG,zG⟩ (λi σ d _ q=>SqT.of (q.2.1 _ _ na.forks)) ?_ ?_
 ·rintro i p σ d n ⟨⟨y,x,v,rfl⟩,t,m,u⟩
  obtain⟨a,g,rfl,J,O⟩:=(na.prs.tups (Tups.of t)).get n;have T:=ok.fk g (JP J);have X:(yM (N.forks.take i) cs).1.length=N.lanes:=by rw[wJ,cl]
  have R:(yM (N.forks.take i) cs).2.length<=128:=by rw[xC,Jt];have:=ok.fm;lia
  have I:=wI J cs;generalize yM (N.forks.take i) cs=st at *;refine⟨a,_,rfl,SqT.of O,rfl,_,_,rfl,_,_,rfl,rfl,?_⟩;refine zB (zB ⟨lo,_,_,_,rfl,rfl,SqL.of m,wU (by lia),_,rfl,_,rfl,lo,_,_,_,rfl,rfl,SqL.of m,wU (by lia),_,_,rfl,rfl,?_⟩);refine zB ⟨_,_,rfl,rfl,_,_,rfl,rfl,⟨by decide,by decide⟩,_,rfl,_,rfl,lo,_,_,g.1,rfl,rfl,m,uj (by rw[Je];lia),?_⟩;refine zB ⟨_,_,rfl,rfl,⟨by decide,by decide⟩,_,rfl,_,rfl,lo,_,_,g.2,rfl,rfl,zG,uj (by rw[Z6,Je];lia),?_⟩
  have D:upd (upd d lo (.lst ((st.1.map V.int).set g.1 (.int ((st.1.getD g.1 0+st.1.getD g.2 0+1) / 2))))) lo (.lst (((st.1.map V.int).set g.1 (.int ((st.1.getD g.1 0+st.1.getD g.2 0+1) / 2))).set g.2 (.int ((st.1.getD g.1 0+st.1.getD g.2 0) / 2)))) lt=some (.lst (st.2.map V.int)):=by
   rw[zK ne.symm,zK ne.symm];exact u
  refine zB ⟨.inl ⟨rfl,_,SqL.of D⟩,_,rfl,_,_,rfl,rfl,(by show (0:Int)<2;decide),lt,_,_,rfl,rfl,D,by rw[Je];exact Nat.lt_of_le_of_lt R (by decide),⟨_,_,_,rfl⟩,λb o e=>?_,?_,?_⟩
  ·rw[zK (zJ (C b o e) j),zK (zJ e l),zK (zJ e l)];exact t b o e
  ·rw[zK ne,zG,I]
   unfold yT;rw[wa,wa]
  ·rw[zG,I]
   unfold yT;rw[JQ];rfl
 ·rintro σ d ⟨⟨y,x,v,rfl⟩,t,m,u⟩
  have e:N.forks.take B.length=N.forks:=by rw[na.prs.len];exact Yz
  rw[e]at m u;exact zB (zB ⟨(by show 2<=sizeLine;decide),λp n=>k p lo lt _ (t.trans (zD n _)) zG (zD n _ _ _ m) (zD n _ _ _ u)⟩)
theorem scE:FnScope ["net","counts","on_lanes","turns"] ["net","counts"] (zN eH):=by trivial
theorem aQ {f O:JI}{fd T:Yl}(F:Fun K "ends_of" "ends_of" eH f fd) (G:Mgs mg) (U:Use P w K mg base "flowed" ["net","counts"] 1 tu O T):FnOk P w K mg base CX0 2 f fd ["net","counts"] uP:=by
 refine F.ok scE (λD H Q E h=>?_) (λY A outer s H D Q E I h=>?_)
 ·obtain⟨r,fr,t,B,N,c,cs,rfl,_⟩:=h
  rfl
 obtain⟨r,fr,t,B,N,c,cs,rfl,ok,na,M,cl,k⟩:=h;refine⟨_,(@zH _ _ _ _ _ (@yU _ _ _ _ _ _ (@zT _ _ _ _ _ _ _ _ _ _ _ _ U I (@zA _ _ _ _ _ (@pvb _ 0 _ _ rfl) (@zA _ _ _ _ _ (@pvb _ 1 _ _ rfl) zC rfl) rfl) rfl rfl rfl rfl) (@yR _ _ _ _ _ _ rfl (@zS _ _ _ _ _ (@zP _ _ 2 _ scE.nd rfl (.inr rfl) (by trivial)) (@zS _ _ _ _ _ (@zP _ _ 3 _ scE.nd rfl (.inl rfl) (by trivial)) yD rfl) rfl) rfl rfl) rfl rfl rfl) (@zM _ _ _ (@zV _ _ _ _ (@zj _ _ _ _ _ _ _ _ _ zt rfl G.tuple rfl (@zA _ _ _ _ _ (@vw _ _ _ _ none _ _ _ _ _ _ ["lane","on_lanes"] [none,some 2] rfl (@wg _ _ _ _ (@zZ _ _ _ _ _ _ _ yL (@pvb _ 0 _ _ rfl) zE (λ_ _=>rfl))) (CapOk.of (by kernel_rfl)) (λ_ _ _ _ _=>(@zP _ _ 0 _ (show (["lane","on_lanes"]:List Str).Nodup from by decide +kernel) rfl (.inl rfl) (.inr rfl))) (λ_ _ _ _ _=>xG) (λ_ _ _ _ _=>(@zZ _ _ _ _ _ _ (eU K) zo (@pvb _ 1 _ _ rfl) (@pvb _ 0 _ _ rfl) (λ_ _=>rfl))) (by intro _;rfl)) zC rfl) (by decide) (by decide) rfl rfl)))),?_⟩;refine zB (zB ⟨r,fr,t,B,N,c,cs,rfl,ok,na,M,cl,λp lo lt W z L C Z=>?_⟩);refine⟨p,_,rfl,SqT.of L,rfl,_,_,rfl,_,_,rfl,rfl,?_⟩;have d:=na.tups (Tups.of z);refine zB ⟨r,_,_,_,rfl,rfl,SqT.of d.net,rfl,t,rfl,⟨_,SqT.of d.ends⟩,λl u=>?_⟩;have X:lo≠l:=zJ C u;refine sR (K:=K) (a:=t) (xs:=zW N.ends) (λi acc σ g=>(∃ v,σ=[v,some (.ref lo)])/\Same W g/\g l=some (.lst acc)/\acc=((yd N cs).take i).map V.int) ⟨⟨_,rfl⟩,zD u _,zG,rfl⟩ (λi acc σ g q=>⟨q.2.2.1,SqT.of (q.2.1 _ _ d.ends)⟩) ?_ ?_
 ·rintro i x acc σ g n ⟨⟨v,rfl⟩,j,y,rfl⟩
  have m:i<N.ends.length:=by have:=(Jb.mp n).1;rwa [zr]at this
  have ex:x=.int N.ends[i]:=by
   unfold zW at n;rw[JG,J7 m]at n;exact(Jq n).symm
  subst ex;have lt':=jZ ok (JR m);refine zB (zB ⟨lo,_,_,_,rfl,rfl,SqL.of (j _ _ C),wU (by rw[wJ,cl];exact lt'),y,?_,nx (by rw[zr];exact m) ⟨⟨_,rfl⟩,λb o e=>?_,zG,?_⟩⟩)
  ·rw[Je,Jt];exact Nat.lt_of_le_of_lt (Nat.min_le_left _ _) (JL (show i<1000 by have:=uE ok;have:=ok.l16;lia) (by decide))
  ·rw[zK (zJ e u)];exact j b o e
  ·have R:i<(yd N cs).length:=by unfold yd;rw[Je];exact m
   have S:(yd N cs)[i]=(yM N.forks cs).1.getD N.ends[i] 0:=by simp[yd]
   rw[Yk R,JQ,S];rfl
 ·rintro acc σ g ⟨⟨v,rfl⟩,j,y,rfl⟩
  refine⟨l,_,rfl,.inl ⟨SqL.of y,λq J=>k q _ ((z.trans j).trans (zD J _)) ?_⟩⟩;rw[zG,zr,JC (by unfold yd;rw[Je];exact Jf _)]
end
end K40
namespace Bn
open PySem L2 Own
def y3 (total:Int)(many:Nat):List Int:=(List.range many).map λ(p:Nat)=>(total-p+many-1) / (many:Int)
theorem xy (total:Int)(many i:Nat)(h:i<=many):(y3 total many).take i=(List.range i).map λp=>(total-(p:Nat)+many-1) / (many:Int):=by
 unfold y3;rw[<- List.map_take,List.take_range,Z7 h]
theorem rp (q m r p:Int)(b:0<=r)(a:r<m)(c:0<=p)(p1:p<m):(q*m+r-p+m-1) / m=q+if p<r then 1 else 0:=by
 by_cases h:p<r
 ·rw[Jj h]
  exact((Int.ediv_emod_unique (r:=r-p-1) (by lia)).mpr ⟨by rw[Int.mul_add,Int.mul_one,Int.mul_comm m q];lia,by lia,by lia⟩).1
 ·rw[Jg h]
  exact((Int.ediv_emod_unique (r:=r-p+m-1) (by lia)).mpr ⟨by rw[Int.add_zero,Int.mul_comm m q];lia,by lia,by lia⟩).1
def wp (total:Int)(many i:Nat):Int:=total / many*(many-i)+max (total%many-i) 0
theorem i5 (total:Int)(many:Nat)(h:1<=many):wp total many 0=total:=by
 unfold wp;have a:=Z8 total (show (many:Int)≠0 by lia);have b:(many:Int)*(total / many)+total%many=total:=Int.mul_ediv_add_emod total many;rw[Int.mul_comm]at b;simp only[Int.ofNat_zero,Int.sub_zero];lia
theorem zag (total:Int)(many i:Nat)(hi:i<many):(total-i+many-1) / (many:Int)=total / many+if (i:Int)<total%many then 1 else 0:=by
 have a:(0:Int)<many:=by lia
 have e:total=total / many*many+total%many:=by
  have:=Int.mul_ediv_add_emod total many;rw[Int.mul_comm]at this;lia
 have z:=rp (total / many) many (total%many) i (Z8 _ (by lia)) (Z4 _ a) (by lia) (by lia);rw[<- z]
 congr 1
 lia
theorem i7 (total:Int)(many i:Nat)(hi:i<many):wp total many i-(total-i+many-1) / (many:Int)=wp total many (i+1):=by
 rw[zag total many i hi];unfold wp
 have e:total / (many:Int)*((many:Int)-(i+1:Nat))=total / many*((many:Int)-i)-total / many:=by
  have:((many:Int)-(i+1:Nat))=((many:Int)-i)-1:=by lia
  rw[this,Int.mul_sub,Int.mul_one]
 rw[e];by_cases h:(i:Int)<total%many
 ·rw[Jj h];lia
 ·rw[Jg h];lia
theorem oT (total:Int)(many:Nat)(h:1<=many):∀ i,i<=many->((y3 total many).take i).sum=total-wp total many i
 | 0,_=>by rw[i5 total many h];simp
 | i+1,hi=>by
  have ih:=oT total many h i (by lia);rw[xy _ _ _ (by lia)]at ih;rw[xy _ _ _ hi,List.range_succ,JQ,List.sum_append,ih,<- i7 total many i hi];simp only[List.sum_cons,List.sum_nil,JY,List.map_nil];lia
theorem me (total:Int)(many:Nat)(h:1<=many):(y3 total many).sum=total:=by
 have e:=oT total many h many (Jf _);rw[JC (by unfold y3;simp)]at e
 have z:wp total many many=0:=by
  unfold wp;have b:=Z4 total (show (0:Int)<many by lia);rw[Int.sub_self,Int.mul_zero];lia
 lia
theorem xj (total:Int)(many:Nat):(y3 total many).length=many:=by unfold y3;simp
end Bn
namespace K40
open PySem L2 Own Bn
abbrev eB:Stmt:=top 19
abbrev sJ:Stmt:=top 18
def mh:Sp:=λb H Q _=>∃ (t:Int) (m:Nat),b=[.int t,.int m]/\1<=m/\m<=1000/\∀ p a,Same H a->a p=some (.tup ((y3 t m).map V.int))->Q (.ref p) a
def uO:Sp:=λb H Q _=>∃ (c:JI) (cs:List Int),b=[.ref c]/\H c=some (.tup (cs.map V.int))/\1<=cs.length/\cs.length<=1000/\∀ a,Same H a->Q (.bl (decide (cs=y3 cs.sum cs.length))) a
section
variable {P:Yo}{w:YI}{K:Jl}{mg:Str->Option Jo}{base:YP}
theorem zch:FnScope ["total","many"] ["total","many"] (zN eB):=by trivial
theorem aJ {f:JI}{fd:Yl}(F:Fun K "stair_of" "stair_of" eB f fd) (G:Mgs mg):FnOk P w K mg base CX0 1 f fd ["total","many"] mh:=by
 refine F.ok zch (λr H Q E h=>?_) (λv A outer s H r Q E y h=>?_)
 ·obtain⟨t,m,rfl,_⟩:=h
  rfl
 obtain⟨t,m,rfl,x,j,k⟩:=h;refine⟨_,(@zM _ _ _ (@zV _ _ _ _ (@zj _ _ _ _ _ _ _ _ _ zt rfl G.tuple rfl (@zA _ _ _ _ _ (@vw _ _ _ _ none _ _ _ _ _ _ ["place","many","total"] [none,some 1,some 0] rfl (@yw _ _ _ _ _ _ rfl G.range (@zA _ _ _ _ _ (@pvb _ 1 _ _ rfl) zC rfl) rfl) (CapOk.of (by kernel_rfl)) (λ_ _ _ _ _=>(@zP _ _ 0 _ (show (["place","many","total"]:List Str).Nodup from by decide +kernel) rfl (.inl rfl) (.inr rfl))) (λ_ _ _ _ _=>xG) (λ_ _ _ _ _=>(@zQ _ _ _ _ _ _ _ _ xN (@zQ _ _ _ _ _ _ _ _ wR (@zQ _ _ _ _ _ _ _ _ yQ (@zQ _ _ _ _ _ _ _ _ wR (@pvb _ 2 _ _ rfl) (@pvb _ 0 _ _ rfl)) (@pvb _ 1 _ _ rfl)) zE) (@pvb _ 1 _ _ rfl))) (by intro _;rfl)) zC rfl) (by decide) (by decide) rfl rfl))),?_⟩;refine zB (zR rfl ⟨by lia,by lia,λl q=>?_⟩);refine ng (lo:=0) (n:=((m:Nat):Int).toNat) (λi acc σ a=>(∃ d,σ=[d,some (.int (m:Nat)),some (.int t)])/\Same H a/\a l=some (.lst acc)/\acc=((y3 t m).take i).map V.int) ⟨⟨_,rfl⟩,zD q _,zG,rfl⟩ (λi acc σ a z=>z.2.2.1) ?_ ?_
 ·rintro i acc σ a hi ⟨⟨d,rfl⟩,g,c,e2⟩
  have im:i<m:=by lia
  refine zB (zB ⟨_,_,rfl,rfl,_,rfl,_,_,rfl,rfl,_,_,rfl,rfl,_,rfl,_,_,rfl,rfl,⟨by lia,by lia⟩,c,?_,nx hi ⟨⟨_,rfl⟩,λb o e=>?_,zG,?_⟩⟩)
  ·rw[e2,Je,Jt,xj,JB];lia
  ·rw[zK (zJ e q)];exact g b o e
  ·rw[e2,xy _ _ _ (by lia),xy _ _ _ (by lia),List.range_succ,JQ,JQ]
   show _++[V.int ((t-(0+(i:Nat))+(m:Nat)-1) / (m:Nat))]=_;rw[Int.zero_add];rfl
 rintro acc σ a ⟨⟨d,rfl⟩,g,c,e2⟩;rw[Y3,JC (by rw[xj];exact Jf _)]at e2;rw[e2]at c;exact⟨l,_,rfl,.inl ⟨SqL.of c,λp u=>k p _ (g.trans (zD u _)) zG⟩⟩
theorem zcn:FnScope ["counts"] ["counts"] (zN sJ):=by trivial
theorem lj {f j:JI}{fd l:Yl}(F:Fun K "is_stair" "is_stair" sJ f fd) (G:Mgs mg) (n:Use P w K mg base "stair_of" ["total","many"] 1 mh j l):FnOk P w K mg base CX0 2 f fd ["counts"] uO:=by
 refine F.ok zcn (λg H Q E h=>?_) (λq A outer s H g Q E e h=>?_)
 ·obtain⟨c,cs,rfl,_⟩:=h
  rfl
 obtain⟨c,cs,rfl,b,m,a,k⟩:=h;refine⟨_,(@zM _ _ _ (@zV _ _ _ _ (@xI _ _ _ _ _ _ _ _ (zaW e.units0) (@pvb _ 0 _ _ rfl) (@zT _ _ _ _ _ _ _ _ _ _ _ _ n e (@zA _ _ _ _ _ (@zU _ _ _ _ _ _ _ _ _ (gY rfl false) rfl G.sum rfl (@zA _ _ _ _ _ (@pvb _ 0 _ _ rfl) zC rfl) (by decide) (by decide) rfl rfl) (@zA _ _ _ _ _ (@zU _ _ _ _ _ _ _ _ _ zY rfl G.len JZ (@zA _ _ _ _ _ (@pvb _ 0 _ _ rfl) zC rfl) (by decide) (by decide) rfl rfl) zC rfl) rfl) rfl rfl rfl rfl) (yC _)))),?_⟩;refine zB (zB ⟨c,cs,rfl,SqT.of b,_,rfl,c,_,rfl,.inr (SqT.of b),cs.sum,cs.length,?_,m,a,λp o d i=>?_⟩)
 ·rw[Je];rfl
 refine⟨c,p,_,_,rfl,rfl,SqT.of (d _ _ b),SqT.of i,qS _,qS _,?_⟩;rw[zbq];exact k o d
end
end K40
namespace L2
open PySem PySem.Spec PyProof.Rows Own Bn
def whB (lo hi:Int):V->Bool
 | .int i=>decide (lo<=i) && decide (i<=hi)
 | _=>false
def fg (K:Jl):Sp:=λa H Q _=>∃ x,∃ lo hi:Int,a=[x,.int lo,.int hi]/\AnyT K H x/\Q (.bl (whB lo hi x)) H
end L2
namespace K40
open PySem L2 Own Bn
abbrev zaG:Stmt:=top 45
section
variable {P:Yo}{w:YI}{K:Jl}{mg:Str->Option Jo}{base:YP}
theorem zcj:FnScope ["_law_thing","_law_least","_law_most"] ["_law_thing","_law_least","_law_most"] (zN zaG):=by trivial
theorem zaY {f:JI}{fd:Yl}(F:Fun K "_law_whole" "_law_whole" zaG f fd) (G:Mgs mg):FnOk P w K mg base CX0 1 f fd ["_law_thing","_law_least","_law_most"] (fg K):=by
 refine F.ok zcj (λa H Q E h=>?_) (λd A outer s H a Q E g h=>?_)
 ·obtain⟨x,lo,hi,rfl,_⟩:=h
  rfl
 obtain⟨x,lo,hi,rfl,c,k⟩:=h;refine⟨_,(@zM _ _ _ (@zV _ _ _ _ (@wj _ _ _ _ _ _ _ (@zU _ _ _ _ _ _ _ _ _ y9 rfl G.isi rfl (@zA _ _ _ _ _ (@pvb _ 0 _ _ rfl) (@zA _ _ _ _ _ (@xM _ _ (.ty "int") (.type "int") _ rfl G.int rfl rfl (by decide) (by decide)) zC rfl) rfl) (by decide) (by decide) rfl rfl) (@wj _ _ _ _ _ _ _ (@pR _ _ _ _ (@zU _ _ _ _ _ _ _ _ _ y9 rfl G.isi rfl (@zA _ _ _ _ _ (@pvb _ 0 _ _ rfl) (@zA _ _ _ _ _ (@xM _ _ (.ty "bool") (.type "bool") _ rfl G.bool rfl rfl (by decide) (by decide)) zC rfl) rfl) (by decide) (by decide) rfl rfl)) (@vT _ _ _ _ _ (@dU _ _ _ _ _ _ _ _ _ _ _ _ zaj zaj (@pvb _ 1 _ _ rfl) (@pvb _ 0 _ _ rfl) (@pvb _ 2 _ _ rfl) (by with_unfolding_all rfl))))))),?_⟩;obtain⟨t,I⟩:=c.isi;refine zB ⟨_,"int",_,_,rfl,I.ty,I.int,_,rfl,?_⟩
 cases x with
 | int i =>
  refine yZ (zB ⟨_,"bool",_,_,rfl,I.ty,I.bool,_,rfl,_,rfl,yZ (zB (zB ⟨_,_,rfl,rfl,_,rfl,?_⟩))⟩);have e:whB lo hi (.int i)=(decide (lo<=i) && decide (i<=hi)):=rfl;rw[e]at k;by_cases z:lo<=i
  ·rw[Jw z]at k ⊢
   exact yZ (zB ⟨_,_,rfl,rfl,k⟩)
  ·rw[Jn z]at k ⊢
   exact yF k
 | bl b =>
  refine yZ (zB ⟨_,"bool",_,_,rfl,I.ty,I.bool,_,rfl,_,rfl,?_⟩)
  exact yF k
 | non=>exact yF k
 | str z=>exact yF k
 | flt z=>exact yF k
 | byt z=>exact yF k
 | ref z=>exact yF k
 | ty z=>exact yF k
end
end K40
namespace L2
open PySem PySem.Spec PyProof.Rows Own Bn
theorem qU:∀ x:List Int,cmpR x x=.eq
 | []=>rfl
 | a::x=>by show (compare a a).then (cmpR x x)=.eq;rw[Z0.mpr rfl,qU x];rfl
theorem qT:∀ x y:List Int,cmpR y x=(cmpR x y).swap
 | [],[]=>rfl
 | [],_::_=>rfl
 | _::_,[]=>rfl
 | a::x,b::y=>by
  show (compare b a).then (cmpR y x)=((compare a b).then (cmpR x y)).swap;rw[qT x y];rcases Zv a b with h|h|h
  ·rw[YE.mpr h,YF.mpr h];rfl
  ·subst h
   rw[Z0.mpr (rfl:a=a)];rfl
  ·rw[YF.mpr h,YE.mpr h];rfl
def leR (x y:List Int):Prop:=cmpR x y≠.gt
theorem uD (x:List Int):leR x x:=by unfold leR;rw[qU];exact λh=>by cases h
theorem xZ:∀ {x y z:List Int},leR x y->leR y z->leR x z
 | [],[],[],_,_=>λh=>by cases h
 | [],_,_::_,_,_=>λh=>by cases h
 | [],_::_,[],_,h=>absurd rfl h
 | _::_,[],_,h,_=>absurd rfl h
 | _::_,_::_,[],_,h=>absurd rfl h
 | a::x,b::y,c::z,g,f=>by
  have e:(compare a b).then (cmpR x y)≠.gt:=g;have d:(compare b c).then (cmpR y z)≠.gt:=f;show (compare a c).then (cmpR x z)≠.gt;rcases Zv a b with p|p|p
  ·rcases Zv b c with q|q|q
   ·rw[YE.mpr (show a<c by lia)];exact λh=>by cases h
   ·rw[YE.mpr (show a<c by simp_all)];exact λh=>by cases h
   ·rw[YF.mpr q]at d;exact absurd rfl d
  ·subst p
   rw[Z0.mpr (rfl:a=a)]at e;rcases Zv a c with q|q|q
   ·rw[YE.mpr q];exact λh=>by cases h
   ·subst q
    rw[Z0.mpr (rfl:a=a)]at d ⊢;exact xZ (x:=x) (y:=y) (z:=z) e d
   ·rw[YF.mpr q]at d;exact absurd rfl d
  ·rw[YF.mpr p]at e;exact absurd rfl e
theorem jN (x y:List Int):leR (xU x y) x/\leR (xU x y) y:=by
 unfold xU;by_cases h:cmpR y x=.lt
 ·rw[Jj h];exact⟨(by unfold leR;rw[h];exact λz=>by cases z),uD y⟩
 ·rw[Jg h]
  refine⟨uD x,λz=>h ?_⟩;rw[qT x y,z];rfl
theorem cK:∀ {l:List (List Int)},l≠[]->i3 l∈l
 | [],h=>absurd rfl h
 | x::r,_=>by
  have key:∀ (r:List (List Int)) (x:List Int),r.foldl xU x∈x::r:=by
   intro r
   induction r with
   | nil=>intro x;exact .head _
   | cons y r ih =>
    intro x;show r.foldl xU (xU x y)∈x::y::r;rcases Jr.mp (ih (xU x y)) with z|z
    ·rw[z]
     rcases pY x y with e|e
     ·rw[e];exact .head _
     ·rw[e];exact .tail _ (.head _)
    ·exact .tail _ (.tail _ z)
  exact key r x
theorem aZ:∀ {l:List (List Int)}{x:List Int},x∈l->leR (i3 l) x
 | [],x,h=>by cases h
 | a::r,x,h=>by
  have key:∀ (r:List (List Int)) (a:List Int),leR (r.foldl xU a) a/\∀ x∈r,leR (r.foldl xU a) x:=by
   intro r
   induction r with
   | nil=>intro a;exact⟨uD a,λx b=>(nomatch b)⟩
   | cons y r ih =>
    intro a;obtain⟨c,f⟩:=ih (xU a y);obtain⟨e,d⟩:=jN a y;refine⟨xZ c e,λx b=>?_⟩;rcases Jr.mp b with rfl|z
    ·exact xZ c d
    ·exact f x z
  rcases Jr.mp h with rfl|z
  ·exact(key r _).1
  ·exact(key r a).2 x z
theorem pV:∀ {c d:List Int}{m:Nat},c.length=d.length->leR c d->leR (yS c m) (yS d m)
 | [],[],m,_,h=>by unfold yS yE;exact h
 | a::c,b::d,0,_,h=>by
  have h':(compare a b).then (cmpR c d)≠.gt:=h;show (compare (a+1) (b+1)).then (cmpR c d)≠.gt
  have e:compare (a+1) (b+1)=compare a b:=by
   rcases Zv a b with p|p|p
   ·rw[YE.mpr p,YE.mpr (by simp_all)]
   ·subst p;rw[Z0.mpr (rfl:a=a),Z0.mpr rfl]
   ·rw[YF.mpr p,YF.mpr (by simp_all)]
  rw[e];exact h'
 | a::c,b::d,m+1,l,h=>by
  have h':(compare a b).then (cmpR c d)≠.gt:=h;show (compare a b).then (cmpR (yS c m) (yS d m))≠.gt
  cases z:compare a b with
  | lt=>exact λh=>by cases h
  | gt=>rw[z]at h';exact absurd rfl h'
  | eq=>rw[z]at h';exact pV (c:=c) (d:=d) (by simpa using l) h'
theorem vL (ps:LvL)(k:KN)(r:List Int):zx (wc ps k r) k=some r:=by
 unfold wc;split
 ·rename_i h
  have key:∀ ps:LvL,(zx ps k).isSome=true->zx (ps.map λx=>if x.1=k then (x.1,r) else x) k=some r:=by
   intro ps
   induction ps with
   | nil=>intro h;cases h
   | cons p ps ih =>
    intro h;unfold zx at ih h ⊢;rw[JY,YN];rw[YN]at h;by_cases z:p.1=k
    ·rw[Jj z]
     show (match decide (p.1=k) with|true=>some (p.1,r)|false=>_).map _=_;rw[Jw z];rfl
    ·rw[Jg z,Jn z]
     rw[Jn z]at h;exact ih h
  exact key ps h
 ·rename_i h
  have e:zx ps k=none:=by
   cases g:zx ps k with
   | none=>rfl
   | some x=>rw[g]at h;exact absurd rfl h
  unfold zx at e ⊢;rw[Option.map_eq_none_iff]at e;rw[List.find?_append,e];show Option.map _ ((none:Option (KN × List Int)).or (List.find? _ [(k,r)]))=_;rw[YN];show Option.map _ ((none:Option (KN × List Int)).or (match decide (k=k) with|true=>some (k,r)|false=>_))=_;rw[Jw rfl];rfl
theorem nq {k j:KN}(r:List Int)(h:j≠k):∀ ps:LvL,zx (ps.map λx=>if x.1=k then (x.1,r) else x) j=zx ps j:=by
 intro ps
 induction ps with
 | nil=>rfl
 | cons p ps ih =>
  unfold zx at ih ⊢;rw[JY,YN,YN];by_cases z:p.1=k
  ·rw[Jj z]
   have n:¬ p.1=j:=λy=>h (y.symm.trans z);show (match decide (p.1=j) with|true=>_|false=>_:Option (KN × List Int)).map _=_;rw[Jn n];exact ih
  ·rw[Jg z]
   by_cases y:p.1=j
   ·rw[Jw y]
   ·rw[Jn y];exact ih
theorem uq (ps:LvL){k j:KN}(r:List Int)(h:j≠k):zx (wc ps k r) j=zx ps j:=by
 unfold wc;split
 ·exact nq r h ps
 ·unfold zx
  rw[List.find?_append]
  cases e:List.find? (λx=>decide (x.1=j)) ps with
  | some x=>rfl
  | none =>
   show Option.map _ ((none:Option (KN × List Int)).or (List.find? _ [(k,r)]))=_;rw[YN];show Option.map _ ((none:Option (KN × List Int)).or (match decide (k=j) with|true=>some (k,r)|false=>_))=_;rw[Jn (λz=>h z.symm)];rfl
abbrev Tri:=KN × List Int × Nat
structure Met (step:KN->Nat->Option KN) (seen:LvL) (T:List Tri) (a:LAcc):Prop where
 on:∀ t c,zx a.on t=some c->∃ x∈T,step x.1 x.2.2=some t/\c=yS x.2.1 x.2.2
 has:∀ x∈T,∀ t,step x.1 x.2.2=some t->zx seen t=none->∃ c,zx a.on t=some c/\leR c (yS x.2.1 x.2.2)
 fl1:∀ r∈a.fl,∃ x∈T,step x.1 x.2.2=none/\r=yS x.2.1 x.2.2
 fl2:∀ x∈T,step x.1 x.2.2=none->yS x.2.1 x.2.2∈a.fl
theorem nj {α:Type}{o:Option α}(h:¬ o.isSome=true):o=none:=by
 cases o with
 | none=>rfl
 | some x=>exact absurd rfl h
section
variable {step:KN->Nat->Option KN}{seen:LvL}
theorem Met.go {T:List Tri}{a:LAcc}(h:Met step seen T a)(s:KN)(c:List Int)(m:Nat):Met step seen (T++[(s,c,m)]) (go1 step seen s c a m):=by
 have last:∀ {p:Tri->Prop}{x:Tri},x∈T++[(s,c,m)]->(x∈T->p x)->p (s,c,m)->p x:=λb F E=>by
  rcases Jv.mp b with z|z
  ·exact F z
  ·rw[Jd.mp z];exact E
 have d:∀ {x:Tri},x∈T->x∈T++[(s,c,m)]:=λz=>Yq _ z;have l:((s,c,m):Tri)∈T++[(s,c,m)]:=Jz _ (Jd.mpr rfl);unfold go1
 cases e:step s m with
 | none =>
  refine⟨λt j g=>?_,λx b t f sn=>?_,λr n=>?_,λx b ex=>?_⟩
  ·obtain⟨x,b,q⟩:=h.on t j g;exact⟨x,d b,q⟩
  ·refine last (p:=λx=>step x.1 x.2.2=some t->∃ j,zx a.on t=some j/\leR j (yS x.2.1 x.2.2)) b (λz f=>h.has x z t f sn) (λf=>?_) f
   have i:step s m=some t:=f;rw[e]at i;cases i
  ·rcases Jv.mp n with z|z
   ·obtain⟨x,b,q⟩:=h.fl1 r z;exact⟨x,d b,q⟩
   ·exact⟨_,l,e,Jd.mp z⟩
  ·exact last (p:=λx=>step x.1 x.2.2=none->yS x.2.1 x.2.2∈a.fl++[yS c m]) b (λz ex=>Yq _ (h.fl2 x z ex)) (λ_=>Jz _ (Jd.mpr rfl)) ex
 | some u =>
  dsimp only;by_cases o:(zx seen u).isSome=true
  ·rw[Jj o]
   refine⟨λt j g=>?_,λx b t f sn=>?_,λr n=>?_,λx b ex=>?_⟩
   ·obtain⟨x,b,q⟩:=h.on t j g;exact⟨x,d b,q⟩
   ·refine last (p:=λx=>step x.1 x.2.2=some t->∃ j,zx a.on t=some j/\leR j (yS x.2.1 x.2.2)) b (λz f=>h.has x z t f sn) (λf=>?_) f
    have i:step s m=some t:=f;rw[e]at i;cases i;rw[sn]at o;cases o
   ·obtain⟨x,b,q⟩:=h.fl1 r n;exact⟨x,d b,q⟩
   ·refine last (p:=λx=>step x.1 x.2.2=none->yS x.2.1 x.2.2∈a.fl) b (λz ex=>h.fl2 x z ex) (λex=>?_) ex
    have k:step s m=none:=ex;rw[e]at k;cases k
  ·rw[Jg o]
   obtain⟨C,w⟩:=jN (yS c m) ((zx a.on u).getD (yS c m));refine⟨λt j g=>?_,λx b t f sn=>?_,λr n=>?_,λx b ex=>?_⟩
   ·by_cases tt:t=u
    ·subst tt
     rw[vL]at g;cases g;rcases pY (yS c m) ((zx a.on t).getD (yS c m)) with q|q
     ·exact⟨_,l,e,q⟩
     ·cases v:zx a.on t with
      | none=>rw[v]at q;exact⟨_,l,e,by rw[Option.getD_none]at q ⊢;exact q⟩
      | some y =>
       rw[v]at q;obtain⟨x,b,B,A⟩:=h.on t y v;exact⟨x,d b,B,by rw[ZE]at q ⊢;rw[q];exact A⟩
    ·rw[uq _ _ tt]at g
     obtain⟨x,b,q⟩:=h.on t j g;exact⟨x,d b,q⟩
   ·by_cases tt:t=u
    ·subst tt
     rw[vL];refine⟨_,rfl,?_⟩;refine last (p:=λx=>step x.1 x.2.2=some t->leR (xU (yS c m) ((zx a.on t).getD (yS c m))) (yS x.2.1 x.2.2)) b (λz f=>?_) (λ_=>C) f;obtain⟨y,G,D⟩:=h.has x z t f sn;rw[G,ZE]at w ⊢;exact xZ w D
    ·rw[uq _ _ tt]
     refine last (p:=λx=>step x.1 x.2.2=some t->∃ j,zx a.on t=some j/\leR j (yS x.2.1 x.2.2)) b (λz f=>h.has x z t f sn) (λf=>?_) f;have i:step s m=some t:=f;rw[e]at i;exact absurd (Jq i).symm tt
   ·obtain⟨x,b,q⟩:=h.fl1 r n;exact⟨x,d b,q⟩
   ·refine last (p:=λx=>step x.1 x.2.2=none->yS x.2.1 x.2.2∈a.fl) b (λz ex=>h.fl2 x z ex) (λex=>?_) ex
    have k:step s m=none:=ex;rw[e]at k;cases k
theorem Met.row (s:KN)(c:List Int):∀ (ms:List Nat) {T:List Tri}{a:LAcc},Met step seen T a->Met step seen (T++ms.map λm=>(s,c,m)) (ms.foldl (go1 step seen s c) a)
 | [],T,a,h=>by rw[List.map_nil,Y6];exact h
 | m::r,T,a,h=>by
  have:=Met.row s c r (h.go s c m)
  rwa [JV]at this
def iA (moves:List Nat)(level:LvL):List Tri:=level.flatMap λp=>moves.map λm=>(p.1,p.2,m)
theorem Met.lev (moves:List Nat):∀ (level:LvL) {T:List Tri}{a:LAcc},Met step seen T a->Met step seen (T++iA moves level) (level.foldl (goS step seen moves) a)
 | [],T,a,h=>by show Met step seen (T++[]) a;rw[Y6];exact h
 | p::r,T,a,h=>by
  have:=Met.lev moves r (Met.row p.1 p.2 moves h)
  rwa [JV]at this
theorem nQ (moves:List Nat)(level:LvL):Met step seen (iA moves level) (yo step seen moves level) :=
 Met.lev moves level (T:=[]) (a:=⟨[],[]⟩) ⟨λt c g=>(by cases g),λx b=>absurd b Jx,λr d=>absurd d Jx,λx b=>absurd b Jx⟩
end
theorem vf {moves:List Nat}{level:LvL}{x:Tri}:x∈iA moves level↔(x.1,x.2.1)∈level/\x.2.2∈moves:=by
 unfold iA;rw[List.mem_flatMap];constructor
 ·rintro⟨p,b,a⟩
  obtain⟨m,c,rfl⟩:=JE.mp a;exact⟨b,c⟩
 ·rintro⟨e,d⟩
  exact⟨_,e,JE.mpr ⟨_,d,rfl⟩⟩
def wW (step:KN->Nat->Option KN):KN->List Nat->Option KN
 | s,[]=>some s
 | s,m::r=>(step s m).bind λt=>wW step t r
def wM (c:List Int)(row:List Nat):List Int:=row.foldl yS c
theorem xE (step:KN->Nat->Option KN):∀ (r:List Nat) (s:KN) (m:Nat),wW step s (r++[m])=(wW step s r).bind λt=>step t m
 | [],s,m=>by
  show (step s m).bind (λt=>some t)=step s m
  cases step s m<;>rfl
 | a::r,s,m=>by
  show (step s a).bind (λt=>wW step t (r++[m]))=((step s a).bind λt=>wW step t r).bind λt=>step t m
  cases step s a with
  | none=>rfl
  | some t=>exact xE step r t m
theorem xb (c:List Int)(r:List Nat)(m:Nat):wM c (r++[m])=yS (wM c r) m:=by unfold wM;rw[Zt];rfl
theorem rE (c:List Int)(r:List Nat):(wM c r).length=c.length:=by
 unfold wM
 induction r generalizing c with
 | nil=>rfl
 | cons m r ih=>show (r.foldl yS (yS c m)).length=_;rw[ih,wk]
theorem sK {r:List Nat}{n:Nat}(h:r.length=n+1):∃ q m,r=q++[m]/\q.length=n:=by
 have ne:r≠[]:=λz=>by rw[z]at h;cases h
 refine⟨r.dropLast,r.getLast ne,(List.dropLast_concat_getLast ne).symm,?_⟩;rw[List.length_dropLast];simp_all
def Over (moves row:List Nat):Prop:=∀ m∈row,m∈moves
structure Clm (step:KN->Nat->Option KN) (moves:List Nat) (k0:KN) (c0:List Int) (n:Nat) (level seen:LvL):Prop where
 fst:(zx (seen++level) k0).isSome=true
 way:∀ t c,zx level t=some c->∃ row,row.length=n/\Over moves row/\wW step k0 row=some t/\wM c0 row=c
 all:∀ row,row.length<=n->Over moves row->∃ s,wW step k0 row=some s/\(zx (seen++level) s).isSome=true
 cls:∀ s,(zx seen s).isSome=true->∀ m∈moves,∃ t,step s m=some t/\(zx (seen++level) t).isSome=true
 new:∀ s,(zx level s).isSome=true->zx seen s=none
 lst:∀ row s c,row.length=n->Over moves row->wW step k0 row=some s->zx level s=some c->leR c (wM c0 row)
 nd:LvNd level
 num:n<=seen.length
 rch:∀ s,(zx seen s).isSome=true->∃ row,Over moves row/\wW step k0 row=some s
section
variable {step:KN->Nat->Option KN}{moves:List Nat}{k0:KN}{c0:List Int}{n:Nat}{level seen:LvL}
theorem wS:∀ {ps:LvL},LvNd ps->∀ {s:KN}{c:List Int},(s,c)∈ps->zx ps s=some c
 | [],_,s,c,h=>by cases h
 | p::ps,nd,s,c,h=>by
  unfold LvNd at nd;rw[JY,JT]at nd;unfold zx;rw[YN];rcases Jr.mp h with z|z
  ·rw[<- z]
   show (match decide (s=s) with|true=>some (s,c)|false=>_:Option (KN × List Int)).map _=_;rw[Jw rfl];rfl
  ·have n:¬ p.1=s:=λy=>nd.1 (JE.mpr ⟨_,z,y.symm⟩)
   rw[Jn n];exact wS nd.2 z
theorem Clm.step_of (h:Clm step moves k0 c0 n level seen){row:List Nat}(e:row.length=n)(b:Over moves row):∃ s,wW step k0 row=some s/\((zx seen s).isSome=true\/∃ c,zx level s=some c):=by
 obtain⟨s,d,a⟩:=h.all row (by simp_all) b;refine⟨s,d,?_⟩;rw[xv,Wk]at a;rcases a with z|z
 ·exact .inl z
 ·exact .inr (ZN.mp z)
theorem Clm.next (h:Clm step moves k0 c0 n level seen)(ne:level≠[])(cl:∀ p∈level,p.2.length=c0.length)(fl:(yo step (seen++level) moves level).fl=[]):Clm step moves k0 c0 (n+1) (yo step (seen++level) moves level).on (seen++level):=by
 have M:=nQ (step:=step) (seen:=seen++level) moves level;have W:=tL (step:=step) (seen:=seen++level) (moves:=moves) (Ok:=λ_=>True) level λ_ _ _ _ _ _=>trivial
 have f:∀ s,(zx (yo step (seen++level) moves level).on s).isSome=true->zx (seen++level) s=none:=λs a=>by
  obtain⟨r,G⟩:=wF a;exact W.new _ G
 have o:∀ s c,zx level s=some c->∀ m∈moves,∃ t,step s m=some t/\((zx (seen++level) t).isSome=true\/∃ v,zx (yo step (seen++level) moves level).on t=some v/\leR v (yS c m)):=λs c g m b=>by
  have D:((s,c,m):Tri)∈iA moves level:=vf.mpr ⟨xQ g,b⟩
  cases e:step s m with
  | none =>
   have:=M.fl2 _ D e
   rw[fl]at this;cases this
  | some t =>
   refine⟨t,rfl,?_⟩;by_cases z:(zx (seen++level) t).isSome=true
   ·exact .inl z
   ·exact .inr (M.has _ D t e (nj z))
 have lead:∀ s,(zx (seen++level) s).isSome=true->∀ m∈moves,∃ t,step s m=some t/\(zx ((seen++level)++(yo step (seen++level) moves level).on) t).isSome=true:=λs a m b=>by
  rw[xv,Wk]at a;rcases a with z|z
  ·obtain⟨t,e,q⟩:=h.cls s z m b
   exact⟨t,e,by rw[xv,q];rfl⟩
  ·obtain⟨c,g⟩:=ZN.mp z
   obtain⟨t,e,q⟩:=o s c g m b;refine⟨t,e,?_⟩;rw[xv];rcases q with q|⟨v,q,_⟩
   ·rw[q];rfl
   ·rw[q];exact Bool.or_true _
 refine⟨by rw[xv,h.fst];rfl,λt c g=>?_,λrow G j=>?_,lead,f,λrow s c P j a g=>?_,W.nd,?_,λs a=>?_⟩
 ·obtain⟨x,O,e,Q⟩:=M.on t c g
  obtain⟨J,I⟩:=vf.mp O;obtain⟨row,N,A,w,L⟩:=h.way x.1 x.2.1 (wS h.nd J);refine⟨row++[x.2.2],by rw[Jc,N];rfl,λm b=>?_,by rw[xE,w];exact e,by rw[xb,L,Q]⟩;rcases Jv.mp b with z|z
  ·exact A m z
  ·rw[Jd.mp z];exact I
 ·rcases Nat.lt_or_ge n row.length with z|z
  ·obtain⟨q,m,rfl,B⟩:=sK (show row.length=n+1 by lia)
   obtain⟨s,k,l⟩:=h.all q (by simp_all) λm b=>j m (Yq _ b);obtain⟨t,e,i⟩:=lead s l m (j m (Jz _ (Jd.mpr rfl)));exact⟨t,by rw[xE,k];exact e,i⟩
  ·obtain⟨s,k,l⟩:=h.all row z j
   exact⟨s,k,by rw[xv,l];rfl⟩
 ·obtain⟨q,m,rfl,B⟩:=sK P
  have F:m∈moves:=j m (Jz _ (Jd.mpr rfl));have E:Over moves q:=λm b=>j m (Yq _ b);obtain⟨t,k,l⟩:=h.step_of B E;rw[xE,k]at a;have u:step t m=some s:=a;have sn:=f s (by rw[g];rfl);rcases l with z|⟨d,C⟩
  ·obtain⟨K,e,i⟩:=h.cls t z m F
   rw[u]at e;rw[<- Jq e,sn]at i;cases i
  ·obtain⟨K,e,i⟩:=o t d C m F
   rw[u]at e;rw[<- Jq e]at i;rcases i with y|⟨v,H,lc⟩
   ·rw[sn]at y;cases y
   ·rw[g]at H
    rw[Jq H,xb];refine xZ lc (pV ?_ (h.lst q t d B E k C));rw[rE];exact cl _ (xQ C)
 ·rw[Jc]
  have:=h.num;have:0<level.length:=List.length_pos_iff.mpr ne;lia
 ·rw[xv,Wk]at a
  rcases a with z|z
  ·exact h.rch s z
  ·obtain⟨c,g⟩:=ZN.mp z
   obtain⟨row,_,A,w,_⟩:=h.way s c g;exact⟨row,A,w⟩
structure Broke (step:KN->Nat->Option KN) (moves:List Nat) (k0:KN) (c0:List Int) (n:Nat) (c:List Int):Prop where
 ex:∃ row m,row.length=n/\Over moves (row++[m])/\wM c0 (row++[m])=c/\wW step k0 (row++[m])=none
 few:∀ row,row.length<=n->Over moves row->∃ s,wW step k0 row=some s
 lst:∀ row,row.length=n+1->Over moves row->wW step k0 row=none->leR c (wM c0 row)
theorem Clm.brk (h:Clm step moves k0 c0 n level seen)(cl:∀ p∈level,p.2.length=c0.length)(fl:(yo step (seen++level) moves level).fl≠[]):Broke step moves k0 c0 n (i3 (yo step (seen++level) moves level).fl):=by
 have M:=nQ (step:=step) (seen:=seen++level) moves level;obtain⟨x,B,e,F⟩:=M.fl1 _ (cK fl);obtain⟨r,o⟩:=vf.mp B;obtain⟨row,A,y,w,v⟩:=h.way x.1 x.2.1 (wS h.nd r);refine⟨⟨row,x.2.2,A,λm f=>?_,by rw[xb,v,F],by rw[xE,w];exact e⟩,λrow C b=>?_,λrow D b l=>?_⟩
 ·rcases Jv.mp f with z|z
  ·exact y m z
  ·rw[Jd.mp z];exact o
 ·obtain⟨s,c,_⟩:=h.all row C b
  exact⟨s,c⟩
 ·obtain⟨q,m,rfl,i⟩:=sK D
  have k:m∈moves:=b m (Jz _ (Jd.mpr rfl));have j:Over moves q:=λm f=>b m (Yq _ f);obtain⟨t,c,E⟩:=h.step_of i j;rw[xE,c]at l;have a:step t m=none:=l;rcases E with z|⟨d,g⟩
  ·obtain⟨G,e,_⟩:=h.cls t z m k
   rw[a]at e;cases e
  ·have u:((t,d,m):Tri)∈iA moves level:=vf.mpr ⟨xQ g,k⟩
   rw[xb];refine xZ (aZ (M.fl2 _ u a)) (pV ?_ (h.lst q t d i j c g));rw[rE];exact cl _ (xQ g)
end
structure Shut (step:KN->Nat->Option KN) (moves:List Nat) (k0:KN) (ks:List KN):Prop where
 fst:k0∈ks
 cls:∀ s∈ks,∀ m∈moves,∃ t∈ks,step s m=some t
def x5 (ls:List LvL):List KN:=ls.flatMap λlv=>lv.map (·.1)
theorem gA (a b:List LvL):x5 (a++b)=x5 a++x5 b:=by unfold x5;rw[List.flatMap_append]
theorem wt {ps:LvL}{s:KN}:(zx ps s).isSome=true↔s∈ps.map (·.1):=by
 constructor
 ·intro h
  obtain⟨r,a⟩:=wF h;exact JE.mpr ⟨_,a,rfl⟩
 ·intro h
  obtain⟨p,b,rfl⟩:=JE.mp h;exact wG b
section
variable {step:KN->Nat->Option KN}{moves:List Nat}{k0:KN}{c0:List Int}{most:Nat}
theorem mG:∀ (m n:Nat) (level seen:LvL) (ls:List LvL),Clm step moves k0 c0 n level seen->(∀ p∈level,p.2.length=c0.length)->x5 ls=seen.map (·.1)->LvNd (seen++level)->seen.length<=most ->
  match yq step moves most m level seen ls with
  | .opn=>True
  | .brk c=>∃ l,l<=most/\Broke step moves k0 c0 l c
  | .whl d=>Shut step moves k0 (x5 d)/\(x5 d).Nodup/\(x5 d).length<=most/\∀ s∈x5 d,∃ row,Over moves row/\wW step k0 row=some s
 | 0,_,_,_,_,_,_,_,_,_=>trivial
 | m+1,n,level,seen,ls,h,cl,k,nd,le=>by
  by_cases g:level=[]
  ·subst g
   rw[uZ];have e:x5 ls=(seen++([]:LvL)).map (λp:KN × List Int=>p.1):=by rw[Y6];exact k
   refine⟨⟨by rw[e];exact wt.mp h.fst,λs i m j=>?_⟩,by rw[e];exact nd,by rw[k,Je];exact le,λs i=>?_⟩
   ·rw[k]at i
    obtain⟨t,q,o⟩:=h.cls s (wt.mpr i) m j;exact⟨t,by rw[e];exact wt.mp o,q⟩
   ·rw[k]at i
    exact h.rch s (wt.mpr i)
  by_cases j:most<seen.length+level.length
  ·rw[uc g j];trivial
  by_cases f:(yo step (seen++level) moves level).fl=[]
  ·rw[rH g j f]
   have na:=nR (step:=step) (seen:=seen++level) (moves:=moves) (n:=c0.length) level cl;have W:=tL (step:=step) (seen:=seen++level) (moves:=moves) (Ok:=λ_=>True) level λ_ _ _ _ _ _=>trivial;refine mG m (n+1) _ _ _ (h.next g cl f) na.on ?_ ?_ (by rw[Jc];simp_all)
   ·rw[gA,k,JQ]
    congr 1
    show level.map (λp:KN × List Int=>p.1)++[]=level.map (λp:KN × List Int=>p.1);rw[Y6]
   ·unfold LvNd
    rw[JQ];refine List.nodup_append.mpr ⟨nd,W.nd,λa v b u e=>?_⟩;subst e;obtain⟨p,r,rfl⟩:=JE.mp u;have:=W.new p r;have z:=wt.mpr v;rw[this]at z;cases z
  ·rw[ud g j f]
   exact⟨n,by have:=h.num;lia,h.brk cl f⟩
theorem gU:Clm step moves k0 c0 0 [(k0,c0)] []:=by
 have b:zx [(k0,c0)] k0=some c0:=wS (show LvNd [(k0,c0)] from JT.mpr ⟨Jx,Zj⟩) (.head _)
 have only:∀ {t:KN}{c:List Int},zx [(k0,c0)] t=some c->t=k0/\c=c0:=λg=>by
  have e:=Jd.mp (xQ g);injection e with j e2;exact⟨j,e2⟩
 have nil:∀ {row:List Nat},row.length<=0->row=[]:=λh=>List.length_eq_zero_iff.mp (by lia);refine⟨by rw[Wi,b];rfl,λt c g=>?_,λrow d _=>?_,λs a=>(by cases a),λs _=>rfl,λrow s c i _ a g=>?_,JT.mpr ⟨Jx,Zj⟩,Jf _,λs a=>(by cases a)⟩
 ·obtain⟨rfl,rfl⟩:=only g
  exact⟨[],rfl,λm f=>absurd f Jx,rfl,rfl⟩
 ·rw[nil d]
  exact⟨k0,rfl,by rw[Wi,b];rfl⟩
 ·obtain⟨_,rfl⟩:=only g
  rw[nil (Nat.le_of_eq i)];exact uD _
theorem gW:match yq step moves most (most+1) [(k0,c0)] [] [] with
  | .opn=>True
  | .brk c=>∃ b,b<=most/\Broke step moves k0 c0 b c
  | .whl a=>Shut step moves k0 (x5 a)/\(x5 a).Nodup/\(x5 a).length<=most/\∀ s∈x5 a,∃ row,Over moves row/\wW step k0 row=some s :=
 mG (most+1) 0 _ _ _ gU (λp d=>by rw[Jd.mp d]) rfl (JT.mpr ⟨Jx,Zj⟩) (JN _)
theorem jS {α:Type}[DecidableEq α]:∀ {l ks:List α},l.Nodup->(∀ x∈l,x∈ks)->l.length<=ks.length
 | [],_,_,_=>JN _
 | a::l,ks,nd,h=>by
  rw[JT]at nd;have ha:=h a (.head _);have:=jS (l:=l) (ks:=ks.erase a) nd.2 λx b=>(List.mem_erase_of_ne λ(z:x=a)=>nd.1 (z ▸ b)).mpr (h x (.tail _ b));rw[List.length_erase_of_mem ha]at this;have:0<ks.length:=List.length_pos_of_mem ha;rw[JW];lia
end
def zF (N:Nt):List Int:=List.replicate N.forks.length 0
def zL (N:Nt):List Int:=List.replicate N.lanes 0
def uL (N:Nt)(row:List Nat)(i:Nat):List Int:=(row.take i).foldl (vK N) (zF N)
def rR (N:Nt)(row:List Nat)(i:Nat):Prop:=passE N (uL N row i) (row.getD i 0)=i%N.lanes
def sU (N:Nt)(row:List Nat)(i:Nat):KN:=stK (uL N row i) [((i%N.lanes:Nat):Int)]
def k0P (N:Nt):KN:=stK (zF N) [0]
theorem re (N:Nt){row:List Nat}{i:Nat}(h:i<row.length):uL N row (i+1)=vK N (uL N row i) (row.getD i 0):=by
 unfold uL;rw[<- YH h,Zt,Ja,J7 h];rfl
theorem xF {row:List Nat}{i:Nat}(h:i<row.length):row.take (i+1)=row.take i++[row.getD i 0]:=by
 rw[<- YH h,Ja,J7 h];rfl
theorem rm (N:Nt)(row:List Nat)(i:Nat):xD N (sU N row i) (row.getD i 0)=if ((passE N (uL N row i) (row.getD i 0):Nat):Int)=((i%N.lanes:Nat):Int) then some (stK (vK N (uL N row i) (row.getD i 0)) [(((i%N.lanes:Nat):Int)+1)%(N.lanes:Nat)]) else none:=rfl
theorem lN (N:Nt)(row:List Nat):∀ i,i<=row.length->(∀ j,j<i->rR N row j)->wW (xD N) (k0P N) (row.take i)=some (sU N row i)
 | 0,_,_=>by
  rw[Zi];show some (k0P N)=some (sU N row 0);unfold sU
  rw[Nat.zero_mod];rfl
 | i+1,h,ok=>by
  rw[xF h,xE,lN N row i (by lia) λj a=>ok j (by lia)];show xD N (sU N row i) (row.getD i 0)=_;rw[rm,Jj (by rw[show passE N (uL N row i) (row.getD i 0)=i%N.lanes from ok i (Wa _)])];unfold sU;rw[re N h]
  congr 2
  congr 1
  rw[show ((i%N.lanes:Nat):Int)+1=((i%N.lanes+1:Nat):Int) from rfl,<- Int.natCast_emod,Nat.mod_add_mod]
theorem eL (N:Nt){row:List Nat}{i:Nat}(h:i<row.length)(ok:∀ j,j<i->rR N row j)(no:¬ rR N row i):wW (xD N) (k0P N) (row.take (i+1))=none:=by
 rw[xF h,xE,lN N row i (by lia) ok];show xD N (sU N row i) (row.getD i 0)=none;rw[rm];exact Jg λz=>no (Int.ofNat.inj z)
theorem bV (N:Nt)(row:List Nat):∀ i,i<=row.length->(∀ j,j<=i->wW (xD N) (k0P N) (row.take j)≠none)->∀ j,j<i->rR N row j
 | 0,_,_,j,b=>by lia
 | i+1,h,a,j,b=>by
  have ih:=bV N row i (by lia) λj b=>a j (by lia);by_cases z:j<i
  ·exact ih j z
  ·have:j=i:=by lia
   subst this;exact Classical.byContradiction λno=>a (j+1) (Jf _) (eL N h ih no)
section
variable {N:Nt}
theorem xO (N:Nt)(row:List Nat):(wM (zL N) row).length=N.lanes:=by rw[rE];exact JX
theorem mR (ok:Nt.Ok N)(row:List Nat)(a:∀ m∈row,m<N.lanes):∀ i,i<=row.length->uL N row i=xB N (wM (zL N) (row.take i))
 | 0,_=>by
  rw[Zi];show zF N=xB N (zL N);unfold zL
  rw[mN];rfl
 | i+1,h=>by
  have b:row.getD i 0<N.lanes:=by
   rw[Ja,J7 h];exact a _ (JR h)
  rw[re N h,mR ok row a i (by lia),xF h,xb];exact(zbn ok false (xO N _) b).1.symm
theorem vE (ok:Nt.Ok N){row:List Nat}(a:∀ m∈row,m<N.lanes){i:Nat}(h:i<row.length):yd N (wM (zL N) (row.take (i+1)))=yE (yd N (wM (zL N) (row.take i))) (passE N (uL N row i) (row.getD i 0)) 1:=by
 have b:row.getD i 0<N.lanes:=by
  rw[Ja,J7 h];exact a _ (JR h)
 rw[mR ok row a i (by lia),xF h,xb];exact(zbn ok false (xO N _) b).2.1
theorem nD (ok:Nt.Ok N){row:List Nat}(a:∀ m∈row,m<N.lanes){i:Nat}(h:i<row.length):passE N (uL N row i) (row.getD i 0)<N.lanes:=by
 have c:row.getD i 0<N.lanes:=by
  rw[Ja,J7 h];exact a _ (JR h)
 have b:=(zbn ok false (xO N (row.take i)) c).2.2;unfold passE;rw[mR ok row a i (by lia)];have:=Ws (ok.en.mem_iff.mpr (Y2.mpr b));rw[ok.en.length_eq,Y7]at this;exact this
def kZ (N:Nt):Nat->List Int
 | 0=>List.replicate N.lanes 0
 | i+1=>yE (kZ N i) (i%N.lanes) 1
theorem wv (N:Nt):∀ i,(kZ N i).length=N.lanes
 | 0=>JX
 | i+1=>by show (yE _ _ _).length=_;rw[yh,wv N i]
theorem uF (ok:Nt.Ok N){row:List Nat}(a:∀ m∈row,m<N.lanes):∀ i,i<=row.length->(∀ j,j<i->rR N row j)->yd N (wM (zL N) (row.take i))=kZ N i
 | 0,_,_=>by rw[Zi];exact gO N ok
 | i+1,h,b=>by
  rw[vE ok a h,uF ok a i (by lia) λj c=>b j (by lia),show passE N (uL N row i) (row.getD i 0)=i%N.lanes from b i (Wa _)];rfl
theorem gu {xs:List Int}{i j:Nat}(hi:i<xs.length)(c:j<xs.length)(e:yE xs i 1=yE xs j 1):i=j:=by
 apply Classical.byContradiction;intro ne
 have a:(yE xs i 1).getD i 0=xs.getD i 0+1:=by
  unfold yE;rw[Ja,List.getElem?_set_self hi];rfl
 have b:(yE xs j 1).getD i 0=xs.getD i 0:=by
  unfold yE;rw[Ja,We (λz=>ne z.symm),<- Ja]
 rw[e,b]at a;lia
theorem xa:∀ (row:List Nat) (c:List Int) (p:Nat),p<c.length->(wM c row).getD p 0=c.getD p 0+(row.count p:Nat)
 | [],c,p,h=>by show c.getD p 0=_;rw[List.count_nil];lia
 | m::r,c,p,h=>by
  show (wM (yS c m) r).getD p 0=_;rw[xa r (yS c m) p (by rw[wk];exact h),List.count_cons];unfold yS yE;by_cases z:m=p
  ·subst z
   rw[Ja,List.getElem?_set_self h,ZF,Jj rfl];show c.getD m 0+1+_=_;rw[Int.natCast_add];lia
  ·rw[Ja,We z,<- Ja,Jg (by simpa using z),ZG]
theorem qc (N:Nt)(p:Nat):(zL N).getD p 0=0:=ww _ _
theorem bN {a b:List Nat}(p:a.Perm b)(N:Nt):wM (zL N) a=wM (zL N) b:=by
 refine wL (by rw[xO,xO]) λi hi=>?_;rw[xO]at hi;have c:(zL N).length=N.lanes:=JX;rw[xa a _ i (by simp_all),xa b _ i (by simp_all),p.count_eq]
def rQ (c:List Int):List Nat:=(List.range c.length).flatMap λi=>List.replicate (c.getD i 0).toNat i
theorem sL (c:List Int)(a:Nat):(rQ c).count a=if a<c.length then (c.getD a 0).toNat else 0:=by
 unfold rQ;generalize c.length=n
 induction n with
 | zero=>rfl
 | succ n ih =>
  rw[List.range_succ,List.flatMap_append,List.count_append,ih];show _+(List.replicate (c.getD n 0).toNat n++[]).count a=_;rw[Y6,List.count_replicate];by_cases z:n=a
  ·subst z
   rw[ZF,Jj rfl,Jg (YG _),Jj (Wa _),Zp]
  ·have nb:(n == a)=false:=by simpa using z
   rw[nb,Jg (show ¬(false=true) by decide),ZG];by_cases y:a<n
   ·rw[Jj y,Jj (by lia)]
   ·rw[Jg y,Jg (by lia)]
theorem ow {row:List Nat}(b:∀ m∈row,m<N.lanes):(rQ (wM (zL N) row)).Perm row:=by
 rw[List.perm_iff_count];intro a;have c:(zL N).length=N.lanes:=JX;rw[sL,xO];by_cases h:a<N.lanes
 ·rw[Jj h,xa row _ a (by simp_all),qc];simp_all
 ·rw[Jg h]
  exact(List.count_eq_zero.mpr λz=>h (b a z)).symm
theorem gp (ok:Nt.Ok N){moves:List Nat}(w:∀ m∈moves,m<N.lanes){n:Nat}{c:List Int}(B:Broke (xD N) moves (k0P N) (zL N) n c){row:List Nat}(D:row.Perm (rQ c)) :
  row.length=n+1/\(∀ m∈row,m<N.lanes)/\(∀ j,j<n->rR N row j)/\¬ rR N row n:=by
 obtain⟨d,m,A,h,H,G⟩:=B.ex;have a:∀ x∈d++[m],x<N.lanes:=λx b=>w x (h x b);have g:row.Perm (d++[m]):=D.trans (H ▸ ow a);have p:row.length=n+1:=by rw[g.length_eq,Jc,A];rfl
 have t:Over moves row:=λx b=>h x (g.mem_iff.mp b);have lt:∀ x∈row,x<N.lanes:=λx b=>w x (t x b)
 have f:∀ {r:List Nat},r.length=n+1->Over moves r->∀ j,j<n->rR N r j:=λ{r} I E=>bV N r n (by simp_all) λj F=>by
  obtain⟨s,e⟩:=B.few (r.take j) (by rw[Jt];lia) λx b=>E x (YX b);rw[e];exact λz=>by cases z
 have u:=f p t;have C:(d++[m]).length=n+1:=by rw[Jc,A];rfl
 have v:=f C h
 have o:¬ rR N (d++[m]) n:=λz=>by
  have:=lN N (d++[m]) (n+1) (by simp_all) λj F=>by
   by_cases y:j<n
   ·exact v j y
   ·rw[show j=n by lia];exact z
  rw[JC (by simp_all),G]at this;cases this
 refine⟨p,lt,u,λz=>?_⟩;have k:=vE ok lt (i:=n) (by simp_all);have l:=vE ok a (i:=n) (by simp_all);rw[uF ok lt n (by simp_all) u,JC (by simp_all)]at k;rw[uF ok a n (by simp_all) v,JC (by simp_all)]at l;rw[bN g N]at k;rw[k]at l;have q:=gu (by rw[wv];exact nD ok lt (by simp_all)) (by rw[wv];exact nD ok a (by simp_all)) l;exact o (by unfold rR;rw[<- q];exact z)
end
def wD (cs:List Int):List Bool:=List.zipWith (λa b:Int=>decide (b<=a)) cs (cs.drop 1)
def xk (cs:List Int):Bool:=(wD cs).all id && decide (cs.getD 0 0-cs.getD (cs.length-1) 0<2)
theorem iF {cs:List Int}:(wD cs).all id=true↔∀ i,i+1<cs.length->cs.getD (i+1) 0<=cs.getD i 0:=by
 have at_:∀ i,i+1<cs.length->(wD cs)[i]?=some (decide (cs.getD (i+1) 0<=cs.getD i 0)):=λi hi=>by
  unfold wD;rw[List.getElem?_zipWith,Wx,J7 (show i<cs.length by lia),J7 (show 1+i<cs.length by lia)];rw[Ja,Ja,J7 (show i<cs.length by lia),J7 hi];have e:cs[1+i]'(by lia)=cs[i+1]'hi:=by congr 1;lia
  rw[e];rfl
 have f:(wD cs).length=cs.length-1:=by unfold wD;rw[ZL,Y4];simp_all
 constructor
 ·intro h i hi
  exact YD (Yc.mp h _ (JP (at_ i hi)))
 ·intro h
  refine Yc.mpr λb c=>?_;obtain⟨k,a,d⟩:=Wp c;have q:=at_ k (by omega);rw[J7 a,d]at q;rw[Jq q];exact Jw (h k (by omega))
theorem uM {cs:List Int}:xk cs=true↔(∀ i,i+1<cs.length->cs.getD (i+1) 0<=cs.getD i 0)/\cs.getD 0 0-cs.getD (cs.length-1) 0<2:=by
 unfold xk;rw[Yx,iF];exact and_congr Iff.rfl ⟨YD,λh=>Jw h⟩
theorem bF (N:Nt):∀ (n j:Nat),j<N.lanes->(kZ N n).getD j 0=((n / N.lanes:Nat):Int)+if j<n%N.lanes then 1 else 0
 | 0,j,h=>by
  show (List.replicate N.lanes (0:Int)).getD j 0=_
  rw[Nat.zero_div,Nat.zero_mod,Jg (Zr j),ww];rfl
 | n+1,j,h=>by
  show (yE (kZ N n) (n%N.lanes) 1).getD j 0=_;rw[yb (by rw[wv];exact h),bF N n j h];have hm:n%N.lanes<N.lanes:=Nat.mod_lt _ (by lia);have a:=Nat.div_add_mod n N.lanes;by_cases z:n%N.lanes+1=N.lanes
  ·have e:n+1=N.lanes*(n / N.lanes+1)+0:=by rw[Nat.mul_add];lia
   have q:(n+1) / N.lanes=n / N.lanes+1:=by rw[e,ZG,Nat.mul_div_cancel_left _ (by lia)]
   have r:(n+1)%N.lanes=0:=by rw[e,ZG,Nat.mul_mod_right]
   rw[q,r,Jg (Zr j)];by_cases y:j<n%N.lanes
   ·rw[Jj y,Jg (by lia)];simp_all
   ·rw[Jg y,Jj (by lia)];simp_all
  ·have e:n+1=N.lanes*(n / N.lanes)+(n%N.lanes+1):=by lia
   have q:(n+1) / N.lanes=n / N.lanes:=by
    rw[e,Nat.mul_add_div (by lia),Nat.div_eq_of_lt (show n%N.lanes+1<N.lanes by lia),ZG]
   have r:(n+1)%N.lanes=n%N.lanes+1:=by rw[e,Nat.mul_add_mod,Nat.mod_eq_of_lt (by lia)]
   rw[q,r];by_cases y:j<n%N.lanes
   ·rw[Jj y,Jg (by lia),Jj (by lia)];lia
   ·by_cases x:j=n%N.lanes
    ·rw[Jg y,Jj x.symm,Jj (by lia)];lia
    ·rw[Jg y,Jg (λt=>x t.symm),Jg (by lia)];lia
theorem iw {N:Nt}(n e:Nat)(d:e<N.lanes)(ne:e≠n%N.lanes):xk (yE (kZ N n) e 1)=false:=by
 apply Bool.eq_false_iff.mpr;intro h;obtain⟨f,g⟩:=uM.mp h;have dl:=wv N n;rw[yh,dl]at f g;have i:n%N.lanes<N.lanes:=Nat.mod_lt _ (by lia);have at_:∀ j,j<N.lanes->(yE (kZ N n) e 1).getD j 0=((n / N.lanes:Nat):Int)+(if j<n%N.lanes then 1 else 0)+if e=j then 1 else 0:=λj c=>by rw[yb (by rw[dl];exact c),bF N n j c]
 rcases e with _|e
 ·have b:=at_ 0 d
  have a:=at_ (N.lanes-1) (by lia);rw[Jj (show 0<n%N.lanes by lia),Jj rfl]at b;rw[Jg (show ¬(N.lanes-1<n%N.lanes) by lia),Jg (show ¬(0=N.lanes-1) by lia)]at a;lia
 ·have q:=f e (by omega)
  have b:=at_ e (by lia);have a:=at_ (e+1) d;rw[Jg (show ¬(e+1=e) by lia)]at b;rw[Jj rfl]at a;rw[b,a]at q;by_cases y:e<n%N.lanes
  ·rw[Jj y,Jj (show e+1<n%N.lanes by lia)]at q;lia
  ·rw[Jg y,Jg (show ¬(e+1<n%N.lanes) by lia)]at q;lia
structure Rw (moves:List Nat) (n:Nat) (t:Int) (row:List Int):Prop where
 len:row.length=n
 nn:∀ x∈row,0<=x
 sum:row.sum=t
 oth:∀ i,i<n->i∉moves->row.getD i 0=0
end L2
namespace Own
open PySem PySem.Spec PyProof.Rows
section
variable {prog:Yo}{w:YI}{A:YO}{E:Jo->JO->Prop}{s:JO}{z TI TO i1 i2:JI}{f1 f2:List JI}{n1 n2:Nat}{P1 P2:Nat->Jo->Prop}{S1 S2:Nat->YP->Prop}{a b:Jo}
theorem jy (S:Sep z TI TO i1 i2 f1 f2) (C:Draws prog w A i1 f1 n1 P1 S1) (B:Draws prog w A i2 f2 n2 P2 S2) {Q:Fin->JO->Prop}(f:IsZip s.heap z TI TO .none) (P:IsPair s.heap TI (.ref i1) (.ref i2)) (O:IsPair s.heap TO a b) (T:S1 n2 s.heap) (R:S2 n2 s.heap) (l1:n2<n1)
  (h:∀ h' x tk,(∀ c o,c∉[z,TO,i1,i2]->s.heap.get? c=some o->h'.get? c=some o)->(∃ o,h'.get? x=some o/\o.cls=.type "StopIteration")->E (.ref x) { s with heap:=h',toks:=tk }):wpAny (model prog w) A (Builtin.«zip.__next__» ⟨[.ref z],[]⟩) Q E s:=by
 have r:=S.all;simp only[JT,Jr,Jx,YB,WB]at r;obtain⟨⟨W,n,H,G⟩,⟨IO,I1,I2⟩,⟨U,O2⟩,V,_⟩:=r;refine rf 2 f rfl rfl (rf 3 f rfl rfl (J0 (Yj P rfl (J0 (rf 0 f rfl rfl (J9 ?_))))));simp only[YV];refine J0 (Z1 (rf 4 f rfl rfl (J0 (Ye f (show 0<5 by decide) λN F i=>J0 ?_))));have k:IsZip N z TI TO .ellipsis:=F;simp only[List.zipIdx_cons,List.zipIdx_nil,Z2,Zx];refine J0 (J0 (wpAny_onRaise (J0 (C.item n2 _ _ _ l1 (C.frame _ _ _ T λc j o e=>(i.2 c λq=>S.z1 (q ▸ j)).trans e) λx M X Y db g=>J9 ?_))));have v:IsPair M TO a b:=(g.2 TO U).trans ((i.2 TO (Ne.symm n)).trans O);refine J0 (Yj v rfl (J0 (wpAny_updateSeq_pair v λj Z sc=>J0 (ZY (J9 ?_)))));have l:S2 n2 j:=B.frame _ _ _ R λc d o e=>(sc.2 c λq=>S.t2 (q ▸ d)).trans ((g.2 c λq=>S.o2 (q ▸ d)).trans ((i.2 c λq=>S.z2 (q ▸ d)).trans e));refine J0 (J0 (wpAny_onRaise (J0 (B.done _ _ _ l λL y t ⟨J,ex,u⟩=>?_))));have D:IsZip j z TI TO .ellipsis:=(sc.2 z n).trans ((g.2 z H).trans k);have m:IsZip L z TI TO .ellipsis:=t z _ G D;have I:y≠z:=λq=>by rw[q,m]at ex;cases ex;exact absurd (show Value.type "zip" = Value.type "StopIteration" from u) (by decide)
 refine Ye m (show 0<5 by decide) λK _ p=>h K y _ (λc o d e=>?_) ⟨J,(p.2 y I).trans ex,u⟩;simp only[Jr,Jx,YB,WB]at d;exact(p.2 c d.1).trans (t c o d.2.2.2 ((sc.2 c d.2.1).trans ((g.2 c d.2.2.1).trans ((i.2 c d.1).trans e))))
end
end Own
namespace L2
open PySem PySem.Spec PyProof.Rows Own
def Itq (K:Jl)(b1 b2:Bool)(a1 a2:JI):It :=
 ⟨(Itz K b1 b2 a1 a2).go,(Itz K b1 b2 a1 a2).yld,λi H=>(Itz K b1 b2 a1 a2).stop i H\/∃ b a,SqB b1 K H a1 b/\SqB b2 K H a2 a/\a.length=i/\i<b.length⟩
theorem j4 {P:Yo}{w:YI}{K:Jl}{es:List Expr}{k1}{p1:Pos}(b1 b2:Bool)(a1 a2 z TI TO i1 i2:JI)(nd:[z,TI,TO,i1,i2].Nodup) :
  Turn P w K (.Tuple es k1 p1) (Itq K b1 b2 a1 a2) [z,TI,TO,i1,i2] z (λi h=>IsZip h z TI TO .none/\IsPair h TI (.ref i1) (.ref i2)/\(∃ a b,IsPair h TO a b)/\RIt b1 h i1 a1 i/\RIt b2 h i2 a2 i) where
 mem:=(xg (P:=P) (w:=w) (K:=K) (es:=es) (k1:=k1) (p1:=p1) b1 b2 a1 a2 z TI TO i1 i2 nd).mem
 obj:=(xg (P:=P) (w:=w) (K:=K) (es:=es) (k1:=k1) (p1:=p1) b1 b2 a1 a2 z TI TO i1 i2 nd).obj
 keep:=(xg (P:=P) (w:=w) (K:=K) (es:=es) (k1:=k1) (p1:=p1) b1 b2 a1 a2 z TI TO i1 i2 nd).keep
 item:=(xg (P:=P) (w:=w) (K:=K) (es:=es) (k1:=k1) (p1:=p1) b1 b2 a1 a2 z TI TO i1 i2 nd).item
 done:=by
  intro X G B J D i pins s σ H E I m st p;rcases p with p|⟨xs,ys,u,t,W,Y⟩
  ·exact(xg (P:=P) (w:=w) (K:=K) (es:=es) (k1:=k1) (p1:=p1) b1 b2 a1 a2 z TI TO i1 i2 nd).done X G B J D i pins s σ H E I m st p
  obtain⟨y,hI,⟨a,b,hO⟩,M,L⟩:=st;subst G B J;obtain⟨r,U,p1⟩:=I.sq u;obtain⟨n,R,v⟩:=I.sq t;have k:=nd;simp only[JT,Jr,Jx,YB,WB]at k;obtain⟨⟨zI,zO,O,N⟩,⟨IO,I1,I2⟩,⟨O1,O2⟩,l,_⟩:=k;have f:∀ c∈[z,TI,TO,i1,i2],c≠a1:=λc d=>I.sq_ne u (m c d);have e:∀ c∈[z,TI,TO,i1,i2],c≠a2:=λc d=>I.sq_ne t (m c d);have S:Sep z TI TO i1 i2 [i1,a1] [i2,a2]:=⟨nd,by simp[O,f z (by simp)],by simp[O1,f TO (by simp)],by simp[Ne.symm l,f i2 (by simp)],by simp[N,e z (by simp)],by simp[O2,e TO (by simp)],by simp[l,e i1 (by simp)]⟩;have g:i=n.toArray.size:=by rw[Jh,<- R.length,W]
  have V:n.toArray.size<r.toArray.size:=by rw[<- g,Jh,<- U.length];exact Y
  have C:=I.ok.hd D;have j:s.TypeIs (.ref z) "zip":=⟨_,y,rfl⟩;unfold pyNext
  refine J0 (ZP (wpAny_callSpecial?_slot (name:="__next__") j Wj (Y5 Wj j F.entry_zip_next
   (jy S (draws (prog:=X.prog) (w:=X.w) (A:=X.A.in1) C b1 i1 a1 r.toArray (p1.ne M)) (draws (prog:=X.prog) (w:=X.w) (A:=X.A.in1) C b2 i2 a2 n.toArray (v.ne L)) y hI hO ⟨by rw[<- g];exact M,p1⟩ ⟨by rw[<- g];exact L,v⟩ V λh' x Q Z ⟨o,eo,co⟩=>?_) (F.args_zip_next_1 _))))
  refine J0 (ZB (T:="StopIteration") (b:=true) ⟨o,eo,co⟩ isSubtype_stop (J9 ⟨rfl,I.spun (t':=Q) (fp:=[z,TI,TO,i1,i2]) (λc o d q=>Z c o ?_ q) m⟩));simp only[Jr,Jx,YB,WB]at d ⊢;exact⟨d.1,d.2.2.1,d.2.2.2.1,d.2.2.2.2⟩
 self:=(xg (P:=P) (w:=w) (K:=K) (es:=es) (k1:=k1) (p1:=p1) b1 b2 a1 a2 z TI TO i1 i2 nd).self
def zbY (K:Jl)(b1 b2:Bool)(g:TA):TI:=λσ H R=>g σ H λf c=>∃ b a e d,f=[.ref b,.ref a]/\SqB b1 K c b e/\SqB b2 K c a d/\R (Itq K b1 b2 b a) c
theorem aA {X:Cx}{a b:Expr}{o:TA}{p pos p1:Pos}{es:List Expr}{k1} (b1 b2:Bool) (L:Gl X "zip") (hm:X.mg "zip" = none) (ha:PA X [a,b] o) (J:starEach [a,b] X.env=[(false,eval a X.env),(false,eval b X.env)]:=by rfl) (e:starEach [b] X.env=[(false,eval b X.env)]:=by rfl) :
  PI X (.Tuple es k1 p1) (.Call (.Name "zip" p) [a,b] [] pos) (zbY X.K b1 b2 o):=by
 intro pins s σ H R I h;refine Call_ (xu I L hm (u:=.type "zip") (by rfl) (Ym (thn (ha pos pins s σ H _ I h) λV A ⟨U,Q,d,D,E⟩=>?_) (by rw[J,e]) (by rw[e];rfl)));obtain⟨y,x,T,S,rfl,n,m,q⟩:=E;obtain⟨u,v,rfl,C,B⟩:=D.two;cases C;cases B;obtain⟨l,_,j⟩:=d.sq n;obtain⟨k,_,i⟩:=d.sq m;refine callType_new F.called_zip (by decide) (F.typeCall_zip_2 _ _) (F.newCall_zip_2 _ _) (λobj=>F.args_object_init_3 obj _ _) F.entry_zip_new (kj b1 b2 y x l.toArray k.toArray) ⟨j,i,λW z ⟨TI,TO,t,r,G,f,g,N,M,P,O⟩ K=>⟨⟨_,g,rfl⟩,?_⟩⟩;exact wpAny_pyIter_zip g ⟨_,[z,TI,TO,t,r],_,_,Q,rfl,d.kept (t':=A.toks) K,j4 b1 b2 y x z TI TO t r G,⟨g,N,⟨_,_,M⟩,P,O⟩,λc w=>d.fpOk (f c w) (d.hok.fresh (f c w)),q⟩
theorem ag {K:Jl}{b1 b2:Bool}{a1 a2:JI}{xs ys:List V}(w:ys.length<=xs.length){g:TG}{h:TE}{l:JI}{σ:St}{H:Hp}{Q:VK}(a:Nat->List V->St->Hp->Prop)(r:a 0 [] σ H)(o:∀ i acc σ H,a i acc σ H->H l=some (.lst acc)/\SqB b1 K H a1 xs/\SqB b2 K H a2 ys)(n:∀ i acc σ H x y T,xs[i]?=some x->ys[i]?=some y->H T=none->a i acc σ H->g (.ref T) σ (upd H T (.tup [x,y])) λb u=>h b u λz j=>j l=some (.lst acc)/\acc.length<sizeLine/\Nx ys.length i (a (i+1) (acc++[z]) b (upd j l (.lst (acc++[z])))))(hd:∀ acc σ H,a ys.length acc σ H->Q (.ref l) H):∃ W:Nat->Nat->List V->St->Hp->Prop,(∃ m,W 0 m [] σ H)/\LCW (Itq K b1 b2 a1 a2) g mU h l Q W:=by
 refine⟨λi m acc σ H=>m=ys.length-i/\i<=ys.length/\a i acc σ H,⟨ys.length,by simp,JN _,r⟩,?_⟩;rintro i m acc σ H ⟨rfl,hi,p⟩;obtain⟨k,c,d⟩:=o i acc σ H p;refine⟨k,?_⟩;by_cases f:i<ys.length
 ·refine .inr ⟨⟨xs,ys,_,_,c,d,J7 (by lia),J7 f⟩,λv A ⟨x,y,ex,s,T,q,t,e2⟩=>?_⟩
  subst t e2;exact n i acc σ H x y T (ex xs c) (s ys d) q p
 ·have e:i=ys.length:=by lia
  subst e;by_cases eq:xs.length=ys.length
  ·exact .inl ⟨.inl ⟨xs,c,eq⟩,hd acc σ H p⟩
  ·exact .inl ⟨.inr ⟨xs,ys,c,d,rfl,by lia⟩,hd acc σ H p⟩
end L2
namespace Bn
open PySem L2 Own
theorem zbo {ps:List V}{x:V}(h:ps[ps.length-1]?=some x):atI ps (-1)=some x:=by
 have ne:ps≠[]:=by rintro rfl;simp at h
 have g:ps.getLast ne=x:=by rw[List.getLast_eq_getElem];exact(Jb.mp h).2
 have e:ps=ps.dropLast++[x]:=by rw[<- g];exact(List.dropLast_concat_getLast ne).symm
 rw[e];exact bT _ _
theorem sj {α:Type}:∀ (xs:List α) (k:Nat) (h:k<xs.length),(xs[k]::xs.eraseIdx k).Perm xs
 | x::xs,0,_=>.refl _
 | x::xs,k+1,h=>by
  have a:k<xs.length:=by simpa using h
  have ih:=sj xs k a;exact(List.Perm.swap x xs[k] _).trans (ih.cons x)
end Bn
namespace K40
open PySem L2 Own Bn
abbrev lH:Stmt:=top 42
abbrev pE:Stmt:=top 43
theorem gJ (c:Int):c-c / 2=(c+1) / 2:=by lia
def tX:Sp:=λb H Q _=>∃ (c:JI) (cs:List Int),b=[.ref c]/\H c=some (.tup (cs.map V.int))/\1<=cs.length/\cs.length<=16/\∀ a,Same H a->Q (.bl (xk cs)) a
section
variable {P:Yo}{w:YI}{K:Jl}{mg:Str->Option Jo}{base:YP}
theorem fw:FnScope ["_law_net_here","_law_counts_here","_law_row","_law_a","_law_b","_law_total"] ["_law_net_here","_law_counts_here"] (zN lH):=by trivial
theorem dv {f:JI}{fd:Yl}(F:Fun K "_law_ends" "_law_ends" lH f fd) (G:Mgs mg):FnOk P w K mg base CX0 1 f fd ["_law_net_here","_law_counts_here"] uP:=by
 refine F.ok fw (λX H Q E h=>?_) (λax A outer s H X Q E hr h=>?_)
 ·obtain⟨r,fr,S,O,N,c,cs,rfl,_⟩:=h
  rfl
 obtain⟨r,fr,S,O,N,c,cs,rfl,ok,na,Y,cl,k⟩:=h;refine⟨_,(@zH _ _ _ _ _ (@zi _ _ 2 _ _ _ _ fw.nd rfl (.inr rfl) (@zj _ _ _ _ _ _ _ _ _ yY rfl G.list rfl (@zA _ _ _ _ _ (@pvb _ 1 _ _ rfl) zC rfl) (by decide) (by decide) rfl rfl) rfl (by trivial)) (@zH _ _ _ _ _ (@xH _ _ _ _ _ _ _ _ Yi rfl (@wg _ _ _ _ (@zZ _ _ _ _ _ _ _ yL (@pvb _ 0 _ _ rfl) zE (λ_ _=>rfl))) (@yR _ _ _ _ _ _ rfl (@zS _ _ _ _ _ (@zP _ _ 3 _ fw.nd rfl (.inl rfl) (by trivial)) (@zS _ _ _ _ _ (@zP _ _ 4 _ fw.nd rfl (.inl rfl) (by trivial)) yD rfl) rfl) rfl rfl) (@zH _ _ _ _ _ (@zi _ _ 5 _ _ _ _ fw.nd rfl (.inl rfl) (@zQ _ _ _ _ _ _ _ _ yQ (@zZ _ _ _ _ _ _ _ zo (@pvb _ 2 _ _ rfl) (@pvb _ 3 _ _ rfl) (λ_ _=>rfl)) (@zZ _ _ _ _ _ _ _ zo (@pvb _ 2 _ _ rfl) (@pvb _ 4 _ _ rfl) (λ_ _=>rfl))) rfl (by trivial)) (@zH _ _ _ _ _ (@yU _ _ _ _ _ _ (@zQ _ _ _ _ _ _ _ _ wR (@pvb _ 5 _ _ rfl) (@zQ _ _ _ _ _ _ _ _ xN (@pvb _ 5 _ _ rfl) zE)) (@x9 _ _ _ _ _ _ _ (@pvb _ 2 _ _ rfl) (@pvb _ 3 _ _ rfl) y7 (by intro _;rfl)) rfl rfl rfl) (@zM _ _ _ (@yU _ _ _ _ _ _ (@zQ _ _ _ _ _ _ _ _ xN (@pvb _ 5 _ _ rfl) zE) (@x9 _ _ _ _ _ _ _ (@pvb _ 2 _ _ rfl) (@pvb _ 4 _ _ rfl) y7 (by intro _;rfl)) rfl rfl rfl)))) (by intro _;rfl)) (@zM _ _ _ (@zV _ _ _ _ (@zj _ _ _ _ _ _ _ _ _ zt rfl G.tuple rfl (@zA _ _ _ _ _ (@vw _ _ _ _ none _ _ _ _ _ _ ["_law_lane","_law_row"] [none,some 2] rfl (@wg _ _ _ _ (@zZ _ _ _ _ _ _ _ yL (@pvb _ 0 _ _ rfl) zE (λ_ _=>rfl))) (CapOk.of (by kernel_rfl)) (λ_ _ _ _ _=>(@zP _ _ 0 _ (show (["_law_lane","_law_row"]:List Str).Nodup from by decide +kernel) rfl (.inl rfl) (.inr rfl))) (λ_ _ _ _ _=>xG) (λ_ _ _ _ _=>(@zZ _ _ _ _ _ _ (eU K) zo (@pvb _ 1 _ _ rfl) (@pvb _ 0 _ _ rfl) (λ_ _=>rfl))) (by intro _;rfl)) zC rfl) (by decide) (by decide) rfl rfl))))),?_⟩;refine zB ⟨c,_,rfl,.inr (SqT.of Y),λlo j=>?_⟩;have M:=zD j (.lst (cs.map V.int));refine zB ⟨r,_,_,_,rfl,rfl,SqT.of (M _ _ na.net),rfl,fr,rfl,⟨_,SqT.of (M _ _ na.forks)⟩,?_⟩;refine oA (K:=K) (a:=fr) (xs:=O) (λi σ n=>(∃ L J I,σ=[some (.ref r),some (.ref c),some (.ref lo),L,J,I])/\Same H n/\n lo=some (.lst ((yM (N.forks.take i) cs).1.map V.int))) ⟨⟨_,_,_,rfl⟩,M,zG⟩ (λi σ n _ q=>SqT.of (q.2.1 _ _ na.forks)) ?_ ?_
 ·rintro i p σ n R ⟨⟨L,J,I,rfl⟩,d,m⟩
  obtain⟨a,g,rfl,U,Z⟩:=(na.prs.tups (Tups.of d)).get R;have ab:=ok.fk g (JP U);have fl:(yM (N.forks.take i) cs).1.length=N.lanes:=by rw[wJ,cl]
  have fx:=wI U cs;generalize yM (N.forks.take i) cs=st at *;refine⟨a,_,rfl,SqT.of Z,rfl,_,_,rfl,_,_,rfl,rfl,?_⟩;refine zB (zB ⟨lo,_,_,_,rfl,rfl,SqL.of m,wU (by lia),_,rfl,_,rfl,lo,_,_,_,rfl,rfl,SqL.of m,wU (by lia),_,_,rfl,rfl,?_⟩);refine zB (zB ⟨_,_,rfl,rfl,⟨by decide,by decide⟩,_,_,rfl,rfl,?_⟩);refine zB (zB ⟨lo,_,_,g.1,rfl,rfl,m,uj (by rw[Je];lia),?_⟩);refine zB ⟨_,_,rfl,rfl,⟨by decide,by decide⟩,_,rfl,_,rfl,lo,_,_,g.2,rfl,rfl,zG,uj (by rw[Z6,Je];lia),⟨_,_,_,rfl⟩,λb o e=>?_,?_⟩
  ·rw[zK (zJ e j),zK (zJ e j)];exact d b o e
  ·rw[zG,fx]
   dsimp only;rw[gJ];unfold yT;rw[wa,wa]
 ·rintro σ n ⟨⟨L,J,I,rfl⟩,d,m⟩
  have e:N.forks.take O.length=N.forks:=by rw[na.prs.len];exact Yz
  rw[e]at m;have fl:(yM N.forks cs).1.length=N.lanes:=by rw[wJ,cl]
  have el:N.ends.length=N.lanes:=by rw[ok.en.length_eq,Y7]
  have ao:=ok.l16;refine zB ⟨r,_,_,_,rfl,rfl,SqT.of (d _ _ na.net),rfl,S,rfl,⟨_,SqT.of (d _ _ na.ends)⟩,λl T=>?_⟩;refine sR (K:=K) (a:=S) (xs:=zW N.ends) (λi acc σ u=>(∃ v,σ=[v,some (.ref lo)])/\Same n u/\u l=some (.lst acc)/\acc=((N.ends.take i).map λe=>(yM N.forks cs).1.getD e 0).map V.int) ⟨⟨_,rfl⟩,zD T _,zG,rfl⟩ (λi acc σ u z=>⟨z.2.2.1,SqT.of (z.2.1 _ _ (d _ _ na.ends))⟩) ?_ ?_
  ·rintro i x acc σ u C ⟨⟨v,rfl⟩,y,D,t⟩
   have B:i<N.ends.length:=by have:=(Jb.mp C).1;rwa [zr]at this
   have ex:x=.int N.ends[i]:=by
    unfold zW at C;rw[JG,J7 B]at C;exact(Jq C).symm
   subst ex;have W:N.ends[i]<N.lanes:=Y2.mp (ok.en.mem_iff.mp (JR B));refine zB (zB ⟨lo,_,_,_,rfl,rfl,SqL.of (y _ _ m),wU (by lia),D,?_,nx (by rw[zr];exact B) ⟨⟨_,rfl⟩,λb o e=>?_,zG,?_⟩⟩)
   ·rw[t,Je,Je,Jt,JB];lia
   ·rw[zK (zJ e T)];exact y b o e
   ·rw[t,Yk B,JQ,JQ];rfl
  rintro acc σ u ⟨⟨v,rfl⟩,y,D,t⟩;rw[zr,Yz]at t;rw[t]at D;exact⟨l,_,rfl,.inl ⟨SqL.of D,λp R=>k p _ ((d.trans y).trans (zD R _)) zG⟩⟩
theorem zbH:FnScope ["_law_counts_here","_law_sinks"] ["_law_counts_here"] (zN pE):=by trivial
theorem iY {f:JI}{fd:Yl}(F:Fun K "_law_stair" "_law_stair" pE f fd) (G:Mgs mg):FnOk P w K mg base CX0 1 f fd ["_law_counts_here"] tX:=by
 refine F.ok zbH (λR H Q E h=>?_) (λZ A outer s H R Q E hr h=>?_)
 ·obtain⟨c,cs,rfl,_⟩:=h
  rfl
 obtain⟨c,cs,rfl,n,c1,ab,k⟩:=h;refine⟨_,(@zH _ _ _ _ _ (@zi _ _ 1 _ _ _ _ zbH.nd rfl (.inl rfl) (@zU _ _ _ _ _ _ _ _ _ (qW rfl true) rfl G.all rfl (@zA _ _ _ _ _ (@vw _ _ _ _ none _ _ _ (cy K 2 (sZ (xw 0) (sZ (xw 1) ar))) _ _ ["_law_one","_law_other"] [none,none] rfl (@aA _ _ _ _ _ _ _ _ _ false false rfl G.zip (@zA _ _ _ _ _ (@pvb _ 0 _ _ rfl) (@zA _ _ _ _ _ (@zz _ _ _ _ _ _ _ _ _ _ yW (@pvb _ 0 _ _ rfl) (@zu _ _ _ zE) yN) zC rfl) rfl) rfl rfl) (CapOk.of (by kernel_rfl)) (λ_ _ _ _ _=>(@yR _ _ _ _ _ _ rfl (@zS _ _ _ _ _ (@zP _ _ 0 _ (show (["_law_one","_law_other"]:List Str).Nodup from by decide +kernel) rfl (.inl rfl) (.inr rfl)) (@zS _ _ _ _ _ (@zP _ _ 1 _ (show (["_law_one","_law_other"]:List Str).Nodup from by decide +kernel) rfl (.inl rfl) (.inr rfl)) yD rfl) rfl) rfl rfl)) (λ_ _ _ _ _=>xG) (λ_ _ _ _ _=>(@xI _ _ _ _ _ _ _ _ df (@pvb _ 0 _ _ rfl) (@pvb _ 1 _ _ rfl) (yC _))) (by intro _;rfl)) zC rfl) (by decide) (by decide) rfl rfl) rfl (by trivial)) (@zM _ _ _ (@zV _ _ _ _ (@wj _ _ _ _ _ _ _ (@pvb _ 1 _ _ rfl) (@vT _ _ _ _ _ (@xI _ _ _ _ _ _ _ _ zbO (@zQ _ _ _ _ _ _ _ _ wR (@zZ _ _ _ _ _ _ _ yL (@pvb _ 0 _ _ rfl) zE (λ_ _=>rfl)) (@zZ _ _ _ _ _ _ _ yL (@pvb _ 0 _ _ rfl) (@jA _ _ _ _ _ _ qf zE) (λ_ _=>rfl))) zE (yC _))))))),?_⟩;refine zB (zB (zR rfl ⟨c,_,rfl,n,λN Y m u=>?_⟩))
 have X:xJ (cs.map V.int) (some 1) none=(cs.drop 1).map V.int:=by
  cases cs with
  | nil=>rfl
  | cons x cs=>exact(rD ((x::cs).map V.int) 1 (by simp)).trans (List.map_drop).symm
 rw[X]at u;refine⟨c,N,_,_,rfl,SqT.of (m _ _ n),SqT.of u,λl M=>?_⟩;have q:(wD cs).length=(cs.drop 1).length:=by unfold wD;rw[ZL,Y4];lia
 refine ag (K:=K) (b1:=false) (b2:=false) (a1:=c) (a2:=N) (xs:=cs.map V.int) (ys:=(cs.drop 1).map V.int) (by rw[Je,Je,Y4];lia) (λi acc σ d=>(∃ D C,σ=[D,C])/\Same Y d/\d l=some (.lst acc)/\acc=((wD cs).take i).map V.bl) ⟨⟨_,_,rfl⟩,zD M _,zG,rfl⟩ (λi acc σ d z=>⟨z.2.2.1,SqT.of (z.2.1 _ _ (m _ _ n)),SqT.of (z.2.1 _ _ u)⟩) ?_ ?_
 ·rintro i acc σ d x y T L J W ⟨⟨D,C,rfl⟩,j,p,rfl⟩
  rw[JG]at L J;obtain⟨a,O,rfl⟩:=Y0.mp L;obtain⟨b,B,rfl⟩:=Y0.mp J;have t:=(Jb.mp B).1;have I:=zD W (.tup [.int a,.int b]);refine⟨T,_,rfl,SqT.of zG,rfl,_,_,rfl,_,_,rfl,rfl,?_⟩;refine zB (zB ⟨_,_,rfl,rfl,I _ _ p,?_,nx (by rw[Je];exact t) ⟨⟨_,_,rfl⟩,λb o e=>?_,zG,?_⟩⟩)
  ·rw[Je,Jt,q,JB];rw[Y4]at t ⊢;lia
  ·rw[zK (zJ e M)];exact I _ _ (j _ _ e)
  ·have U:i<(wD cs).length:=by rw[q];exact t
   have e2:(wD cs)[i]?=some (decide (b<=a)):=by unfold wD;rw[List.getElem?_zipWith,O,B]
   rw[Yk U,JQ,(Jb.mp e2).2];rfl
 rintro acc σ d ⟨_,j,p,rfl⟩;rw[Je,<- q,Yz]at p;have g:=j _ _ (m _ _ n);refine⟨l,_,rfl,SqL.of p,?_⟩;have r:=k d (m.trans j);unfold xk at r;generalize (wD cs).all id=S at *
 cases S with
 | false=>exact zB (zR rfl (yF r))
 | true =>
  have dl:∀ i,i<cs.length->(cs.map V.int)[i]?=some (.int (cs.getD i 0)):=λi hi=>by rw[JG,Ja,J7 hi];rfl
  have v:atI (cs.map V.int) (-1)=some (.int (cs.getD (cs.length-1) 0)):=zbo (by rw[Je];exact dl _ (by lia));exact zB (zR rfl (yZ (zB ⟨c,_,0,_,rfl,rfl,SqT.of g,yJ (dl 0 (by lia)),_,rfl,_,rfl,c,_,(-1),_,rfl,rfl,SqT.of g,v,_,_,rfl,rfl,_,_,rfl,rfl,r⟩)))
end
end K40
namespace L2
open PySem PySem.Spec PyProof.Rows Own
theorem FnOk.any {P:Yo}{w:YI}{K:Jl}{mg:Str->Option Jo}{base:YP}{CX:CXT}{k:Nat}{f:JI}{fd:Yl}{ps:List Str}{sp:Nat->Sp}(M:Nat)(F:∀ m,m<=M->FnOk P w K mg base CX k f fd ps (sp m)) :
  FnOk P w K mg base CX k f fd ps (λvs H Q E=>∃ m,m<=M/\sp m vs H Q E) :=
 ⟨λvs H Q E ⟨m,a,q⟩=>(F m a).len vs H Q E q,λA outer s H args b vs Q E d e g c ⟨m,a,q⟩=>(F m a).run A outer s H args b vs Q E d e g c q⟩
end L2
namespace Bn
open PySem L2 Own
def xh:Nat->List Nat->List Fk × List Nat
 | 0,row=>([],row)
 | m+1,row=>((row.getD 0 0,row.getD (row.length / 2) 0)::((xh m (row.take (row.length / 2))).1++(xh m (row.drop (row.length / 2))).1),ye (xh m (row.take (row.length / 2))).2 (xh m (row.drop (row.length / 2))).2)
def mergeN:Nat->List Nat->List Nat->List Fk × List Nat
 | 0,a,b=>(a.zip b,a++b)
 | m+1,a,b=>((mergeN m (by2 0 a) (by2 1 b)).1++(mergeN m (by2 1 a) (by2 0 b)).1++(mergeN m (by2 0 a) (by2 1 b)).2.zip (mergeN m (by2 1 a) (by2 0 b)).2,ye (mergeN m (by2 0 a) (by2 1 b)).2 (mergeN m (by2 1 a) (by2 0 b)).2)
def xS:Nat->List Nat->List Fk × List Nat
 | 0,row=>([],row)
 | m+1,row=>((xS m (row.take (row.length / 2))).1++(xS m (row.drop (row.length / 2))).1++(mergeN m (xS m (row.take (row.length / 2))).2 (xS m (row.drop (row.length / 2))).2).1,(mergeN m (xS m (row.take (row.length / 2))).2 (xS m (row.drop (row.length / 2))).2).2)
theorem ve {m n:Nat}(h:n=2 ^ (m+1)):n / 2=2 ^ m/\n-n / 2=2 ^ m/\n / 2<=n:=by
 rw[ZH]at h;lia
theorem wq {m:Nat}{row:List Nat}(h:row.length=2 ^ (m+1)):(row.take (row.length / 2)).length=2 ^ m/\(row.drop (row.length / 2)).length=2 ^ m:=by
 obtain⟨a,b,c⟩:=ve h;rw[Jt,Y4];exact⟨by rw[Z7 c];exact a,b⟩
theorem uI {α:Type}{m:Nat}{a:List α}(h:a.length=2 ^ (m+1)):(by2 0 a).length=2 ^ m/\(by2 1 a).length=2 ^ m:=by
 rw[oI 0 (by decide),oI 1 (by decide),h,ZH];lia
theorem vg:∀ (m:Nat) (row:List Nat),row.length=2 ^ m->(xh m row).2.length=2 ^ m/\(xh m row).1.length+1=2 ^ m
 | 0,row,h=>⟨h,rfl⟩
 | m+1,row,h=>by
  obtain⟨a,b⟩:=wq h;obtain⟨c,f⟩:=vg m _ a;obtain⟨d,e⟩:=vg m _ b;show (ye _ _).length=_/\(_::(_++_)).length+1=_;rw[xc _ _ (c.trans d.symm),JW,Jc,c,ZH];exact⟨by lia,by grind⟩
theorem xY:∀ (m:Nat) (a b:List Nat),a.length=2 ^ m->b.length=2 ^ m->(mergeN m a b).2.length=2 ^ (m+1)/\(mergeN m a b).1.length=(m+1)*2 ^ m
 | 0,a,b,ha,hb=>by
  show (a++b).length=_/\(a.zip b).length=_
  rw[Jc,ZU,ha,hb];exact⟨rfl,rfl⟩
 | m+1,a,b,ha,hb=>by
  obtain⟨j,a1⟩:=uI ha;obtain⟨i,h⟩:=uI hb;obtain⟨d,g⟩:=xY m _ _ j h;obtain⟨c,f⟩:=xY m _ _ a1 i;show (ye _ _).length=_/\(_++_++List.zip _ _).length=_;rw[xc _ _ (d.trans c.symm),Jc,Jc,ZU,d,c,g,f,Nat.min_self];have e:(m+1)*2 ^ m+(m+1)*2 ^ m=(m+1)*2 ^ (m+1):=by rw[<- Nat.two_mul,ZH,Nat.mul_left_comm,Nat.mul_comm 2 (2 ^ m)]
  refine⟨by rw[ZH 2 (m+1),Nat.mul_comm],?_⟩;rw[e,<- Nat.succ_mul]
def uN:Nat->Nat
 | 0=>0
 | m+1=>uN m+uN m+(m+1)*2 ^ m
theorem vk:∀ m,m<=10->uN m<=100000/\(m+1)*2 ^ m<=20000:=by decide +kernel
theorem wy:∀ (m:Nat) (row:List Nat),row.length=2 ^ m->(xS m row).2.length=2 ^ m/\(xS m row).1.length=uN m
 | 0,row,h=>⟨h,rfl⟩
 | m+1,row,h=>by
  obtain⟨a,b⟩:=wq h;obtain⟨i,g⟩:=wy m _ a;obtain⟨f,e⟩:=wy m _ b;obtain⟨d,c⟩:=xY m _ _ i f;refine⟨d,?_⟩;show (List.append (List.append _ _) _).length=uN m+uN m+(m+1)*2 ^ m;rw[List.append_eq,List.append_eq,Jc,Jc,c,g,e]
def vh (k:Nat):Nt:=⟨2 ^ k,(xh k (List.range (2 ^ k))).1,(xh k (List.range (2 ^ k))).2⟩
def x8 (k:Nat):Nt:=⟨2 ^ k,(xS k (List.range (2 ^ k))).1,(xS k (List.range (2 ^ k))).2⟩
def za5 (m:Nat):Nt:=⟨2 ^ (m+1),(mergeN m ((List.range (2 ^ (m+1))).take (2 ^ m)) ((List.range (2 ^ (m+1))).drop (2 ^ m))).1,(mergeN m ((List.range (2 ^ (m+1))).take (2 ^ m)) ((List.range (2 ^ (m+1))).drop (2 ^ m))).2⟩
theorem gz:∀ k,k<5->(vh k).forks.length<=128/\(∀ f∈(vh k).forks,f.1<2 ^ k/\f.2<2 ^ k/\f.1≠f.2)/\(vh k).ends.Perm (List.range (2 ^ k)):=by decide +kernel
theorem iD:∀ k,k<5->(x8 k).forks.length<=128/\(∀ f∈(x8 k).forks,f.1<2 ^ k/\f.2<2 ^ k/\f.1≠f.2)/\(x8 k).ends.Perm (List.range (2 ^ k)):=by decide +kernel
theorem vC {k:Nat}(h:k<5):1<=2 ^ k/\2 ^ k<=16:=⟨ZX,Zc (show 0<2 by decide) (show k<=4 by lia)⟩
theorem be {k:Nat}(h:k<5):(vh k).Ok:=let ⟨a,b,c⟩:=gz k h;⟨(vC h).1,(vC h).2,a,b,c⟩
theorem fZ {k:Nat}(h:k<5):(x8 k).Ok:=let ⟨a,b,c⟩:=iD k h;⟨(vC h).1,(vC h).2,a,b,c⟩
end Bn
namespace L2
open PySem PySem.Spec PyProof.Rows Own
theorem jX {K:Jl}{b1 b2:Bool}{a1 a2:JI}{xs ys:List V}(w:xs.length=ys.length){g:TG}{h:TS}{D:Ends}{σ:St}{H:Hp}(a:Nat->St->Hp->Prop)(s:a 0 σ H)(o:∀ i σ H,i<=xs.length->a i σ H->SqB b1 K H a1 xs/\SqB b2 K H a2 ys)(n:∀ i x y T σ H,xs[i]?=some x->ys[i]?=some y->H T=none->a i σ H->g (.ref T) σ (upd H T (.tup [x,y])) λc f=>h { D with nx:=a (i+1),ct:=a (i+1),bk:=D.nx } c f)(q:∀ σ H,a xs.length σ H->D.nx σ H) :
  ∃ W:Nat->Nat->St->Hp->Prop,(∃ m,W 0 m σ H)/\∀ i m σ H,W i m σ H ->
   ((Itz K b1 b2 a1 a2).stop i H/\D.nx σ H)\/((Itz K b1 b2 a1 a2).go i H/\∃ N:St->Hp->Prop,(∀ d b,N d b->∃ k,k<m/\W (i+1) k d b)/\∀ x b,(Itz K b1 b2 a1 a2).yld i H x b->g x σ b λc f=>h { D with nx:=N,ct:=N,bk:=D.nx } c f):=by
 refine⟨λi m σ H=>m=xs.length-i/\i<=xs.length/\a i σ H,⟨_,rfl,JN _,s⟩,?_⟩;rintro i m σ H ⟨rfl,hi,p⟩;obtain⟨e,j⟩:=o i σ H hi p;by_cases more:i<xs.length
 ·refine .inr ⟨⟨xs,ys,_,_,e,j,J7 more,J7 (by simp_all)⟩,a (i+1),λd b l=>⟨xs.length-(i+1),by lia,rfl,more,l⟩,λv b ⟨x,y,ex,t,T,r,u,e2⟩=>?_⟩
  subst u e2;exact n i x y T σ H (ex xs e) (t ys j) r p
 ·obtain rfl:i=xs.length:=by lia
  exact .inl ⟨⟨xs,e,rfl⟩,q σ H p⟩
end L2
namespace Bn
open PySem L2 Own
def aw (k:Nat)(A:Nt):Nt:=⟨A.lanes+A.lanes,(A.forks++A.forks.map (shF A.lanes))++(mergeN k A.ends (A.ends.map (A.lanes + ·))).1,(mergeN k A.ends (A.ends.map (A.lanes + ·))).2⟩
def stV (s:Int)(n p:Nat):Int:=(s-p+n-1) / (n:Int)
end Bn
namespace Bn
open PySem L2 Own
structure Tst where
 sets:List Nat
 spots:List (Option (Nat × Nat))
 came:List Nat
 nms:List Nat
def S0 (N:Nt):Tst:=⟨List.replicate N.forks.length 0,[],List.replicate N.lanes 0,[]⟩
end Bn
namespace Bn
open PySem L2 Own
def dl (lane l:Nat):Int:=if l=lane then 1 else 0
def b2i (b:Bool):Int:=if b=true then 1 else 0
def IsSt (x:List Int):Prop:=∃ q r:Int,0<=r/\r<x.length/\∀ p (h:p<x.length),x[p]=q+if (p:Int)<r then 1 else 0
theorem tR (s:Int)(n p:Nat)(h:p<(y3 s n).length):(y3 s n)[p]=stV s n p:=by simp[y3,stV]
theorem kT {x:List Int}(h:IsSt x):∃ s,x=y3 s x.length:=by
 obtain⟨q,r,b,a,e⟩:=h;refine⟨q*x.length+r,ZC (xj _ _).symm λp c d=>?_⟩;rw[e p c,tR];exact(rp q x.length r p b a (by lia) (by lia)).symm
theorem md (s:Int)(n:Nat)(h:1<=n):IsSt (y3 s n):=by
 have b:(0:Int)<n:=by lia
 refine⟨s / n,s%n,Z8 _ (by lia),by rw[xj];exact Z4 _ b,λp a=>?_⟩;rw[tR];rw[xj]at a;exact zag s n p a
end Bn
namespace L2
open PySem
theorem pj {c:TT}{d b u:TS}{D:Ends}{σ:St}{H:Hp}(I:St->Hp->Prop)(key:∀ σ H,I σ H->u D σ H)(h:∀ a:Ends,(∀ σ H,I σ H->a.nx σ H)->a.rt=D.rt->zaw c d b a σ H):qh (zaw c d b) u D σ H:=h { D with nx:=u D } key rfl
theorem zb5 {v:V}{i:Nat}{u:TS}{D:Ends}{σ:St}{H:Hp}(h:u D (σ.set i (some v)) H):qh (bh (tC v) (xw i)) u D σ H:=h
theorem wm {H H':Hp}{x:JI}(s:Same H H')(h:H' x=none):H x=none:=by
 cases e:H x with
 | none=>rfl
 | some o=>rw[s _ _ e]at h;cases h
def zai (K:Jl):List V->Hp->VK->Prop:=λb H Q=>∃ p a,b=[V.ref p]/\(SqL K H p a\/SqT K H p a)/\Q (V.int a.length) H
theorem gj {X:Cx}:CallR X (.builtin "len") (zai X.K):=zY
end L2
namespace Bn
open PySem L2 Own
structure Pk3 (H:Hp) (l:JI):Prop where
 ex:∃ a b c:Int,H l=some (.lst [.int a,.int b,.int c])/\0<=a/\0<=b/\b<2 ^ 31
theorem Pk3.keep {H H':Hp}{l:JI}(S:Pk3 H l)(s:Same H H'):Pk3 H' l:=by
 obtain⟨a,b,c,h,r⟩:=S.ex;exact⟨a,b,c,s _ _ h,r⟩
theorem Pk3.lst {H:Hp}{l:JI}(S:Pk3 H l):∃ xs,H l=some (.lst xs):=by
 obtain⟨a,b,c,h,_⟩:=S.ex;exact⟨_,h⟩
theorem Pk3.ne {H:Hp}{l p:JI}(S:Pk3 H l)(h:H p=none):l≠p:=by
 obtain⟨a,e⟩:=S.lst;exact zJ e h
theorem Pk3.upd {H:Hp}{l p:JI}{o:HO}(S:Pk3 H l)(h:l≠p):Pk3 (upd H p o) l:=by
 obtain⟨a,b,c,e,r⟩:=S.ex;exact⟨a,b,c,by rw[zK h];exact e,r⟩
theorem But.tups3 {H H':Hp}{l:JI}(x:But l H H')(S:Pk3 H l):Tups H H':=λa b e=>x a _ e (by
 rintro rfl;obtain⟨_,z⟩:=S.lst
 rw[z]at e;cases e)
def qo (K:Jl):Sp:=λc H Q _=>∃ (a:JI) (ns:List Int) (k:Int),c=[.ref a,.int k]/\SqL K H a (ns.map V.int)/\ns.length<=63/\0<=k/\k<=1000/\∀ l b,H l=none->Same H b->Pk3 b l->Q (.ref l) b
def yu:Sp:=λa H Q _=>∃ (l:JI) (m:Int),a=[.ref l,.int m]/\0<m/\m<1073741824/\Pk3 H l/\∀ (v:Nat) H',(v:Int)<m->Pk3 H' l->But l H H'->Q (.int v) H'
def qm:Sp:=λd H Q _=>∃ (l p:JI) (b:List V),d=[.ref l,.ref p]/\H p=some (.lst b)/\b.length<=100000/\Pk3 H l/\∀ t c a,c.Perm b->a t=some (.tup c)->Pk3 a l->But l H a->Q (.ref t) a
theorem iP {ys:List V}{es:List Nat}(p:ys.Perm (zW es)):∃ ds:List Nat,ys=zW ds/\ds.Perm es:=by
 have key:∀ {ys f:List V},ys.Perm f->∀ {es:List Nat},f=zW es->∃ ds:List Nat,ys=zW ds/\ds.Perm es:=by
  intro ys f p
  induction p with
  | nil=>intro es e;cases es with
   | nil=>exact⟨[],rfl,.refl _⟩
   | cons a b=>cases e
  | cons b _ ih =>
   intro es e
   cases es with
   | nil=>cases e
   | cons a f =>
    injection e with i e2;obtain⟨cs,h,g⟩:=ih e2
    exact⟨a::cs,by rw[h,i];rfl,g.cons _⟩
  | swap b c l =>
   intro es e
   cases es with
   | nil=>cases e
   | cons a f=>cases f with
    | nil=>cases e
    | cons d f =>
     injection e with i e2;injection e2 with e2 o
     exact⟨d::a::f,by rw[i,e2,o];rfl,.swap _ _ _⟩
  | trans _ _ k j =>
   intro es e;obtain⟨cs,h,g⟩:=j e;obtain⟨ds,n,m⟩:=k h;exact⟨ds,n,m.trans g⟩
 exact key p rfl
end Bn
namespace L2
open PySem PySem.Spec PyProof.Rows Own Bn
def Sm (b:Nat):V->Prop
 | .int i=>i.natAbs<=10 ^ 29+b
 | _=>True
theorem Sm.more {b a:Nat}(hb:b<=a){x:V}(s:Sm b x):Sm a x:=by
 cases x with
 | int i=>exact JK s (Nat.add_le_add_left hb _)
 | _=>trivial
def Ma (H:Hp)(b:Nat):Nat->V->Prop
 | 0,x=>(An H x/\Sm b x)/\yK H x=none
 | h+1,x=>(An H x/\Sm b x)/\∀ xs,yK H x=some xs->xs.length<=b/\∀ y∈xs,Ma H b h y
theorem Ma.an {H:Hp}{b:Nat}:∀ {h:Nat}{x:V},Ma H b h x->An H x
 | 0,_,m=>m.1.1
 | _+1,_,m=>m.1.1
theorem Ma.sm {H:Hp}{b:Nat}:∀ {h:Nat}{x:V},Ma H b h x->Sm b x
 | 0,_,m=>m.1.2
 | _+1,_,m=>m.1.2
theorem Ma.dp {H:Hp}{b:Nat}(hb:b<=1000):∀ {h:Nat}(n:Nat) {x:V},Ma H b h x->Dp H n x
 | 0,0,_,m=>m.1.1
 | _+1,0,_,m=>m.1.1
 | 0,n+1,_,m=>⟨m.1.1,λxs e=>absurd (m.2.symm.trans e) nofun⟩
 | h+1,n+1,_,m=>⟨m.1.1,λxs e=>⟨JK (m.2 xs e).1 hb,λy a=>Ma.dp hb n ((m.2 xs e).2 y a)⟩⟩
theorem Ma.via {H H':Hp}{b:Nat}(A:∀ {x:V},An H x->An H' x/\yK H' x=yK H x):∀ {h:Nat}{x:V},Ma H b h x->Ma H' b h x
 | 0,_,m=>⟨⟨(A m.1.1).1,m.1.2⟩,(A m.1.1).2.trans m.2⟩
 | _+1,_,m=>⟨⟨(A m.1.1).1,m.1.2⟩,λxs e=>by
  rw[(A m.1.1).2]at e
  exact⟨(m.2 xs e).1,λy a=>Ma.via A ((m.2 xs e).2 y a)⟩⟩
theorem Ma.same {H H':Hp}{b h:Nat}{x:V}(s:Same H H')(m:Ma H b h x):Ma H' b h x :=
 m.via λa=>⟨a.kp (KpN.same s),a.row (KpN.same s)⟩
theorem wP {H:Hp}{a:JI}{xs:List V}(e:H a=some (.lst xs)):yK H (.ref a)=none:=by simp only[yK,e]
theorem Ma.but {H H':Hp}{l:JI}{b h:Nat}{x:V}(B:But l H H')(S:Pk3 H l)(j:Pk3 H' l)(m:Ma H b h x):Ma H' b h x:=by
 obtain⟨n,f⟩:=S.lst;obtain⟨k,g⟩:=j.lst;refine m.via λ{x} a=>?_;rcases a with a|⟨c,rfl,⟨i,e⟩|⟨i,e⟩|e⟩
 ·exact⟨.inl a,by cases x<;>first|rfl|exact a.elim⟩
 ·have d:=B _ _ e (by rintro rfl;rw[f]at e;cases e)
  exact⟨.inr ⟨_,rfl,.inl ⟨_,d⟩⟩,by rw[yk e,yk d]⟩
 ·by_cases z:c=l
  ·rw[z];exact⟨.inr ⟨_,rfl,.inr (.inl ⟨_,g⟩)⟩,by rw[wP f,wP g]⟩
  ·have d:=B _ _ e z
   exact⟨.inr ⟨_,rfl,.inr (.inl ⟨_,d⟩)⟩,by rw[wP e,wP d]⟩
 ·have d:=B _ _ e (by rintro rfl;rw[f]at e;cases e)
  exact⟨.inr ⟨_,rfl,.inr (.inr d)⟩,by simp only[yK,e,d]⟩
theorem Ma.more {H:Hp}{b a:Nat}(hb:b<=a):∀ {h h':Nat}{x:V},h<=h'->Ma H b h x->Ma H a h' x
 | 0,0,_,_,m=>⟨⟨m.1.1,m.1.2.more hb⟩,m.2⟩
 | 0,_+1,_,_,m=>⟨⟨m.1.1,m.1.2.more hb⟩,λxs e=>absurd (m.2.symm.trans e) nofun⟩
 | _+1,0,_,le,_=>absurd le (Nat.not_succ_le_zero _)
 | _+1,_+1,_,le,m=>⟨⟨m.1.1,m.1.2.more hb⟩,λxs e=>⟨JK (m.2 xs e).1 hb,λy c=>Ma.more hb (Nat.le_of_succ_le_succ le) ((m.2 xs e).2 y c)⟩⟩
theorem Ma.zero {H:Hp}{b h:Nat}{x:V}(a:An H x)(r:yK H x=none)(s:Sm b x:=by trivial):Ma H b h x:=by
 cases h with
 | zero=>exact⟨⟨a,s⟩,r⟩
 | succ h=>exact⟨⟨a,s⟩,λc e=>absurd (r.symm.trans e) nofun⟩
theorem Ma.non {H:Hp}{b h:Nat}:Ma H b h .non:=.zero (.inl trivial) rfl
theorem Ma.bl {H:Hp}{b h:Nat}(x:Bool):Ma H b h (.bl x):=.zero (.inl trivial) rfl
theorem Ma.int {H:Hp}{b h:Nat}(x:Int)(s:x.natAbs<=10 ^ 29+b:=by lia):Ma H b h (.int x):=.zero (.inl trivial) rfl s
theorem Ma.str {H:Hp}{b h:Nat}(x:Str):Ma H b h (.str x):=.zero (.inl trivial) rfl
theorem Ma.lst {H:Hp}{b h:Nat}{a:JI}{xs:List V}(e:H a=some (.lst xs)):Ma H b h (.ref a):=.zero (.inr ⟨_,rfl,.inr (.inl ⟨_,e⟩)⟩) (wP e)
theorem Ma.dict {H:Hp}{b h:Nat}{a:JI}(e:H a=some (.dK [])):Ma H b h (.ref a):=.zero (.inr ⟨_,rfl,.inr (.inr e)⟩) (by simp only[yK,e])
theorem Ma.tup {H:Hp}{b h:Nat}{a:JI}{xs:List V}(e:H a=some (.tup xs))(l:xs.length<=b)(m:∀ y∈xs,Ma H b h y):Ma H b (h+1) (.ref a) :=
 ⟨⟨.inr ⟨_,rfl,.inl ⟨_,e⟩⟩,trivial⟩,λd c=>by
  rw[yk e]at c;obtain rfl:=Jq c
  exact⟨l,m⟩⟩
theorem Ma.new {H:Hp}{b h:Nat}{a:JI}{xs:List V}(f:H a=none)(l:xs.length<=b)(m:∀ y∈xs,Ma H b h y):Ma (L2.upd H a (.tup xs)) b (h+1) (.ref a) :=
 Ma.tup zG l λy c=>Ma.same (zD f _) (m y c)
theorem Ma.lstN {H:Hp}{a:JI}(f:H a=none)(xs:List V){b h:Nat}:Ma (L2.upd H a (.lst xs)) b h (.ref a):=Ma.lst zG
theorem Ma.dictN {H:Hp}{a:JI}(f:H a=none){b h:Nat}:Ma (L2.upd H a (.dK [])) b h (.ref a):=Ma.dict zG
theorem Ma.kids {H:Hp}{b h:Nat}{x:V}{xs:List V}(m:Ma H b h x)(e:yK H x=some xs):xs.length<=b/\∃ h',h=h'+1/\∀ y∈xs,Ma H b h' y:=by
 cases h with
 | zero=>exact absurd (m.2.symm.trans e) nofun
 | succ h'=>exact⟨(m.2 xs e).1,h',rfl,(m.2 xs e).2⟩
def tZ:Sp:=λb H Q _=>∃ l,b=[.ref l]/\Pk3 H l/\∀ y a,Ma a 3 2 y->Pk3 a l->But l H a->Q y a
def tI (h:Nat):Sp:=λc H Q _=>∃ l x b,c=[.ref l,x]/\Pk3 H l/\b<=900/\Ma H b h x/\∀ y a,Ma a (b+3) (h+2) y->Pk3 a l->But l H a->Q y a
end L2
namespace L2
open PySem PySem.Spec PyProof PyProof.Rows Own Bn
def ly:V->Option Int
 | .int i=>some i
 | .bl b=>some (PyProof.Rows.b2i b)
 | _=>none
theorem oE {xs:List V}{lo hi:Option Int}{y:V}(h:y∈xJ xs lo hi):y∈xs:=Wf (YX h)
theorem oD (xs:List V)(lo hi:Option Int):(xJ xs lo hi).length<=xs.length:=by
 unfold xJ;rw[Jt,Y4];lia
theorem mC (xs:List V)(n:Nat):(xJ xs (some (n:Int)) none).length<=xs.length-n:=by
 unfold xJ;rw[Jt,Y4,HT.sIx_nat,HT.sIx_none];lia
theorem jf (xs:List V)(v:Nat):(xJ xs (some (v:Int)) (some ((v:Int)+1))).length<=1:=by
 unfold xJ;rw[Jt];refine JK (Nat.min_le_left _ _) ?_;show HT.sIx xs.length xs.length (some ((v+1:Nat):Int))-HT.sIx xs.length 0 (some (v:Int))<=1;rw[HT.sIx_nat,HT.sIx_nat];lia
section
variable {X:Cx}
theorem aH:OpR X (binaryOp .Add) (λx y H Q=>∃ i j,ly x=some i/\y=.int j/\Q (.int (i+j)) H):=by
 intro pins s σ H x y v u Q I a c ⟨i,j,e,e2,q⟩;subst e2;obtain⟨d,rfl⟩:=c
 cases x with
 | int k =>
  cases e;obtain⟨t,rfl⟩:=a
  exact add_int ⟨.int _,H,I.tok _,⟨_,rfl⟩,q⟩
 | bl b =>
  cases e;cases a
  exact PySem.IntBool.add_bool_int ⟨.int _,H,I.tok _,⟨_,rfl⟩,q⟩
 | _=>cases e
theorem jD:OpR X (binaryOp .Sub) (λx y H Q=>∃ i j,ly x=some i/\ly y=some j/\((∃ k,x=.int k)\/∃ k,y=.int k)/\Q (.int (i-j)) H):=by
 intro pins s σ H x y v u Q I c a ⟨i,j,e,e2,w,q⟩
 cases x with
 | int k =>
  cases e;obtain⟨t,rfl⟩:=c
  cases y with
  | int l =>
   cases e2;obtain⟨d,rfl⟩:=a
   exact sub_int ⟨.int _,H,I.tok _,⟨_,rfl⟩,q⟩
  | bl b =>
   cases e2;cases a
   exact PySem.IntBool.sub_int_bool ⟨.int _,H,I.tok _,⟨_,rfl⟩,q⟩
  | _=>cases e2
 | bl b =>
  cases e;cases c
  cases y with
  | int l =>
   cases e2;obtain⟨d,rfl⟩:=a
   exact PySem.IntBool.sub_bool_int ⟨.int _,H,I.tok _,⟨_,rfl⟩,q⟩
  | bl b=>rcases w with ⟨k,w⟩|⟨k,w⟩<;>cases w
  | _=>cases e2
 | _=>cases e
theorem kf:CallR X (.type "bool") (λxs H Q=>∃ x i,xs=[x]/\ly x=some i/\∀ b,Q (.bl b) H):=by
 rintro pins s σ H xs a Q I r ⟨x,i,rfl,e,q⟩
 cases x with
 | int k=>exact rK pins s σ H _ a Q I r (.inl ⟨_,rfl,q _⟩)
 | bl b=>exact rK pins s σ H _ a Q I r (.inr ⟨_,rfl,q _⟩)
 | _=>cases e
theorem aF (n:X.A.units<cLine):OpR X (compareOp .NotEq) (λx y H Q=>∃ a b xs,x=.ref a/\y=.ref b/\H a=some (.tup xs)/\H b=some (.tup [])/\Q (.bl (!xs.isEmpty)) H):=by
 intro pins s σ H x y v u Q I g f ⟨a,b,xs,r,e2,p,o,q⟩;subst r e2;cases g;cases f;obtain⟨c,d,m,_⟩:=I.tuple (SqT.of p);obtain⟨t,i,k,_⟩:=I.tuple (SqT.of o);cases i;refine SeqAt.RcNeAt.tuples (e:=λ_=>true) m k n (λj _ h=>absurd h (Zr _)) X.prog X.w _ _ ?_
 have e:(!((List.range (min c.toArray.size ([]:List Jo).toArray.size)).all (λ_=>true) && c.toArray.size == ([]:List Jo).toArray.size)) = !xs.isEmpty:=by
  have l:=d.length
  cases xs with
  | nil=>cases d;rfl
  | cons z w=>cases d;simp
 exact⟨.bl _,H,I,JS Value.bool e,q⟩
theorem gZ:CallR X (.type "str") (λxs H Q=>∃ x i,xs=[x]/\ly x=some i/\i.natAbs<=10 ^ 30/\∀ z,Q (.str z) H):=by
 rintro pins s σ H xs c Q I r ⟨x,i,rfl,e,b,q⟩;obtain⟨u,rfl,a⟩:=vd r
 cases x with
 | int k =>
  cases e;obtain⟨t,rfl⟩:=a;refine PySem.P.str_of_int ?_ ⟨.str _,H,I.tok _,⟨_,rfl⟩,q _⟩;by_cases z:i.natAbs=0
  ·rw[z];decide
  ·rw[Nat.log2_lt z]
   exact Nat.lt_of_le_of_lt b (by decide)
 | bl b =>
  cases a
  exact PySem.P.str_of_bool ⟨.str _,H,I.tok _,⟨_,rfl⟩,q _⟩
 | _=>cases e
end
end L2
namespace L2
open PySem PySem.Spec PyProof.Rows Own Bn
theorem tM {cs:List Int}(h:∀ i,i+1<cs.length->cs.getD (i+1) 0<=cs.getD i 0)(i:Nat):∀ d,i+d<cs.length->cs.getD (i+d) 0<=cs.getD i 0
 | 0,_=>Zz _
 | d+1,l=>Zq (h (i+d) l) (tM h i d (by lia))
theorem au {cs:List Int}(n1:1<=cs.length)(f:∀ i,i+1<cs.length->cs.getD (i+1) 0<=cs.getD i 0)(n:cs.getD 0 0-cs.getD (cs.length-1) 0<2):IsSt cs:=by
 obtain⟨q,eq⟩:∃ q,q=cs.getD (cs.length-1) 0:=⟨_,rfl⟩
 have lo:∀ i,i<cs.length->q<=cs.getD i 0:=λi hi=>by
  have:=tM f i (cs.length-1-i) (by lia);rw[show i+(cs.length-1-i)=cs.length-1 by lia]at this;rw[eq];exact this
 have hi:∀ i,i<cs.length->cs.getD i 0<=q+1:=λi hi=>by
  have:=tM f 0 i (by lia);rw[Zp]at this;lia
 have key:∀ k,k<=cs.length->∃ r,r<=k/\∀ p,p<k->cs.getD p 0=q+if p<r then 1 else 0:=by
  intro k
  induction k with
  | zero=>exact λ_=>⟨0,Jf _,λp d=>absurd d (Zr _)⟩
  | succ k ih =>
   intro m;obtain⟨r,l,e⟩:=ih (by lia);have a:=lo k (by lia);have b:=hi k (by lia);by_cases c:cs.getD k 0=q
   ·refine⟨r,by lia,λp d=>?_⟩
    by_cases z:p<k
    ·exact e p z
    ·have:p=k:=by lia
     rw[this,c,Jg (by lia)];lia
   ·have g:r=k:=by
     by_cases z:r<k
     ·have y:=e r z
      rw[Jg (YG _)]at y;have:=tM f r (k-r) (by lia);rw[show r+(k-r)=k by lia]at this;lia
     ·lia
    refine⟨k+1,Jf _,λp d=>?_⟩;rw[Jj d];by_cases z:p<k
    ·have:=e p z
     rw[g,Jj z]at this;exact this
    ·have:p=k:=by lia
     rw[this];lia
 obtain⟨r,j,e⟩:=key cs.length (Jf _);have last:=e (cs.length-1) (by lia)
 have h:r<cs.length:=by
  by_cases z:r<cs.length
  ·exact z
  ·rw[Jj (by lia)]at last;lia
 refine⟨q,r,Int.natCast_nonneg _,by lia,λp d=>?_⟩;have:=e p d;rw[Ja,J7 d]at this;refine Eq.trans this ?_;by_cases z:p<r
 ·rw[Jj z,Jj (by lia)]
 ·rw[Jg z,Jg (by lia)]
theorem mZ {cs:List Int}(n1:1<=cs.length):decide (cs=y3 cs.sum cs.length)=xk cs:=by
 rw[Ya,Wv];constructor
 ·intro h
  obtain⟨q,r,f,d,e⟩:IsSt cs:=by
   have:=md cs.sum cs.length n1
   rwa [<- h]at this
  have at_:∀ p,p<cs.length->cs.getD p 0=q+if (p:Int)<r then 1 else 0:=λp a=>by
   rw[Ja,J7 a];exact e p a
  refine uM.mpr ⟨λi hi=>?_,?_⟩
  ·rw[at_ _ hi,at_ i (by lia)]
   split<;>split<;>lia
  ·rw[at_ 0 (by lia),at_ _ (by lia)]
   split<;>split<;>lia
 ·intro h
  obtain⟨c,b⟩:=uM.mp h;obtain⟨s,e⟩:=kT (au n1 c b);have:=me s cs.length n1;rw[<- e]at this;rw[this];exact e
def iS (moves:List Nat)(cs:List Int):Bool:=(List.range cs.length).any λi=>!decide (cs.getD i 0=0) && !decide (i∈moves)
def vc (N:Nt)(moves:List Nat)(H:Hp)(x:V):Bool:=y4 H (N.lanes:Nat) x && (!iS moves (eM H x) && !xk (yd N (eM H x)))
def tY (K:Jl):Sp:=λb H Q _=>∃ r fr d c N sm,∃ moves:List Nat,∃ x,b=[.ref r,.ref sm,x]/\Nt.Ok N/\NetAt H r fr d c N/\H sm=some (.tup (zW moves))/\Deep K H 1 x/\∀ a,Same H a->Q (.bl (vc N moves H x)) a
def qr (K:Jl):Sp:=λc H Q _=>∃ r fr e d N sm,∃ moves:List Nat,∃ x,c=[.ref r,.ref sm,x]/\Nt.Ok N/\NetAt H r fr e d N/\H sm=some (.tup (zW moves))/\Deep K H 1 x/\(∀ a,yK H x=some a->∀ i:Int,.int i∈a->i<=10 ^ 40)/\∀ b,Same H b->Q (.bl (vc N moves H x)) b
end L2
namespace K40
open PySem L2 Own Bn
abbrev pC:Stmt:=top 28
abbrev lJ:Stmt:=top 48
theorem jV (x:Nat)(a:List Nat):inV (.int (x:Nat)) (zW a)=decide (x∈a):=by
 rw[Ya,Wv];unfold inV zW;rw[List.any_map,List.any_eq_true];constructor
 ·rintro⟨y,b,e⟩
  have z:((y:Nat):Int)=(x:Nat):=by simpa [eqV] using e
  have:y=x:=by lia
  exact this ▸ b
 ·intro h
  exact⟨x,h,by simp[eqV]⟩
theorem si (a:List Nat):(zW a).all wK=true:=Yc.mpr λx b=>by
 obtain⟨m,_,rfl⟩:=JE.mp b;rfl
theorem sh {H:Hp}{n:Int}{x:V}(h:y4 H n x=true):∃ (a:JI) (cs:List Int),x=.ref a/\H a=some (.tup (cs.map V.int))/\(cs.length:Int)=n/\(∀ c∈cs,0<=c)/\eM H x=cs:=by
 unfold y4 at h;split at h
 ·rename_i b e
  obtain⟨j,d⟩:=(Yx _ _).mp h;obtain⟨a,rfl,i⟩:=xK e;have e2:=cm λy f=>ny (Yc.mp d y f);have l:(uk b).length=b.length:=by have:=JS List.length e2;rw[Je]at this;exact this.symm
  refine⟨a,uk b,rfl,by rw[<- e2];exact i,by rw[l];exact YD j,λc g=>?_,by unfold eM;rw[e];rfl⟩;have:=Yc.mp d (.int c) (by rw[e2];exact JE.mpr ⟨c,g,rfl⟩);exact YD (show decide (0<=c)=true from this)
 ·cases h
section
variable {P:Yo}{w:YI}{K:Jl}{mg:Str->Option Jo}{base:YP}
theorem zci:FnScope ["net","some","thing"] ["net","some","thing"] (zN pC):=by trivial
theorem iV {f fN fS fE:JI}{fd dN dS dE:Yl}(F:Fun K "shows_break" "shows_break" pC f fd) (G:Mgs mg) (GA:MgA mg) (UN:Use P w K mg base "are_from_nought" ["thing","many"] 2 (qu K) fN dN) (US:Use P w K mg base "is_stair" ["counts"] 2 uO fS dS) (UE:Use P w K mg base "ends_of" ["net","counts"] 2 uP fE dE):FnOk P w K mg base CX0 3 f fd ["net","some","thing"] (tY K):=by
 refine F.ok zci (λvs H Q E h=>?_) (λao A outer s H vs Q E J h=>?_)
 ·obtain⟨r,fr,L,X,N,sm,moves,x,rfl,_⟩:=h
  rfl
 obtain⟨r,fr,L,X,N,sm,moves,x,rfl,ok,na,U,dx,k⟩:=h;refine⟨_,(@zH _ _ _ _ _ (@yX _ _ _ _ _ _ _ _ (@pN _ _ _ _ (@wd _ _ _ (@zT _ _ _ _ _ _ _ _ _ _ _ _ UN J (@zA _ _ _ _ _ (@pvb _ 2 _ _ rfl) (@zA _ _ _ _ _ (@zZ _ _ _ _ _ _ _ yL (@pvb _ 0 _ _ rfl) zE (λ_ _=>rfl)) zC rfl) rfl) rfl rfl rfl rfl) (by intro _;rfl))) (@zM _ _ _ (@zV _ _ _ _ x4)) yA) (@zH _ _ _ _ _ (@yX _ _ _ _ _ _ _ _ (@wd _ _ _ (@zU _ _ _ _ _ _ _ _ _ (gn rfl true) rfl GA.any rfl (@zA _ _ _ _ _ (@vw _ _ _ _ none _ _ _ (cy K 2 (sZ (xw 0) (sZ (xw 1) ar))) _ _ ["lane","many","some"] [none,none,some 1] rfl (@pQ _ _ _ _ _ _ _ _ false rfl G.enum (@zA _ _ _ _ _ (@pvb _ 2 _ _ rfl) zC rfl) rfl) (CapOk.of (by kernel_rfl)) (λ_ _ _ _ _=>(@yR _ _ _ _ _ _ rfl (@zS _ _ _ _ _ (@zP _ _ 0 _ (show (["lane","many","some"]:List Str).Nodup from by decide +kernel) rfl (.inl rfl) (.inr rfl)) (@zS _ _ _ _ _ (@zP _ _ 1 _ (show (["lane","many","some"]:List Str).Nodup from by decide +kernel) rfl (.inl rfl) (.inr rfl)) yD rfl) rfl) rfl rfl)) (λ_ _ _ _ _=>xG) (λ_ _ _ _ _=>(@wj _ _ _ _ _ _ _ (@xI _ _ _ _ _ _ _ _ jE (@pvb _ 1 _ _ rfl) zE (yC _)) (@vT _ _ _ _ _ (@xI _ _ _ _ _ _ _ (rIn K true) uB (@pvb _ 0 _ _ rfl) (@pvb _ 2 _ _ rfl) rfl)))) (by intro _;rfl)) zC rfl) (by decide) (by decide) rfl rfl) (by intro _;rfl)) (@zM _ _ _ (@zV _ _ _ _ x4)) yA) (@zM _ _ _ (@zV _ _ _ _ (@pR _ _ _ _ (@zT _ _ _ _ _ _ _ _ _ _ _ _ US J (@zA _ _ _ _ _ (@zT _ _ _ _ _ _ _ _ _ _ _ _ UE J (@zA _ _ _ _ _ (@pvb _ 0 _ _ rfl) (@zA _ _ _ _ _ (@pvb _ 2 _ _ rfl) zC rfl) rfl) rfl rfl rfl rfl) zC rfl) rfl rfl rfl rfl)))))),?_⟩;have Z:=ok.l1;have ab:=ok.l16;refine zB (zB ⟨r,_,_,_,rfl,rfl,SqT.of na.net,rfl,x,_,rfl,dx,λO C=>?_⟩);refine zR rfl ?_
 cases c:y4 H (N.lanes:Nat) x with
 | false =>
  refine yZ ?_;have:=k O C;unfold vc at this;rw[c]at this
  exact this
 | true =>
 obtain⟨a,cs,rfl,ha,cl,cp,L⟩:=sh c
 replace k:∀ I,Same H I->Q (.bl (!iS moves cs && !xk (yd N cs))) I:=λI s=>by
  have:=k I s;unfold vc at this;rw[c,L,Bool.true_and]at this;exact this
 have u:=C _ _ ha;have W:=C _ _ U;replace cl:cs.length=N.lanes:=by lia
 refine yF (zB ⟨a,_,rfl,SqT.of u,λlc t=>?_⟩);have s2:=zD t (.lst []);refine cV (K:=K) (b:=false) (a:=a) (xs:=cs.map V.int) (λj acc σ d=>(∃ m l,σ=[m,l,some (.ref sm)])/\Same O d/\d lc=some (.lst acc)/\acc=((List.range j).map λi=>!decide (cs.getD i 0=0) && !decide (i∈moves)).map V.bl) ⟨⟨_,_,rfl⟩,s2,zG,rfl⟩ (λj acc σ d z=>⟨z.2.2.1,SqT.of (z.2.1 _ _ u)⟩) ?_ ?_
 ·rintro j acc σ d x T hx hT ⟨⟨m,l,rfl⟩,B,D,rfl⟩
  rw[JG]at hx;obtain⟨y,ey,rfl⟩:=Y0.mp hx;have jl:j<cs.length:=(Jb.mp ey).1;have jg:cs.getD j 0=y:=by rw[Ja,ey];rfl
  have g:=zD hT (.tup [.int (j:Nat),.int y]);have h4:=g _ _ D;have Y:=g _ _ (B _ _ W);refine⟨T,_,rfl,SqT.of zG,rfl,_,_,rfl,_,_,rfl,rfl,?_⟩;generalize L2.upd d T (.tup [.int (j:Nat),.int y])=n at g h4 Y ⊢;have fin:∀ {b:Bool}{S R:Option V},b=(!decide (cs.getD j 0=0) && !decide (j∈moves))->n lc=some (.lst (((List.range j).map λi=>!decide (cs.getD i 0=0) && !decide (i∈moves)).map V.bl))/\(((List.range j).map λi=>!decide (cs.getD i 0=0) && !decide (i∈moves)).map V.bl).length<sizeLine/\Nx (cs.map V.int).length j ((∃ m l,[S,R,some (.ref sm)]=[m,l,some (.ref sm)])/\Same O (L2.upd n lc (.lst (((List.range j).map λi=>!decide (cs.getD i 0=0) && !decide (i∈moves)).map V.bl++[V.bl b])))/\L2.upd n lc (.lst (((List.range j).map λi=>!decide (cs.getD i 0=0) && !decide (i∈moves)).map V.bl++[V.bl b])) lc=some (.lst (((List.range j).map λi=>!decide (cs.getD i 0=0) && !decide (i∈moves)).map V.bl++[V.bl b]))/\((List.range j).map λi=>!decide (cs.getD i 0=0) && !decide (i∈moves)).map V.bl++[V.bl b]=((List.range (j+1)).map λi=>!decide (cs.getD i 0=0) && !decide (i∈moves)).map V.bl):=λhb=>⟨h4,by rw[Je,Je,Y7,JB];lia,nx (by rw[Je];exact jl) ⟨⟨_,_,rfl⟩,λe o q=>by rw[zK (zJ q t)];exact g _ _ (B e o q),zG,by rw[List.range_succ,JQ,JQ,hb];rfl⟩⟩;dsimp only[mU];rw[Jj rfl];refine zB ⟨rfl,_,rfl,?_⟩;by_cases z:y=0
  ·rw[show (!decide (V.int y=V.int 0))=false by rw[z];rfl]
   exact yF (fin (b:=false) (by rw[jg,z];rfl))
  rw[show (!decide (V.int y=V.int 0))=true by rw[Jn λe=>z (by injection e)];rfl];refine yZ (zB (zB ⟨sm,_,rfl,.inr (SqT.of Y),rfl,si moves,?_⟩));refine fin ?_;rw[jV,jg,Jn z];rfl
 rintro acc σ d ⟨⟨m,l,rfl⟩,B,D,rfl⟩;rw[Je]at D;refine⟨lc,_,rfl,SqL.of D,?_⟩;refine zR rfl ?_;rw[List.any_map];show if iS moves cs=true then _ else _;have v:=C.trans B
 cases o:iS moves cs with
 | true =>
  have:=k d v;rw[o]at this
  exact yZ this
 | false =>
 rw[o]at k;refine yF (zB (zB ⟨r,fr,_,X,N,a,cs,rfl,ok,na.tups (Tups.of v),v _ _ ha,cl,λp H3 g hp=>?_⟩));have M:(yd N cs).length=N.lanes:=by unfold yd;rw[Je];exact uE ok
 refine⟨p,_,rfl,hp,by rw[M];exact Z,by rw[M];lia,λn s5=>zR rfl ?_⟩;rw[mZ (by rw[M];exact Z)];exact k n ((v.trans g).trans s5)
theorem rM {N:Nt}{moves:List Nat}{H:Hp}{x:V}(h:y4 H (N.lanes:Nat) x=false):vc N moves H x=false:=by unfold vc;rw[h];rfl
theorem zbk {N:Nt}{moves:List Nat}{H:Hp}{x:V}{xs:List V}(e:yK H x=some xs){i:Nat}{y:V}(hi:xs[i]?=some y)(b:y8 0 y=false\/∃ c:Int,y=.int c/\c≠0/\i∉moves):vc N moves H x=false:=by
 cases f:y4 H (N.lanes:Nat) x with
 | false=>exact rM f
 | true =>
  obtain⟨a,cs,rfl,g,cl,k,h⟩:=sh f;rw[yk g]at e;obtain rfl:=Jq e;rw[JG]at hi;obtain⟨c,d,rfl⟩:=Y0.mp hi;rcases b with b|⟨m,j,l,no⟩
  ·have:=k c (JP d)
   rw[show y8 0 (.int c)=decide (0<=c) from rfl,Jw this]at b;cases b
  ·obtain rfl:c=m:=by injection j
   have o:iS moves cs=true:=by
    refine List.any_eq_true.mpr ⟨i,Y2.mpr (Jb.mp d).1,?_⟩;rw[Ja,d];show (!decide (c=0) && !decide (i∈moves))=true;rw[Jn l,Jn no];rfl
   unfold vc;rw[h,o,f];rfl
theorem jq {N:Nt}{moves:List Nat}{H:Hp}{a:JI}{xs:List V}(ha:H a=some (.tup xs))(l:(xs.length:Int)=(N.lanes:Nat))(h:∀ j,j<xs.length->∃ c:Int,xs[j]?=some (.int c)/\0<=c/\(c=0\/j∈moves)):∃ cs:List Int,xs=cs.map V.int/\cs.length=N.lanes/\vc N moves H (.ref a) = !xk (yd N cs):=by
 have w:∀ y∈xs,y8 0 y=true:=λy k=>by
  obtain⟨j,g,n⟩:=Wp k;obtain⟨c,e,r,_⟩:=h j g;rw[J7 g,n]at e;obtain rfl:=Jq e;exact Jw r
 have f:y4 H (N.lanes:Nat) (.ref a)=true:=by
  unfold y4;rw[yk ha];dsimp only;rw[Jw l,Yc.mpr w];rfl
 obtain⟨t,cs,p,b,cl,s,m⟩:=sh f;cases p;rw[ha]at b;obtain rfl:xs=cs.map V.int:=by injection b with z;injection z
 refine⟨cs,rfl,by lia,?_⟩
 have o:iS moves cs=false:=by
  refine Bool.eq_false_iff.mpr λz=>?_;obtain⟨i,hi,z⟩:=List.any_eq_true.mp z;have d:=Y2.mp hi;obtain⟨c,e,_,q⟩:=h i (by rw[Je];exact d);rw[JG,J7 d]at e;have e2:cs[i]=c:=by injection Jq e
  rw[Ja,J7 d]at z;rcases q with q|q
  ·rw[show (some cs[i]).getD 0=0 from e2.trans q,Jw rfl]at z;cases z
  ·rw[Jw q,Bool.not_true,Bool.and_false]at z;cases z
 unfold vc;rw[m,o,f];rfl
theorem bX {b:Int}{y:V}(h:∀ i:Int,y=.int i->i<=b):whB 0 b y=y8 0 y:=by
 cases y with
 | int i =>
  show (decide (0<=i) && decide (i<=b))=decide (0<=i)
  rw[Jw (h i rfl),Bool.and_true]
 | _=>rfl
theorem zaE:FnScope ["_law_net_here","_law_some_here","_law_thing","_law_lane","_law_one"] ["_law_net_here","_law_some_here","_law_thing"] (zN lJ):=by trivial
theorem dy {f fW fS fE:JI}{fd dW dS dE:Yl}(F:Fun K "_law_is_break" "_law_is_break" lJ f fd) (G:Mgs mg) (UW:Use P w K mg base "_law_whole" ["_law_thing","_law_least","_law_most"] 1 (fg K) fW dW) (US:Use P w K mg base "_law_stair" ["_law_counts_here"] 1 tX fS dS) (UE:Use P w K mg base "_law_ends" ["_law_net_here","_law_counts_here"] 1 uP fE dE):FnOk P w K mg base CX0 2 f fd ["_law_net_here","_law_some_here","_law_thing"] (qr K):=by
 refine F.ok zaE (λX H Q E h=>?_) (λao A outer s H X Q E C h=>?_)
 ·obtain⟨r,fr,er,S,N,sm,moves,x,rfl,_⟩:=h
  rfl
 obtain⟨r,fr,er,S,N,sm,moves,x,rfl,ok,na,M,J,big,k⟩:=h;refine⟨_,(@zH _ _ _ _ _ (@yX _ _ _ _ _ _ _ _ (PW.pt (@eW _ _ _ _ _ _ _ (@pN _ _ _ _ (@wd _ _ _ (@zU _ _ _ _ _ _ _ _ _ y9 rfl G.isi rfl (@zA _ _ _ _ _ (@pvb _ 2 _ _ rfl) (@zA _ _ _ _ _ (@xM _ _ (.ty "tuple") (.type "tuple") _ rfl G.tuple rfl rfl (by decide) (by decide)) zC rfl) rfl) (by decide) (by decide) rfl rfl) (by intro _;rfl))) (@lU _ _ _ _ (@zy _ _ _ _ _ _ _ _ jE (@zU _ _ _ _ _ _ _ _ _ zY rfl G.len JZ (@zA _ _ _ _ _ (@pvb _ 2 _ _ rfl) zC rfl) (by decide) (by decide) rfl rfl) (@zZ _ _ _ _ _ _ _ yL (@pvb _ 0 _ _ rfl) zE (λ_ _=>rfl)) (yC _))))) (@zM _ _ _ (@zV _ _ _ _ x4)) yA) (@zH _ _ _ _ _ (@xH _ _ _ _ _ _ _ _ Yi rfl (@pQ _ _ _ _ _ _ _ _ false rfl G.enum (@zA _ _ _ _ _ (@pvb _ 2 _ _ rfl) zC rfl) rfl) (@yR _ _ _ _ _ _ rfl (@zS _ _ _ _ _ (@zP _ _ 3 _ zaE.nd rfl (.inl rfl) (by trivial)) (@zS _ _ _ _ _ (@zP _ _ 4 _ zaE.nd rfl (.inl rfl) (by trivial)) yD rfl) rfl) rfl rfl) (@zM _ _ _ (@yX _ _ _ _ _ _ _ _ (PW.pt (@eW _ _ _ _ _ _ _ (@pN _ _ _ _ (@o5 _ _ _ (@zT _ _ _ _ _ _ _ _ _ _ _ _ UW C (@zA _ _ _ _ _ (@pvb _ 4 _ _ rfl) (@zA _ _ _ _ _ zE (@zA _ _ _ _ _ (@zQ _ _ _ _ _ _ _ _ vU zE zE) zC rfl) rfl) rfl) rfl rfl rfl rfl) (λ_=>rfl))) (@lU _ _ _ _ (PW.pt (@pM _ _ _ _ _ _ _ (@zy _ _ _ _ _ _ _ _ qD (@pvb _ 4 _ _ rfl) zE (yC _)) (@pL _ _ _ _ (@zy _ _ _ _ _ _ _ _ uB (@pvb _ 3 _ _ rfl) (@pvb _ 1 _ _ rfl) rfl))))))) (@zM _ _ _ (@zV _ _ _ _ x4)) yA)) (by intro _;rfl)) (@zM _ _ _ (@zV _ _ _ _ (@pR _ _ _ _ (@zT _ _ _ _ _ _ _ _ _ _ _ _ US C (@zA _ _ _ _ _ (@zT _ _ _ _ _ _ _ _ _ _ _ _ UE C (@zA _ _ _ _ _ (@pvb _ 0 _ _ rfl) (@zA _ _ _ _ _ (@pvb _ 2 _ _ rfl) zC rfl) rfl) rfl rfl rfl rfl) zC rfl) rfl rfl rfl rfl)))))),?_⟩;have l1:=ok.l1;have ab:=ok.l16;obtain⟨t,I⟩:=J.any.isi;refine zB ⟨_,"tuple",_,_,rfl,I.ty,I.tup,_,rfl,?_⟩
 cases z:yK H x with
 | none =>
  have:=k H (Same.refl H);rw[rM (by unfold y4;rw[z])]at this
  exact yZ (yZ this)
 | some xs =>
 obtain⟨a,rfl,g⟩:=xK z;have xl:=(J.2 _ z).1;have any:=(J.2 _ z).2;replace big:=big _ z;refine yF (zB ⟨a,_,rfl,.inr (SqT.of g),_,rfl,r,_,_,_,rfl,rfl,SqT.of na.net,rfl,rfl,_,rfl,?_⟩);show if (!decide (V.int ((xs.length:Nat):Int)=V.int ((N.lanes:Nat):Int)))=true then _ else _;by_cases o:(xs.length:Int)=(N.lanes:Nat)
 rotate_left
 ·rw[Jn λe=>o (by injection e)]
  have:=k H (Same.refl H);rw[rM (by unfold y4;rw[z];dsimp only;rw[Jn o];rfl)]at this;exact yZ this
 rw[Jw (JS V.int o)];refine yF (zB ⟨a,_,rfl,SqT.of g,?_⟩);refine n4 (K:=K) (b:=false) (a:=a) (xs:=xs) (λj σ l=>(∃ B v,σ=[some (.ref r),some (.ref sm),some (.ref a),B,v])/\Same H l/\∀ i,i<j->∃ c:Int,xs[i]?=some (.int c)/\0<=c/\(c=0\/i∈moves)) ⟨⟨_,_,rfl⟩,Same.refl _,λi hi=>absurd hi (Zr _)⟩ (λj σ l _ q=>SqT.of (q.2.1 _ _ g)) ?_ ?_
 ·rintro j y σ l T u hT ⟨⟨B,v,rfl⟩,d,al⟩
  have jl:=(Jb.mp u).1;have O:=JP u;have R:=zD hT (.tup [.int (j:Nat),y]);have u3:=d.trans R;have n:=u3 _ _ M;refine⟨T,_,rfl,SqT.of zG,rfl,_,_,rfl,_,_,rfl,rfl,?_⟩;generalize L2.upd l T (.tup [.int (j:Nat),y])=L at R u3 n ⊢;refine zB ⟨_,_,rfl,rfl,⟨by decide,by decide,by decide⟩,y,0,_,rfl,AnyT.same u3 (any y O),?_⟩;rw[bX (λi e=>by have:=big i (e ▸ O);exact this)];refine zR rfl ?_;have bad:=zbk (N:=N) (moves:=moves) z u
  cases D:y8 0 y with
  | false =>
   have:=k L u3;rw[bad (.inl D)]at this
   exact yZ (yZ this)
  | true =>
  obtain⟨c,rfl,c0⟩:∃ c:Int,y=.int c/\0<=c:=by
   cases y with
   | int c=>exact⟨c,rfl,YD (show decide (0<=c)=true from D)⟩
   | _=>cases D
  have next:(c=0\/j∈moves)->∀ i,i<j+1->∃ c:Int,xs[i]?=some (.int c)/\0<=c/\(c=0\/i∈moves):=λq i hi=>by
   by_cases e:i<j
   ·exact al i e
   ·obtain rfl:i=j:=by lia
    exact⟨c,u,c0,q⟩
  refine yF (zB ⟨_,_,rfl,rfl,_,rfl,?_⟩);by_cases W:c=0
  ·rw[show decide ((0:Int)<c)=false from Jn (by lia)]
   exact yF (yF ⟨⟨_,_,rfl⟩,u3,next (.inl W)⟩)
  rw[show decide ((0:Int)<c)=true from Jw (by lia)];refine yZ (zB (zB ⟨sm,_,rfl,.inr (SqT.of n),rfl,si moves,_,rfl,?_⟩));rw[jV];by_cases m:j∈moves
  ·rw[Jw m]
   exact yF ⟨⟨_,_,rfl⟩,u3,next (.inr m)⟩
  ·rw[Jn m]
   have:=k L u3;rw[bad (.inr ⟨c,rfl,W,m⟩)]at this;exact yZ this
 rintro σ l ⟨⟨B,v,rfl⟩,d,al⟩;obtain⟨cs,rfl,cl,e⟩:=jq (moves:=moves) g o al;rw[e]at k;refine zB (zB ⟨r,fr,_,S,N,a,cs,rfl,ok,na.tups (Tups.of d),d _ _ g,cl,λp L Z hp=>?_⟩);have U:(yd N cs).length=N.lanes:=by unfold yd;rw[Je];exact uE ok
 exact⟨p,_,rfl,hp,by rw[U];exact l1,by rw[U];lia,λH4 Y=>zR rfl (k H4 ((d.trans Z).trans Y))⟩
abbrev lK:Stmt:=top 10
abbrev lM:Stmt:=top 11
def qt:Sp:=λd H Q _=>∃ a b,∃ (place:Nat) (v:Int),d=[.ref a,.int place,.int v]/\H a=some (.tup (List.map V.int b))/\place<b.length/\b.length<=1000/\∀ p c,Same H c->c p=some (.tup ((b.set place v).map V.int))->Q (.ref p) c
def qy:Sp:=λd H Q _=>∃ a b,∃ (place:Nat) (v:Int),d=[.ref a,.int place,.int v]/\H a=some (.tup (List.map V.int b))/\place<b.length/\b.length<=1000/\∀ p c,Same H c->c p=some (.tup ((b.set place (b.getD place 0+v)).map V.int))->Q (.ref p) c
theorem zco:FnScope ["row","place","value"] ["row","place","value"] (zN lK):=by trivial
theorem dz {f:JI}{fd:Yl}(F:Fun K "given_at" "given_at" lK f fd) (G:Mgs mg):FnOk P w K mg base CX0 1 f fd ["row","place","value"] qt:=by
 refine F.ok zco (λl H Q E h=>?_) (λC A outer s H l Q E J h=>?_)
 ·obtain⟨a,b,place,v,rfl,_⟩:=h
  rfl
 obtain⟨a,b,place,v,rfl,g,p,D,k⟩:=h;refine⟨_,(@zM _ _ _ (@zV _ _ _ _ (@zQ _ _ _ _ _ _ _ _ yi (@zQ _ _ _ _ _ _ _ _ yi (@zz _ _ _ _ _ _ _ _ _ _ yW (@pvb _ 0 _ _ rfl) yN (@zu _ _ _ (@pvb _ 1 _ _ rfl))) (@zp _ _ _ _ _ (@zA _ _ _ _ _ (@pvb _ 2 _ _ rfl) zC rfl))) (@zz _ _ _ _ _ _ _ _ _ _ yW (@pvb _ 0 _ _ rfl) (@zu _ _ _ (@zQ _ _ _ _ _ _ _ _ yQ (@pvb _ 1 _ _ rfl) zE)) yN)))),?_⟩;have I:(b.map V.int).length=b.length:=Je _;refine zB (zB (zR rfl ⟨a,_,rfl,g,λx N o j=>?_⟩));rw[uG _ place (by lia)]at j;refine zB ⟨(by show 1<=sizeLine;decide),λu c=>?_⟩;have e:=zD c (.tup [.int v]);refine⟨x,u,_,_,rfl,rfl,e _ _ j,zG,?_,λt M n z=>?_⟩
 ·rw[Jt,JB];show _+1<=_;grind
 have u3:=(o.trans e).trans n;refine zB (zB ⟨_,_,rfl,rfl,_,rfl,a,_,rfl,u3 _ _ g,λr L d i=>?_⟩);rw[show ((place:Int)+1)=((place+1:Nat):Int) from rfl,rD _ (place+1) (by lia)]at i;refine⟨t,r,_,_,rfl,rfl,d _ _ z,i,?_,λq B m y=>?_⟩
 ·rw[Jc,Jt,Y4,JB];show _+1+_<=_;grind
 exact k q B ((u3.trans d).trans m) (by rw[y,bn b place v p])
theorem zct:FnScope ["counts","place","many"] ["counts","place","many"] (zN lM):=by trivial
theorem cB {f j:JI}{fd l:Yl}(F:Fun K "added" "added" lM f fd) (G:Mgs mg) (m:Use P w K mg base "given_at" ["row","place","value"] 1 qt j l):FnOk P w K mg base CX0 2 f fd ["counts","place","many"] qy:=by
 refine F.ok zct (λg H Q E h=>?_) (λn A outer s H g Q E i h=>?_)
 ·obtain⟨a,b,place,v,rfl,_⟩:=h
  rfl
 obtain⟨a,b,place,v,rfl,d,c,e,k⟩:=h;refine⟨_,(@zM _ _ _ (@zV _ _ _ _ (@zT _ _ _ _ _ _ _ _ _ _ _ _ m i (@zA _ _ _ _ _ (@pvb _ 0 _ _ rfl) (@zA _ _ _ _ _ (@pvb _ 1 _ _ rfl) (@zA _ _ _ _ _ (@zQ _ _ _ _ _ _ _ _ yQ (@zZ _ _ _ _ _ _ _ yL (@pvb _ 0 _ _ rfl) (@pvb _ 1 _ _ rfl) (λ_ _=>rfl)) (@pvb _ 2 _ _ rfl)) zC rfl) rfl) rfl) rfl rfl rfl rfl))),?_⟩;exact zB (zB (zB (zB ⟨a,_,_,_,rfl,rfl,SqT.of d,wU c,_,rfl,_,_,rfl,rfl,a,b,place,_,rfl,d,c,e,k⟩)))
end
end K40
namespace L2
open PySem PySem.Spec PyProof.Rows Own Bn
def za3 (N:Nt):KN->Nat->KN
 | [.inr ts,.inl r],m=>stK (vK N ts m) [(r+1)%(N.lanes:Nat)]
 | k,_=>k
def zcJ (ks:List KN)(k:KN):Bool:=ks.any λx=>decide (x=k)
section
variable (N:Nt)(ks:List KN)
def la1 (s:KN)(c:List Int)(a:LAcc)(m:Nat):LAcc :=
 ⟨if zcJ ks (za3 N s m)=true then a.on else wc a.on (za3 N s m) (xU ((zx a.on (za3 N s m)).getD (yS c m)) (yS c m)),if xD N s m=none then a.fl++[yS c m] else a.fl⟩
end
end L2
namespace L2
open PySem PySem.Spec PyProof.Rows Own Bn
theorem cT {H:Hp}{g q:JI}{x y:List Int}{n:Nat}(b:H g=some (.tup (x.map V.int)))(a:H q=some (.tup (y.map V.int)))(d:x.length=n)(c:y.length=n):(∀ u∈[V.ref g,V.ref q],∀ v∈[V.ref g,V.ref q],Lx H 1 u v (tG H u v))/\∃ h,x3 (tG H) (.ref g) (.ref q)=.ref h/\H h=some (.tup ((xU x y).map V.int)) :=
 ⟨ky (fs:=[g,q]) (rs:=[x,y]) (.cons b (.cons a .nil)) λr e=>by
  rcases Jr.mp e with rfl|z
  ·exact d
  ·rw[Jd.mp z];exact c,mK (fs:=[q]) (rs:=[y]) (.cons a .nil) b⟩
end L2
namespace K40
open PySem L2 Own Bn
abbrev zaJ:Stmt:=top 15
theorem jW {d:JI}{H H':Hp}{P:Yo}{w:YI}{xs:KVN}(b:But d H H')(hd:H d=some (DN P w d xs)):∀ c o u,H c=some (.frz o u)->H' c=some (.frz o u):=λc o u e=>b c _ e λz=>by
 rw[z,hd]at e;cases e
theorem wC {d:JI}{H H':Hp}{P:Yo}{w:YI}{xs:KVN}(b:But d H H')(hd:H d=some (DN P w d xs)):Tups H H':=λc a e=>b c _ e λz=>by
 rw[z,hd]at e;cases e
section
variable {P:Yo}{w:YI}{K:Jl}{mg:Str->Option Jo}{base:YP}
theorem oe:FnScope ["level","seen","moves","led","onward","faults","state","counts","move","there","more"] ["level","seen","moves","led"] (zN zaJ):=by trivial
theorem aM {f fA:JI}{fd dA:Yl}{L:Lam}{fr cz:List Str}{lsp:LSpc}(F:Fun K "next_level" "next_level" zaJ f fd) (G:Mgs mg) (UA:Use P w K mg base "added" ["counts","place","many"] 2 qy fA dA) (LQ:LamQ CX0 P w K mg base 4 L fr cz lsp):FnOk P w K mg base CX0 6 f fd ["level","seen","moves","led"] (mj P w K L fr lsp):=by
 refine F.ok oe (λvs H Q E h=>?_) (λc8 A outer s H vs Q E hr h=>?_)
 ·obtain⟨dl,ds,mv,f,xs,ys,level,seen,moves,cl,vals,step,Ok,n,rfl,_⟩:=h
  rfl
 obtain⟨dl,ds,mv,f,xs,ys,level,seen,moves,cl,vals,step,Ok,n,rfl,B,lvl,b5,a8,cf,W,cH,c7,k⟩:=h;refine⟨_,(@zH _ _ _ _ _ (@zi _ _ 4 _ _ _ _ oe.nd rfl (.inl rfl) jB rfl (by trivial)) (@zH _ _ _ _ _ (@zi _ _ 5 _ _ _ _ oe.nd rfl (.inl rfl) (@zw _ _ _ _ zC) rfl (by trivial)) (@zH _ _ _ _ _ (eZ (@xH _ _ _ _ _ _ _ _ Yi rfl (iO (@pvb _ 0 _ _ rfl)) (@yR _ _ _ _ _ _ rfl (@zS _ _ _ _ _ (@zP _ _ 6 _ oe.nd rfl (.inl rfl) (by trivial)) (@zS _ _ _ _ _ (@zP _ _ 7 _ oe.nd rfl (.inl rfl) (by trivial)) yD rfl) rfl) rfl rfl) (@zM _ _ _ (@xH _ _ _ _ _ _ _ _ Yi rfl (@wg _ _ _ _ (@pvb _ 2 _ _ rfl)) (@zP _ _ 8 _ oe.nd rfl (.inl rfl) (by trivial)) (@zH _ _ _ _ _ (@zi _ _ 9 _ _ _ _ oe.nd rfl (.inl rfl) (aD LQ hr (@pvb _ 3 _ _ rfl) jC (@zA _ _ _ _ _ (@pvb _ 6 _ _ rfl) (@zA _ _ _ _ _ (@pvb _ 8 _ _ rfl) zC rfl) rfl)) rfl (by trivial)) (@zH _ _ _ _ _ (@yX _ _ _ _ _ _ _ _ (@zy _ _ _ _ _ _ _ _ (zaV hr.u3) (@pvb _ 9 _ _ rfl) (@pvb _ 1 _ _ rfl) rfl) (@zM _ _ _ o8) yA) (@zH _ _ _ _ _ (@zi _ _ 10 _ _ _ _ oe.nd rfl (.inl rfl) (@zT _ _ _ _ _ _ _ _ _ _ _ _ UA (hr.mono (by decide)) (@zA _ _ _ _ _ (@pvb _ 7 _ _ rfl) (@zA _ _ _ _ _ (@pvb _ 8 _ _ rfl) (@zA _ _ _ _ _ zE zC rfl) rfl) rfl) rfl rfl rfl rfl) rfl (by trivial)) (@zM _ _ _ (@yX _ _ _ _ _ _ _ _ (@zy _ _ _ _ _ _ _ _ zaU (@pvb _ 9 _ _ rfl) sO rfl) (@zM _ _ _ (@xA _ _ _ _ (@wV _ _ _ _ _ _ _ _ _ _ _ _ Y8 YJ YK yn (@pvb _ 5 _ _ rfl) (@zA _ _ _ _ _ (@pvb _ 10 _ _ rfl) zC rfl) rfl rfl rfl rfl rfl) rfl)) (@zM _ _ _ (bx hr.u3 (@pvb _ 4 _ _ rfl) (@pvb _ 9 _ _ rfl) (@zU _ _ _ _ _ _ _ _ _ (ke rfl hr.units) rfl G.min rfl (@zA _ _ _ _ _ (@pvb _ 10 _ _ rfl) (@zA _ _ _ _ _ (dQ hr.u3 (@pvb _ 4 _ _ rfl) (@pvb _ 9 _ _ rfl) (@pvb _ 10 _ _ rfl) ⟨rfl,rfl,rfl,rfl⟩) zC rfl) rfl) (by decide) (by decide) rfl rfl) rfl))))))) (by intro _;rfl))) (by intro _;rfl))) (@zM _ _ _ (@zV _ _ _ _ (@zp _ _ _ _ _ (@zA _ _ _ _ _ (@pvb _ 4 _ _ rfl) (@zA _ _ _ _ _ (@pvb _ 5 _ _ rfl) zC rfl) rfl))))))),?_⟩;refine λo ho=>⟨by show 0<=sizeLine;decide,λl hl=>?_⟩;have s1:=zD ho (DN P w o []);have s2:=zD (show L2.upd H o (DN P w o []) l=none from hl) (.lst []);have u2:=s1.trans s2
 have ol:o≠l:=λz=>by
  have a6:L2.upd H o (DN P w o []) l=none:=hl;rw[<- z,zG]at a6;cases a6
 have b3:H l=none:=by
  have a6:L2.upd H o (DN P w o []) l=none:=hl
  rwa [zK ol.symm]at a6
 have bS:dl≠o:=zJ B ho;have b0:dl≠l:=zJ B b3;have c3:L2.upd (L2.upd H o (DN P w o [])) l (.lst []) o=some (DN P w o []):=by rw[zK ol];exact zG
 have c4:L2.upd (L2.upd H o (DN P w o [])) l (.lst []) l=some (.lst []):=zG;refine zB ⟨dl,xs,rfl,u2 _ _ B,λob=>?_⟩
 let y:Nat->LAcc:=λi=>(level.take i).foldl (goS step seen moves) ⟨[],[]⟩
 have ll:xs.length=level.length:=lvl.len;refine kW (P:=P) (w:=w) (d:=dl) (o:=ob) (xs:=xs) (λi σ S=>(∃ v6 v7 v8 v9 v10,σ=[some (.ref dl),some (.ref ds),some (.ref mv),some (.ref f),some (.ref o),some (.ref l),v6,v7,v8,v9,v10])/\But dl H S/\S dl=some (.frz ob (DN P w dl xs))/\∃ zs fs,S o=some (DN P w o zs)/\LvE S zs (y i).on/\S l=some (.lst (fs.map V.ref))/\RowsAt S fs (y i).fl/\AccOk n (i*moves.length) (y i)) ?_ (λi σ S _ q=>q.2.2.1) ?_ ?_
 ·refine⟨⟨_,_,_,_,_,rfl⟩,λb u e ne=>?_,zG,[],[],?_,LvE.nil,?_,.nil,⟨λp hp=>(nomatch hp),λr hr=>(nomatch hr),by show 0+0<=_;simp_all⟩⟩
  ·rw[zK ne];exact u2 b u e
  ·rw[zK bS.symm];exact c3
  ·rw[zK b0.symm];exact c4
 ·rintro i p σ S T hp hT ⟨⟨v6,v7,v8,v9,v10,rfl⟩,bt,a7,zs,fs,ba,a4,bo,rws,ck⟩
  have il:i<level.length:=by rw[<- ll];exact(Jb.mp hp).1
  obtain⟨r,c,ep,kb,ec,hc⟩:=(lvl.tups (wC bt B)).at_ hp;have pin:(p.1,r)∈level:=JP ep;obtain⟨cn,rl⟩:=cH _ pin;rw[ec];have sT:=zD hT (.tup [.ref p.2.1,.ref c]);refine⟨T,_,rfl,SqT.of zG,rfl,_,_,rfl,_,_,rfl,rfl,?_⟩;have W2:=W.keep (wC bt B) (jW bt B);refine zB ⟨mv,rfl,⟨_,(W2.mv.tups (Tups.of sT)).sq⟩,?_⟩
  have cp:y (i+1)=goS step seen moves (y i) (p.1,r):=by
   show List.foldl _ _ (level.take (i+1))=_;rw[<- YH il,Zt,show level[i]=(p.1,r) from (Jb.mp ep).2];rfl
  generalize hA:y i=a0 at *
  let v:Nat->LAcc:=λj=>(moves.take j).foldl (go1 step seen p.1 r) a0
  have fin:v moves.length=y (i+1):=by rw[cp];show List.foldl _ _ (moves.take moves.length)=_;rw[Yz];rfl
  have ml:(moves.map λm=>V.int (m:Nat)).length=moves.length:=Je _;refine oA (K:=K) (a:=mv) (xs:=moves.map λm=>V.int (m:Nat)) (λj σ Y=>(∃ v8 v9 v10,σ=[some (.ref dl),some (.ref ds),some (.ref mv),some (.ref f),some (.ref o),some (.ref l),some (.ref p.2.1),some (.ref c),v8,v9,v10])/\But dl H Y/\Y dl=some (.frz ob (DN P w dl xs))/\∃ zs fs,Y o=some (DN P w o zs)/\LvE Y zs (v j).on/\Y l=some (.lst (fs.map V.ref))/\RowsAt Y fs (v j).fl/\AccOk n (i*moves.length+j) (v j)) ?_ (λj σ Y _ q=>(W.mv.tups (wC q.2.1 B)).sq) ?_ ?_
  ·exact⟨⟨_,_,_,rfl⟩,bt.trans (But.of sT),sT _ _ a7,zs,fs,sT _ _ ba,a4.keep sT,sT _ _ bo,rws.tups (Tups.of sT),ck⟩
  ·rintro j x σ Y hx ⟨⟨v8,v9,v10,rfl⟩,X,ax,J,R,ab,U,ao,O,C⟩
   rw[JG]at hx;obtain⟨m,em,rfl⟩:=Y0.mp hx;have jl:j<moves.length:=(Jb.mp em).1;have mm:m∈moves:=JP em
   have aT:v (j+1)=go1 step seen p.1 r (v j) m:=by
    show List.foldl _ _ (moves.take (j+1))=_;rw[<- YH jl,Zt,show moves[j]=m from (Jb.mp em).2];rfl
   have N:=C.go (step:=step) (seen:=seen) (s:=p.1) (k:=m) rl;rw[<- aT]at N;have t3:=wC X B;have W3:=W.keep t3 (jW X B);obtain⟨pm,cc,ct,oc,fz,tk,c1,_⟩:=W3.la.ex;have cP:=lvl.tups t3;obtain⟨r',c',b9,c0,cb,b6⟩:=cP.at_ hp;have er:r'=r:=by rw[ep]at b9;cases b9;rfl
   have c5:c'=c:=by rw[ec]at cb;cases cb;rfl
   subst er c5;have tS:=t3.trans (tQ W3.la.fz)
   have c6:(v j).on.length+(v j).fl.length<=10000000:=by
    have:=C.few;have:(i+1)*moves.length<=level.length*moves.length:=Nat.mul_le_mul_right _ il;rw[Nat.add_mul,Nat.one_mul]at this;lia
   refine zbr (λG0 b8 c2=>?_);refine zv (λG1 b7=>?_);refine⟨f,rfl,⟨_,_,_,_,c1⟩,_,rfl,_,rfl,cl,vals,W3.fr,W3.la,W.ld _ _ _ m _ tS cn mm (c0.tups (tQ W3.la.fz)) (λH4 s4 e4 low=>?_) λH4 b4 t s4 e4 k4 low=>?_⟩
   ·-- elsewhere
    have D:=rq s4;generalize back cl Y H4=H5 at D ⊢;have M:=X.trans (But.of (l:=dl) D);have a9:=a8.tups (wC M B);have bu:H5 ds=some (DN P w ds ys):=M _ _ b5 cf.symm;have bB:=D _ _ b6;have e1:v (j+1)=⟨(v j).on,(v j).fl++[yS r' m]⟩:=by rw[aT];unfold go1;rw[e4]
    refine b7 _ _ ?_;refine zB (zB ⟨ds,ys,rfl,⟨.inl bu,a9.ks⟩,.inr ⟨rfl,false,rfl,yF ?_⟩⟩);refine zB (zB ⟨c',r',m,1,rfl,bB,by rw[rl];exact W.lt m mm,by rw[rl];exact W.n1,λq H6 I h6=>?_⟩);have bc:=I _ _ (D _ _ ao);refine zB ⟨rfl,true,JS V.bl (Jw rfl),yZ ?_⟩;refine zB ⟨.inl ⟨rfl,_,SqL.of bc⟩,_,rfl,l,_,_,rfl,rfl,bc,?_,?_⟩
    ·rw[Je,YU O,JB];lia
    have lq:∀ {b:JI}{u:HO},H6 b=some u->b≠l->L2.upd H6 l (.lst (R.map V.ref++[.ref q])) b=some u:=λe ne=>by rw[zK ne];exact e
    have tq:Tups H6 (L2.upd H6 l (.lst (R.map V.ref++[.ref q]))):=λb xs e=>lq e (wE e bc (λz=>by cases z));have b1:=M.trans (But.of (l:=dl) I);refine b8 _ _ ⟨⟨_,_,_,rfl⟩,λb u e ne=>lq (b1 b u e ne) (zJ e b3),lq (I _ _ (D _ _ ax)) b0,J,R++[q],lq (I _ _ (D _ _ ab)) ol,?_,?_,?_,N⟩
    ·rw[e1];exact((U.keep D).keep I).tups tq
    ·rw[JQ];exact zG
    ·rw[e1];exact Paired.snoc ((O.tups (Tups.of D)).tups ((Tups.of I).trans tq)) (tq _ _ h6)
   ·have D:=rq s4
    have k5:=k4.tups (j9 (H:=Y) low);generalize back cl Y H4=H5 at D k5 ⊢;have M:=X.trans (But.of (l:=dl) D);have a9:=a8.tups (wC M B);have bu:H5 ds=some (DN P w ds ys):=M _ _ b5 cf.symm;have bB:=D _ _ b6;refine b7 _ _ ?_;refine zB (zB ⟨ds,ys,rfl,⟨.inl bu,a9.ks⟩,.inl ⟨b4,t,rfl,k5,_,rfl,?_⟩⟩);rw[qI a8.pr t];by_cases sn:(zx seen t).isSome=true
    ·have e1:v (j+1)=v j:=by rw[aT];unfold go1;rw[e4];exact Jj sn
     rw[sn];refine yZ ?_;refine c2 _ _ ?_;rw[e1];rw[e1]at N;exact⟨⟨_,_,_,rfl⟩,M,D _ _ ax,J,R,D _ _ ab,U.keep D,D _ _ ao,O.tups (Tups.of D),N⟩
    ·have e1:v (j+1)=⟨wc (v j).on t (xU (yS r' m) ((zx (v j).on t).getD (yS r' m))),(v j).fl⟩:=by rw[aT];unfold go1;rw[e4];exact Jg sn
     rw[show (zx seen t).isSome=false by simpa using sn];refine yF ?_;refine zB (zB ⟨c',r',m,1,rfl,bB,by rw[rl];exact W.lt m mm,by rw[rl];exact W.n1,λq H6 I h6=>?_⟩);have a5:=I _ _ (D _ _ ab);have Z:=(U.keep D).keep I;have k6:=k5.tups (Tups.of I);have b1:=M.trans (But.of (l:=dl) I);refine zB ⟨rfl,false,JS V.bl (Jn (λz=>by cases z)),yF ?_⟩;refine zB (zB ⟨o,rfl,⟨_,.inl a5⟩,_,rfl,_,rfl,b4,J,t,rfl,⟨.inl a5,Z.ks⟩,k6,?_⟩)
     have le:∃ g s,(vG J t).getD (.ref q)=.ref g/\(zx (v j).on t).getD (yS r' m)=s/\H6 g=some (.tup (s.map V.int))/\s.length=n:=by
      rcases cS Z.pr t with ⟨a1,a2⟩|⟨g,s,a1,a2,a3⟩
      ·exact⟨q,yS r' m,by rw[a1];rfl,by rw[a2];rfl,h6,by rw[wk];exact rl⟩
      ·exact⟨g,s,by rw[a1];rfl,by rw[a2];rfl,a3,C.on _ (xQ a2)⟩
     obtain⟨g,sr,g1,g2,g3,g4⟩:=le;rw[g1];rw[g2]at e1;have cx:(yS r' m).length=n:=by rw[wk];exact rl
     obtain⟨lx,h,p1,p2⟩:=cT h6 g3 cx g4;refine⟨_,_,1,tG H6,rfl,by decide,lx,?_⟩;rw[p1];refine zB (zB ⟨o,b4,J,t,rfl,rfl,a5,Z.ks,k6,?_,?_⟩)
     ·rw[Z.len,JB];lia
     have tq:Tups H6 (L2.upd H6 o (DN P w o (wb J t b4 (.ref h)))):=λb xs e=>by rw[zK (wE e a5 (λz=>by cases z))];exact e
     refine b8 _ _ ⟨⟨_,_,_,rfl⟩,λb u e ne=>?_,?_,_,R,zG,?_,?_,?_,N⟩
     ·rw[zK (zJ e ho)];exact b1 b u e ne
     ·rw[zK bS];exact I _ _ (D _ _ ax)
     ·rw[e1];exact(Z.put k6 p2).tups tq
     ·rw[zK ol.symm];exact I _ _ (D _ _ ao)
     ·rw[e1];exact(O.tups (Tups.of D)).tups ((Tups.of I).trans tq)
  ·rintro σ Y ⟨⟨v8,v9,v10,rfl⟩,X,ax,J,R,ab,U,ao,O,C⟩
   have b2:v (moves.map λm=>V.int (m:Nat)).length=y (i+1):=by rw[ml];exact fin
   rw[b2]at U O C;refine⟨⟨_,_,_,_,_,rfl⟩,X,ax,J,R,ab,U,ao,O,?_⟩;rw[ml]at C;rw[Nat.add_mul,Nat.one_mul];exact C
 ·rintro σ S ⟨⟨v6,v7,v8,v9,v10,rfl⟩,bt,a7,zs,fs,ba,a4,bo,rws,ck⟩
  have e:y xs.length=yo step seen moves level:=by show List.foldl _ _ (level.take xs.length)=_;rw[ll,Yz];rfl
  rw[e]at a4 rws;refine⟨dl,ob,xs,xs,u2 _ _ B,a7,?_⟩
  have sm:Same H (L2.upd S dl (DN P w dl xs)):=λb u e=>by
   by_cases z:b=dl
   ·rw[z]at e ⊢;rw[B]at e;rw[<- e];exact zG
   ·rw[zK z];exact bt b u e z
  have tz:Tups S (L2.upd S dl (DN P w dl xs)):=λb ys e=>by rw[zK (wE e a7 (λz=>by cases z))];exact e
  refine zB (zB ⟨by show 2<=sizeLine;decide,λq hq=>?_⟩);have I:=zD (show L2.upd S dl (DN P w dl xs) q=none from hq) (.tup [.ref o,.ref l]);refine k q o l zs fs _ (sm.trans I) ho zG (I _ _ ?_) ((a4.tups tz).keep I) (I _ _ ?_) ((rws.tups tz).tups (Tups.of I))
  ·rw[zK bS.symm];exact ba
  ·rw[zK b0.symm];exact bo
abbrev zaN:Stmt:=top 14
theorem jK {H H':Hp}{x:JI}(s:Same H H')(h:H' x=none):H x=none:=by
 cases e:H x with
 | none=>rfl
 | some o=>rw[s _ _ e]at h;cases h
theorem za6 {P:Yo}{w:YI}{H:Hp}{as:List JI}{ls:List LvL}{a:JI}{ys:List V}(h:LvsAt P w H as ls)(e:H a=some (.lst ys)):a∉as:=by
 induction h with
 | nil=>exact Jx
 | cons q _ ih =>
  intro z;rcases Jr.mp z with rfl|y
  ·obtain⟨b,e2,_⟩:=q
   rw[e]at e2;cases e2
  ·exact ih y
theorem iH:FnScope ["first","counts","moves","led","most","level","levels","seen","faults"] ["first","counts","moves","led","most"] (zN zaN):=by trivial
theorem lu {f fN:JI}{fd dN:Yl}{L:Lam}{fr:List Str}{lsp:LSpc}(F:Fun K "climbed" "climbed" zaN f fd) (G:Mgs mg) (UN:Use P w K mg base "next_level" ["level","seen","moves","led"] 6 (mj P w K L fr lsp) fN dN):FnOk P w K mg base CX0 7 f fd ["first","counts","moves","led","most"] (qw P w K L fr lsp):=by
 refine F.ok iH (λvs H Q E h=>?_) (λc1 A outer s H vs Q E hr h=>?_)
 ·obtain⟨T,S,mv,f,I,c,moves,cl,vals,step,Ok,n,most,rfl,_⟩:=h
  rfl
 obtain⟨T,S,mv,f,I,c,moves,cl,vals,step,Ok,n,most,rfl,bo,cc,cn,b3,W,mb,b4,mp,k⟩:=h;refine⟨_,(@zH _ _ _ _ _ (@zi _ _ 5 _ _ _ _ iH.nd rfl (.inl rfl) (dJ hr.u3 (@pvb _ 0 _ _ rfl) (@pvb _ 1 _ _ rfl)) rfl (by trivial)) (@zH _ _ _ _ _ (@zi _ _ 6 _ _ _ _ iH.nd rfl (.inl rfl) (@zw _ _ _ _ zC) rfl (by trivial)) (@zH _ _ _ _ _ (@zi _ _ 7 _ _ _ _ iH.nd rfl (.inl rfl) jB rfl (by trivial)) (@zH _ _ _ _ _ (@o6 _ _ _ _ _ _ Yi (zcC (@pvb _ 5 _ _ rfl) (λ_=>rfl)) (@zH _ _ _ _ _ (@xA _ _ _ _ (aC hr.u3 (@pvb _ 7 _ _ rfl) (@pvb _ 5 _ _ rfl) ⟨rfl,rfl,rfl,rfl⟩) rfl) (@zH _ _ _ _ _ (@yX _ _ _ _ _ _ _ _ (@zy _ _ _ _ _ _ _ _ qD (@zU _ _ _ _ _ _ _ _ _ ga rfl G.len JZ (@zA _ _ _ _ _ (@pvb _ 7 _ _ rfl) zC rfl) (by decide) (by decide) rfl rfl) (@pvb _ 4 _ _ rfl) (yC _)) (@zM _ _ _ (@zV _ _ _ _ (@zp _ _ _ _ _ (@zA _ _ _ _ _ wQ (@zA _ _ _ _ _ sO zC rfl) rfl)))) yA) (@zH _ _ _ _ _ (@xA _ _ _ _ (@wV _ _ _ _ _ _ _ _ _ _ _ _ Y8 YJ YK yn (@pvb _ 6 _ _ rfl) (@zA _ _ _ _ _ (@pvb _ 5 _ _ rfl) zC rfl) rfl rfl rfl rfl rfl) rfl) (@zH _ _ _ _ _ (@yU _ _ _ _ _ _ (@zT _ _ _ _ _ _ _ _ _ _ _ _ UN hr (@zA _ _ _ _ _ (@pvb _ 5 _ _ rfl) (@zA _ _ _ _ _ (@pvb _ 7 _ _ rfl) (@zA _ _ _ _ _ (@pvb _ 2 _ _ rfl) (@zA _ _ _ _ _ (@pvb _ 3 _ _ rfl) zC rfl) rfl) rfl) rfl) rfl rfl rfl rfl) (@yR _ _ _ _ _ _ rfl (@zS _ _ _ _ _ (@zP _ _ 5 _ iH.nd rfl (.inl rfl) (by trivial)) (@zS _ _ _ _ _ (@zP _ _ 8 _ iH.nd rfl (.inl rfl) (by trivial)) yD rfl) rfl) rfl rfl) rfl rfl rfl) (@zM _ _ _ (@yX _ _ _ _ _ _ _ _ (@o5 _ _ _ (@pvb _ 8 _ _ rfl) (λ_=>rfl)) (@zM _ _ _ (@zV _ _ _ _ (@zp _ _ _ _ _ (@zA _ _ _ _ _ wQ (@zA _ _ _ _ _ (@zU _ _ _ _ _ _ _ _ _ (gb rfl true hr.units) rfl G.min rfl (@zA _ _ _ _ _ (@pvb _ 8 _ _ rfl) zC rfl) (by decide) (by decide) rfl rfl) zC rfl) rfl)))) yA))))))) (@zM _ _ _ (@zV _ _ _ _ (@zp _ _ _ _ _ (@zA _ _ _ _ _ wQ (@zA _ _ _ _ _ (@pvb _ 6 _ _ rfl) zC rfl) rfl)))))))),?_⟩;refine zv (λDz cf=>λdl a5=>zB (zB ⟨T,I,rfl,zG,bo.tups (Tups.of (zD a5 _)),cf _ _ ?_⟩));refine⟨by show 0<=sizeLine;decide,λd N=>λds B=>?_⟩
 have sA:Same H (L2.upd (L2.upd H dl (DN P w dl [])) dl (DN P w dl [(I,T,.ref S)])):=λb u e=>by
  rw[zK (zJ e a5),zK (zJ e a5)];exact e
 have a6:L2.upd (L2.upd H dl (DN P w dl [])) dl (DN P w dl [(I,T,.ref S)]) dl=some (DN P w dl [(I,T,.ref S)]):=zG;replace N:L2.upd (L2.upd H dl (DN P w dl [])) dl (DN P w dl [(I,T,.ref S)]) d=none:=N;replace B:L2.upd (L2.upd (L2.upd H dl (DN P w dl [])) dl (DN P w dl [(I,T,.ref S)])) d (.lst []) ds=none:=B;show qh _ _ _ _ (L2.upd (L2.upd (L2.upd (L2.upd H dl (DN P w dl [])) dl (DN P w dl [(I,T,.ref S)])) d (.lst [])) ds (DN P w ds []));generalize L2.upd (L2.upd H dl (DN P w dl [])) dl (DN P w dl [(I,T,.ref S)])=HA at *;have sB:=zD N (.lst []);have sC:=zD B (DN P w ds []);have a3:L2.upd HA d (.lst []) d=some (.lst []):=zG;have bu:=sC _ _ a3;have bB:=sC _ _ (sB _ _ a6);have bt:L2.upd (L2.upd HA d (.lst [])) ds (DN P w ds []) ds=some (DN P w ds []):=zG;have b8:d≠ds:=zJ a3 B;have b1:dl≠ds:=zJ (sB _ _ a6) B;have b7:H d=none:=jK sA N;have cx:H ds=none:=jK (sA.trans sB) B;have sX:Same H (L2.upd (L2.upd HA d (.lst [])) ds (DN P w ds [])):=(sA.trans sB).trans sC;generalize L2.upd (L2.upd HA d (.lst [])) ds (DN P w ds [])=HX at *;clear sA sB sC a3 N B a6
 refine⟨λm σ j=>∃ dl i r level seen as ls v8,σ=[some (.ref T),some (.ref S),some (.ref mv),some (.ref f),some (.int (most:Nat)),some (.ref dl),some (.ref d),some (.ref ds),v8]/\Same H j/\j dl=some (DN P w dl i)/\LvE j i level/\j ds=some (DN P w ds r)/\LvE j r seen/\dl≠ds/\j d=some (.lst (as.map V.ref))/\LvsAt P w j as ls/\ds∉as /\
  as.length<=seen.length/\LvNd level/\(∀ p∈level,zx seen p.1=none)/\(∀ p∈level,Ok p.1/\p.2.length=n)/\seen.length<=most/\(seen≠[]\/level.length=1)/\level.length<=16*most+1/\most+1<=m+seen.length/\yq step moves most (most+1) [(I,c)] [] []=yq step moves most m level seen ls,⟨most+1,?_⟩,?_⟩
 ·exact⟨dl,_,[],[(I,c)],[],[],[],_,rfl,sX,bB,⟨λx hx=>by rw[Jd.mp hx];exact bo.tups (Tups.of sX),.cons ⟨rfl,S,rfl,sX _ _ cc⟩ .nil⟩,bt,LvE.nil,b1,bu,.nil,Jx,Jf _,JT.mpr ⟨Jx,Zj⟩,λp v=>rfl,λp v=>by rw[Jd.mp v];exact⟨b3,cn⟩,JN _,.inr rfl,by show 1<=_;lia,Jf _,rfl⟩
 clear bu bB bt sX b8 b1;rintro m σ j ⟨dl,i,r,level,seen,as,ls,v8,rfl,s2,Z,C,M,J,ab,Y,R,b2,c2,nd,new,ax,sm,one,cH,em,ec⟩
 have e0:(!i.isEmpty) = !level.isEmpty:=by
  have:=C.len;cases i<;>cases level<;>first|rfl|cases this
 refine zB ⟨dl,i,rfl,.inl Z,?_⟩;rw[e0];obtain⟨m,rfl⟩:∃ m',m=m'+1:=⟨m-1,by lia⟩;by_cases le:level=[]
 ·rw[le]
  refine yF ?_;refine zB ⟨by show 2<=sizeLine;decide,λp v=>?_⟩;have s3:=zD v (.tup [.str "whole",.ref d]);refine k p _ (s2.trans s3) ?_;rw[ec,le,uZ];exact⟨d,as,zG,s3 _ _ Y,R.keep s3⟩
 rw[show (!level.isEmpty)=true by cases level;exact absurd rfl le;rfl];refine yZ ⟨_,λcz H' hN=>⟨m,Wa _,hN⟩,?_⟩;have l2:=C.len;have l3:=J.len;refine zv (λDy ck=>?_);refine zB ⟨ds,rfl,⟨_,.inl M⟩,_,rfl,dl,r,i,rfl,ab.symm,M,J.ks,⟨.inl Z,C.ks⟩,by rw[JB];lia,?_,?_⟩
 ·rcases one with z|z
  ·exact .inl λy=>z (by rw[y]at l3;exact List.length_eq_zero_iff.mp l3.symm)
  ·exact .inr (by rw[l2];exact z)
 rw[J.merge C nd new];have bc:d≠ds:=wE Y M λz=>by cases z
 have a0:L2.upd j ds (DN P w ds (r++i)) ds=some (DN P w ds (r++i)):=zG;have t3:Tups j (L2.upd j ds (DN P w ds (r++i))):=λb zs e=>by rw[zK (wE e M λz=>by cases z)];exact e
 have a7:L2.upd j ds (DN P w ds (r++i)) dl=some (DN P w dl i):=by rw[zK ab];exact Z
 have D:L2.upd j ds (DN P w ds (r++i)) d=some (.lst (as.map V.ref)):=by rw[zK bc];exact Y
 have s3:Same H (L2.upd j ds (DN P w ds (r++i))):=λb u e=>by rw[zK (zJ e cx)];exact s2 b u e
 have O:LvsAt P w (L2.upd j ds (DN P w ds (r++i))) as ls:=R.but t3 λa ha o e=>by rw[zK (λ(z:a=ds)=>b2 (z ▸ ha))];exact e
 have X:=C.tups t3;have ba:=(J.tups t3).app X;refine ck _ _ ?_;show qh _ _ _ _ (L2.upd j ds (DN P w ds (r++i)));generalize L2.upd j ds (DN P w ds (r++i))=U at *;clear M Y Z R C J t3 s2;have yl:(r++i).length=seen.length+level.length:=by rw[Jc];simp_all
 refine zB ⟨ds,_,rfl,.inl a0,_,rfl,_,_,rfl,rfl,_,rfl,pi (λz=>?_) (λz=>?_)⟩
 ·have z1:most<seen.length+level.length:=by
   have:=YD z;rw[yl]at this;lia
  refine⟨by show 2<=sizeLine;decide,λp v=>?_⟩;have s4:=zD v (.tup [.str "open",.non]);refine k p _ (s3.trans s4) ?_;rw[ec,uc le z1];exact zG
 have z1:¬ most<seen.length+level.length:=λy=>z (Jw (by rw[yl];lia));have lp:0<level.length:=List.length_pos_iff.mpr le;dsimp only[fU];refine zv (λDx cp=>?_);refine zB ⟨.inl ⟨rfl,_,SqL.of D⟩,_,rfl,d,_,_,rfl,rfl,D,by rw[Je,JB];lia,?_⟩;have cb:L2.upd U d (.lst (as.map V.ref++[.ref dl])) d=some (.lst ((as++[dl]).map V.ref)):=by rw[JQ];exact zG
 have q4:∀ {b:JI}{u:HO},U b=some u->b≠d->L2.upd U d (.lst (as.map V.ref++[.ref dl])) b=some u:=λe ne=>by rw[zK ne];exact e
 have t4:Tups U (L2.upd U d (.lst (as.map V.ref++[.ref dl]))):=λb zs e=>q4 e (wE e D λz=>by cases z);have bS:=q4 a7 (wE a7 D λz=>by cases z);have aT:=q4 a0 bc.symm;have s4:Same H (L2.upd U d (.lst (as.map V.ref++[.ref dl]))):=λb u e=>q4 (s3 b u e) (zJ e b7)
 have a8:LvsAt P w (L2.upd U d (.lst (as.map V.ref++[.ref dl]))) (as++[dl]) (ls++[level]):=Paired.snoc (O.but t4 λa ha o e=>by
  by_cases y:a=d
  ·exact absurd (y ▸ ha) (za6 O D)
  ·exact q4 e y) ⟨i,bS,X.tups t4⟩
 have b5:=X.tups t4;have a9:=ba.tups t4;refine cp _ _ ?_;show qh _ _ _ _ (L2.upd U d (.lst (as.map V.ref++[.ref dl])));generalize L2.upd U d (.lst (as.map V.ref++[.ref dl]))=H4 at *;clear a0 D a7 O X ba t4 s3 q4;have W4:=W.keep (Tups.of s4) λb o u e=>s4 b _ e;have nw:=tL (step:=step) (seen:=seen++level) (moves:=moves) (Ok:=Ok) level λp v m hm t e=>W.ok _ _ _ (ax p v).1 hm e;have na:=nR (step:=step) (seen:=seen++level) (moves:=moves) (n:=n) level λp v=>(ax p v).2;have cP:level.length*moves.length<=level.length*16:=Nat.mul_le_mul_left _ b4;refine zv (λDw ct=>?_);refine zB (zB (zB (zB ⟨dl,ds,mv,f,i,r++i,level,seen++level,moves,cl,vals,step,Ok,n,rfl,bS,b5,aT,a9,ab,W4,ax,by lia,λp o l zs fs H5 s5 ho v b9 b6 a4 ao=>?_⟩)));refine⟨p,_,rfl,SqT.of v,rfl,_,_,rfl,_,_,rfl,rfl,ct _ _ ?_⟩;have fl:=YU ao;by_cases fe:(yo step (seen++level) moves level).fl=[]
 ·have f0:fs=[]:=by rw[fe]at fl;exact List.length_eq_zero_iff.mp fl
  refine zB ⟨false,.inl ⟨_,SqL.of a4,by rw[f0];rfl⟩,yF ?_⟩;refine⟨o,zs,r++i,_,seen++level,as++[dl],ls++[level],_,rfl,s4.trans s5,b9,b6,s5 _ _ aT,a9.keep s5,λz=>?_,s5 _ _ cb,a8.keep s5,?_,?_,nw.nd,nw.new,λp v=>⟨nw.ok p v,na.on p v⟩,by rw[Jc];simp_all,.inl ?_,?_,by rw[Jc];lia,?_⟩
  ·rw[z,aT]at ho;cases ho
  ·intro z
   rcases Jv.mp z with y|y
   ·exact b2 y
   ·exact ab (Jd.mp y).symm
  ·rw[Jc,Jc];show as.length+1<=_;lia
  ·intro y
   have:=JS List.length y;rw[Jc,ZS]at this
   simp_all
  ·have:=na.few;lia
  ·rw[ec,rH le z1 fe]
 ·have fp:0<(fs.map V.ref).length:=by
   rw[Je,fl];exact List.length_pos_iff.mpr fe
  refine zB ⟨true,.inl ⟨_,SqL.of a4,?_⟩,yZ ?_⟩
  ·cases fs with
   | nil=>exact absurd fp (by simp)
   | cons a b=>rfl
  obtain⟨g,g1,g2⟩:=bQ ao fe;refine zB ⟨l,_,1,tG H5,rfl,SqL.of a4,fp,by decide,ky ao na.fl,?_⟩;rw[g1];refine⟨by show 2<=sizeLine;decide,λq hq=>?_⟩;have s6:=zD hq (.tup [.str "breaks",.ref g]);refine k q _ ((s4.trans s5).trans s6) ?_;rw[ec,ud le z1 fe];exact⟨g,zG,s6 _ _ g2⟩
abbrev eJ:Stmt:=top 16
theorem iR {α β:Type}{F:α->β->Prop}{xs:List α}{ys:List β}(h:Paired F xs ys):∀ {i:Nat}{a:α},xs[i]?=some a->∃ b,ys[i]?=some b/\F a b:=by
 induction h with
 | nil=>intro i a e;cases e
 | cons q _ ih =>
  intro i a e
  cases i with
  | zero=>cases Jq e;exact zR rfl q
  | succ i=>exact ih e
theorem oU (ls:List LvL)(i:Nat):((ls.take i).map List.length).sum<=(ls.map List.length).sum:=by
 induction ls generalizing i with
 | nil=>rw[WD];exact Jf _
 | cons a ls ih =>
  cases i with
  | zero=>exact JN _
  | succ i=>show a.length+_<=a.length+_;exact Nat.add_le_add_left (ih i) _
def kv (P:Yo)(w:YI)(F c:Nat):Sp:=λb H Q _=>∃ l as ls,b=[.ref l]/\H l=some (.lst (List.map V.ref as))/\LvsAt P w H as ls/\(∀ lv∈ls,lv.length<=10000/\∀ p∈lv,StOk F c p.1)/\(ls.map List.length).sum<=1000000/\∀ p a,Same H a->Q (.ref p) a
theorem aW {H:Hp}{a:JI}{o:HO}(_:Same H (L2.upd H a o))(h:H a=none):H a=none:=h
theorem zcr:FnScope ["levels"] ["levels"] (zN eJ):=by trivial
theorem aS (F0 c0:Nat) {f:JI}{fd:Yl}(F:Fun K "book_of" "book_of" eJ f fd) (G:Mgs mg):FnOk P w K mg base CX0 1 f fd ["levels"] (kv P w F0 c0):=by
 refine F.ok zcr (λJ H Q E h=>?_) (λab A outer s H J Q E hr h=>?_)
 ·obtain⟨l,as,ls,rfl,_⟩:=h
  rfl
 obtain⟨l,as,ls,rfl,X,v,B,R,k⟩:=h;refine⟨_,(@zM _ _ _ (@zV _ _ _ _ (@zj _ _ _ _ _ _ _ _ _ zt rfl G.tuple rfl (@zA _ _ _ _ _ (@zaS _ _ _ _ _ _ none _ _ _ (zal K (tCB (eT P w) (fY (fH 0) zau))) _ _ _ _ ["level","state"] [none,none] rfl (@pP _ _ _ _ (@pvb _ 0 _ _ rfl)) (CapOk.of (by kernel_rfl)) (λ_ _ _ _ _=>@zP _ _ 0 _ (show (["level","state"]:List Str).Nodup from by decide +kernel) rfl (.inl rfl) (.inr rfl)) (λ_ _ _ _ _=>@pP _ _ _ _ (@zU _ _ _ _ _ _ _ _ _ (rX rfl hr.units) rfl G.sorted rfl (@zA _ _ _ _ _ (@pvb _ 0 _ _ rfl) zC rfl) (by decide) (by decide) rfl rfl)) (λ_ _ _ _ _=>@zP _ _ 1 _ (show (["level","state"]:List Str).Nodup from by decide +kernel) rfl (.inl rfl) (.inr rfl)) (λ_ _ _ _ _=>xG) (λ_ _ _ _ _=>@pvb _ 1 _ _ rfl) (by intro _;rfl) (by intro _ _;rfl)) zC rfl) (by decide) (by decide) rfl rfl))),?_⟩;refine zB ⟨l,rfl,⟨_,SqL.of X⟩,λt C=>?_⟩;have al:as.length=ls.length:=YU v;have S:=zD C (.lst []);refine cX (K:=K) (a:=l) (xs:=as.map V.ref) (Q:=λx H1=>zau (L2.vI ["levels"] [V.ref l]) H1 λJ c=>(∃ p n,x::J=[V.ref p]/\((SqL K c p n/\∀ (l:JI),c l=none->Q (V.ref l) (L2.upd c l (HO.tup n)))\/SqT K c p n/\Q (V.ref p) c))) (λi acc σ c=>(∃ g d,σ=[g,d])/\Same H c/\c t=some (.lst acc)/\∃ bs:List JI,acc=bs.map V.ref/\bs.length=((ls.take i).map List.length).sum) ⟨⟨_,_,rfl⟩,S,zG,[],rfl,rfl⟩ (λi acc σ c z=>⟨z.2.2.1,SqL.of (z.2.1 _ _ X)⟩) ?_ ?_
 ·rintro i acc σ c x u ⟨⟨g,d,rfl⟩,r,I,bs,rfl,bl⟩
  rw[JG]at u;obtain⟨a,Z,rfl⟩:=Y0.mp u;have ia:i<as.length:=(Jb.mp Z).1;have il:i<ls.length:=by lia
  obtain⟨lv,Y,xs,hd,le⟩:=iR v Z;have y:lv∈ls:=JP Y;have tk:ls.take (i+1)=ls.take i++[lv]:=by rw[<- YH il,(Jb.mp Y).2]
  have D:((ls.take (i+1)).map List.length).sum=bs.length+lv.length:=by rw[tk,JQ,List.sum_append,<- bl];rfl
  have sum2:((ls.take (i+1)).map List.length).sum<=1000000:=JK (oU ls (i+1)) R;have d2:=r _ _ hd;have le2:=le.keep r;refine zB ⟨a,xs,rkH c,rfl,d2,le2.len_le (B lv y).1,eP le2 (B lv y).2,λq n W pm _=>?_⟩;have M:=zD W (.lst n);have lq:t≠q:=zJ I W;obtain⟨cs,rfl,pc⟩:=lX (f:=V.ref) (zs:=xs.map λp=>p.2.1) pm (by rw[ZD];rfl);have cl:cs.length=lv.length:=by rw[pc.length_eq,Je];exact le2.len
  refine⟨q,rfl,⟨_,SqL.of zG⟩,?_⟩;refine cY (K:=K) (a:=q) (zs:=cs.map V.ref) (λj acc σ m=>(∃ g d,σ=[g,d])/\Same H m/\(∀ b o,c b=some o->b≠t->m b=some o)/\m q=some (.lst (cs.map V.ref))/\acc=bs.map V.ref++(cs.map V.ref).take j/\m t=some (.lst acc)) ?_ (λj acc σ m z=>⟨z.2.2.2.2.2,SqL.of z.2.2.2.1⟩) ?_ ?_
  ·exact⟨⟨_,_,rfl⟩,r.trans M,λb o e _=>M b o e,zG,by rw[Zi,Y6],M _ _ I⟩
  ·rintro j x acc σ m u ⟨⟨g,d,rfl⟩,L,U,T,rfl,O⟩
   have N:=(Jb.mp u).1;refine zB ⟨O,?_,nx N ⟨⟨_,_,rfl⟩,λb o e=>?_,λb o e ne=>?_,?_,?_,zG⟩⟩
   ·rw[Jc,Jt,Je,Je,JB]
    rw[Je]at N;lia
   ·rw[zK (zJ e (aW S C))];exact L b o e
   ·rw[zK ne];exact U b o e ne
   ·rw[zK lq.symm];exact T
   ·rw[JV]
    congr 1
    rw[<- YH N,(Jb.mp u).2]
  ·rintro acc σ m ⟨⟨g,d,rfl⟩,L,U,T,rfl,O⟩
   refine nx (by rw[Je];exact ia) ⟨⟨_,_,rfl⟩,L,O,bs++cs,?_,?_⟩
   ·rw[Yz,JQ]
   ·rw[D,Jc,cl]
 ·rintro acc σ c ⟨⟨g,d,rfl⟩,r,I,bs,rfl,bl⟩
  exact⟨t,_,rfl,.inl ⟨SqL.of I,λp hp=>k p _ (r.trans (zD hp (.tup (bs.map V.ref))))⟩⟩
abbrev zaM:Stmt:=top 8
abbrev pD:Stmt:=top 21
abbrev zaI:Stmt:=top 22
theorem zbf (h a b:Nat):inV (V.int h) [V.int a,V.int b]=decide (h=a\/h=b):=by
 rw[Ya,Wv];simp[inV,eqV];lia
theorem scD:FnScope ["net","lane"] ["net","lane"] (zN zaM):=by trivial
theorem za1 {f:JI}{fd:Yl}(F:Fun K "end_of" "end_of" zaM f fd):FnOk P w K mg base CX0 1 f fd ["net","lane"] fi:=by
 refine F.ok scD (λd H Q E h=>?_) (λj A outer s H d Q E g h=>?_)
 ·obtain⟨r,fr,c,e,N,a,rfl,_⟩:=h
  rfl
 obtain⟨r,fr,c,e,N,a,rfl,ok,na,i,k⟩:=h;refine⟨_,(@zM _ _ _ (@zV _ _ _ _ (@aB _ _ _ _ _ _ _ g.units (@zZ _ _ _ _ _ _ _ yL (@pvb _ 0 _ _ rfl) zE (λ_ _=>rfl)) (@zA _ _ _ _ _ (@pvb _ 1 _ _ rfl) zC rfl) rfl rfl rfl rfl))),?_⟩;have b:=na.ends;rw[cC]at b;refine zB ⟨r,_,_,_,rfl,rfl,SqT.of na.net,rfl,c,_,rfl,b,_,rfl,(a:Int),rfl,b,?_,?_⟩
 ·exact JE.mpr ⟨a,ok.en.mem_iff.mpr (Y2.mpr i),rfl⟩
 ·rw[nk];exact k
theorem scR:FnScope ["net","turns","lane","back","behind","here","number","fork","turn"] ["net","turns","lane","back"] (zN zaI):=by trivial
theorem zaZ {f fD:JI}{fd dD:Yl}(F:Fun K "run_through" "run_through" zaI f fd) (G:Mgs mg) (UD:Use P w K mg base "end_of" ["net","lane"] 1 fi fD dD):FnOk P w K mg base CX0 2 f fd ["net","turns","lane","back"] fh:=by
 refine F.ok scR (λvs H Q E h=>?_) (λab A outer s H vs Q E hr h=>?_)
 ·obtain⟨us,back,rfl,r,fr,er,J,N,D,ts,lane,rfl,_⟩:=h
  rfl
 obtain⟨us,back,rfl,r,fr,er,J,N,D,ts,lane,rfl,ok,na,R,tl,bits,hl,k⟩:=h;refine⟨_,(@zH _ _ _ _ _ (@zi _ _ 4 _ _ _ _ scR.nd rfl (.inl rfl) (@zj _ _ _ _ _ _ _ _ _ yY rfl G.list rfl (@zA _ _ _ _ _ (@pvb _ 1 _ _ rfl) zC rfl) (by decide) (by decide) rfl rfl) rfl (by trivial)) (@zH _ _ _ _ _ (@zi _ _ 5 _ _ _ _ scR.nd rfl (.inl rfl) (@pvb _ 2 _ _ rfl) rfl (by trivial)) (@zH _ _ _ _ _ (@xH _ _ _ _ _ _ _ _ Yi rfl (@pQ _ _ _ _ _ _ _ _ false rfl G.enum (@zA _ _ _ _ _ (@zZ _ _ _ _ _ _ _ yL (@pvb _ 0 _ _ rfl) zE (λ_ _=>rfl)) zC rfl) rfl) (@yR _ _ _ _ _ _ rfl (@zS _ _ _ _ _ (@zP _ _ 6 _ scR.nd rfl (.inl rfl) (by trivial)) (@zS _ _ _ _ _ (@zP _ _ 7 _ scR.nd rfl (.inl rfl) (by trivial)) yD rfl) rfl) rfl rfl) (@zM _ _ _ (@yX _ _ _ _ _ _ _ _ (@zy _ _ _ _ _ _ _ _ uT (@pvb _ 5 _ _ rfl) (@pvb _ 7 _ _ rfl) rfl) (@zH _ _ _ _ _ (@zi _ _ 8 _ _ _ _ scR.nd rfl (.inl rfl) (@zZ _ _ _ _ _ _ _ zo (@pvb _ 4 _ _ rfl) (@pvb _ 6 _ _ rfl) (λ_ _=>rfl)) rfl (by trivial)) (@zH _ _ _ _ _ (@yU _ _ _ _ _ _ (@zQ _ _ _ _ _ _ _ _ wR zE (@pvb _ 8 _ _ rfl)) (@x9 _ _ _ _ _ _ _ (@pvb _ 4 _ _ rfl) (@pvb _ 6 _ _ rfl) y7 (by intro _;rfl)) rfl rfl rfl) (@zM _ _ _ (@zi _ _ 5 _ _ _ _ scR.nd rfl (.inl rfl) (@zZ _ _ _ _ _ _ _ yL (@pvb _ 7 _ _ rfl) (@nA _ _ _ _ _ _ _ _ (@wd _ _ _ (@pvb _ 3 _ _ rfl) (by intro _;rfl)) (@zQ _ _ _ _ _ _ _ _ wR zE (@pvb _ 8 _ _ rfl)) (@pvb _ 8 _ _ rfl)) (λ_ _=>rfl)) rfl (by trivial))))) yA)) (by intro _;rfl)) (@zM _ _ _ (@zV _ _ _ _ (@zp _ _ _ _ _ (@zA _ _ _ _ _ (@zj _ _ _ _ _ _ _ _ _ zt rfl G.tuple rfl (@zA _ _ _ _ _ (@pvb _ 4 _ _ rfl) zC rfl) (by decide) (by decide) rfl rfl) (@zA _ _ _ _ _ (@zT _ _ _ _ _ _ _ _ _ _ _ _ UD hr (@zA _ _ _ _ _ (@pvb _ 0 _ _ rfl) (@zA _ _ _ _ _ (@pvb _ 5 _ _ rfl) zC rfl) rfl) rfl rfl rfl rfl) zC rfl) rfl))))))),?_⟩;refine zB ⟨D,_,rfl,.inr (SqT.of R),λd I=>zB ?_⟩;have M:=zD I (.lst (ts.map V.int));refine zB ⟨r,_,_,_,rfl,rfl,SqT.of (M _ _ na.net),rfl,fr,J,rfl,SqT.of (M _ _ na.forks),?_⟩
 refine n4 (K:=K) (b:=false) (a:=fr) (xs:=J) (λi σ m=>(∃ C B y,σ=[some (.ref r),some (.ref D),some (.int lane),some (.bl back),some (.ref d),some (.int (yB back N.forks ts lane i).2),C,B,y])/\Same H m/\m d=some (.lst ((yB back N.forks ts lane i).1.map V.int)))
  ⟨⟨_,_,_,rfl⟩,M,zG⟩ (λi σ m _ q=>SqT.of (q.2.1 _ _ na.forks)) ?_ ?_
 ·rintro i x σ m T hx Z ⟨⟨C,B,y,rfl⟩,v,n⟩
  obtain⟨a,g,rfl,eg,L⟩:=(na.prs.tups (Tups.of v)).get hx;have gi:i<N.forks.length:=(Jb.mp eg).1;have gd:N.forks.getD i (0,0)=g:=by rw[Ja,eg];rfl
  have rs:yB back N.forks ts lane (i+1)=yH back (yB back N.forks ts lane i) i g:=by show yH _ _ _ _=_;rw[gd]
  have rl:=uR (back:=back) (fs:=N.forks) (ts:=ts) (lane:=lane) i;have rb:=vS (back:=back) (fs:=N.forks) (lane:=lane) bits i;generalize yB back N.forks ts lane i=st at *;have u:=zD Z (.tup [.int i,.ref a]);have lT:d≠T:=zJ n Z;refine⟨T,_,rfl,SqT.of zG,rfl,_,_,rfl,_,_,rfl,rfl,?_⟩;refine zB (zB ⟨a,_,rfl,.inr (SqT.of (u _ _ L)),rfl,rfl,_,rfl,?_⟩);show if (if false=true then !inV (V.int (st.2:Nat)) [V.int (g.1:Nat),V.int (g.2:Nat)] else inV (V.int (st.2:Nat)) [V.int (g.1:Nat),V.int (g.2:Nat)])=true then _ else _;rw[Jg Jm,zbf];by_cases on:st.2=g.1\/st.2=g.2
  ·rw[Jw on]
   refine yZ ?_;have c:yH back st i g=(st.1.set i (1-st.1.getD i 0),if (if back then 1-st.1.getD i 0 else st.1.getD i 0)=0 then g.1 else g.2):=by unfold yH;rw[Jj on]
   have O:i<st.1.length:=by simp_all
   have S:=rb _ (L2.nu O);have Y:=u _ _ n;refine zB (zB ⟨d,_,_,_,rfl,rfl,SqL.of Y,wU O,?_⟩);refine zB ⟨_,_,rfl,rfl,_,rfl,_,rfl,d,_,_,i,rfl,rfl,Y,uj (by rw[Je];exact O),?_⟩
   have l:upd (upd m T (.tup [.int i,.ref a])) d (.lst ((st.1.map V.int).set i (.int (1-st.1.getD i 0)))) a=some (.tup [.int g.1,.int g.2]):=by
    rw[zK (by rintro rfl;rw[n]at L;cases L)];exact u _ _ L
   have fin:∀ nx:Nat,nx=(yH back st i g).2->(∃ C B y,([some (.ref r),some (.ref D),some (.int lane),some (.bl back),some (.ref d),some (.int nx),some (.int i),some (.ref a),some (.int (st.1.getD i 0))]:List (Option V))=[some (.ref r),some (.ref D),some (.int lane),some (.bl back),some (.ref d),some (.int (yB back N.forks ts lane (i+1)).2),C,B,y]) /\
     Same H (upd (upd m T (.tup [.int i,.ref a])) d (.lst ((st.1.map V.int).set i (.int (1-st.1.getD i 0)))))/\upd (upd m T (.tup [.int i,.ref a])) d (.lst ((st.1.map V.int).set i (.int (1-st.1.getD i 0)))) d=some (.lst ((yB back N.forks ts lane (i+1)).1.map V.int)):=λnx en=>by
    refine⟨⟨_,_,_,by rw[rs,en]⟩,λb o e=>?_,?_⟩
    ·rw[zK (zJ e I)];exact u _ _ (v b o e)
    ·rw[zG,rs,c,wa]
   cases back with
   | false =>
    rcases S with z|z
    ·exact zB (zB (zR rfl (yF (zB ⟨a,_,_,_,rfl,rfl,SqT.of l,by rw[z];exact yJ (j:=0) rfl,fin g.1 (by rw[c,z];rfl)⟩))))
    ·exact zB (zB (zR rfl (yF (zB ⟨a,_,_,_,rfl,rfl,SqT.of l,by rw[z];exact yJ (j:=1) rfl,fin g.2 (by rw[c,z];rfl)⟩))))
   | true =>
    rcases S with z|z
    ·exact zB (zB (zR rfl (yZ (zB ⟨_,_,rfl,rfl,a,_,_,_,rfl,rfl,SqT.of l,by rw[z];exact yJ (j:=1) rfl,fin g.2 (by rw[c,z];rfl)⟩))))
    ·exact zB (zB (zR rfl (yZ (zB ⟨_,_,rfl,rfl,a,_,_,_,rfl,rfl,SqT.of l,by rw[z];exact yJ (j:=0) rfl,fin g.1 (by rw[c,z];rfl)⟩))))
  ·rw[Jn on]
   have c:yH back st i g=st:=by unfold yH;rw[Jg on]
   exact yF ⟨⟨_,_,_,by rw[rs,c];rfl⟩,v.trans u,by rw[rs,c];exact u _ _ n⟩
 ·rintro σ m ⟨⟨C,B,y,rfl⟩,v,n⟩
  have W:=na.prs.len;rw[W]at n;have hh:=vR (back:=back) (ts:=ts) ok.fk hl N.forks.length (Jf _);refine zB ⟨d,_,rfl,.inl ⟨SqL.of n,λt ht=>?_⟩⟩;have U:=zD ht (.tup ((yB back N.forks ts lane N.forks.length).1.map V.int));refine zB (zB ⟨r,fr,er,J,N,_,by rw[W];rfl,ok,na.tups (Tups.of (v.trans U)),hh,(by show 2<=sizeLine;decide),λp X=>?_⟩);exact k p t _ ((v.trans U).trans (zD X _)) zG (zD X _ _ _ zG)
theorem scP:FnScope ["net","turns","lane"] ["net","turns","lane"] (zN pD):=by trivial
theorem iW {f j:JI}{fd k:Yl}(F:Fun K "passed" "passed" pD f fd) (l:Use P w K mg base "run_through" ["net","turns","lane","back"] 2 fh j k):FnOk P w K mg base CX0 3 f fd ["net","turns","lane"] (mi false):=by
 refine F.ok scP (λg H Q E h=>?_) (λm A outer s H g Q E i h=>?_)
 ·obtain⟨r,fr,e,d,N,b,c,a,rfl,_⟩:=h
  rfl
 obtain⟨r,fr,e,d,N,b,c,a,rfl,q⟩:=h;refine⟨_,(@zM _ _ _ (@zV _ _ _ _ (@zT _ _ _ _ _ _ _ _ _ _ _ _ l i (@zA _ _ _ _ _ (@pvb _ 0 _ _ rfl) (@zA _ _ _ _ _ (@pvb _ 1 _ _ rfl) (@zA _ _ _ _ _ (@pvb _ 2 _ _ rfl) (@zA _ _ _ _ _ x4 zC rfl) rfl) rfl) rfl) rfl rfl rfl rfl))),?_⟩;exact zB (zB (zB ⟨[.ref r,.ref b,.int a],false,rfl,r,fr,e,d,N,b,c,a,rfl,q⟩))
abbrev pG:Stmt:=top 13
abbrev pH:Stmt:=top 25
abbrev lF:Stmt:=top 26
abbrev oi:Stmt:=top 24
theorem nV (n:Nat):List.replicate n (V.int 0)=(List.replicate n (0:Int)).map V.int:=(List.map_replicate).symm
theorem mV {ls:List LvL}{lv:LvL}(h:lv∈ls):lv.length<=(ls.map List.length).sum:=by
 induction ls with
 | nil=>cases h
 | cons a ls ih =>
  show lv.length<=a.length+(ls.map List.length).sum;rcases Jr.mp h with rfl|z
  ·exact Nat.le_add_right _ _
  ·exact JK (ih z) (Nat.le_add_left _ _)
theorem zcp:FnScope ["net"] ["net"] (zN pG):=by trivial
theorem ic {f:JI}{fd:Yl}(F:Fun K "first_turns" "first_turns" pG f fd) (G:Mgs mg):FnOk P w K mg base CX0 1 f fd ["net"] tw:=by
 refine F.ok zcp (λc H Q E h=>?_) (λm A outer s H c Q E n h=>?_)
 ·obtain⟨r,fr,j,b,N,rfl,_⟩:=h
  rfl
 obtain⟨r,fr,j,b,N,rfl,ok,na,k⟩:=h;refine⟨_,(@zM _ _ _ (@zV _ _ _ _ (@zQ _ _ _ _ _ _ _ _ uA (@zp _ _ _ _ _ (@zA _ _ _ _ _ zE zC rfl)) (@zU _ _ _ _ _ _ _ _ _ zY rfl G.len JZ (@zA _ _ _ _ _ (@zZ _ _ _ _ _ _ _ yL (@pvb _ 0 _ _ rfl) zE (λ_ _=>rfl)) zC rfl) (by decide) (by decide) rfl rfl)))),?_⟩;refine⟨by show 1<=sizeLine;decide,λt g=>?_⟩;have a:=zD g (.tup [.int 0]);have e:=na.prs.len;have o:=ok.fm;refine zB ⟨r,_,_,_,rfl,rfl,SqT.of (a _ _ na.net),rfl,fr,b,rfl,.inr (SqT.of (a _ _ na.forks)),t,_,b.length,rfl,rfl,zG,by lia,λp l d i=>k p l (a.trans d) ?_⟩;rw[i,nV,e]
theorem zcq:FnScope ["net"] ["net"] (zN pH):=by trivial
theorem ie {f l:JI}{fd dT:Yl}(F:Fun K "first_pair" "first_pair" pH f fd) (m:Use P w K mg base "first_turns" ["net"] 1 tw l dT):FnOk P w K mg base CX0 2 f fd ["net"] sD:=by
 refine F.ok zcq (λd H Q E h=>?_) (λn A outer s H d Q E g h=>?_)
 ·obtain⟨r,fr,c,b,N,rfl,_⟩:=h
  rfl
 obtain⟨r,fr,c,b,N,rfl,ok,na,k⟩:=h;refine⟨_,(@zM _ _ _ (@zV _ _ _ _ (@zp _ _ _ _ _ (@zA _ _ _ _ _ (@zT _ _ _ _ _ _ _ _ _ _ _ _ m g (@zA _ _ _ _ _ (@pvb _ 0 _ _ rfl) zC rfl) rfl rfl rfl rfl) (@zA _ _ _ _ _ zE zC rfl) rfl)))),?_⟩;refine zB ⟨r,fr,c,b,N,rfl,ok,na,λt o e j=>⟨by show 2<=sizeLine;decide,λp i=>?_⟩⟩;have a:=zD i (.tup [.ref t,.int 0]);exact k p _ (e.trans a) (zap (is:=[0]) (t:=t) zG (a _ _ j))
theorem fq:FnScope ["net","pair","lane","turns","rest","onward","end"] ["net","pair","lane"] (zN lF):=by trivial
theorem dq {f J:JI}{fd L:Yl}(F:Fun K "pair_behind" "pair_behind" lF f fd) (O:Use P w K mg base "passed" ["net","turns","lane"] 3 (mi false) J L):FnOk P w K mg base CX0 4 f fd ["net","pair","lane"] tH:=by
 refine F.ok fq (λn H Q E h=>?_) (λR A outer s H n Q E C h=>?_)
 ·obtain⟨r,fr,m,l,N,b,k,a,rfl,_⟩:=h
  rfl
 obtain⟨r,fr,m,l,N,b,k,a,rfl,ok,na,y,⟨d,rest,rfl,o,bits,S⟩,x,v,u⟩:=h;refine⟨_,(@zH _ _ _ _ _ (@yU _ _ _ _ _ _ (@pvb _ 1 _ _ rfl) (@yR _ _ _ _ _ _ rfl (@zS _ _ _ _ _ (@zP _ _ 3 _ fq.nd rfl (.inl rfl) (by trivial)) (@zS _ _ _ _ _ (@zP _ _ 4 _ fq.nd rfl (.inl rfl) (by trivial)) yD rfl) rfl) rfl rfl) rfl rfl rfl) (@zH _ _ _ _ _ (@yU _ _ _ _ _ _ (@zT _ _ _ _ _ _ _ _ _ _ _ _ O C (@zA _ _ _ _ _ (@pvb _ 0 _ _ rfl) (@zA _ _ _ _ _ (@pvb _ 3 _ _ rfl) (@zA _ _ _ _ _ (@pvb _ 2 _ _ rfl) zC rfl) rfl) rfl) rfl rfl rfl rfl) (@yR _ _ _ _ _ _ rfl (@zS _ _ _ _ _ (@zP _ _ 5 _ fq.nd rfl (.inl rfl) (by trivial)) (@zS _ _ _ _ _ (@zP _ _ 6 _ fq.nd rfl (.inl rfl) (by trivial)) yD rfl) rfl) rfl rfl) rfl rfl rfl) (@zH _ _ _ _ _ (@yX _ _ _ _ _ _ _ _ (@zy _ _ _ _ _ _ _ _ jE (@pvb _ 6 _ _ rfl) (@pvb _ 4 _ _ rfl) (yC _)) (@zM _ _ _ (@zV _ _ _ _ sO)) yA) (@zM _ _ _ (@zV _ _ _ _ (@zp _ _ _ _ _ (@zA _ _ _ _ _ (@pvb _ 5 _ _ rfl) (@zA _ _ _ _ _ (@zQ _ _ _ _ _ _ _ _ xq (@zQ _ _ _ _ _ _ _ _ yQ (@pvb _ 4 _ _ rfl) zE) (@zZ _ _ _ _ _ _ _ yL (@pvb _ 0 _ _ rfl) zE (λ_ _=>rfl))) zC rfl) rfl))))))),?_⟩;obtain⟨t,I,B⟩:=oW y;refine zB ⟨b,_,rfl,SqT.of I,rfl,_,_,rfl,_,_,rfl,rfl,?_⟩;refine zB (zB (zB ⟨r,fr,m,l,N,t,d,a,rfl,ok,na,B,o,bits,x,λp e T g G i=>?_⟩));refine⟨p,_,rfl,SqT.of G,rfl,_,_,rfl,_,_,rfl,rfl,?_⟩;have st:xD N (stK d [(rest:Nat)]) a=if ((passE N d a:Nat):Int)=(rest:Nat) then some (stK (vK N d a) [((rest:Nat)+1)%(N.lanes:Nat)]) else none:=rfl;refine zB (zB ⟨rfl,_,rfl,?_⟩);by_cases c:((passE N d a:Nat):Int)=(rest:Nat)
 ·rw[Jj c]at st
  have M:((List.idxOf (yB false N.forks d a N.forks.length).snd N.ends:Nat):Int)=(rest:Nat):=c;rw[show (!decide (V.int ↑(List.idxOf (yB false N.forks d a N.forks.length).snd N.ends)=V.int ↑rest))=false from by rw[Jw (JS V.int M)];rfl];refine yF (zB (zB ⟨_,_,rfl,rfl,_,rfl,r,_,_,_,rfl,rfl,SqT.of (g _ _ na.net),rfl,_,_,rfl,rfl,by have:=ok.l1;lia,by show 2<=sizeLine;decide,λq D=>?_⟩));have j:=zD D (.tup [.ref e,.int (((rest:Nat)+1)%(N.lanes:Nat))]);exact u _ q _ (g.trans j) st (zap (is:=[((rest:Nat)+1)%(N.lanes:Nat)]) (t:=e) zG (j _ _ i))
 ·rw[Jg c]at st
  rw[show (!decide (V.int ↑(List.idxOf (yB false N.forks d a N.forks.length).snd N.ends)=V.int ↑rest))=true from by rw[Jn (λz=>c (by injection z))];rfl];exact yZ (v _ g st)
def zbW (q:Str):Stmt->Lam
 | .Assign _ (.Call _ (_::_::_::.Lambda p b s _::_) _ _) _=>⟨p,b,s,q⟩
 | _=>⟨⟨[],[],none,[],[],none,[]⟩,.Name "" ⟨0,0,0,0⟩,zN oi,q⟩
def pf (q:Str):Lam:=zbW q ((yx oi).getD 0 (.Pass ⟨0,0,0,0⟩))
theorem zar {us:List Jo}(h:us.length=2):∃ u v,us=[u,v]:=by
 match us,h with
 | [u,v],_=>exact⟨u,v,rfl⟩
theorem ae {l:List (Str × NameKind)}{x:Str}{k:NameKind}(h:l.lookup x=some k):(x,k)∈l:=by
 obtain⟨a,c,e,_⟩:=List.lookup_eq_some_iff.mp h;rw[e];exact Jv.mpr (.inr (.head _))
theorem zck:LamScope ["pair","lane"] ["net"] (pf "").scope:=⟨rfl,rfl,rfl,by decide +kernel,by decide +kernel,by decide +kernel,by decide +kernel,λx a=>(show ∀ y∈(pf "").scope.names,y.2=.free->y.1∈[("net":Str)] from by decide +kernel) _ (ae a) rfl⟩
theorem cg (q:Str) {f:JI}{fd:Yl}(d:Use P w K mg base "pair_behind" ["net","pair","lane"] 4 tH f fd):LamQ CX0 P w K mg base 4 (pf q) ["net"] ["pair","lane"] vB:=by
 refine⟨zck,λvals e H Q E h=>?_,λcl k i pm j n=>by obtain⟨u,v,rfl⟩:=zar i;rfl,λcl l c A outer s H vals e Q E m g fz h=>?_⟩
 ·obtain⟨r,b,a,_,rfl,_⟩:=h
  rfl
 obtain⟨r,b,a,rfl,rfl,h⟩:=h;refine⟨_,pS d.ok g (by rfl) d.m d.kp d.b .nil jC (zA (pv 2) (zA (pv 0) (zA (pv 1) zC))),?_⟩;exact zB (zB (zB h))
theorem bA {sc:Scope}{x0:Str}{env:Env}(h:(sc.names.filter λy=>y.2 == .free)=[(x0,.free)])(k:env.kindOf x0=some .cell):∀ x,(x,NameKind.free)∈sc.names->env.kindOf x=some .cell\/env.kindOf x=some .free:=λx a=>by
 have z:(x,NameKind.free)∈sc.names.filter λy=>y.2 == .free:=List.mem_filter.mpr ⟨a,rfl⟩;rw[h]at z;obtain⟨e,_⟩:=Prod.mk.inj (Jd.mp z);exact .inl (e ▸ k)
theorem zbg {X:Cx}{x:Str}{i:Nat}(d:X.N[i]?=some x)(c:X.env.scope.names.lookup x=some .cell)(b:X.fn x=true):∀ p∈[(x,i)],X.N[p.2]?=some p.1/\X.env.scope.names.lookup p.1=some .cell/\X.fn p.1=true:=λp a=>by
 rw[Jd.mp a];exact⟨d,c,b⟩
theorem nE {cs:List (Str × JI)}{x:Str}(h:cs.map (·.1)=[x]):∃ c,cs=[(x,c)]:=by
 match cs,h with
 | [(y,c)],h=>exact⟨c,by rw[show y=x from (List.cons.inj h).1]⟩
def qV:Str:=("verdict":Str)++(".<locals>.":Str)++("<lambda>":Str)
def TellW (H:Hp)(p:JI):LRes->Prop
 | .opn=>H p=some (.tup [.str "open",.non])
 | .brk c=>∃ b,H p=some (.tup [.str "breaks",.ref b])/\H b=some (.tup (c.map V.int))
 | .whl _=>∃ b,H p=some (.tup [.str "stair",.ref b])
def qj (q:Str)(Pt:JI):Sp:=λb H Q _=>∃ r fr d c N sm,∃ (moves:List Nat) (most:Nat),b=[.ref r,.ref sm,.int (most:Nat)]/\Nt.Ok N/\NetAt H r fr d c N/\H sm=some (.tup (zW moves))/\(∀ m∈moves,m<N.lanes)/\moves.length<=16/\0<most/\most<=10000/\TabQ q Pt H /\
 ∀ p a,But Pt H a->TabQ q Pt a->TellW a p (wX N moves most)->Q (.ref p) a
theorem zaC:FnScope ["net","some","most","word","found"] ["net","some","most"] (zN oi):=by trivial
theorem li {f fC fF fB c Pt:JI}{fd dC dF dB:Yl}(F:FunC K "verdict" "verdict" oi f fd c) (CK:CodeK K mg base c Pt) (UC:Use P w K mg base "climbed" ["first","counts","moves","led","most"] 7 (qw P w K (pf qV) ["net"] vB) fC dC) (UF:Use P w K mg base "first_pair" ["net"] 2 sD fF dF)
  (UB:∀ F0,Use P w K mg base "book_of" ["levels"] 1 (kv P w F0 1) fB dB):FnOk P w K mg base CX0 8 f fd ["net","some","most"] (qj qV Pt):=by
 refine F.ok zaC (λB H Q E h=>?_) (λA outer s H B Q E hr h=>?_)
 ·obtain⟨r,fr,er,ps,N,sm,moves,most,rfl,_⟩:=h
  rfl
 obtain⟨r,fr,er,ps,N,sm,moves,most,rfl,ok,na,ao,mlt,ml,mp,mb,tab,k⟩:=h;refine⟨_,(@zH _ _ _ _ _ (@yU _ _ _ _ _ _ (dY (E:=E0) UC.ok hr (by rfl) UC.m UC.kp UC.b [("net",0)] (by decide) (zbg rfl rfl rfl) (@zA _ _ _ _ _ (@zT _ _ _ _ _ _ _ _ _ _ _ _ UF (hr.mono (by decide)) (@zA _ _ _ _ _ (@pvb _ 0 _ _ rfl) zC rfl) (by rfl) rfl rfl rfl) (@zA _ _ _ _ _ (@zQ _ _ _ _ _ _ _ _ uA (@zp _ _ _ _ _ (@zA _ _ _ _ _ zE zC rfl)) (@zZ _ _ _ _ _ _ _ yL (@pvb _ 0 _ _ rfl) zE (λ_ _=>rfl))) (@zA _ _ _ _ _ (@pvb _ 1 _ _ rfl) (@zA _ _ _ _ _ (zaT (fr:=["net"]) CK rfl rfl (bA (x0:="net") rfl rfl) rfl) (@zA _ _ _ _ _ (@pvb _ 2 _ _ rfl) zC rfl) rfl) rfl) rfl) rfl)) (@yR _ _ _ _ _ _ rfl (@zS _ _ _ _ _ (@zP _ _ 3 _ zaC.nd rfl (.inl rfl) (by trivial)) (@zS _ _ _ _ _ (@zP _ _ 4 _ zaC.nd rfl (.inl rfl) (by trivial)) yD rfl) rfl) rfl rfl) rfl rfl rfl) (@zH _ _ _ _ _ (@yX _ _ _ _ _ _ _ _ (@zy _ _ _ _ _ _ _ _ xt (@pvb _ 3 _ _ rfl) wQ (yC _)) (@zM _ _ _ (@zV _ _ _ _ (@zp _ _ _ _ _ (@zA _ _ _ _ _ wQ (@zA _ _ _ _ _ (@pS _ _ _ _ _ _ _ _ _ _ _ _ _ _ _ _ (UB N.forks.length).ok (hr.mono (by decide)) rfl (UB 0).m (UB 0).kp (UB 0).b .nil jC (@zA _ _ _ _ _ (@pvb _ 4 _ _ rfl) zC rfl) (by decide) rfl rfl) zC rfl) rfl)))) yA) (@zM _ _ _ (@zV _ _ _ _ (@zp _ _ _ _ _ (@zA _ _ _ _ _ (@pvb _ 3 _ _ rfl) (@zA _ _ _ _ _ (@pvb _ 4 _ _ rfl) zC rfl) rfl)))))),?_⟩;have a6:=ok.l16;refine zB ⟨r,fr,er,ps,N,rfl,ok,na,λb0 H1 s1 k1=>⟨by show 1<=sizeLine;decide,λt ht=>?_⟩⟩;have s2:=zD ht (.tup [.int 0]);refine zB ⟨r,_,_,_,rfl,rfl,SqT.of (s2 _ _ (s1 _ _ na.net)),rfl,t,_,N.lanes,rfl,rfl,zG,by lia,λc0 H2 s3 Z=>?_⟩;rw[nV]at Z;have U:=(s1.trans s2).trans s3;obtain⟨l,hP,tok⟩:=tab.same U;refine zB ⟨l,hP,tok,λfL cl l' H3 a4 a5 hf raw aT O kp=>?_⟩;refine zB ⟨[.ref r],rfl,λj x i v X hv=>?_,λcs G a3 T nd ca out M=>?_⟩
 ·cases j with
  | zero=>cases X;cases hv;rfl
  | succ j=>cases X
 obtain⟨a,rfl⟩:=nE a4;obtain⟨c2,rfl⟩:=nE a3;have cc:a=c2:=Jq ((a5 _ (.head _)).symm.trans (T _ (.head _)));subst cc;have b3:But Pt H H3:=λb o e n=>kp b o (U b o e) n
 have d:Same H3 G:=λb o e=>by
  rw[out b λJ=>by rw[M b J]at e;cases e];exact e
 have ab:NetAt G r fr er ps N:=(na.tups (Tups.of U)).tups λb xs e=>d _ _ (kp _ _ e (wE e hP λz=>by cases z));have y:Tups H2 G:=λb xs e=>d _ _ (kp _ _ e (wE e hP λz=>by cases z))
 have S:LamRaw G fL (pf qV) [("net",a)]:=by
  obtain⟨pm,cd,ct,oc,fs,tk,r1,r2,r3,r4⟩:=raw.ex;exact⟨pm,cd,ct,oc,fs,tk,d _ _ r1,d _ _ r2,r3,r4⟩
 have la:LamAt G fL (pf qV) [("net",a)] [.ref r]:=S.at_ ca (JT.mpr ⟨Jx,Zj⟩) (JT.mpr ⟨Jx,Zj⟩) rfl λi x c v X hv=>⟨i,X,hv⟩;have W:Way K G sm fL (pf qV) ["net"] vB [("net",a)] [.ref r] (xD N) (OkP N) moves N.lanes:=⟨.inl (y _ _ (U _ _ ao)),rfl,la,cU ok ab mlt,mlt,λs m t os _ e=>oV ok os e,by lia⟩;refine⟨b0,c0,sm,fL,_,List.replicate N.lanes 0,moves,[("net",a)],[.ref r],xD N,OkP N,N.lanes,most,rfl,(k1.tups (Tups.of (s2.trans s3))).tups y,y _ _ Z,JX,qF ok,W,by lia,ml,mp,λp D s5 tell=>?_⟩
 have a0:CellsFz [("net",a)] D:=λb J=>by
  obtain⟨o,z⟩:=ca.fz b J;exact⟨o,s5 _ _ z⟩
 replace tell:=TellR.kept tell (mY a0)
 have L:Same H3 (yc [("net",a)] D):=λb o e=>by
  rw[yP λJ=>by rw[M b J]at e;cases e];exact s5 _ _ (d _ _ e)
 have b6:But Pt H (yc [("net",a)] D):=b3.trans (But.of L);have g:TabQ qV Pt (yc [("net",a)] D):=TabQ.same ⟨l',aT,O⟩ L;show cy _ _ _ _ _ (yc [("net",a)] D) _;generalize yc [("net",a)] D=H6 at *
 have fin:∀ (q:JI) (B:List V) (R:LRes),H6 q=none->wX N moves most=R->TellW (L2.upd H6 q (.tup B)) q R->Q (.ref q) (L2.upd H6 q (.tup B)):=λq B R C e z=>by
  have I:=zD C (.tup B);refine k q _ (b6.trans (But.of I)) (g.same I) ?_;rw[e];exact z
 change TellR P w H6 p (wX N moves most) at tell
 cases u:wX N moves most with
 | opn =>
  rw[u]at tell;refine⟨p,_,rfl,SqT.of tell,rfl,_,_,rfl,_,_,rfl,rfl,?_⟩;refine zB ⟨rfl,false,JS V.bl (Jn λz=>absurd (V.str.inj z) (by decide)),yF ?_⟩
  exact zB (zB ⟨by show 2<=sizeLine;decide,λq C=>fin q _ .opn C u zG⟩)
 | brk bc =>
  rw[u]at tell;obtain⟨b,h1,h2⟩:=tell;refine⟨p,_,rfl,SqT.of h1,rfl,_,_,rfl,_,_,rfl,rfl,?_⟩;refine zB ⟨rfl,false,JS V.bl (Jn λz=>absurd (V.str.inj z) (by decide)),yF ?_⟩
  exact zB (zB ⟨by show 2<=sizeLine;decide,λq C=>fin q _ (.brk bc) C u ⟨b,zG,zD C _ _ _ h2⟩⟩)
 | whl ls =>
  rw[u]at tell;obtain⟨ll,as,h1,h2,Z⟩:=tell;refine⟨p,_,rfl,SqT.of h1,rfl,_,_,rfl,_,_,rfl,rfl,?_⟩;refine zB ⟨rfl,true,JS V.bl (Jw rfl),yZ ?_⟩;have wh:=uy (Ok:=OkP N) (moves:=moves) (λs m t os _ e=>oV ok os e) _ _ [] [] ls ⟨λlv Y=>absurd Y Jx,JN _⟩ rfl (JN _) (λp hp=>by rw[Jd.mp hp];exact qF ok) u;have wf:=wh.few;refine zB ⟨ll,as,ls,rfl,h2,Z,λlv Y=>⟨?_,λp hp=>(wh.ok lv Y p hp).st ok⟩,by lia,λq H7 I=>?_⟩
  ·have:=mV Y
   lia
  refine⟨by show 2<=sizeLine;decide,λq2 ax=>?_⟩;have s8:=zD ax (.tup [.str "stair",.ref q]);refine k q2 _ ((b6.trans (But.of I)).trans (But.of s8)) ((g.same I).same s8) ?_;rw[u];exact⟨q,zG⟩
abbrev eG:Stmt:=top 30
abbrev eC:Stmt:=top 31
abbrev lG:Stmt:=top 32
theorem scK:FnScope ["_law_left_here","_law_many","_law_digit"] ["_law_left_here","_law_many"] (zN eC):=by trivial
theorem aK {f:JI}{fd:Yl}(F:Fun K "_law_pick" "_law_pick" eC f fd):FnOk P w K mg base CX0 1 f fd ["_law_left_here","_law_many"] yu:=by
 refine F.ok scK (λy H Q E h=>?_) (λL A outer s H y Q E M h=>?_)
 ·obtain⟨l,m,rfl,_⟩:=h
  rfl
 obtain⟨l,m,rfl,g,z,S,k⟩:=h;obtain⟨a,b,c,d,r,D,C⟩:=S.ex;refine⟨_,(@zH _ _ _ _ _ (@yX _ _ _ _ _ _ _ _ (@zy _ _ _ _ _ _ _ _ qD (@zZ _ _ _ _ _ _ _ zo (@pvb _ 0 _ _ rfl) zE (λ_ _=>rfl)) zE (yC _)) (@zH _ _ _ _ _ (@zi _ _ 2 _ _ _ _ scK.nd rfl (.inl rfl) (@zQ _ _ _ _ _ _ _ _ xq (@zZ _ _ _ _ _ _ _ zo (@pvb _ 0 _ _ rfl) zE (λ_ _=>rfl)) (@pvb _ 1 _ _ rfl)) rfl (by trivial)) (@zH _ _ _ _ _ (@yU _ _ _ _ _ _ (@zQ _ _ _ _ _ _ _ _ xN (@zZ _ _ _ _ _ _ _ zo (@pvb _ 0 _ _ rfl) zE (λ_ _=>rfl)) (@pvb _ 1 _ _ rfl)) (@x9 _ _ _ _ _ _ _ (@pvb _ 0 _ _ rfl) zE y7 (by intro _;rfl)) rfl rfl rfl) (@zM _ _ _ (@zV _ _ _ _ (@pvb _ 2 _ _ rfl))))) yA) (@zH _ _ _ _ _ (@yU _ _ _ _ _ _ (@zQ _ _ _ _ _ _ _ _ yQ (@zZ _ _ _ _ _ _ _ zo (@pvb _ 0 _ _ rfl) zE (λ_ _=>rfl)) zE) (@x9 _ _ _ _ _ _ _ (@pvb _ 0 _ _ rfl) zE y7 (by intro _;rfl)) rfl rfl rfl) (@zH _ _ _ _ _ (@yU _ _ _ _ _ _ (@zQ _ _ _ _ _ _ _ _ xq (@zQ _ _ _ _ _ _ _ _ yQ (@zQ _ _ _ _ _ _ _ _ yQ (@zQ _ _ _ _ _ _ _ _ xT (@zZ _ _ _ _ _ _ _ zo (@pvb _ 0 _ _ rfl) zE (λ_ _=>rfl)) zE) zE) (@zZ _ _ _ _ _ _ _ zo (@pvb _ 0 _ _ rfl) zE (λ_ _=>rfl))) zE) (@x9 _ _ _ _ _ _ _ (@pvb _ 0 _ _ rfl) zE y7 (by intro _;rfl)) rfl rfl rfl) (@zM _ _ _ (@zV _ _ _ _ (@zQ _ _ _ _ _ _ _ _ xq (@zQ _ _ _ _ _ _ _ _ xN (@zQ _ _ _ _ _ _ _ _ xq (@zQ _ _ _ _ _ _ _ _ xT (@zZ _ _ _ _ _ _ _ zo (@pvb _ 0 _ _ rfl) zE (λ_ _=>rfl)) (@zZ _ _ _ _ _ _ _ zo (@pvb _ 0 _ _ rfl) zE (λ_ _=>rfl))) zE) zE) (@pvb _ 1 _ _ rfl))))))),?_⟩
 have fin:∀ (x:Int) (i:Hp),0<=x->x<m->Pk3 i l->But l H i->Q (.int x) i:=λx i u t G J=>by
  obtain⟨v,rfl⟩:=Int.eq_ofNat_of_zero_le u;exact k v i t G J
 refine zB ⟨l,_,_,_,rfl,rfl,SqL.of d,rfl,_,_,rfl,rfl,_,rfl,pi (λq=>?_) (λq=>?_)⟩
 ·refine zB ⟨l,_,_,_,rfl,rfl,SqL.of d,rfl,_,rfl,_,_,rfl,rfl,g,?_⟩
  refine zB ⟨l,_,_,_,rfl,rfl,SqL.of d,rfl,_,rfl,_,_,rfl,rfl,⟨g,z⟩,_,rfl,l,_,_,0,rfl,rfl,d,rfl,_,rfl,?_⟩;exact fin _ _ (Z8 _ (by lia)) (Z4 _ g) ⟨a / m,b,c,zG,Int.ediv_nonneg r (by lia),D,C⟩ λx o e ne=>by rw[zK ne];exact e
 ·refine zB ⟨l,_,_,_,rfl,rfl,SqL.of d,rfl,_,_,rfl,rfl,_,rfl,l,_,_,2,rfl,rfl,d,rfl,?_⟩
  have n:L2.upd H l (.lst ([V.int a,V.int b,V.int c].set 2 (V.int (c+1)))) l=some (.lst [.int a,.int b,.int (c+1)]):=zG;have I:But l H (L2.upd H l (.lst ([V.int a,V.int b,V.int c].set 2 (V.int (c+1))))):=λx o e ne=>by rw[zK ne];exact e
  show qh _ _ _ _ (L2.upd H l (.lst ([V.int a,V.int b,V.int c].set 2 (V.int (c+1)))));generalize L2.upd H l (.lst ([V.int a,V.int b,V.int c].set 2 (V.int (c+1))))=H1 at *;refine zB ⟨l,_,_,_,rfl,rfl,SqL.of n,rfl,_,_,rfl,rfl,.inr ⟨by decide,by decide⟩,_,_,rfl,rfl,_,rfl,l,_,_,_,rfl,rfl,SqL.of n,rfl,_,_,rfl,rfl,_,_,rfl,rfl,(by show (0:Int)<2147483647;decide),_,rfl,l,_,_,1,rfl,rfl,n,rfl,?_⟩;have B:0<=(b*48271+12345+(c+1))%2147483647:=Z8 _ (by decide);have N:(b*48271+12345+(c+1))%2147483647<2147483647:=Z4 _ (by decide);generalize p:L2.upd H1 l (HO.lst ([V.int a,V.int b,V.int (c+1)].set 1 (V.int ((b*48271+12345+(c+1))%2147483647))))=H2;have j:H2 l=some (.lst [.int a,.int ((b*48271+12345+(c+1))%2147483647),.int (c+1)]):=by rw[<- p];exact zG
  refine zB ⟨l,_,_,_,rfl,rfl,SqL.of j,rfl,_,rfl,l,_,_,_,rfl,rfl,SqL.of j,rfl,_,_,rfl,rfl,.inl ⟨by lia,by lia⟩,_,_,rfl,rfl,(by show (0:Int)<1999999973;decide),_,_,rfl,rfl,⟨by decide,by decide⟩,_,rfl,_,_,rfl,rfl,g,?_⟩;exact fin _ _ (Z8 _ (by lia)) (Z4 _ g) ⟨a,_,_,j,r,B,by lia⟩ λx o e ne=>by rw[<- p,zK ne];exact I x o e ne
theorem scL:FnScope ["_law_script","_law_k","_law_cell","_law_digits"] ["_law_script","_law_k"] (zN eG):=by trivial
theorem aP {f:JI}{fd:Yl}(F:Fun K "_law_left" "_law_left" eG f fd) (G:Mgs mg):FnOk P w K mg base CX0 1 f fd ["_law_script","_law_k"] (qo K):=by
 refine F.ok scL (λn H Q E h=>?_) (λy A outer s H n Q E I h=>?_)
 ·obtain⟨a,ns,k,rfl,_⟩:=h
  rfl
 obtain⟨a,ns,k,rfl,e,v,C,B,q⟩:=h;refine⟨_,(@zH _ _ _ _ _ (@zi _ _ 2 _ _ _ _ scL.nd rfl (.inl rfl) zE rfl (by trivial)) (@zH _ _ _ _ _ (@yX _ _ _ _ _ _ _ _ (@zy _ _ _ _ _ _ _ _ qD (@zU _ _ _ _ _ _ _ _ _ zY rfl G.len JZ (@zA _ _ _ _ _ (@pvb _ 0 _ _ rfl) zC rfl) (by decide) (by decide) rfl rfl) zE (yC _)) (@zM _ _ _ (@zi _ _ 2 _ _ _ _ scL.nd rfl (.inl rfl) (@zZ _ _ _ _ _ _ _ zo (@pvb _ 0 _ _ rfl) (@zQ _ _ _ _ _ _ _ _ xq (@pvb _ 1 _ _ rfl) (@zU _ _ _ _ _ _ _ _ _ zY rfl G.len JZ (@zA _ _ _ _ _ (@pvb _ 0 _ _ rfl) zC rfl) (by decide) (by decide) rfl rfl)) (λ_ _=>rfl)) rfl (by trivial))) yA) (@zH _ _ _ _ _ (@zi _ _ 3 _ _ _ _ scL.nd rfl (.inl rfl) (@zQ _ _ _ _ _ _ _ _ xT (@zQ _ _ _ _ _ _ _ _ xq (@zU _ _ _ _ _ _ _ _ _ rL rfl G.abs rfl (@zA _ _ _ _ _ (@pvb _ 2 _ _ rfl) zC rfl) (by decide) (by decide) rfl rfl) (@zQ _ _ _ _ _ _ _ _ vU zE zE)) (@zj _ _ _ _ _ _ _ _ _ vF rfl G.int rfl (@zA _ _ _ _ _ (@xI _ _ _ _ _ _ _ _ df (@zU _ _ _ _ _ _ _ _ _ rL rfl G.abs rfl (@zA _ _ _ _ _ (@pvb _ 2 _ _ rfl) zC rfl) (by decide) (by decide) rfl rfl) (@zQ _ _ _ _ _ _ _ _ vU zE zE) (yC _)) zC rfl) (by decide) (by decide) rfl rfl)) rfl (by trivial)) (@zM _ _ _ (@zV _ _ _ _ (@zw _ _ _ _ (@zA _ _ _ _ _ (@pvb _ 3 _ _ rfl) (@zA _ _ _ _ _ (@zQ _ _ _ _ _ _ _ _ xq (@zQ _ _ _ _ _ _ _ _ xT (@zQ _ _ _ _ _ _ _ _ yQ (@zQ _ _ _ _ _ _ _ _ yQ (@zQ _ _ _ _ _ _ _ _ xq (@pvb _ 2 _ _ rfl) zE) (@zQ _ _ _ _ _ _ _ _ xT (@zQ _ _ _ _ _ _ _ _ xT zE (@pvb _ 1 _ _ rfl)) (@pvb _ 1 _ _ rfl))) zE) zE) zE) (@zA _ _ _ _ _ zE zC rfl) rfl) rfl))))))),?_⟩;have d:(ns.map V.int).length=ns.length:=Je _;refine zb5 ?_;refine pj (λσ m=>m=H/\∃ x:Int,σ=[some (.ref a),some (.int k),some (.int x),none]) ?_ λD c _=>?_
 ·rintro σ m ⟨rfl,x,rfl⟩
  have o:=Z8 ((x%2305843009213693951+7919*k*k+11)*48271) (show (2147483647:Int)≠0 by decide);have J:=Z4 ((x%2305843009213693951+7919*k*k+11)*48271) (show (0:Int)<2147483647 by decide);have u:∀ b:Bool,(0:Int)<=(if b=true then (1:Int) else 0):=by decide
  have t:∀ b:Bool,-(2 ^ 64)<(if b=true then (1:Int) else 0)/\(if b=true then (1:Int) else 0)<2 ^ 64:=by decide
  refine zB (zR rfl ⟨_,_,rfl,rfl,⟨by decide,by decide,by decide⟩,_,_,rfl,rfl,(by show (0:Int)<10 ^ 60;decide),?_⟩);refine zB (zR rfl ⟨_,_,rfl,rfl,⟨by decide,by decide,by decide⟩,_,_,rfl,rfl,.inr (zR rfl ⟨_,_,rfl,rfl,.inr (t _),?_⟩)⟩);refine zB (zB ⟨_,_,rfl,rfl,(by show (0:Int)<2305843009213693951;decide),_,rfl,_,_,rfl,rfl,.inl ⟨by decide,by decide⟩,_,rfl,_,_,rfl,rfl,.inr ⟨by lia,by lia⟩,_,_,rfl,rfl,_,_,rfl,rfl,_,_,rfl,rfl,.inr ⟨by decide,by decide⟩,_,_,rfl,rfl,(by show (0:Int)<2147483647;decide),(by show 3<=sizeLine;decide),λl g=>?_⟩);refine q l _ g (zD g _) ⟨_,_,_,zG,Int.mul_nonneg (Z8 _ (by decide)) (u _),o,by lia⟩
 refine zB ⟨a,_,rfl,.inl e,_,_,rfl,rfl,_,rfl,pi (λz=>?_) (λz=>?_)⟩
 ·have np:0<ns.length:=by
   have:=YD z;rw[d]at this;lia
  refine zB (zB (zB ⟨a,_,rfl,.inl e,_,_,rfl,rfl,by rw[d];lia,?_⟩));have r:=Z8 k (show ((ns.length:Nat):Int)≠0 by lia);have p:=Z4 k (show (0:Int)<(ns.length:Nat) by lia);rw[d];obtain⟨j,i⟩:=Int.eq_ofNat_of_zero_le r;rw[i]at p;exact⟨a,_,k%(ns.length:Nat),_,rfl,rfl,e,(by rw[i];exact wU (by lia)),c _ _ ⟨rfl,_,rfl⟩⟩
 ·exact c _ _ ⟨rfl,0,rfl⟩
theorem zbJ:FnScope ["_law_left_here","_law_row","_law_some_here","_law_found"] ["_law_left_here","_law_row"] (zN lG):=by trivial
theorem du {f fK:JI}{fd dK:Yl}(F:Fun K "_law_mixed" "_law_mixed" lG f fd) (G:Mgs mg) (UK:Use P w K mg base "_law_pick" ["_law_left_here","_law_many"] 1 yu fK dK):FnOk P w K mg base CX0 2 f fd ["_law_left_here","_law_row"] qm:=by
 refine F.ok zbJ (λV H Q E h=>?_) (λax A outer s H V Q E R h=>?_)
 ·obtain⟨l,p,xs,rfl,_⟩:=h
  rfl
 obtain⟨l,p,xs,rfl,X,xl,S,k⟩:=h;refine⟨_,(@zH _ _ _ _ _ (@lV _ _ 2 3 _ _ _ _ _ _ _ _ _ _ _ rfl zbJ.nd rfl rfl (by decide) rfl rfl (@zA _ _ _ _ _ (@zj _ _ _ _ _ _ _ _ _ yY rfl G.list rfl (@zA _ _ _ _ _ (@pvb _ 1 _ _ rfl) zC rfl) (by decide) (by decide) rfl rfl) (@zA _ _ _ _ _ (@zw _ _ _ _ zC) zC rfl) rfl) rfl rfl) (@zH _ _ _ _ _ (@o6 _ _ _ _ _ _ Yi (@zy _ _ _ _ _ _ _ _ (de R.units0) (@pvb _ 2 _ _ rfl) (@zw _ _ _ _ zC) (yC _)) (@zM _ _ _ (@xA _ _ _ _ (@wV _ _ _ _ _ _ _ _ _ _ _ _ Y8 YJ YK yn (@pvb _ 3 _ _ rfl) (@zA _ _ _ _ _ (@wV _ _ _ _ _ _ _ _ _ _ _ _ Y8 PySem.F.slot_list_pop PySem.F.type_list_pop cI (@pvb _ 2 _ _ rfl) (@zA _ _ _ _ _ (@zT _ _ _ _ _ _ _ _ _ _ _ _ UK R (@zA _ _ _ _ _ (@pvb _ 0 _ _ rfl) (@zA _ _ _ _ _ (@zU _ _ _ _ _ _ _ _ _ zY rfl G.len JZ (@zA _ _ _ _ _ (@pvb _ 2 _ _ rfl) zC rfl) (by decide) (by decide) rfl rfl) zC rfl) rfl) rfl rfl rfl rfl) zC rfl) rfl rfl rfl rfl rfl) zC rfl) rfl rfl rfl rfl rfl) rfl))) (@zM _ _ _ (@zV _ _ _ _ (@zj _ _ _ _ _ _ _ _ _ zt rfl G.tuple rfl (@zA _ _ _ _ _ (@pvb _ 3 _ _ rfl) zC rfl) (by decide) (by decide) rfl rfl))))),?_⟩;refine zB ⟨p,_,rfl,.inl (SqL.of X),λlo u=>?_⟩;have z:=zD u (.lst xs);have y:=S.ne u;refine⟨(by show 0<=sizeLine;decide),λlt d=>?_⟩;have M:=zD d (.lst []);have x:=(S.keep z).ne d;have not:lo≠lt:=zJ zG d;have L:Frs l H lo:=λb o e _=>zJ e u;have flt:Frs l H lt:=λb o e _=>zJ (z _ _ e) d;refine⟨_,_,rfl,?_⟩
 refine⟨λm σ n=>σ=[some (.ref l),some (.ref p),some (.ref lo),some (.ref lt)]/\Pk3 n l/\But l H n/\∃ c g,n lo=some (.lst c)/\c.length=m/\n lt=some (.lst g)/\(g++c).Perm xs,
  zR rfl ⟨(S.keep z).keep M,(But.of z).trans (But.of M),xs,[],by rw[zK not];exact zG,rfl,zG,.refl _⟩,?_⟩
 rintro m σ n ⟨rfl,S3,B3,c,g,N,ul,W,pm⟩;refine zB ⟨(by show 0<=sizeLine;decide),λe Y=>?_⟩;have v:=zD Y (.lst []);refine⟨lo,e,c,rfl,rfl,SqL.of (v _ _ N),SqL.of zG,_,rfl,?_⟩;have T:=S3.keep v;have U:But l H (L2.upd n e (.lst [])):=B3.trans (But.of v);have r:=v _ _ N;have q:=v _ _ W;generalize L2.upd n e (.lst [])=H4 at *;have ao:g.length+c.length=xs.length:=by rw[<- Jc];exact pm.length_eq
 by_cases un:c=[]
 ·rw[show (!c.isEmpty)=false by rw[un];rfl]
  rw[un,Y6]at pm;refine yF (zB ⟨lt,_,rfl,.inl ⟨SqL.of q,λt O=>k t g _ pm zG (T.keep (zD O _)) (U.trans (But.of (zD O _)))⟩⟩)
 have up:0<c.length:=List.length_pos_iff.mpr un
 rw[show (!c.isEmpty)=true by cases c with
  | nil=>exact absurd rfl un
  | cons a b=>rfl]
 refine yZ ⟨_,λab H' Z=>⟨m-1,by lia,Z⟩,?_⟩;refine zB ⟨.inl ⟨rfl,_,SqL.of q⟩,_,rfl,.inl ⟨rfl,_,SqL.of r⟩,_,rfl,_,rfl,lo,_,rfl,.inl (SqL.of r),l,_,rfl,by lia,by lia,T,λj H5 hk S5 C=>?_⟩;have B:j<c.length:=by lia
 have J:=C lo _ r y.symm;have I:=C lt _ q x.symm;refine⟨lo,_,_,j,c[j],rfl,rfl,J,by lia,by lia,(ph (uj (xs:=c) (i:=j) B)).1,J7 B,?_⟩;have D:L2.upd H5 lo (.lst (c.eraseIdx j)) lt=some (.lst g):=by rw[zK not.symm];exact I
 refine⟨lt,_,_,rfl,rfl,D,by rw[JB];lia,rfl,(S5.upd y).upd x,((U.trans C).upd L).upd flt,c.eraseIdx j,g++[c[j]],by rw[zK not];exact zG,by rw[List.length_eraseIdx,Jj B];lia,zG,?_⟩;refine List.Perm.trans ?_ pm;rw[JV];refine List.Perm.append_left g ?_;exact sj c j B
abbrev ot:Stmt:=top 33
def tj (m:Nat):Sp:=λh H Q _=>∃ g f a b,h=[.ref g,.ref f]/\H g=some (.lst (zW a))/\H f=some (.lst (zW b))/\a.length=2 ^ m/\b.length=2 ^ m/\m<=8/\∀ c lf le e d,Same H d->H lf=none->d c=some (.tup [.ref lf,.ref le])->d lf=some (.lst e)->Prs d e (Bn.mergeN m a b).1->d le=some (.lst (zW (Bn.mergeN m a b).2))->Q (.ref c) d
theorem kJ (row:List Nat)(i:Nat)(h:i<=row.length):xJ (zW row) none (some (i:Int))=zW (row.take i):=by
 rw[uG _ _ (by rw[zr];exact h)];unfold zW;rw[List.map_take]
theorem kK (row:List Nat)(i:Nat)(h:i<=row.length):xJ (zW row) (some (i:Int)) none=zW (row.drop i):=by
 rw[rD _ _ (by rw[zr];exact h)];unfold zW;rw[List.map_drop]
theorem jO (off:Nat)(a:List Nat):by2 off (zW a)=zW (by2 off a):=by unfold zW;exact az _ off a
theorem cR (a b:List Nat):zW a++zW b=zW (a++b):=by unfold zW;exact(JQ ..).symm
theorem kL (row:List Nat)(i:Nat)(h:i<row.length):(zW row)[i]?=some (.int ((row.getD i 0:Nat):Int)):=by
 unfold zW;rw[JG,J7 h,Ja,J7 h];rfl
theorem vO:∀ (a b:List Nat) (j:Nat),j<a.length->j<b.length->ye (a.take (j+1)) (b.take (j+1))=ye (a.take j) (b.take j)++[a.getD j 0,b.getD j 0]
 | x::a,y::b,0,_,_=>by rw[ZM,ZM,Zi,Zi];rfl
 | x::a,y::b,j+1,ha,hb=>by
  rw[ZM,ZM,ZM,ZM];show x::y::ye (a.take (j+1)) (b.take (j+1))=x::y::(ye (a.take j) (b.take j)++[a.getD j 0,b.getD j 0]);rw[vO a b j (by simpa using ha) (by simpa using hb)]
theorem oK {a b:List Nat}{j:Nat}(ha:j<a.length)(hb:j<b.length):(a.zip b).take (j+1)=(a.zip b).take j++[(a.getD j 0,b.getD j 0)]:=by
 rw[Yk (by rw[ZU];lia),List.getElem_zip,Ja,J7 ha,Ja,J7 hb];rfl
theorem pW {a:List Nat}{j:Nat}{x:V}(h:(zW a)[j]?=some x):j<a.length/\x=.int ((a.getD j 0:Nat):Int):=by
 have b:j<a.length:=by rw[<- zr a];exact(Jb.mp h).1
 rw[kL a j b]at h;exact⟨b,(Jq h).symm⟩
theorem oh:FnScope ["_law_one","_law_other","_law_forks","_law_first","_law_more","_law_second","_law_ends_here","_law_x","_law_y"] ["_law_one","_law_other"] (zN ot):=by trivial
theorem nH {f:JI}{fd:Yl}(F:Fun K "_law_merger" "_law_merger" ot f fd) (G:Mgs mg) (bS:Binds K fd ["_law_one","_law_other"] []) (mS:mg "_law_merger" = some (.ref f)) (n:Nat)
  (GS:FnOk P w K mg base CX0 n f fd ["_law_one","_law_other"] (λvs H Q E=>∃ m,n=m+1/\tj m vs H Q E)):FnOk P w K mg base CX0 (n+1) f fd ["_law_one","_law_other"] (tj n):=by
 have UT:Use P w K mg base "_law_merger" ["_law_one","_law_other"] n (λvs H Q E=>∃ m,n=m+1/\tj m vs H Q E) f fd:=⟨GS,bS,F.kp,mS⟩;refine F.ok oh (λvs H Q E h=>?_) (λcP A outer s H vs Q E hr h=>?_)
 ·obtain⟨J,S,a,b,rfl,_⟩:=h
  rfl
 obtain⟨J,S,a,b,rfl,h1,h2,al,bl,bu,k⟩:=h;refine⟨_,(@zH _ _ _ _ _ (@yX _ _ _ _ _ _ _ _ (@zy _ _ _ _ _ _ _ _ xt (@zU _ _ _ _ _ _ _ _ _ zY rfl G.len JZ (@zA _ _ _ _ _ (@pvb _ 0 _ _ rfl) zC rfl) (by decide) (by decide) rfl rfl) zE (yC _)) (@zM _ _ _ (@zV _ _ _ _ (@zp _ _ _ _ _ (@zA _ _ _ _ _ (@zw _ _ _ _ (@zA _ _ _ _ _ (@zp _ _ _ _ _ (@zA _ _ _ _ _ (@zZ _ _ _ _ _ _ _ zo (@pvb _ 0 _ _ rfl) zE (λ_ _=>rfl)) (@zA _ _ _ _ _ (@zZ _ _ _ _ _ _ _ zo (@pvb _ 1 _ _ rfl) zE (λ_ _=>rfl)) zC rfl) rfl)) zC rfl)) (@zA _ _ _ _ _ (@zw _ _ _ _ (@zA _ _ _ _ _ (@zZ _ _ _ _ _ _ _ zo (@pvb _ 0 _ _ rfl) zE (λ_ _=>rfl)) (@zA _ _ _ _ _ (@zZ _ _ _ _ _ _ _ zo (@pvb _ 1 _ _ rfl) zE (λ_ _=>rfl)) zC rfl) rfl)) zC rfl) rfl)))) yA) (@zH _ _ _ _ _ (@yU _ _ _ _ _ _ (@zT _ _ _ _ _ _ _ _ _ _ _ _ UT hr (@zA _ _ _ _ _ (@pT _ _ _ _ _ _ _ _ _ (@pvb _ 0 _ _ rfl) yN (@zu _ _ _ zE)) (@zA _ _ _ _ _ (@pT _ _ _ _ _ _ _ _ _ (@pvb _ 1 _ _ rfl) (@zu _ _ _ zE) (@zu _ _ _ zE)) zC rfl) rfl) rfl rfl rfl rfl) (@yR _ _ _ _ _ _ rfl (@zS _ _ _ _ _ (@zP _ _ 2 _ oh.nd rfl (.inl rfl) (by trivial)) (@zS _ _ _ _ _ (@zP _ _ 3 _ oh.nd rfl (.inl rfl) (by trivial)) yD rfl) rfl) rfl rfl) rfl rfl rfl) (@zH _ _ _ _ _ (@yU _ _ _ _ _ _ (@zT _ _ _ _ _ _ _ _ _ _ _ _ UT hr (@zA _ _ _ _ _ (@pT _ _ _ _ _ _ _ _ _ (@pvb _ 0 _ _ rfl) (@zu _ _ _ zE) (@zu _ _ _ zE)) (@zA _ _ _ _ _ (@pT _ _ _ _ _ _ _ _ _ (@pvb _ 1 _ _ rfl) yN (@zu _ _ _ zE)) zC rfl) rfl) rfl rfl rfl rfl) (@yR _ _ _ _ _ _ rfl (@zS _ _ _ _ _ (@zP _ _ 4 _ oh.nd rfl (.inl rfl) (by trivial)) (@zS _ _ _ _ _ (@zP _ _ 5 _ oh.nd rfl (.inl rfl) (by trivial)) yD rfl) rfl) rfl rfl) rfl rfl rfl) (@zH _ _ _ _ _ (@lV _ _ 2 6 _ _ _ _ _ _ _ _ _ _ _ rfl oh.nd rfl rfl (by decide) rfl rfl (@zA _ _ _ _ _ (@zQ _ _ _ _ _ _ _ _ wA (@pvb _ 2 _ _ rfl) (@pvb _ 4 _ _ rfl)) (@zA _ _ _ _ _ (@zw _ _ _ _ zC) zC rfl) rfl) rfl rfl) (@zH _ _ _ _ _ (@xH _ _ _ _ _ _ _ _ Yi rfl (@e7 _ _ _ _ _ _ _ _ _ true true rfl G.zip (@zA _ _ _ _ _ (@pvb _ 3 _ _ rfl) (@zA _ _ _ _ _ (@pvb _ 5 _ _ rfl) zC rfl) rfl) rfl rfl) (@yR _ _ _ _ _ _ rfl (@zS _ _ _ _ _ (@zP _ _ 7 _ oh.nd rfl (.inl rfl) (by trivial)) (@zS _ _ _ _ _ (@zP _ _ 8 _ oh.nd rfl (.inl rfl) (by trivial)) yD rfl) rfl) rfl rfl) (@zH _ _ _ _ _ (@xA _ _ _ _ (@wV _ _ _ _ _ _ _ _ _ _ _ _ Y8 YJ YK yn (@pvb _ 2 _ _ rfl) (@zA _ _ _ _ _ (@zp _ _ _ _ _ (@zA _ _ _ _ _ (@pvb _ 7 _ _ rfl) (@zA _ _ _ _ _ (@pvb _ 8 _ _ rfl) zC rfl) rfl)) zC rfl) rfl rfl rfl rfl rfl) rfl) (@zM _ _ _ (@xA _ _ _ _ (@wV _ _ _ _ _ _ _ _ _ _ _ _ Y8 PySem.F.slot_list_extend PySem.F.type_list_extend uU (@pvb _ 6 _ _ rfl) (@zA _ _ _ _ _ (@zw _ _ _ _ (@zA _ _ _ _ _ (@pvb _ 7 _ _ rfl) (@zA _ _ _ _ _ (@pvb _ 8 _ _ rfl) zC rfl) rfl)) zC rfl) rfl rfl rfl rfl rfl) rfl))) (by intro _;rfl)) (@zM _ _ _ (@zV _ _ _ _ (@zp _ _ _ _ _ (@zA _ _ _ _ _ (@pvb _ 2 _ _ rfl) (@zA _ _ _ _ _ (@pvb _ 6 _ _ rfl) zC rfl) rfl))))))))),?_⟩;have na:=zr a;have nb:=zr b;have p8:2 ^ n<=2 ^ 8:=Zc (by decide) bu;have e8:2 ^ 8=256:=rfl;refine zB ⟨J,_,rfl,.inl (SqL.of h1),rfl,_,rfl,?_⟩
 cases n with
 | zero =>
  have a9:a.length=1:=al;have cx:b.length=1:=bl;rw[Jw (show V.int (((zW a).length:Nat):Int)=V.int 1 by rw[na,a9];rfl)];obtain⟨x,rfl⟩:=List.length_eq_one_iff.mp a9;obtain⟨y,rfl⟩:=List.length_eq_one_iff.mp cx;refine yZ (zB ⟨J,_,0,_,rfl,rfl,SqL.of h1,rfl,_,rfl,S,_,0,_,rfl,rfl,SqL.of h2,rfl,(by show 2<=sizeLine;decide),λt ht=>⟨(by show 1<=sizeLine;decide),λlf hf=>?_⟩⟩);have Y:=zD ht (.tup [.int x,.int y]);have X:=zD hf (.lst [.ref t]);have u2:=Y.trans X;refine zB ⟨J,_,0,_,rfl,rfl,SqL.of (u2 _ _ h1),rfl,_,rfl,S,_,0,_,rfl,rfl,SqL.of (u2 _ _ h2),rfl,(by show 2<=sizeLine;decide),λle he=>⟨(by show 2<=sizeLine;decide),λc hc=>?_⟩⟩;have W:=zD he (.lst [.int x,.int y]);have I:=zD hc (.tup [.ref lf,.ref le])
  exact k c lf le [.ref t] _ ((u2.trans W).trans I) (wm Y hf) (zX hc _) (I _ _ (W _ _ (zX hf _))) ⟨⟨t,rfl,I _ _ (W _ _ (X _ _ (zX ht _)))⟩,trivial⟩ (I _ _ (zX he _))
 | succ m =>
  obtain⟨a0,a1⟩:=uI al;obtain⟨b0,b1⟩:=uI bl;have pw:2 ^ (m+1)=2 ^ m*2:=ZH ..;have p0:=ZX (n:=m);rw[Jn (show ¬ V.int (((zW a).length:Nat):Int)=V.int 1 by intro z;injection z with z;lia)];refine yF ?_;dsimp only[fU];refine zv (λD1 cf=>?_);refine zB ⟨2,rfl,rfl,0,J,_,.inl ⟨rfl,rfl⟩,rfl,SqL.of h1,λq1 a6=>?_⟩;rw[jO];have Y:=zD a6 (.lst (zW (by2 0 a)));refine zB ⟨1,rfl,2,rfl,rfl,1,S,_,.inr ⟨rfl,rfl⟩,rfl,SqL.of (Y _ _ h2),λq2 a5=>?_⟩;rw[jO];have X:=zD a5 (.lst (zW (by2 1 b)));refine⟨m,rfl,q1,q2,by2 0 a,by2 1 b,rfl,X _ _ (zX a6 _),zX a5 _,a0,b1,by lia,λc3 bB i M H3 W _ b9 b6 ax b7=>?_⟩;have u3:=(Y.trans X).trans W;refine⟨c3,_,rfl,SqT.of b9,rfl,_,_,rfl,_,_,rfl,rfl,cf _ _ ?_⟩;refine zv (λD2 cc=>?_);refine zB ⟨1,rfl,2,rfl,rfl,1,J,_,.inr ⟨rfl,rfl⟩,rfl,SqL.of (u3 _ _ h1),λq4 a4=>?_⟩;rw[jO];have I:=zD a4 (.lst (zW (by2 1 a)));refine zB ⟨2,rfl,rfl,0,S,_,.inl ⟨rfl,rfl⟩,rfl,SqL.of (I _ _ (u3 _ _ h2)),λq5 a3=>?_⟩;rw[jO];have s5:=zD a3 (.lst (zW (by2 0 b)));refine⟨m,rfl,q4,q5,by2 1 a,by2 0 b,rfl,s5 _ _ (zX a4 _),zX a3 _,a1,b0,by lia,λc6 aT g L H6 s6 _ b8 b5 ao O=>?_⟩;have u6:=(I.trans s5).trans s6;refine⟨c6,_,rfl,SqT.of b8,rfl,_,_,rfl,_,_,rfl,rfl,cc _ _ ?_⟩;refine zv (λD3 cb=>?_);obtain⟨xl,xf⟩:=xY m _ _ a0 b1;obtain⟨yl,yf⟩:=xY m _ _ a1 b0;have bd:=(vk m (by lia)).2;have cH:=ax.len;have cz:=ao.len;have N:=u3.trans u6;have B:=u6 _ _ b7;refine zB (zB ⟨bB,aT,_,_,rfl,rfl,u6 _ _ b6,b5,by rw[JB];lia,λd p=>⟨(by show 0<=sizeLine;decide),λu l=>⟨_,_,rfl,cb _ _ ?_⟩⟩⟩);have D:=zD p (.lst (M++L));have U:=zD l (.lst []);have a8:d≠u:=zJ (zX p (.lst (M++L))) l;have bc:=(Prs.app (ax.tups (Tups.of u6)) ao).tups (Tups.of (D.trans U));have a7:H d=none:=wm N p;have b4:H u=none:=wm (N.trans D) l;generalize hF:(Bn.mergeN m (by2 0 a) (by2 1 b)).2=fst at *;generalize hS:(Bn.mergeN m (by2 1 a) (by2 0 b)).2=snd at *;have e3:=U _ _ (D _ _ B);have e6:=U _ _ (D _ _ O);have n3:i≠d:=zJ B p;have n6:g≠d:=zJ O p;have bt:i≠u:=zJ (D _ _ B) l;have bo:g≠u:=zJ (D _ _ O) l;refine zB (zB ⟨i,g,_,_,rfl,SqL.of e3,SqL.of e6,?_⟩);refine jX (K:=K) (b1:=true) (b2:=true) (a1:=i) (a2:=g) (xs:=zW fst) (ys:=zW snd) (by rw[zr,zr,xl,yl]) (λj σ C=>(∃ v7 v8,σ=[some (.ref J),some (.ref S),some (.ref d),some (.ref i),some (.ref aT),some (.ref g),some (.ref u),v7,v8])/\Same H C/\C i=some (.lst (zW fst))/\C g=some (.lst (zW snd))/\(∃ r,C d=some (.lst r)/\Prs C r ((Bn.mergeN m (by2 0 a) (by2 1 b)).1++(Bn.mergeN m (by2 1 a) (by2 0 b)).1++(fst.zip snd).take j))/\C u=some (.lst (zW (ye (fst.take j) (snd.take j))))) ?_ (λj σ C _ z=>⟨SqL.of z.2.2.1,SqL.of z.2.2.2.1⟩) ?_ ?_
  ·refine⟨⟨_,_,rfl⟩,(N.trans D).trans U,e3,e6,⟨M++L,U _ _ (zX p _),?_⟩,zX l _⟩
   rw[Zi,Y6];exact bc
  ·rintro j x y T σ C hx hy hT ⟨⟨v7,v8,rfl⟩,s9,e3,e6,⟨r,h7,v⟩,h8⟩
   obtain⟨j1,rfl⟩:=pW hx;obtain⟨j2,rfl⟩:=pW hy;have pl:=v.len;rw[Jc,Jc,Jt,ZU]at pl;have sT:=zD hT (.tup [.int ((fst.getD j 0:Nat):Int),.int ((snd.getD j 0:Nat):Int)]);refine⟨T,_,rfl,SqT.of zG,rfl,_,_,rfl,_,_,rfl,rfl,?_⟩;refine zB ⟨.inl ⟨rfl,_,SqL.of (sT _ _ h7)⟩,_,rfl,_,rfl,(by show 2<=sizeLine;decide),λt ht=>?_⟩;have st:=zD ht (.tup [.int ((fst.getD j 0:Nat):Int),.int ((snd.getD j 0:Nat):Int)]);have ut:=sT.trans st;refine⟨d,r,_,rfl,rfl,ut _ _ h7,by rw[JB];lia,?_⟩;have b3:=zX ht (.tup [.int ((fst.getD j 0:Nat):Int),.int ((snd.getD j 0:Nat):Int)]);have cn:=ut _ _ h7;have ck:=ut _ _ h8;have ct:=ut _ _ e3;have cp:=ut _ _ e6;have ba:=s9.trans ut;have ab:=v.tups (Tups.of ut);generalize L2.upd (L2.upd C T (.tup [.int ((fst.getD j 0:Nat):Int),.int ((snd.getD j 0:Nat):Int)])) t (.tup [.int ((fst.getD j 0:Nat):Int),.int ((snd.getD j 0:Nat):Int)])=H9 at *;have tq:=Tups.lst (ys:=r++[.ref t]) cn;have R:L2.upd H9 d (.lst (r++[.ref t])) u=some (.lst (zW (ye (fst.take j) (snd.take j)))):=by rw[zK a8.symm];exact ck
   refine zB ⟨.inl ⟨rfl,_,SqL.of R⟩,_,rfl,_,rfl,(by show 2<=sizeLine;decide),λq hq=>?_⟩;have sq:=zD hq (.lst [.int ((fst.getD j 0:Nat):Int),.int ((snd.getD j 0:Nat):Int)]);have tl:=xc (fst.take j) (snd.take j) (by rw[Jt,Jt];lia);rw[Jt]at tl;refine⟨u,q,_,_,rfl,rfl,sq _ _ R,zX hq _,by rw[zr,JB,tl];show _+2<=_;lia,?_⟩;have Z:∀ {c:JI}{o:HO},L2.upd H9 d (.lst (r++[.ref t])) c=some o->c≠u->L2.upd (L2.upd (L2.upd H9 d (.lst (r++[.ref t]))) q (.lst [.int ((fst.getD j 0:Nat):Int),.int ((snd.getD j 0:Nat):Int)])) u (.lst (zW (ye (fst.take j) (snd.take j))++[.int ((fst.getD j 0:Nat):Int),.int ((snd.getD j 0:Nat):Int)])) c=some o:=λe ne=>by rw[zK ne];exact sq _ _ e
   refine⟨⟨_,_,rfl⟩,λc o e=>Z (by rw[zK (zJ e a7)];exact ba c o e) (zJ e b4),Z (by rw[zK n3];exact ct) bt,Z (by rw[zK n6];exact cp) bo,⟨r++[.ref t],Z zG a8,?_⟩,?_⟩
   ·rw[oK j1 j2,<- JV]
    have tz:Tups (L2.upd H9 d (.lst (r++[.ref t]))) _:=λc xs e=>Z e (wE e R (λz=>by cases z));exact(Prs.add (f:=(fst.getD j 0,snd.getD j 0)) (tq _ _ b3) (ab.tups tq)).tups tz
   ·rw[vO fst snd j j1 j2]
    have e:zW (ye (fst.take j) (snd.take j)++[fst.getD j 0,snd.getD j 0])=zW (ye (fst.take j) (snd.take j))++[.int ((fst.getD j 0:Nat):Int),.int ((snd.getD j 0:Nat):Int)]:=by rw[<- cR];rfl
    rw[e];exact zG
  ·rintro σ C ⟨⟨v7,v8,rfl⟩,s9,e3,e6,⟨r,h7,v⟩,h8⟩
   refine zB (zB ⟨(by show 2<=sizeLine;decide),λc hc=>?_⟩);have sc:=zD hc (.tup [.ref d,.ref u]);have eN:Bn.mergeN (m+1) a b=((Bn.mergeN m (by2 0 a) (by2 1 b)).1++(Bn.mergeN m (by2 1 a) (by2 0 b)).1++fst.zip snd,ye fst snd):=by rw[<- hF,<- hS];rfl
   refine k c d u r _ (s9.trans sc) a7 (zX hc _) (sc _ _ h7) ?_ ?_
   ·rw[eN]
    rw[JC (by rw[zr,ZU];simp_all)]at v;exact v.tups (Tups.of sc)
   ·rw[eN]
    rw[JC (by rw[zr];exact Jf _),JC (by rw[zr];simp_all)]at h8;exact sc _ _ h8
theorem jH {f:JI}{fd:Yl}(F:Fun K "_law_merger" "_law_merger" ot f fd) (G:Mgs mg) (b:Binds K fd ["_law_one","_law_other"] []) (a:mg "_law_merger" = some (.ref f)):∀ n:Nat,FnOk P w K mg base CX0 (n+1) f fd ["_law_one","_law_other"] (tj n)
 | 0=>nH F G b a 0 ⟨λvs H Q E ⟨m,h,_⟩=>by simp_all,λA outer s H args us vs Q E _ _ _ _ ⟨m,h,_⟩=>by simp_all⟩
 | m+1=>nH F G b a (m+1) ((jH F G b a m).imp λvs H Q E ⟨c,h,q⟩=>by cases h;exact q)
abbrev wZ:Sp:=λa H Q E=>∃ m,m<=4/\tj m a H Q E
theorem iX {f:JI}{fd:Yl}(F:Fun K "_law_merger" "_law_merger" ot f fd) (G:Mgs mg) (b:Binds K fd ["_law_one","_law_other"] []) (a:mg "_law_merger" = some (.ref f)):FnOk P w K mg base CX0 5 f fd ["_law_one","_law_other"] wZ :=
 FnOk.any 4 λm c=>(jH F G b a m).mono (by simp_all)
abbrev eK:Stmt:=top 38
structure Few (l f:Nat) (N:Nt):Prop where
 ok:N.Ok
 ln:N.lanes<=l
 fk:N.forks.length<=f
def mt:Sp:=λb H Q _=>∃ l:JI,b=[.ref l]/\Pk3 H l/\∀ r fr d c N a,Few 6 8 N->NetAt a r fr d c N->Pk3 a l->But l H a->Q (.ref r) a
def FkOk (H:Hp)(lanes:Nat)(x:V):Prop:=∃ a g,x=.ref a/\H a=some (.tup [.int ((g:Nat × Nat).1:Nat),.int ((g.2:Nat))])/\g.1<lanes/\g.2<lanes/\g.1≠g.2
theorem FkOk.tups {H H':Hp}(t:Tups H H'){lanes:Nat}{x:V}(h:FkOk H lanes x):FkOk H' lanes x:=by
 obtain⟨a,g,e,c,b⟩:=h;exact⟨a,g,e,t _ _ c,b⟩
theorem lB:FnScope ["_law_left_here","_law_lanes","_law_forks","_law_k","_law_a","_law_b","_law_ends_here"] ["_law_left_here"] (zN eK):=by trivial
theorem aU {f fK fX:JI}{fd dK dX:Yl}(F:Fun K "_law_any" "_law_any" eK f fd) (G:Mgs mg) (UK:Use P w K mg base "_law_pick" ["_law_left_here","_law_many"] 1 yu fK dK) (UX:Use P w K mg base "_law_mixed" ["_law_left_here","_law_row"] 2 qm fX dX):FnOk P w K mg base CX0 3 f fd ["_law_left_here"] mt:=by
 refine F.ok lB (λvs H Q E h=>?_) (λb3 A outer s H vs Q E hr h=>?_)
 ·obtain⟨l,rfl,_⟩:=h
  rfl
 obtain⟨l,rfl,S,k⟩:=h;have B:Room 1 _:=hr.mono (by decide);refine⟨_,(@zH _ _ _ _ _ (@zi _ _ 1 _ _ _ _ lB.nd rfl (.inl rfl) (@zZ _ _ _ _ _ _ _ zo (@zw _ _ _ _ (@zA _ _ _ _ _ zE (@zA _ _ _ _ _ zE (@zA _ _ _ _ _ zE (@zA _ _ _ _ _ zE (@zA _ _ _ _ _ zE (@zA _ _ _ _ _ zE (@zA _ _ _ _ _ zE (@zA _ _ _ _ _ zE zC rfl) rfl) rfl) rfl) rfl) rfl) rfl) rfl)) (@zT _ _ _ _ _ _ _ _ _ _ _ _ UK B (@zA _ _ _ _ _ (@pvb _ 0 _ _ rfl) (@zA _ _ _ _ _ zE zC rfl) rfl) rfl rfl rfl rfl) (λ_ _=>rfl)) rfl (by trivial)) (@zH _ _ _ _ _ (@zi _ _ 2 _ _ _ _ lB.nd rfl (.inl rfl) (@zw _ _ _ _ zC) rfl (by trivial)) (@zH _ _ _ _ _ (@xH _ _ _ _ _ _ _ _ Yi rfl (@yw _ _ _ _ _ _ rfl G.range (@zA _ _ _ _ _ (@zQ _ _ _ _ _ _ _ _ xT (@zZ _ _ _ _ _ _ _ zo (@zw _ _ _ _ (@zA _ _ _ _ _ zE (@zA _ _ _ _ _ zE (@zA _ _ _ _ _ zE (@zA _ _ _ _ _ zE (@zA _ _ _ _ _ zE (@zA _ _ _ _ _ zE (@zA _ _ _ _ _ zE (@zA _ _ _ _ _ zE zC rfl) rfl) rfl) rfl) rfl) rfl) rfl) rfl)) (@zT _ _ _ _ _ _ _ _ _ _ _ _ UK B (@zA _ _ _ _ _ (@pvb _ 0 _ _ rfl) (@zA _ _ _ _ _ zE zC rfl) rfl) rfl rfl rfl rfl) (λ_ _=>rfl)) (@zj _ _ _ _ _ _ _ _ _ vF rfl G.int rfl (@zA _ _ _ _ _ (@xI _ _ _ _ _ _ _ _ qD (@pvb _ 1 _ _ rfl) zE (yC _)) zC rfl) (by decide) (by decide) rfl rfl)) zC rfl) rfl) (@zP _ _ 3 _ lB.nd rfl (.inl rfl) (by trivial)) (@zH _ _ _ _ _ (@zi _ _ 4 _ _ _ _ lB.nd rfl (.inl rfl) (@zT _ _ _ _ _ _ _ _ _ _ _ _ UK B (@zA _ _ _ _ _ (@pvb _ 0 _ _ rfl) (@zA _ _ _ _ _ (@pvb _ 1 _ _ rfl) zC rfl) rfl) rfl rfl rfl rfl) rfl (by trivial)) (@zH _ _ _ _ _ (@zi _ _ 5 _ _ _ _ lB.nd rfl (.inl rfl) (@zQ _ _ _ _ _ _ _ _ xq (@zQ _ _ _ _ _ _ _ _ yQ (@zQ _ _ _ _ _ _ _ _ yQ (@pvb _ 4 _ _ rfl) zE) (@zT _ _ _ _ _ _ _ _ _ _ _ _ UK B (@zA _ _ _ _ _ (@pvb _ 0 _ _ rfl) (@zA _ _ _ _ _ (@zQ _ _ _ _ _ _ _ _ wR (@pvb _ 1 _ _ rfl) zE) zC rfl) rfl) rfl rfl rfl rfl)) (@pvb _ 1 _ _ rfl)) rfl (by trivial)) (@zM _ _ _ (@xA _ _ _ _ (@wV _ _ _ _ _ _ _ _ _ _ _ _ Y8 YJ YK yn (@pvb _ 2 _ _ rfl) (@zA _ _ _ _ _ (@zZ _ _ _ _ _ _ _ zo (@zw _ _ _ _ (@zA _ _ _ _ _ (@zp _ _ _ _ _ (@zA _ _ _ _ _ (@pvb _ 4 _ _ rfl) (@zA _ _ _ _ _ (@pvb _ 5 _ _ rfl) zC rfl) rfl)) (@zA _ _ _ _ _ (@zp _ _ _ _ _ (@zA _ _ _ _ _ (@pvb _ 4 _ _ rfl) (@zA _ _ _ _ _ (@pvb _ 5 _ _ rfl) zC rfl) rfl)) (@zA _ _ _ _ _ (@zZ _ _ _ _ _ _ _ zo (@zQ _ _ _ _ _ _ _ _ wA (@pvb _ 2 _ _ rfl) (@zw _ _ _ _ (@zA _ _ _ _ _ (@zp _ _ _ _ _ (@zA _ _ _ _ _ (@pvb _ 4 _ _ rfl) (@zA _ _ _ _ _ (@pvb _ 5 _ _ rfl) zC rfl) rfl)) zC rfl))) zE (λ_ _=>rfl)) zC rfl) rfl) rfl)) (@zT _ _ _ _ _ _ _ _ _ _ _ _ UK B (@zA _ _ _ _ _ (@pvb _ 0 _ _ rfl) (@zA _ _ _ _ _ zE zC rfl) rfl) rfl rfl rfl rfl) (λ_ _=>rfl)) zC rfl) rfl rfl rfl rfl rfl) rfl)))) (by intro _;rfl)) (@zH _ _ _ _ _ (@zi _ _ 6 _ _ _ _ lB.nd rfl (.inl rfl) (@zZ _ _ _ _ _ _ _ zo (@zw _ _ _ _ (@zA _ _ _ _ _ (@uS _ _ _ _ _ _ _ rfl rfl G.tuple rfl G.range (@zA _ _ _ _ _ (@pvb _ 1 _ _ rfl) zC rfl) rfl rfl) (@zA _ _ _ _ _ (@zT _ _ _ _ _ _ _ _ _ _ _ _ UX hr (@zA _ _ _ _ _ (@pvb _ 0 _ _ rfl) (@zA _ _ _ _ _ (@qC _ _ _ _ _ _ _ rfl rfl G.list rfl G.range (@zA _ _ _ _ _ (@pvb _ 1 _ _ rfl) zC rfl) rfl rfl) zC rfl) rfl) rfl rfl rfl rfl) zC rfl) rfl)) (@zT _ _ _ _ _ _ _ _ _ _ _ _ UK B (@zA _ _ _ _ _ (@pvb _ 0 _ _ rfl) (@zA _ _ _ _ _ zE zC rfl) rfl) rfl rfl rfl rfl) (λ_ _=>rfl)) rfl (by trivial)) (@zM _ _ _ (@zV _ _ _ _ (@zp _ _ _ _ _ (@zA _ _ _ _ _ (@pvb _ 1 _ _ rfl) (@zA _ _ _ _ _ (@zj _ _ _ _ _ _ _ _ _ zt rfl G.tuple rfl (@zA _ _ _ _ _ (@pvb _ 2 _ _ rfl) zC rfl) (by decide) (by decide) rfl rfl) (@zA _ _ _ _ _ (@pvb _ 6 _ _ rfl) zC rfl) rfl) rfl)))))))),?_⟩;refine zv (λD1 bc=>?_);refine⟨(by show 8<=sizeLine;decide),λt C=>zB ⟨l,8,rfl,by decide,by decide,S.keep (zD C _),λv H1 hv S1 B1=>?_⟩⟩;obtain⟨lanes,lm,la⟩:=tK (xs:=[1,2,2,3,4,3,4,6]) (v:=v) (by show v<8;lia);have lb:1<=lanes/\lanes<=6:=(show ∀ n∈[1,2,2,3,4,3,4,6],1<=n/\n<=6 by decide) lanes lm;obtain⟨l1,l6⟩:=lb;refine⟨t,_,_,_,rfl,rfl,SqL.of (B1 t _ (zX C _) (S.ne C).symm),la,bc _ _ ?_⟩;have a5:But l H H1:=(But.of (zD C _)).trans B1;clear C B1 la lm;refine zv (λD2 ba=>?_);refine⟨(by show 0<=sizeLine;decide),λlf D=>ba _ _ ?_⟩;have o:=S1.ne D;have sf:=zD D (.lst []);have bt:Frs l H lf:=a5.frs D;refine⟨(by show 8<=sizeLine;decide),λt C=>zB ⟨l,8,rfl,by decide,by decide,(S1.keep sf).keep (zD C _),λv2 X b2 W Z=>?_⟩⟩;obtain⟨many,mm,ma⟩:=tK (xs:=[0,1,2,3,4,5,6,8]) (v:=v2) (by show v2<8;lia);have mb:many<=8:=(show ∀ n∈[0,1,2,3,4,5,6,8],n<=8 by decide) many mm;refine⟨t,_,_,_,rfl,rfl,SqL.of (Z t _ (zX C _) ((S1.keep sf).ne C).symm),ma,?_⟩;have a7:=Z lf _ (zD C _ _ _ (zX D (.lst []))) o.symm;have b0:But l H X:=((a5.trans (But.of sf)).trans (But.of (zD C _))).trans Z;clear C Z ma mm D sf;refine zB ⟨_,_,rfl,rfl,.inr (zR rfl ⟨_,_,rfl,rfl,.inl ⟨by lia,by lia⟩,?_⟩)⟩
 have cb:((many:Int)*(if decide ((1:Int)<lanes)=true then 1 else 0))=((if 1<lanes then many else 0:Nat):Int):=by
  by_cases z:1<lanes
  ·rw[Jj (Jw (by lia)),Jj z];lia
  ·rw[Jg (by rw[Jn (by lia)];exact Jm),Jg z];lia
 have cl:(if 1<lanes then many else 0)<=8:=by split<;>lia
 refine zR rfl ⟨by rw[cb];lia,by rw[cb];lia,?_⟩;rw[cb];generalize ao:(if 1<lanes then many else 0)=cnt at cl
 refine wH (lo:=0) (n:=((cnt:Nat):Int).toNat) (λi σ X=>(∃ w3 w4 w5 w6,σ=[some (.ref l),some (.int (lanes:Nat)),some (.ref lf),w3,w4,w5,w6])/\Pk3 X l/\But l H X/\∃ m fs,X lf=some (.lst m)/\Prs X m fs/\fs.length=i/\∀ f∈fs,f.1<lanes/\f.2<lanes/\f.1≠f.2)
  ⟨⟨_,_,_,_,rfl⟩,W,b0,[],[],a7,trivial,rfl,λf hf=>by simp at hf⟩ ?_ ?_
 ·rintro i σ X hi ⟨⟨w3,w4,w5,w6,rfl⟩,W,Z,m,fs,h2,p2,fl,R⟩
  have l2:1<lanes:=by
   by_cases z:1<lanes
   ·exact z
   ·rw[Jg z]at ao;lia
  refine jw (λD0 bo=>?_);refine zv (λD4 a9=>?_);refine zB (zB ⟨l,lanes,rfl,by lia,by lia,W,λone H3 ho S3 Y=>a9 _ _ ?_⟩);refine zv (λD5 a8=>?_);refine zB ⟨_,_,rfl,rfl,_,rfl,_,rfl,_,_,rfl,rfl,l,_,rfl,by lia,by lia,S3,λd H4 hd S4 B4=>?_⟩;refine⟨_,_,rfl,rfl,_,rfl,_,_,rfl,rfl,by lia,a8 _ _ ?_⟩;have q:one<lanes:=by lia
  obtain⟨N,M⟩:=da (one:=one) (d:=d) (lanes:=lanes) q (by lia);have ec:((one:Int)+1+d)%lanes=(((one+1+d)%lanes:Nat):Int):=by rw[Int.natCast_emod,Int.natCast_add,Int.natCast_add];rfl
  dsimp only;rw[ec];generalize (one+1+d)%lanes=b at N M;have h4:=B4 lf _ (Y lf _ h2 o.symm) o.symm;have p4:=p2.tups ((Y.tups3 W).trans (B4.tups3 S3));have bB:But l H H4:=(Z.trans Y).trans B4;have pl:=p4.len;refine zB ⟨.inl ⟨rfl,_,SqL.of h4⟩,_,rfl,_,rfl,(by show 2<=sizeLine;decide),λI y=>zB (zB ⟨(by show 2<=sizeLine;decide),λt2 ax=>?_⟩)⟩;have s1:=zD y (.tup [.int (one:Nat),.int (b:Nat)]);have s2:=zD ax (.tup [.int (one:Nat),.int (b:Nat)]);have u2:=s1.trans s2;refine zB (zB (zB ⟨(by show 2<=sizeLine;decide),λu O=>⟨(by show 1<=sizeLine;decide),λl3 a3=>?_⟩⟩));have s3:=zD O (.tup [.int (one:Nat),.int (b:Nat)]);have s4:=zD a3 (.lst [.ref u]);have u4:=(u2.trans s3).trans s4;refine⟨lf,l3,_,_,rfl,rfl,u4 _ _ h4,zX a3 _,by rw[JB];show m.length+1<=_;lia,λl4 a0=>?_⟩;have s5:=zD a0 (.lst (m++[.ref u]));have u5:=u4.trans s5;have k1:FkOk _ lanes (.ref I):=⟨I,(one,b),rfl,s5 _ _ (s4 _ _ (s3 _ _ (s2 _ _ (zX y _)))),q,N,M⟩;have k2:FkOk _ lanes (.ref t2):=⟨t2,(one,b),rfl,s5 _ _ (s4 _ _ (s3 _ _ (zX ax _))),q,N,M⟩
  obtain⟨x0,e0,k0⟩:∃ x0,(m++[V.ref u])[0]?=some x0/\FkOk (L2.upd (L2.upd (L2.upd (L2.upd (L2.upd H4 I (.tup [.int (one:Nat),.int (b:Nat)])) t2 (.tup [.int (one:Nat),.int (b:Nat)])) u (.tup [.int (one:Nat),.int (b:Nat)])) l3 (.lst [.ref u])) l4 (.lst (m++[.ref u]))) lanes x0:=by
   cases m with
   | nil=>exact zR rfl ⟨u,(one,b),rfl,s5 _ _ (s4 _ _ (zX O _)),q,N,M⟩
   | cons p m =>
    obtain⟨a,g,e,eg,ha⟩:=p4.get (i:=0) (p:=p) rfl;exact⟨p,rfl,a,g,e,u5 _ _ ha,R g (JP eg)⟩
  have h5:=u5 _ _ h4;have p5:=p4.tups (Tups.of u5);have S5:=S4.keep u5;have B5:=bB.trans (But.of (l:=l) u5);refine⟨l4,_,0,x0,rfl,rfl,SqL.of (zX a0 _),yJ (j:=0) e0,?_⟩;generalize L2.upd (L2.upd (L2.upd (L2.upd (L2.upd H4 I (.tup [.int (one:Nat),.int (b:Nat)])) t2 (.tup [.int (one:Nat),.int (b:Nat)])) u (.tup [.int (one:Nat),.int (b:Nat)])) l3 (.lst [.ref u])) l4 (.lst (m++[.ref u]))=H5 at *;refine⟨(by show 3<=sizeLine;decide),λl5 c=>zB ⟨l,3,rfl,by decide,by decide,S5.keep (zD c _),λT H6 a6 S6 L=>?_⟩⟩;have J:=zD c (.lst [.ref I,.ref t2,x0]);have b1:T<3:=by lia
  have U:=(Tups.of J).trans (L.tups3 (S5.keep J))
  obtain⟨x,ex,kx⟩:∃ x,[V.ref I,V.ref t2,x0][T]?=some x/\FkOk H6 lanes x:=by
   rcases T with _|_|_|T
   ·exact zR rfl (k1.tups U)
   ·exact zR rfl (k2.tups U)
   ·exact zR rfl (k0.tups U)
   ·lia
  refine⟨l5,_,_,x,rfl,rfl,SqL.of (L l5 _ (zX c _) (S5.ne c).symm),yJ ex,?_⟩;have h6:=L lf _ (J _ _ h5) o.symm;have p6:=p5.tups U;obtain⟨a,g,rfl,ha,gk⟩:=kx;refine⟨lf,m,_,rfl,rfl,h6,by rw[JB];lia,bo _ _ ⟨⟨_,_,_,_,rfl⟩,S6.upd o,((B5.trans (But.of J)).trans L).upd bt,m++[.ref a],fs++[g],zG,Prs.add (f:=g) (Tups.lst h6 _ _ ha) (p6.tups (Tups.lst h6)),by rw[Jc,fl];rfl,λf hf=>?_⟩⟩;rcases Jv.mp hf with z|z
  ·exact R f z
  ·rw[Jd.mp z];exact gk
 ·rintro σ X ⟨⟨w3,w4,w5,w6,rfl⟩,W,Z,m,fs,h2,p2,fl,R⟩
  have bu:fs.length<=8:=by rw[fl];lia
  refine zB ⟨lanes,rfl,by lia,λI y=>?_⟩;have s1:=zD y (.tup (zW (List.range lanes)));refine zB (zB ⟨lanes,rfl,by lia,λl2 a4=>?_⟩);have s2:=zD a4 (.lst (zW (List.range lanes)));have u2:=s1.trans s2;refine⟨l,l2,zW (List.range lanes),rfl,zX a4 _,by rw[zr,Y7];lia,W.keep u2,λu ys H3 py O S3 Y=>?_⟩;have ab:=Y I _ (s2 _ _ (zX y _)) (W.ne y).symm;have h3:=Y lf _ (u2 _ _ h2) o.symm;have p3:=p2.tups ((Tups.of u2).trans (Y.tups3 (W.keep u2)));have bS:=(Z.trans (But.of u2)).trans Y;refine⟨(by show 2<=sizeLine;decide),λl5 c=>zB ⟨l,2,rfl,by decide,by decide,S3.keep (zD c _),λT H6 a6 S6 L=>?_⟩⟩;have J:=zD c (.lst [.ref I,.ref u]);have U:=(Tups.of J).trans (L.tups3 (S3.keep J))
  obtain⟨x,ex,e,kx,pe⟩:∃ x,[V.ref I,V.ref u][T]?=some (.ref x)/\∃ es:List Nat,H6 x=some (.tup (zW es))/\es.Perm (List.range lanes):=by
   rcases T with _|_|T
   ·exact zR rfl ⟨_,U _ _ ab,.refl _⟩
   ·obtain⟨es,rfl,pe⟩:=iP py
    exact zR rfl ⟨es,U _ _ O,pe⟩
   ·lia
  refine⟨l5,_,_,.ref x,rfl,rfl,SqL.of (L l5 _ (zX c _) (S3.ne c).symm),yJ ex,?_⟩;have h6:=L lf _ (J _ _ h3) o.symm;have p6:=p3.tups U;refine zB (zB ⟨lf,_,rfl,.inl ⟨SqL.of h6,λa ha=>?_⟩⟩);have s7:=zD ha (.tup m);refine zB ⟨(by show 3<=sizeLine;decide),λr aT=>?_⟩;have s8:=zD aT (.tup [.int (lanes:Nat),.ref a,.ref x]);refine k r a x m ⟨lanes,fs,e⟩ _ ⟨⟨l1,by show lanes<=16;lia,by show fs.length<=128;lia,R,pe⟩,l6,bu⟩ ⟨zX aT _,s8 _ _ (zX ha _),p6.tups (Tups.of (s7.trans s8)),s8 _ _ (s7 _ _ kx)⟩ ((S6.keep s7).keep s8) ((bS.trans (But.of J)).trans (L.trans (But.of (s7.trans s8))))
abbrev zaO:Stmt:=top 39
def fj:Sp:=λi H Q _=>∃ l r fr k j N h b,i=[.ref l,.ref r]/\Pk3 H l/\Few h b N/\b<=100/\NetAt H r fr k j N/\∀ g e f d c a,Few h (b+1) c->c.lanes=N.lanes->NetAt a g e f d c->Pk3 a l->But l H a->Q (.ref g) a
theorem zan (xs:List V)(i j:Nat):xJ xs (some (i:Int)) (some (j:Int))=(xs.drop i).take (j-i):=by
 unfold xJ;rw[HT.sIx_nat,HT.sIx_nat];by_cases c:i<=xs.length
 ·rw[Z7 c]
  by_cases d:j<=xs.length
  ·rw[Z7 d]
  ·rw[Nat.min_eq_right (by lia),JC (by rw[Y4];lia),JC (by rw[Y4];lia)]
 ·rw[List.drop_of_length_le (show xs.length<=i by lia),List.drop_of_length_le (by lia),WD,WD]
theorem ji (xs:List V)(i:Nat):xJ xs (some (i:Int)) none=xs.drop i:=by
 unfold xJ;rw[HT.sIx_none,HT.sIx_nat];by_cases c:i<=xs.length
 ·rw[Z7 c]
  exact JC (by rw[Y4];exact Jf _)
 ·rw[List.drop_of_length_le (show xs.length<=i by lia),List.drop_of_length_le (by lia),WD]
theorem je (xs:List V)(i:Nat):xJ xs none (some (i:Int))=xs.take i:=by
 unfold xJ;rw[HT.sIx_none,HT.sIx_nat,W7,Nat.sub_zero];by_cases c:i<=xs.length
 ·rw[Z7 c]
 ·rw[JC (by lia),JC (by lia)]
theorem vt {H:Hp}:∀ {ps:List V}{fs:List (Nat × Nat)}(n:Nat),Prs H ps fs->Prs H (ps.take n) (fs.take n)
 | [],[],n,_=>by rw[WD,WD];trivial
 | _::_,_::_,0,_=>trivial
 | _::_,_::_,n+1,⟨x,r⟩=>⟨x,vt n r⟩
theorem xn {H:Hp}:∀ {ps:List V}{fs:List (Nat × Nat)}(n:Nat),Prs H ps fs->Prs H (ps.drop n) (fs.drop n)
 | [],[],n,_=>by rw[List.drop_nil,List.drop_nil];trivial
 | _::_,_::_,0,h=>h
 | _::_,_::_,n+1,⟨_,r⟩=>xn n r
def FksOk (lanes:Nat)(a:List (Nat × Nat)):Prop:=∀ f∈a,f.1<lanes/\f.2<lanes/\f.1≠f.2
theorem FksOk.app {lanes:Nat}{a b:List (Nat × Nat)}(x:FksOk lanes a)(y:FksOk lanes b):FksOk lanes (a++b):=λf c=>(Jv.mp c).elim (x f) (y f)
theorem FksOk.take {lanes:Nat}{a:List (Nat × Nat)}(x:FksOk lanes a)(n:Nat):FksOk lanes (a.take n):=λf b=>x f (YX b)
theorem FksOk.drop {lanes:Nat}{a:List (Nat × Nat)}(x:FksOk lanes a)(n:Nat):FksOk lanes (a.drop n):=λf b=>x f (Wf b)
theorem mz:FnScope ["_law_left_here","_law_net_here","_law_lanes","_law_forks","_law_ends_here","_law_way","_law_at","_law_k","_law_here","_law_row"] ["_law_left_here","_law_net_here"] (zN zaO):=by trivial
theorem za2 {f fK:JI}{fd dK:Yl}(F:Fun K "_law_changed" "_law_changed" zaO f fd) (G:Mgs mg) (UK:Use P w K mg base "_law_pick" ["_law_left_here","_law_many"] 1 yu fK dK):FnOk P w K mg base CX0 2 f fd ["_law_left_here","_law_net_here"] fj:=by
 refine F.ok mz (λvs H Q E h=>?_) (λb8 A outer s H vs Q E hr h=>?_)
 ·obtain⟨l,r,fr,er,C,N,lb,fb,rfl,_⟩:=h
  rfl
 obtain⟨l,r,fr,er,C,N,lb,fb,rfl,S,a5,b7,na,k⟩:=h;refine⟨_,(@zH _ _ _ _ _ (@yU _ _ _ _ _ _ (@pvb _ 1 _ _ rfl) (@yR _ _ _ _ _ _ rfl (@zS _ _ _ _ _ (@zP _ _ 2 _ mz.nd rfl (.inl rfl) (by trivial)) (@zS _ _ _ _ _ (@zP _ _ 3 _ mz.nd rfl (.inl rfl) (by trivial)) (@zS _ _ _ _ _ (@zP _ _ 4 _ mz.nd rfl (.inl rfl) (by trivial)) yD rfl) rfl) rfl) rfl rfl) rfl rfl rfl) (@zH _ _ _ _ _ (bw (i:=5) (j:=6) (k:=7) rfl mz.nd rfl rfl rfl (by decide) (by decide) (by decide) rfl rfl rfl (@zA _ _ _ _ _ (@zT _ _ _ _ _ _ _ _ _ _ _ _ UK hr (@zA _ _ _ _ _ (@pvb _ 0 _ _ rfl) (@zA _ _ _ _ _ zE zC rfl) rfl) rfl rfl rfl rfl) (@zA _ _ _ _ _ (@zT _ _ _ _ _ _ _ _ _ _ _ _ UK hr (@zA _ _ _ _ _ (@pvb _ 0 _ _ rfl) (@zA _ _ _ _ _ (@zQ _ _ _ _ _ _ _ _ yQ (@zU _ _ _ _ _ _ _ _ _ zY rfl G.len JZ (@zA _ _ _ _ _ (@pvb _ 3 _ _ rfl) zC rfl) (by decide) (by decide) rfl rfl) zE) zC rfl) rfl) rfl rfl rfl rfl) (@zA _ _ _ _ _ (@zT _ _ _ _ _ _ _ _ _ _ _ _ UK hr (@zA _ _ _ _ _ (@pvb _ 0 _ _ rfl) (@zA _ _ _ _ _ (@pvb _ 2 _ _ rfl) zC rfl) rfl) rfl rfl rfl rfl) zC rfl) rfl) rfl) rfl) (@zH _ _ _ _ _ (@zi _ _ 8 _ _ _ _ mz.nd rfl (.inl rfl) (@zz _ _ _ _ _ _ _ _ _ _ yW (@pvb _ 3 _ _ rfl) (@zu _ _ _ (@pvb _ 6 _ _ rfl)) (@zu _ _ _ (@zQ _ _ _ _ _ _ _ _ yQ (@pvb _ 6 _ _ rfl) zE))) rfl (by trivial)) (@zH _ _ _ _ _ (@yX _ _ _ _ _ _ _ _ (@zy _ _ _ _ _ _ _ _ xt (@pvb _ 5 _ _ rfl) zE (yC _)) (@zM _ _ _ (@zV _ _ _ _ (@zp _ _ _ _ _ (@zA _ _ _ _ _ (@pvb _ 2 _ _ rfl) (@zA _ _ _ _ _ (@zQ _ _ _ _ _ _ _ _ yi (@zQ _ _ _ _ _ _ _ _ yi (@zz _ _ _ _ _ _ _ _ _ _ yW (@pvb _ 3 _ _ rfl) yN (@zu _ _ _ (@pvb _ 6 _ _ rfl))) (@zj _ _ _ _ _ _ _ _ _ zt rfl G.tuple rfl (@zA _ _ _ _ _ (@vw _ _ _ _ none _ _ _ (cy K 2 (sZ (xw 0) (sZ (xw 1) ar))) _ _ ["_law_a","_law_b"] [none,none] rfl (@wg _ _ _ _ (@pvb _ 8 _ _ rfl)) (CapOk.of (by kernel_rfl)) (λ_ _ _ _ _=>(@yR _ _ _ _ _ _ rfl (@zS _ _ _ _ _ (@zP _ _ 0 _ (show (["_law_a","_law_b"]:List Str).Nodup from by decide +kernel) rfl (.inl rfl) (.inr rfl)) (@zS _ _ _ _ _ (@zP _ _ 1 _ (show (["_law_a","_law_b"]:List Str).Nodup from by decide +kernel) rfl (.inl rfl) (.inr rfl)) yD rfl) rfl) rfl rfl)) (λ_ _ _ _ _=>xG) (λ_ _ _ _ _=>(@zp _ _ _ _ _ (@zA _ _ _ _ _ (@pvb _ 1 _ _ rfl) (@zA _ _ _ _ _ (@pvb _ 0 _ _ rfl) zC rfl) rfl))) (by intro _;rfl)) zC rfl) (by decide) (by decide) rfl rfl)) (@zz _ _ _ _ _ _ _ _ _ _ yW (@pvb _ 3 _ _ rfl) (@zu _ _ _ (@zQ _ _ _ _ _ _ _ _ yQ (@pvb _ 6 _ _ rfl) zE)) yN)) (@zA _ _ _ _ _ (@pvb _ 4 _ _ rfl) zC rfl) rfl) rfl)))) yA) (@zH _ _ _ _ _ (@yX _ _ _ _ _ _ _ _ (@zy _ _ _ _ _ _ _ _ xt (@pvb _ 5 _ _ rfl) zE (yC _)) (@zM _ _ _ (@zV _ _ _ _ (@zp _ _ _ _ _ (@zA _ _ _ _ _ (@pvb _ 2 _ _ rfl) (@zA _ _ _ _ _ (@zQ _ _ _ _ _ _ _ _ yi (@zz _ _ _ _ _ _ _ _ _ _ yW (@pvb _ 3 _ _ rfl) yN (@zu _ _ _ (@pvb _ 6 _ _ rfl))) (@zz _ _ _ _ _ _ _ _ _ _ yW (@pvb _ 3 _ _ rfl) (@zu _ _ _ (@zQ _ _ _ _ _ _ _ _ yQ (@pvb _ 6 _ _ rfl) zE)) yN)) (@zA _ _ _ _ _ (@pvb _ 4 _ _ rfl) zC rfl) rfl) rfl)))) yA) (@zH _ _ _ _ _ (@yX _ _ _ _ _ _ _ _ (@zy _ _ _ _ _ _ _ _ xt (@pvb _ 5 _ _ rfl) zE (yC _)) (@zM _ _ _ (@zV _ _ _ _ (@zp _ _ _ _ _ (@zA _ _ _ _ _ (@pvb _ 2 _ _ rfl) (@zA _ _ _ _ _ (@zQ _ _ _ _ _ _ _ _ yi (@zQ _ _ _ _ _ _ _ _ yi (@zz _ _ _ _ _ _ _ _ _ _ yW (@pvb _ 3 _ _ rfl) yN (@zu _ _ _ (@pvb _ 6 _ _ rfl))) (@pvb _ 8 _ _ rfl)) (@zz _ _ _ _ _ _ _ _ _ _ yW (@pvb _ 3 _ _ rfl) (@zu _ _ _ (@pvb _ 6 _ _ rfl)) yN)) (@zA _ _ _ _ _ (@pvb _ 4 _ _ rfl) zC rfl) rfl) rfl)))) yA) (@zH _ _ _ _ _ (@yX _ _ _ _ _ _ _ _ (@zy _ _ _ _ _ _ _ _ xt (@pvb _ 5 _ _ rfl) zE (yC _)) (@zM _ _ _ (@zV _ _ _ _ (@zp _ _ _ _ _ (@zA _ _ _ _ _ (@pvb _ 2 _ _ rfl) (@zA _ _ _ _ _ (@zQ _ _ _ _ _ _ _ _ yi (@zQ _ _ _ _ _ _ _ _ yi (@zQ _ _ _ _ _ _ _ _ yi (@zz _ _ _ _ _ _ _ _ _ _ yW (@pvb _ 3 _ _ rfl) yN (@zu _ _ _ (@pvb _ 6 _ _ rfl))) (@zz _ _ _ _ _ _ _ _ _ _ yW (@pvb _ 3 _ _ rfl) (@zu _ _ _ (@zQ _ _ _ _ _ _ _ _ yQ (@pvb _ 6 _ _ rfl) zE)) (@zu _ _ _ (@zQ _ _ _ _ _ _ _ _ yQ (@pvb _ 6 _ _ rfl) zE)))) (@pvb _ 8 _ _ rfl)) (@zz _ _ _ _ _ _ _ _ _ _ yW (@pvb _ 3 _ _ rfl) (@zu _ _ _ (@zQ _ _ _ _ _ _ _ _ yQ (@pvb _ 6 _ _ rfl) zE)) yN)) (@zA _ _ _ _ _ (@pvb _ 4 _ _ rfl) zC rfl) rfl) rfl)))) yA) (@zH _ _ _ _ _ (@zi _ _ 9 _ _ _ _ mz.nd rfl (.inl rfl) (@zj _ _ _ _ _ _ _ _ _ yY rfl G.list rfl (@zA _ _ _ _ _ (@pvb _ 4 _ _ rfl) zC rfl) (by decide) (by decide) rfl rfl) rfl (by trivial)) (@zH _ _ _ _ _ (@yU _ _ _ _ _ _ (@zp _ _ _ _ _ (@zA _ _ _ _ _ (@zZ _ _ _ _ _ _ _ yL (@pvb _ 4 _ _ rfl) (@pvb _ 7 _ _ rfl) (λ_ _=>rfl)) (@zA _ _ _ _ _ (@zZ _ _ _ _ _ _ _ yL (@pvb _ 4 _ _ rfl) zE (λ_ _=>rfl)) zC rfl) rfl)) (@yR _ _ _ _ _ _ rfl (@zS _ _ _ _ _ (@x9 _ _ _ _ _ _ _ (@pvb _ 9 _ _ rfl) zE y7 (by intro _;rfl)) (@zS _ _ _ _ _ (@x9 _ _ _ _ _ _ _ (@pvb _ 9 _ _ rfl) (@pvb _ 7 _ _ rfl) y7 (by intro _;rfl)) yD rfl) rfl) rfl rfl) rfl rfl rfl) (@zM _ _ _ (@zV _ _ _ _ (@zp _ _ _ _ _ (@zA _ _ _ _ _ (@pvb _ 2 _ _ rfl) (@zA _ _ _ _ _ (@pvb _ 3 _ _ rfl) (@zA _ _ _ _ _ (@zj _ _ _ _ _ _ _ _ _ zt rfl G.tuple rfl (@zA _ _ _ _ _ (@pvb _ 9 _ _ rfl) zC rfl) (by decide) (by decide) rfl rfl) zC rfl) rfl) rfl))))))))))))),?_⟩;have ok:=a5.ok;have a9:=ok.l16;have l1:=ok.l1;have fk:=a5.fk;have pl:=na.prs.len;refine zB ⟨r,_,rfl,SqT.of na.net,rfl,_,_,rfl,_,_,rfl,_,_,rfl,rfl,?_⟩;dsimp only[xw];refine zv (λD1 b0=>?_);refine zB ⟨l,5,rfl,by decide,by decide,S,λway H1 hw S1 B1=>?_⟩;have aT:=na.tups (B1.tups3 S);refine zB (zB ⟨fr,C,rfl,.inr (SqT.of aT.forks),_,_,rfl,rfl,l,_,rfl,by lia,by lia,S1,λd H2 b4 S2 B2=>?_⟩);refine zB (zB ⟨l,_,rfl,by lia,by lia,S2,λL H3 hk S3 B3=>⟨_,_,_,rfl,b0 _ _ ?_⟩⟩);have y:=(aT.tups (B2.tups3 S1)).tups (B3.tups3 S2);have B':But l H H3:=(B1.trans B2).trans B3;clear aT B1 B2 B3 S1 S2;have p2:d<=C.length:=by lia
 refine zv (λD2 bS=>?_);refine zB (zB (zR rfl (zB ⟨_,_,rfl,rfl,_,rfl,fr,C,rfl,y.forks,λhh H4 s4 ax=>bS _ _ ?_⟩)));have e1:((d:Nat):Int)+1=((d+1:Nat):Int):=rfl;have e2:((d:Nat):Int)+2=((d+2:Nat):Int):=rfl;rw[e1,zan,show d+1-d=1 by lia]at ax;have v:FksOk N.lanes N.forks:=ok.fk;have a8:=a5.ln;have bl:N.forks.length<=100:=by lia
 have fin:∀ (a:JI) (qs:List V) (gs:List (Nat × Nat)) (X:Hp),Same H3 X->X a=some (.tup qs)->Prs X qs gs->FksOk N.lanes gs->gs.length<=fb+1->∀ q,X q=none->Q (.ref q) (L2.upd X q (.tup [.int (N.lanes:Nat),.ref a,.ref er])):=λa qs gs X J ha pr go gl q hq=>by
  have U:=zD hq (.tup [.int (N.lanes:Nat),.ref a,.ref er]);have u:=J.trans U;exact k q a er qs ⟨N.lanes,gs,N.ends⟩ _ ⟨⟨l1,a9,by show gs.length<=128;lia,go,ok.en⟩,a8,gl⟩ rfl ⟨zX hq _,U _ _ ha,pr.tups (Tups.of U),u _ _ y.ends⟩ (S3.keep u) (B'.trans (But.of u))
 have I:=y.prs;have f4:=s4 _ _ y.forks;have b5:((C.drop d).take 1).length<=1:=by rw[Jt];lia
 have ab:=vt 1 (xn d I);have b6:((N.forks.drop d).take 1).length<=1:=by rw[Jt];lia
 have pA:=vt d I;have lA:(N.forks.take d).length=d:=by rw[Jt];lia
 have b3:(C.take d).length=d:=by rw[Jt];lia
 have lD:∀ n,(N.forks.drop n).length=N.forks.length-n:=λn=>Y4;have ao:∀ n,(C.drop n).length=N.forks.length-n:=λn=>by rw[Y4,pl]
 refine zB ⟨rfl,_,rfl,pi (λ_=>?_) (λ_=>?_)⟩
 ·refine zB (zB (zB (zR rfl ⟨fr,C,rfl,f4,λp1 X J W=>?_⟩)))
  rw[je]at W;have Y:=s4.trans J;have bc:=J _ _ ax;have bu:=ab.tups (Tups.of Y);refine zB ⟨hh,rfl,⟨_,SqT.of bc⟩,λlc a4=>?_⟩;have U:=zD a4 (.lst []);refine sR (K:=K) (a:=hh) (xs:=(C.drop d).take 1) (λi acc σ H6=>(∃ v0 v1,σ=[v0,v1])/\Same X H6/\H6 lc=some (.lst acc)/\acc.length=i/\Prs H6 acc ((((N.forks.drop d).take 1).take i).map λg=>(g.2,g.1))) ⟨⟨_,_,rfl⟩,U,zX a4 _,rfl,trivial⟩ (λi acc σ H6 z=>⟨z.2.2.1,SqT.of (z.2.1 _ _ bc)⟩) ?_ ?_
  ·rintro i x acc σ H6 hx ⟨⟨v0,v1,rfl⟩,s7,h7,al,p7⟩
   obtain⟨a,g,rfl,eg,ha⟩:=(bu.tups (Tups.of s7)).get hx;have gi:=(Jb.mp eg).1;refine⟨a,_,rfl,SqT.of ha,rfl,_,_,rfl,_,_,rfl,rfl,?_⟩;refine zB (zB ⟨(by show 2<=sizeLine;decide),λt ht=>?_⟩);have Z:=zD ht (.tup [.int (g.2:Nat),.int (g.1:Nat)]);have h8:=Z _ _ h7;refine⟨h8,by rw[JB];lia,nx (Jb.mp hx).1 ⟨⟨_,_,rfl⟩,λb o e=>?_,zG,by rw[Jc,al];rfl,?_⟩⟩
   ·rw[zK (zJ e a4)];exact Z _ _ (s7 b o e)
   ·rw[<- YH gi,JQ,(Jb.mp eg).2]
    exact Prs.add (f:=(g.2,g.1)) (Tups.lst h8 _ _ (zX ht _)) ((p7.tups (Tups.of Z)).tups (Tups.lst h8))
  rintro acc σ H6 ⟨⟨v0,v1,rfl⟩,s7,h7,al,p7⟩;rw[JC (by rw[ab.len];exact Jf _)]at p7;refine⟨lc,_,rfl,.inl ⟨SqL.of h7,λt8 ba=>?_⟩⟩;have Z:=zD ba (.tup acc);refine⟨p1,t8,_,_,rfl,rfl,Z _ _ (s7 _ _ W),zX ba _,by rw[JB];lia,λp9 H9 s9 h9=>?_⟩;have u9:=((Y.trans s7).trans Z).trans s9;refine zB (zB ⟨_,_,rfl,rfl,_,rfl,fr,C,rfl,u9 _ _ y.forks,λO a7 p B=>?_⟩);rw[e1,ji]at B;refine⟨p9,O,_,_,rfl,rfl,p _ _ h9,B,by rw[JB,Jc,ao (d+1)];lia,λM a6 D R=>?_⟩;have m:=(u9.trans p).trans D;refine zB ⟨(by show 3<=sizeLine;decide),fin M _ _ _ m R (Prs.app (Prs.app (pA.tups (Tups.of m)) (p7.tups (Tups.of (((Z.trans s9).trans p).trans D)))) ((xn (d+1) I).tups (Tups.of m))) ?_ ?_⟩
  ·refine((v.take _).app λf hf=>?_).app (v.drop _)
   obtain⟨g,hg,rfl⟩:=JE.mp hf;obtain⟨a,b,c⟩:=v g (Wf (YX hg));exact⟨b,a,c.symm⟩
  ·rw[Jc,Jc,Je,lA,lD];lia
 refine zB ⟨rfl,_,rfl,pi (λ_=>?_) (λ_=>?_)⟩
 ·refine zB (zB (zB (zR rfl ⟨fr,C,rfl,f4,λp1 X J W=>?_⟩)))
  rw[je]at W;have Y:=s4.trans J;refine zB (zB ⟨_,_,rfl,rfl,_,rfl,fr,C,rfl,Y _ _ y.forks,λO a7 p B=>?_⟩);rw[e1,ji]at B;refine⟨p1,O,_,_,rfl,rfl,p _ _ W,B,by rw[JB,ao (d+1)];lia,λM a6 D R=>?_⟩;have m:=(Y.trans p).trans D;refine zB ⟨(by show 3<=sizeLine;decide),fin M _ _ _ m R (Prs.app (pA.tups (Tups.of m)) ((xn (d+1) I).tups (Tups.of m))) ((v.take _).app (v.drop _)) ?_⟩;rw[Jc,lA,lD];lia
 refine zB ⟨rfl,_,rfl,pi (λ_=>?_) (λ_=>?_)⟩
 ·refine zB (zB (zB (zR rfl ⟨fr,C,rfl,f4,λp1 X J W=>?_⟩)))
  rw[je]at W;have Y:=s4.trans J;refine zB ⟨p1,hh,_,_,rfl,rfl,W,J _ _ ax,by rw[JB];lia,λp9 H9 s9 h9=>?_⟩;have u9:=Y.trans s9;refine zB (zB (zR rfl ⟨fr,C,rfl,u9 _ _ y.forks,λO a7 p B=>?_⟩));rw[ji]at B;refine⟨p9,O,_,_,rfl,rfl,p _ _ h9,B,by rw[JB,Jc,ao d];lia,λM a6 D R=>?_⟩;have m:=(u9.trans p).trans D;refine zB ⟨(by show 3<=sizeLine;decide),fin M _ _ _ m R (Prs.app (Prs.app (pA.tups (Tups.of m)) (ab.tups (Tups.of m))) ((xn d I).tups (Tups.of m))) (((v.take _).app ((v.drop _).take _)).app (v.drop _)) ?_⟩;rw[Jc,Jc,lA,lD];lia
 refine zB ⟨rfl,_,rfl,pi (λ_=>?_) (λ_=>?_)⟩
 ·refine zB (zB (zB (zR rfl ⟨fr,C,rfl,f4,λp1 X J W=>?_⟩)))
  rw[je]at W;have Y:=s4.trans J;refine zB (zB ⟨_,_,rfl,rfl,_,rfl,_,rfl,_,_,rfl,rfl,_,rfl,fr,C,rfl,Y _ _ y.forks,λp6 H6 U h6=>?_⟩);rw[e1,e2,zan,show d+2-(d+1)=1 by lia]at h6;have l6:((C.drop (d+1)).take 1).length<=1:=by rw[Jt];lia
  have g6:((N.forks.drop (d+1)).take 1).length<=1:=by rw[Jt];lia
  refine⟨p1,p6,_,_,rfl,rfl,U _ _ W,h6,by rw[JB];lia,λp7 H7 s7 h7=>?_⟩;have u7:=(Y.trans U).trans s7;refine zB ⟨p7,hh,_,_,rfl,rfl,h7,s7 _ _ (U _ _ (J _ _ ax)),by rw[JB,Jc];lia,λp9 H9 s9 h9=>?_⟩;have u9:=u7.trans s9;refine zB (zB ⟨_,_,rfl,rfl,_,rfl,fr,C,rfl,u9 _ _ y.forks,λO a7 p B=>?_⟩);rw[e2,ji]at B;refine⟨p9,O,_,_,rfl,rfl,p _ _ h9,B,by rw[JB,Jc,Jc,ao (d+2)];lia,λM a6 D R=>?_⟩;have m:=(u9.trans p).trans D;refine zB ⟨(by show 3<=sizeLine;decide),fin M _ _ _ m R (Prs.app (Prs.app (Prs.app (pA.tups (Tups.of m)) ((vt 1 (xn (d+1) I)).tups (Tups.of m))) (ab.tups (Tups.of m))) ((xn (d+2) I).tups (Tups.of m))) ((((v.take _).app ((v.drop _).take _)).app ((v.drop _).take _)).app (v.drop _)) ?_⟩;have c6:((N.forks.drop (d+1)).take 1).length=min 1 (N.forks.length-(d+1)):=by rw[Jt,lD]
  have c7:((N.forks.drop d).take 1).length=min 1 (N.forks.length-d):=by rw[Jt,lD]
  rw[Jc,Jc,Jc,lA,lD,c6,c7];lia
 have bt:=s4 _ _ y.ends;have el:N.ends.length=N.lanes:=by rw[ok.en.length_eq,Y7]
 have b2:=zr N.ends;have k1:L<N.ends.length:=by lia
 refine zB ⟨er,_,rfl,.inr (SqT.of bt),λlr a3=>?_⟩;have J:=zD a3 (.lst (zW N.ends));have bo:=J _ _ bt;have a1:=yJ (kL N.ends L k1);have a0:=yJ (j:=0) (kL N.ends 0 (by lia));refine zB (zB ⟨er,_,_,_,rfl,rfl,SqT.of bo,a1,_,rfl,er,_,0,_,rfl,rfl,SqT.of bo,a0,(by show 2<=sizeLine;decide),λT hT=>?_⟩);have U:=zD hT (.tup [.int ((N.ends.getD L 0:Nat):Int),.int ((N.ends.getD 0 0:Nat):Int)]);have h6:=U _ _ (zX a3 (.lst (zW N.ends)));refine⟨T,_,rfl,SqT.of zG,rfl,_,_,rfl,?_⟩;have u6:=(s4.trans J).trans U
 let d1:List Nat:=N.ends.set 0 (N.ends.getD L 0)
 let d2:List Nat:=d1.set L (N.ends.getD 0 0)
 have z1:(zW N.ends).set 0 (.int ((N.ends.getD L 0:Nat):Int))=zW d1:=List.map_set.symm;have z2:(zW d1).set L (.int ((N.ends.getD 0 0:Nat):Int))=zW d2:=List.map_set.symm;have b1:(zW d1).length=N.ends.length:=by rw[zr];exact Z6
 have pd:d2.Perm N.ends:=by
  have:=List.set_set_perm (as:=N.ends) (i:=0) (j:=L) (by lia) k1;have g1:N.ends.getD L 0=N.ends[L]:=by rw[Ja,J7 k1];rfl
  have g0:N.ends.getD 0 0=N.ends[0]:=by rw[Ja,J7 (by lia)];rfl
  show ((N.ends.set 0 (N.ends.getD L 0)).set L (N.ends.getD 0 0)).Perm N.ends;rw[g1,g0];exact this
 refine zB ⟨lr,_,0,0,rfl,rfl,h6,uj (i:=0) (by lia),?_⟩;rw[z1];have bB:L2.upd (L2.upd (L2.upd H4 lr (.lst (zW N.ends))) T (.tup [.int ((N.ends.getD L 0:Nat):Int),.int ((N.ends.getD 0 0:Nat):Int)])) lr (.lst (zW d1)) lr=some (.lst (zW d1)):=zG;have n3:H3 lr=none:=wm s4 a3
 have sm:∀ (xs ys:List V),Same H3 (L2.upd (L2.upd (L2.upd (L2.upd H4 lr (.lst (zW N.ends))) T (.tup [.int ((N.ends.getD L 0:Nat):Int),.int ((N.ends.getD 0 0:Nat):Int)])) lr (.lst xs)) lr (.lst ys)):=λxs ys b o e=>by
  rw[zK (zJ e n3),zK (zJ e n3)];exact u6 b o e
 refine⟨_,_,rfl,_,rfl,_,rfl,lr,_,_,L,rfl,rfl,bB,by rw[b1];exact uj k1,?_⟩;rw[z2];refine⟨rfl,_,rfl,_,rfl,_,rfl,lr,_,rfl,.inl ⟨SqL.of zG,λt ht=>⟨(by show 3<=sizeLine;decide),λq hq=>?_⟩⟩⟩;have s7:=zD ht (.tup (zW d2));have Z:=zD hq (.tup [.int (N.lanes:Nat),.ref fr,.ref t]);have u:=((sm (zW d1) (zW d2)).trans s7).trans Z;exact k q fr t C ⟨N.lanes,N.forks,d2⟩ _ ⟨⟨l1,a9,ok.fm,ok.fk,pd.trans ok.en⟩,a8,by show N.forks.length<=fb+1;lia⟩ rfl ⟨zX hq _,u _ _ y.forks,I.tups (Tups.of u),Z _ _ (zX ht _)⟩ (S3.keep u) (B'.trans (But.of u))
abbrev oo:Stmt:=top 34
def tV (m:Nat):Sp:=λd H Q _=>∃ p row,d=[.ref p]/\H p=some (.lst (zW row))/\row.length=2 ^ m/\m<=4/\∀ c lf le b a,Same H a->a c=some (.tup [.ref lf,.ref le])->a lf=some (.lst b)->Prs a b (xS m row).1->a le=some (.lst (zW (xS m row).2))->Q (.ref c) a
theorem oZ:FnScope ["_law_row","_law_half","_law_forks","_law_one","_law_more","_law_other","_law_last","_law_ends_here"] ["_law_row"] (zN oo):=by trivial
theorem nG {f fB:JI}{fd dB:Yl}(F:Fun K "_law_stairway" "_law_stairway" oo f fd) (G:Mgs mg) (UM:Use P w K mg base "_law_merger" ["_law_one","_law_other"] 5 wZ fB dB) (bS:Binds K fd ["_law_row"] []) (mS:mg "_law_stairway" = some (.ref f)) (n:Nat)
  (GS:FnOk P w K mg base CX0 (n+5) f fd ["_law_row"] (λvs H Q E=>∃ m,n=m+1/\tV m vs H Q E)):FnOk P w K mg base CX0 (n+6) f fd ["_law_row"] (tV n):=by
 have UT:Use P w K mg base "_law_stairway" ["_law_row"] (n+5) (λvs H Q E=>∃ m,n=m+1/\tV m vs H Q E) f fd:=⟨GS,bS,F.kp,mS⟩;refine F.ok oZ (λvs H Q E h=>?_) (λa7 A outer s H vs Q E J h=>?_)
 ·obtain⟨p,row,rfl,_⟩:=h
  rfl
 obtain⟨p,row,rfl,d,I,O,k⟩:=h;have W:Room 5 _:=J.mono (by lia);refine⟨_,(@zH _ _ _ _ _ (@yX _ _ _ _ _ _ _ _ (@zy _ _ _ _ _ _ _ _ xt (@zU _ _ _ _ _ _ _ _ _ zY rfl G.len JZ (@zA _ _ _ _ _ (@pvb _ 0 _ _ rfl) zC rfl) (by decide) (by decide) rfl rfl) zE (yC _)) (@zM _ _ _ (@zV _ _ _ _ (@zp _ _ _ _ _ (@zA _ _ _ _ _ (@zw _ _ _ _ zC) (@zA _ _ _ _ _ (@zj _ _ _ _ _ _ _ _ _ yY rfl G.list rfl (@zA _ _ _ _ _ (@pvb _ 0 _ _ rfl) zC rfl) (by decide) (by decide) rfl rfl) zC rfl) rfl)))) yA) (@zH _ _ _ _ _ (@zi _ _ 1 _ _ _ _ oZ.nd rfl (.inl rfl) (@zQ _ _ _ _ _ _ _ _ xN (@zU _ _ _ _ _ _ _ _ _ zY rfl G.len JZ (@zA _ _ _ _ _ (@pvb _ 0 _ _ rfl) zC rfl) (by decide) (by decide) rfl rfl) zE) rfl (by trivial)) (@zH _ _ _ _ _ (@yU _ _ _ _ _ _ (@zT _ _ _ _ _ _ _ _ _ _ _ _ UT J (@zA _ _ _ _ _ (@zz _ _ _ _ _ _ _ _ _ _ wz (@pvb _ 0 _ _ rfl) yN (@zu _ _ _ (@pvb _ 1 _ _ rfl))) zC rfl) rfl rfl rfl rfl) (@yR _ _ _ _ _ _ rfl (@zS _ _ _ _ _ (@zP _ _ 2 _ oZ.nd rfl (.inl rfl) (by trivial)) (@zS _ _ _ _ _ (@zP _ _ 3 _ oZ.nd rfl (.inl rfl) (by trivial)) yD rfl) rfl) rfl rfl) rfl rfl rfl) (@zH _ _ _ _ _ (@yU _ _ _ _ _ _ (@zT _ _ _ _ _ _ _ _ _ _ _ _ UT J (@zA _ _ _ _ _ (@zz _ _ _ _ _ _ _ _ _ _ wz (@pvb _ 0 _ _ rfl) (@zu _ _ _ (@pvb _ 1 _ _ rfl)) yN) zC rfl) rfl rfl rfl rfl) (@yR _ _ _ _ _ _ rfl (@zS _ _ _ _ _ (@zP _ _ 4 _ oZ.nd rfl (.inl rfl) (by trivial)) (@zS _ _ _ _ _ (@zP _ _ 5 _ oZ.nd rfl (.inl rfl) (by trivial)) yD rfl) rfl) rfl rfl) rfl rfl rfl) (@zH _ _ _ _ _ (@yU _ _ _ _ _ _ (@zT _ _ _ _ _ _ _ _ _ _ _ _ UM W (@zA _ _ _ _ _ (@pvb _ 3 _ _ rfl) (@zA _ _ _ _ _ (@pvb _ 5 _ _ rfl) zC rfl) rfl) rfl rfl rfl rfl) (@yR _ _ _ _ _ _ rfl (@zS _ _ _ _ _ (@zP _ _ 6 _ oZ.nd rfl (.inl rfl) (by trivial)) (@zS _ _ _ _ _ (@zP _ _ 7 _ oZ.nd rfl (.inl rfl) (by trivial)) yD rfl) rfl) rfl rfl) rfl rfl rfl) (@zM _ _ _ (@zV _ _ _ _ (@zp _ _ _ _ _ (@zA _ _ _ _ _ (@zQ _ _ _ _ _ _ _ _ wA (@zQ _ _ _ _ _ _ _ _ wA (@pvb _ 2 _ _ rfl) (@pvb _ 4 _ _ rfl)) (@pvb _ 6 _ _ rfl)) (@zA _ _ _ _ _ (@pvb _ 7 _ _ rfl) zC rfl) rfl))))))))),?_⟩;have nl:=zr row;have p8:2 ^ n<=2 ^ 4:=Zc (by decide) O;have e8:2 ^ 4=16:=rfl;refine zB ⟨p,_,rfl,.inl (SqL.of d),rfl,_,rfl,?_⟩
 cases n with
 | zero =>
  have M:row.length=1:=I;rw[Jw (show V.int (((zW row).length:Nat):Int)=V.int 1 by rw[nl,M];rfl)];refine yZ ⟨(by show 0<=sizeLine;decide),λl L=>zB ⟨p,_,rfl,.inl (SqL.of (zD L _ _ _ d)),λle hle=>⟨(by show 2<=sizeLine;decide),λc e=>?_⟩⟩⟩;have D:=zD L (.lst []);have B:=zD hle (.lst (zW row));have b:=zD e (.tup [.ref l,.ref le])
  exact k c l le [] _ ((D.trans B).trans b) (zX e _) (b _ _ (B _ _ (zX L _))) trivial (b _ _ (zX hle _))
 | succ m =>
  obtain⟨t1,t2,t3⟩:=ve I;obtain⟨la,lb⟩:=wq I;have pw:2 ^ (m+1)=2 ^ m*2:=ZH ..;have p0:=ZX (n:=m);rw[Jn (show ¬ V.int (((zW row).length:Nat):Int)=V.int 1 by intro z;injection z with z;lia)];refine yF (zB ⟨p,_,rfl,.inl (SqL.of d),_,_,rfl,rfl,⟨by decide,by decide⟩,?_⟩);have eh:(((zW row).length:Nat):Int) / 2=((row.length / 2:Nat):Int):=by rw[nl];lia
  simp only[eh];refine zB (zB (zR rfl ⟨p,_,rfl,SqL.of d,λp1 u=>?_⟩));rw[kJ row _ t3];have D:=zD u (.lst (zW (row.take (row.length / 2))));refine⟨m,rfl,p1,row.take (row.length / 2),rfl,zX u _,la,by lia,λc2 T le2 i H2 B a3 Z q ax=>?_⟩;have u2:=D.trans B;refine⟨c2,_,rfl,SqT.of a3,rfl,_,_,rfl,_,_,rfl,rfl,?_⟩;refine zB (zB (zR rfl ⟨p,_,rfl,SqL.of (u2 _ _ d),λp3 t=>?_⟩));rw[kK row _ t3];have b:=zD t (.lst (zW (row.drop (row.length / 2))));refine⟨m,rfl,p3,row.drop (row.length / 2),rfl,zX t _,lb,by lia,λc4 S U g H4 s4 a0 Y o ao=>?_⟩;have y:=b.trans s4;refine⟨c4,_,rfl,SqT.of a0,rfl,_,_,rfl,_,_,rfl,rfl,?_⟩;obtain⟨xl,xf⟩:=wy m _ la;obtain⟨yl,yf⟩:=wy m _ lb;obtain⟨zl,zf⟩:=xY m _ _ xl yl;have a6:=q.len;have a5:=o.len;obtain⟨a9,a8⟩:=vk m (by lia);refine zB (zB ⟨m,by lia,le2,U,_,_,rfl,y _ _ ax,ao,xl,yl,by lia,λc6 R r N H6 a _ aT X j ab=>?_⟩);refine⟨c6,_,rfl,SqT.of aT,rfl,_,_,rfl,_,_,rfl,rfl,?_⟩;have a4:=j.len;refine zB (zB ⟨T,S,_,_,rfl,rfl,a _ _ (y _ _ Z),a _ _ Y,by rw[JB];lia,λl7 x=>?_⟩);have s7:=zD x (.lst (i++g));refine zB ⟨l7,R,_,_,rfl,rfl,zX x _,s7 _ _ X,by rw[JB,Jc];lia,λl8 v=>?_⟩;have s8:=zD v (.lst ((i++g)++N));refine zB ⟨(by show 2<=sizeLine;decide),λc e=>?_⟩;have s9:=zD e (.tup [.ref l8,.ref r]);have C:=(s7.trans s8).trans s9;refine k c l8 r _ _ ((u2.trans y).trans (a.trans C)) (zX e _) (s9 _ _ (zX v _)) ?_ (C _ _ ab);refine Prs.tups (Tups.of C) ?_;exact Prs.app (Prs.app ((q.tups (Tups.of y)).tups (Tups.of a)) (o.tups (Tups.of a))) j
theorem jG {f d:JI}{fd e:Yl}(F:Fun K "_law_stairway" "_law_stairway" oo f fd) (G:Mgs mg) (c:Use P w K mg base "_law_merger" ["_law_one","_law_other"] 5 wZ d e) (b:Binds K fd ["_law_row"] []) (a:mg "_law_stairway" = some (.ref f)):∀ n:Nat,FnOk P w K mg base CX0 (n+6) f fd ["_law_row"] (tV n)
 | 0=>nG F G c b a 0 ⟨λvs H Q E ⟨m,h,_⟩=>by simp_all,λA outer s H args us vs Q E _ _ _ _ ⟨m,h,_⟩=>by simp_all⟩
 | m+1=>nG F G c b a (m+1) ((jG F G c b a m).imp λvs H Q E ⟨g,h,q⟩=>by cases h;exact q)
abbrev tW:Sp:=λa H Q E=>∃ m,m<=4/\tV m a H Q E
theorem iU {f b:JI}{fd c:Yl}(F:Fun K "_law_stairway" "_law_stairway" oo f fd) (G:Mgs mg) (e:Use P w K mg base "_law_merger" ["_law_one","_law_other"] 5 wZ b c) (d:Binds K fd ["_law_row"] []) (a:mg "_law_stairway" = some (.ref f)):FnOk P w K mg base CX0 10 f fd ["_law_row"] tW :=
 FnOk.any 4 λm g=>(jG F G e d a m).mono (by simp_all)
abbrev oj:Stmt:=top 36
def tT (m:Nat):Sp:=λd H Q _=>∃ p row,d=[.ref p]/\H p=some (.lst (zW row))/\row.length=2 ^ m/\m<=4/\∀ c lf le b a,Same H a->a c=some (.tup [.ref lf,.ref le])->a lf=some (.lst b)->Prs a b (xh m row).1->a le=some (.lst (zW (xh m row).2))->Q (.ref c) a
theorem pB:FnScope ["_law_row","_law_half","_law_forks","_law_one","_law_more","_law_other","_law_ends_here","_law_x","_law_y"] ["_law_row"] (zN oj):=by trivial
theorem nF {f:JI}{fd:Yl}(F:Fun K "_law_tree" "_law_tree" oj f fd) (G:Mgs mg) (bS:Binds K fd ["_law_row"] []) (mS:mg "_law_tree" = some (.ref f)) (n:Nat)
  (GS:FnOk P w K mg base CX0 n f fd ["_law_row"] (λvs H Q E=>∃ m,n=m+1/\tT m vs H Q E)):FnOk P w K mg base CX0 (n+1) f fd ["_law_row"] (tT n):=by
 have UT:Use P w K mg base "_law_tree" ["_law_row"] n (λvs H Q E=>∃ m,n=m+1/\tT m vs H Q E) f fd:=⟨GS,bS,F.kp,mS⟩;refine F.ok pB (λvs H Q E h=>?_) (λb4 A outer s H vs Q E hr h=>?_)
 ·obtain⟨p,row,rfl,_⟩:=h
  rfl
 obtain⟨p,row,rfl,C,rl,a4,k⟩:=h;refine⟨_,(@zH _ _ _ _ _ (@yX _ _ _ _ _ _ _ _ (@zy _ _ _ _ _ _ _ _ xt (@zU _ _ _ _ _ _ _ _ _ zY rfl G.len JZ (@zA _ _ _ _ _ (@pvb _ 0 _ _ rfl) zC rfl) (by decide) (by decide) rfl rfl) zE (yC _)) (@zM _ _ _ (@zV _ _ _ _ (@zp _ _ _ _ _ (@zA _ _ _ _ _ (@zw _ _ _ _ zC) (@zA _ _ _ _ _ (@zj _ _ _ _ _ _ _ _ _ yY rfl G.list rfl (@zA _ _ _ _ _ (@pvb _ 0 _ _ rfl) zC rfl) (by decide) (by decide) rfl rfl) zC rfl) rfl)))) yA) (@zH _ _ _ _ _ (@zi _ _ 1 _ _ _ _ pB.nd rfl (.inl rfl) (@zQ _ _ _ _ _ _ _ _ xN (@zU _ _ _ _ _ _ _ _ _ zY rfl G.len JZ (@zA _ _ _ _ _ (@pvb _ 0 _ _ rfl) zC rfl) (by decide) (by decide) rfl rfl) zE) rfl (by trivial)) (@zH _ _ _ _ _ (@yU _ _ _ _ _ _ (@zT _ _ _ _ _ _ _ _ _ _ _ _ UT hr (@zA _ _ _ _ _ (@zz _ _ _ _ _ _ _ _ _ _ wz (@pvb _ 0 _ _ rfl) yN (@zu _ _ _ (@pvb _ 1 _ _ rfl))) zC rfl) rfl rfl rfl rfl) (@yR _ _ _ _ _ _ rfl (@zS _ _ _ _ _ (@zP _ _ 2 _ pB.nd rfl (.inl rfl) (by trivial)) (@zS _ _ _ _ _ (@zP _ _ 3 _ pB.nd rfl (.inl rfl) (by trivial)) yD rfl) rfl) rfl rfl) rfl rfl rfl) (@zH _ _ _ _ _ (@yU _ _ _ _ _ _ (@zT _ _ _ _ _ _ _ _ _ _ _ _ UT hr (@zA _ _ _ _ _ (@zz _ _ _ _ _ _ _ _ _ _ wz (@pvb _ 0 _ _ rfl) (@zu _ _ _ (@pvb _ 1 _ _ rfl)) yN) zC rfl) rfl rfl rfl rfl) (@yR _ _ _ _ _ _ rfl (@zS _ _ _ _ _ (@zP _ _ 4 _ pB.nd rfl (.inl rfl) (by trivial)) (@zS _ _ _ _ _ (@zP _ _ 5 _ pB.nd rfl (.inl rfl) (by trivial)) yD rfl) rfl) rfl rfl) rfl rfl rfl) (@zH _ _ _ _ _ (@zi _ _ 6 _ _ _ _ pB.nd rfl (.inl rfl) (@zw _ _ _ _ zC) rfl (by trivial)) (@zH _ _ _ _ _ (@xH _ _ _ _ _ _ _ _ Yi rfl (@e7 _ _ _ _ _ _ _ _ _ true true rfl G.zip (@zA _ _ _ _ _ (@pvb _ 3 _ _ rfl) (@zA _ _ _ _ _ (@pvb _ 5 _ _ rfl) zC rfl) rfl) rfl rfl) (@yR _ _ _ _ _ _ rfl (@zS _ _ _ _ _ (@zP _ _ 7 _ pB.nd rfl (.inl rfl) (by trivial)) (@zS _ _ _ _ _ (@zP _ _ 8 _ pB.nd rfl (.inl rfl) (by trivial)) yD rfl) rfl) rfl rfl) (@zM _ _ _ (@xA _ _ _ _ (@wV _ _ _ _ _ _ _ _ _ _ _ _ Y8 PySem.F.slot_list_extend PySem.F.type_list_extend uU (@pvb _ 6 _ _ rfl) (@zA _ _ _ _ _ (@zw _ _ _ _ (@zA _ _ _ _ _ (@pvb _ 7 _ _ rfl) (@zA _ _ _ _ _ (@pvb _ 8 _ _ rfl) zC rfl) rfl)) zC rfl) rfl rfl rfl rfl rfl) rfl)) (by intro _;rfl)) (@zM _ _ _ (@zV _ _ _ _ (@zp _ _ _ _ _ (@zA _ _ _ _ _ (@zQ _ _ _ _ _ _ _ _ wA (@zQ _ _ _ _ _ _ _ _ wA (@zw _ _ _ _ (@zA _ _ _ _ _ (@zp _ _ _ _ _ (@zA _ _ _ _ _ (@zZ _ _ _ _ _ _ _ zo (@pvb _ 0 _ _ rfl) zE (λ_ _=>rfl)) (@zA _ _ _ _ _ (@zZ _ _ _ _ _ _ _ zo (@pvb _ 0 _ _ rfl) (@pvb _ 1 _ _ rfl) (λ_ _=>rfl)) zC rfl) rfl)) zC rfl)) (@pvb _ 2 _ _ rfl)) (@pvb _ 4 _ _ rfl)) (@zA _ _ _ _ _ (@pvb _ 6 _ _ rfl) zC rfl) rfl)))))))))),?_⟩;have nl:=zr row;have p8:2 ^ n<=2 ^ 4:=Zc (by decide) a4;have e8:2 ^ 4=16:=rfl;refine zB ⟨p,_,rfl,.inl (SqL.of C),rfl,_,rfl,?_⟩
 cases n with
 | zero =>
  have a0:row.length=1:=rl;rw[Jw (show V.int (((zW row).length:Nat):Int)=V.int 1 by rw[nl,a0];rfl)];refine yZ ⟨(by show 0<=sizeLine;decide),λl hl=>zB ⟨p,_,rfl,.inl (SqL.of (zD hl _ _ _ C)),λle hle=>⟨(by show 2<=sizeLine;decide),λc I=>?_⟩⟩⟩;have s1:=zD hl (.lst []);have s2:=zD hle (.lst (zW row));have D:=zD I (.tup [.ref l,.ref le])
  exact k c l le [] _ ((s1.trans s2).trans D) (zX I _) (D _ _ (s2 _ _ (zX hl _))) trivial (D _ _ (zX hle _))
 | succ m =>
  obtain⟨t1,t2,t3⟩:=ve rl;obtain⟨la,lb⟩:=wq rl;have pw:2 ^ (m+1)=2 ^ m*2:=ZH ..;have p0:=ZX (n:=m);rw[Jn (show ¬ V.int (((zW row).length:Nat):Int)=V.int 1 by intro z;injection z with z;lia)];refine yF (zB ⟨p,_,rfl,.inl (SqL.of C),_,_,rfl,rfl,⟨by decide,by decide⟩,?_⟩);have eh:(((zW row).length:Nat):Int) / 2=((row.length / 2:Nat):Int):=by rw[nl];lia
  simp only[eh];refine zv (λD1 bo=>?_);refine zB (zB (zR rfl ⟨p,_,rfl,SqL.of C,λp1 Z=>?_⟩));rw[kJ row _ t3];have s1:=zD Z (.lst (zW (row.take (row.length / 2))));refine⟨m,rfl,p1,row.take (row.length / 2),rfl,zX Z _,la,by lia,λc2 U le2 N H2 s2 ba a7 R a8=>?_⟩;have u2:=s1.trans s2;refine⟨c2,_,rfl,SqT.of ba,rfl,_,_,rfl,_,_,rfl,rfl,bo _ _ ?_⟩;refine zv (λD2 bc=>?_);refine zB (zB (zR rfl ⟨p,_,rfl,SqL.of (u2 _ _ C),λp3 Y=>?_⟩));rw[kK row _ t3];have D:=zD Y (.lst (zW (row.drop (row.length / 2))));refine⟨m,rfl,p3,row.drop (row.length / 2),rfl,zX Y _,lb,by lia,λc4 S g a3 H4 s4 a9 a6 O B=>?_⟩;have u4:=D.trans s4;refine⟨c4,_,rfl,SqT.of a9,rfl,_,_,rfl,_,_,rfl,rfl,bc _ _ ?_⟩;have v:=u2.trans u4;obtain⟨xl,xf⟩:=vg m _ la;obtain⟨yl,yf⟩:=vg m _ lb;have bu:=R.len;have bt:=O.len;have b:=u4 _ _ a8;have ao:=u4 _ _ a7;have ab:=R.tups (Tups.of u4);have a5:=v _ _ C;generalize hF:(xh m (row.take (row.length / 2))).2=fst at *;generalize hS:(xh m (row.drop (row.length / 2))).2=snd at *;refine⟨(by show 0<=sizeLine;decide),λr a=>?_⟩;have s8:=zD a (.lst []);have b3:H r=none:=wm v a;have b0:le2≠r:=zJ b a;have bB:g≠r:=zJ B a;refine zB (zB ⟨le2,g,_,_,rfl,SqL.of (s8 _ _ b),SqL.of (s8 _ _ B),?_⟩);refine jX (K:=K) (b1:=true) (b2:=true) (a1:=le2) (a2:=g) (xs:=zW fst) (ys:=zW snd) (by rw[zr,zr,xl,yl]) (λj σ L=>(∃ v7 v8,σ=[some (.ref p),some (.int ((row.length / 2:Nat):Int)),some (.ref U),some (.ref le2),some (.ref S),some (.ref g),some (.ref r),v7,v8])/\Same H4 L/\L r=some (.lst (zW (ye (fst.take j) (snd.take j))))) ⟨⟨_,_,rfl⟩,s8,zX a _⟩ (λj σ L _ z=>⟨SqL.of (z.2.1 _ _ b),SqL.of (z.2.1 _ _ B)⟩) ?_ ?_
  ·rintro j x y T σ L hx hy hT ⟨⟨v7,v8,rfl⟩,i,J⟩
   obtain⟨j1,rfl⟩:=pW hx;obtain⟨j2,rfl⟩:=pW hy;have sT:=zD hT (.tup [.int ((fst.getD j 0:Nat):Int),.int ((snd.getD j 0:Nat):Int)]);refine⟨T,_,rfl,SqT.of zG,rfl,_,_,rfl,_,_,rfl,rfl,?_⟩;refine zB ⟨.inl ⟨rfl,_,SqL.of (sT _ _ J)⟩,_,rfl,_,rfl,(by show 2<=sizeLine;decide),λq hq=>?_⟩;have sq:=zD hq (.lst [.int ((fst.getD j 0:Nat):Int),.int ((snd.getD j 0:Nat):Int)]);have tl:=xc (fst.take j) (snd.take j) (by rw[Jt,Jt];lia);rw[Jt]at tl;refine⟨r,q,_,_,rfl,rfl,sq _ _ (sT _ _ J),zX hq _,by rw[zr,JB,tl];show _+2<=_;grind,?_⟩;refine⟨⟨_,_,rfl⟩,λc o e=>?_,?_⟩
   ·rw[zK (zJ e a)];exact sq _ _ (sT _ _ (i c o e))
   ·rw[vO fst snd j j1 j2]
    have e:zW (ye (fst.take j) (snd.take j)++[fst.getD j 0,snd.getD j 0])=zW (ye (fst.take j) (snd.take j))++[.int ((fst.getD j 0:Nat):Int),.int ((snd.getD j 0:Nat):Int)]:=by rw[<- cR];rfl
    rw[e];exact zG
  ·rintro σ L ⟨⟨v7,v8,rfl⟩,i,J⟩
   rw[JC (by rw[zr];exact Jf _),JC (by rw[zr];simp_all)]at J;have X:=i _ _ a5;refine zB ⟨p,_,0,_,rfl,rfl,SqL.of X,yJ (j:=0) (kL row 0 (by lia)),?_⟩;refine zB (zB ⟨p,_,_,_,rfl,rfl,SqL.of X,yJ (kL row (row.length / 2) (by lia)),(by show 2<=sizeLine;decide),λt ht=>?_⟩);have s5:=zD ht (.tup [.int ((row.getD 0 0:Nat):Int),.int ((row.getD (row.length / 2) 0:Nat):Int)]);refine⟨(by show 1<=sizeLine;decide),λl6 aT=>?_⟩;have s6:=zD aT (.lst [.ref t]);refine zB ⟨l6,U,_,_,rfl,rfl,zX aT _,s6 _ _ (s5 _ _ (i _ _ ao)),by rw[JB];simp only[JW,ZS];lia,λl7 ax=>?_⟩;have s7:=zD ax (.lst ([.ref t]++N));refine zB ⟨l7,S,_,_,rfl,rfl,zX ax _,s7 _ _ (s6 _ _ (s5 _ _ (i _ _ a6))),by rw[JB,Jc];simp only[JW,ZS];lia,λW u=>?_⟩;have M:=zD u (.lst (([.ref t]++N)++a3));have u8:=((s5.trans s6).trans s7).trans M;refine zB ⟨(by show 2<=sizeLine;decide),λc I=>?_⟩;have d:=zD I (.tup [.ref W,.ref r]);have t8:=M _ _ (s7 _ _ (s6 _ _ (zX ht (.tup [.int ((row.getD 0 0:Nat):Int),.int ((row.getD (row.length / 2) 0:Nat):Int)]))));have eN:xh (m+1) row=((row.getD 0 0,row.getD (row.length / 2) 0)::((xh m (row.take (row.length / 2))).1++(xh m (row.drop (row.length / 2))).1),ye fst snd):=by rw[<- hF,<- hS];rfl
   refine k c W r _ _ (v.trans (i.trans (u8.trans d))) (zX I _) (d _ _ (zX u _)) ?_ (by rw[eN];exact d _ _ (u8 _ _ J));refine Prs.tups (Tups.of d) ?_;rw[JV,eN];exact Prs.app (ps:=[.ref t]) (fs:=[(row.getD 0 0,row.getD (row.length / 2) 0)]) (show Prs _ [.ref t] [(row.getD 0 0,row.getD (row.length / 2) 0)] from⟨⟨t,rfl,t8⟩,trivial⟩) (Prs.app ((ab.tups (Tups.of i)).tups (Tups.of u8)) ((O.tups (Tups.of i)).tups (Tups.of u8)))
theorem jF {f:JI}{fd:Yl}(F:Fun K "_law_tree" "_law_tree" oj f fd) (G:Mgs mg) (b:Binds K fd ["_law_row"] []) (a:mg "_law_tree" = some (.ref f)):∀ n:Nat,FnOk P w K mg base CX0 (n+1) f fd ["_law_row"] (tT n)
 | 0=>nF F G b a 0 ⟨λvs H Q E ⟨m,h,_⟩=>by simp_all,λA outer s H args us vs Q E _ _ _ _ ⟨m,h,_⟩=>by simp_all⟩
 | m+1=>nF F G b a (m+1) ((jF F G b a m).imp λvs H Q E ⟨c,h,q⟩=>by cases h;exact q)
abbrev tU:Sp:=λa H Q E=>∃ m,m<=4/\tT m a H Q E
theorem iT {f:JI}{fd:Yl}(F:Fun K "_law_tree" "_law_tree" oj f fd) (G:Mgs mg) (b:Binds K fd ["_law_row"] []) (a:mg "_law_tree" = some (.ref f)):FnOk P w K mg base CX0 5 f fd ["_law_row"] tU :=
 FnOk.any 4 λm c=>(jF F G b a m).mono (by simp_all)
abbrev ou:Stmt:=top 35
def sE (m:Nat):Sp:=λc H Q _=>∃ p row,c=[.ref p]/\H p=some (.lst (zW row))/\row.length=2 ^ m/\m<=4/\∀ l b a,Same H a->a l=some (.lst b)->Prs a b (wB m row)->Q (.ref l) a
theorem zaR (row:List Nat)(j:Nat)(h:j<row.length):row.reverse.getD j 0=row.getD (row.length-1-j) 0:=by
 rw[Ja,List.getElem?_reverse h,Ja]
theorem zaF:FnScope ["_law_row","_law_half","_law_forks"] ["_law_row"] (zN ou):=by trivial
theorem nJ {f:JI}{fd:Yl}(F:Fun K "_law_block" "_law_block" ou f fd) (G:Mgs mg) (bS:Binds K fd ["_law_row"] []) (mS:mg "_law_block" = some (.ref f)) (n:Nat)
  (GS:FnOk P w K mg base CX0 n f fd ["_law_row"] (λvs H Q E=>∃ m,n=m+1/\sE m vs H Q E)):FnOk P w K mg base CX0 (n+1) f fd ["_law_row"] (sE n):=by
 have UB:Use P w K mg base "_law_block" ["_law_row"] n (λvs H Q E=>∃ m,n=m+1/\sE m vs H Q E) f fd:=⟨GS,bS,F.kp,mS⟩;refine F.ok zaF (λvs H Q E h=>?_) (λa5 A outer s H vs Q E hr h=>?_)
 ·obtain⟨p,row,rfl,_⟩:=h
  rfl
 obtain⟨p,row,rfl,u,U,ax,k⟩:=h;refine⟨_,(@zH _ _ _ _ _ (@yX _ _ _ _ _ _ _ _ (@zy _ _ _ _ _ _ _ _ xt (@zU _ _ _ _ _ _ _ _ _ zY rfl G.len JZ (@zA _ _ _ _ _ (@pvb _ 0 _ _ rfl) zC rfl) (by decide) (by decide) rfl rfl) zE (yC _)) (@zM _ _ _ (@zV _ _ _ _ (@zw _ _ _ _ zC))) yA) (@zH _ _ _ _ _ (@zi _ _ 1 _ _ _ _ zaF.nd rfl (.inl rfl) (@zQ _ _ _ _ _ _ _ _ xN (@zU _ _ _ _ _ _ _ _ _ zY rfl G.len JZ (@zA _ _ _ _ _ (@pvb _ 0 _ _ rfl) zC rfl) (by decide) (by decide) rfl rfl) zE) rfl (by trivial)) (@zH _ _ _ _ _ (@o7 _ 2 _ _ _ _ none _ _ _ _ _ _ _ _ ["_law_i","_law_row"] [none,some 0] zaF.nd rfl rfl rfl (@yw _ _ _ _ _ _ rfl G.range (@zA _ _ _ _ _ (@pvb _ 1 _ _ rfl) zC rfl) rfl) (CapOk.of (by kernel_rfl)) (λ_ _ _ _ _=>(@zP _ _ 0 _ (show (["_law_i","_law_row"]:List Str).Nodup from by decide +kernel) rfl (.inl rfl) (.inr rfl))) (λ_ _ _ _ _=>xG) (λ_ _ _ _ _=>(@zp _ _ _ _ _ (@zA _ _ _ _ _ (@zZ _ _ _ _ _ _ (eU K) zo (@pvb _ 1 _ _ rfl) (@pvb _ 0 _ _ rfl) (λ_ _=>rfl)) (@zA _ _ _ _ _ (@zZ _ _ _ _ _ _ (eU K) zo (@pvb _ 1 _ _ rfl) (@zQ _ _ _ _ _ _ _ _ wR (@zQ _ _ _ _ _ _ _ _ wR (@zU _ _ _ _ _ _ _ _ (zai K) gj rfl G.len JZ (@zA _ _ _ _ _ (@pvb _ 1 _ _ rfl) zC rfl) (by decide) (by decide) rfl rfl) zE) (@pvb _ 0 _ _ rfl)) (λ_ _=>rfl)) zC rfl) rfl))) (by intro _;rfl) (by with_unfolding_all rfl)) (@zM _ _ _ (@zV _ _ _ _ (@zQ _ _ _ _ _ _ _ _ wA (@zQ _ _ _ _ _ _ _ _ wA (@pvb _ 2 _ _ rfl) (@zT _ _ _ _ _ _ _ _ _ _ _ _ UB hr (@zA _ _ _ _ _ (@zz _ _ _ _ _ _ _ _ _ _ wz (@pvb _ 0 _ _ rfl) yN (@zu _ _ _ (@pvb _ 1 _ _ rfl))) zC rfl) rfl rfl rfl rfl)) (@zT _ _ _ _ _ _ _ _ _ _ _ _ UB hr (@zA _ _ _ _ _ (@zz _ _ _ _ _ _ _ _ _ _ wz (@pvb _ 0 _ _ rfl) (@zu _ _ _ (@pvb _ 1 _ _ rfl)) yN) zC rfl) rfl rfl rfl rfl))))))),?_⟩;have nl:=zr row;have p8:2 ^ n<=2 ^ 4:=Zc (by decide) ax;have e8:2 ^ 4=16:=rfl;refine zB ⟨p,_,rfl,.inl (SqL.of u),rfl,_,rfl,?_⟩
 cases n with
 | zero =>
  have ab:row.length=1:=U;rw[Jw (show V.int (((zW row).length:Nat):Int)=V.int 1 by rw[nl,ab];rfl)]
  exact yZ ⟨(by show 0<=sizeLine;decide),λl hl=>k l [] _ (zD hl _) (zX hl _) trivial⟩
 | succ m =>
  obtain⟨t1,t2,t3⟩:=ve U;obtain⟨la,lb⟩:=wq U;have pw:2 ^ (m+1)=2 ^ m*2:=ZH ..;have p0:=ZX (n:=m);rw[Jn (show ¬ V.int (((zW row).length:Nat):Int)=V.int 1 by intro z;injection z with z;lia)];refine yF (zB ⟨p,_,rfl,.inl (SqL.of u),_,_,rfl,rfl,⟨by decide,by decide⟩,?_⟩);have eh:(((zW row).length:Nat):Int) / 2=((row.length / 2:Nat):Int):=by rw[nl];lia
  simp only[eh];refine zB ⟨((row.length / 2:Nat):Int),rfl,by lia,by lia,λlc I=>?_⟩;refine ng (lo:=0) (n:=((row.length / 2:Nat):Int).toNat) (λj acc σ q=>(∃ M,σ=[M,some (.ref p)])/\Same H q/\q lc=some (.lst acc)/\acc.length=j/\Prs q acc (((row.take (row.length / 2)).zip row.reverse).take j)) ⟨⟨_,rfl⟩,zD I _,zG,rfl,trivial⟩ (λj acc σ q z=>z.2.2.1) ?_ ?_
  ·rintro j acc σ q hj ⟨⟨M,rfl⟩,r,X,al,a⟩
   have jl:j<row.length / 2:=by lia
   have b:=r _ _ u;have e0:(0:Int)+((j:Nat):Int)=((j:Nat):Int):=Int.zero_add _;refine zB (zB ⟨p,_,_,_,rfl,rfl,SqL.of b,(by rw[e0];exact yJ (kL row j (by grind))),?_⟩);refine zB (zB ⟨p,_,rfl,.inl (SqL.of b),_,_,rfl,rfl,_,rfl,_,_,rfl,rfl,?_⟩);have ei:(((zW row).length:Nat):Int)-1-(0+((j:Nat):Int))=((row.length-1-j:Nat):Int):=by rw[nl];grind
   refine⟨p,_,_,_,rfl,rfl,SqL.of b,(by rw[ei];exact yJ (kL row (row.length-1-j) (by lia))),?_⟩;rw[<- zaR row j (by grind)];refine⟨(by show 2<=sizeLine;decide),λt ht=>?_⟩;have T:=zD ht (.tup [.int ((row.getD j 0:Nat):Int),.int ((row.reverse.getD j 0:Nat):Int)]);have W:=T _ _ X;refine⟨W,by rw[JB];lia,nx hj ⟨⟨_,rfl⟩,λc o e=>?_,zG,by rw[Jc,al];rfl,?_⟩⟩
   ·rw[zK (zJ e I)];exact T _ _ (r c o e)
   ·rw[oK (by rw[Jt];simp_all) (by rw[Zh];grind)]
    refine Prs.add (f:=((row.take (row.length / 2)).getD j 0,row.reverse.getD j 0)) ?_ ((a.tups (Tups.of T)).tups (Tups.lst W));rw[Tups.lst W _ _ (zX ht _),Ja (l:=row.take _),Ze jl,<- Ja]
  rintro acc σ q ⟨⟨M,rfl⟩,r,X,al,a⟩;rw[Y3]at al a;rw[JC (by rw[ZU,Jt,Zh];simp_all)]at a;have b:=r _ _ u;refine zB (zB (zB (zR rfl ⟨p,_,rfl,SqL.of b,λp5 D=>?_⟩)));rw[kJ row _ t3];have s5:=zD D (.lst (zW (row.take (row.length / 2))));refine⟨m,rfl,p5,row.take (row.length / 2),rfl,zX D _,la,by lia,λl6 i H7 Z a0 d=>?_⟩;have R:=s5.trans Z;have b6:=wO m (row.take (row.length / 2));rw[la]at b6;have a6:m*2 ^ m<=4*16:=Nat.mul_le_mul (by lia) (by lia);have a4:=d.len;refine⟨lc,l6,_,_,rfl,rfl,R _ _ X,a0,by rw[JB];lia,λl7 J=>?_⟩;have S:=zD J (.lst (acc++i));have y:=(Prs.app (a.tups (Tups.of R)) d).tups (Tups.of S);have O:=r.trans (R.trans S);have C:=O _ _ u;have h8:=zX J (.lst (acc++i));generalize L2.upd H7 l7 _=H8 at S y O C h8 ⊢;refine zB (zB (zR rfl ⟨p,_,rfl,SqL.of C,λp9 B=>?_⟩));rw[kK row _ t3];have s9:=zD B (.lst (zW (row.drop (row.length / 2))));refine⟨m,rfl,p9,row.drop (row.length / 2),rfl,zX B _,lb,by lia,λl9 ao H9 Y h9 x=>?_⟩;have N:=s9.trans Y;have b9:=wO m (row.drop (row.length / 2));rw[lb]at b9;have a3:=x.len;refine⟨l7,l9,_,_,rfl,rfl,N _ _ h8,h9,by rw[Jc,JB];lia,λaT g=>?_⟩;have v:=zD g (.lst ((acc++i)++ao));have L:=(Prs.app (y.tups (Tups.of N)) x).tups (Tups.of v);refine k aT _ _ (O.trans (N.trans v)) (zX g _) ?_
  have e:wB (m+1) row=(row.take (row.length / 2)).zip row.reverse++wB m (row.take (row.length / 2))++wB m (row.drop (row.length / 2)):=by
   conv=>lhs;unfold wB
   rw[Jg (by lia)]
  rw[e];exact L
theorem jI {f:JI}{fd:Yl}(F:Fun K "_law_block" "_law_block" ou f fd) (G:Mgs mg) (b:Binds K fd ["_law_row"] []) (a:mg "_law_block" = some (.ref f)):∀ n:Nat,FnOk P w K mg base CX0 (n+1) f fd ["_law_row"] (sE n)
 | 0=>nJ F G b a 0 ⟨λvs H Q E ⟨m,h,_⟩=>by simp_all,λA outer s H args us vs Q E _ _ _ _ ⟨m,h,_⟩=>by simp_all⟩
 | m+1=>nJ F G b a (m+1) ((jI F G b a m).imp λvs H Q E ⟨c,h,q⟩=>by cases h;exact q)
abbrev sF:Sp:=λa H Q E=>∃ m,m<=4/\sE m a H Q E
theorem ig {f:JI}{fd:Yl}(F:Fun K "_law_block" "_law_block" ou f fd) (G:Mgs mg) (b:Binds K fd ["_law_row"] []) (a:mg "_law_block" = some (.ref f)):FnOk P w K mg base CX0 5 f fd ["_law_row"] sF :=
 FnOk.any 4 λm c=>(jI F G b a m).mono (by simp_all)
abbrev eF:Stmt:=top 37
def xV (way k:Nat):Nt:=if way=0 then x8 k else if way=1 then vh k else xL k
theorem aa {way k:Nat}(h:k<5):(xV way k).Ok:=by
 unfold xV;split
 ·exact fZ h
 ·split
  ·exact be h
  ·exact iJ h
theorem kI (way k:Nat):(xV way k).lanes=2 ^ k:=by
 unfold xV;split
 ·rfl
 ·split<;>rfl
def mo:Sp:=λb H Q _=>∃ way k:Nat,b=[.int (way:Nat),.int (k:Nat)]/\k<5/\∀ r fr d c a,Same H a->NetAt a r fr d c (xV way k)->Q (.ref r) a
theorem pO {H:Hp}{ps:List V}{fs:List Fk}(h:Prs H ps fs):∀ n:Nat,Prs H (List.replicate n ps).flatten (List.replicate n fs).flatten
 | 0=>trivial
 | n+1=>by
  rw[Yn,Yn,W0,W0];exact Prs.app h (pO h n)
theorem mw:FnScope ["_law_way","_law_k","_law_row","_law_forks","_law_ends_here"] ["_law_way","_law_k"] (zN eF):=by trivial
theorem aO {f fB fS fT:JI}{fd dB dS dT:Yl}(F:Fun K "_law_made" "_law_made" eF f fd) (G:Mgs mg) (UB:Use P w K mg base "_law_block" ["_law_row"] 5 sF fB dB) (US:Use P w K mg base "_law_stairway" ["_law_row"] 10 tW fS dS) (UT:Use P w K mg base "_law_tree" ["_law_row"] 5 tU fT dT):FnOk P w K mg base CX0 11 f fd ["_law_way","_law_k"] mo:=by
 refine F.ok mw (λvs H Q E h=>?_) (λax A outer s H vs Q E hr h=>?_)
 ·obtain⟨way,k,rfl,_⟩:=h
  rfl
 obtain⟨way,k,rfl,k5,q⟩:=h;have L:Room 5 _:=hr.mono (by decide);refine⟨_,(@zH _ _ _ _ _ (@zi _ _ 2 _ _ _ _ mw.nd rfl (.inl rfl) (@qC _ _ _ _ _ _ _ rfl rfl G.list rfl G.range (@zA _ _ _ _ _ (@zZ _ _ _ _ _ _ _ zo (@zw _ _ _ _ (@zA _ _ _ _ _ zE (@zA _ _ _ _ _ zE (@zA _ _ _ _ _ zE (@zA _ _ _ _ _ zE (@zA _ _ _ _ _ zE zC rfl) rfl) rfl) rfl) rfl)) (@pvb _ 1 _ _ rfl) (λ_ _=>rfl)) zC rfl) rfl rfl) rfl (by trivial)) (@zH _ _ _ _ _ (@lV _ _ 3 4 _ _ _ _ _ _ _ _ _ _ _ rfl mw.nd rfl rfl (by decide) rfl rfl (@zA _ _ _ _ _ (@zQ _ _ _ _ _ _ _ _ dc (@zT _ _ _ _ _ _ _ _ _ _ _ _ UB L (@zA _ _ _ _ _ (@pvb _ 2 _ _ rfl) zC rfl) rfl rfl rfl rfl) (@pvb _ 1 _ _ rfl)) (@zA _ _ _ _ _ (@pvb _ 2 _ _ rfl) zC rfl) rfl) rfl rfl) (@zH _ _ _ _ _ (@yX _ _ _ _ _ _ _ _ (@zy _ _ _ _ _ _ _ _ xt (@pvb _ 0 _ _ rfl) zE (yC _)) (@zM _ _ _ (@yU _ _ _ _ _ _ (@zT _ _ _ _ _ _ _ _ _ _ _ _ US hr (@zA _ _ _ _ _ (@pvb _ 2 _ _ rfl) zC rfl) rfl rfl rfl rfl) (@yR _ _ _ _ _ _ rfl (@zS _ _ _ _ _ (@zP _ _ 3 _ mw.nd rfl (.inl rfl) (by trivial)) (@zS _ _ _ _ _ (@zP _ _ 4 _ mw.nd rfl (.inl rfl) (by trivial)) yD rfl) rfl) rfl rfl) rfl rfl rfl)) yA) (@zH _ _ _ _ _ (@yX _ _ _ _ _ _ _ _ (@zy _ _ _ _ _ _ _ _ xt (@pvb _ 0 _ _ rfl) zE (yC _)) (@zM _ _ _ (@yU _ _ _ _ _ _ (@zT _ _ _ _ _ _ _ _ _ _ _ _ UT L (@zA _ _ _ _ _ (@pvb _ 2 _ _ rfl) zC rfl) rfl rfl rfl rfl) (@yR _ _ _ _ _ _ rfl (@zS _ _ _ _ _ (@zP _ _ 3 _ mw.nd rfl (.inl rfl) (by trivial)) (@zS _ _ _ _ _ (@zP _ _ 4 _ mw.nd rfl (.inl rfl) (by trivial)) yD rfl) rfl) rfl rfl) rfl rfl rfl)) yA) (@zM _ _ _ (@zV _ _ _ _ (@zp _ _ _ _ _ (@zA _ _ _ _ _ (@zU _ _ _ _ _ _ _ _ _ zY rfl G.len JZ (@zA _ _ _ _ _ (@pvb _ 2 _ _ rfl) zC rfl) (by decide) (by decide) rfl rfl) (@zA _ _ _ _ _ (@zj _ _ _ _ _ _ _ _ _ zt rfl G.tuple rfl (@zA _ _ _ _ _ (@pvb _ 3 _ _ rfl) zC rfl) (by decide) (by decide) rfl rfl) (@zA _ _ _ _ _ (@zj _ _ _ _ _ _ _ _ _ zt rfl G.tuple rfl (@zA _ _ _ _ _ (@pvb _ 4 _ _ rfl) zC rfl) (by decide) (by decide) rfl rfl) zC rfl) rfl) rfl)))))))),?_⟩;have ab:2 ^ k<=2 ^ 4:=Zc (by decide) (by lia);have ao:2 ^ 4=16:=rfl
 have O:atI [V.int 1,V.int 2,V.int 4,V.int 8,V.int 16] ((k:Nat):Int)=some (.int ((2 ^ k:Nat):Int)):=by
  have:∀ k,k<5->atI [V.int 1,V.int 2,V.int 4,V.int 8,V.int 16] ((k:Nat):Int)=some (.int ((2 ^ k:Nat):Int)):=by decide
  exact this k k5
 refine⟨(by show 5<=sizeLine;decide),λt ht=>?_⟩;have s0:=zD ht (.lst [.int 1,.int 2,.int 4,.int 8,.int 16]);refine zB ⟨t,_,_,_,rfl,rfl,SqL.of zG,O,?_⟩;refine⟨2 ^ k,rfl,by lia,λp hp=>?_⟩;have s1:=zD hp (.lst (zW (List.range (2 ^ k))));have Z:=s0.trans s1;have g:=zX hp (.lst (zW (List.range (2 ^ k))));show qh _ _ _ _ (L2.upd _ p (.lst (zW (List.range (2 ^ k)))));generalize L2.upd _ p (.lst (zW (List.range (2 ^ k))))=H1 at Z g ⊢;clear s0 s1 hp;refine zB ⟨k,by lia,p,List.range (2 ^ k),rfl,g,Y7,by lia,λl T H2 i hl pr=>?_⟩;have pl:=pr.len;have bl:=wO k (List.range (2 ^ k));rw[Y7]at bl;have b2:k*2 ^ k<=4*2 ^ 4:=Nat.mul_le_mul (by lia) ab;have b3:T.length*k<=(4*2 ^ 4)*4:=Nat.mul_le_mul (by lia) (by lia);refine zB ⟨l,k,T,rfl,rfl,hl,by simp_all,by lia,by rw[Y3,JB];lia,λW x=>?_⟩;rw[Y3];have m:=zD x (.lst (List.replicate k T).flatten);refine zB ⟨_,_,rfl,?_⟩
 let I:Nt->St->Hp->Prop:=λN σ G=>∃ lf le n,σ=[some (.int (way:Nat)),some (.int (k:Nat)),some (.ref p),some (.ref lf),some (.ref le)]/\Same H G/\G p=some (.lst (zW (List.range (2 ^ k))))/\G lf=some (.lst n)/\Prs G n N.forks/\G le=some (.lst (zW N.ends))
 have i0:I (xL k) [some (.int (way:Nat)),some (.int (k:Nat)),some (.ref p),some (.ref W),some (.ref p)] (L2.upd H2 W (.lst (List.replicate k T).flatten)):=⟨W,p,_,rfl,(Z.trans i).trans m,m _ _ (i _ _ g),zX x _,(pO pr k).tups (Tups.of m),m _ _ (i _ _ g)⟩;dsimp only;refine pj (I (if way=0 then x8 k else xL k)) ?_ λD j _=>?_
 ·rintro σ G ⟨lf,le,n,rfl,C,d,X,U,Y⟩
  refine pj (I (xV way k)) ?_ λD j _=>?_
  ·rintro σ G ⟨lf,le,n,rfl,C,d,X,U,Y⟩
   refine zB ⟨p,_,rfl,.inl (SqL.of d),_,rfl,lf,_,rfl,.inl ⟨SqL.of X,λa ha=>?_⟩⟩;have s4:=zD ha (.tup n);refine zB ⟨le,_,rfl,.inl ⟨SqL.of (s4 _ _ Y),λb hb=>?_⟩⟩;have s5:=zD hb (.tup (zW (xV way k).ends));refine⟨(by show 3<=sizeLine;decide),λr M=>?_⟩;rw[zr,Y7];have S:=zD M (.tup [.int ((2 ^ k:Nat):Int),.ref a,.ref b]);refine q r a b n _ (((C.trans s4).trans s5).trans S) ⟨?_,S _ _ (s5 _ _ (zX ha _)),U.tups (Tups.of ((s4.trans s5).trans S)),S _ _ (zX hb _)⟩;rw[kI];exact zX M _
  ·refine zB ⟨rfl,_,rfl,?_⟩
   by_cases R:way=1
   ·rw[Jw (show V.int ((way:Nat):Int)=V.int 1 by rw[R];rfl)]
    refine yZ (zB ⟨k,by lia,p,List.range (2 ^ k),rfl,d,Y7,by lia,λc v le2 o G2 i hc y u B=>?_⟩);refine⟨c,_,rfl,SqT.of hc,rfl,_,_,rfl,_,_,rfl,rfl,?_⟩;refine j _ _ ⟨v,le2,o,rfl,C.trans i,i _ _ d,y,?_,?_⟩
    ·rw[show xV way k=vh k from by unfold xV;rw[Jg (by lia),Jj R]];exact u
    ·rw[show xV way k=vh k from by unfold xV;rw[Jg (by lia),Jj R]];exact B
   ·rw[Jn (show ¬ V.int ((way:Nat):Int)=V.int 1 by intro z;injection z with z;lia)]
    have e:xV way k=if way=0 then x8 k else xL k:=by unfold xV;rw[Jg R]
    refine yF (j _ _ ⟨lf,le,n,rfl,C,d,X,?_,?_⟩)
    ·rw[e];exact U
    ·rw[e];exact Y
 ·obtain⟨lf,le,n,e,C,d,X,U,Y⟩:=i0
  refine zB ⟨rfl,_,rfl,?_⟩;by_cases J:way=0
  ·rw[Jw (show V.int ((way:Nat):Int)=V.int 0 by rw[J];rfl)]
   refine yZ (zB ⟨k,by lia,p,List.range (2 ^ k),rfl,d,Y7,by lia,λc v le2 o G2 i hc y u B=>?_⟩);refine⟨c,_,rfl,SqT.of hc,rfl,_,_,rfl,_,_,rfl,rfl,?_⟩;refine j _ _ ⟨v,le2,o,rfl,C.trans i,i _ _ d,y,?_,?_⟩
   ·rw[Jj J];exact u
   ·rw[Jj J];exact B
  ·rw[Jn (show ¬ V.int ((way:Nat):Int)=V.int 0 by intro z;injection z with z;simp_all)]
   refine yF (j _ _ ⟨W,p,_,rfl,(Z.trans i).trans m,m _ _ (i _ _ g),zX x _,?_,?_⟩)
   ·rw[Jg J];exact(pO pr k).tups (Tups.of m)
   ·rw[Jg J];exact m _ _ (i _ _ g)
abbrev eE:Stmt:=top 40
abbrev lE:Stmt:=top 41
def mn:Sp:=λb H Q _=>∃ l:JI,b=[.ref l]/\Pk3 H l/\∀ r fr d c N a,Few 6 10 N->NetAt a r fr d c N->Pk3 a l->But l H a->Q (.ref r) a
structure Lns (lanes:Nat) (moves:List Nat):Prop where
 ne:moves≠[]
 lt:∀ m∈moves,m<lanes
 up:moves.Pairwise (· < ·)
def qk:Sp:=λb H Q _=>∃ l r fr d c N,b=[.ref l,.ref r]/\Pk3 H l/\Nt.Ok N/\NetAt H r fr d c N/\∀ p moves a,Lns N.lanes moves->a p=some (.tup (zW moves))->Pk3 a l->But l H a->Q (.ref p) a
theorem cQ (way:Nat){k:Nat}(h:k<3):(xV way k).forks.length<=8/\(xV way k).lanes<=4:=by
 have s:∀ k,k<3->(x8 k).forks.length<=8/\(x8 k).lanes<=4:=by decide
 have t:∀ k,k<3->(vh k).forks.length<=8/\(vh k).lanes<=4:=by decide
 have r:∀ k,k<3->(xL k).forks.length<=8/\(xL k).lanes<=4:=by decide
 unfold xV;split
 ·exact s k h
 ·split
  ·exact t k h
  ·exact r k h
theorem Lns.all {lanes:Nat}(h:1<=lanes):Lns lanes (List.range lanes):=⟨λz=>by have:=JS List.length z;rw[Y7,ZS]at this;lia,λm a=>Y2.mp a,List.pairwise_lt_range⟩
theorem fu:FnScope ["_law_left_here","_law_way","_law_net_here","_law_k"] ["_law_left_here"] (zN eE):=by trivial
theorem aN {f fK fA fM fC:JI}{fd dK dA dM dC:Yl}(F:Fun K "_law_net" "_law_net" eE f fd) (G:Mgs mg) (B:Use P w K mg base "_law_pick" ["_law_left_here","_law_many"] 1 yu fK dK) (UA:Use P w K mg base "_law_any" ["_law_left_here"] 3 mt fA dA) (UM:Use P w K mg base "_law_made" ["_law_way","_law_k"] 11 mo fM dM) (UC:Use P w K mg base "_law_changed" ["_law_left_here","_law_net_here"] 2 fj fC dC):FnOk P w K mg base CX0 12 f fd ["_law_left_here"] mn:=by
 refine F.ok fu (λvs H Q E h=>?_) (λao A outer s H vs Q E y h=>?_)
 ·obtain⟨l,rfl,_⟩:=h
  rfl
 obtain⟨l,rfl,S,k⟩:=h;have e:Room 1 _:=y.mono (by decide);have T:Room 2 _:=y.mono (by decide);have R:Room 3 _:=y.mono (by decide);refine⟨_,(@zH _ _ _ _ _ (@zi _ _ 1 _ _ _ _ fu.nd rfl (.inl rfl) (@zT _ _ _ _ _ _ _ _ _ _ _ _ B e (@zA _ _ _ _ _ (@pvb _ 0 _ _ rfl) (@zA _ _ _ _ _ zE zC rfl) rfl) rfl rfl rfl rfl) rfl (by trivial)) (@zH _ _ _ _ _ (@yX _ _ _ _ _ _ _ _ (@zy _ _ _ _ _ _ _ _ xt (@pvb _ 1 _ _ rfl) zE (yC _)) (@zM _ _ _ (@zV _ _ _ _ (@zT _ _ _ _ _ _ _ _ _ _ _ _ UA R (@zA _ _ _ _ _ (@pvb _ 0 _ _ rfl) zC rfl) rfl rfl rfl rfl))) yA) (@zH _ _ _ _ _ (@zi _ _ 2 _ _ _ _ fu.nd rfl (.inl rfl) (@zT _ _ _ _ _ _ _ _ _ _ _ _ UM y (@zA _ _ _ _ _ (@zT _ _ _ _ _ _ _ _ _ _ _ _ B e (@zA _ _ _ _ _ (@pvb _ 0 _ _ rfl) (@zA _ _ _ _ _ zE zC rfl) rfl) rfl rfl rfl rfl) (@zA _ _ _ _ _ (@zZ _ _ _ _ _ _ _ zo (@zw _ _ _ _ (@zA _ _ _ _ _ zE (@zA _ _ _ _ _ zE (@zA _ _ _ _ _ zE (@zA _ _ _ _ _ zE zC rfl) rfl) rfl) rfl)) (@zT _ _ _ _ _ _ _ _ _ _ _ _ B e (@zA _ _ _ _ _ (@pvb _ 0 _ _ rfl) (@zA _ _ _ _ _ zE zC rfl) rfl) rfl rfl rfl rfl) (λ_ _=>rfl)) zC rfl) rfl) rfl rfl rfl rfl) rfl (by trivial)) (@zH _ _ _ _ _ (@xH _ _ _ _ _ _ _ _ Yi rfl (@yw _ _ _ _ _ _ rfl G.range (@zA _ _ _ _ _ (@zQ _ _ _ _ _ _ _ _ xT (@zZ _ _ _ _ _ _ _ zo (@zw _ _ _ _ (@zA _ _ _ _ _ zE (@zA _ _ _ _ _ zE (@zA _ _ _ _ _ zE (@zA _ _ _ _ _ zE zC rfl) rfl) rfl) rfl)) (@pvb _ 1 _ _ rfl) (λ_ _=>rfl)) (@zT _ _ _ _ _ _ _ _ _ _ _ _ B e (@zA _ _ _ _ _ (@pvb _ 0 _ _ rfl) (@zA _ _ _ _ _ zE zC rfl) rfl) rfl rfl rfl rfl)) zC rfl) rfl) (@zP _ _ 3 _ fu.nd rfl (.inl rfl) (by trivial)) (@zM _ _ _ (@zi _ _ 2 _ _ _ _ fu.nd rfl (.inl rfl) (@zT _ _ _ _ _ _ _ _ _ _ _ _ UC T (@zA _ _ _ _ _ (@pvb _ 0 _ _ rfl) (@zA _ _ _ _ _ (@pvb _ 2 _ _ rfl) zC rfl) rfl) rfl rfl rfl rfl) rfl (by trivial))) (by intro _;rfl)) (@zM _ _ _ (@zV _ _ _ _ (@pvb _ 2 _ _ rfl))))))),?_⟩;refine zB ⟨l,4,rfl,by decide,by decide,S,λway H1 hw S1 B1=>?_⟩;refine zB ⟨rfl,_,rfl,pi (λ_=>?_) (λz=>?_)⟩
 ·exact zB ⟨l,rfl,S1,λr fr c b N d a na j o=>k r fr c b N d ⟨a.ok,a.ln,by have:=a.fk;lia⟩ na j (B1.trans o)⟩
 refine zB ⟨l,3,rfl,by decide,by decide,S1,λkd d hk j o=>?_⟩;refine⟨(by show 4<=sizeLine;decide),λt g=>zB ⟨l,4,rfl,by decide,by decide,j.keep (zD g _),λv H3 hv I q=>?_⟩⟩;obtain⟨sz,Y,Z⟩:=tK (xs:=[1,2,2,0]) (v:=v) (by show v<4;lia);have zb:sz<3:=(show ∀ n∈[1,2,2,0],n<3 by decide) sz Y;refine⟨t,_,_,_,rfl,rfl,SqL.of (q t _ (zX g _) (j.ne g).symm),Z,?_⟩;have X:But l H H3:=((B1.trans o).trans (But.of (zD g _))).trans q;clear g q Z Y;refine⟨kd,sz,rfl,by lia,λr fr c b H4 s4 M=>?_⟩;obtain⟨m1,m2⟩:=cQ kd zb;have S4:=I.keep s4;have B4:=X.trans (But.of (l:=l) s4);refine⟨(by show 4<=sizeLine;decide),λt g=>?_⟩;have x:=zD g (.lst [.int 0,.int 1,.int 1,.int 2]);obtain⟨m,mm,ma⟩:=tK (xs:=[0,1,1,2]) (v:=way) (by show way<4;lia);have mb:m<=2:=(show ∀ n∈[0,1,1,2],n<=2 by decide) m mm;refine zB ⟨t,_,_,_,rfl,rfl,SqL.of (zX g _),ma,?_⟩;refine zB ⟨l,2,rfl,by decide,by decide,S4.keep x,λp H5 ab S5 B5=>?_⟩;have L:=(M.tups (Tups.of x)).tups (B5.tups3 (S4.keep x));have W:=(B4.trans (But.of (l:=l) x)).trans B5
 have pb:m*p<=2:=by
  have:m*p<=2*1:=Nat.mul_le_mul mb (by lia);lia
 have D:((m:Nat):Int)*((p:Nat):Int)=((m*p:Nat):Int):=(Int.natCast_mul _ _).symm;refine⟨_,_,rfl,rfl,.inl ⟨by lia,by lia⟩,?_⟩;refine zR rfl ⟨by rw[D];lia,by rw[D];lia,?_⟩;rw[D];generalize m*p=cnt at pb;refine wH (lo:=0) (n:=((cnt:Nat):Int).toNat) (λi σ d=>∃ C r fr c b N,σ=[some (.ref l),some (.int (way:Nat)),some (.ref r),C]/\Pk3 d l/\But l H d/\NetAt d r fr c b N/\Few 6 (8+i) N) ⟨_,r,fr,c,b,_,rfl,S5,W,L,aa (by lia),by lia,by lia⟩ ?_ ?_
 ·rintro i σ d hi ⟨C,r,fr,c,b,N,rfl,j,o,na,a⟩
  refine zB (zB ⟨l,r,fr,c,b,N,6,8+i,rfl,j,a,by lia,na,λr' U V J N' H3 u _ O I q=>?_⟩);exact⟨_,r',U,V,J,N',rfl,I,o.trans q,O,u⟩
 ·rintro σ d ⟨C,r,fr,c,b,N,rfl,j,o,na,a⟩
  exact zB (k r fr c b N d ⟨a.ok,a.ln,by have:=a.fk;lia⟩ na j o)
theorem zbI:FnScope ["_law_left_here","_law_net_here","_law_some_here"] ["_law_left_here","_law_net_here"] (zN lE):=by trivial
theorem dk {f fK:JI}{fd dK:Yl}(F:Fun K "_law_some" "_law_some" lE f fd) (G:Mgs mg) (UK:Use P w K mg base "_law_pick" ["_law_left_here","_law_many"] 1 yu fK dK):FnOk P w K mg base CX0 2 f fd ["_law_left_here","_law_net_here"] qk:=by
 refine F.ok zbI (λvs H Q E h=>?_) (λa4 A outer s H vs Q E hr h=>?_)
 ·obtain⟨l,r,fr,er,ps,N,rfl,_⟩:=h
  rfl
 obtain⟨l,r,fr,er,ps,N,rfl,S,ok,na,k⟩:=h;have a3:=ok.l16;have l1:=ok.l1;refine⟨_,(@zH _ _ _ _ _ (@o7 _ 2 _ _ _ _ (some _) _ _ _ _ _ _ _ _ ["_law_lane","_law_left_here"] [none,some 0] zbI.nd rfl rfl rfl (@yw _ _ _ _ _ _ rfl G.range (@zA _ _ _ _ _ (@zZ _ _ _ _ _ _ _ yL (@pvb _ 1 _ _ rfl) zE (λ_ _=>rfl)) zC rfl) rfl) (CapOk.of (by kernel_rfl)) (λ_ _ _ _ _=>(@zP _ _ 0 _ (show (["_law_lane","_law_left_here"]:List Str).Nodup from by decide +kernel) rfl (.inl rfl) (.inr rfl))) (λ_ _ _ _ _=>(@bv _ _ _ (@zy _ _ _ _ _ _ _ _ xt (@zT _ _ _ _ _ _ _ _ _ _ _ _ UK hr (@zA _ _ _ _ _ (@pvb _ 1 _ _ rfl) (@zA _ _ _ _ _ zE zC rfl) rfl) rfl rfl rfl rfl) zE (yC _)))) (λ_ _ _ _ _=>(@pvb _ 0 _ _ rfl)) (by intro _;rfl) (by with_unfolding_all rfl)) (@zM _ _ _ (@zV _ _ _ _ (@zZ _ _ _ _ _ _ _ zo (@zw _ _ _ _ (@zA _ _ _ _ _ (@uS _ _ _ _ _ _ _ rfl rfl G.tuple rfl G.range (@zA _ _ _ _ _ (@zZ _ _ _ _ _ _ _ yL (@pvb _ 1 _ _ rfl) zE (λ_ _=>rfl)) zC rfl) rfl rfl) (@zA _ _ _ _ _ (@nA _ _ _ _ _ _ _ _ (@zy _ _ _ _ _ _ _ _ (de hr.units0) (@pvb _ 2 _ _ rfl) (@zw _ _ _ _ zC) (yC _)) (@zj _ _ _ _ _ _ _ _ _ zt rfl G.tuple rfl (@zA _ _ _ _ _ (@pvb _ 2 _ _ rfl) zC rfl) (by decide) (by decide) rfl rfl) (@zp _ _ _ _ _ (@zA _ _ _ _ _ (@zT _ _ _ _ _ _ _ _ _ _ _ _ UK hr (@zA _ _ _ _ _ (@pvb _ 0 _ _ rfl) (@zA _ _ _ _ _ (@zZ _ _ _ _ _ _ _ yL (@pvb _ 1 _ _ rfl) zE (λ_ _=>rfl)) zC rfl) rfl) rfl rfl rfl rfl) zC rfl))) zC rfl) rfl)) (@zT _ _ _ _ _ _ _ _ _ _ _ _ UK hr (@zA _ _ _ _ _ (@pvb _ 0 _ _ rfl) (@zA _ _ _ _ _ zE zC rfl) rfl) rfl rfl rfl rfl) (λ_ _=>rfl))))),?_⟩;refine zB ⟨r,_,_,_,rfl,rfl,SqT.of na.net,rfl,_,rfl,by lia,by lia,λlc u=>?_⟩;have M:=S.ne u;have a0:Frs l H lc:=λb o e _=>zJ e u;refine qK (lo:=0) (n:=((N.lanes:Nat):Int).toNat) (λi acc σ C=>(∃ v0,σ=[v0,some (.ref l)])/\Pk3 C l/\But l H C/\C lc=some (.lst acc)/\∃ ms:List Nat,acc=zW ms/\ms.length<=i/\(∀ m∈ms,m<i)/\ms.Pairwise (· < ·)) ⟨⟨_,rfl⟩,S.upd M,But.of (zD u _),zX u _,[],rfl,Jf _,λm J=>(nomatch J),.nil⟩ (λi acc σ C z=>z.2.2.2.1) ?_ ?_
 ·rintro i acc σ C hi ⟨⟨v0,rfl⟩,S2,X,U,ms,rfl,ml,mlt,mp⟩
  refine zB ⟨l,2,rfl,by decide,by decide,S2,λv H3 Z S3 B3=>⟨rfl,_,rfl,?_⟩⟩;have h3:=B3 lc _ U M.symm;have e0:(0:Int)+((i:Nat):Int)=((i:Nat):Int):=Int.zero_add _;refine pi (λ_=>?_) (λ_=>?_)
  ·refine zB ⟨h3,by rw[zr,JB];lia,nx (by lia) ⟨⟨_,rfl⟩,S3.upd M,(X.trans B3).upd a0,zG,ms++[i],?_,by rw[Jc];show _+1<=_;lia,λm J=>?_,?_⟩⟩
   ·rw[<- cR,e0];rfl
   ·rcases Jv.mp J with y|y
    ·have:=mlt m y;lia
    ·rw[Jd.mp y];lia
   ·refine Yr.mpr ⟨mp,List.pairwise_singleton _ _,λa ha b hb=>?_⟩
    rw[Jd.mp hb];exact mlt a ha
  ·exact nx (by lia) ⟨⟨_,rfl⟩,S3,X.trans B3,h3,ms,rfl,by lia,λm J=>by have:=mlt m J;lia,mp⟩
 rintro acc σ C ⟨⟨v0,rfl⟩,S2,X,U,ms,rfl,ml,mlt,mp⟩;rw[Y3]at ml mlt;have O:=na.tups (X.tups3 S);refine zB ⟨r,_,_,_,rfl,rfl,SqT.of O.net,rfl,N.lanes,rfl,by lia,λD R=>?_⟩;have Y:=zD R (.tup (zW (List.range N.lanes)));have h1:=zX R (.tup (zW (List.range N.lanes)));have T:=Y _ _ U;have S1:=S2.keep Y;have B1:=X.trans (But.of (l:=l) Y);have ab:=O.tups (Tups.of Y);show fY _ _ _ (L2.upd C D (.tup (zW (List.range N.lanes)))) _;generalize L2.upd C D (.tup (zW (List.range N.lanes)))=H3 at *;clear U Y S2 X O R;refine zB ⟨(by show 0<=sizeLine;decide),λe he=>?_⟩;have I:=zD he (.lst []);refine⟨lc,e,_,rfl,rfl,SqL.of (I _ _ T),SqL.of (zX he _),_,rfl,?_⟩;have aT:=I _ _ T;have ao:=I _ _ h1;have S4:=S1.keep I;have B4:=B1.trans (But.of (l:=l) I);have ax:=ab.tups (Tups.of I);generalize L2.upd H3 e (.lst [])=H4 at *;clear T h1 S1 B1 ab I he
 have fin:∀ (p:JI) (moves:List Nat) (B:Hp),Lns N.lanes moves->B p=some (.tup (zW moves))->B D=some (.tup (zW (List.range N.lanes)))->Pk3 B l->But l H B->∀ q,B q=none->∀ (v:Nat) (d:Hp),(v:Int)<2->Pk3 d l->But l (L2.upd B q (.lst [.ref D,.ref p])) d->∃ a xs j x,V.ref q=.ref a/\V.int (v:Nat)=.int j/\SqL K d a xs/\atI xs j=some x/\Q x d:=λp moves B ln U h1 S5 B5 q c v d Z W L=>by
  have s5:=zD c (.lst [.ref D,.ref p]);have t6:=(Tups.of s5).trans (L.tups3 (S5.keep s5));have B':=(B5.trans (But.of (l:=l) s5)).trans L
  have hx:∃ x,[V.ref D,V.ref p][v]?=some x/\Q x d:=by
   rcases v with _|_|v
   ·exact zR rfl (k D _ d (Lns.all l1) (t6 _ _ h1) W B')
   ·exact zR rfl (k p moves d ln (t6 _ _ U) W B')
   ·lia
  obtain⟨x,ex,qx⟩:=hx;exact⟨q,_,_,x,rfl,rfl,SqL.of (L q _ (zX c _) (S5.ne c).symm),yJ ex,qx⟩
 by_cases un:ms=[]
 ·rw[show (!(zW ms).isEmpty)=false by rw[un];rfl]
  refine yF (zB (zB ⟨r,_,_,_,rfl,rfl,SqT.of ax.net,rfl,l,_,rfl,by lia,by lia,S4,λone B ho S5 B5=>⟨(by show 1<=sizeLine;decide),λp g=>?_⟩⟩));have t:=zD g (.tup [.int (one:Nat)]);have t5:=B5.tups3 S4;refine⟨(by show 2<=sizeLine;decide),λq c=>zB ⟨l,2,rfl,by decide,by decide,(S5.keep t).keep (zD c _),λv d Z W L=>?_⟩⟩;exact fin p [one] _ ⟨by simp,λm J=>by rw[Jd.mp J];lia,List.pairwise_singleton _ _⟩ (zX g _) (t _ _ (t5 _ _ ao)) (S5.keep t) ((B4.trans B5).trans (But.of t)) q c v d Z W L
 ·rw[show (!(zW ms).isEmpty)=true by cases ms with
   | nil=>exact absurd rfl un
   | cons a b=>rfl]
  refine yZ (zB ⟨lc,_,rfl,.inl ⟨SqL.of aT,λp g=>?_⟩⟩);have t:=zD g (.tup (zW ms));refine⟨(by show 2<=sizeLine;decide),λq c=>zB ⟨l,2,rfl,by decide,by decide,(S4.keep t).keep (zD c _),λv d Z W L=>?_⟩⟩;exact fin p ms _ ⟨un,mlt,mp⟩ (zX g _) (t _ _ ao) (S4.keep t) (B4.trans (But.of t)) q c v d Z W L
abbrev eI:Stmt:=top 44
theorem cq (x:Nat)(a:List Nat):inV (.int (x:Nat)) (zW a)=decide (x∈a):=by
 rw[Ya,Wv];unfold inV zW;rw[List.any_map,List.any_eq_true];constructor
 ·rintro⟨y,b,e⟩
  have z:((y:Nat):Int)=(x:Nat):=by simpa [eqV] using e
  have:y=x:=by lia
  exact this ▸ b
 ·intro h
  exact⟨x,h,by simp[eqV]⟩
theorem gM (a:List Nat):(zW a).all wK=true:=Yc.mpr λx b=>by
 obtain⟨m,_,rfl⟩:=JE.mp b;rfl
def mq:Sp:=λa H Q _=>∃ l r fr d b N p moves,a=[.ref l,.ref r,.ref p]/\Pk3 H l/\Nt.Ok N/\NetAt H r fr d b N/\H p=some (.tup (zW moves))/\∀ c (cs:List Int) H',cs.length=N.lanes->(∀ i,i<N.lanes->i∉moves->cs.getD i 0=0)->(∀ x∈cs,x.natAbs<=10 ^ 29)->H' c=some (.tup (cs.map V.int))->Pk3 H' l->But l H H'->Q (.ref c) H'
theorem eA:FnScope ["_law_left_here","_law_net_here","_law_some_here","_law_found","_law_lane","_law_far","_law_number"] ["_law_left_here","_law_net_here","_law_some_here"] (zN eI):=by trivial
theorem aR {f fK:JI}{fd dK:Yl}(F:Fun K "_law_counts" "_law_counts" eI f fd) (G:Mgs mg) (v:Use P w K mg base "_law_pick" ["_law_left_here","_law_many"] 1 yu fK dK):FnOk P w K mg base CX0 2 f fd ["_law_left_here","_law_net_here","_law_some_here"] mq:=by
 refine F.ok eA (λvs H Q E h=>?_) (λbu A outer s H vs Q E hr h=>?_)
 ·obtain⟨l,r,fr,er,ps,N,p,moves,rfl,_⟩:=h
  rfl
 obtain⟨l,r,fr,er,ps,N,p,moves,rfl,S,ok,na,hp,k⟩:=h;have d:Room 1 _:=hr.mono (by decide);have a7:=ok.l16;refine⟨_,(@zH _ _ _ _ _ (@zi _ _ 3 _ _ _ _ eA.nd rfl (.inl rfl) (@zw _ _ _ _ zC) rfl (by trivial)) (@zH _ _ _ _ _ (@xH _ _ _ _ _ _ _ _ Yi rfl (@yw _ _ _ _ _ _ rfl G.range (@zA _ _ _ _ _ (@zZ _ _ _ _ _ _ _ yL (@pvb _ 1 _ _ rfl) zE (λ_ _=>rfl)) zC rfl) rfl) (@zP _ _ 4 _ eA.nd rfl (.inl rfl) (by trivial)) (@zH _ _ _ _ _ (@zi _ _ 5 _ _ _ _ eA.nd rfl (.inl rfl) (@zZ _ _ _ _ _ _ _ zo (@zw _ _ _ _ (@zA _ _ _ _ _ (@zQ _ _ _ _ _ _ _ _ xT (@zT _ _ _ _ _ _ _ _ _ _ _ _ v d (@zA _ _ _ _ _ (@pvb _ 0 _ _ rfl) (@zA _ _ _ _ _ (@zQ _ _ _ _ _ _ _ _ vU zE zE) zC rfl) rfl) rfl rfl rfl rfl) (@zQ _ _ _ _ _ _ _ _ vU zE zE)) (@zA _ _ _ _ _ (@zQ _ _ _ _ _ _ _ _ yQ (@zQ _ _ _ _ _ _ _ _ vU zE zE) (@zT _ _ _ _ _ _ _ _ _ _ _ _ v d (@zA _ _ _ _ _ (@pvb _ 0 _ _ rfl) (@zA _ _ _ _ _ zE zC rfl) rfl) rfl rfl rfl rfl)) (@zA _ _ _ _ _ zE zC rfl) rfl) rfl)) (@zT _ _ _ _ _ _ _ _ _ _ _ _ v d (@zA _ _ _ _ _ (@pvb _ 0 _ _ rfl) (@zA _ _ _ _ _ zE zC rfl) rfl) rfl rfl rfl rfl) (λ_ _=>rfl)) rfl (by trivial)) (@zH _ _ _ _ _ (@zi _ _ 6 _ _ _ _ eA.nd rfl (.inl rfl) (@zQ _ _ _ _ _ _ _ _ xT (@zZ _ _ _ _ _ _ _ zo (@zw _ _ _ _ (@zA _ _ _ _ _ zE (@zA _ _ _ _ _ (@zT _ _ _ _ _ _ _ _ _ _ _ _ v d (@zA _ _ _ _ _ (@pvb _ 0 _ _ rfl) (@zA _ _ _ _ _ zE zC rfl) rfl) rfl rfl rfl rfl) (@zA _ _ _ _ _ (@zT _ _ _ _ _ _ _ _ _ _ _ _ v d (@zA _ _ _ _ _ (@pvb _ 0 _ _ rfl) (@zA _ _ _ _ _ zE zC rfl) rfl) rfl rfl rfl rfl) (@zA _ _ _ _ _ (@pvb _ 5 _ _ rfl) zC rfl) rfl) rfl) rfl)) (@zT _ _ _ _ _ _ _ _ _ _ _ _ v d (@zA _ _ _ _ _ (@pvb _ 0 _ _ rfl) (@zA _ _ _ _ _ zE zC rfl) rfl) rfl rfl rfl rfl) (λ_ _=>rfl)) (@zZ _ _ _ _ _ _ _ zo (@zw _ _ _ _ (@zA _ _ _ _ _ zE (@zA _ _ _ _ _ zE (@zA _ _ _ _ _ (@jA _ _ _ _ _ _ qf zE) zC rfl) rfl) rfl)) (@zT _ _ _ _ _ _ _ _ _ _ _ _ v d (@zA _ _ _ _ _ (@pvb _ 0 _ _ rfl) (@zA _ _ _ _ _ zE zC rfl) rfl) rfl rfl rfl rfl) (λ_ _=>rfl))) rfl (by trivial)) (@zM _ _ _ (@xA _ _ _ _ (@wV _ _ _ _ _ _ _ _ _ _ _ _ Y8 YJ YK yn (@pvb _ 3 _ _ rfl) (@zA _ _ _ _ _ (@zQ _ _ _ _ _ _ _ _ xT (@pvb _ 6 _ _ rfl) (@zj _ _ _ _ _ _ _ _ _ vF rfl G.int rfl (@zA _ _ _ _ _ (@xI _ _ _ _ _ _ _ _ uT (@pvb _ 4 _ _ rfl) (@pvb _ 2 _ _ rfl) rfl) zC rfl) (by decide) (by decide) rfl rfl)) zC rfl) rfl rfl rfl rfl rfl) rfl)))) (by intro _;rfl)) (@zM _ _ _ (@zV _ _ _ _ (@zj _ _ _ _ _ _ _ _ _ zt rfl G.tuple rfl (@zA _ _ _ _ _ (@pvb _ 3 _ _ rfl) zC rfl) (by decide) (by decide) rfl rfl))))),?_⟩;refine⟨(by show 0<=sizeLine;decide),λlf m=>?_⟩;have c:=S.ne m;have sf:=zD m (.lst []);have a0:Frs l H lf:=λb o e _=>zJ e m;refine zB ⟨r,_,_,_,rfl,rfl,SqT.of (sf _ _ na.net),rfl,_,rfl,by lia,by lia,?_⟩;refine wH (lo:=0) (n:=((N.lanes:Nat):Int).toNat) (λi σ y=>(∃ X W U,σ=[some (.ref l),some (.ref r),some (.ref p),some (.ref lf),X,W,U])/\Pk3 y l/\But l H y/\∃ cs:List Int,y lf=some (.lst (cs.map V.int))/\cs.length=i/\(∀ j,j<i->j∉moves->cs.getD j 0=0)/\∀ x∈cs,x.natAbs<=10 ^ 29) ⟨⟨_,_,_,rfl⟩,S.keep sf,But.of sf,[],zX m _,rfl,λj hj=>absurd hj (Zr _),λx hx=>(nomatch hx)⟩ ?_ ?_
 ·rintro i σ y hi ⟨⟨X,W,U,rfl⟩,M,T,cs,J,cl,L,cb⟩
  dsimp only[xw];refine zv (λD1 aT=>?_);refine zB ⟨_,_,rfl,rfl,⟨by decide,by decide,by decide⟩,l,_,rfl,by decide,by decide,M,λv1 H3 ab S3 B3=>?_⟩;have e6:(10:Int) ^ Int.toNat 6=1000000:=by decide
  rw[e6]at ab;refine⟨_,_,rfl,rfl,⟨by decide,by decide,by decide⟩,_,_,rfl,rfl,.inl ⟨by lia,by lia⟩,?_⟩;refine⟨_,_,rfl,rfl,⟨by decide,by decide,by decide⟩,_,rfl,l,3,rfl,by decide,by decide,S3,λv2 H4 bt S4 B4=>⟨_,_,rfl,rfl,(by show 3<=sizeLine;decide),λt a=>?_⟩⟩;have I:=zD a (.lst [.int ((v1:Nat)*10 ^ Int.toNat 23),.int (2 ^ Int.toNat 20+(v2:Nat)),.int 64]);refine zB ⟨l,3,rfl,by decide,by decide,S4.keep I,λv3 H5 bo S5 R=>?_⟩
  obtain⟨g,ef,fb⟩:∃ g,[V.int ((v1:Nat)*10 ^ Int.toNat 23),V.int (2 ^ Int.toNat 20+(v2:Nat)),V.int 64][v3]?=some (.int g)/\g.natAbs<=10 ^ 29:=by
   have a3:(10:Int) ^ Int.toNat 23=100000000000000000000000:=by decide
   have a4:(2:Int) ^ Int.toNat 20=1048576:=by decide
   have q:(10:Nat) ^ 29=100000000000000000000000000000:=by decide
   rcases v3 with _|_|_|v3
   ·refine zR rfl ?_;rw[a3,q];lia
   ·refine zR rfl ?_;rw[a4,q];lia
   ·refine zR rfl ?_;rw[q];decide
   ·lia
  refine⟨t,_,_,_,rfl,rfl,SqL.of (R t _ (zX a _) (S4.ne a).symm),yJ ef,aT _ _ ?_⟩;refine zv (λD2 ax=>?_);have C:But l H H5:=(((T.trans B3).trans B4).trans (But.of I)).trans R;have h5:=R lf _ (I _ _ (B4 lf _ (B3 lf _ J c.symm) c.symm)) c.symm;clear J T B3 B4 R M S3 S4 I a ef;refine zB ⟨l,3,rfl,by decide,by decide,S5,λv4 H6 bc S6 B6=>?_⟩;refine zB ⟨l,40,rfl,by decide,by decide,S6,λv5 H7 ba S7 B7=>?_⟩;refine zB ⟨(by show 4<=sizeLine;decide),λt a=>?_⟩;have D:=zD a (.lst [.int 0,.int (v4:Nat),.int (v5:Nat),.int g]);refine zB ⟨l,4,rfl,by decide,by decide,S7.keep D,λZ H8 a9 S8 O=>?_⟩
  obtain⟨nb,en,a6⟩:∃ nb,[V.int 0,V.int (v4:Nat),V.int (v5:Nat),V.int g][Z]?=some (.int nb)/\nb.natAbs<=10 ^ 29:=by
   have q:(40:Nat)<=10 ^ 29:=by decide
   rcases Z with _|_|_|_|Z
   ·exact zR rfl (JN _)
   ·exact zR rfl (by lia)
   ·exact zR rfl (by lia)
   ·exact zR rfl fb
   ·lia
  refine⟨t,_,_,_,rfl,rfl,SqL.of (O t _ (zX a _) (S7.ne a).symm),yJ en,?_⟩;have a5:But l H H8:=(((C.trans B6).trans B7).trans (But.of D)).trans O;have h8:=O lf _ (D _ _ (B7 lf _ (B6 lf _ h5 c.symm) c.symm)) c.symm;clear h5 C B6 B7 O S5 S6 S7 D a en;refine zR rfl ⟨(by show 3<=sizeLine;decide),λt a=>?_⟩;have s9:=zD a (.lst [.int 1,.int 1,.int (-1)]);refine zB ⟨l,3,rfl,by decide,by decide,S8.keep s9,λY H9 a8 S9 B9=>?_⟩
  obtain⟨u,es,sl⟩:∃ u,[V.int 1,V.int 1,V.int (-1)][Y]?=some (.int u)/\-2<u/\u<2:=by
   rcases Y with _|_|_|Y
   ·exact zR rfl ⟨by decide,by decide⟩
   ·exact zR rfl ⟨by decide,by decide⟩
   ·exact zR rfl ⟨by decide,by decide⟩
   ·lia
  refine⟨t,_,_,_,rfl,rfl,SqL.of (B9 t _ (zX a _) (S8.ne a).symm),yJ es,_,_,rfl,rfl,.inr ⟨by lia,by lia⟩,ax _ _ ?_⟩;have B:But l H H9:=(a5.trans (But.of s9)).trans B9;have h9:=B9 lf _ (s9 _ _ h8) c.symm;have ao:=B.tups3 S _ _ hp;have e0:(0:Int)+((i:Nat):Int)=((i:Nat):Int):=Int.zero_add _;refine zB ⟨.inl ⟨rfl,_,SqL.of h9⟩,_,rfl,_,rfl,_,rfl,p,_,rfl,.inr (SqT.of ao),rfl,gM moves,.inr (zR rfl ⟨_,_,rfl,rfl,.inr ?_,lf,_,_,rfl,rfl,h9,?_,⟨_,_,_,rfl⟩,S9.upd c,B.upd a0,cs++[nb*u*(if i∈moves then 1 else 0)],?_,by rw[Jc,cl];rfl,λj hj no=>?_,λx hx=>?_⟩)⟩
  ·split<;>lia
  ·rw[Je,JB];lia
  ·rw[e0,cq,zG,JQ]
   by_cases z:i∈moves
   ·rw[Jj z,Jw z];rfl
   ·rw[Jg z,Jn z];rfl
  ·by_cases z:j<i
   ·rw[Ja,YA (by lia),<- Ja];exact L j z no
   ·have:j=i:=by lia
    subst this;rw[Ja,Yv (by lia),cl,Nat.sub_self,Jg no,Int.mul_zero];rfl
  ·rcases Jv.mp hx with z|z
   ·exact cb x z
   ·rw[Jd.mp z]
    rcases (by lia:u = -1\/u=0\/u=1) with rfl|rfl|rfl<;>split<;>lia
 ·rintro σ y ⟨⟨X,W,U,rfl⟩,M,T,cs,J,cl,L,cb⟩
  rw[Y3]at cl L;refine zB ⟨lf,_,rfl,.inl ⟨SqL.of J,λt a=>?_⟩⟩;exact k t cs _ cl L cb (zX a _) (M.keep (zD a _)) (T.trans (But.of (zD a _)))
abbrev eD:Stmt:=top 46
theorem zaD:FnScope ["_law_left_here","_law_some_here"] ["_law_left_here"] (zN eD):=by trivial
theorem aL {f fK:JI}{fd dK:Yl}(F:Fun K "_law_odd" "_law_odd" eD f fd) (G:Mgs mg) (UK:Use P w K mg base "_law_pick" ["_law_left_here","_law_many"] 1 yu fK dK):FnOk P w K mg base CX0 2 f fd ["_law_left_here"] tZ:=by
 refine F.ok zaD (λvs H Q E h=>?_) (λax A outer s H vs Q E hr h=>?_)
 ·obtain⟨l,rfl,_⟩:=h
  rfl
 obtain⟨l,rfl,S,k⟩:=h;refine⟨_,(@zH _ _ _ _ _ (@zi _ _ 1 _ _ _ _ zaD.nd rfl (.inl rfl) (@zw _ _ _ _ (@zA _ _ _ _ _ sO (@zA _ _ _ _ _ x4 (@zA _ _ _ _ _ x4 (@zA _ _ _ _ _ zE (@zA _ _ _ _ _ zE (@zA _ _ _ _ _ zE (@zA _ _ _ _ _ (@jA _ _ _ _ _ _ qf zE) (@zA _ _ _ _ _ wQ (@zA _ _ _ _ _ wQ (@zA _ _ _ _ _ (@zp _ _ _ _ _ zC) (@zA _ _ _ _ _ (@zw _ _ _ _ zC) (@zA _ _ _ _ _ nB (@zA _ _ _ _ _ (@zp _ _ _ _ _ (@zA _ _ _ _ _ (@zp _ _ _ _ _ zC) zC rfl)) (@zA _ _ _ _ _ (@zp _ _ _ _ _ (@zA _ _ _ _ _ (@zp _ _ _ _ _ zC) (@zA _ _ _ _ _ zE zC rfl) rfl)) (@zA _ _ _ _ _ (@zp _ _ _ _ _ (@zA _ _ _ _ _ zE (@zA _ _ _ _ _ zE zC rfl) rfl)) zC rfl) rfl) rfl) rfl) rfl) rfl) rfl) rfl) rfl) rfl) rfl) rfl) rfl) rfl) rfl)) rfl (by trivial)) (@zH _ _ _ _ _ (@zi _ _ 1 _ _ _ _ zaD.nd rfl (.inl rfl) (@zQ _ _ _ _ _ _ _ _ wA (@pvb _ 1 _ _ rfl) (@zw _ _ _ _ (@zA _ _ _ _ _ (@zw _ _ _ _ (@zA _ _ _ _ _ zE zC rfl)) (@zA _ _ _ _ _ (@zQ _ _ _ _ _ _ _ _ vU zE zE) (@zA _ _ _ _ _ (@zp _ _ _ _ _ (@zA _ _ _ _ _ x4 (@zA _ _ _ _ _ x4 zC rfl) rfl)) zC rfl) rfl) rfl))) rfl (by trivial)) (@zM _ _ _ (@zV _ _ _ _ (@zZ _ _ _ _ _ _ _ zo (@pvb _ 1 _ _ rfl) (@zT _ _ _ _ _ _ _ _ _ _ _ _ UK hr (@zA _ _ _ _ _ (@pvb _ 0 _ _ rfl) (@zA _ _ _ _ _ (@zU _ _ _ _ _ _ _ _ _ zY rfl G.len JZ (@zA _ _ _ _ _ (@pvb _ 1 _ _ rfl) zC rfl) (by decide) (by decide) rfl rfl) zC rfl) rfl) rfl rfl rfl rfl) (λ_ _=>rfl)))))),?_⟩;refine zR rfl ?_;refine⟨(by show 0<=sizeLine;decide),λD h1=>?_⟩;have s1:=zD h1 (.tup []);have m1:Ma _ 3 1 (.ref D):=Ma.new (xs:=[]) h1 (by show 0<=3;decide) (λy a=>nomatch a);refine⟨(by show 0<=sizeLine;decide),λC h2=>?_⟩;have s2:=zD h2 (.lst []);have m2:Ma _ 3 0 (.ref C):=Ma.lstN h2 [];refine λB h3=>?_;have O:=zD h3 (.dK []);have m3:Ma _ 3 0 (.ref B):=Ma.dictN h3;refine⟨(by show 0<=sizeLine;decide),λN h4=>?_⟩;have J:=zD h4 (.tup []);have m4:Ma _ 3 1 (.ref N):=Ma.new (xs:=[]) h4 (by show 0<=3;decide) (λy a=>nomatch a);refine⟨(by show 1<=sizeLine;decide),λx h5=>?_⟩;have I:=zD h5 (.tup [.ref N])
 have m5:Ma _ 3 2 (.ref x):=Ma.new (xs:=[.ref N]) h5 (by show 1<=3;decide) (λy a=>by
   rw[Jd.mp a]
   exact(Ma.more (Jf _) (by decide) m4))
 refine⟨(by show 0<=sizeLine;decide),λM h6=>?_⟩;have m:=zD h6 (.tup []);have m6:Ma _ 3 1 (.ref M):=Ma.new (xs:=[]) h6 (by show 0<=3;decide) (λy a=>nomatch a);refine⟨(by show 2<=sizeLine;decide),λu h7=>?_⟩;have j:=zD h7 (.tup [.ref M,.int 0])
 have m7:Ma _ 3 2 (.ref u):=Ma.new (xs:=[.ref M,.int 0]) h7 (by show 2<=3;decide) (λy a=>by
   simp only[Jr,ZJ,YB]at a;rcases a with rfl|rfl
   ·exact(Ma.more (Jf _) (by decide) m6)
   ·exact Ma.int _)
 refine⟨(by show 2<=sizeLine;decide),λt h8=>?_⟩;have i:=zD h8 (.tup [.int 0,.int 0])
 have m8:Ma _ 3 1 (.ref t):=Ma.new (xs:=[.int 0,.int 0]) h8 (by show 2<=3;decide) (λy a=>by
   simp only[Jr,ZJ,YB]at a;rcases a with rfl|rfl
   ·exact Ma.int _
   ·exact Ma.int _)
 refine⟨(by show 15<=sizeLine;decide),λt9 h9=>?_⟩;have b:=zD h9 (.lst [.non,.bl true,.bl false,.int 0,.int 1,.int 2,.int (-1),.str "",.str "stair",.ref D,.ref C,.ref B,.ref x,.ref u,.ref t])
 have g0:∀ y∈([.non,.bl true,.bl false,.int 0,.int 1,.int 2,.int (-1),.str "",.str "stair",.ref D,.ref C,.ref B,.ref x,.ref u,.ref t]:List V),Ma _ 3 2 y:=(λy a=>by
  simp only[Jr,ZJ,YB]at a;rcases a with rfl|rfl|rfl|rfl|rfl|rfl|rfl|rfl|rfl|rfl|rfl|rfl|rfl|rfl|rfl
  ·exact(Ma.same b (Ma.non))
  ·exact(Ma.same b (Ma.bl _))
  ·exact(Ma.same b (Ma.bl _))
  ·exact(Ma.same b (Ma.int _))
  ·exact(Ma.same b (Ma.int _))
  ·exact(Ma.same b (Ma.int _))
  ·exact(Ma.same b (Ma.int _))
  ·exact(Ma.same b (Ma.str _))
  ·exact(Ma.same b (Ma.str _))
  ·exact(Ma.more (Jf _) (by decide) (Ma.same (((((((s2.trans O).trans J).trans I).trans m).trans j).trans i).trans b) m1))
  ·exact(Ma.more (Jf _) (by decide) (Ma.same ((((((O.trans J).trans I).trans m).trans j).trans i).trans b) m2))
  ·exact(Ma.more (Jf _) (by decide) (Ma.same (((((J.trans I).trans m).trans j).trans i).trans b) m3))
  ·exact(Ma.more (Jf _) (by decide) (Ma.same (((m.trans j).trans i).trans b) m5))
  ·exact(Ma.more (Jf _) (by decide) (Ma.same (i.trans b) m7))
  ·exact(Ma.more (Jf _) (by decide) (Ma.same b m8)))
 have n0:=zX h9 (.lst [.non,.bl true,.bl false,.int 0,.int 1,.int 2,.int (-1),.str "",.str "stair",.ref D,.ref C,.ref B,.ref x,.ref u,.ref t]);have u0:=((((((((s1.trans s2).trans O).trans J).trans I).trans m).trans j).trans i).trans b);have q0:∃ X:List V,X.length=15/\_=some (HO.lst X)/\∀ y∈X,Ma _ 3 2 y:=zR rfl ⟨n0,g0⟩;obtain⟨T,c0,a0,b0⟩:=q0;refine zB ?_;refine⟨(by show 1<=sizeLine;decide),λd q=>?_⟩;have Y:=zD q (.lst [.int 0]);have ab:Ma _ 3 0 (.ref d):=Ma.lstN q [.int 0];refine⟨_,_,rfl,rfl,⟨by decide,by decide⟩,?_⟩;refine⟨(by show 2<=sizeLine;decide),λc o=>?_⟩;have n:=zD o (.tup [.bl true,.bl false])
 have Z:Ma _ 3 1 (.ref c):=Ma.new (xs:=[.bl true,.bl false]) o (by show 2<=3;decide) (λy a=>by
   simp only[Jr,ZJ,YB]at a;rcases a with rfl|rfl
   ·exact Ma.bl _
   ·exact Ma.bl _)
 refine⟨(by show 3<=sizeLine;decide),λW ao=>?_⟩;have g:=zD ao (.lst [.ref d,.int (10 ^ 29),.ref c])
 have g1:∀ y∈([.ref d,.int (10 ^ 29),.ref c]:List V),Ma _ 3 2 y:=(λy a=>by
  simp only[Jr,ZJ,YB]at a;rcases a with rfl|rfl|rfl
  ·exact(Ma.more (Jf _) (by decide) (Ma.same (n.trans g) ab))
  ·exact(Ma.same g (Ma.int _ (by decide)))
  ·exact(Ma.more (Jf _) (by decide) (Ma.same g Z)))
 have r:=((Y.trans n).trans g);refine⟨t9,W,T,_,rfl,rfl,r _ _ a0,zG,JK (show _+3<=1000 by lia) (by decide),λp R=>?_⟩;have L:=zD R (.lst (T++([.ref d,.int (10 ^ 29),.ref c]:List V)));have uu:=(u0.trans r).trans L;have q1:∃ X:List V,X.length=18/\_=some (HO.lst X)/\∀ y∈X,Ma _ 3 2 y:=⟨T++([.ref d,.int (10 ^ 29),.ref c]:List V),by rw[Jc,c0];rfl,zX R _,λy a=>(Jv.mp a).elim (λz=>Ma.same (r.trans L) (b0 y z)) (λz=>Ma.same L (g1 y z))⟩;obtain⟨X,c1,a1,b1⟩:=q1;have nl:=S.keep uu
 have np:p≠l:=by
  rintro rfl;obtain⟨_,e⟩:=S.lst;exact absurd (R.symm.trans ((u0.trans r) _ _ e)) nofun
 refine zB (zB (zB ⟨p,X,rfl,.inl (SqL.of a1),l,_,rfl,by lia,by lia,nl,λv H2 vl S2 U=>?_⟩));have vx:v<X.length:=by lia
 refine⟨p,_,_,_,rfl,rfl,SqL.of (U _ _ a1 np),yJ (J7 vx),?_⟩;exact k _ _ (Ma.but U nl S2 (b1 _ (JR vx))) S2 ((But.of uu).trans U)
abbrev vQ:Stmt:=top 47
theorem bq:FnScope ["_law_left_here","_law_thing","_law_at","_law_some_here"] ["_law_left_here","_law_thing"] (zN vQ):=by trivial
theorem qE {f fK fO:JI}{fd dK dO:Yl}(F:Fun K "_law_bent" "_law_bent" vQ f fd) (G:Mgs mg) (UK:Use P w K mg base "_law_pick" ["_law_left_here","_law_many"] 1 yu fK dK) (UO:Use P w K mg base "_law_odd" ["_law_left_here"] 2 tZ fO dO) (h:Nat)
  (UB:Use P w K mg base "_law_bent" ["_law_left_here","_law_thing"] (h+2) (λvs H Q E=>∃ m,h=m+1/\tI m vs H Q E) f fd):FnOk P w K mg base CX0 (h+3) f fd ["_law_left_here","_law_thing"] (tI h):=by
 refine F.ok bq (λvs H Q E h=>?_) (λcb A outer s H vs Q E hr hh=>?_)
 ·obtain⟨l,x,b,rfl,_⟩:=h
  rfl
 obtain⟨l,x,b,rfl,S,hb,mx,k⟩:=hh;have M:Room 1 _:=hr.mono (by lia);have ab:Room 2 _:=hr.mono (by lia);have odd:∀ {H':Hp}{y:V},Ma H' 3 2 y->Ma H' (b+3) (h+2) y:=λm=>Ma.more (by lia) (by lia) m
 obtain⟨tE,hE,ao⟩:∃ t',PSs (mB CX0 P w K mg base ["_law_left_here","_law_thing","_law_at","_law_some_here"] "_law_bent" (zN vQ) f cb A outer s H E).nox ((yx vQ).drop 1) t' /\
   ∀ (H1:Hp),But l H H1->Pk3 H1 l->t' { nx:=λ_ H'=>Q .non H',rt:=Q } [some (.ref l),some x,none,none] H1:=by
  refine⟨_,(@zH _ _ _ _ _ (@yX _ _ _ _ _ _ _ _ (@wd _ _ _ (@zU _ _ _ _ _ _ _ _ _ y9 rfl G.isi rfl (@zA _ _ _ _ _ (@pvb _ 1 _ _ rfl) (@zA _ _ _ _ _ (@xM _ _ (.ty "tuple") (.type "tuple") _ rfl G.tuple rfl rfl (by decide) (by decide)) zC rfl) rfl) (by decide) (by decide) rfl rfl) (by intro _;rfl)) (@zH _ _ _ _ _ (@zi _ _ 2 _ _ _ _ bq.nd rfl (.inl rfl) (@zT _ _ _ _ _ _ _ _ _ _ _ _ UK M (@zA _ _ _ _ _ (@pvb _ 0 _ _ rfl) (@zA _ _ _ _ _ (@zQ _ _ _ _ _ _ _ _ yQ (@zU _ _ _ _ _ _ _ _ _ zY rfl G.len JZ (@zA _ _ _ _ _ (@pvb _ 1 _ _ rfl) zC rfl) (by decide) (by decide) rfl rfl) zE) zC rfl) rfl) rfl rfl rfl rfl) rfl (by trivial)) (@zH _ _ _ _ _ (@zi _ _ 3 _ _ _ _ bq.nd rfl (.inl rfl) (@zw _ _ _ _ (@zA _ _ _ _ _ (@zQ _ _ _ _ _ _ _ _ yi (@zz _ _ _ _ _ _ _ _ _ _ yW (@pvb _ 1 _ _ rfl) yN (@zu _ _ _ (@pvb _ 2 _ _ rfl))) (@zz _ _ _ _ _ _ _ _ _ _ yW (@pvb _ 1 _ _ rfl) (@zu _ _ _ (@zQ _ _ _ _ _ _ _ _ yQ (@pvb _ 2 _ _ rfl) zE)) yN)) (@zA _ _ _ _ _ (@zQ _ _ _ _ _ _ _ _ yi (@pvb _ 1 _ _ rfl) (@zz _ _ _ _ _ _ _ _ _ _ yW (@pvb _ 1 _ _ rfl) (@zu _ _ _ (@pvb _ 2 _ _ rfl)) (@zu _ _ _ (@zQ _ _ _ _ _ _ _ _ yQ (@pvb _ 2 _ _ rfl) zE)))) (@zA _ _ _ _ _ (@zj _ _ _ _ _ _ _ _ _ yY rfl G.list rfl (@zA _ _ _ _ _ (@pvb _ 1 _ _ rfl) zC rfl) (by decide) (by decide) rfl rfl) (@zA _ _ _ _ _ (@dZ _ _ _ _ _ _ _ (@pvb _ 1 _ _ rfl) (@zu _ _ _ (@jA _ _ _ _ _ _ qf zE))) (@zA _ _ _ _ _ (@zQ _ _ _ _ _ _ _ _ yi (@pvb _ 1 _ _ rfl) (@zp _ _ _ _ _ (@zA _ _ _ _ _ zE zC rfl))) zC rfl) rfl) rfl) rfl) rfl)) rfl (by trivial)) (@zM _ _ _ (@zV _ _ _ _ (@zZ _ _ _ _ _ _ _ zo (@zQ _ _ _ _ _ _ _ _ wA (@pvb _ 3 _ _ rfl) (@zw _ _ _ _ (@zA _ _ _ _ _ (@zT _ _ _ _ _ _ _ _ _ _ _ _ UO ab (@zA _ _ _ _ _ (@pvb _ 0 _ _ rfl) zC rfl) rfl rfl rfl rfl) zC rfl))) (@zT _ _ _ _ _ _ _ _ _ _ _ _ UK M (@zA _ _ _ _ _ (@pvb _ 0 _ _ rfl) (@zA _ _ _ _ _ zE zC rfl) rfl) rfl rfl rfl rfl) (λ_ _=>rfl)))))) yA) (@zH _ _ _ _ _ (@yX _ _ _ _ _ _ _ _ (@wd _ _ _ (@zU _ _ _ _ _ _ _ _ _ y9 rfl G.isi rfl (@zA _ _ _ _ _ (@pvb _ 1 _ _ rfl) (@zA _ _ _ _ _ (@xM _ _ (.ty "int") (.type "int") _ rfl G.int rfl rfl (by decide) (by decide)) zC rfl) rfl) (by decide) (by decide) rfl rfl) (by intro _;rfl)) (@zM _ _ _ (@zV _ _ _ _ (@zZ _ _ _ _ _ _ _ zo (@zw _ _ _ _ (@zA _ _ _ _ _ (@zQ _ _ _ _ _ _ _ _ aH (@pvb _ 1 _ _ rfl) zE) (@zA _ _ _ _ _ (@zQ _ _ _ _ _ _ _ _ jD (@pvb _ 1 _ _ rfl) zE) (@zA _ _ _ _ _ (@zj _ _ _ _ _ _ _ _ _ kf rfl G.bool rfl (@zA _ _ _ _ _ (@pvb _ 1 _ _ rfl) zC rfl) (by decide) (by decide) rfl rfl) (@zA _ _ _ _ _ (@zQ _ _ _ _ _ _ _ _ jD zE (@pvb _ 1 _ _ rfl)) (@zA _ _ _ _ _ (@zj _ _ _ _ _ _ _ _ _ gZ rfl G.str rfl (@zA _ _ _ _ _ (@pvb _ 1 _ _ rfl) zC rfl) (by decide) (by decide) rfl rfl) (@zA _ _ _ _ _ (@zT _ _ _ _ _ _ _ _ _ _ _ _ UO ab (@zA _ _ _ _ _ (@pvb _ 0 _ _ rfl) zC rfl) rfl rfl rfl rfl) zC rfl) rfl) rfl) rfl) rfl) rfl)) (@zT _ _ _ _ _ _ _ _ _ _ _ _ UK M (@zA _ _ _ _ _ (@pvb _ 0 _ _ rfl) (@zA _ _ _ _ _ zE zC rfl) rfl) rfl rfl rfl rfl) (λ_ _=>rfl)))) yA) (@zM _ _ _ (@zV _ _ _ _ (@zT _ _ _ _ _ _ _ _ _ _ _ _ UO ab (@zA _ _ _ _ _ (@pvb _ 0 _ _ rfl) zC rfl) rfl rfl rfl rfl))))),?_⟩;intro H1 B1 O;have a7:=mx.but B1 S O;obtain⟨ty,Iy⟩:=(a7.an.any (K:=K)).isi;refine zB ⟨_,"tuple",_,_,rfl,Iy.ty,Iy.tup,_,rfl,?_⟩
  cases z:yK H1 x with
  | none =>
   obtain⟨c,hc,kc⟩:∃ c,PySem.W.kitOne K ty (.type "int")=some c/\c=(ly x).isSome:=⟨_,Iy.int,by cases x<;>rfl⟩;refine yF (zB ⟨_,"int",_,_,rfl,Iy.ty,hc,_,rfl,?_⟩);rw[kc]
   cases nx:ly x with
   | none =>
    refine yF (zB ⟨l,rfl,O,λy H2 my N R=>?_⟩)
    exact k y H2 (odd my) N (B1.trans R)
   | some i =>
    have bi:i.natAbs<=10 ^ 29+b+1:=by
     cases x with
     | int j=>cases nx;exact Nat.le_succ_of_le mx.sm
     | bl c =>
      cases nx;cases c
      ·exact JN _
      ·exact Nat.succ_le_succ (JN _)
     | _=>cases nx
    refine yZ (zB ⟨i,1,nx,rfl,_,rfl,i,1,nx,rfl,.inr ⟨_,rfl⟩,_,rfl,x,i,rfl,nx,λc0=>zB ⟨1,i,rfl,nx,.inl ⟨_,rfl⟩,_,rfl,x,i,rfl,nx,by lia,λw0=>zB ⟨l,rfl,O,λy H2 my N R=>⟨by show 6<=sizeLine;decide,λt ht=>?_⟩⟩⟩⟩);have I:=zD ht (.lst [.int (i+1),.int (i-1),.bl c0,.int (1-i),.str w0,y]);have S3:=N.keep I;have nt:=N.ne ht;refine zB ⟨l,6,rfl,by decide,by decide,S3,λv H4 vl S4 B4=>⟨t,_,_,_,rfl,rfl,SqL.of (B4 _ _ zG nt.symm),yJ (J7 (show v<6 by lia)),?_⟩⟩;refine k _ _ (Ma.but B4 S3 S4 ?_) S4 (B1.trans (R.trans ((But.of I).trans B4)))
    have m:∀ x'∈([.int (i+1),.int (i-1),.bl c0,.int (1-i),.str w0,y]:List V),Ma (L2.upd H2 t (.lst [.int (i+1),.int (i-1),.bl c0,.int (1-i),.str w0,y])) (b+3) (h+2) x':=λx' hx=>by
     simp only[Jr,ZJ,YB]at hx;rcases hx with rfl|rfl|rfl|rfl|rfl|rfl
     ·exact Ma.int _
     ·exact Ma.int _
     ·exact Ma.bl _
     ·exact Ma.int _
     ·exact Ma.str _
     ·exact Ma.same I (odd my)
    exact m _ (JR _)
  | some a =>
   obtain⟨lx,J,rfl,mk⟩:=Ma.kids a7 z;obtain⟨n,rfl,hx⟩:=xK z;refine yZ (zB (zB ⟨n,a,rfl,.inr (SqT.of hx),_,_,rfl,rfl,l,_,rfl,by lia,by lia,O,λv H2 vl N R=>?_⟩));have D:=R.tups3 O _ _ hx;refine zB (zB (zR rfl ⟨n,a,rfl,D,λt1 H3 I h3=>?_⟩));have bc:=I _ _ D;refine zB (zB ⟨_,_,rfl,rfl,_,rfl,n,a,rfl,bc,λt2 H4 s4 h4=>?_⟩);refine⟨t1,t2,_,_,rfl,rfl,s4 _ _ h3,h4,?_,λt3 H5 Y h5=>?_⟩
   ·have a1:=oD a none (some (v:Int))
    have a2:=oD a (some ((v:Int)+1)) none;exact JK (show _<=10000 by lia) (by decide)
   have W:=Y _ _ (s4 _ _ bc);refine zB (zB (zB (zR rfl (zB ⟨_,_,rfl,rfl,_,rfl,n,a,rfl,W,λt4 H6 s6 h6=>?_⟩))));have ba:=s6 _ _ W;refine⟨n,t4,_,_,rfl,rfl,ba,h6,?_,λt5 H7 s7 h7=>?_⟩
   ·have a1:=jf a v
    exact JK (show _<=10000 by lia) (by decide)
   have a9:=s7 _ _ ba;refine zB ⟨n,a,rfl,.inr (SqT.of a9),λt6 f6=>?_⟩;have s8:=zD f6 (.lst a);have a8:=s8 _ _ a9;refine zB (zR rfl (zR rfl ⟨rfl,n,a,rfl,SqT.of a8,λt7 f7=>?_⟩));have s9:=zD f7 (.tup a.reverse);have b6:=s9 _ _ a8;refine zB ⟨by show 1<=sizeLine;decide,λt8 f8=>?_⟩;have C:=zD f8 (.tup [.int 0]);refine⟨n,t8,a,_,rfl,rfl,C _ _ b6,zG,JK (show _+1<=10000 by lia) (by decide),λt9 cz L b8=>?_⟩;refine⟨by show 5<=sizeLine;decide,λa6 aT=>?_⟩;have B:=zD aT (.lst [.ref t3,.ref t5,.ref t6,.ref t7,.ref t9]);have a5:=(((((((I.trans s4).trans Y).trans s6).trans s7).trans s8).trans s9).trans C).trans L;have o:=a5.trans B;have bS:=N.keep o;have cf:=B1.trans (R.trans (But.of o));have g:∀ {H':Hp},Same H2 H'->∀ y∈a,Ma H' (b+3) J y:=λs' y d=>Ma.more (by lia) (Jf _) (Ma.same s' ((mk y d).but R O N))
   have b4:∃ X:List V,X.length=5/\_=some (HO.lst X)/\∀ y∈X,Ma _ (b+3) (J+1+2) y:=zR rfl ⟨zX aT (.lst [.ref t3,.ref t5,.ref t6,.ref t7,.ref t9]),λy d=>by
    simp only[Jr,ZJ,YB]at d;rcases d with rfl|rfl|rfl|rfl|rfl
    ·have w':=((((((s6.trans s7).trans s8).trans s9).trans C).trans L).trans B)
     refine Ma.more (Jf _) (by lia) (Ma.tup (h:=J) (w' _ _ h5) ?_ λy d=>g o y ?_)
     ·have a2:=mC a (v+1)
      rw[uG a v (by lia),show ((v:Int)+1)=((v+1:Nat):Int) from rfl,Jc,Jt];lia
     ·exact(Jv.mp d).elim oE oE
    ·have w':=(((((s8.trans s9).trans C).trans L).trans B))
     refine Ma.more (Jf _) (by lia) (Ma.tup (h:=J) (w' _ _ h7) ?_ λy d=>g o y ?_)
     ·have a1:=jf a v
      rw[Jc];lia
     ·exact(Jv.mp d).elim id oE
    ·have w':=((((s9.trans C).trans L).trans B))
     exact Ma.same w' (Ma.lst zG)
    ·have w':=(((C.trans L).trans B))
     exact Ma.more (Jf _) (by lia) (Ma.tup (h:=J) (w' _ _ zG) (by rw[Zh];lia) λy d=>g o y (List.mem_reverse.mp d))
    ·refine Ma.more (Jf _) (by lia) (Ma.tup (h:=J) (B _ _ b8) (by rw[Jc];show _+1<=_;lia) λy d=>?_)
     rcases Jv.mp d with q|q
     ·exact g o y q
     ·rw[Jd.mp q];exact Ma.int _⟩
   obtain⟨X,c1,a1,b1⟩:=b4
   have np:a6≠l:=by
    rintro rfl;obtain⟨_,e⟩:=N.lst;exact absurd (aT.symm.trans (a5 _ _ e)) nofun
   refine zB (zB ⟨l,rfl,bS,λy cx my a0 a4=>⟨by show 1<=sizeLine;decide,λb3 b9=>?_⟩⟩);have r:=zD b9 (.lst [y]);have cc:=r _ _ (a4 _ _ a1 np);refine⟨a6,b3,X,_,rfl,rfl,cc,zG,JK (show _+1<=1000 by lia) (by decide),λp fp=>?_⟩;have U:=zD fp (.lst (X++[y]));have bB:=(a0.keep r).keep U;have b5:=(a0.keep r).ne fp;refine zB ⟨l,6,rfl,by decide,by decide,bB,λu ct ul bu a3=>?_⟩;have ux:u<(X++[y]).length:=by rw[Jc,c1];show u<6;lia
   refine⟨p,_,_,_,rfl,rfl,SqL.of (a3 _ _ zG b5.symm),yJ (J7 ux),?_⟩
   have mX:∀ Z∈X++[y],Ma _ (b+3) (J+1+2) Z:=λZ d=>by
    rcases Jv.mp d with q|q
    ·exact Ma.same U (Ma.same r ((b1 Z q).but a4 bS a0))
    ·rw[Jd.mp q];exact Ma.same U (Ma.same r (odd my))
   exact k _ _ (Ma.but a3 bB bu (mX _ (JR ux))) bu (cf.trans (a4.trans ((But.of (r.trans U)).trans a3)))
 refine⟨_,(@zH _ _ _ _ _ (@yX _ _ _ _ _ _ _ _ (@pM _ _ _ _ _ _ _ (@wd _ _ _ (@zU _ _ _ _ _ _ _ _ _ y9 (by rfl) G.isi rfl (@zA _ _ _ _ _ (@pvb _ 1 _ _ rfl) (@zA _ _ _ _ _ (@xM _ _ (.ty "tuple") (.type "tuple") _ (by rfl) G.tuple rfl rfl (by decide) (by decide)) zC rfl) rfl) (by decide) (by decide) rfl rfl) (by intro _;rfl)) (@pM _ _ _ _ _ _ _ (@zy _ _ _ _ _ _ _ _ (aF hr.units0) (@pvb _ 1 _ _ rfl) (@zp _ _ _ _ _ zC) (yC _)) (@pL _ _ _ _ (@zy _ _ _ _ _ _ _ _ qD (@zT _ _ _ _ _ _ _ _ _ _ _ _ UK M (@zA _ _ _ _ _ (@pvb _ 0 _ _ rfl) (@zA _ _ _ _ _ zE zC rfl) rfl) (by rfl) rfl rfl rfl) zE (yC _))))).pt (@zH _ _ _ _ _ (@zi _ _ 2 _ _ _ _ bq.nd rfl (.inl rfl) (@zT _ _ _ _ _ _ _ _ _ _ _ _ UK M (@zA _ _ _ _ _ (@pvb _ 0 _ _ rfl) (@zA _ _ _ _ _ (@zU _ _ _ _ _ _ _ _ _ zY (by rfl) G.len JZ (@zA _ _ _ _ _ (@pvb _ 1 _ _ rfl) zC rfl) (by decide) (by decide) rfl rfl) zC rfl) rfl) (by rfl) rfl rfl rfl) rfl (by trivial)) (@zM _ _ _ (@zV _ _ _ _ (@zQ _ _ _ _ _ _ _ _ yi (@zQ _ _ _ _ _ _ _ _ yi (@zz _ _ _ _ _ _ _ _ _ _ yW (@pvb _ 1 _ _ rfl) yN (@zu _ _ _ (@pvb _ 2 _ _ rfl))) (@zp _ _ _ _ _ (@zA _ _ _ _ _ (@zT _ _ _ _ _ _ _ _ _ _ _ _ UB hr (@zA _ _ _ _ _ (@pvb _ 0 _ _ rfl) (@zA _ _ _ _ _ (@zZ _ _ _ _ _ _ _ yL (@pvb _ 1 _ _ rfl) (@pvb _ 2 _ _ rfl) (λ_ _=>rfl)) zC rfl) rfl) (by rfl) rfl rfl rfl) zC rfl))) (@zz _ _ _ _ _ _ _ _ _ _ yW (@pvb _ 1 _ _ rfl) (@zu _ _ _ (@zQ _ _ _ _ _ _ _ _ yQ (@pvb _ 2 _ _ rfl) zE)) yN))))) yA) @hE),?_⟩;obtain⟨ty,Iy⟩:=(mx.an.any (K:=K)).isi;refine zB ⟨_,"tuple",_,_,rfl,Iy.ty,Iy.tup,_,rfl,?_⟩
 cases z:yK H x with
 | none=>exact yF (yF (ao H (But.of (Same.refl H)) S))
 | some a =>
  obtain⟨lx,J,rfl,mk⟩:=Ma.kids mx z;obtain⟨n,rfl,hx⟩:=xK z;refine yZ (zB ⟨by show 0<=sizeLine;decide,λt0 f0=>?_⟩);have s0:=zD f0 (.tup []);have S0:=S.keep s0;have bt:=s0 _ _ hx;have B0:But l H (L2.upd H t0 (.tup [])):=But.of s0;refine⟨n,t0,a,rfl,rfl,bt,zG,_,rfl,?_⟩
  cases a with
  | nil=>exact yF (yF (ao _ B0 S0))
  | cons y0 ys =>
   have p0:0<(y0::ys).length:=Nat.succ_pos _;refine yZ ?_;generalize y0::ys=a at *;refine zB ⟨l,4,rfl,by decide,by decide,S0,λv H1 vl O B1=>⟨_,_,rfl,rfl,_,rfl,?_⟩⟩;have b2:=B0.trans B1;have bo:=B1.tups3 S0 _ _ bt;show if decide ((0:Int)<((v:Nat):Int))=true then _ else _;by_cases vp:(0:Int)<(v:Int)
   ·rw[Jw vp]
    refine yZ ?_;refine zB (zB ⟨n,a,rfl,.inr (SqT.of bo),l,_,rfl,by lia,by lia,O,λT H2 cp N R=>?_⟩);have D:=R.tups3 O _ _ bo;have cn:=b2.trans R;refine zB (zB (zR rfl ⟨n,a,rfl,D,λt1 H3 I h3=>?_⟩));have S3:=N.keep I;have b0:=cn.trans (But.of I);have vb:T<a.length:=by lia
    refine zB (zB (zB ⟨n,_,_,_,rfl,rfl,SqT.of (I _ _ D),yJ (J7 vb),J,rfl,l,_,b,rfl,S3,hb,(mk _ (JR vb)).but b0 S S3,λy H4 my S4 B4=>?_⟩));refine⟨by show 1<=sizeLine;decide,λt2 f2=>?_⟩;have Y:=zD f2 (.tup [y]);have S5:=S4.keep Y;have ck:=b0.trans (B4.trans (But.of Y));have b7:=Y _ _ (B4.tups3 S3 _ _ h3);have W:=Y _ _ (B4.tups3 S3 _ _ (I _ _ D));refine⟨t1,t2,_,_,rfl,rfl,b7,zG,?_,λt3 H6 s6 h6=>?_⟩
    ·have:=oD a none (some (T:Int))
     exact JK (show _+1<=10000 by lia) (by decide)
    refine zB (zB ⟨_,_,rfl,rfl,_,rfl,n,a,rfl,s6 _ _ W,λt4 H7 s7 h7=>?_⟩);have c2:=mC a (T+1);rw[show ((T:Int)+1)=((T+1:Nat):Int) from rfl]at h7;rw[uG a T (by lia)]at h6
    have l2:(a.take T++[y]).length+(xJ a (some ((T+1:Nat):Int)) none).length<=b:=by
     rw[Jc,Jt];show min T a.length+1+_<=b;lia
    refine⟨t3,t4,_,_,rfl,rfl,s7 _ _ h6,h7,JK l2 (JK hb (by decide)),λt5 H8 s8 h8=>?_⟩;have u8:=(s6.trans s7).trans s8;have S8:=S5.keep u8;have B8:=ck.trans (But.of u8);refine k _ _ (Ma.tup (h:=J+2) h8 (by rw[Jc];lia) λz hz=>?_) S8 B8;have g:∀ Z∈a,Ma H8 (b+3) (J+2) Z:=λZ d=>Ma.more (by lia) (by lia) ((mk Z d).but B8 S S8);rcases Jv.mp hz with q|q
    ·rcases Jv.mp q with q1|q1
     ·exact g z (YX q1)
     ·rw[Jd.mp q1];exact Ma.same (Y.trans u8) my
    ·exact g z (oE q)
   ·rw[Jn vp]
    exact yF (ao _ b2 O)
theorem nK {f g e:JI}{fd dK i:Yl}(F:Fun K "_law_bent" "_law_bent" vQ f fd) (G:Mgs mg) (d:Use P w K mg base "_law_pick" ["_law_left_here","_law_many"] 1 yu g dK) (c:Use P w K mg base "_law_odd" ["_law_left_here"] 2 tZ e i) (b:Binds K fd ["_law_left_here","_law_thing"] []) (a:mg "_law_bent" = some (.ref f)):∀ h:Nat,FnOk P w K mg base CX0 (h+3) f fd ["_law_left_here","_law_thing"] (tI h)
 | 0=>qE F G d c 0 ⟨⟨λvs H Q E ⟨m,h,_⟩=>by lia,λA outer s H args us vs Q E _ _ _ _ ⟨m,h,_⟩=>by lia⟩,b,F.kp,a⟩
 | m+1=>qE F G d c (m+1) ⟨((nK F G d c b a m).imp λvs H Q E ⟨j,h,q⟩=>by cases h;exact q),b,F.kp,a⟩
def uQ:Sp:=λa H Q E=>∃ m,m<=7/\tI m a H Q E
theorem lw {f c b:JI}{fd dK d:Yl}(F:Fun K "_law_bent" "_law_bent" vQ f fd) (G:Mgs mg) (h:Use P w K mg base "_law_pick" ["_law_left_here","_law_many"] 1 yu c dK) (g:Use P w K mg base "_law_odd" ["_law_left_here"] 2 tZ b d) (e:Binds K fd ["_law_left_here","_law_thing"] []) (a:mg "_law_bent" = some (.ref f)):FnOk P w K mg base CX0 10 f fd ["_law_left_here","_law_thing"] uQ :=
 FnOk.any 7 λm i=>(nK F G h g e a m).mono (by lia)
end
end K40
namespace L2
open PySem PySem.Spec PyProof.Rows Own Bn
theorem jL:∀ {c:List Int},(∀ x∈c,0<=x)->(((c.map Int.toNat).sum:Nat):Int)=c.sum
 | [],_=>rfl
 | a::c,h=>by
  have ih:=jL λx b=>h x (.tail _ b);have d:=h a (.head _);rw[JY,List.sum_cons,List.sum_cons];lia
theorem eO {c:List Int}(h:∀ x∈c,0<=x):(((rQ c).length:Nat):Int)=c.sum:=by
 rw[<- jL h];unfold rQ;rw[List.length_flatMap]
 congr 2
 refine ZC (by rw[Je,Je,Y7]) λi b a=>?_;rw[Je]at a;rw[Wb,Wb,List.getElem_range,JX,Ja,J7 a];rfl
section
variable {N:Nt}{moves:List Nat}{t:Int}{row:List Int}
theorem Rw.at (R:Rw moves N.lanes t row)(i:Nat):0<=row.getD i 0:=by
 rw[show row.getD i 0=row[i]?.getD 0 from Ja]
 cases e:row[i]? with
 | none=>exact Zz _
 | some x=>exact R.nn x (JP e)
theorem Rw.cnt (R:Rw moves N.lanes t row):wM (zL N) (rQ row)=row:=by
 refine wL (by rw[xO,R.len]) λi hi=>?_;rw[xO]at hi;have a:(zL N).length=N.lanes:=JX;have:=R.at i;rw[xa _ _ i (by simp_all),sL,qc,Jj (by rw[R.len];exact hi)];lia
variable {n:Nat}{c:List Int}
theorem mJ (g:∀ m∈moves,m<N.lanes)(B:Broke (xD N) moves (k0P N) (zL N) n c):Rw moves N.lanes (n+1) c:=by
 obtain⟨d,m,j,e,b,_⟩:=B.ex;have o:(zL N).length=N.lanes:=JX;have cl:c.length=N.lanes:=by rw[<- b];exact xO N _
 have f:∀ i,i<N.lanes->c.getD i 0=((d++[m]).count i:Nat):=λi hi=>by
  rw[<- b,xa _ _ i (by simp_all),qc];lia
 have nn:∀ x∈c,0<=x:=λx a=>by
  obtain⟨k,h,l⟩:=Wp a;have:=f k (by lia);rw[Ja,J7 h,l]at this;have:x=_:=this;lia
 refine⟨cl,nn,?_,λi hi no=>?_⟩
 ·have p:=ow (N:=N) (row:=d++[m]) λx a=>g x (e x a)
  rw[b]at p;rw[<- eO nn,p.length_eq,Jc,j];show (((n+1:Nat)):Int)=_
  simp_all
 ·rw[f i hi,List.count_eq_zero.mpr λz=>no (e i z)];rfl
theorem kg (ok:Nt.Ok N)(b:∀ m∈moves,m<N.lanes)(B:Broke (xD N) moves (k0P N) (zL N) n c):xk (yd N c)=false:=by
 obtain⟨j,a,g,f⟩:=gp ok b B (List.Perm.refl (rQ c));have e:=vE ok a (i:=n) (by simp_all);rw[uF ok a n (by simp_all) g,JC (by simp_all),(mJ b B).cnt]at e;rw[e];refine iw n _ ?_ f
 have d:(rQ c).getD n 0<N.lanes:=by
  rw[Ja,J7 (by simp_all)];exact a _ (JR _)
 have here:=vR (back:=false) (ts:=uL N (rQ c) n) ok.fk d N.forks.length (Jf _);have h:N.ends.length=N.lanes:=by rw[ok.en.length_eq,Y7]
 have:=Ws (ok.en.mem_iff.mpr (Y2.mpr here));rw[h]at this;exact this
end
end L2
namespace Bn
open PySem L2 Own
inductive Pln where
 | net (N:Nt)|way (w k:Nat)|dbl (p:Pln)|ren (p:Pln) (ns:List Nat)|bes (p q:Pln)|beh (p q:Pln)
def pwr (n:Nat):Nat:=if n=2 then 1 else if n=4 then 2 else if n=8 then 3 else if n=16 then 4 else 0
def zb6 (w k:Nat):Nat:=if w=0 then 2 ^ k*k*(k+1) / 4 else if w=1 then 2 ^ k*k*k / 2 else 2 ^ k*k / 2
namespace Pln
def lanes:Pln->Nat
 | .net N=>N.lanes
 | .way _ k=>2 ^ k
 | .dbl p=>2*p.lanes
 | .ren p _=>p.lanes
 | .bes p q=>p.lanes+q.lanes
 | .beh p _=>p.lanes
def many:Pln->Nat
 | .net N=>N.forks.length
 | .way w k=>zb6 w k
 | .dbl p=>2*p.many+p.lanes*pwr (2*p.lanes)
 | .ren p _=>p.many
 | .bes p q=>p.many+q.many
 | .beh p q=>p.many+q.many
def hi:Pln->Nat
 | .net _=>1
 | .way _ _=>1
 | .dbl p=>p.hi+1
 | .ren p _=>p.hi+1
 | .bes p q=>max p.hi q.hi+1
 | .beh p q=>max p.hi q.hi+1
end Pln
inductive Kn where
 | no|stair|merges|halves
 deriving DecidableEq
def Kn.v:Kn->V
 | .no=>.non
 | .stair=>.str "stair"
 | .merges=>.str "merges"
 | .halves=>.str "halves"
def Pln.known:Pln->Kn
 | .net N=>if N.lanes=1 then .stair else .no
 | .way w k=>if w<2 then .stair else if k=1 then .stair else .merges
 | .dbl p=>if p.known=.stair then .stair else .no
 | .ren p _=>if p.known=.merges then .no else p.known
 | .bes p q=>if p.known=.stair/\q.known=.stair/\p.lanes=q.lanes then .halves else .no
 | .beh p q=>if q.known=.stair\/p.known=.halves/\q.known=.merges then .stair else .no
end Bn
namespace Bn
open PySem L2 Own
def Pln.raw:Pln->Nt
 | .net N=>N
 | .way w k=>if w=0 then x8 k else if w=1 then xL k else za5 (k-1)
 | .dbl p=>aw (pwr (2*p.lanes)-1) p.raw
 | .ren p ns=>eR p.raw ns
 | .bes p q=>zab p.raw q.raw
 | .beh p q=>zac p.raw q.raw
end Bn
namespace L2
open PySem PySem.Spec PyProof.Rows Own Bn
structure KpM (H H':Hp):Prop where
 tup:∀ b xs,H b=some (.tup xs)->H' b=some (.tup xs)
 lst:∀ b xs,H b=some (.lst xs)->∃ ys,H' b=some (.lst ys)
 dict:∀ b,H b=some (.dK [])->H' b=some (.dK [])
theorem KpM.same {H H':Hp}(s:Same H H'):KpM H H':=⟨λb a e=>s b _ e,λb a e=>⟨a,s b _ e⟩,λb e=>s b _ e⟩
theorem KpM.refl (H:Hp):KpM H H:=.same (Same.refl H)
theorem KpM.trans {H d c:Hp}(x:KpM H d)(y:KpM d c):KpM H c:=⟨λb a e=>y.tup b a (x.tup b a e),λb a e=>by
 obtain⟨f,g⟩:=x.lst b a e
 exact y.lst b f g,λb e=>y.dict b (x.dict b e)⟩
theorem KpM.list {H:Hp}{l:JI}{ys zs:List V}(e:H l=some (.lst ys)):KpM H (L2.upd H l (.lst zs)):=by
 refine⟨λb a h=>?_,λb a h=>?_,λb h=>?_⟩
 ·rw[zK];· exact h
  ·rintro rfl;rw[e]at h;cases h
 ·by_cases z:b=l
  ·rw[z];exact⟨zs,zG⟩
  ·rw[zK z];exact⟨a,h⟩
 ·rw[zK];· exact h
  ·rintro rfl;rw[e]at h;cases h
theorem KpM.but {H H':Hp}{l:JI}(B:But l H H')(S:Pk3 H l)(f:Pk3 H' l):KpM H H':=by
 obtain⟨g,c⟩:=S.lst;obtain⟨d,e⟩:=f.lst;refine⟨λb a h=>B _ _ h ?_,λb a h=>?_,λb h=>B _ _ h ?_⟩
 ·rintro rfl;rw[c]at h;cases h
 ·by_cases z:b=l
  ·rw[z];exact⟨d,e⟩
  ·exact⟨a,B _ _ h z⟩
 ·rintro rfl;rw[c]at h;cases h
theorem KpM.tups {H H':Hp}(k:KpM H H'):Tups H H':=λb a e=>k.tup b a e
theorem KpM.an {H H':Hp}(k:KpM H H'){x:V}(a:An H x):An H' x/\yK H' x=yK H x:=by
 rcases a with a|⟨c,rfl,⟨d,e⟩|⟨d,e⟩|e⟩
 ·exact⟨.inl a,by cases x<;>first|rfl|exact a.elim⟩
 ·have b:=k.tup _ _ e
  exact⟨.inr ⟨_,rfl,.inl ⟨_,b⟩⟩,by rw[yk e,yk b]⟩
 ·obtain⟨f,b⟩:=k.lst _ _ e
  exact⟨.inr ⟨_,rfl,.inr (.inl ⟨_,b⟩)⟩,by rw[wP e,wP b]⟩
 ·have b:=k.dict _ e
  exact⟨.inr ⟨_,rfl,.inr (.inr b)⟩,by simp only[yK,e,b]⟩
theorem Ma.kpm {H H':Hp}(k:KpM H H'){b h:Nat}{x:V}(m:Ma H b h x):Ma H' b h x:=m.via λa=>k.an a
theorem zbQ {a b c:Bool}{H:Hp}{Q:VK}(e:b=c)(h:rNe (.bl a) (.bl c) H Q):rNe (.bl a) (.bl b) H Q:=e ▸ h
end L2
namespace K40
open PySem L2 Own Bn
abbrev zaK:Stmt:=top 49
def ku (K:Jl)(Pt:JI):Sp:=λb H Q _=>∃ (a:JI) (ns:List Int),b=[.ref a]/\SqL K H a (ns.map V.int)/\ns.length<=63/\H Pt=some (.tbl #[])/\∀ c,Q (.bl true) c
def Scr (K:Jl)(a:JI)(xs:List V)(H:Hp):Prop:=H a=some (.lst xs)\/(∃ o,H a=some (.frz o (.lst xs)))\/∀ b,SqL K b a xs
theorem Scr.of {K:Jl}{a:JI}{xs:List V}{H:Hp}(h:SqL K H a xs):Scr K a xs H:=by
 rcases h with (h|h)|h
 ·exact .inl h
 ·exact .inr (.inl h)
 ·exact .inr (.inr λb=>.inr h)
theorem Scr.sq {K:Jl}{a:JI}{xs:List V}{H:Hp}(h:Scr K a xs H):SqL K H a xs:=by
 rcases h with h|h|h
 ·exact .inl (.inl h)
 ·exact .inl (.inr h)
 ·exact h H
theorem Scr.keep {K:Jl}{a:JI}{xs:List V}{H H':Hp}(h:Scr K a xs H)(k:∀ o,H a=some o->(o=.lst xs\/∃ u,o=.frz u (.lst xs))->(∀ H',SqL K H' a xs)\/H' a=some o):Scr K a xs H':=by
 rcases h with h|⟨o,h⟩|h
 ·rcases k _ h (.inl rfl) with z|z
  ·exact .inr (.inr z)
  ·exact .inl z
 ·rcases k _ h (.inr ⟨o,rfl⟩) with z|z
  ·exact .inr (.inr z)
  ·exact .inr (.inl ⟨o,z⟩)
 ·exact .inr (.inr h)
structure LE (K:Jl) (a l Pt:JI) (xs:List V) (H:Hp):Prop where
 S:Pk3 H l
 tab:TabQ qV Pt H
 scr:Scr K a xs H
 al:a≠l\/∀ H',SqL K H' a xs
section
variable {K:Jl}{a l Pt:JI}{xs:List V}{H H':Hp}
theorem LE.same (h:LE K a l Pt xs H)(s:Same H H'):LE K a l Pt xs H':=⟨h.S.keep s,h.tab.same s,h.scr.keep λo e _=>.inr (s _ _ e),h.al⟩
theorem LE.pick (h:LE K a l Pt xs H)(d:Pk3 H' l)(b:But l H H'):LE K a l Pt xs H':=by
 obtain⟨f,c⟩:=h.S.lst;refine⟨d,h.tab.but b c,h.scr.keep λo e _=>?_,h.al⟩;rcases h.al with z|z
 ·exact .inr (b _ _ e z)
 ·exact .inl z
theorem LE.ver (h:LE K a l Pt xs H)(t:TabQ qV Pt H')(b:But Pt H H'):LE K a l Pt xs H':=by
 obtain⟨ls,f,_⟩:=h.tab;obtain⟨x,y,z,d,r⟩:=h.S.ex;refine⟨⟨x,y,z,b _ _ d (wE d f λq=>by cases q),r⟩,t,h.scr.keep λo e c=>.inr (b _ _ e λq=>?_),h.al⟩;rw[q,f]at e;cases e;rcases c with c|⟨u,c⟩<;>cases c
theorem za8 {lc:JI}(h:LE K a l Pt xs H)(n:H lc=none):a≠lc\/∀ H',SqL K H' a xs:=by
 rcases h.scr with z|⟨o,z⟩|z
 ·exact .inl (zJ z n)
 ·exact .inl (zJ z n)
 ·exact .inr z
theorem LE.list {lc:JI}{ys zs:List V}(h:LE K a l Pt xs H)(e:H lc=some (.lst ys))(n:lc≠l)(ac:a≠lc\/∀ H',SqL K H' a xs):LE K a l Pt xs (L2.upd H lc (.lst zs)):=by
 refine⟨h.S.upd n.symm,h.tab.keep λb o q z=>?_,h.scr.keep λo q _=>?_,h.al⟩
 ·rw[zK];· exact q
  ·intro y
   rw[y,e]at q;cases q;rcases z with ⟨_,z⟩|⟨_,_,z⟩<;>cases z
 ·rcases ac with z|z
  ·exact .inr (by rw[zK z];exact q)
  ·exact .inl z
theorem g9 {q:Str}(t:TabQ q Pt H)(b:But Pt H H'):Tups H H':=λc d e=>by
 obtain⟨ls,a,_⟩:=t;exact b _ _ e (wE e a λq=>by cases q)
end
theorem Lns.len {lanes:Nat}{moves:List Nat}(h:Lns lanes moves):moves.length<=lanes:=by
 have:=jS (l:=moves) (ks:=List.range lanes) (h.up.imp λz=>JD z) λx a=>Y2.mpr (h.lt x a)
 rwa [Y7]at this
section
variable {K:Jl}
theorem zaa {N:Nt}{moves:List Nat}{H:Hp}{a:JI}{c:List Int}(ha:H a=some (.tup (c.map V.int)))(l:c.length=N.lanes)(nn:∀ x∈c,0<=x)(oth:∀ i,i<N.lanes->i∉moves->c.getD i 0=0)(e:xk (yd N c)=false):vc N moves H (.ref a)=true:=by
 obtain⟨cs,d,_,e2⟩:=jq (N:=N) (moves:=moves) ha (by rw[Je,l]) λj b=>by
  rw[Je]at b;refine⟨c[j],by rw[JG,J7 b];rfl,nn _ (JR b),?_⟩;by_cases m:j∈moves
  ·exact .inr m
  ·have:=oth j (by lia) m
   rw[Ja,J7 b]at this;exact .inl this
 have:cs=c:=by
  have z:=JS uk d;rw[qM,qM]at z;exact z.symm
 rw[e2,this,e];rfl
theorem bH {H:Hp}{a:JI}{c:List Int}(ha:H a=some (.tup (c.map V.int)))(l:c.length<=1000):Deep K H 1 (.ref a):=by
 refine Dp.deep (n:=1) ⟨.inr ⟨a,rfl,.inl ⟨_,ha⟩⟩,λd e=>?_⟩;rw[yk ha]at e;obtain rfl:=Jq e;refine⟨by rw[Je];exact l,λy b=>?_⟩;obtain⟨i,_,rfl⟩:=JE.mp b;exact Dp.flat trivial
end
section
variable {P:Yo}{w:YI}{K:Jl}{mg:Str->Option Jo}{base:YP}
theorem tD:FnScope ["_law_script","_law_k","_law_left_here","_law_net_here","_law_some_here","_law_told","_law_things","_law_turn","_law_lots","_law_counts_here","_law_thing","_law_found"] ["_law_script"] (zN zaK):=by trivial
theorem za0 {f fL fK fN fS fV fR fC fB fI Pt:JI}{fd dL dK dN dS dV dR dC dB dI:Yl}(F:Fun K "law" "law" zaK f fd) (G:Mgs mg) (UL:Use P w K mg base "_law_left" ["_law_script","_law_k"] 1 (qo K) fL dL) (UK:Use P w K mg base "_law_pick" ["_law_left_here","_law_many"] 1 yu fK dK) (UN:Use P w K mg base "_law_net" ["_law_left_here"] 12 mn fN dN) (US:Use P w K mg base "_law_some" ["_law_left_here","_law_net_here"] 2 qk fS dS)
  (UV:Use P w K mg base "verdict" ["net","some","most"] 8 (qj qV Pt) fV dV) (UR:Use P w K mg base "shows_break" ["net","some","thing"] 3 (tY K) fR dR) (UC:Use P w K mg base "_law_counts" ["_law_left_here","_law_net_here","_law_some_here"] 2 mq fC dC) (UB:Use P w K mg base "_law_bent" ["_law_left_here","_law_thing"] 10 uQ fB dB) (UI:Use P w K mg base "_law_is_break" ["_law_net_here","_law_some_here","_law_thing"] 2 (qr K) fI dI):FnOk P w K mg base CX0 13 f fd ["_law_script"] (ku K Pt):=by
 refine F.ok tD (λvs H Q E h=>?_) (λe8 A outer s H vs Q E hr h=>?_)
 ·obtain⟨a,ns,rfl,_⟩:=h
  rfl
 obtain⟨a,ns,rfl,hS,ep,ec,k⟩:=h;have tab:TabQ qV Pt H:=⟨[],ec,λp hp=>absurd hp Jx⟩;have b8:Room 1 _:=hr.mono (by decide);have b7:Room 2 _:=hr.mono (by decide);have dF:Room 3 _:=hr.mono (by decide);have d9:Room 8 _:=hr.mono (by decide);have c3:Room 10 _:=hr.mono (by decide);refine⟨_,(@zH _ _ _ _ _ (@xH _ _ _ _ _ _ _ _ Yi rfl (@yw _ _ _ _ _ _ (by rfl) G.range (@zA _ _ _ _ _ (@zU _ _ _ _ _ _ _ _ _ (gh rfl) (by rfl) G.max rfl (@zA _ _ _ _ _ zE (@zA _ _ _ _ _ (@zU _ _ _ _ _ _ _ _ _ (gf rfl) (by rfl) G.min rfl (@zA _ _ _ _ _ (@zU _ _ _ _ _ _ _ _ _ zY (by rfl) G.len JZ (@zA _ _ _ _ _ (@pvb _ 0 _ _ rfl) zC rfl) (by decide) (by decide) rfl rfl) (@zA _ _ _ _ _ zE zC rfl) rfl) (by decide) (by decide) rfl rfl) zC rfl) rfl) (by decide) (by decide) rfl rfl) zC rfl) rfl) (@zP _ _ 1 _ tD.nd rfl (.inl rfl) (by trivial)) (@zH _ _ _ _ _ (@zi _ _ 2 _ _ _ _ tD.nd rfl (.inr rfl) (@zT _ _ _ _ _ _ _ _ _ _ _ _ UL b8 (@zA _ _ _ _ _ (@pvb _ 0 _ _ rfl) (@zA _ _ _ _ _ (@pvb _ 1 _ _ rfl) zC rfl) rfl) (by rfl) rfl rfl rfl) rfl (by trivial)) (@zH _ _ _ _ _ (@zi _ _ 3 _ _ _ _ tD.nd rfl (.inl rfl) (@zT _ _ _ _ _ _ _ _ _ _ _ _ UN hr (@zA _ _ _ _ _ (@pvb _ 2 _ _ rfl) zC rfl) (by rfl) rfl rfl rfl) rfl (by trivial)) (@zH _ _ _ _ _ (@zi _ _ 4 _ _ _ _ tD.nd rfl (.inr rfl) (@zT _ _ _ _ _ _ _ _ _ _ _ _ US b7 (@zA _ _ _ _ _ (@pvb _ 2 _ _ rfl) (@zA _ _ _ _ _ (@pvb _ 3 _ _ rfl) zC rfl) rfl) (by rfl) rfl rfl rfl) rfl (by trivial)) (@zH _ _ _ _ _ (@zi _ _ 5 _ _ _ _ tD.nd rfl (.inl rfl) (@zT _ _ _ _ _ _ _ _ _ _ _ _ UV d9 (@zA _ _ _ _ _ (@pvb _ 3 _ _ rfl) (@zA _ _ _ _ _ (@pvb _ 4 _ _ rfl) (@zA _ _ _ _ _ zE zC rfl) rfl) rfl) (by rfl) rfl rfl rfl) rfl (by trivial)) (@zH _ _ _ _ _ (@yX _ _ _ _ _ _ _ _ (@pM _ _ _ _ _ _ _ (@zy _ _ _ _ _ _ _ _ xt (@zZ _ _ _ _ _ _ _ yL (@pvb _ 5 _ _ rfl) zE (λ_ _=>rfl)) wQ (yC _)) (@pL _ _ _ _ (@zy _ _ _ _ _ _ _ _ aE (@zT _ _ _ _ _ _ _ _ _ _ _ _ UR dF (@zA _ _ _ _ _ (@pvb _ 3 _ _ rfl) (@zA _ _ _ _ _ (@pvb _ 4 _ _ rfl) (@zA _ _ _ _ _ (@zZ _ _ _ _ _ _ _ yL (@pvb _ 5 _ _ rfl) zE (λ_ _=>rfl)) zC rfl) rfl) rfl) (by rfl) rfl rfl rfl) x4 rfl))).pt (@zM _ _ _ (@zV _ _ _ _ x4)) yA) (@zH _ _ _ _ _ (@zi _ _ 6 _ _ _ _ tD.nd rfl (.inl rfl) (@zw _ _ _ _ (@zA _ _ _ _ _ sO (@zA _ _ _ _ _ (@zp _ _ _ _ _ zC) (@zA _ _ _ _ _ zE (@zA _ _ _ _ _ (@zQ _ _ _ _ _ _ _ _ dc (@zw _ _ _ _ (@zA _ _ _ _ _ zE zC rfl)) (@zZ _ _ _ _ _ _ _ yL (@pvb _ 3 _ _ rfl) zE (λ_ _=>rfl))) (@zA _ _ _ _ _ (@zQ _ _ _ _ _ _ _ _ uA (@zp _ _ _ _ _ (@zA _ _ _ _ _ x4 zC rfl)) (@zZ _ _ _ _ _ _ _ yL (@pvb _ 3 _ _ rfl) zE (λ_ _=>rfl))) (@zA _ _ _ _ _ (@zQ _ _ _ _ _ _ _ _ uA (@zp _ _ _ _ _ (@zA _ _ _ _ _ zE zC rfl)) (@zZ _ _ _ _ _ _ _ yL (@pvb _ 3 _ _ rfl) zE (λ_ _=>rfl))) (@zA _ _ _ _ _ (@zQ _ _ _ _ _ _ _ _ uA (@zp _ _ _ _ _ (@zA _ _ _ _ _ zE zC rfl)) (@zQ _ _ _ _ _ _ _ _ yQ (@zZ _ _ _ _ _ _ _ yL (@pvb _ 3 _ _ rfl) zE (λ_ _=>rfl)) zE)) (@zA _ _ _ _ _ wQ (@zA _ _ _ _ _ nB zC rfl) rfl) rfl) rfl) rfl) rfl) rfl) rfl) rfl)) rfl (by trivial)) (@zH _ _ _ _ _ (@xH _ _ _ _ _ _ _ _ Yi rfl (@yw _ _ _ _ _ _ (by rfl) G.range (@zA _ _ _ _ _ zE zC rfl) rfl) (@zP _ _ 7 _ tD.nd rfl (.inl rfl) (by trivial)) (@zH _ _ _ _ _ (@zi _ _ 8 _ _ _ _ tD.nd rfl (.inl rfl) (@zZ _ _ _ _ _ _ _ zo (@zw _ _ _ _ (@zA _ _ _ _ _ (@pvb _ 4 _ _ rfl) (@zA _ _ _ _ _ (@pvb _ 4 _ _ rfl) (@zA _ _ _ _ _ (@uS _ _ _ _ _ _ _ rfl (by rfl) G.tuple (by rfl) G.range (@zA _ _ _ _ _ (@zZ _ _ _ _ _ _ _ yL (@pvb _ 3 _ _ rfl) zE (λ_ _=>rfl)) zC rfl) rfl rfl) zC rfl) rfl) rfl)) (@zT _ _ _ _ _ _ _ _ _ _ _ _ UK b8 (@zA _ _ _ _ _ (@pvb _ 2 _ _ rfl) (@zA _ _ _ _ _ zE zC rfl) rfl) (by rfl) rfl rfl rfl) (λ_ _=>rfl)) rfl (by trivial)) (@zH _ _ _ _ _ (@zi _ _ 9 _ _ _ _ tD.nd rfl (.inl rfl) (@zT _ _ _ _ _ _ _ _ _ _ _ _ UC b7 (@zA _ _ _ _ _ (@pvb _ 2 _ _ rfl) (@zA _ _ _ _ _ (@pvb _ 3 _ _ rfl) (@zA _ _ _ _ _ (@pvb _ 8 _ _ rfl) zC rfl) rfl) rfl) (by rfl) rfl rfl rfl) rfl (by trivial)) (@zH _ _ _ _ _ (@xA _ _ _ _ (@wV _ _ _ _ _ _ _ _ _ _ _ _ Y8 PySem.F.slot_list_extend PySem.F.type_list_extend uU (@pvb _ 6 _ _ rfl) (@zA _ _ _ _ _ (@zw _ _ _ _ (@zA _ _ _ _ _ (@pvb _ 9 _ _ rfl) (@zA _ _ _ _ _ (@zj _ _ _ _ _ _ _ _ _ zt (by rfl) G.tuple rfl (@zA _ _ _ _ _ (@vw _ _ _ _ none _ _ _ _ _ _ ["_law_one"] [none] rfl (@wg _ _ _ _ (@pvb _ 9 _ _ rfl)) (CapOk.of (by kernel_rfl)) (λ_ _ _ _ _=>(@zP _ _ 0 _ (show (["_law_one"]:List Str).Nodup from by decide +kernel) rfl (.inl rfl) (.inr rfl))) (λ_ _ _ _ _=>xG) (λ_ _ _ _ _=>(@zU _ _ _ _ _ _ _ _ _ rL (by rfl) G.abs rfl (@zA _ _ _ _ _ (@pvb _ 0 _ _ rfl) zC rfl) (by decide) (by decide) rfl rfl)) (by intro _;rfl)) zC rfl) (by decide) (by decide) rfl rfl) (@zA _ _ _ _ _ (@zT _ _ _ _ _ _ _ _ _ _ _ _ UB c3 (@zA _ _ _ _ _ (@pvb _ 2 _ _ rfl) (@zA _ _ _ _ _ (@pvb _ 9 _ _ rfl) zC rfl) rfl) (by rfl) rfl rfl rfl) zC rfl) rfl) rfl)) zC rfl) rfl rfl rfl rfl rfl) rfl) (@zM _ _ _ (@xA _ _ _ _ (@wV _ _ _ _ _ _ _ _ _ _ _ _ Y8 YJ YK yn (@pvb _ 6 _ _ rfl) (@zA _ _ _ _ _ (@zj _ _ _ _ _ _ _ _ _ zt (by rfl) G.tuple rfl (@zA _ _ _ _ _ (@vw _ _ _ _ none _ _ _ _ _ _ ["_law_lane","_law_left_here","_law_some_here"] [none,some 2,some 4] rfl (@yw _ _ _ _ _ _ (by rfl) G.range (@zA _ _ _ _ _ (@zZ _ _ _ _ _ _ _ yL (@pvb _ 3 _ _ rfl) zE (λ_ _=>rfl)) zC rfl) rfl) (CapOk.of (by kernel_rfl)) (λ_ _ _ _ _=>(@zP _ _ 0 _ (show (["_law_lane","_law_left_here","_law_some_here"]:List Str).Nodup from by decide +kernel) rfl (.inl rfl) (.inr rfl))) (λ_ _ _ _ _=>xG) (λ_ _ _ _ _=>(@zQ _ _ _ _ _ _ _ _ xT (@zT _ _ _ _ _ _ _ _ _ _ _ _ UK b8 (@zA _ _ _ _ _ (@pvb _ 1 _ _ rfl) (@zA _ _ _ _ _ zE zC rfl) rfl) (by rfl) rfl rfl rfl) (@zj _ _ _ _ _ _ _ _ _ vF (by rfl) G.int rfl (@zA _ _ _ _ _ (@xI _ _ _ _ _ _ _ (rIn K false) uT (@pvb _ 0 _ _ rfl) (@pvb _ 2 _ _ rfl) rfl) zC rfl) (by decide) (by decide) rfl rfl))) (by intro _;rfl)) zC rfl) (by decide) (by decide) rfl rfl) zC rfl) rfl rfl rfl rfl rfl) rfl))))) (by intro _;rfl)) (@zM _ _ _ (@xH _ _ _ _ _ _ _ _ Yi rfl (@pP _ _ _ _ (@pvb _ 6 _ _ rfl)) (@zP _ _ 10 _ tD.nd rfl (.inl rfl) (by trivial)) (@zH _ _ _ _ _ (@zi _ _ 11 _ _ _ _ tD.nd rfl (.inl rfl) (@zT _ _ _ _ _ _ _ _ _ _ _ _ UR dF (@zA _ _ _ _ _ (@pvb _ 3 _ _ rfl) (@zA _ _ _ _ _ (@pvb _ 4 _ _ rfl) (@zA _ _ _ _ _ (@pvb _ 10 _ _ rfl) zC rfl) rfl) rfl) (by rfl) rfl rfl rfl) rfl (by trivial)) (@zM _ _ _ (@yX _ _ _ _ _ _ _ _ (@eW _ _ _ _ _ _ _ (@pN _ _ _ _ (@wd _ _ _ (@zU _ _ _ _ _ _ _ _ _ y9 (by rfl) G.isi rfl (@zA _ _ _ _ _ (@pvb _ 11 _ _ rfl) (@zA _ _ _ _ _ (@xM _ _ (.ty "bool") (.type "bool") _ (by rfl) G.bool rfl rfl (by decide) (by decide)) zC rfl) rfl) (by decide) (by decide) rfl rfl) (by intro _;rfl))) (@lU _ _ _ _ (@zy _ _ _ _ _ _ _ _ jE (@pvb _ 11 _ _ rfl) (@zT _ _ _ _ _ _ _ _ _ _ _ _ UI b7 (@zA _ _ _ _ _ (@pvb _ 3 _ _ rfl) (@zA _ _ _ _ _ (@pvb _ 4 _ _ rfl) (@zA _ _ _ _ _ (@pvb _ 10 _ _ rfl) zC rfl) rfl) rfl) (by rfl) rfl rfl rfl) (yC _)))).pt (@zM _ _ _ (@zV _ _ _ _ x4)) yA))) (by intro _;rfl)))))))))) (by intro _;rfl)) (@zM _ _ _ (@zV _ _ _ _ x4))),?_⟩;have ml:(ns.map V.int).length=ns.length:=Je _;refine zB ⟨a,_,rfl,.inl hS,_,_,rfl,_,_,rfl,?_⟩;rw[ml]
 have e6:(if (if (6:Int)<(ns.length:Nat) then (6:Int) else (ns.length:Nat)) > 1 then (if (6:Int)<(ns.length:Nat) then (6:Int) else (ns.length:Nat)) else 1)<=6/\(1:Int)<=(if (if (6:Int)<(ns.length:Nat) then (6:Int) else (ns.length:Nat)) > 1 then (if (6:Int)<(ns.length:Nat) then (6:Int) else (ns.length:Nat)) else 1):=by
  split<;>split at *<;>lia
 refine zR rfl ⟨by lia,by lia,?_⟩;generalize (if (if (6:Int)<(ns.length:Nat) then (6:Int) else (ns.length:Nat)) > 1 then (if (6:Int)<(ns.length:Nat) then (6:Int) else (ns.length:Nat)) else 1)=cnt at e6;refine wH (lo:=0) (n:=cnt.toNat) (λi σ H2=>(∃ v1 v2 v3 v4 v5 v6 v7 v8 v9 v10 v11,σ=[some (.ref a),v1,v2,v3,v4,v5,v6,v7,v8,v9,v10,v11])/\Scr K a (ns.map V.int) H2/\TabQ qV Pt H2) ⟨⟨_,_,_,_,_,_,_,_,_,_,_,rfl⟩,Scr.of hS,tab⟩ ?_ ?_
 rotate_left
 ·rintro σ H2 ⟨⟨v1,v2,v3,v4,v5,v6,v7,v8,v9,v10,v11,rfl⟩,ab,tab⟩
  exact k _
 rintro i σ H2 hi ⟨⟨v1,v2,v3,v4,v5,v6,v7,v8,v9,v10,v11,rfl⟩,ab,tab⟩;have i6:i<6:=by lia
 refine jw (λD0 eo=>?_);refine zv (λD1 en=>?_);refine zB (zB ⟨a,ns,_,rfl,ab.sq,ep,by lia,by lia,λl H3 hl C S3=>?_⟩)
 have b4:LE K a l Pt (ns.map V.int) H3:=⟨S3,tab.same C,ab.keep λo e _=>.inr (C _ _ e),by
  rcases ab with z|⟨o,z⟩|z
  ·exact .inl (zJ z hl)
  ·exact .inl (zJ z hl)
  ·exact .inr z⟩
 clear ab tab C hl;refine en _ _ ?_;refine zv (λD2 ek=>?_);refine zB ⟨l,rfl,b4.S,λr fr er ps N H4 ew na S4 B4=>?_⟩;have b3:=b4.pick S4 B4;have ok:=ew.ok;have e3:=ok.l16;have l1:=ok.l1;refine ek _ _ ?_;refine zv (λD3 ej=>?_);refine zB (zB ⟨l,r,fr,er,ps,N,rfl,S4,ok,na,λp moves L ln hp S5 B5=>?_⟩);have a7:=b3.pick S5 B5;have b0:=na.tups (B5.tups3 b3.S);have eN:=ln.len;clear S5 B5 na S4 B4 b3 S3 b4;refine ej _ _ ?_;refine zv (λD4 ei=>?_);refine zB (zB ⟨r,fr,er,ps,N,p,moves,300,rfl,ok,b0,hp,ln.lt,by lia,by decide,by decide,a7.tab,λq H6 B6 a0 tell=>?_⟩);have dt:=a7.ver a0 B6;have t6:=g9 a7.tab B6;have bS:=b0.tups t6;have cc:=t6 _ _ hp;clear B6 a0 t6 b0 hp a7;refine ei _ _ ?_;refine pj (λσ HX=>σ=[some (.ref a),some (.int (0+(i:Nat))),some (.ref l),some (.ref r),some (.ref p),some (.ref q),v6,v7,v8,v9,v10,v11]/\Same H6 HX) ?_ λD bu rt=>?_
 rotate_left
 ·have ca:=gW (step:=xD N) (moves:=moves) (k0:=k0P N) (c0:=zL N) (most:=300)
  cases hR:wX N moves 300 with
  | opn =>
   rw[hR]at tell
   exact zB ⟨q,_,_,_,rfl,rfl,SqT.of tell,rfl,rfl,false,JS V.bl (Jn λz=>absurd (V.str.inj z) (by decide)),yF (bu _ _ ⟨rfl,Same.refl _⟩)⟩
  | whl ls =>
   rw[hR]at tell;obtain⟨bk,tq⟩:=tell
   exact zB ⟨q,_,_,_,rfl,rfl,SqT.of tq,rfl,rfl,false,JS V.bl (Jn λz=>absurd (V.str.inj z) (by decide)),yF (bu _ _ ⟨rfl,Same.refl _⟩)⟩
  | brk c =>
   rw[hR]at tell;rw[show yq (xD N) moves 300 (300+1) [(k0P N,zL N)] [] []=.brk c from hR]at ca;obtain⟨cb,tq,tc⟩:=tell;obtain⟨n,nm,B⟩:=ca;have R:=mJ ln.lt B;refine zB ⟨q,_,_,_,rfl,rfl,SqT.of tq,rfl,rfl,true,JS V.bl (Jw rfl),yZ ?_⟩;refine zB (zB (zB ⟨q,_,_,_,rfl,rfl,SqT.of tq,rfl,r,fr,er,ps,N,p,moves,.ref cb,rfl,ok,bS,cc,bH tc (by rw[R.len];lia),λH7 s7=>?_⟩));rw[zaa tc R.len R.nn R.oth (kg ok ln.lt B)];exact⟨true,true,rfl,rfl,_,rfl,yF (bu _ _ ⟨rfl,s7⟩)⟩
 rintro σ HX ⟨rfl,sX⟩;have T:=dt.same sX;have X:=bS.tups (Tups.of sX);have dX:=sX _ _ cc;clear sX dt bS cc tell;refine zv (λD5 eh=>?_);refine⟨by show 0<=sizeLine;decide,λp0 ck=>⟨by show 1<=sizeLine;decide,λq1 dP=>?_⟩⟩;have s0:=zD ck (.tup []);have s1:=zD dP (.lst [.int 0]);have v1:=s0.trans s1;refine zB ⟨r,_,_,_,rfl,rfl,SqT.of (v1 _ _ X.net),rfl,q1,_,[.int 0],rfl,rfl,zG,by lia,by lia,by show 1*_<=sizeLine;rw[JB];lia,λp1 d3=>⟨by show 1<=sizeLine;decide,λq2 dO=>?_⟩⟩;have I:=zD d3 (.lst (List.replicate ((N.lanes:Nat):Int).toNat [V.int 0]).flatten);have C:=zD dO (.tup [.bl true]);have v3:=(v1.trans I).trans C;refine zB ⟨r,_,_,_,rfl,rfl,SqT.of (v3 _ _ X.net),rfl,q2,_,N.lanes,rfl,rfl,zG,by lia,λp2 H4 s4 d2=>⟨by show 1<=sizeLine;decide,λq3 dM=>?_⟩⟩;have s5:=zD dM (.tup [.int 0]);have v5:=(v3.trans s4).trans s5;refine zB ⟨r,_,_,_,rfl,rfl,SqT.of (v5 _ _ X.net),rfl,q3,_,N.lanes,rfl,rfl,zG,by lia,λp3 H6 Y d1=>⟨by show 1<=sizeLine;decide,λq4 dG=>?_⟩⟩;have s7:=zD dG (.tup [.int 0]);have v7:=(v5.trans Y).trans s7;refine zB ⟨r,_,_,_,rfl,rfl,SqT.of (v7 _ _ X.net),rfl,_,_,rfl,rfl,q4,_,N.lanes+1,rfl,rfl,zG,by lia,λp4 H8 s8 d0=>λZ cf=>⟨by show 9<=sizeLine;decide,λlt bc=>?_⟩⟩;have s9:=zD cf (.dK []);have sl:=zD bc (.lst [.non,.ref p0,.int 0,.ref p1,.ref p2,.ref p3,.ref p4,.str "0",.ref Z]);have w8:=s8.trans (s9.trans sl);have w6:=Y.trans (s7.trans w8);have w4:=s4.trans (s5.trans w6);have w2:=I.trans (C.trans w4);have w0:=s0.trans (s1.trans w2);have a8:∀ {x:Int},x=0->x.natAbs<=10 ^ 29+250:=λe=>by rw[e];decide
 have f0:Ma _ 250 9 (.ref p0):=Ma.same (s1.trans w2) (Ma.new (xs:=[]) ck (show 0<=250 by decide) λy d=>(nomatch d));have f1:Ma _ 250 9 (.ref p1):=Ma.same (C.trans w4) (Ma.lst zG);have f2:Ma _ 250 9 (.ref p2):=Ma.same (s5.trans w6) (Ma.tup (h:=8) d2 (by rw[JX];lia) λy d=>by rw[WC d];exact Ma.bl true);have f3:Ma _ 250 9 (.ref p3):=Ma.same (s7.trans w8) (Ma.tup (h:=8) d1 (by rw[JX];lia) λy d=>by rw[WC d];exact Ma.int 0 (a8 rfl));have f4:Ma _ 250 9 (.ref p4):=Ma.same (s9.trans sl) (Ma.tup (h:=8) d0 (by rw[JX];lia) λy d=>by rw[WC d];exact Ma.int 0 (a8 rfl));have f5:Ma _ 250 9 (.ref Z):=Ma.same sl (Ma.dictN cf);have S:lt≠l:=((T.same (s0.trans (s1.trans (I.trans (C.trans (s4.trans (s5.trans (Y.trans (s7.trans (s8.trans s9)))))))))).S.ne bc).symm;have acc:=za8 (T.same (s0.trans (s1.trans (I.trans (C.trans (s4.trans (s5.trans (Y.trans (s7.trans (s8.trans s9)))))))))) bc;have leB:=T.same w0;have ao:=X.tups (Tups.of w0);have ba:=w0 _ _ dX;have d4:L2.upd (L2.upd H8 Z (.dK [])) lt (.lst [.non,.ref p0,.int 0,.ref p1,.ref p2,.ref p3,.ref p4,.str "0",.ref Z]) lt=some (.lst [.non,.ref p0,.int 0,.ref p1,.ref p2,.ref p3,.ref p4,.str "0",.ref Z]):=zG;have c9:[V.non,.ref p0,.int 0,.ref p1,.ref p2,.ref p3,.ref p4,.str "0",.ref Z].length<=9:=Jf _
 have c5:∀ y∈[V.non,.ref p0,.int 0,.ref p1,.ref p2,.ref p3,.ref p4,.str "0",.ref Z],Ma (L2.upd (L2.upd H8 Z (.dK [])) lt (.lst [.non,.ref p0,.int 0,.ref p1,.ref p2,.ref p3,.ref p4,.str "0",.ref Z])) 300 9 y:=λy d=>Ma.more (b:=250) (h:=9) (by decide) (by decide) (by
  simp only[Jr,Jx,YB]at d;rcases d with rfl|rfl|rfl|rfl|rfl|rfl|rfl|rfl|rfl
  ·exact Ma.non
  ·exact f0
  ·exact Ma.int 0 (a8 rfl)
  ·exact f1
  ·exact f2
  ·exact f3
  ·exact f4
  ·exact Ma.str _
  ·exact f5)
 refine eh _ _ ?_;generalize L2.upd (L2.upd H8 Z (.dK [])) lt (.lst [.non,.ref p0,.int 0,.ref p1,.ref p2,.ref p3,.ref p4,.str "0",.ref Z])=HB at *;generalize [V.non,.ref p0,.int 0,.ref p1,.ref p2,.ref p3,.ref p4,.str "0",.ref Z]=ts0 at *;clear f0 f1 f2 f3 f4 f5 w0 w2 w4 w6 w8 sl s9 bc cf s8 d0 v7 s7 dG Y d1 v5 s5 dM s4 d2 v3 C I dO d3 v1 s1 s0 dP ck T X dX;refine zv (λD6 eg=>?_);refine zR rfl ⟨by decide,by decide,?_⟩;refine wH (lo:=0) (n:=(16:Int).toNat) (λj σ HZ=>∃ g w7 w8 w9 O M,σ=[some (.ref a),some (.int (0+(i:Nat))),some (.ref l),some (.ref r),some (.ref p),some (.ref q),some (.ref lt),w7,w8,w9,O,M]/\LE K a l Pt (ns.map V.int) HZ/\KpM HB HZ/\HZ lt=some (.lst g)/\g.length<=9+4*j/\∀ y∈g,Ma HZ 300 9 y) ⟨_,_,_,_,_,_,rfl,leB,KpM.refl _,d4,c9,c5⟩ ?_ ?_
 ·rintro j σ HZ hj ⟨g,w7,w8,w9,O,M,rfl,leZ,kz,aT,tl,tm⟩
  replace hj:j<16:=hj;refine jw (λG0 c2=>?_);refine zv (λG1 c1=>?_);have a5:=ao.tups kz.tups;have a9:=kz.tups _ _ ba;refine zB (zB (zB ⟨r,_,_,_,rfl,rfl,SqT.of a5.net,rfl,N.lanes,rfl,by lia,λt1 dE=>⟨by show 3<=sizeLine;decide,λl3 cH=>?_⟩⟩));have s1:=zD dE (.tup (rO N.lanes));have I:=zD cH (.lst [.ref p,.ref p,.ref t1]);have u2:=s1.trans I;have n3:l3≠l:=((leZ.same s1).S.ne cH).symm;have d6:L2.upd (L2.upd HZ t1 (.tup (rO N.lanes))) l3 (.lst [.ref p,.ref p,.ref t1]) t1=some (.tup (zW (List.range N.lanes))):=I _ _ zG;refine zB ⟨l,3,rfl,by decide,by decide,(leZ.same u2).S,λv H1 hv S1 B1=>?_⟩
  obtain⟨W,b2,a4,a3⟩:∃ (W:JI) (b2:List Nat),([.ref p,.ref p,.ref t1]:List V)[v]?=some (.ref W)/\H1 W=some (.tup (zW b2)):=by
   have h1:=B1.tups3 (leZ.same u2).S _ _ (u2 _ _ a9);have h2:=B1.tups3 (leZ.same u2).S _ _ d6;rcases (by lia:v=0\/v=1\/v=2) with rfl|rfl|rfl
   ·exact⟨p,moves,rfl,h1⟩
   ·exact⟨p,moves,rfl,h1⟩
   ·exact⟨t1,_,rfl,h2⟩
  have dx:=(leZ.same u2).pick S1 B1;have k1:=(KpM.same u2).trans (KpM.but B1 (leZ.same u2).S S1);refine⟨l3,_,_,_,rfl,rfl,SqL.of (B1 _ _ zG n3),yJ a4,c1 _ _ ?_⟩;have d5:=B1 _ _ (u2 _ _ aT) S;have c8:∀ y∈g,Ma _ 300 9 y:=λy d=>Ma.kpm k1 (tm y d);have b6:=kz.trans k1;clear d6 n3 cH dE u2 s1 I B1 a4 aT tm kz leZ a5 a9 k1;have dm:=ao.tups b6.tups;refine zv (λG2 ef=>?_);refine zB (zB (zB ⟨l,r,fr,er,ps,N,W,b2,rfl,S1,ok,dm,a3,λc cs H2 cl cz cb hc S2 B2=>ef _ _ ?_⟩));have le2:=dx.pick S2 B2;have k2:=KpM.but B2 S1 S2;have cP:=B2 _ _ d5 S;have c7:∀ y∈g,Ma _ 300 9 y:=λy d=>Ma.kpm k2 (c8 y d);have dD:=b6.trans k2;clear B2 k2 d5 c8 b6 dx S1 dm a3;refine zv (λG3 ed=>?_);refine zB ⟨.inl ⟨rfl,_,SqL.of cP⟩,_,rfl,_,rfl,c,rfl,⟨_,SqT.of hc⟩,λla cn=>?_⟩;have C:=zD cn (.lst [])
  have mc:Ma H2 250 1 (.ref c):=Ma.tup (h:=0) hc (by rw[Je];lia) λy d=>by
   obtain⟨i,hi,rfl⟩:=JE.mp d;exact Ma.int i (JK (cb i hi) (Nat.le_add_right _ _))
  refine sR (K:=K) (a:=c) (xs:=cs.map V.int) (λi acc σ L=>(∃ v0,σ=[v0])/\Same H2 L/\L la=some (.lst acc)/\∃ t:List Int,acc=t.map V.int/\t.length=i/\∀ x∈t,x.natAbs<=10 ^ 29) ⟨⟨_,rfl⟩,C,zG,[],rfl,rfl,λx hx=>(nomatch hx)⟩ (λi acc σ L q=>⟨q.2.2.1,SqT.of (q.2.1 _ _ hc)⟩) ?_ ?_
  ·rintro i y acc σ L d ⟨⟨v0,rfl⟩,s5,h5,t,rfl,el,eb⟩
   rw[JG]at d;obtain⟨x0,ex,rfl⟩:=Y0.mp d;have il:=(Jb.mp ex).1;refine zB ⟨x0,rfl,?_⟩;refine⟨h5,by rw[Je,JB];lia,nx (by rw[Je];exact il) ⟨⟨_,rfl⟩,λb o e=>by rw[zK (zJ e cn)];exact s5 b o e,zG,t++[if x0<0 then -x0 else x0],by rw[JQ];rfl,by rw[Jc,el];rfl,λx hx=>?_⟩⟩;rcases Jv.mp hx with z|z
   ·exact eb x z
   ·rw[Jd.mp z]
    have:=cb x0 (JP ex);split<;>lia
  rintro acc σ L ⟨⟨v0,rfl⟩,s5,h5,t,rfl,el,eb⟩;rw[Je]at el;refine⟨la,_,rfl,.inl ⟨SqL.of h5,λJ b9=>?_⟩⟩;have Y:=zD b9 (.tup (t.map V.int));have u6:=s5.trans Y
  have ma:Ma (L2.upd L J (.tup (t.map V.int))) 300 9 (.ref J):=Ma.new b9 (by rw[Je];lia) λy d=>by
   obtain⟨i,hi,rfl⟩:=JE.mp d;exact Ma.int i (JK (eb i hi) (Nat.le_add_right _ _))
  have b1:=Ma.same u6 mc;have m:=le2.same u6;have U:=u6 _ _ cP;have c6:∀ y∈g,Ma _ 300 9 y:=λy d=>Ma.same u6 (c7 y d);have dA:=dD.trans (KpM.same u6);clear u6 Y b9 h5 s5 mc C cn c7 dD cP le2 S2 hc el eb;generalize L2.upd L J (.tup (t.map V.int))=H6' at *;refine zB (zB ⟨1,by decide,l,.ref c,250,rfl,m.S,by decide,b1,λy H7 my S7 B7=>⟨by show 3<=sizeLine;decide,λl4 cx=>?_⟩⟩);have k7:=KpM.but B7 m.S S7;have T:=m.pick S7 B7;have ct:=B7 _ _ U S;have s8:=zD cx (.lst [.ref c,.ref J,y]);have et:l4≠lt:=(zJ ct cx).symm;have bt:=s8 _ _ ct;refine⟨lt,l4,g,_,rfl,rfl,bt,zG,by show g.length+3<=sizeLine;rw[JB];lia,ed _ _ ?_⟩;have k8:=KpM.same s8;have k9:=KpM.list (zs:=g++[.ref c,.ref J,y]) bt;have kk:=(k7.trans k8).trans k9;have ax:=(T.same s8).list (zs:=g++[.ref c,.ref J,y]) bt S acc;have cp:L2.upd (L2.upd H7 l4 (.lst [.ref c,.ref J,y])) lt (.lst (g++[.ref c,.ref J,y])) lt=some (.lst (g++[.ref c,.ref J,y])):=zG
  have d7:∀ z∈g++[V.ref c,.ref J,y],Ma (L2.upd (L2.upd H7 l4 (.lst [.ref c,.ref J,y])) lt (.lst (g++[.ref c,.ref J,y]))) 300 9 z:=λz hz=>by
   rcases Jv.mp hz with u|u
   ·exact Ma.kpm kk (c6 z u)
   ·simp only[Jr,Jx,YB]at u
    rcases u with rfl|rfl|rfl
    ·exact Ma.kpm kk (Ma.more (b:=250) (h:=1) (by decide) (by decide) b1)
    ·exact Ma.kpm kk ma
    ·exact Ma.kpm (k8.trans k9) (Ma.more (b:=253) (h:=3) (by decide) (by decide) my)
  have dd:(g++[V.ref c,.ref J,y]).length=g.length+3:=by rw[Jc];rfl
  have b5:=dA.trans kk;have d8:=ao.tups b5.tups;have ea:=b5.tups _ _ ba;clear kk k9 k8 bt s8 ct T k7 B7 S7 my c6 dA m U b1 ma et cx;generalize L2.upd (L2.upd H7 l4 (.lst [.ref c,.ref J,y])) lt (.lst (g++[.ref c,.ref J,y]))=H9 at *;refine zB ⟨.inl ⟨rfl,_,SqL.of cp⟩,?_⟩;refine zB ⟨r,_,_,_,rfl,rfl,SqT.of d8.net,rfl,_,rfl,by lia,by lia,λlc bo=>?_⟩;have bB:=ax.S.ne bo;have eu:Frs l H9 lc:=λb o e _=>zJ e bo;have e1:lt≠lc:=zJ cp bo;refine qK (lo:=0) (n:=((N.lanes:Nat):Int).toNat) (λi acc σ L=>(∃ v0,σ=[v0,some (.ref l),some (.ref p)])/\Pk3 L l/\But l H9 L/\L lc=some (.lst acc)/\∃ t:List Int,acc=t.map V.int/\t.length=i/\∀ x∈t,x.natAbs<=10) ⟨⟨_,rfl⟩,ax.S.upd bB,But.of (zD bo _),zG,[],rfl,rfl,λx hx=>(nomatch hx)⟩ (λi acc σ L q=>q.2.2.2.1) ?_ ?_
  ·rintro i acc σ L hi ⟨⟨v0,rfl⟩,S5,B5,h5,t,rfl,el,eb⟩
   replace hi:i<N.lanes:=by lia
   have e0:(0:Int)+((i:Nat):Int)=((i:Nat):Int):=Int.zero_add _;dsimp only[xw,mU];rw[Jj rfl];refine zB ⟨l,3,rfl,by decide,by decide,S5,λv1 H6 e4 S6 B6=>?_⟩;have h6:=B6 lc _ h5 bB.symm;have c4:=(B5.trans B6).tups3 ax.S _ _ ea;refine zB (zB ⟨p,_,rfl,.inr (SqT.of c4),rfl,si moves,.inr (zR rfl ⟨_,_,rfl,rfl,.inr ?_,h6,by rw[Je,JB];lia,nx (by lia) ⟨⟨_,rfl⟩,S6.upd bB,(B5.trans B6).upd eu,zG,t++[(v1:Int)*(if inV (.int (0+(i:Nat))) (zW moves)=true then 1 else 0)],by rw[JQ];rfl,by rw[Jc,el];rfl,λx hx=>?_⟩⟩)⟩)
   ·split<;>lia
   ·rcases Jv.mp hx with z|z
    ·exact eb x z
    ·rw[Jd.mp z]
     split<;>lia
  rintro acc σ L ⟨⟨v0,rfl⟩,S5,B5,h5,t,rfl,el,eb⟩;rw[Y3]at el;refine⟨lc,_,rfl,.inl ⟨SqL.of h5,λpb dT=>?_⟩⟩;have Y:=zD dT (.tup (t.map V.int))
  have mb:Ma (L2.upd L pb (.tup (t.map V.int))) 300 9 (.ref pb):=Ma.new dT (by rw[Je];lia) λy d=>by
   obtain⟨i,hi,rfl⟩:=JE.mp d;exact Ma.int i (by have:=eb i hi;lia)
  have U:=Y _ _ (B5 _ _ cp S);have k5:=(KpM.but B5 ax.S S5).trans (KpM.same Y);have m:=(ax.pick S5 B5).same Y;refine⟨lt,_,.ref pb,rfl,rfl,U,by rw[dd,JB];lia,?_⟩;have k6:=k5.trans (KpM.list (zs:=(g++[.ref c,.ref J,y])++[.ref pb]) U);refine c2 _ _ ⟨_,_,_,_,_,_,rfl,m.list U S acc,b5.trans k6,zG,by rw[Jc,dd];show _+1<=_;lia,λz hz=>?_⟩;rcases Jv.mp hz with u|u
  ·exact Ma.kpm k6 (d7 z u)
  ·rw[Jd.mp u];exact Ma.kpm (KpM.list U) mb
 rintro σ HZ ⟨g,w7,w8,w9,O,M,rfl,leZ,kz,aT,tl,tm⟩;have a5:=ao.tups kz.tups;have a9:=kz.tups _ _ ba;clear kz ao ba d4 c5 c9 leB acc S a8;refine eg _ _ ?_;refine zB ⟨lt,rfl,⟨_,SqL.of aT⟩,?_⟩
 refine bC (K:=K) (a:=lt) (xs:=g) (λj σ HA=>∃ O M,σ=[some (.ref a),some (.int (0+(i:Nat))),some (.ref l),some (.ref r),some (.ref p),some (.ref q),some (.ref lt),w7,w8,w9,O,M]/\LE K a l Pt (ns.map V.int) HA/\Same HZ HA) ⟨_,_,rfl,leZ,Same.refl _⟩ (λj σ HA _ z=>by
  obtain⟨_,_,_,_,z⟩:=z
  exact SqL.of (z _ _ aT)) ?_ ?_
 rotate_left
 ·rintro σ HA ⟨O,M,rfl,a6,kA⟩
  exact eo _ _ ⟨⟨_,_,_,_,_,_,_,_,_,_,_,rfl⟩,a6.scr,a6.tab⟩
 rintro j x σ HA hx ⟨O,M,rfl,a6,kA⟩;have mx:=Ma.same kA (tm x (JP hx));have dn:=a5.tups (Tups.of kA);have dW:=kA _ _ a9;refine jw (λG0 c2=>?_);refine zv (λG1 c1=>?_);have dp:∀ {HQ:Hp},Ma HQ 300 9 x->Dp HQ 1 x:=λmm=>Ma.dp (by decide) 1 mm;refine zB (zB (zB ⟨r,fr,er,ps,N,p,moves,x,rfl,ok,dn,dW,(dp mx).deep,λH2 I=>?_⟩));have dr:=Ma.same I mx;refine c1 _ _ ?_
 have ey:vc N moves H2 x=vc N moves HA x:=by
  unfold vc y4 eM;rw[zaQ (KpN.same I) (dp mx)]
 have big:∀ xs,yK H2 x=some xs->∀ c:Int,.int c∈xs->c<=10 ^ 40:=λxs e c hc=>by
  obtain⟨_,h',_,q⟩:=dr.kids e;have:=(q _ hc).sm;have z:(10:Nat) ^ 29+300<=10 ^ 40:=by decide
  have z2:c.natAbs<=10 ^ 29+300:=this;have z3:((10:Int) ^ 40)=((10 ^ 40:Nat):Int):=by decide
  rw[z3];lia
 generalize vc N moves HA x=found at *;refine zB ⟨_,"bool",_,true,rfl,.bl found,rfl,_,rfl,yF (zB (zB (zB (zB ⟨r,fr,er,ps,N,p,moves,x,rfl,ok,dn.tups (Tups.of I),I _ _ dW,(dp dr).deep,big,λH3 C=>?_⟩))))⟩;refine zbQ (c:=found) ey ?_;refine⟨rfl,_,rfl,?_⟩;rw[show (!decide (V.bl found=V.bl found))=false by rw[Jw rfl];rfl];exact yF (c2 _ _ ⟨_,_,rfl,a6.same (I.trans C),kA.trans (I.trans C)⟩)
end
structure FnAt (K:Jl) (x:Str) (st:Stmt) (f:JI) (fd:Yl):Prop where
 ns:PySem.W.nsIn K mainGlobals x=some (some (.ref f))
 fn:Fun K x x st f fd
theorem yO {K:Jl}{x:Str}{st:Stmt}{f:JI}{oc:Jo}{od an:Option JI}{osl:Array (Option Jo)}{kV doc pm cdv ct:Jo}(a:PySem.W.nsIn K mainGlobals x=some (some (.ref f)))(l:K.lookup f=some ⟨oc,od,.func (PySem.W.fnOf x x (xX st) (yx st) (zN st) .none kV doc pm an cdv ct),osl⟩)(c:PySem.W.codeIn K cdv x=true)(k:PySem.W.keepIn K (.ref f)=true):FnAt K x st f (PySem.W.fnOf x x (xX st) (yx st) (zN st) .none kV doc pm an cdv ct):=⟨a,zbh l c k⟩
structure FnAtC (K:Jl) (x:Str) (st:Stmt) (f:JI) (fd:Yl) (c:JI):Prop where
 ns:PySem.W.nsIn K mainGlobals x=some (some (.ref f))
 fn:FunC K x x st f fd c
theorem zbi {K:Jl}{x:Str}{st:Stmt}{f c:JI}{oc:Jo}{od an:Option JI}{osl:Array (Option Jo)}{kV doc pm ct:Jo}(a:PySem.W.nsIn K mainGlobals x=some (some (.ref f)))(l:K.lookup f=some ⟨oc,od,.func (PySem.W.fnOf x x (xX st) (yx st) (zN st) .none kV doc pm an (.ref c) ct),osl⟩)(cd:PySem.W.codeIn K (.ref c) x=true)(k:PySem.W.keepIn K (.ref f)=true):FnAtC K x st f (PySem.W.fnOf x x (xX st) (yx st) (zN st) .none kV doc pm an (.ref c) ct) c:=⟨a,⟨⟨_,_,_,_,_,_,_,_,rfl,l,cd⟩,k⟩⟩
theorem _root_.L2.FunC.fun {K:Jl}{x qual:Str}{st:Stmt}{f:JI}{fd:Yl}{c:JI}(F:FunC K x qual st f fd c):Fun K x qual st f fd:=by
 obtain⟨d,b,kV,doc,pm,an,g,a,e,l,q⟩:=F.ex;exact⟨⟨d,b,kV,doc,pm,an,.ref c,g,a,e,l,q⟩,F.kp⟩
theorem gS {K:Jl}{c P:JI}{od:Option JI}{vs:Array Jo}{osl:Array (Option Jo)}(l:K.lookup c=some ⟨.type "code",od,.fields vs,osl⟩) (e:PySem.W.codeHdIn [(c,⟨.type "code",od,.fields vs,osl⟩)] c P=true):PySem.W.codeHdIn K c P=true:=by
 have q:List.lookup c [(c,(⟨.type "code",od,.fields vs,osl⟩:Obj))]=some ⟨.type "code",od,.fields vs,osl⟩:=by rw[Yy,ZF]
 unfold PySem.W.codeHdIn at e ⊢;rw[q]at e;rw[l];exact e
theorem us1 {us:List Jo}(h:us.length=1):∃ a,us=[a]:=by
 match us,h with
 | [a],_=>exact⟨a,rfl⟩
theorem us2 {us:List Jo}(h:us.length=2):∃ b a,us=[b,a]:=by
 match us,h with
 | [b,a],_=>exact⟨b,a,rfl⟩
theorem us3 {us:List Jo}(h:us.length=3):∃ c b a,us=[c,b,a]:=by
 match us,h with
 | [c,b,a],_=>exact⟨c,b,a,rfl⟩
theorem us4 {us:List Jo}(h:us.length=4):∃ c b a u3,us=[c,b,a,u3]:=by
 match us,h with
 | [c,b,a,u3],_=>exact⟨c,b,a,u3,rfl⟩
theorem us5 {us:List Jo}(h:us.length=5):∃ d c b u3 a,us=[d,c,b,u3,a]:=by
 match us,h with
 | [d,c,b,u3,a],_=>exact⟨d,c,b,u3,a,rfl⟩
set_option maxHeartbeats 4000001 in
theorem zbp {l:PySem.W.OpenLaw}{w:YI}{K:Jl}{h:YP}{mg:Str->Option Jo}{fa f1 f2 f3 f4 f5 f6 f7 f8 f9 c3 c2 c1 c0 cP cz cx cp fC cn ck cf cc cb b0 bS bu bt bo bc ba a9 a8 a7 a6 a5 a4 a3 a0 aT fB:JI}{d1 d2 d3 d4 d5 d6 d7 d8 d9 d0 dX dW dV dT dS dR dP fD dO dM dK dG dF dE dD dC dB dA dx dt dr dn dm dd c9 c8 c7 c6 c5 c4:Yl}(X:K.In h) (G:h.Ns mainGlobals mg) (fA:mg "law" = some (.ref fa))
  {i Pt:JI}
  (A1:FnAt K "flowed" pF f1 d1)
  (A2:FnAt K "ends_of" eH f2 d2)
  (A3:FnAt K "is_whole" lC f3 d3)
  (A4:FnAt K "is_row" lI f4 d4)
  (A5:FnAt K "are_from_nought" lL f5 d5)
  (A6:FnAt K "stair_of" eB f6 d6)
  (A7:FnAt K "is_stair" sJ f7 d7)
  (A8:FnAt K "end_of" zaM f8 d8)
  (A9:FnAt K "run_through" zaI f9 d9)
  (V:FnAt K "passed" pD c3 d0)
  (U:FnAt K "given_at" lK c2 dX)
  (T:FnAt K "added" lM c1 dW)
  (S:FnAt K "first_turns" pG c0 dV)
  (R:FnAt K "first_pair" pH cP dT)
  (Q:FnAt K "pair_behind" lF cz dS)
  (P:FnAt K "next_level" zaJ cx dR)
  (O:FnAt K "climbed" zaN cp dP)
  (N:FnAt K "book_of" eJ fC fD)
  (L:FnAtC K "verdict" oi cn dO i)
  (J:FnAt K "shows_break" pC ck dM)
  (I:FnAt K "_law_left" eG cf dK)
  (H:FnAt K "_law_pick" eC cc dG)
  (F:FnAt K "_law_mixed" lG cb dF)
  (E:FnAt K "_law_merger" ot b0 dE)
  (D:FnAt K "_law_stairway" oo bS dD)
  (C:FnAt K "_law_block" ou bu dC)
  (B:FnAt K "_law_tree" oj bt dB)
  (A:FnAt K "_law_made" eF bo dA)
  (z:FnAt K "_law_any" eK bc dx)
  (y:FnAt K "_law_changed" zaO ba dt)
  (x:FnAt K "_law_net" eE a9 dr)
  (u:FnAt K "_law_some" lE a8 dn)
  (t:FnAt K "_law_ends" lH a7 dm)
  (r:FnAt K "_law_stair" pE a6 dd)
  (q:FnAt K "_law_counts" eI a5 c9)
  (o:FnAt K "_law_whole" zaG a4 c8)
  (n:FnAt K "_law_odd" eD a3 c7)
  (m:FnAt K "_law_bent" vQ a0 c6)
  (k:FnAt K "_law_is_break" lJ aT c5)
  (W:FnAt K "law" zaK fB c4)
  (z1:PySem.W.nsIn K mainGlobals "len" = some none)
  (z2:PySem.W.nsIn K mainGlobals "range" = some none)
  (z3:PySem.W.nsIn K mainGlobals "tuple" = some none)
  (z4:PySem.W.nsIn K mainGlobals "enumerate" = some none)
  (z5:PySem.W.nsIn K mainGlobals "abs" = some none)
  (z6:PySem.W.nsIn K mainGlobals "zip" = some none)
  (z7:PySem.W.nsIn K mainGlobals "isinstance" = some none)
  (z8:PySem.W.nsIn K mainGlobals "all" = some none)
  (z9:PySem.W.nsIn K mainGlobals "sum" = some none)
  (ep:PySem.W.nsIn K mainGlobals "bool" = some none)
  (eo:PySem.W.nsIn K mainGlobals "int" = some none)
  (en:PySem.W.nsIn K mainGlobals "str" = some none)
  (el:PySem.W.nsIn K mainGlobals "max" = some none)
  (ek:PySem.W.nsIn K mainGlobals "min" = some none)
  (ej:PySem.W.nsIn K mainGlobals "sorted" = some none)
  (ei:PySem.W.nsIn K mainGlobals "list" = some none)
  (eh:PySem.W.nsIn K mainGlobals "any" = some none)
  (cH:PySem.W.codeHdIn K i Pt=true) (er:mainGlobals≠Pt) (kP:K.lookup Pt=none)
  : (K.lookup Pt=none/\∃ c,PySem.W.codeHdIn K c Pt=true)/\∃ fd:Yl,(∀ (s:JO) (v:Jo),BindsTo s fd ⟨[v],[]⟩ [("_law_script",v)])/\∀ base:YP,K.In base->base.Ns mainGlobals mg->(∀ p∈[Pt],base.BuiltinsAt mg p)->FnOk l.prog w K mg base CX0 13 fa fd ["_law_script"] (ku K Pt):=by
 have e:=fA.symm.trans (JF X G W.ns);cases e;have M:Mgs mg:=⟨Y1 X G z1,Y1 X G z2,Y1 X G z3,Y1 X G z4,Y1 X G z5,Y1 X G z6,Y1 X G z7,Y1 X G z8,Y1 X G z9,Y1 X G ep,Y1 X G eo,Y1 X G en,Y1 X G el,Y1 X G ek,Y1 X G ej,Y1 X G ei⟩;have M2:MgA mg:=⟨Y1 X G eh⟩;have b1:=A1.fn.binds (ps:=["net","counts"]) λ_ _ _ _ _ _ b a=>by obtain⟨d,f,rfl⟩:=us2 a;rfl
 have m1:=JF X G A1.ns;have b2:=A2.fn.binds (ps:=["net","counts"]) λ_ _ _ _ _ _ b a=>by obtain⟨d,f,rfl⟩:=us2 a;rfl
 have m2:=JF X G A2.ns;have b3:=A3.fn.binds (ps:=["thing"]) λ_ _ _ _ _ _ b a=>by obtain⟨d,rfl⟩:=us1 a;rfl
 have m3:=JF X G A3.ns;have b4:=A4.fn.binds (ps:=["thing","many"]) λ_ _ _ _ _ _ b a=>by obtain⟨d,f,rfl⟩:=us2 a;rfl
 have m4:=JF X G A4.ns;have b5:=A5.fn.binds (ps:=["thing","many"]) λ_ _ _ _ _ _ b a=>by obtain⟨d,f,rfl⟩:=us2 a;rfl
 have m5:=JF X G A5.ns;have b6:=A6.fn.binds (ps:=["total","many"]) λ_ _ _ _ _ _ b a=>by obtain⟨d,f,rfl⟩:=us2 a;rfl
 have m6:=JF X G A6.ns;have b7:=A7.fn.binds (ps:=["counts"]) λ_ _ _ _ _ _ b a=>by obtain⟨d,rfl⟩:=us1 a;rfl
 have m7:=JF X G A7.ns;have b8:=A8.fn.binds (ps:=["net","lane"]) λ_ _ _ _ _ _ b a=>by obtain⟨d,f,rfl⟩:=us2 a;rfl
 have m8:=JF X G A8.ns;have b9:=A9.fn.binds (ps:=["net","turns","lane","back"]) λ_ _ _ _ _ _ b a=>by obtain⟨d,f,j,u3,rfl⟩:=us4 a;rfl
 have m9:=JF X G A9.ns;have g0:=V.fn.binds (ps:=["net","turns","lane"]) λ_ _ _ _ _ _ b a=>by obtain⟨d,f,j,rfl⟩:=us3 a;rfl
 have fy:=JF X G V.ns;have gV:=U.fn.binds (ps:=["row","place","value"]) λ_ _ _ _ _ _ b a=>by obtain⟨d,f,j,rfl⟩:=us3 a;rfl
 have fx:=JF X G U.ns;have gP:=T.fn.binds (ps:=["counts","place","many"]) λ_ _ _ _ _ _ b a=>by obtain⟨d,f,j,rfl⟩:=us3 a;rfl
 have fv:=JF X G T.ns;have gs:=S.fn.binds (ps:=["net"]) λ_ _ _ _ _ _ b a=>by obtain⟨d,rfl⟩:=us1 a;rfl
 have ft:=JF X G S.ns;have gk:=R.fn.binds (ps:=["net"]) λ_ _ _ _ _ _ b a=>by obtain⟨d,rfl⟩:=us1 a;rfl
 have fp:=JF X G R.ns;have gi:=Q.fn.binds (ps:=["net","pair","lane"]) λ_ _ _ _ _ _ b a=>by obtain⟨d,f,j,rfl⟩:=us3 a;rfl
 have fo:=JF X G Q.ns;have gg:=P.fn.binds (ps:=["level","seen","moves","led"]) λ_ _ _ _ _ _ b a=>by obtain⟨d,f,j,u3,rfl⟩:=us4 a;rfl
 have fm:=JF X G P.ns;have gd:=O.fn.binds (ps:=["first","counts","moves","led","most"]) λ_ _ _ _ _ _ b a=>by obtain⟨d,f,j,u3,u4,rfl⟩:=us5 a;rfl
 have fl:=JF X G O.ns;have gc:=N.fn.binds (ps:=["levels"]) λ_ _ _ _ _ _ b a=>by obtain⟨d,rfl⟩:=us1 a;rfl
 have fk:=JF X G N.ns;have fX:=L.fn.fun.binds (ps:=["net","some","most"]) λ_ _ _ _ _ _ b a=>by obtain⟨d,f,j,rfl⟩:=us3 a;rfl
 have ff:=JF X G L.ns;have fW:=J.fn.binds (ps:=["net","some","thing"]) λ_ _ _ _ _ _ b a=>by obtain⟨d,f,j,rfl⟩:=us3 a;rfl
 have fe:=JF X G J.ns;have fV:=I.fn.binds (ps:=["_law_script","_law_k"]) λ_ _ _ _ _ _ b a=>by obtain⟨d,f,rfl⟩:=us2 a;rfl
 have fb:=JF X G I.ns;have fT:=H.fn.binds (ps:=["_law_left_here","_law_many"]) λ_ _ _ _ _ _ b a=>by obtain⟨d,f,rfl⟩:=us2 a;rfl
 have e9:=JF X G H.ns;have fS:=F.fn.binds (ps:=["_law_left_here","_law_row"]) λ_ _ _ _ _ _ b a=>by obtain⟨d,f,rfl⟩:=us2 a;rfl
 have e8:=JF X G F.ns;have eg:=E.fn.binds (ps:=["_law_one","_law_other"]) λ_ _ _ _ _ _ b a=>by obtain⟨d,f,rfl⟩:=us2 a;rfl
 have ax:=JF X G E.ns;have ef:=D.fn.binds (ps:=["_law_row"]) λ_ _ _ _ _ _ b a=>by obtain⟨d,rfl⟩:=us1 a;rfl
 have ao:=JF X G D.ns;have ec:=C.fn.binds (ps:=["_law_row"]) λ_ _ _ _ _ _ b a=>by obtain⟨d,rfl⟩:=us1 a;rfl
 have ab:=JF X G C.ns;have eb:=B.fn.binds (ps:=["_law_row"]) λ_ _ _ _ _ _ b a=>by obtain⟨d,rfl⟩:=us1 a;rfl
 have Z:=JF X G B.ns;have fR:=A.fn.binds (ps:=["_law_way","_law_k"]) λ_ _ _ _ _ _ b a=>by obtain⟨d,f,rfl⟩:=us2 a;rfl
 have e6:=JF X G A.ns;have fP:=z.fn.binds (ps:=["_law_left_here"]) λ_ _ _ _ _ _ b a=>by obtain⟨d,rfl⟩:=us1 a;rfl
 have e4:=JF X G z.ns;have fO:=y.fn.binds (ps:=["_law_left_here","_law_net_here"]) λ_ _ _ _ _ _ b a=>by obtain⟨d,f,rfl⟩:=us2 a;rfl
 have e3:=JF X G y.ns;have fN:=x.fn.binds (ps:=["_law_left_here"]) λ_ _ _ _ _ _ b a=>by obtain⟨d,rfl⟩:=us1 a;rfl
 have e1:=JF X G x.ns;have fM:=u.fn.binds (ps:=["_law_left_here","_law_net_here"]) λ_ _ _ _ _ _ b a=>by obtain⟨d,f,rfl⟩:=us2 a;rfl
 have e0:=JF X G u.ns;have fL:=t.fn.binds (ps:=["_law_net_here","_law_counts_here"]) λ_ _ _ _ _ _ b a=>by obtain⟨d,f,rfl⟩:=us2 a;rfl
 have eN:=JF X G t.ns;have fK:=r.fn.binds (ps:=["_law_counts_here"]) λ_ _ _ _ _ _ b a=>by obtain⟨d,rfl⟩:=us1 a;rfl
 have ey:=JF X G r.ns;have fI:=q.fn.binds (ps:=["_law_left_here","_law_net_here","_law_some_here"]) λ_ _ _ _ _ _ b a=>by obtain⟨d,f,j,rfl⟩:=us3 a;rfl
 have ew:=JF X G q.ns;have fG:=o.fn.binds (ps:=["_law_thing","_law_least","_law_most"]) λ_ _ _ _ _ _ b a=>by obtain⟨d,f,j,rfl⟩:=us3 a;rfl
 have eu:=JF X G o.ns;have fF:=n.fn.binds (ps:=["_law_left_here"]) λ_ _ _ _ _ _ b a=>by obtain⟨d,rfl⟩:=us1 a;rfl
 have et:=JF X G n.ns;have ea:=m.fn.binds (ps:=["_law_left_here","_law_thing"]) λ_ _ _ _ _ _ b a=>by obtain⟨d,f,rfl⟩:=us2 a;rfl
 have Y:=JF X G m.ns;have fE:=k.fn.binds (ps:=["_law_net_here","_law_some_here","_law_thing"]) λ_ _ _ _ _ _ b a=>by obtain⟨d,f,j,rfl⟩:=us3 a;rfl
 have es:=JF X G k.ns;obtain⟨oc,od,kV,doc,pm,an,hG,ct,hF,ed,_,_⟩:=id W.fn.ex;refine⟨⟨kP,i,cH⟩,c4,λs v=>by rw[ed];exact .of_eq rfl,λbase _ _ bB=>?_⟩;have CK:CodeK K mg base i Pt:=⟨cH,bB Pt (.head _),er⟩;have U1:Use l.prog w K mg base "flowed" ["net","counts"] 1 tu f1 d1:=⟨iZ A1.fn M,b1,A1.fn.kp,m1⟩;have U2:Use l.prog w K mg base "ends_of" ["net","counts"] 2 uP f2 d2:=⟨aQ A2.fn M U1,b2,A2.fn.kp,m2⟩;have U3:Use l.prog w K mg base "is_whole" ["thing"] 1 (qi K) f3 d3:=⟨dj A3.fn M,b3,A3.fn.kp,m3⟩;have U4:Use l.prog w K mg base "is_row" ["thing","many"] 1 (qp K) f4 d4:=⟨dw A4.fn M,b4,A4.fn.kp,m4⟩;have U5:Use l.prog w K mg base "are_from_nought" ["thing","many"] 2 (qu K) f5 d5:=⟨cA A5.fn M U4 U3,b5,A5.fn.kp,m5⟩;have U6:Use l.prog w K mg base "stair_of" ["total","many"] 1 mh f6 d6:=⟨aJ A6.fn M,b6,A6.fn.kp,m6⟩;have U7:Use l.prog w K mg base "is_stair" ["counts"] 2 uO f7 d7:=⟨lj A7.fn M U6,b7,A7.fn.kp,m7⟩;have U8:Use l.prog w K mg base "end_of" ["net","lane"] 1 fi f8 d8:=⟨za1 A8.fn,b8,A8.fn.kp,m8⟩;have U9:Use l.prog w K mg base "run_through" ["net","turns","lane","back"] 2 fh f9 d9:=⟨zaZ A9.fn M U8,b9,A9.fn.kp,m9⟩;have hE:Use l.prog w K mg base "passed" ["net","turns","lane"] 3 (mi false) c3 d0:=⟨iW V.fn U9,g0,V.fn.kp,fy⟩;have hD:Use l.prog w K mg base "given_at" ["row","place","value"] 1 qt c2 dX:=⟨dz U.fn M,gV,U.fn.kp,fx⟩;have hC:Use l.prog w K mg base "added" ["counts","place","many"] 2 qy c1 dW:=⟨cB T.fn M hD,gP,T.fn.kp,fv⟩;have hB:Use l.prog w K mg base "first_turns" ["net"] 1 tw c0 dV:=⟨ic S.fn M,gs,S.fn.kp,ft⟩;have hA:Use l.prog w K mg base "first_pair" ["net"] 2 sD cP dT:=⟨ie R.fn hB,gk,R.fn.kp,fp⟩;have hz:Use l.prog w K mg base "pair_behind" ["net","pair","lane"] 4 tH cz dS:=⟨dq Q.fn hE,gi,Q.fn.kp,fo⟩;have hy:Use l.prog w K mg base "next_level" ["level","seen","moves","led"] 6 (mj l.prog w K (pf qV) ["net"] vB) cx dR:=⟨aM P.fn M hC (cg qV hz),gg,P.fn.kp,fm⟩;have hx:Use l.prog w K mg base "climbed" ["first","counts","moves","led","most"] 7 (qw l.prog w K (pf qV) ["net"] vB) cp dP:=⟨lu O.fn M hy,gd,O.fn.kp,fl⟩;have hv:Use l.prog w K mg base "verdict" ["net","some","most"] 8 (qj qV Pt) cn dO:=⟨li L.fn CK hx hA (λF0=>⟨aS F0 1 N.fn M,gc,N.fn.kp,fk⟩),fX,L.fn.kp,ff⟩;have hu:Use l.prog w K mg base "shows_break" ["net","some","thing"] 3 (tY K) ck dM:=⟨iV J.fn M M2 U5 U7 U2,fW,J.fn.kp,fe⟩;have ht:Use l.prog w K mg base "_law_left" ["_law_script","_law_k"] 1 (qo K) cf dK:=⟨aP I.fn M,fV,I.fn.kp,fb⟩;have g:Use l.prog w K mg base "_law_pick" ["_law_left_here","_law_many"] 1 yu cc dG:=⟨aK H.fn,fT,H.fn.kp,e9⟩;have hs:Use l.prog w K mg base "_law_mixed" ["_law_left_here","_law_row"] 2 qm cb dF:=⟨du F.fn M g,fS,F.fn.kp,e8⟩;have hr:Use l.prog w K mg base "_law_merger" ["_law_one","_law_other"] 5 wZ b0 dE:=⟨iX E.fn M eg ax,eg,E.fn.kp,ax⟩;have hq:Use l.prog w K mg base "_law_stairway" ["_law_row"] 10 tW bS dD:=⟨iU D.fn M hr ef ao,ef,D.fn.kp,ao⟩;have hp:Use l.prog w K mg base "_law_block" ["_law_row"] 5 sF bu dC:=⟨ig C.fn M ec ab,ec,C.fn.kp,ab⟩;have ho:Use l.prog w K mg base "_law_tree" ["_law_row"] 5 tU bt dB:=⟨iT B.fn M eb Z,eb,B.fn.kp,Z⟩;have hn:Use l.prog w K mg base "_law_made" ["_law_way","_law_k"] 11 mo bo dA:=⟨aO A.fn M hp hq ho,fR,A.fn.kp,e6⟩;have hk:Use l.prog w K mg base "_law_any" ["_law_left_here"] 3 mt bc dx:=⟨aU z.fn M g hs,fP,z.fn.kp,e4⟩;have hj:Use l.prog w K mg base "_law_changed" ["_law_left_here","_law_net_here"] 2 fj ba dt:=⟨za2 y.fn M g,fO,y.fn.kp,e3⟩;have hh:Use l.prog w K mg base "_law_net" ["_law_left_here"] 12 mn a9 dr:=⟨aN x.fn M g hk hn hj,fN,x.fn.kp,e1⟩;have hg:Use l.prog w K mg base "_law_some" ["_law_left_here","_law_net_here"] 2 qk a8 dn:=⟨dk u.fn M g,fM,u.fn.kp,e0⟩;have hc:Use l.prog w K mg base "_law_ends" ["_law_net_here","_law_counts_here"] 1 uP a7 dm:=⟨dv t.fn M,fL,t.fn.kp,eN⟩;have hb:Use l.prog w K mg base "_law_stair" ["_law_counts_here"] 1 tX a6 dd:=⟨iY r.fn M,fK,r.fn.kp,ey⟩;have ha:Use l.prog w K mg base "_law_counts" ["_law_left_here","_law_net_here","_law_some_here"] 2 mq a5 c9:=⟨aR q.fn M g,fI,q.fn.kp,ew⟩;have g7:Use l.prog w K mg base "_law_whole" ["_law_thing","_law_least","_law_most"] 1 (fg K) a4 c8:=⟨zaY o.fn M,fG,o.fn.kp,eu⟩;have g6:Use l.prog w K mg base "_law_odd" ["_law_left_here"] 2 tZ a3 c7:=⟨aL n.fn M g,fF,n.fn.kp,et⟩;have g5:Use l.prog w K mg base "_law_bent" ["_law_left_here","_law_thing"] 10 uQ a0 c6:=⟨lw m.fn M g g6 ea Y,ea,m.fn.kp,Y⟩;have g4:Use l.prog w K mg base "_law_is_break" ["_law_net_here","_law_some_here","_law_thing"] 2 (qr K) aT c5:=⟨dy k.fn M g7 hb hc,fE,k.fn.kp,es⟩;exact za0 W.fn M ht g hh hg hv hu ha g5 g4
theorem zb7 {l:PySem.W.OpenLaw}{q:Yo}{loose:List Str}{v:(Str->Option Jo)->YP->Prop}{i:YI->YP->Prop}{d:DefRec}{K:Params->Jl}{Pt:JI}(hn:l.most=some 63) (g:d.params.defaults=[])
  (r:∀ (w:YI) (h:YP),i w h->(K w.params).In h/\∀ p∈[Pt],h.get? p=some (PySem.W.tabObj #[]))
  (F:∀ (w:YI) (mg:Str->Option Jo) (e:JI) (h:YP),(K w.params).In h->h.Ns mainGlobals mg->mg d.name=some (.ref e)->((K w.params).lookup Pt=none/\∃ c,PySem.W.codeHdIn (K w.params) c Pt=true) /\
   ∃ fd:Yl,(∀ (s:JO) (u:Jo),BindsTo s fd ⟨[u],[]⟩ [("_law_script",u)])/\∀ base:YP,(K w.params).In base->base.Ns mainGlobals mg->(∀ p∈[Pt],base.BuiltinsAt mg p)->FnOk l.prog w (K w.params) mg base CX0 13 e fd ["_law_script"] (ku (K w.params) Pt)) :
  PySem.W.WalkO q loose v i l.row.toRowW d [] (λf vs=>PySem.call f vs) :=
 L2.gx (n:=63) (k:=13) (x:="_law_script") (CX:=CX0) (sp:=λK=>ku K Pt) [Pt] hn (by decide) g ⟨rfl,by decide,by decide,rfl⟩ r (λw mg e h a b c=>⟨λp m=>Jd.mp m ▸ (F w mg e h a b c).1,(F w mg e h a b c).2⟩) (λ_ _ a ns o t j=>⟨a,ns,rfl,t,o,j Pt (.head _),λ_=>rfl⟩) λ_ _ _ _ z=>z
end K40
theorem PySem.W.Fast.tw13103783382824351381:True:=trivial
theorem PySem.W.Fast.tw7547557019760887342:True:=trivial
theorem PySem.W.Fast.tw8170047870486391529:True:=trivial
theorem PySem.W.Fast.tw6118412060027412976:True:=trivial
theorem PySem.W.Fast.tw17551044564335285486:True:=trivial
theorem PySem.W.Fast.tw1501838519001072785:True:=trivial
theorem PySem.W.Fast.tw10802441220780531301:True:=trivial
theorem PySem.W.Fast.tw14523585396321839586:True:=trivial
theorem PySem.W.Fast.tw15150340288559943242:True:=trivial
theorem PySem.W.Fast.tw14031894133801750719:True:=trivial
theorem PySem.W.Fast.tw1487895938984741460:True:=trivial
theorem PySem.W.Fast.tw9718462266806937312:True:=trivial
theorem PySem.W.Fast.tw17487079411376827318:True:=trivial
theorem PySem.W.Fast.tw17407374275816172529:True:=trivial
theorem PySem.W.Fast.tw4809513992010104065:True:=trivial
theorem PySem.W.Fast.tw10339779193780953613:True:=trivial
theorem PySem.W.Fast.tw224035294708106351:True:=trivial
theorem PySem.W.Fast.tw2388063841846520747:True:=trivial
theorem PySem.W.Fast.tw16576251550203442176:True:=trivial
theorem PySem.W.Fast.tw3142260052075308024:True:=trivial
theorem PySem.W.Fast.tw13436088339382477125:True:=trivial
theorem PySem.W.Fast.tw12101061672421508385:True:=trivial
theorem PySem.W.Fast.tw14999221268970901342:True:=trivial
theorem PySem.W.Fast.tw17439636818957478693:True:=trivial
theorem PySem.W.Fast.tw6759689554100357506:True:=trivial
theorem PySem.W.Fast.tw10770049283352003154:True:=trivial
theorem PySem.W.Fast.tw7581067362106937425:True:=trivial
theorem PySem.W.Fast.tw13181752960454742775:True:=trivial
theorem PySem.W.Fast.tw5541300139929741728:True:=trivial
theorem PySem.W.Fast.tw7692260147346714329:True:=trivial
theorem PySem.W.Fast.tw11383619484006060787:True:=trivial
theorem PySem.W.Fast.tw17781701490348068812:True:=trivial
theorem PySem.W.Fast.tw17302758622006672776:True:=trivial
theorem PySem.W.Fast.tw326436537853730200:True:=trivial
theorem PySem.W.Fast.tw3816259716447649282:True:=trivial
theorem PySem.W.Fast.tw12629974395138776811:True:=trivial
theorem PySem.W.Fast.tw4255022240532483685:True:=trivial
theorem PySem.W.Fast.tw17303024025253704871:True:=trivial
theorem PySem.W.Fast.tw2916989208028205952:True:=trivial
theorem PySem.W.Fast.tw2861661878101506222:True:=trivial
theorem PySem.W.Fast.tw8629840936106119699:True:=trivial
theorem PySem.W.Fast.tw16732839167086241315:True:=trivial
theorem PySem.W.Fast.tw6940456593876661760:True:=trivial
theorem PySem.W.Fast.tw14766218294473371577:True:=trivial
theorem PySem.W.Fast.tw7501859949998218750:True:=trivial
open PySem PySem.W PyProof.Rows
set_option maxRecDepth 100000 in
set_option maxHeartbeats 0 in
theorem PySem.Challenge.cw_stairlanes_k40_breaks_looked_at_holds : PySem.Challenge.rw_stairlanes_k40_breaks_looked_at.Holds := by
 w_on;o_law;k_head;(case hw=>w_witness2)
 k_fill
 refine K40.zb7 (l:=PySem.Challenge.rw_stairlanes_k40_breaks_looked_at) rfl rfl (fun w h Y=>⟨PySem.W.km_in_of Y,PySem.W.km_tabs_of Y⟩) ?F
 case F =>
  intro w mg fa h KX G hmg
  refine' K40.zbp KX G hmg (K40.yO ?a1 ?l1 ?c1 ?k1) (K40.yO ?a2 ?l2 ?c2 ?k2) (K40.yO ?a3 ?l3 ?c3 ?k3) (K40.yO ?a4 ?l4 ?c4 ?k4) (K40.yO ?a5 ?l5 ?c5 ?k5) (K40.yO ?a6 ?l6 ?c6 ?k6) (K40.yO ?a7 ?l7 ?c7 ?k7) (K40.yO ?a8 ?l8 ?c8 ?k8) (K40.yO ?a9 ?l9 ?c9 ?k9) (K40.yO ?a10 ?l10 ?c10 ?k10) (K40.yO ?a11 ?l11 ?c11 ?k11) (K40.yO ?a12 ?l12 ?c12 ?k12) (K40.yO ?a13 ?l13 ?c13 ?k13) (K40.yO ?a14 ?l14 ?c14 ?k14) (K40.yO ?a15 ?l15 ?c15 ?k15) (K40.yO ?a16 ?l16 ?c16 ?k16) (K40.yO ?a17 ?l17 ?c17 ?k17) (K40.yO ?a18 ?l18 ?c18 ?k18) (K40.zbi ?a19 ?l19 ?c19 ?k19) (K40.yO ?a20 ?l20 ?c20 ?k20) (K40.yO ?a21 ?l21 ?c21 ?k21) (K40.yO ?a22 ?l22 ?c22 ?k22) (K40.yO ?a23 ?l23 ?c23 ?k23) (K40.yO ?a24 ?l24 ?c24 ?k24) (K40.yO ?a25 ?l25 ?c25 ?k25) (K40.yO ?a26 ?l26 ?c26 ?k26) (K40.yO ?a27 ?l27 ?c27 ?k27) (K40.yO ?a28 ?l28 ?c28 ?k28) (K40.yO ?a29 ?l29 ?c29 ?k29) (K40.yO ?a30 ?l30 ?c30 ?k30) (K40.yO ?a31 ?l31 ?c31 ?k31) (K40.yO ?a32 ?l32 ?c32 ?k32) (K40.yO ?a33 ?l33 ?c33 ?k33) (K40.yO ?a34 ?l34 ?c34 ?k34) (K40.yO ?a35 ?l35 ?c35 ?k35) (K40.yO ?a36 ?l36 ?c36 ?k36) (K40.yO ?a37 ?l37 ?c37 ?k37) (K40.yO ?a38 ?l38 ?c38 ?k38) (K40.yO ?a39 ?l39 ?c39 ?k39) (K40.yO ?a40 ?l40 ?c40 ?k40) ?z1 ?z2 ?z3 ?z4 ?z5 ?z6 ?z7 ?z8 ?z9 ?z10 ?z11 ?z12 ?z13 ?z14 ?z15 ?z16 ?z17 (K40.gS ?lH2 ?eH2) ?nB4 ?kP
  (case a1|l1|c1|k1|a2|l2|c2|k2|a3|l3|c3|k3|a4|l4|c4|k4|a5|l5|c5|k5|a6|l6|c6|k6|a7|l7|c7|k7|a8|l8|c8|k8|a9|l9|c9|k9|a10|l10|c10|k10|a11|l11|c11|k11|a12|l12|c12|k12|a13|l13|c13|k13|a14|l14|c14|k14|a15|l15|c15|k15|a16|l16|c16|k16|a17|l17|c17|k17|a18|l18|c18|k18|a19|l19|c19|k19|a20|l20|c20|k20|a21|l21|c21|k21|a22|l22|c22|k22|a23|l23|c23|k23|a24|l24|c24|k24|a25|l25|c25|k25|a26|l26|c26|k26|a27|l27|c27|k27|a28|l28|c28|k28|a29|l29|c29|k29|a30|l30|c30|k30|a31|l31|c31|k31|a32|l32|c32|k32|a33|l33|c33|k33|a34|l34|c34|k34|a35|l35|c35|k35|a36|l36|c36|k36|a37|l37|c37|k37|a38|l38|c38|k38|a39|l39|c39|k39|a40|l40|c40|k40|z1|z2|z3|z4|z5|z6|z7|z8|z9|z10|z11|z12|z13|z14|z15|z16|z17=>k_is)
  (case lH2=>k_is);(case eH2=>rfl);(case nB4=>decide);(case kP=>rfl)
