import PyProof.Rows.All
import Wide.All
import OpenK.AllK
import Wide.FinOn
import Lean
import PyProof.EqAt
import PyProof.EqKinds
import PyProof.TupleCall
import PyProof.NeKinds
import KE.KIntText
import PyProof.TupleOfStr
import PyProof.ReprRoads
import PyProof.NeData
import PyProof.DictKinds
import PyProof.AttrMiss
import PyProof.IsiH_list
import KE.KDictOf
import KE.KSortTup
import KE.KItemsList
import KE.KDictSum
import PyProof.DictWalks
import PyProof.DictItems
import KE.KDictList
import KE.KEqDict
import KE.KPairComp
import PyProof.DictTruth
import PyProof.MeetsDict
import KE.KLam
import KE.KNestM
import PyProof.Defs
import PyProof.P3In
import PyProof.Rows.SortRev
import PyProof.Rows.Range3
import PyProof.DictCompW
import PyProof.EvalArms
import PyProof.AutoIntG2
import KE.KTryMore
import PyProof.ExcClass3
import PySem.Challenge.RW_stairlanes_k43_counts_that_come_so_far
set_option Elab.async false
set_option linter.all false
local macro_rules|`(tactic| lia)=>`(tactic| first|with_reducible(first|assumption|exact Nat.le_of_lt ‹_›|exact Nat.lt_succ_of_le ‹_›|exact Nat.le_succ_of_le ‹_›|exact Nat.le_of_not_lt ‹_›|exact Nat.le_trans ‹_› ‹_›|exact Nat.lt_of_lt_of_le ‹_› ‹_›|exact Nat.sub_one_lt_of_le ‹_› ‹_›)|lia -verbose)
set_option maxRecDepth 100000
local macro_rules|`(tactic|trivial)=>`(tactic|first|exact⟨by rfl,by first|exact Or.inl rfl|exact Or.inr (.inl rfl)|exact Or.inr (.inr rfl),by decide,by decide⟩|exact⟨rfl,rfl,rfl,by decide +kernel,rfl,by decide +kernel,by decide +kernel⟩|exact True.intro|rfl|assumption|exact .inl rfl|exact .inr rfl)
section
open PySem PySem.Spec PyProof.Rows
def J0:=@wpAny_bind
def J7:=@List.getElem?_eq_getElem
def J8:=@Heap.get?_push_of_some
def J9:=@wpAny_pure
def Ja:=@List.getD_eq_getElem?_getD
def Jb:=@List.getElem?_eq_some_iff
def Jc:=@List.mem_singleton
def Jd:=@List.length_append
def Je:=@List.length_map
def Jf:=@if_neg
def Jg:=@Nat.le_refl
def Jh:=@List.size_toArray
def Jj:=@Bool.false_ne_true
def Jm:=@if_pos
def Jn:=@Heap.lt_size
def Jp:=@Option.some.inj
def Jq:=@Heap.get?_push_size
def Jr:=@List.mem_cons
def Js:=@decide_eq_false
def Jt:=@wpS_bind
def Ju:=@List.not_mem_nil
def Jv:=@List.mem_append
def Jw:=@List.length_take
def Jx:=@wpS_pure
def Jy:=@List.mem_map
def Jz:=@List.mem_append_right
def JA:=@Nat.ne_of_lt
def JB:=@sizeLine_eq
def JC:=@decide_eq_true
def JD:=@List.mem_of_getElem?
def JE:=@PySem.W.mg_of
def JF:=@Array.length_toList
def JG:=@Nat.lt_of_lt_of_le
def JH:=@List.mem_cons_of_mem
def JJ:=@List.mem_cons_self
def JK:=@wpAny_mono
def JL:=@Nat.zero_le
def JM:=@List.take_of_length_le
def JN:=@List.getElem?_map
def JP:=@congrArg
def JQ:=@List.nodup_cons
def JR:=@wpAny_newObj_type
def JS:=@Heap.get?_update_other
def JT:=@List.append_assoc
def JU:=@List.append_nil
def JV:=@List.map_append
def JW:=@List.length_cons
def JX:=@Nat.le_trans
def JY:=@List.getElem_mem
def JZ:=@Array.getElem?_eq_some_iff
def Y0:=@List.getElem?_append_left
def Y1:=@List.map_cons
def Y2:=@PassesOwn.never
def Y3:=@PySem.W.mg_none_of
def Y4:=@List.length_range
def Y5:=@List.take_length
def Y6:=@PySem.F.plainAttrs_list
def Y7:=@List.length_replicate
def Y8:=@Array.getElem?_toList
def Y9:=@List.replicate_succ
def Ya:=@Array.toList_append
def Yb:=@PySem.boot_len
def Yc:=@List.mem_append_left
def Yd:=@wpAny_holding
def Ye:=@List.length_nil
def Yf:=@Array.size_push
def Yg:=@wpAny_seqItems
def Yh:=@List.take_succ_eq_append_getElem
def Yi:=@PyProof.Rows.callWith_type1
def Yj:=@List.getElem?_append_right
def Yk:=@Int.toNat_natCast
def Ym:=@List.pairwise_append
def Yn:=@wpAny_setField_rec
def Yp:=@List.mem_range
def Yq:=@Bool.eq_iff_iff
def Yr:=@wpAny_call_entry
def Ys:=@List.take_append_getElem
def Yt:=@Heap.get?_update_self
def Yu:=@wpS_forRange
def Yv:=@wpAny_dictEntries
def Yw:=@Int.compare_eq_lt
def Yx:=@Int.compare_eq_eq
def Yy:=@Int.compare_eq_gt
def Yz:=@Bool.false_eq_true
def YA:=@Heap.size_push
def YB:=@Nat.lt_irrefl
def YC:=@wpAny_dictEpoch
def YD:=@List.length_drop
def YE:=@List.lookup_cons
def YF:=@Array.size_append
def YG:=@Paired.length
def YH:=@PySem.F.slot_list_append
def YJ:=@PySem.F.type_list_append
def YK:=@wpAny_Call_Name_kw
def YL:=@wpAny_standAt
def YM:=@of_decide_eq_true
def YN:=@Option.map_eq_some_iff
def YQ:=@codeAny_builtin
def YR:=@List.find?_cons
def YS:=@List.drop_eq_getElem_cons
def YT:=@F.plain_min_loop
def YU:=@if_true
def YV:=@Around.under_plainId
def YW:=@List.mem_of_mem_take
def YX:=@List.nodup_nil
def YY:=@Nat.pow_le_pow_right
def YZ:=@List.getElem?_of_mem
def Z0:=@Nat.lt_succ_of_lt
def Z1:=@decide_eq_true_eq
def Z2:=@decide_eq_false_iff_not
def Z3:=@wpAny_rule
def Z4:=@List.length_set
def Z5:=@Nat.ne_of_gt
def Z6:=@plainId_quiet
def Z7:=@Int.le_refl
def Z8:=@Bool.and_eq_true
def Z9:=@Nat.lt_succ_self
def Za:=@wpS_mono
def Zb:=@List.extract_eq_take_drop
def Zc:=@List.forIn_cons
def Zd:=@Nat.min_eq_left
def Ze:=@wpAny_truthy_bool
def Zf:=@wpAny_field
def Zg:=@wpAny_letGo
def Zh:=@Nat.zero_add
def Zi:=@List.foldl_append
def Zj:=@List.mem_iff_getElem
def Zk:=@Int.lt_trichotomy
def Zm:=@List.getElem?_take_of_lt
def Zn:=@PySem.mem_of_lookup
def Zp:=@List.map_congr_left
def Zq:=@Heap.SameBut.update
def Zr:=@List.length_pos_iff
def Zs:=@List.length_eq_zero_iff
def Zt:=@Nat.pow_succ
def Zu:=@Nat.one_le_two_pow
def Zv:=@List.mem_iff_getElem?
def Zw:=@List.flatten_cons
def Zx:=@Array.toList_push
def Zy:=@if_false
def Zz:=@wpAny_tryCatch
def ZA:=@Array.toList_extract
def ZB:=@wpAny_typeOf
def ZC:=@Option.getD_some
def ZD:=@beq_self_eq_true
def ZE:=@Int.le_trans
def ZF:=@beq_eq_false_iff_ne
def ZG:=@List.take_succ_cons
def ZH:=@Option.isSome_iff_exists
def ZJ:=@wpAny_passesOwn
def ZK:=@List.nil_append
def ZL:=@Nat.not_lt_zero
def ZM:=@wpAny_updateSeq
def ZN:=@List.length_zip
def ZP:=@assignInOrder_cons
def ZQ:=@Calls.spliced_cons
def ZR:=@List.filterMap_map
def ZS:=@Calls.callWith_builtin
def ZT:=@or_false
def ZU:=@List.forIn_nil
def ZV:=@Bool.not_eq_true'
def ZW:=@List.drop_zero
def ZX:=@List.take_zero
def ZY:=@Int.zero_add
def ZZ:=@PyProof.Rows.slot_tuple_getitem
def W0:=@List.take_append_drop
def W5:=@List.perm_append_comm
def W6:=@F.plain_max_loop
def W7:=@wpAny_typeNameOfWhole_itemiter
def W8:=@List.mem_of_mem_drop
def W9:=@F.slot_dict_itemiterator_next
def Wa:=@wpAny_execs_nil
def Wb:=@Bool.or_eq_true
def Wc:=@size_of_entries
def Wd:=@Int.emod_nonneg
def We:=@Array.toList_modify
def Wf:=@codeAny_mono
def Wg:=@List.idxOf_lt_length_of_mem
def Wh:=@wpS_get
def Wi:=@call_meets
def Wj:=@wpS_modify
def Wk:=@Int.emod_lt_of_pos
def Wm:=@List.getElem?_zip_eq_some
def Wn:=@Calls.spliced_nil
def Wp:=@List.nodup_append
def Wq:=@AutoSeq1.wpAny_loadPart'
def Wr:=@List.eq_of_mem_replicate
def Ws:=@List.take_nil
end
abbrev Jl:=PySem.W.Frag
abbrev Jo:=PySem.Value
abbrev JI:=PySem.Addr
abbrev JO:=PySem.Shared
abbrev Yl:=PySem.FuncData
abbrev Yo:=PySem.Program
abbrev YI:=PySem.World
abbrev YO:=PySem.Around
abbrev YP:=PySem.Heap
namespace L2
open PySem PySem.Spec PyProof.Rows
abbrev Key:=Sum Int Str
def rL:Key->Jo->Bool
  | .inl k,v=>Value.isInt k v
  | .inr x,v=>Value.isStrOf x v
def zc2 (w:YI):Key->Int
  | .inl k=>hashInt k
  | .inr x=>hashStr w x
theorem yW:∀ {k:Key}{v:Jo},rL k v=true->(∃ i t,k=Sum.inl i/\v=Value.int i t)\/(∃ x t,k=Sum.inr x/\v=Value.str x t)
  | .inl i,v,h=>by
    obtain⟨t,e⟩:=Value.isInt_shape (k:=i) (v:=v) h
    exact .inl ⟨i,t,rfl,e⟩
  | .inr x,v,h=>by
    obtain⟨t,e⟩:=Value.isStrOf_shape (x:=x) (v:=v) h;exact .inr ⟨x,t,rfl,e⟩
theorem gO (i:Int)(t:Tok):rL (.inl i) (.int i t)=true:=by simp[rL,Value.isInt]
theorem gN (x:Str)(t:Tok):rL (.inr x) (.str x t)=true:=by simp[rL,Value.isStrOf]
theorem zbE (a b:Int):decide ((Sum.inl a:Key)=Sum.inl b)=(a == b):=by
  by_cases e:a=b
  · subst e;simp
  · have h:¬(Sum.inl a:Key)=Sum.inl b:=λq=>e (Sum.inl.inj q)
    rw[Js h];exact(ZF.mpr e).symm
theorem zbA (a b:Str):decide ((Sum.inr a:Key)=Sum.inr b)=decide (a=b):=by
  by_cases e:a=b
  · subst e;simp
  · have h:¬(Sum.inr a:Key)=Sum.inr b:=λq=>e (Sum.inr.inj q)
    rw[Js h,Js e]
theorem zbD (a:Int)(b:Str):decide ((Sum.inl a:Key)=Sum.inr b)=false:=Js (λq=>nomatch q)
theorem zbB (a:Str)(b:Int):decide ((Sum.inr a:Key)=Sum.inl b)=false:=Js (λq=>nomatch q)
def yk (prog:Yo)(w:YI):PySem.KeyKind prog w Key where
  is:=rL
  hash:=zc2 w
  inj:=λv a b l f=>by
    rcases yW l with ⟨i,t,rfl,rfl⟩|⟨x,t,rfl,rfl⟩
    · rcases yW f with ⟨j,u,rfl,e⟩|⟨y,u,rfl,e⟩
      · injection e with c _;rw[c]
      · exact nomatch e
    · rcases yW f with ⟨j,u,rfl,e⟩|⟨y,u,rfl,e⟩
      · exact nomatch e
      · injection e with c _;rw[c]
  byValue:=λk v h=>by
    rcases yW h with ⟨i,t,rfl,rfl⟩|⟨x,t,rfl,rfl⟩<;>rfl
  pyHash:=λd h=>by
    rcases yW d with ⟨i,t,rfl,rfl⟩|⟨x,t,rfl,rfl⟩
    · exact wpAny_pyHash_int h
    · exact wpAny_pyHash_str h
  eqBool:=λg d h=>by
    rcases yW g with ⟨i,t,rfl,rfl⟩|⟨x,t,rfl,rfl⟩
    · rcases yW d with ⟨j,u,rfl,rfl⟩|⟨y,u,rfl,rfl⟩
      · rw[zbE]at h;exact wpAny_eqBool_int h
      · rw[zbD]at h;exact SeqAt.EqAt.int_str i t y u _ _ _ _ h
    · rcases yW d with ⟨j,u,rfl,rfl⟩|⟨y,u,rfl,rfl⟩
      · rw[zbB]at h;exact SeqAt.EqAt.str_int x t j u _ _ _ _ h
      · rw[zbA]at h;exact wpAny_eqBool_str h
  «strs»:=λk x t v h=>by
    rcases yW h with ⟨i,u,rfl,e⟩|⟨y,u,rfl,e⟩
    · exact nomatch e
    · injection e with c _
      subst c;cases v<;>rfl
theorem kF (prog:Yo)(w:YI)(k:Key)(v:Jo):(yk prog w).is k v=rL k v:=rfl
theorem nj (prog:Yo)(w:YI)(i:Int)(t:Tok):(yk prog w).is (.inl i) (.int i t)=true:=gO i t
theorem ni (prog:Yo)(w:YI)(x:Str)(t:Tok):(yk prog w).is (.inr x) (.str x t)=true:=gN x t
inductive V where
  | non|bl (b:Bool)|int (i:Int)|str (x:Str)|byt (b:Array UInt8)|flt (b:UInt64)|ref (a:JI)|ty (n:String)
  deriving DecidableEq
def RelV:V->Jo->Prop
  | .non,u=>u=Value.none
  | .bl b,u=>u=Value.bool b
  | .int i,u=>∃ t,u=Value.int i t
  | .str x,u=>∃ t,u=Value.str x t
  | .byt b,u=>∃ t,u=Value.bytes b t
  | .flt b,u=>∃ t,u=Value.float b t
  | .ref a,u=>u=Value.ref a
  | .ty n,u=>u=Value.type n
abbrev Vals:List V->List Jo->Prop:=Paired RelV
theorem Vals.length {xs:List V}{us:List Jo}(r:Vals xs us):xs.length=us.length:=YG r
theorem Vals.get:∀ {xs:List V}{us:List Jo}{i:Nat}{x:V},Vals xs us->xs[i]?=some x->∃ u,us[i]?=some u/\RelV x u
  | _,_,_,_,.nil,e=>by simp at e
  | _,_,0,_,.cons r _,e=>by simp at e;subst e;exact⟨_,rfl,r⟩
  | _,_,i+1,x,.cons _ t,e=>by
    obtain⟨u,h1,a⟩:=Vals.get (i:=i) (x:=x) t (by simpa using e);exact⟨u,by simpa using h1,a⟩
theorem Vals.set {x:V}{u:Jo}(r:RelV x u):∀ {xs:List V}{us:List Jo}(i:Nat),Vals xs us->Vals (xs.set i x) (us.set i u)
  | _,_,_,.nil=>.nil
  | _,_,0,.cons _ t=>.cons r t
  | _,_,i+1,.cons q t=>.cons q (Vals.set r i t)
theorem Vals.append:∀ {xs ys:List V}{us ws:List Jo},Vals xs us->Vals ys ws->Vals (xs++ys) (us++ws)
  | _,_,_,_,.nil,s=>s
  | _,_,_,_,.cons r t,s=>.cons r (Vals.append t s)
theorem Vals.take:∀ {xs:List V}{us:List Jo}(n:Nat),Vals xs us->Vals (xs.take n) (us.take n)
  | _,_,0,_=>.nil
  | _,_,_+1,.nil=>.nil
  | _,_,n+1,.cons r t=>.cons r (Vals.take n t)
theorem Vals.drop:∀ {xs:List V}{us:List Jo}(n:Nat),Vals xs us->Vals (xs.drop n) (us.drop n)
  | _,_,0,r=>r
  | _,_,_+1,.nil=>.nil
  | _,_,n+1,.cons _ t=>Vals.drop n t
def RelO:Option V->Option Jo->Prop
  | some v,some u=>RelV v u
  | none,none=>True
  | _,_=>False
def KV {κ:Type}:List (κ × V)->List (κ × Jo)->Prop:=Paired λ(p:κ × V) (q:κ × Jo)=>p.1=q.1/\RelV p.2 q.2
def kV:Key->V
  | .inl i=>.int i
  | .inr x=>.str x
inductive HO where
  | lst (xs:List V)
  | tup (xs:List V)
  | dK (kvs:List (Key × V))|dT (kvs:List (List Key × V))
  | set (S:Int->Bool) (n:Nat)
  | ins (C dx:JI) (fs:List (Str × V))
  | own (x:JI)
  | xd (fs:List (Str × V))
  | met (f x:JI)
  | rng (lo hi:Int)
  | frz (o:Obj) (u:HO)
  | tbl (ps:Array Jo)
  | ext (φ:YP->Prop)
abbrev Hp:=JI->Option HO
def upd (H:Hp)(a:JI)(o:HO):Hp:=λb=>if b=a then some o else H b
theorem zG {H:Hp}{a:JI}{o:HO}:upd H a o a=some o:=by unfold upd;rw[Jm rfl]
theorem zK {H:Hp}{a b:JI}{o:HO}(h:b≠a):upd H a o b=H b:=by unfold upd;rw[Jf h]
theorem x9 {H:Hp}{a b:JI}{o u:HO}(h:H a=some o)(h':H b=some u)(d:o≠u):a≠b:=by
  intro e;subst e;rw[h]at h';exact d (Jp h')
theorem zJ {H:Hp}{a b:JI}{o:HO}(h:H a=some o)(h':H b=none):a≠b:=by
  intro e;subst e;rw[h]at h';cases h'
def TupX (h:YP)(a:JI)(items:Array Jo):Prop:=∃ o,h.get? a=some o/\o.cls=.type "tuple"/\∃ n,o.data=.seq items n/\o.dict=none
theorem TupX.tup {h:YP}{a:JI}{items:Array Jo}(x:TupX h a items):IsTup h a items:=let ⟨o,e,c,n,d,_⟩:=x;⟨o,e,c,n,d⟩
theorem TupX.new (h:YP)(items:Array Jo):TupX (h.push { cls:=.type "tuple",data:=.seq items }) h.objs.size items:=⟨_,Jq _ rfl,rfl,0,rfl,rfl⟩
section
variable (P:Yo)(w:YI)
def ObjOk (H:Hp)(h:YP)(a:JI):HO->Prop
  | .lst xs=>xs.length<=sizeLine/\∃ (its:List Jo) (n:Nat),Vals xs its/\h.get? a=some { cls:=.type "list",data:=.seq its.toArray n }
  | .tup xs=>xs.length<=sizeLine/\∃ its:List Jo,Vals xs its/\TupX h a its.toArray
  | .dK b=>b.length<=sizeLine/\(a == sysModules)=false/\∃ g,KV b g/\h.DictOf (yk P w) a g
  | .dT b=>b.length<=sizeLine/\(a == sysModules)=false/\∃ xs:List (List Key × JI × Jo),
      Paired (λ(p:List Key × V) (q:List Key × JI × Jo)=>p.1=q.1/\H q.2.1=some (.tup (p.1.map kV))/\RelV p.2 q.2.2) b xs /\
      ∃ o k r,h.get? a=some o/\o.ExactDict/\o.data=.dict k r/\k.toList=xs.map (entryOfKey (tupleKind (yk P w)))/\(xs.map (·.1)).Nodup
  | .set S n=>h.SetOf (intKind P w) a S n
  | .ins C d fs=>H d=some (.own a)/\fs.length<=1000/\d≠a/\h.get? a=some (PySem.W.instObj C d) /\
      ∃ c,h.Ns1 d c/\(∀ f,RelO (fs.lookup f) (c f))/\PySem.Within c (fs.map (·.1))
  | .own _=>∃ o,h.get? a=some o
  | .xd fs=>∃ c,h.Ns1 a c/\∀ f,RelO (fs.lookup f) (c f)
  | .rng lo m=>∃ t u v,h.get? a=some { cls:=.type "range",data:=.fields #[.int lo t,.int m u,.int 1 v] }
  | .frz o u=>h.get? a=some o/\ObjOk H h a u
  | .tbl l=>h.get? a=some { cls:=.none,data:=.fields l }
  | .met f x=>h.get? a=some (PySem.W.methodObj (.ref f) (.ref x))
  | .ext e=>e h/\(∃ o,h.get? a=some o)/\∀ j i:YP,e j->(∀ o,j.get? a=some o->i.get? a=some o)->e i
def HOk (H:Hp)(h:YP):Prop:=∀ a o,H a=some o->ObjOk P w H h a o
end
section
variable {P:Yo}{w:YI}{H H':Hp}{h h':YP}{a:JI}{o:HO}
theorem ObjOk.lt (x:ObjOk P w H h a o):a<h.objs.size:=by
  cases o with
  | lst c=>obtain⟨_,_,_,_,e⟩:=x;exact Jn e
  | tup c=>obtain⟨_,_,_,p⟩:=x;exact p.tup.lt
  | dK b=>obtain⟨_,_,_,_,o,_,_,e,_⟩:=x;exact Jn e
  | dT b=>obtain⟨_,_,_,_,o,_,_,e,_⟩:=x;exact Jn e
  | set S n=>obtain⟨o,_,_,_,e,_⟩:=x;exact Jn e
  | ins C j fs=>obtain⟨_,_,_,e,_⟩:=x;exact Jn e
  | own y=>obtain⟨_,e⟩:=x;exact Jn e
  | xd fs=>obtain⟨_,⟨_,_,_,e,_⟩,_⟩:=x;exact Jn e
  | rng lo i=>obtain⟨_,_,_,e⟩:=x;exact Jn e
  | frz ob u=>obtain⟨e,_⟩:=x;exact Jn e
  | tbl g=>exact Jn (show h.get? a=some _ from x)
  | met f y=>exact Jn (show h.get? a=some _ from x)
  | ext d=>obtain⟨_,⟨_,e⟩,_⟩:=x;exact Jn e
theorem Paired.mapP {α β:Type}{F G:α->β->Prop}:∀ {l₁:List α}{l₂:List β},Paired F l₁ l₂->(∀ a b,F a b->G a b)->Paired G l₁ l₂
  | _,_,.nil,_=>.nil
  | _,_,.cons r t,f=>.cons (f _ _ r) (Paired.mapP t f)
theorem ObjOk.stay (x:ObjOk P w H h a o)(k:∀ b u,(b=a\/H b=some (.own a))->h.get? b=some u->h'.get? b=some u)(E:∀ b,H b=some (.own a)->H' b=some (.own a))(D:∀ b xs,H b=some (.tup xs)->H' b=some (.tup xs)):ObjOk P w H' h' a o:=by
  induction o with
  | lst xs=>obtain⟨z,j,n,r,e⟩:=x;exact⟨z,j,n,r,k _ _ (.inl rfl) e⟩
  | tup xs=>obtain⟨z,j,r,ob,e,c⟩:=x;exact⟨z,j,r,ob,k _ _ (.inl rfl) e,c⟩
  | dK s=>obtain⟨z,y,B,r,ob,g,i,e,c⟩:=x;exact⟨z,y,B,r,ob,g,i,k _ _ (.inl rfl) e,c⟩
  | dT s =>
    obtain⟨z,y,xs,r,ob,g,i,e,c⟩:=x
    exact⟨z,y,xs,Paired.mapP r λp q z=>⟨z.1,D _ _ z.2.1,z.2.2⟩,ob,g,i,k _ _ (.inl rfl) e,c⟩
  | set S n=>obtain⟨ob,g,i,t,e,c⟩:=x;exact⟨ob,g,i,t,k _ _ (.inl rfl) e,c⟩
  | ins C I fs =>
    obtain⟨d,z,ne,e,m,⟨l,g,i,e2,c⟩,r⟩:=x
    exact⟨E _ d,z,ne,k _ _ (.inl rfl) e,m,⟨l,g,i,k _ _ (.inr d) e2,c⟩,r⟩
  | own y=>obtain⟨ob,e⟩:=x;exact⟨ob,k _ _ (.inl rfl) e⟩
  | xd fs=>obtain⟨m,⟨l,g,i,e,c⟩,r⟩:=x;exact⟨m,⟨l,g,i,k _ _ (.inl rfl) e,c⟩,r⟩
  | rng lo G=>obtain⟨t,u,v,e⟩:=x;exact⟨t,u,v,k _ _ (.inl rfl) e⟩
  | frz ob u ih=>obtain⟨e,q⟩:=x;exact⟨k _ _ (.inl rfl) e,ih q⟩
  | tbl A =>
    have e:h.get? a=some { cls:=.none,data:=.fields A }:=x;show h'.get? a=some { cls:=.none,data:=.fields A }
    exact k a _ (.inl rfl) e
  | met f y =>
    have e:h.get? a=some (PySem.W.methodObj (.ref f) (.ref y)):=x;show h'.get? a=some (PySem.W.methodObj (.ref f) (.ref y))
    exact k a _ (.inl rfl) e
  | ext F=>obtain⟨p,⟨o,e⟩,st⟩:=x;exact⟨st _ _ p λo q=>k _ _ (.inl rfl) q,⟨o,k _ _ (.inl rfl) e⟩,st⟩
theorem HOk.lt (x:HOk P w H h)(e:H a=some o):a<h.objs.size:=(x a o e).lt
theorem HOk.fresh (x:HOk P w H h)(e:h.objs.size<=a):H a=none:=by
  cases q:H a with
  | none=>rfl
  | some u=>exact absurd (JG (x.lt q) e) (YB _)
theorem HOk.kept (x:HOk P w H h)(k:∀ b u,h.get? b=some u->h'.get? b=some u):HOk P w H h':=λa o e =>
  (x a o e).stay (λb u _ q=>k b u q) (λ_ q=>q) λ_ _ q=>q
theorem HOk.laid (x:HOk P w H h)(k:∀ b u,h.get? b=some u->h'.get? b=some u)(g:h.objs.size<=a)(new:ObjOk P w (upd H a o) h' a o):HOk P w (upd H a o) h':=λb u e=>by
  have d:=x.fresh g;by_cases f:b=a
  · subst f;rw[zG]at e;cases e;exact new
  · rw[zK f]at e
    exact(x b u e).stay (λc v _ q=>k c v q) (λc q=>by rw[zK (zJ q d)];exact q) λc i q=>by rw[zK (zJ q d)];exact q
end
def Rd (H:Hp)(a:JI)(u:HO):Prop:=H a=some u\/∃ o,H a=some (.frz o u)
theorem Rd.ok {P:Yo}{w:YI}{H:Hp}{h:YP}{a:JI}{u:HO}(r:Rd H a u)(x:HOk P w H h):ObjOk P w H h a u:=by
  rcases r with r|⟨o,r⟩
  · exact x a u r
  · obtain⟨_,q⟩:=x a _ r
    exact q
def Mut:Option HO->Prop
  | some (.lst _)=>True
  | some (.dK _)=>True
  | some (.dT _)=>True
  | some (.set _ _)=>True
  | some (.ins _ _ _)=>True
  | some (.ext _)=>True
  | _=>False
section
variable {P:Yo}{w:YI}{H:Hp}{h h':YP}{x e:JI}{o':HO}
theorem HOk.write (ok:HOk P w H h)(i:Mut (H x))(o:e=x\/H e=some (.own x))(k:∀ b u,b≠e->h.get? b=some u->h'.get? b=some u)(m:∃ u,h'.get? e=some u)(new:ObjOk P w (upd H x o') h' x o'):HOk P w (upd H x o') h':=λb u q=>by
  have d:∀ c y,H c=some (.own y)->c≠x:=λc y r z=>by subst z;rw[r]at i;exact i
  have f:∀ c g,H c=some (.tup g)->c≠x:=λc g r z=>by subst z;rw[r]at i;exact i
  by_cases l:b=x
  · subst l;rw[zG]at q;cases q;exact new
  · rw[zK l]at q
    by_cases a:b=e
    · have n:H b=some (.own x):=by
        rcases o with z|z
        · exact absurd (a.trans z) l
        · rw[a];exact z
      rw[q]at n;cases n;obtain⟨v,p⟩:=m;exact⟨v,by rw[a];exact p⟩
    · refine(ok b u q).stay (λc v j r=>k c v ?_ r) (λc r=>by rw[zK (d c b r)];exact r) λc g r=>by rw[zK (f c g r)];exact r
      rcases j with rfl|j
      · exact a
      · rintro rfl
        rcases o with z|z
        · exact d c b j z
        · rw[j]at z;cases z;exact l rfl
end
structure Un (fs ex:List JI) (H H':Hp) (h h':YP):Prop where
  keep:∀ b o,h.get? b=some o->H b=none->b∉fs->b∉ex->h'.get? b=some o
  slot:∀ b o,h.get? b=some o->H b=none->b∈fs->b∉ex->∃ sl,h'.get? b=some { o with slots:=sl }
  free:∀ b o,h.get? b=some o->H b=none->b∉ex->H' b=none
  there:∀ b o,h.get? b=some o->b∉ex->∃ o',h'.get? b=some o'
  tups:∀ b xs,H b=some (.tup xs)->H' b=some (.tup xs)
  frzs:∀ b o u,H b=some (.frz o u)->H' b=some (.frz o u)
  tbls:∀ b ps,H b=some (.tbl ps)->∃ more,H' b=some (.tbl (ps++more))
section
variable {fs ex:List JI}{H H1:Hp}{h h1 h':YP}{a x e:JI}{o:HO}
theorem Un.any (u:Un fs ex H H1 h h1){b:JI}{ob:Obj}(q:h.get? b=some ob)(n:H b=none)(a:b∉ex):∃ sl,h1.get? b=some { ob with slots:=sl }:=by
  by_cases c:b∈fs
  · exact u.slot b ob q n c a
  · exact⟨ob.slots,u.keep b ob q n c a⟩
theorem Un.kept (k:∀ b u,h.get? b=some u->h'.get? b=some u):Un fs ex H H h h' :=
  ⟨λb ob q _ _ _=>k b ob q,λb ob q _ _ _=>⟨ob.slots,k b ob q⟩,λ_ _ _ n _=>n,λb ob q _=>⟨ob,k b ob q⟩,λ_ _ q=>q,λ_ _ _ q=>q,λ_ a q=>⟨#[],by rw[q];simp⟩⟩
theorem Un.refl:Un fs ex H H h h:=Un.kept λ_ _ q=>q
theorem Un.laid (k:∀ b u,h.get? b=some u->h'.get? b=some u)(e:h.objs.size<=a)(c:H a=none):Un fs ex H (upd H a o) h h' where
  keep:=λb u q _ _ _=>k b u q
  slot:=λb u q _ _ _=>⟨u.slots,k b u q⟩
  free:=λb u q n _=>by rw[zK (JA (JG (Jn q) e))];exact n
  there:=λb u q _=>⟨u,k b u q⟩
  tups:=λb d q=>by rw[zK (zJ q c)];exact q
  frzs:=λb u d q=>by rw[zK (zJ q c)];exact q
  tbls:=λb f q=>⟨#[],by rw[zK (zJ q c),q];simp⟩
theorem Un.write (c:Mut (H x))(l:e=x\/H e=some (.own x))(k:∀ b u,b≠e->h.get? b=some u->h'.get? b=some u)(f:∃ u,h'.get? e=some u):Un fs ex H (upd H x o) h h':=by
  have g:∀ b,H b=none->b≠x:=λb n z=>by subst z;rw[n]at c;exact c
  have i:∀ b,H b=none->b≠e:=λb n z=>by
    subst z;rcases l with r|r
    · exact g b n r
    · rw[n]at r;cases r
  have d:∀ b u,H b=some u->¬ Mut (some u)->b≠x:=λb u q nm z=>by subst z;rw[q]at c;exact nm c
  refine⟨λb u q n _ _=>k b u (i b n) q,λb u q n _ _=>⟨u.slots,k b u (i b n) q⟩,λb u q n _=>by rw[zK (g b n)];exact n,λb u q _=>?_,
    λb j q=>by rw[zK (d b _ q λz=>z)];exact q,λb u j q=>by rw[zK (d b _ q λz=>z)];exact q,λb m q=>⟨#[],by rw[zK (d b _ q λz=>z),q];simp⟩⟩
  by_cases a:b=e
  · subst a;exact f
  · exact⟨u,k b u a q⟩
end
def trk (h:YP)(H:Hp):List JI:=(List.range h.objs.size).filter λa=>(H a).isSome
def r0 (h:YP)(H:Hp):YP:=PySem.W.hideAll h (trk h H)
theorem gR (h:YP)(H:Hp):(r0 h H).objs.size=h.objs.size:=PySem.W.hideAll_size _ _
theorem bN {h:YP}{H:Hp}{b:JI}{o:Obj}(e:h.get? b=some o)(n:H b=none):(r0 h H).get? b=some o :=
  PySem.W.hideAll_get _ e λa=>by
    have q:(H b).isSome=true:=(List.mem_filter.mp a).2;rw[n]at q;simp at q
theorem av {h:YP}{H:Hp}{b:JI}{o:Obj}(e:(r0 h H).get? b=some o):h.get? b=some o/\H b=none:=by
  have a:h.get? b=some o:=PySem.W.of_hideAll (trk h H) e;refine⟨a,?_⟩
  cases q:H b with
  | none=>rfl
  | some x =>
    have c:b∈trk h H:=List.mem_filter.mpr ⟨Yp.mpr (Jn a),by simp[q]⟩;have z:(r0 h H).get? b=none:=PySem.W.hideAll_none (trk h H) c;rw[z]at e;cases e
def zau (g h:YP)(L:JI):List (JI × Obj):=(List.range h.objs.size).filterMap λa=>if a=L\/(g.get? a).isSome=true then none else (h.get? a).map λo=>(a,o)
def rest (g h:YP)(L d:JI):List (JI × Obj):=(zau g h L).filter λp=>decide (p.1≠d)
structure Mod (K:Jl) (mg:Str->Option Jo) (base:YP):Prop where
  kin:K.In base
  glob:base.Ns mainGlobals mg
  blt:∃ mb,base.Ns builtinsNs mb/\∀ x:Str,x≠"__name__"->mb x=bootBuiltins x
  nolimit:base.NoLimit
structure Cx where
  prog:Yo
  w:YI
  K:Jl
  mg:Str->Option Jo
  base:YP
  A:YO
  N:List Str
  s₀:JO
  H₀:Hp
  env:Env
  outer:List Env
  stack:List Env
  ex:List JI
  fn:Str->Bool
  calm:Bool
  pn:List (JI × Obj)
  xe:Jo->JO->Prop
def frs (l:List Env):List JI:=l.filterMap (·.frame)
abbrev Cx.fs (X:Cx):List JI:=frs X.outer
def Vis (sc:Scope)(x:Str):Prop:=sc.names.lookup x=some .local \/ sc.names.lookup x=some .cell\/sc.names.lookup x=some .free
def Loc (sc:Scope)(x:Str):Prop:=sc.names.lookup x=some .local \/ sc.names.lookup x=some .cell
def Look (env:Env)(h:YP)(m:Str->Option Jo)(x:Str)(u:Jo):Prop :=
  (env.kindOf x=some .local /\ m x=some u)\/((env.kindOf x=some .cell\/env.kindOf x=some .free)/\∃ c,env.cells.lookup x=some c/\h.IsCell c (some u))
structure Cx.Ok (X:Cx):Prop where
  mod:Mod X.K X.mg X.base
  kind:X.env.scope.kind=.function
  glob:X.env.globals=mainGlobals
  blt:X.env.builtins=builtinsNs
  above:X.s₀.heap.objs.size<=X.env.locals
  inj:∀ x y c,X.env.cells.lookup x=some c->X.env.cells.lookup y=some c->x=y
  has:∀ x,(X.env.kindOf x=some .cell\/X.env.kindOf x=some .free)->∃ c,X.env.cells.lookup x=some c
  cab:∀ x c,X.fn x=true->X.env.cells.lookup x=some c->X.s₀.heap.objs.size<=c
  hd:X.calm=true->X.A.handled=none
  frames:X.A.frames=some X.stack
  stk:X.stack=X.outer\/(X.stack=X.env::X.outer/\X.env.frame=some X.env.locals)
  exf:∀ b∈X.ex,b≠X.env.locals/\∀ x c,X.env.cells.lookup x=some c->c≠b
  bs:∀ b o,X.base.get? b=some o->X.s₀.heap.get? b=some o/\X.H₀ b=none
  bsz:X.base.objs.size<=X.s₀.heap.objs.size
  noex:∀ b o,X.base.get? b=some o->b∉X.ex
  exfs:∀ b∈X.ex,b∉X.fs
  funs:X.s₀.heap.FunFrames X.base X.outer
  frf:∀ b∈X.fs,X.H₀ b=none
structure Inv (X:Cx) (pins:List (JI × Obj)) (σ:List (Option V)) (H:Hp) (s:JO):Prop where
  ok:X.Ok
  os:s.os=X.s₀.os
  bare:AllBare s.gens
  base:Un X.fs X.ex X.H₀ H X.s₀.heap s.heap
  loc:∃ m,s.heap.Ns X.env.locals m/\∀ (i:Nat) (x:Str) (v:V),X.N[i]?=some x->σ[i]?=some (some v)->Vis X.env.scope x->∃ u,RelV v u/\Look X.env s.heap m x u
  cell:∀ x c,X.env.cells.lookup x=some c->∃ v,s.heap.IsCell c v
  free:H X.env.locals=none
  freeC:∀ x c,X.env.cells.lookup x=some c->H c=none
  pin:∀ p∈X.pn++pins,s.heap.get? p.1=some p.2/\H p.1=none/\p.1≠X.env.locals/\p.1∉X.fs/\∀ v,p.2.data≠.cell v
  hok:HOk X.prog X.w H s.heap
  len:σ.length=X.N.length
section
variable {X:Cx}{pins:List (JI × Obj)}{σ:List (Option V)}{H H':Hp}{s:JO}{h':YP}
theorem Cx.Ok.nofr (ok:X.Ok){b:JI}{o:Obj}(e:X.base.get? b=some o):b∉X.fs:=λa=>by
  have:=(ok.funs.mem a).1;rw[e]at this;cases this
theorem Inv.bs (I:Inv X pins σ H s):∀ b o,X.base.get? b=some o->s.heap.get? b=some o/\H b=none:=λb o e =>
  ⟨I.base.keep b o (I.ok.bs b o e).1 (I.ok.bs b o e).2 (I.ok.nofr e) (I.ok.noex b o e),I.base.free b o (I.ok.bs b o e).1 (I.ok.bs b o e).2 (I.ok.noex b o e)⟩
theorem Inv.bk (I:Inv X pins σ H s):∀ b o,X.base.get? b=some o->s.heap.get? b=some o:=λb o e=>(I.bs b o e).1
theorem Inv.mod (I:Inv X pins σ H s):Mod X.K X.mg X.base:=I.ok.mod
theorem Inv.kIn (I:Inv X pins σ H s):X.K.In s.heap:=I.ok.mod.kin.keeps I.bk
theorem Inv.lt (I:Inv X pins σ H s):X.env.locals<s.heap.objs.size:=let ⟨_,a,_⟩:=I.loc;a.lt
theorem Inv.sz (I:Inv X pins σ H s):X.s₀.heap.objs.size<=s.heap.objs.size:=JX I.ok.above (Nat.le_of_lt I.lt)
theorem Inv.nofs (I:Inv X pins σ H s){a:JI}(h:s.heap.objs.size<=a):a∉X.fs:=λc=>by
  obtain⟨_,o,b,_⟩:=I.ok.funs.mem c;exact absurd (JG (Jn b) (JX I.sz h)) (YB _)
theorem Inv.cne (I:Inv X pins σ H s):∀ x c,X.env.cells.lookup x=some c->c≠X.env.locals:=λx c e z=>by
  obtain⟨v,o,d,f⟩:=I.cell x c e;obtain⟨m,⟨g,h,i,a,b,_⟩,_⟩:=I.loc;rw[z,a]at d;cases d;rw[b]at f;cases f
theorem Inv.funs (I:Inv X pins σ H s):s.heap.FunFrames X.base X.outer:=by
  have all:∀ (l:List Env),(∀ b∈frs l,b∈X.fs)->X.s₀.heap.FunFrames X.base l->s.heap.FunFrames X.base l:=by
    intro l
    induction l with
    | nil=>intro _ _;trivial
    | cons env r ih =>
      intro f j;obtain⟨k,⟨L,o,a,i,h,m⟩,g⟩:=j;have d:L∈X.fs:=f L (by unfold frs;rw[List.filterMap_cons,a];exact JJ);obtain⟨n,e⟩:=I.base.slot L o h (I.ok.frf L d) d λz=>I.ok.exfs L z d;exact⟨k,⟨L,_,a,i,e,m⟩,ih (λb c=>f b (by unfold frs;rw[List.filterMap_cons,a];exact JH _ c)) g⟩
  exact all X.outer (λ_ c=>c) I.ok.funs
theorem Inv.stack (I:Inv X pins σ H s):s.heap.FunFrames X.base X.stack:=by
  rcases I.ok.stk with e|⟨e,b⟩
  · rw[e];exact I.funs
  · rw[e]
    obtain⟨m,a,_⟩:=I.loc;refine .cons (by rw[I.ok.kind];decide) b a ?_ I.funs;exact Heap.get?_none_of_le (JX I.ok.bsz I.ok.above)
theorem Inv.stkSub (I:Inv X pins σ H s):∀ b∈frs X.stack,b∈X.env.locals::X.fs:=λb a=>by
  rcases I.ok.stk with e|⟨e,c⟩
  · rw[e]at a;exact JH _ a
  · rw[e]at a
    unfold frs at a;rw[List.filterMap_cons,c]at a;exact a
theorem Inv.stkFree (I:Inv X pins σ H s):∀ b∈frs X.stack,H b=none:=λb a=>by
  rcases Jr.mp (I.stkSub b a) with e|a
  · rw[e];exact I.free
  · obtain⟨_,o,c,_⟩:=I.ok.funs.mem a
    exact I.base.free b o c (I.ok.frf b a) λz=>I.ok.exfs b z a
theorem Inv.step {g':Array GenState}{t':Nat}{d':Drawn}{ch:List JI}(I:Inv X pins σ H s)(g:∀ b∈ch,(b∈X.ex\/X.s₀.heap.objs.size<=b)/\b≠X.env.locals/\(∀ x c,X.env.cells.lookup x=some c->c≠b)/\∀ p∈X.pn++pins,p.1≠b)(keep:∀ b o,b≠X.env.locals->b∉X.fs->b∉ch->s.heap.get? b=some o->H b=none->h'.get? b=some o)(slot:∀ b o,b≠X.env.locals->b∈X.fs->b∉ch->s.heap.get? b=some o->H b=none->∃ sl,h'.get? b=some { o with slots:=sl })(free:∀ b o,b∉ch->s.heap.get? b=some o->H b=none->H' b=none)(there:∀ b o,b∉ch->s.heap.get? b=some o->∃ A,h'.get? b=some A)(tups:∀ b t,H b=some (.tup t)->H' b=some (.tup t))(D:∀ b o u,H b=some (.frz o u)->H' b=some (.frz o u))(C:∀ b E,H b=some (.tbl E)->∃ more,H' b=some (.tbl (E++more)))(ns:∀ m,s.heap.Ns X.env.locals m->h'.Ns X.env.locals m)(J:HOk X.prog X.w H' h')(R:AllBare g') :
    Inv X pins σ H' { s with heap:=h',gens:=g',drawn:=d',toks:=t' }:=by
  have B:∀ b o,X.s₀.heap.get? b=some o->b≠X.env.locals:=λb o e=>JA (JG (Jn e) I.ok.above)
  have j:∀ b o,X.s₀.heap.get? b=some o->b∉X.ex->b∉ch:=λb o e a w=>by
    rcases (g b w).1 with z|z
    · exact a z
    · exact absurd (JG (Jn e) z) (YB _)
  have cellK:∀ x c,X.env.cells.lookup x=some c->∀ v,s.heap.IsCell c v->h'.IsCell c v:=λx c e v ⟨o,y,F⟩=>by
    have f:c∉ch:=λz=>(g c z).2.2.1 x c e rfl;by_cases M:c∈X.fs
    · obtain⟨sl,q⟩:=slot c o (I.cne x c e) M f y (I.freeC x c e)
      exact⟨_,q,F⟩
    · exact⟨o,keep c o (I.cne x c e) M f y (I.freeC x c e),F⟩
  refine⟨I.ok,I.os,R,⟨λb o e n w a=>?_,λb o e n w a=>?_,λb o e n a=>?_,λb o e a=>?_,λb t e=>tups b t (I.base.tups b t e),λb o t e=>D b o t (I.base.frzs b o t e),λb E e=>?_⟩,?_,λx c e=>?_,?_,λx c e=>?_,λp L=>?_,J,I.len⟩
  · exact keep b o (B b o e) w (j b o e a) (I.base.keep b o e n w a) (I.base.free b o e n a)
  · obtain⟨sl,h⟩:=I.base.slot b o e n w a
    obtain⟨G,e2⟩:=slot b _ (B b o e) w (j b o e a) h (I.base.free b o e n a);exact⟨G,e2⟩
  · obtain⟨A,h⟩:=I.base.there b o e a
    exact free b A (j b o e a) h (I.base.free b o e n a)
  · obtain⟨A,h⟩:=I.base.there b o e a
    exact there b A (j b o e a) h
  · obtain⟨O,h⟩:=I.base.tbls b E e
    obtain⟨N,e2⟩:=C b _ h;exact⟨O++N,by rw[e2,Array.append_assoc]⟩
  · obtain⟨m,P,Q⟩:=I.loc
    refine⟨m,ns m P,λi x v h e2 S=>?_⟩;obtain⟨u,r,l⟩:=Q i x v h e2 S;refine⟨u,r,?_⟩;rcases l with l|⟨k,c,e,z⟩
    · exact .inl l
    · exact .inr ⟨k,c,e,cellK x c e _ z⟩
  · obtain⟨v,z⟩:=I.cell x c e
    exact⟨v,cellK x c e v z⟩
  · obtain⟨m,⟨o,_,_,y,_⟩,_⟩:=I.loc
    exact free _ o (λz=>(g _ z).2.1 rfl) y I.free
  · obtain⟨v,o,y,F⟩:=I.cell x c e
    exact free c o (λz=>(g c z).2.2.1 x c e rfl) y (I.freeC x c e)
  · obtain⟨e,n,ne,K,d⟩:=I.pin p L
    have f:p.1∉ch:=λz=>(g p.1 z).2.2.2 p L rfl;exact⟨keep p.1 p.2 ne K f e n,free p.1 p.2 f e n,ne,K,d⟩
theorem Inv.un {t':Nat}(I:Inv X pins σ H s)(u:Un X.fs [] H H' s.heap h')(hok:HOk X.prog X.w H' h'):Inv X pins σ H' { s with heap:=h',toks:=t' }:=by
  obtain⟨m,⟨o,q,t,g,r⟩,_⟩:=id I.loc;obtain⟨k,j⟩:=u.any g I.free (by simp)
  exact I.step (g':=s.gens) (d':=s.drawn) (ch:=[]) (λ_ z=>nomatch z) (λb o _ c _ e n=>u.keep b o e n c (by simp)) (λb o _ c _ e n=>u.slot b o e n c (by simp)) (λb o _ e n=>u.free b o e n (by simp)) (λb o _ e=>u.there b o e (by simp)) u.tups u.frzs u.tbls (λp i=>by
    obtain⟨l,d,f,a,h⟩:=i;rw[g]at a;cases a
    exact⟨_,d,f,j,h⟩) hok I.bare
theorem Inv.call {g':Array GenState}{t':Nat}{d':Drawn}{ch:List JI}(I:Inv X pins σ H s)(u:Un (frs X.stack) ch H H' s.heap h')(hok:HOk X.prog X.w H' h')(q:AllBare g')(f:∀ b∈ch,(b∈X.ex\/X.s₀.heap.objs.size<=b)/\b≠X.env.locals/\(∀ x c,X.env.cells.lookup x=some c->c≠b)/\∀ p∈X.pn++pins,p.1≠b) :
    Inv X pins σ H' { s with heap:=h',gens:=g',drawn:=d',toks:=t' }:=by
  obtain⟨m,⟨o,A,B,j,r⟩,_⟩:=id I.loc;obtain⟨v,g⟩:=u.any j I.free λz=>(f _ z).2.1 rfl
  exact I.step (ch:=ch) f (λb o g t a e n=>u.keep b o e n (λz=>(Jr.mp (I.stkSub b z)).elim g t) a) (λb o _ _ a e n=>u.any e n a) (λb o a e n=>u.free b o e n a) (λb o a e=>u.there b o e a) u.tups u.frzs u.tbls (λy l=>by
    obtain⟨w,h,i,d,k⟩:=l;rw[j]at d;cases d
    exact⟨_,h,i,g,k⟩) hok q
theorem Inv.turned {t':Nat}{it:JI}(I:Inv X pins σ H s)(k:∀ b o,b≠it->s.heap.get? b=some o->h'.get? b=some o)(h:H it=none)(f:it≠X.env.locals)(h1:it∈X.ex\/X.s₀.heap.objs.size<=it)(t:∀ x c,X.env.cells.lookup x=some c->c≠it)(l:∀ p∈X.pn++pins,p.1≠it):Inv X pins σ H { s with heap:=h',toks:=t' }:=by
  have d:∀ b u,H b=some u->b≠it:=λb u e z=>by rw[z,h]at e;cases e
  refine I.step (g':=s.gens) (d':=s.drawn) (ch:=[it]) (λb j=>?_) (λb o _ _ a e _=>k b o (λz=>a (by simp[z])) e) (λb o _ _ a e _=>⟨o.slots,k b o (λz=>a (by simp[z])) e⟩) (λ_ _ _ _ n=>n)
    (λb o a e=>⟨o,k b o (λz=>a (by simp[z])) e⟩) (λ_ _ e=>e) (λ_ _ _ e=>e) (λb A e=>⟨#[],by rw[e];simp⟩) (λm i=>?_) (λb u e=>?_) I.bare
  · have e:b=it:=by simpa using j
    subst e;exact⟨h1,f,t,l⟩
  · obtain⟨o,w,y,g,r⟩:=i
    exact⟨o,w,y,k _ o (Ne.symm f) g,r⟩
  · refine(I.hok b u e).stay (λc v a q=>k c v ?_ q) (λ_ q=>q) λ_ _ q=>q
    rcases a with z|z
    · rw[z];exact d b u e
    · exact d c _ z
theorem Inv.tok (I:Inv X pins σ H s)(t:Nat):Inv X pins σ H { s with toks:=t }:=I.un (h':=s.heap) (t':=t) Un.refl I.hok
theorem Inv.kept {t':Nat}(I:Inv X pins σ H s)(k:∀ b u,s.heap.get? b=some u->h'.get? b=some u):Inv X pins σ H { s with heap:=h',toks:=t' }:=I.un (Un.kept k) (I.hok.kept k)
theorem Inv.laid {a:JI}{o:HO}{t':Nat}(I:Inv X pins σ H s)(k:∀ b u,s.heap.get? b=some u->h'.get? b=some u)(c:s.heap.objs.size<=a)(new:ObjOk X.prog X.w (upd H a o) h' a o) :
    Inv X pins σ (upd H a o) { s with heap:=h',toks:=t' }:=I.un (Un.laid k c (I.hok.fresh c)) (I.hok.laid k c new)
theorem Inv.write {x e:JI}{o:HO}{t':Nat}(I:Inv X pins σ H s)(c:Mut (H x))(d:e=x\/H e=some (.own x))(k:∀ b u,b≠e->s.heap.get? b=some u->h'.get? b=some u)(a:∃ u,h'.get? e=some u)(new:ObjOk X.prog X.w (upd H x o) h' x o):Inv X pins σ (upd H x o) { s with heap:=h',toks:=t' }:=I.un (Un.write c d k a) (I.hok.write c d k a new)
theorem Inv.pins_of {a:List (JI × Obj)}(I:Inv X pins σ H s)(h:∀ p∈a,s.heap.get? p.1=some p.2/\H p.1=none/\p.1≠X.env.locals/\p.1∉X.fs/\∀ v,p.2.data≠.cell v):Inv X a σ H s :=
  ⟨I.ok,I.os,I.bare,I.base,I.loc,I.cell,I.free,I.freeC,λp b=>(Jv.mp b).elim (λz=>I.pin p (Yc _ z)) (h p),I.hok,I.len⟩
theorem nX {N:List Str}(c:N.Nodup){i j:Nat}{x:Str}(a:N[i]?=some x)(b:N[j]?=some x):i=j:=by
  obtain⟨f,d⟩:=Jb.mp a;obtain⟨e,e2⟩:=Jb.mp b;exact(List.getElem_inj c).mp (d.trans e2.symm)
theorem qG {M:Model}{A:YO}{E:Jo->JO->Prop}{i:Nat}{x:Str}{v:V}{u:Jo}{Q:Unit->JO->Prop}(I:Inv X pins σ H s)(hN:X.N.Nodup)(hi:X.N[i]?=some x)(t:Loc X.env.scope x)(r:RelV v u)(h:∀ s',Inv X pins (σ.set i (some v)) H s'->(∃ a,Heap.SameBut a s.heap s'.heap/\(a=X.env.locals\/X.env.cells.lookup x=some a))->Q () s')(hf:X.fn x=true\/X.env.scope.names.lookup x=some .local:=by first|exact .inl rfl|exact .inr rfl|assumption):wpAny M A (storeName X.env x u) Q E s:=by
  obtain⟨m,hn,hl⟩:=id I.loc;have O:(X.env.scope.kind == .class || (X.env.scope.kind == .module && X.env.locals != X.env.globals))=false:=by rw[I.ok.kind];rfl
  have C:i<σ.length:=by rw[I.len];exact(Jb.mp hi).1
  have cne:=I.cne
  have tracked:∀ {a:JI}{h':YP},(∃ o,s.heap.get? a=some o/\H a=none)->Heap.SameBut a s.heap h'->HOk X.prog X.w H h':=λ{a h'} ha f b ob e=>by
    obtain⟨_,_,w⟩:=ha;refine(I.hok b ob e).stay (λc P l q=>(f.2 c ?_).trans q) (λ_ q=>q) λ_ _ q=>q;rintro rfl;rcases l with rfl|l
    · rw[w]at e;cases e
    · rw[w]at l;cases l
  rcases t with B|B
  · refine wpAny_storeName_local B hn (λh' ab f=>?_) O
    obtain⟨oL,_,_,aa,_⟩:=id hn;refine h _ ⟨I.ok,I.os,I.bare,⟨λb o e n F t=>?_,λb o e n F t=>?_,I.base.free,λb o e t=>?_,I.base.tups,I.base.frzs,I.base.tbls⟩,⟨_,ab,λj y S g e2 e3=>?_⟩,λy c e=>?_,I.free,I.freeC,λp hp=>?_,tracked ⟨oL,aa,I.free⟩ f,by simpa using I.len⟩ ⟨_,f,.inl rfl⟩
    · exact(f.2 b (JA (JG (Jn e) I.ok.above))).trans (I.base.keep b o e n F t)
    · obtain⟨U,g⟩:=I.base.slot b o e n F t
      exact⟨U,(f.2 b (JA (JG (Jn e) I.ok.above))).trans g⟩
    · obtain⟨Y,g⟩:=I.base.there b o e t
      exact⟨Y,(f.2 b (JA (JG (Jn e) I.ok.above))).trans g⟩
    · by_cases D:j=i
      · subst D
        rw[hi]at g;cases g;rw[List.getElem?_set_self C]at e2;cases e2;exact⟨u,r,.inl ⟨B,by simp⟩⟩
      · rw[List.getElem?_set_ne (Ne.symm D)]at e2
        obtain⟨T,W,q⟩:=hl j y S g e2 e3;refine⟨T,W,?_⟩;rcases q with ⟨k,e⟩|⟨k,c,e,z⟩
        · refine .inl ⟨k,?_⟩
          have:y≠x:=λe=>D (nX hN g (e ▸ hi));simp[this,e]
        · exact .inr ⟨k,c,e,z.sameBut f (cne y c e)⟩
    · obtain⟨P,z⟩:=I.cell y c e
      exact⟨P,z.sameBut f (cne y c e)⟩
    · obtain⟨e,n,ne,Z,d⟩:=I.pin p hp
      exact⟨(f.2 p.1 ne).trans e,n,ne,Z,d⟩
  · have G:X.fn x=true:=by
      rcases hf with z|z
      · exact z
      · rw[z]at B;cases B
    obtain⟨c,l⟩:=I.ok.has x (.inl B);obtain⟨P,z⟩:=I.cell x c l;refine wpAny_storeName_cell I.ok.kind B l z (λh' L f=>?_);obtain⟨oc,J,N⟩:=id z;refine h { s with heap:=h' } ⟨I.ok,I.os,I.bare,⟨λb o e n F t=>?_,λb o e n F t=>?_,I.base.free,λb o e t=>?_,I.base.tups,I.base.frzs,I.base.tbls⟩,⟨m,hn.sameBut f (Ne.symm (cne x c l)),λj y S g e2 e3=>?_⟩,λy R e=>?_,I.free,I.freeC,λp hp=>?_,tracked ⟨oc,J,I.freeC x c l⟩ f,by simpa using I.len⟩ ⟨c,f,.inr l⟩
    · exact(f.2 b (JA (JG (Jn e) (I.ok.cab x c G l)))).trans (I.base.keep b o e n F t)
    · obtain⟨U,g⟩:=I.base.slot b o e n F t
      exact⟨U,(f.2 b (JA (JG (Jn e) (I.ok.cab x c G l)))).trans g⟩
    · obtain⟨Y,g⟩:=I.base.there b o e t
      exact⟨Y,(f.2 b (JA (JG (Jn e) (I.ok.cab x c G l)))).trans g⟩
    · by_cases D:j=i
      · subst D
        rw[hi]at g;cases g;rw[List.getElem?_set_self C]at e2;cases e2;exact⟨u,r,.inr ⟨.inl B,c,l,L⟩⟩
      · rw[List.getElem?_set_ne (Ne.symm D)]at e2
        obtain⟨T,W,q⟩:=hl j y S g e2 e3;refine⟨T,W,?_⟩;rcases q with q|⟨k,R,e,z'⟩
        · exact .inl q
        · refine .inr ⟨k,R,e,z'.sameBut f ?_⟩
          rintro rfl;exact D (nX hN g (I.ok.inj _ _ _ e l ▸ hi))
    · by_cases K:R=c
      · subst K;exact⟨_,L⟩
      · obtain⟨w2,z2⟩:=I.cell y R e
        exact⟨w2,z2.sameBut f K⟩
    · obtain⟨e,n,ne,Z,d⟩:=I.pin p hp
      refine⟨(f.2 p.1 ?_).trans e,n,ne,Z,d⟩;intro q;rw[q,J]at e;have q':oc=p.2:=Jp e;exact d P (by rw[<- q'];exact N)
theorem xD {M:Model}{A:YO}{E:Jo->JO->Prop}{i:Nat}{x:Str}{v:V}{u:Jo}{Q:Unit->JO->Prop}(I:Inv X pins σ H s)(c:X.N.Nodup)(hi:X.N[i]?=some x)(a:Loc X.env.scope x)(r:RelV v u)(h:∀ s',Inv X pins (σ.set i (some v)) H s'->Q () s')(b:X.fn x=true\/X.env.scope.names.lookup x=some .local:=by first|exact .inl rfl|exact .inr rfl|assumption):wpAny M A (storeName X.env x u) Q E s :=
  qG I c hi a r (λs' d _=>h s' d) b
theorem Inv.call' {s':JO}{ch:List JI}(I:Inv X pins σ H s)(f:s'.os=s.os)(u:Un (frs X.stack) ch H H' s.heap s'.heap)(hok:HOk X.prog X.w H' s'.heap)(g:AllBare s'.gens)(a:∀ b∈ch,(b∈X.ex\/X.s₀.heap.objs.size<=b)/\b≠X.env.locals/\(∀ x c,X.env.cells.lookup x=some c->c≠b)/\∀ p∈X.pn++pins,p.1≠b):Inv X pins σ H' s':=by
  obtain⟨h',g',d',t',d⟩:=s';have e:d=s.os:=f;subst e;exact I.call (g':=g') (t':=t') (d':=d') u hok g a
end
abbrev XK:=Jo->Option JI->Hp->Prop
abbrev St:=List (Option V)
abbrev VK:=V->Hp->Prop
abbrev TE:=St->Hp->VK->Prop
abbrev TT:=St->Hp->(Bool->Hp->Prop)->Prop
abbrev TA:=St->Hp->(List V->Hp->Prop)->Prop
structure Ends where
  nx:St->Hp->Prop
  rt:VK
  bk:St->Hp->Prop:=λ_ _=>False
  ct:St->Hp->Prop:=λ_ _=>False
abbrev TS:=Ends->St->Hp->Prop
def EP (X:Cx)(pins:List (JI × Obj))(σ:St)(Q:VK)(u:Jo)(s':JO):Prop:=∃ v a,Inv X pins σ a s'/\RelV v u/\Q v a
def TP (X:Cx)(pins:List (JI × Obj))(σ:St)(Q:Bool->Hp->Prop)(b:Bool)(s':JO):Prop:=∃ a,Inv X pins σ a s'/\Q b a
def AP (X:Cx)(pins:List (JI × Obj))(σ:St)(Q:List V->Hp->Prop)(us:List Jo)(s':JO):Prop:=∃ a b,Inv X pins σ b s'/\Vals a us/\Q a b
def SP (X:Cx)(pins:List (JI × Obj))(D:Ends)(f:Flow)(s':JO):Prop :=
  match f with
  | .next=>∃ a b,Inv X pins a b s'/\D.nx a b
  | .brk=>∃ a b,Inv X pins a b s'/\D.bk a b
  | .cont=>∃ a b,Inv X pins a b s'/\D.ct a b
  | .ret u=>∃ v a b,Inv X pins a b s'/\RelV v u/\D.rt v b
def PE (X:Cx)(e:Expr)(t:TE):Prop :=
  ∀ (pins:List (JI × Obj)) (s:JO) (σ:St) (H:Hp) (Q:VK),Inv X pins σ H s->t σ H Q->wpAny (model X.prog X.w) X.A (eval e X.env) (EP X pins σ Q) X.xe s
def PT (X:Cx)(e:Expr)(t:TT):Prop :=
  ∀ (pins:List (JI × Obj)) (s:JO) (σ:St) (H:Hp) (Q:Bool->Hp->Prop),Inv X pins σ H s->t σ H Q->wpAny (model X.prog X.w) X.A (isTrue e X.env (eval e X.env)) (TP X pins σ Q) X.xe s
def PW (X:Cx)(e:Expr)(t:TT):Prop :=
  ∀ (whole:Sem Jo) (pins:List (JI × Obj)) (s:JO) (σ:St) (H:Hp) (Q:Bool->Hp->Prop),Inv X pins σ H s->t σ H Q->wpAny (model X.prog X.w) X.A (isTrue e X.env whole) (TP X pins σ Q) X.xe s
theorem PW.pt {X:Cx}{e:Expr}{t:TT}(h:PW X e t):PT X e t:=h _
def PA (X:Cx)(a:List Expr)(t:TA):Prop :=
  ∀ (pos:Pos) (pins:List (JI × Obj)) (s:JO) (σ:St) (H:Hp) (Q:List V->Hp->Prop),Inv X pins σ H s->t σ H Q->wpAny (model X.prog X.w) X.A (spliced (backTo pos (starEach a X.env))) (AP X pins σ Q) X.xe s
def PS (X:Cx)(st:Stmt)(t:TS):Prop :=
  ∀ (pins:List (JI × Obj)) (s:JO) (σ:St) (H:Hp) (D:Ends),Inv X pins σ H s->t D σ H->wpAny (model X.prog X.w) X.A (exec st X.env) (SP X pins D) X.xe s
def PSs (X:Cx)(st:List Stmt)(t:TS):Prop :=
  ∀ (pins:List (JI × Obj)) (s:JO) (σ:St) (H:Hp) (D:Ends),Inv X pins σ H s->t D σ H->wpAny (model X.prog X.w) X.A (execs st X.env) (SP X pins D) X.xe s
theorem thn {α:Type}{t:Sem α}{Q b:α->JO->Prop}{M:Model}{A:YO}{E:Jo->JO->Prop}{s:JO}(h:wpAny M A t Q E s)(c:∀ a s,Q a s->b a s):wpAny M A t b E s:=JK h c λ_ _ x=>x
section
variable {X:Cx}
def fw (i:Nat):TE:=λσ H Q=>∃ v,σ[i]?=some (some v)/\Q v H
def tC (v:V):TE:=λ_ H Q=>Q v H
theorem dq {i:Nat}{x:Str}{pos:Pos}(o:X.N[i]?=some x) (g:Vis X.env.scope x) (hd:(x == ("__debug__":Str))=false:=by decide) (d:(x == ("__classdict__":Str))=false:=by decide):PE X (.Name x pos) (fw i):=by
  intro pins s σ H Q I h;obtain⟨v,e,h⟩:=h;obtain⟨m,j,n⟩:=I.loc;obtain⟨u,r,l⟩:=n i x v o e g;have fin:EP X pins σ Q u s:=⟨v,H,I,r,h⟩;rcases l with ⟨b,k⟩|⟨b,c,f,a⟩
  · exact wpAny_Name (wpAny_loadName_local I.ok.kind b j k fin) hd
  · rcases b with b|b
    · exact wpAny_Name (wpAny_loadName_cell I.ok.kind b f a fin) hd
    · exact wpAny_Name (wpAny_loadName_free I.ok.kind b f a fin d) hd
theorem zH {i j pos}:PE X (.Constant (.int i) j pos) (tC (.int i)):=λ_ _ _ H _ I h=>wpAny_Constant_int ⟨.int i,H,I.tok _,⟨_,rfl⟩,h⟩
theorem nM {b j pos}:PE X (.Constant (.bool b) j pos) (tC (.bl b)):=λ_ _ _ H _ I h=>Constant_bool ⟨.bl b,H,I,rfl,h⟩
theorem wZ {j pos}:PE X (.Constant .none j pos) (tC .non):=λ_ _ _ H _ I h=>Constant_none ⟨.non,H,I,rfl,h⟩
theorem wB {x j pos}:PE X (.Constant (.str x) j pos) (tC (.str x)):=λ_ _ _ H _ I h=>Calls.Constant_str ⟨.str x,H,I.tok _,⟨_,rfl⟩,h⟩
def Gl (X:Cx)(x:Str):Prop:=X.env.kindOf x=some .globalImplicit
theorem uH {E:Jo->JO->Prop}{pins:List (JI × Obj)}{s:JO}{σ:St}{H:Hp}{x:Str}{u:Jo}{pos:Pos}{Q:Jo->JO->Prop}(I:Inv X pins σ H s) (b:Gl X x) (a:X.mg x=some u) (h:Q u s)
    (hd:(x == ("__debug__":Str))=false:=by decide):wpAny (model X.prog X.w) X.A (eval (.Name x pos) X.env) Q E s :=
  Calls.Name_function_global I.ok.kind b (Calls.loadGlobal_global (by rw[I.ok.glob];exact I.mod.glob.keeps I.bk) a h) hd
theorem xw {E:Jo->JO->Prop}{pins:List (JI × Obj)}{s:JO}{σ:St}{H:Hp}{x:Str}{u:Jo}{pos:Pos}{Q:Jo->JO->Prop}(I:Inv X pins σ H s) (d:Gl X x) (c:X.mg x=none) (a:bootBuiltins x=some u) (h:Q u s)
    (b:x≠"__name__":=by decide) (e:(x == ("__debug__":Str))=false:=by decide):wpAny (model X.prog X.w) X.A (eval (.Name x pos) X.env) Q E s:=by
  obtain⟨i,g,f⟩:=I.mod.blt;exact Calls.Name_function_global I.ok.kind d (Calls.loadGlobal_builtin (by rw[I.ok.glob];exact I.mod.glob.keeps I.bk) c (by rw[I.ok.blt];exact g.keeps I.bk) ((f x b).trans a) h) e
variable {a b:Expr}{ta tb:TE}{pos:Pos}
def tB (t:TE):TT:=λσ H Q=>t σ H λx a=>∃ c,x=.bl c/\Q c a
theorem lw {e:Expr}{t:TE}(h:PE X e t)(f:∀ whole,isTrue e X.env whole=(do let v <- whole;standAt e.pos;holding [v] (truthy v)):=by intro _;rfl):PT X e (tB t):=by
  intro pins s σ H Q I c;refine isTrue_plain (thn (h pins s σ H _ I c) λv j ⟨x,i,g,a,b⟩=>?_) (f _);obtain⟨d,rfl,q⟩:=b;cases a;exact Ze ⟨i,g,q⟩
variable {tA tB':TT}{rest:List Expr}
def zcK (t u:TT):TT:=λσ H Q=>t σ H λc a=>if c=true then u σ a Q else Q false a
def tOr (t u:TT):TT:=λσ H Q=>t σ H λc a=>if c=true then Q true a else u σ a Q
def zcE (t:TT):TT:=λσ H Q=>t σ H λc a=>Q (!c) a
theorem aS (ha:PT X a tA):PW X (.BoolOp .And [a] pos) tA:=by
  intro b pins s σ H Q I h;refine isTrue_and (thn (ha pins s σ H Q I h) λc d e=>?_)
  cases c with
  | true=>exact isTrue_and_nil e
  | false=>exact e
theorem dQ (ha:PT X a tA):PW X (.BoolOp .Or [a] pos) tA:=by
  intro b pins s σ H Q I h;refine isTrue_or (thn (ha pins s σ H Q I h) λc d e=>?_)
  cases c with
  | false=>exact isTrue_or_nil e
  | true=>exact e
theorem zbc (ha:PT X a tA)(hb:PW X (.BoolOp .And (b::rest) pos) tB'):PW X (.BoolOp .And (a::b::rest) pos) (zcK tA tB'):=by
  intro g pins s σ H Q I h;refine isTrue_and (thn (ha pins s σ H _ I h) λc i ⟨f,e,d⟩=>?_)
  cases c with
  | true=>exact hb g pins i σ f Q e d
  | false=>exact⟨f,e,d⟩
theorem dW (ha:PT X a tA)(hb:PW X (.BoolOp .Or (b::rest) pos) tB'):PW X (.BoolOp .Or (a::b::rest) pos) (tOr tA tB'):=by
  intro g pins s σ H Q I h;refine isTrue_or (thn (ha pins s σ H _ I h) λc i ⟨f,e,d⟩=>?_)
  cases c with
  | true=>exact⟨f,e,d⟩
  | false=>exact hb g pins i σ f Q e d
theorem zbd (ha:PT X a tA):PT X (.UnaryOp .Not a pos) (zcE tA):=by
  intro pins s σ H Q I h;exact isTrue_not (ha pins s σ H (λc b=>Q (!c) b) I h)
def tIf (t:TT)(ta tb:TE):TE:=λσ H Q=>t σ H λc a=>if c=true then ta σ a Q else tb σ a Q
theorem nL {c:Expr}(j:PT X c tA)(ha:PE X a ta)(hb:PE X b tb):PE X (.IfExp c a b pos) (tIf tA ta tb):=by
  intro pins s σ H Q I h;refine wpAny_IfExp (thn (j pins s σ H _ I h) λd e ⟨i,g,f⟩=>?_)
  cases d with
  | true=>exact ha pins e σ i Q g f
  | false=>exact hb pins e σ i Q g f
end
def SqL (K:Jl)(H:Hp)(a:JI)(xs:List V):Prop :=
  Rd H a (.lst xs) \/
    ∃ (o:Obj) (b:Array Jo) (n:Nat),K.lookup a=some o/\o.cls=.type "list"/\o.dict=none/\o.data=.seq b n/\b.size<=sizeLine/\Vals xs b.toList
def SqT (K:Jl)(H:Hp)(a:JI)(xs:List V):Prop :=
  Rd H a (.tup xs) \/
    ∃ (o:Obj) (b:Array Jo) (n:Nat),K.lookup a=some o/\o.cls=.type "tuple"/\o.data=.seq b n/\b.size<=sizeLine/\Vals xs b.toList
def zda:Jo->Option V
  | .none=>some .non
  | .bool b=>some (.bl b)
  | .int i _=>some (.int i)
  | .str x _=>some (.str x)
  | .bytes b _=>some (.byt b)
  | .float b _=>some (.flt b)
  | .ref a=>some (.ref a)
  | .type n=>some (.ty n)
  | _=>none
theorem RelV.abs {x:V}{u:Jo}(r:RelV x u):zda u=some x:=by
  cases x with
  | non=>cases r;rfl
  | bl _=>cases r;rfl
  | int _=>obtain⟨t,rfl⟩:=r;rfl
  | str _=>obtain⟨t,rfl⟩:=r;rfl
  | byt _=>obtain⟨t,rfl⟩:=r;rfl
  | flt _=>obtain⟨t,rfl⟩:=r;rfl
  | ref _=>cases r;rfl
  | ty _=>cases r;rfl
theorem RelV.inj {x y:V}{u:Jo}(r:RelV x u)(q:RelV y u):x=y:=Jp (r.abs.symm.trans q.abs)
theorem Vals.inj:∀ {xs ys:List V}{us:List Jo},Vals xs us->Vals ys us->xs=ys
  | _,_,_,.nil,.nil=>rfl
  | _,_,_,.cons r t,.cons a t'=>by rw[r.inj a,Vals.inj t t']
section
variable {X:Cx}{pins:List (JI × Obj)}{σ:St}{H:Hp}{s:JO}{a:JI}{xs ys:List V}
theorem SqL.of {K:Jl}(h:H a=some (.lst xs)):SqL K H a xs:=.inl (.inl h)
theorem SqT.of {K:Jl}(h:H a=some (.tup xs)):SqT K H a xs:=.inl (.inl h)
theorem Inv.list (I:Inv X pins σ H s)(h:SqL X.K H a xs):∃ its:List Jo,Vals xs its/\PlainL s.heap a its.toArray/\xs.length<=sizeLine:=by
  rcases h with h|⟨o,its,n,c,f,d,b,g,r⟩
  · obtain⟨z,its,n,r,e⟩:=h.ok I.hok
    exact⟨its,r,⟨_,n,e,rfl,rfl,rfl⟩,z⟩
  · refine⟨its.toList,r,⟨o,n,I.kIn a o c,f,d,by simpa using b⟩,?_⟩
    have e:=r.length;simp only[JF]at e
    simp_all
theorem Inv.tuple (I:Inv X pins σ H s)(h:SqT X.K H a xs):∃ its:List Jo,Vals xs its/\IsTup s.heap a its.toArray/\xs.length<=sizeLine:=by
  rcases h with h|⟨o,its,n,c,d,b,f,r⟩
  · obtain⟨z,its,r,p⟩:=h.ok I.hok
    exact⟨its,r,p.tup,z⟩
  · refine⟨its.toList,r,⟨o,I.kIn a o c,d,n,by simpa using b⟩,?_⟩
    have e:=r.length;simp only[JF]at e
    simp_all
theorem Inv.list_inj (I:Inv X pins σ H s)(h:SqL X.K H a xs)(h':SqL X.K H a ys):xs=ys:=by
  obtain⟨c,r,⟨o,n,e,_,_,d⟩,_⟩:=I.list h;obtain⟨b,i,⟨k,l,f,_,_,g⟩,_⟩:=I.list h';rw[e]at f;cases f;rw[d]at g;injection g with j _;have:c=b:=by simpa using JP Array.toList j
  subst this;exact r.inj i
theorem Inv.tuple_inj (I:Inv X pins σ H s)(h:SqT X.K H a xs)(h':SqT X.K H a ys):xs=ys:=by
  obtain⟨c,r,⟨o,e,_,n,d⟩,_⟩:=I.tuple h;obtain⟨b,i,⟨k,f,_,l,g⟩,_⟩:=I.tuple h';rw[e]at f;cases f;rw[d]at g;injection g with j _;have:c=b:=by simpa using JP Array.toList j
  subst this;exact r.inj i
end
abbrev Cx.wish (X:Cx)(E:Jo->JO->Prop):Cx:={ X with xe:=E }
abbrev Cx.nox (X:Cx):Cx:=X.wish λ_ _=>False
theorem Cx.Ok.wish {X:Cx}(ok:X.Ok)(E:Jo->JO->Prop):(X.wish E).Ok :=
  ⟨ok.mod,ok.kind,ok.glob,ok.blt,ok.above,ok.inj,ok.has,ok.cab,ok.hd,ok.frames,ok.stk,ok.exf,ok.bs,ok.bsz,ok.noex,ok.exfs,ok.funs,ok.frf⟩
theorem Cx.Ok.unwish {X:Cx}{E:Jo->JO->Prop}(ok:(X.wish E).Ok):X.Ok :=
  ⟨ok.mod,ok.kind,ok.glob,ok.blt,ok.above,ok.inj,ok.has,ok.cab,ok.hd,ok.frames,ok.stk,ok.exf,ok.bs,ok.bsz,ok.noex,ok.exfs,ok.funs,ok.frf⟩
section
variable {X:Cx}{pins:List (JI × Obj)}{σ:St}{H:Hp}{s:JO}{E:Jo->JO->Prop}
theorem Inv.wish (I:Inv X pins σ H s)(E:Jo->JO->Prop):Inv (X.wish E) pins σ H s:=⟨I.ok.wish E,I.os,I.bare,I.base,I.loc,I.cell,I.free,I.freeC,I.pin,I.hok,I.len⟩
theorem Inv.unwish (I:Inv (X.wish E) pins σ H s):Inv X pins σ H s:=⟨I.ok.unwish,I.os,I.bare,I.base,I.loc,I.cell,I.free,I.freeC,I.pin,I.hok,I.len⟩
theorem SP.unwish {D:Ends}{f:Flow}{s':JO}(h:SP (X.wish E) pins D f s'):SP X pins D f s':=by
  cases f with
  | next=>obtain⟨a,b,I,q⟩:=h;exact⟨a,b,I.unwish,q⟩
  | brk=>obtain⟨a,b,I,q⟩:=h;exact⟨a,b,I.unwish,q⟩
  | cont=>obtain⟨a,b,I,q⟩:=h;exact⟨a,b,I.unwish,q⟩
  | ret u=>obtain⟨v,a,b,I,r,q⟩:=h;exact⟨v,a,b,I.unwish,r,q⟩
theorem PSs.nox {st:List Stmt}{t:TS}(h:PSs X.nox st t):PSs X st t:=λpins s σ H D I a =>
  JK (h pins s σ H D (I.wish _) a) (λ_ _ q=>q.unwish) λ_ _ z=>False.elim z
end
section
variable {X:Cx}{st:Stmt}{rest:List Stmt}{t u:TS}{e:Expr}{te:TE}{pos:Pos}
def eC:TS:=λD σ H=>D.nx σ H
def we (t u:TS):TS:=λD σ H=>t { D with nx:=u D } σ H
theorem yA:PSs X [] eC:=λ_ _ σ H _ I h=>Wa ⟨σ,H,I,h⟩
theorem zE (h1:PS X st t)(c:PSs X rest u):PSs X (st::rest) (we t u):=by
  intro pins s σ H D I h;refine wpAny_execs_cons (thn (h1 pins s σ H { D with nx:=u D } I h) λf b q=>?_)
  cases f with
  | next =>
    obtain⟨a,e,d,q⟩:=q
    exact c pins b a e D d q
  | ret v=>exact q
  | brk=>exact q
  | cont=>exact q
theorem zM (h1:PS X st t):PSs X [st] t:=by
  intro pins s σ H D I h;refine wpAny_execs_cons (thn (h1 pins s σ H D I h) λf a q=>?_)
  cases f with
  | next=>exact Wa q
  | ret v=>exact q
  | brk=>exact q
  | cont=>exact q
def zb5:TS:=λD σ H=>D.ct σ H
theorem nJ:PS X (.Continue pos) zb5:=λ_ _ σ H _ I h=>wpAny_Continue ⟨σ,H,I,h⟩
theorem Inv.quiet {pins:List (JI × Obj)}{σ:St}{H:Hp}{s:JO}(I:Inv X pins σ H s):interactive X.env=false:=by simp[interactive,I.ok.kind]
def zb4 (te:TE):TS:=λD σ H=>te σ H λ_ a=>D.nx σ a
theorem y4 (b:PE X e te)(hs:swapsWith e none pos.line X.env=pure false:=by rfl):PS X (.Expr e pos) (zb4 te):=by
  intro pins s σ H D I h;exact wpAny_Expr_any (thn (b pins s σ H _ I h) λv f ⟨x,d,c,g,a⟩=>⟨σ,d,c,a⟩) I.quiet hs
def zcC (te:TE):TS:=λD σ H=>te σ H D.rt
theorem zV (c:PE X e te):PS X (.Return (some e) pos) (zcC te):=by
  intro pins s σ H D I h;exact wpAny_Return_some (thn (c pins s σ H _ I h) λv g ⟨x,f,d,a,b⟩=>⟨x,σ,f,d,a,b⟩)
def zaQ (c:TT)(t u:TS):TS:=λD σ H=>c σ H λb a=>if b=true then t D σ a else u D σ a
theorem yb {c:Expr}{a b:List Stmt}{e:TT}(k:PT X c e)(ha:PSs X a t)(hb:PSs X b u):PS X (.If c a b pos) (zaQ e t u):=by
  intro pins s σ H D I h;refine wpAny_If (thn (k pins s σ H _ I h) λd f ⟨j,i,g⟩=>?_)
  cases d with
  | true=>exact ha pins f σ j D i g
  | false=>exact hb pins f σ j D i g
end
abbrev TG:=V->St->Hp->(St->Hp->Prop)->Prop
abbrev TGs:=List V->St->Hp->(St->Hp->Prop)->Prop
def PG (X:Cx)(target:Expr)(t:TG):Prop :=
  ∀ (pins:List (JI × Obj)) (s:JO) (σ:St) (H:Hp) (v:V) (u:Jo) (Q:St->Hp->Prop),Inv X pins σ H s->RelV v u->t v σ H Q ->
    wpAny (model X.prog X.w) X.A (assign target X.env u) (λ_ c=>∃ a b,Inv X pins a b c/\Q a b) X.xe s
def PGs (X:Cx)(ts:List Expr)(t:TGs):Prop :=
  ∀ (pins:List (JI × Obj)) (s:JO) (σ:St) (H:Hp) (b:List V) (c:List Jo) (Q:St->Hp->Prop),Inv X pins σ H s->Vals b c->t b σ H Q ->
    wpAny (model X.prog X.w) X.A (assignInOrder ((assignEach ts X.env).map (·.2)) c) (λ_ e=>∃ a d,Inv X pins a d e/\Q a d) X.xe s
abbrev TSet:=V->V->V->Hp->(Hp->Prop)->Prop
def PSet (X:Cx)(t:TSet):Prop :=
  ∀ (pins:List (JI × Obj)) (s:JO) (σ:St) (H:Hp) (o i v:V) (a b u:Jo) (Q:Hp->Prop),Inv X pins σ H s->RelV o a->RelV i b->RelV v u->t o i v H Q ->
    wpAny (model X.prog X.w) X.A (setItem a b u) (λ_ d=>∃ c,Inv X pins σ c d/\Q c) X.xe s
abbrev TIp:=V->V->Hp->VK->Prop
def PIp (X:Cx)(op:Operator)(t:TIp):Prop :=
  ∀ (pins:List (JI × Obj)) (s:JO) (σ:St) (H:Hp) (x y:V) (v u:Jo) (Q:VK),Inv X pins σ H s->RelV x v->RelV y u->t x y H Q ->
    wpAny (model X.prog X.w) X.A (inplaceOp op v u) (EP X pins σ Q) X.xe s
section
variable {X:Cx}{pos:Pos}
def xT (i:Nat):TG:=λv σ H Q=>Q (σ.set i (some v)) H
theorem zN {i:Nat}{x:Str}(c:X.N.Nodup)(hi:X.N[i]?=some x)(a:Loc X.env.scope x)(b:X.fn x=true\/X.env.scope.names.lookup x=some .local:=by first|exact .inl rfl|exact .inr rfl|assumption):PG X (.Name x pos) (xT i):=by
  intro pins s σ H v u Q I r h;exact wpAny_assign_Name (xD I c hi a r (λe d=>⟨_,H,d,h⟩) b)
def bQ:TGs:=λa σ H Q=>a=[]/\Q σ H
def uO (t:TG)(u:TGs):TGs:=λb σ H Q=>∃ v r,b=v::r/\t v σ H λa c=>u r a c Q
theorem zw:PGs X [] bQ:=by
  intro pins s σ H a b Q I r h;obtain⟨e,h⟩:=h;subst e;cases r;exact assignInOrder_nil ⟨σ,H,I,h⟩
theorem zP {e:Expr}{a:List Expr}{t:TG}{u:TGs}(h1:PG X e t)(g:PGs X a u)(hs:(assignEach (e::a) X.env).map (·.2)=assign e X.env::(assignEach a X.env).map (·.2):=by rfl):PGs X (e::a) (uO t u):=by
  intro pins s σ H l n Q I r h;obtain⟨v,m,i,h⟩:=h;subst i
  cases r with
  | cons r d =>
    rw[hs];refine ZP (thn (h1 pins s σ H _ _ _ I r h) λ_ c ⟨b,k,j,f⟩=>?_);exact g pins c b k _ _ Q j d f
def kh (K:Jl)(n:Nat)(t:TGs):TG:=λv σ H Q=>∃ a b,v=.ref a/\SqT K H a b/\b.length=n/\t b σ H Q
theorem yK {c:List Expr}{k:Nat}{t:TGs}{n:Nat}(w:X.calm=true)(h:PGs X c t)(p:(assignEach c X.env).length=n:=by rfl)(f:(assignEach c X.env).findIdx? (·.1)=none:=by rfl):PG X (.Tuple c k pos) (kh X.K n t):=by
  intro pins s σ H v u Q I r d;obtain⟨a,i,y,m,q,d⟩:=d;subst y;cases r;obtain⟨A,g,l,B⟩:=I.tuple m;refine assign_Tuple_tuple (I.ok.hd w) l (by simp[p,<- q,g.length]) f λx j=>?_;have z:Inv X pins σ H { s with heap:=x }:=I.kept (t':=s.toks) λb o e=>j b o (JA (Jn e)) e;exact h pins _ σ H i _ Q z (by simpa using g) d
def zc7 (to a:TE)(t:TSet):TG:=λv σ H Q=>to σ H λo d=>a σ d λi c=>t o i v c λb=>Q σ b
theorem xL {o i:Expr}{to c:TE}{t:TSet}(m:PE X o to)(hi:PE X i c)(hs:PSet X t)(ha:∀ v,assign (.Subscript o i pos) X.env v=(do
      let a <- holding [v] (eval o X.env)
      let b <- holding [v,a] (eval i X.env)
      standAt pos
      holding [v,a,b] (setItem a b v)
      release [v,a,b] []):=by intro _;rfl):PG X (.Subscript o i pos) (zc7 to c t):=by
  intro pins s σ H v u Q I r h;rw[ha];refine J0 (Yd (thn (m pins s σ H _ I h) λa e ⟨x,A,q,g,l⟩=>?_));refine J0 (Yd (thn (hi pins e σ A _ q l) λb d ⟨y,z,p,f,k⟩=>?_));refine J0 (YL (J0 (Yd (thn (hs pins d σ z x y v a b u _ p g f r k) λ_ B ⟨w,n,j⟩=>?_))));exact wpAny_release ⟨σ,w,n,j⟩
def aH (a:TE)(g:TG):TS:=λD σ H=>a σ H λx b=>g x σ b D.nx
theorem yJ {tg e:Expr}{a:TE}{g:TG}(j:PE X e a)(i:PG X tg g)(hs:swapsWithSole [tg] e pos.line X.env=pure false:=by rfl)(f:swappedStores [tg] e X.env=pure none:=by rfl)(k:(assignEach [tg] X.env).map (·.2)=[assign tg X.env]:=by rfl):PS X (.Assign [tg] e pos) (aH a g):=by
  intro pins s σ H D I h;refine wpAny_Assign_stores (thn (j pins s σ H _ I h) λv b ⟨x,m,l,c,d⟩=>?_) hs f;rw[k];exact thn (i pins b σ m x v _ l c d) λ_ n q=>q
theorem zW {i:Nat}{x:Str}{e:Expr}{a:TE}{pos':Pos}(j:X.N.Nodup)(hi:X.N[i]?=some x)(d:Loc X.env.scope x)(g:PE X e a)(hs:swapsWith e (some (.Name x pos')) pos.line X.env=pure false:=by rfl)(f:X.fn x=true\/X.env.scope.names.lookup x=some .local:=by first|exact .inl rfl|exact .inr rfl|assumption) :
    PS X (.Assign [.Name x pos'] e pos) (aH a (xT i)):=by
  intro pins s σ H D I h;refine wpAny_Assign_Name (thn (g pins s σ H _ I h) λv o ⟨y,m,l,b,c⟩=>?_) hs;exact xD l j hi d b (λn k=>⟨_,m,k,c⟩) f
def zcD (i j:Nat)(b:TA):TS:=λD σ H=>b σ H λa c=>∃ v w,a=[v,w]/\D.nx ((σ.set i (some v)).set j (some w)) c
theorem pZ {i j:Nat}{x y:Str}{a b:Expr}{r:TA}{k py pt:Pos}{kt k2 pt2}(M:X.calm=true)(z:X.N.Nodup)(hi:X.N[i]?=some x)(L:X.N[j]?=some y)(n:i≠j)(u:X.env.scope.names.lookup x=some .local)(t:X.env.scope.names.lookup y=some .local)(ha:PA X [a,b] r)(K:swappedStores [.Tuple [.Name x k,.Name y py] kt pt] (.Tuple [a,b] k2 pt2) X.env=pure (some [x,y]))(hs:swapsWithSole [.Tuple [.Name x k,.Name y py] kt pt] (.Tuple [a,b] k2 pt2) pos.line X.env=pure false:=by rfl) :
    PS X (.Assign [.Tuple [.Name x k,.Name y py] kt pt] (.Tuple [a,b] k2 pt2) pos) (zcD i j r):=by
  intro pins s σ H D I h;rw[exec_Assign_arm];refine J0 (YL ?_);rw[hs];refine J0 (J9 ?_);rw[Jf (by decide)];refine J0 (Tuple_ (thn (ha _ pins s σ H _ I h) λC f ⟨S,B,R,F,g⟩=>?_));obtain⟨v,w,N,g⟩:=g;subst N
  obtain⟨d,c,rfl,E,l⟩:∃ d c,C=[d,c]/\RelV v d/\RelV w c:=by
    cases F with
    | cons p q =>
      cases q with
      | cons J G =>
        cases G;exact⟨_,_,rfl,p,J⟩
  refine JR ?_ (by show 2<=sizeLine;decide);have Q:Inv X pins σ B { f with heap:=f.heap.push { cls:=.type "tuple",data:=.seq [d,c].toArray } }:=R.kept (t':=f.toks) λb o e=>J8 _ e;rw[K];refine J0 (J9 ?_);show wpAny (model X.prog X.w) X.A (do rule "assign.swapped-stores";let items <- unpackItems (.ref f.heap.objs.size) 2 none;assignInOrder [λv=>bindName X.env y v,λv=>bindName X.env x v] items.reverse;pure Flow.next) _ _ _;refine J0 (Z3 (J0 (unpackItems_tuple (items:=#[d,c]) (I.ok.hd M) (IsTup.new f.heap _) λh' m=>?_)));have P:=Q.kept (h':=h') (t':=f.toks) λb o e=>m b o (JA (Jn e)) e;show wpAny _ _ (assignInOrder [λv=>bindName X.env y v,λv=>bindName X.env x v] [c,d] >>= λ_=>pure Flow.next) _ _ _;refine J0 (ZP (wpAny_bindName (xD P z L (.inl t) l (λU O=>?_) (.inr t))));refine ZP (wpAny_bindName (xD O z hi (.inl u) E (λT A=>assignInOrder_nil (J9 ?_)) (.inr u)));rw[List.set_comm _ _ (Ne.symm n)]at A;exact⟨_,B,A,g⟩
def zcJ (i:Nat)(b:TE)(a:TIp):TS:=λD σ H=>∃ x,σ[i]?=some (some x)/\b σ H λy d=>a x y d λz c=>D.nx (σ.set i (some z)) c
theorem zbe {i:Nat}{x:Str}{e:Expr}{o:TE}{op:Operator}{n:TIp}{pos':Pos}(M:X.N.Nodup)(hi:X.N[i]?=some x)(g:Loc X.env.scope x)(K:PE X e o)(C:PIp X op n)(J:X.fn x=true\/X.env.scope.names.lookup x=some .local:=by first|exact .inl rfl|exact .inr rfl|assumption) :
    PS X (.AugAssign (.Name x pos') op e pos) (zcJ i o n):=by
  intro pins s σ H D I h;obtain⟨v,N,h⟩:=h;obtain⟨m,E,G⟩:=I.loc;have j:Vis X.env.scope x:=by rcases g with k|k;exact .inl k;exact .inr (.inl k)
  obtain⟨u,r,l⟩:=G i x v hi N j;refine wpAny_AugAssign_Name ?_
  have go:wpAny (model X.prog X.w) X.A (eval e X.env) (λw f=>wpAny (model X.prog X.w) X.A (inplaceOp op u w) (λr d=>wpAny (model X.prog X.w) X.A (storeName X.env x r) (λ_=>SP X pins D .next) X.xe d) X.xe f) X.xe s:=by
    refine thn (K pins s σ H _ I h) λw p ⟨y,S,Q,t,B⟩=>?_;refine thn (C pins p σ S v y u w _ Q r t B) λz V ⟨T,R,P,q,A⟩=>?_;exact xD P M hi g q (λU O=>⟨_,R,O,A⟩) J
  rcases l with ⟨a,F⟩|⟨a,c,L,b⟩
  · exact wpAny_loadName_local I.ok.kind a E F go
  · rcases a with a|a
    · exact wpAny_loadName_cell I.ok.kind a L b go
    · rcases g with k|k
      · have:X.env.scope.names.lookup x=some .free:=a
        rw[k]at this;cases this
      · have:X.env.scope.names.lookup x=some .free:=a
        rw[k]at this;cases this
def zaM (c:TT)(g:TS):TS:=λD σ H=>∃ W:Nat->St->Hp->Prop,(∃ m,W m σ H)/\∀ m σ H,W m σ H ->
  c σ H λb e=>if b=true then ∃ N:St->Hp->Prop,(∀ a f,N a f->∃ d,d<m/\W d a f)/\g { D with nx:=N,ct:=N,bk:=D.nx } σ e else D.nx σ e
theorem nH {c:Expr}{body:List Stmt}{q:TT}{r:TS}(t:PassesOwn (model X.prog X.w) X.A X.env X.xe)(J:PT X c q)(hb:PSs X body r):PS X (.While c body [] pos) (zaM q r):=by
  intro pins s σ H D I h;obtain⟨W,⟨G,B⟩,turn⟩:=h;refine wpAny_While (codeAny_whileLoop (λn F=>∃ g z,Inv X pins g z F/\W n g z) ?_ G ⟨σ,H,I,B⟩);rintro n E ⟨d,y,K,A⟩;refine ZJ t (thn (J pins E d y _ K (turn n d y A)) λb C ⟨x,w,j⟩=>?_)
  cases b with
  | true =>
    obtain⟨N,u,j⟩:=j;rw[Jm rfl];refine ZJ t (thn (hb pins C d x _ w j) λf L i=>?_)
    cases f with
    | next =>
      obtain⟨a,e,p,l⟩:=i;obtain⟨m,o,k⟩:=u a e l
      exact⟨m,o,a,e,p,k⟩
    | cont =>
      obtain⟨a,e,p,l⟩:=i;obtain⟨m,o,k⟩:=u a e l
      exact⟨m,o,a,e,p,k⟩
    | brk=>exact i
    | ret v=>exact i
  | false =>
    rw[Jf Jj];exact Wa ⟨d,x,w,j⟩
end
structure It where
  go:Nat->Hp->Prop
  yld:Nat->Hp->V->Hp->Prop
  stop:Nat->Hp->Prop
def FpOk (X:Cx)(pins:List (JI × Obj))(H:Hp)(b:JI):Prop :=
  H b=none/\b≠X.env.locals/\b∉X.fs/\(b∈X.ex\/X.s₀.heap.objs.size<=b)/\(∀ x c,X.env.cells.lookup x=some c->c≠b)/\∀ p∈X.pn++pins,p.1≠b
theorem Inv.fpOk {X:Cx}{pins:List (JI × Obj)}{σ:St}{H H':Hp}{s:JO}{b:JI}(I:Inv X pins σ H s)(hb:s.heap.objs.size<=b)(d:H' b=none):FpOk X pins H' b:=by
  refine⟨d,Z5 (JG I.lt hb),I.nofs hb,.inr (JX I.sz hb),λx c e z=>?_,λp a z=>?_⟩
  · obtain⟨v,q⟩:=I.cell x c e
    exact absurd (JG q.lt (by rw[z];exact hb)) (YB _)
  · exact absurd (JG (Jn (I.pin p a).1) (by rw[z];exact hb)) (YB _)
structure Turn (P:Yo) (w:YI) (K:Jl) (tg:Expr) (J:It) (fp:List JI) (it:JI) (tn:Nat->YP->Prop):Prop where
  mem:it∈fp
  obj:∀ i h,tn i h->∀ b∈fp,∃ o,h.get? b=some o/\∀ v,o.data≠.cell v
  keep:∀ i h h',tn i h->(∀ b∈fp,∀ o,h.get? b=some o->h'.get? b=some o)->tn i h'
  item:∀ (X:Cx),X.prog=P->X.w=w->X.K=K->X.calm=true->∀ (i:Nat) (pins:List (JI × Obj)) (s:JO) (σ:St) (H:Hp) (E:Jo->JO->Prop),Inv X pins σ H s->(∀ b∈fp,FpOk X pins H b)->tn i s.heap->J.go i H ->
    wpAny (model P w) X.A (pyNext (.ref it)) (λr s1=>∃ u,r=some u /\
      wpAny (model P w) X.A (letOwnedTupleGo tg (.ref it) u) (λ_ s2=>∃ x H',Inv X pins σ H' s2/\RelV x u/\J.yld i H x H'/\tn (i+1) s2.heap/\∀ b∈fp,H' b=none) E s1) E s
  done:∀ (X:Cx),X.prog=P->X.w=w->X.K=K->X.calm=true->∀ (i:Nat) (pins:List (JI × Obj)) (s:JO) (σ:St) (H:Hp) (E:Jo->JO->Prop),Inv X pins σ H s->(∀ b∈fp,FpOk X pins H b)->tn i s.heap->J.stop i H ->
    wpAny (model P w) X.A (pyNext (.ref it)) (λr s1=>r=none/\Inv X pins σ H s1) E s
  self:∀ (A:YO) (i:Nat) (s:JO) (Q:Jo->JO->Prop) (E:Jo->JO->Prop),tn i s.heap->Q (.ref it) s->wpAny (model P w) A (pyIter (.ref it)) Q E s
abbrev TI:=St->Hp->(It->Hp->Prop)->Prop
def PIE (X:Cx)(pins:List (JI × Obj))(σ:St)(tg:Expr)(R:It->Hp->Prop)(c:Jo)(s2:JO):Prop :=
  ∃ (it:JI) (e:List JI) (d:Nat->YP->Prop) (J:It) (a:Hp),c=.ref it/\Inv X pins σ a s2/\Turn X.prog X.w X.K tg J e it d/\d 0 s2.heap/\(∀ b∈e,FpOk X pins a b)/\R J a
def PI (X:Cx)(tg iter:Expr)(a:TI):Prop :=
  ∀ (pins:List (JI × Obj)) (s:JO) (σ:St) (H:Hp) (R:It->Hp->Prop),Inv X pins σ H s->a σ H R ->
    wpAny (model X.prog X.w) X.A (eval iter X.env) (λv b=>wpAny (model X.prog X.w) X.A (pyIter v) (PIE X pins σ tg R) X.xe b) X.xe s
theorem bO {M:Model}{A:YO}{E:Jo->JO->Prop}{s:JO}{tg:Expr}{it:JI}{u:Jo}{o:Obj}{n:String}{vs:Array Jo}{Q:Unit->JO->Prop}(b:s.heap.get? it=some o) (d:o.cls=.type n) (hd:o.data=.fields vs)
    (c:["enumerate","zip","dict_itemiterator","dict_reverseitemiterator","odict_iterator","itertools.zip_longest","itertools.pairwise"].contains n=false) (a:Q () s):wpAny M A (letOwnedTupleGo tg (.ref it) u) Q E s:=by
  unfold letOwnedTupleGo
  cases tg<;>first
    | exact J9 a
    | (cases u<;>first
        | exact J9 a
        | (refine J0 (wpAny_load b ?_)
           rw[d,hd];show wpAny M A (if (["enumerate","zip","dict_itemiterator","dict_reverseitemiterator","odict_iterator","itertools.zip_longest","itertools.pairwise"].contains n && vs[0]? == some (rawInt _))=true then _ else _) Q E s;rw[Jf (by intro h;rw[c,Bool.false_and]at h;cases h)]
           exact J9 a))
def Itl (K:Jl)(a:JI):It :=
  ⟨λi H=>∃ b x,SqL K H a b/\b[i]?=some x,λi H x c=>c=H/\∀ b,SqL K H a b->b[i]?=some x,λi H=>∃ b,SqL K H a b/\b.length<=i⟩
def Itt (K:Jl)(a:JI):It :=
  ⟨λi H=>∃ b x,SqT K H a b/\b[i]?=some x,λi H x c=>c=H/\∀ b,SqT K H a b->b[i]?=some x,λi H=>∃ b,SqT K H a b/\b.length<=i⟩
def Itr (lo:Int)(n:Nat):It:=⟨λi _=>i<n,λi H x a=>a=H/\x=.int (lo+i),λi _=>n<=i⟩
theorem iH {P:Yo}{w:YI}{K:Jl}{tg:Expr}(a it:JI):Turn P w K tg (Itl K a) [it] it (λi h=>h.IsListIter it a i) where
  mem:=by simp
  obj:=λi h st b f=>by
    have e:b=it:=by simpa using f
    subst e;obtain⟨o,e,c,d⟩:=st;exact⟨o,e,λv z=>by rw[d]at z;cases z⟩
  keep:=λi h m st k=>st.at λo e=>k it (by simp) o e
  item:=by
    intro X y r A L i pins s σ H E I l st t;subst y r A;obtain⟨M,x,j,q⟩:=t;obtain⟨J,n,p,Q⟩:=I.list j;obtain⟨u,S,O⟩:=n.get q;obtain⟨G,F,T,D,C,B⟩:=l it (by simp);refine wpAny_pyNext_list_item st p.isList (x:=u) (by simpa using S) λm g N=>?_;have V:Inv X pins σ H { s with heap:=m }:=I.turned (t':=s.toks) (λb o f e=>(N.2 b f).trans e) G F D C B;obtain⟨o,e,c,d⟩:=id g;exact⟨u,rfl,bO (s:={ s with heap:=m }) e c d (by decide) ⟨x,H,V,O,⟨rfl,λW R=>by rw[I.list_inj R j];exact q⟩,g,λb f=>(l b f).1⟩⟩
  done:=by
    intro X y r A L i pins s σ H E I l st t;subst y r A;obtain⟨M,j,q⟩:=t;obtain⟨J,n,p,Q⟩:=I.list j;obtain⟨G,F,T,D,C,B⟩:=l it (by simp);have Y:=n.length;exact wpAny_pyNext_list_end (I.ok.hd L) st p.isList (by simp;simp_all) λm U=>⟨rfl,I.turned (t':=s.toks) (λb o f e=>U b o f e) G F D C B⟩
  self:=λ_ _ _ _ _ st h=>wpAny_pyIter_listiter st h
theorem mh {P:Yo}{w:YI}{K:Jl}{tg:Expr}(a it:JI):Turn P w K tg (Itt K a) [it] it (λi h=>h.IsTupleIter it a i) where
  mem:=by simp
  obj:=λi h st b f=>by
    have e:b=it:=by simpa using f
    subst e;obtain⟨o,e,c,d⟩:=st;exact⟨o,e,λv z=>by rw[d]at z;cases z⟩
  keep:=λi h n st k=>st.at λo e=>k it (by simp) o e
  item:=by
    intro X A t B L i pins s σ H E I m st y;subst A t B;obtain⟨M,x,l,r⟩:=y;obtain⟨g,q,p,Q⟩:=I.tuple l;obtain⟨u,S,O⟩:=q.get r;obtain⟨J,G,T,F,D,C⟩:=m it (by simp);refine wpAny_pyNext_tuple_item st (show s.heap.IsTuple a g.toArray from p) (x:=u) (by simpa using S) λn j N=>?_;have V:Inv X pins σ H { s with heap:=n }:=I.turned (t':=s.toks) (λb o f e=>(N.2 b f).trans e) J G F D C;obtain⟨o,e,c,d⟩:=id j;exact⟨u,rfl,bO (s:={ s with heap:=n }) e c d (by decide) ⟨x,H,V,O,⟨rfl,λW R=>by rw[I.tuple_inj R l];exact r⟩,j,λb f=>(m b f).1⟩⟩
  done:=by
    intro X A t B L i pins s σ H E I m st y;subst A t B;obtain⟨M,l,r⟩:=y;obtain⟨g,q,p,Q⟩:=I.tuple l;obtain⟨J,G,T,F,D,C⟩:=m it (by simp);have Y:=q.length;exact wpAny_pyNext_tuple_end (I.ok.hd L) st (show s.heap.IsTuple a g.toArray from p) (by simp;simp_all) λn U=>⟨rfl,I.turned (t':=s.toks) (λb o f e=>U b o f e) J G F D C⟩
  self:=λ_ _ _ _ _ st h=>wpAny_pyIter_tupleiter st h
theorem mi {P:Yo}{w:YI}{K:Jl}{tg:Expr}(it:JI)(lo:Int)(n:Nat):Turn P w K tg (Itr lo n) [it] it (λi h=>IsRangeIter h it (lo+(i:Nat)*1) ((n:Int)-(i:Nat)) 1) where
  mem:=by simp
  obj:=λi h st b a=>by
    have e:b=it:=by simpa using a
    subst e
    exact⟨_,st,λv z=>by
      have B:Data.fields _=Data.cell v:=z
      cases B⟩
  keep:=λi h f st k=>k it (by simp) _ st
  item:=by
    intro X m g p l i pins s σ H E I d st j;subst m g p;obtain⟨y,x,F,u,r,q⟩:=d it (by simp);have W:=Walks.range (prog:=X.prog) (w:=X.w) (I.ok.hd l) it lo 1 n;refine W.item i s _ _ j st λv f A D c C=>?_;obtain⟨t,rfl⟩:=D;have J:Inv X pins σ H { s with heap:=f,toks:=A }:=I.turned (λb o a e=>C b o (by simpa using a) e) y x u r q;refine⟨_,rfl,bO (s:={ s with heap:=f,toks:=A }) (n:="range_iterator") c rfl rfl (by decide) ⟨.int (lo+i),H,J,⟨t,?_⟩,⟨rfl,rfl⟩,c,λb a=>(d b a).1⟩⟩;rw[Int.mul_one]
  done:=by
    intro X m g p l i pins s σ H E I d st j;subst m g p;obtain⟨y,x,F,u,r,q⟩:=d it (by simp);exact wpAny_pyNext_range_end (I.ok.hd l) st (by have:n<=i:=j;lia) λf G=>⟨rfl,I.turned (t':=s.toks) (λb o a e=>G b o a e) y x u r q⟩
  self:=λ_ _ _ _ _ st h=>wpAny_pyIter_rangeiter st h
section
variable {X:Cx}{tg:Expr}
def zcr (K:Jl)(tl:TE):TI:=λσ H R=>tl σ H λx b=>∃ a,x=.ref a/\(∃ c,SqL K b a c)/\R (Itl K a) b
def zc4 (K:Jl)(tl:TE):TI:=λσ H R=>tl σ H λx b=>∃ a,x=.ref a/\(∃ c,SqT K b a c)/\R (Itt K a) b
theorem pf {l:Expr}{tl:TE}(j:PE X l tl):PI X tg l (zcr X.K tl):=by
  intro pins s σ H R I h;refine thn (j pins s σ H _ I h) λv c ⟨x,m,d,f,g⟩=>?_;obtain⟨a,e,⟨r,i⟩,q⟩:=g;subst e;cases f;obtain⟨n,t,p,u⟩:=d.list i;refine wpAny_pyIter_list p.isList ?_;refine⟨c.heap.objs.size,[c.heap.objs.size],_,_,m,rfl,d.kept (t':=c.toks) λb o e=>J8 _ e,iH a _,⟨_,Jq _ rfl,rfl,rfl⟩,λb k=>?_,q⟩;have e:b=c.heap.objs.size:=by simpa using k
  subst e;exact d.fpOk (Jg _) (d.hok.fresh (Jg _))
theorem wY {l:Expr}{tl:TE}(k:PE X l tl):PI X tg l (zc4 X.K tl):=by
  intro pins s σ H R I h;refine thn (k pins s σ H _ I h) λv c ⟨x,n,d,g,i⟩=>?_;obtain⟨a,e,⟨r,j⟩,q⟩:=i;subst e;cases g;obtain⟨f,t,p,u⟩:=d.tuple j;refine wpAny_pyIter_tuple (show c.heap.IsTuple a f.toArray from p) ?_;refine⟨c.heap.objs.size,[c.heap.objs.size],_,_,n,rfl,d.kept (t':=c.toks) λb o e=>J8 _ e,mh a _,⟨_,Jq _ rfl,rfl,rfl⟩,λb m=>?_,q⟩;have e:b=c.heap.objs.size:=by simpa using m
  subst e;exact d.fpOk (Jg _) (d.hok.fresh (Jg _))
theorem nF {pins:List (JI × Obj)}{σ:St}{H:Hp}{s:JO}{R:It->Hp->Prop}{E:Jo->JO->Prop}{lo hi:Int}{t u v:Tok}{tk:Nat}(I:Inv X pins σ H s)(h1:-(2 ^ 62)<=lo)(g:lo<2 ^ 62)(f:-(2 ^ 62)<=hi)(d:hi<2 ^ 62)(q:R (Itr lo (hi-lo).toNat) H):wpAny (model X.prog X.w) X.A (pyIter (.ref s.heap.objs.size)) (PIE X pins σ tg R) E { s with heap:=s.heap.push { cls:=.type "range",data:=.fields #[.int lo t,.int hi u,.int 1 v] },toks:=tk }:=by
  refine wpAny_pyIter_range (IsRange.new ..) (small_one h1 g f d) ?_;have a:Inv X pins σ H { s with heap:=s.heap.push { cls:=.type "range",data:=.fields #[.int lo t,.int hi u,.int 1 v] },toks:=tk }:=I.kept λb o e=>J8 _ e
  refine⟨(s.heap.push { cls:=.type "range",data:=.fields #[.int lo t,.int hi u,.int 1 v] }).objs.size,[(s.heap.push { cls:=.type "range",data:=.fields #[.int lo t,.int hi u,.int 1 v] }).objs.size],_,_,H,rfl,
    a.kept (t':=tk) λb o e=>J8 _ e,mi _ lo (hi-lo).toNat,?_,λb c=>?_,q⟩
  · have h:lo+((0:Nat):Int)*1=lo:=by simp
    have e2:(((hi-lo).toNat:Nat):Int)-((0:Nat):Int)=Builtin.Range.rangeSize lo hi 1:=by rw[rangeSize_one];split<;>grind
    show IsRangeIter _ _ (lo+((0:Nat):Int)*1) ((((hi-lo).toNat:Nat):Int)-((0:Nat):Int)) 1;rw[h,e2];exact Jq _ rfl
  · have e:b=(s.heap.push { cls:=.type "range",data:=.fields #[.int lo t,.int hi u,.int 1 v] }).objs.size:=by simpa using c
    subst e;exact a.fpOk (Jg _) (a.hok.fresh (Jg _))
def zcq (b:TA):TI:=λσ H R=>b σ H λa c=>∃ j:Int,a=[.int j]/\-(2 ^ 62)<=j/\j<2 ^ 62/\R (Itr 0 j.toNat) c
def zcp (b:TA):TI:=λσ H R=>b σ H λa c=>∃ i j:Int,a=[.int i,.int j]/\(-(2 ^ 62)<=i/\i<2 ^ 62/\-(2 ^ 62)<=j/\j<2 ^ 62)/\R (Itr i (j-i).toNat) c
theorem yZ {a:Expr}{c:TA}{p pos:Pos}(k:Gl X "range") (i:X.mg "range" = none) (ha:PA X [a] c) (hs:starEach [a] X.env=[(false,eval a X.env)]:=by rfl):PI X tg (.Call (.Name "range" p) [a] [] pos) (zcq c):=by
  intro pins s σ H R I h;refine Call_ (xw I k i boot_range (Yi (thn (ha pos pins s σ H _ I h) λn o ⟨m,u,l,f,b⟩=>?_) hs rfl));obtain⟨j,e,b,g,q⟩:=b;subst e
  cases f with
  | cons r d =>
    cases d;obtain⟨t,rfl⟩:=r;exact call_range_1 (nF l (by simp_all) (by simp_all) b g (by simpa using q))
theorem ic {a b:Expr}{g:TA}{p pos:Pos}(v:Gl X "range") (u:X.mg "range" = none) (ha:PA X [a,b] g) (hs:starEach [a,b] X.env=[(false,eval a X.env),(false,eval b X.env)]:=by rfl) (c:starEach [b] X.env=[(false,eval b X.env)]:=by rfl) :
    PI X tg (.Call (.Name "range" p) [a,b] [] pos) (zcp g):=by
  intro pins s σ H R I h;refine Call_ (xw I v u boot_range (Yi (thn (ha pos pins s σ H _ I h) λy A ⟨x,B,w,k,f⟩=>?_) (by rw[hs,c]) (by rw[c];rfl)));obtain⟨i,j,e,⟨f,o,n,m⟩,q⟩:=f;subst e
  cases k with
  | cons r d =>
    cases d with
    | cons l d =>
      cases d;obtain⟨t,rfl⟩:=r;obtain⟨z,rfl⟩:=l;exact call_range_2 (nF w f o n m q)
def zcH (e:TI)(g:TG)(f:TS):TS:=λD σ H=>e σ H λJ j=>∃ W:Nat->Nat->St->Hp->Prop,(∃ m,W 0 m σ j)/\∀ i m σ H,W i m σ H ->
  (J.stop i H/\D.nx σ H)\/(J.go i H/\∃ N:St->Hp->Prop,(∀ b a,N b a->∃ d,d<m/\W (i+1) d b a)/\∀ x a,J.yld i H x a->g x σ a λc h=>f { D with nx:=N,ct:=N,bk:=D.nx } c h)
def wp (fp:List JI)(h:YP):List (JI × Obj):=fp.filterMap λb=>(h.get? b).map λo=>(b,o)
theorem yt {fp:List JI}{h:YP}{b:JI}{o:Obj}(hb:b∈fp)(e:h.get? b=some o):(b,o)∈wp fp h:=List.mem_filterMap.mpr ⟨b,hb,by rw[e];rfl⟩
theorem i8 {fp:List JI}{h:YP}{p:JI × Obj}(a:p∈wp fp h):p.1∈fp/\h.get? p.1=some p.2:=by
  obtain⟨b,c,e⟩:=List.mem_filterMap.mp a
  cases q:h.get? b with
  | none=>rw[q]at e;cases e
  | some o =>
    rw[q]at e;have d:(b,o)=p:=Jp e;subst d;exact⟨c,q⟩
theorem Inv.pinned {pins:List (JI × Obj)}{σ:St}{H:Hp}{s:JO}{fp:List JI}(I:Inv X pins σ H s)(h:∀ b∈fp,FpOk X pins H b)(g:∀ b∈fp,∃ o,s.heap.get? b=some o/\∀ v,o.data≠.cell v):Inv X (pins++wp fp s.heap) σ H s :=
  I.pins_of λp f=>(Jv.mp f).elim (λz=>I.pin p (Jz _ z)) λz=>by
    obtain⟨a,e⟩:=i8 z;obtain⟨k,j,i,_⟩:=h p.1 a;obtain⟨o,c,d⟩:=g p.1 a;rw[e]at c;cases c;exact⟨e,k,j,i,d⟩
theorem Inv.unpinned {pins a:List (JI × Obj)}{σ:St}{H:Hp}{s:JO}(I:Inv X (pins++a) σ H s):Inv X pins σ H s:=I.pins_of λp b=>I.pin p (Jz _ (Yc _ b))
theorem yj {iter:Expr}{body:List Stmt}{P:TI}{g:TG}{R:TS}{pos:Pos}(z:PassesOwn (model X.prog X.w) X.A X.env X.xe)(Y:X.calm=true)(hi:PI X tg iter P)(hg:PG X tg g)(hb:PSs X body R)(hs:∀ x,foldedSetIterable iter X.env x=pure x:=by intro _;rfl):PS X (.For tg iter body [] pos) (zcH P g R):=by
  intro pins s σ H D I h;refine wpAny_For (thn (hi pins s σ H _ I h) λv s1 h1=>thn h1 λaa s2 h2=>?_) hs;obtain⟨it,A,Q,J,H2,e,I2,T,L,Z,W,⟨m0,w0⟩,turn⟩:=h2;subst e;have p:∀ {q:Hp},(∀ b∈A,q b=none)->∀ b∈A,FpOk X pins q b:=λhn b hb=>⟨hn b hb,(Z b hb).2⟩;refine codeAny_forLoop_any (λn V=>∃ i l q,Inv X pins l q V/\Q i V.heap/\(∀ b∈A,q b=none)/\W i n l q) ?_ m0 ⟨0,σ,H2,I2,L,λb hb=>(Z b hb).1,w0⟩;rintro n U ⟨i,k,E,I3,B,C,w3⟩;rcases turn i n k E w3 with ⟨stop,qn⟩|⟨go,N,hN,step⟩
  · refine ZJ z (thn (T.done X rfl rfl rfl Y i pins U k E X.xe I3 (p C) B stop) λr s4 ⟨G,I4⟩=>?_)
    subst G;exact Wa ⟨k,E,I4,qn⟩
  · refine ZJ z (thn (T.item X rfl rfl rfl Y i pins U k E X.xe I3 (p C) B go) λr s4 ⟨u,G,h4⟩=>?_)
    subst G;refine ZJ z (thn h4 λ_ S ⟨x,H5,I5,r5,y5,w,M⟩=>?_);have O:=I5.pinned (p M) (T.obj _ _ w);refine ZJ z (thn (hg _ S k H5 x u _ O r5 (step x H5 y5)) λ_ s6 ⟨K,H6,I6,q6⟩=>?_);refine ZJ z (thn (hb _ s6 K H6 _ I6 q6) λf F t=>?_)
    have again:∀ {a:St}{j:Hp},Inv X (pins++wp A S.heap) a j F->N a j->∃ m,m<n/\∃ i l q,Inv X pins l q F/\Q i F.heap/\(∀ b∈A,q b=none)/\W i m l q:=λ{a j} c y=>by
      obtain⟨m',hm,w7⟩:=hN a j y;refine⟨m',hm,i+1,a,j,c.unpinned,T.keep _ _ _ w λb hb o e=>(c.pin (b,o) (Jz _ (Jz _ (yt hb e)))).1,λb hb=>?_,w7⟩;obtain⟨o,e,d⟩:=T.obj _ _ w b hb;exact(c.pin (b,o) (Jz _ (Jz _ (yt hb e)))).2.1
    cases f with
    | next=>obtain⟨a,j,c,y⟩:=t;exact again c y
    | cont=>obtain⟨a,j,c,y⟩:=t;exact again c y
    | brk=>obtain⟨a,j,c,t⟩:=t;exact⟨a,j,c.unpinned,t⟩
    | ret v=>obtain⟨x7,a,j,c,r7,t⟩:=t;exact⟨x7,a,j,c.unpinned,r7,t⟩
end
theorem bU {K:Jl}{a:JI}{xs:List V}{g:TG}{k:TS}{D:Ends}{σ:St}{H:Hp}(b:Nat->St->Hp->Prop)(t:b 0 σ H)(o:∀ i σ H,i<=xs.length->b i σ H->SqL K H a xs)(hs:∀ i x σ H,xs[i]?=some x->b i σ H->g x σ H λd j=>k { D with nx:=b (i+1),ct:=b (i+1),bk:=D.nx } d j)(s:∀ σ H,b xs.length σ H->D.nx σ H) :
    ∃ W:Nat->Nat->St->Hp->Prop,(∃ m,W 0 m σ H)/\∀ i m σ H,W i m σ H ->
      ((Itl K a).stop i H/\D.nx σ H)\/((Itl K a).go i H/\∃ N:St->Hp->Prop,(∀ f c,N f c->∃ l,l<m/\W (i+1) l f c)/\∀ x c,(Itl K a).yld i H x c->g x σ c λd j=>k { D with nx:=N,ct:=N,bk:=D.nx } d j):=by
  refine⟨λi m σ H=>m=xs.length-i/\i<=xs.length/\b i σ H,⟨xs.length,by simp,JL _,t⟩,?_⟩;rintro i m σ H ⟨rfl,r,p⟩;have q:=o i σ H r p;by_cases h:i<xs.length
  · refine .inr ⟨⟨xs,xs[i],q,by simp[h]⟩,b (i+1),λf c n=>⟨xs.length-(i+1),by omega,rfl,h,n⟩,λx c y=>?_⟩
    obtain⟨e,y⟩:=y;subst e;exact hs i x σ _ (y xs q) p
  · have e:i=xs.length:=by lia
    subst e;exact .inl ⟨⟨xs,q,Jg _⟩,s σ H p⟩
theorem uP {K:Jl}{a:JI}{xs:List V}{g:TG}{k:TS}{D:Ends}{σ:St}{H:Hp}(b:Nat->St->Hp->Prop)(t:b 0 σ H)(o:∀ i σ H,i<=xs.length->b i σ H->SqT K H a xs)(hs:∀ i x σ H,xs[i]?=some x->b i σ H->g x σ H λd j=>k { D with nx:=b (i+1),ct:=b (i+1),bk:=D.nx } d j)(s:∀ σ H,b xs.length σ H->D.nx σ H) :
    ∃ W:Nat->Nat->St->Hp->Prop,(∃ m,W 0 m σ H)/\∀ i m σ H,W i m σ H ->
      ((Itt K a).stop i H/\D.nx σ H)\/((Itt K a).go i H/\∃ N:St->Hp->Prop,(∀ f c,N f c->∃ l,l<m/\W (i+1) l f c)/\∀ x c,(Itt K a).yld i H x c->g x σ c λd j=>k { D with nx:=N,ct:=N,bk:=D.nx } d j):=by
  refine⟨λi m σ H=>m=xs.length-i/\i<=xs.length/\b i σ H,⟨xs.length,by simp,JL _,t⟩,?_⟩;rintro i m σ H ⟨rfl,r,p⟩;have q:=o i σ H r p;by_cases h:i<xs.length
  · refine .inr ⟨⟨xs,xs[i],q,by simp[h]⟩,b (i+1),λf c n=>⟨xs.length-(i+1),by grind,rfl,h,n⟩,λx c y=>?_⟩
    obtain⟨e,y⟩:=y;subst e;exact hs i x σ _ (y xs q) p
  · have e:i=xs.length:=by grind
    subst e;exact .inl ⟨⟨xs,q,Jg _⟩,s σ H p⟩
theorem yz {lo:Int}{n:Nat}{g:TG}{j:TS}{D:Ends}{σ:St}{H:Hp}(a:Nat->St->Hp->Prop)(q:a 0 σ H)(hs:∀ i σ H,i<n->a i σ H->g (.int (lo+i)) σ H λc h=>j { D with nx:=a (i+1),ct:=a (i+1),bk:=D.nx } c h)(o:∀ σ H,a n σ H->D.nx σ H) :
    ∃ W:Nat->Nat->St->Hp->Prop,(∃ m,W 0 m σ H)/\∀ i m σ H,W i m σ H ->
      ((Itr lo n).stop i H/\D.nx σ H)\/((Itr lo n).go i H/\∃ N:St->Hp->Prop,(∀ d b,N d b->∃ k,k<m/\W (i+1) k d b)/\∀ x b,(Itr lo n).yld i H x b->g x σ b λc h=>j { D with nx:=N,ct:=N,bk:=D.nx } c h):=by
  refine⟨λi m σ H=>m=n-i/\i<=n/\a i σ H,⟨n,by simp,JL _,q⟩,?_⟩;rintro i m σ H ⟨rfl,r,p⟩;by_cases f:i<n
  · refine .inr ⟨f,a (i+1),λd b l=>⟨n-(i+1),by grind,rfl,f,l⟩,λx b y=>?_⟩
    obtain⟨e,y⟩:=y;subst e y;exact hs i σ _ f p
  · have e:i=n:=by lia
    subst e;exact .inl ⟨Jg _,o σ H p⟩
abbrev R2:=V->V->Hp->VK->Prop
def OpR (X:Cx)(f:Jo->Jo->Sem Jo)(r:R2):Prop :=
  ∀ (pins:List (JI × Obj)) (s:JO) (σ:St) (H:Hp) (x y:V) (v u:Jo) (Q:VK),Inv X pins σ H s->RelV x v->RelV y u->r x y H Q ->
    wpAny (model X.prog X.w) X.A (f v u) (EP X pins σ Q) X.xe s
def UnR (X:Cx)(f:Jo->Sem Jo)(r:V->Hp->VK->Prop):Prop :=
  ∀ (pins:List (JI × Obj)) (s:JO) (σ:St) (H:Hp) (x:V) (v:Jo) (Q:VK),Inv X pins σ H s->RelV x v->r x H Q ->
    wpAny (model X.prog X.w) X.A (f v) (EP X pins σ Q) X.xe s
def CallR (X:Cx)(f:Jo)(r:List V->Hp->VK->Prop):Prop :=
  ∀ (pins:List (JI × Obj)) (s:JO) (σ:St) (H:Hp) (a:List V) (b:List Jo) (Q:VK),Inv X pins σ H s->Vals a b->r a H Q ->
    wpAny (model X.prog X.w) X.A (call f b) (EP X pins σ Q) X.xe s
def TruR (X:Cx)(r:V->Hp->(Bool->Hp->Prop)->Prop):Prop :=
  ∀ (pins:List (JI × Obj)) (s:JO) (σ:St) (H:Hp) (x:V) (v:Jo) (Q:Bool->Hp->Prop),Inv X pins σ H s->RelV x v->r x H Q ->
    wpAny (model X.prog X.w) X.A (truthy v) (TP X pins σ Q) X.xe s
def tOp (r:R2)(b a:TE):TE:=λσ H Q=>b σ H λx d=>a σ d λy c=>r x y c Q
def tUn (r:V->Hp->VK->Prop)(a:TE):TE:=λσ H Q=>a σ H λx b=>r x b Q
def rI (C:Int->Int->Prop)(g:Int->Int->V):R2:=λx y H Q=>∃ i j,x=.int i/\y=.int j/\C i j/\Q (g i j) H
def rI0 (g:Int->Int->V):R2:=λx y H Q=>∃ i j,x=.int i/\y=.int j/\Q (g i j) H
def rU (g:Int->V):V->Hp->VK->Prop:=λx H Q=>∃ i,x=.int i/\Q (g i) H
section
variable {X:Cx}{a b:Expr}{ta tb:TE}{pos:Pos}
theorem zbP (ha:PE X a ta)(hb:PE X b tb){pins:List (JI × Obj)}{s:JO}{σ:St}{H:Hp}{R:V->V->Hp->Prop}(I:Inv X pins σ H s)(h:ta σ H λx g=>tb σ g λy c=>R x y c){Q:Jo->JO->Prop}{f:Jo->Jo->Sem Jo}(n:∀ v u s2 x y c,Inv X pins σ c s2->RelV x v->RelV y u->R x y c->wpAny (model X.prog X.w) X.A (f v u) Q X.xe s2) :
    wpAny (model X.prog X.w) X.A (eval a X.env) (λv e=>wpAny (model X.prog X.w) X.A (eval b X.env) (λu d=>wpAny (model X.prog X.w) X.A (f v u) Q X.xe d) X.xe e) X.xe s:=by
  refine thn (ha pins s σ H _ I h) λv i ⟨x,g,p,k,m⟩=>?_;refine thn (hb pins i σ g _ p m) λu s2 ⟨y,c,o,j,l⟩=>?_;exact n v u s2 x y c o k j l
theorem zS {op:Operator}{r:R2}(f:OpR X (binaryOp op) r)(ha:PE X a ta)(hb:PE X b tb):PE X (.BinOp a op b pos) (tOp r ta tb):=by
  intro pins s σ H Q I h;exact wpAny_BinOp (zbP ha hb I h λv u c x y i g e d q=>f pins c σ i x y v u Q g e d q)
theorem zaz {op:UnaryOp}{r:V->Hp->VK->Prop}(e:UnR X (unaryOp op) r)(ha:PE X a ta):PE X (.UnaryOp op a pos) (tUn r ta):=by
  intro pins s σ H Q I h;exact UnaryOp_ (thn (ha pins s σ H _ I h) λv b ⟨x,g,f,c,d⟩=>e pins b σ g x v Q f c d)
theorem opI {f:Jo->Jo->Sem Jo}{C:Int->Int->Prop}{g:Int->Int->Int}(rule:∀ (i j:Int) (t u:Tok) (s:JO) (Q:Jo->JO->Prop) (E:Jo->JO->Prop),C i j->Q (.int (g i j) s.toks) { s with toks:=s.toks+1 }->wpAny (model X.prog X.w) X.A (f (.int i t) (.int j u)) Q E s) :
    OpR X f (rI C λi j=>.int (g i j)):=by
  intro pins s σ H x y v u Q I c b h;obtain⟨i,j,rfl,rfl,d,q⟩:=h;obtain⟨t,rfl⟩:=c;obtain⟨a,rfl⟩:=b;exact rule i j t a s _ _ d ⟨.int (g i j),H,I.tok _,⟨_,rfl⟩,q⟩
theorem zci {f:Jo->Jo->Sem Jo}{g:Int->Int->Int}(rule:∀ (i j:Int) (t u:Tok) (s:JO) (Q:Jo->JO->Prop) (E:Jo->JO->Prop),Q (.int (g i j) s.toks) { s with toks:=s.toks+1 }->wpAny (model X.prog X.w) X.A (f (.int i t) (.int j u)) Q E s) :
    OpR X f (rI0 λi j=>.int (g i j)):=by
  intro pins s σ H x y v u Q I c b h;obtain⟨i,j,rfl,rfl,q⟩:=h;obtain⟨t,rfl⟩:=c;obtain⟨a,rfl⟩:=b;exact rule i j t a s _ _ ⟨.int (g i j),H,I.tok _,⟨_,rfl⟩,q⟩
theorem zbk {f:Jo->Jo->Sem Jo}{g:Int->Int->Bool}(rule:∀ (i j:Int) (t u:Tok) (s:JO) (Q:Jo->JO->Prop) (E:Jo->JO->Prop),Q (.bool (g i j)) s->wpAny (model X.prog X.w) X.A (f (.int i t) (.int j u)) Q E s) :
    OpR X f (rI0 λi j=>.bl (g i j)):=by
  intro pins s σ H x y v u Q I c b h;obtain⟨i,j,rfl,rfl,q⟩:=h;obtain⟨t,rfl⟩:=c;obtain⟨a,rfl⟩:=b;exact rule i j t a s _ _ ⟨.bl (g i j),H,I,rfl,q⟩
def CDiv (i j:Int):Prop:=0<j/\j<1073741824
def CPow (i j:Int):Prop:=0<=j/\j<=1000000/\i.natAbs<2 ^ 64
def CMul (i j:Int):Prop:=(-(2 ^ 64)<i/\i<2 ^ 64)\/(-(2 ^ 64)<j/\j<2 ^ 64)
theorem CMul.ok {i j:Int}(h:CMul i j):IntMulOk i j:=by
  rcases h with ⟨b,a⟩|⟨b,a⟩
  · exact .of_left (intBits_le_64 b a)
  · exact .of_right (intBits_le_64 b a)
theorem yR:OpR X (binaryOp .Add) (rI0 λi j=>.int (i+j)):=zci λ_ _ _ _ _ _ _ q=>add_int q
theorem xM:OpR X (binaryOp .Sub) (rI0 λi j=>.int (i-j)):=zci λ_ _ _ _ _ _ _ q=>sub_int q
theorem wC:OpR X (binaryOp .Mult) (rI CMul λi j=>.int (i*j)):=opI λ_ _ _ _ _ _ _ a q=>mul_int q a.ok
theorem xi:OpR X (binaryOp .FloorDiv) (rI CDiv λi j=>.int (i / j)):=opI λi j _ _ _ _ _ a q=>by
  have c:(0:Int)<j:=a.1;have b:j<1073741824:=a.2;exact floordiv_int (by grind) (by rw[Int.fdiv_eq_ediv_of_nonneg i (by lia)];exact q) (.inl (PyProof.noPylong_small (by omega)))
theorem xv:OpR X (binaryOp .Mod) (rI (λ_ j=>0<j) λi j=>.int (i%j)):=opI λi j _ _ _ _ _ a q=>by
  have b:(0:Int)<j:=a;exact mod_int' (by grind) (by rw[Int.fmod_eq_emod_of_nonneg i (by grind)];exact q)
theorem cA:OpR X (binaryOp .Pow) (rI CPow λi j=>.int (i ^ j.toNat)):=opI λ_ _ _ _ _ _ _ a q=>pow_int_small a.1 a.2.1 a.2.2 q
theorem zai:OpR X (inplaceOp .Mult) (rI CMul λi j=>.int (i*j)):=opI λ_ _ _ _ _ _ _ a q=>imul_int q a.ok
theorem unI {f:Jo->Sem Jo}{g:Int->Int}(rule:∀ (i:Int) (t:Tok) (s:JO) (Q:Jo->JO->Prop) (E:Jo->JO->Prop),Q (.int (g i) s.toks) { s with toks:=s.toks+1 }->wpAny (model X.prog X.w) X.A (f (.int i t)) Q E s) :
    UnR X f (rU λi=>.int (g i)):=by
  intro pins s σ H x v Q I a h;obtain⟨i,rfl,q⟩:=h;obtain⟨t,rfl⟩:=a;exact rule i t s _ _ ⟨.int (g i),H,I.tok _,⟨_,rfl⟩,q⟩
theorem fZ:UnR X (unaryOp .USub) (rU λi=>.int (-i)):=unI λ_ _ _ _ _ q=>neg_int q
end
def zb7:V->V->Bool
  | .non,.non=>true|.non,.int _=>true|.int _,.non=>true|.non,.bl _=>true|.bl _,.non=>true|.non,.str _=>true|.str _,.non=>true
  | .int _,.int _=>true|.bl _,.bl _=>true|.str _,.str _=>true|.byt _,.byt _=>true
  | .int _,.str _=>true|.str _,.int _=>true|.bl _,.str _=>true|.str _,.bl _=>true
  | _,_=>false
def rEq:R2:=λx y H Q=>zb7 x y=true/\Q (.bl (decide (x=y))) H
def rNe:R2:=λx y H Q=>zb7 x y=true/\Q (.bl (!decide (x=y))) H
theorem jz {i j:Int}:decide (V.int i=V.int j)=(i == j):=by
  rw[Yq];simp
theorem bf {i j:Bool}:decide (V.bl i=V.bl j)=(i == j):=by
  rw[Yq];simp
theorem jy {i j:Str}:decide (V.str i=V.str j)=(i == j):=by
  rw[Yq];simp
theorem j3 {i j:Array UInt8}:decide (V.byt i=V.byt j)=(i.toList == j.toList):=by
  rw[Yq];cases i;cases j;simp
section
variable {X:Cx}{a b c:Expr}{ta tb:TE}{pos:Pos}
theorem yF {pins:List (JI × Obj)}{σ:St}{H:Hp}{s:JO}{Q:VK}{k a:Bool}(I:Inv X pins σ H s)(q:Q (.bl k) H)(e:k=a):EP X pins σ Q (.bool a) s:=by
  subst e;exact⟨.bl k,H,I,rfl,q⟩
theorem xR:OpR X (compareOp .Eq) rEq:=by
  intro pins s σ H x y v u Q I d a h;obtain⟨c,q⟩:=h
  cases x with
  | non =>
    cases d
    cases y with
    | non=>cases a;exact PySem.EqNone.eq_none_none (yF I q (by simp))
    | bl j=>cases a;exact PySem.EqNone.eq_none_bool (yF I q (by simp))
    | int j=>obtain⟨b,rfl⟩:=a;exact PySem.EqNone.eq_none_int (yF I q (by simp))
    | str j=>obtain⟨b,rfl⟩:=a;exact PySem.EqNone.eq_none_str (yF I q (by simp))
    | _=>exact absurd (show false=true from c) Jj
  | bl i =>
    cases d
    cases y with
    | non=>cases a;exact PySem.EqNone.eq_bool_none (yF I q (by simp))
    | bl j=>cases a;exact eq_bool (yF I q bf)
    | str j=>obtain⟨b,rfl⟩:=a;exact PySem.EqMixed.eq_bool_str (yF I q (by simp))
    | _=>exact absurd (show false=true from c) Jj
  | int i =>
    obtain⟨t,rfl⟩:=d
    cases y with
    | non=>cases a;exact PySem.EqNone.eq_int_none (yF I q (by simp))
    | int j=>obtain⟨b,rfl⟩:=a;exact eq_int (yF I q jz)
    | str j=>obtain⟨b,rfl⟩:=a;exact PySem.EqMixed.eq_int_str (yF I q (by simp))
    | _=>exact absurd (show false=true from c) Jj
  | str i =>
    obtain⟨t,rfl⟩:=d
    cases y with
    | non=>cases a;exact PySem.EqNone.eq_str_none (yF I q (by simp))
    | bl j=>cases a;exact PySem.EqMixed.eq_str_bool (yF I q (by simp))
    | int j=>obtain⟨b,rfl⟩:=a;exact PySem.EqMixed.eq_str_int (yF I q (by simp))
    | str j=>obtain⟨b,rfl⟩:=a;exact eq_str (yF I q jy)
    | _=>exact absurd (show false=true from c) Jj
  | byt i =>
    obtain⟨t,rfl⟩:=d
    cases y with
    | byt j=>obtain⟨b,rfl⟩:=a;exact PySem.W.eq_bytes (yF I q j3)
    | _=>exact absurd (show false=true from c) Jj
  | _=>cases y<;>exact absurd (show false=true from c) Jj
theorem jJ:OpR X (compareOp .NotEq) rNe:=by
  intro pins s σ H x y v u Q I d a h;obtain⟨c,q⟩:=h
  cases x with
  | non =>
    cases d
    cases y with
    | non=>cases a;exact PySem.EqNone.ne_none_none (yF I q (by simp))
    | bl j=>cases a;exact PySem.EqNone.ne_none_bool (yF I q (by simp))
    | int j=>obtain⟨b,rfl⟩:=a;exact PySem.EqNone.ne_none_int (yF I q (by simp))
    | str j=>obtain⟨b,rfl⟩:=a;exact PySem.EqNone.ne_none_str (yF I q (by simp))
    | _=>exact absurd (show false=true from c) Jj
  | bl i =>
    cases d
    cases y with
    | non=>cases a;exact PySem.EqNone.ne_bool_none (yF I q (by simp))
    | bl j=>cases a;exact ne_bool (yF I q (JP not bf))
    | str j=>obtain⟨b,rfl⟩:=a;exact PySem.EqMixed.ne_bool_str (yF I q (by simp))
    | _=>exact absurd (show false=true from c) Jj
  | int i =>
    obtain⟨t,rfl⟩:=d
    cases y with
    | non=>cases a;exact PySem.EqNone.ne_int_none (yF I q (by simp))
    | int j=>obtain⟨b,rfl⟩:=a;exact ne_int (yF I q (JP not jz))
    | str j=>obtain⟨b,rfl⟩:=a;exact PySem.EqMixed.ne_int_str (yF I q (by simp))
    | _=>exact absurd (show false=true from c) Jj
  | str i =>
    obtain⟨t,rfl⟩:=d
    cases y with
    | non=>cases a;exact PySem.EqNone.ne_str_none (yF I q (by simp))
    | bl j=>cases a;exact PySem.EqMixed.ne_str_bool (yF I q (by simp))
    | int j=>obtain⟨b,rfl⟩:=a;exact PySem.EqMixed.ne_str_int (yF I q (by simp))
    | str j=>obtain⟨b,rfl⟩:=a;exact ne_str (yF I q (JP not jy))
    | _=>exact absurd (show false=true from c) Jj
  | byt i =>
    obtain⟨t,rfl⟩:=d
    cases y with
    | byt j=>obtain⟨b,rfl⟩:=a;exact PySem.W.ne_bytes (yF I q (JP not j3))
    | _=>exact absurd (show false=true from c) Jj
  | _=>cases y<;>exact absurd (show false=true from c) Jj
theorem jK:OpR X (compareOp .Lt) (rI0 λi j=>.bl (decide (i<j))):=zbk λ_ _ _ _ _ _ _ q=>lt_int q
theorem jL:OpR X (compareOp .Gt) (rI0 λi j=>.bl (decide (j<i))):=zbk λ_ _ _ _ _ _ _ q=>gt_int q
theorem zaA:OpR X (compareOp .GtE) (rI0 λi j=>.bl (decide (j<=i))):=zbk λ_ _ _ _ _ _ _ q=>ge_int q
theorem cC:OpR X (compareOp .Is) (λx y H Q=>y=.non/\Q (.bl (decide (x=.non))) H):=by
  intro pins s σ H x y v u Q I a b h;obtain⟨rfl,q⟩:=h;cases b;refine is_none_gen (yF I q ?_)
  cases x<;>first
    | (cases a;rfl)
    | (obtain⟨t,rfl⟩:=a;rfl)
theorem af:OpR X (compareOp .IsNot) (λx y H Q=>y=.non/\Q (.bl (!decide (x=.non))) H):=by
  intro pins s σ H x y v u Q I a b h;obtain⟨rfl,q⟩:=h;cases b;refine isnot_none_gen (yF I q ?_)
  cases x<;>first
    | (cases a;rfl)
    | (obtain⟨t,rfl⟩:=a;rfl)
theorem yC (b:Expr){op:CmpOp}(h:op≠.In:=by decide)(a:op≠.NotIn:=by decide):behindInMarks op b=false:=by
  have c:(op == CmpOp.In)=false:=by cases op<;>first|rfl|exact absurd rfl h
  have e2:(op == CmpOp.NotIn)=false:=by cases op<;>first|rfl|exact absurd rfl a
  cases b<;>simp[behindInMarks,c,e2]
theorem wb {op:CmpOp}{r:R2}(f:OpR X (compareOp op) r)(ha:PE X a ta)(hb:PE X b tb)(g:behindInMarks op b=false):PE X (.Compare a [op] [b] pos) (tOp r ta tb):=by
  intro pins s σ H Q I h;exact wpAny_Compare1 (zbP ha hb I h λv u c x y j i e d q=>f pins c σ j x y v u Q i e d q) g
def zbV (t:TE):TT:=λσ H Q=>t σ H λx a=>∃ k,x=.bl k/\Q k a
theorem zt {op:CmpOp}{r:R2}(o:OpR X (compareOp op) r)(ha:PE X a ta)(hb:PE X b tb)(p:behindInMarks op b=false):PT X (.Compare a [op] [b] pos) (zbV (tOp r ta tb)):=by
  intro pins s σ H Q I h
  refine wpAny_isTrue_Compare1 (thn (ha pins s σ H _ I h) λv f ⟨x,C,w,j,n⟩=>thn (hb pins f σ C _ w n) λu d ⟨y,B,t,i,m⟩ =>
    thn (o pins d σ B x y v u _ t j i m) λc D ⟨z,A,q,g,k,e,l⟩=>?_) p
  subst e;cases g;exact Ze ⟨A,q,l⟩
def TruV (K:Jl)(x:V)(H:Hp)(k:Bool):Prop :=
  match x with
  | .non=>k=false
  | .bl b=>k=b
  | .int i=>k=(i != 0)
  | .str y=>y.length<=sizeLine/\k=((y.length:Int) != 0)
  | .byt y=>y.size<=sizeLine/\k=((y.size:Int) != 0)
  | .ref p=>(∃ a,SqL K H p a/\k = !a.isEmpty)\/(∃ a,SqT K H p a/\k = !a.isEmpty)\/∃ c,H p=some (.dK c)/\k = !c.isEmpty
  | _=>False
theorem kg {κ:Type}{kvs:List (κ × V)}{vs:List (κ × Jo)}(r:KV kvs vs):(!vs.isEmpty) = !kvs.isEmpty:=by
  cases r<;>rfl
theorem rM {xs:List V}{its:List Jo}(r:Vals xs its):(!its.toArray.isEmpty) = !xs.isEmpty:=by
  cases r<;>simp
theorem rF:(sizeLine:Nat)<2 ^ 63:=by rw[JB];decide
theorem zaJ:TruR X (λx H Q=>∃ k,TruV X.K x H k/\Q k H):=by
  intro pins s σ H x v Q I f h;obtain⟨k,e,q⟩:=h;have A:=rF;have z:sizeLine=16777216:=JB
  cases x with
  | non =>
    cases f;have a:k=false:=e;subst a
    exact truthy_none ⟨H,I,q⟩
  | bl b =>
    cases f;have a:k=b:=e;subst a
    exact Ze ⟨H,I,q⟩
  | int i =>
    obtain⟨t,rfl⟩:=f;have a:k=(i != 0):=e;subst a
    exact PySem.P.truthy_int ⟨H,I,q⟩
  | str y =>
    obtain⟨t,rfl⟩:=f;obtain⟨u,a⟩:y.length<=sizeLine/\k=((y.length:Int) != 0):=e;subst a
    exact PySem.P.truthy_str (by lia) ⟨H,I.tok _,q⟩
  | byt y =>
    obtain⟨t,rfl⟩:=f;obtain⟨u,a⟩:y.size<=sizeLine/\k=((y.size:Int) != 0):=e;subst a
    exact PySem.W.truthy_bytes (by lia) ⟨H,I.tok _,q⟩
  | ref p =>
    cases f;have a:(∃ d,SqL X.K H p d/\k = !d.isEmpty)\/(∃ d,SqT X.K H p d/\k = !d.isEmpty)\/∃ c,H p=some (.dK c)/\k = !c.isEmpty:=e;rcases a with ⟨d,g,a⟩|⟨d,g,a⟩|⟨c,g,a⟩
    · subst a
      obtain⟨n,r,l,o⟩:=I.list g;have hlen:=r.length;exact wpAny_truthy_list l.isList (by simp only[Jh];lia) ⟨H,I.tok _,by rw[rM r];exact q⟩
    · subst a
      obtain⟨n,r,l,o⟩:=I.tuple g;have hlen:=r.length;exact truthy_tuple l (by simp only[Jh];grind) ⟨H,I.tok _,by rw[rM r];exact q⟩
    · subst a
      obtain⟨o,w,j,r,m⟩:c.length<=sizeLine/\(p == sysModules)=false/\∃ j,KV c j/\s.heap.DictOf (yk X.prog X.w) p j:=I.hok p _ g;have hlen:c.length=j.length:=YG r
      exact wpAny_truthy_dict w m (by lia) ⟨H,I.tok _,by rw[kg r];exact q⟩
  | _=>exact(show False from e).elim
theorem dc (ha:PE X a ta)(e:∀ whole,isTrue a X.env whole=(do let v <- whole;standAt a.pos;holding [v] (truthy v))) :
    PT X a (λσ H Q=>ta σ H λx H'=>∃ k,TruV X.K x H' k/\Q k H'):=by
  intro pins s σ H Q I h;exact isTrue_plain (thn (ha pins s σ H _ I h) λv b ⟨x,g,f,c,d⟩=>zaJ pins b σ g x v Q f c d) (e _)
theorem qD {x:V}{us:List Jo}(r:Vals [x] us):∃ u,us=[u]/\RelV x u:=by
  cases r with
  | cons b a=>cases a;exact⟨_,rfl,b⟩
theorem fW {x y:V}{us:List Jo}(r:Vals [x,y] us):∃ u a,us=[u,a]/\RelV x u/\RelV y a:=by
  cases r with
  | cons e d =>
    cases d with
    | cons c b=>cases b;exact⟨_,_,rfl,e,c⟩
theorem mX:CallR X (.builtin "abs") (λxs H Q=>∃ i,xs=[.int i]/\Q (.int (if i<0 then -i else i)) H):=by
  intro pins s σ H xs a Q I r h;obtain⟨i,rfl,q⟩:=h;obtain⟨u,rfl,t,rfl⟩:=qD r;exact call_abs_int λu b=>⟨.int (if i<0 then -i else i),H,I.tok _,⟨_,rfl⟩,q⟩
theorem uy (b:X.calm=true):CallR X (.builtin "max") (λxs H Q=>∃ i j,xs=[.int i,.int j]/\Q (.int (if j > i then j else i)) H):=by
  intro pins s σ H xs d Q I r h;obtain⟨i,j,rfl,q⟩:=h;obtain⟨u,c,rfl,⟨t,rfl⟩,⟨f,rfl⟩⟩:=fW r;refine max_two_ints (I.ok.hd b) λg e k=>⟨_,H,I.kept k,?_,q⟩;by_cases a:j > i
  · rw[Jm a,Jm a];exact⟨_,rfl⟩
  · rw[Jf a,Jf a];exact⟨_,rfl⟩
theorem qr (b:X.calm=true):CallR X (.builtin "min") (λxs H Q=>∃ i j,xs=[.int i,.int j]/\Q (.int (if j<i then j else i)) H):=by
  intro pins s σ H xs d Q I r h;obtain⟨i,j,rfl,q⟩:=h;obtain⟨u,c,rfl,⟨t,rfl⟩,⟨f,rfl⟩⟩:=fW r;refine min_two_ints (I.ok.hd b) λg e k=>⟨_,H,I.kept k,?_,q⟩;by_cases a:j<i
  · rw[Jm a,Jm a];exact⟨_,rfl⟩
  · rw[Jf a,Jf a];exact⟨_,rfl⟩
theorem wT:CallR X (.type "int") (λxs H Q=>(∃ i,xs=[.int i]/\Q (.int i) H)\/∃ k,xs=[.bl k]/\Q (.int (if k then 1 else 0)) H):=by
  intro pins s σ H xs b Q I r h;rcases h with ⟨i,rfl,q⟩|⟨k,rfl,q⟩
  · obtain⟨u,rfl,t,rfl⟩:=qD r
    exact call_int_int ⟨.int i,H,I,⟨_,rfl⟩,q⟩
  · obtain⟨u,rfl,a⟩:=qD r
    cases a;exact call_int_bool ⟨.int (if k then 1 else 0),H,I.tok _,⟨_,rfl⟩,q⟩
end
structure Room (k:Nat) (A:YO):Prop where
  hd:A.handled=none
  dp:A.depth+3*k+5<recursionLimit
  un:A.units+16*k+200<cLine
  gd:A.guards=some []
theorem Room.mono {j k:Nat}{A:YO}(r:Room k A)(h:j<=k):Room j A:=⟨r.hd,by have:=r.dp;grind,by have:=r.un;grind,r.gd⟩
theorem Room.deeper {k:Nat}{A:YO}(r:Room (k+1) A)(env:Env):Room k (A.deeper env) :=
  ⟨r.hd,by have:=r.dp;show A.depth+1+3*k+5<_;lia,by have:=r.un;show A.units+3+16*k+200<_;lia,r.gd⟩
theorem Room.depth {k:Nat}{A:YO}(r:Room k A):A.depth<recursionLimit:=by have:=r.dp;grind
theorem Room.units {k:Nat}{A:YO}(r:Room k A):A.units+64<cLine:=by have:=r.un;grind
theorem Room.units0 {k:Nat}{A:YO}(r:Room k A):A.units<cLine:=by have:=r.un;grind
def zbY:TA:=λ_ H Q=>Q [] H
def eD (c:TE)(b:TA):TA:=λσ H Q=>c σ H λx e=>b σ e λa d=>Q (x::a) d
section
variable {X:Cx}{e:Expr}{es:List Expr}{te:TE}{t:TA}{pos:Pos}
theorem zC:PA X [] zbY:=λ_ _ _ _ H Q I h=>Wn ⟨[],H,I,.nil,h⟩
theorem zA (ha:PE X e te)(i:PA X es t)(hs:starEach (e::es) X.env=(false,eval e X.env)::starEach es X.env:=by rfl):PA X (e::es) (eD te t):=by
  intro pos pins s σ H Q I h;rw[hs];show wpAny _ _ (spliced ((false,eval e X.env)::backTo pos (starEach es X.env))) _ _ s;refine ZQ (thn (ha pins s σ H _ I h) λu b ⟨x,m,k,d,g⟩=>?_);exact thn (i pos pins b σ m _ k g) λn o ⟨a,l,j,c,f⟩=>⟨x::a,l,j,.cons d c,f⟩
def zcB (t:TA):TE:=λσ H Q=>t σ H λa b=>a.length<=sizeLine/\∀ p,b p=none->Q (.ref p) (upd b p (.tup a))
def zcF (t:TA):TE:=λσ H Q=>t σ H λa b=>a.length<=sizeLine/\∀ p,b p=none->Q (.ref p) (upd b p (.lst a))
theorem zi {x1}(h:PA X es t):PE X (.Tuple es x1 pos) (zcB t):=by
  intro pins s σ H Q I i;refine wpAny_Tuple_spliced (thn (h pos pins s σ H _ I i) λg a ⟨f,d,c,r,z,q⟩=>⟨by rw[<- r.length];exact z,?_⟩);have j:d a.heap.objs.size=none:=c.hok.fresh (Jg _);refine⟨.ref a.heap.objs.size,upd d a.heap.objs.size (.tup f),c.laid (t':=a.toks) (λb u e=>J8 _ e) (Jg _) ?_,rfl,q _ j⟩;exact⟨z,g,r,TupX.new _ _⟩
theorem zy (h:PA X es t):PE X (.List es pos) (zcF t):=by
  intro pins s σ H Q I i;refine wpAny_List_spliced (thn (h pos pins s σ H _ I i) λg a ⟨f,d,c,r,z,q⟩=>⟨by rw[<- r.length];exact z,?_⟩);have j:d a.heap.objs.size=none:=c.hok.fresh (Jg _);refine⟨.ref a.heap.objs.size,upd d a.heap.objs.size (.lst f),c.laid (t':=a.toks) (λb u e=>J8 _ e) (Jg _) ?_,rfl,q _ j⟩;exact⟨z,g,0,r,Jq _ rfl⟩
end
abbrev Sp:=List V->Hp->VK->XK->Prop
abbrev CXT:=List Env->Hp->JO->XK->Jo->JO->Prop
structure Env0 (P:Yo) (w:YI) (K:Jl) (mg:Str->Option Jo) (base:YP) (A:YO) (outer:List Env) (s:JO) (H:Hp):Prop where
  frames:A.frames=some outer
  mod:Mod K mg base
  bs:∀ b o,base.get? b=some o->s.heap.get? b=some o/\H b=none
  bsz:base.objs.size<=s.heap.objs.size
  funs:s.heap.FunFrames base outer
  frf:∀ b∈frs outer,H b=none
  hok:HOk P w H s.heap
  bare:AllBare s.gens
def CE (outer:List Env)(P:Yo)(w:YI)(H:Hp)(s:JO)(Q:VK)(u:Jo)(s':JO):Prop :=
  ∃ v a,s'.os=s.os/\AllBare s'.gens/\Un (frs outer) [] H a s.heap s'.heap/\HOk P w a s'.heap/\RelV v u/\Q v a
def CR (CX:CXT)(outer:List Env)(P:Yo)(w:YI)(H:Hp)(s:JO)(Q:VK)(E:XK)(r:Result)(s':JO):Prop :=
  match r with
  | .ok (.ret u)=>CE outer P w H s Q u s'
  | .ok _=>False
  | .error e=>CX outer H s E e s'
structure FnOk (P:Yo) (w:YI) (K:Jl) (mg:Str->Option Jo) (base:YP) (CX:CXT) (k:Nat) (f:JI) (fd:Yl) (ps:List Str) (sp:Sp):Prop where
  len:∀ vs H Q E,sp vs H Q E->vs.length=ps.length
  run:∀ (A:YO) (outer:List Env) (s:JO) (H:Hp) (args:Args) (us:List Jo) (vs:List V) (Q:VK) (E:XK),Room k A->Env0 P w K mg base A outer s H->BindsTo s fd args (ps.zip us)->Vals vs us->sp vs H Q E ->
    codeAny (model P w) A (.call (.ref f) args) (CR CX outer P w H s Q E) s
theorem FnOk.mono {P:Yo}{w:YI}{K:Jl}{mg:Str->Option Jo}{base:YP}{CX:CXT}{j k:Nat}{f:JI}{fd:Yl}{ps:List Str}{sp:Sp}(F:FnOk P w K mg base CX j f fd ps sp)(h:j<=k) :
    FnOk P w K mg base CX k f fd ps sp:=⟨F.len,λA outer s H args b a Q E c=>F.run A outer s H args b a Q E (c.mono h)⟩
theorem FnOk.imp {P:Yo}{w:YI}{K:Jl}{mg:Str->Option Jo}{base:YP}{CX:CXT}{k:Nat}{f:JI}{fd:Yl}{ps:List Str}{sp a:Sp}(F:FnOk P w K mg base CX k f fd ps sp)(h:∀ vs H Q E,a vs H Q E->sp vs H Q E):FnOk P w K mg base CX k f fd ps a :=
  ⟨λvs H Q E q=>F.len vs H Q E (h _ _ _ _ q),λA outer s H args b vs Q E e g i c d=>F.run A outer s H args b vs Q E e g i c (h _ _ _ _ d)⟩
section
variable {X:Cx}{pins:List (JI × Obj)}{σ:St}{H:Hp}{s s':JO}
theorem Inv.env0 (I:Inv X pins σ H s):Env0 X.prog X.w X.K X.mg X.base X.A X.stack s H :=
  ⟨I.ok.frames,I.ok.mod,I.bs,JX I.ok.bsz I.sz,I.stack,I.stkFree,I.hok,I.bare⟩
theorem Inv.after {Q:VK}{u:Jo}(I:Inv X pins σ H s)(h:CE X.stack X.prog X.w H s Q u s'):EP X pins σ Q u s':=by
  obtain⟨v,f,os,bare,un,c,r,q⟩:=h;obtain⟨e,g,d,t,a⟩:=s';obtain rfl:a=s.os:=os;exact⟨v,f,I.call (h':=e) (g':=g) (d':=d) (t':=t) (ch:=[]) un c bare (λb z=>absurd z (by simp)),r,q⟩
end
def zav (sp:Sp)(a:List V)(E:XK)(t:TA):TE:=λσ H Q=>t σ H λb c=>sp (b++a) c Q E
def Binds (K:Jl)(fd:Yl)(ps:List Str)(ds:List Jo):Prop :=
  ∀ (s:JO) (a:List Jo),K.In s.heap->(a++ds).length=ps.length->BindsTo s fd ⟨a,[]⟩ (ps.zip (a++ds))
theorem Binds.all {K:Jl}{fd:Yl}{ps:List Str}(h:∀ us:List Jo,us.length=ps.length->bindArgs fd ⟨us,[]⟩=pure (ps.zip us)):Binds K fd ps []:=λs us _ a=>by
  rw[JU]at a ⊢;exact .of_eq (h us a)
def Passes (CX:CXT)(X:Cx)(E:XK):Prop:=∀ (pins:List (JI × Obj)) (σ:St) (H:Hp) (s:JO) (e:Jo) (a:JO),Inv X pins σ H s->CX X.stack H s E e a->X.xe e a
section
variable {X:Cx}{CX:CXT}{k:Nat}{f:JI}{fd:Yl}{ps:List Str}{sp:Sp}{dvs:List V}{ds:List Jo}{E:XK}{x:Str}{p pos:Pos}{e:Expr}{es:List Expr}{t:TA}
theorem za8 {pins:List (JI × Obj)}{σ:St}{H:Hp}{s:JO}{Q:VK}{us:List Jo}{vs:List V}(F:FnOk X.prog X.w X.K X.mg X.base CX k f fd ps sp)(g:Room k X.A)(hb:Binds X.K fd ps ds)(hd:Vals dvs ds)(d:Passes CX X E)(I:Inv X pins σ H s)(r:Vals vs us)(h:sp (vs++dvs) H Q E):wpAny (model X.prog X.w) X.A (call (.ref f) us) (EP X pins σ Q) X.xe s:=by
  have b:Vals (vs++dvs) (us++ds):=r.append hd;have i:(us++ds).length=ps.length:=by rw[<- b.length];exact F.len _ _ _ _ h
  refine wpAny_call (Wf (F.run X.A X.stack s H ⟨us,[]⟩ (us++ds) (vs++dvs) Q E g I.env0 (hb s us I.kIn i) b h) λr c a=>?_)
  cases r with
  | error e=>exact d pins σ H s e c I a
  | ok j =>
    cases j with
    | ret u=>exact I.after a
    | next=>exact False.elim a
    | brk=>exact False.elim a
    | cont=>exact False.elim a
theorem jI (F:FnOk X.prog X.w X.K X.mg X.base CX k f fd ps sp) (g:Room k X.A) (l:Gl X x) (i:X.mg x=some (.ref f)) (j:PySem.W.keepIn X.K (.ref f)=true) (hb:Binds X.K fd ps ds) (hd:Vals dvs ds) (d:Passes CX X E)
    (ha:PA X (e::es) t) (b:(x == ("__debug__":Str))=false:=by decide) (m:starEach (e::es) X.env=(false,eval e X.env)::starEach es X.env:=by rfl) (a:(backTo pos (starEach es X.env)).any (·.1)=false:=by rfl) :
    PE X (.Call (.Name x p) (e::es) [] pos) (zav sp dvs E t):=by
  intro pins s σ H Q I h;refine YK (uH I l i ?_ b);refine PySem.W.callWith_K (h₀:=X.base) I.ok.mod.kin j (thn (ha pos pins s σ H _ I h) λo u ⟨n,v,c,r,q⟩=>⟨c.kIn,?_⟩) m a;exact za8 F g hb hd d c r q
end
def PK (X:Cx)(a:List Keyword)(t:TA):Prop :=
  ∀ (pos:Pos) (pins:List (JI × Obj)) (s:JO) (σ:St) (H:Hp) (Q:List V->Hp->Prop),Inv X pins σ H s->t σ H Q->wpAny (model X.prog X.w) X.A (evalAll ((backToKw pos (keywordEach a X.env)).map (·.2))) (AP X pins σ Q) X.xe s
section
variable {X:Cx}{x:Str}{pos kpos:Pos}{e:Expr}{kws:List Keyword}{te:TE}{t:TA}{nm:Option Str}
theorem zbf:PK X [] zbY:=λ_ _ _ _ H Q I h=>wpAny_evalAll_nil ⟨[],H,I,.nil,h⟩
theorem aX (ha:PE X e te)(i:PK X kws t):PK X (⟨nm,e,kpos⟩::kws) (eD te t):=by
  intro pos pins s σ H Q I h;show wpAny _ _ (evalAll ((do let v <- eval e X.env;standAt pos;pure v)::(backToKw pos (keywordEach kws X.env)).map (·.2))) _ _ s;refine wpAny_evalAll_cons (J0 (thn (ha pins s σ H _ I h) λu b ⟨x,m,k,d,g⟩=>J0 (YL (J9 ?_))));exact thn (i pos pins b σ m _ k g) λn o ⟨a,l,j,c,f⟩=>⟨x::a,l,j,.cons d c,f⟩
end
structure FnScope (N P:List Str) (sc:Scope):Prop where
  kind:sc.kind=.function
  co:sc.isCoroutine=false
  gen:sc.isGenerator=false
  nd:N.Nodup
  pre:N.take P.length=P
  par:∀ x∈P,sc.names.lookup x=some .local \/ sc.names.lookup x=some .cell
  nofree:∀ y∈sc.names,y.2≠.free
theorem qu {kindOf:Str->Option NameKind}{x:Str}:∀ {binds:List (Str × Jo)}{m:Str->Option Jo},(∀ v,(x,v)∉binds)->bindL kindOf binds m x=m x
  | [],_,_=>rfl
  | (n,v)::r,m,h=>by
    unfold bindL;rw[qu λw a=>h w (JH _ a)];split
    · have:x≠n:=by rintro rfl;exact h v JJ
      simp[this]
    · rfl
theorem qy {kindOf:Str->Option NameKind}{x:Str}:∀ {binds:List (Str × Jo)}{m:Str->Option Jo},(∀ v,(x,v)∉binds)->bindC kindOf binds m x=m x
  | [],_,_=>rfl
  | (n,v)::r,m,h=>by
    unfold bindC;rw[qy λw a=>h w (JH _ a)];split
    · rfl
    · have:x≠n:=by rintro rfl;exact h v JJ
      simp[this]
theorem qw {kindOf:Str->Option NameKind}{x:Str}{v:Jo}:∀ {P:List Str}{vs:List Jo}{i:Nat}{m:Str->Option Jo},P.Nodup->P[i]?=some x->vs[i]?=some v->kindOf x=some .local ->
    bindL kindOf (P.zip vs) m x=some v
  | [],_,_,_,_,h,_,_=>by simp at h
  | _::_,[],_,_,_,_,h,_=>by simp at h
  | p::P,w::vs,0,m,nd,h1,a,b=>by
    simp at h1 a;subst h1;subst a;show bindL kindOf ((p,w)::P.zip vs) m p=_;unfold bindL;rw[qu λv c=>(JQ.mp nd).1 (List.of_mem_zip c).1,Jm b]
    simp
  | p::P,w::vs,i+1,m,nd,h1,a,b=>by
    show bindL kindOf ((p,w)::P.zip vs) m x=_;unfold bindL;exact qw (i:=i) (JQ.mp nd).2 (by simpa using h1) (by simpa using a) b
theorem qz {kindOf:Str->Option NameKind}{x:Str}{v:Jo}:∀ {P:List Str}{vs:List Jo}{i:Nat}{m:Str->Option Jo},P.Nodup->P[i]?=some x->vs[i]?=some v->kindOf x≠some .local ->
    bindC kindOf (P.zip vs) m x=some v
  | [],_,_,_,_,h,_,_=>by simp at h
  | _::_,[],_,_,_,_,h,_=>by simp at h
  | p::P,w::vs,0,m,nd,h1,a,b=>by
    simp at h1 a;subst h1;subst a;show bindC kindOf ((p,w)::P.zip vs) m p=_;unfold bindC;rw[qy λv c=>(JQ.mp nd).1 (List.of_mem_zip c).1,Jf b]
    simp
  | p::P,w::vs,i+1,m,nd,h1,a,b=>by
    show bindC kindOf ((p,w)::P.zip vs) m x=_;unfold bindC;exact qz (i:=i) (JQ.mp nd).2 (by simpa using h1) (by simpa using a) b
def vp (N:List Str)(vs:List V):St:=vs.map some++List.replicate (N.length-vs.length) none
def wg (CX:CXT)(P:Yo)(w:YI)(K:Jl)(mg:Str->Option Jo)(base:YP)(N:List Str)(qual:Str)(scope:Scope)(f:JI)(cd:Jo)(A:YO)(outer:List Env)(s:JO)(H:Hp)(E:XK):Cx where
  prog:=P
  w:=w
  K:=K
  mg:=mg
  base:=base
  A:=A.deeper (envOfC qual scope s.heap.objs.size f cd)
  N:=N
  s₀:=s
  H₀:=H
  env:=envOfC qual scope s.heap.objs.size f cd
  outer:=outer
  stack:=envOfC qual scope s.heap.objs.size f cd::outer
  ex:=[]
  calm:=true
  fn:=λ_=>true
  pn:=[]
  xe:=λe b=>wpAny (model P w) (A.deeper (envOfC qual scope s.heap.objs.size f cd)) (leaving (envOfC qual scope s.heap.objs.size f cd) e) (λ_ a=>CX outer H s E e a) (λc a=>CX outer H s E c a) b
theorem mW {sc:Scope}{n:Nat}{x:Str}(h:sc.names.lookup x=some .cell):∃ c,(cellsFrom n sc.names []).lookup x=some c:=by
  have q:=PySem.W.cellsFrom_some sc.names n [] (.inl h);exact ZH.mp q
theorem gQ {CX:CXT}{P:Yo}{w:YI}{K:Jl}{mg:Str->Option Jo}{base:YP}{N ps:List Str}{qual:Str}{scope:Scope}{f:JI}{cd:Jo}{A:YO}{outer:List Env}{s s1:JO}{H:Hp}{E:XK}{us:List Jo}{vs:List V}(S:FnScope N ps scope)(hd:A.handled=none)(g:Env0 P w K mg base A outer s H)(L:vs.length=ps.length)(r:Vals vs us)(x:InCallC s s.heap.objs.size (bindL (envOfC qual scope s.heap.objs.size f cd).kindOf (ps.zip us) λ_=>none) (cellsFrom (s.heap.objs.size+1) scope.names []) (bindC (envOfC qual scope s.heap.objs.size f cd).kindOf (ps.zip us) λ_=>none) s1) :
    Inv (wg CX P w K mg base N qual scope f cd A outer s H E) [] (vp N vs) H s1:=by
  have I:ps.length<=N.length:=by have:=JP List.length S.pre;rw[Jw]at this;lia
  obtain⟨B,J,rfl,D⟩:=x.done;have l:∀ b:JI,b∉(wg CX P w K mg base N qual scope f cd A outer s H E).ex:=λb z=>absurd (show b∈([]:List JI) from z) (by simp)
  refine⟨⟨g.mod,S.kind,rfl,rfl,Jg _,λy z c B d=>?_,λy j=>?_,λy c _ h=>?_,λ_=>hd,Around.frames_deeper g.frames,.inr ⟨rfl,rfl⟩,λb z=>absurd z (l b),g.bs,g.bsz,λb _ _=>l b,λb z=>absurd z (l b),g.funs,g.frf⟩,
    rfl,g.bare,Un.kept D,⟨_,x.toInCall.ns,λi y v B d M=>?_⟩,λy c h=>⟨_,x.cell y c h⟩,g.hok.fresh (Jg _),λy c h=>?_,λp m=>absurd (show p∈([]:List (JI × Obj)) from m) (by simp),g.hok.kept D,?_⟩
  · exact name_of_addr x.apart (Zn B) (Zn d)
  · have j:scope.names.lookup y=some .cell\/scope.names.lookup y=some .free:=j
    rcases j with j|j
    · exact mW j
    · exact absurd rfl (S.nofree _ (Zn j))
  · exact Nat.le_of_lt (x.above y c (Zn h))
  · have t:i<vs.length:=by
      unfold vp at d;by_cases t:i<vs.length
      · exact t
      · rw[Yj (by simpa using t)]at d
        rw[List.getElem?_replicate]at d;split at d<;>cases d
    have G:vs[i]?=some v:=by
      unfold vp at d;rw[Y0 (by simpa using t),JN]at d
      cases e:vs[i]? with
      | none=>rw[e]at d;cases d
      | some a=>rw[e]at d;cases d;rfl
    obtain⟨u,C,F⟩:=r.get G
    have m:ps[i]?=some y:=by
      rw[<- S.pre,Zm (by simp_all)];exact B
    have o:ps.Nodup:=by rw[<- S.pre];exact S.nd.sublist (List.take_sublist _ _)
    refine⟨u,F,?_⟩;rcases S.par y (JD m) with k|k
    · exact .inl ⟨k,qw o m C k⟩
    · obtain⟨c,e⟩:=mW (n:=s.heap.objs.size+1) k
      refine .inr ⟨.inl k,c,e,?_⟩;have q:=x.cell y c e;rw[qz o m C (by show scope.names.lookup y≠_;rw[k];decide)]at q;exact q
  · exact g.hok.fresh (Nat.le_of_lt (x.above y c (Zn h)))
  · unfold vp
    show _=N.length;rw[Jd,Je,Y7]
    simp_all
theorem zaC {CX:CXT}{P:Yo}{w:YI}{K:Jl}{mg:Str->Option Jo}{base:YP}{k:Nat}{f:JI}{name qual:Str}{params:Arguments}{body:List Stmt}{scope:Scope}{C kV doc pm cdv ct oc:Jo}{an od:Option JI}{osl:Array (Option Jo)}{N ps:List Str}{sp:Sp}(G:K.lookup f=some ⟨oc,od,.func (PySem.W.fnOf name qual params body scope C kV doc pm an cdv ct),osl⟩)(z:PySem.W.codeIn K cdv qual=true)(S:FnScope N ps scope)(len:∀ vs H Q E,sp vs H Q E->vs.length=ps.length)(g:∀ (A:YO) (outer:List Env) (s:JO) (H:Hp) (vs:List V) (Q:VK) (E:XK),Room k (A.deeper (envOfC qual scope s.heap.objs.size f cdv))->sp vs H Q E ->
      ∃ t,PSs (wg CX P w K mg base N qual scope f cdv A outer s H E) body t/\t { nx:=λ_ c=>Q .non c,rt:=Q } (vp N vs) H) :
    FnOk P w K mg base CX (k+1) f (PySem.W.fnOf name qual params body scope C kV doc pm an cdv ct) ps sp:=by
  refine⟨len,λA outer s H args F vs Q E p i U r j=>?_⟩;have R:=len _ _ _ _ j;have D:K.In s.heap:=i.mod.kin.keeps λb o e=>(i.bs b o e).1;have lim:s.heap.NoLimit:=i.mod.nolimit.keeps λb o e=>(i.bs b o e).1
  have d:∀ y∈ps.zip F,scope.names.lookup y.1=some .local \/ (scope.names.lookup y.1=some .cell/\((cellsFrom (s.heap.objs.size+1) scope.names []).lookup y.1).isSome=true):=λ⟨n,v⟩ L=>by
    rcases S.par n (List.of_mem_zip L).1 with q|q
    · exact .inl q
    · exact .inr ⟨q,PySem.W.cellsFrom_some _ _ _ (.inl q)⟩
  refine codeAny_call_function p.depth (D _ _ G) rfl S.co S.gen rfl (PySem.W.codeRec_of D z) (U _ _ _ _ ?_);refine wpAny_newFunctionEnv_cells S.kind d λenv T B x=>?_;subst T;refine⟨lim.keeps x.toInCall.keep,codeAny_func ?_⟩;obtain⟨t,M,O⟩:=g A outer s H vs Q E (p.deeper _) j;have I:Inv (wg CX P w K mg base N qual scope f cdv A outer s H E) [] (vp N vs) H B:=gQ S p.hd i R r x;refine JK (M [] B (vp N vs) H _ I O) (λW l h=>?_) λe l h=>h
  have fin:∀ {a:St}{c:Hp}{v:V}{u:Jo},Inv (wg CX P w K mg base N qual scope f cdv A outer s H E) [] a c l->RelV v u->Q v c->CE outer P w H s Q u l :=
    λ{a c v u} J m q=>⟨v,c,J.os,J.bare,J.base,J.hok,m,q⟩
  cases W with
  | ret u =>
    obtain⟨v,a,c,J,m,q⟩:=h
    exact fin J m q
  | next =>
    obtain⟨a,c,J,q⟩:=h
    exact fin (v:=V.non) (u:=Value.none) J rfl q
  | brk =>
    obtain⟨_,_,_,q⟩:=h
    exact False.elim q
  | cont =>
    obtain⟨_,_,_,q⟩:=h;exact False.elim q
section
variable {X:Cx}{x:Str}{p pos:Pos}{e:Expr}{es:List Expr}{t:TA}{id T:String}{r:List V->Hp->VK->Prop}
def tCB (r:List V->Hp->VK->Prop)(t:TA):TE:=λσ H Q=>t σ H λa b=>r a b Q
theorem zX (o:CallR X (.builtin id) r) (m:Gl X x) (l:X.mg x=none) (j:bootBuiltins x=some (.builtin id)) (ha:PA X (e::es) t) (k:x≠"__name__":=by decide) (b:(x == ("__debug__":Str))=false:=by decide)
    (n:starEach (e::es) X.env=(false,eval e X.env)::starEach es X.env:=by rfl) (a:(backTo pos (starEach es X.env)).any (·.1)=false:=by rfl):PE X (.Call (.Name x p) (e::es) [] pos) (tCB r t):=by
  intro pins s σ H Q I h;refine YK (xw I m l j ?_ k b);exact PyProof.Rows.callWith_builtin1 (thn (ha pos pins s σ H _ I h) λd f ⟨c,u,q,g,i⟩=>o pins f σ u c d Q q g i) n a
theorem zo (o:CallR X (.type T) r) (m:Gl X x) (l:X.mg x=none) (j:bootBuiltins x=some (.type T)) (ha:PA X (e::es) t) (k:x≠"__name__":=by decide) (b:(x == ("__debug__":Str))=false:=by decide)
    (n:starEach (e::es) X.env=(false,eval e X.env)::starEach es X.env:=by rfl) (a:(backTo pos (starEach es X.env)).any (·.1)=false:=by rfl):PE X (.Call (.Name x p) (e::es) [] pos) (tCB r t):=by
  intro pins s σ H Q I h;refine YK (xw I m l j ?_ k b);exact Yi (thn (ha pos pins s σ H _ I h) λd f ⟨c,u,q,g,i⟩=>o pins f σ u c d Q q g i) n a
end
end L2
namespace HT
open PySem PyProof.Rows
def lexLt:List Int->List Int->Bool
  | [],[]=>false
  | [],_::_=>true
  | _::_,[]=>false
  | x::xs,y::ys=>if x=y then lexLt xs ys else decide (x<y)
theorem lexLt_cons (x y:Int)(xs ys:List Int):lexLt (x::xs) (y::ys)=if x=y then lexLt xs ys else decide (x<y):=rfl
theorem rq:lexLt [] []=false:=rfl
theorem rG (y:Int)(ys:List Int):lexLt [] (y::ys)=true:=rfl
theorem rH (x:Int)(xs:List Int):lexLt (x::xs) []=false:=rfl
theorem bX (A:YO)(s:JO)(a:Int)(t:Tok)(c:Int)(u:Tok):∃ e,SeqAt.EqAt A s (.int a t) (.int c u) e/\(e=true↔a=c) :=
  ⟨(a == c),SeqAt.EqAt.int_int a t c u,by simp⟩
theorem ee (A:YO)(s:JO)(a:Int)(t:Tok)(c:Int)(u:Tok)(prog:Yo)(w:YI)(E:Jo->JO->Prop)(Q:Jo->JO->Prop)(h:Q (.bool (decide (a<c))) s) :
    wpAny (model prog w) A (richCompare .Lt (.int a t) (.int c u)) Q E s :=
  (PyProof.Rows.lt_int h:wpAny (model prog w) A (compareOp .Lt (.int a t) (.int c u)) Q E s)
section
open PySem.SeqAt
open PySem.AutoSeq1 (wpAny_loadPart')
open PySem.MeetsSeq PySem.MeetsSeq2 PySem.MeetsSeq3
theorem rc (l b:JI)(items f:Array Jo)(n N:Nat)(dd K:Option JI)(sl H:Array (Option Jo))(ns ms:List Int)(hi:IntsAre items.toList ns)(M:IntsAre f.toList ms) :
    Meets (Builtin.«tuple.__lt__» ⟨[.ref l,.ref b],[]⟩)
      (λ_ R s=>s.heap.get? l=some { cls:=.type "tuple",dict:=dd,data:=.seq items n,slots:=sl }/\s.heap.get? b=some { cls:=.type "tuple",dict:=K,data:=.seq f N,slots:=H } /\
        R (.ok (.ret (.bool (lexLt ns ms)))) s) :=
  .of_wp λprog w A R s h=>by
    obtain⟨F,g,d,E,os⟩:=s;obtain⟨S,U,h⟩:=h;have X:=AutoSeq1.sub_tuple_tuple;have W:items.size=ns.length:=by rw[<- hi.length];simp
    have V:f.size=ms.length:=by rw[<- M.length];simp
    wp_walk using wpAny_loadPart' S,wpAny_loadPart' U,wpAny_forIn_list _ (λrest b G=>b.1=none/\G=⟨F,g,d,E,os⟩/\∃ (D ws:List Jo) (i j:List Int),rest=D.zip ws /\
      IntsAre D i/\IntsAre ws j/\i.length+f.size=j.length+items.size/\R (.ok (.ret (.bool (lexLt i j)))) ⟨F,g,d,E,os⟩) _
    case turn =>
      rintro⟨y,x⟩ rest b G ⟨v,rfl,D,ws,i,j,k,r,m,hlen,o⟩
      cases r with
      | nil=>rw[List.zip_nil_left]at k;cases k
      | cons a t C =>
        cases m with
        | nil=>rw[List.zip_nil_right]at k;cases k
        | cons c u B =>
          rw[List.zip_cons_cons]at k;injection k with I z;injection I with O P;subst O P;rw[lexLt_cons]at o;simp only[JW]at hlen;obtain⟨e,T,p⟩:=bX A.in1 ⟨F,g,d,E,os⟩ a t c u;refine J0 (T prog w _ _ ?_)
          cases e with
          | true =>
            rw[Jm (p.mp rfl)]at o
            wp_walk
            exact⟨rfl,rfl,_,_,_,_,z,C,B,by lia,o⟩
          | false =>
            rw[Jf (λq=>absurd (p.mpr q) Jj)]at o;have J:=ee A.in1 ⟨F,g,d,E,os⟩ a t c u prog w
            wp_walk using J
            exact⟨_,rfl,by simpa using o⟩
    case fin =>
      rintro⟨Z,Y⟩ G ⟨v,rfl,D,ws,i,j,k,r,m,hlen,o⟩;simp only at v;subst v
      have L:lexLt i j=decide (items.size<f.size):=by
        cases r with
        | nil =>
          cases m with
          | nil =>
            simp only[Ye]at hlen;rw[rq]
            exact(Js (by simp_all)).symm
          | cons c u Q =>
            simp only[Ye,JW]at hlen;rw[rG]
            exact(JC (by omega)).symm
        | cons a t L =>
          cases m with
          | nil =>
            simp only[Ye,JW]at hlen;rw[rH]
            exact(Js (by omega)).symm
          | cons c u Q =>
            rw[List.zip_cons_cons]at k;cases k
      rw[L]at o
      wp_walk
      exact⟨_,rfl,by simpa [Builtin.Tuple.tupleCompareSizes] using o⟩
    case h =>
      exact⟨rfl,rfl,items.toList,f.toList,ns,ms,rfl,hi,M,by omega,h⟩
end
section
variable {prog:Yo}{w:YI}{A:YO}{E:Jo->JO->Prop}{s:JO}
theorem lt_tupInts {l b:JI}{items a:Array Jo}{ns ms:List Int}{Q:Jo->JO->Prop}(r:IsTup s.heap l items)(hb:IsTup s.heap b a)(hi:IntsAre items.toList ns)(t:IntsAre a.toList ms)(q:A.units<cLine)(h:Q (.bool (lexLt ns ms)) s):wpAny (model prog w) A (compareOp .Lt (.ref l) (.ref b)) Q E s:=by
  obtain⟨⟨cls,u,data,o⟩,i,k,n,j⟩:=id r;obtain⟨⟨m,g,data2,f⟩,c,e,p,d⟩:=id hb;simp only at k j e d;subst k j e d
  exact richCompare_meets_room (op:=.Lt) ⟨_,i,rfl⟩ ⟨_,c,rfl⟩ PySem.F.slot_tuple_lt PySem.F.entry_tuple_lt (PySem.F.args_tuple_lt_2 _ _) (rc l b items a n p u g o f ns ms hi t)
    ⟨i,c,show Value.bool (lexLt ns ms)≠Value.notImplemented/\Q (.bool (lexLt ns ms)) s from⟨(λx=>nomatch x),h⟩⟩ q
theorem cat_tup {t b:JI}{vs ws:List Jo}{Q:Jo->JO->Prop}(u:IsTup s.heap t vs.toArray) (hb:IsTup s.heap b ws.toArray) (m:vs≠[])
    (h1:ws=[]->Q (.ref t) s) (v:ws≠[]->Q (.ref s.heap.objs.size) { s with heap:=s.heap.push { cls:=.type "tuple",data:=.seq (vs++ws).toArray } })
    (j:vs.length+ws.length<=sizeLine):wpAny (model prog w) A (binaryOp .Add (.ref t) (.ref b)) Q E s:=by
  obtain⟨⟨cls,q,data,k⟩,i,p,n,o⟩:=id u;obtain⟨⟨r,g,data2,c⟩,a,f,l,d⟩:=id hb;simp only at p o f d;subst p o f d;have e:vs.toArray++ws.toArray=(vs++ws).toArray:=by simp
  by_cases h:ws=[]
  · exact concat_meets ⟨_,i,rfl⟩ ⟨_,a,rfl⟩ noFill_tuple_add seq_tuple_add PySem.F.slot_tuple_add PySem.F.entry_tuple_add (PySem.F.args_tuple_add_2 _ _)
      (tuple_addW1 t b vs.toArray ws.toArray n l q g k c (by simpa using m) (by simp[h])) ⟨i,a,h1 h⟩
  · refine concat_meets ⟨_,i,rfl⟩ ⟨_,a,rfl⟩ noFill_tuple_add seq_tuple_add PySem.F.slot_tuple_add PySem.F.entry_tuple_add (PySem.F.args_tuple_add_2 _ _)
      (tuple_addW2 t b vs.toArray ws.toArray n l q g k c (by simpa using m) (by simpa using h) (by rw[Jh,Jh];exact j)) ⟨i,a,?_⟩
    rw[e];exact v h
def sIx (n d:Nat):Option Int->Nat
  | none=>d
  | some v=>if v<0 then (v+(n:Int)).toNat else min v.toNat n
theorem sIx_none (n d:Nat):sIx n d none=d:=rfl
theorem sIx_nat (n d k:Nat):sIx n d (some (k:Int))=min k n:=by
  show (if (k:Int)<0 then ((k:Int)+(n:Int)).toNat else min (k:Int).toNat n)=min k n;rw[Jf (by simp_all),Yk]
theorem za2 (n d:Nat)(hd:d<=n)(o:Option Int):sIx n d o<=n:=by
  cases o with
  | none=>exact hd
  | some v =>
    show (if v<0 then (v+(n:Int)).toNat else min v.toNat n)<=n;by_cases a:v<0
    · rw[Jm a];grind
    · rw[Jf a];exact Nat.min_le_right _ _
theorem j8 (v:Int)(n d:Nat):(if v<0 then max (v+(n:Int)) 0 else min v (n:Int))=((sIx n d (some v):Nat):Int):=by
  show (if v<0 then max (v+(n:Int)) 0 else min v (n:Int))=(((if v<0 then (v+(n:Int)).toNat else min v.toNat n):Nat):Int);by_cases a:v<0
  · simp only[Jm a];simp_all
  · simp only[Jf a];grind
theorem kv (lo hi:Option Int)(n:Nat):Builtin.Slice.sliceAdjust lo hi 1 (n:Int)=(((sIx n 0 lo:Nat):Int),((sIx n n hi:Nat):Int)):=by
  have a:¬((1:Int)<0):=by simp_all
  unfold Builtin.Slice.sliceAdjust;simp only[a,Zy];refine Prod.ext ?_ ?_
  · cases lo with
    | none=>rfl
    | some v=>exact j8 v n 0
  · cases hi with
    | none=>rfl
    | some v=>exact j8 v n n
theorem ly (i j:Nat):Builtin.Slice.slicePlaces (i:Int) (j:Int) 1=j-i:=by
  unfold Builtin.Slice.slicePlaces;have a:(1:Int) > 0:=by simp_all
  simp only[a,YU,Int.ediv_one];split<;>simp_all
theorem sS {v:Jo}{o:Option Int}{Q:Option Int->JO->Prop}(p:IsPart v o)(h:Q o s):wpAny (model prog w) A (Builtin.Slice.slicePartIndex v) Q E s:=by
  cases p with
  | none=>exact slicePart_none h
  | int i t=>exact slicePart_int h
theorem sliceApplied_gen {sl:JI}{d c:Jo}{lo hi:Option Int}{n:Nat}{Q:Int × Int × Nat->JO->Prop}(hs:s.heap.IsSliceOf sl d c .none)(e:IsPart d lo)(pu:IsPart c hi)(h:Q (((sIx n 0 lo:Nat):Int),1,sIx n n hi-sIx n 0 lo) s):wpAny (model prog w) A (Builtin.Slice.sliceApplied (.ref sl) (pure (n:Int))) Q E s:=by
  obtain⟨os,a,f,b⟩:=id hs;unfold Builtin.Slice.sliceApplied Builtin.Slice.sliceFields;refine J0 (J0 (Zf a b (x:=d) rfl (J0 (Zf a b (x:=c) rfl (J0 (Zf a b (x:=.none) rfl (J9 ?_)))))));refine J0 (slicePart_none ?_);show wpAny _ _ (if ((1:Int) == 0)=true then _ else _) _ _ s;rw[Jf (by decide)];refine J0 (sS e (J0 (sS pu (J0 (J9 ?_)))));show wpAny _ _ (match Builtin.Slice.sliceAdjust lo hi 1 (n:Int) with|(lo,hi)=>pure (lo,(1:Int),Builtin.Slice.slicePlaces lo hi 1)) _ _ s;rw[kv lo hi n];show wpAny _ _ (pure (((sIx n 0 lo:Nat):Int),(1:Int),Builtin.Slice.slicePlaces ((sIx n 0 lo:Nat):Int) ((sIx n n hi:Nat):Int) 1)) _ _ s;rw[ly];exact J9 h
theorem dk (xs:Array Jo)(i k:Nat):((List.range k).filterMap λ(m:Nat)=>xs[((i:Int)+(m:Int)*1).toNat]?).toArray=((xs.toList.drop i).take k).toArray:=by
  have e:(λ(m:Nat)=>xs[((i:Int)+(m:Int)*1).toNat]?)=λm=>xs[i+m]?:=by
    funext m
    have:((i:Int)+(m:Int)*1).toNat=i+m:=by grind
    rw[this]
  rw[e];have:=pick_run xs i k;rw[ZR]at this;have e2:((λx=>xs[x]?)∘λx=>i+x)=λm=>xs[i+m]?:=rfl;rw[e2]at this;rw[this]
theorem getItem_tuple_cut {t sl:JI}{items:Array Jo}{i g:Jo}{lo hi:Option Int}{Q:Jo->JO->Prop}(b:IsTup s.heap t items) (hs:s.heap.IsSliceOf sl i g .none) (j:IsPart i lo) (pu:IsPart g hi)
    (k:¬(sIx items.size 0 lo=0/\sIx items.size items.size hi=items.size))
    (h:Q (.ref s.heap.objs.size) { s with heap:=s.heap.push { cls:=.type "tuple",data:=.seq ((items.toList.drop (sIx items.size 0 lo)).take (sIx items.size items.size hi-sIx items.size 0 lo)).toArray } })
    (l:items.size<=sizeLine):wpAny (model prog w) A (getItem (.ref t) (.ref sl)) Q E s:=by
  have a:sizeOk (.seq ((items.toList.drop (sIx items.size 0 lo)).take (sIx items.size items.size hi-sIx items.size 0 lo)).toArray):=by
    show ((items.toList.drop (sIx items.size 0 lo)).take (sIx items.size items.size hi-sIx items.size 0 lo)).toArray.size<=sizeLine;rw[Jh,Jw,YD,JF];omega
  have r:sIx items.size items.size hi<=items.size:=za2 _ _ (Jg _) hi;obtain⟨os,c,e,n⟩:=id hs;have f:s.TypeIs (.ref sl) "slice":=⟨os,c,e⟩;unfold getItem
  try with_reducible refine Yd ?_
  first|refine J0 (J9 ?_)|skip
  refine J0 (wpAny_sequenceKey b.typeIs (by decide) ?_)
  refine J0 (wpAny_callSpecial?_slot (name:=Str.ofString "__getitem__") b.typeIs ZZ
    (Yr ZZ b.typeIs entry_tuple_getitem ?_ (args_tuple_getitem _ _)))
  show wpAny _ _ (Builtin.Tuple.tupleItemsOf (.ref t) >>= _) _ _ s;refine J0 (tupleItemsOf_ b ?_);refine J0 (ZB f ?_);rw[Jm (by decide)];refine J0 (sliceApplied_gen hs j pu ?_)
  have d:¬((((sIx items.size 0 lo:Nat):Int) == 0 && (1:Int) == 1 && (sIx items.size items.size hi-sIx items.size 0 lo) == items.size)=true):=by
    intro q;rw[Z8,Z8]at q;have p:((sIx items.size 0 lo:Nat):Int)=0:=eq_of_beq q.1.1;have o:sIx items.size items.size hi-sIx items.size 0 lo=items.size:=eq_of_beq q.2;exact k ⟨by simp_all,by simp_all⟩
  show wpAny _ _ (if (((sIx items.size 0 lo:Nat):Int) == 0 && (1:Int) == 1 && (sIx items.size items.size hi-sIx items.size 0 lo) == items.size)=true then _ else _) _ _ s;rw[Jf d,dk]
  first
    | exact J0 (m:=Builtin.Tuple.tupleExact _) (JR (J9 ⟨_,rfl,J9 h⟩) a)
    | exact J0 (m:=Builtin.Tuple.tupleExact _) (JR (J0 (J9 (J9 ⟨_,rfl,J9 h⟩))) a)
    | exact J0 (J0 (m:=Builtin.Tuple.tupleExact _) (JR (J9 (J9 ⟨_,rfl,J9 h⟩)) a))
    | exact J0 (J0 (m:=Builtin.Tuple.tupleExact _) (JR (J9 ⟨_,rfl,J9 h⟩) a))
end
end HT
namespace L2
open PySem PySem.Spec PyProof.Rows
abbrev TO:=St->Hp->(Option Int->Hp->Prop)->Prop
def PO (X:Cx)(e:Option Expr)(t:TO):Prop :=
  ∀ (pins:List (JI × Obj)) (s:JO) (σ:St) (H:Hp) (Q:Option Int->Hp->Prop),Inv X pins σ H s->t σ H Q ->
    wpAny (model X.prog X.w) X.A (evalPart e X.env) (λu b=>∃ o a,Inv X pins σ a b/\IsPart u o/\Q o a) X.xe s
def aG:TO:=λ_ H Q=>Q none H
def zbW (t:TE):TO:=λσ H Q=>t σ H λx a=>∃ i,x=.int i/\Q (some i) a
theorem rN {ns:List Int}:∀ {us:List Jo},Vals (ns.map V.int) us->IntsAre us ns:=by
  induction ns with
  | nil=>intro us r;rw[List.map_nil]at r;cases r;exact .nil
  | cons n ns ih =>
    intro us r;rw[Y1]at r
    cases r with
    | cons b a =>
      obtain⟨t,e⟩:=b;subst e;exact .cons n t (ih a)
section
variable {X:Cx}{e:Expr}{te:TE}{lo hi:Option Expr}{tl th:TO}{pos p2:Pos}
theorem yS:PO X none aG:=by
  intro pins s σ H Q I h;rw[evalPart_none];exact J9 ⟨none,H,I,.none,h⟩
theorem yB (h:PE X e te):PO X (some e) (zbW te):=by
  intro pins s σ H Q I c;rw[evalPart_some];refine thn (h pins s σ H _ I c) λu g ⟨x,f,d,a,b⟩=>?_;obtain⟨i,rfl,q⟩:=b;obtain⟨t,rfl⟩:=a;exact⟨some i,f,d,.int i t,q⟩
def SlR (X:Cx)(r:V->Option Int->Option Int->Hp->VK->Prop):Prop :=
  ∀ (pins:List (JI × Obj)) (s:JO) (σ:St) (H:Hp) (x:V) (v b a:Jo) (lo hi:Option Int) (c:JI) (Q:VK),Inv X pins σ H s->RelV x v->s.heap.IsSliceOf c b a .none->IsPart b lo->IsPart a hi->r x lo hi H Q ->
    ∃ T id,typeLookup (.type T) "__getitem__" = pure (some (.builtin id))/\s.TypeIs v T/\wpAny (model X.prog X.w) X.A (getItem v (.ref c)) (EP X pins σ Q) X.xe s
def tSl (r:V->Option Int->Option Int->Hp->VK->Prop)(te:TE)(tl th:TO):TE:=λσ H Q=>te σ H λx c=>tl σ c λl b=>th σ b λu a=>r x l u a Q
theorem yL {r:V->Option Int->Option Int->Hp->VK->Prop}(w:SlR X r)(A:PE X e te)(y:PO X lo tl)(p:PO X hi th):PE X (.Subscript e (.Slice lo hi none p2) pos) (tSl r te tl th):=by
  intro pins s σ H Q I h;refine Subscript_ (thn (A pins s σ H _ I h) λv i ⟨x,J,F,j,n⟩=>?_);refine wpAny_Slice (thn (y pins i σ J _ F n) λd g ⟨l,G,E,o,m⟩=>thn (p pins g σ G _ E m) λc a ⟨u,f,D,pu,k⟩=>?_);rw[evalPart_none];refine J9 ?_;have C:Inv X pins σ f { a with heap:=a.heap.push { cls:=.type "slice",data:=.fields #[d,c,.none] } }:=D.kept (t':=a.toks) λb ob q=>J8 _ q;obtain⟨T,id,B,t,z⟩:=w pins { a with heap:=a.heap.push { cls:=.type "slice",data:=.fields #[d,c,.none] } } σ f x v d c l u a.heap.objs.size Q C j (Heap.IsSliceOf.new ..) o pu k;show wpAny (model X.prog X.w) X.A (subscriptTail e (.Slice lo hi none p2) v (.ref a.heap.objs.size)) (EP X pins σ Q) X.xe { a with heap:=a.heap.push { cls:=.type "slice",data:=.fields #[d,c,.none] } };exact tail_any (ops:=[.ref a.heap.objs.size,v]) t B z (by with_unfolding_all rfl)
def xW (xs:List V)(lo hi:Option Int):List V:=(xs.drop (HT.sIx xs.length 0 lo)).take (HT.sIx xs.length xs.length hi-HT.sIx xs.length 0 lo)
theorem tK (xs:List V)(lo hi:Option Int):(xW xs lo hi).length<=xs.length:=by
  unfold xW;rw[Jw,YD]
  grind
def zcS (K:Jl):V->Option Int->Option Int->Hp->VK->Prop:=λx lo hi H Q=>∃ a b,x=.ref a/\SqT K H a b /\
  ¬(HT.sIx b.length 0 lo=0/\HT.sIx b.length b.length hi=b.length)/\∀ p,H p=none->Q (.ref p) (upd H p (.tup (xW b lo hi)))
theorem zaS:SlR X (zcS X.K):=by
  intro pins s σ H x v n m lo hi p Q I g l i pu h;obtain⟨a,c,rfl,j,k,q⟩:=h;cases g;obtain⟨d,r,f,e⟩:=I.tuple j;have hlen:d.toArray.size=c.length:=by rw[Jh];exact r.length.symm
  refine⟨"tuple",_,PyProof.Rows.slot_tuple_getitem.lookup,f.typeIs,?_⟩;refine HT.getItem_tuple_cut f l i pu (by rw[hlen];exact k) ?_ (by rw[hlen];exact e);rw[hlen];refine⟨.ref s.heap.objs.size,_,I.laid (t':=s.toks) (o:=.tup (xW c lo hi)) (λb ob q=>J8 _ q) (Jg _) ?_,rfl,q _ (I.hok.fresh (Jg _))⟩;exact⟨JX (tK c lo hi) e,_,(r.drop (HT.sIx c.length 0 lo)).take (HT.sIx c.length c.length hi-HT.sIx c.length 0 lo),TupX.new _ _⟩
def zcW (K:Jl):R2:=λx y H Q=>∃ a b ns ms,x=.ref a/\y=.ref b/\SqT K H a (ns.map V.int)/\SqT K H b (ms.map V.int)/\Q (.bl (HT.lexLt ns ms)) H
theorem zbi (m:X.A.units<cLine):OpR X (compareOp .Lt) (zcW X.K):=by
  intro pins s σ H x y v u Q I f e h;obtain⟨a,b,ns,ms,rfl,rfl,o,n,q⟩:=h;cases f;cases e;obtain⟨d,i,j,_⟩:=I.tuple o;obtain⟨c,g,p2,_⟩:=I.tuple n;have l:IntsAre d.toArray.toList ns:=rN i;have k:IntsAre c.toArray.toList ms:=rN g;exact HT.lt_tupInts j p2 l k m ⟨.bl (HT.lexLt ns ms),H,I,rfl,q⟩
def zcf (K:Jl):R2:=λx y H Q=>∃ a b d c,x=.ref a/\y=.ref b/\SqT K H a d/\SqT K H b c/\d≠[]/\d.length+c.length<=sizeLine /\
  (c=[]->Q (.ref a) H)/\(c≠[]->∀ p,H p=none->Q (.ref p) (upd H p (.tup (d++c))))
theorem Vals.nil_iff {xs:List V}{us:List Jo}(r:Vals xs us):us=[]↔xs=[]:=by
  cases r with
  | nil=>simp
  | cons _ _=>simp
theorem ag:OpR X (binaryOp .Add) (zcf X.K):=by
  intro pins s σ H x y v u Q I k j h;obtain⟨a,b,i,g,rfl,rfl,t,r,p,e,m,l⟩:=h;cases k;cases j;obtain⟨A,d,n,_⟩:=I.tuple t;obtain⟨f,c,p2,_⟩:=I.tuple r;refine HT.cat_tup n p2 (λz=>p (d.nil_iff.mp z)) (λz=>⟨.ref a,H,I,rfl,m (c.nil_iff.mp z)⟩) (λz=>?_) (by rw[<- d.length,<- c.length];exact e);refine⟨.ref s.heap.objs.size,_,I.laid (t':=s.toks) (o:=.tup (i++g)) (λb ob q=>J8 _ q) (Jg _) ?_,rfl,l (λw=>z (c.nil_iff.mpr w)) _ (I.hok.fresh (Jg _))⟩;exact⟨by rw[Jd];exact e,_,d.append c,TupX.new _ _⟩
end
def ixN (n:Nat)(i:Int):Option Nat:=if 0<=i then (if i<n then some i.toNat else none) else if -(n:Int)<=i then some (i+n).toNat else none
def atI {α:Type}(xs:List α)(i:Int):Option α:=(ixN xs.length i).bind λj=>xs[j]?
theorem oK {n:Nat}{i:Int}{j:Nat}(h:ixN n i=some j):seqIndex? i n=some j/\j<n/\-(n:Int)<=i/\i<n:=by
  unfold ixN at h;by_cases b:0<=i
  · rw[Jm b]at h
    by_cases a:i<n
    · rw[Jm a]at h
      have e:i.toNat=j:=Jp h;exact⟨by rw[seqIndex_of b a,e],by omega,by grind,a⟩
    · rw[Jf a]at h;cases h
  · rw[Jf b]at h
    by_cases a:-(n:Int)<=i
    · rw[Jm a]at h
      have e:(i+n).toNat=j:=Jp h;exact⟨by rw[seqIndex_neg (by simp_all) a,e],by grind,a,by grind⟩
    · rw[Jf a]at h;cases h
theorem j9 {α:Type}{xs:List α}{i:Int}{v:α}(h:atI xs i=some v):∃ j,seqIndex? i xs.length=some j/\xs[j]?=some v/\j<xs.length/\-(xs.length:Int)<=i/\i<xs.length:=by
  unfold atI at h
  cases e:ixN xs.length i with
  | none=>rw[e]at h;cases h
  | some j =>
    rw[e]at h;obtain⟨d,c,b,a⟩:=oK e;exact⟨j,d,h,c,b,a⟩
theorem yT {α:Type}{xs:List α}{j:Nat}{v:α}(h:xs[j]?=some v):atI xs (j:Int)=some v:=by
  have a:j<xs.length:=(Jb.mp h).1
  have e:ixN xs.length (j:Int)=some j:=by
    unfold ixN;rw[Jm (by simp_all),Jm (by simp_all)];simp
  unfold atI;rw[e];exact h
def PlainIx (b:Expr):Prop:=∀ o i,subscripted b false o i=operate [o,i] (getItem o i)
def IxR (X:Cx)(r:R2):Prop :=
  ∀ (value slice:Expr) (pins:List (JI × Obj)) (s:JO) (σ:St) (H:Hp) (x y:V) (v u:Jo) (Q:VK),Inv X pins σ H s->RelV x v->RelV y u->r x y H Q ->
    subscripted slice false v u=operate [v,u] (getItem v u)->wpAny (model X.prog X.w) X.A (subscriptTail value slice v u) (EP X pins σ Q) X.xe s
def MtR (X:Cx)(id:String)(r:V->List V->Hp->VK->Prop):Prop :=
  ∀ (pins:List (JI × Obj)) (s:JO) (σ:St) (H:Hp) (x:V) (a:List V) (v:Jo) (b:List Jo) (Q:VK),Inv X pins σ H s->RelV x v->Vals a b->r x a H Q ->
    wpAny (model X.prog X.w) X.A (call (.builtin id) (v::b)) (EP X pins σ Q) X.xe s
section
variable {X:Cx}{a b:Expr}{ta tb:TE}{pos:Pos}
theorem zY {r:R2}(f:IxR X r)(ha:PE X a ta)(hb:PE X b tb)(hs:PlainIx b):PE X (.Subscript a b pos) (tOp r ta tb):=by
  intro pins s σ H Q I h;exact Subscript_ (zbP ha hb I h λv u c x y i g e d q=>f a b pins c σ i x y v u Q g e d q (hs _ _))
def iV (K:Jl):R2:=λx y H Q=>∃ p a i v,x=.ref p/\y=.int i/\SqL K H p a/\atI a i=some v/\Q v H
def zbb (K:Jl):R2:=λx y H Q=>∃ p a i v,x=.ref p/\y=.int i/\SqT K H p a/\atI a i=some v/\Q v H
theorem zj:IxR X (iV X.K):=by
  intro value slice pins s σ H x y v u Q I n m h f;obtain⟨p,F,i,z,rfl,rfl,o,B,q⟩:=h;cases n;obtain⟨t,rfl⟩:=m;obtain⟨e,r,b,G⟩:=I.list o;obtain⟨j,a,E,K,D,C⟩:=j9 B;obtain⟨w,k,d⟩:=r.get E;have A:=r.length;have J:=rF;have fin:EP X pins σ Q w s:=⟨z,H,I,d,q⟩;by_cases g:0<=i
  · have c:i.toNat=j:=by
      rw[seqIndex_of g C]at a;exact Jp a
    exact item_listR b.isList g (by lia) (by rw[c];simpa using k) fin f
  · have c:(i+(e.toArray.size:Int)).toNat=j:=by
      rw[seqIndex_neg (by simp_all) D]at a;rw[Jh,<- A];exact Jp a
    exact subscriptTail_builtinR (x:=w) b.isList.typeIs slot_list_getitem.lookup
      (wpAny_getItem_list_neg (Q:=λr l=>r=w/\EP X pins σ Q r l) b.isList (by simp_all) (by rw[Jh]<;>simp_all) (by grind) (by rw[c];simpa using k) ⟨rfl,fin⟩) f
theorem yP:IxR X (zbb X.K):=by
  intro value slice pins s σ H x y v u Q I e d h f;obtain⟨p,B,i,z,rfl,rfl,g,l,q⟩:=h;cases e;obtain⟨t,rfl⟩:=d;obtain⟨A,r,b,C⟩:=I.tuple g;obtain⟨j,n,m,G,F,E⟩:=j9 l;obtain⟨w,o,a⟩:=r.get m;have k:=r.length;have D:=rF;have fin:EP X pins σ Q w s:=⟨z,H,I,a,q⟩
  exact subscriptTail_builtinR (x:=w) b.typeIs slot_tuple_getitem.lookup
    (getItem_tuple (j:=j) (Q:=λr c=>r=w/\EP X pins σ Q r c) b (by grind) (by grind) (by rw[Jh,<- k];exact n) (by simpa using o) ⟨rfl,fin⟩) f
theorem kK (its:List Jo)(n j:Nat)(u:Jo):Obj.mapSeq (·.setIfInBounds j u) { cls:=.type "list",data:=.seq its.toArray n }={ cls:=.type "list",data:=.seq (its.set j u).toArray n }:=by
  simp[Obj.mapSeq]
theorem Inv.lst {pins:List (JI × Obj)}{σ:St}{H:Hp}{s:JO}{p:JI}{xs:List V}(I:Inv X pins σ H s)(h:H p=some (.lst xs)) :
    ∃ (its:List Jo) (n:Nat),Vals xs its/\s.heap.get? p=some { cls:=.type "list",data:=.seq its.toArray n }/\xs.length<=sizeLine:=by
  obtain⟨z,its,n,r,e⟩:=I.hok p _ h;exact⟨its,n,r,e,z⟩
theorem Inv.lstUpd {pins:List (JI × Obj)}{σ:St}{H:Hp}{s:JO}{p:JI}{xs ys:List V}{its its':List Jo}{n a:Nat}{f:Obj->Obj}(I:Inv X pins σ H s) (h:H p=some (.lst xs))
    (g:s.heap.get? p=some { cls:=.type "list",data:=.seq its.toArray n }) (c:f { cls:=.type "list",data:=.seq its.toArray n }={ cls:=.type "list",data:=.seq its'.toArray a }) (r:Vals ys its') (d:ys.length<=sizeLine) (t:Nat) :
    Inv X pins σ (upd H p (.lst ys)) { s with heap:=s.heap.update p f,toks:=t }:=by
  have e:(s.heap.update p f).get? p=some { cls:=.type "list",data:=.seq its'.toArray a }:=by
    rw[Yt f g (by rw[c]<;>rfl),c]
  refine I.write (x:=p) (e:=p) (by rw[h];trivial) (.inl rfl) (λb u i q=>(JS _ _ (Ne.symm i)).trans q) ⟨_,e⟩ ?_;exact⟨d,its',a,r,e⟩
def zcd:V->V->V->Hp->(Hp->Prop)->Prop:=λo i v H Q=>∃ p a k j,o=.ref p/\i=.int k/\H p=some (.lst a)/\ixN a.length k=some j/\Q (upd H p (.lst (a.set j v)))
theorem yh:PSet X zcd:=by
  intro pins s σ H o i v D E u Q I z A y h;obtain⟨p,x,k,j,rfl,rfl,f,C,q⟩:=h;cases z;obtain⟨t,rfl⟩:=A;obtain⟨a,n,r,c,B⟩:=I.lst f;obtain⟨b,G,l,g⟩:=oK C;have d:=r.length;have F:=rF
  have w:Inv X pins σ (upd H p (.lst (x.set j v))) { s with heap:=s.heap.update p (Obj.mapSeq (·.setIfInBounds j u)) } :=
    I.lstUpd f c (kK a n j u) (r.set y j) (by rw[Z4];exact B) s.toks
  by_cases m:0<=k
  · have e:k.toNat=j:=by
      rw[seqIndex_of m g]at b;exact Jp b
    exact PySem.W.ki_setAt c m (by grind) (by rw[Jh,<- d];exact g) (by rw[e];exact⟨_,w,q⟩)
  · have e:(k+(a.toArray.size:Int)).toNat=j:=by
      rw[seqIndex_neg (by simp_all) l]at b;rw[Jh,<- d];exact Jp b
    exact PySem.W.ki_setBack c (by simp_all) (by rw[Jh,<- d];exact l) (by grind) (by rw[e];exact⟨_,w,q⟩)
theorem pK (lo hi:Option Int)(n:Nat):(sliceBounds lo hi none n).1=((HT.sIx n 0 lo:Nat):Int)/\(sliceBounds lo hi none n).2.1=((HT.sIx n n hi:Nat):Int)/\(sliceBounds lo hi none n).2.2=1:=by
  refine⟨?_,?_,rfl⟩
  · cases lo with
    | none=>simp[sliceBounds,HT.sIx]
    | some i =>
      simp only[sliceBounds,HT.sIx,Option.getD_none,show (1:Int) > 0 by decide,YU];by_cases h:i<0
      · simp only[h,YU]<;>grind
      · simp only[h,Zy]<;>grind
  · cases hi with
    | none=>simp[sliceBounds,HT.sIx]
    | some i =>
      simp only[sliceBounds,HT.sIx,Option.getD_none,show (1:Int) > 0 by decide,YU];by_cases h:i<0
      · simp only[h,YU]<;>grind
      · simp only[h,Zy]<;>grind
theorem rh (its:List Jo)(lo hi:Option Int):slicePick its.toArray lo hi none=((its.drop (HT.sIx its.length 0 lo)).take (HT.sIx its.length its.length hi-HT.sIx its.length 0 lo)).toArray:=by
  obtain⟨c,b,a⟩:=pK lo hi its.toArray.size;unfold slicePick;rw[c,b,a];simp only[sliceRange_one,pick_run,Jh]<;>rfl
def zcT (K:Jl):V->Option Int->Option Int->Hp->VK->Prop:=λx lo c H Q=>∃ a b,x=.ref a/\SqL K H a b/\∀ p,H p=none->Q (.ref p) (upd H p (.lst (xW b lo c)))
theorem wW:SlR X (zcT X.K):=by
  intro pins s σ H x v n m lo d p Q I f k g pu h;obtain⟨a,c,rfl,j,q⟩:=h;cases f;obtain⟨l,r,e,i⟩:=I.list j;have hlen:=r.length;refine⟨"list",_,slot_list_getitem.lookup,e.isList.typeIs,?_⟩;refine wpAny_getItem_list_slice e.isList k g pu .none (by simp) ?_ (by rw[Jh]<;>simp_all);rw[rh,<- hlen];refine⟨.ref s.heap.objs.size,_,I.laid (t':=s.toks) (o:=.lst (xW c lo d)) (λb ob q=>J8 _ q) (Jg _) ?_,rfl,q _ (I.hok.fresh (Jg _))⟩;exact⟨JX (tK c lo d) i,_,0,(r.drop (HT.sIx c.length 0 lo)).take (HT.sIx c.length c.length d-HT.sIx c.length 0 lo),Jq _ rfl⟩
def uQ:V->Bool
  | .non=>true
  | .bl _=>true
  | .int _=>true
  | .str _=>true
  | _=>false
def eqV:V->V->Bool
  | .non,.non=>true
  | .bl a,.bl b=>a == b
  | .bl a,.int b=>(if a then 1 else 0) == b
  | .int a,.bl b=>a == (if b then 1 else 0)
  | .int a,.int b=>a == b
  | .str a,.str b=>a == b
  | _,_=>false
theorem bY {A:YO}{s:JO}{y x:V}{u v:Jo}(e:RelV y u)(c:RelV x v)(g:uQ y=true)(f:uQ x=true):SeqAt.EqAt A s u v (eqV y x):=by
  cases y with
  | non =>
    cases e
    cases x with
    | non=>cases c;exact SeqAt.EqAt.same _
    | bl b=>cases c;exact SeqAt.EqAt.none_bool b
    | int b=>obtain⟨t,rfl⟩:=c;exact SeqAt.EqAt.none_int b t
    | str b=>obtain⟨t,rfl⟩:=c;exact SeqAt.EqAt.none_str b t
    | _=>exact absurd (show false=true from f) Jj
  | bl a =>
    cases e
    cases x with
    | non=>cases c;exact SeqAt.EqAt.bool_none a
    | bl b=>cases c;exact SeqAt.EqAt.bool_bool a b
    | int b=>obtain⟨t,rfl⟩:=c;exact SeqAt.EqAt.bool_int a b t
    | str b=>obtain⟨t,rfl⟩:=c;exact SeqAt.EqAt.bool_str a b t
    | _=>exact absurd (show false=true from f) Jj
  | int a =>
    obtain⟨d,rfl⟩:=e
    cases x with
    | non=>cases c;exact SeqAt.EqAt.int_none a d
    | bl b=>cases c;exact SeqAt.EqAt.int_bool a d b
    | int b=>obtain⟨t,rfl⟩:=c;exact SeqAt.EqAt.int_int a d b t
    | str b=>obtain⟨t,rfl⟩:=c;exact SeqAt.EqAt.int_str a d b t
    | _=>exact absurd (show false=true from f) Jj
  | str a =>
    obtain⟨d,rfl⟩:=e
    cases x with
    | non=>cases c;exact SeqAt.EqAt.str_none a d
    | bl b=>cases c;exact SeqAt.EqAt.str_bool a d b
    | int b=>obtain⟨t,rfl⟩:=c;exact SeqAt.EqAt.str_int a d b t
    | str b=>obtain⟨t,rfl⟩:=c;exact SeqAt.EqAt.str_str a d b t
    | _=>exact absurd (show false=true from f) Jj
  | _=>exact absurd (show false=true from g) Jj
def eqU (x:V)(u:Jo):Bool:=match u with
  | .none=>eqV .non x
  | .bool b=>eqV (.bl b) x
  | .int i _=>eqV (.int i) x
  | .str z _=>eqV (.str z) x
  | _=>false
theorem bW {x y:V}{u:Jo}(r:RelV y u)(f:uQ y=true):eqU x u=eqV y x:=by
  cases y with
  | non=>cases r;rfl
  | bl b=>cases r;rfl
  | int i=>obtain⟨t,rfl⟩:=r;rfl
  | str z=>obtain⟨t,rfl⟩:=r;rfl
  | _=>exact absurd (show false=true from f) Jj
theorem uU {x:V}:∀ {xs:List V}{us:List Jo},Vals xs us->xs.all uQ=true->us.any (eqU x)=xs.any λy=>eqV y x
  | _,_,.nil,_=>rfl
  | y::xs,u::us,.cons r t,f=>by
    rw[List.all_cons,Z8]at f;rw[List.any_cons,List.any_cons,bW r f.1,uU t f.2]
theorem ww {A:YO}{s:JO}{x:V}{v:Jo}(b:RelV x v)(c:uQ x=true):∀ {xs:List V}{us:List Jo},Vals xs us->xs.all uQ=true->∀ u∈us,SeqAt.EqAt A s u v (eqU x u)
  | _,_,.nil,_=>λu a=>by cases a
  | y::xs,u::us,.cons r t,f=>λd a=>by
    rw[List.all_cons,Z8]at f;rcases Jr.mp a with rfl|a
    · rw[bW r f.1];exact bY r b f.1 c
    · exact ww b c t f.2 d a
def inV (x:V)(xs:List V):Bool:=xs.any λy=>eqV y x
def rIn (K:Jl)(neg:Bool):R2:=λx y H Q=>∃ p a,y=.ref p/\(SqL K H p a\/SqT K H p a)/\uQ x=true/\a.all uQ=true/\Q (.bl (if neg then !inV x a else inV x a)) H
theorem qO:OpR X (compareOp .In) (rIn X.K false):=by
  intro pins s σ H x y v u Q I e g h;obtain⟨p,j,rfl,b,f,fs,q⟩:=h;cases g;rcases b with b|b
  · obtain⟨a,r,c,i⟩:=I.list b
    refine SeqAt.in_listAt (eqU x) c.isList (λw d=>ww e f r fs w (by simpa using d)) ⟨.bl _,H,I,rfl,?_⟩;rw[show a.toArray.any (eqU x)=a.any (eqU x) by simp,uU r fs];exact q
  · obtain⟨a,r,c,i⟩:=I.tuple b
    refine SeqAt.in_tupleAt (eqU x) c (λw d=>ww e f r fs w (by simpa using d)) ⟨.bl _,H,I,rfl,?_⟩;rw[show a.toArray.any (eqU x)=a.any (eqU x) by simp,uU r fs];exact q
theorem oA:OpR X (compareOp .NotIn) (rIn X.K true):=by
  intro pins s σ H x y v u Q I e g h;obtain⟨p,j,rfl,b,f,fs,q⟩:=h;cases g;rcases b with b|b
  · obtain⟨a,r,c,i⟩:=I.list b
    refine SeqAt.notIn_listAt (eqU x) c.isList (λw d=>ww e f r fs w (by simpa using d)) ⟨.bl _,H,I,rfl,?_⟩;rw[show a.toArray.any (eqU x)=a.any (eqU x) by simp,uU r fs];exact q
  · obtain⟨a,r,c,i⟩:=I.tuple b
    refine SeqAt.notIn_tupleAt (eqU x) c (λw d=>ww e f r fs w (by simpa using d)) ⟨.bl _,H,I,rfl,?_⟩;rw[show a.toArray.any (eqU x)=a.any (eqU x) by simp,uU r fs];exact q
theorem zp:CallR X (.builtin "len") (λxs H Q=>∃ p ys,xs=[.ref p]/\(SqL X.K H p ys\/SqT X.K H p ys)/\Q (.int ys.length) H):=by
  intro pins s σ H xs g Q I r h;obtain⟨p,ys,rfl,a,q⟩:=h;obtain⟨u,rfl,e⟩:=qD r;cases e;have i:=rF;rcases a with a|a
  · obtain⟨d,b,c,f⟩:=I.list a
    have hlen:=b.length;exact Calls.call_len_list c.isList (by simp only[Jh]<;>lia) ⟨.int ys.length,H,I.tok _,⟨s.toks+1,by rw[Jh,hlen]⟩,q⟩
  · obtain⟨d,b,c,f⟩:=I.tuple a
    have hlen:=b.length;exact len_tuple c (by simp only[Jh]<;>grind) ⟨.int ys.length,H,I.tok _,⟨s.toks+1,by rw[Jh,hlen]⟩,q⟩
theorem yn:CallR X (.type "list") (λxs H Q=>∃ p ys,xs=[.ref p]/\(SqL X.K H p ys\/SqT X.K H p ys)/\∀ l,H l=none->Q (.ref l) (upd H l (.lst ys))):=by
  intro pins s σ H xs y Q I r h;obtain⟨p,ys,rfl,j,q⟩:=h;obtain⟨u,rfl,x⟩:=qD r;cases x
  have fin:∀ (a:List Jo),Vals ys a->ys.length<=sizeLine->∀ (c:YP) (f:Nat),(∀ b w,s.heap.get? b=some w->c.get? b=some w) ->
      c.get? s.heap.objs.size=some { cls:=.type "list",dict:=none,data:=.seq a.toArray f,slots:=#[] }->EP X pins σ Q (.ref s.heap.objs.size) { s with heap:=c }:=λa d i c f g e =>
    ⟨.ref s.heap.objs.size,_,I.laid (t':=s.toks) g (Jg _) (show ObjOk X.prog X.w _ c _ (.lst ys) from⟨i,a,f,d,e⟩),rfl,q _ (I.hok.fresh (Jg _))⟩
  rcases j with j|j
  · obtain⟨a,d,k,i⟩:=I.list j
    have hlen:=d.length;obtain⟨o,m,v,n,t⟩:=k.isList;exact call_list_seq p (.inl rfl) m v t (λc f g e=>fin a d i c f g e) (by simp only[Jh]<;>simp_all)
  · obtain⟨a,d,k,i⟩:=I.tuple j
    have hlen:=d.length;obtain⟨o,m,v,n,t⟩:=k;exact call_list_seq p (.inr rfl) m v t (λc f g e=>fin a d i c f g e) (by simp only[Jh]<;>simp_all)
theorem zr:CallR X (.type "tuple") (λxs H Q=>∃ p ys,xs=[.ref p]/\((SqL X.K H p ys/\∀ l,H l=none->Q (.ref l) (upd H l (.tup ys)))\/(SqT X.K H p ys/\Q (.ref p) H))):=by
  intro pins s σ H xs t Q I r h;obtain⟨p,ys,rfl,h⟩:=h;obtain⟨u,rfl,k⟩:=qD r;cases k;rcases h with ⟨g,q⟩|⟨g,q⟩
  · obtain⟨a,d,f,i⟩:=I.list g
    have hlen:=d.length;refine call_tuple_list f.isList (λc m=>?_) (by simp only[Jh]<;>simp_all);have j:Inv X pins σ H { s with heap:=c }:=I.kept (t':=s.toks) m
    have n:Inv X pins σ (upd H c.objs.size (.tup ys)) { s with heap:=c.push { cls:=.type "tuple",data:=.seq a.toArray } } :=
      j.laid (t':=s.toks) (λb o e=>J8 _ e) (Jg _) (show ObjOk X.prog X.w _ _ _ (.tup ys) from⟨i,a,d,TupX.new _ _⟩)
    exact⟨.ref c.objs.size,_,n,rfl,q _ (j.hok.fresh (Jg _))⟩
  · obtain⟨a,d,f,i⟩:=I.tuple g
    exact call_tuple_same f ⟨.ref p,H,I,rfl,q⟩
def tyV (K:Jl)(T:String)(x:V)(H:Hp):Prop:=match x with
  | .str _=>T = "str"
  | .int _=>T = "int"
  | .ref p=>(T = "list"/\∃ b,SqL K H p b)\/(T = "tuple"/\∃ o,K.lookup p=some o/\o.cls=.type "tuple"/\o.dict=none) \/
      (T = "dict"/\((∃ a,H p=some (.dK a))\/∃ a,H p=some (.dT a)))\/(T = "set"/\∃ S n,H p=some (.set S n))
  | _=>False
theorem zaH {pins:List (JI × Obj)}{σ:St}{H:Hp}{s:JO}{T:String}{x:V}{v:Jo}(I:Inv X pins σ H s)(r:RelV x v)(ty:tyV X.K T x H) :
    s.TypeIs v T/\∀ a,v=.ref a->∃ ob,s.heap.get? a=some ob/\ob.dict=none:=by
  cases x with
  | str z =>
    obtain⟨t,rfl⟩:=r;cases (show T = "str" from ty)
    exact⟨typeIs_str s z t,λ_ e=>nomatch e⟩
  | int i =>
    obtain⟨t,rfl⟩:=r;cases (show T = "int" from ty)
    exact⟨typeIs_int s i t,λ_ e=>nomatch e⟩
  | ref p =>
    cases r;rcases ty with ⟨rfl,l,h⟩|⟨rfl,o,b,j,d⟩|⟨rfl,b⟩|⟨rfl,S,n,b⟩
    · obtain⟨k,_,g,_⟩:=I.list h
      refine⟨g.isList.typeIs,λa e=>?_⟩;cases e;obtain⟨o,n,e,c,d,_⟩:=g;exact⟨o,e,d⟩
    · refine⟨⟨o,I.kIn p o b,j⟩,λa e=>?_⟩
      cases e;exact⟨o,I.kIn _ o b,d⟩
    · have z:∃ o,s.heap.get? p=some o/\o.ExactDict:=by
        rcases b with ⟨f,b⟩|⟨f,b⟩
        · obtain⟨_,_,_,_,o,_,_,e,ex,_⟩:=I.hok p _ b
          exact⟨o,e,ex⟩
        · obtain⟨_,_,_,_,o,_,_,e,ex,_⟩:=I.hok p _ b
          exact⟨o,e,ex⟩
      obtain⟨o,e,ex⟩:=z;refine⟨⟨o,e,ex.1⟩,λa e2=>?_⟩;cases e2;exact⟨o,e,ex.2.1⟩
    · obtain⟨o,_,_,_,e,ex,_⟩:=I.hok p _ b
      refine⟨⟨o,e,ex.1⟩,λa e2=>?_⟩;cases e2
      exact⟨o,e,ex.2.1⟩
  | _=>exact False.elim ty
def tBM (K:Jl)(T:String)(r:V->List V->Hp->VK->Prop)(to:TE)(t:TA):TE:=λσ H Q=>to σ H λx a=>tyV K T x a/\t σ a λb c=>r x b c Q
variable {o e:Expr}{es:List Expr}{to:TE}{t:TA}{name:Str}{apos cpos:Pos}{T id:String}{r:V->List V->Hp->VK->Prop}
theorem wd (w:PlainAttrs T) (slot:Slot T name id) (f:typeOf (.builtin id)=pure (.type "method_descriptor")) (A:MtR X id r) (z:PE X o to) (ha:PA X (e::es) t)
    (c:attributeBase o name X.env (eval o X.env)=eval o X.env:=by rfl)
    (d:((backTo cpos (starEach (e::es) X.env)).all (λx=>!x.1) && (backToKw cpos (keywordEach [] X.env)).all (λx=>x.1.isSome)
      && decide ((e::es).length+([]:List Keyword).length+(if ([]:List Keyword).isEmpty then 0 else 1)<30))=true:=by rfl)
    (b:(apos.endLine == cpos.line)=true:=by rfl) (y:starEach (e::es) X.env=(false,eval e X.env)::starEach es X.env:=by rfl) (a:(backTo cpos (starEach es X.env)).any (·.1)=false:=by rfl) :
    PE X (.Call (.Attribute o name apos) (e::es) [] cpos) (tBM X.K T r to t):=by
  intro pins s σ H Q I h;refine wpAny_Call_method_late c d b rfl (thn (z pins s σ H _ I h) λv n ⟨x,F,j,g,ty,u⟩=>?_);obtain⟨C,B⟩:=zaH j g ty;refine⟨T,id,w,slot,f,C,B,?_⟩;have i:=ha cpos pins n σ F _ j u;rw[y]at i ⊢;refine ZS (by show (false || (backTo cpos (starEach es X.env)).any (·.1))=false;rw[a]<;>rfl) (Calls.evalArgs_plain ?_);exact thn i λl m ⟨k,E,D,p,q⟩=>A pins m σ E x k v l Q D g p q
end
def MtM (X:Cx)(id:String)(r:V->List V->Hp->VK->Prop):Prop :=
  ∀ (pins:List (JI × Obj)) (s:JO) (σ:St) (H:Hp) (x:V) (a:List V) (v:Jo) (b:List Jo) (Q:VK),Inv X pins σ H s->RelV x v->Vals a b->r x a H Q ->
    wpAny (model X.prog X.w) X.A (call (.builtin id) (v::b)) (EP X pins σ Q) X.xe s
theorem Vals.one:∀ {x:V}{us:List Jo},Vals [x] us->∃ u,us=[u]/\RelV x u
  | _,_,.cons r .nil=>⟨_,rfl,r⟩
theorem Vals.two:∀ {x y:V}{us:List Jo},Vals [x,y] us->∃ u v,us=[u,v]/\RelV x u/\RelV y v
  | _,_,_,.cons r (.cons q .nil)=>⟨_,_,rfl,r,q⟩
theorem Vals.eraseIdx:∀ {xs:List V}{us:List Jo}(i:Nat),Vals xs us->Vals (xs.eraseIdx i) (us.eraseIdx i)
  | _,_,_,.nil=>.nil
  | _,_,0,.cons _ t=>t
  | _,_,i+1,.cons r t=>.cons r (Vals.eraseIdx i t)
theorem Vals.rep {xs:List V}{us:List Jo}(h:Vals xs us):∀ k:Nat,Vals (List.replicate k xs).flatten (List.replicate k us).flatten
  | 0=>.nil
  | k+1=>by
    rw[Y9,Y9,Zw,Zw];exact Vals.append h (Vals.rep h k)
theorem qU {α:Type}:∀ (l:List α) (i:Nat),(l.eraseIdx i).length<=l.length
  | [],_=>Jg _
  | _::_,0=>Nat.le_succ _
  | _::r,i+1=>Nat.succ_le_succ (qU r i)
theorem qb (its:List Jo):∀ (k:Nat) (acc:List Jo),
    List.foldl (λb a=>b++a) acc.toArray (List.replicate k its.toArray)=(acc++(List.replicate k its).flatten).toArray
  | 0,acc=>by simp
  | k+1,acc=>by
    have e:acc.toArray++its.toArray=(acc++its).toArray:=by simp
    have e2:(acc++its)++(List.replicate k its).flatten=acc++(List.replicate (k+1) its).flatten:=by
      rw[Y9,Zw,JT]
    rw[<- e2,<- qb its k (acc++its),<- e,Y9,List.foldl_cons]
section
variable {X:Cx}{pins:List (JI × Obj)}{σ:St}{H:Hp}{s:JO}{l:JI}{xs ys:List V}
theorem Inv.lset {its its':List Jo}{n:Nat}{f:Array Jo->Array Jo}{t':Nat}(I:Inv X pins σ H s) (h:H l=some (.lst xs))
    (e:s.heap.get? l=some { cls:=.type "list",data:=.seq its.toArray n }) (d:f its.toArray=its'.toArray) (b:Vals ys its') (a:ys.length<=sizeLine) :
    Inv X pins σ (upd H l (.lst ys)) { s with heap:=s.heap.update l (Obj.mapSeq f),toks:=t' }:=by
  have q:=PySem.IsL.update e f;rw[d]at q;refine I.write (x:=l) (e:=l) (by rw[h];exact trivial) (.inl rfl) (λi u g c=>(JS s.heap (Obj.mapSeq f) (Ne.symm g)).trans c) ⟨_,q⟩ ?_;exact⟨a,its',_,b,q⟩
theorem Inv.lnew {its:List Jo}{t':Nat}(I:Inv X pins σ H s)(b:Vals ys its)(a:ys.length<=sizeLine) :
    Inv X pins σ (upd H s.heap.objs.size (.lst ys)) { s with heap:=s.heap.push { cls:=.type "list",data:=.seq its.toArray },toks:=t' } :=
  I.laid (λ_ _ q=>J8 _ q) (Jg _) ⟨a,its,0,b,Jq _ rfl⟩
theorem Inv.fresh (I:Inv X pins σ H s):H s.heap.objs.size=none:=I.hok.fresh (Jg _)
theorem Inv.lstM (I:Inv X pins σ H s)(a:H l=some (.lst xs)):xs.length<=sizeLine/\∃ (its:List Jo) (n:Nat),Vals xs its/\xs.length=its.length/\s.heap.get? l=some { cls:=.type "list",data:=.seq its.toArray n }:=by
  obtain⟨z,its,n,r,e⟩:=I.hok l _ a;exact⟨z,its,n,r,r.length,e⟩
theorem nW {n:Nat}(h:n<=sizeLine):Builtin.List.listTooLong n=false:=by
  unfold Builtin.List.listTooLong;exact Js (by simp_all)
end
section
variable {X:Cx}
def rAppend:V->List V->Hp->VK->Prop:=λx b H Q=>∃ l a y,x=.ref l/\b=[y]/\H l=some (.lst a)/\a.length<sizeLine/\Q .non (upd H l (.lst (a++[y])))
theorem yq:MtM X "list.append" rAppend:=by
  intro pins s σ H x i v j Q I c d h;obtain⟨l,g,y,rfl,rfl,b,k,q⟩:=h;cases c;obtain⟨u,rfl,f⟩:=d.one;obtain⟨z,a,n,r,m,e⟩:=I.lstM b;refine Wi F.slot_list_append ⟨_,e,rfl⟩ F.entry_list_append (F.args_list_append_2 _ _) (PySem.list_append l a.toArray n u (by rw[Jh];simp_all)) ⟨e,?_⟩;refine⟨.non,_,I.lset (its':=a++[u]) b e (by simp) (r.append (.cons f .nil)) ?_,rfl,q⟩;rw[Jd,List.length_singleton]
  grind
def rExtend:V->List V->Hp->VK->Prop:=λx d H Q=>∃ l b c a,x=.ref l/\d=[.ref b]/\H l=some (.lst c)/\H b=some (.lst a)/\c.length+a.length<=sizeLine/\Q .non (upd H l (.lst (c++a)))
theorem ug:MtM X "list.extend" rExtend:=by
  intro pins s σ H x B v C Q I i j h;obtain⟨l,b,A,w,rfl,rfl,g,p,D,q⟩:=h;cases i;obtain⟨u,rfl,k⟩:=j.one;cases k;obtain⟨z,c,n,r,E,e⟩:=I.lstM g;obtain⟨y,a,o,m,t,e2⟩:=I.lstM p;have f:c.toArray.size+a.toArray.size<=sizeLine:=by rw[Jh,Jh];simp_all
  have d:¬(!c.toArray.isEmpty && Builtin.List.listTooLong (c.toArray.size+a.toArray.size))=true:=by
    rw[nW f,Bool.and_false];exact Jj
  refine Wi F.slot_list_extend ⟨_,e,rfl⟩ F.entry_list_extend (F.args_list_extend_2 _ _)
    (AutoSeq1.list_extend_list_list_0 l c.toArray n b a.toArray o d (by rw[Jh];simp_all) (by lia)) ⟨e,e2,?_⟩
  refine⟨.non,_,I.lset (its':=c++a) g e (by simp) (r.append m) ?_,rfl,q⟩;rw[Jd];omega
def rPopAt:V->List V->Hp->VK->Prop:=λx b H Q=>∃ l a i k y,x=.ref l/\b=[.int i]/\H l=some (.lst a)/\-(2 ^ 63)<=i/\i<2 ^ 63/\seqIndex? i a.length=some k/\a[k]?=some y/\Q y (upd H l (.lst (a.eraseIdx k)))
theorem cg:MtM X "list.pop" rPopAt:=by
  intro pins s σ H x D v E Q I f g h;obtain⟨l,d,i,k,y,rfl,rfl,c,C,B,A,m,q⟩:=h;cases f;obtain⟨u,rfl,j⟩:=g.one;obtain⟨t,rfl⟩:=j;obtain⟨z,a,n,r,p,e⟩:=I.lstM c;obtain⟨w,o,b⟩:=r.get m
  refine Wi F.slot_list_pop ⟨_,e,rfl⟩ F.entry_list_pop (F.args_list_pop_2 _ _)
    (MeetsSeq.list_pop_at l a.toArray n i t k w (fitsIndex_both C B) (by rw[Jh,<- p];exact A) (by rw[<- Y8];exact o) (by rw[Jh];simp_all)) ⟨e,?_⟩
  refine⟨y,_,I.lset (its':=a.eraseIdx k) c e ?_ (r.eraseIdx k) ?_,b,q⟩
  · show a.toArray.eraseIdxIfInBounds k=(a.eraseIdx k).toArray
    rw[List.eraseIdxIfInBounds_toArray]
  · have:=qU d k
    lia
def zcY:R2:=λx y H Q=>∃ l b c a,x=.ref l/\y=.ref b/\H l=some (.lst c)/\H b=some (.lst a)/\c.length+a.length<=sizeLine/\∀ p,H p=none->Q (.ref p) (upd H p (.lst (c++a)))
theorem wt:OpR X (binaryOp .Add) zcY:=by
  intro pins s σ H x y v u Q I f d h;obtain⟨l,b,t,o,rfl,rfl,i,j,A,q⟩:=h;cases f;cases d;obtain⟨z,c,n,r,B,e⟩:=I.lstM i;obtain⟨p,a,w,g,m,e2⟩:=I.lstM j;refine PySem.P.add_list e e2 ?_ (by rw[Jh,Jh];simp_all);have k:c.toArray++a.toArray=(c++a).toArray:=by simp
  rw[k];exact⟨.ref _,_,I.lnew (t':=s.toks) (r.append g) (by rw[Jd];omega),rfl,q _ I.fresh⟩
def zcU:R2:=λx y H Q=>∃ l k a,x=.ref l/\y=.int k/\H l=some (.lst a)/\-(2 ^ 63)<=k/\k<2 ^ 63/\a.length*k.toNat<=sizeLine /\
  ∀ p,H p=none->Q (.ref p) (upd H p (.lst (List.replicate k.toNat a).flatten))
theorem zag {α:Type}(xs:List α)(k:Nat):(List.replicate k xs).flatten.length=k*xs.length:=by
  induction k with
  | zero=>simp
  | succ k ih=>rw[Y9,Zw,Jd,ih,Nat.succ_mul,Nat.add_comm]
theorem pj:OpR X (binaryOp .Mult) zcU:=by
  intro pins s σ H x y v u Q I A w h;obtain⟨l,k,J,rfl,rfl,C,E,D,o,q⟩:=h;cases A;obtain⟨t,rfl⟩:=w;obtain⟨z,b,n,r,B,e⟩:=I.lstM C;have hlen:b.toArray.size*k.toNat<=sizeLine:=by rw[Jh,<- B];exact o
  have g:¬ b.toArray.size*k.toNat > (2 ^ 63-1) / 8:=by
    have:(sizeLine:Nat)<=(2 ^ 63-1) / 8:=by decide
    lia
  have f:¬(!Builtin.List.listFitsIndex k)=true:=by
    rw[fitsIndex_both E D];exact Jj
  have c:¬ Builtin.List.listTooLong (b.toArray.size*k.toNat)=true:=by
    rw[nW hlen];exact Jj
  have d:List.foldl (λj i=>j++i) #[] (List.replicate (if b.toArray.isEmpty=true then 0 else k.toNat) b.toArray)=(List.replicate k.toNat b).flatten.toArray:=by
    have G:∀ m:Nat,List.foldl (λj i=>j++i) #[] (List.replicate m b.toArray)=(List.replicate m b).flatten.toArray:=λm=>by
      have:=qb b m [];rw[ZK]at this;exact this
    rw[G]
    cases b with
    | nil=>simp
    | cons a K=>rw[Jf (by simp)]
  refine wpAny_binaryOp_repeat_ref (T:="list") (U:="int") (by decide) ⟨_,e,rfl⟩ (λp=>typeIs_int p k t) noFill_list_mul F.fills_int_mul F.slot_int_rmul repeat_list F.slot_int_index.lookup
    (Wi F.slot_int_rmul (typeIs_int s k t) F.entry_int_rmul (F.args_int_rmul_2 _ _) (int___rmul___int_list k t l b.toArray n)
      ⟨e,rfl,⟨_,e,rfl⟩,Wi F.slot_list_mul ⟨_,e,rfl⟩ F.entry_list_mul (F.args_list_mul_2 _ _) (AutoListH.list___mul___list_int_3 l b.toArray n k t f g c) ⟨e,?_⟩⟩)
  rw[d];exact⟨.ref _,_,I.lnew (t':=s.toks) (r.rep k.toNat) (by rw[zag,Nat.mul_comm];exact o),rfl,q _ I.fresh⟩
end
end L2
namespace Att
open PySem PySem.W PySem.Calls PyProof.Rows
theorem tM {P:Params}{h:YP}:∀ (ns:List Int) (vs:List Jo),WellAll P h vs (ns.map WData.int)->IntsAre vs ns:=by
  intro ns
  induction ns with
  | nil =>
    intro vs w;rw[List.map_nil]at w;cases w
    exact .nil
  | cons n ns ih =>
    intro vs w;rw[Y1]at w
    cases w with
    | cons a b =>
      cases a;exact .cons _ _ (ih _ b)
theorem iR {l:OpenLaw}{n:Nat}(s:l.most=some n){P:Params}{h:YP}{args:List WData}{vals:List Jo}(b:l.row.toRowW.claim.pre args=true)(g:WellAll P h vals args) :
    ∃ a vs ns,vals=[Value.ref a]/\args=[WData.list (ns.map WData.int)]/\h.get? a=some { cls:=.type "list",data:=.seq vs.toArray }/\IntsAre vs ns/\ns.length<=n:=by
  have i:WShape.hasAll [] args [.list .int]=true:=(pre_splitW b).1;have j:l.pre.holds [] { args:=args }=true:=(pre_splitW b).2;obtain⟨d,r,rfl,v,u⟩:=hasAllW_cons i;obtain rfl:=hasAllW_nil u;obtain⟨w,rfl,t⟩:=hasW_list v;obtain⟨ns,rfl⟩:=items_int t
  have hlen:ns.length<=n:=by
    unfold OpenLaw.pre at j
    have f:(WTm.not (.lt (.lit (.int (n:Int))) (.len (.arg 0)))).holds [] { args:=[.list (ns.map .int)] }=true:=by
      have f:=(holds_andW j).1;rw[s]at f;exact f
    have e:=condW_of f (w_not (w_lt w_lit (w_len_list (w_arg rfl))));rw[Je]at e;refine Nat.le_of_not_lt λq=>?_;have o:(n:Int)<((ns.length:Nat):Int):=by simp_all
    first
      | (rw[JC o]at e;exact absurd e (by decide))
      | (simp at e;omega)
  cases g with
  | cons m k =>
    cases k
    cases m with
    | list p c=>exact⟨_,_,ns,rfl,rfl,p,tM ns _ c,hlen⟩
theorem iY (l:OpenLaw)(args:List WData):l.row.toRowW.claim.post args (.bool true) args=true :=
  postW_of (r:=l.row.toRowW) (X:=(true == true))
    (show WShape.has [] (.bool true) .bool=true by first|rfl|decide|simp[WShape.has,WShape.arms,WShape.armsAll])
    (show (WTm.eq .res (.lit (.bool true))).value [] { args:=args,res:=some (.bool true),after:=args }=some (.bool (true == true)) from w_eq_bool (w_res rfl) w_lit) rfl
theorem attach_call {l:OpenLaw}{n:Nat}{q:Yo}{loose:List Str}{t:(Str->Option Jo)->YP->Prop}{s:YI->YP->Prop}{d:DefRec}
    (y:l.most=some n) (k:d.params.defaults=[])
    (call:∀ (w:YI) (s₀ b:JO) (mg mb:Str->Option Jo) (c:JI) (o:Obj) (pm cd doc:Jo) (a:JI) (vs:List Jo) (ns:List Int),
      Ground q loose [] t w s₀ mg mb b.heap->s w b.heap ->
      b.heap.get? c=some o->o.data=.func (docDef d.name d.params d.body d.scope pm cd doc)->b.heap.CodeRec cd d.name->mg d.name=some (.ref c) ->
      b.heap.get? a=some { cls:=.type "list",data:=.seq vs.toArray }->IntsAre vs ns->ns.length<=n->b.gens = #[] ->
      codeAny (model l.prog w) callerA (.call (.ref c) ⟨[.ref a],[]⟩) (λr h=>r=.ok (.ret (.bool true))/\OldK b.heap h.heap/\h.os=b.os/\AllBare h.gens) b) :
    WalkO q loose t s l.row.toRowW d [] (λf vs=>PySem.call f vs):=by
  intro w s₀ b mg mb G Y c o pm cd doc F kV x B m p j A args vals as e u H i I;obtain rfl:F=.none:=Dflts.none p k;obtain rfl:kV=.none:=Dflts.noKw p;obtain⟨a,vs,ns,rfl,rfl,g,hints,hlen⟩:=iR y e i;refine enter_call (Wf (call w s₀ b mg mb c o pm cd doc a vs ns G Y x (fd_plain B) m j g hints hlen A) λr h v=>?_);obtain⟨rfl,E,D,C⟩:=v;exact⟨.inl ⟨.bool true,.bool true,[],rfl,λ_=>rfl,.bool true,iY l _,λ_=>⟨List.Pairwise.nil,λ_ z=>(nomatch z)⟩⟩,E,D,C⟩
section
def zc1 (h:YP)(L d:JI):List (JI × Obj):=(List.range h.objs.size).filterMap λa=>if a=L\/a=d then none else (h.get? a).map λo=>(a,o)
end
end Att
namespace L2
open PySem PySem.Spec PyProof.Rows
theorem qB:∀ {vs:List Jo}{ns:List Int},IntsAre vs ns->Vals (ns.map V.int) vs
  | _,_,.nil=>.nil
  | _,_,.cons n t h=>.cons ⟨t,rfl⟩ (qB h)
abbrev KOf {K:Jl}{h:YP}(_:K.In h):Jl:=K
def xj (s:Stmt):Arguments:=match s with
  | .FunctionDef _ a _ _ _ _ _ _ _ _=>a
  | _=>{ posonlyargs:=[],args:=[],vararg:=none,kwonlyargs:=[],kw_defaults:=[],kwarg:=none,defaults:=[] }
def y7 (s:Stmt):List Stmt:=match s with
  | .FunctionDef _ _ b _ _ _ _ _ _ _=>b
  | _=>[]
def zQ (s:Stmt):Scope:=match s with
  | .FunctionDef _ _ _ _ _ _ sc _ _ _=>sc
  | _=>{ kind:=.function,names:=[],isGenerator:=false,isCoroutine:=false }
abbrev CX0:CXT:=λ_ _ _ _ _ _=>False
abbrev E0:XK:=λ_ _ _=>False
theorem dz {X:Cx}:Passes CX0 X E0:=λ_ _ _ _ _ _ _ h=>h.elim
structure Fun (K:Jl) (x qual:Str) (st:Stmt) (f:JI) (fd:Yl):Prop where
  ex:∃ (oc:Jo) (od:Option JI) (kV doc pm:Jo) (an:Option JI) (cdv ct:Jo) (osl:Array (Option Jo)),
    fd=PySem.W.fnOf x qual (xj st) (y7 st) (zQ st) .none kV doc pm an cdv ct/\K.lookup f=some ⟨oc,od,.func fd,osl⟩/\PySem.W.codeIn K cdv qual=true
  kp:PySem.W.keepIn K (.ref f)=true
section
variable {P:Yo}{w:YI}{K:Jl}{mg:Str->Option Jo}{base:YP}
theorem Fun.ok {x qual:Str}{st:Stmt}{f:JI}{fd:Yl}{N ps:List Str}{k:Nat}{sp:Sp}(F:Fun K x qual st f fd)(S:FnScope N ps (zQ st))(len:∀ vs H Q E,sp vs H Q E->vs.length=ps.length)(a:∀ (cdv:Jo) (A:YO) (outer:List Env) (s:JO) (H:Hp) (vs:List V) (Q:VK) (E:XK),Room k (A.deeper (envOfC qual (zQ st) s.heap.objs.size f cdv))->sp vs H Q E ->
      ∃ t,PSs (wg CX0 P w K mg base N qual (zQ st) f cdv A outer s H E).nox (y7 st) t/\t { nx:=λ_ g=>Q .non g,rt:=Q } (vp N vs) H):FnOk P w K mg base CX0 (k+1) f fd ps sp:=by
  obtain⟨l,j,kV,doc,pm,an,cdv,m,i,rfl,d,c⟩:=F.ex;refine zaC d c S len λA outer s H vs Q E e b=>?_;obtain⟨t,h,q⟩:=a cdv A outer s H vs Q E e b;exact⟨t,h.nox,q⟩
theorem Fun.binds {x qual:Str}{st:Stmt}{f:JI}{fd:Yl}{ps:List Str}(F:Fun K x qual st f fd)(h:∀ (kV doc pm:Jo) (an:Option JI) (cdv ct:Jo) (us:List Jo),us.length=ps.length->bindArgs (PySem.W.fnOf x qual (xj st) (y7 st) (zQ st) .none kV doc pm an cdv ct) ⟨us,[]⟩=pure (ps.zip us)):Binds K fd ps []:=by
  obtain⟨d,c,kV,doc,pm,an,cdv,ct,a,rfl,e,b⟩:=F.ex;exact .all (h kV doc pm an cdv ct)
theorem zbI {x qual:Str}{st:Stmt}{f:JI}{oc:Jo}{od an:Option JI}{osl:Array (Option Jo)}{kV doc pm cdv ct:Jo}(l:K.lookup f=some ⟨oc,od,.func (PySem.W.fnOf x qual (xj st) (y7 st) (zQ st) .none kV doc pm an cdv ct),osl⟩)(c:PySem.W.codeIn K cdv qual=true)(k:PySem.W.keepIn K (.ref f)=true):Fun K x qual st f (PySem.W.fnOf x qual (xj st) (y7 st) (zQ st) .none kV doc pm an cdv ct):=⟨⟨oc,od,kV,doc,pm,an,cdv,ct,osl,rfl,l,c⟩,k⟩
end
section
variable {X:Cx}
theorem pv (i:Nat) {x:Str}{pos:Pos}(d:X.N[i]?=some x:=by rfl) (b:Vis X.env.scope x:=by first|exact Or.inl rfl|exact Or.inr (.inl rfl)|exact Or.inr (.inr rfl)) (c:(x == ("__debug__":Str))=false:=by decide)
    (a:(x == ("__classdict__":Str))=false:=by decide):PE X (.Name x pos) (fw i):=dq d b c a
theorem qv (i:Nat) {x:Str}{pos:Pos}(h:X.N[i]?=some x/\Vis X.env.scope x/\(x == ("__debug__":Str))=false/\(x == ("__classdict__":Str))=false):PE X (.Name x pos) (fw i):=dq h.1 h.2.1 h.2.2.1 h.2.2.2
end
theorem xB {A B:Prop}(h:B):if false=true then A else B:=by
  rw[Jf Jj];exact h
theorem x5 {A B:Prop}(h:A):if true=true then A else B:=by
  rw[Jm rfl];exact h
theorem uL {c A B:Prop}[Decidable c](h1:c->A)(a:¬ c->B):if c then A else B:=by
  by_cases h:c
  · rw[Jm h]
    exact h1 h
  · rw[Jf h]
    exact a h
def Same (H H':Hp):Prop:=∀ b o,H b=some o->H' b=some o
theorem Same.refl (H:Hp):Same H H:=λ_ _ h=>h
theorem Same.trans {H e d:Hp}(a:Same H e)(b:Same e d):Same H d:=λc o h=>b c o (a c o h)
end L2
set_option maxHeartbeats 4000001
namespace L2
open PySem PySem.Spec PyProof.Rows
def ve (cells:List (Str × JI)):List (Str × NameKind)->List (Str × JI)->List (Str × JI)
 | [],cs=>cs
 | (n,k)::r,cs=>if k == .free then ve cells r ((n,(cells.lookup n).getD 0)::cs) else ve cells r cs
theorem rZ {env:Env}:∀ (names:List (Str × NameKind)) (cs:List (Str × JI)),(∀ y∈names,y.2=.free->∃ c,env.cells.lookup y.1=some c) ->
  (forIn names cs λx r=>match x with|(name,kind)=>if (kind == NameKind.free)=true then (do let a <- cellOf env name;pure (ForInStep.yield ((name,a)::r))) else pure (ForInStep.yield r):Sem (List (Str × JI)))=pure (ve env.cells names cs)
 | [],cs,_=>rfl
 | (n,k)::r,cs,h=>by
  rw[Zc];by_cases e:(k == NameKind.free)=true
  ·obtain⟨c,g⟩:=h (n,k) JJ (by simpa using e)
   have d:cellOf env n=pure c:=by
    have b:env.cells.lookup n=some c:=g;unfold cellOf;rw[b]
   simp only[e,YU,d,pure_bind];rw[rZ r _ λy f=>h y (JH _ f)];have b:env.cells.lookup n=some c:=g;show _=pure (if (k == NameKind.free)=true then _ else _);rw[Jm e,b];rfl
  ·have i:(k == NameKind.free)=false:=by simpa using e
   simp only[i,Yz,Zy,pure_bind];rw[rZ r _ λy f=>h y (JH _ f)];show _=pure (if (k == NameKind.free)=true then _ else _);rw[Jf e]
theorem rX {scope:Scope}{env:Env}(h:∀ y∈scope.names,y.2=.free->∃ c,env.cells.lookup y.1=some c):closureFor scope env=pure (ve env.cells scope.names []):=by
 unfold closureFor;show (forIn scope.names [] _ >>= λr=>pure r)=_;rw[bind_pure];exact rZ _ _ h
theorem uS {cells:List (Str × JI)}:∀ (names:List (Str × NameKind)) (cs:List (Str × JI)) (x:Str) (c:JI),(∀ y∈names,y.2=.free->∃ c,cells.lookup y.1=some c) ->
  (∀ x c,cs.lookup x=some c->cells.lookup x=some c)->(ve cells names cs).lookup x=some c->cells.lookup x=some c
 | [],cs,x,c,_,hs,e=>hs x c e
 | (n,k)::r,cs,x,c,h,hs,e=>by
  unfold ve at e;by_cases q:(k == NameKind.free)=true
  ·rw[Jm q]at e
   obtain⟨c0,j⟩:=h (n,k) JJ (by simpa using q);refine uS r _ x c (λy f=>h y (JH _ f)) (λd l a=>?_) e;rw[YE]at a
   cases g:d == n with
   | true =>
    rw[g]at a;have i:d=n:=by simpa using g
    subst i;have b:cells.lookup d=some c0:=j;rw[b]at a ⊢
    exact a
   | false =>
    rw[g]at a;exact hs d l a
  ·rw[Jf q]at e
   exact uS r _ x c (λy f=>h y (JH _ f)) hs e
theorem uw {cells:List (Str × JI)}:∀ (names:List (Str × NameKind)) (cs:List (Str × JI)) (x:Str),(∃ c,cs.lookup x=some c)->∃ c,(ve cells names cs).lookup x=some c
 | [],cs,x,e=>e
 | (n,k)::r,cs,x,e=>by
  unfold ve;by_cases q:(k == NameKind.free)=true
  ·rw[Jm q]
   refine uw r _ x ?_;rw[YE]
   cases a:x == n with
   | true=>exact⟨_,rfl⟩
   | false=>exact e
  ·rw[Jf q]
   exact uw r _ x e
theorem wS {cells:List (Str × JI)}:∀ (names:List (Str × NameKind)) (cs:List (Str × JI)) (x:Str),names.lookup x=some .free->∃ c,(ve cells names cs).lookup x=some c
 | [],cs,x,e=>by simp at e
 | (n,k)::r,cs,x,e=>by
  rw[YE]at e;unfold ve
  cases a:x == n with
  | true =>
   rw[a]at e;have b:k=.free:=Jp e;subst b;rw[Jm (by decide)];refine uw r _ x ?_;rw[YE,a]
   exact⟨_,rfl⟩
  | false =>
   rw[a]at e;by_cases q:(k == NameKind.free)=true
   ·rw[Jm q];exact wS r _ x e
   ·rw[Jf q];exact wS r _ x e
def br (env:Env)(p:Str × NameKind):Bool:=p.2 == .free && env.scope.kind == .function && env.kindOf p.1 == some .cell
def vK (env:Env)(p:Str × NameKind):Str × NameKind:=if br env p=true then (p.1,.cell) else p
theorem tH (env:Env)(p:Str × NameKind):(vK env p).1=p.1:=by unfold vK;split<;>rfl
theorem tG (env:Env)(p:Str × NameKind):(vK env p).2=p.2\/((vK env p).2=.cell/\p.2=.free):=by
 unfold vK;split
 ·rename_i h
  refine .inr ⟨rfl,?_⟩;unfold br at h;cases e:p.2<;>simp[e]at h<;>rfl
 ·exact .inl rfl
theorem vQ (scope:Scope)(env:Env):(relabel scope env).names=scope.names.map (vK env):=rfl
theorem rE {f:Str × NameKind->Str × NameKind}(a:∀ p,(f p).1=p.1):∀ (l:List (Str × NameKind)) (x:Str),(l.map f).lookup x=none/\l.lookup x=none\/∃ p∈l,(l.map f).lookup x=some (f p).2/\l.lookup x=some p.2
 | [],_=>.inl ⟨rfl,rfl⟩
 | p::r,x=>by
  have c:((p::r).map f).lookup x=if x == p.1 then some (f p).2 else (r.map f).lookup x:=by
   show List.lookup x (((f p).1,(f p).2)::r.map f)=_;rw[YE,a p];cases x == p.1<;>rfl
  have e2:(p::r).lookup x=if x == p.1 then some p.2 else r.lookup x:=by
   show List.lookup x ((p.1,p.2)::r)=_;rw[YE];cases x == p.1<;>rfl
  rw[c,e2];cases x == p.1
  ·rcases rE a r x with z|⟨q,b,z⟩
   ·exact .inl z
   ·exact .inr ⟨q,JH _ b,z⟩
  ·exact .inr ⟨p,JJ,rfl,rfl⟩
theorem xg {scope:Scope}{env:Env}{x:Str}{a:NameKind}(h:(relabel scope env).names.lookup x=some a):scope.names.lookup x=some a\/(a=.cell/\scope.names.lookup x=some .free):=by
 rw[vQ]at h;rcases rE (tH env) scope.names x with ⟨z,_⟩|⟨p,_,z,e⟩
 ·rw[z]at h;cases h
 ·rw[z]at h
  obtain rfl:=Jp h;rcases tG env p with q|⟨q,b⟩
  ·rw[q];exact .inl e
  ·exact .inr ⟨q,by rw[e,b]⟩
theorem uC {scope:Scope}{env:Env}{x:Str}(h:scope.names.lookup x=some .free):(relabel scope env).names.lookup x=some .cell\/(relabel scope env).names.lookup x=some .free:=by
 rw[vQ];rcases rE (tH env) scope.names x with ⟨_,z⟩|⟨p,_,z,e⟩
 ·rw[z]at h;cases h
 ·rw[e]at h
  rcases tG env p with q|⟨q,_⟩
  ·rw[z,q,h];exact .inr rfl
  ·rw[z,q];exact .inl rfl
def yc (X:Cx)(N':List Str)(scope:Scope)(C:JI)(s₀:JO)(H₀:Hp)(fp:List JI)(pins:List (JI × Obj)):Cx :=
 { X with N:=N',s₀:=s₀,H₀:=H₀,env:=compEnvC scope (ve X.env.cells scope.names []) C X.env,outer:=X.stack,stack:=X.stack,ex:=fp,fn:=λ_=>false,pn:=X.pn++pins,xe:=λ_ _=>False }
def gp (cap:List (Option Nat))(σ:St):St:=cap.map λo=>match o with|some i=>(match σ[i]? with|some v=>v|none=>none)|none=>none
def tst (M:Model)(A:YO)(env:Env)(E:Jo->JO->Prop)(o:Option Expr)(Q:Bool->JO->Prop)(s:JO):Prop:=match o with
 | none=>Q true s
 | some c=>wpAny M A (isTrue c env (eval c env)) Q E s
theorem ot {M:Model}{A:YO}{env:Env}{E:Jo->JO->Prop}{o:Option Expr}{Q a:Bool->JO->Prop}{s:JO}(h:tst M A env E o Q s)(k:∀ b z,Q b z->a b z):tst M A env E o a s:=by
 cases o with
 | none=>exact k _ _ h
 | some c=>exact thn h k
def PTo (X:Cx)(o:Option Expr)(t:TT):Prop :=
 ∀ (pins:List (JI × Obj)) (s:JO) (σ:St) (H:Hp) (Q:Bool->Hp->Prop),Inv X pins σ H s->t σ H Q->tst (model X.prog X.w) X.A X.env X.xe o (TP X pins σ Q) s
def fq:TT:=λ_ H Q=>Q true H
theorem xh {X:Cx}:PTo X none fq:=λ_ _ _ H _ I h=>⟨H,I,h⟩
theorem jF {X:Cx}{c:Expr}{t:TT}(h:PT X c t):PTo X (some c) t:=λpins s σ H Q I a=>h pins s σ H Q I a
abbrev NoX:Jo->JO->Prop:=λ_ _=>False
def Go (M:Model)(A:YO)(tg elt:Expr)(o:Option Expr)(it acc:Jo)(env:Env)(R:Result->JO->Prop)(g:JO->Prop)(s:JO):Prop :=
 wpAny M A (pyNext it) (λr a=>match r with
  | none=>R (.ok .next) a
  | some v=>wpAny M A (letOwnedTupleGo tg it v) (λ_ b=>wpAny M A (assign tg env v) (λ_ c=>tst M A env NoX o (λyes d =>
    if yes=true then wpAny M A (eval elt env) (λx e=>wpAny M A (call (.builtin "list.append") [acc,x]) (λ_ f=>g f) NoX e) NoX d else g d) c) NoX b) NoX a) NoX s
theorem gj {prog:Yo}{w:YI}{A:YO}{R:Result->JO->Prop}{s:JO}{elt tg iter:Expr}{o:Option Expr}{scope:Scope}{pos:Pos}{it acc:Jo}{env:Env}(J:Nat->JO->Prop)(turn:∀ n s,J n s->Go (model prog w) A tg elt o it acc env R (λz=>∃ m,m<n/\J m z) s)(n:Nat)(h:J n s) :
  codeAny (model prog w) A (.compLoop (.ListComp elt [⟨tg,iter,o.toList,0⟩] scope pos) 0 it acc env) R s:=by
 cases o with
 | none =>
  refine PySem.W.kcp_loop J (λn a l=>JK (turn n a l) (λr b g=>?_) λ_ _ z=>z.elim) n h
  cases r with
  | none=>exact g
  | some v=>exact JK g (λ_ c k=>JK k (λ_ d j=>JK (show wpAny _ _ _ _ _ d from j) (λx e i=>JK i (λ_ _ q=>q) λ_ _ z=>z.elim) λ_ _ z=>z.elim) λ_ _ z=>z.elim) λ_ _ z=>z.elim
 | some t =>
  refine PySem.W.kct_loop J (λn a l=>JK (turn n a l) (λr b g=>?_) λ_ _ z=>z.elim) n h
  cases r with
  | none=>exact g
  | some v =>
   refine JK g (λ_ c k=>JK k (λ_ d j=>JK (show wpAny _ _ _ _ _ d from j) (λyes e i=>?_) λ_ _ z=>z.elim) λ_ _ z=>z.elim) λ_ _ z=>z.elim;cases yes
   ·exact i
   ·exact JK (show wpAny _ _ _ _ _ e from i) (λx f p=>JK p (λ_ _ q=>q) λ_ _ z=>z.elim) λ_ _ z=>z.elim
structure CapOk (N N':List Str) (sc scope:Scope) (cap:List (Option Nat)):Prop where
 kind:scope.kind=.function
 nocell:∀ y∈scope.names,y.2≠.cell
 names:∀ y∈scope.names,y.2=.local -> scope.names.lookup y.1=some .local
 free:∀ y∈scope.names,y.2=.free->sc.names.lookup y.1=some .cell\/sc.names.lookup y.1=some .free
 len:cap.length=N'.length
 cap:∀ p∈N'.zip cap,∀ i,p.2=some i->N[i]?=some p.1/\scope.names.lookup p.1=some .free/\(sc.names.lookup p.1=some .cell\/sc.names.lookup p.1=some .free)
theorem va {α:Type}:∀ {l:List (Str × α)}{x:Str}{a:α},l.lookup x=some a->(x,a)∈l
 | [],_,_,h=>by simp at h
 | (n,k)::r,x,a,h=>by
  rw[YE]at h
  cases b:x == n with
  | true =>
   rw[b]at h;have e:k=a:=Jp h;have e2:x=n:=by simpa using b
   subst e e2
   exact JJ
  | false=>rw[b]at h;exact JH _ (va h)
def LCW (J:It)(g:TG)(tt:TT)(k:TE)(l:JI)(Q:VK)(W:Nat->Nat->List V->St->Hp->Prop):Prop :=
 ∀ i m acc e c,W i m acc e c->c l=some (.lst acc) /\
  ((J.stop i c/\Q (.ref l) c)\/(J.go i c/\∀ x j,J.yld i c x j->g x e j λa n=>tt a n λb h =>
   if b=true then k a h λy f=>f l=some (.lst acc)/\acc.length<sizeLine/\∃ d,d<m/\W (i+1) d (acc++[y]) a (upd f l (.lst (acc++[y])))
   else ∃ d,d<m/\W (i+1) d acc a h))
def tLC (cap:List (Option Nat))(b:TI)(g:TG)(tt:TT)(c:TE):TE:=λσ H Q=>b σ H λJ a=>∀ l,a l=none ->
 ∃ W:Nat->Nat->List V->St->Hp->Prop,(∃ m,W 0 m [] (gp cap σ) (upd a l (.lst [])))/\LCW J g tt c l Q W
theorem jj {X:Cx}{elt tg iter:Expr}{o:Option Expr}{scope:Scope}{pos aT:Pos}{wi:TI}{g:TG}{tt:TT}{te:TE}{N':List Str}{cap:List (Option Nat)}{use:Option (Jo->Sem Unit)}{Q0:Jo->JO->Prop}(hc:X.calm=true)(hi:PI X tg iter wi)(P:CapOk X.N N' X.env.scope scope cap)(hg:∀ C s₀ H₀ fp pins,PG (yc X N' scope C s₀ H₀ fp pins) tg g)(ht:∀ C s₀ H₀ fp pins,PTo (yc X N' scope C s₀ H₀ fp pins) o tt)(he:∀ C s₀ H₀ fp pins,PE (yc X N' scope C s₀ H₀ fp pins) elt te)(hs:∀ x,foldedSetIterable iter X.env x=pure x){pins:List (JI × Obj)}{s:JO}{σ:St}{H:Hp}{Q:VK}(I:Inv X pins σ H s)(h:tLC cap wi g tt te σ H Q)(fin:∀ (l C:JI) (O:Hp) (U:JO) (m:Str->Option Jo),Inv X pins σ O U->Q (.ref l) O->U.heap.Ns C m->FpOk X pins O C->compPost (model X.prog X.w) X.A X.xe use Q0 (.ref l) C (.ok .next) U) :
  wpAny (model X.prog X.w) X.A (comprehension (.ListComp elt [⟨tg,iter,o.toList,0⟩] scope pos) scope X.env aT (newList []) false (eval iter X.env) use) Q0 X.xe s:=by
 have F:∀ y∈scope.names,y.2=.free->∃ c,X.env.cells.lookup y.1=some c:=λy hy hf=>I.ok.has y.1 (P.free y hy hf);refine wpAny_comprehension_free (use:=use) rfl hs (rX F) P.kind P.names (thn (hi pins s σ H _ I h) λv s1 h1=>thn h1 λb9 A h2=>?_);obtain⟨it,fp,tn,J,H2,e,I2,T,a5,N,body⟩:=h2;subst e;have a3:H2 A.heap.objs.size=none:=I2.hok.fresh (Jg _);obtain⟨W,⟨m0,w0⟩,turn⟩:=body A.heap.objs.size a3;have k:Inv X pins σ (upd H2 A.heap.objs.size (.lst [])) { A with heap:=A.heap.push { cls:=.type "list",data:=.seq ([]:List Jo).toArray },toks:=A.toks }:=I2.lnew (its:=[]) (t':=A.toks) .nil (JL _);refine JR (wpAny_newFunctionEnv P.nocell (by intro y hy;simp at hy) (λw E D=>?_) P.kind);dsimp only at E D ⊢;generalize hl:A.heap.objs.size=l at *;generalize hP:A.heap.push { cls:=.type "list",dict:=none,data:=.seq ([]:List Jo).toArray }=P2 at *;generalize bS:upd H2 l (.lst [])=H3 at *;have old:∀ b o,P2.get? b=some o->w.get? b=some o:=λb o e=>D.extBut b o (JA (Jn e)) (J8 _ e);have a0:∀ b o,A.heap.get? b=some o->P2.get? b=some o:=λb o e=>hP ▸ J8 _ e
 have ba:∀ b∈fp,b<l:=λb a=>by
  obtain⟨o,e,_⟩:=T.obj _ _ a5 b a;rw[<- hl];exact Jn e
 have b1:∀ b∈fp,H3 b=none:=λb a=>by
  rw[<- bS,zK (JA (ba b a))];exact(N b a).1
 have bR:P2.objs.size=l+1:=by rw[<- hP,YA,hl]
 have t:∀ x c,(ve X.env.cells scope.names []).lookup x=some c->X.env.cells.lookup x=some c:=λx c e=>uS _ _ x c F (λ_ _ z=>by simp at z) e;generalize a7:({ A with heap:=P2,toks:=A.toks }:JO)=s3 at *;have f:s3.heap=P2:=by rw[<- a7]
 let Y:=yc X N' scope P2.objs.size s3 H3 fp pins
 have B:Y.Ok:=by
  refine⟨k.ok.mod,P.kind,k.ok.glob,k.ok.blt,by show s3.heap.objs.size<=P2.objs.size;rw[f];exact Jg _,λx y c e1 e2=>k.ok.inj x y c (t x c e1) (t y c e2),λx Z=>?_,λx c Z=>absurd (show false=true from Z) Jj,k.ok.hd,k.ok.frames,.inl rfl,λb a=>⟨?_,λx c e=>?_⟩,k.bs,
   JX k.ok.bsz k.sz,λb o e a=>?_,λb a hz=>?_,k.stack,k.stkFree⟩
  ·have bl:scope.names.lookup x=some .free:=by
    rcases Z with Z|Z
    ·rcases xg Z with z|z
     ·exact absurd rfl (P.nocell _ (va z))
     ·exact z.2
    ·rcases xg Z with z|z
     ·exact z
     ·exact z.2
   exact wS _ _ x bl
  ·exact JA (by show b<P2.objs.size;rw[bR];exact Z0 (ba b a))
  ·exact(N b a).2.2.2.2.1 x c (t x c e)
  ·rcases (N b a).2.2.2.1 with z|z
   ·exact k.ok.noex b o e z
   ·exact absurd (JG (Jn e) (JX k.ok.bsz z)) (YB _)
  ·rcases Jr.mp (k.stkSub b hz) with z|z
   ·exact(N b a).2.1 z
   ·exact(N b a).2.2.1 z
 have bB:Inv Y [] (gp cap σ) H3 { A with heap:=w,toks:=A.toks }:=by
  refine⟨B,by show A.os=s3.os;rw[<- a7],I2.bare,by show Un _ _ _ _ s3.heap w;rw[f];exact Un.kept old,⟨_,E,λj x v e1 e2 e3=>?_⟩,λx c e=>?_,?_,λx c e=>k.freeC x c (t x c e),λp hp=>?_,λb o e=>?_,?_⟩
  ·have b4:N'[j]?=some x:=e1
   unfold gp at e2;rw[JN]at e2
   cases ec:cap[j]? with
   | none=>rw[ec]at e2;cases e2
   | some oc =>
    rw[ec]at e2
    cases oc with
    | none=>cases e2
    | some i =>
     have b2:σ[i]?=some (some v):=by
      cases ei:σ[i]? with
      | none=>simp[ei]at e2
      | some v' =>
       simp[ei]at e2;rw[e2]
     have hz:(x,some i)∈N'.zip cap:=by
      refine JD (i:=j) ?_;rw[Wm];exact⟨b4,ec⟩
     obtain⟨hN,hf,hk⟩:=P.cap _ hz i rfl;obtain⟨m,hn,bo⟩:=k.loc;obtain⟨u,r,lk⟩:=bo i x v hN b2 (by rcases hk with z|z;exact .inr (.inl z);exact .inr (.inr z));refine⟨u,r,.inr ⟨?_,?_⟩⟩
     ·exact uC hf
     ·rcases lk with ⟨z,_⟩|⟨_,c,bu,aa⟩
      ·have z':X.env.scope.names.lookup x=some .local:=z
       rcases hk with q|q
       ·rw[q]at z';cases z'
       ·rw[q]at z';cases z'
      ·obtain⟨c',a8⟩:=wS (cells:=X.env.cells) scope.names [] x hf
       have:=t x c' a8;rw[bu]at this;cases this;obtain⟨ob,e,d⟩:=aa;rw[f]at e;exact⟨c,a8,ob,old c ob e,d⟩
  ·obtain⟨v,ob,e',d⟩:=k.cell x c (t x c e)
   rw[f]at e';exact⟨v,ob,old c ob e',d⟩
  ·refine k.hok.fresh ?_
   rw[f];exact Jg _
  ·have aE:p∈X.pn++pins:=(Jv.mp hp).elim (λz=>z) (λz=>nomatch z)
   obtain⟨e,n,ne,nf,d⟩:=k.pin p aE;rw[f]at e;refine⟨old _ _ e,n,JA (Jn e),λz=>?_,d⟩;rcases Jr.mp (k.stkSub _ z) with q|q
   ·exact ne q
   ·exact nf q
  ·have:=k.hok.kept (h':=w) (λb u q=>old b u (by rw[<- f];exact q))
   exact this b o e
  ·show (cap.map _).length=N'.length
   rw[Je,P.len]
 have L:∀ {G:Hp},(∀ b∈fp,G b=none)->∀ b∈fp,FpOk Y [] G b:=λ{G} hn b a=>by
  refine⟨hn b a,(B.exf b a).1,B.exfs b a,.inl a,(B.exf b a).2,λp hp=>?_⟩;have aE:p∈X.pn++pins:=(Jv.mp hp).elim (λz=>z) (λz=>nomatch z);exact(N b a).2.2.2.2.2 p aE
 have a6:tn 0 w:=T.keep 0 _ _ a5 λb a o e=>old b o (a0 b o e)
 have loop:codeAny (model X.prog X.w) X.A (.compLoop (.ListComp elt [⟨tg,iter,o.toList,0⟩] scope pos) 0 (.ref it) (.ref l) Y.env) (compPost (model X.prog X.w) X.A X.xe use Q0 (.ref l) P2.objs.size) { A with heap:=w,toks:=A.toks }:=by
  refine gj (λn s'=>∃ i acc K G,Inv Y [] K G s'/\tn i s'.heap/\(∀ b∈fp,G b=none)/\W i n acc K G) ?_ m0 ⟨0,[],_,H3,bB,a6,b1,w0⟩;rintro n s4 ⟨i,acc,S,O,I4,a4,a9,w4⟩;obtain⟨b7,q4⟩:=turn i n acc S O w4;rcases q4 with ⟨stop,qn⟩|⟨go,step⟩
  ·refine thn (T.done Y rfl rfl rfl hc i [] s4 S O Y.xe I4 (L a9) a4 stop) λr U ⟨hr,I5⟩=>?_
   subst hr;obtain⟨m,hn,_⟩:=id I5.loc;have un:Un (frs X.stack) fp H3 O s3.heap U.heap:=I5.base;have bb:s3.heap.objs.size<=P2.objs.size:=by rw[f];exact Jg _
   have IX:Inv X pins σ O U:=k.call' (ch:=fp) I5.os un I5.hok I5.bare λb a=>⟨(N b a).2.2.2.1,(N b a).2.1,(N b a).2.2.2.2.1,(N b a).2.2.2.2.2⟩;exact fin l P2.objs.size O U m IX qn hn (k.fpOk bb I5.free)
  ·refine thn (T.item Y rfl rfl rfl hc i [] s4 S O Y.xe I4 (L a9) a4 go) λr U ⟨u,hr,h5⟩=>?_
   subst hr;refine thn h5 λ_ s6 ⟨x,H6,I6,r6,y6,ao,b0⟩=>?_;have b5:=I6.pinned (L b0) (T.obj _ _ ao);refine thn (hg _ _ _ _ _ _ s6 S H6 x u _ b5 r6 (step x H6 y6)) λ_ s7 ⟨ab,H7,I7,q7⟩=>?_;refine ot (ht _ _ _ _ _ _ s7 ab H7 _ I7 q7) λb s8 ⟨H8,I8,q8⟩=>?_
   have again:∀ {R:St}{H9:Hp}{s9:JO}{M:List V},Inv Y ([]++wp fp s6.heap) R H9 s9->(∃ m',m'<n/\W (i+1) m' M R H9)->∃ m,m<n/\∃ i acc K G,Inv Y [] K G s9/\tn i s9.heap/\(∀ b∈fp,G b=none)/\W i m acc K G:=λ{R H9 s9 M} I9 ⟨m',hm,w9⟩=>by
    refine⟨m',hm,i+1,M,R,H9,I9.unpinned,T.keep _ _ _ ao λb a o e=>(I9.pin (b,o) (Jz _ (Jz _ (yt a e)))).1,λb a=>?_,w9⟩;obtain⟨o,e,d⟩:=T.obj _ _ ao b a;exact(I9.pin (b,o) (Jz _ (Jz _ (yt a e)))).2.1
   cases b with
   | false =>
    rw[Jf Jj]at q8 ⊢
    exact again I8 q8
   | true =>
    rw[Jm rfl]at q8 ⊢;refine thn (he _ _ _ _ _ _ s8 ab H8 _ I8 q8) λyv s9 ⟨y,H9,I9,r9,bt,bc,q9⟩=>?_;refine thn (yq (X:=Y) _ s9 ab H9 (.ref l) [y] (.ref l) [yv] (λ_ G=>G=upd H9 l (.lst (acc++[y]))) I9 rfl (.cons r9 .nil) ⟨l,acc,y,rfl,rfl,bt,bc,rfl⟩) λ_ b8 ⟨_,cb,b6,_,b3⟩=>?_;subst b3;exact again b6 q9
 exact codeAny_compStart_list loop (T.self X.A 0 _ _ _ a6 loop)
theorem Inv.gone {X:Cx}{pins:List (JI × Obj)}{σ:St}{H:Hp}{s:JO}{C:JI}{h':YP}(I:Inv X pins σ H s)(f:FpOk X pins H C)(sb:Heap.SameBut C s.heap h'):Inv X pins σ H { s with heap:=h' } :=
 I.turned (t':=s.toks) (λb o a e=>(sb.2 b a).trans e) f.1 f.2.1 f.2.2.2.1 f.2.2.2.2.1 f.2.2.2.2.2
theorem su {X:Cx}{elt tg iter:Expr}{o:Option Expr}{scope:Scope}{pos:Pos}{a:TI}{g:TG}{tt:TT}{b:TE}{N':List Str}{cap:List (Option Nat)}(k:X.calm=true)(hi:PI X tg iter a)(n:CapOk X.N N' X.env.scope scope cap)(i:∀ C s₀ H₀ fp pins,PG (yc X N' scope C s₀ H₀ fp pins) tg g)(d:∀ C s₀ H₀ fp pins,PTo (yc X N' scope C s₀ H₀ fp pins) o tt)(j:∀ C s₀ H₀ fp pins,PE (yc X N' scope C s₀ H₀ fp pins) elt b)(hs:∀ x,foldedSetIterable iter X.env x=pure x:=by intro _;rfl) :
  PE X (.ListComp elt [⟨tg,iter,o.toList,0⟩] scope pos) (tLC cap a g tt b):=by
 intro pins s σ H Q I h;rw[eval_ListComp];exact jj (use:=none) k hi n i d j hs I h λl C r t m p q e f=>⟨m,e,λu c=>⟨.ref l,r,p.gone f c,rfl,q⟩⟩
theorem sk {X:Cx}{i:Nat}{y:Str}{elt tg iter:Expr}{o:Option Expr}{scope:Scope}{pos b py:Pos}{k:TI}{g:TG}{tt:TT}{n:TE}{N':List Str}{cap:List (Option Nat)}(L:X.N.Nodup)(j:X.N[i]?=some y)(p:X.env.scope.names.lookup y=some .local)(J:X.calm=true)(hi:PI X tg iter k)(M:CapOk X.N N' X.env.scope scope cap)(F:∀ C s₀ H₀ fp pins,PG (yc X N' scope C s₀ H₀ fp pins) tg g)(B:∀ C s₀ H₀ fp pins,PTo (yc X N' scope C s₀ H₀ fp pins) o tt)(G:∀ C s₀ H₀ fp pins,PE (yc X N' scope C s₀ H₀ fp pins) elt n)(hs:∀ x,foldedSetIterable iter X.env x=pure x:=by intro _;rfl)(d:swapsWith (.ListComp elt [⟨tg,iter,o.toList,0⟩] scope pos) (some (.Name y py)) b.line X.env=pure true:=by with_unfolding_all rfl) :
  PS X (.Assign [.Name y py] (.ListComp elt [⟨tg,iter,o.toList,0⟩] scope pos) b) (aH (tLC cap k g tt n) (xT i)):=by
 intro pins s σ H D I h;rw[exec_Assign_Name_used y py _ b d];refine J0 (YL (J0 (J0 (thn (jj (use:=some (assign (.Name y py) X.env)) (Q0:=λ_ z=>SP X pins D .next z) J hi M F B G hs I h λl C P Q m O q E f=>?_) λ_ z A=>J9 (J9 A)))));refine wpAny_assign_Name (qG (v:=.ref l) O L j (.inl p) rfl (λt N ⟨a,r,K⟩=>?_) (.inr p))
 have u:C≠a:=by
  rcases K with z|z
  ·rw[z];exact f.2.1
  ·exact λw=>f.2.2.2.2.1 y a z w.symm
 have e:t.heap.Ns C m:=E.sameBut r u;exact⟨m,e,λR c=>⟨_,P,N.gone f c,q⟩⟩
end L2
namespace Own
open PySem PySem.Spec PyProof.Rows
section
variable {M:Model}{prog:Yo}{w:YI}{A:YO}{E:Jo->JO->Prop}{s:JO}{α:Type}{Q:α->JO->Prop}
theorem rf {a:JI}{o:Obj}{vs:Array Jo}{x:Jo}{f:Jo->Sem α}(k:Nat)(c:s.heap.get? a=some o)(hd:o.data=.fields vs)(b:vs[k]?=some x)(h:wpAny M A (f x) Q E s) :
  wpAny M A (field (.ref a) k >>= f) Q E s:=J0 (Zf c hd b h)
theorem nx {T id:String}{B:Builtin}{it:JI}{P:Jo->JO->Prop}(slot:Slot T "__next__" id) (ty:s.TypeIs (.ref it) T) (en:entryFor table id=some B) (ok:argsOk id ⟨[.ref it],[]⟩)
  (h:wpAny (model prog w) A.in1 (B ⟨[.ref it],[]⟩) (λr s'=>∃ v,r=.done (.ret v)/\P v s') E s):wpAny (model prog w) A (Builtin.SmallTypes.nextOf (.ref it)) P E s:=by
 unfold Builtin.SmallTypes.nextOf;refine J0 (wpAny_callSpecial?_slot (name:="__next__") ty slot (Yr slot ty en (thn2 h) ok))
where
 thn2 {a:Sem Fin}{P:Jo->JO->Prop}{b:YO}(h:wpAny (model prog w) b a (λr s'=>∃ v,r=.done (.ret v)/\P v s') E s) :
   wpAny (model prog w) b a (λr s'=>∃ v,r=.done (.ret v)/\wpAny (model prog w) A (pure v) P E s') E s :=
  JK h (λ_ _ ⟨v,e,q⟩=>⟨v,e,J9 q⟩) λ_ _ z=>z
end
theorem ends {A:YO}{E:Jo->JO->Prop}{prog:Yo}{w:YI}{s:JO}{α:Type}{Q:α->JO->Prop}(c:A.handled=none)
  (h:∀ h' x,(∀ b o,s.heap.get? b=some o->h'.get? b=some o)->(∃ o,h'.get? x=some o/\o.cls=.type "StopIteration")->E (.ref x) { s with heap:=h' }) :
  wpAny (model prog w) A (Builtin.SmallTypes.stopIteration:Sem α) Q E s:=by
 unfold Builtin.SmallTypes.stopIteration newExc newTuple;refine J0 (J0 (JR ?_ (by size_fits)));refine J0 (wpAny_of_eq (a:=Value.none) (by rfl) (JR (wpAny_raiseNew_none c (h _ _ (λb o e=>?_) ⟨_,Jq _ rfl,rfl⟩)) (by size_fits)));exact J8 _ (J8 _ e)
def cN:Bool->String
 | true=>"list_iterator"
 | false=>"tuple_iterator"
abbrev RIt (b:Bool)(h:YP)(it a:JI)(i:Int):Prop:=h.get? it=some { cls:=.type (cN b),dict:=none,data:=.fields #[.ref a,.int i 0],slots:=#[] }
def SqO:Bool->YP->JI->Array Jo->Prop
 | true,h,a,xs=>h.IsList a xs
 | false,h,a,xs=>h.IsTuple a xs
theorem SqO.ob {b:Bool}{h:YP}{a:JI}{xs:Array Jo}(x:SqO b h a xs):∃ o n,h.get? a=some o/\o.data=.seq xs n:=by
 cases b<;>(obtain⟨o,e,_,n,d⟩:=x;exact⟨o,n,e,d⟩)
theorem SqO.mv {b:Bool}{h h':YP}{a:JI}{xs:Array Jo}(x:SqO b h a xs)(k:∀ o,h.get? a=some o->h'.get? a=some o):SqO b h' a xs:=by
 cases b<;>(obtain⟨o,e,r⟩:=x;exact⟨o,k o e,r⟩)
theorem SqO.ne {b c:Bool}{h:YP}{a it f:JI}{i:Int}{xs:Array Jo}(x:SqO b h a xs)(y:RIt c h it f i):a≠it:=λz=>by
 obtain⟨o,n,e,d⟩:=x.ob;rw[z,y]at e;cases e;cases d
section
variable {prog:Yo}{w:YI}{A:YO}{E:Jo->JO->Prop}{s:JO}
theorem ty {b:Bool}{it a:JI}{i:Int}(y:RIt b s.heap it a i):s.TypeIs (.ref it) (cN b):=⟨_,y,rfl⟩
theorem pW {b:Bool}{it a:JI}{i:Nat}{xs:Array Jo}{x:Jo}{P:Jo->JO->Prop}{B:Builtin}(m:B=match b with|true=>Builtin.«list_iterator.__next__»|false=>Builtin.«tuple_iterator.__next__»)(y:RIt b s.heap it a i)(sq:SqO b s.heap a xs)(g:xs[i]?=some x)(h:∀ h',RIt b h' it a (i+1)->Heap.SameBut it s.heap h'->P x { s with heap:=h' }) :
  wpAny (model prog w) A (B ⟨[.ref it],[]⟩) (λr f=>∃ v,r=.done (.ret v)/\P v f) E s:=by
 obtain⟨o,n,e,d⟩:=sq.ob
 have fin:wpAny (model prog w) A (match xs[(i:Int).toNat]? with
   | some x=>(do setField (.ref it) 1 (rawInt ((i:Int)+1));ret x:Sem Fin)
   | none=>Builtin.SmallTypes.stopIteration) (λr f=>∃ v,r=.done (.ret v)/\P v f) E s:=by
  rw[Yk,g];exact J0 (Yn y (show 1<2 by decide) λh' j k=>J9 ⟨x,rfl,h h' j k⟩)
 rw[Yk,g]at fin;subst m;cases b <;>
 ·refine rf 0 y rfl rfl (PyIte (show ¬((Value.ref a == Value.none)=true) from Jj) (rf 1 y rfl rfl (J0 (Yg e d ?_))))
  simp only[Yk,g];exact fin
where
 PyIte {c:Prop} [Decidable c] {α:Type}{a b:Sem α}{M:Model}{A:YO}{Q:α->JO->Prop}{E:Jo->JO->Prop}{s:JO}(l:¬ c) (h:wpAny M A b Q E s):wpAny M A (if c then a else b) Q E s:=by
  rw[Jf l];exact h
theorem qJ {b:Bool}{it a:JI}{i:Nat}{xs:Array Jo}{Q:Fin->JO->Prop}{B:Builtin}(m:B=match b with|true=>Builtin.«list_iterator.__next__»|false=>Builtin.«tuple_iterator.__next__»)
  (j:A.handled=none) (y:RIt b s.heap it a i) (sq:SqO b s.heap a xs) (g:xs[i]?=none)
  (h:∀ h' x,(∀ c o,c≠it->s.heap.get? c=some o->h'.get? c=some o)->(∃ o,h'.get? x=some o/\o.cls=.type "StopIteration")->E (.ref x) { s with heap:=h' }) :
  wpAny (model prog w) A (B ⟨[.ref it],[]⟩) Q E s:=by
 obtain⟨o,n,e,d⟩:=sq.ob;subst m;cases b <;>
 ·refine rf 0 y rfl rfl (pW.PyIte (show ¬((Value.ref a == Value.none)=true) from Jj) (rf 1 y rfl rfl (J0 (Yg e d ?_))))
  simp only[Yk,g];refine J0 (Z3 (J0 (Yn y (show 0<2 by decide) λr _ f=>?_)));exact ends j λp x k z=>h p x (λc o l q=>k c o ((f.2 c l).trans q)) z
theorem ax {b:Bool}{it a:JI}{i:Nat}{xs:Array Jo}{x:Jo}{P:Jo->JO->Prop}(y:RIt b s.heap it a i)(sq:SqO b s.heap a xs)(c:xs[i]?=some x)(h:∀ h',RIt b h' it a (i+1)->Heap.SameBut it s.heap h'->P x { s with heap:=h' }):wpAny (model prog w) A (Builtin.SmallTypes.nextOf (.ref it)) P E s:=by
 cases b
 ·exact nx F.slot_tuple_iterator_next (ty y) F.entry_tuple_iterator_next (F.args_tuple_iterator_next_1 _) (pW (b:=false) rfl y sq c h)
 ·exact nx slot_listiter_next (ty y) entry_listiter_next (args_listiter_next _) (pW (b:=true) rfl y sq c h)
theorem gD {b:Bool}{it a:JI}{i:Nat}{xs:Array Jo}{P:Jo->JO->Prop}(e:A.handled=none) (y:RIt b s.heap it a i) (sq:SqO b s.heap a xs) (d:xs[i]?=none)
  (h:∀ h' x,(∀ c o,c≠it->s.heap.get? c=some o->h'.get? c=some o)->(∃ o,h'.get? x=some o/\o.cls=.type "StopIteration")->E (.ref x) { s with heap:=h' }) :
  wpAny (model prog w) A (Builtin.SmallTypes.nextOf (.ref it)) P E s:=by
 have inner:A.in1.handled=none:=e;cases b
 ·exact nx F.slot_tuple_iterator_next (ty y) F.entry_tuple_iterator_next (F.args_tuple_iterator_next_1 _) (qJ (b:=false) rfl inner y sq d h)
 ·exact nx slot_listiter_next (ty y) entry_listiter_next (args_listiter_next _) (qJ (b:=true) rfl inner y sq d h)
theorem xP {b:Bool}{a:JI}{xs:Array Jo}{P:Jo->JO->Prop}(sq:SqO b s.heap a xs)(h:P (.ref s.heap.objs.size) { s with heap:=s.heap.push { cls:=.type (cN b),data:=.fields #[.ref a,.int 0 0] } }):wpAny (model prog w) A (pyIter (.ref a)) P E s:=by
 cases b
 ·exact wpAny_pyIter_tuple sq h
 ·exact wpAny_pyIter_list sq h
end
theorem draws {prog:Yo}{w:YI}{A:YO}(m:A.handled=none)(b:Bool)(it a:JI)(xs:Array Jo)(f:a≠it) :
  Draws prog w A it [it,a] xs.size (λi v=>xs[i]?=some v) (λi h=>RIt b h it a i/\SqO b h a xs) :=
 ⟨λ_ _ st=>⟨_,st.1⟩,λ_ _ _ st k=>⟨k it JJ _ st.1,st.2.mv λo e=>k a (JH _ JJ) o e⟩,
  λi s Q E j st k=>ax st.1 st.2 (Array.getElem?_eq_getElem j) λd y g=>k _ d s.toks (Array.getElem?_eq_getElem j) ⟨y,st.2.mv λo e=>(g.2 a f).trans e⟩ g,
  λs Q E st k=>gD m st.1 st.2 (by simp) λd x l z=>k d x (λc o n q=>l c o n q) z⟩
theorem bZ (b:Bool)(a:JI)(o:Obj)(xs:Array Jo) :
  Meets (Builtin.«enumerate.__new__» ⟨[.type "enumerate",.ref a],[]⟩) (λ_ R s=>s.heap.get? a=some o/\SqO b s.heap a xs /\
   R (.ok (.ret (.ref (s.heap.push { cls:=.type (cN b),data:=.fields #[.ref a,.int 0 0] }).objs.size)))
    { s with heap:=(s.heap.push { cls:=.type (cN b),data:=.fields #[.ref a,.int 0 0] }).push { cls:=.type "enumerate",data:=.fields #[.none,.bool false,.ref s.heap.objs.size,rawInt 0,.none,.none] } }) :=
 .of_wp λprog w A R s h=>by
  obtain⟨j,g,d,i,os⟩:=s;obtain⟨f,sq,h⟩:=h;have sub:=sub_enumerate;have e:SqO b (Shared.heap ⟨j,g,d,i,os⟩) a xs:=sq
  wp_walk using Wq f;refine wpAny_stack_any λst=>J9 ?_
  split
  case h_1 c _ _ _ _ _ =>
   cases (c == Value.type "enumerate")<;>(wp_walk using Wq f,xP e;exact⟨_,rfl,h⟩)
  all_goals (wp_walk using Wq f,xP e;exact⟨_,rfl,h⟩)
theorem gv {prog:Yo}{w:YI}{A:YO}{E:Jo->JO->Prop}{s:JO}{b:Bool}{a:JI}{xs:Array Jo}{P:Jo->JO->Prop}(sq:SqO b s.heap a xs)(h:∀ h' e it,s.heap.objs.size<=e->s.heap.objs.size<=it->e≠it->IsEnum h' e it 0 .none->RIt b h' it a 0->(∀ c o,s.heap.get? c=some o->h'.get? c=some o)->P (.ref e) { s with heap:=h' }) :
  wpAny (model prog w) A (call (.type "enumerate") [.ref a]) P E s:=by
 obtain⟨o,n,d,_⟩:=sq.ob;refine callType_new F.called_enumerate (by decide) (F.typeCall_enumerate_1 _) (F.newCall_enumerate_1 _) (λobj=>F.args_object_init_2 obj _) F.entry_enumerate_new (bZ b a o xs) ⟨d,sq,⟨_,Jq _ rfl,rfl⟩,?_⟩;refine h _ _ _ ?_ (Jg _) ?_ (Jq _ rfl) (J8 _ (Jq _ rfl)) λc o e=>J8 _ (J8 _ e)
 ·rw[YA];exact Nat.le_succ _
 ·rw[YA];exact Nat.succ_ne_self _
structure Sep (z TI TO i1 i2:JI) (f1 f2:List JI):Prop where
 all:[z,TI,TO,i1,i2].Nodup
 z1:z∉f1
 t1:TO∉f1
 o1:i2∉f1
 z2:z∉f2
 t2:TO∉f2
 o2:i1∉f2
section
variable {prog:Yo}{w:YI}{A:YO}{E:Jo->JO->Prop}{s:JO}{z TI TO i1 i2:JI}{f1 f2:List JI}{n1 n2 k:Nat}{P1 P2:Nat->Jo->Prop}{S1 S2:Nat->YP->Prop}{a b:Jo}
theorem fO (S:Sep z TI TO i1 i2 f1 f2)(D:Draws prog w A i1 f1 n1 P1 S1)(C:Draws prog w A i2 f2 n2 P2 S2){Q:Jo->JO->Prop}(n:IsZip s.heap z TI TO .none)(hI:IsPair s.heap TI (.ref i1) (.ref i2))(hO:IsPair s.heap TO a b)(d1:S1 k s.heap)(d2:S2 k s.heap)(l1:k<n1)(l2:k<n2)(h:∀ x y h' tk,P1 k x->P2 k y->IsZip h' z TI TO (rawInt s.heap.objs.size)->IsPair h' TO x y->S1 (k+1) h'->S2 (k+1) h'->IsPair h' s.heap.objs.size x y ->
   (∀ c o,c∉[z,TO,i1,i2]->s.heap.get? c=some o->h'.get? c=some o)->Q (.ref s.heap.objs.size) { s with heap:=h',toks:=tk }) :
  wpAny (model prog w) A (Builtin.«zip.__next__» ⟨[.ref z],[]⟩) (λr Y=>∃ v,r=.done (.ret v)/\Q v Y) E s:=by
 have L:=S.all;simp only[JQ,Jr,Ju,ZT,not_or]at L;obtain⟨⟨zI,u,W,V⟩,⟨IO,I1,I2⟩,⟨O1,O2⟩,aa,_⟩:=L;refine rf 2 n rfl rfl (rf 3 n rfl rfl (J0 (Yg hI rfl (J0 (rf 0 n rfl rfl (J9 ?_))))));simp only[YU];refine J0 (Z3 (rf 4 n rfl rfl (J0 (Yn n (show 0<5 by decide) λha U m=>J0 ?_))));have F:IsZip ha z TI TO .ellipsis:=U;simp only[List.zipIdx_cons,List.zipIdx_nil,Zc,ZU];refine J0 (J0 (wpAny_onRaise (J0 (D.item k _ _ _ l1 (D.frame _ _ _ d1 λc g o e=>(m.2 c λq=>S.z1 (q ▸ g)).trans e) λx hb tb Z db l=>J9 ?_))));have P:IsPair hb TO a b:=(l.2 TO O1).trans ((m.2 TO (Ne.symm u)).trans hO);refine J0 (Yg P rfl (J0 (wpAny_updateSeq_pair P λg Oc sc=>J0 (Zg (J9 ?_)))));have H:IsPair g TO x b:=Oc;have G:S2 k g:=C.frame _ _ _ d2 λc d o e=>(sc.2 c λq=>S.t2 (q ▸ d)).trans ((l.2 c λq=>S.o2 (q ▸ d)).trans ((m.2 c λq=>S.z2 (q ▸ d)).trans e));refine J0 (J0 (wpAny_onRaise (J0 (C.item k _ _ _ l2 G λy hd X py dd j=>J9 ?_))));have O:IsPair hd TO x b:=(j.2 TO O2).trans H;refine J0 (Yg O rfl (J0 (wpAny_updateSeq_pair O λf Oe i=>J0 (Zg (J9 (J9 ?_))))));have t:IsPair f TO x y:=Oe;refine J0 (Yg t rfl (J0 (wpAny_newTuple (J0 ?_))));have sz:f.objs.size=s.heap.objs.size:=by rw[i.1,j.1,sc.1,l.1,m.1]
 have I:IsZip f z TI TO .ellipsis:=(i.2 z u).trans ((j.2 z V).trans ((sc.2 z u).trans ((l.2 z W).trans F)));have zn:f.objs.size≠z:=Z5 (Jn I);unfold Builtin.SmallTypes.ownedTupleHandOut;refine J0 (Yn (J8 _ I) (show 0<5 by decide) λhf T K=>Yn T (show 1<5 by decide) λB R J=>J9 ⟨_,rfl,?_⟩);have up:∀ c o,c≠z->f.get? c=some o->B.get? c=some o:=λc o q e=>(J.2 c q).trans ((K.2 c q).trans (J8 _ e));have new:IsPair B f.objs.size x y:=(J.2 _ zn).trans ((K.2 _ zn).trans (Jq _ rfl));have p:IsZip B z TI TO (rawInt f.objs.size):=R;rw[sz]at new p;show Q (.ref f.objs.size) _;rw[sz];refine h x y B X Z py p (up _ _ (Ne.symm u) t) ?_ ?_ new λc o g e=>?_
 ·exact D.frame _ _ _ db λc d o e=>up c o (λq=>S.z1 (q ▸ d)) ((i.2 c λq=>S.t1 (q ▸ d)).trans ((j.2 c λq=>S.o1 (q ▸ d)).trans ((sc.2 c λq=>S.t1 (q ▸ d)).trans e)))
 ·exact C.frame _ _ _ dd λc d o e=>up c o (λq=>S.z2 (q ▸ d)) ((i.2 c λq=>S.t2 (q ▸ d)).trans e)
 ·simp only[Jr,Ju,ZT,not_or]at g
  obtain⟨N,M,c3,c4⟩:=g;exact up c o N ((i.2 c M).trans ((j.2 c c4).trans ((sc.2 c M).trans ((l.2 c c3).trans ((m.2 c N).trans e)))))
end
section
variable {prog:Yo}{w:YI}{A:YO}{E:Jo->JO->Prop}{s:JO}{z TI TO i1 i2:JI}{f1 f2:List JI}{n1:Nat}{P1:Nat->Jo->Prop}{S1:Nat->YP->Prop}
theorem fJ (S:Sep z TI TO i1 i2 f1 f2) (m:Draws prog w A i1 f1 n1 P1 S1) {Q:Fin->JO->Prop}(a:IsZip s.heap z TI TO .none) (v:IsPair s.heap TI (.ref i1) (.ref i2)) (y:S1 n1 s.heap)
  (h:∀ h' x,(∀ c o,c∉[z,TO,i1,i2]->s.heap.get? c=some o->h'.get? c=some o)->(∃ o,h'.get? x=some o/\o.cls=.type "StopIteration")->E (.ref x) { s with heap:=h' }):wpAny (model prog w) A (Builtin.«zip.__next__» ⟨[.ref z],[]⟩) Q E s:=by
 have j:=S.all;simp only[JQ,Jr,Ju,ZT,not_or]at j;obtain⟨⟨D,C,p,F⟩,⟨IO,J,I⟩,⟨H,G⟩,B,_⟩:=j;refine rf 2 a rfl rfl (rf 3 a rfl rfl (J0 (Yg v rfl (J0 (rf 0 a rfl rfl (J9 ?_))))));simp only[YU];refine J0 (Z3 (rf 4 a rfl rfl (J0 (Yn a (show 0<5 by decide) λu n i=>J0 ?_))));have f:IsZip u z TI TO .ellipsis:=n;simp only[List.zipIdx_cons,List.zipIdx_nil,Zc,ZU];refine J0 (J0 (wpAny_onRaise (J0 (m.done _ _ _ (m.frame _ _ _ y λc d o e=>(i.2 c λq=>S.z1 (q ▸ d)).trans e) λt x k ⟨r,ex,l⟩=>?_))));have g:IsZip t z TI TO .ellipsis:=k z _ p f;have xz:x≠z:=λq=>by rw[q,g]at ex;cases ex;exact absurd (show Value.type "zip" = Value.type "StopIteration" from l) (by decide)
 refine Yn g (show 0<5 by decide) λd _ sc=>h d x (λc o b e=>?_) ⟨r,(sc.2 x xz).trans ex,l⟩;simp only[Jr,Ju,ZT,not_or]at b;exact(sc.2 c b.1).trans (k c o b.2.2.1 ((i.2 c b.1).trans e))
end
theorem bw (b1 b2:Bool)(a1 a2:JI)(xs ys:Array Jo):Meets (Builtin.«zip.__new__» ⟨[.type "zip",.ref a1,.ref a2],[]⟩) (λ_ R s=>SqO b1 s.heap a1 xs/\SqO b2 s.heap a2 ys /\
  ∀ h' z,(∃ TI TO i1 i2,[z,TI,TO,i1,i2].Nodup/\(∀ c∈[z,TI,TO,i1,i2],s.heap.objs.size<=c)/\IsZip h' z TI TO .none/\IsPair h' TI (.ref i1) (.ref i2)/\IsPair h' TO .none .none/\RIt b1 h' i1 a1 0/\RIt b2 h' i2 a2 0) ->
   (∀ c o,s.heap.get? c=some o->h'.get? c=some o)->R (.ok (.ret (.ref z))) { s with heap:=h' }) :=
 .of_wp λprog w A R s h=>by
  obtain⟨a,g,d,b,os⟩:=s;obtain⟨k,j,h⟩:=h;have sub:=sub_zip;have i:SqO b1 (Shared.heap ⟨a,g,d,b,os⟩) a1 xs:=k;have f:SqO b2 (Shared.heap ⟨a.push { cls:=.type (cN b1),data:=.fields #[.ref a1,.int 0 0] },g,d,b,os⟩) a2 ys:=j.mv λo e=>J8 _ e
  wp_walk using xP i,xP f
  refine⟨_,rfl,h _ _ ⟨_,_,_,_,?_,?_,Jq _ rfl,J8 _ (J8 _ (Jq _ rfl)),J8 _ (Jq _ rfl),
   J8 _ (J8 _ (J8 _ (J8 _ (Jq _ rfl)))),J8 _ (J8 _ (J8 _ (Jq _ rfl)))⟩ λc o e=>?_⟩
  ·simp only[YA,JQ,Jr,Ju,ZT,not_or]
   simp<;>lia
  ·simp only[YA,Jr,Ju,ZT]
   intro c l;have:a.objs.size<=c:=by lia
   exact this
  ·exact J8 _ (J8 _ (J8 _ (J8 _ (J8 _ e))))
end Own
namespace L2
open PySem PySem.Spec PyProof.Rows Own
section
variable {X:Cx}{pins:List (JI × Obj)}{σ:St}{H:Hp}{s:JO}{h':YP}
theorem Inv.spunN {fp:List JI}{T:JI}{o:HO}{t':Nat}(I:Inv X pins σ H s)(k:∀ b o,b∉fp->s.heap.get? b=some o->h'.get? b=some o)(h:∀ b∈fp,FpOk X pins H b)(i:s.heap.objs.size<=T)(new:ObjOk X.prog X.w (upd H T o) h' T o):Inv X pins σ (upd H T o) { s with heap:=h',toks:=t' }:=by
 have f:H T=none:=I.hok.fresh i;have neT:∀ b u,s.heap.get? b=some u->b≠T:=λb u e=>JA (JG (Jn e) i);have g:∀ b u,H b=some u->b∉fp:=λb u e a=>by rw[(h b a).1]at e;cases e
 refine I.step (g':=s.gens) (d':=s.drawn) (ch:=fp) (λb a=>?_) (λb o _ _ d e _=>k b o d e) (λb o _ _ d e _=>⟨o.slots,k b o d e⟩) (λb o _ e n=>by rw[zK (neT b o e)];exact n)
  (λb o d e=>⟨o,k b o d e⟩) (λb j e=>by rw[zK (zJ e f)];exact e) (λb o u e=>by rw[zK (zJ e f)];exact e) (λb C e=>⟨#[],by rw[zK (zJ e f),e];simp⟩) (λm p=>?_) (λb u e=>?_) I.bare
 ·obtain⟨E,y,D,x,w,t⟩:=h b a
  exact⟨x,y,w,t⟩
 ·obtain⟨o,A,B,l,r⟩:=p
  exact⟨o,A,B,k _ o (λa=>(h _ a).2.1 rfl) l,r⟩
 ·by_cases a:b=T
  ·subst a;rw[zG]at e;cases e;exact new
  ·rw[zK a]at e
   refine(I.hok b u e).stay (λc v d q=>k c v ?_ q) (λc q=>by rw[zK (zJ q f)];exact q) λc j q=>by rw[zK (zJ q f)];exact q
   rcases d with z|z
   ·rw[z];exact g b u e
   ·exact g c _ z
theorem Inv.spun {fp:List JI}{t':Nat}(I:Inv X pins σ H s)(k:∀ b o,b∉fp->s.heap.get? b=some o->h'.get? b=some o)(g:∀ b∈fp,FpOk X pins H b):Inv X pins σ H { s with heap:=h',toks:=t' }:=by
 have f:∀ b u,H b=some u->b∉fp:=λb u e d=>by rw[(g b d).1]at e;cases e
 refine I.step (g':=s.gens) (d':=s.drawn) (ch:=fp) (λb d=>?_) (λb o _ _ a e _=>k b o a e) (λb o _ _ a e _=>⟨o.slots,k b o a e⟩) (λb o _ e n=>n)
  (λb o a e=>⟨o,k b o a e⟩) (λb h e=>e) (λb o u e=>e) (λb A e=>⟨#[],by rw[e];simp⟩) (λm j=>?_) (λb u e=>?_) I.bare
 ·obtain⟨C,w,B,t,p,l⟩:=g b d
  exact⟨t,w,p,l⟩
 ·obtain⟨o,x,y,i,r⟩:=j
  exact⟨o,x,y,k _ o (λd=>(g _ d).2.1 rfl) i,r⟩
 ·refine(I.hok b u e).stay (λc v a q=>k c v ?_ q) (λc q=>q) λc h q=>q
  rcases a with z|z
  ·rw[z];exact f b u e
  ·exact f c _ z
end
def SqB:Bool->Jl->Hp->JI->List V->Prop
 | true,K,H,a,xs=>SqL K H a xs
 | false,K,H,a,xs=>SqT K H a xs
section
variable {X:Cx}{pins:List (JI × Obj)}{σ:St}{H:Hp}{s:JO}{a c:JI}{xs ys:List V}{b:Bool}
theorem Inv.sq (I:Inv X pins σ H s)(h:SqB b X.K H a xs):∃ its:List Jo,Vals xs its/\SqO b s.heap a its.toArray:=by
 cases b
 ·obtain⟨its,r,p,z⟩:=I.tuple h
  exact⟨its,r,p⟩
 ·obtain⟨its,r,p,z⟩:=I.list h
  exact⟨its,r,p.isList⟩
theorem Inv.sq_inj (I:Inv X pins σ H s)(h:SqB b X.K H a xs)(h':SqB b X.K H a ys):xs=ys:=by
 cases b
 ·exact I.tuple_inj h h'
 ·exact I.list_inj h h'
theorem Inv.sq_ne (I:Inv X pins σ H s)(h:SqB b X.K H a xs)(f:FpOk X pins H c):c≠a:=by
 rintro rfl
 have d:∀ o,X.K.lookup c=some o->False:=λo e=>by
  have g:=I.ok.mod.kin c o e;rcases f.2.2.2.1 with z|z
  ·exact I.ok.noex c o g z
  ·exact absurd (JG (Jn g) (JX I.ok.bsz z)) (YB _)
 cases b <;>
 ·rcases h with (h|⟨o,h⟩)|⟨o,_,_,e,_⟩
  ·rw[f.1]at h;cases h
  ·rw[f.1]at h;cases h
  ·exact d o e
end
def Pr (v u:V)(H:Hp)(x:V)(H':Hp):Prop:=∃ T,H T=none/\x=.ref T/\H'=upd H T (.tup [v,u])
theorem ph {P:Yo}{w:YI}{H:Hp}{h:YP}{T:JI}{v u:V}{a b:Jo}(e:IsPair h T a b)(c:RelV v a)(d:RelV u b):ObjOk P w (upd H T (.tup [v,u])) h T (.tup [v,u]) :=
 ⟨show 2<=sizeLine by decide,[a,b],.cons c (.cons d .nil),⟨_,e,rfl,_,rfl,rfl⟩⟩
def Ite (K:Jl)(b:Bool)(a:JI):It :=
 ⟨λi H=>∃ c x,SqB b K H a c/\c[i]?=some x,λi H x d=>∃ y,(∀ c,SqB b K H a c->c[i]?=some y)/\Pr (.int i) y H x d,λi H=>∃ c,SqB b K H a c/\c.length=i⟩
theorem iI {P:Yo}{w:YI}{K:Jl}{es:List Expr}{k1}{S:Pos}(b:Bool)(a e it:JI)(k:e≠it):Turn P w K (.Tuple es k1 S) (Ite K b a) [e,it] e (λi h=>(∃ old,IsEnum h e it i old)/\RIt b h it a i) where
 mem:=JJ
 obj:=λi h ⟨⟨old,g⟩,f⟩ c n=>by
  rcases Jr.mp n with q|q
  ·rw[q];exact⟨_,g,λv z=>by cases z⟩
  ·rw[Jc.mp q];exact⟨_,f,λv z=>by cases z⟩
 keep:=λi h h' ⟨⟨old,g⟩,f⟩ L=>⟨⟨old,L e (by simp) _ g⟩,L it (by simp) _ f⟩
 item:=by
  intro X C B D n i pins s σ H E I m ⟨⟨old,g⟩,f⟩ ⟨O,x,l,r⟩;subst C B D;obtain⟨d,y,p⟩:=I.sq l;obtain⟨u,M,R⟩:=y.get r;have F:i<d.toArray.size:=by simpa using (Jb.mp M).1
  refine wpAny_pyNext_enum_itemD (draws (prog:=X.prog) (w:=X.w) (A:=X.A.in1) (I.ok.hd n) b it a d.toArray (p.ne f)) g ⟨f,p⟩ F k (by simp[k,I.sq_ne l (m e (by simp))]) λv h1 Q W Z Y hT _ hk=>?_;obtain rfl:u=v:=Jp (M.symm.trans (by simpa using W));refine⟨_,rfl,wpAny_letOwnedTupleGo_enum Z λh2 G t=>?_⟩;have J:s.heap.objs.size≠e:=Z5 (Jn g);have T:s.heap.objs.size≠it:=Z5 (Jn f);refine⟨.ref s.heap.objs.size,_,I.spunN (fp:=[e,it]) (λc o j q=>?_) m (Jg _) (ph (v:=.int i) (u:=x) ((t.2 _ J).trans hT) ⟨Q,rfl⟩ R),rfl,⟨x,λys V=>by rw[I.sq_inj V l];exact r,_,I.fresh,rfl,rfl⟩,⟨⟨_,G⟩,(t.2 it (Ne.symm k)).trans Y.1⟩,λc j=>?_⟩
  ·have N:c≠e:=λz=>j (by simp[z])
   exact(t.2 c N).trans (hk c o N (λz=>j (by simp[z])) q)
  ·rw[zK,(m c j).1]
   rintro rfl;rcases Jr.mp j with z|z
   ·exact J z
   ·exact T (Jc.mp z)
 done:=by
  intro X C B D n i pins s σ H E I m ⟨⟨old,g⟩,f⟩ ⟨O,l,r⟩;subst C B D;obtain⟨d,y,p⟩:=I.sq l;have U:i=d.toArray.size:=by rw[Jh,<- y.length,r]
  refine wpAny_pyNext_enum_endD (draws (prog:=X.prog) (w:=X.w) (A:=X.A.in1) (I.ok.hd n) b it a d.toArray (p.ne f)) g ⟨by rw[<- U];exact f,p⟩ λh' eb=>⟨rfl,I.spun (t':=s.toks) (fp:=[e,it]) (λc o j q=>eb c o (λz=>j (by simp[z])) q) m⟩
 self:=λ_ _ _ _ _ ⟨⟨_,g⟩,_⟩ h=>wpAny_pyIter_enum g h
def zcs (K:Jl)(b:Bool)(f:TA):TI:=λσ H R=>f σ H λe c=>∃ a d,e=[.ref a]/\SqB b K c a d/\R (Ite K b a) c
theorem jG {X:Cx}{a:Expr}{g:TA}{p pos o:Pos}{C:List Expr}{k1} (b:Bool) (A:Gl X "enumerate") (w:X.mg "enumerate" = none) (ha:PA X [a] g) (hs:starEach [a] X.env=[(false,eval a X.env)]:=by rfl) :
  PI X (.Tuple C k1 o) (.Call (.Name "enumerate" p) [a] [] pos) (zcs X.K b g):=by
 intro pins s σ H R I h;refine Call_ (xw I A w (u:=.type "enumerate") (by rfl) (Yi (thn (ha pos pins s σ H _ I h) λK i ⟨J,E,f,l,m⟩=>?_) hs rfl));obtain⟨D,G,rfl,v,q⟩:=m;obtain⟨u,rfl,k⟩:=l.one;cases k;obtain⟨F,L,n⟩:=f.sq v;refine gv n λM e it t r ne j y x=>wpAny_pyIter_enum j ⟨_,[e,it],_,_,E,rfl,f.kept (t':=i.toks) x,iI b D e it ne,⟨⟨_,j⟩,y⟩,λc B=>?_,q⟩
 have d:i.heap.objs.size<=c:=by
  rcases Jr.mp B with z|z
  ·rw[z];exact t
  ·rw[Jc.mp z];exact r
 exact f.fpOk d (f.hok.fresh d)
def Itz (K:Jl)(b1 b2:Bool)(a1 a2:JI):It :=
 ⟨λi H=>∃ a b x y,SqB b1 K H a1 a/\SqB b2 K H a2 b/\a[i]?=some x/\b[i]?=some y,λi H v c=>∃ x y,(∀ a,SqB b1 K H a1 a->a[i]?=some x)/\(∀ b,SqB b2 K H a2 b->b[i]?=some y)/\Pr x y H v c,
  λi H=>∃ a,SqB b1 K H a1 a/\a.length=i⟩
theorem fc {P:Yo}{w:YI}{K:Jl}{es:List Expr}{k1}{r:Pos}(b1 b2:Bool)(a1 a2 z TI TO i1 i2:JI)(nd:[z,TI,TO,i1,i2].Nodup) :
  Turn P w K (.Tuple es k1 r) (Itz K b1 b2 a1 a2) [z,TI,TO,i1,i2] z (λi h=>IsZip h z TI TO .none/\IsPair h TI (.ref i1) (.ref i2)/\(∃ a b,IsPair h TO a b)/\RIt b1 h i1 a1 i/\RIt b2 h i2 a2 i) where
 mem:=JJ
 obj:=λi h ⟨f,n,⟨a,b,u⟩,m,p⟩ c G=>by
  simp only[Jr,Ju,ZT]at G;rcases G with rfl|rfl|rfl|rfl|rfl
  ·exact⟨_,f,λv q=>by cases q⟩
  ·exact⟨_,n,λv q=>by cases q⟩
  ·exact⟨_,u,λv q=>by cases q⟩
  ·exact⟨_,m,λv q=>by cases q⟩
  ·exact⟨_,p,λv q=>by cases q⟩
 keep:=λi h h' ⟨f,n,⟨a,b,u⟩,m,p⟩ J=>⟨J z (by simp) _ f,J TI (by simp) _ n,⟨a,b,J TO (by simp) _ u⟩,J i1 (by simp) _ m,J i2 (by simp) _ p⟩
 item:=by
  intro X Z W hK G i pins s σ H E I t ⟨f,n,⟨a,b,u⟩,m,p⟩ ⟨xs,ys,x,y,D,V,O,hy⟩;subst Z W hK;obtain⟨N,U,r⟩:=I.sq D;obtain⟨u2,r2,p2⟩:=I.sq V;obtain⟨v1,e1,rx⟩:=U.get O;obtain⟨v2,e2,ry⟩:=r2.get hy;have j:=nd;simp only[JQ,Jr,Ju,ZT,not_or]at j;obtain⟨⟨R,zO,M,L⟩,⟨IO,I1,I2⟩,⟨O1,O2⟩,k,_⟩:=j;have e:∀ c∈[z,TI,TO,i1,i2],c≠a1:=λc d=>I.sq_ne D (t c d);have B:∀ c∈[z,TI,TO,i1,i2],c≠a2:=λc d=>I.sq_ne V (t c d);have S:Sep z TI TO i1 i2 [i1,a1] [i2,a2]:=⟨nd,by simp[M,e z (by simp)],by simp[O1,e TO (by simp)],by simp[Ne.symm k,e i2 (by simp)],by simp[L,B z (by simp)],by simp[O2,B TO (by simp)],by simp[k,B i1 (by simp)]⟩;have hd:=I.ok.hd G;have D1:=draws (prog:=X.prog) (w:=X.w) (A:=X.A.in1) hd b1 i1 a1 N.toArray (r.ne m);have D2:=draws (prog:=X.prog) (w:=X.w) (A:=X.A.in1) hd b2 i2 a2 u2.toArray (p2.ne p);have g:s.TypeIs (.ref z) "zip":=⟨_,f,rfl⟩;unfold pyNext
  refine J0 (wpAny_attempt (wpAny_callSpecial?_slot (name:="__next__") g F.slot_zip_next (Yr F.slot_zip_next g F.entry_zip_next (fO S D1 D2 f n u ⟨m,r⟩ ⟨p,p2⟩ (by simpa using (Jb.mp e1).1) (by simpa using (Jb.mp e2).1)
   λw1 w2 h' tk ab aa zh Oh d1 d2 new Q=>J9 ?_) (F.args_zip_next_1 _))))
  obtain rfl:v1=w1:=Jp (e1.symm.trans (by simpa using ab));obtain rfl:v2=w2:=Jp (e2.symm.trans (by simpa using aa));refine⟨_,rfl,wpAny_letOwnedTupleGo_zip zh λh3 z3 C=>?_⟩;have nz:s.heap.objs.size≠z:=Z5 (Jn f)
  have aE:∀ c∈[z,TI,TO,i1,i2],c≠s.heap.objs.size:=λc d=>by
   simp only[Jr,ZT,Ju]at d;rcases d with rfl|rfl|rfl|rfl|rfl
   ·exact JA (Jn f)
   ·exact JA (Jn n)
   ·exact JA (Jn u)
   ·exact JA (Jn m)
   ·exact JA (Jn p)
  refine⟨.ref s.heap.objs.size,_,I.spunN (fp:=[z,TI,TO,i1,i2]) (λc o d q=>?_) t (Jg _) (ph ((C.2 _ nz).trans new) rx ry),rfl,⟨x,y,λl Y=>by rw[I.sq_inj Y D];exact O,λl Y=>by rw[I.sq_inj Y V];exact hy,_,I.fresh,rfl,rfl⟩,
   ⟨z3,(C.2 _ (Ne.symm R)).trans (Q TI _ (by simp[Ne.symm R,IO,I1,I2]) n),⟨_,_,(C.2 _ (Ne.symm zO)).trans Oh⟩,(C.2 _ (Ne.symm M)).trans d1.1,(C.2 _ (Ne.symm L)).trans d2.1⟩,λc d=>by rw[zK (aE c d),(t c d).1]⟩
  simp only[Jr,Ju,ZT,not_or]at d;exact(C.2 c d.1).trans (Q c o (by simp[d]) q)
 done:=by
  intro X Z W hK G i pins s σ H E I t ⟨f,n,⟨a,b,u⟩,m,p⟩ ⟨xs,D,O⟩;subst Z W hK;obtain⟨N,U,r⟩:=I.sq D;have j:=nd;simp only[JQ,Jr,Ju,ZT,not_or]at j;obtain⟨⟨R,zO,M,L⟩,⟨IO,I1,I2⟩,⟨O1,O2⟩,k,_⟩:=j;have e:∀ c∈[z,TI,TO,i1,i2],c≠a1:=λc d=>I.sq_ne D (t c d);have S:Sep z TI TO i1 i2 [i1,a1] [i2]:=⟨nd,by simp[M,e z (by simp)],by simp[O1,e TO (by simp)],by simp[Ne.symm k,e i2 (by simp)],by simp[L],by simp[O2],by simp[k]⟩;have ao:i=N.toArray.size:=by rw[Jh,<- U.length,O]
  have g:s.TypeIs (.ref z) "zip":=⟨_,f,rfl⟩;unfold pyNext
  refine J0 (wpAny_attempt (wpAny_callSpecial?_slot (name:="__next__") g F.slot_zip_next (Yr F.slot_zip_next g F.entry_zip_next
   (fJ S (draws (prog:=X.prog) (w:=X.w) (A:=X.A.in1) (I.ok.hd G) b1 i1 a1 N.toArray (r.ne m)) f n ⟨by rw[<- ao];exact m,r⟩ λh' x Q ⟨o,eo,co⟩=>?_) (F.args_zip_next_1 _))))
  refine J0 (wpAny_isInstance (T:="StopIteration") (b:=true) ⟨o,eo,co⟩ isSubtype_stop (J9 ⟨rfl,I.spun (t':=s.toks) (fp:=[z,TI,TO,i1,i2]) (λc o d q=>Q c o ?_ q) t⟩));simp only[Jr,Ju,ZT,not_or]at d ⊢;exact⟨d.1,d.2.2.1,d.2.2.2.1,d.2.2.2.2⟩
 self:=λ_ _ _ _ _ st h=>wpAny_pyIter_zip st.1 h
def zc3 (K:Jl)(b1 b2:Bool)(g:TA):TI:=λσ H R=>g σ H λf c=>∃ b a e d,f=[.ref b,.ref a]/\SqB b1 K c b e/\SqB b2 K c a d/\R (Itz K b1 b2 b a) c
theorem dm {X:Cx}{a b:Expr}{o:TA}{p pos G:Pos}{S:List Expr}{k1} (b1 b2:Bool) (M:Gl X "zip") (K:X.mg "zip" = none) (ha:PA X [a,b] o) (hs:starEach [a,b] X.env=[(false,eval a X.env),(false,eval b X.env)]:=by rfl) (e:starEach [b] X.env=[(false,eval b X.env)]:=by rfl) :
  PI X (.Tuple S k1 G) (.Call (.Name "zip" p) [a,b] [] pos) (zc3 X.K b1 b2 o):=by
 intro pins s σ H R I h;refine Call_ (xw I M K (u:=.type "zip") (by rfl) (Yi (thn (ha pos pins s σ H _ I h) λY A ⟨W,T,d,D,E⟩=>?_) (by rw[hs,e]) (by rw[e];rfl)));obtain⟨y,x,V,U,rfl,n,m,q⟩:=E;obtain⟨u,v,rfl,C,B⟩:=D.two;cases C;cases B;obtain⟨l,_,j⟩:=d.sq n;obtain⟨k,_,i⟩:=d.sq m;refine callType_new F.called_zip (by decide) (F.typeCall_zip_2 _ _) (F.newCall_zip_2 _ _) (λobj=>F.args_object_init_3 obj _ _) F.entry_zip_new (bw b1 b2 y x l.toArray k.toArray) ⟨j,i,λZ z ⟨TI,TO,t,r,J,f,g,O,N,Q,P⟩ L=>⟨⟨_,g,rfl⟩,?_⟩⟩;exact wpAny_pyIter_zip g ⟨_,[z,TI,TO,t,r],_,_,T,rfl,d.kept (t':=A.toks) L,fc b1 b2 y x z TI TO t r J,⟨g,O,⟨_,_,N⟩,Q,P⟩,λc w=>d.fpOk (f c w) (d.hok.fresh (f c w)),q⟩
section
variable {X:Cx}
theorem qA {prog:Yo}{w:YI}{A:YO}(d:A.handled=none)(b:Bool)(I a:JI)(c:a≠I)(xs:Array Jo) :
  Walks prog w A I [I,a] [I] xs.size (λi v=>xs[i]?=some v) (λi h=>(match b with|true=>h.IsListIter I a i|false=>h.IsTupleIter I a i)/\SqO b h a xs):=by
 cases b
 ·exact Walks.tuple d I a c xs
 ·exact Walks.list d I a c xs
theorem tE (ns:List Int):∀ n,n<=ns.length->preSum (λi=>ns.getD i 0) n=(ns.take n).sum
 | 0,_=>by simp[preSum]
 | n+1,h=>by
  have e:ns[n]?=some ns[n]:=J7 h;rw[preSum,tE ns n (Nat.le_of_lt h),List.take_add_one,List.sum_append,e,Ja,e];simp
theorem qo (C:X.calm=true)(b:Bool):CallR X (.builtin "sum") (λvs H Q=>∃ a ns,vs=[.ref a]/\SqB b X.K H a (List.map V.int ns)/\Q (.int ns.sum) H):=by
 intro pins s σ H vs D Q I l h;obtain⟨a,ns,rfl,x,q⟩:=h;obtain⟨u,rfl,m⟩:=l.one;cases m;obtain⟨d,r,p⟩:=I.sq x
 have g:a≠s.heap.objs.size:=by
  obtain⟨o,n,e,_⟩:=p.ob;exact JA (Jn e)
 have A:d.length=ns.length:=by rw[<- r.length,Je]
 refine call_sum_walkG (xP p ⟨s.heap.objs.size,[s.heap.objs.size,a],[s.heap.objs.size],_,_,_,λi=>ns.getD i 0,rfl,qA (show X.A.in1.handled=none from I.ok.hd C) b _ a g d.toArray,?_,?_,?_,?_⟩)
 ·refine⟨?_,p.mv λo e=>J8 _ e⟩
  cases b<;>exact⟨_,Jq _ rfl,rfl,rfl⟩
 ·intro c y
  show c<(s.heap.push _).objs.size;rw[YA];rcases Jr.mp y with z|z
  ·rw[z];exact Z9 _
  ·rw[Jc.mp z]
   obtain⟨o,n,e,_⟩:=p.ob;exact Z0 (Jn e)
 ·intro i v w
  have f:d[i]?=some v:=by simpa using w
  have F:=(Jb.mp f).1
  have e:(List.map V.int ns)[i]?=some (V.int (ns.getD i 0)):=by
   rw[JN,Ja,J7 (by simp_all)];rfl
  obtain⟨E,j,⟨t,rfl⟩⟩:=r.get e;rw[f]at j;exact⟨t,Jp j⟩
 ·intro G k t' B
  refine⟨.int ns.sum,H,I.kept (t':=k) λc o e=>B c o ?_ (J8 _ e),⟨t',?_⟩,q⟩
  ·exact λz=>JA (Jn e) (Jc.mp z)
  ·rw[Jh,A,tE ns _ (Jg _),Y5]
theorem zD {H:Hp}{p:JI}(h:H p=none)(o:HO):Same H (upd H p o):=λb u q=>by rw[zK (zJ q h)];exact q
def zcv (N N':List Str)(sc scope:Scope)(cap:List (Option Nat)):Bool :=
 decide (scope.kind=.function) && (scope.names.all λy=>decide (y.2≠.cell) && (decide (y.2≠.local) || decide (scope.names.lookup y.1=some .local)) &&
  (decide (y.2≠.free) || (decide (sc.names.lookup y.1=some .cell) || decide (sc.names.lookup y.1=some .free)))) && decide (cap.length=N'.length) &&
 ((N'.zip cap).all λp=>match p.2 with
  | none=>true
  | some i=>decide (N[i]?=some p.1) && (decide (scope.names.lookup p.1=some .free) && (decide (sc.names.lookup p.1=some .cell) || decide (sc.names.lookup p.1=some .free))))
theorem CapOk.of {N N':List Str}{sc scope:Scope}{cap:List (Option Nat)}(h:zcv N N' sc scope cap=true):CapOk N N' sc scope cap:=by
 unfold zcv at h;simp only[Z8,List.all_eq_true,Wb,Z1]at h;obtain⟨⟨⟨g,b⟩,f⟩,d⟩:=h;refine⟨g,λy a=>(b y a).1.1,λy a e=>?_,λy a e=>?_,f,λp c i e=>?_⟩
 ·rcases (b y a).1.2 with z|z
  ·exact absurd e z
  ·exact z
 ·rcases (b y a).2 with z|z
  ·exact absurd e z
  ·exact z
 ·have q:=d p c
  rw[e]at q;simp only[Z8,Wb,Z1]at q;exact q
def Nx (n i:Nat)(p:Prop):Prop:=∃ a,a<n-i/\a=n-(i+1)/\i+1<=n/\p
theorem nx {n i:Nat}{p:Prop}(h:i<n)(q:p):Nx n i p:=⟨n-(i+1),by lia,rfl,h,q⟩
theorem ny {lo:Int}{n:Nat}{g:TG}{d:TE}{l:JI}{σ:St}{H:Hp}{Q:VK}(a:Nat->List V->St->Hp->Prop)(j:a 0 [] σ H)(h:∀ i acc σ H,a i acc σ H->H l=some (.lst acc))(hs:∀ i acc σ H,i<n->a i acc σ H->g (.int (lo+i)) σ H λb k=>d b k λy f=>f l=some (.lst acc)/\acc.length<sizeLine/\Nx n i (a (i+1) (acc++[y]) b (upd f l (.lst (acc++[y])))))(hd:∀ acc σ H,a n acc σ H->Q (.ref l) H):∃ W:Nat->Nat->List V->St->Hp->Prop,(∃ m,W 0 m [] σ H)/\LCW (Itr lo n) g fq d l Q W:=by
 refine⟨λi m acc σ H=>m=n-i/\i<=n/\a i acc σ H,⟨n,by simp,JL _,j⟩,?_⟩;rintro i m acc σ H ⟨rfl,o,p⟩;refine⟨h i acc σ H p,?_⟩;by_cases c:i<n
 ·refine .inr ⟨c,λx q ⟨e,y⟩=>?_⟩
  subst e y;exact hs i acc σ _ c p
 ·have e:i=n:=by lia
  subst e;exact .inl ⟨Jg _,hd acc σ H p⟩
theorem bV {K:Jl}{b:Bool}{a:JI}{xs:List V}{g:TG}{l:TS}{D:Ends}{σ:St}{H:Hp}(c:Nat->St->Hp->Prop)(v:c 0 σ H)(r:∀ i σ H,i<=xs.length->c i σ H->SqB b K H a xs)(hs:∀ i x σ H T,xs[i]?=some x->H T=none->c i σ H->g (.ref T) σ (upd H T (.tup [.int i,x])) λf k=>l { D with nx:=c (i+1),ct:=c (i+1),bk:=D.nx } f k)(t:∀ σ H,c xs.length σ H->D.nx σ H) :
  ∃ W:Nat->Nat->St->Hp->Prop,(∃ m,W 0 m σ H)/\∀ i m σ H,W i m σ H ->
   ((Ite K b a).stop i H/\D.nx σ H)\/((Ite K b a).go i H/\∃ N:St->Hp->Prop,(∀ h d,N h d->∃ n,n<m/\W (i+1) n h d)/\∀ x d,(Ite K b a).yld i H x d->g x σ d λf k=>l { D with nx:=N,ct:=N,bk:=D.nx } f k):=by
 refine⟨λi m σ H=>m=xs.length-i/\i<=xs.length/\c i σ H,⟨xs.length,by simp,JL _,v⟩,?_⟩;rintro i m σ H ⟨rfl,s,p⟩;have q:=r i σ H s p;by_cases j:i<xs.length
 ·refine .inr ⟨⟨xs,xs[i],q,J7 j⟩,c (i+1),λh d o=>⟨xs.length-(i+1),by lia,rfl,j,o⟩,λx d ⟨y,w,T,u,z,e2⟩=>?_⟩
  subst z e2;exact hs i y σ H T (w xs q) u p
 ·have e:i=xs.length:=by lia
  subst e;exact .inl ⟨⟨xs,q,rfl⟩,t σ H p⟩
theorem num_at {ns:List Int}{its:List Jo}(r:Vals (ns.map V.int) its){i:Nat}{v:Jo}(h:its[i]?=some v):i<ns.length/\∃ t,v=.int (ns.getD i 0) t:=by
 have c:its.length=ns.length:=by rw[<- r.length,Je]
 have d:=(Jb.mp h).1
 have e:(List.map V.int ns)[i]?=some (V.int (ns.getD i 0)):=by
  rw[JN,Ja,J7 (by simp_all)];rfl
 obtain⟨b,a,⟨t,rfl⟩⟩:=r.get e;rw[h]at a;exact⟨by simp_all,t,Jp a⟩
theorem x4 {ns:List Int}{i:Nat}(h:i<ns.length):ns.getD i 0∈ns:=by
 rw[Ja,J7 h];exact JY h
theorem sw {ns:List Int}{x:Int}(h:x∈ns):∃ i,i<ns.length/\ns.getD i 0=x:=by
 obtain⟨i,a,e⟩:=List.getElem_of_mem h;exact⟨i,a,by rw[Ja,J7 a];exact e⟩
theorem qt (F:X.calm=true)(b:Bool):CallR X (.builtin "max") (λvs H Q=>∃ a ns,vs=[.ref a]/\SqB b X.K H a (List.map V.int ns)/\0<ns.length/\∀ M,M∈ns->(∀ x∈ns,x<=M)->Q (.int M) H):=by
 intro pins s σ H vs L Q I m h;obtain⟨a,ns,rfl,B,k,q⟩:=h;obtain⟨u,rfl,w⟩:=m.one;cases w;obtain⟨d,r,p⟩:=I.sq B;obtain⟨o,n,g,_⟩:=p.ob;have O:d.length=ns.length:=by rw[<- r.length,Je]
 refine call_max_walk (xP p ⟨s.heap.objs.size,[s.heap.objs.size,a],[s.heap.objs.size],_,_,_,λi j=>decide (ns.getD i 0 > ns.getD j 0),rfl,qA (show X.A.in1.handled=none from I.ok.hd F) b _ a (JA (Jn g)) d.toArray,⟨?_,p.mv λo e=>J8 _ e⟩,λc C=>?_,by rw[Jh];simp_all,?_,?_⟩)
 ·cases b<;>exact⟨_,Jq _ rfl,rfl,rfl⟩
 ·show c<(s.heap.push _).objs.size
  rw[YA];rcases Jr.mp C with z|z
  ·rw[z];exact Z9 _
  ·rw[Jc.mp z];exact Z0 (Jn g)
 ·intro i j K J N R S E f G
  obtain⟨_,t,rfl⟩:=num_at r (i:=i) (by simpa using E);obtain⟨_,t',rfl⟩:=num_at r (i:=j) (by simpa using f);exact gt_int G
 ·intro v P l A D
  have best:=argBest_gt (λi=>ns.getD i 0) (d.toArray.size-1);obtain⟨li,t,rfl⟩:=num_at r (by simpa using A);refine⟨.int _,H,I.kept (t':=l) λc o e=>D c o (λz=>JA (Jn e) (Jc.mp z)) (J8 _ e),⟨t,rfl⟩,q _ (x4 li) λx y=>?_⟩;obtain⟨j,f,rfl⟩:=sw y;exact best.2 j (by rw[Jh];lia)
theorem ux (F:X.calm=true)(b:Bool):CallR X (.builtin "min") (λvs H Q=>∃ a ns,vs=[.ref a]/\SqB b X.K H a (List.map V.int ns)/\0<ns.length/\∀ M,M∈ns->(∀ x∈ns,M<=x)->Q (.int M) H):=by
 intro pins s σ H vs L Q I m h;obtain⟨a,ns,rfl,B,k,q⟩:=h;obtain⟨u,rfl,w⟩:=m.one;cases w;obtain⟨d,r,p⟩:=I.sq B;obtain⟨o,n,g,_⟩:=p.ob;have O:d.length=ns.length:=by rw[<- r.length,Je]
 refine call_min_walk (xP p ⟨s.heap.objs.size,[s.heap.objs.size,a],[s.heap.objs.size],_,_,_,λi j=>decide (ns.getD i 0<ns.getD j 0),rfl,qA (show X.A.in1.handled=none from I.ok.hd F) b _ a (JA (Jn g)) d.toArray,⟨?_,p.mv λo e=>J8 _ e⟩,λc C=>?_,by rw[Jh];simp_all,?_,?_⟩)
 ·cases b<;>exact⟨_,Jq _ rfl,rfl,rfl⟩
 ·show c<(s.heap.push _).objs.size
  rw[YA];rcases Jr.mp C with z|z
  ·rw[z];exact Z9 _
  ·rw[Jc.mp z];exact Z0 (Jn g)
 ·intro i j K J N R S E f G
  obtain⟨_,t,rfl⟩:=num_at r (i:=i) (by simpa using E);obtain⟨_,t',rfl⟩:=num_at r (i:=j) (by simpa using f);exact lt_int G
 ·intro v P l A D
  have best:=argBest_lt (λi=>ns.getD i 0) (d.toArray.size-1);obtain⟨li,t,rfl⟩:=num_at r (by simpa using A);refine⟨.int _,H,I.kept (t':=l) λc o e=>D c o (λz=>JA (Jn e) (Jc.mp z)) (J8 _ e),⟨t,rfl⟩,q _ (x4 li) λx y=>?_⟩;obtain⟨j,f,rfl⟩:=sw y;exact best.2 j (by rw[Jh];lia)
end
end L2
namespace Own
open PySem PySem.Spec PyProof.Rows
section
variable {prog:Yo}{w:YI}{A:YO}{E:Jo->JO->Prop}{s:JO}
theorem SqO.cl {b:Bool}{a:JI}{xs:Array Jo}(x:SqO b s.heap a xs):s.TypeIs (.ref a) (if b then "list" else "tuple"):=by
 cases b<;>(obtain⟨o,e,c,_⟩:=x;exact⟨o,e,c⟩)
theorem zbH {b:Bool}{a:JI}{vs:List Jo}{Q:List Jo->JO->Prop}(sq:SqO b s.heap a vs.toArray)(j:vs.length<=sizeLine)(h:∀ h',s.heap.objs.size<=h'.objs.size->(∀ c o,s.heap.get? c=some o->h'.get? c=some o)->Q vs { s with heap:=h' }):wpAny (model prog w) A (collect (.ref a)) Q E s:=by
 obtain⟨o,n,e,d⟩:=sq.ob;have new:(s.heap.push (seqObj "list" #[] 0)).get? s.heap.objs.size=some (seqObj "list" #[] 0):=Jq _ rfl;have i:(s.heap.push (seqObj "list" #[] 0)).get? a=some o:=J8 _ e
 have old:∀ c u,s.heap.get? c=some u->((s.heap.push (seqObj "list" #[] 0)).update s.heap.objs.size (Obj.mapSeq (·++vs.toArray))).get? c=some u:=λc u q=>by
  rw[JS _ _ (Z5 (Jn q))];exact J8 _ q
 have g:SqO b (s.heap.push (seqObj "list" #[] 0)) a vs.toArray:=sq.mv λo q=>J8 _ q;have short:((#[]:Array Jo)++vs.toArray).size<=sizeLine+1:=by simp;lia
 unfold collect;refine J0 (wpAny_runValue (YQ entry_proto_collect' (J0 (wpAny_newList (J9 ⟨Code.quiet_builtin _ (by decide +kernel),YQ entry_list_iadd' ?_⟩)))));show wpAny _ _ (Builtin.List.listExtendWith (.ref s.heap.objs.size) (.ref a) (.ref s.heap.objs.size)) _ _ ({ s with heap:=s.heap.push (seqObj "list" #[] 0) }:JO);unfold Builtin.List.listExtendWith;have f:Shared.TypeIs ({ s with heap:=s.heap.push (seqObj "list" #[] 0) }:JO) (.ref a) (if b then "list" else "tuple"):=SqO.cl g;refine J0 (ZB f ?_)
 have yes:(Builtin.List.listSameRef (.ref s.heap.objs.size) (.ref a) || Value.type (if b then "list" else "tuple") == Value.type "list" || Value.type (if b then "list" else "tuple") == Value.type "tuple")=true:=by
  have c:∀ b:Bool,(Value.type (if b then "list" else "tuple") == Value.type "list" || Value.type (if b then "list" else "tuple") == Value.type "tuple")=true:=by decide
  rw[Bool.or_assoc,c b,Bool.or_true]
 rw[Jm yes];refine J0 (listItems_at i d (J0 (listItems_at new rfl ?_)));rw[Jf (by simp)];refine J0 (listUpdate_at new rfl (J9 ?_) (JL _) short);refine J0 (wpAny_load (get?_update_seq new _) ?_);have all:((#[]:Array Jo)++vs.toArray).toList=vs:=by simp
 have fin:wpAny (model prog w) A (pure ((#[]:Array Jo)++vs.toArray).toList) Q E { s with heap:=(s.heap.push (seqObj "list" #[] 0)).update s.heap.objs.size (Obj.mapSeq (·++vs.toArray)) }:=by
  rw[all];exact J9 (h _ (by rw[Heap.size_update,size_push'];exact Nat.le_succ _) old)
 exact fin
end
end Own
namespace L2
open PySem PySem.Spec PyProof.Rows Own
theorem oJ {K:Jl}{a:JI}{xs:List V}{g:TG}{h:TE}{l:JI}{σ:St}{H:Hp}{Q:VK}(b:Nat->List V->St->Hp->Prop)(o:b 0 [] σ H)(n:∀ i acc σ H,b i acc σ H->H l=some (.lst acc)/\SqT K H a xs)(hs:∀ i x acc σ H,xs[i]?=some x->b i acc σ H->g x σ H λc q=>h c q λy j=>j l=some (.lst acc)/\acc.length<sizeLine/\Nx xs.length i (b (i+1) (acc++[y]) c (upd j l (.lst (acc++[y])))))(hd:∀ acc σ H,b xs.length acc σ H->Q (.ref l) H):∃ W:Nat->Nat->List V->St->Hp->Prop,(∃ m,W 0 m [] σ H)/\LCW (Itt K a) g fq h l Q W:=by
 refine⟨λi m acc σ H=>m=xs.length-i/\i<=xs.length/\b i acc σ H,⟨_,rfl,JL _,o⟩,?_⟩;rintro i m acc σ H ⟨rfl,r,p⟩;obtain⟨k,d⟩:=n i acc σ H p;refine⟨k,?_⟩;by_cases f:i<xs.length
 ·refine .inr ⟨⟨xs,xs[i],d,J7 f⟩,λx s ⟨e,y⟩=>?_⟩
  subst e;exact hs i x acc σ _ (y xs d) p
 ·obtain rfl:i=xs.length:=by lia
  exact .inl ⟨⟨xs,d,Jg _⟩,hd acc σ H p⟩
theorem jh {K:Jl}{a:JI}{xs:List V}{g:TG}{h:TE}{l:JI}{σ:St}{H:Hp}{Q:VK}(b:Nat->List V->St->Hp->Prop)(o:b 0 [] σ H)(n:∀ i acc σ H,b i acc σ H->H l=some (.lst acc)/\SqL K H a xs)(hs:∀ i x acc σ H,xs[i]?=some x->b i acc σ H->g x σ H λc q=>h c q λy j=>j l=some (.lst acc)/\acc.length<sizeLine/\Nx xs.length i (b (i+1) (acc++[y]) c (upd j l (.lst (acc++[y])))))(hd:∀ acc σ H,b xs.length acc σ H->Q (.ref l) H):∃ W:Nat->Nat->List V->St->Hp->Prop,(∃ m,W 0 m [] σ H)/\LCW (Itl K a) g fq h l Q W:=by
 refine⟨λi m acc σ H=>m=xs.length-i/\i<=xs.length/\b i acc σ H,⟨_,rfl,JL _,o⟩,?_⟩;rintro i m acc σ H ⟨rfl,r,p⟩;obtain⟨k,d⟩:=n i acc σ H p;refine⟨k,?_⟩;by_cases f:i<xs.length
 ·refine .inr ⟨⟨xs,xs[i],d,J7 f⟩,λx s ⟨e,y⟩=>?_⟩
  subst e;exact hs i x acc σ _ (y xs d) p
 ·obtain rfl:i=xs.length:=by lia
  exact .inl ⟨⟨xs,d,Jg _⟩,hd acc σ H p⟩
theorem qV {lo:Int}{n:Nat}{g:TG}{tt:TT}{f:TE}{l:JI}{σ:St}{H:Hp}{Q:VK}(c:Nat->List V->St->Hp->Prop)(o:c 0 [] σ H)(k:∀ i acc σ H,c i acc σ H->H l=some (.lst acc))(hs:∀ i acc σ H,i<n->c i acc σ H->g (.int (lo+i)) σ H λa q=>tt a q λb j=>if b=true then f a j λy h=>h l=some (.lst acc)/\acc.length<sizeLine/\Nx n i (c (i+1) (acc++[y]) a (upd h l (.lst (acc++[y])))) else Nx n i (c (i+1) acc a j))(hd:∀ acc σ H,c n acc σ H->Q (.ref l) H):∃ W:Nat->Nat->List V->St->Hp->Prop,(∃ m,W 0 m [] σ H)/\LCW (Itr lo n) g tt f l Q W:=by
 refine⟨λi m acc σ H=>m=n-i/\i<=n/\c i acc σ H,⟨_,rfl,JL _,o⟩,?_⟩;rintro i m acc σ H ⟨rfl,r,p⟩;refine⟨k i acc σ H p,?_⟩;by_cases d:i<n
 ·refine .inr ⟨d,λx s ⟨e,y⟩=>?_⟩
  subst e y;exact hs i acc σ _ d p
 ·obtain rfl:i=n:=by lia
  exact .inl ⟨Jg _,hd acc σ H p⟩
end L2
namespace L2
open PySem PySem.Spec PyProof.Rows Own
section
variable {prog:Yo}{w:YI}{A:YO}{E:Jo->JO->Prop}{s:JO}
theorem mQ {Q:List Jo->JO->Prop}{r:JI}{a b c:Int}{t u v:Tok}{n:Nat}(x:A.handled=none)(l:IsRange s.heap r a b c t u v)(k:Builtin.Range.small a b c=true)(p:Builtin.Range.rangeSize a b c=n)(hlen:n<=2 ^ 24)(q:∀ (h':YP) (tk:Nat) (acc:Array Jo),(∀ b o,s.heap.get? b=some o->h'.get? b=some o)->ItemsOf (λi v=>∃ t,v=.int (a+i*c) t) acc n->Q acc.toList { s with heap:=h',toks:=tk }):wpAny (model prog w) A (collect (.ref r)) Q E s:=by
 have key:∀ R:Result->JO->Prop,(∀ (h':YP) (tk:Nat) (acc:Array Jo) (f:Nat),(∀ b o,s.heap.get? b=some o->h'.get? b=some o)->h'.get? s.heap.objs.size=some { cls:=.type "list",data:=.seq acc f }->ItemsOf (λi v=>∃ t,v=.int (a+i*c) t) acc n->R (.ok (.ret (.ref s.heap.objs.size))) { s with heap:=h',toks:=tk }) ->
   codeAny (model prog w) A (.builtin "proto.collect" ⟨[.ref r],[]⟩) R s:=by
  intro R y;have j:=λz=>YV (A:=A) F.plain_proto_collect z;have h:=λz=>YV (A:=A) F.plain_list_iadd z;refine YQ F.entry_proto_collect ?_;rw[j];refine J0 (m:=newList []) (JR (J9 ⟨Z6 F.plain_list_iadd _,YQ F.entry_list_iadd ?_⟩));rw[h];have B:(s.heap.push { cls:=.type "list",data:=.seq ([]:List Jo).toArray }).get? s.heap.objs.size=some { cls:=.type "list",data:=.seq #[] 0 }:=Jq _ rfl;exact wpAny_extend_range (s:={ s with heap:=s.heap.push { cls:=.type "list",data:=.seq ([]:List Jo).toArray } }) x (J8 _ l) k p hlen s.heap.objs.size (.ref s.heap.objs.size) _ B λh' tk d f g e it=>y h' tk d f (λb o z=>g b o (JA (Jn z)) (J8 _ z)) e it
 unfold collect;exact J0 (wpAny_runValue (key _ λh' tk acc f g e it=>J0 (m:=load s.heap.objs.size) (wpAny_load e (J9 (q h' tk acc g it)))))
theorem rp (r:JI)(a b c:Int)(t u v:Tok)(n:Nat)(e:Builtin.Range.small a b c=true)(g:Builtin.Range.rangeSize a b c=n)(hlen:n<=2 ^ 24) :
  Meets (Builtin.«tuple.__new__» ⟨[.type "tuple",.ref r],[]⟩) (λA R s=>A.handled=none/\IsRange s.heap r a b c t u v/\∀ (h':YP) (tk:Nat) (acc:Array Jo),(∀ b o,s.heap.get? b=some o->h'.get? b=some o)->ItemsOf (λi v=>∃ t,v=.int (a+i*c) t) acc n ->
   R (.ok (.ret (.ref h'.objs.size))) { s with heap:=h'.push { cls:=.type "tuple",data:=.seq acc },toks:=tk }) :=
 .of_wp λprog w A R s h=>by
  obtain⟨j,d,h⟩:=h;have x:=sub_tuple_self;have q:=init_tuple_lookup;have p:=madeHere_tuple;have l:s.TypeIs (.ref r) "range":=⟨_,d,rfl⟩;have k:A.in1.handled=none:=j
  wp_walk using ZB l,mQ k d e g hlen
  intro h' tk acc f it;rw[show acc.toList.toArray=acc by simp];exact J0 (m:=Builtin.Tuple.tupleExact acc) (JR (J9 ⟨_,rfl,h h' tk acc f it⟩) (by show acc.size<=sizeLine;rw[it.1,JB];exact hlen))
theorem oQ {Q:Jo->JO->Prop}{r:JI}{a b c:Int}{t u v:Tok}{n:Nat}(h:A.handled=none) (f:IsRange s.heap r a b c t u v) (d:Builtin.Range.small a b c=true) (g:Builtin.Range.rangeSize a b c=n) (hlen:n<=2 ^ 24)
  (q:∀ (h':YP) (tk:Nat) (acc:Array Jo),(∀ b o,s.heap.get? b=some o->h'.get? b=some o)->ItemsOf (λi v=>∃ t,v=.int (a+i*c) t) acc n->Q (.ref h'.objs.size) { s with heap:=h'.push { cls:=.type "tuple",data:=.seq acc },toks:=tk }) :
  wpAny (model prog w) A (call (.type "tuple") [.ref r]) Q E s :=
 callType_new F.called_tuple (by decide) (F.typeCall_tuple_1 _) (F.newCall_tuple_1 _) (λobj=>F.args_object_init_2 obj _) F.entry_tuple_new (rp r a b c t u v n d g hlen) ⟨h,f,λh' tk acc e it=>⟨⟨_,Jq _ rfl,rfl⟩,q h' tk acc e it⟩⟩
end
def om (n:Nat):List V:=(List.range n).map λ(i:Nat)=>V.int i
theorem vO {acc:Array Jo}{n:Nat}(h:ItemsOf (λi v=>∃ t,v=Value.int (0+i*1) t) acc n):Vals (om n) acc.toList:=by
 obtain⟨d,c⟩:=h
 have go:∀ (l:List Jo) (k:Nat),(∀ (j:Nat) (v:Jo),l[j]?=some v->∃ t,v=Value.int ((k+j:Nat):Int) t)->Vals ((List.range l.length).map λ(i:Nat)=>V.int ((k+i:Nat):Int)) l:=by
  intro l
  induction l with
  | nil=>intro k _;exact .nil
  | cons x l ih =>
   intro k b;rw[JW,List.range_succ_eq_map,Y1,List.map_map];refine .cons (by obtain⟨t,e⟩:=b 0 x rfl;exact⟨t,e⟩) ?_
   have:=ih (k+1) λj v a=>by
    obtain⟨t,e⟩:=b (j+1) v (by simpa using a);exact⟨t,by rw[e];congr 1;lia⟩
   refine cast (JP (λz=>Vals z l) (Zp λi _=>?_)) this;show V.int ((k+1+i:Nat):Int)=V.int ((k+(i+1):Nat):Int)
   congr 2;lia
 have:=go acc.toList 0 λj v a=>by
  obtain⟨t,e⟩:=c j v (by simpa using a);exact⟨t,by rw[e];congr 1;simp_all⟩
 rw[JF,d]at this;unfold om;refine cast (JP (λz=>Vals z acc.toList) (Zp λi _=>?_)) this;show V.int ((0+i:Nat):Int)=V.int (i:Int);rw[Zh]
theorem oj (n:Nat):(om n).length=n:=by simp[om]
section
variable {X:Cx}
def eA (b:Bool)(d:TA):TE:=λσ H Q=>d σ H λc a=>∃ j:Nat,c=[.int j]/\j<=100000/\∀ l,a l=none->Q (.ref l) (upd a l (if b=true then .lst (om j) else .tup (om j)))
theorem o5 {j:Nat}(h:j<=100000):Builtin.Range.small 0 (j:Int) 1=true:=small_one (by simp_all) (by simp_all) (by simp_all) (by lia)
theorem jD {j:Nat}:Builtin.Range.rangeSize 0 (j:Int) 1=((j:Nat):Int):=by rw[rangeSize_one];split<;>simp_all
theorem vH {a:Expr}{x:TA}{p i pos c:Pos}(E:X.calm=true) (w:Gl X "list") (r:X.mg "list" = none) (v:Gl X "range") (m:X.mg "range" = none) (ha:PA X [a] x) (hs:starEach [a] X.env=[(false,eval a X.env)]:=by rfl)
  (d:starEach [.Call (.Name "range" i) [a] [] c] X.env=[(false,eval (.Call (.Name "range" i) [a] [] c) X.env)]:=by rfl):PE X (.Call (.Name "list" p) [.Call (.Name "range" i) [a] [] c] [] pos) (eA true x):=by
 intro pins s σ H Q I h;refine YK (xw I w r (u:=.type "list") (by rfl) (Yi ?_ d rfl));rw[d];refine ZQ (Call_ (xw I v m boot_range (Yi (thn (ha c pins s σ H _ I h) λK g ⟨J,L,l,A,B⟩=>?_) hs rfl)));obtain⟨j,rfl,k,q⟩:=B;obtain⟨u,rfl,t,rfl⟩:=A.one;refine call_range_1 (Wn ?_);refine call_list_range (n:=j) (l.ok.hd E) (IsRange.new ..) (o5 k) jD (JX k (by decide)) λF y f G C e it=>?_;have D:∀ b o,g.heap.get? b=some o->F.get? b=some o:=λb o z=>C b o (J8 _ z);refine⟨.ref _,_,l.laid (t':=y) (o:=.lst (om j)) D ?_ ⟨by rw[oj];exact JX k (by decide),f.toList,G,vO it,by simpa using e⟩,rfl,q _ (l.hok.fresh ?_)⟩
 all_goals (show g.heap.objs.size<=(g.heap.push _).objs.size;rw[YA];exact Nat.le_succ _)
theorem uf {a:Expr}{w:TA}{p f pos c:Pos}(F:X.calm=true) (r:Gl X "tuple") (l:X.mg "tuple" = none) (m:Gl X "range") (k:X.mg "range" = none) (ha:PA X [a] w) (hs:starEach [a] X.env=[(false,eval a X.env)]:=by rfl)
  (d:starEach [.Call (.Name "range" f) [a] [] c] X.env=[(false,eval (.Call (.Name "range" f) [a] [] c) X.env)]:=by rfl):PE X (.Call (.Name "tuple" p) [.Call (.Name "range" f) [a] [] c] [] pos) (eA false w):=by
 intro pins s σ H Q I h;refine YK (xw I r l (u:=.type "tuple") (by rfl) (Yi ?_ d rfl));rw[d];refine ZQ (Call_ (xw I m k boot_range (Yi (thn (ha c pins s σ H _ I h) λK x ⟨J,G,A,B,C⟩=>?_) hs rfl)));obtain⟨j,rfl,g,q⟩:=C;obtain⟨u,rfl,t,rfl⟩:=B.one;refine call_range_1 (Wn ?_);refine oQ (n:=j) (A.ok.hd F) (IsRange.new ..) (o5 g) jD (JX g (by decide)) λi v acc D it=>?_;have E:∀ b o,x.heap.get? b=some o->i.get? b=some o:=λb o z=>D b o (J8 _ z);have y:Inv X pins σ G { x with heap:=i,toks:=v }:=A.kept E;refine⟨.ref i.objs.size,_,y.laid (t':=v) (o:=.tup (om j)) (λb o e=>J8 _ e) (Jg _) ⟨by rw[oj];exact JX g (by decide),acc.toList,vO it,?_⟩,rfl,q _ (y.hok.fresh (Jg _))⟩;exact⟨_,Jq _ rfl,rfl,0,by simp,rfl⟩
theorem cB (g:X.A.units<cLine):OpR X (compareOp .NotEq) (λx y H Q=>∃ a b xs,x=.ref a/\y=.ref b/\SqL X.K H a xs/\SqL X.K H b []/\Q (.bl (!xs.isEmpty)) H):=by
 intro pins s σ H x y v u Q I k i h;obtain⟨a,b,xs,rfl,rfl,o,n,q⟩:=h;cases k;cases i;obtain⟨r,c,f,_⟩:=I.list o;obtain⟨p,l,d,_⟩:=I.list n;cases l;have m:=c.length
 cases xs with
 | nil =>
  cases c
  exact SeqAt.RcNeAt.lists (e:=λ_=>true) f.isList d.isList rfl g (λj h=>absurd h (ZL _)) X.prog X.w _ _ ⟨.bl _,H,I,rfl,q⟩
 | cons z t =>
  exact SeqAt.RcNeAt.lists_lengths f.isList d.isList (by rw[Jh,<- m];simp) g X.prog X.w _ _ ⟨.bl _,H,I,rfl,q⟩
theorem kI (l:JI) (o:Obj) (items:Array Jo) (n:Nat) (x:Jo) (j:Nat) (E:o.cls=.type "tuple") (hd:o.data=.seq items n) (e:Nat->Bool) (y:∀ i,i<j->e i=false) (h1:e j=true) (D:j<items.size) :
  Meets (Builtin.«tuple.index» ⟨[.ref l,x],[]⟩) (λA R s=>s.heap.get? l=some o/\(∀ i (h:i<items.size),SeqAt.EqAt A.in1 s items[i] x (e i))/\R (.ok (.ret (.int j s.toks))) { s with toks:=s.toks+1 }) :=
 .of_wp λprog w A R s h=>by
  cases s with
  | mk m z C g os =>
  obtain⟨p,u,h⟩:=h;unfold Builtin.«tuple.index»;simp only[Std.Legacy.Range.forIn_eq_forIn_range']
  wp_walk using Yg p hd,wpAny_forIn_list _ (λrest b c=>c=⟨m,z,C,g,os⟩/\b.1=none/\∃ i,i<=j/\rest=List.range' i (items.size-i)) _
  case turn =>
   rintro i rest b c ⟨rfl,v,d,r,a⟩;have k:items.size-d=(items.size-(d+1))+1:=by grind
   rw[k,List.range'_succ]at a;injection a with B e2;subst B;have f:i<items.size:=by lia
   have t:items[i]?=some items[i]:=by simp[f]
   simp only[t];refine J0 (u i f prog w _ _ ?_);by_cases q:i=j
   ·subst q;rw[h1];wp_walk;exact⟨_,rfl,h⟩
   ·rw[y i (by lia)];wp_walk;exact⟨rfl,rfl,i+1,by lia,e2⟩
  case fin =>
   rintro b c ⟨rfl,v,d,r,a⟩;have:=JP List.length a;simp at this;omega
  case h=>exact⟨rfl,rfl,0,JL _,by simp[Std.Legacy.Range.size]⟩
theorem rO:∀ {ns:List Int}{k:Int}{i:Nat},i<ns.idxOf k->(ns.getD i 0 == k)=false
 | [],k,i,h=>by simp at h
 | n::ns,k,i,h=>by
  rw[List.idxOf_cons]at h
  cases e:n == k with
  | true=>rw[e]at h;simp at h
  | false =>
   rw[e]at h;simp only[cond_false]at h
   cases i with
   | zero=>exact e
   | succ i=>exact rO (ns:=ns) (i:=i) (by simp_all)
def zbU (to:TE)(t:TA):TE:=λσ H Q=>to σ H λx c=>∃ a ns,x=.ref a/\c a=some (.tup (List.map V.int ns))/\t σ c λd b=>∃ k:Int,d=[.int k]/\b a=some (.tup (List.map V.int ns))/\k∈ns/\Q (.int (ns.idxOf k:Nat)) b
theorem aY {o e:Expr}{to:TE}{t:TA}{apos cpos:Pos}(hu:X.A.units+64<cLine) (T:PE X o to) (ha:PA X [e] t)
  (d:attributeBase o "index" X.env (eval o X.env)=eval o X.env:=by rfl)
  (j:((backTo cpos (starEach [e] X.env)).all (λx=>!x.1) && (backToKw cpos (keywordEach [] X.env)).all (λx=>x.1.isSome) && decide ([e].length+([]:List Keyword).length+(if ([]:List Keyword).isEmpty then 0 else 1)<30))=true:=by rfl)
  (c:(apos.endLine == cpos.line)=true:=by rfl) (S:starEach [e] X.env=(false,eval e X.env)::starEach [] X.env:=by rfl):PE X (.Call (.Attribute o "index" apos) [e] [] cpos) (zbU to t):=by
 intro pins s σ H Q I h;refine wpAny_Call_method_late d j c rfl (thn (T pins s σ H _ I h) λv p ⟨x,E,C,L,a,ns,ex,R,M⟩=>?_);subst ex;cases L;obtain⟨_,ab,_,⟨ob,z,c1,n1,d1,N⟩⟩:=(show ObjOk X.prog X.w E p.heap a (.tup (List.map V.int ns)) from C.hok a _ R);refine⟨"tuple","tuple.index",PySem.F.plainAttrs_tuple,PySem.F.slot_tuple_index,PySem.F.type_tuple_index,⟨ob,z,c1⟩,λa' Y=>by cases Y;exact⟨ob,z,N⟩,?_⟩;have y:=ha cpos pins p σ E _ C M;rw[S]at y ⊢;refine ZS rfl (Calls.evalArgs_plain ?_);refine thn y λus J ⟨vs,D,B,K,k,ev,m,P,q⟩=>?_;subst ev;obtain⟨u,rfl,F,rfl⟩:=K.one;obtain⟨_,b,r,⟨f,g,A,O,Z,aa⟩⟩:=(show ObjOk X.prog X.w D J.heap a (.tup (List.map V.int ns)) from B.hok a _ m);have hlen:b.toArray.size=ns.length:=by rw[Jh,<- r.length,Je]
 have w:=Wg P
 refine Wi PySem.F.slot_tuple_index ⟨f,g,A⟩ PySem.F.entry_tuple_index (PySem.F.args_tuple_index_2 _ _)
  (kI a f b.toArray O (.int k F) (ns.idxOf k) A Z (λi=>ns.getD i 0 == k) (λi l=>?_) ?_ (by rw[hlen];exact w)) ⟨g,λi l=>?_,?_⟩
 ·exact rO l
 ·rw[Ja,J7 w]
  simp
 ·have n:i<ns.length:=by rw[<- hlen];exact l
  obtain⟨w1,W,G,rfl⟩:=r.get (show (List.map V.int ns)[i]?=some (V.int (ns.getD i 0)) by rw[JN,Ja,J7 n];rfl);have U:b.toArray[i]=.int (ns.getD i 0) G:=by simpa using (Jb.mp W).2
  rw[U];exact(MeetsSeq.EqGives.int _ _ _ _).at _ _
 ·exact⟨.int _,D,B.tok _,⟨_,rfl⟩,q⟩
theorem nY:fillsNumberSlot (.type "tuple") "mul" = pure false :=
 PySem.fillsNumberSlot_seq (id:="tuple.__mul__") (r:=some (.builtin "tuple.__rmul__")) F.slot_tuple_mul.lookup (by decide +kernel) F.slot_tuple_rmul.lookup (by decide +kernel)
theorem lX:seqRepeat? (.type "tuple")=pure (some (.builtin "tuple.__mul__")):=by
 unfold seqRepeat?;rw[PySem.seqSlot_of (T:="tuple") (name:="__mul__") (id:="tuple.__mul__") F.slot_tuple_mul.lookup (by decide +kernel),PySem.seqSlot_of (T:="tuple") (name:="__rmul__") (id:="tuple.__rmul__") F.slot_tuple_rmul.lookup (by decide +kernel)];rfl
theorem be (a:Int)(t:Tok)(l:JI)(dd:Option JI)(sl:Array (Option Jo))(items:Array Jo)(n:Nat) :
  Meets (Builtin.«int.__rmul__» ⟨[.int a t,.ref l],[]⟩) (λ_ R s=>s.heap.get? l=some { cls:=.type "tuple",dict:=dd,data:=.seq items n,slots:=sl }/\R (.ok (.ret Value.notImplemented)) s) :=
 .of_wp λprog w A R s h=>by
  cases s;obtain⟨b,h⟩:=h
  wp_walk using Wq b
  exact⟨_,rfl,h⟩
theorem kH (l:JI) (o:Obj) (x:Jo) (n k:Nat) (t:Tok) (r:o.cls=.type "tuple") (hd:o.data=.seq #[x] n) (E:k<=100000) :
  Meets (Builtin.«tuple.__mul__» ⟨[.ref l,.int k t],[]⟩) (λ_ R s=>s.heap.get? l=some o /\
   (k=1->R (.ok (.ret (.ref l))) s)/\(k≠1->R (.ok (.ret (.ref s.heap.objs.size))) { s with heap:=s.heap.push { cls:=.type "tuple",data:=.seq (List.replicate k x).toArray } })) :=
 .of_wp λprog w A R s h=>by
  cases s with
  | mk q u z j os =>
  obtain⟨b,v,f⟩:=h;have ty:Shared.TypeIs ⟨q,u,z,j,os⟩ (.ref l) "tuple":=⟨o,b,r⟩
  wp_walk using Yg b hd,ZB ty
  have D:¬(decide ((k:Int) < -2 ^ 63) || decide ((k:Int)>=2 ^ 63))=true:=by
   rw[Js (by simp_all),Js (by lia)];exact Jj
  rw[Jf D]
  wp_walk using Yg b hd,ZB ty
  by_cases a:k=1
  ·have d:((#[x]:Array Jo).isEmpty || (k:Int) == 1)=true:=by subst a;rfl
   rw[Jm d]
   wp_walk using ZB ty
   exact⟨_,rfl,v a⟩
  ·have d:¬((#[x]:Array Jo).isEmpty || (k:Int) == 1)=true:=by
    have:((k:Int) == 1)=false:=by rw[ZF];lia
    rw[this];exact Jj
   rw[Jf d]
   have y:∀ (m:Nat) (acc:Array Jo),(List.foldl (λi g=>i++g) acc (List.replicate m #[x]))=acc++(List.replicate m x).toArray:=λm=>by
    induction m with
    | zero=>intro acc;simp
    | succ m ih=>intro acc;rw[Y9,List.foldl_cons,ih,Y9];apply Array.ext';simp
   by_cases p:k=0
   ·subst p
    have c:(decide (((0:Nat):Int)<=0) || (#[x]:Array Jo).isEmpty)=true:=rfl;rw[Jm c]
    wp_walk
    exact⟨_,rfl,f (by decide)⟩
   ·have c:¬(decide ((k:Int)<=0) || (#[x]:Array Jo).isEmpty)=true:=by
     rw[Js (by simp_all)];exact Jj
    have C:¬(((#[x]:Array Jo).size:Int)*(k:Int) > (2 ^ 63-1) / 8):=by
     show ¬((1:Int)*(k:Int) > (2 ^ 63-1) / 8);lia
    have B:¬ Builtin.Tuple.tupleTooMany (((#[x]:Array Jo).size:Int)*(k:Int))=true:=by
     unfold Builtin.Tuple.tupleTooMany;show ¬ decide ((1:Int)*(k:Int) > (sizeLine:Int))=true;rw[Js (by rw[JB];lia)];exact Jj
    rw[Jf c,Jf C,Jf B,Yk,y];refine J0 (m:=Builtin.Tuple.tupleExact _) (JR (J9 ⟨_,rfl,?_⟩) ?_)
    ·have e:(#[]++(List.replicate k x).toArray:Array Jo)=(List.replicate k x).toArray:=by simp
     rw[e];exact f a
    ·show (#[]++(List.replicate k x).toArray:Array Jo).size<=sizeLine
     rw[JB];simp;lia
theorem Vals.same {v:V}{u:Jo}(r:RelV v u):∀ k:Nat,Vals (List.replicate k v) (List.replicate k u)
 | 0=>.nil
 | k+1=>by rw[Y9,Y9];exact .cons r (Vals.same r k)
theorem pi:OpR X (binaryOp .Mult) (λx y H Q=>∃ a v,∃ k:Nat,x=.ref a/\y=.int k/\H a=some (.tup [v])/\k<=100000/\∀ r H',Same H H'->H' r=some (.tup (List.replicate k v))->Q (.ref r) H'):=by
 intro pins s σ H x y J G Q I A w h;obtain⟨a,v,k,rfl,rfl,j,D,q⟩:=h;cases A;obtain⟨t,rfl⟩:=w;obtain⟨_,E,r,⟨⟨c,K,d,n⟩,f,m,i,l,g⟩⟩:=(show ObjOk X.prog X.w H s.heap a (.tup [v]) from I.hok a _ j);simp only at m l g;subst m l g;obtain⟨u,rfl,B⟩:=r.one
 refine wpAny_binaryOp_repeat_ref (T:="tuple") (U:="int") (by decide) ⟨_,f,rfl⟩ (λp=>typeIs_int p k t) nY F.fills_int_mul F.slot_int_rmul lX F.slot_int_index.lookup
  (Wi F.slot_int_rmul (typeIs_int s k t) F.entry_int_rmul (F.args_int_rmul_2 _ _) (be k t a none n _ i)
   ⟨f,rfl,⟨_,f,rfl⟩,Wi F.slot_tuple_mul ⟨_,f,rfl⟩ F.entry_tuple_mul (F.args_tuple_mul_2 _ _) (kH a _ u i k t rfl rfl D) ⟨f,λe=>?_,λe=>?_⟩⟩)
 ·subst e
  exact⟨.ref a,H,I,rfl,q a H (Same.refl H) j⟩
 ·have C:(List.replicate k v).length<=sizeLine:=by rw[Y7,JB];lia
  exact⟨.ref s.heap.objs.size,_,I.laid (t':=s.toks) (o:=.tup (List.replicate k v)) (λb ob z=>J8 _ z) (Jg _) ⟨C,_,Vals.same B k,TupX.new _ _⟩,rfl,q _ _ (zD (I.hok.fresh (Jg _)) _) zG⟩
end
end L2
namespace Bn
open PySem L2 Own
def Tups (H H':Hp):Prop:=∀ a b,H a=some (.tup b)->H' a=some (.tup b)
theorem Tups.trans {H d c:Hp}(x:Tups H d)(y:Tups d c):Tups H c:=λa b e=>y a b (x a b e)
theorem Tups.of {H H':Hp}(s:Same H H'):Tups H H':=λa _ e=>s a _ e
theorem Tups.lst {H:Hp}{l:JI}{xs ys:List V}(h:H l=some (.lst xs)):Tups H (upd H l (.lst ys)):=λa b e=>by
 rw[zK (by rintro rfl;rw[h]at e;cases e)];exact e
def But (l:JI)(H H':Hp):Prop:=∀ b o,H b=some o->b≠l->H' b=some o
theorem But.trans {l:JI}{H c a:Hp}(x:But l H c)(y:But l c a):But l H a:=λb o e n=>y b o (x b o e n) n
theorem But.of {l:JI}{H a:Hp}(x:Same H a):But l H a:=λb o e _=>x b o e
def Prs (H:Hp):List V->List (Nat × Nat)->Prop
 | [],[]=>True
 | p::ps,f::fs=>(∃ a,p=.ref a/\H a=some (.tup [.int f.1,.int f.2]))/\Prs H ps fs
 | _,_=>False
theorem Prs.tups {H H':Hp}(t:Tups H H'):∀ {ps:List V}{fs:List (Nat × Nat)},Prs H ps fs->Prs H' ps fs
 | [],[],_=>trivial
 | _::_,_::_,⟨⟨a,e,h⟩,r⟩=>⟨⟨a,e,t _ _ h⟩,r.tups t⟩
theorem Prs.len {H:Hp}:∀ {ps:List V}{fs:List (Nat × Nat)},Prs H ps fs->ps.length=fs.length
 | [],[],_=>rfl
 | _::_,_::_,⟨_,r⟩=>JP (· + 1) r.len
theorem Prs.add {H:Hp}{a:JI}{f:Nat × Nat}(h:H a=some (.tup [.int f.1,.int f.2])):∀ {ps:List V}{fs:List (Nat × Nat)},Prs H ps fs->Prs H (ps++[.ref a]) (fs++[f])
 | [],[],_=>⟨⟨a,rfl,h⟩,trivial⟩
 | _::_,_::_,⟨x,r⟩=>⟨x,r.add h⟩
theorem Prs.get {H:Hp}:∀ {ps:List V}{fs:List (Nat × Nat)}{i:Nat}{p:V},Prs H ps fs->ps[i]?=some p->∃ a f,p=.ref a/\fs[i]?=some f/\H a=some (.tup [.int f.1,.int f.2])
 | [],[],_,_,_,e=>by simp at e
 | _::_,f::_,0,p,⟨⟨a,b,h⟩,_⟩,e=>by
  have:_=p:=Jp e;subst this
  exact⟨a,f,b,rfl,h⟩
 | _::_,_::_,i+1,p,⟨_,r⟩,e=>r.get (i:=i) (by simpa using e)
structure Nt where
 lanes:Nat
 forks:List (Nat × Nat)
 ends:List Nat
structure Nt.Ok (N:Nt):Prop where
 l1:1<=N.lanes
 l16:N.lanes<=16
 fm:N.forks.length<=128
 fk:∀ f∈N.forks,f.1<N.lanes/\f.2<N.lanes/\f.1≠f.2
 en:N.ends.Perm (List.range N.lanes)
def zU (a:List Nat):List V:=a.map λ(e:Nat)=>V.int e
structure NetAt (H:Hp) (r fr er:JI) (ps:List V) (N:Nt):Prop where
 net:H r=some (.tup [.int N.lanes,.ref fr,.ref er])
 forks:H fr=some (.tup ps)
 prs:Prs H ps N.forks
 ends:H er=some (.tup (zU N.ends))
theorem NetAt.tups {H H':Hp}{r fr er:JI}{ps:List V}{N:Nt}(t:Tups H H')(h:NetAt H r fr er ps N):NetAt H' r fr er ps N:=⟨t _ _ h.net,t _ _ h.forks,h.prs.tups t,t _ _ h.ends⟩
def yU (st:List Int × List Int)(f:Nat × Nat):List Int × List Int :=
 ((st.1.set f.1 ((st.1.getD f.1 0+st.1.getD f.2 0+1) / 2)).set f.2 ((st.1.getD f.1 0+st.1.getD f.2 0) / 2),st.2++[(st.1.getD f.1 0+st.1.getD f.2 0)%2])
def yi (st:List Int × List Int)(fs:List (Nat × Nat)):List Int × List Int:=fs.foldl yU st
def yM (fs:List (Nat × Nat))(cs:List Int):List Int × List Int:=yi (cs,[]) fs
def yD (N:Nt)(cs:List Int):List Int:=N.ends.map λe=>(yM N.forks cs).1.getD e 0
def y8 (N:Nt)(cs:List Int):List Int:=(yM N.forks cs).2
theorem gW (fs:List (Nat × Nat))(f:Nat × Nat)(cs:List Int):yM (fs++[f]) cs=yU (yM fs cs) f:=by
 unfold yM yi;rw[Zi];rfl
theorem yu (st:List Int × List Int)(f:Nat × Nat):(yU st f).1.length=st.1.length:=by simp[yU]
theorem wc:∀ (fs:List (Nat × Nat)) (st:List Int × List Int),(yi st fs).1.length=st.1.length/\(yi st fs).2.length=st.2.length+fs.length
 | [],st=>⟨rfl,rfl⟩
 | f::fs,st=>by
  have h:=wc fs (yU st f);refine⟨h.1.trans (yu st f),h.2.trans ?_⟩;simp[yU];lia
theorem wN (fs:List (Nat × Nat))(cs:List Int):(yM fs cs).1.length=cs.length:=(wc fs (cs,[])).1
theorem y9 (fs:List (Nat × Nat))(cs:List Int):(yM fs cs).2.length=fs.length:=by
 have:=(wc fs (cs,[])).2;simpa [yM] using this
theorem wM {fs:List (Nat × Nat)}{i:Nat}{f:Nat × Nat}(h:fs[i]?=some f)(cs:List Int):yM (fs.take (i+1)) cs=yU (yM (fs.take i) cs) f:=by
 have w:=Jb.mp h;obtain⟨a,e⟩:=w;rw[Yh a,gW,e]
theorem jB:∀ (xs:List Int) (i:Nat) (a:Int),i<xs.length->(xs.set i a).sum=xs.sum-xs.getD i 0+a
 | [],i,a,h=>by simp at h
 | x::xs,0,a,_=>by simp;lia
 | x::xs,i+1,a,h=>by
  have:=jB xs i a (by simpa using h);simp only[List.set_cons_succ,List.sum_cons,this,List.getD_cons_succ];lia
theorem wF {xs:List Int}{i p:Nat}{a:Int}(h:p<xs.length):(xs.set i a).getD p 0=if i=p then a else xs.getD p 0:=by
 rw[Ja,List.getElem?_set];by_cases e:i=p
 ·subst e;simp[h]
 ·simp[e]
theorem jw {N:Nt}(ok:N.Ok){e:Nat}(h:e∈N.ends):e<N.lanes:=Yp.mp (ok.en.mem_iff.mp h)
theorem uR {N:Nt}(ok:N.Ok):N.ends.length=N.lanes:=by rw[ok.en.length_eq,Y4]
theorem xO {cs:List Int}{i:Nat}(h:i<cs.length):atI (cs.map V.int) ((i:Nat):Int)=some (.int (cs.getD i 0)):=by
 refine yT ?_;rw[JN,Ja,J7 h];rfl
theorem w8 {α:Type}{xs:List α}{i:Nat}(h:i<xs.length):ixN xs.length ((i:Nat):Int)=some i:=by
 unfold ixN;rw[Jm (by lia),Jm (by simp_all)];simp
theorem xQ (cs:List Int)(i:Nat)(a:Int):(cs.map V.int).set i (.int a)=(cs.set i a).map V.int:=by rw[List.map_set]
structure Mgs (mg:Str->Option Jo):Prop where
 len:mg "len" = none
 range:mg "range" = none
 tuple:mg "tuple" = none
 enum:mg "enumerate" = none
 abs:mg "abs" = none
 zip:mg "zip" = none
 isi:mg "isinstance" = none
 all:mg "all" = none
 sum:mg "sum" = none
 bool:mg "bool" = none
 int:mg "int" = none
 str:mg "str" = none
 max:mg "max" = none
 min:mg "min" = none
 sorted:mg "sorted" = none
 list:mg "list" = none
structure Use (P:Yo) (w:YI) (K:Jl) (mg:Str->Option Jo) (base:YP) (x:Str) (ps:List Str) (k:Nat) (sp:Sp) (f:JI) (fd:Yl):Prop where
 ok:FnOk P w K mg base CX0 k f fd ps sp
 b:Binds K fd ps []
 kp:PySem.W.keepIn K (.ref f)=true
 m:mg x=some (.ref f)
def sN:Sp:=λb H Q _=>∃ r fr e d N c cs,b=[.ref r,.ref c]/\Nt.Ok N/\NetAt H r fr e d N/\H c=some (.tup (List.map V.int cs))/\cs.length=N.lanes /\
 ∀ p lo lt a,Same H a->a p=some (.tup [.ref lo,.ref lt])->a lo=some (.lst ((yM N.forks cs).1.map V.int))->a lt=some (.lst ((yM N.forks cs).2.map V.int))->Q (.ref p) a
def uc:Sp:=λb H Q _=>∃ r fr e d N c cs,b=[.ref r,.ref c]/\Nt.Ok N/\NetAt H r fr e d N/\H c=some (.tup (List.map V.int cs))/\cs.length=N.lanes /\
 ∀ p a,Same H a->a p=some (.tup ((yD N cs).map V.int))->Q (.ref p) a
def Frs (l:JI)(H:Hp)(x:JI):Prop:=∀ b o,H b=some o->b≠l->b≠x
theorem But.frs {l x:JI}{H a:Hp}(B:But l H a)(h:a x=none):Frs l H x:=λb o e n=>zJ (B b o e n) h
theorem But.upd {l x:JI}{H a:Hp}{o:HO}(B:But l H a)(f:Frs l H x):But l H (upd a x o):=λb u e n=>by rw[zK (f b u e n)];exact B b u e n
theorem vG {xs:List Nat}{v:Nat}(h:v<xs.length):∃ n,n∈xs/\atI (zU xs) ((v:Nat):Int)=some (.int n):=by
 refine⟨xs[v],JY h,yT ?_⟩;unfold zU;rw[JN,J7 h];rfl
theorem zZ (a:List Nat):(zU a).length=a.length:=by simp[zU]
theorem nO {one d lanes:Nat}(h1:one<lanes)(a:d+1<lanes):(one+1+d)%lanes<lanes/\one≠(one+1+d)%lanes:=by
 refine⟨Nat.mod_lt _ (by lia),λe=>?_⟩;by_cases z:one+1+d<lanes
 ·rw[Nat.mod_eq_of_lt z]at e;lia
 ·rw[Nat.mod_eq_sub_mod (by lia),Nat.mod_eq_of_lt (by lia)]at e;lia
end Bn
namespace L2
open PySem
theorem zB {α:Type _}{o:Option (Option α)}{q:α->Prop}(r:match o with|some (some v)=>q v|_=>False):∃ v,o=some (some v)/\q v:=by
 match o,r with
 | some (some v),r=>exact⟨v,rfl,r⟩
theorem zu {α:Sort _}{p q:α->Prop}{a:α}(h:p a)(r:q a):∃ x,p x/\q x:=⟨a,h,r⟩
def okV (N:List Str)(sc:Scope)(i:Nat)(x:Str):Bool:=decide (N[i]?=some x) && (match sc.names.lookup x with|some .local => true|some .cell=>true|some .free=>true|_=>false) && !(x == ("__debug__":Str)) && !(x == ("__classdict__":Str))
theorem pvb {X:Cx}(i:Nat){x:Str}{pos:Pos}(h:okV X.N X.env.scope i x=true):PE X (.Name x pos) (fw i):=by
 unfold okV at h;rw[Z8,Z8,Z8,ZV,ZV]at h;obtain⟨⟨⟨d,a⟩,c⟩,b⟩:=h;refine dq (YM d) ?_ c b;unfold Vis;split at a
 ·exact .inl ‹_›
 ·exact .inr (.inl ‹_›)
 ·exact .inr (.inr ‹_›)
 ·cases a
theorem zR {X:Cx}{x:Str}{ps:List Str}{k:Nat}{sp:Sp}{f:JI}{fd:Yl}{e:Expr}{a:List Expr}{t:TA}{p pos:Pos}(U:Bn.Use X.prog X.w X.K X.mg X.base x ps k sp f fd) (d:Room k X.A) (ha:PA X (e::a) t)
  (g:Gl X x) (c:(x == ("__debug__":Str))=false) (h:starEach (e::a) X.env=(false,eval e X.env)::starEach a X.env) (b:(backTo pos (starEach a X.env)).any (·.1)=false):PE X (.Call (.Name x p) (e::a) [] pos) (zav sp [] E0 t) :=
 jI U.ok d g U.m U.kp U.b .nil dz ha c h b
end L2
namespace Bn
open PySem L2 Own
def nm (ns:List Nat)(i:Nat):Nat:=ns.getD i 0
section
variable {ns:List Nat}{n:Nat}(pm:ns.Perm (List.range n))
include pm
end
def Nt.again (N:Nt)(f:Nat × Nat):Nt:=⟨N.lanes,N.forks++[f],N.ends⟩
end Bn
namespace L2
open PySem PySem.Spec PyProof.Rows Own
section
variable {prog:Yo}{w:YI}{A:YO}{E:Jo->JO->Prop}{s:JO}
theorem mH {t sl:JI}{items:Array Jo}{f e:Jo}{lo hi:Option Int}{Q:Jo->JO->Prop}(a:IsTup s.heap t items)(hs:s.heap.IsSliceOf sl f e .none)(g:IsPart f lo)(pu:IsPart e hi)(j:HT.sIx items.size 0 lo=0)(i:HT.sIx items.size items.size hi=items.size)(h:Q (.ref t) s):wpAny (model prog w) A (getItem (.ref t) (.ref sl)) Q E s:=by
 obtain⟨os,b,c,k⟩:=id hs;have d:s.TypeIs (.ref sl) "slice":=⟨os,b,c⟩;unfold getItem
 try with_reducible refine Yd ?_
 first|refine J0 (J9 ?_)|skip
 refine J0 (wpAny_sequenceKey a.typeIs (by decide) (J0 (wpAny_callSpecial?_slot (name:=Str.ofString "__getitem__") a.typeIs ZZ (Yr ZZ a.typeIs PyProof.Rows.entry_tuple_getitem ?_ (PyProof.Rows.args_tuple_getitem _ _)))));show wpAny _ _ (Builtin.Tuple.tupleItemsOf (.ref t) >>= _) _ _ s;refine J0 (tupleItemsOf_ a (J0 (ZB d ?_)));rw[Jm (by decide)];refine J0 (HT.sliceApplied_gen hs g pu ?_);rw[j,i];show wpAny _ _ (if (((0:Nat):Int) == 0 && (1:Int) == 1 && (items.size-0) == items.size)=true then _ else _) _ _ s;rw[Jm (by simp)];refine J0 ?_;unfold Builtin.Tuple.tupleIsExact;refine J0 (ZB a.typeIs (J9 ?_));rw[Jm (by decide)];exact J0 (Z3 (J9 ⟨_,rfl,J9 h⟩))
end
section
variable {prog:Yo}{w:YI}{A:YO}{R:Result->JO->Prop}{I S:JI}{fp wr:List JI}{n:Nat}{P B:Nat->Jo->Prop}{St:Nat->YP->Prop}
def BestAt (B:Nat->Jo->Prop)(j:Nat)(its:Array Jo):Prop:=(j=0/\its = #[])\/(0<j/\∃ v,its = #[v,v]/\B j v)
theorem gI (W:Walks prog w A.in1 I fp wr n P St)(away:S∉fp)(d:Jo)(first:∀ v,P 0 v->B 1 v)(more:∀ j v b (s:JO) (Q:Jo->JO->Prop) (E:Jo->JO->Prop),0<j->P j v->B j b->(∀ c,B (j+1) (if c=true then v else b)->Q (.bool c) s)->wpAny (model prog w) A.in1 (richCompare .Gt v b) Q E s) :
  ∀ (m j:Nat) (s:JO) (its:Array Jo) (c:Nat),j+m=n->St j s.heap->s.heap.get? S=some { cls:=.type "list",dict:=none,data:=.seq its c,slots:=#[] }->BestAt B j its ->
   (∀ v C D,(n=0/\v=d\/0<n/\B n v)->(∀ b o,b∉wr->b≠S->s.heap.get? b=some o->C.get? b=some o)->R (.ok (.ret v)) { s with heap:=C,toks:=D }) ->
   codeAny (model prog w) A (.builtin "max.loop" ⟨[.ref I,.none,.ref S],[("default",d)]⟩) R s:=by
 have out:S∉wr:=λz=>away (W.sub _ z);have nm:(toString "max"++toString ".loop":String) = "max.loop":=by decide
 intro m
 induction m with
 | zero =>
  intro j s its c G st u best k;obtain rfl:j=n:=by omega
  refine YQ F.entry_max_loop (by
   refine YV W6 _ ▸ (show wpAny _ A.in1 (seqItems? (.ref S) >>= _) _ _ _ from ?_);refine J0 (Yg u rfl (show wpAny _ A.in1 (tryCatch (pyNext (.ref I)) _ >>= _) _ _ _ from J0 (Zz (W.done s _ _ st λJ p keep=>?_))));have g:=keep S _ out u;rcases best with ⟨H,rfl⟩|⟨jp,v,rfl,bv⟩
   ·exact J0 (Z3 (J9 (k d _ p (.inl ⟨H,rfl⟩) λb o f _ e=>keep b o f e)))
   ·show wpAny _ A.in1 (updateSeq S (λ_=>#[]) >>= _) _ _ _
    exact J0 (ZM g rfl (J0 (Zg (J9 (k v _ p (.inr ⟨jp,bv⟩) λb o f i e=>(JS _ _ (Ne.symm i)).trans (keep b o f e)))))))
 | succ m ih =>
  intro j s its c G st u best k
  refine YQ F.entry_max_loop (by
   refine YV W6 _ ▸ (show wpAny _ A.in1 (seqItems? (.ref S) >>= _) _ _ _ from ?_);refine J0 (Yg u rfl (show wpAny _ A.in1 (tryCatch (pyNext (.ref I)) _ >>= _) _ _ _ from J0 (Zz (W.item j s _ _ (by lia) st λv J p pv q keep=>?_))));have g:=keep S _ out u;rcases best with ⟨rfl,rfl⟩|⟨jp,y,rfl,K⟩
   ·show wpAny _ A.in1 (updateSeq S (λ_=>#[v,v]) >>= _) _ _ _
    refine J0 (ZM g rfl ?_);rw[nm];exact J9 ⟨Z6 W6 _,ih 1 _ _ _ (by lia) (W.frame _ _ _ q λb f o e=>(JS _ _ (λz:S=b=>away (z ▸ f))).trans e) (Yt _ g rfl) (.inr ⟨Nat.one_pos,v,rfl,first v pv⟩) λr x h t a=>k r x h t λb o f i e=>a b o f i ((JS _ _ (Ne.symm i)).trans (keep b o f e))⟩
   ·show wpAny _ A.in1 (tryCatch (holding [v,v] (richCompare .Gt v y >>= _)) _ >>= _) _ _ _
    refine J0 (Zz (Yd (J0 (more j v y _ _ _ jp pv K λyes l=>J0 (Yd (Ze (J0 (Zg (J9 ?_)))))))));cases yes
    ·rw[Jf Jj]at l
     rw[Jf Jj];refine J0 (Zg ?_);rw[nm];exact J9 ⟨Z6 W6 _,ih (j+1) _ _ _ (by lia) q g (.inr ⟨Nat.succ_pos _,y,rfl,l⟩) λr x h t a=>k r x h t λb o f i e=>a b o f i (keep b o f e)⟩
    ·rw[Jm rfl]at l
     simp only[YU];refine J0 (ZM g rfl (J0 (Zg ?_)));rw[nm]
     exact J9 ⟨Z6 W6 _,ih (j+1) _ _ _ (by lia) (W.frame _ _ _ q λb f o e=>(JS _ _ (λz:S=b=>away (z ▸ f))).trans e) (Yt _ g rfl) (.inr ⟨Nat.succ_pos _,v,rfl,l⟩) λr x h t a=>k r x h t λb o f i e=>a b o f i ((JS _ _ (Ne.symm i)).trans (keep b o f e))⟩)
end
section
variable {prog:Yo}{w:YI}{A:YO}{E:Jo->JO->Prop}{s:JO}
theorem gY (a d:Jo):argsOk "max" ⟨[a],[("default",d)]⟩:=by unfold argsOk;kernel_rfl
theorem kJ (d:Jo):Builtin.Builtins.bindParams "max" ["key","default"] 0 ⟨[],[("default",d)]⟩=pure [none,some d]:=by kernel_rfl
theorem gH {x d:Jo}{Q:Jo->JO->Prop}(h:wpAny (model prog w) A.in1 (pyIter x) (λit s2=>∃ (I:JI) (fp wr:List JI) (n:Nat) (P B:Nat->Jo->Prop) (St:Nat->YP->Prop),it=.ref I/\Walks prog w A.in1 I fp wr n P St/\St 0 s2.heap/\(∀ b∈fp,b<s2.heap.objs.size)/\(∀ v,P 0 v->B 1 v) /\
   (∀ j v b (s:JO) (Q:Jo->JO->Prop) (E:Jo->JO->Prop),0<j->P j v->B j b->(∀ c,B (j+1) (if c=true then v else b)->Q (.bool c) s)->wpAny (model prog w) A.in1 (richCompare .Gt v b) Q E s) /\
   ∀ v h' tk,(n=0/\v=d\/0<n/\B n v)->(∀ b o,b∉wr->s2.heap.get? b=some o->h'.get? b=some o)->Q v { s2 with heap:=h',toks:=tk }) E s) :
  wpAny (model prog w) A (call (.builtin "max") [x] [("default",d)]) Q E s:=by
 have nm:(toString "max"++toString ".loop":String) = "max.loop":=by decide
 refine wpAny_call (codeAny_call_builtin F.plain_max F.entry_max ?_);simp only[checkBuiltinCall,F.kind_max]
 have body:wpAny (model prog w) A.in1 (Builtin.«max» ⟨[x],[("default",d)]⟩) (λfin i=>match fin with|.done f=>(match (Except.ok f:Result) with|.ok (.ret v)=>Q v i|.ok _=>False|.error e=>E e i)|.again l=>l.quiet=true/\codeAny (model prog w) A l (λr i=>match r with|.ok (.ret v)=>Q v i|.ok _=>False|.error e=>E e i) i) E s:=by
  show wpAny _ A.in1 (Builtin.Builtins.bindParams "max" ["key","default"] 0 ⟨[],[("default",d)]⟩ >>= _) _ _ _;refine J0 (wpAny_of_eq (kJ d) (J0 (J9 (J0 (JK h (λit s2 z=>?_) λ_ _ e=>e)))));obtain⟨I,fp,wr,n,P,B,St,rfl,W,st,low,first,more,k⟩:=z;refine J0 (JR (by rw[nm];exact J9 ⟨Z6 W6 _,gI W (λz=>YB _ (low _ z)) d first more n 0 _ _ _ (by lia) (W.frame _ _ _ st λb _ o e=>J8 _ e) (Jq _ rfl) (.inl ⟨rfl,rfl⟩) λv h' tk p keep=>k v h' tk p λb o q e=>keep b o q (JA (Jn e)) (J8 _ e)⟩))
 have fits:=gY x d
 cases m:Manifest.signature? "max" with
 | none=>exact J9 body
 | some g =>
  simp only[argsOk,m]at fits;have a:Bind.checkArgs "max" g ⟨[x],[("default",d)]⟩=pure ():=fits;show wpAny _ A.in1 (Bind.checkArgs "max" g ⟨[x],[("default",d)]⟩) _ _ _;rw[a];exact J9 body
end
section
variable {X:Cx}{e e2:Expr}{ta tb:TE}{p kp pos:Pos}
def dJ (K:Jl)(b:Bool):R2:=λx y H Q=>∃ a ns d,x=.ref a/\y=.int d/\SqB b K H a (List.map V.int ns)/\(ns=[]->Q (.int d) H)/\(ns≠[]->∀ M,M∈ns->(∀ z∈ns,z<=M)->Q (.int M) H)
def Top (ns:List Int)(j:Nat)(v:Jo):Prop:=∃ (M:Int) (t:Tok),v=.int M t/\M∈ns/\∀ i,i<j->ns.getD i 0<=M
def on1 (f:V->Hp->Prop):List V->Hp->Prop
 | [x],H=>f x H
 | _,_=>False
theorem cI {f:V->Hp->Prop}:∀ {vs:List V}{H:Hp},on1 f vs H->∃ x,vs=[x]/\f x H
 | [x],_,h=>⟨x,rfl,h⟩
theorem ad (b:Bool) (hc:X.calm=true) (hg:Gl X "max") (C:X.mg "max" = none) (ha:PE X e ta) (hd:PE X e2 tb)
  (K:starEach [e] X.env=(false,eval e X.env)::starEach [] X.env:=by rfl)
  (F:((backTo pos (starEach [e] X.env)).any (·.1) || (backToKw pos (keywordEach [⟨some "default",e2,kp⟩] X.env)).any (·.1.isNone))=false:=by rfl)
  (m:(backToKw pos (keywordEach [⟨some "default",e2,kp⟩] X.env)).all (·.1.isSome)=true:=by rfl) (G:(backToKw pos (keywordEach [⟨some "default",e2,kp⟩] X.env)).filterMap (·.1)=[("default":Str)]:=by rfl) :
  PE X (.Call (.Name "max" p) [e] [⟨some "default",e2,kp⟩] pos) (tOp (dJ X.K b) ta tb):=by
 intro pins s σ H Q I h;refine YK (xw I hg C (u:=.builtin "max") (by rfl) ?_);refine PySem.W.callWith_of (P:=λ_=>True) F (λh _=>⟨.machine,.inr (.inl rfl),.now⟩) (evalArgs_kw2 m (thn ((zA (hs:=K) ha zC) pos pins s σ H (on1 λx E=>tb σ E λy l=>dJ X.K b x y l Q) I h) λus R ⟨vs,E,I1,V,B⟩=>?_) K)
 ·obtain⟨x,rfl,B⟩:=cI B
  refine thn ((aX hd zbf) pos pins R σ E (on1 λy l=>dJ X.K b x y l Q) I1 B) λws q ⟨zs,l,D,U,A⟩=>⟨trivial,?_⟩
  ·obtain⟨y,rfl,A⟩:=cI A
   obtain⟨u,rfl,T⟩:=V.one;obtain⟨v,rfl,S⟩:=U.one;rw[G];obtain⟨a,ns,d,rfl,rfl,hq,Y,W⟩:=A;obtain⟨J,rfl⟩:=S;cases T;obtain⟨f,r,p⟩:=D.sq hq;obtain⟨o,n,L,_⟩:=p.ob;have hl:f.length=ns.length:=by rw[<- r.length,Je]
   show wpAny _ _ (call (.builtin "max") [.ref a] [("default",.int d J)]) _ _ _;refine gH (xP p ⟨q.heap.objs.size,[q.heap.objs.size,a],[q.heap.objs.size],f.toArray.size,(λi v=>f.toArray[i]?=some v),Top ns,_,rfl,qA (show X.A.in1.handled=none from D.ok.hd hc) b _ a (JA (Jn L)) f.toArray,⟨?_,p.mv λo e=>J8 _ e⟩,λc C=>?_,λv k=>?_,?_,?_⟩)
   ·cases b<;>exact⟨_,Jq _ rfl,rfl,rfl⟩
   ·show c<(q.heap.push _).objs.size
    rw[YA];rcases Jr.mp C with z|z
    ·exact z ▸ Z9 _
    ·exact(Jc.mp z) ▸ Z0 (Jn L)
   ·obtain⟨l0,t,rfl⟩:=num_at r (i:=0) (by simpa using k)
    refine⟨_,t,rfl,x4 l0,λi w=>?_⟩;obtain rfl:i=0:=by simp_all
    exact Z7 _
   ·intro j v bv s' Q' E' jp k ⟨M,t,e1,mem,top⟩ kk
    subst e1;obtain⟨lj,t',rfl⟩:=num_at r (i:=j) (by simpa using k);refine gt_int (kk _ ?_);by_cases g:ns.getD j 0 > M
    ·rw[JC g,Jm rfl]
     refine⟨_,t',rfl,x4 lj,λi w=>?_⟩;by_cases z:i=j
     ·rw[z];exact Z7 _
     ·have:=top i (by lia);lia
    ·rw[Js g,Jf Jj]
     refine⟨M,t,rfl,mem,λi w=>?_⟩;by_cases z:i=j
     ·rw[z];simp_all
     ·exact top i (by lia)
   ·intro v h' O k hk
    have N:=D.kept (t':=O) (h':=h') λc o e=>hk c o (λz=>JA (Jn e) (Jc.mp z)) (J8 _ e);rw[Jh,hl]at k;rcases k with ⟨Z,rfl⟩|⟨np,M,t,rfl,mem,top⟩
    ·exact⟨.int d,l,N,⟨J,rfl⟩,Y (Zs.mp Z)⟩
    ·refine⟨.int M,l,N,⟨t,rfl⟩,W (by rintro rfl;simp at np) M mem λz hz=>?_⟩
     obtain⟨i,w,rfl⟩:=sw hz;exact top i w
end
end L2
namespace K43
open PySem L2 Own Bn
def top (i:Nat):Stmt:=PySem.Challenge.pw_stairlanes_k43_counts_that_come_so_far.main.body.getD i (.Pass ⟨0,0,0,0⟩)
end K43
namespace L2
open PySem PySem.Spec PyProof.Rows Own
section
variable {X:Cx}
theorem xE:OpR X (binaryOp .Add) (λx y H Q=>∃ a b xs ys,x=.ref a/\y=.ref b/\H a=some (.tup xs)/\H b=some (.tup ys)/\xs.length+ys.length<=sizeLine/\∀ r H',Same H H'->H' r=some (.tup (xs++ys))->Q (.ref r) H'):=by
 intro pins s σ H x y v u Q I o n h;obtain⟨a,b,xs,ys,rfl,rfl,j,i,F,q⟩:=h;by_cases z:xs=[]
 ·subst z
  cases o;cases n;obtain⟨L,A,C,_⟩:=I.tuple (SqT.of j);obtain⟨m,M,B,_⟩:=I.tuple (SqT.of i);cases A;obtain⟨⟨P,K,N,l⟩,w,g,E,d⟩:=C;obtain⟨⟨O,J,e2,k⟩,t,f,D,c⟩:=B;simp only at g d f c;subst g d f c;refine concat_meets ⟨_,w,rfl⟩ ⟨_,t,rfl⟩ noFill_tuple_add seq_tuple_add PySem.F.slot_tuple_add PySem.F.entry_tuple_add (PySem.F.args_tuple_add_2 _ _) (tuple_addW0 a b #[] m.toArray E D K J l k rfl) ⟨w,t,?_⟩;exact⟨.ref b,H,I,rfl,q b H (Same.refl H) (by rw[ZK];exact i)⟩
 ·exact ag pins s σ H _ _ v u Q I o n ⟨a,b,xs,ys,rfl,rfl,SqT.of j,SqT.of i,z,F,λe=>q a H (Same.refl H) (by rw[e,JU];exact j),λ_ p G=>q p _ (zD G _) zG⟩
theorem yw:SlR X (λx lo hi H Q=>∃ a xs,x=.ref a/\H a=some (.tup xs)/\∀ p H',Same H H'->H' p=some (.tup (xW xs lo hi))->Q (.ref p) H'):=by
 intro pins s σ H x v k j lo hi l Q I e i f pu h;obtain⟨a,xs,rfl,c,q⟩:=h;by_cases b:HT.sIx xs.length 0 lo=0/\HT.sIx xs.length xs.length hi=xs.length
 ·cases e
  obtain⟨d,r,g,n⟩:=I.tuple (SqT.of c);have hlen:d.toArray.size=xs.length:=by rw[Jh];exact r.length.symm
  refine⟨"tuple",_,PyProof.Rows.slot_tuple_getitem.lookup,g.typeIs,mH g i f pu (by rw[hlen];exact b.1) (by rw[hlen];exact b.2) ⟨.ref a,H,I,rfl,q a H (Same.refl H) ?_⟩⟩;unfold xW;rw[b.1,b.2,ZW,Nat.sub_zero,Y5];exact c
 ·exact zaS pins s σ H _ v k j lo hi l Q I e i f pu ⟨a,xs,rfl,SqT.of c,b,λp m=>q p _ (zD m _) zG⟩
end
theorem mN (xs:List V)(i:Nat)(h:i<=xs.length):xW xs none (some (i:Int))=xs.take i:=by
 unfold xW;rw[HT.sIx_none,HT.sIx_nat,ZW,Nat.sub_zero,Zd h]
theorem mO (xs:List V)(i:Nat)(h:i<=xs.length):xW xs (some (i:Int)) none=xs.drop i:=by
 unfold xW;rw[HT.sIx_none,HT.sIx_nat,Zd h];exact JM (by rw[YD];exact Jg _)
end L2
namespace Bn
open PySem L2 Own
structure Grp where
 many:Int
 lane:Nat
 fork:Nat
def yG (back:Bool)(st:List Int × Nat)(k:Nat)(f:Nat × Nat):List Int × Nat :=
 if st.2=f.1\/st.2=f.2 then (st.1.set k (1-st.1.getD k 0),if (if back then 1-st.1.getD k 0 else st.1.getD k 0)=0 then f.1 else f.2) else st
def yI (back:Bool)(fs:List (Nat × Nat))(ts:List Int)(lane:Nat):Nat->List Int × Nat
 | 0=>(ts,lane)
 | i+1=>yG back (yI back fs ts lane i) i (fs.getD i (0,0))
def zz (xs:List Int)(i:Nat)(d:Int):List Int:=xs.set i (xs.getD i 0+d)
theorem yE (xs:List Int)(i:Nat)(d:Int):(zz xs i d).length=xs.length:=by simp[zz]
theorem yd {xs:List Int}{i p:Nat}{d:Int}(h:p<xs.length):(zz xs i d).getD p 0=xs.getD p 0+if i=p then d else 0:=by
 unfold zz;rw[wF h];by_cases e:i=p
 ·subst e;rw[Jm rfl,Jm rfl]
 ·rw[Jf e,Jf e,Int.add_zero]
theorem wO {xs ys:List Int}(b:xs.length=ys.length)(h:∀ p,p<xs.length->xs.getD p 0=ys.getD p 0):xs=ys:=by
 refine List.ext_getElem b λp a c=>?_;have:=h p a
 rwa [Ja,Ja,J7 a,J7 c]at this
theorem vD {L T:List Int}{f:Nat × Nat}{p:Nat}(a:p<L.length):(yU (L,T) f).1.getD p 0=if f.2=p then (L.getD f.1 0+L.getD f.2 0) / 2 else if f.1=p then (L.getD f.1 0+L.getD f.2 0+1) / 2 else L.getD p 0:=by
 unfold yU;simp only;rw[wF (by rw[Z4];exact a),wF a]
theorem cG (back:Bool)(L T:List Int)(f:Nat × Nat)(here k:Nat)(ts:List Int)(h1:f.1<L.length)(w:f.2<L.length)(ne:f.1≠f.2)(A:here<L.length)(t:ts.getD k 0=(L.getD f.1 0+L.getD f.2 0)%2) :
  let d:Int:=if back then -1 else 1
  let r:=yG back (ts,here) k f
  (yU (zz L here d,T) f).1=zz (yU (L,T) f).1 r.2 d/\r.2<L.length /\
   ((here=f.1\/here=f.2)->((zz L here d).getD f.1 0+(zz L here d).getD f.2 0)%2=1-ts.getD k 0)/\(¬(here=f.1\/here=f.2)->((zz L here d).getD f.1 0+(zz L here d).getD f.2 0)%2=ts.getD k 0):=by
 intro d r;have m:d=if back then -1 else 1:=rfl;have v:=yd (xs:=L) (i:=here) (d:=d) h1;have u:=yd (xs:=L) (i:=here) (d:=d) w;generalize o:L.getD f.1 0+L.getD f.2 0=c at *;have j:r=yG back (ts,here) k f:=rfl;unfold yG at j;simp only at j;by_cases on:here=f.1\/here=f.2
 ·rw[Jm on]at j
  have n:(zz L here d).getD f.1 0+(zz L here d).getD f.2 0=c+d:=by
   rw[v,u,<- o];rcases on with e|e
   ·subst e;rw[Jm rfl,Jf ne];lia
   ·subst e;rw[Jf (Ne.symm ne),Jm rfl];lia
  have h:r.2=if (if back then 1-c%2 else c%2)=0 then f.1 else f.2:=by rw[j,t]
  refine⟨wO (by rw[yu,yE,yE,yu]) λp l=>?_,?_,λ_=>?_,λz=>absurd on z⟩
  ·rw[yu,yE]at l
   have a:p<L.length:=l;rw[vD (by rw[yE];exact a),n,yd (xs:=(yU (L,T) f).1) (by rw[yu];exact a),vD a,o,yd (xs:=L) a,h];cases back
   ·simp only[Yz,Zy]at m ⊢
    rw[m];by_cases b:f.2=p
    ·subst b
     simp only[YU];by_cases z:c%2=0
     ·rw[Jm z,Jf ne];lia
     ·rw[Jf z,Jm rfl];lia
    ·rw[Jf b,Jf b]
     by_cases g:f.1=p
     ·subst g
      simp only[YU];by_cases z:c%2=0
      ·rw[Jm z,Jm rfl];lia
      ·rw[Jf z,Jf (Ne.symm ne)];lia
     ·rw[Jf g,Jf g]
      have s:¬ here=p:=by rcases on with e|e<;>simp_all
      have q:¬(if c%2=0 then f.1 else f.2)=p:=by split<;>assumption
      rw[Jf s,Jf q]
   ·simp only[YU]at m ⊢
    rw[m];by_cases b:f.2=p
    ·subst b
     simp only[YU];by_cases z:1-c%2=0
     ·rw[Jm z,Jf ne];lia
     ·rw[Jf z,Jm rfl];lia
    ·rw[Jf b,Jf b]
     by_cases g:f.1=p
     ·subst g
      simp only[YU];by_cases z:1-c%2=0
      ·rw[Jm z,Jm rfl];lia
      ·rw[Jf z,Jf (Ne.symm ne)];lia
     ·rw[Jf g,Jf g]
      have s:¬ here=p:=by rcases on with e|e<;>simp_all
      have q:¬(if 1-c%2=0 then f.1 else f.2)=p:=by split<;>assumption
      rw[Jf s,Jf q]
  ·rw[h]
   by_cases z:(if back=true then 1-c%2 else c%2)=0
   ·rw[Jm z];exact h1
   ·rw[Jf z];exact w
  ·rw[n,t]
   cases back<;>simp at m<;>lia
 ·rw[Jf on]at j
  have y:¬ here=f.1:=λz=>on (.inl z);have x:¬ here=f.2:=λz=>on (.inr z);rw[Jf y]at v;rw[Jf x]at u;have n:(zz L here d).getD f.1 0+(zz L here d).getD f.2 0=c:=by rw[v,u,<- o];lia
  have h:r.2=here:=by rw[j]
  refine⟨wO (by rw[yu,yE,yE,yu]) λp l=>?_,by rw[h];exact A,λz=>absurd z on,λ_=>by rw[n,t]⟩;rw[yu,yE]at l;have a:p<L.length:=l;rw[vD (by rw[yE];exact a),n,yd (xs:=(yU (L,T) f).1) (by rw[yu];exact a),vD a,o,yd (xs:=L) a,h];by_cases b:f.2=p
  ·rw[Jm b,Jm b,Jf (by simp_all)];lia
  ·rw[Jf b,Jf b]
   by_cases g:f.1=p
   ·rw[Jm g,Jm g,Jf (by simp_all)];lia
   ·rw[Jf g,Jf g]
structure Ran (back:Bool) (fs:List (Nat × Nat)) (cs ts:List Int) (lane i:Nat):Prop where
 flows:(yM (fs.take i) (zz cs lane (if back then -1 else 1))).1=zz (yM (fs.take i) cs).1 (yI back fs ts lane i).2 (if back then -1 else 1)
 turns:∀ k,k<i->(yM (fs.take i) (zz cs lane (if back then -1 else 1))).2.getD k 0=(yI back fs ts lane i).1.getD k 0
 rest:∀ k,i<=k->(yI back fs ts lane i).1.getD k 0=ts.getD k 0
 len:(yI back fs ts lane i).1.length=ts.length
 here:(yI back fs ts lane i).2<cs.length
 bits:∀ t∈(yI back fs ts lane i).1,t=0\/t=1
theorem tJ (cs:List Int)(T:List Int):∀ (a:List (Nat × Nat)) (L:List Int) (k:Nat),k<T.length->(yi (L,T) a).2.getD k 0=T.getD k 0
 | [],_,_,_=>rfl
 | g::a,L,k,h=>by
  have:=tJ cs (yU (L,T) g).2 a (yU (L,T) g).1 k (by simp[yU];lia);rw[show yi (L,T) (g::a)=yi ((yU (L,T) g).1,(yU (L,T) g).2) a from rfl,this];show (T++[_]).getD k 0=T.getD k 0;rw[Ja,Y0 h,<- Ja]
theorem aA {fs:List (Nat × Nat)}{i:Nat}{f:Nat × Nat}(h:fs[i]?=some f)(cs:List Int):(yM fs cs).2.getD i 0=((yM (fs.take i) cs).1.getD f.1 0+(yM (fs.take i) cs).1.getD f.2 0)%2:=by
 have sp:fs=fs.take (i+1)++fs.drop (i+1):=(W0 _ _).symm
 have e:yM fs cs=yi (yM (fs.take (i+1)) cs) (fs.drop (i+1)):=by
  conv=>lhs;rw[sp]
  unfold yM yi;rw[Zi]
 have b:i<fs.length:=(Jb.mp h).1;have a:(yM (fs.take i) cs).2.length=i:=by rw[y9,Jw];lia
 rw[e,wM h];have:=tJ cs (yU (yM (fs.take i) cs) f).2 (fs.drop (i+1)) (yU (yM (fs.take i) cs) f).1 i (by simp[yU,a]);rw[this];unfold yU;simp only;rw[Ja,Yj (by lia),a];simp
theorem o6 {ts:List Int}{k:Nat}(h:∀ t∈ts,t=0\/t=1):∀ t∈ts.set k (1-ts.getD k 0),t=0\/t=1:=λt a=>by
 rcases List.mem_or_eq_of_mem_set a with z|z
 ·exact h t z
 ·by_cases b:k<ts.length
  ·have:=h _ (L2.x4 b);lia
  ·rw[List.set_eq_of_length_le (by simp_all)]at a;exact h t a
theorem ran {back:Bool}{fs:List (Nat × Nat)}{cs:List Int}{lane:Nat}(ok:∀ f∈fs,f.1<cs.length/\f.2<cs.length/\f.1≠f.2)(h:lane<cs.length)(hb:∀ t∈(yM fs cs).2,t=0\/t=1):∀ i,i<=fs.length->Ran back fs cs (yM fs cs).2 lane i
 | 0,_=>⟨rfl,λk b=>absurd b (ZL _),λ_ _=>rfl,rfl,h,hb⟩
 | i+1,hi=>by
  have ih:=ran (back:=back) ok h hb i (by lia);have c:fs[i]?=some fs[i]:=J7 (by lia);have w:fs.getD i (0,0)=fs[i]:=by rw[Ja,c];rfl
  have d:=ok _ (JY (show i<fs.length by lia));have j:=wM c (zz cs lane (if back then -1 else 1));have e2:=wM c cs;have tt:=aA c cs;generalize fs[i]=f at *;have g:(yM (fs.take i) cs).1.length=cs.length:=wN _ _;have n:(yM (fs.take i) (zz cs lane (if back then -1 else 1))).2.length=i:=by rw[y9,Jw];lia
  have o:(yM fs cs).2.length=fs.length:=y9 _ _;have of:=cG back (yM (fs.take i) cs).1 (yM (fs.take i) (zz cs lane (if back then -1 else 1))).2 f (yI back fs (yM fs cs).2 lane i).2 i (yI back fs (yM fs cs).2 lane i).1 (by simp_all) (by simp_all) d.2.2 (by rw[g];exact ih.here) (by rw[ih.rest i (Jg _)];exact tt);obtain⟨u,s,q,p⟩:=of;have rs:yI back fs (yM fs cs).2 lane (i+1)=yG back ((yI back fs (yM fs cs).2 lane i).1,(yI back fs (yM fs cs).2 lane i).2) i f:=by show yG _ _ _ _=_;rw[w]
  have st:yM (fs.take i) (zz cs lane (if back then -1 else 1))=(zz (yM (fs.take i) cs).1 (yI back fs (yM fs cs).2 lane i).2 (if back then -1 else 1),(yM (fs.take i) (zz cs lane (if back then -1 else 1))).2):=by rw[<- ih.flows]
  generalize a:yI back fs (yM fs cs).2 lane i=r at *;generalize v:(yM (fs.take i) (zz cs lane (if back then -1 else 1))).2=T at *
  have m:(yG back (r.1,r.2) i f).1.getD i 0=(yU (zz (yM (fs.take i) cs).1 r.2 (if back then -1 else 1),T) f).2.getD i 0:=by
   unfold yU;simp only;rw[Ja (l:=T++_),Yj (by simp_all),n];simp only[Nat.sub_self,List.getElem?_cons_zero,ZC];unfold yG;by_cases on:r.2=f.1\/r.2=f.2
   ·rw[Jm on,q on]
    simp only;rw[wF (by have z:=ih.len;rw[a,o]at z;lia),Jm rfl]
   ·rw[Jf on,p on]
  have keep:∀ k,k≠i->(yG back (r.1,r.2) i f).1.getD k 0=r.1.getD k 0:=λk b=>by
   unfold yG;split
   ·simp only
    rw[Ja,List.getElem?_set_ne (Ne.symm b),<- Ja]
   ·rfl
  refine⟨?_,λk b=>?_,λk b=>?_,?_,?_,?_⟩
  ·rw[j,st,u,rs,e2,show yM (fs.take i) cs=((yM (fs.take i) cs).1,(yM (fs.take i) cs).2) from rfl];rfl
  ·rw[j,st,rs]
   by_cases e:k=i
   ·subst e;exact m.symm
   ·have z:=ih.turns k (by lia)
    rw[a,v]at z;rw[keep k e,<- z];unfold yU;simp only;rw[Ja,Y0 (by lia),<- Ja]
  ·have z:=ih.rest k (by lia)
   rw[a]at z;rw[rs,keep k (by lia),z]
  ·rw[rs]
   unfold yG;split
   ·simp only;rw[Z4,<- ih.len,a]
   ·rw[<- ih.len,a]
  ·rw[rs,<- g];exact s
  ·rw[rs]
   unfold yG;split
   ·exact o6 (by have z:=ih.bits;rw[a]at z;exact z)
   ·have z:=ih.bits;rw[a]at z;exact z
theorem vX {back:Bool}{fs:List (Nat × Nat)}{ts:List Int}{lane:Nat}(h:∀ t∈ts,t=0\/t=1):∀ i,∀ t∈(yI back fs ts lane i).1,t=0\/t=1
 | 0=>h
 | i+1=>by
  have ih:=vX (back:=back) (fs:=fs) (lane:=lane) h i;show ∀ t∈(yG back (yI back fs ts lane i) i (fs.getD i (0,0))).1,t=0\/t=1;unfold yG;split
  ·exact o6 ih
  ·exact ih
theorem ud {back:Bool}{fs:List (Nat × Nat)}{ts:List Int}{lane:Nat}:∀ i,(yI back fs ts lane i).1.length=ts.length
 | 0=>rfl
 | i+1=>by
  have ih:=ud (back:=back) (fs:=fs) (ts:=ts) (lane:=lane) i;show (yG back (yI back fs ts lane i) i (fs.getD i (0,0))).1.length=_;unfold yG;split
  ·simp only;rw[Z4];exact ih
  ·exact ih
theorem vW {back:Bool}{fs:List (Nat × Nat)}{ts:List Int}{lane n:Nat}(ok:∀ f∈fs,f.1<n/\f.2<n/\f.1≠f.2)(b:lane<n):∀ i,i<=fs.length->(yI back fs ts lane i).2<n
 | 0,_=>b
 | i+1,hi=>by
  have ih:=vW (back:=back) (ts:=ts) ok b i (by lia);have a:=ok _ (JY (show i<fs.length by lia));have c:fs.getD i (0,0)=fs[i]:=by rw[Ja,J7 (show i<fs.length by lia)];rfl
  show (yG back (yI back fs ts lane i) i (fs.getD i (0,0))).2<n;rw[c];generalize fs[i]=f at *;unfold yG;split
  ·simp only
   by_cases z:(if back=true then 1-(yI back fs ts lane i).1.getD i 0 else (yI back fs ts lane i).1.getD i 0)=0
   ·rw[Jm z];exact a.1
   ·rw[Jf z];exact a.2.1
  ·exact ih
theorem mF (k:Nat):∀ a:List Nat,(a.map λ(e:Nat)=>(e:Int)).idxOf (k:Int)=a.idxOf k
 | []=>rfl
 | e::a=>by
  rw[Y1,List.idxOf_cons,List.idxOf_cons,mF k a]
  have:((e:Int) == (k:Int))=(e == k):=by
   rw[Yq,beq_iff_eq];rw[beq_iff_eq];lia
  rw[this]
theorem cW (a:List Nat):zU a=(a.map λ(e:Nat)=>(e:Int)).map V.int:=by unfold zU;rw[List.map_map];rfl
def eK:Sp:=λb H Q _=>∃ r fr d c N,∃ a:Nat,b=[.ref r,.int a]/\Nt.Ok N/\NetAt H r fr d c N/\a<N.lanes/\Q (.int (N.ends.idxOf a:Nat)) H
def RunQ (back:Bool)(vs:List V)(H:Hp)(Q:VK):Prop:=∃ r fr g f N e b,∃ a:Nat,vs=[.ref r,.ref e,.int a]/\Nt.Ok N/\NetAt H r fr g f N/\H e=some (.tup (List.map V.int b))/\b.length=N.forks.length/\(∀ t∈b,t=0\/t=1)/\a<N.lanes /\
 ∀ p c d,Same H d->d p=some (.tup [.ref c,.int (N.ends.idxOf (yI back N.forks b a N.forks.length).2:Nat)])->d c=some (.tup ((yI back N.forks b a N.forks.length).1.map V.int))->Q (.ref p) d
def mx (back:Bool):Sp:=λa H Q _=>RunQ back a H Q
def eH:Sp:=λb H Q _=>∃ (a:List V) (back:Bool),b=a++[.bl back]/\RunQ back a H Q
theorem aJ (xs:List Int)(i:Nat)(v:Int)(h:i<xs.length):(xs.map V.int).take i++[V.int v]++(xs.map V.int).drop (i+1)=(xs.set i v).map V.int:=by
 rw[List.set_eq_take_append_cons_drop,Jm h,JV,Y1,List.map_take,List.map_drop,JT];rfl
def part (m:Int)(lane k:Nat):List Grp:=if m=0 then [] else [⟨m,lane,k⟩]
end Bn
namespace L2
open PySem PySem.Spec PyProof.Rows Own
section
variable {X:Cx}
theorem Inv.big {pins:List (JI × Obj)}{σ:St}{H:Hp}{s:JO}(I:Inv X pins σ H s):sysModules<s.heap.objs.size:=by
 have h:mainGlobals<s.heap.objs.size:=(I.mod.glob.keeps I.bk).lt;exact Nat.lt_trans (by decide) h
end
end L2
namespace L2
open PySem PySem.Spec PyProof.Rows Own
def LtAt (A:YO)(s:JO)(y x:Jo)(b:Bool):Prop:=∀ (prog:Yo) (w:YI) (E:Jo->JO->Prop) (Q:Jo->JO->Prop),Q (.bool b) s->wpAny (model prog w) A (richCompare .Lt y x) Q E s
theorem LtAt.ints {A:YO}{s:JO}(a b:Int)(t u:Tok):LtAt A s (.int a t) (.int b u) (decide (a<b)):=λ_ _ _ _ h=>lt_int h
theorem nu (l b:JI)(xs ys:Array Jo)(n m:Nat)(L K:Option JI)(p o:Array (Option Jo))(k:Nat)(k1:k<xs.size)(k2:k<ys.size)(c:Bool) :
  Meets (Builtin.«tuple.__lt__» ⟨[.ref l,.ref b],[]⟩)
   (λA R s=>s.heap.get? l=some { cls:=.type "tuple",dict:=L,data:=.seq xs n,slots:=p }/\s.heap.get? b=some { cls:=.type "tuple",dict:=K,data:=.seq ys m,slots:=o } /\
    (∀ j (N:j<xs.size) (M:j<ys.size),j<k->SeqAt.EqAt A.in1 s xs[j] ys[j] true)/\SeqAt.EqAt A.in1 s xs[k] ys[k] false/\LtAt A.in1 s xs[k] ys[k] c/\R (.ok (.ret (.bool c))) s) :=
 .of_wp λprog w A R s h=>by
  obtain⟨D,g,d,u,os⟩:=s;obtain⟨E,I,G,F,H,h⟩:=h;have kinds:=AutoSeq1.sub_tuple_tuple;have r:(xs.toList.zip ys.toList).length=min xs.size ys.size:=by simp
  wp_walk using wpAny_loadPart' E,wpAny_loadPart' I,wpAny_forIn_list _ (λrest b e=>b.1=none/\e=⟨D,g,d,u,os⟩/\∃ i,i<=k/\rest=(xs.toList.zip ys.toList).drop i) _
  case turn =>
   rintro⟨y,x⟩ rest b e ⟨q,rfl,i,v,a⟩;have C:i<xs.size:=by lia
   have B:i<ys.size:=by lia
   have f:i<(xs.toList.zip ys.toList).length:=by rw[r];lia
   rw[YS f]at a;obtain⟨t,e2⟩:=List.cons.inj a;have J:y=xs[i]:=by simpa using JP Prod.fst t
   have ex:x=ys[i]:=by simpa using JP Prod.snd t
   subst J ex;by_cases z:i=k
   ·subst z
    refine J0 (F prog w _ _ ?_);simp only[YU,Bool.not_false];refine J0 (Z3 (J0 (H prog w _ _ ?_)))
    wp_walk
    exact⟨_,rfl,h⟩
   ·refine J0 (G i C B (by lia) prog w _ _ ?_)
    wp_walk
    exact⟨rfl,rfl,i+1,by lia,e2⟩
  case fin =>
   rintro⟨P,O⟩ e ⟨q,rfl,i,v,a⟩;have f:i<(xs.toList.zip ys.toList).length:=by rw[r];lia
   rw[YS f]at a;cases a
  case h =>
   exact⟨rfl,rfl,0,JL _,rfl⟩
theorem LtAt.tuples {A:YO}{s:JO}{l b:JI}{xs ys:Array Jo}{k:Nat}{c:Bool}(t:IsTup s.heap l xs)(hb:IsTup s.heap b ys)(r:A.units<cLine)(k1:k<xs.size)(k2:k<ys.size)(v:∀ j (h1:j<xs.size) (G:j<ys.size),j<k->SeqAt.EqAt A.in1 s xs[j] ys[j] true)(u:SeqAt.EqAt A.in1 s xs[k] ys[k] false)(y:LtAt A.in1 s xs[k] ys[k] c):LtAt A s (.ref l) (.ref b) c:=λprog w E Q h=>by
 obtain⟨⟨D,f,B,d⟩,i,q,n,o⟩:=t;obtain⟨⟨C,e,z,a⟩,g,p,m,e2⟩:=hb;simp only at q o p e2;subst q o p e2;exact richCompare_meets_room (op:=.Lt) ⟨_,i,rfl⟩ ⟨_,g,rfl⟩ F.slot_tuple_lt F.entry_tuple_lt (F.args_tuple_lt_2 _ _) (nu l b xs ys n m f e d a k k1 k2 c) ⟨i,g,v,u,y,show Value.bool c≠Value.notImplemented/\Q (.bool c) s from⟨(λx=>nomatch x),h⟩⟩ r
end L2
namespace K43
open PySem L2 Own Bn
abbrev lP:Stmt:=top 11
abbrev lS:Stmt:=top 12
def pH:Sp:=λd H Q _=>∃ a b,∃ (place:Nat) (v:Int),d=[.ref a,.int place,.int v]/\H a=some (.tup (List.map V.int b))/\place<b.length/\b.length<=1000/\∀ p c,Same H c->c p=some (.tup ((b.set place v).map V.int))->Q (.ref p) c
def tQ:Sp:=λd H Q _=>∃ a b,∃ (place:Nat) (v:Int),d=[.ref a,.int place,.int v]/\H a=some (.tup (List.map V.int b))/\place<b.length/\b.length<=1000/\∀ p c,Same H c->c p=some (.tup ((b.set place (b.getD place 0+v)).map V.int))->Q (.ref p) c
section
variable {P:Yo}{w:YI}{K:Jl}{mg:Str->Option Jo}{base:YP}
theorem zcM:FnScope ["row","place","value"] ["row","place","value"] (zQ lP):=by trivial
theorem cQ {f:JI}{fd:Yl}(F:Fun K "given_at" "given_at" lP f fd) (G:Mgs mg):FnOk P w K mg base CX0 1 f fd ["row","place","value"] pH:=by
 refine F.ok zcM (λl H Q E h=>?_) (λC A outer s H l Q E J h=>?_)
 ·obtain⟨a,b,place,v,rfl,_⟩:=h
  rfl
 obtain⟨a,b,place,v,rfl,g,p,D,k⟩:=h;refine⟨_,(@zM _ _ _ (@zV _ _ _ _ (@zS _ _ _ _ _ _ _ _ xE (@zS _ _ _ _ _ _ _ _ xE (@yL _ _ _ _ _ _ _ _ _ _ yw (@pvb _ 0 _ _ rfl) yS (@yB _ _ _ (@pvb _ 1 _ _ rfl))) (@zi _ _ _ _ _ (@zA _ _ _ _ _ (@pvb _ 2 _ _ rfl) zC rfl))) (@yL _ _ _ _ _ _ _ _ _ _ yw (@pvb _ 0 _ _ rfl) (@yB _ _ _ (@zS _ _ _ _ _ _ _ _ yR (@pvb _ 1 _ _ rfl) zH)) yS)))),?_⟩;have I:(b.map V.int).length=b.length:=Je _;refine zB (zB (zu rfl ⟨a,_,rfl,g,λx N o j=>?_⟩));rw[mN _ place (by lia)]at j;refine zB ⟨(by show 1<=sizeLine;decide),λu c=>?_⟩;have e:=zD c (.tup [.int v]);refine⟨x,u,_,_,rfl,rfl,e _ _ j,zG,?_,λt M n z=>?_⟩
 ·rw[Jw,JB];show _+1<=_;grind
 have u3:=(o.trans e).trans n;refine zB (zB ⟨_,_,rfl,rfl,_,rfl,a,_,rfl,u3 _ _ g,λr L d i=>?_⟩);rw[show ((place:Int)+1)=((place+1:Nat):Int) from rfl,mO _ (place+1) (by lia)]at i;refine⟨t,r,_,_,rfl,rfl,d _ _ z,i,?_,λq B m y=>?_⟩
 ·rw[Jd,Jw,YD,JB];show _+1+_<=_;grind
 exact k q B ((u3.trans d).trans m) (by rw[y,aJ b place v p])
theorem zcR:FnScope ["counts","place","many"] ["counts","place","many"] (zQ lS):=by trivial
theorem cV {f j:JI}{fd l:Yl}(F:Fun K "added" "added" lS f fd) (G:Mgs mg) (m:Use P w K mg base "given_at" ["row","place","value"] 1 pH j l):FnOk P w K mg base CX0 2 f fd ["counts","place","many"] tQ:=by
 refine F.ok zcR (λg H Q E h=>?_) (λn A outer s H g Q E i h=>?_)
 ·obtain⟨a,b,place,v,rfl,_⟩:=h
  rfl
 obtain⟨a,b,place,v,rfl,d,c,e,k⟩:=h;refine⟨_,(@zM _ _ _ (@zV _ _ _ _ (@zR _ _ _ _ _ _ _ _ _ _ _ _ m i (@zA _ _ _ _ _ (@pvb _ 0 _ _ rfl) (@zA _ _ _ _ _ (@pvb _ 1 _ _ rfl) (@zA _ _ _ _ _ (@zS _ _ _ _ _ _ _ _ yR (@zY _ _ _ _ _ _ _ yP (@pvb _ 0 _ _ rfl) (@pvb _ 1 _ _ rfl) (λ_ _=>rfl)) (@pvb _ 2 _ _ rfl)) zC rfl) rfl) rfl) rfl rfl rfl rfl))),?_⟩;exact zB (zB (zB (zB ⟨a,_,_,_,rfl,rfl,SqT.of d,xO c,_,rfl,_,_,rfl,rfl,a,b,place,_,rfl,d,c,e,k⟩)))
end
end K43
namespace L2
open PySem PySem.Spec PyProof.Rows
section
variable [DecidableEq κ]
theorem RelO.isSome_eq {o:Option V}{u:Option Jo}(r:RelO o u):o.isSome=u.isSome:=by
 cases o with
 | none=>cases u with
  | none=>rfl
  | some _=>exact(show False from r).elim
 | some _=>cases u with
  | none=>exact(show False from r).elim
  | some _=>rfl
theorem RelO.getD {o:Option V}{u:Option Jo}{d:V}{d':Jo}(r:RelO o u)(a:RelV d d'):RelV (o.getD d) (u.getD d'):=by
 cases o with
 | none=>cases u with
  | none=>exact a
  | some _=>exact(show False from r).elim
 | some _=>cases u with
  | none=>exact(show False from r).elim
  | some _=>exact r
end
theorem zco {P:Yo}{w:YI}{k:Key}{u:Jo}(r:RelV (kV k) u):(yk P w).is k u=true:=by
 cases k with
 | inl i=>obtain⟨t,e⟩:=(show ∃ t,u=Value.int i t from r);subst e;exact nj P w i t
 | inr x=>obtain⟨t,e⟩:=(show ∃ t,u=Value.str x t from r);subst e;exact ni P w x t
theorem qX {P:Yo}{w:YI}:∀ {ks:List Key}{us:List Jo},Vals (ks.map kV) us->ItemsAre (yk P w) ks us
 | [],_,r=>by rw[List.map_nil]at r;cases r;exact .nil
 | k::ks,_,r=>by
  rw[Y1]at r
  cases r with
  | cons h t=>exact .cons (zco h) (qX t)
section
variable {P:Yo}{w:YI}{H:Hp}{h:YP}{a:JI}
theorem zaw {u:HO}(ok:HOk P w H h)(e:Rd H a u):ObjOk P w H h a u:=e.ok ok
theorem zbC {ks:List Key}(ok:HOk P w H h)(e:H a=some (.tup (ks.map kV))):(tupleKind (yk P w)).is h ks a:=by
 obtain⟨_,b,r,o,f,d,n,c⟩:=(show ObjOk P w H h a (.tup (ks.map kV)) from ok a _ e);exact⟨o,b.toArray,n,f,d,c.1,by simpa using qX r⟩
end
section
variable {X:Cx}{pins:List (JI × Obj)}{σ:St}{H:Hp}{s:JO}{a:JI}
theorem oP {h':YP}{t':Nat}{ob:HO}(I:Inv X pins σ H s)(c:Mut (H a))(hs:Heap.SameBut a s.heap h')(d:∃ q,h'.get? a=some q)(new:ObjOk X.prog X.w (upd H a ob) h' a ob) :
  Inv X pins σ (upd H a ob) { s with heap:=h',toks:=t' } :=
 I.write (x:=a) (e:=a) c (.inl rfl) (λb q f z=>(hs.2 b f).trans z) d new
end
def eB:List (TE × TE)->St->Hp->(List (V × V)->Hp->Prop)->Prop
 | [],_,H,Q=>Q [] H
 | (tk,a)::r,σ,H,Q=>tk σ H λx d=>a σ d λy c=>eB r σ c λps b=>Q ((x,y)::ps) b
abbrev VV:List (V × V)->List (Jo × Jo)->Prop:=Paired λp q=>RelV p.1 q.1/\RelV p.2 q.2
def PPs (X:Cx)(pos:Pos)(keys:List (Option Expr))(values:List Expr)(a:List (TE × TE)):Prop :=
 ∀ (pins:List (JI × Obj)) (s:JO) (σ:St) (H:Hp) (Q:List (V × V)->Hp->Prop),Inv X pins σ H s->eB a σ H Q ->
  wpAny (model X.prog X.w) X.A (evalPairs (pairTrees keys values X.env pos)) (λd e=>∃ b c,Inv X pins σ c e/\VV b d/\Q b c) X.xe s
theorem aW {X:Cx}{pos:Pos}:PPs X pos [] [] []:=λpins s σ H Q I h=>pairTrees_nil_walk ⟨[],H,I,.nil,h⟩
theorem dh {X:Cx}{pos:Pos}{k v:Expr}{ks:List (Option Expr)}{vs:List Expr}{tk b:TE}{a:List (TE × TE)}(o:PE X k tk)(m:PE X v b)(n:PPs X pos ks vs a) :
  PPs X pos (some k::ks) (v::vs) ((tk,b)::a):=λpins s σ H Q I h =>
 pairTrees_cons_walk (thn (o pins s σ H _ I h) λu d ⟨x,z,r,f,j⟩=>thn (m pins d σ z _ r j) λA c ⟨y,w,q,e,i⟩ =>
  thn (n pins c σ w _ q i) λws B ⟨l,t,p,rel,g⟩=>⟨(x,y)::l,t,p,.cons ⟨f,e⟩ rel,g⟩)
structure M1 (X:Cx) (o:Expr) (m:Str) (apos:Pos) (e:Expr) (cpos:Pos):Prop where
 base:attributeBase o m X.env (eval o X.env)=eval o X.env
 few:((backTo cpos (starEach [e] X.env)).all (λx=>!x.1) && (backToKw cpos (keywordEach [] X.env)).all (λx=>x.1.isSome)
  && decide (([e]:List Expr).length+([]:List Keyword).length+(if ([]:List Keyword).isEmpty then 0 else 1)<30))=true
 line:(apos.endLine == cpos.line)=true
 trees:backTo cpos (starEach [e] X.env)=[(false,eval e X.env)]
structure M2 (X:Cx) (o:Expr) (m:Str) (apos:Pos) (e f:Expr) (cpos:Pos):Prop where
 base:attributeBase o m X.env (eval o X.env)=eval o X.env
 few:((backTo cpos (starEach [e,f] X.env)).all (λx=>!x.1) && (backToKw cpos (keywordEach [] X.env)).all (λx=>x.1.isSome)
  && decide (([e,f]:List Expr).length+([]:List Keyword).length+(if ([]:List Keyword).isEmpty then 0 else 1)<30))=true
 line:(apos.endLine == cpos.line)=true
 trees:backTo cpos (starEach [e,f] X.env)=[(false,eval e X.env),(false,eval f X.env)]
end L2
namespace L2
open PySem PySem.Spec PyProof.Rows Own
theorem iA:∀ {ds:List PyData}{n:Nat},(∀ e∈ds,e.canLay0=true/\e.depth<=n)->PyData.canLayAll0 ds=true/\PyData.depthAll ds<=n
 | [],_,_=>⟨rfl,JL _⟩
 | d::ds,n,h=>by
  obtain⟨a1,a2⟩:=h d JJ;obtain⟨b,c⟩:=iA (ds:=ds) λe a=>h e (JH _ a);refine⟨?_,?_⟩
  ·show (d.canLay0 && PyData.canLayAll0 ds)=true
   rw[a1,b];rfl
  ·show max d.depth (PyData.depthAll ds)<=n
   lia
abbrev KI:=Int ⊕ List Int
abbrev KN:=List KI
section
variable (prog:Yo)(w:YI)
def NIt (h:YP):KI->Jo->Prop
 | .inl i,v=>∃ t,v=.int i t
 | .inr xs,v=>∃ b,v=.ref b/\IsTupleKey (yk prog w) h (xs.map Sum.inl) b
def NIts (h:YP):KN->List Jo->Prop
 | [],vs=>vs=[]
 | k::ks,vs=>∃ v r,vs=v::r/\NIt prog w h k v/\NIts h ks r
def NIs (h:YP)(ks:KN)(a:JI):Prop:=∃ o items n,h.get? a=some o/\o.cls=.type "tuple"/\o.data=.seq items n/\NIts prog w h ks items.toList
def nh1:KI->Int
 | .inl i=>hashInt i
 | .inr xs=>tupleKeyHash (yk prog w) (xs.map Sum.inl)
def nd1:KI->Nat
 | .inl _=>1
 | .inr xs=>xs.length+1
def nds (ks:KN):Nat:=(ks.map nd1).sum
end
variable {prog:Yo}{w:YI}{A:YO}{E:Jo->JO->Prop}
theorem zak {a b:List Int}(h:a.map (Sum.inl:Int->Key)=b.map Sum.inl):a=b :=
 List.map_inj_right (λx y e=>Sum.inl.inj e) |>.mp h
theorem NIt.inj {h:YP}{x y:KI}{v:Jo}(a:NIt prog w h x v)(b:NIt prog w h y v):x=y:=by
 cases x with
 | inl i =>
  obtain⟨t,rfl⟩:=a
  cases y with
  | inl j=>obtain⟨u,e⟩:=b;cases e;rfl
  | inr f=>obtain⟨b,e,_⟩:=b;cases e
 | inr l =>
  obtain⟨c,rfl,k⟩:=a
  cases y with
  | inl j=>obtain⟨u,e⟩:=b;cases e
  | inr f =>
   obtain⟨d,e,g⟩:=b;cases e;rw[zak (k.inj g)]
theorem NIts.inj {h:YP}:∀ {x y:KN}{vs:List Jo},NIts prog w h x vs->NIts prog w h y vs->x=y
 | [],[],_,_,_=>rfl
 | [],_::_,_,a,b=>by obtain⟨v,r,e,_⟩:=b;rw[show _=[] from a]at e;cases e
 | _::_,[],_,a,b=>by obtain⟨v,r,e,_⟩:=a;rw[show _=[] from b]at e;cases e
 | x::j,y::i,_,a,b=>by
  obtain⟨v,r,rfl,g,f⟩:=a;obtain⟨k,l,e,d,c⟩:=b;cases e;rw[g.inj d,NIts.inj f c]
theorem NIs.inj {h:YP}{x y:KN}{a:JI}(p:NIs prog w h x a)(q:NIs prog w h y a):x=y:=by
 obtain⟨o,j,n,g,_,f,e⟩:=p;obtain⟨k,d,l,c,_,b,i⟩:=q;rw[g]at c;cases c;rw[f]at b;cases b;exact e.inj i
theorem NIt.keeps {h h':YP}{d:JI}{o:Obj}{es ep}(hd:h.get? d=some o)(c:o.data=.dict es ep)(s:Heap.SameBut d h h'){k:KI}{v:Jo}(a:NIt prog w h k v):NIt prog w h' k v:=by
 cases k with
 | inl i=>exact a
 | inr g =>
  obtain⟨b,e,f⟩:=a;exact⟨b,e,f.keeps hd c s⟩
theorem NIts.keeps {h h':YP}{d:JI}{o:Obj}{es ep}(hd:h.get? d=some o)(b:o.data=.dict es ep)(s:Heap.SameBut d h h'):∀ {ks:KN}{vs:List Jo},NIts prog w h ks vs->NIts prog w h' ks vs
 | [],_,a=>a
 | k::ks,_,a=>by
  obtain⟨v,r,e,a1,a2⟩:=a;exact⟨v,r,e,a1.keeps hd b s,NIts.keeps hd b s a2⟩
theorem NIs.keeps {h h':YP}{ks:KN}{a d:JI}{o:Obj}{es ep}(p:NIs prog w h ks a)(hd:h.get? d=some o)(f:o.data=.dict es ep)(s:Heap.SameBut d h h'):NIs prog w h' ks a:=by
 obtain⟨g,e,n,c,j,b,i⟩:=p;refine⟨g,e,n,?_,j,b,i.keeps hd f s⟩;rw[s.2 a (by rintro rfl;rw[hd]at c;cases c;rw[f]at b;cases b)];exact c
theorem rP:∀ (ks:KN) (vs:List Jo) (hs:Array Int) (s:JO) (Q:Array Int->JO->Prop),A.units<cLine->NIts prog w s.heap ks vs->Q (hs++(ks.map (nh1 prog w)).toArray) { s with toks:=s.toks+nds ks } ->
  wpAny (model prog w) A (forIn vs hs λx hs=>(do let r <- pyHash x;pure (ForInStep.yield (hs.push r)))) Q E s
 | [],vs,hs,s,Q,c,a,q=>by
  rw[show vs=[] from a,ZU];refine J9 ?_
  simpa [nds] using q
 | k::ks,vs,hs,s,Q,c,a,q=>by
  obtain⟨v,r,rfl,d,h⟩:=a;rw[Zc]
  have g:∀ (m:Nat),m=nd1 k->({ s with toks:=s.toks+m+nds ks }:JO)={ s with toks:=s.toks+nds (k::ks) }:=λm e=>by
   subst e;unfold nds;rw[Y1,List.sum_cons,Nat.add_assoc]
  have e2:hs.push (nh1 prog w k)++(ks.map (nh1 prog w)).toArray=hs++((k::ks).map (nh1 prog w)).toArray:=by simp
  have go:∀ (m:Nat),m=nd1 k->wpAny (model prog w) A (forIn r (hs.push (nh1 prog w k)) λx hs=>(do let r <- pyHash x;pure (ForInStep.yield (hs.push r)))) Q E { s with toks:=s.toks+m }:=λm e =>
   rP ks r (hs.push (nh1 prog w k)) { s with toks:=s.toks+m } Q c h (by rw[e2];have:=g m e;simp only at this ⊢;rw[this];exact q)
  cases k with
  | inl i =>
   obtain⟨t,rfl⟩:=d
   exact J0 (J0 (wpAny_pyHash_int (J9 (go 1 rfl))))
  | inr j =>
   obtain⟨b,rfl,f⟩:=d;exact J0 (J0 (wpAny_pyHash_tuple c f (J9 (go _ (by rw[Je];rfl)))))
theorem gT {s:JO}{a:JI}{ks:KN}{Q:Int->JO->Prop}(c:A.units+1<cLine)(d:NIs prog w s.heap ks a)(q:Q (reduceHash (Builtin.Tuple.tupleHashOf (ks.map (nh1 prog w)))) { s with toks:=s.toks+(nds ks+1) }):wpAny (model prog w) A (pyHash (.ref a)) Q E s:=by
 obtain⟨o,h,n,b,g,f,e⟩:=d;show wpAny (model prog w) A (pyHashByItsType (.ref a)) Q E s;refine W.pyHash_slot (T:="tuple") (id:="tuple.__hash__") (B:=Builtin.«tuple.__hash__») ⟨o,b,g⟩ F.slot_tuple_hash F.entry_tuple_hash (F.args_tuple_hash_1 _) (by decide) (.inr (by lia)) ?_;unfold Builtin.«tuple.__hash__»;refine J0 ?_;show wpAny _ _ (pure _) _ _ _;refine J9 (J0 (wpAny_tupleItemsOf b f ?_));rw[<- Array.forIn_toList];refine J0 (rP ks _ _ s _ c e ?_);simp only[Array.empty_append];unfold retInt;exact J0 (wpAny_mkInt (J9 ⟨_,_,rfl,q⟩))
theorem qL {i:Int}{t:Tok}{n:Nat}{s:JO}{Q:Bool->JO->Prop}(q:Q true s):wpAny (model prog w) A (eqIsQuiet n (.int i t)) Q E s:=by
 cases n<;>exact J9 q
theorem tD {n:Nat}{s:JO}:∀ (vs:List Jo) (Q:Option Bool × Unit->JO->Prop),(∀ v∈vs,∀ R:Bool->JO->Prop,R true s->wpAny (model prog w) A (eqIsQuiet n v) R E s)->Q (none,()) s ->
  wpAny (model prog w) A (forIn vs ((none,()):Option Bool × Unit) λy _=>(do
   let b <- eqIsQuiet n y
   if (!b)=true then pure (ForInStep.done (some false,())) else pure (ForInStep.yield (none,())))) Q E s
 | [],Q,_,q=>by rw[ZU];exact J9 q
 | v::vs,Q,h,q=>by
  rw[Zc];exact J0 (J0 (h v JJ _ (J9 (tD vs Q (λu a=>h u (JH _ a)) q))))
theorem qK {s:JO}{a:JI}{o:Obj}{its:Array Jo}{m n:Nat}{Q:Bool->JO->Prop}(c:s.heap.get? a=some o) (d:o.cls=.type "tuple") (hd:o.data=.seq its m)
  (h:∀ v∈its.toList,∀ R:Bool->JO->Prop,R true s->wpAny (model prog w) A (eqIsQuiet n v) R E s) (q:Q true s):wpAny (model prog w) A (eqIsQuiet (n+1) (.ref a)) Q E s:=by
 have ty:s.TypeIs (.ref a) "tuple":=⟨o,c,d⟩;unfold eqIsQuiet;refine J0 (wpAny_specialOf (T:="tuple") ty F.slot_tuple_eq.lookup (J0 (wpAny_isInstance (T:="tuple") (b:=true) ty rfl ?_)));show wpAny _ _ (do let _ <- seqItems? _;_) _ _ _;refine J0 (Yg c hd (J0 ?_));rw[ZC,<- Array.forIn_toList];exact tD _ _ h (J9 q)
theorem NIts.mem {h:YP}:∀ {ks:KN}{vs:List Jo},NIts prog w h ks vs->∀ v∈vs,∃ k,NIt prog w h k v
 | [],_,a,v,b=>by rw[show _=[] from a]at b;cases b
 | k::ks,_,a,v,b=>by
  obtain⟨x,r,rfl,a1,a2⟩:=a;rcases Jr.mp b with rfl|z
  ·exact⟨k,a1⟩
  ·exact NIts.mem a2 v z
theorem ng {i:Int}{v:Jo}(h:(yk prog w).is (.inl i) v=true):∃ t,v=.int i t:=by
 rw[kF]at h;rcases yW h with ⟨j,t,e,rfl⟩|⟨x,t,e,_⟩
 ·cases e;exact⟨t,rfl⟩
 ·cases e
theorem ke {ks:List Key}{vs:List Jo}(h:ItemsAre (yk prog w) ks vs):∀ xs:List Int,ks=xs.map Sum.inl->∀ v∈vs,∃ i t,v=.int i t:=by
 induction h with
 | nil=>intro xs _ v a;cases a
 | cons b _ ih =>
  intro xs e v a
  cases xs with
  | nil=>cases e
  | cons x xs =>
   rw[Y1]at e;injection e with c e2;subst c;rcases Jr.mp a with rfl|z
   ·obtain⟨t,e⟩:=ng b
    exact⟨x,t,e⟩
   ·exact ih xs e2 v z
theorem items_int {ks:List Int}{vs:List Jo}(h:ItemsAre (yk prog w) (ks.map Sum.inl) vs):∀ v∈vs,∃ i t,v=.int i t:=ke h ks rfl
theorem si {s:JO}{a:JI}{ks:KN}{Q:Bool->JO->Prop}(c:NIs prog w s.heap ks a)(q:Q true s):wpAny (model prog w) A (eqIsQuiet 8 (.ref a)) Q E s:=by
 obtain⟨o,y,n,l,x,p,m⟩:=c;refine qK l x p (λv h R r=>?_) q;obtain⟨k,c⟩:=m.mem v h
 cases k with
 | inl i=>obtain⟨t,rfl⟩:=c;exact qL r
 | inr B =>
  obtain⟨b,rfl,C,z,D,d,g,f,e⟩:=c;refine qK d g f (λu j R r=>?_) r;obtain⟨i,t,rfl⟩:=items_int e u j;exact qL r
def dI:KI->PyData
 | .inl i=>.int i
 | .inr xs=>.tuple (xs.map PyData.int)
def dN (ks:KN):PyData:=.tuple (ks.map dI)
theorem lY {h:YP}{ks:List Key}{vs:List Jo}(a:ItemsAre (yk prog w) ks vs):∀ xs:List Int,ks=xs.map Sum.inl->∃ as,ReadsAll h vs (xs.map PyData.int) as:=by
 induction a with
 | nil =>
  intro xs e
  cases xs with
  | nil=>exact⟨_,.nil⟩
  | cons x xs=>cases e
 | cons b _ ih =>
  intro xs e
  cases xs with
  | nil=>cases e
  | cons x xs =>
   rw[Y1]at e;injection e with c e2;subst c;obtain⟨t,rfl⟩:=ng b;obtain⟨as,r⟩:=ih xs e2;exact⟨_,.cons (.int x t) r⟩
theorem NIt.reads {h:YP}{k:KI}{v:Jo}(a:NIt prog w h k v):∃ as,Reads h v (dI k) as:=by
 cases k with
 | inl i=>obtain⟨t,rfl⟩:=a;exact⟨_,.int i t⟩
 | inr c =>
  obtain⟨b,rfl,o,j,n,g,f,e,d⟩:=a;obtain⟨as,r⟩:=lY (h:=h) d c rfl;exact⟨_,.tuple g f e r⟩
theorem NIts.reads {h:YP}:∀ {ks:KN}{vs:List Jo},NIts prog w h ks vs->∃ as,ReadsAll h vs (ks.map dI) as
 | [],_,a=>by rw[show _=[] from a];exact⟨_,.nil⟩
 | k::ks,_,a=>by
  obtain⟨v,r,rfl,a1,a2⟩:=a;obtain⟨as,p⟩:=a1.reads;obtain⟨bs,q⟩:=NIts.reads a2;exact⟨_,.cons p q⟩
theorem NIs.reads {h:YP}{ks:KN}{a:JI}(p:NIs prog w h ks a):∃ as,Reads h (.ref a) (dN ks) as:=by
 obtain⟨o,f,n,e,d,c,b⟩:=p;obtain⟨as,r⟩:=b.reads;exact⟨_,.tuple e d c r⟩
theorem mL:∀ (x y:List Int),PyData.eqvAll (x.map PyData.int) (y.map PyData.int)=decide (x=y)
 | [],[]=>rfl
 | [],_::_=>rfl
 | _::_,[]=>rfl
 | a::x,b::y=>by
  show (PyData.eqv (.int a) (.int b) && PyData.eqvAll (x.map PyData.int) (y.map PyData.int))=_;rw[mL x y,show PyData.eqv (.int a) (.int b)=(a == b) from rfl,Yq];simp
theorem zbK (x y:KI):PyData.eqv (dI x) (dI y)=decide (x=y):=by
 cases x<;>cases y
 ·rw[show PyData.eqv (dI (.inl _)) (dI (.inl _))=(_ == _) from rfl,Yq];simp
 ·rfl
 ·rfl
 ·show PyData.eqvAll _ _=_
  rw[mL,Yq];simp
theorem jt:∀ (x y:KN),PyData.eqvAll (x.map dI) (y.map dI)=decide (x=y)
 | [],[]=>rfl
 | [],_::_=>rfl
 | _::_,[]=>rfl
 | a::x,b::y=>by
  show (PyData.eqv (dI a) (dI b) && PyData.eqvAll (x.map dI) (y.map dI))=_;rw[jt x y,zbK,Yq];simp
theorem n4:∀ x:List Int,PyData.canLayAll0 (x.map PyData.int)=true/\PyData.depthAll (x.map PyData.int)<=0
 | []=>⟨rfl,Jg _⟩
 | a::x=>by
  obtain⟨p,q⟩:=n4 x;refine⟨?_,?_⟩
  ·show (PyData.canLay0 (.int a) && PyData.canLayAll0 (x.map PyData.int))=true
   rw[p];rfl
  ·show max 0 (PyData.depthAll (x.map PyData.int))<=0
   simp_all
theorem kW (ks:KN):(dN ks).canLay0=true/\(dN ks).depth<=2:=by
 have key:∀ e∈ks.map dI,e.canLay0=true/\e.depth<=1:=λe b=>by
  obtain⟨k,_,rfl⟩:=Jy.mp b
  cases k with
  | inl i=>exact⟨rfl,by show 0<=1;lia⟩
  | inr a =>
   obtain⟨p,q⟩:=n4 a;refine⟨p,?_⟩;show PyData.depthAll (a.map PyData.int)+1<=1
   simp_all
 obtain⟨p,q⟩:=iA key;refine⟨p,?_⟩;show PyData.depthAll (ks.map dI)+1<=2
 simp_all
theorem zan {s:JO}{x y:KN}{a b:JI}{Q:Bool->JO->Prop}(k:A.units+2<cLine)(h:NIs prog w s.heap x a)(g:NIs prog w s.heap y b)(q:Q (decide (x=y)) s):wpAny (model prog w) A (eqBool (.ref a) (.ref b)) Q E s:=by
 obtain⟨as,d⟩:=h.reads;obtain⟨bs,c⟩:=g.reads;obtain⟨f,j⟩:=kW x;obtain⟨e,i⟩:=kW y;refine PySem.SeqAt.eqBoolOverData prog w A E s _ _ _ _ as bs Q d c f e (by lia) ?_;rw[show PyData.eqv (dN x) (dN y)=PyData.eqvAll (x.map dI) (y.map dI) from rfl,jt];exact q
variable (prog w)
def xS:HeapKind prog w KN where
 is:=NIs prog w
 hash:=λa=>reduceHash (Builtin.Tuple.tupleHashOf (a.map (nh1 prog w)))
 draws:=λa=>nds a+1
 room:=λA=>A.units+2<cLine
 inj:=λc b=>NIs.inj c b
 keeps:=λx g i f=>NIs.keeps x g i f
 pyHash:=λe d h=>gT (by lia) d h
 eqBool:=λe c b h=>zan e c b h
 quiet:=λd h=>si d h
end L2
namespace Ts
open PySem PyProof.Rows
structure Cmp (prog:Yo) (w:YI) (A:YO) (s:JO) (κ:SortKind) (P:Keyed->Prop) (rk:Keyed->Int):Prop where
 ask:∀ (x y:Keyed),P x->P y->∀ {Q:Bool->JO->Prop}{E:Jo->JO->Prop},Q (decide (rk x<rk y)) s->wpAny (model prog w) A (keyLt' κ x.1 y.1) Q E s
def R (rk:Keyed->Int)(xs:Array Keyed)(i:Nat):Int:=match xs[i]? with
 | some p=>rk p
 | none=>0
theorem R_congr {rk:Keyed->Int}{xs ys:Array Keyed}{i j:Nat}(h:xs[i]?=ys[j]?):R rk xs i=R rk ys j:=by unfold R;rw[h]
def Up (rk:Keyed->Int)(xs:Array Keyed)(lo n:Nat):Prop:=∀ i j,lo<=i->i<=j->j<lo+n->R rk xs i<=R rk xs j
def Dn (rk:Keyed->Int)(xs:Array Keyed)(lo n:Nat):Prop:=∀ i j,lo<=i->i<=j->j<lo+n->R rk xs j<=R rk xs i
structure Bs (κ:SortKind) (P:Keyed->Prop) (a₀:Array Keyed) (st:SortSt):Prop where
 kind:kindOf st=κ
 fail:failedOf st=none
 perm:(arrOf st).Perm a₀
 all:∀ p∈a₀.toList,P p
theorem Bs.size {κ:SortKind}{P:Keyed->Prop}{a₀:Array Keyed}{st:SortSt}(h:Bs κ P a₀ st):(arrOf st).size=a₀.size:=h.perm.size_eq
theorem Bs.at {κ:SortKind}{P:Keyed->Prop}{a₀:Array Keyed}{st:SortSt}(h:Bs κ P a₀ st){i:Nat}(hi:i<a₀.size)(rk:Keyed->Int):∃ p,(arrOf st)[i]?=some p/\P p/\R rk (arrOf st) i=rk p:=by
 have e:(arrOf st)[i]?=some ((arrOf st)[i]'(by rw[h.size];exact hi)):=getElem?_pos (arrOf st) i (by rw[h.size];exact hi);refine⟨_,e,h.all _ ((Array.perm_iff_toList_perm.mp h.perm).mem_iff.mp (by simp)),?_⟩;unfold R;rw[e]
theorem Bs.arr {κ:SortKind}{P:Keyed->Prop}{a₀:Array Keyed}{st:SortSt}(h:Bs κ P a₀ st){xs:Array Keyed}(a:xs.Perm (arrOf st)):Bs κ P a₀ (setArr st xs):=⟨h.kind,h.fail,a.trans h.perm,h.all⟩
section
variable {prog:Yo}{w:YI}{A:YO}{E:Jo->JO->Prop}{s:JO}{κ:SortKind}{P:Keyed->Prop}{rk:Keyed->Int}{a₀:Array Keyed}
theorem nq (C:Cmp prog w A s κ P rk){st:SortSt}{x y:Keyed}{Q:Option Bool->SortSt->Prop}(b:kindOf st=κ)(a:P x)(py:P y)(h:Q (some (decide (rk x<rk y))) st):wpS (model prog w) A E s (lt' x y) Q st:=by
 rw[lt'_eq];refine Jt (Wh (Jt (wpS_lift (wpAny_attempt ?_))));rw[b];exact C.ask x y a py ⟨rfl,Jx h⟩
theorem vF {r:String}{st:SortSt}{Q:Unit->SortSt->Prop}(h:Q () st):wpS (model prog w) A E s (liftM (rule r):StateT SortSt Sem Unit) Q st:=wpS_lift (Z3 ⟨rfl,h⟩)
theorem yH {st:SortSt}{arr:Array Keyed}{i:Nat}{p:Keyed}{Q:Keyed->SortSt->Prop}(e:arr[i]?=some p)(h:Q p st):wpS (model prog w) A E s (elem' arr i) Q st:=by
 rw[elem'_eq,e];exact Jx h
theorem nr (C:Cmp prog w A s κ P rk){st:SortSt}{i j:Nat}{Q:Option Bool->SortSt->Prop}(a:Bs κ P a₀ st)(hi:i<a₀.size)(e:j<a₀.size)(h:Q (some (decide (R rk (arrOf st) i<R rk (arrOf st) j))) st):wpS (model prog w) A E s (ltAt' i j) Q st:=by
 obtain⟨p,f,pp,c⟩:=a.at hi rk;obtain⟨q,e2,d,b⟩:=a.at e rk;rw[c,b]at h;rw[ltAt'_eq];exact Jt (Wh (Jt (yH f (Jt (yH e2 (nq C a.kind pp d h))))))
structure Keep (κ:SortKind) (P:Keyed->Prop) (rk:Keyed->Int) (a₀:Array Keyed) (lo:Nat) (st st':SortSt):Prop where
 b:Bs κ P a₀ st'
 pend:pendingOf st'=pendingOf st
 low:∀ k,k<lo->R rk (arrOf st') k=R rk (arrOf st) k
theorem Keep.refl {lo:Nat}{st:SortSt}(h:Bs κ P a₀ st):Keep κ P rk a₀ lo st st:=⟨h,rfl,λ_ _=>rfl⟩
theorem Keep.trans {lo:Nat}{st a st2:SortSt}(h:Keep κ P rk a₀ lo st a)(g:Keep κ P rk a₀ lo a st2):Keep κ P rk a₀ lo st st2:=⟨g.b,g.pend.trans h.pend,λk b=>(g.low k b).trans (h.low k b)⟩
theorem R_mirror {xs:Array Keyed}{i j:Nat}(a:j<=xs.size)(k:Nat):R rk (mirror xs i j ((j-i) / 2)) k=if i<=k/\k<j then R rk xs (i+j-1-k) else R rk xs k:=by
 have e:=getElem?_mirror_all (xs:=xs) (i:=i) a k;split at e
 ·next h=>rw[Jm h];exact R_congr e
 ·next h=>rw[Jf h];exact R_congr e
theorem pX {lo i j:Nat}{st:SortSt}{Q:Unit->SortSt->Prop}(a:Bs κ P a₀ st)(c:lo<=i)(b:j<=a₀.size)(h:∀ st',Keep κ P rk a₀ lo st st'->(∀ k,R rk (arrOf st') k=if i<=k/\k<j then R rk (arrOf st) (i+j-1-k) else R rk (arrOf st) k)->Q () st'):wpS (model prog w) A E s (reverseSlice' i j) Q st:=by
 rw[reverseSlice'_eq];refine Wj (h _ ⟨a.arr (mirror_perm _ _ _ _),rfl,λk d=>?_⟩ λk=>?_)
 ·show R rk (mirror (arrOf st) i j ((j-i) / 2)) k=_
  rw[R_mirror (by rw[a.size];exact b),Jf (by lia)]
 ·exact R_mirror (by rw[a.size];exact b) k
theorem bj (C:Cmp prog w A s κ P rk){st:SortSt}{lo j:Nat}{Q:Option Nat->SortSt->Prop}(B:Bs κ P a₀ st)(h1:1<=j)(hn:lo+j<=a₀.size)(h:∀ st' m,Keep κ P rk a₀ lo st st'->1<=m->m<=j->Up rk (arrOf st') lo m->Q (some m) st'):wpS (model prog w) A E s (countRun' lo j) Q st:=by
 have asc:∀ (st:SortSt) (y:Nat) {Z:Option (Option Nat) × Nat->SortSt->Prop},Bs κ P a₀ st->1<=y->Up rk (arrOf st) lo y ->
   (∀ n,y<=n->n<=max y j->Up rk (arrOf st) lo n->(n<j->R rk (arrOf st) (lo+n)<R rk (arrOf st) (lo+n-1))->Z (none,n) st)->
   ∀ f:Nat->Option (Option Nat) × Nat->StateT SortSt Sem (ForInStep (Option (Option Nat) × Nat)),(∀ i n,f i (none,n)=(do
    let some v <- ltAt' (lo+n) (lo+n-1)|pure (.done (some none,n))
    if v then pure (.done (none,n)) else pure (.yield (none,n+1))))->wpS (model prog w) A E s (forIn [y:j] (none,y) f) Z st:=by
  intro st y Z B h0 F G f hf;refine Yu (I:=λi c st'=>st'=st/\c=(none,i)/\y<=i/\Up rk (arrOf st) lo i) ?_ ?_ ⟨rfl,rfl,Jg _,F⟩
  ·rintro i c st' hi aa ⟨rfl,rfl,O,r⟩
   rw[hf];refine Jt (nr C B (by lia) (by lia) ?_);by_cases z:R rk (arrOf st') (lo+i)<R rk (arrOf st') (lo+i-1)
   ·rw[JC z]
    exact Jx (G i O (by lia) r λ_=>z)
   ·rw[Js z]
    refine Jx ⟨rfl,rfl,by lia,λa b p l x=>?_⟩;by_cases q:b<lo+i
    ·exact r a b p l q
    ·obtain rfl:b=lo+i:=by lia
     by_cases L:a=lo+i
     ·rw[L];exact Z7 _
     ·have:=r a (lo+i-1) p (by lia) (by lia)
      lia
  ·rintro c st' ⟨rfl,rfl,O,r⟩
   exact G _ O (Jg _) r λq=>by lia
 rw[countRun'_eq];refine Jt (asc st 1 B (Jg _) (λa b h1 h2 O=>by rw[show a=b by lia];exact Z7 _) (λn n1 n2 F X=>?_) _ (λi n=>rfl));dsimp only;by_cases z:n=j
 ·subst z
  rw[Jm (ZD _)];exact Jx (h _ _ (Keep.refl B) n1 (Jg _) F)
 rw[Jf (by simpa using z)];have nl:n<j:=by lia
 have X:=X nl;generalize hT:(bind (liftM (rule "list.sort.descending-run")) _:StateT SortSt Sem (Option Nat))=T
 have tail:∀ o,Keep κ P rk a₀ lo st o->Dn rk (arrOf o) lo n->R rk (arrOf o) (lo+n)<R rk (arrOf o) (lo+n-1)->wpS (model prog w) A E s T Q o:=by
  intro o K1 d1 l1;rw[<- hT];refine Jt (vF ?_)
  have last:∀ d m,Keep κ P rk a₀ lo st d->1<=m->m<=j->Dn rk (arrOf d) lo m->∀ g,Keep κ P rk a₀ lo d g->(∀ k,R rk (arrOf g) k=if lo<=k/\k<lo+m then R rk (arrOf d) (lo+(lo+m)-1-k) else R rk (arrOf d) k)->Up rk (arrOf g) lo m:=by
   intro d m t U m2 u g D H a b p l x;rw[H,H,Jm ⟨by omega,by lia⟩,Jm ⟨by lia,by omega⟩];exact u _ _ (by lia) (by omega) (by omega)
  refine Jt (Za (Yu (I:=λi c d=>∃ m q,c=(none,m,q)/\m=i/\q+1<=m/\Keep κ P rk a₀ lo st d/\(i<=j->Dn rk (arrOf d) lo m/\∀ k,lo+m-(q+1)<=k->k<lo+m->R rk (arrOf d) k=R rk (arrOf d) (lo+m-1)))
   (Q:=λc d=>∃ m q,c=(none,m,q)/\1<=m/\m<=j/\q+1<=m/\Keep κ P rk a₀ lo st d/\Dn rk (arrOf d) lo m/\∀ k,lo+m-(q+1)<=k->k<lo+m->R rk (arrOf d) k=R rk (arrOf d) (lo+m-1)) ?step ?fin ?init) ?post)
  case init =>
   refine⟨n+1,0,rfl,rfl,by lia,K1,λ_=>⟨λa b p l x=>?_,λk W V=>by rw[show k=lo+(n+1)-1 by lia]⟩⟩;by_cases q:b<lo+n
   ·exact d1 a b p l q
   ·obtain rfl:b=lo+n:=by lia
    by_cases L:a=lo+n
    ·rw[L];exact Z7 _
    ·have:=d1 a (lo+n-1) p (by lia) (by lia)
     lia
  case fin =>
   rintro c d ⟨m,q,rfl,e,G,t,Y⟩;obtain⟨u,eq2⟩:=Y (by lia);exact⟨m,q,rfl,by lia,by lia,G,t,u,eq2⟩
  case step =>
   rintro i c d hi aa ⟨m,q,rfl,rfl,G,t,Y⟩;obtain⟨u,eq2⟩:=Y (by lia);dsimp only;refine Jt (nr C t.b (by lia) (by lia) ?_)
   have more:∀ g,Dn rk (arrOf g) lo m->R rk (arrOf g) (lo+m)<=R rk (arrOf g) (lo+m-1)->Dn rk (arrOf g) lo (m+1):=by
    intro g S le a b p l x;by_cases q:b<lo+m
    ·exact S a b p l q
    ·obtain rfl:b=lo+m:=by lia
     by_cases L:a=lo+m
     ·rw[L];exact Z7 _
     ·have:=S a (lo+m-1) p (by lia) (by lia)
      lia
   by_cases z1:R rk (arrOf d) (lo+m)<R rk (arrOf d) (lo+m-1)
   ·rw[JC z1]
    dsimp only;rw[Jm rfl];by_cases J:q > 0
    ·rw[Jm J]
     refine Jt (pX (rk:=rk) (lo:=lo) t.b (by lia) (by lia) λg D H=>Jx ?_)
     have same:∀ k,R rk (arrOf g) k=R rk (arrOf d) k:=λk=>by
      rw[H];split
      ·rw[eq2 _ (by lia) (by omega),eq2 k (by simp_all) (by simp_all)]
      ·rfl
     refine⟨m+1,0,rfl,rfl,by lia,t.trans D,λ_=>⟨more g (λa b p l x=>by rw[same,same];exact u a b p l x) (by rw[same,same];lia),λk W V=>by rw[show k=lo+(m+1)-1 by lia]⟩⟩
    ·rw[Jf J]
     exact Jx ⟨m+1,0,rfl,rfl,by lia,t,λ_=>⟨more d u (by lia),λk W V=>by rw[show k=lo+(m+1)-1 by lia]⟩⟩
   ·rw[Js z1]
    dsimp only;rw[Jf Jj];refine Jt (nr C t.b (by lia) (by lia) ?_);by_cases K:R rk (arrOf d) (lo+m-1)<R rk (arrOf d) (lo+m)
    ·rw[JC K]
     dsimp only;rw[Jm rfl];exact Jx ⟨m,q,rfl,by lia,by lia,G,t,u,eq2⟩
    ·rw[Js K]
     dsimp only;rw[Jf Jj];have e:R rk (arrOf d) (lo+m)=R rk (arrOf d) (lo+m-1):=by lia
     refine Jx ⟨m+1,q+1,rfl,rfl,by simp_all,t,λ_=>⟨more d u (by simp_all),λk W V=>?_⟩⟩;rw[show lo+(m+1)-1=lo+m by simp_all];by_cases q3:k=lo+m
     ·rw[q3]
     ·rw[eq2 k (by lia) (by lia),e]
  case post =>
   rintro c d ⟨m,q,rfl,U,m2,G,t,u,eq2⟩;dsimp only;generalize ab:(bind (reverseSlice' lo (lo+m)) _:StateT SortSt Sem (Option Nat))=T2
   have on:∀ g,Keep κ P rk a₀ lo st g->Dn rk (arrOf g) lo m->wpS (model prog w) A E s T2 Q g:=by
    intro g D S;rw[<- ab];refine Jt (pX (rk:=rk) (lo:=lo) D.b (by lia) (by lia) λM K4 r4=>?_);refine Jt (asc M m K4.b U (last g m D U m2 S M K4 r4) (λn' a1 a2 r _=>?_) _ (λi n=>rfl));exact Jx (h _ _ (D.trans K4) (by lia) (by simp_all) r)
   by_cases J:q > 0
   ·rw[Jm J]
    refine Jt (pX (rk:=rk) (lo:=lo) t.b (by lia) (by lia) λg D H=>?_)
    have same:∀ k,R rk (arrOf g) k=R rk (arrOf d) k:=λk=>by
     rw[H];split
     ·rw[eq2 _ (by lia) (by omega),eq2 k (by simp_all) (by simp_all)]
     ·rfl
    exact on g (t.trans D) (λa b p l x=>by rw[same,same];exact u a b p l x)
   ·rw[Jf J]
    exact on d t u
 by_cases K:n > 1
 ·rw[Jm K]
  refine Jt (nr C B (by lia) (by lia) ?_);by_cases z3:R rk (arrOf st) lo<R rk (arrOf st) (lo+n-1)
  ·rw[JC z3]
   exact Jx (h _ _ (Keep.refl B) n1 (by simp_all) F)
  ·rw[Js z3]
   dsimp only;rw[Jf Jj];refine Jt (pX (rk:=rk) (lo:=lo) B (by lia) (by lia) λo K1 N=>tail o K1 (λa b p l x=>?_) ?_)
   ·rw[N,N,Jm ⟨by lia,by omega⟩,Jm ⟨by omega,by lia⟩]
    exact F _ _ (by lia) (by omega) (by omega)
   ·rw[N,N,Jf (by lia),Jm ⟨by lia,by lia⟩]
    have:=F (lo+(lo+n)-1-(lo+n-1)) (lo+n-1) (by omega) (by omega) (by lia);have e:lo+(lo+n)-1-(lo+n-1)=lo:=by omega
    rw[e]at this ⊢;have:=F lo (lo+n-1) (by lia) (by omega) (by omega);lia
 ·rw[Jf K]
  exact tail st (Keep.refl B) (λa b p l x=>by rw[show a=b by lia];exact Z7 _) X
theorem R_bubble {xs:Array Keyed}{src d:Nat}(hs:src<xs.size)(hd:d<=src)(k:Nat):R rk (bubble xs src d) k=if k=src-d then R rk xs src else if src-d<k/\k<=src then R rk xs (k-1) else R rk xs k:=by
 have e:=getElem?_bubble (xs:=xs) hs d hd k;by_cases b:k=src-d
 ·rw[Jm b]at e ⊢;exact R_congr e
 ·rw[Jf b]at e ⊢
  by_cases a:(src-d<k/\k<=src)
  ·rw[Jm a]at e ⊢;exact R_congr e
  ·rw[Jf a]at e ⊢;exact R_congr e
theorem zbO (C:Cmp prog w A s κ P rk){st:SortSt}{lo n ok:Nat}{Q:Bool->SortSt->Prop}(K:Bs κ P a₀ st)(h1:1<=ok)(hok:ok<=n)(T:lo+n<=a₀.size)(S:Up rk (arrOf st) lo ok)(h:∀ st',Keep κ P rk a₀ lo st st'->Up rk (arrOf st') lo n->Q true st'):wpS (model prog w) A E s (binarySort' lo n ok) Q st:=by
 rw[binarySort'_eq];rw[show max ok 1=ok by simp_all];refine Jt (Za (Yu (I:=λk c a=>c=(none,())/\Keep κ P rk a₀ lo st a/\Up rk (arrOf a) lo (min k n)) (Q:=λc a=>c=(none,())/\Keep κ P rk a₀ lo st a/\Up rk (arrOf a) lo n) ?step ?fin ?init) ?post)
 case init=>exact⟨rfl,Keep.refl K,by rwa [Zd hok]⟩
 case fin =>
  rintro c a ⟨rfl,f,e⟩;rw[show min (max ok n) n=n by simp_all]at e;exact⟨rfl,f,e⟩
 case post =>
  rintro c a ⟨rfl,f,e⟩;exact Jx (h a f e)
 case step =>
  rintro k c a M L ⟨rfl,f,e⟩;rw[show min k n=k by lia]at e
  refine Jt (Za (Yu (I:=λx c b=>b=a/\∃ l r,c=(none,l,r)/\l<=r/\r<=k/\r-l<=k-x/\(∀ i,lo<=i->i<lo+l->R rk (arrOf a) i<=R rk (arrOf a) (lo+k))/\(∀ i,lo+r<=i->i<lo+k->R rk (arrOf a) (lo+k)<=R rk (arrOf a) i))
   (Q:=λc b=>b=a/\∃ l r,c=(none,l,r)/\l<=k/\(∀ i,lo<=i->i<lo+l->R rk (arrOf a) i<=R rk (arrOf a) (lo+k))/\(∀ i,lo+l<=i->i<lo+k->R rk (arrOf a) (lo+k)<=R rk (arrOf a) i)) ?istep ?ifin ?iinit) ?ipost)
  case iinit=>exact⟨rfl,0,k,rfl,by lia,by lia,by simp_all,λi _ _=>by lia,λi _ _=>by lia⟩
  case ifin =>
   rintro c b ⟨rfl,l,r,rfl,H,g,m,p,o⟩;obtain rfl:l=r:=by lia
   exact⟨rfl,l,l,rfl,g,p,o⟩
  case istep =>
   rintro x c b _ O ⟨rfl,l,r,rfl,H,g,m,p,o⟩;dsimp only;by_cases ge:l>=r
   ·rw[Jm ge]
    obtain rfl:l=r:=by lia
    exact Jx ⟨rfl,l,l,rfl,g,p,o⟩
   ·rw[Jf ge]
    refine Jt (nr C f.b (by lia) (by lia) ?_);by_cases z:R rk (arrOf b) (lo+k)<R rk (arrOf b) (lo+(l+r) / 2)
    ·rw[JC z]
     refine Jx ⟨rfl,l,(l+r) / 2,rfl,by lia,by lia,by grind,p,λi u J=>?_⟩;have:=e (lo+(l+r) / 2) i (by simp_all) u (by omega);lia
    ·rw[Js z]
     refine Jx ⟨rfl,(l+r) / 2+1,r,rfl,by lia,by omega,by grind,λi u J=>?_,o⟩;have:=e i (lo+(l+r) / 2) u (by lia) (by lia);lia
  case ipost =>
   rintro c b ⟨rfl,l,r,rfl,N,p,o⟩;dsimp only;rw[moveDown'_eq];have sz:=f.b.size
   have t:∀ j,R rk (arrOf (setArr b (bubble (arrOf b) (lo+k) (lo+k-(lo+l))))) j=if j=lo+l then R rk (arrOf b) (lo+k) else if lo+l<j/\j<=lo+k then R rk (arrOf b) (j-1) else R rk (arrOf b) j:=λj=>by
    have:=R_bubble (rk:=rk) (xs:=arrOf b) (src:=lo+k) (d:=lo+k-(lo+l)) (by rw[sz];lia) (by simp_all) j;rw[show lo+k-(lo+k-(lo+l))=lo+l by lia]at this;exact this
   refine Jt (Wj (Jx ⟨rfl,f.trans ⟨f.b.arr (bubble_perm _ _ _),rfl,λj B=>?_⟩,λi j v y B=>?_⟩))
   ·rw[t,Jf (by lia),Jf (by lia)]
   ·rw[show min (k+1) n=k+1 by lia]at B
    rw[t,t];by_cases G:i=lo+l
    ·rw[Jm G]
     by_cases q:j=lo+l
     ·rw[Jm q];exact Z7 _
     ·rw[Jf q,Jm ⟨by lia,by lia⟩]
      exact o _ (by lia) (by lia)
    ·rw[Jf G]
     by_cases F:lo+l<i/\i<=lo+k
     ·rw[Jm F,Jf (by lia),Jm ⟨by lia,by lia⟩]
      exact e _ _ (by lia) (by lia) (by lia)
     ·rw[Jf F]
      by_cases q:j=lo+l
      ·rw[Jm q];exact p _ v (by lia)
      ·rw[Jf q]
       by_cases D:lo+l<j/\j<=lo+k
       ·rw[Jm D];exact e _ _ v (by grind) (by lia)
       ·rw[Jf D];exact e _ _ v y (by lia)
end
def zal:Bool->Keyed->Array Keyed->Nat->Nat->Nat->StateT SortSt Sem (Option Nat):=sortPriv% PySem.Builtin.gallop
def bd (left:Bool)(k r:Int):Bool:=if left=true then decide (r<k) else !decide (k<r)
theorem zat {left:Bool}{k r a:Int}(h:r<=a)(b:bd left k a=true):bd left k r=true:=by
 unfold bd at *;cases left
 ·simp only[Yz,Zy,ZV,Z2]at *;omega
 ·simp only[YU,Z1]at *;omega
section
variable {prog:Yo}{w:YI}{A:YO}{E:Jo->JO->Prop}{s:JO}{κ:SortKind}{P:Keyed->Prop}{rk:Keyed->Int}
theorem mY (C:Cmp prog w A s κ P rk){st:SortSt}{left:Bool}{key:Keyed}{arr:Array Keyed}{j:Nat}{Q:Option Bool->SortSt->Prop}(d:kindOf st=κ)(c:P key)(a:∃ p,arr[j]?=some p/\P p)(h:Q (some (bd left (rk key) (R rk arr j))) st) :
  wpS (model prog w) A E s (elem' arr j >>= λx=>if left=true then lt' x key else (lt' key x >>= λr=>pure (r.map λb=>!b))) Q st:=by
 obtain⟨p,e,pp⟩:=a;have r:R rk arr j=rk p:=by unfold R;rw[e]
 rw[r]at h;refine Jt (yH e ?_);unfold bd at h;cases left
 ·rw[Jf Jj]at h ⊢
  exact Jt (nq C d c pp (Jx h))
 ·rw[Jm rfl]at h ⊢
  exact nq C d pp c h
theorem uk (C:Cmp prog w A s κ P rk){st:SortSt}{left:Bool}{key:Keyed}{arr:Array Keyed}{base n hint:Nat}{Q:Option Nat->SortSt->Prop}(F:kindOf st=κ)(B:P key)(g:∀ i,i<n->∃ p,arr[base+i]?=some p/\P p)(hu:Up rk arr base n)(hh:hint<n)(h:∀ k,k<=n->(∀ i,i<k->bd left (rk key) (R rk arr (base+i))=true)->(∀ i,k<=i->i<n->bd left (rk key) (R rk arr (base+i))=false)->Q (some k) st):wpS (model prog w) A E s (zal left key arr base n hint) Q st:=by
 have L:∀ i j,i<=j->j<n->bd left (rk key) (R rk arr (base+j))=true->bd left (rk key) (R rk arr (base+i))=true:=λi j K J b=>zat (hu _ _ (by simp_all) (by simp_all) (by simp_all)) b
 have up:∀ i j,i<=j->j<n->bd left (rk key) (R rk arr (base+i))=false->bd left (rk key) (R rk arr (base+j))=false:=λi j K J b=>by
  cases q:bd left (rk key) (R rk arr (base+j)) with
  | false=>rfl
  | true=>rw[L i j K J q]at b;cases b
 refine Jt (mY C F B (g hint hh) ?_);dsimp only
 have half:∀ (lo u:Nat) (f:Nat->Option (Option Nat) × Nat × Nat->StateT SortSt Sem (ForInStep (Option (Option Nat) × Nat × Nat))),lo<=u->u<=n ->
   (∀ i,i<lo->bd left (rk key) (R rk arr (base+i))=true)->(∀ i,u<=i->i<n->bd left (rk key) (R rk arr (base+i))=false) ->
   (∀ x l r (v:ForInStep (Option (Option Nat) × Nat × Nat)->SortSt->Prop),(r<=l->v (.done (none,l,r)) st)->(l<r->r<=n->bd left (rk key) (R rk arr (base+(l+(r-l) / 2)))=true->v (.yield (none,l+(r-l) / 2+1,r)) st) ->
    (l<r->r<=n->bd left (rk key) (R rk arr (base+(l+(r-l) / 2)))=false->v (.yield (none,l,l+(r-l) / 2)) st)->r<=n->wpS (model prog w) A E s (f x (none,l,r)) v st) ->
   wpS (model prog w) A E s (forIn [:n] (none,lo,u) f) (λc a=>a=st/\∃ k,c=(none,k,k)/\Q (some k) st) st:=by
  intro lo u f K J h3 h4 hf;refine Yu (I:=λx c a=>a=st/\∃ l r,c=(none,l,r)/\l<=r/\r<=n/\r-l<=n-x/\(∀ i,i<l->bd left (rk key) (R rk arr (base+i))=true)/\(∀ i,r<=i->i<n->bd left (rk key) (R rk arr (base+i))=false)) ?_ ?_ ⟨rfl,lo,u,rfl,K,J,by grind,h3,h4⟩
  ·rintro x c a _ W ⟨rfl,l,r,rfl,lr,e,m,N,M⟩
   refine hf x l r _ (λz=>?_) (λZ Y b=>?_) (λZ Y b=>?_) e
   ·obtain rfl:l=r:=by grind
    exact⟨rfl,l,rfl,h l e N M⟩
   ·exact⟨rfl,_,r,rfl,by grind,e,by grind,λi G=>L i _ (by grind) (by grind) b,M⟩
   ·exact⟨rfl,l,_,rfl,by simp_all,by grind,by omega,N,λi H D=>up _ i H D b⟩
  ·rintro c a ⟨rfl,l,r,rfl,lr,e,m,N,M⟩
   obtain rfl:l=r:=by grind
   exact⟨rfl,l,rfl,h l e N M⟩
 cases X:bd left (rk key) (R rk arr (base+hint)) with
 | true =>
  rw[Jm rfl]
  refine Jt (Za (Yu (I:=λx c a=>a=st/\∃ l o,c=(none,l,o)/\x+1<=o/\l<o/\hint+l<n/\bd left (rk key) (R rk arr (base+(hint+l)))=true)
   (Q:=λc a=>a=st/\∃ l o,c=(none,l,o)/\l<o/\hint+l<n/\bd left (rk key) (R rk arr (base+(hint+l)))=true/\(o<n-hint->bd left (rk key) (R rk arr (base+(hint+o)))=false)) ?_ ?_ ⟨rfl,0,1,rfl,by simp_all,by simp_all,by omega,X⟩) ?_)
  ·rintro x c a _ W ⟨rfl,l,o,rfl,O,d,ln,b⟩
   dsimp only;by_cases z:o>=n-hint
   ·rw[Jm z]
    exact Jx ⟨rfl,l,o,rfl,d,ln,b,λq=>by omega⟩
   ·rw[Jf z]
    refine Jt (mY C F B (g (hint+o) (by grind)) ?_)
    cases q:bd left (rk key) (R rk arr (base+(hint+o))) with
    | true=>exact Jx ⟨rfl,o,2*o+1,rfl,by grind,by grind,by grind,q⟩
    | false=>exact Jx ⟨rfl,l,o,rfl,d,ln,b,λ_=>q⟩
  ·rintro c a ⟨rfl,l,o,rfl,O,d,ln,b⟩
   exact⟨rfl,l,o,rfl,d,ln,b,λq=>by grind⟩
  ·rintro c a ⟨rfl,l,o,rfl,d,ln,b,nb⟩
   dsimp only;refine Jt (Za (half _ _ _ (by omega) (by omega) (λi G=>L i _ (by grind) ln b) (λi H D=>?_) ?_) ?_)
   ·have q:o<n-hint:=by omega
    exact up _ i (by grind) D (nb q)
   ·intro x t y v U T S e
    dsimp only;by_cases z:t>=y
    ·rw[Jm z];exact Jx (U z)
    ·rw[Jf z]
     refine Jt (mY C F B (g _ (by grind)) ?_)
     cases q:bd left (rk key) (R rk arr (base+(t+(y-t) / 2))) with
     | true=>exact Jx (T (by simp_all) e q)
     | false=>exact Jx (S (by simp_all) e q)
   ·rintro c a ⟨rfl,k,rfl,V⟩
    exact Jx V
 | false =>
  rw[Jf Jj]
  refine Jt (Za (Yu (I:=λx c a=>a=st/\∃ l o,c=(none,l,o)/\x+1<=o/\l<o/\l<=hint/\bd left (rk key) (R rk arr (base+(hint-l)))=false)
   (Q:=λc a=>a=st/\∃ l o,c=(none,l,o)/\l<o/\l<=hint/\bd left (rk key) (R rk arr (base+(hint-l)))=false/\(o<hint+1->bd left (rk key) (R rk arr (base+(hint-o)))=true)) ?_ ?_ ⟨rfl,0,1,rfl,by simp_all,by simp_all,by simp_all,X⟩) ?_)
  ·rintro x c a _ W ⟨rfl,l,o,rfl,O,d,ln,b⟩
   dsimp only;by_cases z:o>=hint+1
   ·rw[Jm z]
    exact Jx ⟨rfl,l,o,rfl,d,ln,b,λq=>by omega⟩
   ·rw[Jf z]
    refine Jt (mY C F B (g (hint-o) (by grind)) ?_)
    cases q:bd left (rk key) (R rk arr (base+(hint-o))) with
    | true=>exact Jx ⟨rfl,l,o,rfl,d,ln,b,λ_=>q⟩
    | false=>exact Jx ⟨rfl,o,2*o+1,rfl,by grind,by grind,by grind,q⟩
  ·rintro c a ⟨rfl,l,o,rfl,O,d,ln,b⟩
   exact⟨rfl,l,o,rfl,d,ln,b,λq=>by grind⟩
  ·rintro c a ⟨rfl,l,o,rfl,d,ln,b,nb⟩
   dsimp only;refine Jt (Za (half _ _ _ (by omega) (by grind) (λi G=>?_) (λi H D=>up _ i H D b) ?_) ?_)
   ·have q:o<hint+1:=by omega
    exact L i _ (by grind) (by grind) (nb q)
   ·intro x t y v U T S e
    dsimp only;by_cases z:t>=y
    ·rw[Jm z];exact Jx (U z)
    ·rw[Jf z]
     refine Jt (mY C F B (g _ (by grind)) ?_)
     cases q:bd left (rk key) (R rk arr (base+(t+(y-t) / 2))) with
     | true=>exact Jx (T (by simp_all) e q)
     | false=>exact Jx (S (by simp_all) e q)
   ·rintro c a ⟨rfl,k,rfl,V⟩
    exact Jx V
end
def Srt (rk:Keyed->Int)(l:List Keyed):Prop:=l.Pairwise λx y=>rk x<=rk y
structure Lo (rk:Keyed->Int) (T out a b:List Keyed):Prop where
 so:Srt rk out
 sa:Srt rk a
 sb:Srt rk b
 oa:∀ x∈out,∀ y∈a,rk x<=rk y
 ob:∀ x∈out,∀ y∈b,rk x<=rk y
 pm:(out++(a++b)).Perm T
section
variable {rk:Keyed->Int}{T out a b c:List Keyed}
theorem Lo.swap (h:Lo rk T out a b):Lo rk T out b a:=⟨h.so,h.sb,h.sa,h.ob,h.oa,((W5 (l₁:=b) (l₂:=a)).append_left out).trans h.pm⟩
theorem Lo.take (h:Lo rk T out (c++a) b)(le:∀ x∈c,∀ y∈b,rk x<=rk y):Lo rk T (out++c) a b:=by
 obtain⟨i,g,f⟩:=Ym.mp h.sa;refine⟨Ym.mpr ⟨h.so,i,λx e y d=>h.oa x e y (Yc _ d)⟩,g,h.sb,λx e y d=>?_,λx e y d=>?_,?_⟩
 ·rcases Jv.mp e with q|q
  ·exact h.oa x q y (Jz _ d)
  ·exact f x q y d
 ·rcases Jv.mp e with q|q
  ·exact h.ob x q y d
  ·exact le x q y d
 ·have:=h.pm
  rw[JT]at this ⊢;exact this
theorem Lo.end (h:Lo rk T out a []):(out++a).Perm T/\Srt rk (out++a):=by
 have:=h.pm;rw[JU]at this;exact⟨this,Ym.mpr ⟨h.so,h.sa,h.oa⟩⟩
theorem Lo.lone (h:Lo rk T out a b)(le:∀ x∈b,∀ y∈a,rk x<=rk y):(out++b++a).Perm T/\Srt rk (out++b++a):=by
 refine⟨?_,Ym.mpr ⟨Ym.mpr ⟨h.so,h.sb,h.ob⟩,h.sa,λx d y c=>?_⟩⟩
 ·rw[JT]
  exact((W5 (l₁:=b) (l₂:=a)).append_left out).trans h.pm
 ·rcases Jv.mp d with q|q
  ·exact h.oa x q y c
  ·exact le x q y c
theorem oO {arr:Array Keyed}{i:Nat}{p:Keyed}(e:arr[i]?=some p):arr.toList.drop i=p::arr.toList.drop (i+1):=by
 obtain⟨b,e⟩:=JZ.mp e;have a:i<arr.toList.length:=by rw[JF];exact b
 rw[YS a,Array.getElem_toList,e]
theorem rT (arr:Array Keyed)(i k:Nat):arr.toList.drop i=(arr.extract i (i+k)).toList++arr.toList.drop (i+k):=by
 rw[ZA,Zb,Nat.add_sub_cancel_left,<- List.drop_drop,W0]
theorem uq (arr:Array Keyed)(i:Nat):(arr.extract i).toList=arr.toList.drop i:=by
 rw[ZA,Zb];exact JM (by rw[YD,JF];exact Jg _)
theorem cut_mem {arr:Array Keyed}{i k:Nat}{x:Keyed}(h:x∈(arr.extract i (i+k)).toList):∃ j,j<k/\arr[i+j]?=some x:=by
 rw[ZA,Zb,Nat.add_sub_cancel_left]at h;obtain⟨j,a⟩:=Zv.mp h
 have b:j<k:=by
  have:=(Jb.mp a).1;rw[Jw]at this;grind
 rw[Zm b,List.getElem?_drop]at a;exact⟨j,b,by rw[<- Y8];exact a⟩
theorem rS {arr:Array Keyed}{i:Nat}{x:Keyed}(h:x∈arr.toList.drop i):∃ j,arr[i+j]?=some x:=by
 obtain⟨j,a⟩:=Zv.mp h;rw[List.getElem?_drop]at a;exact⟨j,by rw[<- Y8];exact a⟩
theorem R_at {arr:Array Keyed}{i:Nat}{p:Keyed}(e:arr[i]?=some p):R rk arr i=rk p:=by unfold R;rw[e]
theorem qE {arr:Array Keyed}(h:Srt rk arr.toList){base n:Nat}(d:base+n<=arr.size):Up rk arr base n:=by
 intro i j f c e;have b:arr[i]?=some arr[i]:=getElem?_pos arr i (by lia);have a:arr[j]?=some arr[j]:=getElem?_pos arr j (by lia);rw[R_at b,R_at a];by_cases z:i=j
 ·subst z;exact Z7 _
 ·have:=List.pairwise_iff_getElem.mp h i j (by rw[JF];grind) (by rw[JF];lia) (by lia)
  simpa using this
theorem tR {arr:Array Keyed}{i:Nat}{p:Keyed}(h:Srt rk arr.toList)(e:arr[i]?=some p):∀ y∈arr.toList.drop i,rk p<=rk y:=by
 have a:Srt rk (arr.toList.drop i):=List.Pairwise.drop h;rw[oO e]at a ⊢;obtain⟨c,_⟩:=List.pairwise_cons.mp a;intro y b;rcases Jr.mp b with rfl|q
 ·exact Z7 _
 ·exact c y q
end
section
variable {rk:Keyed->Int}{T:List Keyed}{out a b:Array Keyed}{ia ib k:Nat}{p:Keyed}
abbrev At (rk:Keyed->Int)(T:List Keyed)(out a b:Array Keyed)(ia ib:Nat):Prop:=Lo rk T out.toList (a.toList.drop ia) (b.toList.drop ib)
theorem At.pushA (h:At rk T out a b ia ib)(e:a[ia]?=some p)(le:∀ y∈b.toList.drop ib,rk p<=rk y):At rk T (out.push p) a b (ia+1) ib:=by
 have d:=h;unfold At at d ⊢;rw[oO e]at d;rw[Zx];exact Lo.take (c:=[p]) d λx g y f=>by rw[Jc.mp g];exact le y f
theorem At.pushB (h:At rk T out a b ia ib)(e:b[ib]?=some p)(le:∀ y∈a.toList.drop ia,rk p<=rk y):At rk T (out.push p) a b ia (ib+1):=(At.pushA (a:=b) (b:=a) h.swap e le).swap
theorem At.cutA (h:At rk T out a b ia ib)(le:∀ j x,j<k->a[ia+j]?=some x->∀ y∈b.toList.drop ib,rk x<=rk y):At rk T (out++a.extract ia (ia+k)) a b (ia+k) ib:=by
 have c:=h;unfold At at c ⊢;rw[rT a ia k]at c;rw[Ya]
 exact Lo.take c λx g y f=>by
  obtain⟨j,d,e⟩:=cut_mem g;exact le j x d e y f
theorem At.cutB (h:At rk T out a b ia ib)(le:∀ j x,j<k->b[ib+j]?=some x->∀ y∈a.toList.drop ia,rk x<=rk y):At rk T (out++b.extract ib (ib+k)) a b ia (ib+k):=(At.cutA (a:=b) (b:=a) h.swap le).swap
theorem At.endB (h:At rk T out a b ia ib)(z:b.size<=ib):(out++a.extract ia++b.extract ib).toList.Perm T/\Srt rk (out++a.extract ia++b.extract ib).toList:=by
 have c:=h;unfold At at c;have e:b.toList.drop ib=[]:=List.drop_eq_nil_iff.mpr (by rw[JF];exact z);rw[e]at c;rw[Ya,Ya,uq,uq,e,JU];exact c.end
theorem At.endA (h:At rk T out a b ia ib)(z:a.size<=ia):(out++a.extract ia++b.extract ib).toList.Perm T/\Srt rk (out++a.extract ia++b.extract ib).toList:=by
 have c:=h.swap;have e:a.toList.drop ia=[]:=List.drop_eq_nil_iff.mpr (by rw[JF];exact z);rw[e]at c;rw[Ya,Ya,uq,uq,e,JU];exact c.end
theorem At.lastA (h:At rk T out a b ia ib)(le:∀ x∈b.toList.drop ib,∀ y∈a.toList.drop ia,rk x<=rk y):(out++b.extract ib++a.extract ia).toList.Perm T/\Srt rk (out++b.extract ib++a.extract ia).toList:=by
 rw[Ya,Ya,uq,uq];exact Lo.lone h le
end
def cv:Array Keyed->Array Keyed->StateT SortSt Sem (Array Keyed):=sortPriv% PySem.Builtin.mergeLo
def aK:Nat->StateT SortSt Sem Unit:=sortPriv% PySem.Builtin.setMinGallop
structure Sm (st st':SortSt):Prop where
 kind:kindOf st'=kindOf st
 arr:arrOf st'=arrOf st
 pend:pendingOf st'=pendingOf st
 fail:failedOf st'=failedOf st
theorem Sm.refl (st:SortSt):Sm st st:=⟨rfl,rfl,rfl,rfl⟩
theorem Sm.trans {a b c:SortSt}(h:Sm a b)(g:Sm b c):Sm a c:=⟨g.kind.trans h.kind,g.arr.trans h.arr,g.pend.trans h.pend,g.fail.trans h.fail⟩
theorem ky {c:Prop}{_:Decidable c}{β α σ:Type}{M:Model}{A:YO}{E:Jo->JO->Prop}{s:JO}{x y:β}{p q:StateT σ Sem α}{f:β->StateT σ Sem α}{Q:α->σ->Prop}{st:σ}(e:∀ z,z=x->p=f z)(e2:q=f y)(h:∀ z,wpS M A E s (f z) Q st):wpS M A E s (if c then p else q) Q st:=by
 rw[e x rfl,e2];split
 ·exact h x
 ·exact h y
theorem oY {c:Prop}{_:Decidable c}{β a α σ:Type}{M:Model}{A:YO}{E:Jo->JO->Prop}{s:JO}{n:β}{o:a}{x y:StateT σ Sem α}{f:β->a->StateT σ Sem α}(R:β->a->Prop){Q:α->σ->Prop}{st:σ}(e:∀ b o',b=n->o'=o->y=f b o')(h1:c->(∀ k o,R k o->wpS M A E s (f k o) Q st)->wpS M A E s x Q st)(d:¬ c->R n o)(h:∀ k o,R k o->wpS M A E s (f k o) Q st):wpS M A E s (if c then x else y) Q st:=by
 rw[e n o rfl rfl];split
 ·next z=>exact h1 z h
 ·next z=>exact h n o (d z)
section
variable {prog:Yo}{w:YI}{A:YO}{E:Jo->JO->Prop}{s:JO}{κ:SortKind}{P:Keyed->Prop}{rk:Keyed->Int}
theorem oD {st:SortSt}{g:Nat}{Q:Unit->SortSt->Prop}(h:∀ st',Sm st st'->Q () st'):wpS (model prog w) A E s (aK g) Q st :=
 Wj (h _ ⟨rfl,rfl,rfl,rfl⟩)
theorem zcm (C:Cmp prog w A s κ P rk){st:SortSt}{a b:Array Keyed}{Q:Array Keyed->SortSt->Prop}(hk:kindOf st=κ)(pa:∀ x∈a.toList,P x)(pb:∀ x∈b.toList,P x)(sa:Srt rk a.toList)(sb:Srt rk b.toList)(a1:1<=a.size)(b1:1<=b.size)(first:∀ x,b[0]?=some x->∀ y∈a.toList,rk x<=rk y)(last:∀ x,a[a.size-1]?=some x->∀ y∈b.toList,rk y<=rk x)(h:∀ r st',Sm st st'->r.toList.Perm (a.toList++b.toList)->Srt rk r.toList->Q r st'):wpS (model prog w) A E s (cv a b) Q st:=by
 have aa:∀ i,i<a.size->∃ x,a[i]?=some x/\P x:=λi hi=>⟨_,getElem?_pos a i hi,pa _ (by simp)⟩;have U:∀ i,i<b.size->∃ x,b[i]?=some x/\P x:=λi hi=>⟨_,getElem?_pos b i hi,pb _ (by simp)⟩;obtain⟨b0,e0,_⟩:=U 0 b1
 have lone:∀ {out:Array Keyed}{d f:Nat},At rk (a.toList++b.toList) out a b d f->d+1=a.size->(out++b.extract f++a.extract d).toList.Perm (a.toList++b.toList)/\Srt rk (out++b.extract f++a.extract d).toList:=λ{out d f} L z=>L.lastA λx hx y hy=>by
  obtain⟨j,ej⟩:=rS hy;have:=(JZ.mp ej).1;exact last y (by rw[show a.size-1=d+j by lia];exact ej) x (W8 hx)
 have L0:At rk (a.toList++b.toList) #[b0] a b 0 1:=by
  have e:=oO e0;rw[ZW]at e;have hb:=sb;unfold Srt at hb;rw[e]at hb;obtain⟨h1,h2⟩:=List.pairwise_cons.mp hb;refine⟨List.pairwise_singleton _ _,by rw[ZW];exact sa,h2,λx hx y hy=>?_,λx hx y hy=>?_,?_⟩
  ·rw[Jc.mp hx];exact first b0 e0 y (W8 hy)
  ·rw[Jc.mp hx];exact h1 y hy
  ·rw[ZW]
   conv=>rhs;rw[e]
   show (b0::(a.toList++b.toList.drop 1)).Perm (a.toList++b0::b.toList.drop 1);exact List.perm_middle.symm
 have size:∀ {out:Array Keyed}{d f:Nat},At rk (a.toList++b.toList) out a b d f->out.size<=a.size+b.size:=λ{out d f} L=>by
  have:=L.pm.length_eq;simp only[Jd,JF]at this;lia
 refine Jt (vF ?_);refine Jt (yH e0 ?_);dsimp -zeta only;by_cases z1:1=b.size
 ·rw[Jm (by simpa using z1)]
  obtain⟨m,l⟩:=L0.endB (by simp_all);exact Jx (h _ _ (Sm.refl _) m l)
 rw[Jf (by simpa using z1)];by_cases z2:0+1=a.size
 ·rw[Jm (by simpa using z2)]
  obtain⟨m,l⟩:=lone L0 z2;exact Jx (h _ _ (Sm.refl _) m l)
 rw[Jf (by simpa using z2)];refine Jt (Wh ?_)
 refine Jt (Za (Yu (I:=λi c p=>Sm st p/\∃ out d f g,c=(none,out,d,f,g)/\At rk (a.toList++b.toList) out a b d f/\d+1<a.size/\f<b.size/\i+1<=out.size)
  (Q:=λc p=>Sm st p/\∃ r x,c=(some r,x)/\r.toList.Perm (a.toList++b.toList)/\Srt rk r.toList) ?step ?fin ⟨Sm.refl _,_,_,_,_,rfl,L0,by lia,by lia,by simp⟩) ?post)
 case post =>
  rintro c p ⟨S1,r,x,rfl,m,l⟩;exact Jx (h _ _ S1 m l)
 case fin =>
  rintro c p ⟨S1,out,d,f,g,rfl,L,_,_,sz⟩;have:=size L;lia
 case step =>
  rintro i c p _ hi ⟨S1,out,d,f,g,rfl,L,F,B,sz⟩;dsimp -zeta only
  refine Jt (Za (Yu (I:=λj c H=>H=p/\∃ out d f ca D,c=(none,out,d,f,ca,D)/\At rk (a.toList++b.toList) out a b d f/\d+1<a.size/\f<b.size/\i+1+j<=out.size)
   (Q:=λc H=>H=p/\((∃ r x,c=(some r,x)/\r.toList.Perm (a.toList++b.toList)/\Srt rk r.toList)\/∃ out d f ca D,c=(none,out,d,f,ca,D)/\At rk (a.toList++b.toList) out a b d f/\d+1<a.size/\f<b.size/\i+2<=out.size)) ?_ ?_ ⟨rfl,_,_,_,_,_,rfl,L,F,B,by omega⟩) ?_)
  ·rintro j c H _ hj ⟨rfl,out,d,f,ca,D,rfl,L,F,B,sz⟩
   dsimp only;obtain⟨x,ex,px⟩:=aa d (by lia);obtain⟨y,S,py⟩:=U f B;refine Jt (yH S (Jt (yH ex (Jt (nq C (S1.kind.trans hk) py px ?_)))));by_cases z:rk y<rk x
   ·rw[JC z]
    dsimp -zeta only;rw[Jm rfl];have Z:=L.pushB S λu X=>ZE (Int.le_of_lt z) (tR sa ex u X);refine Jt (yH S ?_);by_cases R:f+1=b.size
    ·rw[Jm (by simpa using R)]
     obtain⟨m,l⟩:=Z.endB (by simp_all);exact Jx ⟨rfl,.inl ⟨_,_,rfl,m,l⟩⟩
    ·rw[Jf (by simpa using R)]
     by_cases zg:D+1>=g
     ·rw[Jm zg]
      exact Jx ⟨rfl,.inr ⟨_,_,_,_,_,rfl,Z,F,by lia,by rw[Yf];lia⟩⟩
     ·rw[Jf zg]
      exact Jx ⟨rfl,_,_,_,_,_,rfl,Z,F,by lia,by rw[Yf];lia⟩
   ·rw[Js z]
    dsimp only;rw[Jf Jj];have Z:=L.pushA ex λu X=>ZE (by simp_all) (tR sb S u X);refine Jt (yH ex ?_);by_cases R:d+1+1=a.size
    ·rw[Jm (by simpa using R)]
     obtain⟨m,l⟩:=lone Z R;exact Jx ⟨rfl,.inl ⟨_,_,rfl,m,l⟩⟩
    ·rw[Jf (by simpa using R)]
     by_cases zg:ca+1>=g
     ·rw[Jm zg]
      exact Jx ⟨rfl,.inr ⟨_,_,_,_,_,rfl,Z,by lia,B,by rw[Yf];lia⟩⟩
     ·rw[Jf zg]
      exact Jx ⟨rfl,_,_,_,_,_,rfl,Z,by lia,B,by rw[Yf];lia⟩
  ·rintro c H ⟨rfl,out,d,f,ca,D,rfl,L,F,B,sz⟩
   have:=size L;omega
  ·rintro c H ⟨rfl,⟨r,x,rfl,m,l⟩|⟨out,d,f,ca,D,rfl,L,F,B,sz⟩⟩
   ·exact Jx ⟨S1,r,_,rfl,m,l⟩
   dsimp -zeta only;refine Jt (vF ?_)
   refine Jt (Za (Yu (I:=λj c G=>Sm st G/\∃ out d f g ca D,c=(none,out,d,f,g,ca,D)/\At rk (a.toList++b.toList) out a b d f/\d+1<a.size/\f<b.size/\i+2<=out.size)
    (Q:=λc G=>Sm st G/\((∃ r x,c=(some r,x)/\r.toList.Perm (a.toList++b.toList)/\Srt rk r.toList)\/∃ out d f g ca D,c=(none,out,d,f,g,ca,D)/\At rk (a.toList++b.toList) out a b d f/\d+1<a.size/\f<b.size/\i+2<=out.size)) ?_ ?_ ⟨S1,_,_,_,_,_,_,rfl,L,F,B,sz⟩) ?_)
   ·rintro j c G _ hj ⟨S3,out,d,f,g,ca,D,rfl,L,F,B,sz⟩
    dsimp -zeta only;obtain⟨y,S,py⟩:=U f B;refine ky (x:=g-1) (y:=g) (λz hz=>by rw[<- hz]) (by rfl) λg'=>?_;refine Jt (oD λaE q=>?_);have q:=S3.trans q;refine Jt (yH S (Jt (uk C (q.kind.trans hk) py (λt ht=>aa (d+t) (by lia)) (qE sa (by lia)) (by lia) λk a0 g1 g2=>?_)));dsimp -zeta only
    have L1:=L.cutA (k:=k) λt u tk eu v hv=>by
     have:=g1 t tk;rw[R_at eu]at this;unfold bd at this;simp only[Yz,Zy,ZV,Z2]at this;have:=tR sb S v hv;lia
    have hle:∀ u∈a.toList.drop (d+k),rk y<=rk u:=λu X=>by
     obtain⟨t,et⟩:=rS X;have tl:=(JZ.mp et).1;have:=g2 (k+t) (by lia) (by lia);rw[<- Nat.add_assoc,R_at et]at this;unfold bd at this;simp only[Yz,Zy,Bool.not_eq_false',Z1]at this;lia
    have T:i+2<=(out++a.extract d (d+k)).size:=by rw[YF];lia
    refine oY (n:=d) (o:=out) (λK N=>At rk (a.toList++b.toList) N a b K f/\K+1<a.size/\i+2<=N.size/\∀ u∈a.toList.drop K,rk y<=rk u) (λn' o' h1 h2=>by rw[<- h1,<- h2]) (λ_ J=>?_) (λzk=>?_) ?_
    ·by_cases za:d+k+1=a.size
     ·rw[Jm (by simpa using za)]
      obtain⟨m,l⟩:=lone L1 za;exact Jx ⟨q,.inl ⟨_,_,rfl,m,l⟩⟩
     rw[Jf (by simpa using za)];by_cases zc:d+k=a.size
     ·rw[Jm (by simpa using zc)]
      obtain⟨m,l⟩:=L1.endA (by simp_all);exact Jx ⟨q,.inl ⟨_,_,rfl,m,l⟩⟩
     rw[Jf (by simpa using zc)];exact J _ _ ⟨L1,by lia,T,hle⟩
    ·obtain rfl:k=0:=by lia
     exact⟨L,F,sz,hle⟩
    clear g1 g2 hle L1 T a0;rintro K N ⟨L1,la1,T,hle⟩;refine Jt (yH S ?_);have L2:=L1.pushB S hle;by_cases R:f+1=b.size
    ·rw[Jm (by simpa using R)]
     obtain⟨m,l⟩:=L2.endB (by simp_all);exact Jx ⟨q,.inl ⟨_,_,rfl,m,l⟩⟩
    rw[Jf (by simpa using R)];obtain⟨x1,M,aT⟩:=aa _ (Nat.lt_of_succ_lt la1);refine Jt (yH M (Jt (uk C (q.kind.trans hk) aT (λt ht=>U (f+1+t) (by lia)) (qE sb (by lia)) (by lia) λW a4 c1 c2=>?_)));dsimp only
    have L3:=L2.cutB (k:=W) λt u tk eu v hv=>by
     have:=c1 t tk;rw[R_at eu]at this;unfold bd at this;simp only[YU,Z1]at this;have:=tR sa M v hv;lia
    have O:∀ u∈b.toList.drop (f+1+W),rk x1<=rk u:=λu X=>by
     obtain⟨t,et⟩:=rS X;have tl:=(JZ.mp et).1;have:=c2 (W+t) (by lia) (by lia);rw[<- Nat.add_assoc,R_at et]at this;unfold bd at this;simp only[YU,Z2]at this
     simp_all
    have a3:=T;by_cases ab:W > 0
    ·rw[Jm ab]
     by_cases zd:f+1+W=b.size
     ·rw[Jm (by simpa using zd)]
      obtain⟨m,l⟩:=L3.endB (by simp_all);exact Jx ⟨q,.inl ⟨_,_,rfl,m,l⟩⟩
     rw[Jf (by simpa using zd)];have ao:f+1+W<b.size:=by lia
     refine Jt (yH M ?_);have Y:=L3.pushA M O;by_cases V:K+1+1=a.size
     ·rw[Jm (by simpa using V)]
      obtain⟨m,l⟩:=lone Y V;exact Jx ⟨q,.inl ⟨_,_,rfl,m,l⟩⟩
     rw[Jf (by simpa using V)];split
     ·exact Jx ⟨q,.inr ⟨_,_,_,_,_,_,rfl,Y,by lia,ao,by simp only[Yf,YF];lia⟩⟩
     ·exact Jx ⟨q,_,_,_,_,_,_,rfl,Y,by lia,ao,by simp only[Yf,YF];lia⟩
    ·rw[Jf ab]
     obtain rfl:W=0:=by simp_all
     rw[Nat.add_zero]at O;refine Jt (yH M ?_);have Y:=L2.pushA M O;by_cases V:K+1+1=a.size
     ·rw[Jm (by simpa using V)]
      obtain⟨m,l⟩:=lone Y V;exact Jx ⟨q,.inl ⟨_,_,rfl,m,l⟩⟩
     rw[Jf (by simpa using V)];split
     ·exact Jx ⟨q,.inr ⟨_,_,_,_,_,_,rfl,Y,by lia,by lia,by simp only[Yf,YF];lia⟩⟩
     ·exact Jx ⟨q,_,_,_,_,_,_,rfl,Y,by lia,by lia,by simp only[Yf,YF];lia⟩
   ·rintro c G ⟨S3,out,d,f,g,ca,D,rfl,L,F,B,sz⟩
    exact⟨S3,.inr ⟨_,_,_,_,_,_,rfl,L,F,B,sz⟩⟩
   ·rintro c G ⟨S3,⟨r,x,rfl,m,l⟩|⟨out,d,f,g,ca,D,rfl,L,F,B,sz⟩⟩
    ·exact Jx ⟨S3,r,_,rfl,m,l⟩
    dsimp only;refine Jt (oD λaE q=>?_);exact Jx ⟨S3.trans q,_,_,_,_,rfl,L,F,B,by omega⟩
end
def cw:Array Keyed->Array Keyed->StateT SortSt Sem (Array Keyed):=sortPriv% PySem.Builtin.mergeHi
structure Hi (rk:Keyed->Int) (T a b out:List Keyed):Prop where
 sa:Srt rk a
 sb:Srt rk b
 so:Srt rk out
 ao:∀ x∈a,∀ y∈out,rk x<=rk y
 bo:∀ x∈b,∀ y∈out,rk x<=rk y
 pm:(a++b++out).Perm T
section
variable {rk:Keyed->Int}{T out a b c:List Keyed}
theorem Hi.swap (h:Hi rk T a b out):Hi rk T b a out:=⟨h.sb,h.sa,h.so,h.bo,h.ao,((W5 (l₁:=b) (l₂:=a)).append_right out).trans h.pm⟩
theorem Hi.take (h:Hi rk T (a++c) b out)(le:∀ x∈b,∀ y∈c,rk x<=rk y):Hi rk T a b (c++out):=by
 obtain⟨i,g,f⟩:=Ym.mp h.sa;refine⟨i,h.sb,Ym.mpr ⟨g,h.so,λx d y e=>h.ao x (Jz _ d) y e⟩,λx d y e=>?_,λx d y e=>?_,?_⟩
 ·rcases Jv.mp e with q|q
  ·exact f x d y q
  ·exact h.ao x (Yc _ d) y q
 ·rcases Jv.mp e with q|q
  ·exact le x d y q
  ·exact h.bo x d y q
 ·refine List.Perm.trans ?_ h.pm
  rw[<- JT];refine List.Perm.append_right out ?_;rw[JT,JT];exact List.Perm.append_left a W5
theorem Hi.end (h:Hi rk T [] b out):(b++out).Perm T/\Srt rk (b++out):=⟨h.pm,Ym.mpr ⟨h.sb,h.so,h.bo⟩⟩
theorem Hi.lone (h:Hi rk T a b out)(le:∀ x∈b,∀ y∈a,rk x<=rk y):(b++a++out).Perm T/\Srt rk (b++a++out):=by
 refine⟨((W5 (l₁:=b) (l₂:=a)).append_right out).trans h.pm,Ym.mpr ⟨Ym.mpr ⟨h.sb,h.sa,le⟩,h.so,λx d y c=>?_⟩⟩;rcases Jv.mp d with q|q
 ·exact h.bo x q y c
 ·exact h.ao x q y c
theorem aD {arr:Array Keyed}{n:Nat}{p:Keyed}(h1:1<=n)(e:arr[n-1]?=some p):arr.toList.take n=arr.toList.take (n-1)++[p]:=by
 obtain⟨b,e⟩:=JZ.mp e;have a:n-1<arr.toList.length:=by rw[JF];exact b
 have:=Yh a;rw[Nat.sub_add_cancel h1,Array.getElem_toList,e]at this;exact this
theorem fi (arr:Array Keyed){i n:Nat}(h:i<=n):arr.toList.take n=arr.toList.take i++(arr.extract i n).toList:=by
 rw[ZA,Zb];have:=List.take_add (l:=arr.toList) (i:=i) (j:=n-i);rw[show i+(n-i)=n by simp_all]at this;exact this
theorem vc (arr:Array Keyed)(n:Nat):(arr.extract 0 n).toList=arr.toList.take n:=by
 rw[ZA,Zb,ZW,Nat.sub_zero]
theorem vd {arr:Array Keyed}{i n:Nat}{x:Keyed}(h:x∈(arr.extract i n).toList):∃ j,i<=j/\j<n/\arr[j]?=some x:=by
 rw[ZA,Zb]at h;obtain⟨j,a⟩:=Zv.mp h
 have b:j<n-i:=by
  have:=(Jb.mp a).1;rw[Jw]at this;grind
 rw[Zm b,List.getElem?_drop]at a;exact⟨i+j,by lia,by omega,by rw[<- Y8];exact a⟩
theorem vn {arr:Array Keyed}{n:Nat}{x:Keyed}(h:x∈arr.toList.take n):∃ j,j<n/\arr[j]?=some x:=by
 obtain⟨j,a⟩:=Zv.mp h
 have b:j<n:=by
  have:=(Jb.mp a).1;rw[Jw]at this;grind
 rw[Zm b]at a;exact⟨j,b,by rw[<- Y8];exact a⟩
theorem uV {arr:Array Keyed}{n:Nat}{p:Keyed}(h:Srt rk arr.toList)(h1:1<=n)(e:arr[n-1]?=some p):∀ y∈arr.toList.take n,rk y<=rk p:=by
 intro y a;obtain⟨j,c,b⟩:=vn a;have d:=(JZ.mp e).1;have:=qE h (base:=0) (n:=n) (by lia) j (n-1) (JL _) (by lia) (by lia);rw[R_at b,R_at e]at this;exact this
end
section
variable {rk:Keyed->Int}{T:List Keyed}{out a b:Array Keyed}{na nb i:Nat}{p:Keyed}
abbrev Bt (rk:Keyed->Int)(T:List Keyed)(a b out:Array Keyed)(na nb:Nat):Prop:=Hi rk T (a.toList.take na) (b.toList.take nb) out.toList.reverse
theorem Bt.pushA (h:Bt rk T a b out na nb)(h1:1<=na)(e:a[na-1]?=some p)(le:∀ x∈b.toList.take nb,rk x<=rk p):Bt rk T a b (out.push p) (na-1) nb:=by
 have d:=h;unfold Bt at d ⊢;rw[aD h1 e]at d;rw[Zx,List.reverse_append];exact Hi.take (c:=[p]) d λx g y f=>by rw[Jc.mp f];exact le x g
theorem Bt.pushB (h:Bt rk T a b out na nb)(h1:1<=nb)(e:b[nb-1]?=some p)(le:∀ x∈a.toList.take na,rk x<=rk p):Bt rk T a b (out.push p) na (nb-1):=(Bt.pushA (a:=b) (b:=a) h.swap h1 e le).swap
theorem Bt.cutA (h:Bt rk T a b out na nb)(hi:i<=na)(le:∀ j x,i<=j->j<na->a[j]?=some x->∀ y∈b.toList.take nb,rk y<=rk x):Bt rk T a b (out++(a.extract i na).reverse) i nb:=by
 have c:=h;unfold Bt at c ⊢;rw[fi a hi]at c;rw[Ya,List.reverse_append,Array.toList_reverse,List.reverse_reverse]
 exact Hi.take c λy g x k=>by
  obtain⟨j,f,d,e⟩:=vd k;exact le j x f d e y g
theorem Bt.cutB (h:Bt rk T a b out na nb)(hi:i<=nb)(le:∀ j x,i<=j->j<nb->b[j]?=some x->∀ y∈a.toList.take na,rk y<=rk x):Bt rk T a b (out++(b.extract i nb).reverse) na i:=(Bt.cutA (a:=b) (b:=a) h.swap hi le).swap
theorem Bt.endA (h:Bt rk T a b out 0 nb):(a.extract 0 0++b.extract 0 nb++out.reverse).toList.Perm T/\Srt rk (a.extract 0 0++b.extract 0 nb++out.reverse).toList:=by
 rw[Ya,Ya,vc,vc,ZX,ZK,Array.toList_reverse];exact Hi.end h
theorem Bt.endB (h:Bt rk T a b out na 0):(a.extract 0 na++b.extract 0 0++out.reverse).toList.Perm T/\Srt rk (a.extract 0 na++b.extract 0 0++out.reverse).toList:=by
 rw[Ya,Ya,vc,vc,ZX,JU,Array.toList_reverse];exact Hi.end h.swap
theorem Bt.lone (h:Bt rk T a b out na nb)(le:∀ x∈b.toList.take nb,∀ y∈a.toList.take na,rk x<=rk y):(b.extract 0 nb++a.extract 0 na++out.reverse).toList.Perm T/\Srt rk (b.extract 0 nb++a.extract 0 na++out.reverse).toList:=by
 rw[Ya,Ya,vc,vc,Array.toList_reverse];exact Hi.lone h le
end
section
variable {prog:Yo}{w:YI}{A:YO}{E:Jo->JO->Prop}{s:JO}{κ:SortKind}{P:Keyed->Prop}{rk:Keyed->Int}
theorem zct (C:Cmp prog w A s κ P rk){st:SortSt}{a b:Array Keyed}{Q:Array Keyed->SortSt->Prop}(hk:kindOf st=κ)(pa:∀ x∈a.toList,P x)(pb:∀ x∈b.toList,P x)(sa:Srt rk a.toList)(sb:Srt rk b.toList)(a1:1<=a.size)(b1:1<=b.size)(first:∀ x,b[0]?=some x->∀ y∈a.toList,rk x<=rk y)(last:∀ x,a[a.size-1]?=some x->∀ y∈b.toList,rk y<=rk x)(h:∀ r st',Sm st st'->r.toList.Perm (a.toList++b.toList)->Srt rk r.toList->Q r st'):wpS (model prog w) A E s (cw a b) Q st:=by
 have S:∀ i,i<a.size->∃ x,a[i]?=some x/\P x:=λi hi=>⟨_,getElem?_pos a i hi,pa _ (by simp)⟩;have Y:∀ i,i<b.size->∃ x,b[i]?=some x/\P x:=λi hi=>⟨_,getElem?_pos b i hi,pb _ (by simp)⟩;obtain⟨z0,e0,_⟩:=S (a.size-1) (by lia)
 have lone:∀ {out:Array Keyed}{na:Nat},Bt rk (a.toList++b.toList) a b out na 1->(b.extract 0 1++a.extract 0 na++out.reverse).toList.Perm (a.toList++b.toList)/\Srt rk (b.extract 0 1++a.extract 0 na++out.reverse).toList:=λ{out na} L=>L.lone λx hx y hy=>by
  obtain⟨j,j1,ej⟩:=vn hx;exact first x (by rw[show 0=j by simp_all];exact ej) y (YW hy)
 have L0:Bt rk (a.toList++b.toList) a b #[z0] (a.size-1) b.size:=by
  have w0:Bt rk (a.toList++b.toList) a b #[] a.size b.size:=by
   have e1:a.toList.take a.size=a.toList:=JM (by rw[JF];exact Jg _);have e2:b.toList.take b.size=b.toList:=JM (by rw[JF];exact Jg _);unfold Bt;rw[e1,e2];exact⟨sa,sb,List.Pairwise.nil,λx hx y hy=>by simp at hy,λx hx y hy=>by simp at hy,by simp⟩
  exact w0.pushA a1 e0 λx hx=>last z0 e0 x (YW hx)
 have size:∀ {out:Array Keyed}{na nb:Nat},Bt rk (a.toList++b.toList) a b out na nb->out.size<=a.size+b.size:=λ{out na nb} L=>by
  have:=L.pm.length_eq;simp only[Jd,List.length_reverse,JF]at this;lia
 refine Jt (vF ?_);refine Jt (yH e0 ?_);dsimp -zeta only;by_cases z1:a.size-1=0
 ·rw[Jm (by simpa using z1)]
  rw[z1]at L0 ⊢;obtain⟨f,e⟩:=L0.endA;exact Jx (h _ _ (Sm.refl _) f e)
 rw[Jf (by simpa using z1)];by_cases z2:b.size=1
 ·rw[Jm (by simpa using z2)]
  rw[z2]at L0 ⊢;obtain⟨f,e⟩:=lone L0;exact Jx (h _ _ (Sm.refl _) f e)
 rw[Jf (by simpa using z2)];refine Jt (Wh ?_)
 refine Jt (Za (Yu (I:=λi c m=>Sm st m/\∃ na nb out g,c=(none,na,nb,out,g)/\Bt rk (a.toList++b.toList) a b out na nb/\1<=na/\na<=a.size/\2<=nb/\nb<=b.size/\i+1<=out.size)
  (Q:=λc m=>Sm st m/\∃ r x,c=(some r,x)/\r.toList.Perm (a.toList++b.toList)/\Srt rk r.toList) ?step ?fin ⟨Sm.refl _,_,_,_,_,rfl,L0,by lia,by simp_all,by lia,by lia,by simp⟩) ?post)
 case post =>
  rintro c m ⟨S1,r,x,rfl,f,e⟩;exact Jx (h _ _ S1 f e)
 case fin =>
  rintro c m ⟨S1,na,nb,out,g,rfl,L,_,_,_,_,sz⟩;have:=size L;lia
 case step =>
  rintro i c m _ hi ⟨S1,na,nb,out,g,rfl,L,q,d,H,l,sz⟩;dsimp -zeta only
  refine Jt (Za (Yu (I:=λj c F=>F=m/\∃ na nb out ca B,c=(none,na,nb,out,ca,B)/\Bt rk (a.toList++b.toList) a b out na nb/\1<=na/\na<=a.size/\2<=nb/\nb<=b.size/\i+1+j<=out.size)
   (Q:=λc F=>F=m/\((∃ r x,c=(some r,x)/\r.toList.Perm (a.toList++b.toList)/\Srt rk r.toList)\/∃ na nb out ca B,c=(none,na,nb,out,ca,B)/\Bt rk (a.toList++b.toList) a b out na nb/\1<=na/\na<=a.size/\2<=nb/\nb<=b.size/\i+2<=out.size)) ?_ ?_ ⟨rfl,_,_,_,_,_,rfl,L,q,d,H,l,by omega⟩) ?_)
  ·rintro j c F _ hj ⟨rfl,na,nb,out,ca,B,rfl,L,q,d,H,l,sz⟩
   dsimp only;obtain⟨x,ex,px⟩:=S (na-1) (by lia);obtain⟨y,N,py⟩:=Y (nb-1) (by lia);refine Jt (yH N (Jt (yH ex (Jt (nq C (S1.kind.trans hk) py px ?_)))));by_cases z:rk y<rk x
   ·rw[JC z]
    dsimp -zeta only;rw[Jm rfl];have R:=L.pushA q ex λu W=>ZE (uV sb (by lia) N u W) (Int.le_of_lt z);refine Jt (yH ex ?_);by_cases K:na-1=0
    ·rw[Jm (by simpa using K)]
     rw[K]at R ⊢;obtain⟨f,e⟩:=R.endA;exact Jx ⟨rfl,.inl ⟨_,_,rfl,f,e⟩⟩
    ·rw[Jf (by simpa using K)]
     by_cases zg:ca+1>=g
     ·rw[Jm zg]
      exact Jx ⟨rfl,.inr ⟨_,_,_,_,_,rfl,R,by lia,by lia,H,l,by rw[Yf];lia⟩⟩
     ·rw[Jf zg]
      exact Jx ⟨rfl,_,_,_,_,_,rfl,R,by lia,by grind,H,l,by rw[Yf];lia⟩
   ·rw[Js z]
    dsimp only;rw[Jf Jj];have R:=L.pushB (by lia) N λu W=>ZE (uV sa q ex u W) (by simp_all);refine Jt (yH N ?_);by_cases K:nb-1=1
    ·rw[Jm (by simpa using K)]
     rw[K]at R ⊢;obtain⟨f,e⟩:=lone R;exact Jx ⟨rfl,.inl ⟨_,_,rfl,f,e⟩⟩
    ·rw[Jf (by simpa using K)]
     by_cases zg:B+1>=g
     ·rw[Jm zg]
      exact Jx ⟨rfl,.inr ⟨_,_,_,_,_,rfl,R,q,d,by lia,by lia,by rw[Yf];lia⟩⟩
     ·rw[Jf zg]
      exact Jx ⟨rfl,_,_,_,_,_,rfl,R,q,d,by lia,by grind,by rw[Yf];lia⟩
  ·rintro c F ⟨rfl,na,nb,out,ca,B,rfl,L,q,d,H,l,sz⟩
   have:=size L;omega
  ·rintro c F ⟨rfl,⟨r,x,rfl,f,e⟩|⟨na,nb,out,ca,B,rfl,L,q,d,H,l,sz⟩⟩
   ·exact Jx ⟨S1,r,_,rfl,f,e⟩
   dsimp -zeta only;refine Jt (vF ?_)
   refine Jt (Za (Yu (I:=λj c D=>Sm st D/\∃ na nb out g ca B,c=(none,na,nb,out,g,ca,B)/\Bt rk (a.toList++b.toList) a b out na nb/\1<=na/\na<=a.size/\2<=nb/\nb<=b.size/\i+2<=out.size)
    (Q:=λc D=>Sm st D/\((∃ r x,c=(some r,x)/\r.toList.Perm (a.toList++b.toList)/\Srt rk r.toList)\/∃ na nb out g ca B,c=(none,na,nb,out,g,ca,B)/\Bt rk (a.toList++b.toList) a b out na nb/\1<=na/\na<=a.size/\2<=nb/\nb<=b.size/\i+2<=out.size)) ?_ ?_ ⟨S1,_,_,_,_,_,_,rfl,L,q,d,H,l,sz⟩) ?_)
   ·rintro j c D _ hj ⟨S3,na,nb,out,g,ca,B,rfl,L,q,d,H,l,sz⟩
    dsimp -zeta only;obtain⟨y,N,py⟩:=Y (nb-1) (by lia);refine ky (x:=g-1) (y:=g) (λz hz=>by rw[<- hz]) (by rfl) λg'=>?_;refine Jt (oD λao p=>?_);have p:=S3.trans p;refine Jt (yH N (Jt (uk C (p.kind.trans hk) py (λt ht=>S (0+t) (by lia)) (qE sa (by simp_all)) (by lia) λk ab g1 g2=>?_)));dsimp -zeta only
    have L1:=L.cutA (i:=k) ab λt u V tn eu v hv=>by
     have:=g2 t V tn;rw[Zh,R_at eu]at this;unfold bd at this;simp only[Yz,Zy,Bool.not_eq_false',Z1]at this;have:=uV sb (by lia) N v hv;lia
    have hle:∀ u∈a.toList.take k,rk u<=rk y:=λu W=>by
     obtain⟨t,V,et⟩:=vn W;have:=g1 t V;rw[Zh,R_at et]at this;unfold bd at this;simp only[Yz,Zy,ZV,Z2]at this
     simp_all
    have X:i+2<=(out++(a.extract k na).reverse).size:=by rw[YF];lia
    generalize ek:na-k=kk;refine oY (n:=na) (o:=out) (λk M=>Bt rk (a.toList++b.toList) a b M k nb/\1<=k/\k<=a.size/\i+2<=M.size/\∀ u∈a.toList.take k,rk u<=rk y) (λn' o' h1 h2=>by rw[<- h1,<- h2]) (λ_ J=>?_) (λzk=>?_) ?_
    ·by_cases zc:k=0
     ·rw[Jm (by simpa using zc)]
      subst zc;obtain⟨f,e⟩:=L1.endA;exact Jx ⟨p,.inl ⟨_,_,rfl,f,e⟩⟩
     rw[Jf (by simpa using zc)];exact J _ _ ⟨L1,by lia,by lia,X,hle⟩
    ·obtain rfl:k=na:=by lia
     exact⟨L,q,d,sz,hle⟩
    clear g1 g2 hle L1 X ek ab;rintro k M ⟨L1,ka,a0,X,hle⟩;refine Jt (yH N ?_);have L2:=L1.pushB (by lia) N hle;by_cases K:nb-1=1
    ·rw[Jm (by simpa using K)]
     rw[K]at L2 ⊢;obtain⟨f,e⟩:=lone L2;exact Jx ⟨p,.inl ⟨_,_,rfl,f,e⟩⟩
    rw[Jf (by simpa using K)];obtain⟨x1,G,aE⟩:=S (k-1) (by lia);refine Jt (yH G (Jt (uk C (p.kind.trans hk) aE (λt ht=>Y (0+t) (by lia)) (qE sb (by lia)) (by lia) λZ aT c1 c2=>?_)));dsimp only
    have L3:=L2.cutB (i:=Z) aT λt u V tn eu v hv=>by
     have:=c2 t V tn;rw[Zh,R_at eu]at this;unfold bd at this;simp only[YU,Z2]at this;have:=uV sa ka G v hv;lia
    have T:∀ u∈b.toList.take Z,rk u<=rk x1:=λu W=>by
     obtain⟨t,V,et⟩:=vn W;have:=c1 t V;rw[Zh,R_at et]at this;unfold bd at this;simp only[YU,Z1]at this;lia
    by_cases aa:nb-1-Z > 0
    ·rw[Jm aa]
     by_cases zd:Z=1
     ·rw[Jm (by simpa using zd)]
      subst zd;obtain⟨f,e⟩:=lone L3;exact Jx ⟨p,.inl ⟨_,_,rfl,f,e⟩⟩
     rw[Jf (by simpa using zd)];by_cases zf:Z=0
     ·rw[Jm (by simpa using zf)]
      subst zf;obtain⟨f,e⟩:=L3.endB;exact Jx ⟨p,.inl ⟨_,_,rfl,f,e⟩⟩
     rw[Jf (by simpa using zf)];refine Jt (yH G ?_);have O:=L3.pushA ka G T;by_cases U:k-1=0
     ·rw[Jm (by simpa using U)]
      rw[U]at O ⊢;obtain⟨f,e⟩:=O.endA;exact Jx ⟨p,.inl ⟨_,_,rfl,f,e⟩⟩
     rw[Jf (by simpa using U)];split
     ·exact Jx ⟨p,.inr ⟨_,_,_,_,_,_,rfl,O,by lia,by lia,by lia,by lia,by simp only[Yf,YF];lia⟩⟩
     ·exact Jx ⟨p,_,_,_,_,_,_,rfl,O,by lia,by lia,by lia,by lia,by simp only[Yf,YF];lia⟩
    ·rw[Jf aa]
     obtain rfl:Z=nb-1:=by lia
     refine Jt (yH G ?_);have O:=L2.pushA ka G T;by_cases U:k-1=0
     ·rw[Jm (by simpa using U)]
      rw[U]at O ⊢;obtain⟨f,e⟩:=O.endA;exact Jx ⟨p,.inl ⟨_,_,rfl,f,e⟩⟩
     rw[Jf (by simpa using U)];split
     ·exact Jx ⟨p,.inr ⟨_,_,_,_,_,_,rfl,O,by lia,by lia,by lia,by lia,by simp only[Yf,YF];lia⟩⟩
     ·exact Jx ⟨p,_,_,_,_,_,_,rfl,O,by lia,by lia,by lia,by lia,by simp only[Yf,YF];lia⟩
   ·rintro c D ⟨S3,na,nb,out,g,ca,B,rfl,L,q,d,H,l,sz⟩
    exact⟨S3,.inr ⟨_,_,_,_,_,_,rfl,L,q,d,H,l,sz⟩⟩
   ·rintro c D ⟨S3,⟨r,x,rfl,f,e⟩|⟨na,nb,out,g,ca,B,rfl,L,q,d,H,l,sz⟩⟩
    ·exact Jx ⟨S3,r,_,rfl,f,e⟩
    dsimp only;refine Jt (oD λao p=>?_);exact Jx ⟨S3.trans p,_,_,_,_,rfl,L,q,d,H,l,by omega⟩
end
section
variable {rk:Keyed->Int}
theorem tW (b:Nat):∀ (l:List Keyed) (o:Nat) (arr:Array Keyed),b+o+l.length<=arr.size->(List.foldl (λ(a:Array Keyed) (x:Keyed × Nat)=>a.setIfInBounds (b+x.2) x.1) arr (l.zipIdx o)).toList=arr.toList.take (b+o)++l++arr.toList.drop (b+o+l.length)
 | [],o,arr,_=>by
  show arr.toList=_
  rw[JU,Ye,Nat.add_zero,W0]
 | x::l,o,arr,h=>by
  rw[JW]at h;rw[List.zipIdx_cons,List.foldl_cons,tW b l (o+1) _ (by rw[Array.size_setIfInBounds];lia)];have c:b+o<arr.toList.length:=by rw[JF];lia
  rw[Array.toList_setIfInBounds,<- Nat.add_assoc,List.drop_set_of_lt (by lia),JW,show b+o+1+l.length=b+o+(l.length+1) by lia]
  have e:(arr.toList.set (b+o) x).take (b+o+1)=arr.toList.take (b+o)++[x]:=by
   rw[Yh (by rw[Z4];exact c),List.getElem_set_self,List.take_set_of_le (Jg _)]
  rw[e,JT (arr.toList.take (b+o)) [x] l];rfl
theorem j5 {arr:Array Keyed}{i n j:Nat}(h:i+j<n)(a:n<=arr.size):(arr.extract i n)[j]?=arr[i+j]?:=by
 rw[Array.getElem?_extract_of_lt (by lia)];exact(getElem?_pos arr (i+j) (by lia)).symm
theorem mt {arr:Array Keyed}{lo n:Nat}(h:Up rk arr lo n)(e:lo+n<=arr.size):Srt rk (arr.extract lo (lo+n)).toList:=by
 refine List.pairwise_iff_getElem.mpr λi j c b d=>?_;have a:(arr.extract lo (lo+n)).size=n:=by rw[Array.size_extract];simp_all
 rw[JF,a]at c b;have:=h (lo+i) (lo+j) (by lia) (by lia) (by simp_all);rw[R_at (getElem?_pos arr (lo+i) (by lia)),R_at (getElem?_pos arr (lo+j) (by lia))]at this;simpa using this
end
section
variable {prog:Yo}{w:YI}{A:YO}{E:Jo->JO->Prop}{s:JO}{κ:SortKind}{P:Keyed->Prop}{rk:Keyed->Int}{a₀:Array Keyed}
theorem zcy (C:Cmp prog w A s κ P rk){st:SortSt}{Q:Bool->SortSt->Prop}{i sa na p sb nb q:Nat}(D:Bs κ P a₀ st)(e1:(pendingOf st)[i]?=some (sa,na,p))(e2:(pendingOf st)[i+1]?=some (sb,nb,q))(hs:sb=sa+na)(n1:1<=na)(n2:1<=nb)(hz:sb+nb<=a₀.size)(K:Up rk (arrOf st) sa na)(J:Up rk (arrOf st) sb nb)(h:∀ st',Bs κ P a₀ st'->pendingOf st'=((pendingOf st).setIfInBounds i (sa,na+nb,p)).eraseIdxIfInBounds (i+1)->(∀ k,k<sa\/sb+nb<=k->R rk (arrOf st') k=R rk (arrOf st) k)->Up rk (arrOf st') sa (na+nb)->Q true st'):wpS (model prog w) A E s (mergeAt' i) Q st:=by
 refine Jt (Wh ?_);dsimp only;rw[e1,e2];dsimp only;obtain⟨b0,X,aT,ao⟩:=D.at (i:=sb) (by lia) rk;have sz:=D.size
 have Z:∀ {c st2:SortSt}{Q':PUnit->SortSt->Prop},Q' ⟨⟩ st2->wpS (model prog w) A E s (set st2:StateT SortSt Sem PUnit) Q' c:=λ{c st2 Q'} hq=>by
  unfold wpS;rw[StateT.run_set];exact J9 ⟨rfl,hq⟩
 refine Jt (Z (st2:=SortSt.mk' (kindOf st) (arrOf st) (((pendingOf st).setIfInBounds i (sa,na+nb,p)).eraseIdxIfInBounds (i+1)) (gallopOf st) (failedOf st)) ?_);generalize M:SortSt.mk' (kindOf st) (arrOf st) (((pendingOf st).setIfInBounds i (sa,na+nb,p)).eraseIdxIfInBounds (i+1)) (gallopOf st) (failedOf st)=c;have d:Bs κ P a₀ c:=by rw[<- M];exact⟨D.kind,D.fail,D.perm,D.all⟩
 have U:arrOf c=arrOf st:=by rw[<- M]
 have ep:pendingOf c=((pendingOf st).setIfInBounds i (sa,na+nb,p)).eraseIdxIfInBounds (i+1):=by rw[<- M]
 have pat:∀ j,j<a₀.size->∃ x,(arrOf st)[j]?=some x/\P x:=λj B=>by
  obtain⟨x,ex,px,_⟩:=D.at B rk;exact⟨x,ex,px⟩
 refine Jt (yH X (Jt (uk (arr:=arrOf st) C d.kind aT (λt S=>pat (sa+t) (by lia)) K (by lia) λk a4 g1 g2=>?_)));dsimp only
 have f1:∀ j,sa<=j->j<sa+k->R rk (arrOf st) j<=rk b0:=λj l o=>by
  have:=g1 (j-sa) (by lia);rw[show sa+(j-sa)=j by simp_all]at this;unfold bd at this;simp only[Yz,Zy,ZV,Z2]at this
  simp_all
 have f2:∀ j,sa+k<=j->j<sb->rk b0<=R rk (arrOf st) j:=λj l o=>by
  have:=g2 (j-sa) (by lia) (by lia);rw[show sa+(j-sa)=j by lia]at this;unfold bd at this;simp only[Yz,Zy,Bool.not_eq_false',Z1]at this;lia
 have f0:∀ j,sb<=j->j<sb+nb->rk b0<=R rk (arrOf st) j:=λj l o=>by rw[<- ao];exact J _ _ (Jg _) l o
 by_cases zk:na-k=0
 ·rw[Jm (by simpa using zk)]
  refine Jx (h c d ep (λj _=>by rw[U]) λx y g b I=>?_);rw[U];by_cases q1:y<sb
  ·exact K _ _ g b (by simp_all)
  ·by_cases q2:sb<=x
   ·exact J _ _ q2 b (by lia)
   ·exact ZE (f1 x g (by lia)) (f0 y (by simp_all) (by lia))
 rw[Jf (by simpa using zk)];have ka:sa+k+(na-k)-1=sb-1:=by lia
 rw[ka];obtain⟨l0,V,aE,ab⟩:=D.at (i:=sb-1) (by lia) rk;refine Jt (yH V (Jt (uk (arr:=arrOf st) C d.kind aE (λt S=>pat (sb+t) (by lia)) J (by lia) λn a3 c1 c2=>?_)));dsimp only
 have f3:∀ j,sb<=j->j<sb+n->R rk (arrOf st) j<=rk l0:=λj l o=>by
  have:=c1 (j-sb) (by grind);rw[show sb+(j-sb)=j by simp_all]at this;unfold bd at this;simp only[YU,Z1]at this;lia
 have f4:∀ j,sb+n<=j->j<sb+nb->rk l0<=R rk (arrOf st) j:=λj l o=>by
  have:=c2 (j-sb) (by lia) (by lia);rw[show sb+(j-sb)=j by lia]at this;unfold bd at this;simp only[YU,Z2]at this
  simp_all
 have f5:∀ j,sa<=j->j<sb->R rk (arrOf st) j<=rk l0:=λj l o=>by rw[<- ab];exact K _ _ l (by lia) (by lia)
 by_cases zn:n=0
 ·rw[Jm (by simpa using zn)]
  refine Jx (h c d ep (λj _=>by rw[U]) λx y g b I=>?_);rw[U];by_cases q1:y<sb
  ·exact K _ _ g b (by simp_all)
  ·by_cases q2:sb<=x
   ·exact J _ _ q2 b (by lia)
   ·exact ZE (f5 x g (by simp_all)) (f4 y (by simp_all) (by lia))
 rw[Jf (by simpa using zn)];have sx:((arrOf st).extract (sa+k) sb).size=na-k:=by rw[Array.size_extract];lia
 have sy:((arrOf st).extract sb (sb+n)).size=n:=by rw[Array.size_extract];lia
 have px:∀ x∈((arrOf st).extract (sa+k) sb).toList,P x:=λx g=>by
  obtain⟨j,l,o,L⟩:=vd g;obtain⟨y,T,py⟩:=pat j (by lia);rw[L]at T;cases T;exact py
 have py:∀ x∈((arrOf st).extract sb (sb+n)).toList,P x:=λx g=>by
  obtain⟨j,l,o,L⟩:=vd g;obtain⟨y,T,py⟩:=pat j (by lia);rw[L]at T;cases T;exact py
 have ox:Srt rk ((arrOf st).extract (sa+k) sb).toList:=by
  have:=mt (rk:=rk) (arr:=arrOf st) (lo:=sa+k) (n:=na-k) (λx y g b I=>K x y (by lia) b (by grind)) (by lia)
  rwa [show sa+k+(na-k)=sb by grind]at this
 have oy:Srt rk ((arrOf st).extract sb (sb+n)).toList:=mt (λx y g b I=>J x y (by omega) b (by lia)) (by lia)
 have first:∀ x,((arrOf st).extract sb (sb+n))[0]?=some x->∀ y∈((arrOf st).extract (sa+k) sb).toList,rk x<=rk y:=λx ex y I=>by
  rw[j5 (by lia) (by lia),Nat.add_zero,X]at ex;obtain⟨j,l,o,L⟩:=vd I;have:=f2 j l o;rw[R_at L]at this;cases ex;exact this
 have last:∀ x,((arrOf st).extract (sa+k) sb)[((arrOf st).extract (sa+k) sb).size-1]?=some x->∀ y∈((arrOf st).extract sb (sb+n)).toList,rk y<=rk x:=λx ex y I=>by
  rw[sx,j5 (by grind) (by lia),show sa+k+(na-k-1)=sb-1 by lia,V]at ex;obtain⟨j,l,o,L⟩:=vd I;have:=f3 j l (by omega);rw[R_at L]at this;cases ex;exact this
 have fin:∀ (m:Array Keyed) (st2:SortSt),Sm c st2->m.toList.Perm (((arrOf st).extract (sa+k) sb).toList++((arrOf st).extract sb (sb+n)).toList)->Srt rk m.toList ->
   wpS (model prog w) A E s (do
    modify λs=>setArr s (m.toList.zipIdx.foldl (λ(a:Array Keyed) (x:Keyed × Nat)=>a.setIfInBounds (sa+k+x.2) x.1) (arrOf s))
    let s' <- get
    pure (failedOf s').isNone) Q st2:=by
  intro m st2 G pm O;have Y:arrOf st2=arrOf st:=G.arr.trans U;have N:m.toList.length=na-k+n:=by rw[pm.length_eq,Jd,JF,JF,sx,sy]
  have wl:=tW (sa+k) m.toList 0 (arrOf st2) (by rw[Y,sz,N];grind);generalize hW:List.foldl (λ(a:Array Keyed) (x:Keyed × Nat)=>a.setIfInBounds (sa+k+x.2) x.1) (arrOf st2) m.toList.zipIdx=W at wl;rw[Nat.add_zero,N,Y,show sa+k+(na-k+n)=sb+n by grind]at wl
  have aa:(arrOf st).toList=(arrOf st).toList.take (sa+k)++(((arrOf st).extract (sa+k) sb).toList++((arrOf st).extract sb (sb+n)).toList)++(arrOf st).toList.drop (sb+n):=by
   have d1:=rT (arrOf st) (sa+k) (na-k);rw[show sa+k+(na-k)=sb by lia]at d1;have d2:=rT (arrOf st) sb n;rw[JT,JT,<- d2,<- d1,W0]
  have pw:W.Perm (arrOf st):=by
   rw[Array.perm_iff_toList_perm,wl]
   conv=>rhs;rw[aa]
   exact((pm.append_left _).append_right _)
  have r:((arrOf st).toList.take (sa+k)).length=sa+k:=by rw[Jw,JF,sz];lia
  have a0:W.size=a₀.size:=by rw[pw.size_eq,sz]
  have z:∀ j,j<sa+k->R rk W j=R rk (arrOf st) j:=λj B=>R_congr (by
   rw[<- Y8,<- Y8,wl,JT,Y0 (by rw[r];exact B),Zm B])
  have f:∀ j,sb+n<=j->R rk W j=R rk (arrOf st) j:=λj B=>R_congr (by
   rw[<- Y8,<- Y8,wl,Yj (by rw[Jd,r,N];lia),Jd,r,N,List.getElem?_drop]
   congr 1;lia)
  have mid:∀ j,sa+k<=j->j<sb+n->∃ x,m[j-(sa+k)]?=some x/\R rk W j=rk x:=λj l o=>by
   have jl:j-(sa+k)<m.size:=by rw[<- JF,N];lia
   refine⟨_,getElem?_pos m _ jl,R_at ?_⟩;rw[<- Y8,wl,JT,Yj (by rw[r];exact l),r,Y0 (by rw[N];lia),Y8];exact getElem?_pos m _ jl
  have kids:∀ j x,m[j]?=some x->∃ t,((sa+k<=t/\t<sb)\/(sb<=t/\t<sb+n))/\R rk (arrOf st) t=rk x:=λj x ex=>by
   have hm:x∈m.toList:=by
    obtain⟨B,e⟩:=JZ.mp ex;rw[<- e];simp
   rcases Jv.mp (pm.mem_iff.mp hm) with u|u
   ·obtain⟨t,F,H,et⟩:=vd u
    exact⟨t,.inl ⟨F,H⟩,R_at et⟩
   ·obtain⟨t,F,H,et⟩:=vd u
    exact⟨t,.inr ⟨F,H⟩,R_at et⟩
  refine Jt (Wj (Jt (Wh (Jx ?_))));rw[hW]
  have ff:(failedOf (setArr st2 W)).isNone=true:=by
   show (failedOf st2).isNone=true;rw[G.fail,d.fail];rfl
  rw[ff];refine h _ ⟨G.kind.trans d.kind,G.fail.trans d.fail,pw.trans D.perm,D.all⟩ (G.pend.trans ep) (λj B=>?_) λx y g b I=>?_
  ·rcases B with B|B
   ·exact z j (by lia)
   ·exact f j (by lia)
  ·show R rk W x<=R rk W y
   by_cases x1:x<sa+k
   ·rw[z x x1]
    by_cases y1:y<sa+k
    ·rw[z y y1];exact K _ _ g b (by lia)
    ·by_cases y2:y<sb+n
     ·obtain⟨v,ev,rv⟩:=mid y (by lia) y2
      obtain⟨t,S,rt⟩:=kids _ v ev;rw[rv,<- rt];rcases S with ⟨F,H⟩|⟨F,H⟩
      ·exact K _ _ g (by lia) (by lia)
      ·exact ZE (f1 x g x1) (f0 t F (by lia))
     ·rw[f y (by lia)]
      exact ZE (f1 x g x1) (f0 y (by lia) (by lia))
   ·by_cases x2:x<sb+n
    ·obtain⟨u,eu,ru⟩:=mid x (by lia) x2
     rw[ru];by_cases y2:y<sb+n
     ·obtain⟨v,ev,rv⟩:=mid y (by lia) y2
      rw[rv]
      have:=qE O (base:=0) (n:=m.size) (by lia) (x-(sa+k)) (y-(sa+k)) (JL _) (by lia) (by
       have:=(JZ.mp ev).1
       lia)
      rwa [R_at eu,R_at ev]at this
     ·rw[f y (by lia)]
      obtain⟨t,S,rt⟩:=kids _ u eu;rw[<- rt];rcases S with ⟨F,H⟩|⟨F,H⟩
      ·exact ZE (f5 t (by lia) H) (f4 y (by lia) (by lia))
      ·exact J _ _ F (by lia) (by lia)
    ·rw[f x (by lia),f y (by lia)]
     exact J _ _ (by lia) b (by lia)
 split
 ·exact Jt (zcm C d.kind px py ox oy (by rw[sx];lia) (by rw[sy];lia) first last λm st2 G pm O=>fin m st2 G pm O)
 ·exact Jt (zct C d.kind px py ox oy (by rw[sx];lia) (by rw[sy];lia) first last λm st2 G pm O=>fin m st2 G pm O)
abbrev Run:=Nat × Nat × Nat
def Runs:List Run->Nat->Nat->Prop
 | [],u,v=>u=v
 | x::r,u,v=>x.1=u/\1<=x.2.1/\Runs r (u+x.2.1) v
theorem Runs.cut:∀ {l r:List Run}{u v:Nat},Runs (l++r) u v->∃ m,Runs l u m/\Runs r m v
 | [],_,u,_,h=>⟨u,rfl,h⟩
 | x::l,r,u,v,⟨h1,d,c⟩=>by
  obtain⟨m,a,b⟩:=Runs.cut (l:=l) (r:=r) c;exact⟨m,⟨h1,d,a⟩,b⟩
theorem Runs.app:∀ {l r:List Run}{u m v:Nat},Runs l u m->Runs r m v->Runs (l++r) u v
 | [],_,_,_,_,h,g=>by cases h;exact g
 | x::l,r,u,m,v,⟨h1,b,a⟩,g=>⟨h1,b,Runs.app a g⟩
theorem Runs.len:∀ {l:List Run}{u v:Nat},Runs l u v->u+l.length<=v
 | [],_,_,h=>by cases h;exact Jg _
 | x::l,u,v,⟨h1,b,a⟩=>by
  have:=Runs.len a;rw[JW];lia
theorem Runs.mem:∀ {l:List Run}{u v:Nat}{x:Run},Runs l u v->x∈l->u<=x.1/\1<=x.2.1/\x.1+x.2.1<=v
 | y::l,u,v,x,⟨h1,d,b⟩,c=>by
  rcases Jr.mp c with rfl|a
  ·have:=Runs.len b;lia
  ·have:=Runs.mem b a;lia
theorem Runs.modify {f:Run->Run}(a:∀ x,(f x).1=x.1/\(f x).2.1=x.2.1):∀ {l:List Run}{i u v:Nat},Runs l u v->Runs (l.modify i f) u v
 | [],i,_,_,h=>by cases i<;>exact h
 | x::l,0,u,v,⟨h1,c,b⟩=>by
  rw[List.modify_zero_cons]
  refine⟨(a x).1.trans h1,by rw[(a x).2];exact c,by rw[(a x).2];exact b⟩
 | x::l,i+1,u,v,⟨h1,c,b⟩=>by
  rw[List.modify_succ_cons];exact⟨h1,c,Runs.modify a b⟩
theorem vZ {f:Run->Run}(a:∀ x,(f x).1=x.1/\(f x).2.1=x.2.1):∀ {l:List Run}{i:Nat}{x:Run},x∈l.modify i f->∃ y∈l,x.1=y.1/\x.2.1=y.2.1
 | [],i,x,h=>by cases i<;>simp at h
 | y::l,0,x,h=>by
  rw[List.modify_zero_cons]at h;rcases Jr.mp h with rfl|b
  ·exact⟨y,JJ,(a y).1,(a y).2⟩
  ·exact⟨x,JH _ b,rfl,rfl⟩
 | y::l,i+1,x,h=>by
  rw[List.modify_succ_cons]at h;rcases Jr.mp h with rfl|b
  ·exact⟨x,JJ,rfl,rfl⟩
  ·obtain⟨z,c,e⟩:=vZ a b
   exact⟨z,JH _ c,e⟩
structure Ji (κ:SortKind) (P:Keyed->Prop) (rk:Keyed->Int) (a₀:Array Keyed) (lo:Nat) (st:SortSt):Prop where
 b:Bs κ P a₀ st
 runs:Runs (pendingOf st).toList 0 lo
 up:∀ x∈(pendingOf st).toList,Up rk (arrOf st) x.1 x.2.1
theorem cu (C:Cmp prog w A s κ P rk){st:SortSt}{lo i:Nat}{Q:Bool->SortSt->Prop}(J:Ji κ P rk a₀ lo st)(X:lo<=a₀.size)(hi:i+1<(pendingOf st).size)(h:∀ st',Ji κ P rk a₀ lo st'->(∀ k,lo<=k->R rk (arrOf st') k=R rk (arrOf st) k)->(pendingOf st').size+1=(pendingOf st).size->Q true st'):wpS (model prog w) A E s (mergeAt' i) Q st:=by
 obtain⟨x,ex⟩:∃ x,(pendingOf st)[i]?=some x:=⟨_,getElem?_pos _ i (by lia)⟩;obtain⟨y,I⟩:∃ y,(pendingOf st)[i+1]?=some y:=⟨_,getElem?_pos _ (i+1) hi⟩;have t:(pendingOf st).toList[i]?=some x:=by rw[Y8];exact ex
 have r:(pendingOf st).toList[i+1]?=some y:=by rw[Y8];exact I
 obtain⟨o,T⟩:=Jb.mp t;obtain⟨n,S⟩:=Jb.mp r
 have sp:(pendingOf st).toList=(pendingOf st).toList.take i++x::y::(pendingOf st).toList.drop (i+1+1):=by
  rw[<- T,<- S,<- YS n,<- YS o,W0]
 have D:=J.runs;have up:=J.up;generalize e:(pendingOf st).toList.take i=pre at sp;generalize u:(pendingOf st).toList.drop (i+1+1)=post at sp;have O:pre.length=i:=by rw[<- e,Jw];lia
 rw[sp]at D up;obtain⟨m,F,N⟩:=D.cut;obtain⟨B,H,M,G,f⟩:=N;obtain⟨v,na,p⟩:=x;obtain⟨L,nb,q⟩:=y;simp only at B H M G f;have Y:=f.len;refine zcy C J.b ex I (by simp_all) H G (by lia) (up (v,na,p) (by simp)) (up (L,nb,q) (by simp)) λst' W U low K=>?_
 have l:(pendingOf st').toList=pre++(v,na+nb,p)::post:=by
  rw[U,Array.toList_eraseIdxIfInBounds,Array.toList_setIfInBounds,sp,List.set_append_right _ _ (by simp_all),List.eraseIdx_append_of_length_le (by simp_all),O,Nat.sub_self,Nat.add_sub_cancel_left];rfl
 refine h st' ⟨W,?_,?_⟩ (λk Z=>low k (.inr (by lia))) ?_
 ·rw[l]
  refine F.app ⟨B,by show 1<=na+nb;lia,?_⟩;show Runs post (m+(na+nb)) lo;rw[<- Nat.add_assoc];exact f
 ·rw[l]
  intro z a;rcases Jv.mp a with a|a
  ·have V:=F.mem a
   intro c d j b g;rw[low c (.inl (by lia)),low d (.inl (by lia))];exact up z (Yc _ a) c d j b g
  ·rcases Jr.mp a with rfl|a
   ·exact K
   ·have V:=f.mem a
    intro c d j b g;rw[low c (.inr (by lia)),low d (.inr (by lia))];exact up z (Jz _ (by simp[a])) c d j b g
 ·rw[<- JF,<- JF,l,sp]
  simp only[Jd,JW];lia
theorem aP (C:Cmp prog w A s κ P rk){st:SortSt}{Q:Unit->SortSt->Prop}(hB:Bs κ P a₀ st)(hp:pendingOf st = #[])(h:∀ st',Bs κ P a₀ st'->Up rk (arrOf st') 0 a₀.size->Q () st'):wpS (model prog w) A E s sortRuns' Q st:=by
 rw[sortRuns'_eq];refine Jt (Wh ?_);dsimp only;rw[hB.size];generalize minRun' a₀.size a₀.size 0=R
 refine Jt (Za (Yu (I:=λi c o=>∃ lo,c=(none,lo)/\i<=lo/\lo<=a₀.size/\Ji κ P rk a₀ lo o)
  (Q:=λc o=>∃ lo,c=(none,lo)/\lo=a₀.size/\Ji κ P rk a₀ lo o) ?step ?fin ?init) ?post)
 case init=>exact⟨0,rfl,Jg _,JL _,hB,by rw[hp];rfl,λx u=>by rw[hp]at u;simp at u⟩
 case fin =>
  rintro c o ⟨lo,rfl,h1,U,J⟩;exact⟨lo,rfl,by lia,J⟩
 case step =>
  rintro i c o _ hi ⟨lo,rfl,h1,U,J⟩;dsimp only;by_cases z:lo>=a₀.size
  ·rw[Jm z]
   exact Jx ⟨lo,rfl,by lia,J⟩
  rw[Jf z];refine Jt (bj C J.b (by lia) (by simp_all) λf n W L n2 Z=>?_);dsimp only
  have Jk:∀ g,Keep κ P rk a₀ lo o g->Ji κ P rk a₀ lo g:=λg H=>⟨H.b,by rw[H.pend];exact J.runs,λx u=>by
   rw[H.pend]at u;have:=J.runs.mem u;intro c d D v K;rw[H.low c (by lia),H.low d (by lia)]
   exact J.up x u c d D v K⟩
  by_cases Y:n<R
  ·rw[Jm Y]
   refine Jt (vF ?_);refine Jt (zbO C W.b L (by grind) (by lia) Z λg H u3=>?_);have L:1<=min (a₀.size-lo) R:=by lia
   have n2:min (a₀.size-lo) R<=a₀.size-lo:=by omega
   have B:=Jk g (W.trans H);generalize min (a₀.size-lo) R=n at L n2 u3 ⊢;rw[Jf (show ¬(!true)=true by decide)];refine Jt (Wh ?_)
   have last:∀ a,Ji κ P rk a₀ lo a->Up rk (arrOf a) lo n->wpS (model prog w) A E s (do
     modify λm=>setPending m ((pendingOf m).push (lo,n,0))
     pure (ForInStep.yield ((none:Option Unit),lo+n))) (λr st'=>match r with|.done G=>∃ lo,G=(none,lo)/\lo=a₀.size/\Ji κ P rk a₀ lo st'|.yield G=>∃ lo,G=(none,lo)/\i+1<=lo/\lo<=a₀.size/\Ji κ P rk a₀ lo st') a:=by
    intro a e l;refine Jt (Wj (Jx ⟨lo+n,rfl,by lia,by lia,⟨e.b.kind,e.b.fail,e.b.perm,e.b.all⟩,?_,?_⟩))
    ·show Runs ((pendingOf a).push (lo,n,0)).toList 0 (lo+n)
     rw[Zx];exact e.runs.app ⟨rfl,L,rfl⟩
    ·show ∀ x∈((pendingOf a).push (lo,n,0)).toList,Up rk (arrOf a) x.1 x.2.1
     rw[Zx];intro x u;rcases Jv.mp u with p|p
     ·exact e.up x p
     ·rw[Jc.mp p];exact l
   split
   ·rename_i s1 m1 w1 hb
    refine Jt (Za (Yu (I:=λj c a=>c=(none,())/\Ji κ P rk a₀ lo a/\Up rk (arrOf a) lo n) (Q:=λc a=>c=(none,())/\Ji κ P rk a₀ lo a/\Up rk (arrOf a) lo n) ?_ (λc a T=>T) ⟨rfl,B,u3⟩) ?_)
    ·rintro j c a _ hj ⟨rfl,e,l⟩
     refine Jt (Wh ?_);split
     ·rename_i a1 a2 older M
      split
      ·exact Jx ⟨rfl,e,l⟩
      ·have sz:(pendingOf a).size > 1:=by
        by_cases q:(pendingOf a).size > 1
        ·exact q
        ·rw[Jf q]at M;cases M
       refine Jt (cu C e U (by grind) λm X k _=>?_);rw[Jf (show ¬(!true)=true by decide)];exact Jx ⟨rfl,X,λc d D v K=>by rw[k c D,k d (by lia)];exact l c d D v K⟩
     ·exact Jx ⟨rfl,e,l⟩
    ·rintro c a ⟨rfl,e,l⟩
     dsimp only;refine Jt (Wj ?_);refine last _ ⟨⟨e.b.kind,e.b.fail,e.b.perm,e.b.all⟩,?_,?_⟩ l
     ·show Runs ((pendingOf a).modify _ _).toList 0 lo
      rw[We];refine Runs.modify ?_ e.runs;exact λx=>⟨rfl,rfl⟩
     ·show ∀ x∈((pendingOf a).modify _ _).toList,Up rk (arrOf a) x.1 x.2.1
      rw[We];intro x u;obtain⟨y,S,V,e2⟩:=vZ (by exact λx=>⟨rfl,rfl⟩) u;rw[V,e2];exact e.up y S
   ·exact last _ B u3
  ·rw[Jf Y]
   have B:=Jk f W;have u3:=Z;generalize f=g at B u3 ⊢;refine Jt (Wh ?_)
   have last:∀ a,Ji κ P rk a₀ lo a->Up rk (arrOf a) lo n->wpS (model prog w) A E s (do
     modify λm=>setPending m ((pendingOf m).push (lo,n,0))
     pure (ForInStep.yield ((none:Option Unit),lo+n))) (λr st'=>match r with|.done G=>∃ lo,G=(none,lo)/\lo=a₀.size/\Ji κ P rk a₀ lo st'|.yield G=>∃ lo,G=(none,lo)/\i+1<=lo/\lo<=a₀.size/\Ji κ P rk a₀ lo st') a:=by
    intro a e l;refine Jt (Wj (Jx ⟨lo+n,rfl,by lia,by grind,⟨e.b.kind,e.b.fail,e.b.perm,e.b.all⟩,?_,?_⟩))
    ·show Runs ((pendingOf a).push (lo,n,0)).toList 0 (lo+n)
     rw[Zx];exact e.runs.app ⟨rfl,L,rfl⟩
    ·show ∀ x∈((pendingOf a).push (lo,n,0)).toList,Up rk (arrOf a) x.1 x.2.1
     rw[Zx];intro x u;rcases Jv.mp u with p|p
     ·exact e.up x p
     ·rw[Jc.mp p];exact l
   split
   ·rename_i s1 m1 w1 hb
    refine Jt (Za (Yu (I:=λj c a=>c=(none,())/\Ji κ P rk a₀ lo a/\Up rk (arrOf a) lo n) (Q:=λc a=>c=(none,())/\Ji κ P rk a₀ lo a/\Up rk (arrOf a) lo n) ?_ (λc a T=>T) ⟨rfl,B,u3⟩) ?_)
    ·rintro j c a _ hj ⟨rfl,e,l⟩
     refine Jt (Wh ?_);split
     ·rename_i a1 a2 older M
      split
      ·exact Jx ⟨rfl,e,l⟩
      ·have sz:(pendingOf a).size > 1:=by
        by_cases q:(pendingOf a).size > 1
        ·exact q
        ·rw[Jf q]at M;cases M
       refine Jt (cu C e U (by lia) λm X k _=>?_);rw[Jf (show ¬(!true)=true by decide)];exact Jx ⟨rfl,X,λc d D v K=>by rw[k c D,k d (by lia)];exact l c d D v K⟩
     ·exact Jx ⟨rfl,e,l⟩
    ·rintro c a ⟨rfl,e,l⟩
     dsimp only;refine Jt (Wj ?_);refine last _ ⟨⟨e.b.kind,e.b.fail,e.b.perm,e.b.all⟩,?_,?_⟩ l
     ·show Runs ((pendingOf a).modify _ _).toList 0 lo
      rw[We];refine Runs.modify ?_ e.runs;exact λx=>⟨rfl,rfl⟩
     ·show ∀ x∈((pendingOf a).modify _ _).toList,Up rk (arrOf a) x.1 x.2.1
      rw[We];intro x u;obtain⟨y,S,V,e2⟩:=vZ (by exact λx=>⟨rfl,rfl⟩) u;rw[V,e2];exact e.up y S
   ·exact last _ B u3
 case post =>
  rintro c o ⟨lo,rfl,rfl,J⟩;dsimp only
  refine Jt (Za (Yu (I:=λi c f=>c=(none,())/\Ji κ P rk a₀ a₀.size f/\(pendingOf f).size<=a₀.size-i+1)
   (Q:=λc f=>c=(none,())/\Ji κ P rk a₀ a₀.size f/\(pendingOf f).size<=1) ?_ ?_ ⟨rfl,J,?_⟩) ?_)
  ·rintro i c f _ hi ⟨rfl,F,sz⟩
   refine Jt (Wh ?_);by_cases z:(pendingOf f).size<=1
   ·rw[Jm z]
    exact Jx ⟨rfl,F,z⟩
   rw[Jf z]
   have go:∀ t,t+1<(pendingOf f).size->wpS (model prog w) A E s (mergeAt' t) (λb g=>b=true/\Ji κ P rk a₀ a₀.size g/\(pendingOf g).size<=a₀.size-(i+1)+1) f:=λt ht =>
    cu C F (Jg _) ht λg B _ N=>⟨rfl,B,by grind⟩
   refine Jt (Za (go _ ?_) ?_)
   ·repeat' split
    all_goals omega
   ·rintro b g ⟨rfl,B,N⟩
    exact Jx ⟨rfl,B,N⟩
  ·rintro c f ⟨rfl,F,sz⟩
   exact⟨rfl,F,by simp_all⟩
  ·have:=J.runs.len
   rw[JF]at this;lia
  ·rintro c f ⟨rfl,F,sz⟩
   refine Jx (h f F.b ?_);have O:=F.runs;have up:=F.up;have ln:(pendingOf f).toList.length<=1:=by rw[JF];exact sz
   match hq:(pendingOf f).toList,ln with
   | [],_ =>
    rw[hq]at O;intro c d D v K;have:0=a₀.size:=O
    lia
   | [x],_ =>
    rw[hq]at O up;obtain⟨r1,r2,r3⟩:=O;have:0+x.2.1=a₀.size:=r3;have:=up x (by simp);rw[r1,show x.2.1=a₀.size by simp_all]at this;exact this
end
section
variable {prog:Yo}{w:YI}{A:YO}{E:Jo->JO->Prop}{s:JO}
theorem iQ {a:JI}{vs:List Jo}{n:Nat}{D:Fin->JO->Prop}(t:s.heap.get? a=some (seqObj "list" vs.toArray n)) (L:vs.length<=10000) (κ:SortKind) (g:Jo->Int)
  (j:∀ h',(∀ c o,c≠a->s.heap.get? c=some o->h'.get? c=some o)->2<=vs.length->∀ {Q:SortKind->JO->Prop}{E:Jo->JO->Prop},Q κ { s with heap:=h' }->wpAny (model prog w) A (keyKind' vs.toArray) Q E { s with heap:=h' })
  (m:∀ h',(∀ c o,c≠a->s.heap.get? c=some o->h'.get? c=some o)->Cmp prog w A { s with heap:=h' } κ (λp=>p.1∈vs) (λp=>g p.1))
  (h:∀ out:List Jo,out.Perm vs->out.Pairwise (λx y=>g x<=g y)->D (.done (.ret .none)) { s with heap:=sortedHeap s.heap a vs out.toArray }) :
  wpAny (model prog w) A (Builtin.«list.sort» ⟨[.ref a],[]⟩) D E s:=by
 have al:a<s.heap.objs.size:=Jn t;have ln:vs.toArray.size=vs.length:=Jh ..;have I:vs.length<=sizeLine:=JX L (by decide);rw[list_sort_plain];refine J0 (listItems_at t rfl (J0 (listUpdate_at t rfl ?_ (hsz:=by rw[ln];exact I))));obtain⟨B,G⟩:∃ B,(s.heap.update a (Obj.mapSeq λ_=>#[])).get? a=some (seqObj "list" #[] B):=⟨_,get?_update_seq t λ_=>#[]⟩;refine J0 (seqEpoch_at G rfl (J0 (wpAny_newTuple (J0 (wpAny_newList (Yd ?_))))))
 have l:(((s.heap.update a (Obj.mapSeq λ_=>#[])).push (seqObj "tuple" vs.toArray 0)).push (seqObj "list" #[] 0)).get? a=some (seqObj "list" #[] B) :=
  J8 _ (J8 _ G)
 have old:∀ c o,c≠a->s.heap.get? c=some o->(((s.heap.update a (Obj.mapSeq λ_=>#[])).push (seqObj "tuple" vs.toArray 0)).push (seqObj "list" #[] 0)).get? c=some o:=λc o K q =>
  J8 _ (J8 _ ((JS _ _ (Ne.symm K)).trans q))
 show wpAny (model prog w) A _ D E { s with heap:=((s.heap.update a (Obj.mapSeq λ_=>#[])).push (seqObj "tuple" vs.toArray 0)).push (seqObj "list" #[] 0) };have lo:∀ out:List Jo,out.Perm vs->out.toArray.size<=sizeLine+1:=λout J=>by rw[Jh,J.length_eq];lia
 generalize O:((s.heap.update a (Obj.mapSeq λ_=>#[])).push (seqObj "tuple" vs.toArray 0)).push (seqObj "list" #[] 0)=h6 at l old ⊢;have back:∀ out:Array Jo,sortedHeap s.heap a vs out=h6.update a (Obj.mapSeq λ_=>out):=λout=>by rw[<- O];rfl
 by_cases f:vs.toArray.size<2
 ·rw[Jm f,Jm f]
  refine J0 (J9 (?_:wpAny _ _ _ _ _ _));refine J0 (J9 ?_)
  have em:(vs.toArray.zip vs.toArray).map (·.2)=vs.toArray:=by
   apply Array.ext';rw[Array.toList_map,Array.toList_zip];exact List.map_snd_zip (Jg _)
  have one:vs.Pairwise (λx y=>g x<=g y):=by
   match vs,f with
   | [],_=>exact List.Pairwise.nil
   | [x],_=>exact List.pairwise_singleton _ _
   | _::_::_,z=>simp at z;lia
  have k:=h vs (List.Perm.refl _) one;rw[back]at k;dsimp only;rw[em];refine J0 (seqEpoch_at l rfl (J0 (listUpdate_at l rfl ?_ (hsz:=JL _) (hsz2:=lo vs (List.Perm.refl _)))));simp only[Zy,bne_self_eq_false,Yz];exact J9 k
 rw[Jf f,Jf f];refine J0 (j h6 old (by simp_all) ?_);have C:=m h6 old
 refine J0 (JK (aP C (a₀:=vs.toArray.zip vs.toArray) (st:=SortSt.mk' κ (vs.toArray.zip vs.toArray) #[] 7 none)
  (Q:=λ_ d=>Bs κ (λp=>p.1∈vs) (vs.toArray.zip vs.toArray) d/\Up (λp=>g p.1) (arrOf d) 0 (vs.toArray.zip vs.toArray).size) ⟨rfl,rfl,Array.Perm.refl _,λp r=>?_⟩ rfl λd b u=>⟨b,u⟩) ?_ λ_ _ e=>e)
 ·have:(vs.toArray.zip vs.toArray).toList=vs.zip vs:=by simp
  rw[this]at r;exact(List.of_mem_zip r).1
 rintro⟨⟨⟩,d⟩ R ⟨rfl,b,u⟩
 have F:(arrOf d).toList.Perm (vs.zip vs):=by
  have:=Array.perm_iff_toList_perm.mp b.perm;simpa using this
 have same:∀ p∈(arrOf d).toList,p.1=p.2:=λp r=>by
  have P:=F.mem_iff.mp r;obtain⟨i,v⟩:=Zv.mp P;rw[Wm]at v;have:=v.1.symm.trans v.2;exact Jp this
 have H:Srt (λp=>g p.1) (arrOf d).toList:=by
  have:=mt (arr:=arrOf d) (lo:=0) (n:=(arrOf d).size) (by rw[b.size];exact u) (by lia);rw[Zh,vc,<- JF,Y5]at this;exact this
 have pm:((arrOf d).toList.map (·.2)).Perm vs:=by
  have:=F.map (·.2)
  rwa [List.map_snd_zip (Jg _)]at this
 have em:(arrOf d).map (·.2)=((arrOf d).toList.map (·.2)).toArray:=by
  apply Array.ext';simp
 have k:=h _ pm (by
  refine List.pairwise_map.mpr (List.Pairwise.imp_of_mem ?_ H);intro x y N M le
  rw[<- same x N,<- same y M];exact le)
 rw[back]at k;dsimp only;rw[em,b.fail];refine J0 (seqEpoch_at l rfl (J0 (listUpdate_at l rfl ?_ (hsz:=JL _) (hsz2:=lo _ pm))));simp only[Zy,bne_self_eq_false,Yz];exact J9 k
end
end Ts
namespace Own
open PySem PySem.Spec PyProof.Rows Ts
section
variable {prog:Yo}{w:YI}{A:YO}{E:Jo->JO->Prop}{s:JO}
theorem aI {x:Jo}{Q:Jo->JO->Prop}
  (h:wpAny (model prog w) A.in1 (collect x) (λvs s1=>∃ (κ:SortKind) (a:Jo->Int),vs.length<=10000 /\
   (∀ h':YP,(∀ c o,s1.heap.get? c=some o->h'.get? c=some o)->2<=vs.length->∀ (b:YO) {Q:SortKind->JO->Prop}{E:Jo->JO->Prop},Q κ { s1 with heap:=h' }->wpAny (model prog w) b (keyKind' vs.toArray) Q E { s1 with heap:=h' }) /\
   (∀ h':YP,(∀ c o,s1.heap.get? c=some o->h'.get? c=some o)->∀ (b:YO),b.units<=A.units+8->Cmp prog w b { s1 with heap:=h' } κ (λp=>p.1∈vs) (λp=>a p.1)) /\
   ∀ (h':YP) (l:JI) (e:Nat) (out:List Jo),s1.heap.objs.size<=l->h'.get? l=some (seqObj "list" out.toArray e)->out.Perm vs->out.Pairwise (λx y=>a x<=a y)->(∀ c o,s1.heap.get? c=some o->h'.get? c=some o)->Q (.ref l) { s1 with heap:=h' }) E s) :
  wpAny (model prog w) A (call (.builtin "sorted") [x]) Q E s:=by
 refine Calls.call_function_entry kind_sorted plain_sorted entry_sorted (args_sorted1 _) ?_;unfold Builtin.«sorted»;refine J0 (m:=checkCount "sorted" 1 1 _) (J9 (J0 (JK h (λvs s1 z=>?_) λ_ _ e=>e)));obtain⟨κ,a,d,n,t,fin⟩:=z;have f:vs.length<=sizeLine:=JX d (by decide);refine J0 (wpAny_newList ?_ (hsz:=f));have new:(s1.heap.push (seqObj "list" vs.toArray 0)).get? s1.heap.objs.size=some (seqObj "list" vs.toArray 0):=Jq _ rfl;have up:∀ h':YP,(∀ c o,c≠s1.heap.objs.size->(s1.heap.push (seqObj "list" vs.toArray 0)).get? c=some o->h'.get? c=some o)->∀ c o,s1.heap.get? c=some o->h'.get? c=some o:=λh' k c o e=>k c o (JA (Jn e)) (J8 _ e);refine J0 (Yd (Yr slot_list_sort ⟨_,new,rfl⟩ entry_list_sort (iQ new d κ a (λh' k j=>n h' (up h' k) j _) (λh' k=>t h' (up h' k) _ ?_) λout i g=>⟨_,rfl,?_⟩) (args_list_sort _)))
 ·show A.units+1+1<=A.units+8
  lia
 obtain⟨e,r⟩:=sortedHeap_at (out:=out.toArray) new;refine J9 ⟨_,rfl,fin _ _ e out (Jg _) r i g λc o q=>?_⟩;have lt:=Jn q;rw[sortedHeap_old (JA lt) (by rw[size_push'];exact Z0 lt)];exact J8 _ q
end
end Own
namespace L2
open PySem PySem.Spec PyProof.Rows Own Ts
inductive Lx (H:Hp):Nat->V->V->Ordering->Prop where
 | int (n:Nat) (i j:Int):Lx H n (.int i) (.int j) (compare i j)
 | row {n:Nat}{a b:JI}{xs ys:List V}{cs:List Ordering}(ha:H a=some (.tup xs)) (hb:H b=some (.tup ys)) (l1:xs.length=cs.length) (l2:ys.length=cs.length) (h:∀ (i:Nat) u v c,xs[i]?=some u->ys[i]?=some v->cs[i]?=some c->Lx H n u v c) :
   Lx H (n+1) (.ref a) (.ref b) (cs.foldr Ordering.then .eq)
theorem vm:∀ {cs:List Ordering},cs.foldr Ordering.then .eq=.eq↔∀ c∈cs,c=.eq
 | []=>by simp
 | c::cs=>by
  rw[List.foldr_cons];constructor
  ·intro h
   cases c<;>simp[Ordering.then]at h;intro d hd;rcases Jr.mp hd with rfl|a
   ·rfl
   ·exact vm.mp h d a
  ·intro h
   rw[h c JJ];exact vm.mpr λd hd=>h d (JH _ hd)
theorem pC:∀ {cs:List Ordering},cs.foldr Ordering.then .eq≠.eq->∃ (k:Nat) (c:Ordering),cs[k]?=some c/\c≠.eq/\cs.foldr Ordering.then .eq=c/\∀ j:Nat,j<k->cs[j]?=some Ordering.eq
 | [],h=>absurd rfl h
 | c::cs,h=>by
  by_cases z:c=.eq
  ·subst z
   have e:(Ordering.eq::cs).foldr Ordering.then .eq=cs.foldr Ordering.then .eq:=rfl;rw[e]at h ⊢;obtain⟨k,d,i,g,f,b⟩:=pC h;refine⟨k+1,d,by simpa using i,g,f,λj a=>?_⟩
   cases j with
   | zero=>rfl
   | succ j=>simpa using b j (by simp_all)
  ·refine⟨0,c,rfl,z,?_,λj a=>by simp_all⟩
   rw[List.foldr_cons];cases c<;>first|rfl|exact absurd rfl z
section
variable {X:Cx}
theorem vI (i j:Int):(compare i j == .eq)=decide (i=j)/\(compare i j == .lt)=decide (i<j):=by
 rw[show compare i j=compareOfLessAndEq i j from rfl];unfold compareOfLessAndEq;by_cases b:i<j
 ·rw[Jm b,JC b,Js (by lia)];exact⟨rfl,rfl⟩
 ·rw[Jf b,Js b]
  by_cases a:i=j
  ·rw[Jm a,JC a];exact⟨rfl,rfl⟩
  ·rw[Jf a,Js a];exact⟨rfl,rfl⟩
theorem Lx.refl {H:Hp}{n:Nat}{x y:V}{c:Ordering}(h:Lx H n x y c):x=y->c=.eq:=by
 induction h with
 | int n i j =>
  intro e;cases e;have:=(vI i i).1;rw[JC rfl]at this
  simpa using this
 | @row n a b m l cs k f p o h ih =>
  intro e;cases e;rw[k]at f;cases f;refine vm.mpr λc g=>?_;obtain⟨i,d⟩:=Zv.mp g;have q:=(Jb.mp d).1;exact ih i _ _ c (J7 (by simp_all)) (J7 (by simp_all)) d rfl
theorem ja {pins:List (JI × Obj)}{σ:St}{H:Hp}{s:JO}(I:Inv X pins σ H s){n:Nat}{x y:V}{c:Ordering}(h:Lx H n x y c):∀ (A:YO) (u v:Jo),A.units+n<cLine->RelV x u->RelV y v->SeqAt.EqAt A s u v (c == .eq):=by
 induction h with
 | int n i j =>
  intro A u v _ p o;have:=bY (A:=A) (s:=s) (x:=.int j) (y:=.int i) p o rfl rfl;rw[(vI i j).1]
  have e:eqV (.int i) (.int j)=decide (i=j):=by
   show (i == j)=decide (i=j);by_cases z:i=j<;>simp[z]
  rwa [e]at this
 | @row n a b Q P cs F E B w h ih =>
  intro A u v hu p o;cases p;cases o;by_cases M:a=b
  ·subst M
   have:cs.foldr Ordering.then .eq=.eq:=Lx.refl (.row F E B w h) rfl;rw[this];exact SeqAt.EqAt.same _
  ·obtain⟨g,K,Y,_⟩:=I.tuple (SqT.of F)
   obtain⟨f,J,W,_⟩:=I.tuple (SqT.of E);have r:=K.length;have q:=J.length;refine SeqAt.EqAt.of_refs M ?_
   have e:((List.range (min g.toArray.size f.toArray.size)).all (λj=>(cs.getD j .eq) == .eq) && g.toArray.size == f.toArray.size)=(cs.foldr Ordering.then .eq == .eq):=by
    rw[Jh,Jh,<- r,<- q,B,w,ZD,Bool.and_true,Nat.min_self];by_cases z:cs.foldr Ordering.then .eq=.eq
    ·rw[z]
     refine(List.all_eq_true.mpr λj hj=>?_).trans rfl;have D:=Yp.mp hj;rw[Ja,J7 D,ZC,vm.mp z _ (JY D)];rfl
    ·obtain⟨k,d,G,h2,h3,_⟩:=pC z
     have Z:=(Jb.mp G).1;rw[h3];have L:(d == Ordering.eq)=false:=by simpa using h2
     rw[L];refine Bool.eq_false_iff.mpr λt=>?_;have:=List.all_eq_true.mp t k (Yp.mpr Z);rw[Ja,G,ZC,L]at this;cases this
   have:=SeqAt.RcAt.tuples (e:=λj=>(cs.getD j .eq) == .eq) Y W (A:=A) (s:=s) (by lia) (λj k1 k2=>?_)
   ·rwa [e]at this
   ·have m:j<Q.length:=by simpa [r] using k1
    have l:j<P.length:=by simpa [q] using k2
    obtain⟨S,e1,U⟩:=K.get (J7 m);obtain⟨R,e2,T⟩:=J.get (J7 l);have O:g.toArray[j]=S:=by simpa using (Jb.mp e1).2
    have N:f.toArray[j]=R:=by simpa using (Jb.mp e2).2
    have C:j<cs.length:=by lia
    rw[O,N,Ja,J7 C,ZC];exact ih j _ _ _ (J7 m) (J7 l) (J7 C) A.in1 _ _ (by show A.units+1+n<cLine;lia) U T
theorem zaB {pins:List (JI × Obj)}{σ:St}{H:Hp}{s:JO}(I:Inv X pins σ H s){n:Nat}{x y:V}{c:Ordering}(h:Lx H n x y c):c≠.eq->∀ (A:YO) (u v:Jo),A.units+n<cLine->RelV x u->RelV y v->LtAt A s u v (c == .lt):=by
 induction h with
 | int n i j =>
  intro _ A u v _ ⟨P,C⟩ ⟨O,e2⟩;subst C e2;rw[(vI i j).2]
  exact LtAt.ints i j P O
 | @row n a b z w cs ha Z l1 l2 h ih =>
  intro ne A u v hu l g;cases l;cases g;obtain⟨f,F,T,_⟩:=I.tuple (SqT.of ha);obtain⟨e,E,S,_⟩:=I.tuple (SqT.of Z);have W:=F.length;have U:=E.length;obtain⟨k,d,B,D,h3,h4⟩:=pC ne;have kl:=(Jb.mp B).1
  have at_:∀ j (t:j<f.toArray.size) (r:j<e.toArray.size),∃ (o:j<z.length) (m:j<w.length),RelV z[j] f.toArray[j]/\RelV w[j] e.toArray[j]:=λj t r=>by
   have q:j<z.length:=by simpa [W] using t
   have p:j<w.length:=by simpa [U] using r
   obtain⟨N,C,R⟩:=F.get (J7 q);obtain⟨M,e2,Q⟩:=E.get (J7 p);have L:f.toArray[j]=N:=by simpa using (Jb.mp C).2
   have K:e.toArray[j]=M:=by simpa using (Jb.mp e2).2
   rw[L,K];exact⟨q,p,R,Q⟩
  rw[h3];have J:k<f.toArray.size:=by rw[Jh];simp_all
  have G:k<e.toArray.size:=by rw[Jh];simp_all
  obtain⟨o,m,l,g⟩:=at_ k J G;refine LtAt.tuples (k:=k) T S (by lia) J G (λj t r Y=>?_) ?_ ?_
  ·obtain⟨o,m,l,g⟩:=at_ j t r
   exact ja I (h j _ _ _ (J7 o) (J7 m) (h4 j Y)) A.in1 _ _ (by show A.units+1+n<cLine;lia) l g
  ·have:=ja I (h k _ _ _ (J7 o) (J7 m) B) A.in1 _ _ (by show A.units+1+n<cLine;lia) l g
   rwa [show (d == Ordering.eq)=false from by simpa using D]at this
  ·exact ih k _ _ _ (J7 o) (J7 m) B D A.in1 _ _ (by show A.units+1+n<cLine;lia) l g
end
def Rk (H:Hp)(xs:List V)(rk:V->Int):Prop:=(∀ x∈xs,∃ i,x=.int i/\rk x=i)\/∃ n,n<=20/\∀ x∈xs,(∃ a f r,x=.ref a/\H a=some (.tup (.int f::r)))/\∀ y∈xs,Lx H n x y (compare (rk x) (rk y))
def vOf:Jo->V
 | .int i _=>.int i
 | .ref a=>.ref a
 | _=>.non
theorem pB:∀ {xs:List V}{us:List Jo},Vals xs us->(∀ x∈xs,(∃ i,x=.int i)\/∃ a,x=.ref a)->xs=us.map vOf/\∀ u∈us,RelV (vOf u) u
 | _,_,.nil,_=>⟨rfl,λu g=>by simp at g⟩
 | x::xs,u::us,.cons r rs,h=>by
  obtain⟨e,f⟩:=pB rs λy c=>h y (JH _ c)
  have one:vOf u=x/\RelV (vOf u) u:=by
   rcases h x JJ with ⟨i,rfl⟩|⟨a,rfl⟩
   ·obtain⟨t,rfl⟩:=r;exact⟨rfl,t,rfl⟩
   ·cases r;exact⟨rfl,rfl⟩
  refine⟨by rw[Y1,one.1,<- e],λv d=>?_⟩;rcases Jr.mp d with rfl|b
  ·exact one.2
  ·exact f v b
theorem qC:∀ {us:List Jo},(∀ u∈us,RelV (vOf u) u)->Vals (us.map vOf) us
 | [],_=>.nil
 | u::us,h=>.cons (h u JJ) (qC λv a=>h v (JH _ a))
theorem Rk.kinds {H:Hp}{xs:List V}{rk:V->Int}(h:Rk H xs rk):∀ x∈xs,(∃ i,x=.int i)\/∃ a,x=.ref a:=λx b=>by
 rcases h with h|⟨n,_,h⟩
 ·obtain⟨i,e,_⟩:=h x b;exact .inl ⟨i,e⟩
 ·obtain⟨⟨a,_,_,e,_⟩,_⟩:=h x b;exact .inr ⟨a,e⟩
section
variable {prog:Yo}{w:YI}{A:YO}{E:Jo->JO->Prop}{s:JO}
theorem cF {u v:Jo}{b:Bool}{Q:Bool->JO->Prop}(l:LtAt A s u v b)(h:Q b s):wpAny (model prog w) A (oneLt' false u v) Q E s:=by
 rw[oneLt'_eq,Jf Jj];exact J0 (l prog w _ _ (Ze h))
theorem zah {Q:Bool->JO->Prop}(cs:List Ordering):∀ (us vs:List Jo) (i:Nat),us.length=cs.length->vs.length=cs.length->(∀ (j:Nat) u v c,us[j]?=some u->vs[j]?=some v->cs[j]?=some c->SeqAt.EqAt A s u v (c == .eq)/\(c≠.eq->LtAt A s u v (c == .lt))) ->
  (i=0->∀ u v c,us[0]?=some u->vs[0]?=some v->cs[0]?=some c->∃ a b t t',u=.int a t/\v=.int b t'/\c=compare a b)->Q (cs.foldr Ordering.then .eq == .lt) s->PySem.W.KatLex prog w A true false Q (us.zip vs) i s:=by
 induction cs with
 | nil =>
  intro us vs i d f _ _ q;rw[Zs.mp d]
  exact PySem.W.kat_nil q
 | cons c cs ih =>
  intro us vs i d f h n q
  obtain⟨u,us,rfl⟩:∃ u l,us=u::l:=by
   cases us with
   | nil=>simp at d
   | cons u us=>exact⟨u,us,rfl⟩
  obtain⟨v,vs,rfl⟩:∃ v k,vs=v::k:=by
   cases vs with
   | nil=>simp at f
   | cons v vs=>exact⟨v,vs,rfl⟩
  have m:=h 0 u v c rfl rfl rfl;refine PySem.W.kat_cons (m.1 prog w _ _ ?_);by_cases z:c=.eq
  ·subst z
   refine PySem.W.kat_yes (ih us vs (i+1) (by simpa using d) (by simpa using f) (λj u v c y x r=>h (j+1) u v c (by simpa using y) (by simpa using x) (by simpa using r)) (λe=>by simp_all) q)
  ·have p:(c == Ordering.eq)=false:=by simpa using z
   have e2:(c::cs).foldr Ordering.then .eq=c:=by
    rw[List.foldr_cons];cases c<;>first|rfl|exact absurd rfl z
   rw[e2]at q;rw[p];refine PySem.W.kat_no ?_;by_cases g:i=0
   ·obtain⟨a,b,t,t',rfl,rfl,o⟩:=n g u v c rfl rfl rfl
    subst g;rw[o,(vI a b).2]at q;exact oneLt_int q
   ·have:(true && i == 0)=false:=by simpa using g
    rw[this];exact cF (m.2 z) q
end
section
variable {X:Cx}
theorem zc9 {pins:List (JI × Obj)}{σ:St}{H:Hp}{s1:JO}(I:Inv X pins σ H s1)(s:X.A.units+64<cLine){xs:List V}{vs:List Jo}{rk:V->Int}(r:Vals xs vs)(R:Rk H xs rk) :
  ∃ κ:SortKind,(∀ h':YP,(∀ c o,s1.heap.get? c=some o->h'.get? c=some o)->2<=vs.length->∀ (l:YO) {Q:SortKind->JO->Prop}{E:Jo->JO->Prop},Q κ { s1 with heap:=h' }->wpAny (model X.prog X.w) l (keyKind' vs.toArray) Q E { s1 with heap:=h' }) /\
   (∀ h':YP,(∀ c o,s1.heap.get? c=some o->h'.get? c=some o)->∀ (l:YO),l.units<=X.A.units+8->Cmp X.prog X.w l { s1 with heap:=h' } κ (λp=>p.1∈vs) (λp=>rk (vOf p.1))):=by
 obtain⟨ex,rel⟩:=pB r R.kinds;have mem:∀ u∈vs,vOf u∈xs:=λu s=>by rw[ex];exact Jy.mpr ⟨u,s,rfl⟩
 rcases R with R|⟨n,hn,R⟩
 ·have z:∀ u∈vs,∃ i t,u=.int i t/\rk (vOf u)=i:=λu s=>by
   obtain⟨i,e,ei⟩:=R _ (mem u s);have ru:=rel u s;rw[e]at ru;obtain⟨t,rfl⟩:=ru;exact⟨i,t,rfl,ei⟩
  refine⟨oneType',λh' k Z l Q E q=>PySem.W.kas_kind Z (T:=.type "int") (λv d=>?_) (by decide) (by decide) q,λh' k l _=>⟨λx y S J Q E q=>?_⟩⟩
  ·obtain⟨i,t,rfl,_⟩:=z v d
   exact PySem.W.Looks.of_pure rfl
  ·obtain⟨P,x2⟩:=x
   obtain⟨G,y2⟩:=y;obtain⟨i,t,w,D⟩:=z P S;obtain⟨j,t',e2,Y⟩:=z G J;simp only at q;rw[D,Y]at q;subst w e2;show wpAny _ _ (keyLt' oneType' (.int i t) (.int j t')) _ _ _;rw[keyLt'_oneType];exact oneLt_int q
 ·refine⟨tuples' (Value.type "int" != Value.type "tuple"),λh' k Z l Q E q=>?_,λh' k l hA=>⟨λx y S J Q E q=>?_⟩⟩
  ·have F:Inv X pins σ H { s1 with heap:=h',toks:=s1.toks }:=I.kept k
   have kt:∀ C:List Jo,(∀ u∈C,vOf u∈xs/\RelV (vOf u) u)->∃ fs,PySem.W.KatTups h' C fs/\fs.length=C.length/\∀ f∈fs,∃ i t,f=Value.int i t:=by
    intro C
    induction C with
    | nil=>intro _;exact⟨[],PySem.W.KatTups.nil,rfl,λf K=>by simp at K⟩
    | cons u C ih =>
     intro h;obtain⟨fs,k1,k2,k3⟩:=ih λv d=>h v (JH _ d);obtain⟨m1,D⟩:=h u JJ;obtain⟨⟨a,f,rr,e,U⟩,_⟩:=R _ m1;rw[e]at D;cases D;obtain⟨A,g,⟨o,eo,co,no,dt⟩,_⟩:=F.tuple (SqT.of U);obtain⟨f0,ef,⟨t0,rfl⟩⟩:=g.get (i:=0) (x:=.int f) rfl
     exact⟨_,PySem.W.KatTups.cons eo co dt (by simpa using ef) k1,by rw[JW,JW,k2],λf' K=>by
      rcases Jr.mp K with rfl|K
      ·exact⟨_,_,rfl⟩
      ·exact k3 f' K⟩
   obtain⟨fs,k1,k2,k3⟩:=kt vs λu s=>⟨mem u s,rel u s⟩;refine PySem.W.kat_kind (T:=.type "int") k1 (by lia) (λv d=>?_) (by decide) q;obtain⟨i,t,rfl⟩:=k3 v d;exact PySem.W.Looks.of_pure rfl
  ·have F:Inv X pins σ H { s1 with heap:=h',toks:=s1.toks }:=I.kept k
   obtain⟨P,x2⟩:=x;obtain⟨G,y2⟩:=y;have rx:=rel P S;have ry:=rel G J;obtain⟨⟨a,f,xr,ea,U⟩,lx⟩:=R _ (mem P S);obtain⟨⟨b,g,yr,eb,hb⟩,_⟩:=R _ (mem G J);have L:=lx _ (mem G J);simp only at q;rw[ea]at rx L q;rw[eb]at ry L q;cases rx;cases ry;generalize hc:compare (rk (V.ref a)) (rk (V.ref b))=c at L;rw[<- (vI (rk (V.ref a)) (rk (V.ref b))).2,hc]at q
   cases L with
   | @row n _ _ a0 aT cs O N l1 Z hL =>
    rw[U]at O;cases O;rw[hb]at N;cases N;obtain⟨A,g1,⟨o1,ab,a6,a4,aE⟩,_⟩:=F.tuple (SqT.of U);obtain⟨M,g2,⟨o2,aa,a5,a3,ao⟩,_⟩:=F.tuple (SqT.of hb);have m1:=g1.length;have m2:=g2.length;show wpAny _ _ (keyLt' (tuples' true) (.ref a) (.ref b)) _ _ _;refine PySem.W.kat_lt ab aE aa ao ?_;have ds:decide (A.toArray.size<M.toArray.size)=false:=Js (by rw[Jh,Jh];simp_all);rw[ds];refine zah cs A M 0 (by simp_all) (by simp_all) (λj u v c m d B=>?_) (λ_ u v c m d B=>?_) q
    ·have j1:j<(V.int f::xr).length:=by have:=(Jb.mp m).1;simp_all
     have j2:j<(V.int g::yr).length:=by have:=(Jb.mp d).1;simp_all
     obtain⟨u',w,q1⟩:=g1.get (J7 j1);obtain⟨v',e2,q2⟩:=g2.get (J7 j2);rw[m]at w;obtain rfl:=Jp w;rw[d]at e2;obtain rfl:=Jp e2;have W:=hL j _ _ c (J7 j1) (J7 j2) B;exact⟨ja F W l _ _ (by lia) q1 q2,λne=>zaB F W ne l _ _ (by lia) q1 q2⟩
    ·obtain⟨u',w,t1,D⟩:=g1.get (i:=0) (x:=.int f) rfl
     obtain⟨v',e2,t2,Y⟩:=g2.get (i:=0) (x:=.int g) rfl;rw[m]at w;obtain rfl:=Jp w;rw[d]at e2;obtain rfl:=Jp e2;have W:=hL 0 (.int f) (.int g) c rfl rfl B;cases W;exact⟨f,g,t1,t2,D,Y,rfl⟩
theorem oR (b:Bool)(f:X.A.units+64<cLine):CallR X (.builtin "sorted") (λvs H Q=>∃ a xs rk,vs=[.ref a]/\SqB b X.K H a xs/\xs.length<=10000/\Rk H xs rk/\∀ (l:JI) (ys:List V),H l=none->ys.Perm xs->ys.Pairwise (λx y=>rk x<=rk y)->Q (.ref l) (upd H l (.lst ys))):=by
 intro pins s σ H vs F Q I t h;obtain⟨a,xs,rk,rfl,z,G,R,q⟩:=h;obtain⟨u,rfl,v⟩:=t.one;cases v;obtain⟨g,r,p⟩:=I.sq z;have J:=r.length;have i:g.length<=sizeLine:=JX (show _<=10000 by simp_all) (by decide);refine aI (zbH p i λC d j=>?_);have E:Inv X pins σ H { s with heap:=C,toks:=s.toks }:=I.kept j;obtain⟨k,A,B⟩:=zc9 E f r R;refine⟨k,λu=>rk (vOf u),by simp_all,A,B,λK l e out lo D pm n w=>?_⟩;obtain⟨ex,rel⟩:=pB r R.kinds;have m:Vals (out.map vOf) out:=qC λu f=>rel u (pm.mem_iff.mp f);refine⟨.ref l,_,I.laid (t':=s.toks) (o:=.lst (out.map vOf)) (λc o q=>w c o (j c o q)) (JX d lo) ⟨?_,out,e,m,D⟩,rfl,q l _ (I.hok.fresh (JX d lo)) ?_ ?_⟩
 ·rw[Je,pm.length_eq];exact i
 ·rw[ex];exact pm.map vOf
 ·exact List.pairwise_map.mpr n
end
section
variable {X:Cx}{pins:List (JI × Obj)}{σ:St}{H:Hp}{s:JO}
theorem Inv.adopt {T:JI}{o:HO}(I:Inv X pins σ H s)(d:FpOk X pins H T)(new:ObjOk X.prog X.w (upd H T o) s.heap T o):Inv X pins σ (upd H T o) s:=by
 have a:=d.1
 have J:Inv X pins σ (upd H T o) { s with heap:=s.heap,gens:=s.gens,drawn:=s.drawn,toks:=s.toks }:=by
  refine I.step (ch:=[T]) (λb f=>?_) (λb u _ _ _ e _=>e) (λb u _ _ _ e _=>⟨u.slots,e⟩) (λb u i _ n=>by rw[zK λq=>i (Jc.mpr q)];exact n)
   (λb u _ e=>⟨u,e⟩) (λb g e=>by rw[zK (zJ e a)];exact e) (λb u x e=>by rw[zK (zJ e a)];exact e) (λb j e=>⟨#[],by rw[zK (zJ e a),e];simp⟩) (λm h=>h) (λb u e=>?_) I.bare
  ·have only:=Jc.mp f
   subst only;exact⟨d.2.2.2.1,d.2.1,d.2.2.2.2.1,d.2.2.2.2.2⟩
  ·by_cases f:b=T
   ·subst f;rw[zG]at e;cases e;exact new
   ·rw[zK f]at e
    exact(I.hok b u e).stay (λc v _ q=>q) (λc q=>by rw[zK (zJ q a)];exact q) λc g q=>by rw[zK (zJ q a)];exact q
 exact J
end
end L2
namespace L2
open PySem PySem.Spec PyProof.Rows Own
section
variable {X:Cx}{pins:List (JI × Obj)}{σ:St}{H:Hp}{s:JO}{d:JI}
theorem Inv.reword {u v:HO}(I:Inv X pins σ H s)(hd:H d=some u)(h:∀ xs,u≠.tup xs)(nb:∀ ps,u≠.tbl ps)(no:∀ a,u≠.own a)(l:∀ o' i,X.H₀ d≠some (.frz o' i))(new:ObjOk X.prog X.w (upd H d v) s.heap d v):Inv X pins σ (upd H d v) s:=by
 have ne:∀ {b},H b=none->b≠d:=λe z=>by rw[z,hd]at e;cases e
 have f:∀ {b} {q:HO},H b=some q->q≠u->upd H d v b=some q:=λ{b q} e n=>by
  rw[zK];· exact e
  ·intro z
   rw[z,hd]at e;exact n (Jp e).symm
 refine⟨I.ok,I.os,I.bare,⟨I.base.keep,I.base.slot,λb q e n m=>?_,I.base.there,λb xs e=>f (I.base.tups b xs e) λz=>h xs z.symm,λb q w e=>?_,λb ps e=>?_⟩,I.loc,I.cell,?_,λx c e=>?_,λp o=>?_,λb q e=>?_,I.len⟩
 ·have z:=I.base.free b q e n m
  rw[zK (ne z)];exact z
 ·rw[zK]
  ·exact I.base.frzs b q w e
  ·rintro rfl;exact l q w e
 ·obtain⟨more,z⟩:=I.base.tbls b ps e
  exact⟨more,f z λq=>nb _ q.symm⟩
 ·rw[zK (ne I.free)];exact I.free
 ·have z:=I.freeC x c e
  rw[zK (ne z)];exact z
 ·obtain⟨k,g,j⟩:=I.pin p o
  exact⟨k,by rw[zK (ne g)];exact g,j⟩
 ·by_cases z:b=d
  ·subst z
   rw[zG]at e;cases e;exact new
  ·rw[zK z]at e
   exact(I.hok b q e).stay (λc w _ r=>r) (λc r=>f r λz=>no _ z.symm) λc xs r=>f r λz=>h _ z.symm
end
def NIv (H:Hp):KI->V->Prop
 | .inl i,v=>v=.int i
 | .inr xs,v=>∃ b,v=.ref b/\H b=some (.tup (xs.map V.int))
def NIvs (H:Hp):KN->List V->Prop
 | [],vs=>vs=[]
 | k::ks,vs=>∃ v r,vs=v::r/\NIv H k v/\NIvs H ks r
def NKey (H:Hp)(k:KN)(b:JI):Prop:=∃ a,H b=some (.tup a)/\NIvs H k a
theorem NIvs.tups {H H':Hp}(t:∀ b ys,H b=some (.tup ys)->H' b=some (.tup ys)):∀ {k:KN}{ys:List V},NIvs H k ys->NIvs H' k ys
 | [],_,h=>h
 | .inl i::k,_,h=>by
  obtain⟨v,r,e,h1,a⟩:=h
  exact⟨v,r,e,h1,NIvs.tups t a⟩
 | .inr d::k,_,h=>by
  obtain⟨v,r,e,⟨b,h1,c⟩,a⟩:=h;exact⟨v,r,e,⟨b,h1,t _ _ c⟩,NIvs.tups t a⟩
theorem NKey.tups {H H':Hp}(t:∀ b ys,H b=some (.tup ys)->H' b=some (.tup ys)){k:KN}{b:JI}(h:NKey H k b):NKey H' k b:=by
 obtain⟨ys,c,a⟩:=h;exact⟨ys,t _ _ c,a.tups t⟩
section
variable {P:Yo}{w:YI}{H:Hp}{h:YP}
theorem nZ (ok:HOk P w H h):∀ {k:KN}{ys:List V}{its:List Jo},NIvs H k ys->Vals ys its->NIts P w h k its
 | [],_,its,a,r=>by
  rw[show _=[] from a]at r
  cases r;rfl
 | k::ks,_,its,a,r=>by
  obtain⟨v,q,rfl,a1,a2⟩:=a
  cases r with
  | @cons _ u _ g c r =>
   refine⟨u,g,rfl,?_,nZ ok a2 r⟩
   cases k with
   | inl i=>rw[show v=.int i from a1]at c;exact c
   | inr d =>
    obtain⟨b,rfl,f⟩:=a1;refine⟨b,c,?_⟩;have e:d.map V.int=(d.map (Sum.inl:Int->Key)).map kV:=by rw[List.map_map];rfl
    rw[e]at f;exact zbC ok f
theorem uE (ok:HOk P w H h){k:KN}{b:JI}(a:NKey H k b):NIs P w h k b:=by
 obtain⟨d,e,a⟩:=a;obtain⟨_,c,r,o,i,g,n,f⟩:=(show ObjOk P w H h b (.tup d) from ok b _ e);exact⟨o,c.toArray,n,i,g,f.1,by simpa using nZ ok a r⟩
end
abbrev KVN:=List (KN × JI × V)
def PrN:KN × JI × V->KN × JI × Jo->Prop:=λp q=>p.1=q.1/\p.2.1=q.2.1/\RelV p.2.2 q.2.2
def vM (xs:KVN)(k:KN):Option V:=(xs.find? λx=>decide (x.1=k)).map (·.2.2)
def wn (xs:KVN)(k:KN)(b:JI)(v:V):KVN:=if (vM xs k).isSome then xs.map λx=>if x.1=k then (x.1,x.2.1,v) else x else xs++[(k,b,v)]
theorem tX {xs:KVN}{vs:List (KN × JI × Jo)}(r:Paired PrN xs vs)(k:KN):RelO (vM xs k) ((atKey vs k).map (·.2)):=by
 induction r with
 | nil=>exact True.intro
 | @cons p q b a h t ih =>
  unfold vM atKey at ih ⊢;rw[YR,YR,h.1];by_cases c:q.1=k
  ·rw[JC c];exact h.2.2
  ·rw[Js c];exact ih
theorem dZ {xs:KVN}{vs:List (KN × JI × Jo)}(r:Paired PrN xs vs)(k:KN){v:V}{u:Jo}(a:RelV v u):Paired PrN (xs.map λx=>if x.1=k then (x.1,x.2.1,v) else x) (vs.map (putAt k u)):=by
 induction r with
 | nil=>exact .nil
 | @cons p q d b h t ih =>
  refine .cons ?_ ih;unfold putAt;dsimp only;by_cases c:q.1=k
  ·rw[Jm (h.1.trans c),Jm c];exact⟨h.1,h.2.1,a⟩
  ·rw[Jf (λz=>c (h.1.symm.trans z)),Jf c];exact h
theorem putN_rel {xs:KVN}{vs:List (KN × JI × Jo)}(r:Paired PrN xs vs)(k:KN)(b:JI){v:V}{u:Jo}(a:RelV v u):Paired PrN (wn xs k b v) (storedH vs k b u):=by
 have e:=(tX r k).isSome_eq;rw[Option.isSome_map]at e;unfold wn storedH;rw[<- e];by_cases c:(vM xs k).isSome=true
 ·rw[Jm c,Jm c];exact dZ r k a
 ·rw[Jf c,Jf c];exact Paired.snoc r ⟨rfl,rfl,a⟩
theorem nG (xs:KVN)(k:KN)(b:JI)(v:V):(wn xs k b v).length<=xs.length+1:=by
 unfold wn;split
 ·rw[Je];lia
 ·rw[Jd];exact Jg _
def PhN (P:Yo)(w:YI)(a:JI)(xs:KVN):YP->Prop:=λh=>xs.length<=sizeLine/\(a == sysModules)=false/\∃ b,Paired PrN xs b /\
 ∃ o c d,h.get? a=some o/\o.ExactDict/\o.data=.dict c d/\c.toList=b.map (entryOfKey (xS P w))/\(b.map (·.1)).Nodup
def DN (P:Yo)(w:YI)(a:JI)(xs:KVN):HO:=.ext (PhN P w a xs)
def KsIn (H:Hp)(xs:KVN):Prop:=∀ x∈xs,NKey H x.1 x.2.1
theorem KsIn.tups {H H':Hp}{xs:KVN}(t:∀ b ys,H b=some (.tup ys)->H' b=some (.tup ys))(h:KsIn H xs):KsIn H' xs:=λx a=>(h x a).tups t
section
variable {P:Yo}{w:YI}{H H':Hp}{h h':YP}{a:JI}{xs:KVN}
theorem dn_new (z:xs.length<=sizeLine)(hd:(a == sysModules)=false){vs:List (KN × JI × Jo)}(r:Paired PrN xs vs)(d:h'.DictOfH (xS P w) a vs):ObjOk P w H' h' a (DN P w a xs):=by
 obtain⟨o,h,i,b,g,f,e,_,c⟩:=d;refine⟨⟨z,hd,vs,r,o,h,i,b,g,f,e,c⟩,⟨o,b⟩,λk j ⟨z,hd,vs,r,o,h,i,b,g,f,e,c⟩ s=>⟨z,hd,vs,r,o,h,i,s o b,g,f,e,c⟩⟩
theorem rV (ok:HOk P w H h)(e:Rd H a (DN P w a xs))(ks:KsIn H xs):xs.length<=sizeLine/\(a == sysModules)=false/\∃ vs,Paired PrN xs vs/\h.DictOfH (xS P w) a vs:=by
 obtain⟨⟨z,i,vs,r,o,m,n,l,k,j,f,d⟩,u,s⟩:=(show ObjOk P w H h a (DN P w a xs) from zaw ok e);refine⟨z,i,vs,r,o,m,n,l,k,j,f,?_,d⟩;clear f d e z u s
 induction r with
 | nil=>intro x b;exact nomatch b
 | @cons p q A v c t ih =>
  intro x b;rcases Jr.mp b with here|there
  ·have:=uE ok (ks p JJ)
   rw[c.1,c.2.1,<- here]at this;exact this
  ·exact ih (λy g=>ks y (JH _ g)) x there
end
section
variable {X:Cx}{pins:List (JI × Obj)}{σ:St}{H:Hp}{s:JO}{a b:JI}{xs:KVN}{k:KN}{v d:V}{r:Jo}{A:YO}{E:Jo->JO->Prop}
theorem jS (a:A.units+3<cLine):(xS X.prog X.w).room A.in1:=by show A.in1.units+2<cLine;rw[Around.in1_units];omega
theorem zc0 {Q:Jo->JO->Prop}(d:A.units+3<cLine)(I:Inv X pins σ H s)(e:Rd H a (DN X.prog X.w a xs))(ks:KsIn H xs)(c:NKey H k b)(h:∀ s',Inv X pins σ H s'->Q (.bool (vM xs k).isSome) s') :
  wpAny (model X.prog X.w) A (compareOp .In (.ref b) (.ref a)) Q E s:=by
 obtain⟨z,f,i,rel,g⟩:=rV I.hok e ks;refine wpAny_in_heap (jS d) (uE I.hok c) f g ?_;have q:=(tX rel k).isSome_eq;rw[Option.isSome_map]at q;rw[<- q];exact h _ (I.tok _)
theorem zbv {Q:Jo->JO->Prop}(l:A.units+3<cLine)(I:Inv X pins σ H s)(e:Rd H a (DN X.prog X.w a xs))(ks:KsIn H xs)(j:NKey H k b)(i:RelV d r)(h:∀ c s',Inv X pins σ H s'->RelV ((vM xs k).getD d) c->Q c s') :
  wpAny (model X.prog X.w) A (call (.builtin "dict.get") [.ref a,.ref b,r]) Q E s:=by
 obtain⟨z,m,g,rel,f⟩:=rV I.hok e ks;exact call_meetsIn PySem.F.slot_dict_get f.typeIs PySem.F.entry_dict_get (PySem.F.args_dict_get_3 _ _ _) (meetsH_dict_get_default (xS X.prog X.w) a b m r) ⟨jS l,k,g,uE I.hok j,f,h _ _ (I.tok _) ((tX rel k).getD i)⟩
theorem gE {Q:Unit->JO->Prop}(j:A.units+3<cLine)(I:Inv X pins σ H s)(e:H a=some (DN X.prog X.w a xs))(ks:KsIn H xs)(g:NKey H k b)(f:RelV v r)(l:xs.length<sizeLine)(h:∀ s',Inv X pins σ (upd H a (DN X.prog X.w a (wn xs k b v))) s'->Q () s') :
  wpAny (model X.prog X.w) A (setItem (.ref a) (.ref b) r) Q E s:=by
 obtain⟨z,t,d,rel,w⟩:=rV I.hok (.inl e) ks;have i:d.length<=sizeLine:=by rw[<- YG rel];exact z
 have o:(wn xs k b v).length<=sizeLine:=by have:=nG xs k b v;lia
 refine wpAny_setItem_heap (hsz:=i) (jS j) (uE I.hok g) w λu c m=>h _ ?_;have p:∃ q,u.get? a=some q:=let ⟨q,_,_,n,_⟩:=c;⟨q,n⟩;exact oP I (by rw[e];exact True.intro) m p (dn_new o t (putN_rel rel k b f) c)
end
section
variable {prog:Yo}{w:YI}{A:YO}{E:Jo->JO->Prop}{s:JO}{d:JI}
theorem gh {o:Obj}{a:Array DictEntry}{f:Nat}{Q:Jo->JO->Prop}(b:s.heap.get? d=some o)(e:o.ExactDict)(hd:o.data=.dict a f)(hs:(d == sysModules)=false)(h:Q (.int a.size s.toks) { s with toks:=s.toks+1 }) :
  wpAny (model prog w) A (Builtin.«dict.__len__» ⟨[.ref d],[]⟩) (λfin c=>∃ r,fin=.done (.ret r)/\Q r c) E s:=by
 have ty:s.TypeIs (.ref d) "dict":=⟨o,b,e.1⟩;unfold Builtin.«dict.__len__» Builtin.Dict.dictSlotNone;refine J0 (J0 (wpAny_notOrdered_dict ty ?_));refine J0 ?_;show wpAny _ _ (pure ((.ref d,[]):Jo × List Jo)) _ _ _;refine J9 (J9 (J0 ?_));show wpAny _ _ (pure d) _ _ _;unfold dictSize;refine J9 (J0 (J0 (Yv b hd (J9 (J0 (wpAny_pendingCount_other hs ?_))))));unfold retInt
 have g:Q (.int ((a.size:Int)+((0:Nat):Int)) s.toks) { s with toks:=s.toks+1 }:=by
  rw[show ((a.size:Int)+((0:Nat):Int))=a.size from Int.add_zero _];exact h
 exact J0 (wpAny_mkInt (J9 ⟨_,rfl,g⟩))
theorem nv {o:Obj}{a:Array DictEntry}{f:Nat}{Q:Jo->JO->Prop}(c:s.heap.get? d=some o)(b:o.ExactDict)(hd:o.data=.dict a f)(hs:(d == sysModules)=false)(g:(a.size:Int)<2 ^ 63)(h:∀ t,Q (.int a.size t) { s with toks:=s.toks+1+1 }) :
  wpAny (model prog w) A (Builtin.«len» ⟨[.ref d],[]⟩) (λfin e=>∃ r,fin=.done (.ret r)/\Q r e) E s:=by
 have ty:s.TypeIs (.ref d) "dict":=⟨o,c,b.1⟩;unfold Builtin.«len»;refine J0 ?_;show wpAny _ _ (pure (Value.ref d)) _ _ _;refine J9 (J0 (wpAny_callSpecial?_slot ty PySem.F.slot_dict_len (Yr PySem.F.slot_dict_len ty PySem.F.entry_dict_len (gh c b hd hs ?_) (PySem.F.args_dict_len_1 _))));show wpAny _ _ (holding [Value.int (a.size:Int) s.toks] (asIndex (.int (a.size:Int) s.toks)) >>= _) _ _ _;refine J0 (Yd (show wpAny _ _ (pure (a.size:Int)) _ _ _ from J9 (J0 (Zg ?_))));dsimp only;rw[Jf (by simp_all),Jf (by simp_all)];unfold retInt;exact J0 (wpAny_mkInt (J9 ⟨_,rfl,h _⟩))
end
section
variable {X:Cx}{pins:List (JI × Obj)}{σ:St}{H:Hp}{s:JO}{a:JI}{xs:KVN}{A:YO}{E:Jo->JO->Prop}
theorem jW {P:Yo}{w:YI}{h:YP}(ok:HOk P w H h)(e:Rd H a (DN P w a xs)):(a == sysModules)=false/\∃ o b c,h.get? a=some o/\o.ExactDict/\o.data=.dict b c/\b.size=xs.length/\(b.size:Int)<2 ^ 63:=by
 obtain⟨⟨z,d,k,r,o,b,c,j,i,g,f,m⟩,_,_⟩:=(show ObjOk P w H h a (DN P w a xs) from zaw ok e);have l:b.size=xs.length:=by rw[Wc f,<- YG r]
 refine⟨d,o,b,c,j,i,g,l,?_⟩;rw[JB]at z;lia
theorem zcj {Q:Jo->JO->Prop}(I:Inv X pins σ H s)(e:Rd H a (DN X.prog X.w a xs))(h:∀ t s',Inv X pins σ H s'->Q (.int xs.length t) s'):wpAny (model X.prog X.w) A (call (.builtin "len") [.ref a]) Q E s:=by
 obtain⟨b,o,i,j,g,d,c,l,f⟩:=jW I.hok e;refine Calls.call_function_entry kind_len plain_len entry_len (args_len1 _) (nv g d c b f λt=>?_);rw[l];exact h _ _ (I.tok _)
theorem az {Q:Bool->JO->Prop}(I:Inv X pins σ H s)(e:Rd H a (DN X.prog X.w a xs))(h:∀ s',Inv X pins σ H s'->Q (!xs.isEmpty) s'):wpAny (model X.prog X.w) A (truthy (.ref a)) Q E s:=by
 obtain⟨i,o,g,p,d,c,j,l,f⟩:=jW I.hok e;have ty:s.TypeIs (.ref a) "dict":=⟨o,d,c.1⟩
 have q:∀ (n:Nat) (b:Bool),n=xs.length->b=((n:Int) != 0)->b = !xs.isEmpty:=λn b k e2=>by
  subst k e2
  cases xs with
  | nil=>rfl
  | cons x r=>rw[Yq];simp;lia
 unfold truthy;show wpAny _ _ (callSpecial? (Value.ref a) (Str.ofString "__bool__") >>= _) _ _ _;refine J0 (wpAny_callSpecial?_none (T:="dict") ty noBool_dict ?_);show wpAny _ _ (specialOf (Value.ref a) (Str.ofString "__len__") >>= _) _ _ _;refine J0 (wpAny_specialOf (T:="dict") ty PySem.F.slot_dict_len.lookup ?_);show wpAny _ _ (runValue (Code.builtin "len" { pos:=[Value.ref a] }) >>= _) _ _ _;refine J0 (wpAny_runValue (YQ entry_len ?_));refine JK (nv (Q:=λr s'=>(∃ t,r=.int g.size t)/\Inv X pins σ H s') d c j i f λt=>⟨⟨t,rfl⟩,I.tok _⟩) ?_ λ_ _ z=>z;rintro fin s' ⟨r,rfl,⟨t,rfl⟩,m⟩;refine J9 ?_;rw[q g.size _ l rfl];exact h s' m
end
def NAt (P:Yo)(w:YI)(H:Hp)(a:JI)(xs:KVN):Prop:=Rd H a (DN P w a xs)/\KsIn H xs
def zaP (P:Yo)(w:YI)(g ty f:TE):TE:=λσ H Q=>g σ H λx e=>∃ a,x=.ref a/\(∃ c,Rd e a (DN P w a c))/\ty σ e λy h=>f σ h λz d=>∃ b c k,y=.ref b/\NAt P w d a c/\NKey d k b/\Q ((vM c k).getD z) d
def zcc (P:Yo)(w:YI)(f ty e:TE):TS:=λD σ H=>e σ H λv h=>f σ h λx g=>ty σ g λy d=>∃ a b c k,x=.ref a/\y=.ref b/\d a=some (DN P w a c)/\KsIn d c/\NKey d k b/\c.length<sizeLine/\D.nx σ (upd d a (DN P w a (wn c k b v)))
section
variable {X:Cx}{o i e f value:Expr}{pos pos' apos cpos:Pos}{td ty tv tx:TE}
theorem kD {pins:List (JI × Obj)}{σ:St}{H:Hp}{s:JO}{a:JI}{xs:KVN}(I:Inv X pins σ H s)(d:Rd H a (DN X.prog X.w a xs)) :
  s.TypeIs (.ref a) "dict"/\∀ b,Value.ref a=.ref b->∃ ob,s.heap.get? b=some ob/\ob.dict=none:=by
 obtain⟨_,q,f,g,e,c,_⟩:=jW I.hok d;refine⟨⟨q,e,c.1⟩,λb z=>?_⟩;cases z;exact⟨q,e,c.2.1⟩
theorem dw (D:X.A.units+3<cLine) (E:PE X o td) (G:PE X e ty) (F:PE X f tx) (m:M2 X o "get" apos e f cpos):PE X (.Call (.Attribute o "get" apos) [e,f] [] cpos) (zaP X.prog X.w td ty tx):=by
 intro pins s σ H Q I h;refine wpAny_Call_method m.base m.few m.line PySem.F.plainAttrs_dict PySem.F.slot_dict_get PySem.F.type_dict_get (thn (E pins s σ H _ I h) λu p ⟨x,P,g,t,a,ex,⟨R,d⟩,A⟩=>?_);subst ex;cases (show u=Value.ref a from t);obtain⟨j,i⟩:=kD g d;refine⟨j,i,?_⟩;rw[m.trees]
 refine ZS rfl (Calls.evalArgs_plain (ZQ (thn (G pins p σ P _ g A) λC l ⟨y,O,M,r,w⟩ =>
  ZQ (thn (F pins l σ O _ M w) λW V ⟨z,N,L,q,b,S,k,J,n,B,v⟩=>Wn ?_))))
 subst J;cases (show C=Value.ref b from r);exact zbv D L n.1 n.2 B q λT U K c=>⟨_,N,K,c,v⟩
theorem aV (z:X.A.units+3<cLine)(A:PE X o td)(hi:PE X i ty)(w:PE X value tv)(hs:swapsWith value (some (.Subscript o i pos')) pos.line X.env=pure false) :
  PS X (.Assign [.Subscript o i pos'] value pos) (zcc X.prog X.w td ty tv):=by
 intro pins s σ H D I h;refine wpAny_Assign_Subscript (thn (w pins s σ H _ I h) λr d ⟨v,L,J,g,n⟩=>thn (A pins d σ L _ J n) λu c ⟨x,K,G,f,m⟩=>thn (hi pins c σ K _ G m) λt O ⟨y,P,F,e,a,b,M,k,ex,C,B,p,q,l,j⟩=>?_) hs;subst ex C;cases (show u=Value.ref a from f);cases (show t=Value.ref b from e);exact gE z F B p q g l λN E=>⟨σ,_,E,j⟩
theorem gq:CallR X (.builtin "len") (λvs H Q=>∃ a xs,vs=[.ref a]/\Rd H a (DN X.prog X.w a xs)/\Q (.int xs.length) H):=by
 intro pins s σ H vs g Q I b ⟨a,xs,e,d,q⟩;subst e;obtain⟨u,rfl,c⟩:=b.one;cases (show u=Value.ref a from c);exact zcj I d λt h f=>⟨.int xs.length,H,f,⟨t,rfl⟩,q⟩
theorem zbT:TruR X (λx H Q=>∃ a xs,x=.ref a/\Rd H a (DN X.prog X.w a xs)/\Q (!xs.isEmpty) H):=by
 intro pins s σ H x v Q I b ⟨a,xs,e,d,q⟩;subst e;cases (show v=Value.ref a from b);exact az I d λf c=>⟨H,c,q⟩
theorem zcZ (ha:PE X o td)(e:∀ whole,isTrue o X.env whole=(do let v <- whole;standAt o.pos;holding [v] (truthy v))) :
  PT X o (λσ H Q=>td σ H λx H'=>∃ a xs,x=.ref a/\Rd H' a (DN X.prog X.w a xs)/\Q (!xs.isEmpty) H'):=by
 intro pins s σ H Q I h;exact isTrue_plain (thn (ha pins s σ H _ I h) λv b ⟨x,g,f,c,d⟩=>zbT pins b σ g x v Q f c d) (e _)
def zb1 (P:Yo)(w:YI):TE:=λ_ H Q=>∀ p,H p=none->Q (.ref p) (upd H p (DN P w p []))
theorem jH:PE X (.Dict [] [] pos) (zb1 X.prog X.w):=λpins s σ H Q I h =>
 wpAny_Dict_empty ⟨.ref s.heap.objs.size,_,I.laid (a:=s.heap.objs.size) (o:=DN X.prog X.w s.heap.objs.size []) (t':=s.toks) (λ_ _ q=>J8 _ q) (Jg _)
  (dn_new (vs:=[]) (JL _) (ZF.mpr (Z5 I.big)) .nil (Heap.DictOfH.new _)),rfl,h _ (I.hok.fresh (Jg _))⟩
end
def zcV (P:Yo)(w:YI)(p:JI)(Q:VK):List (V × V)->Hp->Prop
 | [(y,v)],a=>∃ b k,y=.ref b/\a p=some (DN P w p [])/\NKey a k b/\Q (.ref p) (upd a p (DN P w p [(k,b,v)]))
 | _,_=>False
def zb0 (P:Yo)(w:YI)(ty c:TE):TE:=λσ H Q=>∀ p,H p=none->ty σ (upd H p (DN P w p [])) λy d=>c σ d λv a=>∃ b k,y=.ref b/\a p=some (DN P w p [])/\NKey a k b/\Q (.ref p) (upd a p (DN P w p [(k,b,v)]))
section
variable {X:Cx}{e f:Expr}{pos:Pos}{ty tv:TE}
theorem dv (N:X.A.units+3<cLine)(D:PE X e ty)(w:PE X f tv):PE X (.Dict [some e] [f] pos) (zb0 X.prog X.w ty tv):=by
 intro pins s σ H Q I q;have C:=I.hok.fresh (Jg s.heap.objs.size)
 have J:=I.laid (a:=s.heap.objs.size) (o:=DN X.prog X.w s.heap.objs.size []) (h':=s.heap.push { cls:=.type "dict",data:=.dict #[] }) (t':=s.toks) (λ_ _ q=>J8 _ q) (Jg _)
  (dn_new (vs:=[]) (JL _) (ZF.mpr (Z5 I.big)) .nil (Heap.DictOfH.new _))
 refine wpAny_Dict_any rfl rfl (by simp) (by show 1<=15;lia) (thn ((dh D w aW) pins _ σ _ (zcV X.prog X.w s.heap.objs.size Q) J (q _ C)) ?_);rintro vs M ⟨n,O,d,rel,r⟩
 match n,rel,r with
 | [(y,v)],rel,r =>
  obtain⟨b,k,rfl,g,p,m⟩:=r
  cases rel with
  | @cons _ i _ K h t =>
   cases t;obtain⟨j,L⟩:=i;cases (show j=Value.ref b from h.1);obtain⟨z,F,vs,l,G⟩:=rV d.hok (.inl g) (λx u=>nomatch u);cases l;unfold storeAll;rw[Zc];refine J0 (J0 (wpAny_dictSet_heap (knd:=xS X.prog X.w) (k:=k) (hsz:=JL _) (show X.A.units+2<cLine by lia) (uE d.hok p) G λh' c A=>J9 ?_));dsimp only;rw[ZU];refine J9 ⟨.ref s.heap.objs.size,_,?_,rfl,m⟩;have E:∃ q,h'.get? s.heap.objs.size=some q:=let ⟨q,_,_,B,_⟩:=c;⟨q,B⟩
   exact oP d (by rw[g];exact True.intro) A E (dn_new (by show 1<=sizeLine;decide) F (.cons ⟨rfl,rfl,h.2⟩ .nil) c)
 | [],_,r=>exact r.elim
 | _::_::_,_,r=>exact r.elim
end
section
variable {prog:Yo}{w:YI}{A:YO}{E:Jo->JO->Prop}{s:JO}{d:JI}
theorem gS {Q:Int->JO->Prop}(q:Q (reduceHash 0xFCA86420) { s with toks:=s.toks+1 }):wpAny (model prog w) A (pyHash .none) Q E s:=by
 show wpAny (model prog w) A (pyHashByItsType .none) Q E s;refine W.pyHash_slot (T:="NoneType") (id:="NoneType.__hash__") (B:=Builtin.«NoneType.__hash__») rfl F.slot_NoneType_hash F.entry_NoneType_hash (F.args_NoneType_hash_1 _) (by decide) (.inl rfl) ?_;unfold Builtin.«NoneType.__hash__»;refine J0 ?_;show wpAny _ _ (pure _) _ _ _;unfold retInt;exact J9 (J0 (wpAny_mkInt (J9 ⟨_,_,rfl,q⟩)))
theorem um {a:JI}{k:KN}{Q:Bool->JO->Prop}(d:A.units<cLine)(c:NIs prog w s.heap k a)(q:Q false s):wpAny (model prog w) A (eqBool (.ref a) .none) Q E s:=by
 obtain⟨as,b⟩:=c.reads;exact PySem.SeqAt.eqBoolOverData prog w A E s _ _ _ .none as [] Q b .none (kW k).1 rfl (by show A.units+min _ 0<cLine;simp_all) q
theorem lh {n:Nat}{Q:Bool->JO->Prop}(q:Q true s):wpAny (model prog w) A (eqIsQuiet n .none) Q E s:=by
 cases n<;>exact J9 q
theorem qH {α β:Type}{f:α->β->Sem (ForInStep β)}{b:β}:∀ (l:List α) {Q:β->JO->Prop},(∀ i∈l,∀ R:ForInStep β->JO->Prop,R (.yield b) s->wpAny (model prog w) A (f i b) R E s)->Q b s->wpAny (model prog w) A (forIn l b f) Q E s
 | [],Q,_,q=>by rw[ZU];exact J9 q
 | i::l,Q,h,q=>by
  rw[Zc];exact J0 (h i JJ _ (qH l (λj a=>h j (JH _ a)) q))
theorem iN {stored:List Jo}{Q:Bool->JO->Prop}(h:∀ v∈stored,∃ a k,v=.ref a/\NIs prog w s.heap k a)(q:Q false s):wpAny (model prog w) A (tableMayTell .none stored) Q E s:=by
 unfold tableMayTell;by_cases c:stored.isEmpty=true
 ·rw[Jm c];exact J9 q
 rw[Jf c];refine J0 (lh (J0 (qH stored (λv b R r=>?_) (J9 q))));obtain⟨a,k,rfl,d⟩:=h v b;exact J0 (si d (J9 r))
theorem gZ {o:Obj}{b:Array DictEntry}{j:Nat}{h:Int}{Q:Option Nat->JO->Prop}(u:A.units<cLine)(g:s.heap.get? d=some o)(hd:o.data=.dict b j)(F:∀ e∈b.toList,∃ a k,e.key=.ref a/\NIs prog w s.heap k a)(q:Q none s) :
  wpAny (model prog w) A (dictFind d .none h) Q E s:=by
 have key:∀ (i:Nat) (e:DictEntry),b[i]?=some e->∃ a k,e.key=.ref a/\NIs prog w s.heap k a:=λi e f=>F e (by
  obtain⟨l,z⟩:=JZ.mp f
  rw[<- z];exact Array.getElem_mem_toList l)
 unfold dictFind;refine Yd (J0 (Yv g hd ?_));by_cases c:(Value.none::List.filterMap (λi=>Option.map (λx=>x.key) b[i]?) (placesWithHash b.size (λi=>Option.map (λx=>x.hash) b[i]?) h)).all carriedByValue=true
 ·refine(JP (λm=>wpAny (model prog w) A m Q E s) (Jm c)).mpr ?_
  unfold dictWalkPlain;refine J0 (qH _ (λi B R r=>?_) (J9 q))
  cases f:b[i]? with
  | none=>exact J9 r
  | some e =>
   obtain⟨a,k,t,n⟩:=key i e f;by_cases ch:(e.hash == h)=true
   ·refine(JP (λm=>wpAny (model prog w) A m R E s) (Jm ch)).mpr (J0 (YC g hd (J0 ?_)))
    rw[t];refine um u n (J0 (YC g hd ?_));dsimp only;rw[Jf (c:=(j != j)=true) (by simp),Jf Jj];exact J0 (Z3 (J9 r))
   ·exact(JP (λm=>wpAny (model prog w) A m R E s) (Jf ch)).mpr (J9 r)
 ·refine(JP (λm=>wpAny (model prog w) A m Q E s) (Jf c)).mpr ?_
  have y:∀ v∈List.filterMap (λi=>Option.map (λx=>x.key) b[i]?) (placesWithHash b.size (λi=>Option.map (λx=>x.hash) b[i]?) h),∃ a k,v=.ref a/\NIs prog w s.heap k a:=λv D=>by
   obtain⟨i,-,e,f,rfl⟩:∃ i:Nat,True/\∃ e:DictEntry,b[i]?=some e/\e.key=v:=by
    obtain⟨i,p⟩:=List.mem_filterMap.mp D;exact⟨i,True.intro,YN.mp p.2⟩
   exact key i e f
  by_cases C:(List.filterMap (λi=>Option.map (λx=>x.key) b[i]?) (placesWithHash b.size (λi=>Option.map (λx=>x.hash) b[i]?) h) == [Value.none])=true
  ·refine(JP (λm=>wpAny (model prog w) A m Q E s) (Jm C)).mpr (J0 (J9 ?_))
   dsimp only;rw[Jf (by simp)];refine J0 (qH _ (λi B R r=>?_) (J9 q))
   cases f:b[i]? with
   | none=>exact J9 r
   | some e =>
    obtain⟨a,k,t,n⟩:=key i e f;by_cases ch:(e.hash == h)=true
    ·refine(JP (λm=>wpAny (model prog w) A m R E s) (Jm ch)).mpr (J0 (YC g hd (J0 ?_)))
     rw[t];refine um u n (J0 (YC g hd ?_));rw[Jf (c:=(j != j)=true) (by simp),Jf Jj];refine J0 (Z3 ?_);rw[Jf (by simp)];exact J9 r
    ·exact(JP (λm=>wpAny (model prog w) A m R E s) (Jf ch)).mpr (J9 r)
  ·refine(JP (λm=>wpAny (model prog w) A m Q E s) (Jf C)).mpr (J0 (iN y ?_))
   dsimp only;rw[Jf (by simp)];refine J0 (qH _ (λi B R r=>?_) (J9 q))
   cases f:b[i]? with
   | none=>exact J9 r
   | some e =>
    obtain⟨a,k,t,n⟩:=key i e f;by_cases ch:(e.hash == h)=true
    ·refine(JP (λm=>wpAny (model prog w) A m R E s) (Jm ch)).mpr (J0 (YC g hd (J0 ?_)))
     rw[t];refine um u n (J0 (YC g hd ?_));rw[Jf (c:=(j != j)=true) (by simp),Jf Jj];refine J0 (Z3 ?_);rw[Jf (by simp)];exact J9 r
    ·exact(JP (λm=>wpAny (model prog w) A m R E s) (Jf ch)).mpr (J9 r)
theorem bP {o:Obj}{b:Array DictEntry}{h:Nat}{Q:Option Jo->JO->Prop}(c:A.units<cLine)(f:s.heap.get? d=some o)(hd:o.data=.dict b h)(g:∀ e∈b.toList,∃ a k,e.key=.ref a/\NIs prog w s.heap k a)(q:Q none { s with toks:=s.toks+1 }) :
  wpAny (model prog w) A (dictGet d .none) Q E s:=by
 unfold dictGet;exact Yd (J0 (gS (J0 (gZ (s:={ s with toks:=s.toks+1 }) c f hd g (J9 q)))))
theorem r8 {o:Obj}{b:Array DictEntry}{i:Nat}{Q:Jo->JO->Prop}(f:A.units<cLine)(g:s.heap.get? d=some o)(j:o.ExactDict)(hd:o.data=.dict b i)(hs:(d == sysModules)=false)(h:∀ e∈b.toList,∃ a k,e.key=.ref a/\NIs prog w s.heap k a)(q:Q (.bool false) { s with toks:=s.toks+1 }) :
  wpAny (model prog w) A (Builtin.«dict.__contains__» ⟨[.ref d,.none],[]⟩) (λfin c=>∃ r,fin=.done (.ret r)/\Q r c) E s:=by
 unfold Builtin.«dict.__contains__»;refine J0 ?_;show wpAny _ _ (pure (d,Value.none)) _ _ _;refine J9 (J0 (bP f g hd h ?_));show wpAny _ _ (Builtin.Dict.pendingKey? d .none >>= _) _ _ _;exact J0 (wpAny_pendingKey_other hs (J9 ⟨_,rfl,q⟩))
section
variable {X:Cx}{pins:List (JI × Obj)}{σ:St}{H:Hp}{a:JI}{xs:KVN}
theorem cZ {Q:Jo->JO->Prop}(q:A.units+3<cLine)(I:Inv X pins σ H s)(e:Rd H a (DN X.prog X.w a xs))(ks:KsIn H xs)(h:∀ s',Inv X pins σ H s'->Q (.bool false) s') :
  wpAny (model X.prog X.w) A (compareOp .In .none (.ref a)) Q E s:=by
 obtain⟨z,i,p,rel,o,n,t,d,c,m,l,j,r⟩:=rV I.hok e ks
 have g:∀ e∈n.toList,∃ a k,e.key=.ref a/\NIs X.prog X.w s.heap k a:=λe b=>by
  rw[l]at b;obtain⟨x,f,rfl⟩:=Jy.mp b;exact⟨x.2.1,x.1,rfl,j x f⟩
 have ty:s.TypeIs (.ref a) "dict":=⟨o,d,c.1⟩;show wpAny _ _ (contains (.ref a) .none >>= _) _ _ _
 exact J0 (wpAny_contains_slot ty slot_dict_contains (Yr slot_dict_contains ty entry_dict_contains
  (r8 (by rw[Around.in1_units];lia) d c m i g (Ze (J9 (h _ (I.tok _))))) (args_dict_contains _ _)))
end
def zcX (P:Yo)(w:YI):V->V->Hp->VK->Prop:=λx y H Q=>∃ a c,y=.ref a/\NAt P w H a c/\((∃ b k,x=.ref b/\NKey H k b/\Q (.bl (vM c k).isSome) H)\/(x=.non/\Q (.bl false) H))
theorem zbj {X:Cx}(e:X.A.units+3<cLine):OpR X (compareOp .In) (zcX X.prog X.w):=by
 intro pins s σ H x y v u Q I d h ⟨a,f,j,n,q⟩;subst j;cases (show u=Value.ref a from h);rcases q with ⟨b,k,ex,i,q⟩|⟨ex,q⟩
 ·subst ex
  cases (show v=Value.ref b from d);exact zc0 e I n.1 n.2 i λg c=>⟨.bl (vM f k).isSome,H,c,rfl,q⟩
 ·subst ex
  cases (show v=Value.none from d);exact cZ e I n.1 n.2 λg c=>⟨.bl false,H,c,rfl,q⟩
end
section
variable {prog:Yo}{w:YI}{A:YO}{E:Jo->JO->Prop}{s:JO}{d b:JI}{K:Type}[DecidableEq K]{knd:HeapKind prog w K}{xs:List (K × JI × Jo)}{k:K}{v:Jo}
theorem sU {Q:Unit->JO->Prop}(I:knd.room A)(u:knd.is s.heap k b)(J:s.heap.DictOfH knd d xs)(G:xs.length<=sizeLine)(q:∀ h',h'.DictOfH knd d (storedH xs k b v)->Heap.SameBut d s.heap h'->Q () { s with heap:=h' }):wpAny (model prog w) A (dictSetHashed d (.ref b) (knd.hash k) v) Q E s:=by
 obtain⟨o,K,L,g,t,f,r,l,h⟩:=J;unfold dictSetHashed;refine Yd (J0 (wpAny_dictFind_heap I u g f r l h (λno=>?_) (λj p n=>?_)))
 ·refine J0 (Z3 (wpAny_updateDictKeys g f (q _ ?_ (Zq _ _ _)) (by rw[Wc r];exact G) (by simp)))
  have m:=Zq s.heap d (Obj.mapDictKeys λx=>x.push ⟨knd.hash k,.ref b,v⟩);refine⟨_,_,_,Yt _ g (Obj.isFreed_of_dict (Obj.data_mapDictKeys f _)),t.mapDictKeys _,Obj.data_mapDictKeys f _,?_,?_,?_⟩
  ·rw[storedH_new (atKey_none_of_get no),JV,Zx,r];rfl
  ·rw[storedH_new (atKey_none_of_get no)]
   intro x i;rcases Jv.mp i with z|z
   ·exact knd.keeps (l x z) g f m
   ·rw[Jc.mp z];exact knd.keeps u g f m
  ·rw[storedH_new (atKey_none_of_get no),JV,Wp]
   refine⟨h,by simp,λa C c B=>?_⟩;rw[List.map_singleton,Jc]at B;rintro rfl;rw[B]at C;exact not_mem_keys_of_get no C
 ·refine J0 (Z3 (J0 (wpAny_updateDict g f (wpAny_point (q _ ?_ (Zq _ _ _))) (by simp))))
  have m:=Zq s.heap d (Obj.mapDict λx=>x.modify j λe=>{ e with val:=v });refine⟨_,_,_,Yt _ g (Obj.isFreed_of_dict (Obj.data_mapDict f _)),t.mapDict _,Obj.data_mapDict f _,?_,?_,?_⟩
  ·rw[storedH_old (atKey_of_get h n),We,r]
   exact modify_map_putAt _ _ k v (λa D=>rfl) h n
  ·have F:=storedH_old (atKey_of_get h n) b v
   rw[F];intro x i;obtain⟨y,H,rfl⟩:=Jy.mp i;have:=knd.keeps (l y H) g f m;unfold putAt;split
   ·exact this
   ·exact this
  ·rw[storedH_old (atKey_of_get h n),keys_map_putAt];exact h
def mergeN (xs ys:List (K × JI × Jo)):List (K × JI × Jo):=ys.foldl (λacc y=>storedH acc y.1 y.2.1 y.2.2) xs
theorem iO (acc:List (K × JI × Jo))(y:K × JI × Jo):(storedH acc y.1 y.2.1 y.2.2).length<=acc.length+1:=by
 unfold storedH;split
 ·rw[Je];simp_all
 ·rw[Jd];exact Jg _
theorem vY {o:JI}{ob:Obj}{ys:List (K × JI × Jo)}{Q:PUnit->JO->Prop}{f:Nat->PUnit->Sem (ForInStep PUnit)}(ne:d≠o)(step:∀ (i:Nat) (a:i<ys.length) (s:JO) (acc:List (K × JI × Jo)) (R:ForInStep PUnit->JO->Prop),s.heap.get? o=some ob->s.heap.DictOfH knd d acc->knd.is s.heap ys[i].1 ys[i].2.1->acc.length<=sizeLine ->
   (∀ h',h'.DictOfH knd d (storedH acc ys[i].1 ys[i].2.1 ys[i].2.2)->Heap.SameBut d s.heap h'->R (.yield PUnit.unit) { s with heap:=h' })->wpAny (model prog w) A (f i PUnit.unit) R E s) :
  ∀ (m i:Nat) (s:JO) (acc:List (K × JI × Jo)),i+m=ys.length->s.heap.get? o=some ob->s.heap.DictOfH knd d acc->(∀ x∈ys,knd.is s.heap x.1 x.2.1)->acc.length+m<=sizeLine ->
  (∀ h',h'.DictOfH knd d (mergeN acc (ys.drop i))->Heap.SameBut d s.heap h'->Q PUnit.unit { s with heap:=h' })->wpAny (model prog w) A (forIn (List.range' i m) PUnit.unit f) Q E s
 | 0,i,s,acc,r,g,b,e,n,q=>by
  rw[List.range'_zero,ZU];refine J9 (q s.heap ?_ (Heap.SameBut.refl _ _));rw[List.drop_eq_nil_of_le (by simp_all)]
  exact b
 | m+1,i,s,acc,r,g,b,e,n,q=>by
  have a:i<ys.length:=by lia
  rw[show List.range' i (m+1)=i::List.range' (i+1) m from rfl,Zc];refine J0 (step i a s acc _ g b (e _ (JY a)) (by lia) λh' k c=>?_);obtain⟨C,y,B,v,H,u,G,F,D⟩:=b;have l:h'.get? o=some ob:=by rw[c.2 o (λz=>ne z.symm)];exact g
  refine vY ne step m (i+1) { s with heap:=h' } _ (by lia) l k (λx p=>knd.keeps (e x p) v u c) ?_ λt j h=>q t ?_ (c.trans h)
  ·have:=iO acc ys[i]
   lia
  ·rw[YS a]
   exact j
end
section
variable {prog:Yo}{w:YI}{A:YO}{E:Jo->JO->Prop}{s:JO}{d:JI}{K:Type}[DecidableEq K]{knd:HeapKind prog w K}{xs ys:List (K × JI × Jo)}
theorem cD {o:JI}{ob:Obj}{a:Array DictEntry}{j:Nat}{nm:String}{Q:Array DictEntry->JO->Prop}(h1:s.heap.get? o=some ob)(i:ob.data=.dict a j)(f:a.toList=ys.map (entryOfKey knd))(k:ys.length<=1)(h:∀ x∈ys,∀ R:Bool->JO->Prop,R false s->wpAny (model prog w) A (Builtin.Dict.quietEq (.ref x.2.1)) R E s)(q:Q a s):wpAny (model prog w) A (Builtin.Dict.entriesForEmpty nm o) Q E s:=by
 show wpAny _ _ (dictEntries o >>= _) _ _ _;refine J0 (Yv h1 i (J0 ?_));rw[<- Array.forIn_toList];refine qH _ (λe d R r=>?_) (J9 q);rw[f]at d;obtain⟨x,g,rfl⟩:=Jy.mp d;refine J0 (h x g _ ?_)
 have b:¬(Array.filter (λz=>z.hash == (entryOfKey knd x).hash) a).size > 1:=by
  have m:=Array.size_filter_le (p:=λz:DictEntry=>z.hash == (entryOfKey knd x).hash) (xs:=a);have l:=Wc f;lia
 rw[Jm (c:=(!false)=true) rfl,Jf b];exact J9 r
theorem zbl {o2:Obj}{b c:Array DictEntry}{e:Nat}{y:K × JI × Jo}(f:s.heap.get? d=some o2)(k:o2.ExactDict)(a:o2.data=.dict c e)(j:b.toList=[y].map (entryOfKey knd))(i:knd.is s.heap y.1 y.2.1) :
  (s.heap.update d (Obj.mapDictKeys λ_=>b)).DictOfH knd d [y]:=by
 have g:=Zq s.heap d (Obj.mapDictKeys λ_=>b);refine⟨_,_,_,Yt _ f (Obj.isFreed_of_dict (Obj.data_mapDictKeys a _)),k.mapDictKeys _,Obj.data_mapDictKeys a _,j,?_,by simp⟩;intro x h;rw[Jc.mp h];exact knd.keeps i f a g
theorem kG {o:JI}{nm:String}{Q:Unit->JO->Prop}(O:knd.room A)(ne:d≠o)(U:(o == sysModules)=false)(G:s.heap.DictOfH knd d xs)(S:s.heap.DictOfH knd o ys)(N:xs.length+ys.length<=sizeLine)(T:xs≠[]\/ys.length=1)(P:∀ x∈ys,∀ R:Bool->JO->Prop,R false s->wpAny (model prog w) A (Builtin.Dict.quietEq (.ref x.2.1)) R E s)(q:∀ h',h'.DictOfH knd d (mergeN xs ys)->Heap.SameBut d s.heap h'->Q () { s with heap:=h' }):wpAny (model prog w) A (Builtin.Dict.mergeDict nm d o) Q E s:=by
 obtain⟨ob,h,t,g,h2,b,l,H,Z⟩:=id S;obtain⟨Y,r,X,J,W,I,V,g5,g6⟩:=id G
 have sz:([:h.size]:Std.Legacy.Range).size=ys.length:=by
  rw[<- Wc l];simp[Std.Legacy.Range.size]
 unfold Builtin.Dict.mergeDict;rw[Jf (by simpa using ne)];refine J0 ?_;unfold Builtin.Dict.showsAll;rw[Jf (by rw[U];simp)];refine J9 (J0 (Yv g b ?_));dsimp only;by_cases p:(!(decide (h.size<=8) && h.all λe=>(keyPart e.key).isSome))=true
 ·rw[Jm p]
  refine J0 (Yv J I ?_);by_cases em:r.isEmpty=true
  ·rw[Jm em]
   have e2:r.size=0:=by simpa using em
   have M:xs=[]:=by
    rw[Wc V]at e2;exact List.eq_nil_of_length_eq_zero e2
   have L:ys.length=1:=T.resolve_left λz=>z M;have u:h.size=1:=(Wc l).trans L;refine J0 (cD g b l (by simp_all) P ?_);rw[Jm (c:=(!h.isEmpty)=true) (by simp;intro z;rw[z]at u;cases u)];refine J0 (wpAny_updateDictKeys J I (J9 (q _ ?_ (Zq _ _ _))) (by rw[e2];exact JL _) (by rw[u];lia));obtain⟨y,rfl⟩:=List.length_eq_one_iff.mp L;subst M;exact zbl J W I l (H y JJ)
  ·rw[Jf em]
   refine J0 (YC g b (J0 (Yv g b (J0 ?_))));refine(JP (λm=>wpAny (model prog w) A m _ E s) (Std.Legacy.Range.forIn_eq_forIn_range' _ _ _)).mpr ?_;rw[sz];refine vY (ob:=ob) (ys:=ys) ne (λi F s acc R n C D v B=>?_) ys.length 0 s xs (by lia) g G H N λh' a f=>J9 (q h' a f);have K:h[i]?=some (entryOfKey knd ys[i]):=by rw[entry_at l,J7 F];rfl
   refine J0 (Yv n b ?_);rw[K];refine J0 (Yd (sU (k:=ys[i].1) O D C v λh' a f=>?_));have j:h'.get? o=some ob:=by rw[f.2 o (λz=>ne z.symm)];exact n
   refine J0 (YC (s:={ s with heap:=h' }) j b ?_);rw[Jf (c:=(t != t)=true) (by simp)];exact J9 (B h' a f)
 ·rw[Jf p]
  refine J0 (YC g b (J0 (Yv g b (J0 ?_))));refine(JP (λm=>wpAny (model prog w) A m _ E s) (Std.Legacy.Range.forIn_eq_forIn_range' _ _ _)).mpr ?_;rw[sz];refine vY (ob:=ob) (ys:=ys) ne (λi F s acc R n C D v B=>?_) ys.length 0 s xs (by lia) g G H N λh' a f=>J9 (q h' a f);have K:h[i]?=some (entryOfKey knd ys[i]):=by rw[entry_at l,J7 F];rfl
  refine J0 (Yv n b ?_);rw[K];refine J0 (Yd (sU (k:=ys[i].1) O D C v λh' a f=>?_));have j:h'.get? o=some ob:=by rw[f.2 o (λz=>ne z.symm)];exact n
  refine J0 (YC (s:={ s with heap:=h' }) j b ?_);rw[Jf (c:=(t != t)=true) (by simp)];exact J9 (B h' a f)
theorem dO {a:JI}{k:KN}{R:Bool->JO->Prop}(h:NIs prog w s.heap k a)(r:R false s):wpAny (model prog w) A (Builtin.Dict.quietEq (.ref a)) R E s:=by
 obtain⟨o,d,n,c,b,f,e⟩:=h;exact J0 (wpAny_specialOf (T:="tuple") ⟨o,c,b⟩ F.slot_tuple_eq.lookup (J9 r))
theorem oi {o:JI}{Q:Jo->JO->Prop}(i:knd.room A)(ne:d≠o)(l:(o == sysModules)=false)(e:s.heap.DictOfH knd d xs)(c:s.heap.DictOfH knd o ys)(h:xs.length+ys.length<=sizeLine)(k:xs≠[]\/ys.length=1)(j:∀ x∈ys,∀ R:Bool->JO->Prop,R false s->wpAny (model prog w) A (Builtin.Dict.quietEq (.ref x.2.1)) R E s)(q:∀ h',h'.DictOfH knd d (mergeN xs ys)->Heap.SameBut d s.heap h'->Q .none { s with heap:=h' }):wpAny (model prog w) A (Builtin.«dict.update» ⟨[.ref d,.ref o],[]⟩) (λfin g=>∃ r,fin=.done (.ret r)/\Q r g) E s:=by
 have ty:=c.typeIs;unfold Builtin.«dict.update»;refine J0 ?_;show wpAny _ _ (Builtin.Dict.notOrdered "update" ⟨[Value.ref d,Value.ref o],[]⟩ >>= _) _ _ _;refine J0 (wpAny_notOrdered_dict (s:=s) e.typeIs ?_);show wpAny _ _ (pure (d,[Value.ref o])) _ _ _;refine J9 ?_;show wpAny _ _ (Builtin.Dict.updateFrom "dict.update" d (.ref o) [] .none) _ _ _;show wpAny _ _ (typeOf (Value.ref o) >>= _) _ _ _;refine J0 (ZB ty ?_);rw[Jf (by simp)];refine J0 ?_;unfold Builtin.Dict.merge Builtin.Dict.readDirectly;refine J0 (J0 (wpAny_isInstance (T:="dict") (b:=true) ty rfl ?_));rw[Jf (by simp)];refine J0 (wpAny_specialOf (T:="dict") ty F.slot_dict_iter.lookup (J9 ?_));rw[Jm (by decide)];refine J0 ?_;show wpAny _ _ (pure o) _ _ _;refine J9 (kG i ne l e c h k j λh' a f=>?_);refine J0 ?_;show wpAny _ _ (pure ()) _ _ _;exact J9 (J9 ⟨_,rfl,q h' a f⟩)
end
def wv (xs ys:KVN):KVN:=ys.foldl (λacc y=>wn acc y.1 y.2.1 y.2.2) xs
theorem mergeV_rel:∀ {ys:KVN}{us:List (KN × JI × Jo)}{xs:KVN}{vs:List (KN × JI × Jo)},Paired PrN ys us->Paired PrN xs vs->Paired PrN (wv xs ys) (mergeN vs us):=by
 intro ys us xs vs r
 induction r generalizing xs vs with
 | nil=>intro q;exact q
 | @cons p u a us h t ih =>
  intro q;have e:=putN_rel q p.1 p.2.1 h.2.2;rw[show storedH vs p.1 p.2.1 u.2.2=storedH vs u.1 u.2.1 u.2.2 by rw[h.1,h.2.1]]at e;exact ih e
theorem mergeV_len:∀ (ys xs:KVN),(wv xs ys).length<=xs.length+ys.length
 | [],xs=>Jg _
 | y::ys,xs=>by
  have h1:=mergeV_len ys (wn xs y.1 y.2.1 y.2.2);have a:=nG xs y.1 y.2.1 y.2.2;show (wv (wn xs y.1 y.2.1 y.2.2) ys).length<=_;rw[JW];lia
section
variable {X:Cx}{pins:List (JI × Obj)}{σ:St}{H:Hp}{s:JO}{a b:JI}{xs ys:KVN}{A:YO}{E:Jo->JO->Prop}
theorem cY {Q:Jo->JO->Prop}(p:A.units+3<cLine)(ne:a≠b)(I:Inv X pins σ H s)(j:H a=some (DN X.prog X.w a xs))(m:KsIn H xs)(D:Rd H b (DN X.prog X.w b ys))(l:KsIn H ys)(i:xs.length+ys.length<=sizeLine)(v:xs≠[]\/ys.length=1)(h:∀ s',Inv X pins σ (upd H a (DN X.prog X.w a (wv xs ys))) s'->Q .none s'):wpAny (model X.prog X.w) A (call (.builtin "dict.update") [.ref a,.ref b]) Q E s:=by
 obtain⟨z,y,G,rel,k⟩:=rV I.hok (.inl j) m;obtain⟨F,g,J,c,d⟩:=rV I.hok D l;refine Yr PySem.F.slot_dict_update k.typeIs PySem.F.entry_dict_update (oi (jS p) ne g k d (by rw[<- YG rel,<- YG c];exact i) ?_ ?_ λC f t=>h _ ?_) (PySem.F.args_dict_update_2 _ _)
 ·rcases v with z|z
  ·refine .inl λe=>z ?_
   subst e;cases rel;rfl
  ·exact .inr (by rw[<- YG c];exact z)
 ·intro x n R r
  obtain⟨o,P,S,O,N,M,L,B,K⟩:=d;exact dO (B x n) r
 ·have w:∃ q,C.get? a=some q:=let ⟨q,_,_,u,_⟩:=f;⟨q,u⟩
  exact oP I (by rw[j];exact True.intro) t w (dn_new (JX (mergeV_len _ _) i) y (mergeV_rel c rel) f)
end
def zbZ (P:Yo)(w:YI)(g ty:TE):TE:=λσ H Q=>g σ H λx f=>∃ a,x=.ref a/\(∃ c,Rd f a (DN P w a c))/\ty σ f λy e=>∃ b c d,y=.ref b/\a≠b/\e a=some (DN P w a c)/\KsIn e c/\NAt P w e b d/\c.length+d.length<=sizeLine/\(c≠[]\/d.length=1)/\Q .non (upd e a (DN P w a (wv c d)))
theorem aZ {X:Cx}{o e:Expr}{apos cpos:Pos}{c ty:TE}(w:X.A.units+3<cLine) (z:PE X o c) (B:PE X e ty) (m:M1 X o "update" apos e cpos):PE X (.Call (.Attribute o "update" apos) [e] [] cpos) (zbZ X.prog X.w c ty):=by
 intro pins s σ H Q I h;refine wpAny_Call_method m.base m.few m.line PySem.F.plainAttrs_dict PySem.F.slot_dict_update PySem.F.type_dict_update (thn (z pins s σ H _ I h) λu j ⟨x,G,f,l,a,ex,⟨J,d⟩,q⟩=>?_);subst ex;cases (show u=Value.ref a from l);obtain⟨i,g⟩:=kD f d;refine⟨i,g,?_⟩;rw[m.trees];refine ZS rfl (Calls.evalArgs_plain (ZQ (thn (B pins j σ G _ f q) λt N ⟨y,O,F,k,b,L,K,C,ne,D,r,n,v,A,p⟩=>Wn ?_)));subst C;cases (show t=Value.ref b from k);exact cY w ne F D r n.1 n.2 v A λM E=>⟨.non,_,E,rfl,p⟩
section
variable {X:Cx}{pins:List (JI × Obj)}{σ:St}{H:Hp}{s:JO}{d:JI}{o:Obj}{xs:KVN}
theorem Inv.freezeN (I:Inv X pins σ H s)(hd:H d=some (DN X.prog X.w d xs)):∃ o a b,s.heap.get? d=some o/\o.ExactDict/\o.data=.dict a b/\a.size=xs.length/\(d == sysModules)=false/\Inv X pins σ (upd H d (.frz o (DN X.prog X.w d xs))) s:=by
 obtain⟨g,o,a,b,c,i,h,l,_⟩:=jW I.hok (.inl hd);refine⟨o,a,b,c,i,h,l,g,I.reword hd (λxs q=>by cases q) (λxs q=>by cases q) (λxs q=>by cases q) (λf e q=>?_) ⟨c,(show ObjOk X.prog X.w H s.heap d (DN X.prog X.w d xs) from I.hok d _ hd)⟩⟩;have:=I.base.frzs d f e q;rw[hd]at this;cases this
theorem Inv.thawN (I:Inv X pins σ H s)(hd:H d=some (.frz o (DN X.prog X.w d xs)))(b:∀ o' a,X.H₀ d≠some (.frz o' a)):Inv X pins σ (upd H d (DN X.prog X.w d xs)) s:=by
 obtain⟨_,r⟩:=(show ObjOk X.prog X.w H s.heap d (.frz o (DN X.prog X.w d xs)) from I.hok d _ hd);exact I.reword hd (λxs q=>by cases q) (λxs q=>by cases q) (λxs q=>by cases q) b r
theorem Inv.meltedN (I:Inv X pins σ H s){ys:KVN}(hd:H d=some (DN X.prog X.w d ys)):∀ o' a,X.H₀ d≠some (.frz o' a):=λo' a q=>by
 have:=I.base.frzs d o' a q;rw[hd]at this;cases this
theorem Inv.walkedN {c:Array DictEntry}{h:Nat}(I:Inv X pins σ H s)(hd:H d=some (.frz o (DN X.prog X.w d xs)))(e:o.data=.dict c h):s.heap.get? d=some o/\∃ vs,Paired PrN xs vs/\c.toList=vs.map (entryOfKey (xS X.prog X.w)):=by
 obtain⟨g,⟨z,l,vs,r,k,i,j,b,n,a,f,m⟩,_,_⟩:=(show ObjOk X.prog X.w H s.heap d (.frz o (DN X.prog X.w d xs)) from I.hok d _ hd);rw[g]at b;obtain rfl:=Jp b;rw[e]at a;cases a;exact⟨g,vs,r,f⟩
end
theorem zcg {xs:KVN}{vs:List (KN × JI × Jo)}(r:Paired PrN xs vs):∀ {i:Nat}{p:KN × JI × V},xs[i]?=some p->∃ q,vs[i]?=some q/\PrN p q:=by
 induction r with
 | nil=>intro i p h;cases h
 | cons q t ih =>
  intro i p h
  cases i with
  | zero=>cases Jp h;exact⟨_,rfl,q⟩
  | succ i=>exact ih h
section
variable {prog:Yo}{w:YI}{A:YO}{E:Jo->JO->Prop}{s:JO}{d it:JI}{o:Obj}{es:Array DictEntry}{ep i:Nat}{e:DictEntry}{k0 v0:Jo}
theorem kC {Q:Jo->JO->Prop}(y:s.heap.get? d=some o) (hd:o.data=.dict es ep) (hi:IsItemIter s.heap it d i es.size ep k0 v0) (C:es[i]?=some e)
  (q:∀ h',IsItemIterOut h' it d (i+1) es.size ep e.key e.val s.heap.objs.size->h'.get? s.heap.objs.size=some { cls:=.type "tuple",data:=.seq #[e.key,e.val] }->(∀ b u,b≠it->s.heap.get? b=some u->h'.get? b=some u)->Q (.ref s.heap.objs.size) { s with heap:=h' }) :
  wpAny (model prog w) A (Builtin.«dict_itemiterator.__next__» ⟨[.ref it],[]⟩) (λfin B=>∃ v,fin=.done (.ret v)/\Q v B) E s:=by
 have ty:s.TypeIs (.ref it) "dict_itemiterator":=⟨_,hi,rfl⟩;unfold Builtin.«dict_itemiterator.__next__»;refine J0 ?_;show wpAny _ _ (pure (Value.ref it)) _ _ _;refine J9 (J0 (J0 (J0 (W7 ty (J9 (J0 (wpAny_fieldsOf hi rfl ?_)))))));show wpAny _ _ (Builtin.Dict_items.addrOf (Value.ref d) >>= _) _ _ _;refine J0 (show wpAny _ _ (pure d) _ _ _ from J9 (J0 (Yv y hd ?_)));dsimp only;rw[Jf (c:=((es.size:Int) != (es.size:Int))=true) (by simp)];refine J0 (show wpAny _ _ (pure d) _ _ _ from J9 (J0 (YC y hd ?_)));rw[Jf (c:=((ep:Int) != (ep:Int))=true) (by simp)];refine J9 ?_;dsimp only;rw[Jf (c:=(i:Int)<0) (by lia),Yk,C];refine J0 (J0 (W7 ty (J9 (J0 (wpAny_isOneOf_itemiter ty ?_)))));show wpAny _ _ (setField (.ref it) 3 (rawInt ((i:Int)+1)) >>= _) _ _ _;refine J0 (Yn hi (by show 3<8;lia) λa h g=>J0 (Yd (J0 (wpAny_isOneOf_itemiter ⟨_,h,rfl⟩ ?_))));show wpAny _ _ (Builtin.Dict_items.isOneOf _ _ >>= _) _ _ _;refine J0 (wpAny_isOneOf_itemiter ⟨_,h,rfl⟩ ?_);show wpAny _ _ (Builtin.Dict_items.pairFromOwner (.ref it) 6 e.key e.val) _ _ _;unfold Builtin.Dict_items.pairFromOwner newTuple;refine J0 (JR ?_ (by show 2<=sizeLine;decide));have f:=J8 { cls:=Value.type "tuple",data:=Data.seq #[e.key,e.val] } h;have k:=Jq a (o:={ cls:=Value.type "tuple",data:=Data.seq #[e.key,e.val] }) rfl;have t:a.objs.size≠it:=Z5 (Jn h);have sz:a.objs.size=s.heap.objs.size:=g.1;have x:∀ b u,b≠it->s.heap.get? b=some u->(a.push { cls:=Value.type "tuple",data:=Data.seq #[e.key,e.val] }).get? b=some u:=λb u nb j=>J8 _ ((g.2 b nb).trans j);show wpAny (model prog w) A _ _ E { s with heap:=a.push { cls:=Value.type "tuple",data:=Data.seq #[e.key,e.val] } };generalize a.push { cls:=Value.type "tuple",data:=Data.seq #[e.key,e.val] }=h2 at f k x;show wpAny _ _ ((field (.ref it) 0 >>= _) >>= _) _ _ _;refine J0 (J0 (Zf f rfl rfl ?_));show wpAny _ _ (pure true) _ _ _;refine J9 ?_;show wpAny _ _ (field (.ref it) 6 >>= _) _ _ _;refine J0 (Zf f rfl rfl (J0 (Zf f rfl rfl ?_)));refine J0 (Yn f (by show 6<8;lia) λK H p=>J0 (Yn H (by show 7<8;lia) λJ G n=>J0 (Yn G (by show 0<8;lia) λI F m=>J0 (Yn F (by show 1<8;lia) λD z l=>J0 (Zg ?_)))));have r:=((p.trans n).trans m).trans l;refine J9 (J9 ⟨_,rfl,?_⟩);show Q (.ref a.objs.size) _;rw[sz]at k z t ⊢;exact q D z ((r.2 _ t).trans k) λb u nb j=>(r.2 b nb).trans (x b u nb j)
theorem gA {Q:Option Jo->JO->Prop}(a:s.heap.get? d=some o) (hd:o.data=.dict es ep) (hi:IsItemIter s.heap it d i es.size ep k0 v0) (c:es[i]?=some e)
  (q:∀ h',IsItemIterOut h' it d (i+1) es.size ep e.key e.val s.heap.objs.size->h'.get? s.heap.objs.size=some { cls:=.type "tuple",data:=.seq #[e.key,e.val] }->(∀ b u,b≠it->s.heap.get? b=some u->h'.get? b=some u)->Q (some (.ref s.heap.objs.size)) { s with heap:=h' }):wpAny (model prog w) A (pyNext (.ref it)) Q E s:=by
 have ty:s.TypeIs (.ref it) "dict_itemiterator":=⟨_,hi,rfl⟩;unfold pyNext;exact J0 (wpAny_attempt (wpAny_callSpecial?_slot ty W9 (Yr W9 ty F.entry_dict_itemiterator_next (kC a hd hi c λh' h g f=>J9 (q h' h g f)) (F.args_dict_itemiterator_next_1 _))))
theorem kX {Q:Fin->JO->Prop}(e:A.handled=none) (a:s.heap.get? d=some o) (hd:o.data=.dict es ep) (hi:IsItemIter s.heap it d i es.size ep k0 v0) (f:es[i]?=none)
  (q:∀ h' ev,Heap.ExtBut it s.heap h'->({ s with heap:=h' }:JO).TypeIs ev "StopIteration"->E ev { s with heap:=h' }) :
  wpAny (model prog w) A (Builtin.«dict_itemiterator.__next__» ⟨[.ref it],[]⟩) Q E s:=by
 have ty:s.TypeIs (.ref it) "dict_itemiterator":=⟨_,hi,rfl⟩;unfold Builtin.«dict_itemiterator.__next__»;refine J0 ?_;show wpAny _ _ (pure (Value.ref it)) _ _ _;refine J9 (J0 (J0 (J0 (W7 ty (J9 (J0 (wpAny_fieldsOf hi rfl ?_)))))));show wpAny _ _ (Builtin.Dict_items.addrOf (Value.ref d) >>= _) _ _ _;refine J0 (show wpAny _ _ (pure d) _ _ _ from J9 (J0 (Yv a hd ?_)));dsimp only;rw[Jf (c:=((es.size:Int) != (es.size:Int))=true) (by simp)];refine J0 (show wpAny _ _ (pure d) _ _ _ from J9 (J0 (YC a hd ?_)));rw[Jf (c:=((ep:Int) != (ep:Int))=true) (by simp)];refine J9 ?_;dsimp only;rw[Jf (c:=(i:Int)<0) (by lia),Yk,f];refine J0 (J0 (W7 ty (J9 (J0 ?_))));show wpAny _ _ (setField (.ref it) 2 .none) _ _ _;refine wpAny_setField hi rfl (by show 2<8;lia) (J0 ?_);unfold newExc newTuple;refine J0 (JR ?_ (by show 0<=sizeLine;exact JL _));unfold firstArgMember;refine J0 (J0 (J9 (J9 (JR (wpAny_raiseNew_none e ?_) ?_))))
 rotate_left
 ·show (_++_:Array Jo).size<=sizeLine+2
  rw[YF];show 6+0<=sizeLine+2;rw[JB];lia
 refine q _ _ (λb u nb g=>?_) ⟨_,Jq _ rfl,rfl⟩;exact J8 _ (J8 _ (((Zq s.heap it _).2 b nb).trans g))
theorem gB {Q:Option Jo->JO->Prop}(c:A.handled=none)(b:s.heap.get? d=some o)(hd:o.data=.dict es ep)(hi:IsItemIter s.heap it d i es.size ep k0 v0)(e:es[i]?=none)(q:∀ h',Heap.ExtBut it s.heap h'->Q none { s with heap:=h' }):wpAny (model prog w) A (pyNext (.ref it)) Q E s:=by
 have ty:s.TypeIs (.ref it) "dict_itemiterator":=⟨_,hi,rfl⟩;unfold pyNext;refine J0 (wpAny_attempt (wpAny_callSpecial?_slot ty W9 (Yr W9 ty F.entry_dict_itemiterator_next (kX c b hd hi e λh' ev k a=>?_) (F.args_dict_itemiterator_next_1 _))));exact J0 (wpAny_isInstance a isSubtype_stop (J9 (q h' k)))
theorem kZ {v:JI}{Q:Jo->JO->Prop}(b:s.heap.IsItemsView v d) (c:s.heap.get? d=some o) (hd:o.data=.dict es ep)
  (q:Q (.ref s.heap.objs.size) { s with heap:=s.heap.push { cls:=.type "dict_itemiterator",data:=.fields #[.none,.bool false,.ref d,.int 0 0,.int es.size 0,.int ep 0,.none,.none] } }):wpAny (model prog w) A (pyIter (.ref v)) Q E s:=by
 obtain⟨i,g,h,f⟩:=id b;have ty:=b.typeIs;have nx:=F.slot_dict_itemiterator_next.lookup
 have body:wpAny (model prog w) A.in1 (Builtin.«dict_items.__iter__» ⟨[.ref v],[]⟩) (λfin a=>∃ v,fin=.done (.ret v)/\∃ e r,a.TypeIs v e/\typeLookup (Value.type e) (Str.ofString "__next__")=pure (some r)/\Q v a) E s:=by
  unfold Builtin.«dict_items.__iter__» Builtin.Dict_items.newIterator;refine J0 (show wpAny _ _ (pure (Value.ref v)) _ _ _ from J9 (J0 (J0 (Zf g f rfl ?_))));refine(show wpAny _ _ (pure d) _ _ _ from J9 (J0 ?_));refine J0 (Yv c hd (J0 (YC c hd ?_)));refine JR (J9 ⟨_,rfl,_,_,⟨_,Jq _ rfl,rfl⟩,nx,q⟩) ?_;show 8<=sizeLine+2;rw[JB];lia
 exact wpAny_pyIter_slot ty F.slot_dict_items_iter (Yr F.slot_dict_items_iter ty F.entry_dict_items_iter body (F.args_dict_items_iter_1 _))
end
def Itni (P:Yo)(w:YI)(d:JI)(o:Obj)(xs:KVN):It:=⟨λi H=>H d=some (.frz o (DN P w d xs))/\i<xs.length,λi H x a=>∃ p T,xs[i]?=some p/\H T=none/\x=.ref T/\a=upd H T (.tup [.ref p.2.1,p.2.2]),λi H=>H d=some (.frz o (DN P w d xs))/\i=xs.length⟩
theorem oo {P:Yo}{w:YI}{K:Jl}{F:List Expr}{k1}{T:Pos}(d it:JI)(o:Obj)(xs:KVN){n:Array DictEntry}{O:Nat}(j:o.data=.dict n O)(hl:n.size=xs.length):Turn P w K (.Tuple F k1 T) (Itni P w d o xs) [it] it (λi h=>∃ a b,IsItemIter h it d i n.size O a b) where
 mem:=Jc.mpr rfl
 obj:=λi h ⟨a,b,st⟩ c m=>by
  cases Jc.mp m;exact⟨_,st,λv z=>by cases z⟩
 keep:=λi h Z ⟨a,b,st⟩ k=>⟨a,b,k it (Jc.mpr rfl) _ st⟩
 item:=by
  intro X B x C m i pins s σ H E I l ⟨a,b,st⟩ ⟨A,M⟩;subst B x C;obtain⟨g,R,r,Q⟩:=I.walkedN A j;have f:=l it (Jc.mpr rfl);obtain⟨p,N⟩:∃ p,xs[i]?=some p:=⟨_,J7 M⟩;obtain⟨q,V,J⟩:=zcg r N;have ei:n[i]?=some (entryOfKey (xS X.prog X.w) q):=by rw[entry_at Q,V];rfl
  have L:s.heap.objs.size≠it:=Z5 (Jn st);refine gA g j st ei λh1 U Y t=>⟨_,rfl,wpAny_letOwnedTupleGo_items U λh2 D G=>?_⟩;have S:RelV (.ref p.2.1) (Value.ref q.2.1):=by show Value.ref q.2.1=Value.ref p.2.1;rw[J.2.1]
  refine⟨.ref s.heap.objs.size,upd H s.heap.objs.size (.tup [.ref p.2.1,p.2.2]),I.spunN (t':=s.toks) (fp:=[it]) (λc u y e=>?_) l (Jg _) (ph ((G.2 _ L).trans Y) S J.2.2),rfl,⟨p,_,N,I.fresh,rfl,rfl⟩,⟨_,_,D⟩,λc y=>?_⟩
  ·have ne:c≠it:=λz=>y (Jc.mpr z)
   exact(G.2 c ne).trans (t c u ne e)
  ·cases Jc.mp y
   rw[zK L.symm];exact f.1
 done:=by
  intro X B x C m i pins s σ H E I l ⟨a,b,st⟩ ⟨A,M⟩;subst B x C;obtain⟨g,R,r,Q⟩:=I.walkedN A j;obtain⟨f0,f1,f2,f3,f4,f5⟩:=l it (Jc.mpr rfl);exact gB (I.ok.hd m) g j st (Array.getElem?_eq_none (by simp_all)) λZ t=>⟨rfl,I.turned (t':=s.toks) (λc u W e=>t c u W e) f0 f1 f3 f4 f5⟩
 self:=λ_ _ _ _ _ ⟨_,_,st⟩ h=>PySem.W.kcp_self st h
section
variable {X:Cx}
def jq (P:Yo)(w:YI)(c:TE):TI:=λσ H R=>c σ H λx b=>∃ d a,x=.ref d/\b d=some (DN P w d a)/\∀ o,R (Itni P w d o a) (upd b d (.frz o (DN P w d a)))
theorem kf {prog:Yo}{w:YI}{A:YO}{E:Jo->JO->Prop}{s:JO}{d:JI}{o:Obj}{Q:Jo->JO->Prop}(b:s.heap.get? d=some o) (a:o.ExactDict) (hs:(d == sysModules)=false)
  (q:Q (.ref s.heap.objs.size) { s with heap:=s.heap.push { cls:=.type "dict_items",data:=.fields #[.ref d] } }):wpAny (model prog w) A (call (.builtin "dict.items") [.ref d]) Q E s:=by
 have ty:s.TypeIs (.ref d) "dict":=⟨o,b,a.1⟩;refine Yr F.slot_dict_items ty F.entry_dict_items ?_ (F.args_dict_items_1 _);unfold Builtin.«dict.items» Builtin.Dict.showsAll;refine J0 ?_;show wpAny _ _ (Builtin.Dict.notOrdered "items" ⟨[Value.ref d],[]⟩ >>= _) _ _ _;refine J0 (wpAny_notOrdered_dict (s:=s) ty ?_);refine(show wpAny _ _ (pure d) _ _ _ from J9 ?_);rw[Jf (by rw[hs];simp)];refine J0 (J9 (J0 (JR (J9 ⟨_,rfl,q⟩) ?_)));show 1<=sizeLine+2;rw[JB];lia
theorem qM {l:Expr}{tl:TE}{apos cpos y:Pos}{j:List Expr}{k1} (B:PE X l tl) (c:attributeBase l "items" X.env (eval l X.env)=eval l X.env:=by rfl) (a:(apos.endLine == cpos.line)=true:=by rfl):PI X (.Tuple j k1 y) (.Call (.Attribute l "items" apos) [] [] cpos) (jq X.prog X.w tl):=by
 intro pins s σ H R I h;refine wpAny_Call_method0_late c a (thn (B pins s σ H _ I h) λv f ⟨x,J,n,w,d,p,ex,m,q⟩=>?_);subst ex;cases w;obtain⟨t,r⟩:=kD n (.inl m);obtain⟨o,F,G,g,z,k,le,A,E⟩:=n.freezeN m;refine⟨"dict","dict.items",PySem.F.plainAttrs_dict,PySem.F.slot_dict_items,PySem.F.type_dict_items,t,r,ZS rfl (PySem.evalArgs_none ?_)⟩;refine kf g z A ?_;have i:=E.kept (t':=f.toks) (h':=f.heap.push { cls:=.type "dict_items",data:=.fields #[.ref d] }) λb u e=>J8 _ e;have D:=J8 { cls:=.type "dict_items",data:=.fields #[.ref d] } g;refine kZ (s:={ f with heap:=f.heap.push { cls:=.type "dict_items",data:=.fields #[.ref d] } }) ⟨_,Jq _ rfl,rfl,rfl⟩ D k ?_;refine⟨_,[_],_,_,_,rfl,i.kept (t':=f.toks) λb u e=>J8 _ e,oo d _ o p k le,⟨_,_,Jq _ rfl⟩,λb C=>?_,q o⟩;cases Jc.mp C;exact i.fpOk (Jg _) (i.hok.fresh (Jg _))
end
end L2
namespace L2
open PySem PySem.Spec PyProof.Rows Own
section
def le2 (p q a b:Int):Prop:=p<a\/p=a/\q<=b
end
theorem kS (l b:JI)(xs ys:Array Jo)(n m:Nat)(I H:Option JI)(k f:Array (Option Jo))(sz:xs.size=ys.size) :
  Meets (Builtin.«tuple.__lt__» ⟨[.ref l,.ref b],[]⟩)
   (λA R s=>s.heap.get? l=some { cls:=.type "tuple",dict:=I,data:=.seq xs n,slots:=k }/\s.heap.get? b=some { cls:=.type "tuple",dict:=H,data:=.seq ys m,slots:=f } /\
    (∀ j (M:j<xs.size) (L:j<ys.size),SeqAt.EqAt A.in1 s xs[j] ys[j] true)/\R (.ok (.ret (.bool false))) s) :=
 .of_wp λprog w A R s h=>by
  rcases h with ⟨C,E,D,h⟩;rcases s with ⟨B,g,d,q,os⟩;have kinds:=AutoSeq1.sub_tuple_tuple;have K:(xs.toList.zip ys.toList).length=min xs.size ys.size:=by simp
  wp_walk using wpAny_loadPart' C,wpAny_loadPart' E,wpAny_forIn_list _ (λrest b e=>b.1=none/\e=⟨B,g,d,q,os⟩/\∃ i,i<=(xs.toList.zip ys.toList).length/\rest=(xs.toList.zip ys.toList).drop i) _
  case turn =>
   rintro⟨y,x⟩ rest b e ⟨c,rfl,i,t,a⟩
   have r:i<(xs.toList.zip ys.toList).length:=by
    rcases Nat.lt_or_ge i (xs.toList.zip ys.toList).length with z|z
    ·exact z
    ·rw[List.drop_eq_nil_of_le z]at a;cases a
   have v:i<xs.size:=by simp_all
   have u:i<ys.size:=by simp_all
   rw[YS r]at a;obtain⟨p,e2⟩:=List.cons.inj a;have G:y=xs[i]:=by simpa using JP Prod.fst p
   have ex:x=ys[i]:=by simpa using JP Prod.snd p
   subst G ex;refine J0 (D i v u prog w _ _ ?_)
   wp_walk
   exact⟨rfl,rfl,i+1,by lia,e2⟩
  case fin =>
   rintro⟨J,N⟩ e ⟨c,rfl,i,t,a⟩;have o:J=none:=c;subst o;have F:Builtin.Tuple.tupleCompareSizes CmpOp.Lt xs.size ys.size=.bool false:=by rw[sz];simp[Builtin.Tuple.tupleCompareSizes]
   show wpAny _ _ (ret (Builtin.Tuple.tupleCompareSizes CmpOp.Lt xs.size ys.size)) _ _ _;rw[F];exact J9 ⟨_,rfl,h⟩
  case h =>
   exact⟨rfl,rfl,0,JL _,rfl⟩
theorem LtAt.tuplesS {A:YO}{s:JO}{l b:JI}{xs ys:Array Jo}(q:IsTup s.heap l xs)(hb:IsTup s.heap b ys)(p:A.units<cLine)(sz:xs.size=ys.size)(r:∀ j (h1:j<xs.size) (z:j<ys.size),SeqAt.EqAt A.in1 s xs[j] ys[j] true):LtAt A s (.ref l) (.ref b) false:=λprog w E Q h=>by
 obtain⟨⟨y,e,u,c⟩,g,o,n,i⟩:=q;obtain⟨⟨v,d,t,a⟩,f,k,m,e2⟩:=hb;simp only at o i k e2;subst o i k e2;exact richCompare_meets_room (op:=.Lt) ⟨_,g,rfl⟩ ⟨_,f,rfl⟩ F.slot_tuple_lt F.entry_tuple_lt (F.args_tuple_lt_2 _ _) (kS l b xs ys n m e d c a sz) ⟨g,f,r,show Value.bool false≠Value.notImplemented/\Q (.bool false) s from⟨(λx=>nomatch x),h⟩⟩ p
section
variable {X:Cx}
theorem zac {pins:List (JI × Obj)}{σ:St}{H:Hp}{s:JO}(I:Inv X pins σ H s){n:Nat}{x y:V}{c:Ordering}(h:Lx H n x y c)(A:YO)(u v:Jo)(P:A.units+n<cLine)(g:RelV x u)(f:RelV y v):LtAt A s u v (c == .lt):=by
 by_cases z:c=.eq
 ·cases h with
  | int n i j =>
   obtain⟨E,rfl⟩:=g;obtain⟨D,rfl⟩:=f;rw[(vI i j).2]
   exact LtAt.ints i j E D
  | @row n a b w t cs R Q U T h =>
   cases g;cases f;obtain⟨l,p,K,_⟩:=I.tuple (SqT.of R);obtain⟨k,o,J,_⟩:=I.tuple (SqT.of Q);have M:=p.length;have L:=o.length;rw[z];refine LtAt.tuplesS K J (by lia) (by rw[Jh,Jh];simp_all) λj O N=>?_;have e:j<w.length:=by simpa [M] using O
   have d:j<t.length:=by simpa [L] using N
   have m:j<cs.length:=by simp_all
   obtain⟨C,S,G⟩:=p.get (J7 e);obtain⟨B,e2,F⟩:=o.get (J7 d);have r:l.toArray[j]=C:=by simpa using (Jb.mp S).2
   have q:k.toArray[j]=B:=by simpa using (Jb.mp e2).2
   have ce:cs[j]=.eq:=vm.mp z _ (JY m);have:=ja I (h j _ _ _ (J7 e) (J7 d) (J7 m)) A.in1 _ _ (by show A.units+1+n<cLine;lia) G F;rw[ce]at this;rw[r,q];exact this
 ·exact zaB I h z A u v P g f
end
section
variable {prog:Yo}{w:YI}{A:YO}{R:Result->JO->Prop}{I S:JI}{fp wr:List JI}{n:Nat}{P:Nat->Jo->Prop}{St:Nat->YP->Prop}
def AskM (prog:Yo)(w:YI)(A:YO)(a:JO)(wr:List JI)(S:JI)(v e:Jo)(c:Bool):Prop :=
 ∀ (h:YP) (d:Nat) (Q:Jo->JO->Prop) (E:Jo->JO->Prop),(∀ b o,b∉wr->b≠S->a.heap.get? b=some o->h.get? b=some o)->Q (.bool c) { a with heap:=h,toks:=d }->wpAny (model prog w) A.in1 (richCompare .Lt v e) Q E { a with heap:=h,toks:=d }
theorem qQ (W:Walks prog w A.in1 I fp wr n P St)(away:S∉fp)(p:JO)(l:Nat->Jo->Prop)(more:∀ j v a,0<j->P j v->l j a->∃ c:Bool,l (j+1) (if c=true then v else a)/\AskM prog w A p wr S v a c) :
  ∀ (m j:Nat) (h:YP) (tk:Nat) (c:Nat) (a:Jo),j+m=n->0<j->l j a->St j h->h.get? S=some { cls:=.type "list",dict:=none,data:=.seq #[a,a] c,slots:=#[] }->(∀ b o,b∉wr->b≠S->p.heap.get? b=some o->h.get? b=some o) ->
   (∀ u B y,l n u->(∀ b o,b∉wr->b≠S->p.heap.get? b=some o->B.get? b=some o)->R (.ok (.ret u)) { p with heap:=B,toks:=y })->codeAny (model prog w) A (.builtin "min.loop" ⟨[.ref I,.none,.ref S],[]⟩) R { p with heap:=h,toks:=tk }:=by
 have out:S∉wr:=λz=>away (W.sub _ z);have nm:(toString "min"++toString ".loop":String) = "min.loop":=by decide
 intro m
 induction m with
 | zero =>
  intro j h tk c a C jp bs st s old k;have D:j=n:=by omega
  subst D
  refine YQ F.entry_min_loop (by
   refine YV YT _ ▸ (show wpAny _ A.in1 (seqItems? (.ref S) >>= _) _ _ _ from ?_);refine J0 (Yg s rfl (show wpAny _ A.in1 (tryCatch (pyNext (.ref I)) _ >>= _) _ _ _ from J0 (Zz (W.done { p with heap:=h,toks:=tk } _ _ st λx r keep=>?_))));have d:=keep S _ out s
   show wpAny _ A.in1 (updateSeq S (λ_=>#[]) >>= _) _ _ _;exact J0 (ZM d rfl (J0 (Zg (J9 (k _ _ r bs λb o g q e=>(JS _ _ (Ne.symm q)).trans (keep b o g (old b o g q e))))))))
 | succ m ih =>
  intro j h tk c a C jp bs st s old k
  refine YQ F.entry_min_loop (by
   refine YV YT _ ▸ (show wpAny _ A.in1 (seqItems? (.ref S) >>= _) _ _ _ from ?_);refine J0 (Yg s rfl (show wpAny _ A.in1 (tryCatch (pyNext (.ref I)) _ >>= _) _ _ _ from J0 (Zz (W.item j { p with heap:=h,toks:=tk } _ _ (by lia) st λv x r pv t keep=>?_))));have d:=keep S _ out s;have f:∀ b o,b∉wr->b≠S->p.heap.get? b=some o->x.get? b=some o:=λb o g q e=>keep b o g (old b o g q e);obtain⟨E,i,ask⟩:=more j v a jp pv bs;show wpAny _ A.in1 (tryCatch (holding [v,v] (richCompare .Lt v a >>= _)) _ >>= _) _ _ _;refine J0 (Zz (Yd (J0 (ask x r _ _ f (J0 (Yd (Ze (J0 (Zg (J9 ?_))))))))))
   cases E with
   | false =>
    rw[Jf Jj]at i;rw[Jf Jj];refine J0 (Zg ?_);rw[nm]
    exact J9 ⟨Z6 YT _,ih (j+1) _ _ _ a (by lia) (by lia) i t d f k⟩
   | true =>
    rw[Jm rfl]at i;rw[Jm rfl];refine J0 (ZM d rfl (J0 (Zg ?_)));rw[nm]
    exact J9 ⟨Z6 YT _,ih (j+1) _ _ _ v (by lia) (by lia) i (W.frame _ _ _ t λb g o e=>(JS _ _ (λz=>away (by rw[z];exact g))).trans e) (Yt _ d rfl) (λb o g q e=>(JS _ _ (Ne.symm q)).trans (f b o g q e)) k⟩)
end
section
variable {prog:Yo}{w:YI}{A:YO}{E:Jo->JO->Prop}{s:JO}
def WalkM (prog:Yo)(w:YI)(A:YO)(Q:Jo->JO->Prop)(it:Jo)(s2:JO):Prop :=
 ∃ (I:JI) (f wr:List JI) (n:Nat) (P:Nat->Jo->Prop) (St:Nat->YP->Prop),it=.ref I/\Walks prog w A.in1 I f wr n P St/\St 0 s2.heap/\(∀ b∈f,b<s2.heap.objs.size)/\0<n /\
   ∃ a:Nat->Jo->Prop,(∀ v,P 0 v->a 1 v)/\(∀ j v d,0<j->P j v->a j d->∃ c:Bool,a (j+1) (if c=true then v else d)/\AskM prog w A s2 wr s2.heap.objs.size v d c) /\
   ∀ u e g,a n u->(∀ b o,b∉wr->s2.heap.get? b=some o->e.get? b=some o)->Q u { s2 with heap:=e,toks:=g }
theorem gF {x:Jo}{Q:Jo->JO->Prop}(h:wpAny (model prog w) A.in1 (pyIter x) (WalkM prog w A Q) E s):wpAny (model prog w) A (call (.builtin "min") [x]) Q E s:=by
 have nm:(toString "min"++toString ".loop":String) = "min.loop":=by decide
 refine call_function_tree F.kind_min F.plain_min F.entry_min (F.args_min1 _) ?_;show wpAny _ A.in1 (Builtin.Builtins.bindParams "min" ["key","default"] 0 ⟨[],[]⟩ >>= _) _ _ s;refine J0 (wpAny_of_eq (show Builtin.Builtins.bindParams "min" ["key","default"] 0 ⟨[],[]⟩=pure [none,none] from rfl) (J0 (J9 (J0 (JK h (λit a z=>?_) λ_ _ e=>e)))));obtain⟨I,q,wr,n,P,St,rfl,W,st,low,pos,l,first,more,k⟩:=z;have away:a.heap.objs.size∉q:=λz=>YB _ (low _ z);have out:a.heap.objs.size∉wr:=λz=>away (W.sub _ z);refine J0 (JR ?_);rw[nm];refine J9 ⟨Z6 YT _,YQ F.entry_min_loop ?_⟩;have new:(a.heap.push { cls:=.type "list",data:=.seq #[] }).get? a.heap.objs.size=some { cls:=.type "list",dict:=none,data:=.seq #[] 0,slots:=#[] }:=Jq _ rfl;have j:St 0 (a.heap.push { cls:=.type "list",data:=.seq #[] }):=W.frame _ _ _ st λb _ o e=>J8 _ e;refine YV YT _ ▸ (show wpAny _ A.in1 (seqItems? (.ref a.heap.objs.size) >>= _) _ _ _ from ?_);refine J0 (Yg new rfl (show wpAny _ A.in1 (tryCatch (pyNext (.ref I)) _ >>= _) _ _ _ from J0 (Zz (W.item 0 _ _ _ pos j λv p B pv i keep=>?_))));have y:=first v pv
 have c:=keep _ _ out new;show wpAny _ A.in1 (updateSeq a.heap.objs.size (λ_=>#[v,v]) >>= _) _ _ _;refine J0 (ZM c rfl ?_);rw[nm];have up:∀ b o,b∉wr->b≠a.heap.objs.size->a.heap.get? b=some o->(p.update a.heap.objs.size (Obj.mapSeq λ_=>#[v,v])).get? b=some o:=λb o f t e=>(JS _ _ (Ne.symm t)).trans (keep b o f (J8 _ e));exact J9 ⟨Z6 YT _,qQ W away a l more (n-1) 1 _ _ _ v (by lia) (by lia) y (W.frame _ _ _ i λb f o e=>(JS _ _ (λz=>away (by rw[z];exact f))).trans e) (Yt _ c rfl) up λu m g r d=>k u m g r λb o f e=>d b o f (JA (Jn e)) e⟩
theorem cj {x y:Jo}{Q:Jo->JO->Prop}(h:wpAny (model prog w) A.in1 (pyIter (.ref s.heap.objs.size)) (WalkM prog w A Q) E { s with heap:=s.heap.push { cls:=.type "tuple",data:=.seq #[x,y] } }):wpAny (model prog w) A (call (.builtin "min") [x,y]) Q E s:=by
 have nm:(toString "min"++toString ".loop":String) = "min.loop":=by decide
 refine call_function_tree F.kind_min F.plain_min F.entry_min (F.args_min2 _ _) ?_;show wpAny _ A.in1 (Builtin.Builtins.bindParams "min" ["key","default"] 0 ⟨[],[]⟩ >>= _) _ _ s;refine J0 (wpAny_of_eq (show Builtin.Builtins.bindParams "min" ["key","default"] 0 ⟨[],[]⟩=pure [none,none] from rfl) (J0 ?_));refine wpAny_newTuple (J0 (JK h (λit a z=>?_) λ_ _ e=>e));obtain⟨I,q,wr,n,P,St,rfl,W,st,low,pos,l,first,more,k⟩:=z;have away:a.heap.objs.size∉q:=λz=>YB _ (low _ z);have out:a.heap.objs.size∉wr:=λz=>away (W.sub _ z);refine J0 (JR ?_);rw[nm];refine J9 ⟨Z6 YT _,YQ F.entry_min_loop ?_⟩;have new:(a.heap.push { cls:=.type "list",data:=.seq #[] }).get? a.heap.objs.size=some { cls:=.type "list",dict:=none,data:=.seq #[] 0,slots:=#[] }:=Jq _ rfl;have j:St 0 (a.heap.push { cls:=.type "list",data:=.seq #[] }):=W.frame _ _ _ st λb _ o e=>J8 _ e;refine YV YT _ ▸ (show wpAny _ A.in1 (seqItems? (.ref a.heap.objs.size) >>= _) _ _ _ from ?_);refine J0 (Yg new rfl (show wpAny _ A.in1 (tryCatch (pyNext (.ref I)) _ >>= _) _ _ _ from J0 (Zz (W.item 0 _ _ _ pos j λv p C pv i keep=>?_))));have B:=first v pv
 have c:=keep _ _ out new;show wpAny _ A.in1 (updateSeq a.heap.objs.size (λ_=>#[v,v]) >>= _) _ _ _;refine J0 (ZM c rfl ?_);rw[nm];have up:∀ b o,b∉wr->b≠a.heap.objs.size->a.heap.get? b=some o->(p.update a.heap.objs.size (Obj.mapSeq λ_=>#[v,v])).get? b=some o:=λb o f t e=>(JS _ _ (Ne.symm t)).trans (keep b o f (J8 _ e));exact J9 ⟨Z6 YT _,qQ W away a l more (n-1) 1 _ _ _ v (by lia) (by lia) B (W.frame _ _ _ i λb f o e=>(JS _ _ (λz=>away (by rw[z];exact f))).trans e) (Yt _ c rfl) up λu m g r d=>k u m g r λb o f e=>d b o f (JA (Jn e)) e⟩
end
def y0 (cmp:V->V->Ordering)(b y:V):V:=if cmp y b=.lt then y else b
def xJ (cmp:V->V->Ordering):List V->V
 | []=>.non
 | x::r=>r.foldl (y0 cmp) x
theorem gy (cmp:V->V->Ordering){l:List V}(h:l≠[])(y:V):xJ cmp (l++[y])=y0 cmp (xJ cmp l) y:=by
 cases l with
 | nil=>exact absurd rfl h
 | cons x r=>show List.foldl _ _ (r++[y])=_;rw[Zi];rfl
theorem mK (cmp:V->V->Ordering):∀ (r:List V) (x:V),r.foldl (y0 cmp) x∈x::r
 | [],x=>.head _
 | y::r,x=>by
  have:=mK cmp r (y0 cmp x y);show List.foldl (y0 cmp) (y0 cmp x y) r∈x::y::r;rcases Jr.mp this with z|z
  ·rw[z]
   unfold y0;split
   ·exact .tail _ (.head _)
   ·exact .head _
  ·exact .tail _ (.tail _ z)
theorem md (cmp:V->V->Ordering){l:List V}(h:l≠[]):xJ cmp l∈l:=by
 cases l with
 | nil=>exact absurd rfl h
 | cons x r=>exact mK cmp r x
section
variable {X:Cx}{pins:List (JI × Obj)}{σ:St}{H:Hp}{s:JO}
theorem oh {b:Bool}{a:JI}{xs:List V}{its:List Jo}{n:Nat}{cmp:V->V->Ordering}{Q:VK}(J:X.calm=true)(T:X.A.units+64<cLine)(I:Inv X pins σ H s)(m:Vals xs its)(pp:SqO b s.heap a its.toArray)(al:a<s.heap.objs.size)(k:0<xs.length)(R:n<=20)(K:∀ x∈xs,∀ y∈xs,Lx H n x y (cmp x y))(q:Q (xJ cmp xs) H) :
  wpAny (model X.prog X.w) X.A.in1 (pyIter (.ref a)) (WalkM X.prog X.w X.A (EP X pins σ Q)) X.xe s:=by
 have U:its.length=xs.length:=m.length.symm;refine xP pp ⟨s.heap.objs.size,[s.heap.objs.size,a],[s.heap.objs.size],its.toArray.size,(λi v=>its.toArray[i]?=some v),_,rfl,qA (show X.A.in1.handled=none from I.ok.hd J) b _ a (JA al) its.toArray,⟨?_,pp.mv λo e=>J8 _ e⟩,λc F=>?_,by rw[Jh];simp_all,(λj v=>0<j/\j<=xs.length/\RelV (xJ cmp (xs.take j)) v),λv t=>?_,λj v B jp t ⟨_,S,w⟩=>?_,λu W l ⟨_,_,f⟩ G=>?_⟩
 ·cases b<;>exact⟨_,Jq _ rfl,rfl,rfl⟩
 ·show c<(s.heap.push _).objs.size
  rw[YA];rcases Jr.mp F with z|z
  ·exact z ▸ Z9 _
  ·exact Jc.mp z ▸ Z0 al
 ·have E:xs[0]?=some xs[0]:=J7 k
  obtain⟨C,g,f⟩:=m.get E;have d:its[0]?=some v:=by simpa using t
  rw[d]at g;cases g;refine⟨by lia,k,?_⟩
  cases xs with
  | nil=>cases k
  | cons x r=>exact f
 ·have d:its[j]?=some v:=by simpa using t
  have p:j<xs.length:=by
   have:=(Jb.mp d).1
   simp_all
  obtain⟨C,g,f⟩:=m.get (J7 p);rw[d]at g;cases g
  have ne:xs.take j≠[]:=λz=>by
   have:=JP List.length z;rw[Jw,Ye]at this
   simp_all
  have bm:xJ cmp (xs.take j)∈xs:=YW (md cmp ne);have L:=K _ (JY p) _ bm;refine⟨cmp xs[j] (xJ cmp (xs.take j)) == .lt,⟨by lia,by lia,?_⟩,λh l N P old D=>?_⟩
  ·rw[<- Ys p,gy cmp ne]
   unfold y0;by_cases z:cmp xs[j] (xJ cmp (xs.take j))=.lt
   ·rw[Jm z,Jm (by rw[z];rfl)];exact f
   ·rw[Jf z,Jf (λy=>z (by simpa using y))];exact w
  ·have O:Inv X pins σ H { s with heap:=h,toks:=l }:=I.kept λc o e=>old c o (λz=>JA (Jn e) (Jc.mp z)) (λz=>by
    have M:=Jn e;have A:c=(s.heap.push { cls:=.type (cN b),data:=.fields #[.ref a,.int 0 0] }).objs.size:=z;rw[YA]at A
    exact absurd A (JA (Z0 M))) (J8 _ e)
   exact zac O L X.A.in1 v B (by show X.A.units+1+n<cLine;lia) f w X.prog X.w P N D
 ·refine⟨xJ cmp xs,H,I.kept (t':=l) λc o e=>G c o (λz=>JA (Jn e) (Jc.mp z)) (J8 _ e),?_,q⟩
  have:xs.take its.toArray.size=xs:=JM (by rw[Jh];simp_all);rw[this]at f;exact f
theorem qp (j:X.calm=true)(b:Bool)(h:X.A.units+64<cLine):CallR X (.builtin "min") (λvs H Q=>∃ a xs n cmp,vs=[.ref a]/\SqB b X.K H a xs/\0<xs.length/\n<=20/\(∀ x∈xs,∀ y∈xs,Lx H n x y (cmp x y))/\Q (xJ cmp xs) H):=by
 rintro pins s σ H vs r Q I e ⟨a,xs,n,cmp,rfl,i,d,c,k,q⟩;obtain⟨u,rfl,f⟩:=e.one;cases f;obtain⟨p,g,pp⟩:=I.sq (b:=b) i;obtain⟨o,m,l,_⟩:=pp.ob;exact gF (oh j h I g pp (Jn l) d c k q)
theorem kr (i:X.calm=true)(h:X.A.units+64<cLine):CallR X (.builtin "min") (λvs H Q=>∃ x y n cmp,vs=[x,y]/\n<=20/\(∀ u∈[x,y],∀ v∈[x,y],Lx H n u v (cmp u v))/\Q (y0 cmp x y) H):=by
 rintro pins s σ H vs l Q I d ⟨x,y,n,cmp,rfl,c,j,q⟩;obtain⟨u,a,rfl,g,f⟩:=fW d;refine cj ?_;have k:=I.kept (t':=s.toks) (h':=s.heap.push { cls:=.type "tuple",data:=.seq #[u,a] }) λb u e=>J8 _ e;refine oh (s:={ s with heap:=s.heap.push { cls:=.type "tuple",data:=.seq #[u,a] } }) (b:=false) (xs:=[x,y]) (its:=[u,a]) i h k (.cons g (.cons f .nil)) ⟨_,Jq _ rfl,rfl,_,rfl⟩ ?_ (by show 0<2;lia) c j q;show s.heap.objs.size<(s.heap.push _).objs.size;rw[YA];simp_all
end
def yX:List Int->List Int->Ordering
 | [],[]=>.eq
 | [],_::_=>.lt
 | _::_,[]=>.gt
 | a::x,b::y=>(compare a b).then (yX x y)
theorem qg:∀ {x y:List Int},x.length=y.length->(List.zipWith compare x y).foldr Ordering.then .eq=yX x y
 | [],[],_=>rfl
 | a::x,b::y,h=>by
  show (compare a b).then _=(compare a b).then _;rw[qg (x:=x) (y:=y) (by simpa using h)]
theorem oH {H:Hp}{a b:JI}{x y:List Int}(ha:H a=some (.tup (x.map V.int)))(hb:H b=some (.tup (y.map V.int)))(l:x.length=y.length):Lx H 1 (.ref a) (.ref b) (yX x y):=by
 rw[<- qg l];refine .row ha hb (by rw[Je,List.length_zipWith];simp_all) (by rw[Je,List.length_zipWith];simp_all) λi u v c e d f=>?_;rw[JN]at e d;obtain⟨p,h,rfl⟩:=YN.mp e;obtain⟨q,g,rfl⟩:=YN.mp d;rw[List.getElem?_zipWith,h,g]at f;cases f;exact .int 0 p q
def xN (x y:List Int):List Int:=if yX y x=.lt then y else x
def gG:List (List Int)->List Int
 | []=>[]
 | x::r=>r.foldl xN x
def zaW (P:Yo)(w:YI)(t:TS):TS:=λD σ H=>t { D with nx:=λa e=>∃ d o c b,H d=some (DN P w d b)/\e d=some (.frz o (DN P w d c))/\D.nx a (upd e d (DN P w d c)) } σ H
section
variable {X:Cx}
theorem dg {st:Stmt}{t:TS}(h:PS X st t):PS X st (zaW X.prog X.w t):=by
 intro pins s σ H D I c;refine thn (h pins s σ H _ I c) λf k q=>?_
 cases f with
 | next =>
  obtain⟨a,l,g,d,o,j,i,e,b,q⟩:=q
  exact⟨a,_,g.thawN b (I.meltedN e),q⟩
 | brk=>exact q
 | cont=>exact q
 | ret u=>exact q
end
theorem kj {P:Yo}{w:YI}{d:JI}{o:Obj}{xs:KVN}{g:TG}{j:TS}{D:Ends}{σ:St}{H:Hp}(a:Nat->St->Hp->Prop)(u:a 0 σ H)(n:∀ i σ H,i<=xs.length->a i σ H->H d=some (.frz o (DN P w d xs)))(hs:∀ i p σ H T,xs[i]?=some p->H T=none->a i σ H->g (.ref T) σ (upd H T (.tup [.ref p.2.1,p.2.2])) λc h=>j { D with nx:=a (i+1),ct:=a (i+1),bk:=D.nx } c h)(s:∀ σ H,a xs.length σ H->D.nx σ H) :
  ∃ W:Nat->Nat->St->Hp->Prop,(∃ m,W 0 m σ H)/\∀ i m σ H,W i m σ H ->
   ((Itni P w d o xs).stop i H/\D.nx σ H)\/((Itni P w d o xs).go i H/\∃ N:St->Hp->Prop,(∀ f b,N f b->∃ k,k<m/\W (i+1) k f b)/\∀ x b,(Itni P w d o xs).yld i H x b->g x σ b λc h=>j { D with nx:=N,ct:=N,bk:=D.nx } c h):=by
 refine⟨λi m σ H=>m=xs.length-i/\i<=xs.length/\a i σ H,⟨xs.length,by simp,JL _,u⟩,λi m σ H ⟨em,r,p⟩=>?_⟩;subst em;have q:=n i σ H r p;by_cases lt:i<xs.length
 ·refine .inr ⟨⟨q,lt⟩,a (i+1),λf b l=>⟨xs.length-(i+1),by lia,rfl,lt,l⟩,λx b ⟨y,T,v,t,z,e2⟩=>?_⟩
  subst z e2;exact hs i y σ H T v t p
 ·have e:i=xs.length:=by lia
  subst e;exact .inl ⟨⟨q,rfl⟩,s σ H p⟩
end L2
namespace Bn
open PySem L2 Own
theorem vT:∀ (fs:List (Nat × Nat)) (st:List Int × List Int),(∀ t∈st.2,t=0\/t=1)->∀ t∈(yi st fs).2,t=0\/t=1
 | [],_,h=>h
 | f::fs,st,h=>vT fs (yU st f) λt a=>by
  unfold yU at a;simp only at a;rcases Jv.mp a with z|z
  ·exact h t z
  ·rw[Jc.mp z];lia
theorem gX (fs:List (Nat × Nat))(cs:List Int):∀ t∈(yM fs cs).2,t=0\/t=1:=vT fs (cs,[]) λt a=>by simp at a
theorem uW (n p:Nat):(List.replicate n (0:Int)).getD p 0=0:=by
 rw[Ja,List.getElem?_replicate];split<;>rfl
theorem oX (n p:Nat):(List.replicate n (0:Int)).set p 0=List.replicate n 0:=by
 refine List.ext_getElem (by simp) λi b a=>?_;rw[List.getElem_set];split<;>simp
theorem vS (n:Nat):∀ (fs:List (Nat × Nat)) (T:List Int),yi (List.replicate n 0,T) fs=(List.replicate n 0,T++List.replicate fs.length 0)
 | [],T=>by simp[yi]
 | f::fs,T=>by
  have e:yU (List.replicate n 0,T) f=(List.replicate n 0,T++[0]):=by
   unfold yU;simp only[uW];rw[show ((0:Int)+0+1) / 2=0 by decide,show ((0:Int)+0) / 2=0 by decide,show ((0:Int)+0)%2=0 by decide,oX,oX]
  show yi (yU (List.replicate n 0,T) f) fs=_;rw[e,vS n fs (T++[0]),JW,Y9,JT];rfl
theorem qc (n:Nat)(fs:List (Nat × Nat)):yM fs (List.replicate n 0)=(List.replicate n 0,List.replicate fs.length 0):=by
 unfold yM;rw[vS,ZK]
theorem gb (N:Nt)(ok:N.Ok):yD N (List.replicate N.lanes 0)=List.replicate N.lanes 0:=by
 unfold yD;rw[qc];refine List.ext_getElem (by rw[Je,Y7,uR ok]) λi b a=>?_;rw[List.getElem_map,List.getElem_replicate];exact uW _ _
theorem me (N:Nt):y8 N (List.replicate N.lanes 0)=List.replicate N.forks.length 0:=by unfold y8;rw[qc]
theorem zbQ {N:Nt}(ok:N.Ok)(back:Bool){cs:List Int}(cl:cs.length=N.lanes){lane:Nat}(o:lane<N.lanes) :
  y8 N (zz cs lane (if back then -1 else 1))=(yI back N.forks (y8 N cs) lane N.forks.length).1 /\
  yD N (zz cs lane (if back then -1 else 1))=zz (yD N cs) (N.ends.idxOf (yI back N.forks (y8 N cs) lane N.forks.length).2) (if back then -1 else 1) /\
  (yI back N.forks (y8 N cs) lane N.forks.length).2<N.lanes:=by
 have R:=ran (back:=back) (fs:=N.forks) (cs:=cs) (lane:=lane) (λf m=>by rw[cl];exact ok.fk f m) (by simp_all) (gX _ _) N.forks.length (Jg _);have j:N.forks.take N.forks.length=N.forks:=Y5;have i:=R.flows;have h:=R.turns;rw[j]at i h;have d:=R.here;rw[cl]at d;refine⟨?_,?_,d⟩
 ·refine wO ?_ λp b=>?_
  ·unfold y8;rw[y9,R.len,y9]
  ·unfold y8 at b;rw[y9]at b;exact h p b
 ·have ne:(yI back N.forks (y8 N cs) lane N.forks.length).2∈N.ends:=ok.en.mem_iff.mpr (Yp.mpr d)
  have k:N.ends.Nodup:=ok.en.nodup_iff.mpr List.nodup_range;have n:(yD N cs).length=N.ends.length:=by unfold yD;rw[Je]
  refine wO (by rw[yE];unfold yD;rw[Je,Je]) λp b=>?_;have a:p<N.ends.length:=by unfold yD at b;rwa [Je]at b
  rw[yd (by rw[n];exact a)]
  have g:∀ c:List Int,(N.ends.map λe=>c.getD e 0).getD p 0=c.getD N.ends[p] 0:=λc=>by
   rw[Ja (l:=List.map _ _),JN,J7 a];rfl
  unfold yD;rw[g,g,i];have lt':N.ends[p]<(yM N.forks cs).1.length:=by rw[wN,cl];exact jw ok (JY a)
  rw[yd lt']
  congr 1
  show (if (yI back N.forks (y8 N cs) lane N.forks.length).2=N.ends[p] then _ else _)=_
  have iff:(yI back N.forks (y8 N cs) lane N.forks.length).2=N.ends[p]↔N.ends.idxOf (yI back N.forks (y8 N cs) lane N.forks.length).2=p:=by
   constructor
   ·intro e;rw[e];exact k.idxOf_getElem p a
   ·intro e
    have:=List.getElem_idxOf (Wg ne);subst e;exact this.symm
  by_cases e:(yI back N.forks (y8 N cs) lane N.forks.length).2=N.ends[p]
  ·rw[Jm e,Jm (iff.mp e)]
  ·rw[Jf e,Jf λz=>e (iff.mpr z)]
end Bn
namespace L2
open PySem PySem.Spec PyProof.Rows Own
structure MgA (mg:Str->Option Jo):Prop where
 any:mg "any" = none
theorem gz (bs:List Bool):(List.range bs.length).any (λi=>bs.getD i true)=bs.any id:=by
 rw[Yq];simp only[List.any_eq_true];constructor
 ·rintro⟨j,c,h⟩
  have a:=Yp.mp c;rw[Ja,J7 a]at h;exact⟨_,JY a,h⟩
 ·rintro⟨x,b,h⟩
  obtain⟨j,a,rfl⟩:=List.getElem_of_mem b;exact⟨j,Yp.mpr a,by rw[Ja,J7 a];exact h⟩
section
variable {X:Cx}
theorem gw (y:X.calm=true)(b:Bool):CallR X (.builtin "any") (λvs H Q=>∃ a bs,vs=[.ref a]/\SqB b X.K H a (List.map V.bl bs)/\Q (.bl (bs.any id)) H):=by
 rintro pins s σ H vs C Q I k ⟨a,bs,rfl,m,q⟩;obtain⟨u,rfl,g⟩:=k.one;cases g;obtain⟨d,r,p⟩:=I.sq m;obtain⟨o,n,B,_⟩:=p.ob;have t:d.length=bs.length:=by rw[<- r.length,Je]
 refine call_any_walk (xP p ⟨s.heap.objs.size,[s.heap.objs.size,a],[s.heap.objs.size],_,_,_,λi=>bs.getD i true,rfl,qA (show X.A.in1.handled=none from I.ok.hd y) b _ a (JA (Jn B)) d.toArray,⟨?_,p.mv λo e=>J8 _ e⟩,λi v E J K l A=>?_,λG j w=>?_⟩)
 ·cases b<;>exact⟨_,Jq _ rfl,rfl,rfl⟩
 ·have f:d[i]?=some v:=by simpa using l
  have F:=(Jb.mp f).1;obtain⟨D,h,g⟩:=r.get (i:=i) (x:=V.bl (bs.getD i true)) (by rw[JN,Ja,J7 (show i<bs.length by simp_all)];rfl);rw[f]at h;obtain rfl:=Jp h;cases g;exact Ze A
 ·refine⟨.bl (bs.any id),H,I.kept (t':=j) λc o e=>w c o (λz=>JA (Jn e) (Jc.mp z)) (J8 _ e),?_,q⟩
  show Value.bool _=Value.bool _;rw[Jh,t,gz]
end
end L2
namespace Bn
open PySem L2 Own
def big (x y:Int):Int:=if y > x then y else x
theorem zaE (x y:Int):x<=big x y:=by unfold big;split<;>lia
theorem zcx (x y:Int):y<=big x y:=by unfold big;split<;>simp_all
def uJ (st:List Int × List Int)(f:Nat × Nat):List Int × List Int :=
 ((st.1.set f.1 (1+big (st.1.getD f.1 0) (st.1.getD f.2 0))).set f.2 (1+big (st.1.getD f.1 0) (st.1.getD f.2 0)),st.2++[1+big (st.1.getD f.1 0) (st.1.getD f.2 0)])
def lay (n:Nat)(fs:List (Nat × Nat)):List Int × List Int:=fs.foldl uJ (List.replicate n 0,[])
theorem wz {n:Nat}{fs:List (Nat × Nat)}{i:Nat}{f:Nat × Nat}(h:fs[i]?=some f):lay n (fs.take (i+1))=uJ (lay n (fs.take i)) f:=by
 have w:=Jb.mp h;rw[Yh w.1,w.2];unfold lay;rw[Zi];rfl
theorem uI {n:Nat}:∀ (i:Nat) (fs:List (Nat × Nat)),i<=fs.length->(lay n (fs.take i)).1.length=n/\(lay n (fs.take i)).2.length=i
 | 0,fs,_=>by simp[lay]
 | i+1,fs,h=>by
  have ih:=uI (n:=n) i fs (by lia);rw[wz (J7 (by lia))];unfold uJ;simp[ih.1,ih.2]
def Tops (fs:List (Nat × Nat))(a:List Int)(i lane:Nat)(x:Int):Prop :=
 0<=x/\(∀ j f,j<i->fs[j]?=some f->f.1=lane\/f.2=lane->a.getD j 0<=x)/\(x=0\/∃ j f,j<i/\fs[j]?=some f/\(f.1=lane\/f.2=lane)/\a.getD j 0=x)
theorem rQ {a:List Int}{m:Int}{j:Nat}(h:j<a.length):(a++[m]).getD j 0=a.getD j 0:=by
 rw[Ja,Y0 h,<- Ja]
theorem mI {a:List Int}{m:Int}{i:Nat}(h:a.length=i):(a++[m]).getD i 0=m:=by
 subst h;rw[Ja,List.getElem?_concat_length];rfl
theorem rK {n:Nat}{fs:List (Nat × Nat)}(ok:∀ f∈fs,f.1<n/\f.2<n):∀ i,i<=fs.length->∀ lane,lane<n->Tops fs (lay n (fs.take i)).2 i lane ((lay n (fs.take i)).1.getD lane 0)
 | 0,_,lane,d=>by
  refine⟨?_,λj f l=>absurd l (ZL _),.inl ?_⟩<;>simp[lay,d]
 | i+1,hi,lane,d=>by
  have q:i<fs.length:=by lia
  have ih:=rK ok i (by lia);have ln:=uI (n:=n) i fs (by lia);have o:=J7 q;have k:=ok fs[i] (JY q);rw[wz o];generalize fs[i]=f at *;generalize lay n (fs.take i)=st at *;obtain⟨re,r⟩:=st;simp only at ih ln;show Tops fs (r++[1+big (re.getD f.1 0) (re.getD f.2 0)]) (i+1) lane (((re.set f.1 _).set f.2 _).getD lane 0);have s:=ih f.1 k.1;have t:=ih f.2 k.2;have gl:=zaE (re.getD f.1 0) (re.getD f.2 0);have v:=zcx (re.getD f.1 0) (re.getD f.2 0);generalize u:1+big (re.getD f.1 0) (re.getD f.2 0)=m at *;rw[wF (by simp[ln.1,d]),wF (by rw[ln.1];exact d)]
  have on:(f.1=lane\/f.2=lane)->re.getD lane 0<=m->Tops fs (r++[m]) (i+1) lane m:=λp hle=>by
   refine⟨by have:=s.1;lia,λj g l b a=>?_,.inr ⟨i,f,Z9 _,o,p,mI ln.2⟩⟩;by_cases e:j=i
   ·subst e;rw[mI ln.2];exact Z7 _
   ·rw[rQ (by lia)]
    have:=(ih lane d).2.1 j g (by lia) b a
    grind
  by_cases e2:f.2=lane
  ·rw[Jm e2];exact on (.inr e2) (by subst e2;lia)
  ·rw[Jf e2]
   by_cases h:f.1=lane
   ·rw[Jm h];exact on (.inl h) (by subst h;lia)
   ·rw[Jf h]
    have c:=ih lane d;refine⟨c.1,λj g l b a=>?_,?_⟩
    ·by_cases e:j=i
     ·subst e;rw[o]at b;obtain rfl:=Jp b
      rcases a with z|z
      ·exact absurd z h
      ·exact absurd z e2
     ·rw[rQ (by lia)];exact c.2.1 j g (by lia) b a
    ·rcases c.2.2 with z|⟨j,g,l,b,a,e⟩
     ·exact .inl z
     ·exact .inr ⟨j,g,by lia,b,a,by rw[rQ (by simp_all)];exact e⟩
def zck (g f:Nat × Nat):Bool:=decide (g.1=f.1\/g.1=f.2) || decide (g.2=f.1\/g.2=f.2)
def zdc (fs:List (Nat × Nat))(a:List Int)(f:Nat × Nat)(i:Nat):List Int:=((List.range i).filter λj=>zck (fs.getD j (0,0)) f).map λj=>a.getD j 0
def xx (N:Nt):List Int:=(lay N.lanes N.forks).2
theorem jo {n:Nat}{fs:List (Nat × Nat)}(ok:∀ f∈fs,f.1<n/\f.2<n):∀ i,i<=fs.length->∀ z∈(lay n (fs.take i)).2,0<=z
 | 0,_,z,h=>by simp[lay]at h
 | i+1,hi,z,h=>by
  have a:i<fs.length:=by lia
  have ih:=jo ok i (by lia) z;have b:=rK ok i (by lia) fs[i].1 (ok _ (JY a)).1;rw[wz (J7 a)]at h;rcases Jv.mp h with w|w
  ·exact ih w
  ·rw[Jc.mp w]
   have:=zaE ((lay n (fs.take i)).1.getD fs[i].1 0) ((lay n (fs.take i)).1.getD fs[i].2 0);have:=b.1;lia
abbrev Fk:=Nat × Nat
def run {σ α:Type}(step:σ->Fk->σ × α):σ->List Fk->σ × List (α × Fk)
 | s,[]=>(s,[])
 | s,f::fs=>((run step (step s f).1 fs).1,((step s f).2,f)::(run step (step s f).1 fs).2)
def rnk (x:Int × Fk):Int:=x.1*1024+x.2.1*32+x.2.2
def ins (x:Int × Fk):List (Int × Fk)->List (Int × Fk)
 | []=>[x]
 | y::l=>if rnk x<=rnk y then x::y::l else y::ins x l
theorem zT {H:Hp}{a:JI}(_:H a=none)(o:HO):L2.upd H a o a=some o:=zG
theorem Prs.app {H:Hp}:∀ {ps a:List V}{fs b:List Fk},Prs H ps fs->Prs H a b->Prs H (ps++a) (fs++b)
 | [],_,[],_,_,h=>h
 | _::_,_,_::_,_,⟨x,r⟩,h=>⟨x,Prs.app r h⟩
end Bn
namespace L2
open PySem
theorem zcz {i:Nat}{x:V}{t:TS}{D:Ends}{σ:St}{H:Hp}(h:∀ b:Ends,(∀ σ H,D.nx σ H->b.nx σ H)->t b (σ.set i (some x)) H):xT i x σ H λa c=>t D a c:=h D λ_ _ x=>x
theorem zbS {i:Nat}{x:V}{t:TS}{D:Ends}{σ:St}{H:Hp}(h:∀ a:Ends,(∀ σ H,D.nx σ H->a.nx σ H)->(∀ σ H,D.ct σ H->a.ct σ H)->t a (σ.set i (some x)) H):xT i x σ H λb c=>t D b c:=h D (λ_ _ x=>x) λ_ _ x=>x
theorem yV {t u:TS}{D:Ends}{σ:St}{H:Hp}(h:∀ a:Ends,(∀ σ H,u D σ H->a.nx σ H)->t a σ H):we t u D σ H:=h { D with nx:=u D } λ_ _ x=>x
end L2
namespace L2
open PySem Own PyProof.Rows PySem.Spec
section
variable {X:Cx}
def zbX (i j k:Nat)(b:TA):TS:=λD σ H=>b σ H λa c=>∃ u v w,a=[u,v,w]/\D.nx (((σ.set i (some u)).set j (some v)).set k (some w)) c
theorem mn {u v w:V}{us:List Jo}(r:Vals [u,v,w] us):∃ a b c,us=[a,b,c]/\RelV u a/\RelV v b/\RelV w c:=by
 cases r with
 | cons p r =>
  obtain⟨b,c,rfl,q,t⟩:=Vals.two r;exact⟨_,b,c,rfl,p,q,t⟩
theorem aU {i j k:Nat}{x y z:Str}{a b c:Expr}{r:TA}{pos m py l pt:Pos}{kt k2 pt2}(V:X.calm=true)(n:X.N.Nodup)(hi:X.N[i]?=some x)(U:X.N[j]?=some y)(T:X.N[k]?=some z)(P:i≠j)(O:i≠k)(N:j≠k)(B:X.env.scope.names.lookup x=some .local)(A:X.env.scope.names.lookup y=some .local)(t:X.env.scope.names.lookup z=some .local)(ha:PA X [a,b,c] r)(Q:swappedStores [.Tuple [.Name x m,.Name y py,.Name z l] kt pt] (.Tuple [a,b,c] k2 pt2) X.env=pure (some [x,y,z]))(hs:swapsWithSole [.Tuple [.Name x m,.Name y py,.Name z l] kt pt] (.Tuple [a,b,c] k2 pt2) pos.line X.env=pure false:=by rfl) :
  PS X (.Assign [.Tuple [.Name x m,.Name y py,.Name z l] kt pt] (.Tuple [a,b,c] k2 pt2) pos) (zbX i j k r):=λpins s σ H D I h=>by
 rw[exec_Assign_arm];refine J0 (YL ?_);rw[hs];refine J0 (J9 ?_);rw[Jf Jj];refine J0 (PyProof.Rows.Tuple_ (thn (ha _ pins s σ H _ I h) λus d q=>?_));obtain⟨vs,E,I1,L,u,v,w,rfl,M⟩:=q;obtain⟨f,e,u3,rfl,K,G,F⟩:=mn L;refine JR ?_ (by show 3<=sizeLine;decide);have J:Inv X pins σ E { d with heap:=d.heap.push { cls:=.type "tuple",data:=.seq [f,e,u3].toArray } }:=I1.kept (t':=d.toks) λ_ _ g=>J8 _ g;rw[Q];refine J0 (J9 ?_);show wpAny (model X.prog X.w) X.A (do rule "assign.swapped-stores";let items <- unpackItems (.ref d.heap.objs.size) 3 none;assignInOrder [λv=>bindName X.env z v,λv=>bindName X.env y v,λv=>bindName X.env x v] items.reverse;pure Flow.next) _ _ _;refine J0 (Z3 (J0 (PyProof.Rows.unpackItems_tuple (items:=#[f,e,u3]) (I.ok.hd V) (IsTup.new d.heap _) λS R=>?_)));have Z:=J.kept (h':=S) (t':=d.toks) λb o g=>R b o (JA (Jn g)) g;show wpAny _ _ (assignInOrder [λv=>bindName X.env z v,λv=>bindName X.env y v,λv=>bindName X.env x v] [u3,e,f] >>= λ_=>pure Flow.next) _ _ _;refine J0 (ZP (wpAny_bindName (xD Z n T (.inl t) F (λs2 Y=>?_) (.inr t))));refine ZP (wpAny_bindName (xD Y n U (.inl A) G (λs3 W=>?_) (.inr A)));refine ZP (wpAny_bindName (xD W n hi (.inl B) K (λs4 C=>assignInOrder_nil (J9 ?_)) (.inr B)))
 have p:((σ.set k (some w)).set j (some v)).set i (some u)=((σ.set i (some u)).set j (some v)).set k (some w):=by
  rw[List.set_comm _ _ (Ne.symm P),List.set_comm _ _ (Ne.symm O),List.set_comm _ _ (Ne.symm N)]
 rw[p]at C;exact⟨_,E,C,M⟩
end
end L2
namespace Bn
open PySem L2 Own
abbrev Sn:=List Int × List Grp × List Int
abbrev Sn.none (N:Nt):Sn:=(List.replicate N.forks.length 0,[],List.replicate N.lanes 0)
end Bn
namespace L2
open PySem PySem.Spec PyProof.Rows
def FlyT (e T:JI)(cls:Jo)(dx:Option JI)(fl:Jo)(h:YP):Prop :=
 ∃ a b d c,h.get? e=some a/\(a.cls=cls/\a.dict=dx)/\a.data=.fields b/\b[1]?=some (.ref T)/\T≠e/\h.get? T=some d/\d.data=.fields c/\c[3]?=some fl
structure Stp (fs:List JI) (Z:JI->Prop) (h h':YP):Prop where
 keep:∀ b o,h.get? b=some o->¬ Z b->b∉fs->h'.get? b=some o
 slot:∀ b o,h.get? b=some o->¬ Z b->∃ sl,h'.get? b=some { o with slots:=sl }
 there:∀ b o,h.get? b=some o->∃ o',h'.get? b=some o'
theorem Stp.trans {fs:List JI}{Z:JI->Prop}{h h1 c:YP}(x:Stp fs Z h h1)(y:Stp fs Z h1 c):Stp fs Z h c :=
 ⟨λb o e z f=>y.keep b o (x.keep b o e z f) z f,λb o e z=>by
  obtain⟨i,q⟩:=x.slot b o e z;obtain⟨a,d⟩:=y.slot b _ q z;exact⟨a,d⟩,λb o e=>by
  obtain⟨g,q⟩:=x.there b o e
  exact y.there b g q⟩
theorem Stp.mono {fs a:List JI}{Z d:JI->Prop}{h h':YP}(x:Stp fs Z h h')(g:∀ b∈fs,b∈a)(c:∀ b o,h.get? b=some o->Z b->d b):Stp a d h h' :=
 ⟨λb o e z f=>x.keep b o e (λq=>z (c b o e q)) λq=>f (g b q),λb o e z=>x.slot b o e λq=>z (c b o e q),x.there⟩
theorem Stp.frames {fs:List JI}{Z:JI->Prop}{h h' B:YP}{l:List Env}(x:Stp fs Z h h')(c:∀ b o,h.get? b=some o->Z b->∃ vs,o.data=.fields vs)(f:h.FunFrames B l):h'.FunFrames B l :=
 f.of_keeps λb o e a=>by
  obtain⟨g,q⟩:=x.slot b o e λz=>by
   obtain⟨vs,d⟩:=c b o e z;exact a vs d
  exact⟨_,q,rfl⟩
theorem FlyT.fields {e T:JI}{cls:Jo}{dx:Option JI}{fl:Jo}{h:YP}(x:FlyT e T cls dx fl h):∀ b o,h.get? b=some o->(b=e\/b=T)->∃ vs,o.data=.fields vs:=by
 obtain⟨i,vs,j,c,d,_,f,_,_,g,a,_⟩:=x;rintro b o q (rfl|rfl)
 ·rw[d]at q;exact⟨vs,Jp q ▸ f⟩
 ·rw[g]at q;exact⟨c,Jp q ▸ a⟩
theorem lu {h:YP}{a:JI}{c:Jo}{d:Option JI}{vs:Array Jo}{sl:Array (Option Jo)}(i:Nat)(x:Jo)(q:h.get? a=some ⟨c,d,.fields vs,sl⟩):(h.update a (Obj.mapFields (·.setIfInBounds i x))).get? a=some ⟨c,d,.fields (vs.setIfInBounds i x),sl⟩:=Yt _ q rfl
theorem ue {h:YP}{a b:JI}{f:Obj->Obj}(n:b≠a):(h.update a f).get? b=h.get? b:=JS _ _ (Ne.symm n)
theorem pY {h:YP}{a:JI}{o:Obj}{c:Jo}{d:Option JI}{vs:Array Jo}{sl:Array (Option Jo)}(i:Nat)(x:Jo)(q:h.get? a=some ⟨c,d,.fields vs,sl⟩):Stp [] (λb=>b=a) h (h.update a (Obj.mapFields (·.setIfInBounds i x))) :=
 ⟨λb o e z _=>(ue z).trans e,λb o e z=>⟨o.slots,(ue z).trans e⟩,λb o e=>by
  by_cases z:b=a
  ·rw[z];exact⟨_,lu i x q⟩
  ·exact⟨o,(ue z).trans e⟩⟩
theorem zbz {M:Model}{A:YO}{E:Jo->JO->Prop}{s:JO}{e T:JI}{cls fl:Jo}{dx:Option JI}{Q:Unit->JO->Prop}(x:FlyT e T cls dx fl s.heap)(h:∀ h',Stp [] (λb=>b=T) s.heap h'->FlyT e T cls dx .none h'->Q () { s with heap:=h' }):wpAny M A (setFlight (.ref e) none) Q E s:=by
 obtain⟨d,j,⟨n,dT,_,m⟩,c,f,k,g,i,ne,a,rfl,l⟩:=x;have sz:3<c.size:=(JZ.mp l).1;refine wpAny_setFlight_none f g i a rfl sz (h _ (pY (o:=d) 3 .none a) ⟨d,j,_,c.setIfInBounds 3 .none,(ue (Ne.symm ne)).trans f,k,g,i,ne,lu 3 .none a,rfl,?_⟩);rw[Array.getElem?_setIfInBounds_self,Jm sz]
theorem qe {M:Model}{A:YO}{E:Jo->JO->Prop}{s:JO}{B:YP}{env:Env}{outer:List Env}{L e:JI}{c:Jo}{d:Option JI}{vs:Array Jo}{sl:Array (Option Jo)}{head:Jo}{F:Bool}{Q:Unit->JO->Prop}(r:A.frames=some (env::outer))(y:s.heap.FunFrames B (env::outer))(G:env.frame=some L)(C:s.heap.get? e=some ⟨c,d,.fields vs,sl⟩)(w:1<vs.size)(h:∀ h' T,Stp (frs (env::outer)) (λb=>b=e) s.heap h'->s.heap.objs.size<=T->FlyT e T c d (rawInt L) h'->Q () { s with heap:=h' }) :
  wpAny M A (do let a <- frameOf env;let i <- entryPlaceOf L F;let b <- EntryCells.newEntry head a .none (rawInt L) .none i;setField (.ref e) 1 b) Q E s:=by
 have n:e∉frs (env::outer):=λz=>by
  obtain⟨_,o,x,m⟩:=y.mem z;rw[C]at x;cases x;exact m vs rfl
 refine J0 (wpAny_frameOf_fun r y G λh1 ⟨D,v,j⟩=>J0 (wpAny_entryPlaceOf λi p=>?_));have k:h1.get? e=some ⟨c,d,.fields vs,sl⟩:=(v e n).trans C;have lt:e<h1.objs.size:=Jn k;refine J0 ?_;refine(show wpAny M A (newFields _ _) _ _ _ from JR ?_ ?_)
 ·have g:=J8 { cls:=.type "traceback",dict:=none,data:=.fields ([head,.ref L,.none,rawInt L,.none]++if i.isEmpty=true then List.replicate 6 .none else i).toArray } k
  have t:(h1.push { cls:=.type "traceback",dict:=none,data:=.fields ([head,.ref L,.none,rawInt L,.none]++if i.isEmpty=true then List.replicate 6 .none else i).toArray }).get? h1.objs.size=_:=Jq _ rfl;refine wpAny_setField g rfl w (h _ h1.objs.size ?_ (by rw[D];exact Jg _) ⟨_,_,_,_,lu 1 _ g,⟨rfl,rfl⟩,rfl,?_,Ne.symm (JA lt),(ue (Ne.symm (JA lt))).trans t,rfl,?_⟩)
  ·refine Stp.trans (h1:=h1.push _) ⟨λb o q z m=>J8 _ ((v b m).trans q),λb o q z=>?_,λb o q=>?_⟩ ((pY (o:=⟨c,d,.fields vs,sl⟩) 1 _ g).mono (λ_ z=>nomatch z) λ_ _ _ z=>z)
   ·obtain⟨u,l⟩:=j b o q
    exact⟨u,J8 _ l⟩
   ·obtain⟨u,l⟩:=j b o q
    exact⟨_,J8 _ l⟩
  ·rw[Array.getElem?_setIfInBounds_self,Jm w]
  ·simp
 ·show (_:Array Jo).size<=sizeLine+2
  rcases p with rfl|⟨_,_,_,_,_,_,_,rfl⟩<;>(rw[JB];show (11:Nat)<=16777218;decide)
theorem i9 {M:Model}{A:YO}{E:Jo->JO->Prop}{s:JO}{B:YP}{env:Env}{outer:List Env}{L e:JI}{a:Obj}{vs:Array Jo}{Q:Unit->JO->Prop}(f:A.frames=some (env::outer))(k:s.heap.FunFrames B (env::outer))(g:env.frame=some L)(i:s.heap.get? e=some a)(hd:a.data=.fields vs)(h1:vs[1]?=some .none)(h:∀ h' T,Stp (frs (env::outer)) (λb=>b=e) s.heap h'->s.heap.objs.size<=T->FlyT e T a.cls a.dict (rawInt L) h'->Q () { s with heap:=h' }):wpAny M A (noteFrame (.ref e) env) Q E s:=by
 obtain⟨c,d,_,l⟩:=a;obtain rfl:=hd;have j:1<vs.size:=(JZ.mp h1).1;unfold noteFrame;rw[g];refine J0 (Zf i rfl h1 ?_);exact qe f k g i j h
theorem cX {M:Model}{A:YO}{E:Jo->JO->Prop}{s:JO}{B:YP}{env:Env}{outer:List Env}{L e a:JI}{cls:Jo}{dx:Option JI}{Q:Unit->JO->Prop}(i:A.frames=some (env::outer))(w:s.heap.FunFrames B (env::outer))(m:env.frame=some L)(x:FlyT e a cls dx .none s.heap)(h:∀ h' T,Stp (frs (env::outer)) (λb=>b=e\/b=a) s.heap h'->s.heap.objs.size<=T->FlyT e T cls dx (rawInt L) h'->Q () { s with heap:=h' }):wpAny M A (noteFrame (.ref e) env) Q E s:=by
 have t:=x.fields;obtain⟨⟨ce,C,_,sle⟩,k,⟨F,dT,_,D⟩,u,n,⟨rfl,rfl⟩,rfl,r,ne,c,rfl,p⟩:=x;have v:1<k.size:=(JZ.mp r).1;have sz:3<u.size:=(JZ.mp p).1;have st:Stp [] (λb=>b=a) s.heap (s.heap.update a (Obj.mapFields (·.setIfInBounds 3 .none))):=pY (o:=⟨ce,C,.fields k,sle⟩) 3 .none c;unfold noteFrame;rw[m];refine J0 (Zf n rfl r ?_);show wpAny M A (if (Value.ref a != Value.none)=true then _ else _) Q E s;rw[Jm (by rfl)];refine J0 (Zf c rfl p ?_);show wpAny M A (if (Value.none == rawInt L)=true then _ else _) Q E s;rw[Jf (by intro z;cases z)];refine J0 (wpAny_setField c rfl sz ?_);have j:=(ue (f:=Obj.mapFields (·.setIfInBounds 3 .none)) (Ne.symm ne)).trans n;have g:=st.frames (λb o q z=>t b o q (.inr z)) w;refine qe (s:={ s with heap:=s.heap.update a (Obj.mapFields (·.setIfInBounds 3 .none)) }) i g m j v λh' T d l y=>h h' T ?_ ?_ y
 ·exact(st.mono (λ_ z=>nomatch z) λ_ _ _ z=>.inr z).trans (d.mono (λ_ z=>z) λ_ _ _ z=>.inl z)
 ·rw[Heap.size_update]at l;exact l
def CX1 (P:Yo)(w:YI):CXT:=λouter H s E e a=>∃ (c T:JI) (cls:Jo) (d:Option JI) (b:Hp),e=.ref c/\a.os=s.os/\AllBare a.gens/\Un (frs outer) [] H b s.heap a.heap/\HOk P w b a.heap /\
 FlyT c T cls d .none a.heap/\(s.heap.get? c=none/\s.heap.get? T=none)/\(b c=none/\b T=none)/\E cls d b
theorem Un.stp {fs a:List JI}{Z:JI->Prop}{i H:Hp}{g h h':YP}(u:Un fs [] i H g h)(x:Stp a Z h h')(l:∀ b,Z b->g.get? b=none)(m:∀ b o,g.get? b=some o->b∈a->b∈fs):Un fs [] i H g h':=by
 have e:∀ b o,g.get? b=some o->¬ Z b:=λb o q z=>by rw[l b z]at q;cases q
 refine⟨λb o q n f _=>x.keep b o (u.keep b o q n f (by simp)) (e b o q) λz=>f (m b o q z),λb o q n _ _=>?_,u.free,λb o q ne=>?_,u.tups,u.frzs,u.tbls⟩
 ·obtain⟨p,c⟩:=u.any q n (by simp)
  obtain⟨d,j⟩:=x.slot b _ c (e b o q);exact⟨d,j⟩
 ·obtain⟨k,c⟩:=u.there b o q ne
  exact x.there b k c
theorem HOk.stp {P:Yo}{w:YI}{fs:List JI}{Z:JI->Prop}{H:Hp}{h h':YP}(ok:HOk P w H h)(x:Stp fs Z h h')(f:∀ b,Z b->H b=none)(g:∀ b∈fs,H b=none):HOk P w H h':=λa o e=>by
 have d:∀ b,(b=a\/H b=some (.own a))->∃ u,H b=some u:=by
  rintro b (rfl|q)
  ·exact⟨o,e⟩
  ·exact⟨_,q⟩
 refine(ok a o e).stay (λb u q r=>?_) (λ_ q=>q) λ_ _ q=>q;obtain⟨i,c⟩:=d b q;exact x.keep b u r (λz=>by rw[f b z]at c;cases c) λz=>by rw[g b z]at c;cases c
section
variable {P:Yo}{w:YI}{K:Jl}{mg:Str->Option Jo}{base:YP}{N:List Str}{qual:Str}{scope:Scope}{f:JI}{cd:Jo}{A:YO}{outer:List Env}{s:JO}{H:Hp}{E:XK}{pins:List (JI × Obj)}{σ:St}
theorem bg {b:JI}{o:Obj}{a:Hp}{s1:JO}(I:Inv (wg (CX1 P w) P w K mg base N qual scope f cd A outer s H E) pins σ a s1)(q:s.heap.get? b=some o)(hb:b∈frs (wg (CX1 P w) P w K mg base N qual scope f cd A outer s H E).stack):b∈frs outer:=by
 rcases Jr.mp (I.stkSub b hb) with z|z
 ·exact absurd (JG (Jn q) I.ok.above) (by rw[z];exact YB _)
 ·exact z
theorem older {a:Hp}{s1:JO}{T:JI}(I:Inv (wg (CX1 P w) P w K mg base N qual scope f cd A outer s H E) pins σ a s1)(l:s1.heap.objs.size<=T):s.heap.get? T=none :=
 Heap.get?_none_of_le (JX I.sz l)
theorem bx {c:Hp}{s1:JO}{a:JI}{g:Obj}{vs:Array Jo}(I:Inv (wg (CX1 P w) P w K mg base N qual scope f cd A outer s H E) pins σ c s1)(n:s1.heap.get? a=some g)(hd:g.data=.fields vs)(h1:vs[1]?=some .none)(l:s.heap.get? a=none)(e:c a=none)(p:E g.cls g.dict c):(wg (CX1 P w) P w K mg base N qual scope f cd A outer s H E).xe (.ref a) s1:=by
 show wpAny _ _ (leaving _ _) _ _ _;unfold leaving;refine J0 (i9 (B:=base) I.ok.frames I.stack rfl n hd h1 λu T st h r=>?_);refine zbz r λt d j=>?_;have m:∀ b,b=a->s.heap.get? b=none:=λb q=>by rw[q];exact l
 have k:∀ b,b=T->s.heap.get? b=none:=λb q=>by rw[q];exact older I h
 refine⟨a,T,_,_,c,rfl,I.os,I.bare,((show Un (frs outer) [] H c s.heap s1.heap from I.base).stp st m λb o q i=>bg I q i).stp d k (λ_ _ _ z=>nomatch z),?_,j,⟨l,k T rfl⟩,⟨e,I.hok.fresh h⟩,p⟩;exact HOk.stp (HOk.stp (P:=P) (w:=w) I.hok st (λb q=>by rw[q];exact e) λb i=>I.stkFree b i) d (λb q=>by rw[q];exact I.hok.fresh h) λ_ z=>nomatch z
end
end L2
namespace L2
open PySem PySem.Spec PyProof.Rows Own
abbrev FZ (o:Obj):HO:=.frz o (.ext λ_=>True)
theorem mJ {P:Yo}{w:YI}{H:Hp}{h:YP}{a:JI}{o:Obj}(e:h.get? a=some o):ObjOk P w H h a (FZ o):=⟨e,trivial,⟨o,e⟩,λ_ _ _ _=>trivial⟩
structure Lam where
 params:Arguments
 body:Expr
 scope:Scope
 qual:Str
def n9 (L:Lam)(cl:List (Str × JI))(pm:Jo)(c:JI)(ct:Jo):Obj:=PySem.W.kla_obj "<lambda>" L.qual L.params L.body L.scope cl pm c ct
structure LamAt (H:Hp) (f:JI) (L:Lam) (cl:List (Str × JI)) (vs:List V):Prop where
 ex:∃ (pm:Jo) (c:JI) (ct:Jo) (oc:Obj) (fs:Array Jo) (t:Tok),H f=some (FZ (n9 L cl pm c ct))/\H c=some (FZ oc)/\oc.data=.fields fs/\fs[1]?=some (.str L.qual t)
 len:cl.length=vs.length
 cell:∀ (i:Nat) x c v,cl[i]?=some (x,c)->vs[i]?=some v->∃ o u,H c=some (FZ o)/\o.data=.cell (some u)/\RelV v u
 nd1:(cl.map (·.1)).Nodup
 nd2:(cl.map (·.2)).Nodup
theorem LamAt.frz {H H':Hp}{f:JI}{L:Lam}{cl:List (Str × JI)}{vs:List V}(h:LamAt H f L cl vs)(z:∀ b o u,H b=some (.frz o u)->H' b=some (.frz o u)):LamAt H' f L cl vs:=by
 obtain⟨pm,c,p,j,fs,t,n,m,l,k⟩:=h.ex;refine⟨⟨pm,c,p,j,fs,t,z _ _ _ n,z _ _ _ m,l,k⟩,h.len,λi x c v a b=>?_,h.nd1,h.nd2⟩;obtain⟨o,u,g,e,d⟩:=h.cell i x c v a b;exact⟨o,u,z _ _ _ g,e,d⟩
def ye (cl:List (Str × JI))(H:Hp):Hp:=λb=>if b∈cl.map (·.2) then none else H b
def back (cl:List (Str × JI))(H H':Hp):Hp:=λb=>if b∈cl.map (·.2) then H b else H' b
theorem wj {cl:List (Str × JI)}{H:Hp}{b:JI}(h:b∈cl.map (·.2)):ye cl H b=none:=Jm h
theorem yN {cl:List (Str × JI)}{H:Hp}{b:JI}(h:b∉cl.map (·.2)):ye cl H b=H b:=Jf h
theorem oV {cl:List (Str × JI)}{H H':Hp}{b:JI}(h:b∈cl.map (·.2)):back cl H H' b=H b:=Jm h
theorem xU {cl:List (Str × JI)}{H H':Hp}{b:JI}(h:b∉cl.map (·.2)):back cl H H' b=H' b:=Jf h
theorem mo {cl:List (Str × JI)}{H:Hp}{b:JI}{o:HO}(h:ye cl H b=some o):b∉cl.map (·.2)/\H b=some o:=by
 by_cases c:b∈cl.map (·.2)
 ·rw[wj c]at h;cases h
 ·rw[yN c]at h;exact⟨c,h⟩
def CellsFz (cl:List (Str × JI))(H:Hp):Prop:=∀ b∈cl.map (·.2),∃ o,H b=some (FZ o)
theorem LamAt.fz {H:Hp}{f:JI}{L:Lam}{cl:List (Str × JI)}{vs:List V}(h:LamAt H f L cl vs):CellsFz cl H:=λb k=>by
 obtain⟨⟨x,c⟩,j,rfl⟩:=Jy.mp k;obtain⟨i,a,e⟩:=Zj.mp j;have g:i<vs.length:=by rw[<- h.len];exact a
 obtain⟨o,u,d,_⟩:=h.cell i x c vs[i] (by rw[J7 a,e]) (J7 g);exact⟨o,d⟩
section
variable {P:Yo}{w:YI}{H H':Hp}{h h':YP}{cl:List (Str × JI)}
theorem qY (x:HOk P w H h)(fz:CellsFz cl H):HOk P w (ye cl H) h:=λb u e=>by
 obtain⟨nb,f⟩:=mo e
 have keep:∀ {c:JI}{o:HO},H c=some o->(∀ q,o≠FZ q)->ye cl H c=some o:=λ{c o} z n=>by
  rw[yN];· exact z
  ·intro d
   obtain⟨q,a⟩:=fz c d;rw[z]at a;exact n q (Jp a)
 exact(x b u f).stay (λc v _ q=>q) (λc q=>keep q λz y=>by cases y) λc g q=>keep q λz y=>by cases y
theorem bz {fs:List JI}(un:Un fs [] (ye cl H) H' h h')(fz:CellsFz cl H)(k:∀ b∈fs,H b=none)(there:∀ b o,H b=some (FZ o)->h.get? b=some o)(low:∀ b∈cl.map (·.2),H' b=none)(ok:HOk P w H' h'):Un fs [] H (back cl H H') h h'/\HOk P w (back cl H H') h':=by
 have d:∀ {b:JI},H b=none->b∉cl.map (·.2):=λe a=>by
  obtain⟨o,q⟩:=fz _ a;rw[e]at q;cases q
 have kept:∀ b∈cl.map (·.2),∀ o,h.get? b=some o->h'.get? b=some o:=λb a o e=>un.keep b o e (wj a) (λz=>d (k b z) a) (by simp)
 have f:∀ {b:JI}{o:HO},H b=some o->(∀ q,o≠FZ q)->b∉cl.map (·.2):=λz n a=>by
  obtain⟨q,i⟩:=fz _ a;rw[z]at i;exact n q (Jp i)
 refine⟨⟨λb o e n x y=>un.keep b o e (by rw[yN (d n)];exact n) x y,λb o e n x y=>un.slot b o e (by rw[yN (d n)];exact n) x y,λb o e n y=>?_,un.there,λb g e=>?_,λb o u e=>?_,λb j e=>?_⟩,λb u e=>?_⟩
 ·rw[xU (d n)]
  exact un.free b o e (by rw[yN (d n)];exact n) y
 ·have nb:=f e λq z=>by cases z
  rw[xU nb];exact un.tups b g (by rw[yN nb];exact e)
 ·by_cases c:b∈cl.map (·.2)
  ·rw[oV c];exact e
  ·rw[xU c];exact un.frzs b o u (by rw[yN c];exact e)
 ·have nb:=f e λq z=>by cases z
  rw[xU nb];exact un.tbls b j (by rw[yN nb];exact e)
 ·by_cases c:b∈cl.map (·.2)
  ·rw[oV c]at e
   obtain⟨o,q⟩:=fz b c;rw[q]at e;cases e;exact mJ (kept b c o (there b o q))
  ·rw[xU c]at e
   have old:∀ {x:JI}{o:HO},H' x=some o->back cl H H' x=some o:=λ{x o} z=>by
    rw[xU];· exact z
    ·intro l
     rw[low x l]at z;cases z
   exact(ok b u e).stay (λx v _ q=>q) (λx q=>old q) λx g q=>old q
end
def ko (L:Lam)(cl:List (Str × JI))(a f c:JI):Env:={ scope:=L.scope,locals:=a,globals:=mainGlobals,cells:=cl,qual:=L.qual++".<locals>.",func:=some f,code:=.ref c,frame:=some a,builtins:=builtinsNs }
def bh (CX:CXT)(P:Yo)(w:YI)(K:Jl)(mg:Str->Option Jo)(base:YP)(N:List Str)(L:Lam)(cl:List (Str × JI))(f c:JI)(A:YO)(outer:List Env)(s:JO)(H:Hp)(E:XK):Cx where
 prog:=P
 w:=w
 K:=K
 mg:=mg
 base:=base
 A:=A.deeper (ko L cl s.heap.objs.size f c)
 N:=N
 s₀:=s
 H₀:=ye cl H
 env:=ko L cl s.heap.objs.size f c
 outer:=outer
 stack:=ko L cl s.heap.objs.size f c::outer
 ex:=[]
 calm:=true
 fn:=λ_=>false
 pn:=[]
 xe:=λe b=>wpAny (model P w) (A.deeper (ko L cl s.heap.objs.size f c)) (leaving (ko L cl s.heap.objs.size f c) e) (λ_ a=>CX outer H s E e a) (λd a=>CX outer H s E d a) b
structure LamScope (ps fr:List Str) (sc:Scope):Prop where
 kind:sc.kind=.function
 co:sc.isCoroutine=false
 gen:sc.isGenerator=false
 nd:(ps++fr).Nodup
 par:∀ x∈ps,sc.names.lookup x=some .local
 fre:∀ x∈fr,sc.names.lookup x=some .free
 noc:∀ y∈sc.names,y.2≠.cell
 all:∀ x,sc.names.lookup x=some .free->x∈fr
section
variable {CX:CXT}{P:Yo}{w:YI}{K:Jl}{mg:Str->Option Jo}{base:YP}{L:Lam}{cl:List (Str × JI)}{vals vs:List V}{ps:List Str}{f c:JI}{A:YO}{outer:List Env}{s:JO}{H:Hp}{us:List Jo}{E:XK}
theorem je {cl:List (Str × JI)}(nd:(cl.map (·.1)).Nodup):∀ {i:Nat}{x:Str}{c:JI},cl[i]?=some (x,c)->cl.lookup x=some c:=by
 induction cl with
 | nil=>intro i x c h;cases h
 | cons p r ih =>
  intro i x c h;rw[Y1,JQ]at nd
  cases i with
  | zero =>
   cases Jp h
   rw[YE,ZD]
  | succ i =>
   have m:=JD (show r[i]?=some (x,c) from h);rw[YE,show (x == p.1)=false from ZF.mpr λz=>nd.1 (Jy.mpr ⟨_,m,z⟩)];exact ih nd.2 (show r[i]?=some (x,c) from h)
theorem lW {ps:List Str}{us:List Jo}(nd:ps.Nodup)(d:us.length=ps.length){i:Nat}{x:Str}{u:Jo}(b:ps[i]?=some x)(c:us[i]?=some u):(ps.zip us).reverse.lookup x=some u:=by
 have a:((ps.zip us).reverse.map (·.1)).Nodup:=by
  rw[List.map_reverse,List.map_fst_zip (by simp_all)];exact List.pairwise_reverse.mpr (nd.imp λh=>h.symm)
 have m:(x,u)∈(ps.zip us).reverse:=List.mem_reverse.mpr (JD (i:=i) (by rw[Wm];exact⟨b,c⟩));generalize (ps.zip us).reverse=l at a m
 induction l with
 | nil=>cases m
 | cons p r ih =>
  rw[Y1,JQ]at a;rcases Jr.mp m with e|z
  ·rw[<- e,YE,ZD]
  ·rw[YE,show (x == p.1)=false from ZF.mpr λy=>a.1 (Jy.mpr ⟨_,z,y⟩)]
   exact ih a.2 z
theorem zaj {h':YP}{tk:Nat}(S:LamScope ps (cl.map (·.1)) L.scope)(hd:A.handled=none)(g:Env0 P w K mg base A outer s H)(la:LamAt H f L cl vals)(r:Vals vs us)(J:vs.length=ps.length)(ns:h'.Ns s.heap.objs.size (λx=>(ps.zip us).reverse.lookup x))(kp:∀ b o,s.heap.get? b=some o->h'.get? b=some o) :
  Inv (bh CX P w K mg base (ps++cl.map (·.1)) L cl f c A outer s H E) [] ((vs++vals).map some) (ye cl H) { s with heap:=h',toks:=tk }:=by
 have fz:=la.fz;have O:=Wp.mp S.nd;have ul:us.length=ps.length:=by rw[<- r.length];exact J
 have d:∀ {x:Str}{a:JI},cl.lookup x=some a->(x,a)∈cl:=λh=>Zn h
 have cellOf:∀ {x:Str}{a:JI},(x,a)∈cl->∃ (i:Nat) (v:V) (o:Obj) (u:Jo),cl[i]?=some (x,a)/\vals[i]?=some v/\H a=some (FZ o)/\o.data=.cell (some u)/\RelV v u/\s.heap.get? a=some o:=λ{x a} m=>by
  obtain⟨i,t,e⟩:=Zj.mp m;have R:cl[i]?=some (x,a):=by rw[J7 t,e]
  have Q:i<vals.length:=by rw[<- la.len];exact t
  obtain⟨o,u,C,B,F⟩:=la.cell i x a vals[i] R (J7 Q);exact⟨i,_,o,u,R,J7 Q,C,B,F,(g.hok a _ C).1⟩
 refine⟨⟨g.mod,S.kind,rfl,rfl,Jg _,λy z a k n=>?_,λy G=>?_,λy a q=>(by cases q),λ_=>hd,Around.frames_deeper g.frames,.inr ⟨rfl,rfl⟩,λb z=>(Ju z).elim,λb o e=>⟨(g.bs b o e).1,?_⟩,g.bsz,λb _ _=>Ju,λb z=>(Ju z).elim,g.funs,λb hb=>?_⟩,
  rfl,g.bare,Un.kept kp,⟨_,ns,λi y v k n h3=>?_⟩,λy a h=>?_,?_,λy a h=>wj (Jy.mpr ⟨_,d h,rfl⟩),λp I=>(Ju I).elim,(qY g.hok fz).kept kp,?_⟩
 ·-- one cell,one name
  have X:=d k;have W:=d n;obtain⟨i,t,D⟩:=Zj.mp X;obtain⟨j,Y,M⟩:=Zj.mp W;have:i=j:=(List.getElem_inj (h₀:=by rw[Je];exact t) (h₁:=by rw[Je];exact Y) la.nd2).mp (by rw[List.getElem_map,List.getElem_map,D,M]);subst this;rw[D]at M;exact JP Prod.fst M
 ·have G:L.scope.names.lookup y=some .cell\/L.scope.names.lookup y=some .free:=G
  rcases G with q|q
  ·exact absurd rfl (S.noc _ (Zn q))
  ·obtain⟨p,I,e⟩:=Jy.mp (S.all y q)
   obtain⟨i,t,D⟩:=Zj.mp I;exact⟨p.2,je la.nd1 (i:=i) (by rw[J7 t,D,<- e])⟩
 ·show ye cl H b=none
  unfold ye;split
  ·rfl
  ·exact(g.bs b o e).2
 ·show ye cl H b=none
  unfold ye;split
  ·rfl
  ·exact g.frf b hb
 ·have l:(vs++vals)[i]?=some v:=by
   rw[JN]at n
   cases e:(vs++vals)[i]? with
   | none=>rw[e]at n;cases n
   | some z=>rw[e]at n;cases n;rfl
  replace k:(ps++cl.map (·.1))[i]?=some y:=k;by_cases ci:i<vs.length
  ·rw[Y0 ci]at l
   rw[Y0 (by simp_all)]at k;obtain⟨u,Z,T⟩:=r.get l;exact⟨u,T,.inl ⟨S.par y (JD k),lW O.1 ul k Z⟩⟩
  ·rw[Yj (by simp_all)]at l
   rw[Yj (by simp_all),JN,<- J]at k;obtain⟨⟨x,a⟩,N,rfl⟩:=YN.mp k;obtain⟨o,u,C,B,F⟩:=la.cell _ x a v N l;exact⟨u,F,.inr ⟨.inr (S.fre x (Jy.mpr ⟨_,JD N,rfl⟩)),a,je la.nd1 N,o,kp _ _ (g.hok a _ C).1,B⟩⟩
 ·obtain⟨i,v,o,u,_,_,_,B,_,U⟩:=cellOf (d h)
  exact⟨some u,o,kp _ _ U,B⟩
 ·show ye cl H s.heap.objs.size=none
  unfold ye;split
  ·rfl
  ·exact g.hok.fresh (Jg _)
 ·show ((vs++vals).map some).length=(ps++cl.map (·.1)).length
  rw[Je,Jd,Jd,Je,J,la.len]
end
theorem mU {sc:Scope}{env:Env}(h:∀ x,(x,NameKind.free)∈sc.names->∃ c,env.cells.lookup x=some c) :
  ∃ cl,closureFor sc env=pure cl/\cl.map (·.1)=((sc.names.filter λy=>y.2 == .free).map (·.1)).reverse/\∀ p∈cl,env.cells.lookup p.1=some p.2:=by
 unfold closureFor
 have key:∀ (l:List (Str × NameKind)) (acc:List (Str × JI)),(∀ x,(x,NameKind.free)∈l->∃ c,env.cells.lookup x=some c)->(∀ p∈acc,env.cells.lookup p.1=some p.2) ->
   ∃ cl,(forIn l acc λ(y:Str × NameKind) (r:List (Str × JI))=>(match y with|(name,kind)=>if (kind == NameKind.free)=true then do let a <- cellOf env name;pure (ForInStep.yield ((name,a)::r)) else pure (ForInStep.yield r):Sem (ForInStep (List (Str × JI)))))=pure cl/\cl.map (·.1)=((l.filter λy=>y.2 == .free).map (·.1)).reverse++acc.map (·.1)/\∀ p∈cl,env.cells.lookup p.1=some p.2:=by
  intro l
  induction l with
  | nil=>intro acc _ e;exact⟨acc,rfl,rfl,e⟩
  | cons y l ih =>
   intro acc j e;obtain⟨x,f⟩:=y;rw[Zc];by_cases c:(f == NameKind.free)=true
   ·have n:f=.free:=by
     cases f<;>first|rfl|cases c
    subst n;obtain⟨a,k⟩:=j x (.head _)
    obtain⟨cl,d,e2,b⟩:=ih ((x,a)::acc) (λz g=>j z (.tail _ g)) (λp i=>by
     rcases Jr.mp i with rfl|q
     ·exact k
     ·exact e p q)
    refine⟨cl,?_,?_,b⟩
    ·have o:cellOf env x=pure a:=by unfold cellOf;rw[k]
     simp only[o,pure_bind];exact d
    ·rw[e2,List.filter_cons,Jm (show ((x,NameKind.free).2 == NameKind.free)=true from rfl),Y1 (l:=List.filter _ l),List.reverse_cons,JT];rfl
   ·obtain⟨cl,d,e2,b⟩:=ih acc (λz g=>j z (.tail _ g)) e
    refine⟨cl,?_,?_,b⟩
    ·simp only[c,pure_bind]
     exact d
    ·rw[e2,List.filter_cons,Jf c]
 obtain⟨cl,d,e2,b⟩:=key sc.names [] h (λp i=>(Ju i).elim);refine⟨cl,?_,by rw[e2,List.map_nil,JU],b⟩;have s:=JP (λ(m:Sem (List (Str × JI)))=>m >>= λr=>pure r) d;exact s.trans (pure_bind _ _)
def TabOk (H:Hp)(qual:Str)(l:List (Pos × JI)):Prop:=∀ p∈l,∃ (a:Obj) (fs:Array Jo) (t:Tok),H p.2=some (FZ a)/\a.data=.fields fs/\fs[1]?=some (.str qual t)
theorem TabOk.frz {H H':Hp}{qual:Str}{l:List (Pos × JI)}(h:TabOk H qual l)(z:∀ b o u,H b=some (.frz o u)->H' b=some (.frz o u)):TabOk H' qual l:=λp c=>by
 obtain⟨a,fs,t,e,d⟩:=h p c;exact⟨a,fs,t,z _ _ _ e,d⟩
theorem ra (pos:Pos):∀ l:List (Pos × JI),codeAmong pos (triples l)=none\/∃ p∈l,codeAmong pos (triples l)=some (.ref p.2)
 | []=>.inl rfl
 | (q,a)::l=>by
  show (if (((q.line:Int) == pos.line && (q.col:Int) == pos.col)=true) then some (Value.ref a) else codeAmong pos (triples l))=none\/∃ p∈(q,a)::l,(if (((q.line:Int) == pos.line && (q.col:Int) == pos.col)=true) then some (Value.ref a) else codeAmong pos (triples l))=some (.ref p.2);split
  ·exact .inr ⟨_,.head _,rfl⟩
  ·rcases ra pos l with h|⟨p,b,h⟩
   ·exact .inl h
   ·exact .inr ⟨p,.tail _ b,h⟩
theorem vV:∀ l:List (Pos × JI),TriplesOk (triples l)
 | []=>trivial
 | (q,a)::l=>vV l
structure CodeK (K:Jl) (mg:Str->Option Jo) (base:YP) (c P:JI):Prop where
 hd:PySem.W.codeHdIn K c P=true
 blt:base.BuiltinsAt mg P
 gP:mainGlobals≠P
structure LamRaw (H:Hp) (f:JI) (L:Lam) (cl:List (Str × JI)):Prop where
 ex:∃ (pm:Jo) (c:JI) (ct:Jo) (oc:Obj) (fs:Array Jo) (t:Tok),H f=some (FZ (n9 L cl pm c ct))/\H c=some (FZ oc)/\oc.data=.fields fs/\fs[1]?=some (.str L.qual t)
def CellsOf (env:Env)(cl:List (Str × JI)):Prop:=∀ p∈cl,env.cells.lookup p.1=some p.2
def zcG (env:Env)(P:JI)(L:Lam)(fr:List Str):TE:=λ_ H Q=>∃ l,H P=some (.tbl (triples l).toArray)/\TabOk H L.qual l /\
 ∀ f cl c a,cl.map (·.1)=fr->CellsOf env cl->H f=none->LamRaw a f L cl->a P=some (.tbl (triples c).toArray)->TabOk a L.qual c->(∀ b o,H b=some o->b≠P->a b=some o)->Q (.ref f) a
section
variable {X:Cx}{pins:List (JI × Obj)}{σ:St}{H:Hp}{s:JO}{h':YP}
theorem Inv.tab {P:JI}{ps more:Array Jo}{tk:Nat}(I:Inv X pins σ H s)(d:H P=some (.tbl ps))(k:Heap.ExtBut P s.heap h')(new:h'.get? P=some (PySem.W.tabObj (ps++more))):Inv X pins σ (upd H P (.tbl (ps++more))) { s with heap:=h',toks:=tk }:=by
 have ne:∀ {b:JI},H b=none->b≠P:=λe z=>by rw[z,d]at e;cases e
 have a:∀ {b:JI}{o:HO},H b=some o->(∀ q,o≠.tbl q)->upd H P (.tbl (ps++more)) b=some o:=λ{b o} e n=>by
  rw[zK];· exact e
  ·intro z
   rw[z,d]at e;exact n ps (Jp e).symm
 refine I.step (g':=s.gens) (d':=s.drawn) (ch:=[]) (λb j=>(Ju j).elim) (λb o _ _ _ e n=>k b o (ne n) e) (λb o _ _ _ e n=>⟨o.slots,k b o (ne n) e⟩) (λb o _ e n=>by rw[zK (ne n)];exact n) (λb o _ e=>?_) (λb f e=>a e λq z=>by cases z) (λb o u e=>a e λq z=>by cases z) (λb t e=>?_) (λm i=>?_) (λb u e=>?_) I.bare
 ·by_cases c:b=P
  ·subst c;exact⟨_,new⟩
  ·exact⟨o,k b o c e⟩
 ·by_cases c:b=P
  ·subst c
   rw[d]at e;cases e;exact⟨more,zG⟩
  ·exact⟨#[],by rw[zK c,e];simp⟩
 ·obtain⟨o,l,p,h,r⟩:=i
  exact⟨o,l,p,k _ o (ne I.free) h,r⟩
 ·by_cases c:b=P
  ·subst c
   rw[zG]at e;cases e;exact new
  ·rw[zK c]at e
   refine(I.hok b u e).stay (λx v g q=>k x v ?_ q) (λx q=>a q λz y=>by cases y) λx f q=>a q λz y=>by cases y
   rcases g with z|z
   ·rw[z];exact c
   ·rintro rfl
    rw[d]at z;cases z
theorem zbh {params:Arguments}{body:Expr}{scope:Scope}{pos:Pos}{c P:JI}{fr:List Str}(M:CodeK X.K X.mg X.base c P)(i:X.env.code=.ref c)(B:defaultsOf params X.env=([],[]))(r:∀ x,(x,NameKind.free)∈scope.names->X.env.kindOf x=some .cell\/X.env.kindOf x=some .free)(R:((scope.names.filter λy=>y.2 == .free).map (·.1)).reverse=fr) :
  PE X (.Lambda params body scope pos) (zcG X.env P ⟨params,body,scope,X.env.qual++"<lambda>"⟩ fr):=by
 intro pins s σ H Q I h;obtain⟨l,w,tok,q⟩:=h;obtain⟨cl,A,m,z⟩:=mU (sc:=scope) (env:=X.env) λx hx=>I.ok.has x (r x hx);rw[R]at m;have Y:s.heap.Ns mainGlobals X.mg:=I.mod.glob.keeps I.bk;have Z:s.heap.BuiltinsAt X.mg P:=M.blt.keeps I.bk;have C:=PySem.W.codeHd_of_K I.kIn M.hd;have E:s.heap.get? P=some (PySem.W.tabObj (triples l).toArray):=I.hok P _ w;refine PySem.W.kla_eval B ?_;rcases ra pos l with hn|⟨p,K,hy⟩
 ·refine PySem.W.kla_makeFunction A I.ok.glob Y i C E (by rw[List.toList_toArray];exact vV l) (by rw[List.toList_toArray];exact hn) M.gP Z λd f h' tk ex lo W cr T=>?_
  obtain⟨c2,j,fs,t,ec,g1,g2,g3⟩:=cr;cases ec;have U:P<s.heap.objs.size:=Jn E;have sz:s.heap.objs.size<=h'.objs.size:=JX lo (Nat.le_of_lt W);have cP:d≠P:=Z5 (JG U lo);have fP:h'.objs.size≠P:=Z5 (JG U sz);have cf:d≠h'.objs.size:=JA W
  have L:(triples l).toArray++#[rawInt pos.line,rawInt pos.col,.ref d]=(triples (l++[(pos,d)])).toArray:=by
   rw[triples_append];simp
  rw[L]at T;have D:=I.tab (tk:=tk) (h':=h'.push (n9 ⟨params,body,scope,X.env.qual++"<lambda>"⟩ cl ((X.mg "__name__").getD .none) d f)) (more:=#[rawInt pos.line,rawInt pos.col,.ref d]) w (λb o n e=>J8 _ (ex b o n e)) (by rw[L];exact J8 _ T);rw[L]at D;have V:H d=none:=I.hok.fresh lo;have J:H h'.objs.size=none:=I.hok.fresh sz;have m1:upd H P (.tbl (triples (l++[(pos,d)])).toArray) d=none:=by rw[zK cP];exact V
  have I2:=D.adopt (o:=FZ j) (I.fpOk lo m1) (mJ (J8 _ g1));have m2:upd (upd H P (.tbl (triples (l++[(pos,d)])).toArray)) d (FZ j) h'.objs.size=none:=by rw[zK cf.symm,zK fP];exact J
  have I3:=I2.adopt (o:=FZ (n9 ⟨params,body,scope,X.env.qual++"<lambda>"⟩ cl ((X.mg "__name__").getD .none) d f)) (I.fpOk sz m2) (mJ (Jq _ rfl))
  have keep:∀ b o,H b=some o->b≠P->upd (upd (upd H P (.tbl (triples (l++[(pos,d)])).toArray)) d (FZ j)) h'.objs.size (FZ (n9 ⟨params,body,scope,X.env.qual++"<lambda>"⟩ cl ((X.mg "__name__").getD .none) d f)) b=some o:=λb o e n=>by
   rw[zK (zJ e J),zK (zJ e V),zK n];exact e
  refine⟨.ref h'.objs.size,_,I3,rfl,q _ cl (l++[(pos,d)]) _ m z J ⟨_,d,f,j,fs,t,zG,by rw[zK cf];exact zG,g2,g3⟩ (by rw[zK fP.symm,zK cP.symm];exact zG) (λp K=>?_) keep⟩;rcases Jv.mp K with N|is
  ·obtain⟨O,S,t',v,G,F⟩:=tok p N
   exact⟨O,S,t',keep _ _ v (x9 v w (λy=>by cases y)),G,F⟩
  ·rw[Jc.mp is]
   exact⟨j,fs,t,by rw[zK cf];exact zG,g2,g3⟩
 ·obtain⟨j,fs,t,v,G,F⟩:=tok p K
  refine PySem.W.kla_makeFunctionHit A I.ok.glob Y i C E (by rw[List.toList_toArray];exact vV l) (by rw[List.toList_toArray];exact hy) Z λf h' tk k sz=>?_;have kk:∀ b o,s.heap.get? b=some o->(h'.push (n9 ⟨params,body,scope,X.env.qual++"<lambda>"⟩ cl ((X.mg "__name__").getD .none) p.2 f)).get? b=some o:=λb o e=>J8 _ (k b o e);have g:=I.hok.fresh (a:=h'.objs.size) sz;have D:=I.laid (a:=h'.objs.size) (o:=FZ (n9 ⟨params,body,scope,X.env.qual++"<lambda>"⟩ cl ((X.mg "__name__").getD .none) p.2 f)) (t':=tk) kk sz (mJ (Jq _ rfl));refine⟨.ref h'.objs.size,_,D,rfl,q _ cl l _ m z g ⟨_,p.2,f,j,fs,t,zG,by rw[zK (zJ v g)];exact v,G,F⟩ (by rw[zK (zJ w g)];exact w) (tok.frz λb o u e=>by rw[zK (zJ e g)];exact e) λb o e _=>by rw[zK (zJ e g)];exact e⟩
end
def CellsAt (H:Hp)(cs:List (Str × JI))(vals:List V):Prop:=cs.length=vals.length/\∀ (i:Nat) x c v,cs[i]?=some (x,c)->vals[i]?=some v->∃ o u,H c=some (FZ o)/\o.data=.cell (some u)/\RelV v u
theorem CellsAt.fz {H:Hp}{cs:List (Str × JI)}{vals:List V}(h:CellsAt H cs vals):CellsFz cs H:=λb j=>by
 obtain⟨⟨x,c⟩,g,rfl⟩:=Jy.mp j;obtain⟨i,a,e⟩:=Zj.mp g;have f:i<vals.length:=by rw[<- h.1];exact a
 obtain⟨o,u,d,_⟩:=h.2 i x c vals[i] (by rw[J7 a,e]) (J7 f);exact⟨o,d⟩
theorem LamRaw.at_ {H:Hp}{f:JI}{L:Lam}{cl cs:List (Str × JI)}{vals ws:List V}(r:LamRaw H f L cl)(h:CellsAt H cs vals)(n1:(cl.map (·.1)).Nodup)(d:(cl.map (·.2)).Nodup)(len:cl.length=ws.length)(sub:∀ (i:Nat) x c v,cl[i]?=some (x,c)->ws[i]?=some v->∃ j:Nat,cs[j]?=some (x,c)/\vals[j]?=some v):LamAt H f L cl ws:=by
 refine⟨r.ex,len,λi x c v a b=>?_,n1,d⟩;obtain⟨j,e,e2⟩:=sub i x c v a b;exact h.2 j x c v e e2
def zaR (env:Env)(xs:List (Str × Nat))(sp:Sp)(E:XK)(t:TA):TE:=λσ H Q=>t σ H λd c=>∃ vals:List V,vals.length=xs.length/\(∀ (j:Nat) x i v,xs[j]?=some (x,i)->vals[j]?=some v->σ[i]?=some (some v)) /\
 ∀ cs a,cs.map (·.1)=xs.map (·.1)->CellsOf env cs->(cs.map (·.2)).Nodup->CellsAt a cs vals->(∀ b,b∉cs.map (·.2)->a b=c b)->(∀ b∈cs.map (·.2),c b=none)->sp d a (λv e=>Q v (ye cs e)) E
section
variable {X:Cx}{pins:List (JI × Obj)}{σ:St}{H:Hp}{s:JO}
theorem Inv.cells {xs:List (Str × Nat)}{vals:List V}(I:Inv X pins σ H s)(nd:(xs.map (·.1)).Nodup)(y:∀ p∈xs,X.N[p.2]?=some p.1/\X.env.scope.names.lookup p.1=some .cell/\X.fn p.1=true)(n:vals.length=xs.length)(k:∀ (j:Nat) x i v,xs[j]?=some (x,i)->vals[j]?=some v->σ[i]?=some (some v)):∃ cs:List (Str × JI),cs.map (·.1)=xs.map (·.1)/\CellsOf X.env cs/\(cs.map (·.2)).Nodup/\cs.length=vals.length /\
   ∀ (j:Nat) x c v,cs[j]?=some (x,c)->vals[j]?=some v->∃ o u,s.heap.get? c=some o/\o.data=.cell (some u)/\RelV v u/\X.s₀.heap.objs.size<=c:=by
 induction xs generalizing vals with
 | nil =>
  cases vals with
  | nil=>exact⟨[],rfl,λp K=>(Ju K).elim,YX,rfl,λj x c v h=>by cases h⟩
  | cons a b=>cases n
 | cons p xs ih =>
  cases vals with
  | nil=>cases n
  | cons t vals =>
   rw[Y1,JQ]at nd;obtain⟨cs,B,A,Q,P,O⟩:=ih (vals:=vals) nd.2 (λq f=>y q (.tail _ f)) (by simpa using n) (λj x i v a b=>k (j+1) x i v a b);obtain⟨d,l⟩:=p;obtain⟨G,w,F⟩:=y (d,l) (.head _);have J:=k 0 d l t rfl rfl;obtain⟨m,S,lo⟩:=I.loc;obtain⟨u,C,D⟩:=lo l d t G J (.inr (.inl w));rcases D with ⟨E,_⟩|⟨_,c,r,o,L,N⟩
   ·have g:X.env.scope.names.lookup d=some .local:=E
    rw[w]at g;cases g
   refine⟨(d,c)::cs,by rw[Y1,Y1,B],λq f=>?_,?_,by rw[JW,JW,P],λj x R v a b=>?_⟩
   ·rcases Jr.mp f with rfl|z
    ·exact r
    ·exact A q z
   ·rw[Y1,JQ]
    refine⟨λM=>?_,Q⟩;obtain⟨q,f,e⟩:=Jy.mp M;have:=I.ok.inj q.1 d c (by rw[A q f];exact JP some e) r;exact nd.1 (by rw[<- B,<- this];exact Jy.mpr ⟨q,f,rfl⟩)
   ·cases j with
    | zero =>
     cases Jp a;cases Jp b
     exact⟨o,u,L,N,C,I.ok.cab d c F r⟩
    | succ j=>exact O j x R v a b
variable {k:Nat}{f:JI}{fd:Yl}{ps:List Str}{sp:Sp}{x:Str}{p pos:Pos}{e:Expr}{es:List Expr}{t:TA}{E:XK}
theorem dy (F:FnOk X.prog X.w X.K X.mg X.base CX0 k f fd ps sp) (hr:Room k X.A) (hg:Gl X x) (hm:X.mg x=some (.ref f)) (T:PySem.W.keepIn X.K (.ref f)=true) (hb:Binds X.K fd ps []) (xs:List (Str × Nat)) (nd:(xs.map (·.1)).Nodup)
  (hk:∀ p∈xs,X.N[p.2]?=some p.1/\X.env.scope.names.lookup p.1=some .cell/\X.fn p.1=true) (ha:PA X (e::es) t) (U:(x == ("__debug__":Str))=false:=by decide) (he:starEach (e::es) X.env=(false,eval e X.env)::starEach es X.env:=by rfl) (S:(backTo pos (starEach es X.env)).any (·.1)=false:=by rfl) :
  PE X (.Call (.Name x p) (e::es) [] pos) (zaR X.env xs sp E t):=by
 intro pins s σ H Q I h;refine YK (uH I hg hm ?_ U);refine PySem.W.callWith_K (h₀:=X.base) I.ok.mod.kin T (thn (ha pos pins s σ H _ I h) λM m ⟨vs,K,l,r,vals,vl,R,q⟩=>⟨l.kIn,?_⟩) he S;obtain⟨cs,c1,c2,c3,Z,Y⟩:=l.cells nd hk vl R
 have cell:∀ b∈cs.map (·.2),∃ y o u,X.env.cells.lookup y=some b/\m.heap.get? b=some o/\o.data=.cell (some u)/\X.s₀.heap.objs.size<=b:=λb hb=>by
  obtain⟨⟨y,c⟩,D,rfl⟩:=Jy.mp hb;obtain⟨j,W,ej⟩:=Zj.mp D;have jv:j<vals.length:=by rw[<- Z];exact W
  obtain⟨o,u,G,N,_,g4⟩:=Y j y c vals[j] (by rw[J7 W,ej]) (J7 jv);exact⟨y,o,u,c2 (y,c) D,G,N,g4⟩
 have free:∀ b∈cs.map (·.2),K b=none:=λb hb=>by
  obtain⟨y,o,u,O,_⟩:=cell b hb;exact l.freeC y b O
 have nofr:∀ b∈cs.map (·.2),b∉frs X.stack:=λb hb hf=>by
  obtain⟨y,o,u,O,_,_,lo⟩:=cell b hb;rcases Jr.mp (l.stkSub b hf) with z|z
  ·exact l.cne y b O z
  ·obtain⟨_,o',ho,_⟩:=l.ok.funs.mem z
   exact absurd (JG (Jn ho) lo) (YB _)
 let B:Hp:=λb=>if b∈cs.map (·.2) then (m.heap.get? b).map FZ else K b
 have C:∀ {b:JI}{o:Obj},b∈cs.map (·.2)->m.heap.get? b=some o->B b=some (FZ o):=λ{b o} hb e=>by
  show (if b∈cs.map (·.2) then (m.heap.get? b).map FZ else K b)=_;rw[Jm hb,e];rfl
 have d:∀ b,b∉cs.map (·.2)->B b=K b:=λb hb=>Jf hb
 have g:∀ {b:JI}{o:HO},K b=some o->B b=some o:=λ{b o} e=>by
  rw[d b λhb=>by rw[free b hb]at e;cases e];exact e
 have ca:CellsAt B cs vals:=⟨Z,λi y c v a b=>by
  obtain⟨o,u,G,N,g3,_⟩:=Y i y c v a b
  exact⟨o,u,C (Jy.mpr ⟨_,JD a,rfl⟩) G,N,g3⟩⟩
 have P:HOk X.prog X.w B m.heap:=λb u e2=>by
  by_cases hb:b∈cs.map (·.2)
  ·obtain⟨y,o,u',_,G,_⟩:=cell b hb
   rw[C hb G]at e2;cases e2;exact mJ G
  ·rw[d b hb]at e2
   exact(l.hok b u e2).stay (λ_ _ _ z=>z) (λ_ z=>g z) λ_ _ z=>g z
 have A:=l.env0;have e2:Env0 X.prog X.w X.K X.mg X.base X.A X.stack m B:=⟨A.frames,A.mod,λb o z=>⟨(A.bs b o z).1,?_⟩,A.bsz,A.funs,λb hb=>?_,P,A.bare⟩
 rotate_left
 ·rw[d b λD=>?_];· exact(A.bs b o z).2
  ·obtain⟨y,o',u,_,_,_,lo⟩:=cell b D
   exact absurd (JG (Jn z) (JX l.ok.bsz lo)) (YB _)
 ·rw[d b λD=>nofr b D hb];exact A.frf b hb
 have z:=q cs B c1 c2 c3 ca d free;have ul:M.length=ps.length:=by rw[<- r.length];exact F.len _ _ _ _ z
 refine wpAny_call (Wf (F.run X.A X.stack m B ⟨M,[]⟩ M vs _ E hr e2 (by have:=hb m M l.kIn (by rw[JU];exact ul);rwa [JU]at this) r z) λrs s' J=>?_)
 cases rs with
 | error e=>exact J.elim
 | ok fl =>
  cases fl with
  | next=>exact False.elim J
  | brk=>exact False.elim J
  | cont=>exact False.elim J
  | ret u =>
   obtain⟨v,H3,os,bare,un,L,rv,qq⟩:=J
   have V:CellsFz cs H3:=λb hb=>by
    obtain⟨o,w⟩:=ca.fz b hb;exact⟨o,un.frzs b o _ w⟩
   have same:∀ b∈cs.map (·.2),∀ o,m.heap.get? b=some o->s'.heap.get? b=some o:=λb hb o e=>by
    have:=un.frzs b o _ (C hb e);exact(L b _ this).1
   refine l.after ⟨v,ye cs H3,os,bare,⟨λb o e n x y=>?_,λb o e n x y=>?_,λb o e n y=>?_,un.there,λb ys e=>?_,λb o w e=>?_,λb qs e=>?_⟩,qY L V,rv,qq⟩
   ·by_cases hb:b∈cs.map (·.2)
    ·exact same b hb o e
    ·exact un.keep b o e (by rw[d b hb];exact n) x y
   ·by_cases hb:b∈cs.map (·.2)
    ·exact⟨o.slots,same b hb o e⟩
    ·exact un.slot b o e (by rw[d b hb];exact n) x y
   ·by_cases hb:b∈cs.map (·.2)
    ·exact wj hb
    ·rw[yN hb];exact un.free b o e (by rw[d b hb];exact n) y
   ·have hb:b∉cs.map (·.2):=λhb=>by rw[free b hb]at e;cases e
    rw[yN hb];exact un.tups b ys (g e)
   ·have hb:b∉cs.map (·.2):=λhb=>by rw[free b hb]at e;cases e
    rw[yN hb];exact un.frzs b o w (g e)
   ·have hb:b∉cs.map (·.2):=λhb=>by rw[free b hb]at e;cases e
    rw[yN hb];exact un.tbls b qs (g e)
end
def zcl (cl:List (Str × JI))(H:Hp)(Q:VK):VK:=λv a=>(∀ b∈cl.map (·.2),a b=none)->Q v (back cl H a)
section
variable {CX:CXT}{P:Yo}{w:YI}{K:Jl}{mg:Str->Option Jo}{base:YP}{L:Lam}{cl:List (Str × JI)}{vals vs:List V}{ps:List Str}{f c:JI}{A:YO}{outer:List Env}{s:JO}{H:Hp}{us:List Jo}{Q:VK}{E:XK}
theorem bJ {k:Nat}(S:LamScope ps (cl.map (·.1)) L.scope) (i:Room (k+1) A) (a:Env0 P w K mg base A outer s H) (la:LamAt H f L cl vals) (r:Vals vs us) (l:vs.length=ps.length)
  (hb:∀ pm cdv ct,bindArgs (PySem.W.kla_fn "<lambda>" L.qual L.params L.body L.scope cl pm cdv ct) ⟨us,[]⟩=pure (ps.zip us))
  (d:∀ c,Room k (A.deeper (ko L cl s.heap.objs.size f c))->∃ t,PE (bh CX P w K mg base (ps++cl.map (·.1)) L cl f c A outer s H E) L.body t/\t ((vs++vals).map some) (ye cl H) (zcl cl H Q)) :
  codeAny (model P w) A (.call (.ref f) ⟨us,[]⟩) (CR CX outer P w H s Q E) s:=by
 obtain⟨pm,c,ct,C,fs,n,R,O,N,M⟩:=la.ex;have lim:s.heap.NoLimit:=a.mod.nolimit.keeps λb o e=>(a.bs b o e).1;have ul:us.length=ps.length:=by rw[<- r.length];exact l
 refine PySem.W.kla_callFunE i.depth (a.hok f _ R).1 rfl S.co S.gen rfl ⟨c,C,fs,n,rfl,(a.hok c _ O).1,N,M⟩ ?_;rw[show bindArgs _ _=_ from hb pm (.ref c) ct];refine J9 (wpAny_newFunctionEnv S.noc (λy D=>S.par y.1 (List.of_mem_zip D).1) (λT ns p=>?_) S.kind);have j:∀ b o,s.heap.get? b=some o->T.get? b=some o:=λb o e=>(p.2 b (JA (Jn e))).trans (J8 _ e);refine⟨lim.keeps j,PySem.W.kla_codeExpr ?_⟩;obtain⟨t,F,G⟩:=d c (i.deeper _);have I:=zaj (CX:=CX) (E:=E) (c:=c) (tk:=s.toks+(ps.zip us).length) S i.hd a la r l ns j;refine JK (F [] _ _ _ _ I G) (λu x h=>?_) λe x h=>h;obtain⟨v,m,J,B,q⟩:=h;have g:=la.fz
 have low:∀ b∈cl.map (·.2),m b=none:=λb hb=>by
  obtain⟨o,z⟩:=g b hb;exact J.base.free b o (a.hok b _ z).1 (wj hb) Ju
 obtain⟨un,ok⟩:=bz (H':=m) J.base g a.frf (λb o z=>(a.hok b _ z).1) low J.hok;exact⟨v,_,J.os,J.bare,un,ok,B,q low⟩
end
abbrev LSpc:=List V->List V->Hp->VK->XK->Prop
structure LamQ (CX:CXT) (P:Yo) (w:YI) (K:Jl) (mg:Str->Option Jo) (base:YP) (k:Nat) (L:Lam) (fr ps:List Str) (sp:LSpc):Prop where
 S:LamScope ps fr L.scope
 len:∀ vals vs H Q E,sp vals vs H Q E->vs.length=ps.length
 bind:∀ (cl:List (Str × JI)) (us:List Jo),us.length=ps.length->∀ pm cdv ct,bindArgs (PySem.W.kla_fn "<lambda>" L.qual L.params L.body L.scope cl pm cdv ct) ⟨us,[]⟩=pure (ps.zip us)
 body:∀ (cl:List (Str × JI)) (f c:JI) (A:YO) (outer:List Env) (s:JO) (H:Hp) (vals vs:List V) (Q:VK) (E:XK),cl.map (·.1)=fr->Room k (A.deeper (ko L cl s.heap.objs.size f c))->CellsFz cl H->sp vals vs (ye cl H) Q E ->
  ∃ t,PE (bh CX P w K mg base (ps++fr) L cl f c A outer s H E) L.body t/\t ((vs++vals).map some) (ye cl H) Q
def zb2 (L:Lam)(fr:List Str)(sp:LSpc)(E:XK)(i:Nat)(t:TA):TE:=λσ H Q=>∃ f,σ[i]?=some (some (.ref f))/\(∃ cl pm c d,H f=some (FZ (n9 L cl pm c d)))/\t σ H λb a=>∃ cl vals,cl.map (·.1)=fr/\LamAt a f L cl vals/\sp vals b (ye cl a) (zcl cl a Q) E
section
variable {X:Cx}{CX:CXT}{k:Nat}{L:Lam}{fr ps:List Str}{sp:LSpc}{E:XK}{x:Str}{i:Nat}{p pos:Pos}{e:Expr}{es:List Expr}{t:TA}
theorem ae (F:LamQ CX X.prog X.w X.K X.mg X.base k L fr ps sp)(O:Room (k+1) X.A)(S:PE X (.Name x p) (fw i))(M:Passes CX X E)(ha:PA X (e::es) t)(R:starEach (e::es) X.env=(false,eval e X.env)::starEach es X.env:=by rfl)(m:(backTo pos (starEach es X.env)).any (·.1)=false:=by rfl) :
  PE X (.Call (.Name x p) (e::es) [] pos) (zb2 L fr sp E i t):=by
 intro pins s σ H Q I h;obtain⟨f,P,⟨ao,aa,c0,ab,n⟩,q⟩:=h;refine YK (thn (S pins s σ H (λv H'=>v=.ref f/\H'=H) I ⟨_,P,rfl,rfl⟩) λg G ⟨v,Z,A,K,ev,V⟩=>?_);subst ev V;obtain rfl:g=.ref f:=K;refine PySem.W.callWith_F ⟨_,_,_,_,(A.hok f _ n).1⟩ ?_ R m;refine thn (ha pos pins G σ Z _ A q) λo w ⟨C,B,b,r,cl,vals,j,d,z⟩=>?_;obtain⟨pm,c,ct,oc,fs,tc,T,h2,h3,h4⟩:=d.ex;have y:=F.len _ _ _ _ _ z;have ul:o.length=ps.length:=by rw[<- r.length];exact y
 have Y:LamScope ps (cl.map (·.1)) L.scope:=by rw[j];exact F.S
 refine⟨⟨_,_,_,_,(b.hok f _ T).1⟩,?_⟩;refine wpAny_call (Wf (bJ (CX:=CX) (E:=E) (Q:=Q) Y O b.env0 d r y (F.bind cl o ul) λW l=>?_) λrs J a=>?_)
 ·obtain⟨D,N,a⟩:=F.body cl f W X.A X.stack w B vals C _ E j l d.fz z
  exact⟨D,by rw[j];exact N,a⟩
 ·cases rs with
  | error e=>exact M pins σ B w e J b a
  | ok U =>
   cases U with
   | ret u=>exact b.after a
   | next=>exact False.elim a
   | brk=>exact False.elim a
   | cont=>exact False.elim a
end
abbrev LvL:=List (KN × List Int)
def zx (ps:LvL)(k:KN):Option (List Int):=(ps.find? λx=>decide (x.1=k)).map (·.2)
def wo (ps:LvL)(k:KN)(c:List Int):LvL:=if (zx ps k).isSome then ps.map λx=>if x.1=k then (x.1,c) else x else ps++[(k,c)]
def yQ (c:List Int)(m:Nat):List Int:=Bn.zz c m 1
structure LAcc where
 on:LvL
 fl:List (List Int)
section
variable (step:KN->Nat->Option KN)(seen:LvL)
def go1 (s:KN)(c:List Int)(a:LAcc)(m:Nat):LAcc :=
 match step s m with
 | none=>⟨a.on,a.fl++[yQ c m]⟩
 | some t=>if (zx seen t).isSome then a else ⟨wo a.on t (xN (yQ c m) ((zx a.on t).getD (yQ c m))),a.fl⟩
def goS (moves:List Nat)(a:LAcc)(p:KN × List Int):LAcc:=moves.foldl (go1 step seen p.1 p.2) a
def yo (moves:List Nat)(level:LvL):LAcc:=level.foldl (goS step seen moves) ⟨[],[]⟩
end
inductive LRes
 | opn
 | brk (c:List Int)
 | whl (ls:List LvL)
def yY (step:KN->Nat->Option KN)(moves:List Nat)(most:Nat):Nat->LvL->LvL->List LvL->LRes
 | 0,_,_,_=>.opn
 | n+1,level,seen,ls =>
  if level=[] then .whl ls else
  if most<seen.length+level.length then .opn else
  if (yo step (seen++level) moves level).fl≠[] then .brk (gG (yo step (seen++level) moves level).fl) else
  yY step moves most n (yo step (seen++level) moves level).on (seen++level) (ls++[level])
def LvX (H:Hp)(x:KN × JI × V)(p:KN × List Int):Prop:=x.1=p.1/\∃ c,x.2.2=.ref c/\H c=some (.tup (p.2.map V.int))
structure LvE (H:Hp) (xs:KVN) (ps:LvL):Prop where
 ks:KsIn H xs
 pr:Paired (LvX H) xs ps
theorem wq {α β:Type}{F G:α->β->Prop}(h:∀ a b,F a b->G a b){l1:List α}{l2:List β}(p:Paired F l1 l2):Paired G l1 l2:=by
 induction p with
 | nil=>exact .nil
 | cons a _ ih=>exact .cons (h _ _ a) ih
theorem LvX.tups {H H':Hp}(t:∀ b ys,H b=some (.tup ys)->H' b=some (.tup ys)){x:KN × JI × V}{p:KN × List Int}(h:LvX H x p):LvX H' x p:=by
 obtain⟨e,c,e2,a⟩:=h;exact⟨e,c,e2,t _ _ a⟩
theorem LvE.tups {H H':Hp}(t:∀ b ys,H b=some (.tup ys)->H' b=some (.tup ys)){xs:KVN}{ps:LvL}(h:LvE H xs ps):LvE H' xs ps:=⟨h.ks.tups t,wq (λ_ _ z=>z.tups t) h.pr⟩
theorem LvE.keep {H H':Hp}(s:Same H H'){xs:KVN}{ps:LvL}(h:LvE H xs ps):LvE H' xs ps:=h.tups λb a e=>s _ _ e
theorem LvE.nil {H:Hp}:LvE H [] []:=⟨λx a=>(nomatch a),.nil⟩
theorem LvE.len {H:Hp}{xs:KVN}{ps:LvL}(h:LvE H xs ps):xs.length=ps.length:=YG h.pr
theorem bC {H:Hp}{xs:KVN}{ps:LvL}(h:Paired (LvX H) xs ps)(k:KN):(vM xs k=none/\zx ps k=none)\/∃ c r,vM xs k=some (.ref c)/\zx ps k=some r/\H c=some (.tup (r.map V.int)):=by
 induction h with
 | nil=>exact Or.inl (And.intro rfl rfl)
 | @cons x p xs ps a t ih =>
  obtain⟨e,c,e2,b⟩:=a;unfold vM zx at ih ⊢;rw[YR,YR,e];by_cases z:p.1=k
  ·rw[JC z]
   exact .inr ⟨c,p.2,JP some e2,rfl,b⟩
  ·rw[Js z]
   exact ih
theorem qT {H:Hp}{xs:KVN}{ps:LvL}(h:Paired (LvX H) xs ps)(k:KN):(vM xs k).isSome=(zx ps k).isSome:=by
 rcases bC h k with ⟨a,b⟩|⟨c,r,a,b,_⟩<;>rw[a,b]<;>rfl
theorem zby {H:Hp}{xs:KVN}{ps:LvL}(h:Paired (LvX H) xs ps)(k:KN){c:JI}{r:List Int}(b:H c=some (.tup (r.map V.int))):Paired (LvX H) (xs.map λx=>if x.1=k then (x.1,x.2.1,.ref c) else x) (ps.map λx=>if x.1=k then (x.1,r) else x):=by
 induction h with
 | nil=>exact .nil
 | @cons x p xs ps a t ih =>
  refine .cons ?_ ih;dsimp only;by_cases z:p.1=k
  ·rw[Jm (a.1.trans z),Jm z];exact⟨a.1,c,rfl,b⟩
  ·rw[Jf (λy=>z (a.1.symm.trans y)),Jf z];exact a
theorem LvE.put {H:Hp}{xs:KVN}{ps:LvL}(h:LvE H xs ps){k:KN}{b c:JI}{r:List Int}(f:NKey H k b)(d:H c=some (.tup (r.map V.int))):LvE H (wn xs k b (.ref c)) (wo ps k r):=by
 unfold wn wo;rw[qT h.pr k];by_cases z:(zx ps k).isSome=true
 ·rw[Jm z,Jm z]
  refine⟨λx a=>?_,zby h.pr k d⟩;obtain⟨y,e,rfl⟩:=Jy.mp a;have:=h.ks y e;split<;>exact this
 ·rw[Jf z,Jf z]
  refine⟨λx a=>?_,Paired.snoc h.pr ⟨rfl,c,rfl,d⟩⟩;rcases Jv.mp a with y|y
  ·exact h.ks x y
  ·rw[Jc.mp y];exact f
theorem sv {α β:Type}{F:α->β->Prop}{a1:List α}{b1:List β}(p:Paired F a1 b1){a2:List α}{b2:List β}(q:Paired F a2 b2):Paired F (a1++a2) (b1++b2):=by
 induction p with
 | nil=>exact q
 | cons a _ ih=>exact .cons a ih
theorem LvE.app {H:Hp}{xs ys:KVN}{ps a:LvL}(h:LvE H xs ps)(g:LvE H ys a):LvE H (xs++ys) (ps++a):=⟨λx b=>by
 rcases Jv.mp b with y|y
 ·exact h.ks x y
 ·exact g.ks x y,sv h.pr g.pr⟩
theorem LvE.at_ {H:Hp}{xs:KVN}{ps:LvL}(h:LvE H xs ps){i:Nat}{p:KN × JI × V}(e:xs[i]?=some p):∃ r c,ps[i]?=some (p.1,r)/\NKey H p.1 p.2.1/\p.2.2=.ref c/\H c=some (.tup (r.map V.int)):=by
 have key:∀ {xs:KVN}{ps:LvL},Paired (LvX H) xs ps->∀ {i:Nat}{p:KN × JI × V},xs[i]?=some p->∃ q,ps[i]?=some q/\LvX H p q:=by
  intro xs ps r
  induction r with
  | nil=>intro i p h;cases h
  | cons q t ih =>
   intro i p h
   cases i with
   | zero=>cases Jp h;exact⟨_,rfl,q⟩
   | succ i=>exact ih h
 obtain⟨q,e2,d,c,b,a⟩:=key h.pr e;refine⟨q.2,c,?_,h.ks p (JD e),b,a⟩;rw[e2,d]
theorem qZ {ps:LvL}{k:KN}:zx ps k=none↔∀ p∈ps,p.1≠k:=by
 unfold zx;rw[Option.map_eq_none_iff,List.find?_eq_none];constructor
 ·intro h p a e;exact h p a (JC e)
 ·intro h p a e;exact h p a (YM e)
theorem xH {ps:LvL}{k:KN}{r:List Int}(h:zx ps k=some r):(k,r)∈ps:=by
 unfold zx at h;obtain⟨p,a,e⟩:=YN.mp h;have d:=List.mem_of_find?_eq_some a;have b:=List.find?_some (p:=λx:KN × List Int=>decide (x.1=k)) a;have c:=YM b;rw[<- c,<- e];exact d
theorem wK {ps:LvL}{k:KN}(h:(zx ps k).isSome=true):∃ r,(k,r)∈ps:=by
 obtain⟨r,e⟩:=ZH.mp h;exact⟨r,xH e⟩
theorem wL {ps:LvL}{k:KN}{r:List Int}(h:(k,r)∈ps):(zx ps k).isSome=true:=by
 cases e:zx ps k with
 | some r=>rfl
 | none=>exact absurd rfl (qZ.mp e _ h)
theorem x3 (a b:LvL)(k:KN):(zx (a++b) k).isSome=((zx a k).isSome || (zx b k).isSome):=by
 rw[Yq,Wb];constructor
 ·intro h
  obtain⟨r,c⟩:=wK h;rcases Jv.mp c with y|y
  ·exact .inl (wL y)
  ·exact .inr (wL y)
 ·rintro (h|h)
  ·obtain⟨r,c⟩:=wK h;exact wL (Yc _ c)
  ·obtain⟨r,c⟩:=wK h;exact wL (Jz _ c)
def LvNd (ps:LvL):Prop:=(ps.map (·.1)).Nodup
theorem iW (ps:LvL)(k:KN)(r:List Int):(wo ps k r).map (·.1)=if (zx ps k).isSome then ps.map (·.1) else ps.map (·.1)++[k]:=by
 unfold wo;split
 ·rw[List.map_map]
  refine Zp λx a=>?_;show (if x.1=k then (x.1,r) else x).1=x.1;split<;>rfl
 ·rw[JV];rfl
theorem LvNd.put {ps:LvL}(h:LvNd ps)(k:KN)(r:List Int):LvNd (wo ps k r):=by
 unfold LvNd;rw[iW];split
 ·exact h
 ·rename_i z
  refine Wp.mpr ⟨h,JQ.mpr ⟨Ju,YX⟩,λa f b d e=>?_⟩;rw[Jc.mp d]at e;obtain⟨p,c,rfl⟩:=Jy.mp f;exact z (wL (k:=k) (r:=p.2) (by rw[<- e];exact c))
theorem sj {ps:LvL}{k:KN}{r:List Int}{p:KN × List Int}(h:p∈wo ps k r):p∈ps\/p=(k,r):=by
 unfold wo at h;split at h
 ·obtain⟨x,a,rfl⟩:=Jy.mp h
  by_cases z:x.1=k
  ·rw[Jm z,z];exact .inr rfl
  ·rw[Jf z];exact .inl a
 ·rcases Jv.mp h with y|y
  ·exact .inl y
  ·exact .inr (Jc.mp y)
theorem da (ps:LvL)(k:KN)(r:List Int):(wo ps k r).length<=ps.length+1:=by
 unfold wo;split
 ·rw[Je];lia
 ·rw[Jd];exact Jg _
theorem qS:∀ (ys xs:KVN),(ys.map (·.1)).Nodup->(∀ y∈ys,∀ x∈xs,x.1≠y.1)->wv xs ys=xs++ys
 | [],xs,_,_=>by rw[JU];rfl
 | y::ys,xs,nd,ds=>by
  rw[Y1,JQ]at nd
  have e:wn xs y.1 y.2.1 y.2.2=xs++[y]:=by
   unfold wn
   have:vM xs y.1=none:=by
    unfold vM;rw[Option.map_eq_none_iff,List.find?_eq_none];exact λx a z=>ds y (.head _) x a (YM z)
   rw[this];rfl
  show List.foldl _ (wn xs y.1 y.2.1 y.2.2) ys=_;rw[e]
  have:=qS ys (xs++[y]) nd.2 λz b x a=>by
   rcases Jv.mp a with q|q
   ·exact ds z (.tail _ b) x q
   ·rw[Jc.mp q]
    exact λe=>nd.1 (Jy.mpr ⟨z,b,e.symm⟩)
  rw[show List.foldl (λacc y=>wn acc y.1 y.2.1 y.2.2) (xs++[y]) ys=wv (xs++[y]) ys from rfl,this,JT];rfl
theorem oI {H:Hp}{xs:KVN}{ps:LvL}(h:Paired (LvX H) xs ps):xs.map (·.1)=ps.map (·.1):=by
 induction h with
 | nil=>rfl
 | cons a _ ih=>rw[Y1,Y1,ih,a.1]
theorem LvE.merge {H:Hp}{xs ys:KVN}{ps a:LvL}(h:LvE H xs ps)(g:LvE H ys a)(nd:LvNd a)(ds:∀ q∈a,zx ps q.1=none):wv xs ys=xs++ys:=by
 refine qS ys xs (by rw[oI g.pr];exact nd) λy d x f e=>?_;have c:y.1∈a.map (·.1):=by rw[<- oI g.pr];exact Jy.mpr ⟨y,d,rfl⟩
 obtain⟨q,i,eq⟩:=Jy.mp c;have b:x.1∈ps.map (·.1):=by rw[<- oI h.pr];exact Jy.mpr ⟨x,f,rfl⟩
 obtain⟨p,j,k⟩:=Jy.mp b;exact qZ.mp (ds q i) p j (k.trans (e.trans eq.symm))
end L2
namespace L2
open PySem PySem.Spec PyProof.Rows Own Bn
theorem Room.u3 {k:Nat}{A:YO}(r:Room k A):A.units+3<cLine:=by have:=r.un;lia
def RowsAt (H:Hp)(as:List JI)(rs:List (List Int)):Prop:=Paired (λa r=>H a=some (.tup (r.map V.int))) as rs
theorem RowsAt.tups {H H':Hp}(t:Tups H H'){as:List JI}{rs:List (List Int)}(h:RowsAt H as rs):RowsAt H' as rs:=wq (λ_ _ e=>t _ _ e) h
structure AccOk (n m:Nat) (a:LAcc):Prop where
 on:∀ p∈a.on,p.2.length=n
 fl:∀ r∈a.fl,r.length=n
 few:a.on.length+a.fl.length<=m
theorem wH (c:List Int)(m:Nat):(yQ c m).length=c.length:=by unfold yQ zz;rw[Z4]
theorem oE (x y:List Int):xN x y=x\/xN x y=y:=by unfold xN;split<;>simp
theorem AccOk.go {step:KN->Nat->Option KN}{seen:LvL}{s:KN}{c:List Int}{a:LAcc}{n m k:Nat}(h:AccOk n m a)(i:c.length=n):AccOk n (m+1) (go1 step seen s c a k):=by
 have b:(yQ c k).length=n:=by rw[wH,i]
 have l:=h.few;unfold go1;split
 ·refine⟨h.on,λr d=>?_,by show a.on.length+(a.fl++[yQ c k]).length<=_;rw[Jd];show _+(_+1)<=_;lia⟩
  rcases Jv.mp d with z|z
  ·exact h.fl r z
  ·rw[Jc.mp z];exact b
 ·rename_i t j
  split
  ·exact⟨h.on,h.fl,by lia⟩
  ·refine⟨λp f=>?_,h.fl,by have:=da a.on t (xN (yQ c k) ((zx a.on t).getD (yQ c k)));show (wo a.on t _).length+a.fl.length<=_;lia⟩
   rcases sj f with z|z
   ·exact h.on p z
   ·rw[z]
    show (xN _ _).length=n;rcases oE (yQ c k) ((zx a.on t).getD (yQ c k)) with e|e
    ·rw[e];exact b
    ·rw[e]
     cases g:zx a.on t with
     | none=>exact b
     | some r=>exact h.on _ (xH g)
theorem AccOk.row {step:KN->Nat->Option KN}{seen:LvL}{s:KN}{c:List Int}{n:Nat}(b:c.length=n):∀ (moves:List Nat) {a:LAcc}{m:Nat},AccOk n m a->AccOk n (m+moves.length) (moves.foldl (go1 step seen s c) a)
 | [],a,m,h=>h
 | k::r,a,m,h=>by
  have:=AccOk.row (step:=step) (seen:=seen) (s:=s) (c:=c) b r (h.go (step:=step) (seen:=seen) (s:=s) (k:=k) b);rw[JW,show m+(r.length+1)=m+1+r.length by lia];exact this
theorem AccOk.lev {step:KN->Nat->Option KN}{seen:LvL}{n:Nat}{moves:List Nat}:∀ (level:LvL) {a:LAcc}{m:Nat},(∀ p∈level,p.2.length=n)->AccOk n m a->AccOk n (m+level.length*moves.length) (level.foldl (goS step seen moves) a)
 | [],a,m,_,h=>by rw[Ye,Nat.zero_mul];exact h
 | p::r,a,m,b,h=>by
  have:=AccOk.lev (step:=step) (seen:=seen) (moves:=moves) r (λq c=>b q (.tail _ c)) (AccOk.row (step:=step) (seen:=seen) (s:=p.1) (b p (.head _)) moves h);rw[JW,Nat.add_mul,Nat.one_mul,show m+(r.length*moves.length+moves.length)=m+moves.length+r.length*moves.length by lia];exact this
def Led (lsp:LSpc)(vals:List V)(step:KN->Nat->Option KN)(Ok:KN->Prop)(moves:List Nat)(H:Hp):Prop :=
 ∀ (c:Hp) (s:KN) (b:JI) (m:Nat) (Q:VK),Tups H c->Ok s->m∈moves->NKey c s b->(∀ a,Same c a->step s m=none->Q .non a)->(∀ a d t,Same c a->step s m=some t->NKey a t d->Q (.ref d) a)->lsp vals [.ref b,.int (m:Nat)] c Q E0
theorem Led.tups {lsp:LSpc}{vals:List V}{step:KN->Nat->Option KN}{Ok:KN->Prop}{moves:List Nat}{H H':Hp}(h:Led lsp vals step Ok moves H)(t:Tups H H'):Led lsp vals step Ok moves H':=λc s b m Q a=>h c s b m Q (t.trans a)
theorem tY {H:Hp}{cl:List (Str × JI)}(fz:CellsFz cl H):Tups H (ye cl H):=λa c e=>by
 rw[yN]
 ·exact e
 ·intro b
  obtain⟨o,q⟩:=fz a b;rw[e]at q;cases q
theorem qI {H a:Hp}{cl:List (Str × JI)}(s:Same (ye cl H) a):Same H (back cl H a):=λb o e=>by
 by_cases c:b∈cl.map (·.2)
 ·rw[oV c];exact e
 ·rw[xU c];exact s b o (by rw[yN c];exact e)
theorem iJ {H a:Hp}{cl:List (Str × JI)}(low:∀ b∈cl.map (·.2),a b=none):Tups a (back cl H a):=λb d e=>by
 rw[xU]
 ·exact e
 ·intro c
  rw[low b c]at e;cases e
def MvAt (K:Jl)(H:Hp)(a:JI)(xs:List V):Prop:=H a=some (.tup xs)\/∀ b,SqT K b a xs
theorem MvAt.tups {K:Jl}{H H':Hp}(t:Tups H H'){a:JI}{xs:List V}(h:MvAt K H a xs):MvAt K H' a xs:=h.imp (t _ _) id
theorem MvAt.sq {K:Jl}{H:Hp}{a:JI}{xs:List V}(h:MvAt K H a xs):SqT K H a xs:=h.elim SqT.of λz=>z H
structure Way (K:Jl) (H:Hp) (mv f:JI) (L:Lam) (fr:List Str) (lsp:LSpc) (cl:List (Str × JI)) (vals:List V) (step:KN->Nat->Option KN) (Ok:KN->Prop) (moves:List Nat) (n:Nat):Prop where
 mv:MvAt K H mv (moves.map λm=>V.int (m:Nat))
 fr:cl.map (·.1)=fr
 la:LamAt H f L cl vals
 ld:Led lsp vals step Ok moves H
 lt:∀ m∈moves,m<n
 ok:∀ s m t,Ok s->m∈moves->step s m=some t->Ok t
 n1:n<=1000
theorem Way.keep {K:Jl}{H H':Hp}{mv f:JI}{L:Lam}{fr:List Str}{lsp:LSpc}{cl:List (Str × JI)}{vals:List V}{step:KN->Nat->Option KN}{Ok:KN->Prop}{moves:List Nat}{n:Nat}(h:Way K H mv f L fr lsp cl vals step Ok moves n)(t:Tups H H')(z:∀ b o u,H b=some (.frz o u)->H' b=some (.frz o u)):Way K H' mv f L fr lsp cl vals step Ok moves n :=
 ⟨h.mv.tups t,h.fr,h.la.frz z,h.ld.tups t,h.lt,h.ok,h.n1⟩
def my (P:Yo)(w:YI)(K:Jl)(L:Lam)(fr:List Str)(lsp:LSpc):Sp:=λe H Q _=>∃ dl ds mv f d c level seen moves cl vals step Ok n,e=[.ref dl,.ref ds,.ref mv,.ref f]/\H dl=some (DN P w dl d)/\LvE H d level/\H ds=some (DN P w ds c)/\LvE H c seen/\dl≠ds /\
 Way K H mv f L fr lsp cl vals step Ok moves n/\(∀ p∈level,Ok p.1/\p.2.length=n)/\level.length*moves.length<=10000000 /\
 ∀ p o l b fs a,Same H a->H o=none->a p=some (.tup [.ref o,.ref l])->a o=some (DN P w o b)->LvE a b (yo step seen moves level).on->a l=some (.lst (fs.map V.ref))->RowsAt a fs (yo step seen moves level).fl->Q (.ref p) a
def bL:V->Int
 | .int i=>i
 | _=>0
def lU (H:Hp):V->List Int
 | .ref a=>match H a with
  | some (.tup xs)=>xs.map bL
  | _=>[]
 | _=>[]
theorem wX {H:Hp}{a:JI}{r:List Int}(h:H a=some (.tup (r.map V.int))):lU H (.ref a)=r:=by
 show (match H a with
  | some (.tup b)=>b.map bL
  | _=>[])=r
 rw[h];show (r.map V.int).map bL=r;rw[List.map_map];exact List.map_id r
def tN (H:Hp):V->V->Ordering:=λu v=>yX (lU H u) (lU H v)
theorem mZ {H:Hp}:∀ {fs:List JI}{rs:List (List Int)}{a:JI}{r:List Int},RowsAt H fs rs->H a=some (.tup (r.map V.int))->∃ h,(fs.map V.ref).foldl (y0 (tN H)) (.ref a)=.ref h/\H h=some (.tup ((rs.foldl xN r).map V.int)):=by
 intro fs rs a r h
 induction h generalizing a r with
 | nil=>intro c;exact⟨a,rfl,c⟩
 | @cons b q fs rs d _ ih =>
  intro c;show ∃ h,(fs.map V.ref).foldl (y0 (tN H)) (y0 (tN H) (.ref a) (.ref b))=.ref h/\H h=some (.tup ((rs.foldl xN (xN r q)).map V.int));have e:tN H (.ref b) (.ref a)=yX q r:=by unfold tN;rw[wX c,wX d]
  unfold y0 xN;by_cases z:yX q r=.lt
  ·rw[Jm (e.trans z),Jm z];exact ih d
  ·rw[Jf (λy=>z (e.symm.trans y)),Jf z];exact ih c
theorem bq {H:Hp}{fs:List JI}{rs:List (List Int)}(h:RowsAt H fs rs)(ne:rs≠[]):∃ g,xJ (tN H) (fs.map V.ref)=.ref g/\H g=some (.tup ((gG rs).map V.int)):=by
 cases h with
 | nil=>exact absurd rfl ne
 | cons a t=>exact mZ t a
theorem jE {H:Hp}{n:Nat}{fs:List JI}{rs:List (List Int)}(h:RowsAt H fs rs)(f:∀ r∈rs,r.length=n):∀ x∈fs.map V.ref,∀ y∈fs.map V.ref,Lx H 1 x y (tN H x y):=by
 have at_:∀ {fs:List JI}{rs:List (List Int)},RowsAt H fs rs->∀ a∈fs,∃ r∈rs,H a=some (.tup (r.map V.int)):=by
  intro fs rs h
  induction h with
  | nil=>intro a c;cases c
  | cons p _ ih =>
   intro a c;rcases Jr.mp c with rfl|z
   ·exact⟨_,.head _,p⟩
   ·obtain⟨r,d,e⟩:=ih a z
    exact⟨r,.tail _ d,e⟩
 intro x j y i;obtain⟨a,c,rfl⟩:=Jy.mp j;obtain⟨b,bm,rfl⟩:=Jy.mp i;obtain⟨r,d,g⟩:=at_ h a c;obtain⟨q,k,e2⟩:=at_ h b bm;unfold tN;rw[wX g,wX e2];exact oH g e2 (by rw[f r d,f q k])
structure NewOk (seen:LvL) (Ok:KN->Prop) (a:LAcc):Prop where
 nd:LvNd a.on
 new:∀ p∈a.on,zx seen p.1=none
 ok:∀ p∈a.on,Ok p.1
section
variable {step:KN->Nat->Option KN}{seen:LvL}{Ok:KN->Prop}{moves:List Nat}
theorem NewOk.go {s:KN}{c:List Int}{a:LAcc}{k:Nat}(h:NewOk seen Ok a)(f:∀ t,step s k=some t->Ok t):NewOk seen Ok (go1 step seen s c a k):=by
 unfold go1;split
 ·exact⟨h.nd,h.new,h.ok⟩
 ·rename_i t d
  split
  ·exact h
  ·rename_i z
   refine⟨h.nd.put _ _,λp b=>?_,λp b=>?_⟩
   ·rcases sj b with y|y
    ·exact h.new p y
    ·rw[y]
     cases e:zx seen t with
     | none=>rfl
     | some r=>rw[e]at z;exact absurd rfl z
   ·rcases sj b with y|y
    ·exact h.ok p y
    ·rw[y];exact f t d
theorem NewOk.row {s:KN}{c:List Int}:∀ (ms:List Nat) {a:LAcc},NewOk seen Ok a->(∀ m∈ms,∀ t,step s m=some t->Ok t)->NewOk seen Ok (ms.foldl (go1 step seen s c) a)
 | [],a,h,_=>h
 | k::r,a,h,q=>NewOk.row r (h.go (q k (.head _))) λm b=>q m (.tail _ b)
theorem NewOk.lev:∀ (level:LvL) {a:LAcc},NewOk seen Ok a->(∀ p∈level,∀ m∈moves,∀ t,step p.1 m=some t->Ok t)->NewOk seen Ok (level.foldl (goS step seen moves) a)
 | [],a,h,_=>h
 | p::r,a,h,q=>NewOk.lev r (NewOk.row moves h (q p (.head _))) λm b=>q m (.tail _ b)
theorem tT (level:LvL)(q:∀ p∈level,∀ m∈moves,∀ t,step p.1 m=some t->Ok t):NewOk seen Ok (yo step seen moves level) :=
 NewOk.lev level ⟨YX,λp a=>(nomatch a),λp a=>(nomatch a)⟩ q
theorem uF {n:Nat}(level:LvL)(h:∀ p∈level,p.2.length=n):AccOk n (level.length*moves.length) (yo step seen moves level):=by
 have:=AccOk.lev (step:=step) (seen:=seen) (moves:=moves) level (a:=⟨[],[]⟩) (m:=0) h ⟨λp b=>(nomatch b),λp b=>(nomatch b),Jg _⟩
 rwa [Zh]at this
end
section
variable {step:KN->Nat->Option KN}{moves:List Nat}{most m:Nat}{level seen:LvL}{ls:List LvL}
theorem wP:yY step moves most (m+1) [] seen ls=.whl ls:=Jm rfl
theorem wQ (ne:level≠[])(h:most<seen.length+level.length):yY step moves most (m+1) level seen ls=.opn:=by
 unfold yY;rw[Jf ne,Jm h]
theorem wR (ne:level≠[])(h:¬ most<seen.length+level.length)(f:(yo step (seen++level) moves level).fl≠[]):yY step moves most (m+1) level seen ls=.brk (gG (yo step (seen++level) moves level).fl):=by
 unfold yY;rw[Jf ne,Jf h,Jm f]
theorem vC (ne:level≠[])(h:¬ most<seen.length+level.length)(f:(yo step (seen++level) moves level).fl=[]):yY step moves most (m+1) level seen ls=yY step moves most m (yo step (seen++level) moves level).on (seen++level) (ls++[level]):=by
 rw[yY,Jf ne,Jf h,Jf (not_not_intro f)]
end
def LvsAt (P:Yo)(w:YI)(H:Hp)(as:List JI)(ls:List LvL):Prop:=Paired (λa lv=>∃ b,H a=some (DN P w a b)/\LvE H b lv) as ls
theorem LvsAt.but {P:Yo}{w:YI}{H H':Hp}{as:List JI}{ls:List LvL}(h:LvsAt P w H as ls)(t:Tups H H')(k:∀ a∈as,∀ o,H a=some o->H' a=some o):LvsAt P w H' as ls:=by
 induction h with
 | nil=>exact .nil
 | @cons a lv as ls q _ ih =>
  obtain⟨c,e,le⟩:=q;exact .cons ⟨c,k a (.head _) _ e,le.tups t⟩ (ih λb d=>k b (.tail _ d))
theorem LvsAt.keep {P:Yo}{w:YI}{H H':Hp}{as:List JI}{ls:List LvL}(h:LvsAt P w H as ls)(s:Same H H'):LvsAt P w H' as ls:=h.but (Tups.of s) λa _ o e=>s a o e
def TellR (P:Yo)(w:YI)(H:Hp)(p:JI):LRes->Prop
 | .opn=>H p=some (.tup [.str "open",.non])
 | .brk c=>∃ b,H p=some (.tup [.str "breaks",.ref b])/\H b=some (.tup (c.map V.int))
 | .whl ls=>∃ l as,H p=some (.tup [.str "whole",.ref l])/\H l=some (.lst (as.map V.ref))/\LvsAt P w H as ls
end L2
namespace L2
open PySem PySem.Spec PyProof.Rows
abbrev e2 (elt tg iter b a:Expr)(ifs:List Expr)(scope:Scope)(pos:Pos):Expr:=.ListComp elt [⟨tg,iter,[],0⟩,⟨b,a,ifs,0⟩] scope pos
theorem iG (elt tg iter b a:Expr)(ifs:List Expr)(scope:Scope)(pos:Pos)(it acc:Jo)(env:Env) :
  compTurn (e2 elt tg iter b a ifs scope pos) 0 it acc env=(standAt iter.pos >>= λ_=>pyNext it >>= λr=>match r with
   | none=>pure (.done .next)
   | some v=>letOwnedTupleGo tg it v >>= λ_=>assign tg env v >>= λ_ =>
    (eval a env >>= λx=>standAt a.pos >>= λ_=>foldedSetIterable a env x >>= λx=>holding [x] (pyIter x) >>= λi1=>runOwn (.compStart (e2 elt tg iter b a ifs scope pos) 1 i1 acc env) env >>= λ_ =>
     again (.compLoop (e2 elt tg iter b a ifs scope pos) 0 it acc env))):=by rfl
theorem iF (elt tg iter b a:Expr)(scope:Scope)(pos:Pos)(it acc:Jo)(env:Env) :
  compTurn (e2 elt tg iter b a [] scope pos) 1 it acc env=(standAt a.pos >>= λ_=>pyNext it >>= λr=>match r with
   | none=>pure (.done .next)
   | some v=>letOwnedTupleGo b it v >>= λ_=>assign b env v >>= λ_ =>
    ((eval elt env >>= λx=>call (.builtin "list.append") [acc,x] >>= λ_=>pure ()) >>= λ_ =>
     again (.compLoop (e2 elt tg iter b a [] scope pos) 1 it acc env))):=by rfl
theorem mf (elt tg iter b a c:Expr)(scope:Scope)(pos:Pos)(it acc:Jo)(env:Env) :
  compTurn (e2 elt tg iter b a [c] scope pos) 1 it acc env=(standAt a.pos >>= λ_=>pyNext it >>= λr=>match r with
   | none=>pure (.done .next)
   | some v=>letOwnedTupleGo b it v >>= λ_=>assign b env v >>= λ_=>(forIn [c] true λc r=>if r=true then (isTrue c env (eval c env) >>= λok=>pure (ForInStep.yield ok)) else pure (ForInStep.yield r)) >>= λok =>
    if ok=true then
    ((eval elt env >>= λx=>call (.builtin "list.append") [acc,x] >>= λ_=>pure ()) >>= λ_ =>
     again (.compLoop (e2 elt tg iter b a [c] scope pos) 1 it acc env)) else again (.compLoop (e2 elt tg iter b a [c] scope pos) 1 it acc env)):=by rfl
section
variable {prog:Yo}{w:YI}{A:YO}{R:Result->JO->Prop}{s:JO}{elt tg iter tg1 iter1:Expr}{scope:Scope}{pos:Pos}{it acc:Jo}{env:Env}
theorem mP {ifs:List Expr}(c:codeAny (model prog w) A (.compLoop (e2 elt tg iter tg1 iter1 ifs scope pos) 1 it acc env) R s)(h:wpAny (model prog w) A (pyIter it) (λi2 z=>codeAny (model prog w) A (.compLoop (e2 elt tg iter tg1 iter1 ifs scope pos) 1 i2 acc env) R z) NoX s) :
  codeAny (model prog w) A (.compStart (e2 elt tg iter tg1 iter1 ifs scope pos) 1 it acc env) R s:=by
 refine codeAny_of_tree ?_;show wpAny _ A ((compStart (e2 elt tg iter tg1 iter1 ifs scope pos) 1 it acc env).onRaise (λx=>do noteFrame x env;standAt theWindowsPlace)) _ _ s;refine wpAny_notedAt ?_;unfold compStart;refine(show wpAny _ _ (ask >>= _) _ _ s from J0 (wpAny_askSetting (wpAny_ite ?_)));split
 ·first
   | exact J0 (J9 (J9 ⟨rfl,c⟩))
   | exact J9 ⟨rfl,c⟩
 ·apply J0;refine Z3 ?_
  first
   | exact J0 (YL (J0 (JK h (λb d a=>J9 ⟨rfl,a⟩) λ_ _ z=>z.elim)))
   | (show wpAny _ _ (standAt iter1.pos >>= _) _ _ s;exact J0 (YL (J0 (JK h (λb d a=>J9 ⟨rfl,a⟩) λ_ _ z=>z.elim))))
theorem iC {o:Option Expr}(J:Nat->JO->Prop)(turn:∀ n s,J n s->Go (model prog w) A tg1 elt o it acc env R (λz=>∃ m,m<n/\J m z) s)(n:Nat)(h:J n s) :
  codeAny (model prog w) A (.compLoop (.ListComp elt [⟨tg,iter,[],0⟩,⟨tg1,iter1,o.toList,0⟩] scope pos) 1 it acc env) R s:=by
 cases o with
 | none =>
  refine codeAny_loop rfl J (λn s k=>?_) n h;show wpAny _ A ((compTurn (e2 elt tg iter tg1 iter1 [] scope pos) 1 it acc env).onRaise (λx=>do noteFrame x env;theTreesLotGoes x)) _ _ s;refine wpAny_noted ?_;rw[iF];refine J0 (YL (J0 (JK (turn n s k) (λr a i=>?_) λ_ _ z=>z.elim)))
  cases r with
  | none=>exact J9 i
  | some v =>
   refine J0 (JK i (λ_ b q=>?_) λ_ _ z=>z.elim);refine J0 (JK q (λ_ c p=>?_) λ_ _ z=>z.elim);have g:wpAny (model prog w) A (eval elt env) (λx e=>wpAny (model prog w) A (call (.builtin "list.append") [acc,x]) (λ_ f=>∃ m,m<n/\J m f) NoX e) NoX c:=p
   exact J0 (J0 (JK g (λx d j=>J0 (JK j (λ_ e l=>J9 (J9 ⟨rfl,l⟩)) λ_ _ z=>z.elim)) λ_ _ z=>z.elim))
 | some t =>
  refine codeAny_loop rfl J (λn s k=>?_) n h;show wpAny _ A ((compTurn (e2 elt tg iter tg1 iter1 [t] scope pos) 1 it acc env).onRaise (λx=>do noteFrame x env;theTreesLotGoes x)) _ _ s;refine wpAny_noted ?_;rw[mf];refine J0 (YL (J0 (JK (turn n s k) (λr a i=>?_) λ_ _ z=>z.elim)))
  cases r with
  | none=>exact J9 i
  | some v =>
   refine J0 (JK i (λ_ b q=>?_) λ_ _ z=>z.elim);refine J0 (JK q (λ_ c p=>?_) λ_ _ z=>z.elim);have g:wpAny (model prog w) A (isTrue t env (eval t env)) (λyes d=>if yes=true then wpAny (model prog w) A (eval elt env) (λx e=>wpAny (model prog w) A (call (.builtin "list.append") [acc,x]) (λ_ f=>∃ m,m<n/\J m f) NoX e) NoX d else ∃ m,m<n/\J m d) NoX c:=p;refine J0 (wpAny_tests_one (JK g (λyes d j=>?_) λ_ _ z=>z.elim))
   cases yes with
   | false=>exact J9 ⟨rfl,j⟩
   | true=>exact J0 (J0 (JK j (λx e l=>J0 (JK l (λ_ f u=>J9 (J9 ⟨rfl,u⟩)) λ_ _ z=>z.elim)) λ_ _ z=>z.elim))
theorem iD {ifs:List Expr}(J:Nat->JO->Prop)(turn:∀ n s,J n s->wpAny (model prog w) A (pyNext it) (λr a=>match r with
   | none=>R (.ok .next) a
   | some v=>wpAny (model prog w) A (letOwnedTupleGo tg it v) (λ_ b=>wpAny (model prog w) A (assign tg env v) (λ_ c=>wpAny (model prog w) A (eval iter1 env) (λx d=>wpAny (model prog w) A (pyIter x) (λi1 e =>
     codeAny (model prog w) A (.compStart (e2 elt tg iter tg1 iter1 ifs scope pos) 1 i1 acc env) (λr f=>match r with|.ok _=>∃ m,m<n/\J m f|.error _=>False) e) NoX d) NoX c) NoX b) NoX a) NoX s)(n:Nat)(h:J n s)(hs:∀ x,foldedSetIterable iter1 env x=pure x) :
  codeAny (model prog w) A (.compLoop (e2 elt tg iter tg1 iter1 ifs scope pos) 0 it acc env) R s:=by
 refine codeAny_loop rfl J (λn s j=>?_) n h;show wpAny _ A ((compTurn (e2 elt tg iter tg1 iter1 ifs scope pos) 0 it acc env).onRaise (λx=>do noteFrame x env;theTreesLotGoes x)) _ _ s;refine wpAny_noted ?_;rw[iG];refine J0 (YL (J0 (JK (turn n s j) (λr a i=>?_) λ_ _ z=>z.elim)))
 cases r with
 | none=>exact J9 i
 | some v =>
  refine J0 (JK i (λ_ b p=>?_) λ_ _ z=>z.elim);refine J0 (JK p (λ_ c o=>?_) λ_ _ z=>z.elim);refine J0 (JK o (λx d l=>?_) λ_ _ z=>z.elim);refine J0 (YL (J0 (wpAny_of_eq (hs x) (J0 (Yd (JK l (λi1 e k=>?_) λ_ _ z=>z.elim))))));refine J0 (wpAny_runOwn (Wf k (λr f g=>?_)))
  cases r with
  | ok q=>exact J9 ⟨rfl,g⟩
  | error x=>exact g.elim
end
def LCW1 (J:It)(g:TG)(tt:TT)(k:TE)(l:JI)(Q:List V->St->Hp->Prop)(W:Nat->Nat->List V->St->Hp->Prop):Prop :=
 ∀ i m acc c d,W i m acc c d->d l=some (.lst acc) /\
  ((J.stop i d/\Q acc c d)\/(J.go i d/\∀ x j,J.yld i d x j->g x c j λa n=>tt a n λb h =>
   if b=true then k a h λy f=>f l=some (.lst acc)/\acc.length<sizeLine/\∃ e,e<m/\W (i+1) e (acc++[y]) a (upd f l (.lst (acc++[y])))
   else ∃ e,e<m/\W (i+1) e acc a h))
def zb3 (cap:List (Option Nat))(n:TI)(g:TG)(d:TI)(q:TG)(tt:TT)(o:TE):TE:=λσ H Q=>n σ H λJ j=>∀ l,j l=none ->
 ∃ W:Nat->Nat->List V->St->Hp->Prop,(∃ m,W 0 m [] (gp cap σ) (upd j l (.lst []))) /\
  ∀ i m acc c a,W i m acc c a->a l=some (.lst acc)/\((J.stop i a/\Q (.ref l) a)\/(J.go i a/\∀ x h,J.yld i a x h->g x c h λb t=>d b t λr s =>
   ∃ f:Nat->Nat->List V->St->Hp->Prop,(∃ p,f 0 p acc b s)/\LCW1 r q tt o l (λac k G=>∃ e,e<m/\W (i+1) e ac k G) f))
theorem bG {X:Cx}{elt tg iter P B:Expr}{o:Option Expr}{scope:Scope}{pos a9:Pos}{wi bl:TI}{g g1:TG}{tt:TT}{te:TE}{N':List Str}{cap:List (Option Nat)}{use:Option (Jo->Sem Unit)}{Q0:Jo->JO->Prop}(hc:X.calm=true)(hi:PI X tg iter wi)(ck:CapOk X.N N' X.env.scope scope cap)(hg:∀ C s₀ H₀ fp pins,PG (yc X N' scope C s₀ H₀ fp pins) tg g)(cb:∀ C s₀ H₀ fp pins,PI (yc X N' scope C s₀ H₀ fp pins) P B bl)(cc:∀ C s₀ H₀ fp pins,PG (yc X N' scope C s₀ H₀ fp pins) P g1)(ht:∀ C s₀ H₀ fp pins,PTo (yc X N' scope C s₀ H₀ fp pins) o tt)(he:∀ C s₀ H₀ fp pins,PE (yc X N' scope C s₀ H₀ fp pins) elt te)(hs:∀ x,foldedSetIterable iter X.env x=pure x)(b7:∀ C x,foldedSetIterable B (compEnvC scope (ve X.env.cells scope.names []) C X.env) x=pure x){pins:List (JI × Obj)}{s:JO}{σ:St}{H:Hp}{Q:VK}(I:Inv X pins σ H s)(h:zb3 cap wi g bl g1 tt te σ H Q)(fin:∀ (l C:JI) (H4:Hp) (s5:JO) (m:Str->Option Jo),Inv X pins σ H4 s5->Q (.ref l) H4->s5.heap.Ns C m->FpOk X pins H4 C->compPost (model X.prog X.w) X.A X.xe use Q0 (.ref l) C (.ok .next) s5) :
  wpAny (model X.prog X.w) X.A (comprehension (.ListComp elt [⟨tg,iter,[],0⟩,⟨P,B,o.toList,0⟩] scope pos) scope X.env a9 (newList []) false (eval iter X.env) use) Q0 X.xe s:=by
 have N:∀ y∈scope.names,y.2=.free->∃ c,X.env.cells.lookup y.1=some c:=λy hy hf=>I.ok.has y.1 (ck.free y hy hf);refine wpAny_comprehension_free (use:=use) rfl hs (rX N) ck.kind ck.names (thn (hi pins s σ H _ I h) λv s1 h1=>thn h1 λc6 F h2=>?_);obtain⟨it,fp,tn,J,H2,e,I2,T,bB,f2,body⟩:=h2;subst e;have bb:H2 F.heap.objs.size=none:=I2.hok.fresh (Jg _);obtain⟨W,⟨m0,w0⟩,turn⟩:=body F.heap.objs.size bb;have A:Inv X pins σ (upd H2 F.heap.objs.size (.lst [])) { F with heap:=F.heap.push { cls:=.type "list",data:=.seq ([]:List Jo).toArray },toks:=F.toks }:=I2.lnew (its:=[]) (t':=F.toks) .nil (JL _);refine JR (wpAny_newFunctionEnv ck.nocell (by intro y hy;simp at hy) (λE M L=>?_) ck.kind);dsimp only at M L ⊢;generalize hl:F.heap.objs.size=l at *;generalize hP:F.heap.push { cls:=.type "list",dict:=none,data:=.seq ([]:List Jo).toArray }=P2 at *;generalize cx:upd H2 l (.lst [])=H3 at *;have old:∀ b o,P2.get? b=some o->E.get? b=some o:=λb o e=>L.extBut b o (JA (Jn e)) (J8 _ e);have ba:∀ b o,F.heap.get? b=some o->P2.get? b=some o:=λb o e=>hP ▸ J8 _ e
 have b2:∀ b∈fp,b<l:=λb a=>by
  obtain⟨o,e,_⟩:=T.obj _ _ bB b a;rw[<- hl];exact Jn e
 have cE:∀ b∈fp,H3 b=none:=λb a=>by
  rw[<- cx,zK (JA (b2 b a))];exact(f2 b a).1
 have ct:P2.objs.size=l+1:=by rw[<- hP,YA,hl]
 have D:∀ x c,(ve X.env.cells scope.names []).lookup x=some c->X.env.cells.lookup x=some c:=λx c e=>uS _ _ x c N (λ_ _ z=>by simp at z) e;generalize bS:({ F with heap:=P2,toks:=F.toks }:JO)=s3 at *;have w:s3.heap=P2:=by rw[<- bS]
 let Y:=yc X N' scope P2.objs.size s3 H3 fp pins
 have K:Y.Ok:=by
  refine⟨A.ok.mod,ck.kind,A.ok.glob,A.ok.blt,by show s3.heap.objs.size<=P2.objs.size;rw[w];exact Jg _,λx y c e1 e2=>A.ok.inj x y c (D x c e1) (D y c e2),λx hx=>?_,λx c hx=>absurd (show false=true from hx) Jj,A.ok.hd,A.ok.frames,.inl rfl,λb a=>⟨?_,λx c e=>?_⟩,A.bs,
   JX A.ok.bsz A.sz,λb o e a=>?_,λb a hz=>?_,A.stack,A.stkFree⟩
  ·have b6:scope.names.lookup x=some .free:=by
    rcases hx with hx|hx
    ·rcases xg hx with z|z
     ·exact absurd rfl (ck.nocell _ (va z))
     ·exact z.2
    ·rcases xg hx with z|z
     ·exact z
     ·exact z.2
   exact wS _ _ x b6
  ·exact JA (by show b<P2.objs.size;rw[ct];exact Z0 (b2 b a))
  ·exact(f2 b a).2.2.2.2.1 x c (D x c e)
  ·rcases (f2 b a).2.2.2.1 with z|z
   ·exact A.ok.noex b o e z
   ·exact absurd (JG (Jn e) (JX A.ok.bsz z)) (YB _)
  ·rcases Jr.mp (A.stkSub b hz) with z|z
   ·exact(f2 b a).2.1 z
   ·exact(f2 b a).2.2.1 z
 have cn:Inv Y [] (gp cap σ) H3 { F with heap:=E,toks:=F.toks }:=by
  refine⟨K,by show F.os=s3.os;rw[<- bS],I2.bare,by show Un _ _ _ _ s3.heap E;rw[w];exact Un.kept old,⟨_,M,λj x v e1 e2 e3=>?_⟩,λx c e=>?_,?_,λx c e=>A.freeC x c (D x c e),λp hp=>?_,λb o e=>?_,?_⟩
  ·have cP:N'[j]?=some x:=e1
   unfold gp at e2;rw[JN]at e2
   cases ec:cap[j]? with
   | none=>rw[ec]at e2;cases e2
   | some oc =>
    rw[ec]at e2
    cases oc with
    | none=>cases e2
    | some i =>
     have cH:σ[i]?=some (some v):=by
      cases ei:σ[i]? with
      | none=>simp[ei]at e2
      | some v' =>
       simp[ei]at e2;rw[e2]
     have hz:(x,some i)∈N'.zip cap:=by
      refine JD (i:=j) ?_;rw[Wm];exact⟨cP,ec⟩
     obtain⟨hN,hf,hk⟩:=ck.cap _ hz i rfl;obtain⟨m,hn,b8⟩:=A.loc;obtain⟨u,r,lk⟩:=b8 i x v hN cH (by rcases hk with z|z;exact .inr (.inl z);exact .inr (.inr z));refine⟨u,r,.inr ⟨?_,?_⟩⟩
     ·exact uC hf
     ·rcases lk with ⟨z,_⟩|⟨_,c,cm,aE⟩
      ·have z':X.env.scope.names.lookup x=some .local:=z
       rcases hk with q|q
       ·rw[q]at z';cases z'
       ·rw[q]at z';cases z'
      ·obtain⟨c',b0⟩:=wS (cells:=X.env.cells) scope.names [] x hf
       have:=D x c' b0;rw[cm]at this;cases this;obtain⟨ob,e,d⟩:=aE;rw[w]at e;exact⟨c,b0,ob,old c ob e,d⟩
  ·obtain⟨v,ob,e',d⟩:=A.cell x c (D x c e)
   rw[w]at e';exact⟨v,ob,old c ob e',d⟩
  ·refine A.hok.fresh ?_
   rw[w];exact Jg _
  ·have a7:p∈X.pn++pins:=(Jv.mp hp).elim (λz=>z) (λz=>nomatch z)
   obtain⟨e,n,ne,nf,d⟩:=A.pin p a7;rw[w]at e;refine⟨old _ _ e,n,JA (Jn e),λz=>?_,d⟩;rcases Jr.mp (A.stkSub _ z) with q|q
   ·exact ne q
   ·exact nf q
  ·have:=A.hok.kept (h':=E) (λb u q=>old b u (by rw[<- w];exact q))
   exact this b o e
  ·show (cap.map _).length=N'.length
   rw[Je,ck.len]
 have S:∀ {t:Hp},(∀ b∈fp,t b=none)->∀ b∈fp,FpOk Y [] t b:=λ{t} hn b a=>by
  refine⟨hn b a,(K.exf b a).1,K.exfs b a,.inl a,(K.exf b a).2,λp hp=>?_⟩;have a7:p∈X.pn++pins:=(Jv.mp hp).elim (λz=>z) (λz=>nomatch z);exact(f2 b a).2.2.2.2.2 p a7
 have bR:tn 0 E:=T.keep 0 _ _ bB λb a o e=>old b o (ba b o e)
 have loop:codeAny (model X.prog X.w) X.A (.compLoop (.ListComp elt [⟨tg,iter,[],0⟩,⟨P,B,o.toList,0⟩] scope pos) 0 (.ref it) (.ref l) Y.env) (compPost (model X.prog X.w) X.A X.xe use Q0 (.ref l) P2.objs.size) { F with heap:=E,toks:=F.toks }:=by
  refine iD (λn s'=>∃ i acc f t,Inv Y [] f t s'/\tn i s'.heap/\(∀ b∈fp,t b=none)/\W i n acc f t) ?_ m0 ⟨0,[],_,H3,cn,bR,cE,w0⟩ (b7 _);rintro n s4 ⟨i,acc,a4,H4,I4,bu,b1,w4⟩;obtain⟨c3,q4⟩:=turn i n acc a4 H4 w4;rcases q4 with ⟨stop,qn⟩|⟨go,step⟩
  ·refine thn (T.done Y rfl rfl rfl hc i [] s4 a4 H4 Y.xe I4 (S b1) bu stop) λr s5 ⟨hr,I5⟩=>?_
   subst hr;obtain⟨m,hn,_⟩:=id I5.loc;have un:Un (frs X.stack) fp H3 H4 s3.heap s5.heap:=I5.base;have b3:s3.heap.objs.size<=P2.objs.size:=by rw[w];exact Jg _
   have IX:Inv X pins σ H4 s5:=A.call' (ch:=fp) I5.os un I5.hok I5.bare λb a=>⟨(f2 b a).2.2.2.1,(f2 b a).2.1,(f2 b a).2.2.2.2.1,(f2 b a).2.2.2.2.2⟩;exact fin l P2.objs.size H4 s5 m IX qn hn (A.fpOk b3 I5.free)
  ·refine thn (T.item Y rfl rfl rfl hc i [] s4 a4 H4 Y.xe I4 (S b1) bu go) λr s5 ⟨u,hr,h5⟩=>?_
   subst hr;refine thn h5 λ_ s6 ⟨x,H6,I6,r6,y6,a6,cz⟩=>?_;have c1:=I6.pinned (S cz) (T.obj _ _ a6);refine thn (hg _ _ _ _ _ _ s6 a4 H6 x u _ c1 r6 (step x H6 y6)) λ_ s7 ⟨bc,H7,I7,q7⟩=>?_
   have again:∀ {a3:St}{H9:Hp}{s9:JO}{U:List V},Inv Y ([]++wp fp s6.heap) a3 H9 s9->(∃ m',m'<n/\W (i+1) m' U a3 H9)->∃ m,m<n/\∃ i acc f t,Inv Y [] f t s9/\tn i s9.heap/\(∀ b∈fp,t b=none)/\W i m acc f t:=λ{a3 H9 s9 U} I9 ⟨m',hm,w9⟩=>by
    refine⟨m',hm,i+1,U,a3,H9,I9.unpinned,T.keep _ _ _ a6 λb a o e=>(I9.pin (b,o) (Jz _ (Jz _ (yt a e)))).1,λb a=>?_,w9⟩;obtain⟨o,e,d⟩:=T.obj _ _ a6 b a;exact(I9.pin (b,o) (Jz _ (Jz _ (yt a e)))).2.1
   generalize ([]++wp fp s6.heap:List (JI × Obj))=pz at again I7;refine thn (cb _ _ _ _ _ _ s7 bc H7 _ I7 q7) λv1 s8 h8=>thn h8 λc2 s9 h9=>?_;obtain⟨b4,R,bo,J1,H9,e1,I9,T1,bt,f9,W1,⟨m1,w1⟩,aa⟩:=h9;subst e1;have G:∀ {t:Hp},(∀ b∈R,t b=none)->∀ b∈R,FpOk Y pz t b:=λhn b a=>⟨hn b a,(f9 b a).2⟩
   have Z:codeAny (model X.prog X.w) X.A (.compLoop (.ListComp elt [⟨tg,iter,[],0⟩,⟨P,B,o.toList,0⟩] scope pos) 1 (.ref b4) (.ref l) Y.env) (λr z=>match r with|.ok _=>∃ m,m<n/\∃ i acc f t,Inv Y [] f t z/\tn i z.heap/\(∀ b∈fp,t b=none)/\W i m acc f t|.error _=>False) s9:=by
    refine iC (λn s'=>∃ i acc f t,Inv Y pz f t s'/\bo i s'.heap/\(∀ b∈R,t b=none)/\W1 i n acc f t) ?_ m1 ⟨0,acc,bc,H9,I9,bt,λb a=>(f9 b a).1,w1⟩;rintro k t4 ⟨j,ac,a0,G4,K4,u4,v4,z4⟩;obtain⟨c4,p4⟩:=aa j k ac a0 G4 z4;rcases p4 with ⟨ab,pn⟩|⟨go1,ao⟩
    ·refine thn (T1.done Y rfl rfl rfl hc j pz t4 a0 G4 Y.xe K4 (G v4) u4 ab) λr t5 ⟨hr,K5⟩=>?_
     subst hr;exact again K5 pn
    ·refine thn (T1.item Y rfl rfl rfl hc j pz t4 a0 G4 Y.xe K4 (G v4) u4 go1) λr t5 ⟨u,hr,h5⟩=>?_
     subst hr;refine thn h5 λ_ t6 ⟨y,G6,K6,e6,d6,u6,v6⟩=>?_;have cT:=K6.pinned (G v6) (T1.obj _ _ u6);refine thn (cc _ _ _ _ _ _ t6 a0 G6 y u _ cT e6 (ao y G6 d6)) λ_ t7 ⟨a5,G7,K7,p7⟩=>?_;refine ot (ht _ _ _ _ _ _ t7 a5 G7 _ K7 p7) λb t8 ⟨G8,K8,p8⟩=>?_
     have O:∀ {aT:St}{G9:Hp}{t9:JO}{a8:List V},Inv Y (pz++wp R t6.heap) aT G9 t9->(∃ m',m'<k/\W1 (j+1) m' a8 aT G9)->∃ m,m<k/\∃ i acc f t,Inv Y pz f t t9/\bo i t9.heap/\(∀ b∈R,t b=none)/\W1 i m acc f t:=λ{aT G9 t9 a8} K9 ⟨m',hm,z9⟩=>by
      refine⟨m',hm,j+1,a8,aT,G9,K9.unpinned,T1.keep _ _ _ u6 λb a o e=>(K9.pin (b,o) (Jz _ (Jz _ (yt a e)))).1,λb a=>?_,z9⟩;obtain⟨o,e,d⟩:=T1.obj _ _ u6 b a;exact(K9.pin (b,o) (Jz _ (Jz _ (yt a e)))).2.1
     cases b with
     | false =>
      rw[Jf Jj]at p8 ⊢
      exact O K8 p8
     | true =>
      rw[Jm rfl]at p8 ⊢;refine thn (he _ _ _ _ _ _ t8 a5 G8 _ K8 p8) λyv t9 ⟨yy,G9,K9,e9,b9,b5,p9⟩=>?_;refine thn (yq (X:=Y) _ t9 a5 G9 (.ref l) [yy] (.ref l) [yv] (λ_ t=>t=upd G9 l (.lst (ac++[yy]))) K9 rfl (.cons e9 .nil) ⟨l,ac,yy,rfl,rfl,b9,b5,rfl⟩) λ_ c5 ⟨_,c7,c0,_,cL⟩=>?_;subst cL;exact O c0 p9
   exact mP Z (T1.self X.A 0 _ _ _ bt Z)
 exact codeAny_compStart_list loop (T.self X.A 0 _ _ _ bR loop)
theorem zbg {X:Cx}{elt tg iter b a:Expr}{o:Option Expr}{scope:Scope}{pos:Pos}{j c:TI}{g n:TG}{tt:TT}{k:TE}{N':List Str}{cap:List (Option Nat)}(w:X.calm=true)(hi:PI X tg iter j)(y:CapOk X.N N' X.env.scope scope cap)(u:∀ C s₀ H₀ fp pins,PG (yc X N' scope C s₀ H₀ fp pins) tg g)(e:∀ C s₀ H₀ fp pins,PI (yc X N' scope C s₀ H₀ fp pins) b a c)(i:∀ C s₀ H₀ fp pins,PG (yc X N' scope C s₀ H₀ fp pins) b n)(r:∀ C s₀ H₀ fp pins,PTo (yc X N' scope C s₀ H₀ fp pins) o tt)(v:∀ C s₀ H₀ fp pins,PE (yc X N' scope C s₀ H₀ fp pins) elt k)(hs:∀ x,foldedSetIterable iter X.env x=pure x:=by intro _;rfl)(d:∀ C x,foldedSetIterable a (compEnvC scope (ve X.env.cells scope.names []) C X.env) x=pure x:=by intro _ _;rfl) :
  PE X (.ListComp elt [⟨tg,iter,[],0⟩,⟨b,a,o.toList,0⟩] scope pos) (zb3 cap j g c n tt k):=by
 intro pins s σ H Q I h;rw[eval_ListComp];exact bG (use:=none) w hi y u e i r v hs d I h λl C A B m z q t f=>⟨m,t,λD p=>⟨.ref l,A,z.gone f p,rfl,q⟩⟩
end L2
namespace L2
open PySem PySem.Spec PyProof.Rows Own
theorem bH {K:Jl}{b:Bool}{a:JI}{xs:List V}{g A:TG}{j:TI}{tt:TT}{w:TE}{l:JI}{σ:St}{H:Hp}{Q:VK}(d:Nat->List V->St->Hp->Prop)(E:d 0 [] σ H)(C:∀ i acc σ H,d i acc σ H->H l=some (.lst acc)/\SqB b K H a xs)(hs:∀ i acc σ H x T,xs[i]?=some x->H T=none->d i acc σ H->g (.ref T) σ (upd H T (.tup [.int i,x])) λc s=>j c s λq r =>
   ∃ f:Nat->Nat->List V->St->Hp->Prop,(∃ o,f 0 o acc c r)/\LCW1 q A tt w l (λac k G=>Nx xs.length i (d (i+1) ac k G)) f)(hd:∀ acc σ H,d xs.length acc σ H->Q (.ref l) H):∃ W:Nat->Nat->List V->St->Hp->Prop,(∃ m,W 0 m [] σ H) /\
   ∀ i m acc h H',W i m acc h H'->H' l=some (.lst acc)/\(((Ite K b a).stop i H'/\Q (.ref l) H')\/((Ite K b a).go i H'/\∀ x t,(Ite K b a).yld i H' x t->g x h t λc s=>j c s λq r =>
    ∃ f:Nat->Nat->List V->St->Hp->Prop,(∃ o,f 0 o acc c r)/\LCW1 q A tt w l (λac k G=>∃ z,z<m/\W (i+1) z ac k G) f)):=by
 refine⟨λi m acc σ H=>m=xs.length-i/\i<=xs.length/\d i acc σ H,⟨xs.length,by simp,JL _,E⟩,?_⟩;rintro i m acc σ H ⟨rfl,J,p⟩;obtain⟨B,n⟩:=C i acc σ H p;refine⟨B,?_⟩;by_cases u:i<xs.length
 ·refine .inr ⟨⟨xs,_,n,J7 u⟩,λv t ⟨y,F,T,D,I,e2⟩=>?_⟩
  subst I e2;exact hs i acc σ H y T (F xs n) D p
 ·have e:i=xs.length:=by lia
  subst e;exact .inl ⟨⟨xs,n,rfl⟩,hd acc σ H p⟩
end L2
namespace Bn
open PySem L2 Own
def pw (e:Nat):Int:=((2 ^ e:Nat):Int)
theorem aR (e:Nat):pw (e+1)=2*pw e:=by unfold pw;rw[Zt,Int.natCast_mul];lia
def more (cs xs:List Int)(k:Int):List Int:=(List.range cs.length).map λi=>cs.getD i 0+k*xs.getD i 0
def xA (n lane:Nat)(m:Int):List Int:=(List.replicate n (0:Int)).set lane m
theorem g8 (n lane:Nat)(m:Int):(xA n lane m).length=n:=by simp[xA]
def xI:Nat->List Nat->List Fk
 | 0,_=>[]
 | m+1,row=>if row.length<2 then [] else (row.take (row.length / 2)).zip row.reverse++xI m (row.take (row.length / 2))++xI m (row.drop (row.length / 2))
def xc (k:Nat):Nt:=⟨2 ^ k,(List.replicate k (xI k (List.range (2 ^ k)))).flatten,List.range (2 ^ k)⟩
theorem lV:∀ k,k<5->(xc k).forks.length<=128/\∀ f∈(xc k).forks,f.1<2 ^ k/\f.2<2 ^ k/\f.1≠f.2:=by decide +kernel
theorem iU {k:Nat}(h:k<5):(xc k).Ok:=by
 obtain⟨a,b⟩:=lV k h;refine⟨Zu,?_,a,b,.refl _⟩;show 2 ^ k<=2 ^ 4;exact YY (show 0<2 by decide) (show k<=4 by lia)
theorem wU:∀ (m:Nat) (row:List Nat),(xI m row).length<=m*row.length
 | 0,_=>JL _
 | m+1,row=>by
  unfold xI;split
  ·exact JL _
  ·rw[Jd,Jd,ZN,Jw]
   have a:=wU m (row.take (row.length / 2));have b:=wU m (row.drop (row.length / 2));rw[Jw]at a;rw[YD]at b
   have c:m*min (row.length / 2) row.length+m*(row.length-row.length / 2)=m*row.length:=by
    rw[<- Nat.mul_add];congr 1;lia
   rw[Nat.succ_mul]
   grind
end Bn
namespace L2
open PySem PySem.Spec PyProof.Rows Own
def yg {α:Type}(xs ys:List α):List α:=(xs.zip ys).flatMap λp=>[p.1,p.2]
theorem xq {α:Type}:∀ (xs ys:List α),xs.length=ys.length->(yg xs ys).length=2*xs.length
 | [],[],_=>rfl
 | x::xs,y::ys,h=>by
  have h':xs.length=ys.length:=by simpa using h
  have:=xq xs ys h';show (yg xs ys).length+2=2*(xs.length+1);rw[this];lia
theorem vB {α β:Type}{f g:α->Option β}:∀ (l:List α),(∀ x∈l,f x=g x)->l.filterMap f=l.filterMap g
 | [],_=>rfl
 | x::l,h=>by
  have e:=vB l λy a=>h y (JH _ a);simp only[List.filterMap_cons,h x JJ,e]
def by2 {α:Type}(off:Nat)(xs:List α):List α:=(List.range ((xs.length+1-off) / 2)).filterMap λk=>xs[off+2*k]?
theorem oS {α:Type}(off:Nat)(a:off<=1)(xs:List α):(by2 off xs).length=(xs.length+1-off) / 2:=by
 unfold by2
 have e:(List.range ((xs.length+1-off) / 2)).filterMap (λk=>xs[off+2*k]?)=(List.range ((xs.length+1-off) / 2)).pmap (λk (h:k<(xs.length+1-off) / 2)=>xs[off+2*k]'(by omega)) (λk h=>Yp.mp h):=by
  rw[List.pmap_eq_map_attach,<- List.filterMap_eq_map]
  conv=>lhs;rw[<- List.attach_map_subtype_val (List.range ((xs.length+1-off) / 2)),ZR]
  refine vB _ λk b=>?_;have:=Yp.mp k.2;show xs[off+2*k.1]?=some _;rw[J7 (by omega)]
 rw[e,List.length_pmap,Y4]
theorem zaq {α β:Type}(f:α->β)(off:Nat)(xs:List α):by2 off (xs.map f)=(by2 off xs).map f:=by
 unfold by2;rw[Je,List.map_filterMap];refine vB _ λk _=>?_;rw[JN]
theorem iB {xs:List V}{us:List Jo}(r:Vals xs us)(a:List Nat):Vals (a.filterMap λk=>xs[k]?) (a.filterMap λk=>us[k]?):=by
 induction a with
 | nil=>exact .nil
 | cons i a ih =>
  cases e:xs[i]? with
  | none =>
   have e2:us[i]?=none:=List.getElem?_eq_none_iff.mpr (by rw[<- r.length];exact List.getElem?_eq_none_iff.mp e)
   rw[List.filterMap_cons_none e,List.filterMap_cons_none e2];exact ih
  | some x =>
   obtain⟨u,e2,b⟩:=r.get e;rw[List.filterMap_cons_some e,List.filterMap_cons_some e2];exact .cons b ih
theorem dj (items:Array Jo):slicePick items none none (some 2)=((List.range ((items.size+1) / 2)).filterMap λk=>items.toList[2*k]?).toArray:=by
 have b:sliceBounds none none (some 2) items.size=(0,(items.size:Int),2):=rfl
 have c:sliceRange 0 (items.size:Int) 2=(List.range ((items.size+1) / 2)).map λk=>2*k:=by
  unfold sliceRange;have a:(2:Int) > 0:=by decide
  by_cases h:(0:Int)<items.size
  ·have e:(((items.size:Int)-0+2-1) / 2).toNat=(items.size+1) / 2:=by lia
   simp only[a,YU,h,e];apply Zp;intro k _;lia
  ·have e:items.size=0:=by simp_all
   rw[e];rfl
 unfold slicePick;rw[b];show ((sliceRange 0 (items.size:Int) 2).filterMap (items[·]?)).toArray=_;rw[c,ZR];refine JP List.toArray (vB _ λk _=>?_);simp
theorem iZ (items:Array Jo):slicePick items (some 1) none (some 2)=((List.range (items.size / 2)).filterMap λk=>items.toList[1+2*k]?).toArray:=by
 have b:sliceBounds (some 1) none (some 2) items.size=(max 0 (min 1 (items.size:Int)),(items.size:Int),2):=rfl
 have c:sliceRange (max 0 (min 1 (items.size:Int))) (items.size:Int) 2=(List.range (items.size / 2)).map λk=>1+2*k:=by
  unfold sliceRange;have a:(2:Int) > 0:=by decide
  by_cases h:(1:Int)<items.size
  ·have m:max 0 (min 1 (items.size:Int))=1:=by lia
   rw[m];have e:(((items.size:Int)-1+2-1) / 2).toNat=items.size / 2:=by lia
   simp only[a,YU,h,e];apply Zp;intro k _;lia
  ·have e:items.size=0\/items.size=1:=by lia
   rcases e with e|e<;>rw[e]<;>rfl
 unfold slicePick;rw[b];show ((sliceRange (max 0 (min 1 (items.size:Int))) (items.size:Int) 2).filterMap (items[·]?)).toArray=_;rw[c,ZR];refine JP List.toArray (vB _ λk _=>?_);simp
def zcI (K:Jl)(d:TE)(tl ts:TO):TE:=λσ H Q=>d σ H λx f=>tl σ f λlo e=>ts σ e λo b=>o=some 2/\∃ off a c,((lo=none/\off=0)\/(lo=some 1/\off=1))/\x=.ref a/\SqL K b a c/\∀ p,b p=none->Q (.ref p) (upd b p (.lst (by2 off c)))
theorem pg {X:Cx}{e st:Expr}{lo:Option Expr}{n:TE}{tl ts:TO}{p pos:Pos}(J:PE X e n)(G:PO X lo tl)(hs:PO X (some st) ts):PE X (.Subscript e (.Slice lo none (some st) p) pos) (zcI X.K n tl ts):=by
 intro pins s σ H Q I h;refine Subscript_ (thn (J pins s σ H _ I h) λv w ⟨x,O,L,z,B⟩=>wpAny_Slice (thn (G pins w σ O _ L B) λm y ⟨ol,P,M,D,C⟩=>?_));rw[evalPart_none];refine J9 (thn (hs pins y σ P _ M C) λg d ⟨o,N,K,po,A⟩=>?_);obtain⟨rfl,off,a,l,f,rfl,F,k⟩:=A;cases z;have i:Inv X pins σ N { d with heap:=d.heap.push { cls:=.type "slice",data:=.fields #[m,.none,g] } }:=K.kept (t':=d.toks) λb ob q=>J8 _ q;obtain⟨c,r,t,R⟩:=i.list F;have hlen:=r.length;show wpAny (model X.prog X.w) X.A (subscriptTail e (.Slice lo none (some st) p) (.ref a) (.ref d.heap.objs.size)) (EP X pins σ Q) X.xe { d with heap:=d.heap.push { cls:=.type "slice",data:=.fields #[m,.none,g] } };refine tail_any (ops:=[.ref a,.ref d.heap.objs.size]) t.isList.typeIs slot_list_getitem.lookup (wpAny_getItem_list_slice t.isList (Heap.IsSliceOf.new ..) D .none po (by simp) ?_ (by rw[Jh]<;>simp_all)) (by with_unfolding_all rfl)
 have E:slicePick c.toArray ol none (some 2)=((List.range ((c.length+1-off) / 2)).filterMap λk=>c[off+2*k]?).toArray:=by
  rcases f with ⟨rfl,rfl⟩|⟨rfl,rfl⟩
  ·rw[dj];simp only[Jh,Nat.sub_zero,Zh]
  ·rw[iZ];simp only[Jh,Nat.add_sub_cancel]
 rw[E];have j:off<=1:=by rcases f with ⟨_,rfl⟩|⟨_,rfl⟩<;>decide
 have u:Vals (by2 off l) ((List.range ((c.length+1-off) / 2)).filterMap λk=>c[off+2*k]?):=by
  have:=iB r ((List.range ((c.length+1-off) / 2)).map λk=>off+2*k);rw[ZR,ZR]at this;unfold by2;rw[hlen];exact this
 refine⟨.ref _,_,i.laid (t':=d.toks) (o:=.lst (by2 off l)) (λb ob q=>J8 _ q) (Jg _) ⟨by rw[oS off j];omega,_,0,u,?_⟩,rfl,k _ (i.hok.fresh (Jg _))⟩;exact Jq _ rfl
end L2
namespace L2
open PySem PySem.Spec PyProof.Rows Own Bn
def nV (a:Int)(xs:List Int):Int:=xs.foldl (λa x=>1000*a+x) a
def Bits (ts:List Int):Prop:=∀ t∈ts,t=0\/t=1
def Small (xs:List Int):Prop:=∀ x∈xs,0<=x/\x<1000
theorem gn {a b c d m:Int}(e:0<m)(c0:0<=c)(i:c<m)(g:0<=d)(f:d<m):compare (m*a+c) (m*b+d)=(compare a b).then (compare c d):=by
 rcases Zk a b with h|h|h
 ·have:m*a+c<m*b+d:=by
   have:=Int.mul_le_mul_of_nonneg_left (show a+1<=b by lia) (Int.le_of_lt e);rw[Int.mul_add,Int.mul_one]at this;lia
  rw[Yw.mpr this,Yw.mpr h];rfl
 ·subst h
  rw[Yx.mpr (rfl:a=a)];show _=compare c d;rcases Zk c d with z|z|z
  ·rw[Yw.mpr z,Yw.mpr (by simp_all)]
  ·rw[z]
   rw[Yx.mpr (rfl:d=d),Yx.mpr rfl]
  ·rw[Yy.mpr z,Yy.mpr (by simp_all)]
 ·have:m*b+d<m*a+c:=by
   have:=Int.mul_le_mul_of_nonneg_left (show b+1<=a by lia) (Int.le_of_lt e);rw[Int.mul_add,Int.mul_one]at this;lia
  rw[Yy.mpr this,Yy.mpr h];rfl
theorem mT {m:Int}(d:0<m):∀ {x y:List Int}{a b:Int},x.length=y.length->(∀ t∈x,0<=t/\t<m)->(∀ t∈y,0<=t/\t<m)->compare (x.foldl (λa t=>m*a+t) a) (y.foldl (λa t=>m*a+t) b)=(compare a b).then (yX x y)
 | [],[],a,b,_,_,_=>by
  show compare a b=(compare a b).then .eq
  cases compare a b<;>rfl
 | s::x,t::y,a,b,l,f,e=>by
  have h1:=f s (.head _);have g:=e t (.head _);show compare (x.foldl _ (m*a+s)) (y.foldl _ (m*b+t))=(compare a b).then ((compare s t).then (yX x y));rw[mT d (by simpa using l) (λu c=>f u (.tail _ c)) λu c=>e u (.tail _ c),gn d h1.1 h1.2 g.1 g.2];cases compare a b<;>rfl
theorem bp {a b:Int}{x y:List Int}(l:x.length=y.length)(d:Small x)(c:Small y):compare (nV a x) (nV b y)=(compare a b).then (yX x y):=mT (by decide) l d c
def stK (ts is:List Int):KN:=.inr ts::is.map Sum.inl
end L2
namespace L2
open PySem PySem.Spec PyProof.Rows Own
theorem gL {P:Yo}{w:YI}{K:Jl}{mg mb:Str->Option Jo}{CX:CXT}{k:Nat}{U a:JI}{fd:Yl}{x:Str}{sp:Sp}{f:JO}{vs:List Jo}{ns:List Int}(ts:List JI)
  (W:K.In f.heap) (J:f.heap.Ns mainGlobals mg) (hb:f.heap.Ns builtinsNs mb) (aa:∀ x:Str,x≠"__name__"->mb x=bootBuiltins x) (Q:f.heap.NoLimit) (hg:f.gens = #[])
  (ha:f.heap.get? a=some { cls:=.type "list",data:=.seq vs.toArray }) (hi:IntsAre vs ns) (hl:ns.length<=sizeLine) (hr:Room k callerA)
  (B:∀ p∈ts,f.heap.get? p=some (PySem.W.tabObj #[])/\K.lookup p=none/\∃ c,PySem.W.codeHdIn K c p=true)
  (Z:∃ bm ob,mg "__builtins__" = some (.ref bm)/\bm≠builtinsNs/\f.heap.get? bm=some ob/\ob.cls=.type "module"/\ob.dict=some builtinsNs/\ob.data=.plain)
  (F:∀ base:YP,K.In base->base.Ns mainGlobals mg->(∀ p∈ts,base.BuiltinsAt mg p)->FnOk P w K mg base CX k U fd [x] sp) (L:∀ (s:JO) (u:Jo),BindsTo s fd ⟨[u],[]⟩ [(x,u)])
  (Y:∀ H:Hp,SqL K H a (ns.map V.int)->(∀ p∈ts,H p=some (.tbl #[]))->sp [.ref a] H (λv _=>v=.bl true) λ_ _ _=>False)
  (ab:∀ H e i,CX [] H f (λ_ _ _=>False) e i->False) :
  codeAny (model P w) callerA (.call (.ref U) ⟨[.ref a],[]⟩) (λr i=>r=.ok (.ret (.bool true))/\OldK f.heap i.heap/\i.os=f.os/\AllBare i.gens) f:=by
 have rv:=qB hi;have O:=hi.length
 have aT:a∉ts:=λh=>by
  have:=(B a h).1;rw[ha]at this;cases this
 have core:∀ H:Hp,(∀ b,H b=none\/(b=a/\∃ o S,H b=some (.frz o (.lst S)))\/(b∈ts/\H b=some (.tbl #[])))->(∀ p∈ts,H p=some (.tbl #[]))->SqL K H a (ns.map V.int)->HOk P w H f.heap->(H a≠none->K.lookup a=none) ->
   codeAny (model P w) callerA (.call (.ref U) ⟨[.ref a],[]⟩) (λr i=>r=.ok (.ret (.bool true))/\OldK f.heap i.heap/\i.os=f.os/\AllBare i.gens) f:=by
  intro H R hT hS M hK;have g:∀ {b:JI}{o:Obj},f.heap.get? b=some o->H b=none->(r0 f.heap H).get? b=some o:=λe n=>bN e n
  have X:∀ {b:JI}{o:Obj}{D:Array DictEntry}{E:Nat},f.heap.get? b=some o->o.data=.dict D E->H b=none:=λ{b o D E} e d=>by
   rcases R b with z|⟨z,_⟩|⟨z,_⟩
   ·exact z
   ·rw[z,ha]at e
    cases e;cases (show Data.seq vs.toArray _=Data.dict D E from d)
   ·rw[(B b z).1]at e
    cases e;cases (show Data.fields #[]=Data.dict D E from d)
  have l:∀ {b:JI}{m:Str->Option Jo},f.heap.Ns b m->(r0 f.heap H).Ns b m:=λ{b m} ⟨o,D,E,e,d,r⟩=>⟨o,D,E,g e (X e d),d,r⟩
  have N:K.In (r0 f.heap H):=λb o e=>g (W b o e) (by
   rcases R b with z|⟨z,y⟩|⟨z,_⟩
   ·exact z
   ·obtain⟨o',S,q⟩:=y
    rw[z]at e q;rw[hK (by rw[q];simp)]at e;cases e
   ·rw[(B b z).2.1]at e;cases e)
  have hM:Mod K mg (r0 f.heap H):=⟨N,l J,⟨mb,l hb,aa⟩,let ⟨mc,h1,h2⟩:=Q;⟨mc,l h1,h2⟩⟩;have e0:Env0 P w K mg (r0 f.heap H) callerA [] f H:=⟨rfl,hM,λb o e=>av e,Nat.le_of_eq (gR _ _),trivial,λb hb=>absurd (show b∈([]:List JI) from hb) (by simp),M,.of_eq hg⟩
  have hB:∀ p∈ts,(r0 f.heap H).BuiltinsAt mg p:=λp C=>by
   obtain⟨bm,ob,b1,b2,I,b4,b5,t⟩:=Z;refine⟨bm,ob,b1,b2,λz=>?_,λz=>?_,g I ?_,b4,b5,t⟩
   ·obtain⟨og,D,E,e,d,_⟩:=J
    rw[<- z,I]at e;rw[<- Jp e,t]at d;cases d
   ·have e:=(B p C).1
    rw[<- z,I]at e;rw[Jp e]at t;cases t
   ·rcases R bm with z|⟨z,_⟩|⟨z,_⟩
    ·exact z
    ·rw[z,ha]at I
     rw[<- Jp I]at t;cases t
    ·rw[(B bm z).1]at I
     rw[<- Jp I]at t;cases t
  refine Wf ((F _ N (l J) hB).run callerA [] f H ⟨[.ref a],[]⟩ [.ref a] [.ref a] _ _ hr e0 (L f (.ref a)) (.cons rfl .nil) (Y H hS hT)) λr i h=>?_
  cases r with
  | error e=>exact(ab H e i h).elim
  | ok fl =>
   cases fl with
   | next=>exact False.elim h
   | brk=>exact False.elim h
   | cont=>exact False.elim h
   | ret u =>
    obtain⟨v,H',os,bare,un,A,r',q⟩:=h;have q':v=.bl true:=q;subst q';obtain rfl:u=Value.bool true:=r'
    have kept:∀ b o,f.heap.get? b=some o->b∉ts->i.heap.get? b=some o:=λb o e nb=>by
     rcases R b with z|⟨_,ob,S,z⟩|⟨z,_⟩
     ·exact un.keep b o e z (λy=>absurd (show b∈([]:List JI) from y) (by simp)) (by simp)
     ·have z2:=un.frzs b ob _ z
      obtain⟨e1,_⟩:=M b _ z;obtain⟨e2,_⟩:=A b _ z2;rw[e]at e1;cases e1;exact e2
     ·exact absurd z nb
    have tabs:∀ b∈ts,∃ more,i.heap.get? b=some (PySem.W.tabObj (#[]++more)):=λb hb=>by
     obtain⟨more,z⟩:=un.tbls b _ (hT b hb);exact⟨more,A b _ z⟩
    refine⟨rfl,⟨λb o e=>?_,λb o e=>un.there b o e (by simp)⟩,os,bare⟩;by_cases hb:b∈ts
    ·obtain⟨t1,_,c,t3⟩:=B b hb
     rw[t1]at e;cases e;obtain⟨o2,ws,_,_,_,_,_,_,_,g1,g2,g3,g4,_⟩:=PySem.W.codeHd_of_K W t3;obtain⟨more,z⟩:=tabs b hb;exact .inr (.inl ⟨⟨c,o2,ws,g1,g2,g3,g4⟩,rfl,#[],more,rfl,z⟩)
    ·exact .inl (kept b o e hb)
 have tab:∀ {H:Hp}{p:JI},p∈ts->ObjOk P w H f.heap p (.tbl #[]):=λC=>(B _ C).1
 cases T:K.lookup a with
 | some o =>
  have e:=W a o T;rw[ha]at e;cases e;refine core (λb=>if b∈ts then some (.tbl #[]) else none) (λb=>?_) (λp C=>Jm C) (.inr ⟨_,vs.toArray,_,T,rfl,rfl,rfl,by rw[Jh,O];exact hl,by simpa using rv⟩) (λb u z=>?_) λz=>absurd (Jf aT) z
  ·by_cases hb:b∈ts
   ·exact .inr (.inr ⟨hb,Jm hb⟩)
   ·exact .inl (Jf hb)
  ·by_cases hb:b∈ts
   ·have j:=(Jm hb).symm.trans z
    cases j;exact tab hb
   ·have j:=(Jf hb).symm.trans z
    cases j
 | none =>
  refine core (λb=>if b∈ts then some (.tbl #[]) else if b=a then some (.frz { cls:=.type "list",data:=.seq vs.toArray } (.lst (ns.map V.int))) else none) (λb=>?_) (λp C=>Jm C) (.inl (.inr ⟨{ cls:=.type "list",data:=.seq vs.toArray },(Jf aT).trans (Jm rfl)⟩)) (λb u z=>?_) λ_=>T
  ·by_cases hb:b∈ts
   ·exact .inr (.inr ⟨hb,Jm hb⟩)
   ·by_cases G:b=a
    ·exact .inr (.inl ⟨G,_,_,(Jf hb).trans (Jm G)⟩)
    ·exact .inl ((Jf hb).trans (Jf G))
  ·by_cases hb:b∈ts
   ·have j:=(Jm hb).symm.trans z
    cases j;exact tab hb
   ·by_cases G:b=a
    ·have j:=((Jf hb).trans (Jm G)).symm.trans z
     cases j;subst G;exact⟨ha,by rw[Je];exact hl,vs,_,rv,ha⟩
    ·have j:=((Jf hb).trans (Jf G)).symm.trans z
     cases j
theorem fQ {l:PySem.W.OpenLaw}{n k:Nat}{q:Yo}{loose:List Str}{R:(Str->Option Jo)->YP->Prop}{B:YI->YP->Prop}{d:DefRec}{K:Params->Jl}{CX:CXT}{sp:Jl->Sp}{x:Str}(ts:List JI)(J:l.most=some n)(r:n<=sizeLine)(y:d.params.defaults=[])(I:Room k callerA)(N:∀ (w:YI) (h:YP),B w h->(K w.params).In h/\∀ p∈ts,h.get? p=some (PySem.W.tabObj #[]))(F:∀ (w:YI) (mg:Str->Option Jo) (i:JI) (h:YP),(K w.params).In h->h.Ns mainGlobals mg->mg d.name=some (.ref i)->(∀ p∈ts,(K w.params).lookup p=none/\∃ c,PySem.W.codeHdIn (K w.params) c p=true) /\
   ∃ fd:Yl,(∀ (s:JO) (u:Jo),BindsTo s fd ⟨[u],[]⟩ [(x,u)]) /\
    ∀ base:YP,(K w.params).In base->base.Ns mainGlobals mg->(∀ p∈ts,base.BuiltinsAt mg p)->FnOk l.prog w (K w.params) mg base CX k i fd [x] (sp (K w.params)))(m:∀ (K:Jl) (H:Hp) (a:JI) (ns:List Int),ns.length<=n->SqL K H a (ns.map V.int)->(∀ p∈ts,H p=some (.tbl #[]))->sp K [.ref a] H (λv _=>v=.bl true) λ_ _ _=>False)(z:∀ (H:Hp) (s:JO) (e:Jo) (s':JO),CX [] H s (λ_ _ _=>False) e s'->False) :
  PySem.W.WalkO q loose R B l.row.toRowW d [] (λf vs=>PySem.call f vs):=by
 refine Att.attach_call J y λw D b mg T i o pm cd doc a vs ns G Y U W S t g hints hlen L=>?_;obtain⟨C,E⟩:=N w _ Y;obtain⟨A,fd,M,Q⟩:=F w mg i _ C G.T.g t;exact gL ts C G.T.g G.T.b G.T.builtins G.T.nolimit L g hints (JX hlen r) I (λp j=>⟨E p j,(A p j).1,(A p j).2⟩) G.T.bmain Q M (λH P O=>m (K w.params) H a ns hlen P O) λH e s'=>z H b e s'
structure FunC (K:Jl) (x qual:Str) (st:Stmt) (f:JI) (fd:Yl) (c:JI):Prop where
 ex:∃ (oc:Jo) (od:Option JI) (kV doc pm:Jo) (an:Option JI) (ct:Jo) (osl:Array (Option Jo)),
  fd=PySem.W.fnOf x qual (xj st) (y7 st) (zQ st) .none kV doc pm an (.ref c) ct/\K.lookup f=some ⟨oc,od,.func fd,osl⟩/\PySem.W.codeIn K (.ref c) qual=true
 kp:PySem.W.keepIn K (.ref f)=true
end L2
namespace L2
open PySem PySem.Spec PyProof.Rows Own Bn
def tF (N:Nt)(ts:List Int)(lane:Nat):List Int:=(yI false N.forks ts lane N.forks.length).1
def passE (N:Nt)(ts:List Int)(lane:Nat):Nat:=N.ends.idxOf (yI false N.forks ts lane N.forks.length).2
def zb6 (N:Nt):KN->Nat->Option KN
 | [.inr ts,.inl r],m=>if ((passE N ts m:Nat):Int)=r then some (stK (tF N ts m) [(r+1)%(N.lanes:Nat)]) else none
 | _,_=>none
theorem ie (N:Nt)(ts:List Int)(lane:Nat):(tF N ts lane).length=ts.length:=ud _
theorem lz {N:Nt}{ts:List Int}{lane:Nat}(h:Bits ts):Bits (tF N ts lane):=vX h _
def TabQ (q:Str)(Pt:JI)(H:Hp):Prop:=∃ l,H Pt=some (.tbl (triples l).toArray)/\TabOk H q l
theorem TabQ.keep {q:Str}{Pt:JI}{H H':Hp}(t:TabQ q Pt H)(k:∀ b o,H b=some o->(∃ ps,o=.tbl ps)\/(∃ u v,o=.frz u v)->H' b=some o):TabQ q Pt H':=by
 obtain⟨l,c,a⟩:=t;exact⟨l,k _ _ c (.inl ⟨_,rfl⟩),a.frz λb o u e=>k _ _ e (.inr ⟨_,_,rfl⟩)⟩
theorem TabQ.same {q:Str}{Pt:JI}{H H':Hp}(t:TabQ q Pt H)(s:Same H H'):TabQ q Pt H':=t.keep λb o e _=>s b o e
theorem TabQ.but {q:Str}{Pt l:JI}{H H':Hp}{xs:List V}(t:TabQ q Pt H)(b:But l H H')(h:H l=some (.lst xs)):TabQ q Pt H':=t.keep λc o e z=>b c o e λy=>by
 rw[y,h]at e;cases e;rcases z with ⟨_,z⟩|⟨_,_,z⟩<;>cases z
def sO:Sp:=λb H Q _=>∃ r fr d c N,b=[.ref r]/\Nt.Ok N/\NetAt H r fr d c N/\∀ p a,Same H a->a p=some (.tup ((List.replicate N.forks.length (0:Int)).map V.int))->Q (.ref p) a
structure Whole (Ok:KN->Prop) (most:Nat) (ls:List LvL):Prop where
 ok:∀ lv∈ls,∀ p∈lv,Ok p.1
 few:(ls.map List.length).sum<=most
theorem tL {step:KN->Nat->Option KN}{Ok:KN->Prop}{moves:List Nat}{most:Nat}(hs:∀ s m t,Ok s->m∈moves->step s m=some t->Ok t):∀ (m:Nat) (level seen:LvL) (ls a:List LvL),Whole Ok most ls->(ls.map List.length).sum=seen.length->seen.length<=most->(∀ p∈level,Ok p.1)->yY step moves most m level seen ls=.whl a->Whole Ok most a
 | 0,_,_,_,_,_,_,_,_,e=>by cases e
 | m+1,level,seen,ls,a,d,g,le,lo,e=>by
  by_cases c:level=[]
  ·subst c;rw[wP]at e;cases e;exact d
  by_cases h:most<seen.length+level.length
  ·rw[wQ c h]at e;cases e
  by_cases f:(yo step (seen++level) moves level).fl=[]
  ·rw[vC c h f]at e
   have e2:((ls++[level]).map List.length).sum=(seen++level).length:=by rw[JV,List.sum_append,g,Jd];rfl
   refine tL hs m _ (seen++level) _ a ⟨λlv i p b=>?_,?_⟩ e2 (by rw[Jd];simp_all) (λp b=>?_) e
   ·rcases Jv.mp i with z|z
    ·exact d.ok lv z p b
    ·rw[Jc.mp z]at b;exact lo p b
   ·rw[e2,Jd];simp_all
   ·exact(tT (step:=step) (seen:=seen++level) (moves:=moves) (Ok:=Ok) level λp b k j t e=>hs _ _ _ (lo p b) j e).ok p b
  ·rw[wR c h f]at e;cases e
theorem TellR.kept {P:Yo}{w:YI}{H H':Hp}{p:JI}{R:LRes}(h:TellR P w H p R)(k:∀ b o,H b=some o->(∀ q,o≠FZ q)->H' b=some o):TellR P w H' p R:=by
 have t:Tups H H':=λb f e=>k b _ e λq z=>by cases z
 cases R with
 | opn=>exact t _ _ h
 | brk c=>obtain⟨b,d,a⟩:=h;exact⟨b,t _ _ d,t _ _ a⟩
 | whl ls =>
  obtain⟨l,as,d,a,g⟩:=h;refine⟨l,as,t _ _ d,k _ _ a (λq z=>by cases z),?_⟩;clear d a
  induction g with
  | nil=>exact .nil
  | cons q _ ih =>
   obtain⟨f,e,le⟩:=q;exact .cons ⟨f,k _ _ e (λq z=>by cases z),le.tups t⟩ ih
theorem mq {cs:List (Str × JI)}{H:Hp}(fz:CellsFz cs H):∀ b o,H b=some o->(∀ q,o≠FZ q)->ye cs H b=some o:=λb o e n=>by
 rw[yN];· exact e
 ·intro a
  obtain⟨q,z⟩:=fz b a;rw[e]at z;exact n q (Jp z)
theorem qf:∀ x:List Int,yX x x=.eq
 | []=>rfl
 | a::x=>by show (compare a a).then (yX x x)=.eq;rw[Yx.mpr rfl,qf x];rfl
theorem uu:∀ x y:List Int,yX y x=(yX x y).swap
 | [],[]=>rfl
 | [],_::_=>rfl
 | _::_,[]=>rfl
 | a::x,b::y=>by
  show (compare b a).then (yX y x)=((compare a b).then (yX x y)).swap;rw[uu x y];rcases Zk a b with h|h|h
  ·rw[Yw.mpr h,Yy.mpr h];rfl
  ·subst h
   rw[Yx.mpr (rfl:a=a)];rfl
  ·rw[Yy.mpr h,Yw.mpr h];rfl
def leR (x y:List Int):Prop:=yX x y≠.gt
theorem wx (x:List Int):leR x x:=by unfold leR;rw[qf];exact λh=>by cases h
theorem yx:∀ {x y z:List Int},leR x y->leR y z->leR x z
 | [],[],[],_,_=>λh=>by cases h
 | [],_,_::_,_,_=>λh=>by cases h
 | [],_::_,[],_,h=>absurd rfl h
 | _::_,[],_,h,_=>absurd rfl h
 | _::_,_::_,[],_,h=>absurd rfl h
 | a::x,b::y,c::z,h1,f=>by
  have e:(compare a b).then (yX x y)≠.gt:=h1;have d:(compare b c).then (yX y z)≠.gt:=f;show (compare a c).then (yX x z)≠.gt;rcases Zk a b with p|p|p
  ·rcases Zk b c with q|q|q
   ·rw[Yw.mpr (show a<c by lia)];exact λh=>by cases h
   ·rw[Yw.mpr (show a<c by simp_all)];exact λh=>by cases h
   ·rw[Yy.mpr q]at d;exact absurd rfl d
  ·subst p
   rw[Yx.mpr (rfl:a=a)]at e;rcases Zk a c with q|q|q
   ·rw[Yw.mpr q];exact λh=>by cases h
   ·subst q
    rw[Yx.mpr (rfl:a=a)]at d ⊢;exact yx (x:=x) (y:=y) (z:=z) e d
   ·rw[Yy.mpr q]at d;exact absurd rfl d
  ·rw[Yy.mpr p]at e;exact absurd rfl e
theorem oF (x y:List Int):leR (xN x y) x/\leR (xN x y) y:=by
 unfold xN;by_cases h:yX y x=.lt
 ·rw[Jm h];exact⟨(by unfold leR;rw[h];exact λz=>by cases z),wx y⟩
 ·rw[Jf h]
  refine⟨wx x,λz=>h ?_⟩;rw[uu x y,z];rfl
theorem cp:∀ {l:List (List Int)},l≠[]->gG l∈l
 | [],h=>absurd rfl h
 | x::r,_=>by
  have key:∀ (r:List (List Int)) (x:List Int),r.foldl xN x∈x::r:=by
   intro r
   induction r with
   | nil=>intro x;exact .head _
   | cons y r ih =>
    intro x;show r.foldl xN (xN x y)∈x::y::r;rcases Jr.mp (ih (xN x y)) with z|z
    ·rw[z]
     rcases oE x y with e|e
     ·rw[e];exact .head _
     ·rw[e];exact .tail _ (.head _)
    ·exact .tail _ (.tail _ z)
  exact key r x
theorem zaa:∀ {l:List (List Int)}{x:List Int},x∈l->leR (gG l) x
 | [],x,h=>by cases h
 | a::r,x,h=>by
  have key:∀ (r:List (List Int)) (a:List Int),leR (r.foldl xN a) a/\∀ x∈r,leR (r.foldl xN a) x:=by
   intro r
   induction r with
   | nil=>intro a;exact⟨wx a,λx b=>(nomatch b)⟩
   | cons y r ih =>
    intro a;obtain⟨c,f⟩:=ih (xN a y);obtain⟨e,d⟩:=oF a y;refine⟨yx c e,λx b=>?_⟩;rcases Jr.mp b with rfl|z
    ·exact yx c d
    ·exact f x z
  rcases Jr.mp h with rfl|z
  ·exact(key r _).1
  ·exact(key r a).2 x z
theorem oB:∀ {c d:List Int}{m:Nat},c.length=d.length->leR c d->leR (yQ c m) (yQ d m)
 | [],[],m,_,h=>by unfold yQ zz;exact h
 | a::c,b::d,0,_,h=>by
  have h':(compare a b).then (yX c d)≠.gt:=h;show (compare (a+1) (b+1)).then (yX c d)≠.gt
  have e:compare (a+1) (b+1)=compare a b:=by
   rcases Zk a b with p|p|p
   ·rw[Yw.mpr p,Yw.mpr (by simp_all)]
   ·subst p;rw[Yx.mpr (rfl:a=a),Yx.mpr rfl]
   ·rw[Yy.mpr p,Yy.mpr (by simp_all)]
  rw[e];exact h'
 | a::c,b::d,m+1,l,h=>by
  have h':(compare a b).then (yX c d)≠.gt:=h;show (compare a b).then (yX (yQ c m) (yQ d m))≠.gt
  cases z:compare a b with
  | lt=>exact λh=>by cases h
  | gt=>rw[z]at h';exact absurd rfl h'
  | eq=>rw[z]at h';exact oB (c:=c) (d:=d) (by simpa using l) h'
theorem vR (ps:LvL)(k:KN)(r:List Int):zx (wo ps k r) k=some r:=by
 unfold wo;split
 ·rename_i h
  have key:∀ ps:LvL,(zx ps k).isSome=true->zx (ps.map λx=>if x.1=k then (x.1,r) else x) k=some r:=by
   intro ps
   induction ps with
   | nil=>intro h;cases h
   | cons p ps ih =>
    intro h;unfold zx at ih h ⊢;rw[Y1,YR];rw[YR]at h;by_cases z:p.1=k
    ·rw[Jm z]
     show (match decide (p.1=k) with|true=>some (p.1,r)|false=>_).map _=_;rw[JC z];rfl
    ·rw[Jf z,Js z]
     rw[Js z]at h;exact ih h
  exact key ps h
 ·rename_i h
  have e:zx ps k=none:=by
   cases g:zx ps k with
   | none=>rfl
   | some x=>rw[g]at h;exact absurd rfl h
  unfold zx at e ⊢;rw[Option.map_eq_none_iff]at e;rw[List.find?_append,e];show Option.map _ ((none:Option (KN × List Int)).or (List.find? _ [(k,r)]))=_;rw[YR];show Option.map _ ((none:Option (KN × List Int)).or (match decide (k=k) with|true=>some (k,r)|false=>_))=_;rw[JC rfl];rfl
theorem mG {k j:KN}(r:List Int)(h:j≠k):∀ ps:LvL,zx (ps.map λx=>if x.1=k then (x.1,r) else x) j=zx ps j:=by
 intro ps
 induction ps with
 | nil=>rfl
 | cons p ps ih =>
  unfold zx at ih ⊢;rw[Y1,YR,YR];by_cases z:p.1=k
  ·rw[Jm z]
   have n:¬ p.1=j:=λy=>h (y.symm.trans z);show (match decide (p.1=j) with|true=>_|false=>_:Option (KN × List Int)).map _=_;rw[Js n];exact ih
  ·rw[Jf z]
   by_cases y:p.1=j
   ·rw[JC y]
   ·rw[Js y];exact ih
theorem tI (ps:LvL){k j:KN}(r:List Int)(h:j≠k):zx (wo ps k r) j=zx ps j:=by
 unfold wo;split
 ·exact mG r h ps
 ·unfold zx
  rw[List.find?_append]
  cases e:List.find? (λx=>decide (x.1=j)) ps with
  | some x=>rfl
  | none =>
   show Option.map _ ((none:Option (KN × List Int)).or (List.find? _ [(k,r)]))=_;rw[YR];show Option.map _ ((none:Option (KN × List Int)).or (match decide (k=j) with|true=>some (k,r)|false=>_))=_;rw[Js (λz=>h z.symm)];rfl
abbrev Tri:=KN × List Int × Nat
structure Met (step:KN->Nat->Option KN) (seen:LvL) (T:List Tri) (a:LAcc):Prop where
 on:∀ t c,zx a.on t=some c->∃ x∈T,step x.1 x.2.2=some t/\c=yQ x.2.1 x.2.2
 has:∀ x∈T,∀ t,step x.1 x.2.2=some t->zx seen t=none->∃ c,zx a.on t=some c/\leR c (yQ x.2.1 x.2.2)
 fl1:∀ r∈a.fl,∃ x∈T,step x.1 x.2.2=none/\r=yQ x.2.1 x.2.2
 fl2:∀ x∈T,step x.1 x.2.2=none->yQ x.2.1 x.2.2∈a.fl
theorem mB {α:Type}{o:Option α}(h:¬ o.isSome=true):o=none:=by
 cases o with
 | none=>rfl
 | some x=>exact absurd rfl h
section
variable {step:KN->Nat->Option KN}{seen:LvL}
theorem Met.go {T:List Tri}{a:LAcc}(h:Met step seen T a)(s:KN)(c:List Int)(m:Nat):Met step seen (T++[(s,c,m)]) (go1 step seen s c a m):=by
 have last:∀ {p:Tri->Prop}{x:Tri},x∈T++[(s,c,m)]->(x∈T->p x)->p (s,c,m)->p x:=λb F E=>by
  rcases Jv.mp b with z|z
  ·exact F z
  ·rw[Jc.mp z];exact E
 have d:∀ {x:Tri},x∈T->x∈T++[(s,c,m)]:=λz=>Yc _ z;have l:((s,c,m):Tri)∈T++[(s,c,m)]:=Jz _ (Jc.mpr rfl);unfold go1
 cases e:step s m with
 | none =>
  refine⟨λt j g=>?_,λx b t f sn=>?_,λr n=>?_,λx b ex=>?_⟩
  ·obtain⟨x,b,q⟩:=h.on t j g;exact⟨x,d b,q⟩
  ·refine last (p:=λx=>step x.1 x.2.2=some t->∃ j,zx a.on t=some j/\leR j (yQ x.2.1 x.2.2)) b (λz f=>h.has x z t f sn) (λf=>?_) f
   have i:step s m=some t:=f;rw[e]at i;cases i
  ·rcases Jv.mp n with z|z
   ·obtain⟨x,b,q⟩:=h.fl1 r z;exact⟨x,d b,q⟩
   ·exact⟨_,l,e,Jc.mp z⟩
  ·exact last (p:=λx=>step x.1 x.2.2=none->yQ x.2.1 x.2.2∈a.fl++[yQ c m]) b (λz ex=>Yc _ (h.fl2 x z ex)) (λ_=>Jz _ (Jc.mpr rfl)) ex
 | some u =>
  dsimp only;by_cases o:(zx seen u).isSome=true
  ·rw[Jm o]
   refine⟨λt j g=>?_,λx b t f sn=>?_,λr n=>?_,λx b ex=>?_⟩
   ·obtain⟨x,b,q⟩:=h.on t j g;exact⟨x,d b,q⟩
   ·refine last (p:=λx=>step x.1 x.2.2=some t->∃ j,zx a.on t=some j/\leR j (yQ x.2.1 x.2.2)) b (λz f=>h.has x z t f sn) (λf=>?_) f
    have i:step s m=some t:=f;rw[e]at i;cases i;rw[sn]at o;cases o
   ·obtain⟨x,b,q⟩:=h.fl1 r n;exact⟨x,d b,q⟩
   ·refine last (p:=λx=>step x.1 x.2.2=none->yQ x.2.1 x.2.2∈a.fl) b (λz ex=>h.fl2 x z ex) (λex=>?_) ex
    have k:step s m=none:=ex;rw[e]at k;cases k
  ·rw[Jf o]
   obtain⟨C,w⟩:=oF (yQ c m) ((zx a.on u).getD (yQ c m));refine⟨λt j g=>?_,λx b t f sn=>?_,λr n=>?_,λx b ex=>?_⟩
   ·by_cases tt:t=u
    ·subst tt
     rw[vR]at g;cases g;rcases oE (yQ c m) ((zx a.on t).getD (yQ c m)) with q|q
     ·exact⟨_,l,e,q⟩
     ·cases v:zx a.on t with
      | none=>rw[v]at q;exact⟨_,l,e,by rw[Option.getD_none]at q ⊢;exact q⟩
      | some y =>
       rw[v]at q;obtain⟨x,b,B,A⟩:=h.on t y v;exact⟨x,d b,B,by rw[ZC]at q ⊢;rw[q];exact A⟩
    ·rw[tI _ _ tt]at g
     obtain⟨x,b,q⟩:=h.on t j g;exact⟨x,d b,q⟩
   ·by_cases tt:t=u
    ·subst tt
     rw[vR];refine⟨_,rfl,?_⟩;refine last (p:=λx=>step x.1 x.2.2=some t->leR (xN (yQ c m) ((zx a.on t).getD (yQ c m))) (yQ x.2.1 x.2.2)) b (λz f=>?_) (λ_=>C) f;obtain⟨y,G,D⟩:=h.has x z t f sn;rw[G,ZC]at w ⊢;exact yx w D
    ·rw[tI _ _ tt]
     refine last (p:=λx=>step x.1 x.2.2=some t->∃ j,zx a.on t=some j/\leR j (yQ x.2.1 x.2.2)) b (λz f=>h.has x z t f sn) (λf=>?_) f;have i:step s m=some t:=f;rw[e]at i;exact absurd (Jp i).symm tt
   ·obtain⟨x,b,q⟩:=h.fl1 r n;exact⟨x,d b,q⟩
   ·refine last (p:=λx=>step x.1 x.2.2=none->yQ x.2.1 x.2.2∈a.fl) b (λz ex=>h.fl2 x z ex) (λex=>?_) ex
    have k:step s m=none:=ex;rw[e]at k;cases k
theorem Met.row (s:KN)(c:List Int):∀ (ms:List Nat) {T:List Tri}{a:LAcc},Met step seen T a->Met step seen (T++ms.map λm=>(s,c,m)) (ms.foldl (go1 step seen s c) a)
 | [],T,a,h=>by rw[List.map_nil,JU];exact h
 | m::r,T,a,h=>by
  have:=Met.row s c r (h.go s c m)
  rwa [JT]at this
def iL (moves:List Nat)(level:LvL):List Tri:=level.flatMap λp=>moves.map λm=>(p.1,p.2,m)
theorem Met.lev (moves:List Nat):∀ (level:LvL) {T:List Tri}{a:LAcc},Met step seen T a->Met step seen (T++iL moves level) (level.foldl (goS step seen moves) a)
 | [],T,a,h=>by show Met step seen (T++[]) a;rw[JU];exact h
 | p::r,T,a,h=>by
  have:=Met.lev moves r (Met.row p.1 p.2 moves h)
  rwa [JT]at this
theorem nh (moves:List Nat)(level:LvL):Met step seen (iL moves level) (yo step seen moves level) :=
 Met.lev moves level (T:=[]) (a:=⟨[],[]⟩) ⟨λt c g=>(by cases g),λx b=>absurd b Ju,λr d=>absurd d Ju,λx b=>absurd b Ju⟩
end
theorem vg {moves:List Nat}{level:LvL}{x:Tri}:x∈iL moves level↔(x.1,x.2.1)∈level/\x.2.2∈moves:=by
 unfold iL;rw[List.mem_flatMap];constructor
 ·rintro⟨p,b,a⟩
  obtain⟨m,c,rfl⟩:=Jy.mp a;exact⟨b,c⟩
 ·rintro⟨e,d⟩
  exact⟨_,e,Jy.mpr ⟨_,d,rfl⟩⟩
def wG (step:KN->Nat->Option KN):KN->List Nat->Option KN
 | s,[]=>some s
 | s,m::r=>(step s m).bind λt=>wG step t r
def wD (c:List Int)(row:List Nat):List Int:=row.foldl yQ c
theorem xK (step:KN->Nat->Option KN):∀ (r:List Nat) (s:KN) (m:Nat),wG step s (r++[m])=(wG step s r).bind λt=>step t m
 | [],s,m=>by
  show (step s m).bind (λt=>some t)=step s m
  cases step s m<;>rfl
 | a::r,s,m=>by
  show (step s a).bind (λt=>wG step t (r++[m]))=((step s a).bind λt=>wG step t r).bind λt=>step t m
  cases step s a with
  | none=>rfl
  | some t=>exact xK step r t m
theorem xn (c:List Int)(r:List Nat)(m:Nat):wD c (r++[m])=yQ (wD c r) m:=by unfold wD;rw[Zi];rfl
theorem rW (c:List Int)(r:List Nat):(wD c r).length=c.length:=by
 unfold wD
 induction r generalizing c with
 | nil=>rfl
 | cons m r ih=>show (r.foldl yQ (yQ c m)).length=_;rw[ih,wH]
theorem sY {r:List Nat}{n:Nat}(h:r.length=n+1):∃ q m,r=q++[m]/\q.length=n:=by
 have ne:r≠[]:=λz=>by rw[z]at h;cases h
 refine⟨r.dropLast,r.getLast ne,(List.dropLast_concat_getLast ne).symm,?_⟩;rw[List.length_dropLast];simp_all
def Over (moves row:List Nat):Prop:=∀ m∈row,m∈moves
structure Clm (step:KN->Nat->Option KN) (moves:List Nat) (k0:KN) (c0:List Int) (n:Nat) (level seen:LvL):Prop where
 fst:(zx (seen++level) k0).isSome=true
 way:∀ t c,zx level t=some c->∃ row,row.length=n/\Over moves row/\wG step k0 row=some t/\wD c0 row=c
 all:∀ row,row.length<=n->Over moves row->∃ s,wG step k0 row=some s/\(zx (seen++level) s).isSome=true
 cls:∀ s,(zx seen s).isSome=true->∀ m∈moves,∃ t,step s m=some t/\(zx (seen++level) t).isSome=true
 new:∀ s,(zx level s).isSome=true->zx seen s=none
 lst:∀ row s c,row.length=n->Over moves row->wG step k0 row=some s->zx level s=some c->leR c (wD c0 row)
 nd:LvNd level
 num:n<=seen.length
 rch:∀ s,(zx seen s).isSome=true->∃ row,Over moves row/\wG step k0 row=some s
section
variable {step:KN->Nat->Option KN}{moves:List Nat}{k0:KN}{c0:List Int}{n:Nat}{level seen:LvL}
theorem xy:∀ {ps:LvL},LvNd ps->∀ {s:KN}{c:List Int},(s,c)∈ps->zx ps s=some c
 | [],_,s,c,h=>by cases h
 | p::ps,nd,s,c,h=>by
  unfold LvNd at nd;rw[Y1,JQ]at nd;unfold zx;rw[YR];rcases Jr.mp h with z|z
  ·rw[<- z]
   show (match decide (s=s) with|true=>some (s,c)|false=>_:Option (KN × List Int)).map _=_;rw[JC rfl];rfl
  ·have n:¬ p.1=s:=λy=>nd.1 (Jy.mpr ⟨_,z,y.symm⟩)
   rw[Js n];exact xy nd.2 z
theorem Clm.step_of (h:Clm step moves k0 c0 n level seen){row:List Nat}(e:row.length=n)(b:Over moves row):∃ s,wG step k0 row=some s/\((zx seen s).isSome=true\/∃ c,zx level s=some c):=by
 obtain⟨s,d,a⟩:=h.all row (by simp_all) b;refine⟨s,d,?_⟩;rw[x3,Wb]at a;rcases a with z|z
 ·exact .inl z
 ·exact .inr (ZH.mp z)
theorem Clm.next (h:Clm step moves k0 c0 n level seen)(ne:level≠[])(cl:∀ p∈level,p.2.length=c0.length)(fl:(yo step (seen++level) moves level).fl=[]):Clm step moves k0 c0 (n+1) (yo step (seen++level) moves level).on (seen++level):=by
 have M:=nh (step:=step) (seen:=seen++level) moves level;have W:=tT (step:=step) (seen:=seen++level) (moves:=moves) (Ok:=λ_=>True) level λ_ _ _ _ _ _=>trivial
 have f:∀ s,(zx (yo step (seen++level) moves level).on s).isSome=true->zx (seen++level) s=none:=λs a=>by
  obtain⟨r,G⟩:=wK a;exact W.new _ G
 have o:∀ s c,zx level s=some c->∀ m∈moves,∃ t,step s m=some t/\((zx (seen++level) t).isSome=true\/∃ v,zx (yo step (seen++level) moves level).on t=some v/\leR v (yQ c m)):=λs c g m b=>by
  have D:((s,c,m):Tri)∈iL moves level:=vg.mpr ⟨xH g,b⟩
  cases e:step s m with
  | none =>
   have:=M.fl2 _ D e
   rw[fl]at this;cases this
  | some t =>
   refine⟨t,rfl,?_⟩;by_cases z:(zx (seen++level) t).isSome=true
   ·exact .inl z
   ·exact .inr (M.has _ D t e (mB z))
 have lead:∀ s,(zx (seen++level) s).isSome=true->∀ m∈moves,∃ t,step s m=some t/\(zx ((seen++level)++(yo step (seen++level) moves level).on) t).isSome=true:=λs a m b=>by
  rw[x3,Wb]at a;rcases a with z|z
  ·obtain⟨t,e,q⟩:=h.cls s z m b
   exact⟨t,e,by rw[x3,q];rfl⟩
  ·obtain⟨c,g⟩:=ZH.mp z
   obtain⟨t,e,q⟩:=o s c g m b;refine⟨t,e,?_⟩;rw[x3];rcases q with q|⟨v,q,_⟩
   ·rw[q];rfl
   ·rw[q];exact Bool.or_true _
 refine⟨by rw[x3,h.fst];rfl,λt c g=>?_,λrow G j=>?_,lead,f,λrow s c P j a g=>?_,W.nd,?_,λs a=>?_⟩
 ·obtain⟨x,O,e,Q⟩:=M.on t c g
  obtain⟨J,I⟩:=vg.mp O;obtain⟨row,N,A,w,L⟩:=h.way x.1 x.2.1 (xy h.nd J);refine⟨row++[x.2.2],by rw[Jd,N];rfl,λm b=>?_,by rw[xK,w];exact e,by rw[xn,L,Q]⟩;rcases Jv.mp b with z|z
  ·exact A m z
  ·rw[Jc.mp z];exact I
 ·rcases Nat.lt_or_ge n row.length with z|z
  ·obtain⟨q,m,rfl,B⟩:=sY (show row.length=n+1 by lia)
   obtain⟨s,k,l⟩:=h.all q (by simp_all) λm b=>j m (Yc _ b);obtain⟨t,e,i⟩:=lead s l m (j m (Jz _ (Jc.mpr rfl)));exact⟨t,by rw[xK,k];exact e,i⟩
  ·obtain⟨s,k,l⟩:=h.all row z j
   exact⟨s,k,by rw[x3,l];rfl⟩
 ·obtain⟨q,m,rfl,B⟩:=sY P
  have F:m∈moves:=j m (Jz _ (Jc.mpr rfl));have E:Over moves q:=λm b=>j m (Yc _ b);obtain⟨t,k,l⟩:=h.step_of B E;rw[xK,k]at a;have u:step t m=some s:=a;have sn:=f s (by rw[g];rfl);rcases l with z|⟨d,C⟩
  ·obtain⟨K,e,i⟩:=h.cls t z m F
   rw[u]at e;rw[<- Jp e,sn]at i;cases i
  ·obtain⟨K,e,i⟩:=o t d C m F
   rw[u]at e;rw[<- Jp e]at i;rcases i with y|⟨v,H,lc⟩
   ·rw[sn]at y;cases y
   ·rw[g]at H
    rw[Jp H,xn];refine yx lc (oB ?_ (h.lst q t d B E k C));rw[rW];exact cl _ (xH C)
 ·rw[Jd]
  have:=h.num;have:0<level.length:=Zr.mpr ne;lia
 ·rw[x3,Wb]at a
  rcases a with z|z
  ·exact h.rch s z
  ·obtain⟨c,g⟩:=ZH.mp z
   obtain⟨row,_,A,w,_⟩:=h.way s c g;exact⟨row,A,w⟩
structure Broke (step:KN->Nat->Option KN) (moves:List Nat) (k0:KN) (c0:List Int) (n:Nat) (c:List Int):Prop where
 ex:∃ row m,row.length=n/\Over moves (row++[m])/\wD c0 (row++[m])=c/\wG step k0 (row++[m])=none
 few:∀ row,row.length<=n->Over moves row->∃ s,wG step k0 row=some s
 lst:∀ row,row.length=n+1->Over moves row->wG step k0 row=none->leR c (wD c0 row)
theorem Clm.brk (h:Clm step moves k0 c0 n level seen)(cl:∀ p∈level,p.2.length=c0.length)(fl:(yo step (seen++level) moves level).fl≠[]):Broke step moves k0 c0 n (gG (yo step (seen++level) moves level).fl):=by
 have M:=nh (step:=step) (seen:=seen++level) moves level;obtain⟨x,B,e,F⟩:=M.fl1 _ (cp fl);obtain⟨r,o⟩:=vg.mp B;obtain⟨row,A,y,w,v⟩:=h.way x.1 x.2.1 (xy h.nd r);refine⟨⟨row,x.2.2,A,λm f=>?_,by rw[xn,v,F],by rw[xK,w];exact e⟩,λrow C b=>?_,λrow D b l=>?_⟩
 ·rcases Jv.mp f with z|z
  ·exact y m z
  ·rw[Jc.mp z];exact o
 ·obtain⟨s,c,_⟩:=h.all row C b
  exact⟨s,c⟩
 ·obtain⟨q,m,rfl,i⟩:=sY D
  have k:m∈moves:=b m (Jz _ (Jc.mpr rfl));have j:Over moves q:=λm f=>b m (Yc _ f);obtain⟨t,c,E⟩:=h.step_of i j;rw[xK,c]at l;have a:step t m=none:=l;rcases E with z|⟨d,g⟩
  ·obtain⟨G,e,_⟩:=h.cls t z m k
   rw[a]at e;cases e
  ·have u:((t,d,m):Tri)∈iL moves level:=vg.mpr ⟨xH g,k⟩
   rw[xn];refine yx (zaa (M.fl2 _ u a)) (oB ?_ (h.lst q t d i j c g));rw[rW];exact cl _ (xH g)
end
structure Shut (step:KN->Nat->Option KN) (moves:List Nat) (k0:KN) (ks:List KN):Prop where
 fst:k0∈ks
 cls:∀ s∈ks,∀ m∈moves,∃ t∈ks,step s m=some t
def xF (ls:List LvL):List KN:=ls.flatMap λlv=>lv.map (·.1)
theorem qW (a b:List LvL):xF (a++b)=xF a++xF b:=by unfold xF;rw[List.flatMap_append]
theorem xG {ps:LvL}{s:KN}:(zx ps s).isSome=true↔s∈ps.map (·.1):=by
 constructor
 ·intro h
  obtain⟨r,a⟩:=wK h;exact Jy.mpr ⟨_,a,rfl⟩
 ·intro h
  obtain⟨p,b,rfl⟩:=Jy.mp h;exact wL b
section
variable {step:KN->Nat->Option KN}{moves:List Nat}{k0:KN}{c0:List Int}{most:Nat}
theorem mV:∀ (m n:Nat) (level seen:LvL) (ls:List LvL),Clm step moves k0 c0 n level seen->(∀ p∈level,p.2.length=c0.length)->xF ls=seen.map (·.1)->LvNd (seen++level)->seen.length<=most ->
  match yY step moves most m level seen ls with
  | .opn=>True
  | .brk c=>∃ l,l<=most/\Broke step moves k0 c0 l c
  | .whl d=>Shut step moves k0 (xF d)/\(xF d).Nodup/\(xF d).length<=most/\∀ s∈xF d,∃ row,Over moves row/\wG step k0 row=some s
 | 0,_,_,_,_,_,_,_,_,_=>trivial
 | m+1,n,level,seen,ls,h,cl,k,nd,le=>by
  by_cases g:level=[]
  ·subst g
   rw[wP];have e:xF ls=(seen++([]:LvL)).map (λp:KN × List Int=>p.1):=by rw[JU];exact k
   refine⟨⟨by rw[e];exact xG.mp h.fst,λs i m j=>?_⟩,by rw[e];exact nd,by rw[k,Je];exact le,λs i=>?_⟩
   ·rw[k]at i
    obtain⟨t,q,o⟩:=h.cls s (xG.mpr i) m j;exact⟨t,by rw[e];exact xG.mp o,q⟩
   ·rw[k]at i
    exact h.rch s (xG.mpr i)
  by_cases j:most<seen.length+level.length
  ·rw[wQ g j];trivial
  by_cases f:(yo step (seen++level) moves level).fl=[]
  ·rw[vC g j f]
   have na:=uF (step:=step) (seen:=seen++level) (moves:=moves) (n:=c0.length) level cl;have W:=tT (step:=step) (seen:=seen++level) (moves:=moves) (Ok:=λ_=>True) level λ_ _ _ _ _ _=>trivial;refine mV m (n+1) _ _ _ (h.next g cl f) na.on ?_ ?_ (by rw[Jd];simp_all)
   ·rw[qW,k,JV]
    congr 1
    show level.map (λp:KN × List Int=>p.1)++[]=level.map (λp:KN × List Int=>p.1);rw[JU]
   ·unfold LvNd
    rw[JV];refine Wp.mpr ⟨nd,W.nd,λa v b u e=>?_⟩;subst e;obtain⟨p,r,rfl⟩:=Jy.mp u;have:=W.new p r;have z:=xG.mpr v;rw[this]at z;cases z
  ·rw[wR g j f]
   exact⟨n,by have:=h.num;lia,h.brk cl f⟩
theorem qh:Clm step moves k0 c0 0 [(k0,c0)] []:=by
 have b:zx [(k0,c0)] k0=some c0:=xy (show LvNd [(k0,c0)] from JQ.mpr ⟨Ju,YX⟩) (.head _)
 have only:∀ {t:KN}{c:List Int},zx [(k0,c0)] t=some c->t=k0/\c=c0:=λg=>by
  have e:=Jc.mp (xH g);injection e with j e2;exact⟨j,e2⟩
 have nil:∀ {row:List Nat},row.length<=0->row=[]:=λh=>Zs.mp (by lia);refine⟨by rw[ZK,b];rfl,λt c g=>?_,λrow d _=>?_,λs a=>(by cases a),λs _=>rfl,λrow s c i _ a g=>?_,JQ.mpr ⟨Ju,YX⟩,Jg _,λs a=>(by cases a)⟩
 ·obtain⟨rfl,rfl⟩:=only g
  exact⟨[],rfl,λm f=>absurd f Ju,rfl,rfl⟩
 ·rw[nil d]
  exact⟨k0,rfl,by rw[ZK,b];rfl⟩
 ·obtain⟨_,rfl⟩:=only g
  rw[nil (Nat.le_of_eq i)];exact wx _
theorem qk:match yY step moves most (most+1) [(k0,c0)] [] [] with
  | .opn=>True
  | .brk c=>∃ b,b<=most/\Broke step moves k0 c0 b c
  | .whl a=>Shut step moves k0 (xF a)/\(xF a).Nodup/\(xF a).length<=most/\∀ s∈xF a,∃ row,Over moves row/\wG step k0 row=some s :=
 mV (most+1) 0 _ _ _ qh (λp d=>by rw[Jc.mp d]) rfl (JQ.mpr ⟨Ju,YX⟩) (JL _)
theorem jg {α:Type}[DecidableEq α]:∀ {l ks:List α},l.Nodup->(∀ x∈l,x∈ks)->l.length<=ks.length
 | [],_,_,_=>JL _
 | a::l,ks,nd,h=>by
  rw[JQ]at nd;have ha:=h a (.head _);have:=jg (l:=l) (ks:=ks.erase a) nd.2 λx b=>(List.mem_erase_of_ne λ(z:x=a)=>nd.1 (z ▸ b)).mpr (h x (.tail _ b));rw[List.length_erase_of_mem ha]at this;have:0<ks.length:=List.length_pos_of_mem ha;rw[JW];lia
end
def zF (N:Nt):List Int:=List.replicate N.forks.length 0
def zL (N:Nt):List Int:=List.replicate N.lanes 0
def rg (N:Nt)(row:List Nat)(i:Nat):List Int:=(row.take i).foldl (tF N) (zF N)
theorem qF (N:Nt){row:List Nat}{i:Nat}(h:i<row.length):rg N row (i+1)=tF N (rg N row i) (row.getD i 0):=by
 unfold rg;rw[<- Ys h,Zi,Ja,J7 h];rfl
theorem xC {row:List Nat}{i:Nat}(h:i<row.length):row.take (i+1)=row.take i++[row.getD i 0]:=by
 rw[<- Ys h,Ja,J7 h];rfl
section
variable {N:Nt}
theorem vL (N:Nt)(row:List Nat):(wD (zL N) row).length=N.lanes:=by rw[rW];exact Y7
theorem mj (ok:Nt.Ok N)(row:List Nat)(a:∀ m∈row,m<N.lanes):∀ i,i<=row.length->rg N row i=y8 N (wD (zL N) (row.take i))
 | 0,_=>by
  rw[ZX];show zF N=y8 N (zL N);unfold zL
  rw[me];rfl
 | i+1,h=>by
  have b:row.getD i 0<N.lanes:=by
   rw[Ja,J7 h];exact a _ (JY h)
  rw[qF N h,mj ok row a i (by lia),xC h,xn];exact(zbQ ok false (vL N _) b).1.symm
theorem gf (ok:Nt.Ok N){row:List Nat}(a:∀ m∈row,m<N.lanes){i:Nat}(h:i<row.length):yD N (wD (zL N) (row.take (i+1)))=zz (yD N (wD (zL N) (row.take i))) (passE N (rg N row i) (row.getD i 0)) 1:=by
 have b:row.getD i 0<N.lanes:=by
  rw[Ja,J7 h];exact a _ (JY h)
 rw[mj ok row a i (by lia),xC h,xn];exact(zbQ ok false (vL N _) b).2.1
theorem passE_lt (ok:Nt.Ok N){row:List Nat}(a:∀ m∈row,m<N.lanes){i:Nat}(h:i<row.length):passE N (rg N row i) (row.getD i 0)<N.lanes:=by
 have c:row.getD i 0<N.lanes:=by
  rw[Ja,J7 h];exact a _ (JY h)
 have b:=(zbQ ok false (vL N (row.take i)) c).2.2;unfold passE;rw[mj ok row a i (by lia)];have:=Wg (ok.en.mem_iff.mpr (Yp.mpr b));rw[ok.en.length_eq,Y4]at this;exact this
theorem ur:∀ (row:List Nat) (c:List Int) (p:Nat),p<c.length->(wD c row).getD p 0=c.getD p 0+(row.count p:Nat)
 | [],c,p,h=>by show c.getD p 0=_;rw[List.count_nil];lia
 | m::r,c,p,h=>by
  show (wD (yQ c m) r).getD p 0=_;rw[ur r (yQ c m) p (by rw[wH];exact h),List.count_cons];unfold yQ zz;by_cases z:m=p
  ·subst z
   rw[Ja,List.getElem?_set_self h,ZD,Jm rfl];show c.getD m 0+1+_=_;rw[Int.natCast_add];lia
  ·rw[Ja,List.getElem?_set_ne z,<- Ja,Jf (by simpa using z),Nat.add_zero]
theorem kw (N:Nt)(p:Nat):(zL N).getD p 0=0:=uW _ _
def vN (c:List Int):List Nat:=(List.range c.length).flatMap λi=>List.replicate (c.getD i 0).toNat i
theorem sZ (c:List Int)(a:Nat):(vN c).count a=if a<c.length then (c.getD a 0).toNat else 0:=by
 unfold vN;generalize c.length=n
 induction n with
 | zero=>rfl
 | succ n ih =>
  rw[List.range_succ,List.flatMap_append,List.count_append,ih];show _+(List.replicate (c.getD n 0).toNat n++[]).count a=_;rw[JU,List.count_replicate];by_cases z:n=a
  ·subst z
   rw[ZD,Jm rfl,Jf (YB _),Jm (Z9 _),Zh]
  ·have nb:(n == a)=false:=by simpa using z
   rw[nb,Jf (show ¬(false=true) by decide),Nat.add_zero];by_cases y:a<n
   ·rw[Jm y,Jm (by lia)]
   ·rw[Jf y,Jf (by lia)]
end
def zbt (N:Nt):KN->Nat->KN
 | [.inr ts,.inl r],m=>stK (tF N ts m) [(r+1)%(N.lanes:Nat)]
 | k,_=>k
def zc5 (ks:List KN)(k:KN):Bool:=ks.any λx=>decide (x=k)
section
variable (N:Nt)(ks:List KN)
def la1 (s:KN)(c:List Int)(a:LAcc)(m:Nat):LAcc :=
 ⟨if zc5 ks (zbt N s m)=true then a.on else wo a.on (zbt N s m) (xN ((zx a.on (zbt N s m)).getD (yQ c m)) (yQ c m)),if zb6 N s m=none then a.fl++[yQ c m] else a.fl⟩
end
end L2
namespace L2
open PySem PySem.Spec PyProof.Rows Own Bn
theorem bF {H:Hp}{g q:JI}{x y:List Int}{n:Nat}(b:H g=some (.tup (x.map V.int)))(a:H q=some (.tup (y.map V.int)))(d:x.length=n)(c:y.length=n):(∀ u∈[V.ref g,V.ref q],∀ v∈[V.ref g,V.ref q],Lx H 1 u v (tN H u v))/\∃ h,y0 (tN H) (.ref g) (.ref q)=.ref h/\H h=some (.tup ((xN x y).map V.int)) :=
 ⟨jE (fs:=[g,q]) (rs:=[x,y]) (.cons b (.cons a .nil)) λr e=>by
  rcases Jr.mp e with rfl|z
  ·exact d
  ·rw[Jc.mp z];exact c,mZ (fs:=[q]) (rs:=[y]) (.cons a .nil) b⟩
end L2
namespace K43
open PySem L2 Own Bn
abbrev za0:Stmt:=top 16
theorem jr {d:JI}{H H':Hp}{P:Yo}{w:YI}{xs:KVN}(b:But d H H')(hd:H d=some (DN P w d xs)):∀ c o u,H c=some (.frz o u)->H' c=some (.frz o u):=λc o u e=>b c _ e λz=>by
 rw[z,hd]at e;cases e
theorem wE {d:JI}{H H':Hp}{P:Yo}{w:YI}{xs:KVN}(b:But d H H')(hd:H d=some (DN P w d xs)):Tups H H':=λc a e=>b c _ e λz=>by
 rw[z,hd]at e;cases e
section
variable {P:Yo}{w:YI}{K:Jl}{mg:Str->Option Jo}{base:YP}
theorem o8:FnScope ["level","seen","moves","led","onward","faults","state","counts","move","there","more"] ["level","seen","moves","led"] (zQ za0):=by trivial
theorem aj {f fA:JI}{fd dA:Yl}{L:Lam}{fr cm:List Str}{lsp:LSpc}(F:Fun K "next_level" "next_level" za0 f fd) (G:Mgs mg) (UA:Use P w K mg base "added" ["counts","place","many"] 2 tQ fA dA) (LQ:LamQ CX0 P w K mg base 4 L fr cm lsp):FnOk P w K mg base CX0 6 f fd ["level","seen","moves","led"] (my P w K L fr lsp):=by
 refine F.ok o8 (λvs H Q E h=>?_) (λc2 A outer s H vs Q E hr h=>?_)
 ·obtain⟨dl,ds,mv,f,xs,ys,level,seen,moves,cl,vals,step,Ok,n,rfl,_⟩:=h
  rfl
 obtain⟨dl,ds,mv,f,xs,ys,level,seen,moves,cl,vals,step,Ok,n,rfl,B,lvl,b0,a7,b7,W,cn,c1,k⟩:=h;refine⟨_,(@zE _ _ _ _ _ (@zW _ _ 4 _ _ _ _ o8.nd rfl (.inl rfl) jH rfl (by trivial)) (@zE _ _ _ _ _ (@zW _ _ 5 _ _ _ _ o8.nd rfl (.inl rfl) (@zy _ _ _ _ zC) rfl (by trivial)) (@zE _ _ _ _ _ (dg (@yj _ _ _ _ _ _ _ _ Y2 rfl (qM (@pvb _ 0 _ _ rfl)) (@yK _ _ _ _ _ _ rfl (@zP _ _ _ _ _ (@zN _ _ 6 _ o8.nd rfl (.inl rfl) (by trivial)) (@zP _ _ _ _ _ (@zN _ _ 7 _ o8.nd rfl (.inl rfl) (by trivial)) zw rfl) rfl) rfl rfl) (@zM _ _ _ (@yj _ _ _ _ _ _ _ _ Y2 rfl (@wY _ _ _ _ (@pvb _ 2 _ _ rfl)) (@zN _ _ 8 _ o8.nd rfl (.inl rfl) (by trivial)) (@zE _ _ _ _ _ (@zW _ _ 9 _ _ _ _ o8.nd rfl (.inl rfl) (ae LQ hr (@pvb _ 3 _ _ rfl) dz (@zA _ _ _ _ _ (@pvb _ 6 _ _ rfl) (@zA _ _ _ _ _ (@pvb _ 8 _ _ rfl) zC rfl) rfl)) rfl (by trivial)) (@zE _ _ _ _ _ (@yb _ _ _ _ _ _ _ _ (@zt _ _ _ _ _ _ _ _ (zbj hr.u3) (@pvb _ 9 _ _ rfl) (@pvb _ 1 _ _ rfl) rfl) (@zM _ _ _ nJ) yA) (@zE _ _ _ _ _ (@zW _ _ 10 _ _ _ _ o8.nd rfl (.inl rfl) (@zR _ _ _ _ _ _ _ _ _ _ _ _ UA (hr.mono (by decide)) (@zA _ _ _ _ _ (@pvb _ 7 _ _ rfl) (@zA _ _ _ _ _ (@pvb _ 8 _ _ rfl) (@zA _ _ _ _ _ zH zC rfl) rfl) rfl) rfl rfl rfl rfl) rfl (by trivial)) (@zM _ _ _ (@yb _ _ _ _ _ _ _ _ (@zt _ _ _ _ _ _ _ _ cC (@pvb _ 9 _ _ rfl) wZ rfl) (@zM _ _ _ (@y4 _ _ _ _ (@wd _ _ _ _ _ _ _ _ _ _ _ _ Y6 YH YJ yq (@pvb _ 5 _ _ rfl) (@zA _ _ _ _ _ (@pvb _ 10 _ _ rfl) zC rfl) rfl rfl rfl rfl rfl) rfl)) (@zM _ _ _ (aV hr.u3 (@pvb _ 4 _ _ rfl) (@pvb _ 9 _ _ rfl) (@zX _ _ _ _ _ _ _ _ _ (kr rfl hr.units) rfl G.min rfl (@zA _ _ _ _ _ (@pvb _ 10 _ _ rfl) (@zA _ _ _ _ _ (dw hr.u3 (@pvb _ 4 _ _ rfl) (@pvb _ 9 _ _ rfl) (@pvb _ 10 _ _ rfl) ⟨rfl,rfl,rfl,rfl⟩) zC rfl) rfl) (by decide) (by decide) rfl rfl) rfl))))))) (by intro _;rfl))) (by intro _;rfl))) (@zM _ _ _ (@zV _ _ _ _ (@zi _ _ _ _ _ (@zA _ _ _ _ _ (@pvb _ 4 _ _ rfl) (@zA _ _ _ _ _ (@pvb _ 5 _ _ rfl) zC rfl) rfl))))))),?_⟩;refine λo ho=>⟨by show 0<=sizeLine;decide,λl hl=>?_⟩;have s1:=zD ho (DN P w o []);have s2:=zD (show L2.upd H o (DN P w o []) l=none from hl) (.lst []);have u2:=s1.trans s2
 have ol:o≠l:=λz=>by
  have a5:L2.upd H o (DN P w o []) l=none:=hl;rw[<- z,zG]at a5;cases a5
 have bS:H l=none:=by
  have a5:L2.upd H o (DN P w o []) l=none:=hl
  rwa [zK ol.symm]at a5
 have bo:dl≠o:=zJ B ho;have bu:dl≠l:=zJ B bS;have cL:L2.upd (L2.upd H o (DN P w o [])) l (.lst []) o=some (DN P w o []):=by rw[zK ol];exact zG
 have cP:L2.upd (L2.upd H o (DN P w o [])) l (.lst []) l=some (.lst []):=zG;refine zB ⟨dl,xs,rfl,u2 _ _ B,λob=>?_⟩
 let y:Nat->LAcc:=λi=>(level.take i).foldl (goS step seen moves) ⟨[],[]⟩
 have ll:xs.length=level.length:=lvl.len;refine kj (P:=P) (w:=w) (d:=dl) (o:=ob) (xs:=xs) (λi σ S=>(∃ v6 v7 v8 v9 v10,σ=[some (.ref dl),some (.ref ds),some (.ref mv),some (.ref f),some (.ref o),some (.ref l),v6,v7,v8,v9,v10])/\But dl H S/\S dl=some (.frz ob (DN P w dl xs))/\∃ zs fs,S o=some (DN P w o zs)/\LvE S zs (y i).on/\S l=some (.lst (fs.map V.ref))/\RowsAt S fs (y i).fl/\AccOk n (i*moves.length) (y i)) ?_ (λi σ S _ q=>q.2.2.1) ?_ ?_
 ·refine⟨⟨_,_,_,_,_,rfl⟩,λb u e ne=>?_,zG,[],[],?_,LvE.nil,?_,.nil,⟨λp hp=>(nomatch hp),λr hr=>(nomatch hr),by show 0+0<=_;simp_all⟩⟩
  ·rw[zK ne];exact u2 b u e
  ·rw[zK bo.symm];exact cL
  ·rw[zK bu.symm];exact cP
 ·rintro i p σ S T hp hT ⟨⟨v6,v7,v8,v9,v10,rfl⟩,bt,a6,zs,fs,a9,aT,bb,rws,b8⟩
  have il:i<level.length:=by rw[<- ll];exact(Jb.mp hp).1
  obtain⟨r,c,ep,kb,ec,hc⟩:=(lvl.tups (wE bt B)).at_ hp;have pin:(p.1,r)∈level:=JD ep;obtain⟨b9,rl⟩:=cn _ pin;rw[ec];have sT:=zD hT (.tup [.ref p.2.1,.ref c]);refine⟨T,_,rfl,SqT.of zG,rfl,_,_,rfl,_,_,rfl,rfl,?_⟩;have W2:=W.keep (wE bt B) (jr bt B);refine zB ⟨mv,rfl,⟨_,(W2.mv.tups (Tups.of sT)).sq⟩,?_⟩
  have cb:y (i+1)=goS step seen moves (y i) (p.1,r):=by
   show List.foldl _ _ (level.take (i+1))=_;rw[<- Ys il,Zi,show level[i]=(p.1,r) from (Jb.mp ep).2];rfl
  generalize hA:y i=a0 at *
  let v:Nat->LAcc:=λj=>(moves.take j).foldl (go1 step seen p.1 r) a0
  have fin:v moves.length=y (i+1):=by rw[cb];show List.foldl _ _ (moves.take moves.length)=_;rw[Y5];rfl
  have ml:(moves.map λm=>V.int (m:Nat)).length=moves.length:=Je _;refine uP (K:=K) (a:=mv) (xs:=moves.map λm=>V.int (m:Nat)) (λj σ Y=>(∃ v8 v9 v10,σ=[some (.ref dl),some (.ref ds),some (.ref mv),some (.ref f),some (.ref o),some (.ref l),some (.ref p.2.1),some (.ref c),v8,v9,v10])/\But dl H Y/\Y dl=some (.frz ob (DN P w dl xs))/\∃ zs fs,Y o=some (DN P w o zs)/\LvE Y zs (v j).on/\Y l=some (.lst (fs.map V.ref))/\RowsAt Y fs (v j).fl/\AccOk n (i*moves.length+j) (v j)) ?_ (λj σ Y _ q=>(W.mv.tups (wE q.2.1 B)).sq) ?_ ?_
  ·exact⟨⟨_,_,_,rfl⟩,bt.trans (But.of sT),sT _ _ a6,zs,fs,sT _ _ a9,aT.keep sT,sT _ _ bb,rws.tups (Tups.of sT),b8⟩
  ·rintro j x σ Y hx ⟨⟨v8,v9,v10,rfl⟩,X,ao,J,R,aa,U,ab,O,C⟩
   rw[JN]at hx;obtain⟨m,em,rfl⟩:=YN.mp hx;have jl:j<moves.length:=(Jb.mp em).1;have mm:m∈moves:=JD em
   have aE:v (j+1)=go1 step seen p.1 r (v j) m:=by
    show List.foldl _ _ (moves.take (j+1))=_;rw[<- Ys jl,Zi,show moves[j]=m from (Jb.mp em).2];rfl
   have N:=C.go (step:=step) (seen:=seen) (s:=p.1) (k:=m) rl;rw[<- aE]at N;have t3:=wE X B;have W3:=W.keep t3 (jr X B);obtain⟨pm,cc,ct,oc,fz,tk,cE,_⟩:=W3.la.ex;have cx:=lvl.tups t3;obtain⟨r',c',b5,cz,b6,b1⟩:=cx.at_ hp;have er:r'=r:=by rw[ep]at b5;cases b5;rfl
   have cT:c'=c:=by rw[ec]at b6;cases b6;rfl
   subst er cT;have tS:=t3.trans (tY W3.la.fz)
   have c0:(v j).on.length+(v j).fl.length<=10000000:=by
    have:=C.few;have:(i+1)*moves.length<=level.length*moves.length:=Nat.mul_le_mul_right _ il;rw[Nat.add_mul,Nat.one_mul]at this;lia
   refine zbS (λG0 b3 cH=>?_);refine yV (λG1 b2=>?_);refine⟨f,rfl,⟨_,_,_,_,cE⟩,_,rfl,_,rfl,cl,vals,W3.fr,W3.la,W.ld _ _ _ m _ tS b9 mm (cz.tups (tY W3.la.fz)) (λH4 s4 e4 low=>?_) λH4 b4 t s4 e4 k4 low=>?_⟩
   ·-- elsewhere
    have D:=qI s4;generalize back cl Y H4=H5 at D ⊢;have M:=X.trans (But.of (l:=dl) D);have a8:=a7.tups (wE M B);have bc:H5 ds=some (DN P w ds ys):=M _ _ b0 b7.symm;have bl:=D _ _ b1;have e1:v (j+1)=⟨(v j).on,(v j).fl++[yQ r' m]⟩:=by rw[aE];unfold go1;rw[e4]
    refine b2 _ _ ?_;refine zB (zB ⟨ds,ys,rfl,⟨.inl bc,a8.ks⟩,.inr ⟨rfl,false,rfl,xB ?_⟩⟩);refine zB (zB ⟨c',r',m,1,rfl,bl,by rw[rl];exact W.lt m mm,by rw[rl];exact W.n1,λq H6 I h6=>?_⟩);have ba:=I _ _ (D _ _ ab);refine zB ⟨rfl,true,JP V.bl (JC rfl),x5 ?_⟩;refine zB ⟨.inl ⟨rfl,_,SqL.of ba⟩,_,rfl,l,_,_,rfl,rfl,ba,?_,?_⟩
    ·rw[Je,YG O,JB];lia
    have lq:∀ {b:JI}{u:HO},H6 b=some u->b≠l->L2.upd H6 l (.lst (R.map V.ref++[.ref q])) b=some u:=λe ne=>by rw[zK ne];exact e
    have tq:Tups H6 (L2.upd H6 l (.lst (R.map V.ref++[.ref q]))):=λb xs e=>lq e (x9 e ba (λz=>by cases z));have bB:=M.trans (But.of (l:=dl) I);refine b3 _ _ ⟨⟨_,_,_,rfl⟩,λb u e ne=>lq (bB b u e ne) (zJ e bS),lq (I _ _ (D _ _ ao)) bu,J,R++[q],lq (I _ _ (D _ _ aa)) ol,?_,?_,?_,N⟩
    ·rw[e1];exact((U.keep D).keep I).tups tq
    ·rw[JV];exact zG
    ·rw[e1];exact Paired.snoc ((O.tups (Tups.of D)).tups ((Tups.of I).trans tq)) (tq _ _ h6)
   ·have D:=qI s4
    have k5:=k4.tups (iJ (H:=Y) low);generalize back cl Y H4=H5 at D k5 ⊢;have M:=X.trans (But.of (l:=dl) D);have a8:=a7.tups (wE M B);have bc:H5 ds=some (DN P w ds ys):=M _ _ b0 b7.symm;have bl:=D _ _ b1;refine b2 _ _ ?_;refine zB (zB ⟨ds,ys,rfl,⟨.inl bc,a8.ks⟩,.inl ⟨b4,t,rfl,k5,_,rfl,?_⟩⟩);rw[qT a7.pr t];by_cases sn:(zx seen t).isSome=true
    ·have e1:v (j+1)=v j:=by rw[aE];unfold go1;rw[e4];exact Jm sn
     rw[sn];refine x5 ?_;refine cH _ _ ?_;rw[e1];rw[e1]at N;exact⟨⟨_,_,_,rfl⟩,M,D _ _ ao,J,R,D _ _ aa,U.keep D,D _ _ ab,O.tups (Tups.of D),N⟩
    ·have e1:v (j+1)=⟨wo (v j).on t (xN (yQ r' m) ((zx (v j).on t).getD (yQ r' m))),(v j).fl⟩:=by rw[aE];unfold go1;rw[e4];exact Jf sn
     rw[show (zx seen t).isSome=false by simpa using sn];refine xB ?_;refine zB (zB ⟨c',r',m,1,rfl,bl,by rw[rl];exact W.lt m mm,by rw[rl];exact W.n1,λq H6 I h6=>?_⟩);have a4:=I _ _ (D _ _ aa);have Z:=(U.keep D).keep I;have k6:=k5.tups (Tups.of I);have bB:=M.trans (But.of (l:=dl) I);refine zB ⟨rfl,false,JP V.bl (Js (λz=>by cases z)),xB ?_⟩;refine zB (zB ⟨o,rfl,⟨_,.inl a4⟩,_,rfl,_,rfl,b4,J,t,rfl,⟨.inl a4,Z.ks⟩,k6,?_⟩)
     have le:∃ g s,(vM J t).getD (.ref q)=.ref g/\(zx (v j).on t).getD (yQ r' m)=s/\H6 g=some (.tup (s.map V.int))/\s.length=n:=by
      rcases bC Z.pr t with ⟨a1,a2⟩|⟨g,s,a1,a2,a3⟩
      ·exact⟨q,yQ r' m,by rw[a1];rfl,by rw[a2];rfl,h6,by rw[wH];exact rl⟩
      ·exact⟨g,s,by rw[a1];rfl,by rw[a2];rfl,a3,C.on _ (xH a2)⟩
     obtain⟨g,sr,g1,g2,g3,g4⟩:=le;rw[g1];rw[g2]at e1;have ck:(yQ r' m).length=n:=by rw[wH];exact rl
     obtain⟨lx,h,p1,p2⟩:=bF h6 g3 ck g4;refine⟨_,_,1,tN H6,rfl,by decide,lx,?_⟩;rw[p1];refine zB (zB ⟨o,b4,J,t,rfl,rfl,a4,Z.ks,k6,?_,?_⟩)
     ·rw[Z.len,JB];lia
     have tq:Tups H6 (L2.upd H6 o (DN P w o (wn J t b4 (.ref h)))):=λb xs e=>by rw[zK (x9 e a4 (λz=>by cases z))];exact e
     refine b3 _ _ ⟨⟨_,_,_,rfl⟩,λb u e ne=>?_,?_,_,R,zG,?_,?_,?_,N⟩
     ·rw[zK (zJ e ho)];exact bB b u e ne
     ·rw[zK bo];exact I _ _ (D _ _ ao)
     ·rw[e1];exact(Z.put k6 p2).tups tq
     ·rw[zK ol.symm];exact I _ _ (D _ _ ab)
     ·rw[e1];exact(O.tups (Tups.of D)).tups ((Tups.of I).trans tq)
  ·rintro σ Y ⟨⟨v8,v9,v10,rfl⟩,X,ao,J,R,aa,U,ab,O,C⟩
   have bR:v (moves.map λm=>V.int (m:Nat)).length=y (i+1):=by rw[ml];exact fin
   rw[bR]at U O C;refine⟨⟨_,_,_,_,_,rfl⟩,X,ao,J,R,aa,U,ab,O,?_⟩;rw[ml]at C;rw[Nat.add_mul,Nat.one_mul];exact C
 ·rintro σ S ⟨⟨v6,v7,v8,v9,v10,rfl⟩,bt,a6,zs,fs,a9,aT,bb,rws,b8⟩
  have e:y xs.length=yo step seen moves level:=by show List.foldl _ _ (level.take xs.length)=_;rw[ll,Y5];rfl
  rw[e]at aT rws;refine⟨dl,ob,xs,xs,u2 _ _ B,a6,?_⟩
  have sm:Same H (L2.upd S dl (DN P w dl xs)):=λb u e=>by
   by_cases z:b=dl
   ·rw[z]at e ⊢;rw[B]at e;rw[<- e];exact zG
   ·rw[zK z];exact bt b u e z
  have tz:Tups S (L2.upd S dl (DN P w dl xs)):=λb ys e=>by rw[zK (x9 e a6 (λz=>by cases z))];exact e
  refine zB (zB ⟨by show 2<=sizeLine;decide,λq hq=>?_⟩);have I:=zD (show L2.upd S dl (DN P w dl xs) q=none from hq) (.tup [.ref o,.ref l]);refine k q o l zs fs _ (sm.trans I) ho zG (I _ _ ?_) ((aT.tups tz).keep I) (I _ _ ?_) ((rws.tups tz).tups (Tups.of I))
  ·rw[zK bo.symm];exact a9
  ·rw[zK bu.symm];exact bb
end
end K43
namespace L2
open PySem PySem.Spec PyProof.Rows Own Bn
instance memN (k:KN) (ks:List KN):Decidable (k∈ks):=decidable_of_iff (ks.any (λx=>decide (x=k))=true) (by simp)
end L2
namespace L2
open PySem PySem.Spec PyProof.Rows Own Bn
def uh (xs:List Int):Int:=(xs.min?).getD 0
def uG (xs:List Int):Int:=(xs.max?).getD 0
theorem tU {xs:List Int}{m:Int}(h:m∈xs)(l:∀ x∈xs,m<=x):uh xs=m:=by
 unfold uh;rw[List.min?_eq_some_iff.mpr ⟨h,l⟩];rfl
theorem tV {xs:List Int}{m:Int}(h:m∈xs)(l:∀ x∈xs,x<=m):uG xs=m:=by
 unfold uG;rw[List.max?_eq_some_iff.mpr ⟨h,l⟩];rfl
theorem oG {xs:List Int}(h:xs≠[]):uh xs∈xs/\∀ x∈xs,uh xs<=x:=by
 cases e:xs.min? with
 | none=>rw[List.min?_eq_none_iff]at e;exact absurd e h
 | some m =>
  obtain⟨a,b⟩:=List.min?_eq_some_iff.mp e;rw[tU a b];exact⟨a,b⟩
theorem zab {xs:List Int}(h:xs≠[]):uG xs∈xs/\∀ x∈xs,x<=uG xs:=by
 cases e:xs.max? with
 | none=>rw[List.max?_eq_none_iff]at e;exact absurd e h
 | some m =>
  obtain⟨a,b⟩:=List.max?_eq_some_iff.mp e;rw[tV a b];exact⟨a,b⟩
def wJ (hs:List Int):List Int:=hs.map λh=>h-uh hs
theorem bE (hs:List Int):(wJ hs).length=hs.length:=Je _
theorem jd {hs:List Int}(h:hs≠[]):(∀ x∈wJ hs,0<=x)/\0∈wJ hs:=by
 obtain⟨a,b⟩:=oG h;refine⟨λx c=>?_,Jy.mpr ⟨_,a,by lia⟩⟩;obtain⟨u,d,rfl⟩:=Jy.mp c;have:=b u d;lia
def plK (ts hs:List Int):KN:=[.inr ts,.inr hs]
theorem zay {H:Hp}{ts hs:List Int}{b:JI}(h:NKey H (plK ts hs) b):∃ t u,H b=some (.tup [.ref t,.ref u])/\H t=some (.tup (ts.map V.int))/\H u=some (.tup (hs.map V.int)):=by
 obtain⟨j,d,v,r,e,⟨t,i,c⟩,k,l,e2,⟨u,g,a⟩,f⟩:=h;subst i g f e2 e;exact⟨t,u,d,c,a⟩
theorem zaF {H:Hp}{ts hs:List Int}{b t u:JI}(h1:H b=some (.tup [.ref t,.ref u]))(c:H t=some (.tup (ts.map V.int)))(a:H u=some (.tup (hs.map V.int))):NKey H (plK ts hs) b :=
 ⟨_,h1,_,_,rfl,⟨t,rfl,c⟩,_,_,rfl,⟨u,rfl,a⟩,rfl⟩
def xY (N:Nt):KN->Nat->Option KN
 | [.inr ts,.inr hs],m=>some (plK (tF N ts m) (wJ (zz hs (passE N ts m) 1)))
 | _,_=>none
theorem tu (N:Nt)(ts hs:List Int)(m:Nat):xY N (plK ts hs) m=some (plK (tF N ts m) (wJ (zz hs (passE N ts m) 1))):=rfl
def OkR (N:Nt)(k:KN):Prop:=∃ b a,k=plK b a/\b.length=N.forks.length/\Bits b/\a.length=N.lanes/\(∀ h∈a,0<=h)/\0∈a
theorem qP {N:Nt}(ok:Nt.Ok N):OkR N (plK (List.replicate N.forks.length 0) (List.replicate N.lanes 0)) :=
 ⟨_,_,rfl,Y7,λt a=>.inl (Wr a),Y7,λh b=>by rw[Wr b];exact Z7 _,List.mem_replicate.mpr ⟨by have:=ok.l1;lia,rfl⟩⟩
theorem oz {N:Nt}(ok:Nt.Ok N){s t:KN}{m:Nat}(h:OkR N s)(e:xY N s m=some t):OkR N t:=by
 obtain⟨a,b,rfl,f,d,c,j,i⟩:=h;rw[tu]at e;cases e;have g:=ok.l1
 have ne:zz b (passE N a m) 1≠[]:=λz=>by
  have:=JP List.length z;rw[yE,Ye]at this;lia
 exact⟨_,_,rfl,(ie _ _ _).trans f,lz d,by rw[bE,yE];exact c,(jd ne).1,(jd ne).2⟩
def uZ:Sp:=λb H Q _=>∃ r fr d c N,b=[.ref r]/\Nt.Ok N/\NetAt H r fr d c N/\∀ p a,Same H a->NKey a (plK (List.replicate N.forks.length 0) (List.replicate N.lanes 0)) p->Q (.ref p) a
def vt:Sp:=λe H Q _=>∃ r fr g f N b k,∃ a:Nat,e=[.ref r,.ref b,.int (a:Nat)]/\Nt.Ok N/\NetAt H r fr g f N/\NKey H k b/\OkR N k/\a<N.lanes /\
 ∀ c d t,Same H c->xY N k a=some t->NKey c t d->Q (.ref d) c
def wI:LSpc:=λvals c H Q E=>∃ r b,∃ a:Nat,vals=[.ref r]/\c=[.ref b,.int (a:Nat)]/\vt [.ref r,.ref b,.int (a:Nat)] H Q E
theorem gJ {H:Hp}{r fr er:JI}{ps:List V}{N:Nt}{moves:List Nat}(ok:Nt.Ok N)(na:NetAt H r fr er ps N)(lt:∀ m∈moves,m<N.lanes):Led wI [.ref r] (xY N) (OkR N) moves H:=λe s b m Q t os c d _ a =>
 ⟨r,b,m,rfl,rfl,r,fr,er,ps,N,b,s,m,rfl,ok,na.tups t,d,os,lt m c,a⟩
end L2
namespace Bn
open PySem L2 Own
theorem bI {n:Nat}{fs:List (Nat × Nat)}(ok:∀ f∈fs,f.1<n/\f.2<n):∀ i,i<=fs.length->∀ z∈(lay n (fs.take i)).2,z<=i
 | 0,_,z,h=>by simp[lay]at h
 | i+1,hi,z,h=>by
  have k:i<fs.length:=by lia
  have ih:=bI ok i (by lia);have ln:=uI (n:=n) i fs (by lia);have d:=ok _ (JY k)
  have low:∀ c,c<n->(lay n (fs.take i)).1.getD c 0<=i:=λc l=>by
   rcases (rK ok i (by lia) c l).2.2 with w|⟨j,g,m,_,_,e⟩
   ·simp_all
   ·rw[<- e];exact ih _ (L2.x4 (by simp_all))
  rw[wz (J7 k)]at h;rcases Jv.mp h with w|w
  ·have:=ih z w;lia
  ·have a:=low _ d.1
   have b:=low _ d.2;have w:=Jc.mp w;have:big ((lay n (fs.take i)).1.getD fs[i].1 0) ((lay n (fs.take i)).1.getD fs[i].2 0)<=i:=by unfold big;split<;>assumption
   lia
def IsTop (N:Nt)(d:Nat):Prop:=(∀ z∈xx N,z<=d)/\(d:Int)∈0::xx N
theorem zaL {N:Nt}(ok:N.Ok){d:Nat}(h:IsTop N d):d<=128:=by
 have:=bI (n:=N.lanes) (fs:=N.forks) (λf a=>⟨(ok.fk f a).1,(ok.fk f a).2.1⟩) N.forks.length (Jg _);rw[Y5]at this;have b:=ok.fm;rcases Jr.mp h.2 with w|w
 ·simp_all
 ·have:=this d w;lia
theorem zaK {N:Nt}(ok:N.Ok){M:Int}(h1:∀ z∈xx N,z<=M)(b:M∈0::xx N):∃ d:Nat,M=d/\IsTop N d:=by
 have p:0<=M:=by
  rcases Jr.mp b with w|w
  ·lia
  ·have:=jo (n:=N.lanes) (fs:=N.forks) (λf a=>⟨(ok.fk f a).1,(ok.fk f a).2.1⟩) N.forks.length (Jg _)
   rw[Y5]at this;exact this M w
 obtain⟨d,rfl⟩:=Int.eq_ofNat_of_zero_le p;exact⟨d,rfl,h1,b⟩
end Bn
namespace Bn
open PySem L2 Own
def col (N:Nt)(d i j:Nat):Int:=((List.range N.lanes).map λa=>(yM (N.forks.take i) (xA N.lanes a (pw d))).1.getD j 0).sum
end Bn
namespace L2
open PySem PySem.Spec PyProof.Rows Own
theorem FnOk.any {P:Yo}{w:YI}{K:Jl}{mg:Str->Option Jo}{base:YP}{CX:CXT}{k:Nat}{f:JI}{fd:Yl}{ps:List Str}{sp:Nat->Sp}(M:Nat)(F:∀ m,m<=M->FnOk P w K mg base CX k f fd ps (sp m)) :
  FnOk P w K mg base CX k f fd ps (λvs H Q E=>∃ m,m<=M/\sp m vs H Q E) :=
 ⟨λvs H Q E ⟨m,a,q⟩=>(F m a).len vs H Q E q,λA outer s H args b vs Q E d e g c ⟨m,a,q⟩=>(F m a).run A outer s H args b vs Q E d e g c q⟩
end L2
namespace Bn
open PySem L2 Own
def xt:Nat->List Nat->List Fk × List Nat
 | 0,row=>([],row)
 | m+1,row=>((row.getD 0 0,row.getD (row.length / 2) 0)::((xt m (row.take (row.length / 2))).1++(xt m (row.drop (row.length / 2))).1),yg (xt m (row.take (row.length / 2))).2 (xt m (row.drop (row.length / 2))).2)
def mergeN:Nat->List Nat->List Nat->List Fk × List Nat
 | 0,a,b=>(a.zip b,a++b)
 | m+1,a,b=>((mergeN m (by2 0 a) (by2 1 b)).1++(mergeN m (by2 1 a) (by2 0 b)).1++(mergeN m (by2 0 a) (by2 1 b)).2.zip (mergeN m (by2 1 a) (by2 0 b)).2,yg (mergeN m (by2 0 a) (by2 1 b)).2 (mergeN m (by2 1 a) (by2 0 b)).2)
def xV:Nat->List Nat->List Fk × List Nat
 | 0,row=>([],row)
 | m+1,row=>((xV m (row.take (row.length / 2))).1++(xV m (row.drop (row.length / 2))).1++(mergeN m (xV m (row.take (row.length / 2))).2 (xV m (row.drop (row.length / 2))).2).1,(mergeN m (xV m (row.take (row.length / 2))).2 (xV m (row.drop (row.length / 2))).2).2)
theorem vf {m n:Nat}(h:n=2 ^ (m+1)):n / 2=2 ^ m/\n-n / 2=2 ^ m/\n / 2<=n:=by
 rw[Zt]at h;lia
theorem vA {m:Nat}{row:List Nat}(h:row.length=2 ^ (m+1)):(row.take (row.length / 2)).length=2 ^ m/\(row.drop (row.length / 2)).length=2 ^ m:=by
 obtain⟨a,b,c⟩:=vf h;rw[Jw,YD];exact⟨by rw[Zd c];exact a,b⟩
theorem uT {α:Type}{m:Nat}{a:List α}(h:a.length=2 ^ (m+1)):(by2 0 a).length=2 ^ m/\(by2 1 a).length=2 ^ m:=by
 rw[oS 0 (by decide),oS 1 (by decide),h,Zt];lia
theorem vh:∀ (m:Nat) (row:List Nat),row.length=2 ^ m->(xt m row).2.length=2 ^ m/\(xt m row).1.length+1=2 ^ m
 | 0,row,h=>⟨h,rfl⟩
 | m+1,row,h=>by
  obtain⟨a,b⟩:=vA h;obtain⟨c,f⟩:=vh m _ a;obtain⟨d,e⟩:=vh m _ b;show (yg _ _).length=_/\(_::(_++_)).length+1=_;rw[xq _ _ (c.trans d.symm),JW,Jd,c,Zt];exact⟨by lia,by grind⟩
theorem xk:∀ (m:Nat) (a b:List Nat),a.length=2 ^ m->b.length=2 ^ m->(mergeN m a b).2.length=2 ^ (m+1)/\(mergeN m a b).1.length=(m+1)*2 ^ m
 | 0,a,b,ha,hb=>by
  show (a++b).length=_/\(a.zip b).length=_
  rw[Jd,ZN,ha,hb];exact⟨rfl,rfl⟩
 | m+1,a,b,ha,hb=>by
  obtain⟨j,a1⟩:=uT ha;obtain⟨i,h⟩:=uT hb;obtain⟨d,g⟩:=xk m _ _ j h;obtain⟨c,f⟩:=xk m _ _ a1 i;show (yg _ _).length=_/\(_++_++List.zip _ _).length=_;rw[xq _ _ (d.trans c.symm),Jd,Jd,ZN,d,c,g,f,Nat.min_self];have e:(m+1)*2 ^ m+(m+1)*2 ^ m=(m+1)*2 ^ (m+1):=by rw[<- Nat.two_mul,Zt,Nat.mul_left_comm,Nat.mul_comm 2 (2 ^ m)]
  refine⟨by rw[Zt 2 (m+1),Nat.mul_comm],?_⟩;rw[e,<- Nat.succ_mul]
def uY:Nat->Nat
 | 0=>0
 | m+1=>uY m+uY m+(m+1)*2 ^ m
theorem vq:∀ m,m<=10->uY m<=100000/\(m+1)*2 ^ m<=20000:=by decide +kernel
theorem vE:∀ (m:Nat) (row:List Nat),row.length=2 ^ m->(xV m row).2.length=2 ^ m/\(xV m row).1.length=uY m
 | 0,row,h=>⟨h,rfl⟩
 | m+1,row,h=>by
  obtain⟨a,b⟩:=vA h;obtain⟨i,g⟩:=vE m _ a;obtain⟨f,e⟩:=vE m _ b;obtain⟨d,c⟩:=xk m _ _ i f;refine⟨d,?_⟩;show (List.append (List.append _ _) _).length=uY m+uY m+(m+1)*2 ^ m;rw[List.append_eq,List.append_eq,Jd,Jd,c,g,e]
def vk (k:Nat):Nt:=⟨2 ^ k,(xt k (List.range (2 ^ k))).1,(xt k (List.range (2 ^ k))).2⟩
def wV (k:Nat):Nt:=⟨2 ^ k,(xV k (List.range (2 ^ k))).1,(xV k (List.range (2 ^ k))).2⟩
theorem fg:∀ k,k<5->(vk k).forks.length<=128/\(∀ f∈(vk k).forks,f.1<2 ^ k/\f.2<2 ^ k/\f.1≠f.2)/\(vk k).ends.Perm (List.range (2 ^ k)):=by decide +kernel
theorem iP:∀ k,k<5->(wV k).forks.length<=128/\(∀ f∈(wV k).forks,f.1<2 ^ k/\f.2<2 ^ k/\f.1≠f.2)/\(wV k).ends.Perm (List.range (2 ^ k)):=by decide +kernel
theorem vJ {k:Nat}(h:k<5):1<=2 ^ k/\2 ^ k<=16:=⟨Zu,YY (show 0<2 by decide) (show k<=4 by lia)⟩
theorem aC {k:Nat}(h:k<5):(vk k).Ok:=let ⟨a,b,c⟩:=fg k h;⟨(vJ h).1,(vJ h).2,a,b,c⟩
theorem eF {k:Nat}(h:k<5):(wV k).Ok:=let ⟨a,b,c⟩:=iP k h;⟨(vJ h).1,(vJ h).2,a,b,c⟩
end Bn
namespace L2
open PySem PySem.Spec PyProof.Rows Own
theorem js {K:Jl}{b1 b2:Bool}{a1 a2:JI}{xs ys:List V}(w:xs.length=ys.length){g:TG}{h:TS}{D:Ends}{σ:St}{H:Hp}(a:Nat->St->Hp->Prop)(s:a 0 σ H)(n:∀ i σ H,i<=xs.length->a i σ H->SqB b1 K H a1 xs/\SqB b2 K H a2 ys)(hs:∀ i x y T σ H,xs[i]?=some x->ys[i]?=some y->H T=none->a i σ H->g (.ref T) σ (upd H T (.tup [x,y])) λc f=>h { D with nx:=a (i+1),ct:=a (i+1),bk:=D.nx } c f)(q:∀ σ H,a xs.length σ H->D.nx σ H) :
  ∃ W:Nat->Nat->St->Hp->Prop,(∃ m,W 0 m σ H)/\∀ i m σ H,W i m σ H ->
   ((Itz K b1 b2 a1 a2).stop i H/\D.nx σ H)\/((Itz K b1 b2 a1 a2).go i H/\∃ N:St->Hp->Prop,(∀ d b,N d b->∃ k,k<m/\W (i+1) k d b)/\∀ x b,(Itz K b1 b2 a1 a2).yld i H x b->g x σ b λc f=>h { D with nx:=N,ct:=N,bk:=D.nx } c f):=by
 refine⟨λi m σ H=>m=xs.length-i/\i<=xs.length/\a i σ H,⟨_,rfl,JL _,s⟩,?_⟩;rintro i m σ H ⟨rfl,o,p⟩;obtain⟨e,j⟩:=n i σ H o p;by_cases more:i<xs.length
 ·refine .inr ⟨⟨xs,ys,_,_,e,j,J7 more,J7 (by simp_all)⟩,a (i+1),λd b l=>⟨xs.length-(i+1),by lia,rfl,more,l⟩,λv b ⟨x,y,ex,t,T,r,u,e2⟩=>?_⟩
  subst u e2;exact hs i x y T σ H (ex xs e) (t ys j) r p
 ·obtain rfl:i=xs.length:=by lia
  exact .inl ⟨⟨xs,e,rfl⟩,q σ H p⟩
end L2
namespace Bn
open PySem L2 Own
def dl (lane l:Nat):Int:=if l=lane then 1 else 0
def zbN (k:Nat):Nt:=⟨2 ^ k,xI k (List.range (2 ^ k)),List.range (2 ^ k)⟩
theorem zar:∀ k,k<5->(zbN k).forks.length<=32/\∀ f∈(zbN k).forks,f.1<2 ^ k/\f.2<2 ^ k/\f.1≠f.2:=by decide +kernel
theorem di {k:Nat}(h:k<5):2 ^ k<=16:=by
 show 2 ^ k<=2 ^ 4;exact YY (show 0<2 by decide) (show k<=4 by lia)
theorem zbM {k:Nat}(h:k<5):(zbN k).Ok:=by
 obtain⟨a,b⟩:=zar k h;exact⟨Zu,di h,JX a (by decide),b,.refl _⟩
end Bn
namespace L2
open PySem PySem.Spec PyProof.Rows Own Bn
def bM:KN->List Int
 | [_,.inr hs]=>hs
 | _=>[]
def iT (n:Nat)(p:KN × List Int):List Int:=-(uG (bM p.1))::(n:Int)::p.2
def xX:Nat->List LvL->List (List Int)
 | _,[]=>[]
 | n,lv::ls=>lv.map (iT n)++xX (n+1) ls
theorem tZ:∀ (n:Nat) (ls:List LvL) (lv:LvL),xX n (ls++[lv])=xX n ls++lv.map (iT (n+ls.length))
 | n,[],lv=>by show lv.map _++[]=[]++_;rw[JU,ZK];rfl
 | n,a::ls,lv=>by
  show a.map _++xX (n+1) (ls++[lv])=(a.map _++xX (n+1) ls)++_;rw[tZ (n+1) ls lv,JT,JW];rw[show n+1+ls.length=n+(ls.length+1) by lia]
theorem uX:∀ {n:Nat}{ls:List LvL}{r:List Int},r∈xX n ls->∃ i lv p,ls[i]?=some lv/\p∈lv/\r=iT (n+i) p
 | n,[],r,h=>by cases h
 | n,a::ls,r,h=>by
  rcases Jv.mp (show r∈a.map (iT n)++xX (n+1) ls from h) with z|z
  ·obtain⟨p,b,e⟩:=Jy.mp z
   exact⟨0,a,p,rfl,b,e.symm⟩
  ·obtain⟨i,lv,p,f,d,c⟩:=uX z
   exact⟨i+1,lv,p,f,d,by rw[c,show n+1+i=n+(i+1) by lia]⟩
theorem ui:∀ {n:Nat}{ls:List LvL}{i:Nat}{lv:LvL}{p:KN × List Int},ls[i]?=some lv->p∈lv->iT (n+i) p∈xX n ls
 | n,[],i,lv,p,h,_=>by cases h
 | n,a::ls,0,lv,p,h,b=>by
  cases h
  exact Jv.mpr (.inl (Jy.mpr ⟨p,b,rfl⟩))
 | n,a::ls,i+1,lv,p,h,b=>by
  have:=ui (n:=n+1) (show ls[i]?=some lv from h) b;rw[show n+1+i=n+(i+1) by lia]at this;exact Jv.mpr (.inr this)
theorem iK (n:Nat)(ls:List LvL):(xX n ls).length=(ls.map List.length).sum:=by
 induction ls generalizing n with
 | nil=>rfl
 | cons a ls ih =>
  show (a.map _++xX (n+1) ls).length=a.length+_;rw[Jd,Je,ih];rfl
theorem nN {α β:Type}{F:α->β->Prop}{xs:List α}{ys:List β}(h:Paired F xs ys):∀ {i:Nat}{a:α},xs[i]?=some a->∃ b,ys[i]?=some b/\F a b:=by
 induction h with
 | nil=>intro i a e;cases e
 | cons q _ ih =>
  intro i a e
  cases i with
  | zero=>cases e;exact⟨_,rfl,q⟩
  | succ i=>exact ih e
theorem zch {α β:Type}{F:α->β->Prop}{xs:List α}{ys:List β}(h:Paired F xs ys):∀ {i:Nat}{b:β},ys[i]?=some b->∃ a,xs[i]?=some a/\F a b:=by
 induction h with
 | nil=>intro i a e;cases e
 | cons q _ ih =>
  intro i a e
  cases i with
  | zero=>cases e;exact⟨_,rfl,q⟩
  | succ i=>exact ih e
def TriAt (H:Hp)(b:JI)(r:List Int):Prop:=∃ i j c x,H b=some (.tup [.int i,.int j,.ref c])/\H c=some (.tup (x.map V.int))/\r=i::j::x
def TrisAt (H:Hp)(bs:List JI)(rs:List (List Int)):Prop:=Paired (TriAt H) bs rs
theorem TrisAt.tups {H H':Hp}(t:Tups H H'){bs:List JI}{rs:List (List Int)}(h:TrisAt H bs rs):TrisAt H' bs rs:=wq (λ_ _ ⟨i,j,c,x,d,b,a⟩=>⟨i,j,c,x,t _ _ d,t _ _ b,a⟩) h
def uB (H:Hp):V->List Int
 | .ref a=>match H a with
  | some (.tup [.int i,.int j,.ref c])=>i::j::lU H (.ref c)
  | _=>[]
 | _=>[]
theorem uA {H:Hp}{b:JI}{r:List Int}(h:TriAt H b r):uB H (.ref b)=r:=by
 obtain⟨i,j,c,x,d,a,rfl⟩:=h;simp only[uB,d];rw[wX a]
def zao (H:Hp):V->V->Ordering:=λu v=>yX (uB H u) (uB H v)
theorem zbw {H:Hp}{a b:JI}{x y:List Int}(ha:TriAt H a x)(hb:TriAt H b y)(l:x.length=y.length):Lx H 2 (.ref a) (.ref b) (yX x y):=by
 obtain⟨i,j,c,r,q,p,rfl⟩:=ha;obtain⟨g,f,w,d,t,s,rfl⟩:=hb
 have e:yX (i::j::r) (g::f::d)=[compare i g,compare j f,yX r d].foldr Ordering.then .eq:=by
  show (compare i g).then ((compare j f).then (yX r d))=(compare i g).then ((compare j f).then ((yX r d).then .eq));cases yX r d<;>rfl
 rw[e];refine .row q t rfl rfl λk u v o h m n=>?_;rcases k with _|_|_|k
 ·cases h;cases m;cases n;exact .int 1 _ _
 ·cases h;cases m;cases n;exact .int 1 _ _
 ·cases h;cases m;cases n;exact oH p s (by simpa using l)
 ·simp at h
theorem zas (f:V->List Int):∀ {l:List V}{y:V},y∈l->leR (f (xJ (λu v=>yX (f u) (f v)) l)) (f y)
 | [],y,h=>by cases h
 | a::r,y,h=>by
  have pick:∀ b y,leR (f (y0 (λu v=>yX (f u) (f v)) b y)) (f b)/\leR (f (y0 (λu v=>yX (f u) (f v)) b y)) (f y):=λb y=>by
   have e:f (y0 (λu v=>yX (f u) (f v)) b y)=xN (f b) (f y):=by unfold y0 xN;split<;>rfl
   rw[e];exact oF _ _
  have key:∀ (r:List V) (a:V),leR (f (r.foldl (y0 λu v=>yX (f u) (f v)) a)) (f a)/\∀ y∈r,leR (f (r.foldl (y0 λu v=>yX (f u) (f v)) a)) (f y):=λr=>by
   induction r with
   | nil=>exact λa=>⟨wx _,λy c=>nomatch c⟩
   | cons z r ih =>
    intro a;obtain⟨k,j⟩:=pick a z;obtain⟨i,m⟩:=ih (y0 (λu v=>yX (f u) (f v)) a z);refine⟨yx i k,λy c=>?_⟩;rcases Jr.mp c with rfl|d
    ·exact yx i j
    ·exact m y d
  rcases Jr.mp h with rfl|g
  ·exact(key r _).1
  ·exact(key r a).2 y g
theorem gx {H:Hp}{bs:List JI}{rs:List (List Int)}(h:TrisAt H bs rs)(ne:bs≠[]):∃ b r,xJ (zao H) (bs.map V.ref)=.ref b/\TriAt H b r/\r∈rs/\∀ x∈rs,leR r x:=by
 obtain⟨b,j,e⟩:=Jy.mp (md (zao H) (l:=bs.map V.ref) λz=>ne (List.map_eq_nil_iff.mp z));obtain⟨i,f⟩:=YZ j;obtain⟨r,m,a⟩:=nN h f;refine⟨b,r,e.symm,a,JD m,λx g=>?_⟩;obtain⟨k,n⟩:=YZ g;obtain⟨c,o,d⟩:=zch h n;have:=zas (uB H) (l:=bs.map V.ref) (Jy.mpr ⟨c,JD o,rfl⟩);rw[show xJ (λu v=>yX (uB H u) (uB H v)) (bs.map V.ref)=.ref b from e.symm,uA a,uA d]at this;exact this
theorem aB {H:Hp}{bs:List JI}{rs:List (List Int)}{n:Nat}(h:TrisAt H bs rs)(e:∀ r∈rs,r.length=n):∀ x∈bs.map V.ref,∀ y∈bs.map V.ref,Lx H 2 x y (zao H x y):=by
 intro x l y k;obtain⟨b,bm,rfl⟩:=Jy.mp l;obtain⟨c,m,rfl⟩:=Jy.mp k;obtain⟨i,g⟩:=YZ bm;obtain⟨j,f⟩:=YZ m;obtain⟨r,o,a⟩:=nN h g;obtain⟨q,eq,d⟩:=nN h f;have:=zbw a d ((e r (JD o)).trans (e q (JD eq)).symm);show Lx H 2 _ _ (yX (uB H (.ref b)) (uB H (.ref c)));rw[uA a,uA d];exact this
def vP (P:Yo)(w:YI)(l:List (JI × KVN))(G:Hp):Hp:=l.foldl (λG p=>upd G p.1 (DN P w p.1 p.2)) G
theorem tj {P:Yo}{w:YI}:∀ {l:List (JI × KVN)}{G:Hp}{b:JI},(∀ p∈l,p.1≠b)->vP P w l G b=G b
 | [],_,_,_=>rfl
 | p::l,G,b,h=>by
  show vP P w l (upd G p.1 _) b=G b;rw[tj λq a=>h q (.tail _ a),zK (Ne.symm (h p (.head _)))]
theorem ou {P:Yo}{w:YI}:∀ {l:List (JI × KVN)}{G:Hp}{p:JI × KVN},(l.map (·.1)).Nodup->p∈l->vP P w l G p.1=some (DN P w p.1 p.2)
 | q::l,G,p,nd,h=>by
  obtain⟨c,b⟩:=JQ.mp nd;show vP P w l (upd G q.1 _) p.1=_;rcases Jr.mp h with rfl|a
  ·rw[tj λr d z=>c (Jy.mpr ⟨r,d,z⟩),zG]
  ·exact ou b a
def zaO (P:Yo)(w:YI)(t:TE):TE:=λσ H Q=>t σ H λx a=>∃ l:List (JI × KVN),(l.map (·.1)).Nodup/\(∀ p∈l,∃ b,H p.1=some (DN P w p.1 b))/\(∀ p∈l,∃ o,a p.1=some (.frz o (DN P w p.1 p.2)))/\Q x (vP P w l a)
section
variable {X:Cx}
theorem du {e:Expr}{t:TE}(h:PE X e t):PE X e (zaO X.prog X.w t):=by
 intro pins s σ H Q I c;refine thn (h pins s σ H _ I c) λv A q=>?_;obtain⟨x,w,f,g,l,i,d,b,q⟩:=q;refine⟨x,_,?_,g,q⟩;clear q c h
 induction l generalizing w with
 | nil=>exact f
 | cons p l ih =>
  obtain⟨k,j⟩:=JQ.mp i;obtain⟨o,r⟩:=b p (.head _);obtain⟨y,m⟩:=d p (.head _);refine ih _ (f.thawN r (I.meltedN m)) j (λq a=>d q (.tail _ a)) λq a=>?_;obtain⟨u,n⟩:=b q (.tail _ a);exact⟨u,(zK λz=>k (Jy.mpr ⟨q,a,z⟩)).trans n⟩
end
theorem kU {P:Yo}{w:YI}{d:JI}{o:Obj}{xs:KVN}{g:TG}{e:TE}{l:JI}{ac:List V}{σ:St}{H:Hp}{Q:List V->St->Hp->Prop}(a:Nat->List V->St->Hp->Prop)(q:a 0 ac σ H)(k:∀ i acc σ H,a i acc σ H->H l=some (.lst acc)/\H d=some (.frz o (DN P w d xs)))(hs:∀ i p acc σ H T,xs[i]?=some p->H T=none->a i acc σ H->g (.ref T) σ (upd H T (.tup [.ref p.2.1,p.2.2])) λb t=>e b t λy h=>h l=some (.lst acc)/\acc.length<sizeLine/\Nx xs.length i (a (i+1) (acc++[y]) b (upd h l (.lst (acc++[y])))))(hd:∀ acc σ H,a xs.length acc σ H->Q acc σ H):∃ W:Nat->Nat->List V->St->Hp->Prop,(∃ m,W 0 m ac σ H)/\LCW1 (Itni P w d o xs) g fq e l Q W:=by
 refine⟨λi m acc σ H=>m=xs.length-i/\i<=xs.length/\a i acc σ H,⟨_,rfl,JL _,q⟩,λi m acc σ H ⟨em,u,p⟩=>?_⟩;subst em;obtain⟨j,f⟩:=k i acc σ H p;refine⟨j,?_⟩;by_cases c:i<xs.length
 ·refine .inr ⟨⟨f,c⟩,λx v ⟨y,T,r,n,s,e2⟩=>?_⟩
  subst s e2;exact hs i y acc σ H T r n p
 ·obtain rfl:i=xs.length:=by lia
  exact .inl ⟨⟨f,rfl⟩,hd acc σ H p⟩
def zce (K:Jl)(b:Bool):List V->Hp->VK->Prop:=λc H Q=>∃ a ns,c=[.ref a]/\SqB b K H a (List.map V.int ns)/\0<ns.length/\∀ M,M∈ns->(∀ x∈ns,x<=M)->Q (.int M) H
def TellRN (P:Yo)(w:YI)(H:Hp)(p:JI):LRes->Prop
 | .whl ls=>∃ l as,as.Nodup/\H p=some (.tup [.str "whole",.ref l])/\H l=some (.lst (as.map V.ref))/\LvsAt P w H as ls
 | R=>TellR P w H p R
theorem TellRN.kept {P:Yo}{w:YI}{H H':Hp}{p:JI}{R:LRes}(h:TellRN P w H p R)(k:∀ b o,H b=some o->(∀ q,o≠FZ q)->H' b=some o):TellRN P w H' p R:=by
 have t:Tups H H':=λb a e=>k b _ e λq z=>by cases z
 cases R with
 | opn=>exact TellR.kept (P:=P) (w:=w) (R:=.opn) h k
 | brk c=>exact TellR.kept (P:=P) (w:=w) (R:=.brk c) h k
 | whl ls =>
  obtain⟨l,as,d,g,f,i⟩:=h;refine⟨l,as,d,t _ _ g,k _ _ f (λq z=>by cases z),?_⟩;clear g f d
  induction i with
  | nil=>exact .nil
  | cons q _ ih =>
   obtain⟨a,e,le⟩:=q;exact .cons ⟨a,k _ _ e (λq z=>by cases z),le.tups t⟩ ih
def sP (P:Yo)(w:YI)(K:Jl)(L:Lam)(fr:List Str)(lsp:LSpc):Sp:=λg H Q _=>∃ e d mv f a c moves cl vals step Ok n,∃ most:Nat,g=[.ref e,.ref d,.ref mv,.ref f,.int (most:Nat)]/\NKey H a e/\H d=some (.tup (List.map V.int c))/\c.length=n/\Ok a/\Way K H mv f L fr lsp cl vals step Ok moves n/\most<=500000/\moves.length<=16/\0<most /\
 ∀ p b,Same H b->TellRN P w b p (yY step moves most (most+1) [(a,c)] [] [])->Q (.ref p) b
theorem kQ {P:Yo}{w:YI}{H:Hp}{as:List JI}{ls:List LvL}{a:JI}(h:LvsAt P w H as ls)(ha:a∈as):∃ xs,H a=some (DN P w a xs):=by
 obtain⟨i,e⟩:=YZ ha;obtain⟨lv,_,xs,b,_⟩:=nN h e;exact⟨xs,b⟩
theorem gK {K:Jl}{b:Bool}{a:JI}{xs:List V}{g s:TG}{h:TI}{tt:TT}{q:TE}{l:JI}{σ:St}{H:Hp}{R:Hp->Prop}(d:Nat->List V->St->Hp->Prop)(v:d 0 [] σ H)(u:∀ i acc σ H,d i acc σ H->H l=some (.lst acc)/\SqB b K H a xs)(hs:∀ i acc σ H x T,xs[i]?=some x->H T=none->d i acc σ H->g (.ref T) σ (upd H T (.tup [.int i,x])) λc p=>h c p λn o =>
   ∃ e:Nat->Nat->List V->St->Hp->Prop,(∃ k,e 0 k acc c o)/\LCW1 n s tt q l (λac j G=>Nx xs.length i (d (i+1) ac j G)) e)(hd:∀ acc σ H,d xs.length acc σ H->R H):∃ W:Nat->Nat->List V->St->Hp->Prop,(∃ m,W 0 m [] σ H) /\
   ∀ i m acc f H',W i m acc f H'->H' l=some (.lst acc)/\(((Ite K b a).stop i H'/\R H')\/((Ite K b a).go i H'/\∀ x t,(Ite K b a).yld i H' x t->g x f t λc p=>h c p λn o =>
    ∃ e:Nat->Nat->List V->St->Hp->Prop,(∃ k,e 0 k acc c o)/\LCW1 n s tt q l (λac j G=>∃ r,r<m/\W (i+1) r ac j G) e)) :=
 bH (Q:=λ_=>R) d v u hs hd
theorem eE (ls:List LvL)(i:Nat):((ls.take i).map List.length).sum<=(ls.map List.length).sum:=by
 induction ls generalizing i with
 | nil=>rw[Ws];exact Jg _
 | cons a ls ih =>
  cases i with
  | zero=>exact JL _
  | succ i=>exact Nat.add_le_add_left (ih i) _
theorem ay {α:Type}{l:List α}(nd:l.Nodup){i:Nat}{a:α}(e:l[i]?=some a):a∉l.take i:=λh=>by
 obtain⟨j,b⟩:=YZ h;have c:=(Jb.mp b).1;rw[Jw]at c;rw[List.getElem?_take,Jm (by lia)]at b;have:=(List.getElem?_inj (by lia) nd).mp (b.trans e.symm);lia
theorem oC {H H':Hp}{x:JI}(s:Same H H')(h:H' x=none):H x=none:=by
 cases e:H x with
 | none=>rfl
 | some o=>rw[s _ _ e]at h;cases h
theorem nK {α β:Type}{p:α->β->Prop}:∀ {as:List α},(∀ a∈as,∃ x,p a x)->∃ l:List (α × β),l.map (·.1)=as/\∀ q∈l,p q.1 q.2
 | [],_=>⟨[],rfl,λq c=>nomatch c⟩
 | a::as,h=>by
  obtain⟨x,f⟩:=h a (.head _);obtain⟨l,e,g⟩:=nK λb i=>h b (.tail _ i);refine⟨(a,x)::l,by rw[Y1,e],λq c=>?_⟩;rcases Jr.mp c with rfl|d
  ·exact f
  ·exact g q d
end L2
namespace K43
open PySem L2 Own Bn
abbrev za6:Stmt:=top 15
theorem jU {H H':Hp}{x:JI}(s:Same H H')(h:H' x=none):H x=none:=by
 cases e:H x with
 | none=>rfl
 | some o=>rw[s _ _ e]at h;cases h
theorem zbx {P:Yo}{w:YI}{H:Hp}{as:List JI}{ls:List LvL}{a:JI}{ys:List V}(h:LvsAt P w H as ls)(e:H a=some (.lst ys)):a∉as:=by
 induction h with
 | nil=>exact Ju
 | cons q _ ih =>
  intro z;rcases Jr.mp z with rfl|y
  ·obtain⟨b,e2,_⟩:=q
   rw[e]at e2;cases e2
  ·exact ih y
section
variable {P:Yo}{w:YI}{K:Jl}{mg:Str->Option Jo}{base:YP}
theorem iS:FnScope ["first","counts","moves","led","most","level","levels","seen","faults"] ["first","counts","moves","led","most"] (zQ za6):=by trivial
theorem kB {f fN:JI}{fd dN:Yl}{L:Lam}{fr:List Str}{lsp:LSpc}(F:Fun K "climbed" "climbed" za6 f fd) (G:Mgs mg) (UN:Use P w K mg base "next_level" ["level","seen","moves","led"] 6 (my P w K L fr lsp) fN dN):FnOk P w K mg base CX0 7 f fd ["first","counts","moves","led","most"] (sP P w K L fr lsp):=by
 refine F.ok iS (λvs H Q E h=>?_) (λcH A outer s H vs Q E hr h=>?_)
 ·obtain⟨T,S,mv,f,I,c,moves,cl,vals,step,Ok,n,most,rfl,_⟩:=h
  rfl
 obtain⟨T,S,mv,f,I,c,moves,cl,vals,step,Ok,n,most,rfl,bl,b9,cn,b1,W,mb,b2,mp,k⟩:=h;refine⟨_,(@zE _ _ _ _ _ (@zW _ _ 5 _ _ _ _ iS.nd rfl (.inl rfl) (dv hr.u3 (@pvb _ 0 _ _ rfl) (@pvb _ 1 _ _ rfl)) rfl (by trivial)) (@zE _ _ _ _ _ (@zW _ _ 6 _ _ _ _ iS.nd rfl (.inl rfl) (@zy _ _ _ _ zC) rfl (by trivial)) (@zE _ _ _ _ _ (@zW _ _ 7 _ _ _ _ iS.nd rfl (.inl rfl) jH rfl (by trivial)) (@zE _ _ _ _ _ (@nH _ _ _ _ _ _ Y2 (zcZ (@pvb _ 5 _ _ rfl) (λ_=>rfl)) (@zE _ _ _ _ _ (@y4 _ _ _ _ (aZ hr.u3 (@pvb _ 7 _ _ rfl) (@pvb _ 5 _ _ rfl) ⟨rfl,rfl,rfl,rfl⟩) rfl) (@zE _ _ _ _ _ (@yb _ _ _ _ _ _ _ _ (@zt _ _ _ _ _ _ _ _ jL (@zX _ _ _ _ _ _ _ _ _ gq rfl G.len Yb (@zA _ _ _ _ _ (@pvb _ 7 _ _ rfl) zC rfl) (by decide) (by decide) rfl rfl) (@pvb _ 4 _ _ rfl) (yC _)) (@zM _ _ _ (@zV _ _ _ _ (@zi _ _ _ _ _ (@zA _ _ _ _ _ wB (@zA _ _ _ _ _ wZ zC rfl) rfl)))) yA) (@zE _ _ _ _ _ (@y4 _ _ _ _ (@wd _ _ _ _ _ _ _ _ _ _ _ _ Y6 YH YJ yq (@pvb _ 6 _ _ rfl) (@zA _ _ _ _ _ (@pvb _ 5 _ _ rfl) zC rfl) rfl rfl rfl rfl rfl) rfl) (@zE _ _ _ _ _ (@yJ _ _ _ _ _ _ (@zR _ _ _ _ _ _ _ _ _ _ _ _ UN hr (@zA _ _ _ _ _ (@pvb _ 5 _ _ rfl) (@zA _ _ _ _ _ (@pvb _ 7 _ _ rfl) (@zA _ _ _ _ _ (@pvb _ 2 _ _ rfl) (@zA _ _ _ _ _ (@pvb _ 3 _ _ rfl) zC rfl) rfl) rfl) rfl) rfl rfl rfl rfl) (@yK _ _ _ _ _ _ rfl (@zP _ _ _ _ _ (@zN _ _ 5 _ iS.nd rfl (.inl rfl) (by trivial)) (@zP _ _ _ _ _ (@zN _ _ 8 _ iS.nd rfl (.inl rfl) (by trivial)) zw rfl) rfl) rfl rfl) rfl rfl rfl) (@zM _ _ _ (@yb _ _ _ _ _ _ _ _ (@dc _ _ _ (@pvb _ 8 _ _ rfl) (λ_=>rfl)) (@zM _ _ _ (@zV _ _ _ _ (@zi _ _ _ _ _ (@zA _ _ _ _ _ wB (@zA _ _ _ _ _ (@zX _ _ _ _ _ _ _ _ _ (qp rfl true hr.units) rfl G.min rfl (@zA _ _ _ _ _ (@pvb _ 8 _ _ rfl) zC rfl) (by decide) (by decide) rfl rfl) zC rfl) rfl)))) yA))))))) (@zM _ _ _ (@zV _ _ _ _ (@zi _ _ _ _ _ (@zA _ _ _ _ _ wB (@zA _ _ _ _ _ (@pvb _ 6 _ _ rfl) zC rfl) rfl)))))))),?_⟩;refine yV (λDz cb=>λdl a5=>zB (zB ⟨T,I,rfl,zG,bl.tups (Tups.of (zD a5 _)),cb _ _ ?_⟩));refine⟨by show 0<=sizeLine;decide,λd N=>λds B=>?_⟩
 have sA:Same H (L2.upd (L2.upd H dl (DN P w dl [])) dl (DN P w dl [(I,T,.ref S)])):=λb u e=>by
  rw[zK (zJ e a5),zK (zJ e a5)];exact e
 have a6:L2.upd (L2.upd H dl (DN P w dl [])) dl (DN P w dl [(I,T,.ref S)]) dl=some (DN P w dl [(I,T,.ref S)]):=zG;replace N:L2.upd (L2.upd H dl (DN P w dl [])) dl (DN P w dl [(I,T,.ref S)]) d=none:=N;replace B:L2.upd (L2.upd (L2.upd H dl (DN P w dl [])) dl (DN P w dl [(I,T,.ref S)])) d (.lst []) ds=none:=B;show we _ _ _ _ (L2.upd (L2.upd (L2.upd (L2.upd H dl (DN P w dl [])) dl (DN P w dl [(I,T,.ref S)])) d (.lst [])) ds (DN P w ds []));generalize L2.upd (L2.upd H dl (DN P w dl [])) dl (DN P w dl [(I,T,.ref S)])=HA at *;have sB:=zD N (.lst []);have sC:=zD B (DN P w ds []);have a3:L2.upd HA d (.lst []) d=some (.lst []):=zG;have bt:=sC _ _ a3;have bu:=sC _ _ (sB _ _ a6);have bo:L2.upd (L2.upd HA d (.lst [])) ds (DN P w ds []) ds=some (DN P w ds []):=zG;have b6:d≠ds:=zJ a3 B;have bB:dl≠ds:=zJ (sB _ _ a6) B;have b5:H d=none:=jU sA N;have ct:H ds=none:=jU (sA.trans sB) B;have sX:Same H (L2.upd (L2.upd HA d (.lst [])) ds (DN P w ds [])):=(sA.trans sB).trans sC;generalize L2.upd (L2.upd HA d (.lst [])) ds (DN P w ds [])=HX at *;clear sA sB sC a3 N B a6
 refine⟨λm σ j=>∃ dl i r level seen as ls v8,σ=[some (.ref T),some (.ref S),some (.ref mv),some (.ref f),some (.int (most:Nat)),some (.ref dl),some (.ref d),some (.ref ds),v8]/\Same H j/\j dl=some (DN P w dl i)/\LvE j i level/\j ds=some (DN P w ds r)/\LvE j r seen/\dl≠ds/\j d=some (.lst (as.map V.ref))/\LvsAt P w j as ls/\ds∉as/\dl∉as/\as.Nodup /\
  as.length<=seen.length/\LvNd level/\(∀ p∈level,zx seen p.1=none)/\(∀ p∈level,Ok p.1/\p.2.length=n)/\seen.length<=most/\(seen≠[]\/level.length=1)/\level.length<=16*most+1/\most+1<=m+seen.length/\yY step moves most (most+1) [(I,c)] [] []=yY step moves most m level seen ls,⟨most+1,?_⟩,?_⟩
 ·exact⟨dl,_,[],[(I,c)],[],[],[],_,rfl,sX,bu,⟨λx hx=>by rw[Jc.mp hx];exact bl.tups (Tups.of sX),.cons ⟨rfl,S,rfl,sX _ _ b9⟩ .nil⟩,bo,LvE.nil,bB,bt,.nil,Ju,Ju,YX,Jg _,JQ.mpr ⟨Ju,YX⟩,λp v=>rfl,λp v=>by rw[Jc.mp v];exact⟨b1,cn⟩,JL _,.inr rfl,by show 1<=_;lia,Jg _,rfl⟩
 clear bt bu bo sX b6 bB;rintro m σ j ⟨dl,i,r,level,seen,as,ls,v8,rfl,s2,Z,C,M,J,ab,Y,R,bR,a9,bS,cL,nd,new,aE,sm,one,cz,em,ec⟩
 have e0:(!i.isEmpty) = !level.isEmpty:=by
  have:=C.len;cases i<;>cases level<;>first|rfl|cases this
 refine zB ⟨dl,i,rfl,.inl Z,?_⟩;rw[e0];obtain⟨m,rfl⟩:∃ m',m=m'+1:=⟨m-1,by lia⟩;by_cases le:level=[]
 ·rw[le]
  refine xB ?_;refine zB ⟨by show 2<=sizeLine;decide,λp v=>?_⟩;have s3:=zD v (.tup [.str "whole",.ref d]);refine k p _ (s2.trans s3) ?_;rw[ec,le,wP];exact⟨d,as,bS,zG,s3 _ _ Y,R.keep s3⟩
 rw[show (!level.isEmpty)=true by cases level;exact absurd rfl le;rfl];refine x5 ⟨_,λcx H' hN=>⟨m,Z9 _,hN⟩,?_⟩;have l2:=C.len;have l3:=J.len;refine yV (λDy cc=>?_);refine zB ⟨ds,rfl,⟨_,.inl M⟩,_,rfl,dl,r,i,rfl,ab.symm,M,J.ks,⟨.inl Z,C.ks⟩,by rw[JB];lia,?_,?_⟩
 ·rcases one with z|z
  ·exact .inl λy=>z (by rw[y]at l3;exact Zs.mp l3.symm)
  ·exact .inr (by rw[l2];exact z)
 rw[J.merge C nd new];have bc:d≠ds:=x9 Y M λz=>by cases z
 have a0:L2.upd j ds (DN P w ds (r++i)) ds=some (DN P w ds (r++i)):=zG;have t3:Tups j (L2.upd j ds (DN P w ds (r++i))):=λb zs e=>by rw[zK (x9 e M λz=>by cases z)];exact e
 have a8:L2.upd j ds (DN P w ds (r++i)) dl=some (DN P w dl i):=by rw[zK ab];exact Z
 have D:L2.upd j ds (DN P w ds (r++i)) d=some (.lst (as.map V.ref)):=by rw[zK bc];exact Y
 have s3:Same H (L2.upd j ds (DN P w ds (r++i))):=λb u e=>by rw[zK (zJ e ct)];exact s2 b u e
 have O:LvsAt P w (L2.upd j ds (DN P w ds (r++i))) as ls:=R.but t3 λa ha o e=>by rw[zK (λ(z:a=ds)=>bR (z ▸ ha))];exact e
 have X:=C.tups t3;have bb:=(J.tups t3).app X;refine cc _ _ ?_;show we _ _ _ _ (L2.upd j ds (DN P w ds (r++i)));generalize L2.upd j ds (DN P w ds (r++i))=U at *;clear M Y Z R C J t3 s2;have yl:(r++i).length=seen.length+level.length:=by rw[Jd];simp_all
 refine zB ⟨ds,_,rfl,.inl a0,_,rfl,_,_,rfl,rfl,_,rfl,uL (λz=>?_) (λz=>?_)⟩
 ·have z1:most<seen.length+level.length:=by
   have:=YM z;rw[yl]at this;lia
  refine⟨by show 2<=sizeLine;decide,λp v=>?_⟩;have s4:=zD v (.tup [.str "open",.non]);refine k p _ (s3.trans s4) ?_;rw[ec,wQ le z1];exact zG
 have z1:¬ most<seen.length+level.length:=λy=>z (JC (by rw[yl];lia));have lp:0<level.length:=Zr.mpr le;dsimp only[eC];refine yV (λDx ck=>?_);refine zB ⟨.inl ⟨rfl,_,SqL.of D⟩,_,rfl,d,_,_,rfl,rfl,D,by rw[Je,JB];lia,?_⟩;have b8:L2.upd U d (.lst (as.map V.ref++[.ref dl])) d=some (.lst ((as++[dl]).map V.ref)):=by rw[JV];exact zG
 have q4:∀ {b:JI}{u:HO},U b=some u->b≠d->L2.upd U d (.lst (as.map V.ref++[.ref dl])) b=some u:=λe ne=>by rw[zK ne];exact e
 have t4:Tups U (L2.upd U d (.lst (as.map V.ref++[.ref dl]))):=λb zs e=>q4 e (x9 e D λz=>by cases z);have a7:=q4 a8 (x9 a8 D λz=>by cases z);have aT:=q4 a0 bc.symm;have s4:Same H (L2.upd U d (.lst (as.map V.ref++[.ref dl]))):=λb u e=>q4 (s3 b u e) (zJ e b5)
 have aa:LvsAt P w (L2.upd U d (.lst (as.map V.ref++[.ref dl]))) (as++[dl]) (ls++[level]):=Paired.snoc (O.but t4 λa ha o e=>by
  by_cases y:a=d
  ·exact absurd (y ▸ ha) (zbx O D)
  ·exact q4 e y) ⟨i,a7,X.tups t4⟩
 have b3:=X.tups t4;have ba:=bb.tups t4;refine ck _ _ ?_;show we _ _ _ _ (L2.upd U d (.lst (as.map V.ref++[.ref dl])));generalize L2.upd U d (.lst (as.map V.ref++[.ref dl]))=H4 at *;clear a0 D a8 O X bb t4 s3 q4;have W4:=W.keep (Tups.of s4) λb o u e=>s4 b _ e;have nw:=tT (step:=step) (seen:=seen++level) (moves:=moves) (Ok:=Ok) level λp v m hm t e=>W.ok _ _ _ (aE p v).1 hm e;have na:=uF (step:=step) (seen:=seen++level) (moves:=moves) (n:=n) level λp v=>(aE p v).2;have cE:level.length*moves.length<=level.length*16:=Nat.mul_le_mul_left _ b2;refine yV (λDw cm=>?_);refine zB (zB (zB (zB ⟨dl,ds,mv,f,i,r++i,level,seen++level,moves,cl,vals,step,Ok,n,rfl,a7,b3,aT,ba,ab,W4,aE,by lia,λp o l zs fs H5 s5 ho v b7 b4 a4 ao=>?_⟩)));refine⟨p,_,rfl,SqT.of v,rfl,_,_,rfl,_,_,rfl,rfl,cm _ _ ?_⟩;have fl:=YG ao;by_cases fe:(yo step (seen++level) moves level).fl=[]
 ·have f0:fs=[]:=by rw[fe]at fl;exact Zs.mp fl
  refine zB ⟨false,.inl ⟨_,SqL.of a4,by rw[f0];rfl⟩,xB ?_⟩;refine⟨o,zs,r++i,_,seen++level,as++[dl],ls++[level],_,rfl,s4.trans s5,b7,b4,s5 _ _ aT,ba.keep s5,λz=>?_,s5 _ _ b8,aa.keep s5,?_,?_,?_,?_,nw.nd,nw.new,λp v=>⟨nw.ok p v,na.on p v⟩,by rw[Jd];simp_all,.inl ?_,?_,by rw[Jd];lia,?_⟩
  ·rw[z,aT]at ho;cases ho
  ·intro z
   rcases Jv.mp z with y|y
   ·exact bR y
   ·exact ab (Jc.mp y).symm
  ·intro z
   rcases Jv.mp z with y|y
   ·obtain⟨zs,e⟩:=kQ aa (Yc _ y)
    rw[ho]at e;cases e
   ·rw[Jc.mp y,a7]at ho;cases ho
  ·exact Wp.mpr ⟨bS,JQ.mpr ⟨Ju,YX⟩,λa ha b hb z=>a9 (by rw[<- Jc.mp hb,<- z];exact ha)⟩
  ·rw[Jd,Jd];show as.length+1<=_;lia
  ·intro y
   have:=JP List.length y;rw[Jd,Ye]at this
   simp_all
  ·have:=na.few;lia
  ·rw[ec,vC le z1 fe]
 ·have fp:0<(fs.map V.ref).length:=by
   rw[Je,fl];exact Zr.mpr fe
  refine zB ⟨true,.inl ⟨_,SqL.of a4,?_⟩,x5 ?_⟩
  ·cases fs with
   | nil=>exact absurd fp (by simp)
   | cons a b=>rfl
  obtain⟨g,g1,g2⟩:=bq ao fe;refine zB ⟨l,_,1,tN H5,rfl,SqL.of a4,fp,by decide,jE ao na.fl,?_⟩;rw[g1];refine⟨by show 2<=sizeLine;decide,λq hq=>?_⟩;have s6:=zD hq (.tup [.str "breaks",.ref g]);refine k q _ ((s4.trans s5).trans s6) ?_;rw[ec,wR le z1 fe];exact⟨g,zG,s6 _ _ g2⟩
abbrev za5:Stmt:=top 3
abbrev pR:Stmt:=top 5
abbrev zaY:Stmt:=top 6
theorem zbF (h a b:Nat):inV (V.int h) [V.int a,V.int b]=decide (h=a\/h=b):=by
 rw[Yq,decide_eq_true_iff];simp[inV,eqV];lia
theorem scD:FnScope ["net","lane"] ["net","lane"] (zQ za5):=by trivial
theorem zbr {f:JI}{fd:Yl}(F:Fun K "end_of" "end_of" za5 f fd):FnOk P w K mg base CX0 1 f fd ["net","lane"] eK:=by
 refine F.ok scD (λd H Q E h=>?_) (λj A outer s H d Q E g h=>?_)
 ·obtain⟨r,fr,c,e,N,a,rfl,_⟩:=h
  rfl
 obtain⟨r,fr,c,e,N,a,rfl,ok,na,i,k⟩:=h;refine⟨_,(@zM _ _ _ (@zV _ _ _ _ (@aY _ _ _ _ _ _ _ g.units (@zY _ _ _ _ _ _ _ yP (@pvb _ 0 _ _ rfl) zH (λ_ _=>rfl)) (@zA _ _ _ _ _ (@pvb _ 1 _ _ rfl) zC rfl) rfl rfl rfl rfl))),?_⟩;have b:=na.ends;rw[cW]at b;refine zB ⟨r,_,_,_,rfl,rfl,SqT.of na.net,rfl,c,_,rfl,b,_,rfl,(a:Int),rfl,b,?_,?_⟩
 ·exact Jy.mpr ⟨a,ok.en.mem_iff.mpr (Yp.mpr i),rfl⟩
 ·rw[mF];exact k
theorem scR:FnScope ["net","turns","lane","back","behind","here","number","fork","turn"] ["net","turns","lane","back"] (zQ zaY):=by trivial
theorem zbn {f fD:JI}{fd dD:Yl}(F:Fun K "run_through" "run_through" zaY f fd) (G:Mgs mg) (UD:Use P w K mg base "end_of" ["net","lane"] 1 eK fD dD):FnOk P w K mg base CX0 2 f fd ["net","turns","lane","back"] eH:=by
 refine F.ok scR (λvs H Q E h=>?_) (λaa A outer s H vs Q E hr h=>?_)
 ·obtain⟨us,back,rfl,r,fr,er,J,N,D,ts,lane,rfl,_⟩:=h
  rfl
 obtain⟨us,back,rfl,r,fr,er,J,N,D,ts,lane,rfl,ok,na,R,tl,bits,hl,k⟩:=h;refine⟨_,(@zE _ _ _ _ _ (@zW _ _ 4 _ _ _ _ scR.nd rfl (.inl rfl) (@zo _ _ _ _ _ _ _ _ _ yn rfl G.list rfl (@zA _ _ _ _ _ (@pvb _ 1 _ _ rfl) zC rfl) (by decide) (by decide) rfl rfl) rfl (by trivial)) (@zE _ _ _ _ _ (@zW _ _ 5 _ _ _ _ scR.nd rfl (.inl rfl) (@pvb _ 2 _ _ rfl) rfl (by trivial)) (@zE _ _ _ _ _ (@yj _ _ _ _ _ _ _ _ Y2 rfl (@jG _ _ _ _ _ _ _ _ false rfl G.enum (@zA _ _ _ _ _ (@zY _ _ _ _ _ _ _ yP (@pvb _ 0 _ _ rfl) zH (λ_ _=>rfl)) zC rfl) rfl) (@yK _ _ _ _ _ _ rfl (@zP _ _ _ _ _ (@zN _ _ 6 _ scR.nd rfl (.inl rfl) (by trivial)) (@zP _ _ _ _ _ (@zN _ _ 7 _ scR.nd rfl (.inl rfl) (by trivial)) zw rfl) rfl) rfl rfl) (@zM _ _ _ (@yb _ _ _ _ _ _ _ _ (@zt _ _ _ _ _ _ _ _ qO (@pvb _ 5 _ _ rfl) (@pvb _ 7 _ _ rfl) rfl) (@zE _ _ _ _ _ (@zW _ _ 8 _ _ _ _ scR.nd rfl (.inl rfl) (@zY _ _ _ _ _ _ _ zj (@pvb _ 4 _ _ rfl) (@pvb _ 6 _ _ rfl) (λ_ _=>rfl)) rfl (by trivial)) (@zE _ _ _ _ _ (@yJ _ _ _ _ _ _ (@zS _ _ _ _ _ _ _ _ xM zH (@pvb _ 8 _ _ rfl)) (@xL _ _ _ _ _ _ _ (@pvb _ 4 _ _ rfl) (@pvb _ 6 _ _ rfl) yh (by intro _;rfl)) rfl rfl rfl) (@zM _ _ _ (@zW _ _ 5 _ _ _ _ scR.nd rfl (.inl rfl) (@zY _ _ _ _ _ _ _ yP (@pvb _ 7 _ _ rfl) (@nL _ _ _ _ _ _ _ _ (@lw _ _ _ (@pvb _ 3 _ _ rfl) (by intro _;rfl)) (@zS _ _ _ _ _ _ _ _ xM zH (@pvb _ 8 _ _ rfl)) (@pvb _ 8 _ _ rfl)) (λ_ _=>rfl)) rfl (by trivial))))) yA)) (by intro _;rfl)) (@zM _ _ _ (@zV _ _ _ _ (@zi _ _ _ _ _ (@zA _ _ _ _ _ (@zo _ _ _ _ _ _ _ _ _ zr rfl G.tuple rfl (@zA _ _ _ _ _ (@pvb _ 4 _ _ rfl) zC rfl) (by decide) (by decide) rfl rfl) (@zA _ _ _ _ _ (@zR _ _ _ _ _ _ _ _ _ _ _ _ UD hr (@zA _ _ _ _ _ (@pvb _ 0 _ _ rfl) (@zA _ _ _ _ _ (@pvb _ 5 _ _ rfl) zC rfl) rfl) rfl rfl rfl rfl) zC rfl) rfl))))))),?_⟩;refine zB ⟨D,_,rfl,.inr (SqT.of R),λd I=>zB ?_⟩;have M:=zD I (.lst (ts.map V.int));refine zB ⟨r,_,_,_,rfl,rfl,SqT.of (M _ _ na.net),rfl,fr,J,rfl,SqT.of (M _ _ na.forks),?_⟩
 refine bV (K:=K) (b:=false) (a:=fr) (xs:=J) (λi σ m=>(∃ C B y,σ=[some (.ref r),some (.ref D),some (.int lane),some (.bl back),some (.ref d),some (.int (yI back N.forks ts lane i).2),C,B,y])/\Same H m/\m d=some (.lst ((yI back N.forks ts lane i).1.map V.int)))
  ⟨⟨_,_,_,rfl⟩,M,zG⟩ (λi σ m _ q=>SqT.of (q.2.1 _ _ na.forks)) ?_ ?_
 ·rintro i x σ m T hx Z ⟨⟨C,B,y,rfl⟩,v,n⟩
  obtain⟨a,g,rfl,eg,L⟩:=(na.prs.tups (Tups.of v)).get hx;have gi:i<N.forks.length:=(Jb.mp eg).1;have gd:N.forks.getD i (0,0)=g:=by rw[Ja,eg];rfl
  have rs:yI back N.forks ts lane (i+1)=yG back (yI back N.forks ts lane i) i g:=by show yG _ _ _ _=_;rw[gd]
  have rl:=ud (back:=back) (fs:=N.forks) (ts:=ts) (lane:=lane) i;have rb:=vX (back:=back) (fs:=N.forks) (lane:=lane) bits i;generalize yI back N.forks ts lane i=st at *;have u:=zD Z (.tup [.int i,.ref a]);have lT:d≠T:=zJ n Z;refine⟨T,_,rfl,SqT.of zG,rfl,_,_,rfl,_,_,rfl,rfl,?_⟩;refine zB (zB ⟨a,_,rfl,.inr (SqT.of (u _ _ L)),rfl,rfl,_,rfl,?_⟩);show if (if false=true then !inV (V.int (st.2:Nat)) [V.int (g.1:Nat),V.int (g.2:Nat)] else inV (V.int (st.2:Nat)) [V.int (g.1:Nat),V.int (g.2:Nat)])=true then _ else _;rw[Jf Jj,zbF];by_cases on:st.2=g.1\/st.2=g.2
  ·rw[JC on]
   refine x5 ?_;have c:yG back st i g=(st.1.set i (1-st.1.getD i 0),if (if back then 1-st.1.getD i 0 else st.1.getD i 0)=0 then g.1 else g.2):=by unfold yG;rw[Jm on]
   have O:i<st.1.length:=by simp_all
   have S:=rb _ (L2.x4 O);have Y:=u _ _ n;refine zB (zB ⟨d,_,_,_,rfl,rfl,SqL.of Y,xO O,?_⟩);refine zB ⟨_,_,rfl,rfl,_,rfl,_,rfl,d,_,_,i,rfl,rfl,Y,w8 (by rw[Je];exact O),?_⟩
   have l:upd (upd m T (.tup [.int i,.ref a])) d (.lst ((st.1.map V.int).set i (.int (1-st.1.getD i 0)))) a=some (.tup [.int g.1,.int g.2]):=by
    rw[zK (by rintro rfl;rw[n]at L;cases L)];exact u _ _ L
   have fin:∀ nx:Nat,nx=(yG back st i g).2->(∃ C B y,([some (.ref r),some (.ref D),some (.int lane),some (.bl back),some (.ref d),some (.int nx),some (.int i),some (.ref a),some (.int (st.1.getD i 0))]:List (Option V))=[some (.ref r),some (.ref D),some (.int lane),some (.bl back),some (.ref d),some (.int (yI back N.forks ts lane (i+1)).2),C,B,y]) /\
     Same H (upd (upd m T (.tup [.int i,.ref a])) d (.lst ((st.1.map V.int).set i (.int (1-st.1.getD i 0)))))/\upd (upd m T (.tup [.int i,.ref a])) d (.lst ((st.1.map V.int).set i (.int (1-st.1.getD i 0)))) d=some (.lst ((yI back N.forks ts lane (i+1)).1.map V.int)):=λnx en=>by
    refine⟨⟨_,_,_,by rw[rs,en]⟩,λb o e=>?_,?_⟩
    ·rw[zK (zJ e I)];exact u _ _ (v b o e)
    ·rw[zG,rs,c,xQ]
   cases back with
   | false =>
    rcases S with z|z
    ·exact zB (zB (zu rfl (xB (zB ⟨a,_,_,_,rfl,rfl,SqT.of l,by rw[z];exact yT (j:=0) rfl,fin g.1 (by rw[c,z];rfl)⟩))))
    ·exact zB (zB (zu rfl (xB (zB ⟨a,_,_,_,rfl,rfl,SqT.of l,by rw[z];exact yT (j:=1) rfl,fin g.2 (by rw[c,z];rfl)⟩))))
   | true =>
    rcases S with z|z
    ·exact zB (zB (zu rfl (x5 (zB ⟨_,_,rfl,rfl,a,_,_,_,rfl,rfl,SqT.of l,by rw[z];exact yT (j:=1) rfl,fin g.2 (by rw[c,z];rfl)⟩))))
    ·exact zB (zB (zu rfl (x5 (zB ⟨_,_,rfl,rfl,a,_,_,_,rfl,rfl,SqT.of l,by rw[z];exact yT (j:=0) rfl,fin g.1 (by rw[c,z];rfl)⟩))))
  ·rw[Js on]
   have c:yG back st i g=st:=by unfold yG;rw[Jf on]
   exact xB ⟨⟨_,_,_,by rw[rs,c];rfl⟩,v.trans u,by rw[rs,c];exact u _ _ n⟩
 ·rintro σ m ⟨⟨C,B,y,rfl⟩,v,n⟩
  have W:=na.prs.len;rw[W]at n;have hh:=vW (back:=back) (ts:=ts) ok.fk hl N.forks.length (Jg _);refine zB ⟨d,_,rfl,.inl ⟨SqL.of n,λt ht=>?_⟩⟩;have U:=zD ht (.tup ((yI back N.forks ts lane N.forks.length).1.map V.int));refine zB (zB ⟨r,fr,er,J,N,_,by rw[W];rfl,ok,na.tups (Tups.of (v.trans U)),hh,(by show 2<=sizeLine;decide),λp X=>?_⟩);exact k p t _ ((v.trans U).trans (zD X _)) zG (zD X _ _ _ zG)
theorem scP:FnScope ["net","turns","lane"] ["net","turns","lane"] (zQ pR):=by trivial
theorem iu {f j:JI}{fd k:Yl}(F:Fun K "passed" "passed" pR f fd) (l:Use P w K mg base "run_through" ["net","turns","lane","back"] 2 eH j k):FnOk P w K mg base CX0 3 f fd ["net","turns","lane"] (mx false):=by
 refine F.ok scP (λg H Q E h=>?_) (λm A outer s H g Q E i h=>?_)
 ·obtain⟨r,fr,e,d,N,b,c,a,rfl,_⟩:=h
  rfl
 obtain⟨r,fr,e,d,N,b,c,a,rfl,q⟩:=h;refine⟨_,(@zM _ _ _ (@zV _ _ _ _ (@zR _ _ _ _ _ _ _ _ _ _ _ _ l i (@zA _ _ _ _ _ (@pvb _ 0 _ _ rfl) (@zA _ _ _ _ _ (@pvb _ 1 _ _ rfl) (@zA _ _ _ _ _ (@pvb _ 2 _ _ rfl) (@zA _ _ _ _ _ nM zC rfl) rfl) rfl) rfl) rfl rfl rfl rfl))),?_⟩;exact zB (zB (zB ⟨[.ref r,.ref b,.int a],false,rfl,r,fr,e,d,N,b,c,a,rfl,q⟩))
abbrev pV:Stmt:=top 14
abbrev sW:Stmt:=top 29
abbrev pQ:Stmt:=top 30
theorem rD (n:Nat):List.replicate n (V.int 0)=(List.replicate n (0:Int)).map V.int:=(List.map_replicate).symm
theorem zcN:FnScope ["net"] ["net"] (zQ pV):=by trivial
theorem i4 {f:JI}{fd:Yl}(F:Fun K "first_turns" "first_turns" pV f fd) (G:Mgs mg):FnOk P w K mg base CX0 1 f fd ["net"] sO:=by
 refine F.ok zcN (λc H Q E h=>?_) (λm A outer s H c Q E n h=>?_)
 ·obtain⟨r,fr,j,b,N,rfl,_⟩:=h
  rfl
 obtain⟨r,fr,j,b,N,rfl,ok,na,k⟩:=h;refine⟨_,(@zM _ _ _ (@zV _ _ _ _ (@zS _ _ _ _ _ _ _ _ pi (@zi _ _ _ _ _ (@zA _ _ _ _ _ zH zC rfl)) (@zX _ _ _ _ _ _ _ _ _ zp rfl G.len Yb (@zA _ _ _ _ _ (@zY _ _ _ _ _ _ _ yP (@pvb _ 0 _ _ rfl) zH (λ_ _=>rfl)) zC rfl) (by decide) (by decide) rfl rfl)))),?_⟩;refine⟨by show 1<=sizeLine;decide,λt g=>?_⟩;have a:=zD g (.tup [.int 0]);have e:=na.prs.len;have o:=ok.fm;refine⟨_,rfl,r,_,_,_,rfl,rfl,SqT.of (a _ _ na.net),rfl,fr,b,rfl,.inr (SqT.of (a _ _ na.forks)),t,_,b.length,rfl,rfl,zG,by lia,λp l d i=>k p l (a.trans d) ?_⟩;rw[i,rD,e]
theorem zcO:FnScope ["net"] ["net"] (zQ sW):=by trivial
theorem kA {f x:JI}{fd dT:Yl}(F:Fun K "first_place" "first_place" sW f fd) (y:Use P w K mg base "first_turns" ["net"] 1 sO x dT):FnOk P w K mg base CX0 2 f fd ["net"] uZ:=by
 refine F.ok zcO (λl H Q E h=>?_) (λB A outer s H l Q E n h=>?_)
 ·obtain⟨r,fr,j,g,N,rfl,_⟩:=h
  rfl
 obtain⟨r,fr,j,g,N,rfl,ok,na,k⟩:=h;refine⟨_,(@zM _ _ _ (@zV _ _ _ _ (@zi _ _ _ _ _ (@zA _ _ _ _ _ (@zR _ _ _ _ _ _ _ _ _ _ _ _ y n (@zA _ _ _ _ _ (@pvb _ 0 _ _ rfl) zC rfl) rfl rfl rfl rfl) (@zA _ _ _ _ _ (@zS _ _ _ _ _ _ _ _ pi (@zi _ _ _ _ _ (@zA _ _ _ _ _ zH zC rfl)) (@zY _ _ _ _ _ _ _ yP (@pvb _ 0 _ _ rfl) zH (λ_ _=>rfl))) zC rfl) rfl)))),?_⟩;have z:=ok.l16;refine⟨_,rfl,r,fr,j,g,N,rfl,ok,na,λt D e v=>⟨by show 1<=sizeLine;decide,λu m=>?_⟩⟩;have b:=zD m (.tup [.int 0]);have c:=(na.tups (Tups.of e)).tups (Tups.of b);refine⟨_,rfl,r,_,_,_,rfl,rfl,SqT.of c.net,rfl,u,_,N.lanes,rfl,rfl,zG,by lia,λp C d i=>?_⟩;refine⟨by show 2<=sizeLine;decide,λq o=>?_⟩;have a:=zD o (.tup [.ref t,.ref p]);rw[rD]at i;exact k q _ (((e.trans b).trans d).trans a) (zaF zG (a _ _ (d _ _ (b _ _ v))) (a _ _ i))
theorem lF:FnScope ["net","place","lane","turns","heights","onward","end","more","least"] ["net","place","lane"] (zQ pQ):=by trivial
theorem passE_lt {N:Nt}(ok:Nt.Ok N){ts:List Int}{lane:Nat}(h:lane<N.lanes):passE N ts lane<N.lanes:=by
 have b:=(vW (back:=false) (ts:=ts) ok.fk h N.forks.length (Jg _));have:=Wg (ok.en.mem_iff.mpr (Yp.mpr b));rw[ok.en.length_eq,Y4]at this;exact this
theorem ir {f fP fA:JI}{fd dP dA:Yl}(F:Fun K "place_behind" "place_behind" pQ f fd) (G:Mgs mg) (UP:Use P w K mg base "passed" ["net","turns","lane"] 3 (mx false) fP dP) (UA:Use P w K mg base "added" ["counts","place","many"] 2 tQ fA dA):FnOk P w K mg base CX0 4 f fd ["net","place","lane"] vt:=by
 refine F.ok lF (λvs H Q E h=>?_) (λab A outer s H vs Q E Y h=>?_)
 ·obtain⟨r,fr,Z,S,N,b,k,d,rfl,_⟩:=h
  rfl
 obtain⟨r,fr,Z,S,N,b,k,d,rfl,ok,na,kb,⟨ts,g,rfl,tl,bits,hl,h0,W⟩,T,q2⟩:=h;have J:Room 2 _:=Y.mono (by decide);refine⟨_,(@zE _ _ _ _ _ (@yJ _ _ _ _ _ _ (@pvb _ 1 _ _ rfl) (@yK _ _ _ _ _ _ rfl (@zP _ _ _ _ _ (@zN _ _ 3 _ lF.nd rfl (.inl rfl) (by trivial)) (@zP _ _ _ _ _ (@zN _ _ 4 _ lF.nd rfl (.inl rfl) (by trivial)) zw rfl) rfl) rfl rfl) rfl rfl rfl) (@zE _ _ _ _ _ (@yJ _ _ _ _ _ _ (@zR _ _ _ _ _ _ _ _ _ _ _ _ UP Y (@zA _ _ _ _ _ (@pvb _ 0 _ _ rfl) (@zA _ _ _ _ _ (@pvb _ 3 _ _ rfl) (@zA _ _ _ _ _ (@pvb _ 2 _ _ rfl) zC rfl) rfl) rfl) rfl rfl rfl rfl) (@yK _ _ _ _ _ _ rfl (@zP _ _ _ _ _ (@zN _ _ 5 _ lF.nd rfl (.inl rfl) (by trivial)) (@zP _ _ _ _ _ (@zN _ _ 6 _ lF.nd rfl (.inl rfl) (by trivial)) zw rfl) rfl) rfl rfl) rfl rfl rfl) (@zE _ _ _ _ _ (@zW _ _ 7 _ _ _ _ lF.nd rfl (.inl rfl) (@zR _ _ _ _ _ _ _ _ _ _ _ _ UA J (@zA _ _ _ _ _ (@pvb _ 4 _ _ rfl) (@zA _ _ _ _ _ (@pvb _ 6 _ _ rfl) (@zA _ _ _ _ _ zH zC rfl) rfl) rfl) rfl rfl rfl rfl) rfl (by trivial)) (@zE _ _ _ _ _ (@zW _ _ 8 _ _ _ _ lF.nd rfl (.inr rfl) (@zX _ _ _ _ _ _ _ _ _ (ux rfl false) rfl G.min rfl (@zA _ _ _ _ _ (@pvb _ 7 _ _ rfl) zC rfl) (by decide) (by decide) rfl rfl) rfl (by trivial)) (@zM _ _ _ (@zV _ _ _ _ (@zi _ _ _ _ _ (@zA _ _ _ _ _ (@pvb _ 5 _ _ rfl) (@zA _ _ _ _ _ (@zo _ _ _ _ _ _ _ _ _ zr rfl G.tuple rfl (@zA _ _ _ _ _ (@su _ _ _ _ none _ _ _ _ _ _ ["height","least"] [none,some 8] rfl (@wY _ _ _ _ (@pvb _ 7 _ _ rfl)) (CapOk.of (by kernel_rfl)) (λ_ _ _ _ _=>(@zN _ _ 0 _ (show (["height","least"]:List Str).Nodup from by decide +kernel) rfl (.inl rfl) (.inr rfl))) (λ_ _ _ _ _=>xh) (λ_ _ _ _ _=>(@zS _ _ _ _ _ _ _ _ xM (@pvb _ 0 _ _ rfl) (@pvb _ 1 _ _ rfl))) (by intro _;rfl)) zC rfl) (by decide) (by decide) rfl rfl) zC rfl) rfl)))))))),?_⟩;obtain⟨t,u,hb,ht,hu⟩:=zay kb;have aa:=ok.l16;refine⟨_,rfl,b,_,rfl,SqT.of hb,rfl,_,_,rfl,_,_,rfl,rfl,?_⟩;refine⟨_,rfl,_,rfl,_,rfl,r,fr,Z,S,N,t,ts,d,rfl,ok,na,ht,tl,bits,T,λp D H1 R hp I=>?_⟩;refine⟨p,_,rfl,SqT.of hp,rfl,_,_,rfl,_,_,rfl,rfl,?_⟩;have pl:=passE_lt (ts:=ts) ok T;refine⟨_,rfl,_,rfl,u,g,passE N ts d,1,rfl,R _ _ hu,by lia,by lia,λm H2 s2 x=>?_⟩
 have ne:zz g (passE N ts d) 1≠[]:=λz=>by
  have:=JP List.length z;rw[yE,Ye]at this;lia
 change H2 m=some (.tup ((zz g (passE N ts d) 1).map V.int)) at x;refine⟨_,rfl,m,_,rfl,SqT.of x,Zr.mpr ne,λM mM lM=>?_⟩;have eM:=tU mM lM;refine⟨_,rfl,_,rfl,m,rfl,⟨_,SqT.of x⟩,λl n=>?_⟩;have al:(zz g (passE N ts d) 1).length=N.lanes:=by rw[yE];exact hl
 refine oJ (K:=K) (a:=m) (xs:=(zz g (passE N ts d) 1).map V.int) (λi acc σ j=>(∃ v,σ=[v,some (.int M)])/\Same H2 j/\j l=some (.lst acc)/\acc=(((zz g (passE N ts d) 1).take i).map λh=>h-M).map V.int) ⟨⟨_,rfl⟩,zD n _,zG,rfl⟩ (λi acc σ j q=>⟨q.2.2.1,SqT.of (q.2.1 _ _ x)⟩) ?_ ?_
 ·rintro i y acc σ j X ⟨⟨v,rfl⟩,C,B,rfl⟩
  rw[JN]at X;obtain⟨h,eh,rfl⟩:=YN.mp X;have U:=(Jb.mp eh).1;refine⟨_,rfl,_,rfl,_,_,rfl,rfl,B,?_,nx (by rw[Je];exact U) ⟨⟨_,rfl⟩,λc o e=>?_,zG,?_⟩⟩
  ·rw[Je,Je,Jw,JB];lia
  ·rw[zK (zJ e n)];exact C c o e
  ·rw[Yh U,JV,JV,(Jb.mp eh).2];rfl
 ·rintro acc σ j ⟨⟨v,rfl⟩,C,B,rfl⟩
  rw[Je,Y5,<- eM]at B;refine⟨l,_,rfl,.inl ⟨SqL.of B,λq hq=>⟨by show 2<=sizeLine;decide,λz W=>?_⟩⟩⟩;have s4:=zD hq (.tup ((wJ (zz g (passE N ts d) 1)).map V.int));have O:=zD W (.tup [.ref D,.ref q]);have L:=((s2.trans C).trans s4).trans O;exact q2 _ z _ (R.trans L) (tu N ts g d) (zaF zG (L _ _ I) (O _ _ zG))
abbrev eV:Stmt:=top 18
abbrev pU:Stmt:=top 19
theorem scF:FnScope ["net","counts","on_lanes","turns","one","other","come"] ["net","counts"] (zQ pU):=by trivial
theorem i3 {f:JI}{fd:Yl}(F:Fun K "flowed" "flowed" pU f fd) (G:Mgs mg):FnOk P w K mg base CX0 1 f fd ["net","counts"] sN:=by
 refine F.ok scF (λL H Q E h=>?_) (λU A outer s H L Q E W h=>?_)
 ·obtain⟨r,fr,S,B,N,c,cs,rfl,_⟩:=h
  rfl
 obtain⟨r,fr,S,B,N,c,cs,rfl,ok,na,M,cl,k⟩:=h;refine⟨_,(@zE _ _ _ _ _ (@zW _ _ 2 _ _ _ _ scF.nd rfl (.inl rfl) (@zo _ _ _ _ _ _ _ _ _ yn rfl G.list rfl (@zA _ _ _ _ _ (@pvb _ 1 _ _ rfl) zC rfl) (by decide) (by decide) rfl rfl) rfl (by trivial)) (@zE _ _ _ _ _ (@zW _ _ 3 _ _ _ _ scF.nd rfl (.inl rfl) (@zy _ _ _ _ zC) rfl (by trivial)) (@zE _ _ _ _ _ (@yj _ _ _ _ _ _ _ _ Y2 rfl (@wY _ _ _ _ (@zY _ _ _ _ _ _ _ yP (@pvb _ 0 _ _ rfl) zH (λ_ _=>rfl))) (@yK _ _ _ _ _ _ rfl (@zP _ _ _ _ _ (@zN _ _ 4 _ scF.nd rfl (.inl rfl) (by trivial)) (@zP _ _ _ _ _ (@zN _ _ 5 _ scF.nd rfl (.inl rfl) (by trivial)) zw rfl) rfl) rfl rfl) (@zE _ _ _ _ _ (@zW _ _ 6 _ _ _ _ scF.nd rfl (.inl rfl) (@zS _ _ _ _ _ _ _ _ yR (@zY _ _ _ _ _ _ _ zj (@pvb _ 2 _ _ rfl) (@pvb _ 4 _ _ rfl) (λ_ _=>rfl)) (@zY _ _ _ _ _ _ _ zj (@pvb _ 2 _ _ rfl) (@pvb _ 5 _ _ rfl) (λ_ _=>rfl))) rfl (by trivial)) (@zE _ _ _ _ _ (@yJ _ _ _ _ _ _ (@zS _ _ _ _ _ _ _ _ xi (@zS _ _ _ _ _ _ _ _ yR (@pvb _ 6 _ _ rfl) zH) zH) (@xL _ _ _ _ _ _ _ (@pvb _ 2 _ _ rfl) (@pvb _ 4 _ _ rfl) yh (by intro _;rfl)) rfl rfl rfl) (@zE _ _ _ _ _ (@yJ _ _ _ _ _ _ (@zS _ _ _ _ _ _ _ _ xi (@pvb _ 6 _ _ rfl) zH) (@xL _ _ _ _ _ _ _ (@pvb _ 2 _ _ rfl) (@pvb _ 5 _ _ rfl) yh (by intro _;rfl)) rfl rfl rfl) (@zM _ _ _ (@y4 _ _ _ _ (@wd _ _ _ _ _ _ _ _ _ _ _ _ Y6 YH YJ yq (@pvb _ 3 _ _ rfl) (@zA _ _ _ _ _ (@zS _ _ _ _ _ _ _ _ xv (@pvb _ 6 _ _ rfl) zH) zC rfl) rfl rfl rfl rfl rfl) rfl))))) (by intro _;rfl)) (@zM _ _ _ (@zV _ _ _ _ (@zi _ _ _ _ _ (@zA _ _ _ _ _ (@pvb _ 2 _ _ rfl) (@zA _ _ _ _ _ (@pvb _ 3 _ _ rfl) zC rfl) rfl))))))),?_⟩;refine zB ⟨c,_,rfl,.inr (SqT.of M),λlo l=>?_⟩;have C:=zD l (.lst (cs.map V.int));refine⟨(by show 0<=sizeLine;decide),λlt j=>?_⟩;have z:=C.trans (zD j (.lst []));have ne:lo≠lt:=zJ zG j;refine zB ⟨r,_,_,_,rfl,rfl,SqT.of (z _ _ na.net),rfl,fr,rfl,⟨_,SqT.of (z _ _ na.forks)⟩,?_⟩
 refine uP (K:=K) (a:=fr) (xs:=B) (λi σ d=>(∃ y x v,σ=[some (.ref r),some (.ref c),some (.ref lo),some (.ref lt),y,x,v])/\Same H d/\d lo=some (.lst ((yM (N.forks.take i) cs).1.map V.int))/\d lt=some (.lst ((yM (N.forks.take i) cs).2.map V.int)))
  ⟨⟨_,_,_,rfl⟩,z,by rw[zK ne];exact zG,zG⟩ (λi σ d _ q=>SqT.of (q.2.1 _ _ na.forks)) ?_ ?_
 ·rintro i p σ d n ⟨⟨y,x,v,rfl⟩,t,m,u⟩
  obtain⟨a,g,rfl,J,O⟩:=(na.prs.tups (Tups.of t)).get n;have T:=ok.fk g (JD J);have X:(yM (N.forks.take i) cs).1.length=N.lanes:=by rw[wN,cl]
  have R:(yM (N.forks.take i) cs).2.length<=128:=by rw[y9,Jw];have:=ok.fm;lia
  have I:=wM J cs;generalize yM (N.forks.take i) cs=st at *;refine⟨a,_,rfl,SqT.of O,rfl,_,_,rfl,_,_,rfl,rfl,?_⟩;refine zB (zB ⟨lo,_,_,_,rfl,rfl,SqL.of m,xO (by lia),_,rfl,_,rfl,lo,_,_,_,rfl,rfl,SqL.of m,xO (by lia),_,_,rfl,rfl,?_⟩);refine zB ⟨_,_,rfl,rfl,_,_,rfl,rfl,⟨by decide,by decide⟩,_,rfl,_,rfl,lo,_,_,g.1,rfl,rfl,m,w8 (by rw[Je];lia),?_⟩;refine zB ⟨_,_,rfl,rfl,⟨by decide,by decide⟩,_,rfl,_,rfl,lo,_,_,g.2,rfl,rfl,zG,w8 (by rw[Z4,Je];lia),?_⟩
  have D:upd (upd d lo (.lst ((st.1.map V.int).set g.1 (.int ((st.1.getD g.1 0+st.1.getD g.2 0+1) / 2))))) lo (.lst (((st.1.map V.int).set g.1 (.int ((st.1.getD g.1 0+st.1.getD g.2 0+1) / 2))).set g.2 (.int ((st.1.getD g.1 0+st.1.getD g.2 0) / 2)))) lt=some (.lst (st.2.map V.int)):=by
   rw[zK ne.symm,zK ne.symm];exact u
  refine zB ⟨.inl ⟨rfl,_,SqL.of D⟩,_,rfl,_,_,rfl,rfl,(by show (0:Int)<2;decide),lt,_,_,rfl,rfl,D,by rw[Je];exact Nat.lt_of_le_of_lt R (by decide),⟨_,_,_,rfl⟩,λb o e=>?_,?_,?_⟩
  ·rw[zK (zJ (C b o e) j),zK (zJ e l),zK (zJ e l)];exact t b o e
  ·rw[zK ne,zG,I]
   unfold yU;rw[xQ,xQ]
  ·rw[zG,I]
   unfold yU;rw[JV];rfl
 ·rintro σ d ⟨⟨y,x,v,rfl⟩,t,m,u⟩
  have e:N.forks.take B.length=N.forks:=by rw[na.prs.len];exact Y5
  rw[e]at m u;exact zB (zB ⟨(by show 2<=sizeLine;decide),λp n=>k p lo lt _ (t.trans (zD n _)) zG (zD n _ _ _ m) (zD n _ _ _ u)⟩)
theorem scE:FnScope ["net","counts","on_lanes","turns"] ["net","counts"] (zQ eV):=by trivial
theorem ar {f O:JI}{fd T:Yl}(F:Fun K "ends_of" "ends_of" eV f fd) (G:Mgs mg) (U:Use P w K mg base "flowed" ["net","counts"] 1 sN O T):FnOk P w K mg base CX0 2 f fd ["net","counts"] uc:=by
 refine F.ok scE (λD H Q E h=>?_) (λY A outer s H D Q E I h=>?_)
 ·obtain⟨r,fr,t,B,N,c,cs,rfl,_⟩:=h
  rfl
 obtain⟨r,fr,t,B,N,c,cs,rfl,ok,na,M,cl,k⟩:=h;refine⟨_,(@zE _ _ _ _ _ (@yJ _ _ _ _ _ _ (@zR _ _ _ _ _ _ _ _ _ _ _ _ U I (@zA _ _ _ _ _ (@pvb _ 0 _ _ rfl) (@zA _ _ _ _ _ (@pvb _ 1 _ _ rfl) zC rfl) rfl) rfl rfl rfl rfl) (@yK _ _ _ _ _ _ rfl (@zP _ _ _ _ _ (@zN _ _ 2 _ scE.nd rfl (.inr rfl) (by trivial)) (@zP _ _ _ _ _ (@zN _ _ 3 _ scE.nd rfl (.inl rfl) (by trivial)) zw rfl) rfl) rfl rfl) rfl rfl rfl) (@zM _ _ _ (@zV _ _ _ _ (@zo _ _ _ _ _ _ _ _ _ zr rfl G.tuple rfl (@zA _ _ _ _ _ (@su _ _ _ _ none _ _ _ _ _ _ ["lane","on_lanes"] [none,some 2] rfl (@wY _ _ _ _ (@zY _ _ _ _ _ _ _ yP (@pvb _ 0 _ _ rfl) zH (λ_ _=>rfl))) (CapOk.of (by kernel_rfl)) (λ_ _ _ _ _=>(@zN _ _ 0 _ (show (["lane","on_lanes"]:List Str).Nodup from by decide +kernel) rfl (.inl rfl) (.inr rfl))) (λ_ _ _ _ _=>xh) (λ_ _ _ _ _=>(@zY _ _ _ _ _ _ (iV K) zj (@pvb _ 1 _ _ rfl) (@pvb _ 0 _ _ rfl) (λ_ _=>rfl))) (by intro _;rfl)) zC rfl) (by decide) (by decide) rfl rfl)))),?_⟩;refine zB (zB ⟨r,fr,t,B,N,c,cs,rfl,ok,na,M,cl,λp lo lt W z L C Z=>?_⟩);refine⟨p,_,rfl,SqT.of L,rfl,_,_,rfl,_,_,rfl,rfl,?_⟩;have d:=na.tups (Tups.of z);refine zB ⟨r,_,_,_,rfl,rfl,SqT.of d.net,rfl,t,rfl,⟨_,SqT.of d.ends⟩,λl u=>?_⟩;have X:lo≠l:=zJ C u;refine oJ (K:=K) (a:=t) (xs:=zU N.ends) (λi acc σ g=>(∃ v,σ=[v,some (.ref lo)])/\Same W g/\g l=some (.lst acc)/\acc=((yD N cs).take i).map V.int) ⟨⟨_,rfl⟩,zD u _,zG,rfl⟩ (λi acc σ g q=>⟨q.2.2.1,SqT.of (q.2.1 _ _ d.ends)⟩) ?_ ?_
 ·rintro i x acc σ g n ⟨⟨v,rfl⟩,j,y,rfl⟩
  have m:i<N.ends.length:=by have:=(Jb.mp n).1;rwa [zZ]at this
  have ex:x=.int N.ends[i]:=by
   unfold zU at n;rw[JN,J7 m]at n;exact(Jp n).symm
  subst ex;have lt':=jw ok (JY m);refine zB (zB ⟨lo,_,_,_,rfl,rfl,SqL.of (j _ _ C),xO (by rw[wN,cl];exact lt'),y,?_,nx (by rw[zZ];exact m) ⟨⟨_,rfl⟩,λb o e=>?_,zG,?_⟩⟩)
  ·rw[Je,Jw];exact Nat.lt_of_le_of_lt (Nat.min_le_left _ _) (JG (show i<1000 by have:=uR ok;have:=ok.l16;lia) (by decide))
  ·rw[zK (zJ e u)];exact j b o e
  ·have R:i<(yD N cs).length:=by unfold yD;rw[Je];exact m
   have S:(yD N cs)[i]=(yM N.forks cs).1.getD N.ends[i] 0:=by simp[yD]
   rw[Yh R,JV,S];rfl
 ·rintro acc σ g ⟨⟨v,rfl⟩,j,y,rfl⟩
  refine⟨l,_,rfl,.inl ⟨SqL.of y,λq J=>k q _ ((z.trans j).trans (zD J _)) ?_⟩⟩;rw[zG,zZ,JM (by unfold yD;rw[Je];exact Jg _)]
abbrev pS:Stmt:=top 1
theorem jT (n:Nat):(List.replicate n [V.int 0]).flatten=(List.replicate n (0:Int)).map V.int:=by
 induction n with
 | zero=>rfl
 | succ n ih=>rw[Y9,Zw,ih,Y9];rfl
def sL:Sp:=λb H Q _=>∃ r fr d c N,b=[.ref r]/\Nt.Ok N/\NetAt H r fr d c N/\∀ p a,Same H a->a p=some (.tup ((xx N).map V.int))->Q (.ref p) a
theorem pM:FnScope ["net","lanes","forks","ends","reached","found","one","other","layer"] ["net"] (zQ pS):=by trivial
theorem iy {f:JI}{fd:Yl}(F:Fun K "layers" "layers" pS f fd) (G:Mgs mg):FnOk P w K mg base CX0 1 f fd ["net"] sL:=by
 refine F.ok pM (λY H Q E h=>?_) (λao A outer s H Y Q E hr h=>?_)
 ·obtain⟨r,fr,X,T,N,rfl,_⟩:=h
  rfl
 obtain⟨r,fr,X,T,N,rfl,ok,na,k⟩:=h;refine⟨_,(@zE _ _ _ _ _ (@yJ _ _ _ _ _ _ (@pvb _ 0 _ _ rfl) (@yK _ _ _ _ _ _ rfl (@zP _ _ _ _ _ (@zN _ _ 1 _ pM.nd rfl (.inl rfl) (by trivial)) (@zP _ _ _ _ _ (@zN _ _ 2 _ pM.nd rfl (.inl rfl) (by trivial)) (@zP _ _ _ _ _ (@zN _ _ 3 _ pM.nd rfl (.inl rfl) (by trivial)) zw rfl) rfl) rfl) rfl rfl) rfl rfl rfl) (@zE _ _ _ _ _ (@zW _ _ 4 _ _ _ _ pM.nd rfl (.inl rfl) (@zS _ _ _ _ _ _ _ _ pj (@zy _ _ _ _ (@zA _ _ _ _ _ zH zC rfl)) (@pvb _ 1 _ _ rfl)) rfl (by trivial)) (@zE _ _ _ _ _ (@zW _ _ 5 _ _ _ _ pM.nd rfl (.inl rfl) (@zy _ _ _ _ zC) rfl (by trivial)) (@zE _ _ _ _ _ (@yj _ _ _ _ _ _ _ _ Y2 rfl (@wY _ _ _ _ (@pvb _ 2 _ _ rfl)) (@yK _ _ _ _ _ _ rfl (@zP _ _ _ _ _ (@zN _ _ 6 _ pM.nd rfl (.inl rfl) (by trivial)) (@zP _ _ _ _ _ (@zN _ _ 7 _ pM.nd rfl (.inl rfl) (by trivial)) zw rfl) rfl) rfl rfl) (@zE _ _ _ _ _ (@zW _ _ 8 _ _ _ _ pM.nd rfl (.inl rfl) (@zS _ _ _ _ _ _ _ _ yR zH (@zX _ _ _ _ _ _ _ _ _ (uy rfl) rfl G.max rfl (@zA _ _ _ _ _ (@zY _ _ _ _ _ _ _ zj (@pvb _ 4 _ _ rfl) (@pvb _ 6 _ _ rfl) (λ_ _=>rfl)) (@zA _ _ _ _ _ (@zY _ _ _ _ _ _ _ zj (@pvb _ 4 _ _ rfl) (@pvb _ 7 _ _ rfl) (λ_ _=>rfl)) zC rfl) rfl) (by decide) (by decide) rfl rfl)) rfl (by trivial)) (@zE _ _ _ _ _ (@yJ _ _ _ _ _ _ (@pvb _ 8 _ _ rfl) (@xL _ _ _ _ _ _ _ (@pvb _ 4 _ _ rfl) (@pvb _ 6 _ _ rfl) yh (by intro _;rfl)) rfl rfl rfl) (@zE _ _ _ _ _ (@yJ _ _ _ _ _ _ (@pvb _ 8 _ _ rfl) (@xL _ _ _ _ _ _ _ (@pvb _ 4 _ _ rfl) (@pvb _ 7 _ _ rfl) yh (by intro _;rfl)) rfl rfl rfl) (@zM _ _ _ (@y4 _ _ _ _ (@wd _ _ _ _ _ _ _ _ _ _ _ _ Y6 YH YJ yq (@pvb _ 5 _ _ rfl) (@zA _ _ _ _ _ (@pvb _ 8 _ _ rfl) zC rfl) rfl rfl rfl rfl rfl) rfl))))) (by intro _;rfl)) (@zM _ _ _ (@zV _ _ _ _ (@zo _ _ _ _ _ _ _ _ _ zr rfl G.tuple rfl (@zA _ _ _ _ _ (@pvb _ 5 _ _ rfl) zC rfl) (by decide) (by decide) rfl rfl))))))),?_⟩;have l1:=ok.l1;have ab:=ok.l16;have fm:=ok.fm;have pl:=na.prs.len;have Z:((N.lanes:Nat):Int).toNat=N.lanes:=by lia
 refine⟨_,rfl,r,_,rfl,SqT.of na.net,rfl,_,_,rfl,_,_,rfl,_,_,rfl,rfl,?_⟩;refine⟨(by show 1<=sizeLine;decide),λp1 M=>?_⟩;have S:=zD M (.lst [.int 0]);refine⟨_,rfl,p1,N.lanes,_,rfl,rfl,zG,by lia,by lia,by show 1*_<=sizeLine;rw[JB];lia,λc t=>?_⟩;have R:=S.trans (zD t (.lst (List.replicate ((N.lanes:Int)).toNat [V.int 0]).flatten))
 have j:H c=none:=by
  cases z:H c with
  | none=>rfl
  | some o=>exact absurd (S _ _ z) (by rw[t];exact λw=>nomatch w)
 refine⟨(by show 0<=sizeLine;decide),λlf m=>?_⟩;have O:=R.trans (zD m (.lst []))
 have u:H lf=none:=by
  cases z:H lf with
  | none=>rfl
  | some o=>exact absurd (R _ _ z) (by rw[m];exact λw=>nomatch w)
 have d:c≠lf:=zJ zG m;refine⟨_,rfl,fr,rfl,⟨_,SqT.of (O _ _ na.forks)⟩,?_⟩
 refine uP (K:=K) (a:=fr) (xs:=T) (λi σ l=>(∃ J I D,σ=[some (.ref r),some (.int N.lanes),some (.ref fr),some (.ref X),some (.ref c),some (.ref lf),J,I,D])/\Same H l/\l c=some (.lst ((lay N.lanes (N.forks.take i)).1.map V.int))/\l lf=some (.lst ((lay N.lanes (N.forks.take i)).2.map V.int)))
  ⟨⟨_,_,_,rfl⟩,O,by rw[zK d,zG,Z,jT];rfl,zG⟩ (λi σ l _ q=>SqT.of (q.2.1 _ _ na.forks)) ?_ ?_
 ·rintro i p σ l hp ⟨⟨J,I,D,rfl⟩,v,C,B⟩
  obtain⟨a,g,rfl,L,ha⟩:=(na.prs.tups (Tups.of v)).get hp;have aa:=ok.fk g (JD L);have ig:i<N.forks.length:=(Jb.mp L).1;have ln:=uI (n:=N.lanes) i N.forks (by lia);have U:=wz (n:=N.lanes) L;generalize lay N.lanes (N.forks.take i)=st at *;refine⟨a,_,rfl,SqT.of ha,rfl,_,_,rfl,_,_,rfl,rfl,?_⟩;refine⟨_,rfl,_,rfl,c,_,_,_,rfl,rfl,SqL.of C,xO (by lia),_,rfl,_,rfl,c,_,_,_,rfl,rfl,SqL.of C,xO (by lia),_,_,rfl,_,_,rfl,rfl,?_⟩;refine⟨_,rfl,_,rfl,_,rfl,c,_,_,g.1,rfl,rfl,C,w8 (by rw[Je];lia),?_⟩;refine⟨_,rfl,_,rfl,_,rfl,c,_,_,g.2,rfl,rfl,zG,w8 (by rw[Z4,Je];lia),?_⟩;have W:∀ x y,L2.upd (L2.upd l c x) c y lf=some (.lst (st.2.map V.int)):=λx y=>by rw[zK d.symm,zK d.symm];exact B
  refine⟨_,rfl,.inl ⟨rfl,_,SqL.of (W _ _)⟩,_,rfl,lf,_,_,rfl,rfl,W _ _,by rw[Je,ln.2];exact JG (show i<1000 by lia) (by decide),⟨_,_,_,rfl⟩,λb o e=>?_,?_,?_⟩
  ·rw[zK (zJ e u),zK (zJ e j),zK (zJ e j)];exact v b o e
  ·rw[zK d,zG,U]
   unfold uJ;rw[xQ,xQ];rfl
  ·rw[zG,U]
   unfold uJ;rw[JV];rfl
 ·rintro σ l ⟨⟨J,I,D,rfl⟩,v,C,B⟩
  rw[pl,Y5]at B;exact⟨_,rfl,lf,_,rfl,.inl ⟨SqL.of B,λq hq=>k q _ (v.trans (zD hq _)) zG⟩⟩
abbrev lQ:Stmt:=top 2
def pI:Sp:=λb H Q _=>∃ r fr d c N,b=[.ref r]/\Nt.Ok N/\NetAt H r fr d c N/\∀ M a,Same H a->M∈0::xx N->(∀ z∈xx N,z<=M)->(xx N=[]->M=0)->(xx N≠[]->M∈xx N)->Q (.int M) a
theorem zcQ:FnScope ["net"] ["net"] (zQ lQ):=by trivial
theorem cR {f n:JI}{fd o:Yl}(F:Fun K "depth" "depth" lQ f fd) (G:Mgs mg) (q:Use P w K mg base "layers" ["net"] 1 sL n o):FnOk P w K mg base CX0 2 f fd ["net"] pI:=by
 refine F.ok zcQ (λj H Q E h=>?_) (λt A outer s H j Q E l h=>?_)
 ·obtain⟨r,fr,g,c,N,rfl,_⟩:=h
  rfl
 obtain⟨r,fr,g,c,N,rfl,ok,na,k⟩:=h;refine⟨_,(@zM _ _ _ (@zV _ _ _ _ (@ad _ _ _ _ _ _ _ _ false rfl rfl G.max (@zR _ _ _ _ _ _ _ _ _ _ _ _ q l (@zA _ _ _ _ _ (@pvb _ 0 _ _ rfl) zC rfl) rfl rfl rfl rfl) zH rfl rfl rfl rfl))),?_⟩;refine⟨_,rfl,r,fr,g,c,N,rfl,ok,na,λp i b m=>?_⟩;refine⟨p,xx N,0,rfl,rfl,SqT.of m,λe=>k 0 i b JJ (λz a=>by rw[e]at a;simp at a) (λ_=>rfl) (λne=>absurd e ne),λne M d a=>k M i b (JH _ d) a (λe=>absurd e ne) (λ_=>d)⟩
abbrev zaZ:Stmt:=top 22
abbrev pP:Stmt:=top 21
abbrev lR:Stmt:=top 23
def mw:Sp:=λa H Q _=>∃ m:Nat,a=[.int m]/\m<=1000/\Q (.int (pw m)) H
def pJ:Sp:=λc H Q _=>∃ (lanes a:Nat) (many:Int),c=[.int lanes,.int a,.int many]/\a<lanes/\lanes<=16/\∀ p b,Same H b->b p=some (.tup ((xA lanes a many).map V.int))->Q (.ref p) b
def sJ:Sp:=λc H Q _=>∃ r fr f e N,c=[.ref r]/\Nt.Ok N/\NetAt H r fr f e N/\∀ p (d:Nat) ss H',Same H H'->IsTop N d->H' p=some (.tup ss)->ss.length=N.lanes->(∀ b,b<N.lanes->∃ a,ss[b]?=some (.ref a)/\H' a=some (.tup ((yD N (xA N.lanes b (pw d))).map V.int)))->Q (.ref p) H'
theorem aN:FnScope ["many","power","doubling"] ["many"] (zQ zaZ):=by trivial
theorem ah {f:JI}{fd:Yl}(F:Fun K "power_of_two" "power_of_two" zaZ f fd) (G:Mgs mg):FnOk P w K mg base CX0 1 f fd ["many"] mw:=by
 refine F.ok aN (λc H Q E h=>?_) (λd A outer s H c Q E e h=>?_)
 ·obtain⟨m,rfl,_⟩:=h
  rfl
 obtain⟨m,rfl,g,k⟩:=h;refine⟨_,(@zE _ _ _ _ _ (@zW _ _ 1 _ _ _ _ aN.nd rfl (.inl rfl) zH rfl (by trivial)) (@zE _ _ _ _ _ (@yj _ _ _ _ _ _ _ _ Y2 rfl (@yZ _ _ _ _ _ _ rfl G.range (@zA _ _ _ _ _ (@pvb _ 0 _ _ rfl) zC rfl) rfl) (@zN _ _ 2 _ aN.nd rfl (.inl rfl) (by trivial)) (@zM _ _ _ (@zbe _ _ 1 _ _ _ _ _ _ aN.nd rfl (.inl rfl) zH zai (by trivial))) (by intro _;rfl)) (@zM _ _ _ (@zV _ _ _ _ (@pvb _ 1 _ _ rfl))))),?_⟩;refine⟨_,rfl,m,rfl,by lia,by lia,yz (lo:=0) (n:=((m:Nat):Int).toNat) (λi σ b=>b=H/\∃ a,σ=[some (.int m),some (.int (pw i)),a]) ⟨rfl,_,rfl⟩ ?_ ?_⟩
 ·rintro i σ b j ⟨rfl,a,rfl⟩
  refine⟨_,rfl,_,_,rfl,rfl,.inr ⟨by decide,by decide⟩,rfl,some (.int (0+(i:Nat))),?_⟩;rw[<- show pw i*2=pw (i+1) from by rw[aR,Int.mul_comm]];rfl
 ·rintro σ b ⟨rfl,a,rfl⟩
  refine⟨_,rfl,?_⟩;rw[show ((m:Nat):Int).toNat=m from by lia];exact k
theorem zcb:FnScope ["lanes","lane","many","counts"] ["lanes","lane","many"] (zQ lR):=by trivial
theorem cS {f:JI}{fd:Yl}(F:Fun K "alone" "alone" lR f fd) (G:Mgs mg):FnOk P w K mg base CX0 1 f fd ["lanes","lane","many"] pJ:=by
 refine F.ok zcb (λj H Q E h=>?_) (λr A outer s H j Q E t h=>?_)
 ·obtain⟨lanes,c,many,rfl,_⟩:=h
  rfl
 obtain⟨lanes,c,many,rfl,u,q,k⟩:=h;refine⟨_,(@zE _ _ _ _ _ (@zW _ _ 3 _ _ _ _ zcb.nd rfl (.inl rfl) (@zS _ _ _ _ _ _ _ _ pj (@zy _ _ _ _ (@zA _ _ _ _ _ zH zC rfl)) (@pvb _ 0 _ _ rfl)) rfl (by trivial)) (@zE _ _ _ _ _ (@yJ _ _ _ _ _ _ (@pvb _ 2 _ _ rfl) (@xL _ _ _ _ _ _ _ (@pvb _ 3 _ _ rfl) (@pvb _ 1 _ _ rfl) yh (by intro _;rfl)) rfl rfl rfl) (@zM _ _ _ (@zV _ _ _ _ (@zo _ _ _ _ _ _ _ _ _ zr rfl G.tuple rfl (@zA _ _ _ _ _ (@pvb _ 3 _ _ rfl) zC rfl) (by decide) (by decide) rfl rfl))))),?_⟩;have l:((lanes:Nat):Int).toNat=lanes:=by lia
 refine⟨(by show 1<=sizeLine;decide),λm g=>?_⟩;have d:=zD g (.lst [.int 0]);refine⟨_,rfl,m,lanes,_,rfl,rfl,zG,by lia,by lia,by show 1*_<=sizeLine;rw[JB];lia,λlc i=>?_⟩
 have a:H lc=none:=by
  cases z:H lc with
  | none=>rfl
  | some o=>exact absurd (d _ _ z) (by rw[i];exact λw=>nomatch w)
 rw[l,jT];refine⟨_,rfl,_,rfl,_,rfl,lc,_,_,c,rfl,rfl,zG,w8 (by simp;lia),?_⟩;refine⟨_,rfl,lc,_,rfl,.inl ⟨SqL.of zG,λp n=>k p _ (λb o e=>?_) ?_⟩⟩
 ·rw[zK (zJ (o:=o) (by rw[zK (zJ e a),zK (zJ e a)];exact d _ _ e) n),zK (zJ e a),zK (zJ e a)];exact d _ _ e
 ·rw[zG,xQ];rfl
theorem scS:FnScope ["net","lanes","balls"] ["net"] (zQ pP):=by trivial
theorem iq {f fD fP fA fE:JI}{fd dD dP dA dE:Yl}(F:Fun K "shares" "shares" pP f fd) (G:Mgs mg) (UD:Use P w K mg base "depth" ["net"] 2 pI fD dD) (UP:Use P w K mg base "power_of_two" ["many"] 1 mw fP dP) (UA:Use P w K mg base "alone" ["lanes","lane","many"] 1 pJ fA dA)
  (UE:Use P w K mg base "ends_of" ["net","counts"] 2 uc fE dE):FnOk P w K mg base CX0 3 f fd ["net"] sJ:=by
 refine F.ok scS (λY H Q E h=>?_) (λaa A outer s H Y Q E D h=>?_)
 ·obtain⟨r,fr,L,C,N,rfl,_⟩:=h
  rfl
 obtain⟨r,fr,L,C,N,rfl,ok,na,k⟩:=h;have t:Room 1 _:=D.mono (by decide);refine⟨_,(@zE _ _ _ _ _ (@zW _ _ 1 _ _ _ _ scS.nd rfl (.inr rfl) (@zY _ _ _ _ _ _ _ yP (@pvb _ 0 _ _ rfl) zH (λ_ _=>rfl)) rfl (by trivial)) (@zE _ _ _ _ _ (@zW _ _ 2 _ _ _ _ scS.nd rfl (.inr rfl) (@zR _ _ _ _ _ _ _ _ _ _ _ _ UP t (@zA _ _ _ _ _ (@zR _ _ _ _ _ _ _ _ _ _ _ _ UD D (@zA _ _ _ _ _ (@pvb _ 0 _ _ rfl) zC rfl) rfl rfl rfl rfl) zC rfl) rfl rfl rfl rfl) rfl (by trivial)) (@zM _ _ _ (@zV _ _ _ _ (@zo _ _ _ _ _ _ _ _ _ zr rfl G.tuple rfl (@zA _ _ _ _ _ (@su _ _ _ _ none _ _ _ _ _ _ ["lane","net","lanes","balls"] [none,some 0,some 1,some 2] rfl (@yZ _ _ _ _ _ _ rfl G.range (@zA _ _ _ _ _ (@pvb _ 1 _ _ rfl) zC rfl) rfl) (CapOk.of (by kernel_rfl)) (λ_ _ _ _ _=>(@zN _ _ 0 _ (show (["lane","net","lanes","balls"]:List Str).Nodup from by decide +kernel) rfl (.inl rfl) (.inr rfl))) (λ_ _ _ _ _=>xh) (λ_ _ _ _ _=>(@zR _ _ _ _ _ _ _ _ _ _ _ _ UE D (@zA _ _ _ _ _ (@pvb _ 1 _ _ rfl) (@zA _ _ _ _ _ (@zR _ _ _ _ _ _ _ _ _ _ _ _ UA t (@zA _ _ _ _ _ (@pvb _ 2 _ _ rfl) (@zA _ _ _ _ _ (@pvb _ 0 _ _ rfl) (@zA _ _ _ _ _ (@pvb _ 3 _ _ rfl) zC rfl) rfl) rfl) rfl rfl rfl rfl) zC rfl) rfl) rfl rfl rfl rfl)) (by intro _;rfl)) zC rfl) (by decide) (by decide) rfl rfl))))),?_⟩;have S:=ok.l16;refine⟨_,rfl,r,_,_,_,rfl,rfl,SqT.of na.net,rfl,?_⟩;refine⟨_,rfl,r,fr,L,C,N,rfl,ok,na,λM H1 W hM hz _ _=>?_⟩;obtain⟨d,rfl,U⟩:=zaK ok hz hM;have X:=zaL ok U;refine⟨d,rfl,by lia,?_⟩;have R:=na.tups (Tups.of W);refine⟨_,rfl,N.lanes,rfl,by lia,by lia,λl x=>?_⟩;refine ny (lo:=0) (n:=((N.lanes:Nat):Int).toNat) (λi acc σ p=>(∃ v,σ=[v,some (.ref r),some (.int N.lanes),some (.int (pw d))])/\Same H1 p/\p l=some (.lst acc)/\acc.length=i/\∀ g,g<i->∃ a,acc[g]?=some (.ref a)/\p a=some (.tup ((yD N (xA N.lanes g (pw d))).map V.int))) ⟨⟨_,rfl⟩,zD x _,zG,rfl,λg h=>absurd h (ZL _)⟩ (λi acc σ p q=>q.2.2.1) ?_ ?_
 ·rintro i acc σ p hi ⟨⟨v,rfl⟩,u,J,al,y⟩
  have il:i<N.lanes:=by lia
  refine⟨_,rfl,_,rfl,_,rfl,_,rfl,N.lanes,i,pw d,by rw[ZY];rfl,il,S,λc H3 j hc=>?_⟩;refine⟨r,fr,L,C,N,c,_,rfl,ok,R.tups (Tups.of (u.trans j)),hc,g8 _ _ _,λe H4 B he=>?_⟩;have I:=B _ _ (j _ _ J);refine⟨I,by rw[al];exact JG (show i<1000 by lia) (by decide),nx (by lia) ⟨⟨_,rfl⟩,λb o z=>?_,zG,by simp[al],λg T=>?_⟩⟩
  ·rw[zK (zJ z x)];exact B _ _ (j _ _ (u b o z))
  ·by_cases z:g=i
   ·subst z
    exact⟨e,by rw[Yj (by lia),al,Nat.sub_self];rfl,Tups.lst I _ _ he⟩
   ·obtain⟨a,O,m⟩:=y g (by lia)
    exact⟨a,by rw[Y0 (by lia)];exact O,Tups.lst I _ _ (B _ _ (j _ _ m))⟩
 ·rintro acc σ p ⟨⟨v,rfl⟩,u,J,al,y⟩
  have Z:((N.lanes:Nat):Int).toNat=N.lanes:=by lia
  rw[Z]at al y;refine⟨l,_,rfl,.inl ⟨SqL.of J,λq hq=>?_⟩⟩;have j:=zD hq (.tup acc)
  exact k q d acc _ ((W.trans u).trans j) U zG al λg x=>by
   obtain⟨a,O,m⟩:=y g x;exact⟨a,O,j _ _ m⟩
abbrev pN:Stmt:=top 26
abbrev pO:Stmt:=top 25
abbrev pT:Stmt:=top 24
def Alike (xs:List Int)(one other:Nat):Prop:=∀ i j,i<j->j<xs.length->(i<one\/i=one/\j<other)->xs.getD i 0=xs.getD j 0
def FirstU (xs:List Int)(one other:Nat):Prop:=one<other/\other<xs.length/\xs.getD one 0≠xs.getD other 0/\Alike xs one other
def Even (xs:List Int):Prop:=∀ i j,i<j->j<xs.length->xs.getD i 0=xs.getD j 0
def tw:Sp:=λc H Q _=>∃ (a:JI) (b:List Int),c=[.ref a]/\H a=some (.tup (b.map V.int))/\b.length<=16/\(Even b->Q .non H)/\∀ one other p,FirstU b one other->H p=none->Q (.ref p) (L2.upd H p (.tup [.int (one:Nat),.int (other:Nat)]))
def sD:Sp:=λc H Q _=>∃ r fr f e N b ls,c=[.ref r,.ref b]/\Nt.Ok N/\NetAt H r fr f e N/\H b=some (.tup (zU ls))/\(∀ x∈ls,x<N.lanes) /\
 (∀ d a,IsTop N d->(∀ q,∀ h:q<ls.length,Even (yD N (xA N.lanes ls[q] (pw d))))->Same H a->Q .non a) /\
 ∀ d k,∀ h:k<ls.length,∀ (one other:Nat) p a,IsTop N d->(∀ q,q<k->∀ g:q<ls.length,Even (yD N (xA N.lanes ls[q] (pw d))))->FirstU (yD N (xA N.lanes ls[k] (pw d))) one other->Same H a->a p=some (.tup [.int ls[k],.int one,.int other])->Q (.ref p) a
def sM:Sp:=λc H Q _=>∃ r fr f e N b ls,c=[.ref r,.ref b]/\Nt.Ok N/\NetAt H r fr f e N/\H b=some (.tup (zU ls))/\(∀ x∈ls,x<N.lanes) /\
 (∀ d a,IsTop N d->(∀ q,∀ h:q<ls.length,Even (yD N (xA N.lanes ls[q] (pw d))))->Same H a->Q (.bl true) a) /\
 ∀ d k,∀ h:k<ls.length,∀ (one other:Nat) a,IsTop N d->(∀ q,q<k->∀ g:q<ls.length,Even (yD N (xA N.lanes ls[q] (pw d))))->FirstU (yD N (xA N.lanes ls[k] (pw d))) one other->Same H a->Q (.bl false) a
theorem zaT:FnScope ["share","one","other"] ["share"] (zQ pN):=by trivial
theorem ii {f:JI}{fd:Yl}(F:Fun K "unlike_pair" "unlike_pair" pN f fd) (G:Mgs mg):FnOk P w K mg base CX0 1 f fd ["share"] tw:=by
 refine F.ok zaT (λt H Q E h=>?_) (λI A outer s H t Q E J h=>?_)
 ·obtain⟨a,b,rfl,_⟩:=h
  rfl
 obtain⟨a,b,rfl,m,D,v,u⟩:=h;refine⟨_,(@zE _ _ _ _ _ (@yj _ _ _ _ _ _ _ _ Y2 rfl (@yZ _ _ _ _ _ _ rfl G.range (@zA _ _ _ _ _ (@zX _ _ _ _ _ _ _ _ _ zp rfl G.len Yb (@zA _ _ _ _ _ (@pvb _ 0 _ _ rfl) zC rfl) (by decide) (by decide) rfl rfl) zC rfl) rfl) (@zN _ _ 1 _ zaT.nd rfl (.inl rfl) (by trivial)) (@zM _ _ _ (@yj _ _ _ _ _ _ _ _ Y2 rfl (@ic _ _ _ _ _ _ _ rfl G.range (@zA _ _ _ _ _ (@zS _ _ _ _ _ _ _ _ yR (@pvb _ 1 _ _ rfl) zH) (@zA _ _ _ _ _ (@zX _ _ _ _ _ _ _ _ _ zp rfl G.len Yb (@zA _ _ _ _ _ (@pvb _ 0 _ _ rfl) zC rfl) (by decide) (by decide) rfl rfl) zC rfl) rfl) rfl rfl) (@zN _ _ 2 _ zaT.nd rfl (.inl rfl) (by trivial)) (@zM _ _ _ (@yb _ _ _ _ _ _ _ _ (@zt _ _ _ _ _ _ _ _ jJ (@zY _ _ _ _ _ _ _ yP (@pvb _ 0 _ _ rfl) (@pvb _ 1 _ _ rfl) (λ_ _=>rfl)) (@zY _ _ _ _ _ _ _ yP (@pvb _ 0 _ _ rfl) (@pvb _ 2 _ _ rfl) (λ_ _=>rfl)) (yC _)) (@zM _ _ _ (@zV _ _ _ _ (@zi _ _ _ _ _ (@zA _ _ _ _ _ (@pvb _ 1 _ _ rfl) (@zA _ _ _ _ _ (@pvb _ 2 _ _ rfl) zC rfl) rfl)))) yA)) (by intro _;rfl))) (by intro _;rfl)) (@zM _ _ _ (@zV _ _ _ _ wZ))),?_⟩;refine⟨_,rfl,a,_,rfl,.inr (SqT.of m),_,rfl,by rw[Je];lia,by rw[Je];lia,?_⟩;rw[Je];refine yz (lo:=0) (n:=((b.length:Nat):Int).toNat) (λi σ l=>l=H/\(∃ o d,σ=[some (.ref a),o,d])/\Alike b i 0) ⟨rfl,⟨_,_,rfl⟩,λi j _ _ h=>by lia⟩ ?_ ?_
 ·rintro i σ l M ⟨rfl,⟨o,d,rfl⟩,al⟩
  have x:i<b.length:=by lia
  rw[ZY];refine⟨_,rfl,_,_,rfl,rfl,_,rfl,a,_,rfl,.inr (SqT.of m),_,_,rfl,⟨by lia,by lia,by rw[Je];lia,by rw[Je];lia⟩,?_⟩;rw[Je];refine yz (lo:=(i:Int)+1) (n:=((b.length:Int)-((i:Int)+1)).toNat) (λj σ C=>C=l/\(∃ d,σ=[some (.ref a),some (.int i),d])/\Alike b i (i+1+j)) ⟨rfl,⟨_,rfl⟩,?_⟩ ?_ ?_
  ·intro p q k g h
   exact al p q k g (by lia)
  ·rintro j σ l L ⟨rfl,⟨d,rfl⟩,c⟩
   have r:i+1+j<b.length:=by lia
   have B:(i:Int)+1+(j:Int)=((i+1+j:Nat):Int):=by lia
   rw[B];refine⟨_,rfl,_,rfl,a,_,_,_,rfl,rfl,SqT.of m,xO x,_,rfl,_,rfl,a,_,_,_,rfl,rfl,SqT.of m,xO r,rfl,_,rfl,?_⟩;by_cases e:b.getD i 0=b.getD (i+1+j) 0
   ·rw[show (!decide (V.int (b.getD i 0)=V.int (b.getD (i+1+j) 0)))=false from by rw[JC (by rw[e])];rfl]
    refine xB ⟨rfl,⟨_,rfl⟩,λp q k g h=>?_⟩;by_cases z:p=i/\q=i+1+j
    ·rw[z.1,z.2];exact e
    ·exact c p q k g (by lia)
   ·rw[show (!decide (V.int (b.getD i 0)=V.int (b.getD (i+1+j) 0)))=true from by rw[Js (λz=>e (V.int.inj z))];rfl]
    exact x5 ⟨_,rfl,_,rfl,(by show 2<=sizeLine;decide),λp y=>u i (i+1+j) p ⟨by lia,r,e,c⟩ y⟩
  ·rintro σ l ⟨rfl,⟨d,rfl⟩,c⟩
   refine⟨rfl,⟨_,_,rfl⟩,λp q k g h=>?_⟩;exact c p q k g (by lia)
 ·rintro σ l ⟨rfl,⟨o,d,rfl⟩,al⟩
  exact v λp q k g=>al p q k g (.inl (by lia))
theorem aM:FnScope ["net","some","told","lane","pair"] ["net","some"] (zQ pO):=by trivial
theorem im {f V U:JI}{fd X dI:Yl}(F:Fun K "uneven" "uneven" pO f fd) (G:Mgs mg) (Z:Use P w K mg base "shares" ["net"] 3 sJ V X) (Y:Use P w K mg base "unlike_pair" ["share"] 1 tw U dI):FnOk P w K mg base CX0 4 f fd ["net","some"] sD:=by
 refine F.ok aM (λI H Q E h=>?_) (λab A outer s H I Q E C h=>?_)
 ·obtain⟨r,fr,D,B,N,e,ls,rfl,_⟩:=h
  rfl
 obtain⟨r,fr,D,B,N,e,ls,rfl,ok,na,c,o,L,J⟩:=h;have u:Room 1 _:=C.mono (by decide);refine⟨_,(@zE _ _ _ _ _ (@zW _ _ 2 _ _ _ _ aM.nd rfl (.inl rfl) (@zR _ _ _ _ _ _ _ _ _ _ _ _ Z C (@zA _ _ _ _ _ (@pvb _ 0 _ _ rfl) zC rfl) rfl rfl rfl rfl) rfl (by trivial)) (@zE _ _ _ _ _ (@yj _ _ _ _ _ _ _ _ Y2 rfl (@wY _ _ _ _ (@pvb _ 1 _ _ rfl)) (@zN _ _ 3 _ aM.nd rfl (.inl rfl) (by trivial)) (@zE _ _ _ _ _ (@zW _ _ 4 _ _ _ _ aM.nd rfl (.inl rfl) (@zR _ _ _ _ _ _ _ _ _ _ _ _ Y u (@zA _ _ _ _ _ (@zY _ _ _ _ _ _ _ yP (@pvb _ 2 _ _ rfl) (@pvb _ 3 _ _ rfl) (λ_ _=>rfl)) zC rfl) rfl rfl rfl rfl) rfl (by trivial)) (@zM _ _ _ (@yb _ _ _ _ _ _ _ _ (@zt _ _ _ _ _ _ _ _ af (@pvb _ 4 _ _ rfl) wZ rfl) (@zM _ _ _ (@zV _ _ _ _ (@zi _ _ _ _ _ (@zA _ _ _ _ _ (@pvb _ 3 _ _ rfl) (@zA _ _ _ _ _ (@zY _ _ _ _ _ _ _ yP (@pvb _ 4 _ _ rfl) zH (λ_ _=>rfl)) (@zA _ _ _ _ _ (@zY _ _ _ _ _ _ _ yP (@pvb _ 4 _ _ rfl) zH (λ_ _=>rfl)) zC rfl) rfl) rfl)))) yA))) (by intro _;rfl)) (@zM _ _ _ (@zV _ _ _ _ wZ)))),?_⟩;have aa:=ok.l16;refine⟨_,rfl,r,fr,D,B,N,rfl,ok,na,λp d ss H1 g y R sl O=>?_⟩;refine⟨_,rfl,e,rfl,⟨_,SqT.of (g _ _ c)⟩,?_⟩;refine uP (K:=K) (a:=e) (xs:=zU ls) (λi σ b=>(∃ m l,σ=[some (.ref r),some (.ref e),some (.ref p),m,l])/\b=H1/\∀ q,q<i->∀ h:q<ls.length,Even (yD N (xA N.lanes ls[q] (pw d)))) ⟨⟨_,_,rfl⟩,rfl,λq h=>absurd h (ZL _)⟩ (λi σ b _ q=>q.2.1 ▸ SqT.of (g _ _ c)) ?_ ?_
 ·rintro i x σ b j ⟨⟨m,l,rfl⟩,rfl,ev⟩
  have n:i<ls.length:=by have:=(Jb.mp j).1;rwa [zZ]at this
  have ex:x=.int ls[i]:=by
   unfold zU at j;rw[JN,J7 n]at j;exact(Jp j).symm
  subst ex;have lt':=o _ (JY n);obtain⟨a,W,S⟩:=O _ lt';have el:(yD N (xA N.lanes ls[i] (pw d))).length=N.lanes:=by unfold yD;rw[Je];exact uR ok
  refine⟨_,rfl,_,rfl,p,_,_,_,rfl,rfl,SqT.of R,yT W,a,_,rfl,S,by lia,λv=>?_,λone other q T k=>?_⟩
  ·refine⟨_,rfl,rfl,_,rfl,xB ⟨⟨_,_,rfl⟩,rfl,λq k h=>?_⟩⟩
   by_cases z:q=i
   ·subst z;exact v
   ·exact ev q (by lia) h
  ·refine⟨_,rfl,rfl,_,rfl,x5 ⟨_,rfl,_,rfl,q,_,_,_,rfl,rfl,SqT.of zG,rfl,_,rfl,q,_,_,_,rfl,rfl,SqT.of zG,rfl,(by show 3<=sizeLine;decide),λt M=>?_⟩⟩
   exact J d i n one other t _ y (λq k h=>ev q k h) T ((g.trans (zD k _)).trans (zD M _)) zG
 ·rintro σ b ⟨⟨m,l,rfl⟩,rfl,ev⟩
  rw[zZ]at ev;exact L d b y (λq h=>ev q h h) g
theorem zcP:FnScope ["net","some"] ["net","some"] (zQ pT):=by trivial
theorem iz {f v:JI}{fd x:Yl}(F:Fun K "is_even" "is_even" pT f fd) (G:Mgs mg) (y:Use P w K mg base "uneven" ["net","some"] 4 sD v x):FnOk P w K mg base CX0 5 f fd ["net","some"] sM:=by
 refine F.ok zcP (λm H Q E h=>?_) (λz A outer s H m Q E q h=>?_)
 ·obtain⟨r,fr,l,j,N,i,ls,rfl,_⟩:=h
  rfl
 obtain⟨r,fr,l,j,N,i,ls,rfl,ok,na,g,e,o,n⟩:=h;refine⟨_,(@zM _ _ _ (@zV _ _ _ _ (@wb _ _ _ _ _ _ _ _ cC (@zR _ _ _ _ _ _ _ _ _ _ _ _ y q (@zA _ _ _ _ _ (@pvb _ 0 _ _ rfl) (@zA _ _ _ _ _ (@pvb _ 1 _ _ rfl) zC rfl) rfl) rfl rfl rfl rfl) wZ rfl))),?_⟩;refine⟨_,rfl,_,rfl,r,fr,l,j,N,i,ls,rfl,ok,na,g,e,λd c a ev b=>?_,λd k t one other p c a ev u b B=>?_⟩
 ·exact⟨rfl,o d c a ev b⟩
 ·exact⟨rfl,n d k t one other c a ev u b⟩
end
end K43
namespace Bn
open PySem L2 Own
theorem rR {α:Type}:∀ (xs:List α) (k:Nat) (h:k<xs.length),(xs[k]::xs.eraseIdx k).Perm xs
 | x::xs,0,_=>.refl _
 | x::xs,k+1,h=>by
  have a:k<xs.length:=by simpa using h
  have ih:=rR xs k a;exact(List.Perm.swap x xs[k] _).trans (ih.cons x)
end Bn
namespace L2
open PySem
theorem uj {c:TT}{d b u:TS}{D:Ends}{σ:St}{H:Hp}(I:St->Hp->Prop)(key:∀ σ H,I σ H->u D σ H)(h:∀ a:Ends,(∀ σ H,I σ H->a.nx σ H)->a.rt=D.rt->zaQ c d b a σ H):we (zaQ c d b) u D σ H:=h { D with nx:=u D } key rfl
theorem zaG {v:V}{i:Nat}{u:TS}{D:Ends}{σ:St}{H:Hp}(h:u D (σ.set i (some v)) H):we (aH (tC v) (xT i)) u D σ H:=h
theorem wu {H H':Hp}{x:JI}(s:Same H H')(h:H' x=none):H x=none:=by
 cases e:H x with
 | none=>rfl
 | some o=>rw[s _ _ e]at h;cases h
def zax (K:Jl):List V->Hp->VK->Prop:=λb H Q=>∃ p a,b=[V.ref p]/\(SqL K H p a\/SqT K H p a)/\Q (V.int a.length) H
theorem gu {X:Cx}:CallR X (.builtin "len") (zax X.K):=zp
end L2
namespace Bn
open PySem L2 Own
structure Pk3 (H:Hp) (l:JI):Prop where
 ex:∃ a b c:Int,H l=some (.lst [.int a,.int b,.int c])/\0<=a/\0<=b/\b<2 ^ 31
theorem Pk3.keep {H H':Hp}{l:JI}(S:Pk3 H l)(s:Same H H'):Pk3 H' l:=by
 obtain⟨a,b,c,h,r⟩:=S.ex;exact⟨a,b,c,s _ _ h,r⟩
theorem Pk3.lst {H:Hp}{l:JI}(S:Pk3 H l):∃ xs,H l=some (.lst xs):=by
 obtain⟨a,b,c,h,_⟩:=S.ex;exact⟨_,h⟩
theorem Pk3.ne {H:Hp}{l p:JI}(S:Pk3 H l)(h:H p=none):l≠p:=by
 obtain⟨a,e⟩:=S.lst;exact zJ e h
theorem Pk3.upd {H:Hp}{l p:JI}{o:HO}(S:Pk3 H l)(h:l≠p):Pk3 (upd H p o) l:=by
 obtain⟨a,b,c,e,r⟩:=S.ex;exact⟨a,b,c,by rw[zK h];exact e,r⟩
theorem But.tups3 {H H':Hp}{l:JI}(x:But l H H')(S:Pk3 H l):Tups H H':=λa b e=>x a _ e (by
 rintro rfl;obtain⟨_,z⟩:=S.lst
 rw[z]at e;cases e)
def pG (K:Jl):Sp:=λc H Q _=>∃ (a:JI) (ns:List Int) (k:Int),c=[.ref a,.int k]/\SqL K H a (ns.map V.int)/\ns.length<=63/\0<=k/\k<=1000/\∀ l b,H l=none->Same H b->Pk3 b l->Q (.ref l) b
def x8:Sp:=λa H Q _=>∃ (l:JI) (m:Int),a=[.ref l,.int m]/\0<m/\m<1073741824/\Pk3 H l/\∀ (v:Nat) H',(v:Int)<m->Pk3 H' l->But l H H'->Q (.int v) H'
def tO:Sp:=λd H Q _=>∃ (l p:JI) (b:List V),d=[.ref l,.ref p]/\H p=some (.lst b)/\b.length<=100000/\Pk3 H l/\∀ t c a,c.Perm b->a t=some (.tup c)->Pk3 a l->But l H a->Q (.ref t) a
theorem qN {ys:List V}{f:List Nat}(p:ys.Perm (zU f)):∃ ds:List Nat,ys=zU ds/\ds.Perm f:=by
 have key:∀ {ys g:List V},ys.Perm g->∀ {f:List Nat},g=zU f->∃ ds:List Nat,ys=zU ds/\ds.Perm f:=by
  intro ys g p
  induction p with
  | nil=>intro f e;cases f with
   | nil=>exact⟨[],rfl,.refl _⟩
   | cons a b=>cases e
  | cons b _ ih =>
   intro f e
   cases f with
   | nil=>cases e
   | cons a g =>
    injection e with j e2;obtain⟨cs,i,h⟩:=ih e2
    exact⟨a::cs,by rw[i,j];rfl,h.cons _⟩
  | swap b c l =>
   intro f e
   cases f with
   | nil=>cases e
   | cons a g=>cases g with
    | nil=>cases e
    | cons d g =>
     injection e with j e2;injection e2 with e2 q
     exact⟨d::a::g,by rw[j,e2,q];rfl,.swap _ _ _⟩
  | trans _ _ m k =>
   intro f e;obtain⟨cs,i,h⟩:=k e;obtain⟨ds,o,n⟩:=m i;exact⟨ds,o,n.trans h⟩
 exact key p rfl
end Bn
namespace K43
open PySem L2 Own Bn
abbrev za3:Stmt:=top 31
def eI (P:Yo)(w:YI):Sp:=λf H Q _=>∃ l as ls n,f=[.ref l]/\H l=some (.lst (as.map V.ref))/\LvsAt P w H as ls/\as.Nodup/\(∀ lv∈ls,∀ p∈lv,(∃ g e,p.1=plK g e/\e≠[])/\p.2.length=n)/\(ls.map List.length).sum<=500000/\xX 0 ls≠[] /\
 ∀ q c b a cs d,Same H d->d q=some (.tup [.int b,.ref c])->d c=some (.tup (cs.map V.int))->(-b)::a::cs∈xX 0 ls->(∀ x∈xX 0 ls,leR ((-b)::a::cs) x)->Q (.ref q) d
section
variable {P:Yo}{w:YI}{K:Jl}{mg:Str->Option Jo}{base:YP}
theorem aO:FnScope ["levels","turned","balls","counts"] ["levels"] (zQ za3):=by trivial
theorem zbp {f:JI}{fd:Yl}(F:Fun K "farthest" "farthest" za3 f fd) (G:Mgs mg):FnOk P w K mg base CX0 1 f fd ["levels"] (eI P w):=by
 refine F.ok aO (λvs H Q E h=>?_) (λba A outer s H vs Q E hr h=>?_)
 ·obtain⟨l,as,ls,n,rfl,_⟩:=h
  rfl
 obtain⟨l,as,ls,n,rfl,hl,D,W,ao,a9,a0,k⟩:=h;refine⟨_,(@zE _ _ _ _ _ (@yJ _ _ _ _ _ _ (du (@zX _ _ _ _ _ _ _ _ _ (qp rfl true hr.units) rfl G.min rfl (@zA _ _ _ _ _ (@zbg _ _ _ _ _ _ none _ _ _ (jq P w (fw 1)) (kh K 2 (uO (xT 0) (uO (xT 1) bQ))) (kh K 2 (uO (xT 2) (uO (xT 3) bQ))) _ _ ["balls","level","place","counts"] [none,none,none,none] rfl (@jG _ _ _ _ _ _ _ _ true rfl G.enum (@zA _ _ _ _ _ (@pvb _ 0 _ _ rfl) zC rfl) rfl) (CapOk.of (by kernel_rfl)) (λ_ _ _ _ _=>(@yK _ _ _ _ _ _ rfl (@zP _ _ _ _ _ (@zN _ _ 0 _ (show (["balls","level","place","counts"]:List Str).Nodup from by decide +kernel) rfl (.inl rfl) (.inr rfl)) (@zP _ _ _ _ _ (@zN _ _ 1 _ (show (["balls","level","place","counts"]:List Str).Nodup from by decide +kernel) rfl (.inl rfl) (.inr rfl)) zw rfl) rfl) rfl rfl)) (λ_ _ _ _ _=>(qM (@pvb _ 1 _ _ rfl))) (λ_ _ _ _ _=>(@yK _ _ _ _ _ _ rfl (@zP _ _ _ _ _ (@zN _ _ 2 _ (show (["balls","level","place","counts"]:List Str).Nodup from by decide +kernel) rfl (.inl rfl) (.inr rfl)) (@zP _ _ _ _ _ (@zN _ _ 3 _ (show (["balls","level","place","counts"]:List Str).Nodup from by decide +kernel) rfl (.inl rfl) (.inr rfl)) zw rfl) rfl) rfl rfl)) (λ_ _ _ _ _=>xh) (λ_ _ _ _ _=>(@zi _ _ _ _ _ (@zA _ _ _ _ _ (@zaz _ _ _ _ _ _ fZ (@zX _ _ _ _ _ _ _ _ (zce K false) (qt rfl false) rfl G.max rfl (@zA _ _ _ _ _ (@zY _ _ _ _ _ _ (zbb K) yP (@pvb _ 2 _ _ rfl) zH (λ_ _=>rfl)) zC rfl) (by decide) (by decide) rfl rfl)) (@zA _ _ _ _ _ (@pvb _ 0 _ _ rfl) (@zA _ _ _ _ _ (@pvb _ 3 _ _ rfl) zC rfl) rfl) rfl))) (by intro _;rfl) (by intro _ _;rfl)) zC rfl) (by decide) (by decide) rfl rfl)) (@yK _ _ _ _ _ _ rfl (@zP _ _ _ _ _ (@zN _ _ 1 _ aO.nd rfl (.inl rfl) (by trivial)) (@zP _ _ _ _ _ (@zN _ _ 2 _ aO.nd rfl (.inl rfl) (by trivial)) (@zP _ _ _ _ _ (@zN _ _ 3 _ aO.nd rfl (.inl rfl) (by trivial)) zw rfl) rfl) rfl) rfl rfl) rfl rfl rfl) (@zM _ _ _ (@zV _ _ _ _ (@zi _ _ _ _ _ (@zA _ _ _ _ _ (@zaz _ _ _ _ _ _ fZ (@pvb _ 1 _ _ rfl)) (@zA _ _ _ _ _ (@pvb _ 3 _ _ rfl) zC rfl) rfl))))),?_⟩;have al:as.length=ls.length:=YG D;refine zB ⟨l,_,rfl,SqL.of hl,λR g=>?_⟩;have s1:=zD g (.lst []);refine gK (b:=true) (xs:=as.map V.ref) (λi acc σ d=>(∃ v0 v1 Y X,σ=[v0,v1,Y,X])/\(∀ b u,b∉as.take i->H b=some u->d b=some u)/\(∀ a∈as.take i,∃ o xs,H a=some (DN P w a xs)/\d a=some (.frz o (DN P w a xs)))/\d R=some (.lst acc)/\∃ bs:List JI,acc=bs.map V.ref/\TrisAt d bs (xX 0 (ls.take i))) ⟨⟨_,_,_,_,rfl⟩,λb u _ e=>s1 _ _ e,λa ha=>absurd ha Ju,zG,[],rfl,.nil⟩ (λi acc σ d z=>⟨z.2.2.2.1,SqL.of (z.2.1 _ _ (λy=>?_) hl)⟩) ?_ ?_
 ·obtain⟨xs,e⟩:=kQ D (YW y)
  rw[hl]at e;cases e
 ·rintro i acc σ d x T hx hT ⟨⟨v0,v1,Y,X,rfl⟩,Z,z2,h2,bs,rfl,I⟩
  rw[JN]at hx;obtain⟨a,ea,rfl⟩:=YN.mp hx;have ia:i<as.length:=(Jb.mp ea).1;obtain⟨lv,el,xs,hd,le⟩:=nN D ea;have a4:lv∈ls:=JD el;have am:a∈as:=JD ea;have aE:=ay W ea;have tk:as.take (i+1)=as.take i++[a]:=by rw[<- Ys ia,(Jb.mp ea).2]
  have tl:ls.take (i+1)=ls.take i++[lv]:=by rw[<- Ys (show i<ls.length by lia),(Jb.mp el).2]
  have d2:=Z a _ aE hd
  have t2:Tups H d:=λb C e=>Z b _ (λz=>by
   obtain⟨O,q⟩:=kQ D (YW z)
   rw[e]at q;cases q) e
  have S:R≠a:=λz=>by rw[z,hd]at g;cases g
  have s3:=zD hT (.tup [.int i,.ref a]);refine⟨T,_,rfl,SqT.of zG,rfl,_,_,rfl,_,_,rfl,rfl,?_⟩;refine zB ⟨a,xs,rfl,s3 _ _ d2,λo=>?_⟩;have aT:a≠T:=zJ d2 hT;have z4:L2.upd (L2.upd d T (.tup [.int i,.ref a])) a (.frz o (DN P w a xs)) a=some (.frz o (DN P w a xs)):=zG;have k4:∀ b u,b≠a->d b=some u->L2.upd (L2.upd d T (.tup [.int i,.ref a])) a (.frz o (DN P w a xs)) b=some u:=λb u n e=>by rw[zK n];exact s3 _ _ e
  generalize L2.upd (L2.upd d T (.tup [.int i,.ref a])) a (.frz o (DN P w a xs))=H4 at *;have bl:=YG I;rw[iK]at bl;have ll:=le.len
  have a8:bs.length+lv.length<=500000:=by
   have:=eE ls (i+1);rw[tl,JV,List.sum_append,<- bl]at this;have q:bs.length+lv.length<=(ls.map List.length).sum:=this;lia
  have t4:Tups H H4:=λb C e=>k4 b _ (λz=>by rw[z,hd]at e;cases e) (t2 _ _ e);refine kU (λj acc σ B=>(∃ Y X,σ=[some (.int i),some (.ref a),Y,X])/\(∀ b u,b≠R->H4 b=some u->B b=some u)/\B R=some (.lst acc)/\∃ cs:List JI,acc=(bs++cs).map V.ref/\TrisAt B cs ((lv.take j).map (iT i))) ⟨⟨_,_,rfl⟩,λb u _ e=>e,k4 _ _ S h2,[],by rw[JU],.nil⟩ (λj acc σ B z=>⟨z.2.2.1,z.2.1 _ _ S.symm z4⟩) ?_ ?_
  ·rintro j p acc σ B U m hU ⟨⟨Y,X,rfl⟩,J,h5,cs,rfl,tc⟩
   obtain⟨r,c,ep,kp,ec,hc⟩:=le.at_ m;have jl:=(Jb.mp m).1;obtain⟨⟨ts,hs,a7,a6⟩,rn⟩:=ao lv a4 _ (JD ep);have N:p.1=plK ts hs:=a7;rw[N]at kp;obtain⟨t,u,L,ht,hu⟩:=zay kp;have ab:∀ {b:JI}{C:List V},H b=some (.tup C)->b≠R:=λe z=>by rw[z,g]at e;cases e
   have s6:=zD hU (.tup [.ref p.2.1,p.2.2]);have t6:Tups H (L2.upd B U (.tup [.ref p.2.1,p.2.2])):=λb C e=>s6 _ _ (J _ _ (ab e) (t4 _ _ e));refine⟨U,_,rfl,SqT.of zG,rfl,_,_,rfl,_,_,rfl,rfl,?_⟩;refine zB ⟨p.2.1,_,_,_,rfl,rfl,SqT.of (t6 _ _ L),rfl,?_⟩;refine⟨u,hs,rfl,SqT.of (t6 _ _ hu),Zr.mpr a6,λM mM lM=>⟨M,rfl,zB (zB ⟨by show 3<=sizeLine;decide,λq hq=>?_⟩)⟩⟩;have s7:=zD hq (.tup [.int (-M),.int i,p.2.2]);have a5:B q=none:=oC s6 hq;have l7:=s7 _ _ (s6 _ _ h5);have cl:=YG tc;rw[Je,Jw]at cl;refine⟨l7,?_,nx jl ⟨⟨_,_,rfl⟩,λb v n e=>?_,zG,cs++[q],?_,?_⟩⟩
   ·rw[Je,Jd,JB];lia
   ·rw[zK n];exact s7 _ _ (s6 _ _ (J b v n e))
   ·rw[<- JT,JV (l₁:=bs++cs)];rfl
   ·rw[<- Ys (show j<lv.length by lia),JV (l₁:=lv.take j),List.map_singleton]
    have t8:Tups B (L2.upd (L2.upd (L2.upd B U (.tup [.ref p.2.1,p.2.2])) q (.tup [.int (-M),.int i,p.2.2])) R (.lst ((bs++cs).map V.ref++[.ref q]))):=λb C e=>by
     rw[zK (x9 e h5 λz=>by cases z)];exact s7 _ _ (s6 _ _ e)
    refine Paired.snoc (TrisAt.tups t8 tc) ⟨-M,i,c,r,?_,t8 _ _ (J _ _ (ab hc) (t4 _ _ hc)),?_⟩
    ·rw[zK (zJ h5 a5).symm,zG,ec]
    ·have:lv[j]'(by lia)=(p.1,r):=(Jb.mp ep).2
     rw[this];show _::_::r = -M::(i:Int)::r;rw[N,show uG (bM (plK ts hs))=M from tV mM lM]
  ·rintro acc σ B ⟨⟨Y,X,rfl⟩,J,h5,cs,rfl,tc⟩
   rw[ll,Y5]at tc;refine nx (by rw[Je];exact ia) ⟨⟨_,_,_,_,rfl⟩,λb v n e=>?_,λb L=>?_,h5,bs++cs,rfl,?_⟩
   ·rw[tk]at n
    have n1:b∉as.take i:=λz=>n (Yc _ z);have n2:b≠a:=λz=>n (by rw[z];exact Jz _ (.head _));exact J _ _ (λz=>by rw[z,g]at e;cases e) (k4 _ _ n2 (Z _ _ n1 e))
   ·rw[tk]at L
    rcases Jv.mp L with z|z
    ·obtain⟨o',C,e1,e2⟩:=z2 b z
     exact⟨o',C,e1,J _ _ (λy=>by rw[y,g]at e1;cases e1) (k4 _ _ (λy=>aE (y ▸ z)) e2)⟩
    ·rw[Jc.mp z]
     exact⟨o,xs,hd,J _ _ S.symm z4⟩
   ·rw[tl,tZ]
    refine sv (TrisAt.tups (λb C e=>J _ _ (λz=>by rw[z,h2]at e;cases e) (k4 _ _ (λz=>by rw[z,d2]at e;cases e) e)) I) ?_;rw[Zh,Jw,Zd (by lia)];exact tc
 ·rintro acc σ d ⟨-,Z,z2,h2,bs,rfl,I⟩
  rw[Je,Y5]at Z z2;rw[Je,JM (by lia)]at I
  have bne:bs≠[]:=λz=>by
   rw[z]at I;have:=YG I;exact a0 (Zs.mp this.symm)
  obtain⟨b,r,eb,L,rm,a3⟩:=gx I bne;obtain⟨i,j,c,x,h3,h4,rfl⟩:=L;refine⟨R,_,2,zao d,rfl,SqL.of h2,by rw[Je];exact Zr.mpr bne,by decide,aB (n:=n+2) I (λr hr=>?_),?_⟩
  ·obtain⟨i,lv,p,h1,h2,rfl⟩:=uX hr
   have:=(ao lv (JD h1) p h2).2;show p.2.length+1+1=_;lia
  rw[eb]
  obtain⟨O,ez,hz⟩:=nK (p:=λa xs=>H a=some (DN P w a xs)/\∃ o,d a=some (.frz o (DN P w a xs))) λa ha=>by
   obtain⟨o,xs,e1,e2⟩:=z2 a ha;exact⟨xs,e1,o,e2⟩
  refine⟨O,by rw[ez];exact W,λp m=>⟨p.2,(hz p m).1⟩,λp m=>(hz p m).2,?_⟩;have no:∀ b,b∉as->vP P w O d b=d b:=λb L=>tj λp m z=>L (by rw[<- ez];exact Jy.mpr ⟨p,m,z⟩)
  have s9:Same H (vP P w O d):=λb u e=>by
   by_cases z:b∈as
   ·rw[<- ez]at z
    obtain⟨p,m,rfl⟩:=Jy.mp z;rw[ou (by rw[ez];exact W) m,<- (hz p m).1];exact e
   ·rw[no b z];exact Z b u z e
  have t9:Tups d (vP P w O d):=λb C e=>by
   rw[no b λz=>?_]
   ·exact e
   ·obtain⟨o,xs,_,e2⟩:=z2 b z
    rw[e]at e2;cases e2
  show kh _ _ _ _ _ (vP P w O d) _;generalize vP P w O d=H3 at *;refine⟨b,_,rfl,SqT.of (t9 _ _ h3),rfl,_,_,rfl,_,_,rfl,_,_,rfl,rfl,?_⟩;refine zB ⟨i,rfl,zB ⟨by show 2<=sizeLine;decide,λq hq=>?_⟩⟩;have aa:=zD hq (.tup [.int (-i),.ref c]);refine k q c (-i) j x _ (s9.trans aa) zG (aa _ _ (t9 _ _ h4)) ?_ ?_
  ·rw[Int.neg_neg];exact rm
  ·rw[Int.neg_neg];exact a3
end
end K43
namespace L2
open PySem PySem.Spec PyProof.Rows
theorem ga {M:Model}{A:YO}{E:Jo->JO->Prop}{K:Jl}{s:JO}{c L:JI}{a:Obj}{cls:Jo}{b:Bool}{Q:Bool->JO->Prop}(X:K.In s.heap)(f:s.heap.get? c=some a)(g:a.cls=cls)(e:PySem.W.exmOne K cls (.ref L)=some b)(q:Q b s):wpAny M A (excMatches (.ref c) (.ref L)) Q E s :=
 PySem.W.exm_one X (λl i j h k d=>wpAny_typeOf_ref (k _ _ f) (by rw[g];exact d)) e A Q E s (λ_ _ z=>z) q
abbrev Cx.held (X:Cx)(e:JI):Cx:={ X with A:=X.A.mark (some (.ref e)),calm:=false }
section
variable {X:Cx}{pins:List (JI × Obj)}{σ:St}{H:Hp}{s:JO}
theorem Cx.Ok.held (ok:X.Ok)(e:JI):(X.held e).Ok:=⟨ok.mod,ok.kind,ok.glob,ok.blt,ok.above,ok.inj,ok.has,ok.cab,(λz=>nomatch z),ok.frames,ok.stk,ok.exf,ok.bs,ok.bsz,ok.noex,ok.exfs,ok.funs,ok.frf⟩
theorem Inv.held (I:Inv X pins σ H s)(e:JI):Inv (X.held e) pins σ H s:=⟨I.ok.held e,I.os,I.bare,I.base,I.loc,I.cell,I.free,I.freeC,I.pin,I.hok,I.len⟩
theorem Inv.unheld {e:JI}(ok:X.Ok)(I:Inv (X.held e) pins σ H s):Inv X pins σ H s:=⟨ok,I.os,I.bare,I.base,I.loc,I.cell,I.free,I.freeC,I.pin,I.hok,I.len⟩
def behind (i:Nat)(D:Ends):Ends:={ nx:=λσ H=>D.nx (σ.set i none) H,rt:=D.rt,bk:=λσ H=>D.bk (σ.set i none) H,ct:=λσ H=>D.ct (σ.set i none) H }
end
structure AtTry (X:Cx):Prop where
 st:X.stack=X.env::X.outer/\X.env.frame=some X.env.locals/\X.ex=[]
 nox:∀ e s,X.xe e s->False
structure XAt (X:Cx) (cn:Str) (L:JI):Prop where
 gl:Gl X cn
 mg:X.mg cn=some (.ref L)
 db:(cn == ("__debug__":Str))=false
section
variable {X:Cx}{k:Nat}{f:JI}{fd:Yl}{ps:List Str}{sp:Sp}{x:Str}{p pos:Pos}{e:Expr}{es:List Expr}{t:TA}
theorem zcw {pins:List (JI × Obj)}{s:JO}{σ:St}{H:Hp}{Q:VK}{E:XK}(F:FnOk X.prog X.w X.K X.mg X.base (CX1 X.prog X.w) k f fd ps sp) (l:Room k X.A) (v:Gl X x) (m:X.mg x=some (.ref f)) (o:PySem.W.keepIn X.K (.ref f)=true) (hb:Binds X.K fd ps [])
  (j:∀ e s,X.xe e s->False) (ha:PA X (e::es) t) (i:(x == ("__debug__":Str))=false) (w:starEach (e::es) X.env=(false,eval e X.env)::starEach es X.env) (g:(backTo pos (starEach es X.env)).any (·.1)=false)
  (I:Inv X pins σ H s) (h:t σ H λvs a=>sp vs a Q E) :
  wpAny (model X.prog X.w) X.A (eval (.Call (.Name x p) (e::es) [] pos) X.env) (EP X pins σ Q) (λev s'=>∃ a s1,Inv X pins σ a s1/\CX1 X.prog X.w X.stack a s1 E ev s') s:=by
 refine YK (uH I v m ?_ i);refine PySem.W.callWith_K (h₀:=X.base) I.ok.mod.kin o (JK (ha pos pins s σ H _ I h) (λd s1 ⟨vs,a,c,r,q⟩=>⟨c.kIn,?_⟩) λev s1 z=>(j ev s1 z).elim) w g;have n:(d++([]:List Jo)).length=ps.length:=by rw[JU,<- r.length];exact F.len _ _ _ _ q
 have bd:=hb s1 d c.kIn n;rw[JU]at bd;refine wpAny_call (Wf (F.run X.A X.stack s1 a ⟨d,[]⟩ d vs Q E l c.env0 bd r q) λres s' b=>?_)
 cases res with
 | error ev=>exact⟨a,s1,c,b⟩
 | ok y =>
  cases y with
  | ret u=>exact c.after b
  | next=>exact b.elim
  | brk=>exact b.elim
  | cont=>exact b.elim
end
abbrev bmV:List Jo:=[.type "ValueError",.type "Exception",.type "BaseException",.type "object"]
theorem e7 {M:Model}{A:YO}{E:Jo->JO->Prop}{s:JO}{env:Env}{x:Sem Jo}{Q:Flow->JO->Prop}{nm q:Str}{C N:JI}{bs bm sub:List Jo}{hdct ab:Bool}{sn:List Str}{col:Option Bool}{dd:Option JI}{k0 k1 k2 k3 k5:Option Jo}{newId:String}
  (hb:(Value.ref C::bm).contains (.type "BaseException")=true) (m:A.handled=none)
  (h:wpAny M A x (λv s1=>∃ e t dx,v=.ref e/\s1.heap.get? C=some (excClassObj nm q C N bs bm hdct sn sub ab col dd k0 k1 k2 k3 k5 newId)/\s1.heap.get? e=some { cls:=.ref C,dict:=dx,data:=.fields #[.ref t,.none,.none,.none,.bool false,.none] }/\E (.ref e) s1) E s):wpAny M A (raiseStmt env (some x) none) Q E s:=by
 unfold raiseStmt;refine J0 (JK h (λv s1 z=>?_) λ_ _ z=>z);obtain⟨e,t,dx,rfl,l,f,n⟩:=z;obtain⟨d,g,i,c,os⟩:=s1
 have a:∀ {α:Type}{k:Bool->Sem α}{b:α->JO->Prop},wpAny M A (k false) b E ⟨d,g,i,c,os⟩->wpAny M A (isType (.ref e) >>= k) b E ⟨d,g,i,c,os⟩:=λz=>by
  unfold isType loadHead;exact J0 (J0 (wpAny_loadPart f (J9 z)))
 have j:∀ {α:Type}{k:Bool->Sem α}{b:α->JO->Prop},wpAny M A (k true) b E ⟨d,g,i,c,os⟩->wpAny M A (isInstance (.ref e) (.type "BaseException") >>= k) b E ⟨d,g,i,c,os⟩:=λz=>by
  unfold isInstance;refine J0 (J0 (wpAny_typeOf_ref f ?_));show wpAny _ _ (isSubtype (.ref C) (.type "BaseException")) _ _ _;refine wpAny_isSubtype_exc l ?_;rw[hb];exact z
 refine J0 (J9 ?_);refine J0 (Yd ?_);unfold excFromValue isExcClass;refine J0 (a (J9 ?_));show wpAny _ _ (isInstance (.ref e) (.type "BaseException") >>= _) _ _ _;refine j (J9 ?_);show wpAny _ _ (isType (.ref e) >>= _) _ _ _;refine a ?_;show wpAny _ _ (raisedInstance (.ref e) >>= _) _ _ _;unfold raisedInstance;refine J0 (J0 (wpAny_typeOf_ref f ?_));show wpAny _ _ (typeOf (.ref C) >>= _) _ _ _;refine J0 (wpAny_typeOf_ref l ?_);show wpAny _ _ (if (Value.type "type" == Value.type "type")=true then _ else _) _ _ _;rw[Jm (by decide)];refine J9 ?_;unfold setFlight;refine J0 (J0 (Zf f rfl rfl ?_));show wpAny _ _ (if (Value.none != Value.none)=true then _ else _) _ _ _;rw[Jf (by decide)];exact J9 (wpAny_raiseNew_none m n)
theorem aw {K:Jl}{h:YP}{N:JI}{m:Str->Option Jo}{n:Str}(X:K.In h)(G:h.Ns N m)(e:PySem.W.nsIn K N n=some none):m n=none:=by
 obtain⟨ob,a,i,go,j,_,g⟩:=G;unfold PySem.W.nsIn at e;rw[<- g n];unfold nsFind findBy
 cases b:K.lookup N with
 | none=>rw[b]at e;cases e
 | some d =>
  have same:=Jp ((X _ _ b).symm.trans go);subst same;obtain⟨p,o,k,l⟩:=d;obtain rfl:k=.dict a i:=j;rw[b]at e;replace e:(match a.toList.find? (·.key.isStr n) with|some c=>some (some c.val)|none=>if a.toList.any (·.refKey) then none else some none)=some none:=e;rw[<- Array.find?_toList]
  cases f:a.toList.find? (·.key.isStr n) with
  | none=>rfl
  | some c=>rw[f]at e;cases e
theorem ObjOk.there {P:Yo}{w:YI}{H:Hp}{h:YP}{a:JI}{o:HO}(x:ObjOk P w H h a o):∃ u,h.get? a=some u:=by
 cases o with
 | lst c=>obtain⟨_,_,_,_,e⟩:=x;exact⟨_,e⟩
 | tup c =>
  obtain⟨_,_,_,p⟩:=x;obtain⟨u,e,_⟩:=p.tup
  exact⟨u,e⟩
 | dK b=>obtain⟨_,_,_,_,u,_,_,e,_⟩:=x;exact⟨u,e⟩
 | dT b=>obtain⟨_,_,_,_,u,_,_,e,_⟩:=x;exact⟨u,e⟩
 | set S n=>obtain⟨u,_,_,_,e,_⟩:=x;exact⟨u,e⟩
 | ins C j fs=>obtain⟨_,_,_,e,_⟩:=x;exact⟨_,e⟩
 | own y=>exact x
 | xd fs=>obtain⟨_,⟨u,_,_,e,_⟩,_⟩:=x;exact⟨u,e⟩
 | rng lo i=>obtain⟨_,_,_,e⟩:=x;exact⟨_,e⟩
 | frz ob u=>exact⟨_,(show h.get? a=some ob/\_ from x).1⟩
 | tbl g=>exact⟨_,(show h.get? a=some _ from x)⟩
 | met f y=>exact⟨_,(show h.get? a=some _ from x)⟩
 | ext d=>obtain⟨_,e,_⟩:=x;exact e
structure XPln (K:Jl) (C L:JI):Prop where
 cl:∃ nm q N bs hd sn sub ab col dd k0 k1 k2 k3 k5,K.lookup C=some (excClassObj nm q C N bs (.ref L::bmV) hd sn sub ab col dd k0 k1 k2 k3 k5 "ValueError.__new__")/\PySem.W.nsOkIn K N=true/\PySem.W.nsIn K N "__init__" = some none
 tl:PySem.W.tailIn K bmV (.ref L::bmV)=true
 kp:PySem.W.keepIn K (.ref C)=true
def aF (C:JI)(E:XK)(t:TA):TS:=λ_ σ H=>t σ H λa b=>a.length<=sizeLine/\E (.ref C) none b
section
variable {P:Yo}{w:YI}{K:Jl}{mg:Str->Option Jo}{base:YP}{N:List Str}{qual:Str}{scope:Scope}{fn:JI}{cd:Jo}{A:YO}{outer:List Env}{s:JO}{H:Hp}{E:XK}
theorem iX {C L:JI}{cn:Str}{np cpos pos:Pos}{a:Expr}{t:TA}(O:XPln K C L) (gl:Gl (wg (CX1 P w) P w K mg base N qual scope fn cd A outer s H E) cn) (T:mg cn=some (.ref C)) (ha:PA (wg (CX1 P w) P w K mg base N qual scope fn cd A outer s H E).nox [a] t)
  (m:(cn == ("__debug__":Str))=false:=by decide) (U:starEach [a] (wg (CX1 P w) P w K mg base N qual scope fn cd A outer s H E).env=[(false,eval a (wg (CX1 P w) P w K mg base N qual scope fn cd A outer s H E).env)]:=by rfl) :
  PS (wg (CX1 P w) P w K mg base N qual scope fn cd A outer s H E) (.Raise (some (.Call (.Name cn np) [a] [] cpos)) none pos) (aF C E t):=by
 intro pins J σ Z D I h;obtain⟨nm,q,B,bs,V,sn,sub,ab,col,dd,k0,k1,k2,k3,k5,x,i,l⟩:=O.cl;rw[arm_exec_Raise];refine J0 (YL ?_);refine e7 (C:=C) (nm:=nm) (q:=q) (N:=B) (bs:=bs) (bm:=.ref L::bmV) (sub:=sub) (hdct:=V) (ab:=ab) (sn:=sn) (col:=col) (dd:=dd) (k0:=k0) (k1:=k1) (k2:=k2) (k3:=k3) (k5:=k5) (newId:="ValueError.__new__") (by rw[List.contains_cons,List.contains_cons];simp[bmV]) (I.ok.hd rfl) ?_;refine J0 (JK (?_:wpAny _ _ (eval (.Call (.Name cn np) [a] [] cpos) _) _ _ _) (λv s3 z=>J0 (YL (J9 z))) λ_ _ z=>z);refine YK (uH I gl T ?_ m);refine PySem.W.callWith_K (h₀:=base) I.ok.mod.kin O.kp (JK (ha cpos pins J σ Z _ (I.wish _) h) (λF u z=>?_) λ_ _ z=>z.elim) U rfl;obtain⟨vs,k,c,r,n,M⟩:=z;have c:=c.unwish;have b:=c.kIn;refine⟨b,?_⟩;have f:Heap.Ns u.heap B _:=.of_isNs (PySem.W.isNs_of_in b i);obtain⟨S,g,d,p,os⟩:=u;refine wpAny_call_exc_subU PySem.F.excBase_ValueError (by decide) PySem.F.excBase_ValueError (PySem.W.tail_of_in b O.tl) (b _ _ x) f (aw b f l) (λW e made=>?_) (by show F.length<=sizeLine;rw[<- r.length];exact n);obtain⟨G,ge,_,_⟩:=made.there;have y:S.get? e=none:=made.new
 have R:s.heap.get? e=none:=by
  cases q:s.heap.get? e with
  | none=>rfl
  | some o =>
   obtain⟨Q,j⟩:=c.base.there e o q (λz=>nomatch z);exact absurd (y.symm.trans j) (λz=>nomatch z)
 have X:k e=none:=by
  cases q:k e with
  | none=>rfl
  | some o =>
   obtain⟨Q,j⟩:=(c.hok e o q).there;exact absurd (y.symm.trans j) (λz=>nomatch z)
 have Y:Inv (wg (CX1 P w) P w K mg base N qual scope fn cd A outer s H E) pins σ k ⟨W,g,d,p,os⟩:=c.kept (t':=p) made.keeps;exact⟨e,G,none,rfl,made.keeps _ _ (b _ _ x),ge,bx Y ge rfl rfl R X M⟩
end
def jA (K:Jl)(L:JI)(ts:TS)(D:Ends)(σ:St):XK:=λcls b a=>∃ C,cls=.ref C/\PySem.W.exmOne K (.ref C) (.ref L)=some true/\ts D σ a
section
variable {X:Cx}{pins:List (JI × Obj)}{σ:St}
theorem zap {L:JI}{cn:Str}{W:Stmt}{c:List Stmt}{np A:Pos}{ts:TS}{D:Ends}{O:Hp}{s1 s2:JO}{ev:Jo}{rest:List ExceptHandler}(I:Inv X pins σ O s1) (hx:CX1 X.prog X.w X.stack O s1 (jA X.K L ts D σ) ev s2)
  (a:X.stack=X.env::X.outer/\X.env.frame=some X.env.locals/\X.ex=[]) (gC:Gl X cn) (mC:X.mg cn=some (.ref L)) (R:(cn == ("__debug__":Str))=false)
  (hs:∀ e,PSs (X.held e).nox (W::c) ts) {E:Jo->JO->Prop} :
  wpAny (model X.prog X.w) X.A (noteFrame ev X.env) (λ_ s3=>wpAny (model X.prog X.w) X.A (setFlight ev none) (λ_ Z=>wpAny (model X.prog X.w) X.A (handleBy ev X.env (.ExceptHandler (some (.Name cn np)) none (W::c) A::rest)) (SP X pins D) E Z) E s3) E s2:=by
 obtain⟨M,T,cls,dx,g,rfl,os,bare,un,w,fl,⟨n1,n2⟩,⟨f1,f2⟩,C,rfl,G,k⟩:=hx;have J:Inv X pins σ g s2:=I.call' os un w bare λb z=>absurd z (by simp);have fr:X.A.frames=some (X.env::X.outer):=by rw[<- a.1];exact I.ok.frames
 have fu:s2.heap.FunFrames X.base (X.env::X.outer):=by rw[<- a.1];exact J.stack
 refine cX (B:=X.base) fr fu a.2.1 fl λh3 N s V S=>zbz S λK p x=>?_
 have t:s1.heap.get? N=none:=by
  cases q:s1.heap.get? N with
  | none=>rfl
  | some o =>
   obtain⟨o',d⟩:=un.there N o q (by simp);exact absurd (Jn d) (Nat.not_lt.mpr V)
 have U:∀ b,(b=M\/b=T)->s1.heap.get? b=none/\g b=none:=by
  rintro b (q|q)
  ·rw[q];exact⟨n1,f1⟩
  ·rw[q];exact⟨n2,f2⟩
 have y:g N=none:=J.hok.fresh V;have m:Un (frs X.stack) [] O g s1.heap K:=(un.stp s (λb q=>(U b q).1) λb o _ P=>by rw[a.1];exact P).stp p (λb q=>by rw[q];exact t) (λ_ _ _ z=>nomatch z);have h:HOk X.prog X.w g K:=HOk.stp (HOk.stp w s (λb q=>(U b q).2) λb P=>J.stkFree b (by rw[a.1];exact P)) p (λb q=>by rw[q];exact y) λ_ z=>nomatch z;have Y:Inv X pins σ g { s2 with heap:=K }:=I.call' (s':={ s2 with heap:=K }) os m h bare λb z=>absurd z (by simp);obtain⟨oe,vs,oT,aa,he,⟨hc,ab⟩,hd,h1,ne,hT,ao,aE⟩:=id x;refine wpAny_handleBy_cons (codeAny_handlers_test (uH (Y.held M) gC mC (ga (b:=true) Y.kIn he hc G ?_) R)) (by intro q;cases q);refine codeAny_handlers_suite (zbz x λH n aT=>?_);have Q:Un (frs X.stack) [] O g s1.heap H:=m.stp n (λb q=>by rw[q];exact t) (λ_ _ _ z=>nomatch z);have F:HOk X.prog X.w g H:=HOk.stp h n (λb q=>by rw[q];exact y) λ_ z=>nomatch z;have J5:Inv X pins σ g { s2 with heap:=H }:=I.call' (s':={ s2 with heap:=H }) os Q F bare λb z=>absurd z (by simp);refine JK (hs M pins _ _ _ D ((J5.held M).wish _) k) (λf s8 q=>?_) λ_ _ z=>z.elim;have ok:=I.ok
 cases f with
 | next=>obtain⟨l,j,i,d⟩:=q;exact⟨_,j,i.unwish.unheld ok,d⟩
 | brk=>obtain⟨l,j,i,d⟩:=q;exact⟨_,j,i.unwish.unheld ok,d⟩
 | cont=>obtain⟨l,j,i,d⟩:=q;exact⟨_,j,i.unwish.unheld ok,d⟩
 | ret u=>obtain⟨v,l,j,i,r,d⟩:=q;exact⟨v,_,j,i.unwish.unheld ok,r,d⟩
end
section
variable {X:Cx}{k:Nat}{f L:JI}{fd:Yl}{ps:List Str}{sp:Sp}{x cn:Str}{p cpos epos np hpos pos:Pos}{e:Expr}{es:List Expr}{t:TA}{b0:Stmt}{suite:List Stmt}{ts:TS}{rest:List ExceptHandler}
def zaN (K:Jl)(j:Nat)(L:JI)(sp:Sp)(t:TA)(ts:TS):TS:=λD σ H=>t σ H λa c=>sp a c (λv b=>D.nx (σ.set j (some v)) b) (jA K L ts D σ)
theorem df {j:Nat}{y:Str}{g:Pos}(W:AtTry X) (F:FnOk X.prog X.w X.K X.mg X.base (CX1 X.prog X.w) k f fd ps sp) (r:Room k X.A) (B:Gl X x) (u:X.mg x=some (.ref f)) (w:PySem.W.keepIn X.K (.ref f)=true) (hb:Binds X.K fd ps []) (ha:PA X (e::es) t)
  (C:XAt X cn L) (G:X.N.Nodup) (A:X.N[j]?=some y) (i:X.env.scope.names.lookup y=some .local) (hs:∀ e,PSs (X.held e).nox (b0::suite) ts)
  (d:(x == ("__debug__":Str))=false:=by decide) (E:starEach (e::es) X.env=(false,eval e X.env)::starEach es X.env:=by rfl) (c:(backTo cpos (starEach es X.env)).any (·.1)=false:=by rfl)
  (q:swapsWith (.Call (.Name x p) (e::es) [] cpos) (some (.Name y g)) epos.line X.env=pure false:=by rfl) :
  PS X (.Try [.Assign [.Name y g] (.Call (.Name x p) (e::es) [] cpos) epos] (.ExceptHandler (some (.Name cn np)) none (b0::suite) hpos::rest) [] [] pos) (zaN X.K j L sp t ts):=by
 intro pins s σ H D I h;refine PySem.wpAny_Try_except (wpAny_execs_cons (wpAny_Assign_Name (JK (zcw F r B u w hb W.nox ha d E c I h) (λv n ⟨z,l,b,o,a⟩=>?_) λev m ⟨l,n,b,a⟩=>zap b a W.st C.gl C.mg C.db hs) q));exact xD b G A (.inl i) o (λm J=>Wa (Wa ⟨_,l,J,a⟩)) (.inr i)
end
end L2
namespace L2
open PySem PySem.Spec PyProof.Rows Own Bn
structure Rw (moves:List Nat) (n:Nat) (t:Int) (row:List Int):Prop where
 len:row.length=n
 nn:∀ x∈row,0<=x
 sum:row.sum=t
 oth:∀ i,i<n->i∉moves->row.getD i 0=0
theorem Rw.snoc {moves:List Nat}{n:Nat}{t m:Int}{row:List Int}(h:Rw moves n (t-m) row)(b:0<=m)(a:m=0\/n∈moves):Rw moves (n+1) t (row++[m]):=by
 refine⟨by rw[Jd,h.len];rfl,λx c=>?_,?_,λi d no=>?_⟩
 ·rcases Jv.mp c with z|z
  ·exact h.nn x z
  ·rw[Jc.mp z];exact b
 ·rw[List.sum_append,h.sum]
  show t-m+(m+0)=t
  simp_all
 ·by_cases z:i<n
  ·rw[Ja,Y0 (by rw[h.len];exact z),<- Ja];exact h.oth i z no
  ·have:i=n:=by lia
   subst this;rcases a with a|a
   ·rw[Ja,Yj (by rw[h.len];exact Jg _),h.len,Nat.sub_self];exact a
   ·exact absurd a no
theorem kT:∀ {row:List Int},(∀ x∈row,0<=x)->0<=row.sum/\∀ x∈row,x<=row.sum
 | [],_=>⟨by decide,λx b=>absurd b Ju⟩
 | a::row,h=>by
  obtain⟨h1,c⟩:=kT λx b=>h x (.tail _ b);have d:=h a (.head _);rw[List.sum_cons];refine⟨by lia,λx b=>?_⟩;rcases Jr.mp b with z|z
  ·lia
  ·have:=c x z;lia
def bnd:Nat->Nat->Nat
 | 0,_=>1
 | n+1,t=>((List.range (t+1)).map λm=>bnd n (t-m)).sum
def ku (n t i:Nat):Nat:=((List.range i).map λm=>bnd n (t-m)).sum
theorem uz (n t i:Nat):ku n t (i+1)=ku n t i+bnd n (t-i):=by
 unfold ku;rw[List.range_succ,JV,List.sum_append];rfl
theorem oU (n t:Nat){i:Nat}:∀ {j:Nat},i<=j->ku n t i<=ku n t j
 | 0,h=>by rw[show i=0 by lia];exact Jg _
 | j+1,h=>by
  by_cases z:i<=j
  ·have:=oU n t z
   rw[uz];lia
  ·rw[show i=j+1 by lia];exact Jg _
def AllAt (H:Hp)(xs:List V)(P:List Int->Prop):Prop:=∀ x∈xs,∃ b row,x=V.ref b/\H b=some (.tup (row.map V.int))/\P row
theorem AllAt.tups {H H':Hp}{xs:List V}{P:List Int->Prop}(t:Tups H H')(h:AllAt H xs P):AllAt H' xs P:=λx a=>by
 obtain⟨b,row,e,d,c⟩:=h x a;exact⟨b,row,e,t _ _ d,c⟩
theorem AllAt.app {H:Hp}{xs ys:List V}{P:List Int->Prop}(h:AllAt H xs P)(g:AllAt H ys P):AllAt H (xs++ys) P:=λx a=>by
 rcases Jv.mp a with z|z
 ·exact h x z
 ·exact g x z
theorem za9 {H:Hp}{xs:List V}{n:Nat}(h:AllAt H xs λrow=>row.length=n+1/\Small row):Rk H xs λx=>nV 0 (lU H x):=by
 refine .inr ⟨1,by decide,λx k=>?_⟩;obtain⟨b,row,rfl,a,i,rs⟩:=h x k;refine⟨?_,λy j=>?_⟩
 ·cases row with
  | nil=>cases i
  | cons f r=>exact⟨b,f,_,rfl,a⟩
 ·obtain⟨c,g,rfl,e,l,d⟩:=h y j
  show Lx H 1 (.ref b) (.ref c) (compare (nV 0 (lU H (.ref b))) (nV 0 (lU H (.ref c))));rw[wX a,wX e,bp (by simp_all) rs d];exact oH a e (by simp_all)
end L2
namespace L2
open PySem PySem.Spec PyProof.Rows Own Bn
theorem aL {a u:TS}{D:Ends}{σ:St}{H:Hp}(I:St->Hp->Prop)(key:∀ σ H,I σ H->u D σ H)(h:∀ b:Ends,(∀ σ H,I σ H->b.nx σ H)->b.rt=D.rt->a b σ H):we a u D σ H:=h { D with nx:=u D } key rfl
theorem zc6 {i:Nat}{v:V}{σ:St}{H:Hp}{a u:TS}{D:Ends}(R:VK)(h:we a u D (σ.set i (some v)) H):(λx b=>xT i x σ b ({ nx:=we a u D,rt:=R }:Ends).nx) v H:=h
theorem zcu {i:Nat}{v:V}{σ:St}{H:Hp}{a u:TS}{D:Ends}(h:we a u D (σ.set i (some v)) H):xT i v σ H (λb c=>we a u D b c):=h
theorem cut_mem {xs:List V}{lo hi:Option Int}{x:V}(h:x∈xW xs lo hi):x∈xs:=W8 (YW h)
theorem jf:∀ {x y:List Int},HT.lexLt x y=true->x.length=y.length->yX x y=.lt
 | [],[],h,_=>by cases h
 | a::x,b::y,h,l=>by
  show (compare a b).then (yX x y)=.lt;rw[HT.lexLt_cons]at h;by_cases z:a=b
  ·rw[Jm z]at h
   rw[Yx.mpr z,jf h (by simpa using l)];rfl
  ·rw[Jf z]at h
   rw[Yw.mpr (YM h)];rfl
theorem jV:∀ {c:List Int},(∀ x∈c,0<=x)->(((c.map Int.toNat).sum:Nat):Int)=c.sum
 | [],_=>rfl
 | a::c,h=>by
  have ih:=jV λx b=>h x (.tail _ b);have d:=h a (.head _);rw[Y1,List.sum_cons,List.sum_cons];lia
theorem eY {c:List Int}(h:∀ x∈c,0<=x):(((vN c).length:Nat):Int)=c.sum:=by
 rw[<- jV h];unfold vN;rw[List.length_flatMap]
 congr 2
 refine List.ext_getElem (by rw[Je,Je,Y4]) λi b a=>?_;rw[Je]at a;rw[List.getElem_map,List.getElem_map,List.getElem_range,Y7,Ja,J7 a];rfl
section
variable {N:Nt}{moves:List Nat}{t:Int}{row:List Int}
theorem Rw.at (R:Rw moves N.lanes t row)(i:Nat):0<=row.getD i 0:=by
 rw[show row.getD i 0=row[i]?.getD 0 from Ja]
 cases e:row[i]? with
 | none=>exact Z7 _
 | some x=>exact R.nn x (JD e)
theorem Rw.cnt (R:Rw moves N.lanes t row):wD (zL N) (vN row)=row:=by
 refine wO (by rw[vL,R.len]) λi a=>?_;rw[vL]at a;have b:(zL N).length=N.lanes:=Y7;have:=R.at i;rw[ur _ _ i (by simp_all),sZ,kw,Jm (by rw[R.len];exact a)];lia
theorem Rw.many (R:Rw moves N.lanes t row):(((vN row).length:Nat):Int)=t:=(eY R.nn).trans R.sum
theorem Rw.over (R:Rw moves N.lanes t row):Over moves (vN row):=λm a=>by
 have:=List.count_pos_iff.mpr a;rw[sZ,R.len]at this;by_cases z:m<N.lanes
 ·rw[Jm z]at this
  apply Classical.byContradiction;intro no;rw[R.oth m z no]at this;exact absurd this (by decide)
 ·rw[Jf z]at this;lia
end
theorem uo {N:Nt}(ok:N.Ok)(cs:List Int):(yD N cs).length=N.lanes:=by unfold yD;rw[Je];exact uR ok
def AllSame (xs:List Int):Prop:=∀ i j,i<j->j<xs.length->xs.getD i 0=xs.getD j 0
def EvenAt (N:Nt)(d m:Nat):Prop:=AllSame (yD N (xA N.lanes m (pw d)))
def EvenOn (N:Nt)(moves:List Nat):Prop:=∃ d,IsTop N d/\∀ m∈moves,EvenAt N d m
theorem fh {N:Nt}{d e:Nat}(h:IsTop N d)(g:IsTop N e):d=e:=by
 have le:∀ {a b:Nat},IsTop N a->IsTop N b->a<=b:=λ{a b} x y=>by
  rcases Jr.mp x.2 with z|z
  ·have:(a:Int)=0:=z
   exact JX (Nat.le_of_eq (Int.ofNat.inj this)) (JL _)
  ·have:=y.1 _ z
   exact Int.ofNat_le.mp this
 exact Nat.le_antisymm (le h g) (le g h)
def x6 (xs:List Int):Int:=uG xs-uh xs
theorem cq {xs:List Int}(ne:xs≠[])(c:Int):uh (xs.map (· + c))=uh xs+c:=by
 obtain⟨a,b⟩:=oG ne;refine tU (Jy.mpr ⟨_,a,rfl⟩) λx e=>?_;obtain⟨y,d,rfl⟩:=Jy.mp e;have:=b y d;show uh xs+c<=y+c;lia
theorem cy {xs:List Int}(ne:xs≠[])(c:Int):uG (xs.map (· + c))=uG xs+c:=by
 obtain⟨a,b⟩:=zab ne;refine tV (Jy.mpr ⟨_,a,rfl⟩) λx e=>?_;obtain⟨y,d,rfl⟩:=Jy.mp e;have:=b y d;show y+c<=uG xs+c;lia
theorem bD {xs:List Int}:wJ xs=xs.map (· + -(uh xs)):=Zp λx _=>Int.sub_eq_add_neg
theorem zad {xs:List Int}(ne:xs≠[])(c:Int):wJ (xs.map (· + c))=wJ xs:=by
 unfold wJ;rw[cq ne,List.map_map];exact Zp λx _=>by show x+c-(uh xs+c)=x-uh xs;lia
theorem jX {xs:List Int}(ne:xs≠[]):uG (wJ xs)=x6 xs:=by
 rw[bD,cy ne];rfl
theorem g9 (xs:List Int)(i:Nat)(c v:Int)(h:i<xs.length):zz (xs.map (· + c)) i v=(zz xs i v).map (· + c):=by
 refine wO (by rw[yE,Je,Je,yE]) λp a=>?_;rw[yE,Je]at a
 have g:∀ {b:List Int},p<b.length->(b.map (· + c)).getD p 0=b.getD p 0+c:=λ{b} z=>by
  rw[Ja,JN,J7 z,Ja,J7 z];rfl
 rw[g (by rw[yE];exact a),yd (by rw[Je];exact a),yd a,g a];split<;>lia
theorem zae {xs:List Int}{i:Nat}(h:i<xs.length):wJ (zz (wJ xs) i 1)=wJ (zz xs i 1):=by
 have ne:zz xs i 1≠[]:=λz=>by
  have:=JP List.length z;rw[yE,Ye]at this;lia
 rw[bD (xs:=xs),g9 _ _ _ _ h,zad ne]
section
variable {N:Nt}
def k0R (N:Nt):KN:=plK (zF N) (zL N)
theorem aQ (ok:Nt.Ok N){row:List Nat}(a:∀ m∈row,m<N.lanes):∀ i,i<=row.length->wG (xY N) (k0R N) (row.take i)=some (plK (rg N row i) (wJ (yD N (wD (zL N) (row.take i)))))
 | 0,_=>by
  rw[ZX];show some (k0R N)=some (plK (zF N) (wJ (yD N (zL N))));have e:yD N (zL N)=List.replicate N.lanes 0:=gb N ok
  have l:wJ (List.replicate N.lanes (0:Int))=List.replicate N.lanes 0:=by
   have ne:List.replicate N.lanes (0:Int)≠[]:=λz=>by
    have:=JP List.length z;have d:=ok.l1;rw[Y7,Ye]at this;lia
   have c:uh (List.replicate N.lanes (0:Int))=0:=Wr (oG ne).1;unfold wJ;rw[c,List.map_replicate];rfl
  rw[e,l];rfl
 | i+1,h=>by
  have f:row.getD i 0<N.lanes:=by
   rw[Ja,J7 h];exact a _ (JY _)
  have b:=passE_lt ok a h;rw[xC h,xK,aQ ok a i (by lia)];show xY N (plK (rg N row i) _) (row.getD i 0)=_;rw[tu,zae (by rw[uo ok];exact b),qF N h,<- xC h,gf ok a h]
theorem ju (ok:Nt.Ok N)(c:List Int):yD N c≠[]:=λz=>by
 have:=uo ok c;have a:=ok.l1;rw[z,Ye]at this;lia
def wA (N:Nt)(moves:List Nat)(most:Nat):LRes:=yY (xY N) moves most (most+1) [(k0R N,zL N)] [] []
def Far (ls:List LvL)(b a:Int)(cs:List Int):Prop:=(-b)::a::cs∈xX 0 ls/\∀ x∈xX 0 ls,leR ((-b)::a::cs) x
theorem rJ {a b:Int}{x y:List Int}(h:leR (a::x) (b::y)):a<=b:=by
 rcases Zk a b with z|z|z
 ·exact Int.le_of_lt z
 ·exact Int.le_of_eq z
 ·exact absurd (show (compare a b).then (yX x y)=.gt by rw[Yy.mpr z];rfl) h
theorem eZ {most:Nat}{moves:List Nat}(ok:Nt.Ok N)(a:∀ m∈moves,m<N.lanes){c:List Int}(h:wA N moves most=.brk c):False:=by
 have ca:=qk (step:=xY N) (moves:=moves) (k0:=k0R N) (c0:=zL N) (most:=most);rw[show yY (xY N) moves most (most+1) [(k0R N,zL N)] [] []=.brk c from h]at ca;obtain⟨n,_,B⟩:=ca;obtain⟨row,m,_,d,_,e⟩:=B.ex;have r:=aQ ok (row:=row++[m]) (λq b=>a q (d q b)) (row++[m]).length (Jg _);rw[Y5,e]at r;cases r
theorem lZ {most:Nat}{moves:List Nat}{ls:List LvL}(h:wA N moves most=.whl ls):Shut (xY N) moves (k0R N) (xF ls)/\(xF ls).length<=most:=by
 have ca:=qk (step:=xY N) (moves:=moves) (k0:=k0R N) (c0:=zL N) (most:=most);rw[show yY (xY N) moves most (most+1) [(k0R N,zL N)] [] []=.whl ls from h]at ca;exact⟨ca.1,ca.2.2.1⟩
end
theorem FunC.ok1 {P:Yo}{w:YI}{K:Jl}{mg:Str->Option Jo}{base:YP}{x qual:Str}{st:Stmt}{f c:JI}{fd:Yl}{N ps:List Str}{k:Nat}{sp:Sp}(F:FunC K x qual st f fd c)(S:FnScope N ps (zQ st))(len:∀ vs H Q E,sp vs H Q E->vs.length=ps.length)(hb:∀ (A:YO) (outer:List Env) (s:JO) (H:Hp) (vs:List V) (Q:VK) (E:XK),Room k (A.deeper (envOfC qual (zQ st) s.heap.objs.size f (.ref c)))->sp vs H Q E ->
   ∃ t,PSs (wg (CX1 P w) P w K mg base N qual (zQ st) f (.ref c) A outer s H E) (y7 st) t/\t { nx:=λ_ d=>Q .non d,rt:=Q } (vp N vs) H):FnOk P w K mg base (CX1 P w) (k+1) f fd ps sp:=by
 obtain⟨h,g,kV,doc,pm,an,i,e,rfl,b,a⟩:=F.ex;exact zaC b a S len hb
theorem qi {step:KN->Nat->Option KN}{moves:List Nat}{most n:Nat}:∀ (m:Nat) (level seen:LvL) (ls a:List LvL),(∀ lv∈ls,∀ p∈lv,p.2.length=n)->(∀ p∈level,p.2.length=n)->yY step moves most m level seen ls=.whl a->∀ lv∈a,∀ p∈lv,p.2.length=n
 | 0,_,_,_,_,_,_,e=>by cases e
 | m+1,level,seen,ls,a,h1,c,e=>by
  by_cases b:level=[]
  ·subst b;rw[wP]at e;cases e;exact h1
  by_cases h:most<seen.length+level.length
  ·rw[wQ b h]at e;cases e
  by_cases f:(yo step (seen++level) moves level).fl=[]
  ·rw[vC b h f]at e
   refine qi m _ (seen++level) _ a (λlv g=>?_) (λp d=>(uF (step:=step) (seen:=seen++level) (moves:=moves) level c).on p d) e;rcases Jv.mp g with z|z
   ·exact h1 lv z
   ·rw[Jc.mp z];exact c
  ·rw[wR b h f]at e;cases e
def TellF (H:Hp)(p:JI):LRes->Prop
 | .opn=>H p=some (.tup [.str "open",.non])
 | .brk _=>False
 | .whl ls=>∃ c b a cs,H p=some (.tup [.str "reach",.int b,.ref c])/\H c=some (.tup (cs.map V.int))/\Far ls b a cs
theorem zbu {a u:TS}{D:Ends}{R:VK}{σ:St}{H:Hp}(h:we a u D σ H):({ nx:=we a u D,rt:=R }:Ends).nx σ H:=h
end L2
namespace K43
open PySem L2 Own Bn
abbrev sV:Stmt:=top 28
def zcn (q:Str):Stmt->Lam
 | .Assign _ (.Call _ (_::_::_::.Lambda p b s _::_) _ _) _=>⟨p,b,s,q⟩
 | _=>⟨⟨[],[],none,[],[],none,[]⟩,.Name "" ⟨0,0,0,0⟩,zQ sV,q⟩
def uK (q:Str):Lam:=zcn q ((y7 sV).getD 1 (.Pass ⟨0,0,0,0⟩))
theorem zaI {us:List Jo}(h:us.length=2):∃ u v,us=[u,v]:=by
 match us,h with
 | [u,v],_=>exact⟨u,v,rfl⟩
theorem zaf {l:List (Str × NameKind)}{x:Str}{k:NameKind}(h:l.lookup x=some k):(x,k)∈l:=by
 obtain⟨a,c,e,_⟩:=List.lookup_eq_some_iff.mp h;rw[e];exact Jv.mpr (.inr (.head _))
theorem zcL:LamScope ["place","lane"] ["net"] (uK "").scope:=⟨rfl,rfl,rfl,by decide +kernel,by decide +kernel,by decide +kernel,by decide +kernel,λx a=>(show ∀ y∈(uK "").scope.names,y.2=.free->y.1∈[("net":Str)] from by decide +kernel) _ (zaf a) rfl⟩
def pE (q:Str)(Pt CE:JI):Sp:=λc H Q E=>∃ r fr e d N b,∃ (moves:List Nat) (most:Nat),c=[.ref r,.ref b,.int (most:Nat)]/\Nt.Ok N/\NetAt H r fr e d N/\H b=some (.tup (zU moves))/\(∀ m∈moves,m<N.lanes)/\moves.length<=16/\0<most/\most<=100000/\TabQ q Pt H /\
 (∀ a,But Pt H a->TabQ q Pt a->¬ EvenOn N moves->E (.ref CE) none a) /\
 ∀ p a,But Pt H a->TabQ q Pt a->EvenOn N moves->TellF a p (wA N moves most)->Q (.ref p) a
section
variable {P:Yo}{w:YI}{K:Jl}{mg:Str->Option Jo}{base:YP}
theorem gM (q:Str) {f:JI}{fd:Yl}(d:Use P w K mg base "place_behind" ["net","place","lane"] 4 vt f fd):LamQ CX0 P w K mg base 4 (uK q) ["net"] ["place","lane"] wI:=by
 refine⟨zcL,λvals e H Q E h=>?_,λcl k i pm j n=>by obtain⟨u,v,rfl⟩:=zaI i;rfl,λcl l c A outer s H vals e Q E m g fz h=>?_⟩
 ·obtain⟨r,b,a,_,rfl,_⟩:=h
  rfl
 obtain⟨r,b,a,rfl,rfl,h⟩:=h;refine⟨_,jI d.ok g (by rfl) d.m d.kp d.b .nil dz (zA (pv 2) (zA (pv 0) (zA (pv 1) zC))),?_⟩;exact⟨_,rfl,_,rfl,_,rfl,h⟩
theorem bT {sc:Scope}{x0:Str}{env:Env}(h:(sc.names.filter λy=>y.2 == .free)=[(x0,.free)])(k:env.kindOf x0=some .cell):∀ x,(x,NameKind.free)∈sc.names->env.kindOf x=some .cell\/env.kindOf x=some .free:=λx a=>by
 have z:(x,NameKind.free)∈sc.names.filter λy=>y.2 == .free:=List.mem_filter.mpr ⟨a,rfl⟩;rw[h]at z;obtain⟨e,_⟩:=Prod.mk.inj (Jc.mp z);exact .inl (e ▸ k)
theorem zbG {X:Cx}{x:Str}{i:Nat}(h1:X.N[i]?=some x)(c:X.env.scope.names.lookup x=some .cell)(b:X.fn x=true):∀ p∈[(x,i)],X.N[p.2]?=some p.1/\X.env.scope.names.lookup p.1=some .cell/\X.fn p.1=true:=λp a=>by
 rw[Jc.mp a];exact⟨h1,c,b⟩
theorem nP {cs:List (Str × JI)}{x:Str}(h:cs.map (·.1)=[x]):∃ c,cs=[(x,c)]:=by
 match cs,h with
 | [(y,c)],h=>exact⟨c,by rw[show y=x from (List.cons.inj h).1]⟩
def qR:Str:=("reach":Str)++(".<locals>.":Str)++("<lambda>":Str)
theorem eO:FnScope ["net","some","most","word","found","far","counts"] ["net","some","most"] (zQ sV):=by trivial
theorem cK {f fE fC fF fA c Pt CE CL:JI}{fd dE dC dF dA:Yl}(F:FunC K "reach" "reach" sV f fd c) (CK:CodeK K mg base c Pt) (XO:XPln K CE CL) (mE:mg "NotEven" = some (.ref CE)) (UE:Use P w K mg base "is_even" ["net","some"] 5 sM fE dE) (UC:Use P w K mg base "climbed" ["first","counts","moves","led","most"] 7 (sP P w K (uK qR) ["net"] wI) fC dC) (UF:Use P w K mg base "first_place" ["net"] 2 uZ fF dF)
  (UA:Use P w K mg base "farthest" ["levels"] 1 (eI P w) fA dA):FnOk P w K mg base (CX1 P w) 8 f fd ["net","some","most"] (pE qR Pt CE):=by
 refine F.ok1 eO (λvs H Q E h=>?_) (λA outer s H vs Q E hr h=>?_)
 ·obtain⟨r,fr,er,ps,N,sm,moves,most,rfl,_⟩:=h
  rfl
 obtain⟨r,fr,er,ps,N,sm,moves,most,rfl,ok,na,u,mlt,ml,mp,mb,tab,kE,k⟩:=h;refine⟨_,(@zE _ _ _ _ _ (@yb _ _ _ _ _ _ _ _ (@zbd _ _ _ _ (@lw _ _ _ (@zR _ _ _ _ _ _ _ _ _ _ _ _ UE (hr.mono (by decide)) (@zA _ _ _ _ _ (@pvb _ 0 _ _ rfl) (@zA _ _ _ _ _ (@pvb _ 1 _ _ rfl) zC rfl) rfl) (by rfl) rfl rfl rfl) (by intro _;rfl))) (@zM _ _ _ (iX (E:=E) XO rfl mE (@zA _ _ _ _ _ wB zC rfl))) yA) (@zE _ _ _ _ _ (@yJ _ _ _ _ _ _ (dy (E:=E0) UC.ok hr (by rfl) UC.m UC.kp UC.b [("net",0)] (by decide) (zbG rfl rfl rfl) (@zA _ _ _ _ _ (@zR _ _ _ _ _ _ _ _ _ _ _ _ UF (hr.mono (by decide)) (@zA _ _ _ _ _ (@pvb _ 0 _ _ rfl) zC rfl) (by rfl) rfl rfl rfl) (@zA _ _ _ _ _ (@zS _ _ _ _ _ _ _ _ pi (@zi _ _ _ _ _ (@zA _ _ _ _ _ zH zC rfl)) (@zY _ _ _ _ _ _ _ yP (@pvb _ 0 _ _ rfl) zH (λ_ _=>rfl))) (@zA _ _ _ _ _ (@pvb _ 1 _ _ rfl) (@zA _ _ _ _ _ (zbh (fr:=["net"]) CK rfl rfl (bT (x0:="net") rfl rfl) rfl) (@zA _ _ _ _ _ (@pvb _ 2 _ _ rfl) zC rfl) rfl) rfl) rfl) rfl)) (@yK _ _ _ _ _ _ rfl (@zP _ _ _ _ _ (@zN _ _ 3 _ eO.nd rfl (.inl rfl) (by trivial)) (@zP _ _ _ _ _ (@zN _ _ 4 _ eO.nd rfl (.inl rfl) (by trivial)) zw rfl) rfl) rfl rfl) rfl rfl rfl) (@zE _ _ _ _ _ (@yb _ _ _ _ _ _ _ _ (@zt _ _ _ _ _ _ _ _ xR (@pvb _ 3 _ _ rfl) wB (yC _)) (@zM _ _ _ (@zV _ _ _ _ (@zi _ _ _ _ _ (@zA _ _ _ _ _ wB (@zA _ _ _ _ _ wZ zC rfl) rfl)))) yA) (@zE _ _ _ _ _ (@yJ _ _ _ _ _ _ (@zR _ _ _ _ _ _ _ _ _ _ _ _ UA (hr.mono (by decide)) (@zA _ _ _ _ _ (@pvb _ 4 _ _ rfl) zC rfl) (by rfl) rfl rfl rfl) (@yK _ _ _ _ _ _ rfl (@zP _ _ _ _ _ (@zN _ _ 5 _ eO.nd rfl (.inl rfl) (by trivial)) (@zP _ _ _ _ _ (@zN _ _ 6 _ eO.nd rfl (.inl rfl) (by trivial)) zw rfl) rfl) rfl rfl) rfl rfl rfl) (@zM _ _ _ (@zV _ _ _ _ (@zi _ _ _ _ _ (@zA _ _ _ _ _ wB (@zA _ _ _ _ _ (@pvb _ 5 _ _ rfl) (@zA _ _ _ _ _ (@pvb _ 6 _ _ rfl) zC rfl) rfl) rfl)))))))),?_⟩;have bb:=ok.l16;refine zB (zB ⟨r,fr,er,ps,N,sm,moves,rfl,ok,na,u,mlt,λd T tp ev B=>⟨true,rfl,xB ?_⟩,λd m hm one other T tp ev fu B=>⟨false,rfl,x5 ⟨by show 1<=sizeLine;decide,kE T (But.of B) (tab.same B) λz=>?_⟩⟩⟩)
 rotate_left
 ·obtain⟨e,te,ze⟩:=z
  have:=fh te tp;subst this;exact fu.2.2.1 (ze _ (JY hm) one other fu.1 fu.2.1)
 have aT:EvenOn N moves:=⟨d,tp,λm hm=>by
  obtain⟨q,O,rfl⟩:=List.getElem_of_mem hm
  exact ev q O⟩
 have na:=na.tups (Tups.of B);replace u:=B _ _ u;replace k:∀ p U,But Pt T U->TabQ qR Pt U->TellF U p (wA N moves most)->Q (.ref p) U:=λp U b t z=>k p U ((But.of B).trans b) t aT z;replace tab:=tab.same B;clear kE aT B ev tp;show we _ _ _ _ T;refine zB ⟨r,fr,er,ps,N,rfl,ok,na,λb0 H2 s2 k2=>⟨by show 1<=sizeLine;decide,λt ht=>?_⟩⟩;have s3:=zD ht (.tup [.int 0]);refine zB ⟨r,_,_,_,rfl,rfl,SqT.of (s3 _ _ (s2 _ _ na.net)),rfl,t,_,N.lanes,rfl,rfl,zG,by lia,λc0 H4 s4 h4=>?_⟩;rw[rD]at h4;have u4:=(s2.trans s3).trans s4;obtain⟨l,hP,tok⟩:=tab.same u4;refine zB ⟨l,hP,tok,λfL cl l' H5 a8 a9 hf raw a5 aa kp=>?_⟩;refine zB ⟨[.ref r],rfl,λj x i v hx hv=>?_,λcs S a7 ao nd ca out Z=>?_⟩
 ·cases j with
  | zero=>cases hx;cases hv;rfl
  | succ j=>cases hx
 obtain⟨a,rfl⟩:=nP a8;obtain⟨c2,rfl⟩:=nP a7;have cc:a=c2:=Jp ((a9 _ (.head _)).symm.trans (ao _ (.head _)));subst cc;have b5:But Pt T H5:=λb o e n=>kp b o (u4 b o e) n
 have g:Same H5 S:=λb o e=>by
  rw[out b λX=>by rw[Z b X]at e;cases e];exact e
 have a0:NetAt S r fr er ps N:=(na.tups (Tups.of u4)).tups λb xs e=>g _ _ (kp _ _ e (x9 e hP λz=>by cases z));have J:Tups H4 S:=λb xs e=>g _ _ (kp _ _ e (x9 e hP λz=>by cases z))
 have ab:LamRaw S fL (uK qR) [("net",a)]:=by
  obtain⟨pm,cd,ct,oc,fs,tk,r1,r2,r3,r4⟩:=raw.ex;exact⟨pm,cd,ct,oc,fs,tk,g _ _ r1,g _ _ r2,r3,r4⟩
 have la:LamAt S fL (uK qR) [("net",a)] [.ref r]:=ab.at_ ca (JQ.mpr ⟨Ju,YX⟩) (JQ.mpr ⟨Ju,YX⟩) rfl λi x c v hx hv=>⟨i,hx,hv⟩;have W:Way K S sm fL (uK qR) ["net"] wI [("net",a)] [.ref r] (xY N) (OkR N) moves N.lanes:=⟨.inl (J _ _ (u4 _ _ u)),rfl,la,gJ ok a0 mlt,mlt,λs m t os _ e=>oz ok os e,by lia⟩;refine⟨b0,c0,sm,fL,_,zL N,moves,[("net",a)],[.ref r],xY N,OkR N,N.lanes,most,rfl,(k2.tups (Tups.of (s3.trans s4))).tups J,J _ _ h4,Y7,qP ok,W,by lia,ml,mp,λp R s7 tell=>?_⟩
 have a6:CellsFz [("net",a)] R:=λb X=>by
  obtain⟨o,z⟩:=ca.fz b X;exact⟨o,s7 _ _ z⟩
 replace tell:=TellRN.kept tell (mq a6)
 have Y:Same H5 (ye [("net",a)] R):=λb o e=>by
  rw[yN λX=>by rw[Z b X]at e;cases e];exact s7 _ _ (g _ _ e)
 have b8:But Pt T (ye [("net",a)] R):=b5.trans (But.of Y);have I:TabQ qR Pt (ye [("net",a)] R):=TabQ.same ⟨l',a5,aa⟩ Y;show kh _ _ _ _ _ (ye [("net",a)] R) _;generalize ye [("net",a)] R=H8 at *;change TellRN P w H8 p (wA N moves most) at tell
 cases G:wA N moves most with
 | opn =>
  rw[G]at tell;refine⟨p,_,rfl,SqT.of tell,rfl,_,_,rfl,_,_,rfl,rfl,?_⟩;refine zB ⟨rfl,true,JP V.bl (JC rfl),x5 ⟨by show 2<=sizeLine;decide,λq O=>?_⟩⟩;refine k q _ (b8.trans (But.of (zD O _))) (I.same (zD O _)) ?_
  rw[G];exact zG
 | brk bc=>exact(eZ ok mlt G).elim
 | whl ls =>
  rw[G]at tell;obtain⟨ll,as,ba,h1,h2,h3⟩:=tell;refine⟨p,_,rfl,SqT.of h1,rfl,_,_,rfl,_,_,rfl,rfl,?_⟩;refine zB ⟨rfl,false,JP V.bl (Js λz=>absurd (V.str.inj z) (by decide)),xB ?_⟩;have wh:=tL (Ok:=OkR N) (moves:=moves) (λs m t os _ e=>oz ok os e) _ _ [] [] ls ⟨λlv D=>absurd D Ju,JL _⟩ rfl (JL _) (λp C=>by rw[Jc.mp C];exact qP ok) G;have ln:=qi (n:=N.lanes) _ _ [] [] ls (λlv D=>absurd D Ju) (λp C=>by rw[Jc.mp C];exact Y7) G;have wf:=wh.few;have sh:=(lZ G).1;refine zB ⟨ll,as,ls,N.lanes,rfl,h2,h3,ba,λlv D p C=>⟨?_,ln lv D p C⟩,by lia,λz=>?_,λq c aE M cs H9 s9 O hc m1 m2=>?_⟩
  ·obtain⟨ts,hs,e,_,_,a4,_⟩:=wh.ok lv D p C
   exact⟨ts,hs,e,λz=>by rw[z,Ye]at a4;have:=ok.l1;lia⟩
  ·obtain⟨lv,D,y⟩:=List.mem_flatMap.mp sh.fst
   obtain⟨p,C,_⟩:=Jy.mp y;obtain⟨i,ei⟩:=YZ D;have:=ui (n:=0) ei C;rw[z]at this;cases this
  ·refine⟨q,_,rfl,SqT.of O,rfl,_,_,rfl,_,_,rfl,rfl,?_⟩
   refine zB (zB ⟨by show 3<=sizeLine;decide,λq2 a3=>?_⟩);have L:=zD a3 (.tup [.str "reach",.int aE,.ref c]);refine k q2 _ ((b8.trans (But.of s9)).trans (But.of L)) ((I.same s9).same L) ?_;rw[G];exact⟨c,aE,M,cs,zG,L _ _ hc,m1,m2⟩
abbrev eU:Stmt:=top 33
abbrev eR:Stmt:=top 34
abbrev lL:Stmt:=top 35
theorem scK:FnScope ["_law_left_here","_law_many","_law_digit"] ["_law_left_here","_law_many"] (zQ eR):=by trivial
theorem ai {f:JI}{fd:Yl}(F:Fun K "_law_pick" "_law_pick" eR f fd):FnOk P w K mg base CX0 1 f fd ["_law_left_here","_law_many"] x8:=by
 refine F.ok scK (λy H Q E h=>?_) (λL A outer s H y Q E M h=>?_)
 ·obtain⟨l,m,rfl,_⟩:=h
  rfl
 obtain⟨l,m,rfl,g,z,S,k⟩:=h;obtain⟨a,b,c,d,r,D,C⟩:=S.ex;refine⟨_,(@zE _ _ _ _ _ (@yb _ _ _ _ _ _ _ _ (@zt _ _ _ _ _ _ _ _ jL (@zY _ _ _ _ _ _ _ zj (@pvb _ 0 _ _ rfl) zH (λ_ _=>rfl)) zH (yC _)) (@zE _ _ _ _ _ (@zW _ _ 2 _ _ _ _ scK.nd rfl (.inl rfl) (@zS _ _ _ _ _ _ _ _ xv (@zY _ _ _ _ _ _ _ zj (@pvb _ 0 _ _ rfl) zH (λ_ _=>rfl)) (@pvb _ 1 _ _ rfl)) rfl (by trivial)) (@zE _ _ _ _ _ (@yJ _ _ _ _ _ _ (@zS _ _ _ _ _ _ _ _ xi (@zY _ _ _ _ _ _ _ zj (@pvb _ 0 _ _ rfl) zH (λ_ _=>rfl)) (@pvb _ 1 _ _ rfl)) (@xL _ _ _ _ _ _ _ (@pvb _ 0 _ _ rfl) zH yh (by intro _;rfl)) rfl rfl rfl) (@zM _ _ _ (@zV _ _ _ _ (@pvb _ 2 _ _ rfl))))) yA) (@zE _ _ _ _ _ (@yJ _ _ _ _ _ _ (@zS _ _ _ _ _ _ _ _ yR (@zY _ _ _ _ _ _ _ zj (@pvb _ 0 _ _ rfl) zH (λ_ _=>rfl)) zH) (@xL _ _ _ _ _ _ _ (@pvb _ 0 _ _ rfl) zH yh (by intro _;rfl)) rfl rfl rfl) (@zE _ _ _ _ _ (@yJ _ _ _ _ _ _ (@zS _ _ _ _ _ _ _ _ xv (@zS _ _ _ _ _ _ _ _ yR (@zS _ _ _ _ _ _ _ _ yR (@zS _ _ _ _ _ _ _ _ wC (@zY _ _ _ _ _ _ _ zj (@pvb _ 0 _ _ rfl) zH (λ_ _=>rfl)) zH) zH) (@zY _ _ _ _ _ _ _ zj (@pvb _ 0 _ _ rfl) zH (λ_ _=>rfl))) zH) (@xL _ _ _ _ _ _ _ (@pvb _ 0 _ _ rfl) zH yh (by intro _;rfl)) rfl rfl rfl) (@zM _ _ _ (@zV _ _ _ _ (@zS _ _ _ _ _ _ _ _ xv (@zS _ _ _ _ _ _ _ _ xi (@zS _ _ _ _ _ _ _ _ xv (@zS _ _ _ _ _ _ _ _ wC (@zY _ _ _ _ _ _ _ zj (@pvb _ 0 _ _ rfl) zH (λ_ _=>rfl)) (@zY _ _ _ _ _ _ _ zj (@pvb _ 0 _ _ rfl) zH (λ_ _=>rfl))) zH) zH) (@pvb _ 1 _ _ rfl))))))),?_⟩
 have fin:∀ (x:Int) (i:Hp),0<=x->x<m->Pk3 i l->But l H i->Q (.int x) i:=λx i u t G J=>by
  obtain⟨v,rfl⟩:=Int.eq_ofNat_of_zero_le u;exact k v i t G J
 refine zB ⟨l,_,_,_,rfl,rfl,SqL.of d,rfl,_,_,rfl,rfl,_,rfl,uL (λq=>?_) (λq=>?_)⟩
 ·refine zB ⟨l,_,_,_,rfl,rfl,SqL.of d,rfl,_,rfl,_,_,rfl,rfl,g,?_⟩
  refine zB ⟨l,_,_,_,rfl,rfl,SqL.of d,rfl,_,rfl,_,_,rfl,rfl,⟨g,z⟩,_,rfl,l,_,_,0,rfl,rfl,d,rfl,_,rfl,?_⟩;exact fin _ _ (Wd _ (by lia)) (Wk _ g) ⟨a / m,b,c,zG,Int.ediv_nonneg r (by lia),D,C⟩ λx o e ne=>by rw[zK ne];exact e
 ·refine zB ⟨l,_,_,_,rfl,rfl,SqL.of d,rfl,_,_,rfl,rfl,_,rfl,l,_,_,2,rfl,rfl,d,rfl,?_⟩
  have n:L2.upd H l (.lst ([V.int a,V.int b,V.int c].set 2 (V.int (c+1)))) l=some (.lst [.int a,.int b,.int (c+1)]):=zG;have I:But l H (L2.upd H l (.lst ([V.int a,V.int b,V.int c].set 2 (V.int (c+1))))):=λx o e ne=>by rw[zK ne];exact e
  show we _ _ _ _ (L2.upd H l (.lst ([V.int a,V.int b,V.int c].set 2 (V.int (c+1)))));generalize L2.upd H l (.lst ([V.int a,V.int b,V.int c].set 2 (V.int (c+1))))=H1 at *;refine zB ⟨l,_,_,_,rfl,rfl,SqL.of n,rfl,_,_,rfl,rfl,.inr ⟨by decide,by decide⟩,_,_,rfl,rfl,_,rfl,l,_,_,_,rfl,rfl,SqL.of n,rfl,_,_,rfl,rfl,_,_,rfl,rfl,(by show (0:Int)<2147483647;decide),_,rfl,l,_,_,1,rfl,rfl,n,rfl,?_⟩;have B:0<=(b*48271+12345+(c+1))%2147483647:=Wd _ (by decide);have N:(b*48271+12345+(c+1))%2147483647<2147483647:=Wk _ (by decide);generalize p:L2.upd H1 l (HO.lst ([V.int a,V.int b,V.int (c+1)].set 1 (V.int ((b*48271+12345+(c+1))%2147483647))))=H2;have j:H2 l=some (.lst [.int a,.int ((b*48271+12345+(c+1))%2147483647),.int (c+1)]):=by rw[<- p];exact zG
  refine zB ⟨l,_,_,_,rfl,rfl,SqL.of j,rfl,_,rfl,l,_,_,_,rfl,rfl,SqL.of j,rfl,_,_,rfl,rfl,.inl ⟨by lia,by lia⟩,_,_,rfl,rfl,(by show (0:Int)<1999999973;decide),_,_,rfl,rfl,⟨by decide,by decide⟩,_,rfl,_,_,rfl,rfl,g,?_⟩;exact fin _ _ (Wd _ (by lia)) (Wk _ g) ⟨a,_,_,j,r,B,by lia⟩ λx o e ne=>by rw[<- p,zK ne];exact I x o e ne
theorem scL:FnScope ["_law_script","_law_k","_law_cell","_law_digits"] ["_law_script","_law_k"] (zQ eU):=by trivial
theorem aq {f:JI}{fd:Yl}(F:Fun K "_law_left" "_law_left" eU f fd) (G:Mgs mg):FnOk P w K mg base CX0 1 f fd ["_law_script","_law_k"] (pG K):=by
 refine F.ok scL (λn H Q E h=>?_) (λy A outer s H n Q E I h=>?_)
 ·obtain⟨a,ns,k,rfl,_⟩:=h
  rfl
 obtain⟨a,ns,k,rfl,e,v,C,B,q⟩:=h;refine⟨_,(@zE _ _ _ _ _ (@zW _ _ 2 _ _ _ _ scL.nd rfl (.inl rfl) zH rfl (by trivial)) (@zE _ _ _ _ _ (@yb _ _ _ _ _ _ _ _ (@zt _ _ _ _ _ _ _ _ jL (@zX _ _ _ _ _ _ _ _ _ zp rfl G.len Yb (@zA _ _ _ _ _ (@pvb _ 0 _ _ rfl) zC rfl) (by decide) (by decide) rfl rfl) zH (yC _)) (@zM _ _ _ (@zW _ _ 2 _ _ _ _ scL.nd rfl (.inl rfl) (@zY _ _ _ _ _ _ _ zj (@pvb _ 0 _ _ rfl) (@zS _ _ _ _ _ _ _ _ xv (@pvb _ 1 _ _ rfl) (@zX _ _ _ _ _ _ _ _ _ zp rfl G.len Yb (@zA _ _ _ _ _ (@pvb _ 0 _ _ rfl) zC rfl) (by decide) (by decide) rfl rfl)) (λ_ _=>rfl)) rfl (by trivial))) yA) (@zE _ _ _ _ _ (@zW _ _ 3 _ _ _ _ scL.nd rfl (.inl rfl) (@zS _ _ _ _ _ _ _ _ wC (@zS _ _ _ _ _ _ _ _ xv (@zX _ _ _ _ _ _ _ _ _ mX rfl G.abs rfl (@zA _ _ _ _ _ (@pvb _ 2 _ _ rfl) zC rfl) (by decide) (by decide) rfl rfl) (@zS _ _ _ _ _ _ _ _ cA zH zH)) (@zo _ _ _ _ _ _ _ _ _ wT rfl G.int rfl (@zA _ _ _ _ _ (@wb _ _ _ _ _ _ _ _ zaA (@zX _ _ _ _ _ _ _ _ _ mX rfl G.abs rfl (@zA _ _ _ _ _ (@pvb _ 2 _ _ rfl) zC rfl) (by decide) (by decide) rfl rfl) (@zS _ _ _ _ _ _ _ _ cA zH zH) (yC _)) zC rfl) (by decide) (by decide) rfl rfl)) rfl (by trivial)) (@zM _ _ _ (@zV _ _ _ _ (@zy _ _ _ _ (@zA _ _ _ _ _ (@pvb _ 3 _ _ rfl) (@zA _ _ _ _ _ (@zS _ _ _ _ _ _ _ _ xv (@zS _ _ _ _ _ _ _ _ wC (@zS _ _ _ _ _ _ _ _ yR (@zS _ _ _ _ _ _ _ _ yR (@zS _ _ _ _ _ _ _ _ xv (@pvb _ 2 _ _ rfl) zH) (@zS _ _ _ _ _ _ _ _ wC (@zS _ _ _ _ _ _ _ _ wC zH (@pvb _ 1 _ _ rfl)) (@pvb _ 1 _ _ rfl))) zH) zH) zH) (@zA _ _ _ _ _ zH zC rfl) rfl) rfl))))))),?_⟩;have d:(ns.map V.int).length=ns.length:=Je _;refine zaG ?_;refine uj (λσ m=>m=H/\∃ x:Int,σ=[some (.ref a),some (.int k),some (.int x),none]) ?_ λD c _=>?_
 ·rintro σ m ⟨rfl,x,rfl⟩
  have o:=Wd ((x%2305843009213693951+7919*k*k+11)*48271) (show (2147483647:Int)≠0 by decide);have J:=Wk ((x%2305843009213693951+7919*k*k+11)*48271) (show (0:Int)<2147483647 by decide);have u:∀ b:Bool,(0:Int)<=(if b=true then (1:Int) else 0):=by decide
  have t:∀ b:Bool,-(2 ^ 64)<(if b=true then (1:Int) else 0)/\(if b=true then (1:Int) else 0)<2 ^ 64:=by decide
  refine zB (zu rfl ⟨_,_,rfl,rfl,⟨by decide,by decide,by decide⟩,_,_,rfl,rfl,(by show (0:Int)<10 ^ 60;decide),?_⟩);refine zB (zu rfl ⟨_,_,rfl,rfl,⟨by decide,by decide,by decide⟩,_,_,rfl,rfl,.inr (zu rfl ⟨_,_,rfl,rfl,.inr (t _),?_⟩)⟩);refine zB (zB ⟨_,_,rfl,rfl,(by show (0:Int)<2305843009213693951;decide),_,rfl,_,_,rfl,rfl,.inl ⟨by decide,by decide⟩,_,rfl,_,_,rfl,rfl,.inr ⟨by lia,by lia⟩,_,_,rfl,rfl,_,_,rfl,rfl,_,_,rfl,rfl,.inr ⟨by decide,by decide⟩,_,_,rfl,rfl,(by show (0:Int)<2147483647;decide),(by show 3<=sizeLine;decide),λl g=>?_⟩);refine q l _ g (zD g _) ⟨_,_,_,zG,Int.mul_nonneg (Wd _ (by decide)) (u _),o,by lia⟩
 refine zB ⟨a,_,rfl,.inl e,_,_,rfl,rfl,_,rfl,uL (λz=>?_) (λz=>?_)⟩
 ·have np:0<ns.length:=by
   have:=YM z;rw[d]at this;lia
  refine zB (zB (zB ⟨a,_,rfl,.inl e,_,_,rfl,rfl,by rw[d];lia,?_⟩));have r:=Wd k (show ((ns.length:Nat):Int)≠0 by lia);have p:=Wk k (show (0:Int)<(ns.length:Nat) by lia);rw[d];obtain⟨j,i⟩:=Int.eq_ofNat_of_zero_le r;rw[i]at p;exact⟨a,_,k%(ns.length:Nat),_,rfl,rfl,e,(by rw[i];exact xO (by lia)),c _ _ ⟨rfl,_,rfl⟩⟩
 ·exact c _ _ ⟨rfl,0,rfl⟩
theorem zca:FnScope ["_law_left_here","_law_row","_law_some_here","_law_found"] ["_law_left_here","_law_row"] (zQ lL):=by trivial
theorem cM {f fK:JI}{fd dK:Yl}(F:Fun K "_law_mixed" "_law_mixed" lL f fd) (G:Mgs mg) (UK:Use P w K mg base "_law_pick" ["_law_left_here","_law_many"] 1 x8 fK dK):FnOk P w K mg base CX0 2 f fd ["_law_left_here","_law_row"] tO:=by
 refine F.ok zca (λV H Q E h=>?_) (λao A outer s H V Q E R h=>?_)
 ·obtain⟨l,p,xs,rfl,_⟩:=h
  rfl
 obtain⟨l,p,xs,rfl,X,xl,S,k⟩:=h;refine⟨_,(@zE _ _ _ _ _ (@pZ _ _ 2 3 _ _ _ _ _ _ _ _ _ _ _ rfl zca.nd rfl rfl (by decide) rfl rfl (@zA _ _ _ _ _ (@zo _ _ _ _ _ _ _ _ _ yn rfl G.list rfl (@zA _ _ _ _ _ (@pvb _ 1 _ _ rfl) zC rfl) (by decide) (by decide) rfl rfl) (@zA _ _ _ _ _ (@zy _ _ _ _ zC) zC rfl) rfl) rfl rfl) (@zE _ _ _ _ _ (@nH _ _ _ _ _ _ Y2 (@zt _ _ _ _ _ _ _ _ (cB R.units0) (@pvb _ 2 _ _ rfl) (@zy _ _ _ _ zC) (yC _)) (@zM _ _ _ (@y4 _ _ _ _ (@wd _ _ _ _ _ _ _ _ _ _ _ _ Y6 YH YJ yq (@pvb _ 3 _ _ rfl) (@zA _ _ _ _ _ (@wd _ _ _ _ _ _ _ _ _ _ _ _ Y6 PySem.F.slot_list_pop PySem.F.type_list_pop cg (@pvb _ 2 _ _ rfl) (@zA _ _ _ _ _ (@zR _ _ _ _ _ _ _ _ _ _ _ _ UK R (@zA _ _ _ _ _ (@pvb _ 0 _ _ rfl) (@zA _ _ _ _ _ (@zX _ _ _ _ _ _ _ _ _ zp rfl G.len Yb (@zA _ _ _ _ _ (@pvb _ 2 _ _ rfl) zC rfl) (by decide) (by decide) rfl rfl) zC rfl) rfl) rfl rfl rfl rfl) zC rfl) rfl rfl rfl rfl rfl) zC rfl) rfl rfl rfl rfl rfl) rfl))) (@zM _ _ _ (@zV _ _ _ _ (@zo _ _ _ _ _ _ _ _ _ zr rfl G.tuple rfl (@zA _ _ _ _ _ (@pvb _ 3 _ _ rfl) zC rfl) (by decide) (by decide) rfl rfl))))),?_⟩;refine zB ⟨p,_,rfl,.inl (SqL.of X),λlo u=>?_⟩;have z:=zD u (.lst xs);have y:=S.ne u;refine⟨(by show 0<=sizeLine;decide),λlt d=>?_⟩;have M:=zD d (.lst []);have x:=(S.keep z).ne d;have not:lo≠lt:=zJ zG d;have L:Frs l H lo:=λb o e _=>zJ e u;have flt:Frs l H lt:=λb o e _=>zJ (z _ _ e) d;refine⟨_,_,rfl,?_⟩
 refine⟨λm σ n=>σ=[some (.ref l),some (.ref p),some (.ref lo),some (.ref lt)]/\Pk3 n l/\But l H n/\∃ c g,n lo=some (.lst c)/\c.length=m/\n lt=some (.lst g)/\(g++c).Perm xs,
  zu rfl ⟨(S.keep z).keep M,(But.of z).trans (But.of M),xs,[],by rw[zK not];exact zG,rfl,zG,.refl _⟩,?_⟩
 rintro m σ n ⟨rfl,S3,B3,c,g,N,ul,W,pm⟩;refine zB ⟨(by show 0<=sizeLine;decide),λe Y=>?_⟩;have v:=zD Y (.lst []);refine⟨lo,e,c,rfl,rfl,SqL.of (v _ _ N),SqL.of zG,_,rfl,?_⟩;have T:=S3.keep v;have U:But l H (L2.upd n e (.lst [])):=B3.trans (But.of v);have r:=v _ _ N;have q:=v _ _ W;generalize L2.upd n e (.lst [])=H4 at *;have ab:g.length+c.length=xs.length:=by rw[<- Jd];exact pm.length_eq
 by_cases un:c=[]
 ·rw[show (!c.isEmpty)=false by rw[un];rfl]
  rw[un,JU]at pm;refine xB (zB ⟨lt,_,rfl,.inl ⟨SqL.of q,λt O=>k t g _ pm zG (T.keep (zD O _)) (U.trans (But.of (zD O _)))⟩⟩)
 have up:0<c.length:=Zr.mpr un
 rw[show (!c.isEmpty)=true by cases c with
  | nil=>exact absurd rfl un
  | cons a b=>rfl]
 refine x5 ⟨_,λaa H' Z=>⟨m-1,by lia,Z⟩,?_⟩;refine zB ⟨.inl ⟨rfl,_,SqL.of q⟩,_,rfl,.inl ⟨rfl,_,SqL.of r⟩,_,rfl,_,rfl,lo,_,rfl,.inl (SqL.of r),l,_,rfl,by lia,by lia,T,λj H5 hk S5 C=>?_⟩;have B:j<c.length:=by lia
 have J:=C lo _ r y.symm;have I:=C lt _ q x.symm;refine⟨lo,_,_,j,c[j],rfl,rfl,J,by lia,by lia,(oK (w8 (xs:=c) (i:=j) B)).1,J7 B,?_⟩;have D:L2.upd H5 lo (.lst (c.eraseIdx j)) lt=some (.lst g):=by rw[zK not.symm];exact I
 refine⟨lt,_,_,rfl,rfl,D,by rw[JB];lia,rfl,(S5.upd y).upd x,((U.trans C).upd L).upd flt,c.eraseIdx j,g++[c[j]],by rw[zK not];exact zG,by rw[List.length_eraseIdx,Jm B];lia,zG,?_⟩;refine List.Perm.trans ?_ pm;rw[JT];refine List.Perm.append_left g ?_;exact rR c j B
abbrev nD:Stmt:=top 36
def sK (m:Nat):Sp:=λh H Q _=>∃ g f a b,h=[.ref g,.ref f]/\H g=some (.lst (zU a))/\H f=some (.lst (zU b))/\a.length=2 ^ m/\b.length=2 ^ m/\m<=8/\∀ c lf le e d,Same H d->H lf=none->d c=some (.tup [.ref lf,.ref le])->d lf=some (.lst e)->Prs d e (Bn.mergeN m a b).1->d le=some (.lst (zU (Bn.mergeN m a b).2))->Q (.ref c) d
theorem kM (row:List Nat)(i:Nat)(h:i<=row.length):xW (zU row) none (some (i:Int))=zU (row.take i):=by
 rw[mN _ _ (by rw[zZ];exact h)];unfold zU;rw[List.map_take]
theorem kN (row:List Nat)(i:Nat)(h:i<=row.length):xW (zU row) (some (i:Int)) none=zU (row.drop i):=by
 rw[mO _ _ (by rw[zZ];exact h)];unfold zU;rw[List.map_drop]
theorem jZ (off:Nat)(a:List Nat):by2 off (zU a)=zU (by2 off a):=by unfold zU;exact zaq _ off a
theorem bA (a b:List Nat):zU a++zU b=zU (a++b):=by unfold zU;exact(JV ..).symm
theorem kO (row:List Nat)(i:Nat)(h:i<row.length):(zU row)[i]?=some (.int ((row.getD i 0:Nat):Int)):=by
 unfold zU;rw[JN,J7 h,Ja,J7 h];rfl
theorem vU:∀ (a b:List Nat) (j:Nat),j<a.length->j<b.length->yg (a.take (j+1)) (b.take (j+1))=yg (a.take j) (b.take j)++[a.getD j 0,b.getD j 0]
 | x::a,y::b,0,_,_=>by rw[ZG,ZG,ZX,ZX];rfl
 | x::a,y::b,j+1,ha,hb=>by
  rw[ZG,ZG,ZG,ZG];show x::y::yg (a.take (j+1)) (b.take (j+1))=x::y::(yg (a.take j) (b.take j)++[a.getD j 0,b.getD j 0]);rw[vU a b j (by simpa using ha) (by simpa using hb)]
theorem oW {a b:List Nat}{j:Nat}(ha:j<a.length)(hb:j<b.length):(a.zip b).take (j+1)=(a.zip b).take j++[(a.getD j 0,b.getD j 0)]:=by
 rw[Yh (by rw[ZN];lia),List.getElem_zip,Ja,J7 ha,Ja,J7 hb];rfl
theorem num_at {a:List Nat}{j:Nat}{x:V}(h:(zU a)[j]?=some x):j<a.length/\x=.int ((a.getD j 0:Nat):Int):=by
 have b:j<a.length:=by rw[<- zZ a];exact(Jb.mp h).1
 rw[kO a j b]at h;exact⟨b,(Jp h).symm⟩
theorem o9:FnScope ["_law_one","_law_other","_law_forks","_law_first","_law_more","_law_second","_law_ends_here","_law_x","_law_y"] ["_law_one","_law_other"] (zQ nD):=by trivial
theorem nS {f:JI}{fd:Yl}(F:Fun K "_law_merger" "_law_merger" nD f fd) (G:Mgs mg) (bS:Binds K fd ["_law_one","_law_other"] []) (mS:mg "_law_merger" = some (.ref f)) (n:Nat)
  (GS:FnOk P w K mg base CX0 n f fd ["_law_one","_law_other"] (λvs H Q E=>∃ m,n=m+1/\sK m vs H Q E)):FnOk P w K mg base CX0 (n+1) f fd ["_law_one","_law_other"] (sK n):=by
 have UT:Use P w K mg base "_law_merger" ["_law_one","_law_other"] n (λvs H Q E=>∃ m,n=m+1/\sK m vs H Q E) f fd:=⟨GS,bS,F.kp,mS⟩;refine F.ok o9 (λvs H Q E h=>?_) (λcz A outer s H vs Q E hr h=>?_)
 ·obtain⟨J,S,a,b,rfl,_⟩:=h
  rfl
 obtain⟨J,S,a,b,rfl,h1,h2,al,bl,bo,k⟩:=h;refine⟨_,(@zE _ _ _ _ _ (@yb _ _ _ _ _ _ _ _ (@zt _ _ _ _ _ _ _ _ xR (@zX _ _ _ _ _ _ _ _ _ zp rfl G.len Yb (@zA _ _ _ _ _ (@pvb _ 0 _ _ rfl) zC rfl) (by decide) (by decide) rfl rfl) zH (yC _)) (@zM _ _ _ (@zV _ _ _ _ (@zi _ _ _ _ _ (@zA _ _ _ _ _ (@zy _ _ _ _ (@zA _ _ _ _ _ (@zi _ _ _ _ _ (@zA _ _ _ _ _ (@zY _ _ _ _ _ _ _ zj (@pvb _ 0 _ _ rfl) zH (λ_ _=>rfl)) (@zA _ _ _ _ _ (@zY _ _ _ _ _ _ _ zj (@pvb _ 1 _ _ rfl) zH (λ_ _=>rfl)) zC rfl) rfl)) zC rfl)) (@zA _ _ _ _ _ (@zy _ _ _ _ (@zA _ _ _ _ _ (@zY _ _ _ _ _ _ _ zj (@pvb _ 0 _ _ rfl) zH (λ_ _=>rfl)) (@zA _ _ _ _ _ (@zY _ _ _ _ _ _ _ zj (@pvb _ 1 _ _ rfl) zH (λ_ _=>rfl)) zC rfl) rfl)) zC rfl) rfl)))) yA) (@zE _ _ _ _ _ (@yJ _ _ _ _ _ _ (@zR _ _ _ _ _ _ _ _ _ _ _ _ UT hr (@zA _ _ _ _ _ (@pg _ _ _ _ _ _ _ _ _ (@pvb _ 0 _ _ rfl) yS (@yB _ _ _ zH)) (@zA _ _ _ _ _ (@pg _ _ _ _ _ _ _ _ _ (@pvb _ 1 _ _ rfl) (@yB _ _ _ zH) (@yB _ _ _ zH)) zC rfl) rfl) rfl rfl rfl rfl) (@yK _ _ _ _ _ _ rfl (@zP _ _ _ _ _ (@zN _ _ 2 _ o9.nd rfl (.inl rfl) (by trivial)) (@zP _ _ _ _ _ (@zN _ _ 3 _ o9.nd rfl (.inl rfl) (by trivial)) zw rfl) rfl) rfl rfl) rfl rfl rfl) (@zE _ _ _ _ _ (@yJ _ _ _ _ _ _ (@zR _ _ _ _ _ _ _ _ _ _ _ _ UT hr (@zA _ _ _ _ _ (@pg _ _ _ _ _ _ _ _ _ (@pvb _ 0 _ _ rfl) (@yB _ _ _ zH) (@yB _ _ _ zH)) (@zA _ _ _ _ _ (@pg _ _ _ _ _ _ _ _ _ (@pvb _ 1 _ _ rfl) yS (@yB _ _ _ zH)) zC rfl) rfl) rfl rfl rfl rfl) (@yK _ _ _ _ _ _ rfl (@zP _ _ _ _ _ (@zN _ _ 4 _ o9.nd rfl (.inl rfl) (by trivial)) (@zP _ _ _ _ _ (@zN _ _ 5 _ o9.nd rfl (.inl rfl) (by trivial)) zw rfl) rfl) rfl rfl) rfl rfl rfl) (@zE _ _ _ _ _ (@pZ _ _ 2 6 _ _ _ _ _ _ _ _ _ _ _ rfl o9.nd rfl rfl (by decide) rfl rfl (@zA _ _ _ _ _ (@zS _ _ _ _ _ _ _ _ wt (@pvb _ 2 _ _ rfl) (@pvb _ 4 _ _ rfl)) (@zA _ _ _ _ _ (@zy _ _ _ _ zC) zC rfl) rfl) rfl rfl) (@zE _ _ _ _ _ (@yj _ _ _ _ _ _ _ _ Y2 rfl (@dm _ _ _ _ _ _ _ _ _ true true rfl G.zip (@zA _ _ _ _ _ (@pvb _ 3 _ _ rfl) (@zA _ _ _ _ _ (@pvb _ 5 _ _ rfl) zC rfl) rfl) rfl rfl) (@yK _ _ _ _ _ _ rfl (@zP _ _ _ _ _ (@zN _ _ 7 _ o9.nd rfl (.inl rfl) (by trivial)) (@zP _ _ _ _ _ (@zN _ _ 8 _ o9.nd rfl (.inl rfl) (by trivial)) zw rfl) rfl) rfl rfl) (@zE _ _ _ _ _ (@y4 _ _ _ _ (@wd _ _ _ _ _ _ _ _ _ _ _ _ Y6 YH YJ yq (@pvb _ 2 _ _ rfl) (@zA _ _ _ _ _ (@zi _ _ _ _ _ (@zA _ _ _ _ _ (@pvb _ 7 _ _ rfl) (@zA _ _ _ _ _ (@pvb _ 8 _ _ rfl) zC rfl) rfl)) zC rfl) rfl rfl rfl rfl rfl) rfl) (@zM _ _ _ (@y4 _ _ _ _ (@wd _ _ _ _ _ _ _ _ _ _ _ _ Y6 PySem.F.slot_list_extend PySem.F.type_list_extend ug (@pvb _ 6 _ _ rfl) (@zA _ _ _ _ _ (@zy _ _ _ _ (@zA _ _ _ _ _ (@pvb _ 7 _ _ rfl) (@zA _ _ _ _ _ (@pvb _ 8 _ _ rfl) zC rfl) rfl)) zC rfl) rfl rfl rfl rfl rfl) rfl))) (by intro _;rfl)) (@zM _ _ _ (@zV _ _ _ _ (@zi _ _ _ _ _ (@zA _ _ _ _ _ (@pvb _ 2 _ _ rfl) (@zA _ _ _ _ _ (@pvb _ 6 _ _ rfl) zC rfl) rfl))))))))),?_⟩;have na:=zZ a;have nb:=zZ b;have p8:2 ^ n<=2 ^ 8:=YY (by decide) bo;have e8:2 ^ 8=256:=rfl;refine zB ⟨J,_,rfl,.inl (SqL.of h1),rfl,_,rfl,?_⟩
 cases n with
 | zero =>
  have a8:a.length=1:=al;have cn:b.length=1:=bl;rw[JC (show V.int (((zU a).length:Nat):Int)=V.int 1 by rw[na,a8];rfl)];obtain⟨x,rfl⟩:=List.length_eq_one_iff.mp a8;obtain⟨y,rfl⟩:=List.length_eq_one_iff.mp cn;refine x5 (zB ⟨J,_,0,_,rfl,rfl,SqL.of h1,rfl,_,rfl,S,_,0,_,rfl,rfl,SqL.of h2,rfl,(by show 2<=sizeLine;decide),λt ht=>⟨(by show 1<=sizeLine;decide),λlf hf=>?_⟩⟩);have Y:=zD ht (.tup [.int x,.int y]);have X:=zD hf (.lst [.ref t]);have u2:=Y.trans X;refine zB ⟨J,_,0,_,rfl,rfl,SqL.of (u2 _ _ h1),rfl,_,rfl,S,_,0,_,rfl,rfl,SqL.of (u2 _ _ h2),rfl,(by show 2<=sizeLine;decide),λle he=>⟨(by show 2<=sizeLine;decide),λc hc=>?_⟩⟩;have W:=zD he (.lst [.int x,.int y]);have I:=zD hc (.tup [.ref lf,.ref le])
  exact k c lf le [.ref t] _ ((u2.trans W).trans I) (wu Y hf) (zT hc _) (I _ _ (W _ _ (zT hf _))) ⟨⟨t,rfl,I _ _ (W _ _ (X _ _ (zT ht _)))⟩,trivial⟩ (I _ _ (zT he _))
 | succ m =>
  obtain⟨a0,a1⟩:=uT al;obtain⟨b0,b1⟩:=uT bl;have pw:2 ^ (m+1)=2 ^ m*2:=Zt ..;have p0:=Zu (n:=m);rw[Js (show ¬ V.int (((zU a).length:Nat):Int)=V.int 1 by intro z;injection z with z;lia)];refine xB ?_;dsimp only[eC];refine yV (λD1 b9=>?_);refine zB ⟨2,rfl,rfl,0,J,_,.inl ⟨rfl,rfl⟩,rfl,SqL.of h1,λq1 a5=>?_⟩;rw[jZ];have Y:=zD a5 (.lst (zU (by2 0 a)));refine zB ⟨1,rfl,2,rfl,rfl,1,S,_,.inr ⟨rfl,rfl⟩,rfl,SqL.of (Y _ _ h2),λq2 a4=>?_⟩;rw[jZ];have X:=zD a4 (.lst (zU (by2 1 b)));refine⟨m,rfl,q1,q2,by2 0 a,by2 1 b,rfl,X _ _ (zT a5 _),zT a4 _,a0,b1,by lia,λc3 bt i M H3 W _ b6 b3 ao b4=>?_⟩;have u3:=(Y.trans X).trans W;refine⟨c3,_,rfl,SqT.of b6,rfl,_,_,rfl,_,_,rfl,rfl,b9 _ _ ?_⟩;refine yV (λD2 b8=>?_);refine zB ⟨1,rfl,2,rfl,rfl,1,J,_,.inr ⟨rfl,rfl⟩,rfl,SqL.of (u3 _ _ h1),λq4 a3=>?_⟩;rw[jZ];have I:=zD a3 (.lst (zU (by2 1 a)));refine zB ⟨2,rfl,rfl,0,S,_,.inl ⟨rfl,rfl⟩,rfl,SqL.of (I _ _ (u3 _ _ h2)),λq5 aT=>?_⟩;rw[jZ];have s5:=zD aT (.lst (zU (by2 0 b)));refine⟨m,rfl,q4,q5,by2 1 a,by2 0 b,rfl,s5 _ _ (zT a3 _),zT aT _,a1,b0,by lia,λc6 aE g L H6 s6 _ b5 bR ab O=>?_⟩;have u6:=(I.trans s5).trans s6;refine⟨c6,_,rfl,SqT.of b5,rfl,_,_,rfl,_,_,rfl,rfl,b8 _ _ ?_⟩;refine yV (λD3 b7=>?_);obtain⟨xl,xf⟩:=xk m _ _ a0 b1;obtain⟨yl,yf⟩:=xk m _ _ a1 b0;have bd:=(vq m (by lia)).2;have cx:=ao.len;have ct:=ab.len;have N:=u3.trans u6;have B:=u6 _ _ b4;refine zB (zB ⟨bt,aE,_,_,rfl,rfl,u6 _ _ b3,bR,by rw[JB];lia,λd p=>⟨(by show 0<=sizeLine;decide),λu l=>⟨_,_,rfl,b7 _ _ ?_⟩⟩⟩);have D:=zD p (.lst (M++L));have U:=zD l (.lst []);have a7:d≠u:=zJ (zT p (.lst (M++L))) l;have ba:=(Prs.app (ao.tups (Tups.of u6)) ab).tups (Tups.of (D.trans U));have a6:H d=none:=wu N p;have bB:H u=none:=wu (N.trans D) l;generalize hF:(Bn.mergeN m (by2 0 a) (by2 1 b)).2=fst at *;generalize hS:(Bn.mergeN m (by2 1 a) (by2 0 b)).2=snd at *;have e3:=U _ _ (D _ _ B);have e6:=U _ _ (D _ _ O);have n3:i≠d:=zJ B p;have n6:g≠d:=zJ O p;have bc:i≠u:=zJ (D _ _ B) l;have bb:g≠u:=zJ (D _ _ O) l;refine zB (zB ⟨i,g,_,_,rfl,SqL.of e3,SqL.of e6,?_⟩);refine js (K:=K) (b1:=true) (b2:=true) (a1:=i) (a2:=g) (xs:=zU fst) (ys:=zU snd) (by rw[zZ,zZ,xl,yl]) (λj σ C=>(∃ v7 v8,σ=[some (.ref J),some (.ref S),some (.ref d),some (.ref i),some (.ref aE),some (.ref g),some (.ref u),v7,v8])/\Same H C/\C i=some (.lst (zU fst))/\C g=some (.lst (zU snd))/\(∃ r,C d=some (.lst r)/\Prs C r ((Bn.mergeN m (by2 0 a) (by2 1 b)).1++(Bn.mergeN m (by2 1 a) (by2 0 b)).1++(fst.zip snd).take j))/\C u=some (.lst (zU (yg (fst.take j) (snd.take j))))) ?_ (λj σ C _ z=>⟨SqL.of z.2.2.1,SqL.of z.2.2.2.1⟩) ?_ ?_
  ·refine⟨⟨_,_,rfl⟩,(N.trans D).trans U,e3,e6,⟨M++L,U _ _ (zT p _),?_⟩,zT l _⟩
   rw[ZX,JU];exact ba
  ·rintro j x y T σ C hx hy hT ⟨⟨v7,v8,rfl⟩,s9,e3,e6,⟨r,h7,v⟩,h8⟩
   obtain⟨j1,rfl⟩:=num_at hx;obtain⟨j2,rfl⟩:=num_at hy;have pl:=v.len;rw[Jd,Jd,Jw,ZN]at pl;have sT:=zD hT (.tup [.int ((fst.getD j 0:Nat):Int),.int ((snd.getD j 0:Nat):Int)]);refine⟨T,_,rfl,SqT.of zG,rfl,_,_,rfl,_,_,rfl,rfl,?_⟩;refine zB ⟨.inl ⟨rfl,_,SqL.of (sT _ _ h7)⟩,_,rfl,_,rfl,(by show 2<=sizeLine;decide),λt ht=>?_⟩;have st:=zD ht (.tup [.int ((fst.getD j 0:Nat):Int),.int ((snd.getD j 0:Nat):Int)]);have ut:=sT.trans st;refine⟨d,r,_,rfl,rfl,ut _ _ h7,by rw[JB];lia,?_⟩;have bu:=zT ht (.tup [.int ((fst.getD j 0:Nat):Int),.int ((snd.getD j 0:Nat):Int)]);have cc:=ut _ _ h7;have cb:=ut _ _ h8;have cm:=ut _ _ e3;have ck:=ut _ _ e6;have a9:=s9.trans ut;have aa:=v.tups (Tups.of ut);generalize L2.upd (L2.upd C T (.tup [.int ((fst.getD j 0:Nat):Int),.int ((snd.getD j 0:Nat):Int)])) t (.tup [.int ((fst.getD j 0:Nat):Int),.int ((snd.getD j 0:Nat):Int)])=H9 at *;have tq:=Tups.lst (ys:=r++[.ref t]) cc;have R:L2.upd H9 d (.lst (r++[.ref t])) u=some (.lst (zU (yg (fst.take j) (snd.take j)))):=by rw[zK a7.symm];exact cb
   refine zB ⟨.inl ⟨rfl,_,SqL.of R⟩,_,rfl,_,rfl,(by show 2<=sizeLine;decide),λq hq=>?_⟩;have sq:=zD hq (.lst [.int ((fst.getD j 0:Nat):Int),.int ((snd.getD j 0:Nat):Int)]);have tl:=xq (fst.take j) (snd.take j) (by rw[Jw,Jw];lia);rw[Jw]at tl;refine⟨u,q,_,_,rfl,rfl,sq _ _ R,zT hq _,by rw[zZ,JB,tl];show _+2<=_;lia,?_⟩;have Z:∀ {c:JI}{o:HO},L2.upd H9 d (.lst (r++[.ref t])) c=some o->c≠u->L2.upd (L2.upd (L2.upd H9 d (.lst (r++[.ref t]))) q (.lst [.int ((fst.getD j 0:Nat):Int),.int ((snd.getD j 0:Nat):Int)])) u (.lst (zU (yg (fst.take j) (snd.take j))++[.int ((fst.getD j 0:Nat):Int),.int ((snd.getD j 0:Nat):Int)])) c=some o:=λe ne=>by rw[zK ne];exact sq _ _ e
   refine⟨⟨_,_,rfl⟩,λc o e=>Z (by rw[zK (zJ e a6)];exact a9 c o e) (zJ e bB),Z (by rw[zK n3];exact cm) bc,Z (by rw[zK n6];exact ck) bb,⟨r++[.ref t],Z zG a7,?_⟩,?_⟩
   ·rw[oW j1 j2,<- JT]
    have tz:Tups (L2.upd H9 d (.lst (r++[.ref t]))) _:=λc xs e=>Z e (x9 e R (λz=>by cases z));exact(Prs.add (f:=(fst.getD j 0,snd.getD j 0)) (tq _ _ bu) (aa.tups tq)).tups tz
   ·rw[vU fst snd j j1 j2]
    have e:zU (yg (fst.take j) (snd.take j)++[fst.getD j 0,snd.getD j 0])=zU (yg (fst.take j) (snd.take j))++[.int ((fst.getD j 0:Nat):Int),.int ((snd.getD j 0:Nat):Int)]:=by rw[<- bA];rfl
    rw[e];exact zG
  ·rintro σ C ⟨⟨v7,v8,rfl⟩,s9,e3,e6,⟨r,h7,v⟩,h8⟩
   refine zB (zB ⟨(by show 2<=sizeLine;decide),λc hc=>?_⟩);have sc:=zD hc (.tup [.ref d,.ref u]);have eN:Bn.mergeN (m+1) a b=((Bn.mergeN m (by2 0 a) (by2 1 b)).1++(Bn.mergeN m (by2 1 a) (by2 0 b)).1++fst.zip snd,yg fst snd):=by rw[<- hF,<- hS];rfl
   refine k c d u r _ (s9.trans sc) a6 (zT hc _) (sc _ _ h7) ?_ ?_
   ·rw[eN]
    rw[JM (by rw[zZ,ZN];simp_all)]at v;exact v.tups (Tups.of sc)
   ·rw[eN]
    rw[JM (by rw[zZ];exact Jg _),JM (by rw[zZ];simp_all)]at h8;exact sc _ _ h8
theorem jO {f:JI}{fd:Yl}(F:Fun K "_law_merger" "_law_merger" nD f fd) (G:Mgs mg) (b:Binds K fd ["_law_one","_law_other"] []) (a:mg "_law_merger" = some (.ref f)):∀ n:Nat,FnOk P w K mg base CX0 (n+1) f fd ["_law_one","_law_other"] (sK n)
 | 0=>nS F G b a 0 ⟨λvs H Q E ⟨m,h,_⟩=>by simp_all,λA outer s H args us vs Q E _ _ _ _ ⟨m,h,_⟩=>by simp_all⟩
 | m+1=>nS F G b a (m+1) ((jO F G b a m).imp λvs H Q E ⟨c,h,q⟩=>by cases h;exact q)
abbrev wk:Sp:=λa H Q E=>∃ m,m<=4/\sK m a H Q E
theorem iw {f:JI}{fd:Yl}(F:Fun K "_law_merger" "_law_merger" nD f fd) (G:Mgs mg) (b:Binds K fd ["_law_one","_law_other"] []) (a:mg "_law_merger" = some (.ref f)):FnOk P w K mg base CX0 5 f fd ["_law_one","_law_other"] wk :=
 FnOk.any 4 λm c=>(jO F G b a m).mono (by simp_all)
abbrev eW:Stmt:=top 41
structure Few (l f:Nat) (N:Nt):Prop where
 ok:N.Ok
 ln:N.lanes<=l
 fk:N.forks.length<=f
def lB:Sp:=λb H Q _=>∃ l:JI,b=[.ref l]/\Pk3 H l/\∀ r fr d c N a,Few 6 8 N->NetAt a r fr d c N->Pk3 a l->But l H a->Q (.ref r) a
def FkOk (H:Hp)(lanes:Nat)(x:V):Prop:=∃ a g,x=.ref a/\H a=some (.tup [.int ((g:Nat × Nat).1:Nat),.int ((g.2:Nat))])/\g.1<lanes/\g.2<lanes/\g.1≠g.2
theorem FkOk.tups {H H':Hp}(t:Tups H H'){lanes:Nat}{x:V}(h:FkOk H lanes x):FkOk H' lanes x:=by
 obtain⟨a,g,e,c,b⟩:=h;exact⟨a,g,e,t _ _ c,b⟩
theorem lJ:FnScope ["_law_left_here","_law_lanes","_law_forks","_law_k","_law_a","_law_b","_law_ends_here"] ["_law_left_here"] (zQ eW):=by trivial
theorem au {f fK fX:JI}{fd dK dX:Yl}(F:Fun K "_law_any" "_law_any" eW f fd) (G:Mgs mg) (UK:Use P w K mg base "_law_pick" ["_law_left_here","_law_many"] 1 x8 fK dK) (UX:Use P w K mg base "_law_mixed" ["_law_left_here","_law_row"] 2 tO fX dX):FnOk P w K mg base CX0 3 f fd ["_law_left_here"] lB:=by
 refine F.ok lJ (λvs H Q E h=>?_) (λbS A outer s H vs Q E hr h=>?_)
 ·obtain⟨l,rfl,_⟩:=h
  rfl
 obtain⟨l,rfl,S,k⟩:=h;have B:Room 1 _:=hr.mono (by decide);refine⟨_,(@zE _ _ _ _ _ (@zW _ _ 1 _ _ _ _ lJ.nd rfl (.inl rfl) (@zY _ _ _ _ _ _ _ zj (@zy _ _ _ _ (@zA _ _ _ _ _ zH (@zA _ _ _ _ _ zH (@zA _ _ _ _ _ zH (@zA _ _ _ _ _ zH (@zA _ _ _ _ _ zH (@zA _ _ _ _ _ zH (@zA _ _ _ _ _ zH (@zA _ _ _ _ _ zH zC rfl) rfl) rfl) rfl) rfl) rfl) rfl) rfl)) (@zR _ _ _ _ _ _ _ _ _ _ _ _ UK B (@zA _ _ _ _ _ (@pvb _ 0 _ _ rfl) (@zA _ _ _ _ _ zH zC rfl) rfl) rfl rfl rfl rfl) (λ_ _=>rfl)) rfl (by trivial)) (@zE _ _ _ _ _ (@zW _ _ 2 _ _ _ _ lJ.nd rfl (.inl rfl) (@zy _ _ _ _ zC) rfl (by trivial)) (@zE _ _ _ _ _ (@yj _ _ _ _ _ _ _ _ Y2 rfl (@yZ _ _ _ _ _ _ rfl G.range (@zA _ _ _ _ _ (@zS _ _ _ _ _ _ _ _ wC (@zY _ _ _ _ _ _ _ zj (@zy _ _ _ _ (@zA _ _ _ _ _ zH (@zA _ _ _ _ _ zH (@zA _ _ _ _ _ zH (@zA _ _ _ _ _ zH (@zA _ _ _ _ _ zH (@zA _ _ _ _ _ zH (@zA _ _ _ _ _ zH (@zA _ _ _ _ _ zH zC rfl) rfl) rfl) rfl) rfl) rfl) rfl) rfl)) (@zR _ _ _ _ _ _ _ _ _ _ _ _ UK B (@zA _ _ _ _ _ (@pvb _ 0 _ _ rfl) (@zA _ _ _ _ _ zH zC rfl) rfl) rfl rfl rfl rfl) (λ_ _=>rfl)) (@zo _ _ _ _ _ _ _ _ _ wT rfl G.int rfl (@zA _ _ _ _ _ (@wb _ _ _ _ _ _ _ _ jL (@pvb _ 1 _ _ rfl) zH (yC _)) zC rfl) (by decide) (by decide) rfl rfl)) zC rfl) rfl) (@zN _ _ 3 _ lJ.nd rfl (.inl rfl) (by trivial)) (@zE _ _ _ _ _ (@zW _ _ 4 _ _ _ _ lJ.nd rfl (.inl rfl) (@zR _ _ _ _ _ _ _ _ _ _ _ _ UK B (@zA _ _ _ _ _ (@pvb _ 0 _ _ rfl) (@zA _ _ _ _ _ (@pvb _ 1 _ _ rfl) zC rfl) rfl) rfl rfl rfl rfl) rfl (by trivial)) (@zE _ _ _ _ _ (@zW _ _ 5 _ _ _ _ lJ.nd rfl (.inl rfl) (@zS _ _ _ _ _ _ _ _ xv (@zS _ _ _ _ _ _ _ _ yR (@zS _ _ _ _ _ _ _ _ yR (@pvb _ 4 _ _ rfl) zH) (@zR _ _ _ _ _ _ _ _ _ _ _ _ UK B (@zA _ _ _ _ _ (@pvb _ 0 _ _ rfl) (@zA _ _ _ _ _ (@zS _ _ _ _ _ _ _ _ xM (@pvb _ 1 _ _ rfl) zH) zC rfl) rfl) rfl rfl rfl rfl)) (@pvb _ 1 _ _ rfl)) rfl (by trivial)) (@zM _ _ _ (@y4 _ _ _ _ (@wd _ _ _ _ _ _ _ _ _ _ _ _ Y6 YH YJ yq (@pvb _ 2 _ _ rfl) (@zA _ _ _ _ _ (@zY _ _ _ _ _ _ _ zj (@zy _ _ _ _ (@zA _ _ _ _ _ (@zi _ _ _ _ _ (@zA _ _ _ _ _ (@pvb _ 4 _ _ rfl) (@zA _ _ _ _ _ (@pvb _ 5 _ _ rfl) zC rfl) rfl)) (@zA _ _ _ _ _ (@zi _ _ _ _ _ (@zA _ _ _ _ _ (@pvb _ 4 _ _ rfl) (@zA _ _ _ _ _ (@pvb _ 5 _ _ rfl) zC rfl) rfl)) (@zA _ _ _ _ _ (@zY _ _ _ _ _ _ _ zj (@zS _ _ _ _ _ _ _ _ wt (@pvb _ 2 _ _ rfl) (@zy _ _ _ _ (@zA _ _ _ _ _ (@zi _ _ _ _ _ (@zA _ _ _ _ _ (@pvb _ 4 _ _ rfl) (@zA _ _ _ _ _ (@pvb _ 5 _ _ rfl) zC rfl) rfl)) zC rfl))) zH (λ_ _=>rfl)) zC rfl) rfl) rfl)) (@zR _ _ _ _ _ _ _ _ _ _ _ _ UK B (@zA _ _ _ _ _ (@pvb _ 0 _ _ rfl) (@zA _ _ _ _ _ zH zC rfl) rfl) rfl rfl rfl rfl) (λ_ _=>rfl)) zC rfl) rfl rfl rfl rfl rfl) rfl)))) (by intro _;rfl)) (@zE _ _ _ _ _ (@zW _ _ 6 _ _ _ _ lJ.nd rfl (.inl rfl) (@zY _ _ _ _ _ _ _ zj (@zy _ _ _ _ (@zA _ _ _ _ _ (@uf _ _ _ _ _ _ _ rfl rfl G.tuple rfl G.range (@zA _ _ _ _ _ (@pvb _ 1 _ _ rfl) zC rfl) rfl rfl) (@zA _ _ _ _ _ (@zR _ _ _ _ _ _ _ _ _ _ _ _ UX hr (@zA _ _ _ _ _ (@pvb _ 0 _ _ rfl) (@zA _ _ _ _ _ (@vH _ _ _ _ _ _ _ rfl rfl G.list rfl G.range (@zA _ _ _ _ _ (@pvb _ 1 _ _ rfl) zC rfl) rfl rfl) zC rfl) rfl) rfl rfl rfl rfl) zC rfl) rfl)) (@zR _ _ _ _ _ _ _ _ _ _ _ _ UK B (@zA _ _ _ _ _ (@pvb _ 0 _ _ rfl) (@zA _ _ _ _ _ zH zC rfl) rfl) rfl rfl rfl rfl) (λ_ _=>rfl)) rfl (by trivial)) (@zM _ _ _ (@zV _ _ _ _ (@zi _ _ _ _ _ (@zA _ _ _ _ _ (@pvb _ 1 _ _ rfl) (@zA _ _ _ _ _ (@zo _ _ _ _ _ _ _ _ _ zr rfl G.tuple rfl (@zA _ _ _ _ _ (@pvb _ 2 _ _ rfl) zC rfl) (by decide) (by decide) rfl rfl) (@zA _ _ _ _ _ (@pvb _ 6 _ _ rfl) zC rfl) rfl) rfl)))))))),?_⟩;refine yV (λD1 ba=>?_);refine⟨(by show 8<=sizeLine;decide),λt C=>zB ⟨l,8,rfl,by decide,by decide,S.keep (zD C _),λv H1 hv S1 B1=>?_⟩⟩;obtain⟨lanes,lm,la⟩:=vG (xs:=[1,2,2,3,4,3,4,6]) (v:=v) (by show v<8;lia);have lb:1<=lanes/\lanes<=6:=(show ∀ n∈[1,2,2,3,4,3,4,6],1<=n/\n<=6 by decide) lanes lm;obtain⟨l1,l6⟩:=lb;refine⟨t,_,_,_,rfl,rfl,SqL.of (B1 t _ (zT C _) (S.ne C).symm),la,ba _ _ ?_⟩;have a4:But l H H1:=(But.of (zD C _)).trans B1;clear C B1 la lm;refine yV (λD2 a9=>?_);refine⟨(by show 0<=sizeLine;decide),λlf D=>a9 _ _ ?_⟩;have o:=S1.ne D;have sf:=zD D (.lst []);have bc:Frs l H lf:=a4.frs D;refine⟨(by show 8<=sizeLine;decide),λt C=>zB ⟨l,8,rfl,by decide,by decide,(S1.keep sf).keep (zD C _),λv2 W bR U Y=>?_⟩⟩;obtain⟨many,mm,ma⟩:=vG (xs:=[0,1,2,3,4,5,6,8]) (v:=v2) (by show v2<8;lia);have mb:many<=8:=(show ∀ n∈[0,1,2,3,4,5,6,8],n<=8 by decide) many mm;refine⟨t,_,_,_,rfl,rfl,SqL.of (Y t _ (zT C _) ((S1.keep sf).ne C).symm),ma,?_⟩;have a6:=Y lf _ (zD C _ _ _ (zT D (.lst []))) o.symm;have bu:But l H W:=((a4.trans (But.of sf)).trans (But.of (zD C _))).trans Y;clear C Y ma mm D sf;refine zB ⟨_,_,rfl,rfl,.inr (zu rfl ⟨_,_,rfl,rfl,.inl ⟨by lia,by lia⟩,?_⟩)⟩
 have cb:((many:Int)*(if decide ((1:Int)<lanes)=true then 1 else 0))=((if 1<lanes then many else 0:Nat):Int):=by
  by_cases z:1<lanes
  ·rw[Jm (JC (by lia)),Jm z];lia
  ·rw[Jf (by rw[Js (by lia)];exact Jj),Jf z];lia
 have cl:(if 1<lanes then many else 0)<=8:=by split<;>lia
 refine zu rfl ⟨by rw[cb];lia,by rw[cb];lia,?_⟩;rw[cb];generalize ab:(if 1<lanes then many else 0)=cnt at cl
 refine yz (lo:=0) (n:=((cnt:Nat):Int).toNat) (λi σ W=>(∃ w3 w4 w5 w6,σ=[some (.ref l),some (.int (lanes:Nat)),some (.ref lf),w3,w4,w5,w6])/\Pk3 W l/\But l H W/\∃ m fs,W lf=some (.lst m)/\Prs W m fs/\fs.length=i/\∀ f∈fs,f.1<lanes/\f.2<lanes/\f.1≠f.2)
  ⟨⟨_,_,_,_,rfl⟩,U,bu,[],[],a6,trivial,rfl,λf hf=>by simp at hf⟩ ?_ ?_
 ·rintro i σ W hi ⟨⟨w3,w4,w5,w6,rfl⟩,U,Y,m,fs,h2,p2,fl,O⟩
  have l2:1<lanes:=by
   by_cases z:1<lanes
   ·exact z
   ·rw[Jf z]at ab;lia
  refine zcz (λD0 bb=>?_);refine yV (λD4 a8=>?_);refine zB (zB ⟨l,lanes,rfl,by lia,by lia,U,λone H3 ho S3 X=>a8 _ _ ?_⟩);refine yV (λD5 a7=>?_);refine zB ⟨_,_,rfl,rfl,_,rfl,_,rfl,_,_,rfl,rfl,l,_,rfl,by lia,by lia,S3,λd H4 hd S4 B4=>?_⟩;refine⟨_,_,rfl,rfl,_,rfl,_,_,rfl,rfl,by lia,a7 _ _ ?_⟩;have q:one<lanes:=by lia
  obtain⟨ok1,M⟩:=nO (one:=one) (d:=d) (lanes:=lanes) q (by lia);have ec:((one:Int)+1+d)%lanes=(((one+1+d)%lanes:Nat):Int):=by rw[Int.natCast_emod,Int.natCast_add,Int.natCast_add];rfl
  dsimp only;rw[ec];generalize (one+1+d)%lanes=b at ok1 M;have h4:=B4 lf _ (X lf _ h2 o.symm) o.symm;have p4:=p2.tups ((X.tups3 U).trans (B4.tups3 S3));have bo:But l H H4:=(Y.trans X).trans B4;have pl:=p4.len;refine zB ⟨.inl ⟨rfl,_,SqL.of h4⟩,_,rfl,_,rfl,(by show 2<=sizeLine;decide),λI y=>zB (zB ⟨(by show 2<=sizeLine;decide),λt2 ao=>?_⟩)⟩;have s1:=zD y (.tup [.int (one:Nat),.int (b:Nat)]);have s2:=zD ao (.tup [.int (one:Nat),.int (b:Nat)]);have Z:=s1.trans s2;refine zB (zB (zB ⟨(by show 2<=sizeLine;decide),λu N=>⟨(by show 1<=sizeLine;decide),λl3 a0=>?_⟩⟩));have s3:=zD N (.tup [.int (one:Nat),.int (b:Nat)]);have s4:=zD a0 (.lst [.ref u]);have u4:=(Z.trans s3).trans s4;refine⟨lf,l3,_,_,rfl,rfl,u4 _ _ h4,zT a0 _,by rw[JB];show m.length+1<=_;lia,λl4 aT=>?_⟩;have s5:=zD aT (.lst (m++[.ref u]));have u5:=u4.trans s5;have k1:FkOk _ lanes (.ref I):=⟨I,(one,b),rfl,s5 _ _ (s4 _ _ (s3 _ _ (s2 _ _ (zT y _)))),q,ok1,M⟩;have k2:FkOk _ lanes (.ref t2):=⟨t2,(one,b),rfl,s5 _ _ (s4 _ _ (s3 _ _ (zT ao _))),q,ok1,M⟩
  obtain⟨x0,e0,k0⟩:∃ x0,(m++[V.ref u])[0]?=some x0/\FkOk (L2.upd (L2.upd (L2.upd (L2.upd (L2.upd H4 I (.tup [.int (one:Nat),.int (b:Nat)])) t2 (.tup [.int (one:Nat),.int (b:Nat)])) u (.tup [.int (one:Nat),.int (b:Nat)])) l3 (.lst [.ref u])) l4 (.lst (m++[.ref u]))) lanes x0:=by
   cases m with
   | nil=>exact zu rfl ⟨u,(one,b),rfl,s5 _ _ (s4 _ _ (zT N _)),q,ok1,M⟩
   | cons p m =>
    obtain⟨a,g,e,eg,ha⟩:=p4.get (i:=0) (p:=p) rfl;exact⟨p,rfl,a,g,e,u5 _ _ ha,O g (JD eg)⟩
  have h5:=u5 _ _ h4;have p5:=p4.tups (Tups.of u5);have S5:=S4.keep u5;have B5:=bo.trans (But.of (l:=l) u5);refine⟨l4,_,0,x0,rfl,rfl,SqL.of (zT aT _),yT (j:=0) e0,?_⟩;generalize L2.upd (L2.upd (L2.upd (L2.upd (L2.upd H4 I (.tup [.int (one:Nat),.int (b:Nat)])) t2 (.tup [.int (one:Nat),.int (b:Nat)])) u (.tup [.int (one:Nat),.int (b:Nat)])) l3 (.lst [.ref u])) l4 (.lst (m++[.ref u]))=H5 at *;refine⟨(by show 3<=sizeLine;decide),λl5 c=>zB ⟨l,3,rfl,by decide,by decide,S5.keep (zD c _),λR H6 a5 S6 L=>?_⟩⟩;have J:=zD c (.lst [.ref I,.ref t2,x0]);have bB:R<3:=by lia
  have T:=(Tups.of J).trans (L.tups3 (S5.keep J))
  obtain⟨x,ex,kx⟩:∃ x,[V.ref I,V.ref t2,x0][R]?=some x/\FkOk H6 lanes x:=by
   rcases R with _|_|_|R
   ·exact zu rfl (k1.tups T)
   ·exact zu rfl (k2.tups T)
   ·exact zu rfl (k0.tups T)
   ·lia
  refine⟨l5,_,_,x,rfl,rfl,SqL.of (L l5 _ (zT c _) (S5.ne c).symm),yT ex,?_⟩;have h6:=L lf _ (J _ _ h5) o.symm;have p6:=p5.tups T;obtain⟨a,g,rfl,ha,gk⟩:=kx;refine⟨lf,m,_,rfl,rfl,h6,by rw[JB];lia,bb _ _ ⟨⟨_,_,_,_,rfl⟩,S6.upd o,((B5.trans (But.of J)).trans L).upd bc,m++[.ref a],fs++[g],zG,Prs.add (f:=g) (Tups.lst h6 _ _ ha) (p6.tups (Tups.lst h6)),by rw[Jd,fl];rfl,λf hf=>?_⟩⟩;rcases Jv.mp hf with z|z
  ·exact O f z
  ·rw[Jc.mp z];exact gk
 ·rintro σ W ⟨⟨w3,w4,w5,w6,rfl⟩,U,Y,m,fs,h2,p2,fl,O⟩
  have bl:fs.length<=8:=by rw[fl];lia
  refine zB ⟨lanes,rfl,by lia,λI y=>?_⟩;have s1:=zD y (.tup (zU (List.range lanes)));refine zB (zB ⟨lanes,rfl,by lia,λl2 a3=>?_⟩);have s2:=zD a3 (.lst (zU (List.range lanes)));have Z:=s1.trans s2;refine⟨l,l2,zU (List.range lanes),rfl,zT a3 _,by rw[zZ,Y4];lia,U.keep Z,λu ys H3 py N S3 X=>?_⟩;have aa:=X I _ (s2 _ _ (zT y _)) (U.ne y).symm;have h3:=X lf _ (Z _ _ h2) o.symm;have p3:=p2.tups ((Tups.of Z).trans (X.tups3 (U.keep Z)));have bt:=(Y.trans (But.of Z)).trans X;refine⟨(by show 2<=sizeLine;decide),λl5 c=>zB ⟨l,2,rfl,by decide,by decide,S3.keep (zD c _),λR H6 a5 S6 L=>?_⟩⟩;have J:=zD c (.lst [.ref I,.ref u]);have T:=(Tups.of J).trans (L.tups3 (S3.keep J))
  obtain⟨x,ex,e,kx,pe⟩:∃ x,[V.ref I,V.ref u][R]?=some (.ref x)/\∃ es:List Nat,H6 x=some (.tup (zU es))/\es.Perm (List.range lanes):=by
   rcases R with _|_|R
   ·exact zu rfl ⟨_,T _ _ aa,.refl _⟩
   ·obtain⟨es,rfl,pe⟩:=qN py
    exact zu rfl ⟨es,T _ _ N,pe⟩
   ·lia
  refine⟨l5,_,_,.ref x,rfl,rfl,SqL.of (L l5 _ (zT c _) (S3.ne c).symm),yT ex,?_⟩;have h6:=L lf _ (J _ _ h3) o.symm;have p6:=p3.tups T;refine zB (zB ⟨lf,_,rfl,.inl ⟨SqL.of h6,λa ha=>?_⟩⟩);have s7:=zD ha (.tup m);refine zB ⟨(by show 3<=sizeLine;decide),λr aE=>?_⟩;have s8:=zD aE (.tup [.int (lanes:Nat),.ref a,.ref x]);refine k r a x m ⟨lanes,fs,e⟩ _ ⟨⟨l1,by show lanes<=16;lia,by show fs.length<=128;lia,O,pe⟩,l6,bl⟩ ⟨zT aE _,s8 _ _ (zT ha _),p6.tups (Tups.of (s7.trans s8)),s8 _ _ (s7 _ _ kx)⟩ ((S6.keep s7).keep s8) ((bt.trans (But.of J)).trans (L.trans (But.of (s7.trans s8))))
abbrev za7:Stmt:=top 42
def eL:Sp:=λi H Q _=>∃ l r fr k j N h b,i=[.ref l,.ref r]/\Pk3 H l/\Few h b N/\b<=100/\NetAt H r fr k j N/\∀ g e f d c a,Few h (b+1) c->c.lanes=N.lanes->NetAt a g e f d c->Pk3 a l->But l H a->Q (.ref g) a
theorem zaD (xs:List V)(i j:Nat):xW xs (some (i:Int)) (some (j:Int))=(xs.drop i).take (j-i):=by
 unfold xW;rw[HT.sIx_nat,HT.sIx_nat];by_cases c:i<=xs.length
 ·rw[Zd c]
  by_cases d:j<=xs.length
  ·rw[Zd d]
  ·rw[Nat.min_eq_right (by lia),JM (by rw[YD];lia),JM (by rw[YD];lia)]
 ·rw[List.drop_of_length_le (show xs.length<=i by lia),List.drop_of_length_le (by lia),Ws,Ws]
theorem j6 (xs:List V)(i:Nat):xW xs (some (i:Int)) none=xs.drop i:=by
 unfold xW;rw[HT.sIx_none,HT.sIx_nat];by_cases c:i<=xs.length
 ·rw[Zd c]
  exact JM (by rw[YD];exact Jg _)
 ·rw[List.drop_of_length_le (show xs.length<=i by lia),List.drop_of_length_le (by lia),Ws]
theorem j4 (xs:List V)(i:Nat):xW xs none (some (i:Int))=xs.take i:=by
 unfold xW;rw[HT.sIx_none,HT.sIx_nat,ZW,Nat.sub_zero];by_cases c:i<=xs.length
 ·rw[Zd c]
 ·rw[JM (by lia),JM (by lia)]
theorem uD {H:Hp}:∀ {ps:List V}{fs:List (Nat × Nat)}(n:Nat),Prs H ps fs->Prs H (ps.take n) (fs.take n)
 | [],[],n,_=>by rw[Ws,Ws];trivial
 | _::_,_::_,0,_=>trivial
 | _::_,_::_,n+1,⟨x,r⟩=>⟨x,uD n r⟩
theorem xu {H:Hp}:∀ {ps:List V}{fs:List (Nat × Nat)}(n:Nat),Prs H ps fs->Prs H (ps.drop n) (fs.drop n)
 | [],[],n,_=>by rw[List.drop_nil,List.drop_nil];trivial
 | _::_,_::_,0,h=>h
 | _::_,_::_,n+1,⟨_,r⟩=>xu n r
def FksOk (lanes:Nat)(a:List (Nat × Nat)):Prop:=∀ f∈a,f.1<lanes/\f.2<lanes/\f.1≠f.2
theorem FksOk.app {lanes:Nat}{a b:List (Nat × Nat)}(x:FksOk lanes a)(y:FksOk lanes b):FksOk lanes (a++b):=λf c=>(Jv.mp c).elim (x f) (y f)
theorem FksOk.take {lanes:Nat}{a:List (Nat × Nat)}(x:FksOk lanes a)(n:Nat):FksOk lanes (a.take n):=λf b=>x f (YW b)
theorem FksOk.drop {lanes:Nat}{a:List (Nat × Nat)}(x:FksOk lanes a)(n:Nat):FksOk lanes (a.drop n):=λf b=>x f (W8 b)
theorem lI:FnScope ["_law_left_here","_law_net_here","_law_lanes","_law_forks","_law_ends_here","_law_way","_law_at","_law_k","_law_here","_law_row"] ["_law_left_here","_law_net_here"] (zQ za7):=by trivial
theorem zbs {f fK:JI}{fd dK:Yl}(F:Fun K "_law_changed" "_law_changed" za7 f fd) (G:Mgs mg) (UK:Use P w K mg base "_law_pick" ["_law_left_here","_law_many"] 1 x8 fK dK):FnOk P w K mg base CX0 2 f fd ["_law_left_here","_law_net_here"] eL:=by
 refine F.ok lI (λvs H Q E h=>?_) (λb5 A outer s H vs Q E hr h=>?_)
 ·obtain⟨l,r,fr,er,C,N,lb,fb,rfl,_⟩:=h
  rfl
 obtain⟨l,r,fr,er,C,N,lb,fb,rfl,S,a4,b4,na,k⟩:=h;refine⟨_,(@zE _ _ _ _ _ (@yJ _ _ _ _ _ _ (@pvb _ 1 _ _ rfl) (@yK _ _ _ _ _ _ rfl (@zP _ _ _ _ _ (@zN _ _ 2 _ lI.nd rfl (.inl rfl) (by trivial)) (@zP _ _ _ _ _ (@zN _ _ 3 _ lI.nd rfl (.inl rfl) (by trivial)) (@zP _ _ _ _ _ (@zN _ _ 4 _ lI.nd rfl (.inl rfl) (by trivial)) zw rfl) rfl) rfl) rfl rfl) rfl rfl rfl) (@zE _ _ _ _ _ (aU (i:=5) (j:=6) (k:=7) rfl lI.nd rfl rfl rfl (by decide) (by decide) (by decide) rfl rfl rfl (@zA _ _ _ _ _ (@zR _ _ _ _ _ _ _ _ _ _ _ _ UK hr (@zA _ _ _ _ _ (@pvb _ 0 _ _ rfl) (@zA _ _ _ _ _ zH zC rfl) rfl) rfl rfl rfl rfl) (@zA _ _ _ _ _ (@zR _ _ _ _ _ _ _ _ _ _ _ _ UK hr (@zA _ _ _ _ _ (@pvb _ 0 _ _ rfl) (@zA _ _ _ _ _ (@zS _ _ _ _ _ _ _ _ yR (@zX _ _ _ _ _ _ _ _ _ zp rfl G.len Yb (@zA _ _ _ _ _ (@pvb _ 3 _ _ rfl) zC rfl) (by decide) (by decide) rfl rfl) zH) zC rfl) rfl) rfl rfl rfl rfl) (@zA _ _ _ _ _ (@zR _ _ _ _ _ _ _ _ _ _ _ _ UK hr (@zA _ _ _ _ _ (@pvb _ 0 _ _ rfl) (@zA _ _ _ _ _ (@pvb _ 2 _ _ rfl) zC rfl) rfl) rfl rfl rfl rfl) zC rfl) rfl) rfl) rfl) (@zE _ _ _ _ _ (@zW _ _ 8 _ _ _ _ lI.nd rfl (.inl rfl) (@yL _ _ _ _ _ _ _ _ _ _ yw (@pvb _ 3 _ _ rfl) (@yB _ _ _ (@pvb _ 6 _ _ rfl)) (@yB _ _ _ (@zS _ _ _ _ _ _ _ _ yR (@pvb _ 6 _ _ rfl) zH))) rfl (by trivial)) (@zE _ _ _ _ _ (@yb _ _ _ _ _ _ _ _ (@zt _ _ _ _ _ _ _ _ xR (@pvb _ 5 _ _ rfl) zH (yC _)) (@zM _ _ _ (@zV _ _ _ _ (@zi _ _ _ _ _ (@zA _ _ _ _ _ (@pvb _ 2 _ _ rfl) (@zA _ _ _ _ _ (@zS _ _ _ _ _ _ _ _ xE (@zS _ _ _ _ _ _ _ _ xE (@yL _ _ _ _ _ _ _ _ _ _ yw (@pvb _ 3 _ _ rfl) yS (@yB _ _ _ (@pvb _ 6 _ _ rfl))) (@zo _ _ _ _ _ _ _ _ _ zr rfl G.tuple rfl (@zA _ _ _ _ _ (@su _ _ _ _ none _ _ _ (kh K 2 (uO (xT 0) (uO (xT 1) bQ))) _ _ ["_law_a","_law_b"] [none,none] rfl (@wY _ _ _ _ (@pvb _ 8 _ _ rfl)) (CapOk.of (by kernel_rfl)) (λ_ _ _ _ _=>(@yK _ _ _ _ _ _ rfl (@zP _ _ _ _ _ (@zN _ _ 0 _ (show (["_law_a","_law_b"]:List Str).Nodup from by decide +kernel) rfl (.inl rfl) (.inr rfl)) (@zP _ _ _ _ _ (@zN _ _ 1 _ (show (["_law_a","_law_b"]:List Str).Nodup from by decide +kernel) rfl (.inl rfl) (.inr rfl)) zw rfl) rfl) rfl rfl)) (λ_ _ _ _ _=>xh) (λ_ _ _ _ _=>(@zi _ _ _ _ _ (@zA _ _ _ _ _ (@pvb _ 1 _ _ rfl) (@zA _ _ _ _ _ (@pvb _ 0 _ _ rfl) zC rfl) rfl))) (by intro _;rfl)) zC rfl) (by decide) (by decide) rfl rfl)) (@yL _ _ _ _ _ _ _ _ _ _ yw (@pvb _ 3 _ _ rfl) (@yB _ _ _ (@zS _ _ _ _ _ _ _ _ yR (@pvb _ 6 _ _ rfl) zH)) yS)) (@zA _ _ _ _ _ (@pvb _ 4 _ _ rfl) zC rfl) rfl) rfl)))) yA) (@zE _ _ _ _ _ (@yb _ _ _ _ _ _ _ _ (@zt _ _ _ _ _ _ _ _ xR (@pvb _ 5 _ _ rfl) zH (yC _)) (@zM _ _ _ (@zV _ _ _ _ (@zi _ _ _ _ _ (@zA _ _ _ _ _ (@pvb _ 2 _ _ rfl) (@zA _ _ _ _ _ (@zS _ _ _ _ _ _ _ _ xE (@yL _ _ _ _ _ _ _ _ _ _ yw (@pvb _ 3 _ _ rfl) yS (@yB _ _ _ (@pvb _ 6 _ _ rfl))) (@yL _ _ _ _ _ _ _ _ _ _ yw (@pvb _ 3 _ _ rfl) (@yB _ _ _ (@zS _ _ _ _ _ _ _ _ yR (@pvb _ 6 _ _ rfl) zH)) yS)) (@zA _ _ _ _ _ (@pvb _ 4 _ _ rfl) zC rfl) rfl) rfl)))) yA) (@zE _ _ _ _ _ (@yb _ _ _ _ _ _ _ _ (@zt _ _ _ _ _ _ _ _ xR (@pvb _ 5 _ _ rfl) zH (yC _)) (@zM _ _ _ (@zV _ _ _ _ (@zi _ _ _ _ _ (@zA _ _ _ _ _ (@pvb _ 2 _ _ rfl) (@zA _ _ _ _ _ (@zS _ _ _ _ _ _ _ _ xE (@zS _ _ _ _ _ _ _ _ xE (@yL _ _ _ _ _ _ _ _ _ _ yw (@pvb _ 3 _ _ rfl) yS (@yB _ _ _ (@pvb _ 6 _ _ rfl))) (@pvb _ 8 _ _ rfl)) (@yL _ _ _ _ _ _ _ _ _ _ yw (@pvb _ 3 _ _ rfl) (@yB _ _ _ (@pvb _ 6 _ _ rfl)) yS)) (@zA _ _ _ _ _ (@pvb _ 4 _ _ rfl) zC rfl) rfl) rfl)))) yA) (@zE _ _ _ _ _ (@yb _ _ _ _ _ _ _ _ (@zt _ _ _ _ _ _ _ _ xR (@pvb _ 5 _ _ rfl) zH (yC _)) (@zM _ _ _ (@zV _ _ _ _ (@zi _ _ _ _ _ (@zA _ _ _ _ _ (@pvb _ 2 _ _ rfl) (@zA _ _ _ _ _ (@zS _ _ _ _ _ _ _ _ xE (@zS _ _ _ _ _ _ _ _ xE (@zS _ _ _ _ _ _ _ _ xE (@yL _ _ _ _ _ _ _ _ _ _ yw (@pvb _ 3 _ _ rfl) yS (@yB _ _ _ (@pvb _ 6 _ _ rfl))) (@yL _ _ _ _ _ _ _ _ _ _ yw (@pvb _ 3 _ _ rfl) (@yB _ _ _ (@zS _ _ _ _ _ _ _ _ yR (@pvb _ 6 _ _ rfl) zH)) (@yB _ _ _ (@zS _ _ _ _ _ _ _ _ yR (@pvb _ 6 _ _ rfl) zH)))) (@pvb _ 8 _ _ rfl)) (@yL _ _ _ _ _ _ _ _ _ _ yw (@pvb _ 3 _ _ rfl) (@yB _ _ _ (@zS _ _ _ _ _ _ _ _ yR (@pvb _ 6 _ _ rfl) zH)) yS)) (@zA _ _ _ _ _ (@pvb _ 4 _ _ rfl) zC rfl) rfl) rfl)))) yA) (@zE _ _ _ _ _ (@zW _ _ 9 _ _ _ _ lI.nd rfl (.inl rfl) (@zo _ _ _ _ _ _ _ _ _ yn rfl G.list rfl (@zA _ _ _ _ _ (@pvb _ 4 _ _ rfl) zC rfl) (by decide) (by decide) rfl rfl) rfl (by trivial)) (@zE _ _ _ _ _ (@yJ _ _ _ _ _ _ (@zi _ _ _ _ _ (@zA _ _ _ _ _ (@zY _ _ _ _ _ _ _ yP (@pvb _ 4 _ _ rfl) (@pvb _ 7 _ _ rfl) (λ_ _=>rfl)) (@zA _ _ _ _ _ (@zY _ _ _ _ _ _ _ yP (@pvb _ 4 _ _ rfl) zH (λ_ _=>rfl)) zC rfl) rfl)) (@yK _ _ _ _ _ _ rfl (@zP _ _ _ _ _ (@xL _ _ _ _ _ _ _ (@pvb _ 9 _ _ rfl) zH yh (by intro _;rfl)) (@zP _ _ _ _ _ (@xL _ _ _ _ _ _ _ (@pvb _ 9 _ _ rfl) (@pvb _ 7 _ _ rfl) yh (by intro _;rfl)) zw rfl) rfl) rfl rfl) rfl rfl rfl) (@zM _ _ _ (@zV _ _ _ _ (@zi _ _ _ _ _ (@zA _ _ _ _ _ (@pvb _ 2 _ _ rfl) (@zA _ _ _ _ _ (@pvb _ 3 _ _ rfl) (@zA _ _ _ _ _ (@zo _ _ _ _ _ _ _ _ _ zr rfl G.tuple rfl (@zA _ _ _ _ _ (@pvb _ 9 _ _ rfl) zC rfl) (by decide) (by decide) rfl rfl) zC rfl) rfl) rfl))))))))))))),?_⟩;have ok:=a4.ok;have a8:=ok.l16;have l1:=ok.l1;have fk:=a4.fk;have pl:=na.prs.len;refine zB ⟨r,_,rfl,SqT.of na.net,rfl,_,_,rfl,_,_,rfl,_,_,rfl,rfl,?_⟩;dsimp only[xT];refine yV (λD1 bB=>?_);refine zB ⟨l,5,rfl,by decide,by decide,S,λway H1 hw S1 B1=>?_⟩;have aE:=na.tups (B1.tups3 S);refine zB (zB ⟨fr,C,rfl,.inr (SqT.of aE.forks),_,_,rfl,rfl,l,_,rfl,by lia,by lia,S1,λd H2 b1 S2 B2=>?_⟩);refine zB (zB ⟨l,_,rfl,by lia,by lia,S2,λL H3 hk S3 B3=>⟨_,_,_,rfl,bB _ _ ?_⟩⟩);have y:=(aE.tups (B2.tups3 S1)).tups (B3.tups3 S2);have B':But l H H3:=(B1.trans B2).trans B3;clear aE B1 B2 B3 S1 S2;have p2:d<=C.length:=by lia
 refine yV (λD2 bu=>?_);refine zB (zB (zu rfl (zB ⟨_,_,rfl,rfl,_,rfl,fr,C,rfl,y.forks,λhh H4 s4 ao=>bu _ _ ?_⟩)));have e1:((d:Nat):Int)+1=((d+1:Nat):Int):=rfl;have e2:((d:Nat):Int)+2=((d+2:Nat):Int):=rfl;rw[e1,zaD,show d+1-d=1 by lia]at ao;have v:FksOk N.lanes N.forks:=ok.fk;have a7:=a4.ln;have bl:N.forks.length<=100:=by lia
 have fin:∀ (a:JI) (qs:List V) (gs:List (Nat × Nat)) (X:Hp),Same H3 X->X a=some (.tup qs)->Prs X qs gs->FksOk N.lanes gs->gs.length<=fb+1->∀ q,X q=none->Q (.ref q) (L2.upd X q (.tup [.int (N.lanes:Nat),.ref a,.ref er])):=λa qs gs X J ha pr go gl q hq=>by
  have U:=zD hq (.tup [.int (N.lanes:Nat),.ref a,.ref er]);have u:=J.trans U;exact k q a er qs ⟨N.lanes,gs,N.ends⟩ _ ⟨⟨l1,a8,by show gs.length<=128;lia,go,ok.en⟩,a7,gl⟩ rfl ⟨zT hq _,U _ _ ha,pr.tups (Tups.of U),u _ _ y.ends⟩ (S3.keep u) (B'.trans (But.of u))
 have I:=y.prs;have f4:=s4 _ _ y.forks;have b2:((C.drop d).take 1).length<=1:=by rw[Jw];lia
 have aa:=uD 1 (xu d I);have b3:((N.forks.drop d).take 1).length<=1:=by rw[Jw];lia
 have pA:=uD d I;have lA:(N.forks.take d).length=d:=by rw[Jw];lia
 have b0:(C.take d).length=d:=by rw[Jw];lia
 have lD:∀ n,(N.forks.drop n).length=N.forks.length-n:=λn=>YD;have ab:∀ n,(C.drop n).length=N.forks.length-n:=λn=>by rw[YD,pl]
 refine zB ⟨rfl,_,rfl,uL (λ_=>?_) (λ_=>?_)⟩
 ·refine zB (zB (zB (zu rfl ⟨fr,C,rfl,f4,λp1 X J W=>?_⟩)))
  rw[j4]at W;have Y:=s4.trans J;have ba:=J _ _ ao;have bo:=aa.tups (Tups.of Y);refine zB ⟨hh,rfl,⟨_,SqT.of ba⟩,λlc a3=>?_⟩;have U:=zD a3 (.lst []);refine oJ (K:=K) (a:=hh) (xs:=(C.drop d).take 1) (λi acc σ H6=>(∃ v0 v1,σ=[v0,v1])/\Same X H6/\H6 lc=some (.lst acc)/\acc.length=i/\Prs H6 acc ((((N.forks.drop d).take 1).take i).map λg=>(g.2,g.1))) ⟨⟨_,_,rfl⟩,U,zT a3 _,rfl,trivial⟩ (λi acc σ H6 z=>⟨z.2.2.1,SqT.of (z.2.1 _ _ ba)⟩) ?_ ?_
  ·rintro i x acc σ H6 hx ⟨⟨v0,v1,rfl⟩,s7,h7,al,p7⟩
   obtain⟨a,g,rfl,eg,ha⟩:=(bo.tups (Tups.of s7)).get hx;have gi:=(Jb.mp eg).1;refine⟨a,_,rfl,SqT.of ha,rfl,_,_,rfl,_,_,rfl,rfl,?_⟩;refine zB (zB ⟨(by show 2<=sizeLine;decide),λt ht=>?_⟩);have Z:=zD ht (.tup [.int (g.2:Nat),.int (g.1:Nat)]);have h8:=Z _ _ h7;refine⟨h8,by rw[JB];lia,nx (Jb.mp hx).1 ⟨⟨_,_,rfl⟩,λb o e=>?_,zG,by rw[Jd,al];rfl,?_⟩⟩
   ·rw[zK (zJ e a3)];exact Z _ _ (s7 b o e)
   ·rw[<- Ys gi,JV,(Jb.mp eg).2]
    exact Prs.add (f:=(g.2,g.1)) (Tups.lst h8 _ _ (zT ht _)) ((p7.tups (Tups.of Z)).tups (Tups.lst h8))
  rintro acc σ H6 ⟨⟨v0,v1,rfl⟩,s7,h7,al,p7⟩;rw[JM (by rw[aa.len];exact Jg _)]at p7;refine⟨lc,_,rfl,.inl ⟨SqL.of h7,λt8 a9=>?_⟩⟩;have Z:=zD a9 (.tup acc);refine⟨p1,t8,_,_,rfl,rfl,Z _ _ (s7 _ _ W),zT a9 _,by rw[JB];lia,λp9 H9 s9 h9=>?_⟩;have u9:=((Y.trans s7).trans Z).trans s9;refine zB (zB ⟨_,_,rfl,rfl,_,rfl,fr,C,rfl,u9 _ _ y.forks,λO a6 p B=>?_⟩);rw[e1,j6]at B;refine⟨p9,O,_,_,rfl,rfl,p _ _ h9,B,by rw[JB,Jd,ab (d+1)];lia,λM a5 D R=>?_⟩;have m:=(u9.trans p).trans D;refine zB ⟨(by show 3<=sizeLine;decide),fin M _ _ _ m R (Prs.app (Prs.app (pA.tups (Tups.of m)) (p7.tups (Tups.of (((Z.trans s9).trans p).trans D)))) ((xu (d+1) I).tups (Tups.of m))) ?_ ?_⟩
  ·refine((v.take _).app λf hf=>?_).app (v.drop _)
   obtain⟨g,hg,rfl⟩:=Jy.mp hf;obtain⟨a,b,c⟩:=v g (W8 (YW hg));exact⟨b,a,c.symm⟩
  ·rw[Jd,Jd,Je,lA,lD];lia
 refine zB ⟨rfl,_,rfl,uL (λ_=>?_) (λ_=>?_)⟩
 ·refine zB (zB (zB (zu rfl ⟨fr,C,rfl,f4,λp1 X J W=>?_⟩)))
  rw[j4]at W;have Y:=s4.trans J;refine zB (zB ⟨_,_,rfl,rfl,_,rfl,fr,C,rfl,Y _ _ y.forks,λO a6 p B=>?_⟩);rw[e1,j6]at B;refine⟨p1,O,_,_,rfl,rfl,p _ _ W,B,by rw[JB,ab (d+1)];lia,λM a5 D R=>?_⟩;have m:=(Y.trans p).trans D;refine zB ⟨(by show 3<=sizeLine;decide),fin M _ _ _ m R (Prs.app (pA.tups (Tups.of m)) ((xu (d+1) I).tups (Tups.of m))) ((v.take _).app (v.drop _)) ?_⟩;rw[Jd,lA,lD];lia
 refine zB ⟨rfl,_,rfl,uL (λ_=>?_) (λ_=>?_)⟩
 ·refine zB (zB (zB (zu rfl ⟨fr,C,rfl,f4,λp1 X J W=>?_⟩)))
  rw[j4]at W;have Y:=s4.trans J;refine zB ⟨p1,hh,_,_,rfl,rfl,W,J _ _ ao,by rw[JB];lia,λp9 H9 s9 h9=>?_⟩;have u9:=Y.trans s9;refine zB (zB (zu rfl ⟨fr,C,rfl,u9 _ _ y.forks,λO a6 p B=>?_⟩));rw[j6]at B;refine⟨p9,O,_,_,rfl,rfl,p _ _ h9,B,by rw[JB,Jd,ab d];lia,λM a5 D R=>?_⟩;have m:=(u9.trans p).trans D;refine zB ⟨(by show 3<=sizeLine;decide),fin M _ _ _ m R (Prs.app (Prs.app (pA.tups (Tups.of m)) (aa.tups (Tups.of m))) ((xu d I).tups (Tups.of m))) (((v.take _).app ((v.drop _).take _)).app (v.drop _)) ?_⟩;rw[Jd,Jd,lA,lD];lia
 refine zB ⟨rfl,_,rfl,uL (λ_=>?_) (λ_=>?_)⟩
 ·refine zB (zB (zB (zu rfl ⟨fr,C,rfl,f4,λp1 X J W=>?_⟩)))
  rw[j4]at W;have Y:=s4.trans J;refine zB (zB ⟨_,_,rfl,rfl,_,rfl,_,rfl,_,_,rfl,rfl,_,rfl,fr,C,rfl,Y _ _ y.forks,λp6 H6 U h6=>?_⟩);rw[e1,e2,zaD,show d+2-(d+1)=1 by lia]at h6;have l6:((C.drop (d+1)).take 1).length<=1:=by rw[Jw];lia
  have g6:((N.forks.drop (d+1)).take 1).length<=1:=by rw[Jw];lia
  refine⟨p1,p6,_,_,rfl,rfl,U _ _ W,h6,by rw[JB];lia,λp7 H7 s7 h7=>?_⟩;have u7:=(Y.trans U).trans s7;refine zB ⟨p7,hh,_,_,rfl,rfl,h7,s7 _ _ (U _ _ (J _ _ ao)),by rw[JB,Jd];lia,λp9 H9 s9 h9=>?_⟩;have u9:=u7.trans s9;refine zB (zB ⟨_,_,rfl,rfl,_,rfl,fr,C,rfl,u9 _ _ y.forks,λO a6 p B=>?_⟩);rw[e2,j6]at B;refine⟨p9,O,_,_,rfl,rfl,p _ _ h9,B,by rw[JB,Jd,Jd,ab (d+2)];lia,λM a5 D R=>?_⟩;have m:=(u9.trans p).trans D;refine zB ⟨(by show 3<=sizeLine;decide),fin M _ _ _ m R (Prs.app (Prs.app (Prs.app (pA.tups (Tups.of m)) ((uD 1 (xu (d+1) I)).tups (Tups.of m))) (aa.tups (Tups.of m))) ((xu (d+2) I).tups (Tups.of m))) ((((v.take _).app ((v.drop _).take _)).app ((v.drop _).take _)).app (v.drop _)) ?_⟩;have c6:((N.forks.drop (d+1)).take 1).length=min 1 (N.forks.length-(d+1)):=by rw[Jw,lD]
  have c7:((N.forks.drop d).take 1).length=min 1 (N.forks.length-d):=by rw[Jw,lD]
  rw[Jd,Jd,Jd,lA,lD,c6,c7];lia
 have bc:=s4 _ _ y.ends;have el:N.ends.length=N.lanes:=by rw[ok.en.length_eq,Y4]
 have bS:=zZ N.ends;have k1:L<N.ends.length:=by lia
 refine zB ⟨er,_,rfl,.inr (SqT.of bc),λlr aT=>?_⟩;have J:=zD aT (.lst (zU N.ends));have bb:=J _ _ bc;have a1:=yT (kO N.ends L k1);have a0:=yT (j:=0) (kO N.ends 0 (by lia));refine zB (zB ⟨er,_,_,_,rfl,rfl,SqT.of bb,a1,_,rfl,er,_,0,_,rfl,rfl,SqT.of bb,a0,(by show 2<=sizeLine;decide),λT hT=>?_⟩);have U:=zD hT (.tup [.int ((N.ends.getD L 0:Nat):Int),.int ((N.ends.getD 0 0:Nat):Int)]);have h6:=U _ _ (zT aT (.lst (zU N.ends)));refine⟨T,_,rfl,SqT.of zG,rfl,_,_,rfl,?_⟩;have u6:=(s4.trans J).trans U
 let d1:List Nat:=N.ends.set 0 (N.ends.getD L 0)
 let d2:List Nat:=d1.set L (N.ends.getD 0 0)
 have z1:(zU N.ends).set 0 (.int ((N.ends.getD L 0:Nat):Int))=zU d1:=List.map_set.symm;have z2:(zU d1).set L (.int ((N.ends.getD 0 0:Nat):Int))=zU d2:=List.map_set.symm;have bR:(zU d1).length=N.ends.length:=by rw[zZ];exact Z4
 have pd:d2.Perm N.ends:=by
  have:=List.set_set_perm (as:=N.ends) (i:=0) (j:=L) (by lia) k1;have g1:N.ends.getD L 0=N.ends[L]:=by rw[Ja,J7 k1];rfl
  have g0:N.ends.getD 0 0=N.ends[0]:=by rw[Ja,J7 (by lia)];rfl
  show ((N.ends.set 0 (N.ends.getD L 0)).set L (N.ends.getD 0 0)).Perm N.ends;rw[g1,g0];exact this
 refine zB ⟨lr,_,0,0,rfl,rfl,h6,w8 (i:=0) (by lia),?_⟩;rw[z1];have bt:L2.upd (L2.upd (L2.upd H4 lr (.lst (zU N.ends))) T (.tup [.int ((N.ends.getD L 0:Nat):Int),.int ((N.ends.getD 0 0:Nat):Int)])) lr (.lst (zU d1)) lr=some (.lst (zU d1)):=zG;have n3:H3 lr=none:=wu s4 aT
 have sm:∀ (xs ys:List V),Same H3 (L2.upd (L2.upd (L2.upd (L2.upd H4 lr (.lst (zU N.ends))) T (.tup [.int ((N.ends.getD L 0:Nat):Int),.int ((N.ends.getD 0 0:Nat):Int)])) lr (.lst xs)) lr (.lst ys)):=λxs ys b o e=>by
  rw[zK (zJ e n3),zK (zJ e n3)];exact u6 b o e
 refine⟨_,_,rfl,_,rfl,_,rfl,lr,_,_,L,rfl,rfl,bt,by rw[bR];exact w8 k1,?_⟩;rw[z2];refine⟨rfl,_,rfl,_,rfl,_,rfl,lr,_,rfl,.inl ⟨SqL.of zG,λt ht=>⟨(by show 3<=sizeLine;decide),λq hq=>?_⟩⟩⟩;have s7:=zD ht (.tup (zU d2));have Z:=zD hq (.tup [.int (N.lanes:Nat),.ref fr,.ref t]);have u:=((sm (zU d1) (zU d2)).trans s7).trans Z;exact k q fr t C ⟨N.lanes,N.forks,d2⟩ _ ⟨⟨l1,a8,ok.fm,ok.fk,pd.trans ok.en⟩,a7,by show N.forks.length<=fb+1;lia⟩ rfl ⟨zT hq _,u _ _ y.forks,I.tups (Tups.of u),Z _ _ (zT ht _)⟩ (S3.keep u) (B'.trans (But.of u))
abbrev nB:Stmt:=top 37
def sH (m:Nat):Sp:=λd H Q _=>∃ p row,d=[.ref p]/\H p=some (.lst (zU row))/\row.length=2 ^ m/\m<=4/\∀ c lf le b a,Same H a->a c=some (.tup [.ref lf,.ref le])->a lf=some (.lst b)->Prs a b (xV m row).1->a le=some (.lst (zU (xV m row).2))->Q (.ref c) a
theorem o7:FnScope ["_law_row","_law_half","_law_forks","_law_one","_law_more","_law_other","_law_last","_law_ends_here"] ["_law_row"] (zQ nB):=by trivial
theorem nR {f fB:JI}{fd dB:Yl}(F:Fun K "_law_stairway" "_law_stairway" nB f fd) (G:Mgs mg) (UM:Use P w K mg base "_law_merger" ["_law_one","_law_other"] 5 wk fB dB) (bS:Binds K fd ["_law_row"] []) (mS:mg "_law_stairway" = some (.ref f)) (n:Nat)
  (GS:FnOk P w K mg base CX0 (n+5) f fd ["_law_row"] (λvs H Q E=>∃ m,n=m+1/\sH m vs H Q E)):FnOk P w K mg base CX0 (n+6) f fd ["_law_row"] (sH n):=by
 have UT:Use P w K mg base "_law_stairway" ["_law_row"] (n+5) (λvs H Q E=>∃ m,n=m+1/\sH m vs H Q E) f fd:=⟨GS,bS,F.kp,mS⟩;refine F.ok o7 (λvs H Q E h=>?_) (λa6 A outer s H vs Q E J h=>?_)
 ·obtain⟨p,row,rfl,_⟩:=h
  rfl
 obtain⟨p,row,rfl,d,I,O,k⟩:=h;have W:Room 5 _:=J.mono (by lia);refine⟨_,(@zE _ _ _ _ _ (@yb _ _ _ _ _ _ _ _ (@zt _ _ _ _ _ _ _ _ xR (@zX _ _ _ _ _ _ _ _ _ zp rfl G.len Yb (@zA _ _ _ _ _ (@pvb _ 0 _ _ rfl) zC rfl) (by decide) (by decide) rfl rfl) zH (yC _)) (@zM _ _ _ (@zV _ _ _ _ (@zi _ _ _ _ _ (@zA _ _ _ _ _ (@zy _ _ _ _ zC) (@zA _ _ _ _ _ (@zo _ _ _ _ _ _ _ _ _ yn rfl G.list rfl (@zA _ _ _ _ _ (@pvb _ 0 _ _ rfl) zC rfl) (by decide) (by decide) rfl rfl) zC rfl) rfl)))) yA) (@zE _ _ _ _ _ (@zW _ _ 1 _ _ _ _ o7.nd rfl (.inl rfl) (@zS _ _ _ _ _ _ _ _ xi (@zX _ _ _ _ _ _ _ _ _ zp rfl G.len Yb (@zA _ _ _ _ _ (@pvb _ 0 _ _ rfl) zC rfl) (by decide) (by decide) rfl rfl) zH) rfl (by trivial)) (@zE _ _ _ _ _ (@yJ _ _ _ _ _ _ (@zR _ _ _ _ _ _ _ _ _ _ _ _ UT J (@zA _ _ _ _ _ (@yL _ _ _ _ _ _ _ _ _ _ wW (@pvb _ 0 _ _ rfl) yS (@yB _ _ _ (@pvb _ 1 _ _ rfl))) zC rfl) rfl rfl rfl rfl) (@yK _ _ _ _ _ _ rfl (@zP _ _ _ _ _ (@zN _ _ 2 _ o7.nd rfl (.inl rfl) (by trivial)) (@zP _ _ _ _ _ (@zN _ _ 3 _ o7.nd rfl (.inl rfl) (by trivial)) zw rfl) rfl) rfl rfl) rfl rfl rfl) (@zE _ _ _ _ _ (@yJ _ _ _ _ _ _ (@zR _ _ _ _ _ _ _ _ _ _ _ _ UT J (@zA _ _ _ _ _ (@yL _ _ _ _ _ _ _ _ _ _ wW (@pvb _ 0 _ _ rfl) (@yB _ _ _ (@pvb _ 1 _ _ rfl)) yS) zC rfl) rfl rfl rfl rfl) (@yK _ _ _ _ _ _ rfl (@zP _ _ _ _ _ (@zN _ _ 4 _ o7.nd rfl (.inl rfl) (by trivial)) (@zP _ _ _ _ _ (@zN _ _ 5 _ o7.nd rfl (.inl rfl) (by trivial)) zw rfl) rfl) rfl rfl) rfl rfl rfl) (@zE _ _ _ _ _ (@yJ _ _ _ _ _ _ (@zR _ _ _ _ _ _ _ _ _ _ _ _ UM W (@zA _ _ _ _ _ (@pvb _ 3 _ _ rfl) (@zA _ _ _ _ _ (@pvb _ 5 _ _ rfl) zC rfl) rfl) rfl rfl rfl rfl) (@yK _ _ _ _ _ _ rfl (@zP _ _ _ _ _ (@zN _ _ 6 _ o7.nd rfl (.inl rfl) (by trivial)) (@zP _ _ _ _ _ (@zN _ _ 7 _ o7.nd rfl (.inl rfl) (by trivial)) zw rfl) rfl) rfl rfl) rfl rfl rfl) (@zM _ _ _ (@zV _ _ _ _ (@zi _ _ _ _ _ (@zA _ _ _ _ _ (@zS _ _ _ _ _ _ _ _ wt (@zS _ _ _ _ _ _ _ _ wt (@pvb _ 2 _ _ rfl) (@pvb _ 4 _ _ rfl)) (@pvb _ 6 _ _ rfl)) (@zA _ _ _ _ _ (@pvb _ 7 _ _ rfl) zC rfl) rfl))))))))),?_⟩;have nl:=zZ row;have p8:2 ^ n<=2 ^ 4:=YY (by decide) O;have e8:2 ^ 4=16:=rfl;refine zB ⟨p,_,rfl,.inl (SqL.of d),rfl,_,rfl,?_⟩
 cases n with
 | zero =>
  have M:row.length=1:=I;rw[JC (show V.int (((zU row).length:Nat):Int)=V.int 1 by rw[nl,M];rfl)];refine x5 ⟨(by show 0<=sizeLine;decide),λl L=>zB ⟨p,_,rfl,.inl (SqL.of (zD L _ _ _ d)),λle hle=>⟨(by show 2<=sizeLine;decide),λc e=>?_⟩⟩⟩;have D:=zD L (.lst []);have B:=zD hle (.lst (zU row));have b:=zD e (.tup [.ref l,.ref le])
  exact k c l le [] _ ((D.trans B).trans b) (zT e _) (b _ _ (B _ _ (zT L _))) trivial (b _ _ (zT hle _))
 | succ m =>
  obtain⟨t1,t2,t3⟩:=vf I;obtain⟨la,lb⟩:=vA I;have pw:2 ^ (m+1)=2 ^ m*2:=Zt ..;have p0:=Zu (n:=m);rw[Js (show ¬ V.int (((zU row).length:Nat):Int)=V.int 1 by intro z;injection z with z;lia)];refine xB (zB ⟨p,_,rfl,.inl (SqL.of d),_,_,rfl,rfl,⟨by decide,by decide⟩,?_⟩);have eh:(((zU row).length:Nat):Int) / 2=((row.length / 2:Nat):Int):=by rw[nl];lia
  simp only[eh];refine zB (zB (zu rfl ⟨p,_,rfl,SqL.of d,λp1 u=>?_⟩));rw[kM row _ t3];have D:=zD u (.lst (zU (row.take (row.length / 2))));refine⟨m,rfl,p1,row.take (row.length / 2),rfl,zT u _,la,by lia,λc2 T le2 i H2 B a0 Z q ao=>?_⟩;have u2:=D.trans B;refine⟨c2,_,rfl,SqT.of a0,rfl,_,_,rfl,_,_,rfl,rfl,?_⟩;refine zB (zB (zu rfl ⟨p,_,rfl,SqL.of (u2 _ _ d),λp3 t=>?_⟩));rw[kN row _ t3];have b:=zD t (.lst (zU (row.drop (row.length / 2))));refine⟨m,rfl,p3,row.drop (row.length / 2),rfl,zT t _,lb,by lia,λc4 S U g H4 s4 aT Y o ab=>?_⟩;have y:=b.trans s4;refine⟨c4,_,rfl,SqT.of aT,rfl,_,_,rfl,_,_,rfl,rfl,?_⟩;obtain⟨xl,xf⟩:=vE m _ la;obtain⟨yl,yf⟩:=vE m _ lb;obtain⟨zl,zf⟩:=xk m _ _ xl yl;have a5:=q.len;have a4:=o.len;obtain⟨a8,a7⟩:=vq m (by lia);refine zB (zB ⟨m,by lia,le2,U,_,_,rfl,y _ _ ao,ab,xl,yl,by lia,λc6 R r N H6 a _ aE X j aa=>?_⟩);refine⟨c6,_,rfl,SqT.of aE,rfl,_,_,rfl,_,_,rfl,rfl,?_⟩;have a3:=j.len;refine zB (zB ⟨T,S,_,_,rfl,rfl,a _ _ (y _ _ Z),a _ _ Y,by rw[JB];lia,λl7 x=>?_⟩);have s7:=zD x (.lst (i++g));refine zB ⟨l7,R,_,_,rfl,rfl,zT x _,s7 _ _ X,by rw[JB,Jd];lia,λl8 v=>?_⟩;have s8:=zD v (.lst ((i++g)++N));refine zB ⟨(by show 2<=sizeLine;decide),λc e=>?_⟩;have s9:=zD e (.tup [.ref l8,.ref r]);have C:=(s7.trans s8).trans s9;refine k c l8 r _ _ ((u2.trans y).trans (a.trans C)) (zT e _) (s9 _ _ (zT v _)) ?_ (C _ _ aa);refine Prs.tups (Tups.of C) ?_;exact Prs.app (Prs.app ((q.tups (Tups.of y)).tups (Tups.of a)) (o.tups (Tups.of a))) j
theorem jN {f d:JI}{fd e:Yl}(F:Fun K "_law_stairway" "_law_stairway" nB f fd) (G:Mgs mg) (c:Use P w K mg base "_law_merger" ["_law_one","_law_other"] 5 wk d e) (b:Binds K fd ["_law_row"] []) (a:mg "_law_stairway" = some (.ref f)):∀ n:Nat,FnOk P w K mg base CX0 (n+6) f fd ["_law_row"] (sH n)
 | 0=>nR F G c b a 0 ⟨λvs H Q E ⟨m,h,_⟩=>by simp_all,λA outer s H args us vs Q E _ _ _ _ ⟨m,h,_⟩=>by simp_all⟩
 | m+1=>nR F G c b a (m+1) ((jN F G c b a m).imp λvs H Q E ⟨g,h,q⟩=>by cases h;exact q)
abbrev sI:Sp:=λa H Q E=>∃ m,m<=4/\sH m a H Q E
theorem ip {f b:JI}{fd c:Yl}(F:Fun K "_law_stairway" "_law_stairway" nB f fd) (G:Mgs mg) (e:Use P w K mg base "_law_merger" ["_law_one","_law_other"] 5 wk b c) (d:Binds K fd ["_law_row"] []) (a:mg "_law_stairway" = some (.ref f)):FnOk P w K mg base CX0 10 f fd ["_law_row"] sI :=
 FnOk.any 4 λm g=>(jN F G e d a m).mono (by simp_all)
abbrev nA:Stmt:=top 39
def sE (m:Nat):Sp:=λd H Q _=>∃ p row,d=[.ref p]/\H p=some (.lst (zU row))/\row.length=2 ^ m/\m<=4/\∀ c lf le b a,Same H a->a c=some (.tup [.ref lf,.ref le])->a lf=some (.lst b)->Prs a b (xt m row).1->a le=some (.lst (zU (xt m row).2))->Q (.ref c) a
theorem pL:FnScope ["_law_row","_law_half","_law_forks","_law_one","_law_more","_law_other","_law_ends_here","_law_x","_law_y"] ["_law_row"] (zQ nA):=by trivial
theorem nQ {f:JI}{fd:Yl}(F:Fun K "_law_tree" "_law_tree" nA f fd) (G:Mgs mg) (bS:Binds K fd ["_law_row"] []) (mS:mg "_law_tree" = some (.ref f)) (n:Nat)
  (GS:FnOk P w K mg base CX0 n f fd ["_law_row"] (λvs H Q E=>∃ m,n=m+1/\sE m vs H Q E)):FnOk P w K mg base CX0 (n+1) f fd ["_law_row"] (sE n):=by
 have UT:Use P w K mg base "_law_tree" ["_law_row"] n (λvs H Q E=>∃ m,n=m+1/\sE m vs H Q E) f fd:=⟨GS,bS,F.kp,mS⟩;refine F.ok pL (λvs H Q E h=>?_) (λbB A outer s H vs Q E hr h=>?_)
 ·obtain⟨p,row,rfl,_⟩:=h
  rfl
 obtain⟨p,row,rfl,C,rl,a3,k⟩:=h;refine⟨_,(@zE _ _ _ _ _ (@yb _ _ _ _ _ _ _ _ (@zt _ _ _ _ _ _ _ _ xR (@zX _ _ _ _ _ _ _ _ _ zp rfl G.len Yb (@zA _ _ _ _ _ (@pvb _ 0 _ _ rfl) zC rfl) (by decide) (by decide) rfl rfl) zH (yC _)) (@zM _ _ _ (@zV _ _ _ _ (@zi _ _ _ _ _ (@zA _ _ _ _ _ (@zy _ _ _ _ zC) (@zA _ _ _ _ _ (@zo _ _ _ _ _ _ _ _ _ yn rfl G.list rfl (@zA _ _ _ _ _ (@pvb _ 0 _ _ rfl) zC rfl) (by decide) (by decide) rfl rfl) zC rfl) rfl)))) yA) (@zE _ _ _ _ _ (@zW _ _ 1 _ _ _ _ pL.nd rfl (.inl rfl) (@zS _ _ _ _ _ _ _ _ xi (@zX _ _ _ _ _ _ _ _ _ zp rfl G.len Yb (@zA _ _ _ _ _ (@pvb _ 0 _ _ rfl) zC rfl) (by decide) (by decide) rfl rfl) zH) rfl (by trivial)) (@zE _ _ _ _ _ (@yJ _ _ _ _ _ _ (@zR _ _ _ _ _ _ _ _ _ _ _ _ UT hr (@zA _ _ _ _ _ (@yL _ _ _ _ _ _ _ _ _ _ wW (@pvb _ 0 _ _ rfl) yS (@yB _ _ _ (@pvb _ 1 _ _ rfl))) zC rfl) rfl rfl rfl rfl) (@yK _ _ _ _ _ _ rfl (@zP _ _ _ _ _ (@zN _ _ 2 _ pL.nd rfl (.inl rfl) (by trivial)) (@zP _ _ _ _ _ (@zN _ _ 3 _ pL.nd rfl (.inl rfl) (by trivial)) zw rfl) rfl) rfl rfl) rfl rfl rfl) (@zE _ _ _ _ _ (@yJ _ _ _ _ _ _ (@zR _ _ _ _ _ _ _ _ _ _ _ _ UT hr (@zA _ _ _ _ _ (@yL _ _ _ _ _ _ _ _ _ _ wW (@pvb _ 0 _ _ rfl) (@yB _ _ _ (@pvb _ 1 _ _ rfl)) yS) zC rfl) rfl rfl rfl rfl) (@yK _ _ _ _ _ _ rfl (@zP _ _ _ _ _ (@zN _ _ 4 _ pL.nd rfl (.inl rfl) (by trivial)) (@zP _ _ _ _ _ (@zN _ _ 5 _ pL.nd rfl (.inl rfl) (by trivial)) zw rfl) rfl) rfl rfl) rfl rfl rfl) (@zE _ _ _ _ _ (@zW _ _ 6 _ _ _ _ pL.nd rfl (.inl rfl) (@zy _ _ _ _ zC) rfl (by trivial)) (@zE _ _ _ _ _ (@yj _ _ _ _ _ _ _ _ Y2 rfl (@dm _ _ _ _ _ _ _ _ _ true true rfl G.zip (@zA _ _ _ _ _ (@pvb _ 3 _ _ rfl) (@zA _ _ _ _ _ (@pvb _ 5 _ _ rfl) zC rfl) rfl) rfl rfl) (@yK _ _ _ _ _ _ rfl (@zP _ _ _ _ _ (@zN _ _ 7 _ pL.nd rfl (.inl rfl) (by trivial)) (@zP _ _ _ _ _ (@zN _ _ 8 _ pL.nd rfl (.inl rfl) (by trivial)) zw rfl) rfl) rfl rfl) (@zM _ _ _ (@y4 _ _ _ _ (@wd _ _ _ _ _ _ _ _ _ _ _ _ Y6 PySem.F.slot_list_extend PySem.F.type_list_extend ug (@pvb _ 6 _ _ rfl) (@zA _ _ _ _ _ (@zy _ _ _ _ (@zA _ _ _ _ _ (@pvb _ 7 _ _ rfl) (@zA _ _ _ _ _ (@pvb _ 8 _ _ rfl) zC rfl) rfl)) zC rfl) rfl rfl rfl rfl rfl) rfl)) (by intro _;rfl)) (@zM _ _ _ (@zV _ _ _ _ (@zi _ _ _ _ _ (@zA _ _ _ _ _ (@zS _ _ _ _ _ _ _ _ wt (@zS _ _ _ _ _ _ _ _ wt (@zy _ _ _ _ (@zA _ _ _ _ _ (@zi _ _ _ _ _ (@zA _ _ _ _ _ (@zY _ _ _ _ _ _ _ zj (@pvb _ 0 _ _ rfl) zH (λ_ _=>rfl)) (@zA _ _ _ _ _ (@zY _ _ _ _ _ _ _ zj (@pvb _ 0 _ _ rfl) (@pvb _ 1 _ _ rfl) (λ_ _=>rfl)) zC rfl) rfl)) zC rfl)) (@pvb _ 2 _ _ rfl)) (@pvb _ 4 _ _ rfl)) (@zA _ _ _ _ _ (@pvb _ 6 _ _ rfl) zC rfl) rfl)))))))))),?_⟩;have nl:=zZ row;have p8:2 ^ n<=2 ^ 4:=YY (by decide) a3;have e8:2 ^ 4=16:=rfl;refine zB ⟨p,_,rfl,.inl (SqL.of C),rfl,_,rfl,?_⟩
 cases n with
 | zero =>
  have aT:row.length=1:=rl;rw[JC (show V.int (((zU row).length:Nat):Int)=V.int 1 by rw[nl,aT];rfl)];refine x5 ⟨(by show 0<=sizeLine;decide),λl hl=>zB ⟨p,_,rfl,.inl (SqL.of (zD hl _ _ _ C)),λle hle=>⟨(by show 2<=sizeLine;decide),λc I=>?_⟩⟩⟩;have s1:=zD hl (.lst []);have s2:=zD hle (.lst (zU row));have D:=zD I (.tup [.ref l,.ref le])
  exact k c l le [] _ ((s1.trans s2).trans D) (zT I _) (D _ _ (s2 _ _ (zT hl _))) trivial (D _ _ (zT hle _))
 | succ m =>
  obtain⟨t1,t2,t3⟩:=vf rl;obtain⟨la,lb⟩:=vA rl;have pw:2 ^ (m+1)=2 ^ m*2:=Zt ..;have p0:=Zu (n:=m);rw[Js (show ¬ V.int (((zU row).length:Nat):Int)=V.int 1 by intro z;injection z with z;lia)];refine xB (zB ⟨p,_,rfl,.inl (SqL.of C),_,_,rfl,rfl,⟨by decide,by decide⟩,?_⟩);have eh:(((zU row).length:Nat):Int) / 2=((row.length / 2:Nat):Int):=by rw[nl];lia
  simp only[eh];refine yV (λD1 bb=>?_);refine zB (zB (zu rfl ⟨p,_,rfl,SqL.of C,λp1 Z=>?_⟩));rw[kM row _ t3];have s1:=zD Z (.lst (zU (row.take (row.length / 2))));refine⟨m,rfl,p1,row.take (row.length / 2),rfl,zT Z _,la,by lia,λc2 U le2 N H2 s2 a9 a6 R a7=>?_⟩;have u2:=s1.trans s2;refine⟨c2,_,rfl,SqT.of a9,rfl,_,_,rfl,_,_,rfl,rfl,bb _ _ ?_⟩;refine yV (λD2 ba=>?_);refine zB (zB (zu rfl ⟨p,_,rfl,SqL.of (u2 _ _ C),λp3 Y=>?_⟩));rw[kN row _ t3];have D:=zD Y (.lst (zU (row.drop (row.length / 2))));refine⟨m,rfl,p3,row.drop (row.length / 2),rfl,zT Y _,lb,by lia,λc4 S g a0 H4 s4 a8 a5 O B=>?_⟩;have u4:=D.trans s4;refine⟨c4,_,rfl,SqT.of a8,rfl,_,_,rfl,_,_,rfl,rfl,ba _ _ ?_⟩;have v:=u2.trans u4;obtain⟨xl,xf⟩:=vh m _ la;obtain⟨yl,yf⟩:=vh m _ lb;have bl:=R.len;have bc:=O.len;have b:=u4 _ _ a7;have ab:=u4 _ _ a6;have aa:=R.tups (Tups.of u4);have a4:=v _ _ C;generalize hF:(xt m (row.take (row.length / 2))).2=fst at *;generalize hS:(xt m (row.drop (row.length / 2))).2=snd at *;refine⟨(by show 0<=sizeLine;decide),λr a=>?_⟩;have s8:=zD a (.lst []);have bu:H r=none:=wu v a;have bt:le2≠r:=zJ b a;have bo:g≠r:=zJ B a;refine zB (zB ⟨le2,g,_,_,rfl,SqL.of (s8 _ _ b),SqL.of (s8 _ _ B),?_⟩);refine js (K:=K) (b1:=true) (b2:=true) (a1:=le2) (a2:=g) (xs:=zU fst) (ys:=zU snd) (by rw[zZ,zZ,xl,yl]) (λj σ L=>(∃ v7 v8,σ=[some (.ref p),some (.int ((row.length / 2:Nat):Int)),some (.ref U),some (.ref le2),some (.ref S),some (.ref g),some (.ref r),v7,v8])/\Same H4 L/\L r=some (.lst (zU (yg (fst.take j) (snd.take j))))) ⟨⟨_,_,rfl⟩,s8,zT a _⟩ (λj σ L _ z=>⟨SqL.of (z.2.1 _ _ b),SqL.of (z.2.1 _ _ B)⟩) ?_ ?_
  ·rintro j x y T σ L hx hy hT ⟨⟨v7,v8,rfl⟩,i,J⟩
   obtain⟨j1,rfl⟩:=num_at hx;obtain⟨j2,rfl⟩:=num_at hy;have sT:=zD hT (.tup [.int ((fst.getD j 0:Nat):Int),.int ((snd.getD j 0:Nat):Int)]);refine⟨T,_,rfl,SqT.of zG,rfl,_,_,rfl,_,_,rfl,rfl,?_⟩;refine zB ⟨.inl ⟨rfl,_,SqL.of (sT _ _ J)⟩,_,rfl,_,rfl,(by show 2<=sizeLine;decide),λq hq=>?_⟩;have sq:=zD hq (.lst [.int ((fst.getD j 0:Nat):Int),.int ((snd.getD j 0:Nat):Int)]);have tl:=xq (fst.take j) (snd.take j) (by rw[Jw,Jw];lia);rw[Jw]at tl;refine⟨r,q,_,_,rfl,rfl,sq _ _ (sT _ _ J),zT hq _,by rw[zZ,JB,tl];show _+2<=_;grind,?_⟩;refine⟨⟨_,_,rfl⟩,λc o e=>?_,?_⟩
   ·rw[zK (zJ e a)];exact sq _ _ (sT _ _ (i c o e))
   ·rw[vU fst snd j j1 j2]
    have e:zU (yg (fst.take j) (snd.take j)++[fst.getD j 0,snd.getD j 0])=zU (yg (fst.take j) (snd.take j))++[.int ((fst.getD j 0:Nat):Int),.int ((snd.getD j 0:Nat):Int)]:=by rw[<- bA];rfl
    rw[e];exact zG
  ·rintro σ L ⟨⟨v7,v8,rfl⟩,i,J⟩
   rw[JM (by rw[zZ];exact Jg _),JM (by rw[zZ];simp_all)]at J;have X:=i _ _ a4;refine zB ⟨p,_,0,_,rfl,rfl,SqL.of X,yT (j:=0) (kO row 0 (by lia)),?_⟩;refine zB (zB ⟨p,_,_,_,rfl,rfl,SqL.of X,yT (kO row (row.length / 2) (by lia)),(by show 2<=sizeLine;decide),λt ht=>?_⟩);have s5:=zD ht (.tup [.int ((row.getD 0 0:Nat):Int),.int ((row.getD (row.length / 2) 0:Nat):Int)]);refine⟨(by show 1<=sizeLine;decide),λl6 aE=>?_⟩;have s6:=zD aE (.lst [.ref t]);refine zB ⟨l6,U,_,_,rfl,rfl,zT aE _,s6 _ _ (s5 _ _ (i _ _ ab)),by rw[JB];simp only[JW,Ye];lia,λl7 ao=>?_⟩;have s7:=zD ao (.lst ([.ref t]++N));refine zB ⟨l7,S,_,_,rfl,rfl,zT ao _,s7 _ _ (s6 _ _ (s5 _ _ (i _ _ a5))),by rw[JB,Jd];simp only[JW,Ye];lia,λW u=>?_⟩;have M:=zD u (.lst (([.ref t]++N)++a0));have u8:=((s5.trans s6).trans s7).trans M;refine zB ⟨(by show 2<=sizeLine;decide),λc I=>?_⟩;have d:=zD I (.tup [.ref W,.ref r]);have t8:=M _ _ (s7 _ _ (s6 _ _ (zT ht (.tup [.int ((row.getD 0 0:Nat):Int),.int ((row.getD (row.length / 2) 0:Nat):Int)]))));have eN:xt (m+1) row=((row.getD 0 0,row.getD (row.length / 2) 0)::((xt m (row.take (row.length / 2))).1++(xt m (row.drop (row.length / 2))).1),yg fst snd):=by rw[<- hF,<- hS];rfl
   refine k c W r _ _ (v.trans (i.trans (u8.trans d))) (zT I _) (d _ _ (zT u _)) ?_ (by rw[eN];exact d _ _ (u8 _ _ J));refine Prs.tups (Tups.of d) ?_;rw[JT,eN];exact Prs.app (ps:=[.ref t]) (fs:=[(row.getD 0 0,row.getD (row.length / 2) 0)]) (show Prs _ [.ref t] [(row.getD 0 0,row.getD (row.length / 2) 0)] from⟨⟨t,rfl,t8⟩,trivial⟩) (Prs.app ((aa.tups (Tups.of i)).tups (Tups.of u8)) ((O.tups (Tups.of i)).tups (Tups.of u8)))
theorem jM {f:JI}{fd:Yl}(F:Fun K "_law_tree" "_law_tree" nA f fd) (G:Mgs mg) (b:Binds K fd ["_law_row"] []) (a:mg "_law_tree" = some (.ref f)):∀ n:Nat,FnOk P w K mg base CX0 (n+1) f fd ["_law_row"] (sE n)
 | 0=>nQ F G b a 0 ⟨λvs H Q E ⟨m,h,_⟩=>by simp_all,λA outer s H args us vs Q E _ _ _ _ ⟨m,h,_⟩=>by simp_all⟩
 | m+1=>nQ F G b a (m+1) ((jM F G b a m).imp λvs H Q E ⟨c,h,q⟩=>by cases h;exact q)
abbrev sF:Sp:=λa H Q E=>∃ m,m<=4/\sE m a H Q E
theorem io {f:JI}{fd:Yl}(F:Fun K "_law_tree" "_law_tree" nA f fd) (G:Mgs mg) (b:Binds K fd ["_law_row"] []) (a:mg "_law_tree" = some (.ref f)):FnOk P w K mg base CX0 5 f fd ["_law_row"] sF :=
 FnOk.any 4 λm c=>(jM F G b a m).mono (by simp_all)
abbrev nE:Stmt:=top 38
def sQ (m:Nat):Sp:=λc H Q _=>∃ p row,c=[.ref p]/\H p=some (.lst (zU row))/\row.length=2 ^ m/\m<=4/\∀ l b a,Same H a->a l=some (.lst b)->Prs a b (xI m row)->Q (.ref l) a
theorem zba (row:List Nat)(j:Nat)(h:j<row.length):row.reverse.getD j 0=row.getD (row.length-1-j) 0:=by
 rw[Ja,List.getElem?_reverse h,Ja]
theorem zaU:FnScope ["_law_row","_law_half","_law_forks"] ["_law_row"] (zQ nE):=by trivial
theorem nU {f:JI}{fd:Yl}(F:Fun K "_law_block" "_law_block" nE f fd) (G:Mgs mg) (bS:Binds K fd ["_law_row"] []) (mS:mg "_law_block" = some (.ref f)) (n:Nat)
  (GS:FnOk P w K mg base CX0 n f fd ["_law_row"] (λvs H Q E=>∃ m,n=m+1/\sQ m vs H Q E)):FnOk P w K mg base CX0 (n+1) f fd ["_law_row"] (sQ n):=by
 have UB:Use P w K mg base "_law_block" ["_law_row"] n (λvs H Q E=>∃ m,n=m+1/\sQ m vs H Q E) f fd:=⟨GS,bS,F.kp,mS⟩;refine F.ok zaU (λvs H Q E h=>?_) (λa4 A outer s H vs Q E hr h=>?_)
 ·obtain⟨p,row,rfl,_⟩:=h
  rfl
 obtain⟨p,row,rfl,u,U,ao,k⟩:=h;refine⟨_,(@zE _ _ _ _ _ (@yb _ _ _ _ _ _ _ _ (@zt _ _ _ _ _ _ _ _ xR (@zX _ _ _ _ _ _ _ _ _ zp rfl G.len Yb (@zA _ _ _ _ _ (@pvb _ 0 _ _ rfl) zC rfl) (by decide) (by decide) rfl rfl) zH (yC _)) (@zM _ _ _ (@zV _ _ _ _ (@zy _ _ _ _ zC))) yA) (@zE _ _ _ _ _ (@zW _ _ 1 _ _ _ _ zaU.nd rfl (.inl rfl) (@zS _ _ _ _ _ _ _ _ xi (@zX _ _ _ _ _ _ _ _ _ zp rfl G.len Yb (@zA _ _ _ _ _ (@pvb _ 0 _ _ rfl) zC rfl) (by decide) (by decide) rfl rfl) zH) rfl (by trivial)) (@zE _ _ _ _ _ (@sk _ 2 _ _ _ _ none _ _ _ _ _ _ _ _ ["_law_i","_law_row"] [none,some 0] zaU.nd rfl rfl rfl (@yZ _ _ _ _ _ _ rfl G.range (@zA _ _ _ _ _ (@pvb _ 1 _ _ rfl) zC rfl) rfl) (CapOk.of (by kernel_rfl)) (λ_ _ _ _ _=>(@zN _ _ 0 _ (show (["_law_i","_law_row"]:List Str).Nodup from by decide +kernel) rfl (.inl rfl) (.inr rfl))) (λ_ _ _ _ _=>xh) (λ_ _ _ _ _=>(@zi _ _ _ _ _ (@zA _ _ _ _ _ (@zY _ _ _ _ _ _ (iV K) zj (@pvb _ 1 _ _ rfl) (@pvb _ 0 _ _ rfl) (λ_ _=>rfl)) (@zA _ _ _ _ _ (@zY _ _ _ _ _ _ (iV K) zj (@pvb _ 1 _ _ rfl) (@zS _ _ _ _ _ _ _ _ xM (@zS _ _ _ _ _ _ _ _ xM (@zX _ _ _ _ _ _ _ _ (zax K) gu rfl G.len Yb (@zA _ _ _ _ _ (@pvb _ 1 _ _ rfl) zC rfl) (by decide) (by decide) rfl rfl) zH) (@pvb _ 0 _ _ rfl)) (λ_ _=>rfl)) zC rfl) rfl))) (by intro _;rfl) (by with_unfolding_all rfl)) (@zM _ _ _ (@zV _ _ _ _ (@zS _ _ _ _ _ _ _ _ wt (@zS _ _ _ _ _ _ _ _ wt (@pvb _ 2 _ _ rfl) (@zR _ _ _ _ _ _ _ _ _ _ _ _ UB hr (@zA _ _ _ _ _ (@yL _ _ _ _ _ _ _ _ _ _ wW (@pvb _ 0 _ _ rfl) yS (@yB _ _ _ (@pvb _ 1 _ _ rfl))) zC rfl) rfl rfl rfl rfl)) (@zR _ _ _ _ _ _ _ _ _ _ _ _ UB hr (@zA _ _ _ _ _ (@yL _ _ _ _ _ _ _ _ _ _ wW (@pvb _ 0 _ _ rfl) (@yB _ _ _ (@pvb _ 1 _ _ rfl)) yS) zC rfl) rfl rfl rfl rfl))))))),?_⟩;have nl:=zZ row;have p8:2 ^ n<=2 ^ 4:=YY (by decide) ao;have e8:2 ^ 4=16:=rfl;refine zB ⟨p,_,rfl,.inl (SqL.of u),rfl,_,rfl,?_⟩
 cases n with
 | zero =>
  have aa:row.length=1:=U;rw[JC (show V.int (((zU row).length:Nat):Int)=V.int 1 by rw[nl,aa];rfl)]
  exact x5 ⟨(by show 0<=sizeLine;decide),λl hl=>k l [] _ (zD hl _) (zT hl _) trivial⟩
 | succ m =>
  obtain⟨t1,t2,t3⟩:=vf U;obtain⟨la,lb⟩:=vA U;have pw:2 ^ (m+1)=2 ^ m*2:=Zt ..;have p0:=Zu (n:=m);rw[Js (show ¬ V.int (((zU row).length:Nat):Int)=V.int 1 by intro z;injection z with z;lia)];refine xB (zB ⟨p,_,rfl,.inl (SqL.of u),_,_,rfl,rfl,⟨by decide,by decide⟩,?_⟩);have eh:(((zU row).length:Nat):Int) / 2=((row.length / 2:Nat):Int):=by rw[nl];lia
  simp only[eh];refine zB ⟨((row.length / 2:Nat):Int),rfl,by lia,by lia,λlc I=>?_⟩;refine ny (lo:=0) (n:=((row.length / 2:Nat):Int).toNat) (λj acc σ q=>(∃ M,σ=[M,some (.ref p)])/\Same H q/\q lc=some (.lst acc)/\acc.length=j/\Prs q acc (((row.take (row.length / 2)).zip row.reverse).take j)) ⟨⟨_,rfl⟩,zD I _,zG,rfl,trivial⟩ (λj acc σ q z=>z.2.2.1) ?_ ?_
  ·rintro j acc σ q hj ⟨⟨M,rfl⟩,r,X,al,a⟩
   have jl:j<row.length / 2:=by lia
   have b:=r _ _ u;have e0:(0:Int)+((j:Nat):Int)=((j:Nat):Int):=ZY _;refine zB (zB ⟨p,_,_,_,rfl,rfl,SqL.of b,(by rw[e0];exact yT (kO row j (by grind))),?_⟩);refine zB (zB ⟨p,_,rfl,.inl (SqL.of b),_,_,rfl,rfl,_,rfl,_,_,rfl,rfl,?_⟩);have ei:(((zU row).length:Nat):Int)-1-(0+((j:Nat):Int))=((row.length-1-j:Nat):Int):=by rw[nl];grind
   refine⟨p,_,_,_,rfl,rfl,SqL.of b,(by rw[ei];exact yT (kO row (row.length-1-j) (by lia))),?_⟩;rw[<- zba row j (by grind)];refine⟨(by show 2<=sizeLine;decide),λt ht=>?_⟩;have T:=zD ht (.tup [.int ((row.getD j 0:Nat):Int),.int ((row.reverse.getD j 0:Nat):Int)]);have W:=T _ _ X;refine⟨W,by rw[JB];lia,nx hj ⟨⟨_,rfl⟩,λc o e=>?_,zG,by rw[Jd,al];rfl,?_⟩⟩
   ·rw[zK (zJ e I)];exact T _ _ (r c o e)
   ·rw[oW (by rw[Jw];simp_all) (by rw[List.length_reverse];grind)]
    refine Prs.add (f:=((row.take (row.length / 2)).getD j 0,row.reverse.getD j 0)) ?_ ((a.tups (Tups.of T)).tups (Tups.lst W));rw[Tups.lst W _ _ (zT ht _),Ja (l:=row.take _),Zm jl,<- Ja]
  rintro acc σ q ⟨⟨M,rfl⟩,r,X,al,a⟩;rw[Yk]at al a;rw[JM (by rw[ZN,Jw,List.length_reverse];simp_all)]at a;have b:=r _ _ u;refine zB (zB (zB (zu rfl ⟨p,_,rfl,SqL.of b,λp5 D=>?_⟩)));rw[kM row _ t3];have s5:=zD D (.lst (zU (row.take (row.length / 2))));refine⟨m,rfl,p5,row.take (row.length / 2),rfl,zT D _,la,by lia,λl6 i H7 Z aT d=>?_⟩;have R:=s5.trans Z;have b6:=wU m (row.take (row.length / 2));rw[la]at b6;have a5:m*2 ^ m<=4*16:=Nat.mul_le_mul (by lia) (by lia);have a3:=d.len;refine⟨lc,l6,_,_,rfl,rfl,R _ _ X,aT,by rw[JB];lia,λl7 J=>?_⟩;have S:=zD J (.lst (acc++i));have y:=(Prs.app (a.tups (Tups.of R)) d).tups (Tups.of S);have O:=r.trans (R.trans S);have C:=O _ _ u;have h8:=zT J (.lst (acc++i));generalize L2.upd H7 l7 _=H8 at S y O C h8 ⊢;refine zB (zB (zu rfl ⟨p,_,rfl,SqL.of C,λp9 B=>?_⟩));rw[kN row _ t3];have s9:=zD B (.lst (zU (row.drop (row.length / 2))));refine⟨m,rfl,p9,row.drop (row.length / 2),rfl,zT B _,lb,by lia,λl9 ab H9 Y h9 x=>?_⟩;have N:=s9.trans Y;have b9:=wU m (row.drop (row.length / 2));rw[lb]at b9;have a0:=x.len;refine⟨l7,l9,_,_,rfl,rfl,N _ _ h8,h9,by rw[Jd,JB];lia,λaE g=>?_⟩;have v:=zD g (.lst ((acc++i)++ab));have L:=(Prs.app (y.tups (Tups.of N)) x).tups (Tups.of v);refine k aE _ _ (O.trans (N.trans v)) (zT g _) ?_
  have e:xI (m+1) row=(row.take (row.length / 2)).zip row.reverse++xI m (row.take (row.length / 2))++xI m (row.drop (row.length / 2)):=by
   conv=>lhs;unfold xI
   rw[Jf (by lia)]
  rw[e];exact L
theorem jP {f:JI}{fd:Yl}(F:Fun K "_law_block" "_law_block" nE f fd) (G:Mgs mg) (b:Binds K fd ["_law_row"] []) (a:mg "_law_block" = some (.ref f)):∀ n:Nat,FnOk P w K mg base CX0 (n+1) f fd ["_law_row"] (sQ n)
 | 0=>nU F G b a 0 ⟨λvs H Q E ⟨m,h,_⟩=>by simp_all,λA outer s H args us vs Q E _ _ _ _ ⟨m,h,_⟩=>by simp_all⟩
 | m+1=>nU F G b a (m+1) ((jP F G b a m).imp λvs H Q E ⟨c,h,q⟩=>by cases h;exact q)
abbrev vw:Sp:=λa H Q E=>∃ m,m<=4/\sQ m a H Q E
theorem i6 {f:JI}{fd:Yl}(F:Fun K "_law_block" "_law_block" nE f fd) (G:Mgs mg) (b:Binds K fd ["_law_row"] []) (a:mg "_law_block" = some (.ref f)):FnOk P w K mg base CX0 5 f fd ["_law_row"] vw :=
 FnOk.any 4 λm c=>(jP F G b a m).mono (by simp_all)
abbrev eT:Stmt:=top 40
def xZ (way k:Nat):Nt:=if way=0 then wV k else if way=1 then vk k else xc k
theorem jY {way k:Nat}(h:k<5):(xZ way k).Ok:=by
 unfold xZ;split
 ·exact eF h
 ·split
  ·exact aC h
  ·exact iU h
theorem kL (way k:Nat):(xZ way k).lanes=2 ^ k:=by
 unfold xZ;split
 ·rfl
 ·split<;>rfl
def pF:Sp:=λb H Q _=>∃ way k:Nat,b=[.int (way:Nat),.int (k:Nat)]/\k<5/\∀ r fr d c a,Same H a->NetAt a r fr d c (xZ way k)->Q (.ref r) a
theorem pc {H:Hp}{ps:List V}{fs:List Fk}(h:Prs H ps fs):∀ n:Nat,Prs H (List.replicate n ps).flatten (List.replicate n fs).flatten
 | 0=>trivial
 | n+1=>by
  rw[Y9,Y9,Zw,Zw];exact Prs.app h (pc h n)
theorem lG:FnScope ["_law_way","_law_k","_law_row","_law_forks","_law_ends_here"] ["_law_way","_law_k"] (zQ eT):=by trivial
theorem ap {f fB fS fT:JI}{fd dB dS dT:Yl}(F:Fun K "_law_made" "_law_made" eT f fd) (G:Mgs mg) (UB:Use P w K mg base "_law_block" ["_law_row"] 5 vw fB dB) (US:Use P w K mg base "_law_stairway" ["_law_row"] 10 sI fS dS) (UT:Use P w K mg base "_law_tree" ["_law_row"] 5 sF fT dT):FnOk P w K mg base CX0 11 f fd ["_law_way","_law_k"] pF:=by
 refine F.ok lG (λvs H Q E h=>?_) (λao A outer s H vs Q E hr h=>?_)
 ·obtain⟨way,k,rfl,_⟩:=h
  rfl
 obtain⟨way,k,rfl,k5,q⟩:=h;have L:Room 5 _:=hr.mono (by decide);refine⟨_,(@zE _ _ _ _ _ (@zW _ _ 2 _ _ _ _ lG.nd rfl (.inl rfl) (@vH _ _ _ _ _ _ _ rfl rfl G.list rfl G.range (@zA _ _ _ _ _ (@zY _ _ _ _ _ _ _ zj (@zy _ _ _ _ (@zA _ _ _ _ _ zH (@zA _ _ _ _ _ zH (@zA _ _ _ _ _ zH (@zA _ _ _ _ _ zH (@zA _ _ _ _ _ zH zC rfl) rfl) rfl) rfl) rfl)) (@pvb _ 1 _ _ rfl) (λ_ _=>rfl)) zC rfl) rfl rfl) rfl (by trivial)) (@zE _ _ _ _ _ (@pZ _ _ 3 4 _ _ _ _ _ _ _ _ _ _ _ rfl lG.nd rfl rfl (by decide) rfl rfl (@zA _ _ _ _ _ (@zS _ _ _ _ _ _ _ _ pj (@zR _ _ _ _ _ _ _ _ _ _ _ _ UB L (@zA _ _ _ _ _ (@pvb _ 2 _ _ rfl) zC rfl) rfl rfl rfl rfl) (@pvb _ 1 _ _ rfl)) (@zA _ _ _ _ _ (@pvb _ 2 _ _ rfl) zC rfl) rfl) rfl rfl) (@zE _ _ _ _ _ (@yb _ _ _ _ _ _ _ _ (@zt _ _ _ _ _ _ _ _ xR (@pvb _ 0 _ _ rfl) zH (yC _)) (@zM _ _ _ (@yJ _ _ _ _ _ _ (@zR _ _ _ _ _ _ _ _ _ _ _ _ US hr (@zA _ _ _ _ _ (@pvb _ 2 _ _ rfl) zC rfl) rfl rfl rfl rfl) (@yK _ _ _ _ _ _ rfl (@zP _ _ _ _ _ (@zN _ _ 3 _ lG.nd rfl (.inl rfl) (by trivial)) (@zP _ _ _ _ _ (@zN _ _ 4 _ lG.nd rfl (.inl rfl) (by trivial)) zw rfl) rfl) rfl rfl) rfl rfl rfl)) yA) (@zE _ _ _ _ _ (@yb _ _ _ _ _ _ _ _ (@zt _ _ _ _ _ _ _ _ xR (@pvb _ 0 _ _ rfl) zH (yC _)) (@zM _ _ _ (@yJ _ _ _ _ _ _ (@zR _ _ _ _ _ _ _ _ _ _ _ _ UT L (@zA _ _ _ _ _ (@pvb _ 2 _ _ rfl) zC rfl) rfl rfl rfl rfl) (@yK _ _ _ _ _ _ rfl (@zP _ _ _ _ _ (@zN _ _ 3 _ lG.nd rfl (.inl rfl) (by trivial)) (@zP _ _ _ _ _ (@zN _ _ 4 _ lG.nd rfl (.inl rfl) (by trivial)) zw rfl) rfl) rfl rfl) rfl rfl rfl)) yA) (@zM _ _ _ (@zV _ _ _ _ (@zi _ _ _ _ _ (@zA _ _ _ _ _ (@zX _ _ _ _ _ _ _ _ _ zp rfl G.len Yb (@zA _ _ _ _ _ (@pvb _ 2 _ _ rfl) zC rfl) (by decide) (by decide) rfl rfl) (@zA _ _ _ _ _ (@zo _ _ _ _ _ _ _ _ _ zr rfl G.tuple rfl (@zA _ _ _ _ _ (@pvb _ 3 _ _ rfl) zC rfl) (by decide) (by decide) rfl rfl) (@zA _ _ _ _ _ (@zo _ _ _ _ _ _ _ _ _ zr rfl G.tuple rfl (@zA _ _ _ _ _ (@pvb _ 4 _ _ rfl) zC rfl) (by decide) (by decide) rfl rfl) zC rfl) rfl) rfl)))))))),?_⟩;have aa:2 ^ k<=2 ^ 4:=YY (by decide) (by lia);have ab:2 ^ 4=16:=rfl
 have O:atI [V.int 1,V.int 2,V.int 4,V.int 8,V.int 16] ((k:Nat):Int)=some (.int ((2 ^ k:Nat):Int)):=by
  have:∀ k,k<5->atI [V.int 1,V.int 2,V.int 4,V.int 8,V.int 16] ((k:Nat):Int)=some (.int ((2 ^ k:Nat):Int)):=by decide
  exact this k k5
 refine⟨(by show 5<=sizeLine;decide),λt ht=>?_⟩;have s0:=zD ht (.lst [.int 1,.int 2,.int 4,.int 8,.int 16]);refine zB ⟨t,_,_,_,rfl,rfl,SqL.of zG,O,?_⟩;refine⟨2 ^ k,rfl,by lia,λp hp=>?_⟩;have s1:=zD hp (.lst (zU (List.range (2 ^ k))));have Z:=s0.trans s1;have g:=zT hp (.lst (zU (List.range (2 ^ k))));show we _ _ _ _ (L2.upd _ p (.lst (zU (List.range (2 ^ k)))));generalize L2.upd _ p (.lst (zU (List.range (2 ^ k))))=H1 at Z g ⊢;clear s0 s1 hp;refine zB ⟨k,by lia,p,List.range (2 ^ k),rfl,g,Y4,by lia,λl T H2 i hl pr=>?_⟩;have pl:=pr.len;have bl:=wU k (List.range (2 ^ k));rw[Y4]at bl;have b2:k*2 ^ k<=4*2 ^ 4:=Nat.mul_le_mul (by lia) aa;have b3:T.length*k<=(4*2 ^ 4)*4:=Nat.mul_le_mul (by lia) (by lia);refine zB ⟨l,k,T,rfl,rfl,hl,by simp_all,by lia,by rw[Yk,JB];lia,λW x=>?_⟩;rw[Yk];have m:=zD x (.lst (List.replicate k T).flatten);refine zB ⟨_,_,rfl,?_⟩
 let I:Nt->St->Hp->Prop:=λN σ G=>∃ lf le n,σ=[some (.int (way:Nat)),some (.int (k:Nat)),some (.ref p),some (.ref lf),some (.ref le)]/\Same H G/\G p=some (.lst (zU (List.range (2 ^ k))))/\G lf=some (.lst n)/\Prs G n N.forks/\G le=some (.lst (zU N.ends))
 have i0:I (xc k) [some (.int (way:Nat)),some (.int (k:Nat)),some (.ref p),some (.ref W),some (.ref p)] (L2.upd H2 W (.lst (List.replicate k T).flatten)):=⟨W,p,_,rfl,(Z.trans i).trans m,m _ _ (i _ _ g),zT x _,(pc pr k).tups (Tups.of m),m _ _ (i _ _ g)⟩;dsimp only;refine uj (I (if way=0 then wV k else xc k)) ?_ λD j _=>?_
 ·rintro σ G ⟨lf,le,n,rfl,C,d,X,U,Y⟩
  refine uj (I (xZ way k)) ?_ λD j _=>?_
  ·rintro σ G ⟨lf,le,n,rfl,C,d,X,U,Y⟩
   refine zB ⟨p,_,rfl,.inl (SqL.of d),_,rfl,lf,_,rfl,.inl ⟨SqL.of X,λa ha=>?_⟩⟩;have s4:=zD ha (.tup n);refine zB ⟨le,_,rfl,.inl ⟨SqL.of (s4 _ _ Y),λb hb=>?_⟩⟩;have s5:=zD hb (.tup (zU (xZ way k).ends));refine⟨(by show 3<=sizeLine;decide),λr M=>?_⟩;rw[zZ,Y4];have S:=zD M (.tup [.int ((2 ^ k:Nat):Int),.ref a,.ref b]);refine q r a b n _ (((C.trans s4).trans s5).trans S) ⟨?_,S _ _ (s5 _ _ (zT ha _)),U.tups (Tups.of ((s4.trans s5).trans S)),S _ _ (zT hb _)⟩;rw[kL];exact zT M _
  ·refine zB ⟨rfl,_,rfl,?_⟩
   by_cases R:way=1
   ·rw[JC (show V.int ((way:Nat):Int)=V.int 1 by rw[R];rfl)]
    refine x5 (zB ⟨k,by lia,p,List.range (2 ^ k),rfl,d,Y4,by lia,λc v le2 o G2 i hc y u B=>?_⟩);refine⟨c,_,rfl,SqT.of hc,rfl,_,_,rfl,_,_,rfl,rfl,?_⟩;refine j _ _ ⟨v,le2,o,rfl,C.trans i,i _ _ d,y,?_,?_⟩
    ·rw[show xZ way k=vk k from by unfold xZ;rw[Jf (by lia),Jm R]];exact u
    ·rw[show xZ way k=vk k from by unfold xZ;rw[Jf (by lia),Jm R]];exact B
   ·rw[Js (show ¬ V.int ((way:Nat):Int)=V.int 1 by intro z;injection z with z;lia)]
    have e:xZ way k=if way=0 then wV k else xc k:=by unfold xZ;rw[Jf R]
    refine xB (j _ _ ⟨lf,le,n,rfl,C,d,X,?_,?_⟩)
    ·rw[e];exact U
    ·rw[e];exact Y
 ·obtain⟨lf,le,n,e,C,d,X,U,Y⟩:=i0
  refine zB ⟨rfl,_,rfl,?_⟩;by_cases J:way=0
  ·rw[JC (show V.int ((way:Nat):Int)=V.int 0 by rw[J];rfl)]
   refine x5 (zB ⟨k,by lia,p,List.range (2 ^ k),rfl,d,Y4,by lia,λc v le2 o G2 i hc y u B=>?_⟩);refine⟨c,_,rfl,SqT.of hc,rfl,_,_,rfl,_,_,rfl,rfl,?_⟩;refine j _ _ ⟨v,le2,o,rfl,C.trans i,i _ _ d,y,?_,?_⟩
   ·rw[Jm J];exact u
   ·rw[Jm J];exact B
  ·rw[Js (show ¬ V.int ((way:Nat):Int)=V.int 0 by intro z;injection z with z;simp_all)]
   refine xB (j _ _ ⟨W,p,_,rfl,(Z.trans i).trans m,m _ _ (i _ _ g),zT x _,?_,?_⟩)
   ·rw[Jf J];exact(pc pr k).tups (Tups.of m)
   ·rw[Jf J];exact m _ _ (i _ _ g)
abbrev eS:Stmt:=top 43
abbrev lK:Stmt:=top 44
def mz:Sp:=λb H Q _=>∃ l:JI,b=[.ref l]/\Pk3 H l/\∀ r fr d c N a,Few 6 10 N->NetAt a r fr d c N->Pk3 a l->But l H a->Q (.ref r) a
structure Lns (lanes:Nat) (moves:List Nat):Prop where
 ne:moves≠[]
 lt:∀ m∈moves,m<lanes
 up:moves.Pairwise (· < ·)
def pD:Sp:=λb H Q _=>∃ l r fr d c N,b=[.ref l,.ref r]/\Pk3 H l/\Nt.Ok N/\NetAt H r fr d c N/\∀ p moves a,Lns N.lanes moves->a p=some (.tup (zU moves))->Pk3 a l->But l H a->Q (.ref p) a
theorem nk (way:Nat){k:Nat}(h:k<3):(xZ way k).forks.length<=8/\(xZ way k).lanes<=4:=by
 have s:∀ k,k<3->(wV k).forks.length<=8/\(wV k).lanes<=4:=by decide
 have t:∀ k,k<3->(vk k).forks.length<=8/\(vk k).lanes<=4:=by decide
 have r:∀ k,k<3->(xc k).forks.length<=8/\(xc k).lanes<=4:=by decide
 unfold xZ;split
 ·exact s k h
 ·split
  ·exact t k h
  ·exact r k h
theorem Lns.all {lanes:Nat}(h:1<=lanes):Lns lanes (List.range lanes):=⟨λz=>by have:=JP List.length z;rw[Y4,Ye]at this;lia,λm a=>Yp.mp a,List.pairwise_lt_range⟩
theorem eP:FnScope ["_law_left_here","_law_way","_law_net_here","_law_k"] ["_law_left_here"] (zQ eS):=by trivial
theorem ak {f fK fA fM fC:JI}{fd dK dA dM dC:Yl}(F:Fun K "_law_net" "_law_net" eS f fd) (G:Mgs mg) (B:Use P w K mg base "_law_pick" ["_law_left_here","_law_many"] 1 x8 fK dK) (UA:Use P w K mg base "_law_any" ["_law_left_here"] 3 lB fA dA) (UM:Use P w K mg base "_law_made" ["_law_way","_law_k"] 11 pF fM dM) (UC:Use P w K mg base "_law_changed" ["_law_left_here","_law_net_here"] 2 eL fC dC):FnOk P w K mg base CX0 12 f fd ["_law_left_here"] mz:=by
 refine F.ok eP (λvs H Q E h=>?_) (λab A outer s H vs Q E y h=>?_)
 ·obtain⟨l,rfl,_⟩:=h
  rfl
 obtain⟨l,rfl,S,k⟩:=h;have e:Room 1 _:=y.mono (by decide);have T:Room 2 _:=y.mono (by decide);have R:Room 3 _:=y.mono (by decide);refine⟨_,(@zE _ _ _ _ _ (@zW _ _ 1 _ _ _ _ eP.nd rfl (.inl rfl) (@zR _ _ _ _ _ _ _ _ _ _ _ _ B e (@zA _ _ _ _ _ (@pvb _ 0 _ _ rfl) (@zA _ _ _ _ _ zH zC rfl) rfl) rfl rfl rfl rfl) rfl (by trivial)) (@zE _ _ _ _ _ (@yb _ _ _ _ _ _ _ _ (@zt _ _ _ _ _ _ _ _ xR (@pvb _ 1 _ _ rfl) zH (yC _)) (@zM _ _ _ (@zV _ _ _ _ (@zR _ _ _ _ _ _ _ _ _ _ _ _ UA R (@zA _ _ _ _ _ (@pvb _ 0 _ _ rfl) zC rfl) rfl rfl rfl rfl))) yA) (@zE _ _ _ _ _ (@zW _ _ 2 _ _ _ _ eP.nd rfl (.inl rfl) (@zR _ _ _ _ _ _ _ _ _ _ _ _ UM y (@zA _ _ _ _ _ (@zR _ _ _ _ _ _ _ _ _ _ _ _ B e (@zA _ _ _ _ _ (@pvb _ 0 _ _ rfl) (@zA _ _ _ _ _ zH zC rfl) rfl) rfl rfl rfl rfl) (@zA _ _ _ _ _ (@zY _ _ _ _ _ _ _ zj (@zy _ _ _ _ (@zA _ _ _ _ _ zH (@zA _ _ _ _ _ zH (@zA _ _ _ _ _ zH (@zA _ _ _ _ _ zH zC rfl) rfl) rfl) rfl)) (@zR _ _ _ _ _ _ _ _ _ _ _ _ B e (@zA _ _ _ _ _ (@pvb _ 0 _ _ rfl) (@zA _ _ _ _ _ zH zC rfl) rfl) rfl rfl rfl rfl) (λ_ _=>rfl)) zC rfl) rfl) rfl rfl rfl rfl) rfl (by trivial)) (@zE _ _ _ _ _ (@yj _ _ _ _ _ _ _ _ Y2 rfl (@yZ _ _ _ _ _ _ rfl G.range (@zA _ _ _ _ _ (@zS _ _ _ _ _ _ _ _ wC (@zY _ _ _ _ _ _ _ zj (@zy _ _ _ _ (@zA _ _ _ _ _ zH (@zA _ _ _ _ _ zH (@zA _ _ _ _ _ zH (@zA _ _ _ _ _ zH zC rfl) rfl) rfl) rfl)) (@pvb _ 1 _ _ rfl) (λ_ _=>rfl)) (@zR _ _ _ _ _ _ _ _ _ _ _ _ B e (@zA _ _ _ _ _ (@pvb _ 0 _ _ rfl) (@zA _ _ _ _ _ zH zC rfl) rfl) rfl rfl rfl rfl)) zC rfl) rfl) (@zN _ _ 3 _ eP.nd rfl (.inl rfl) (by trivial)) (@zM _ _ _ (@zW _ _ 2 _ _ _ _ eP.nd rfl (.inl rfl) (@zR _ _ _ _ _ _ _ _ _ _ _ _ UC T (@zA _ _ _ _ _ (@pvb _ 0 _ _ rfl) (@zA _ _ _ _ _ (@pvb _ 2 _ _ rfl) zC rfl) rfl) rfl rfl rfl rfl) rfl (by trivial))) (by intro _;rfl)) (@zM _ _ _ (@zV _ _ _ _ (@pvb _ 2 _ _ rfl))))))),?_⟩;refine zB ⟨l,4,rfl,by decide,by decide,S,λway H1 hw S1 B1=>?_⟩;refine zB ⟨rfl,_,rfl,uL (λ_=>?_) (λz=>?_)⟩
 ·exact zB ⟨l,rfl,S1,λr fr c b N d a na j o=>k r fr c b N d ⟨a.ok,a.ln,by have:=a.fk;lia⟩ na j (B1.trans o)⟩
 refine zB ⟨l,3,rfl,by decide,by decide,S1,λkd d hk j o=>?_⟩;refine⟨(by show 4<=sizeLine;decide),λt g=>zB ⟨l,4,rfl,by decide,by decide,j.keep (zD g _),λv H3 hv I q=>?_⟩⟩;obtain⟨sz,Y,Z⟩:=vG (xs:=[1,2,2,0]) (v:=v) (by show v<4;lia);have zb:sz<3:=(show ∀ n∈[1,2,2,0],n<3 by decide) sz Y;refine⟨t,_,_,_,rfl,rfl,SqL.of (q t _ (zT g _) (j.ne g).symm),Z,?_⟩;have X:But l H H3:=((B1.trans o).trans (But.of (zD g _))).trans q;clear g q Z Y;refine⟨kd,sz,rfl,by lia,λr fr c b H4 s4 M=>?_⟩;obtain⟨m1,m2⟩:=nk kd zb;have S4:=I.keep s4;have B4:=X.trans (But.of (l:=l) s4);refine⟨(by show 4<=sizeLine;decide),λt g=>?_⟩;have x:=zD g (.lst [.int 0,.int 1,.int 1,.int 2]);obtain⟨m,mm,ma⟩:=vG (xs:=[0,1,1,2]) (v:=way) (by show way<4;lia);have mb:m<=2:=(show ∀ n∈[0,1,1,2],n<=2 by decide) m mm;refine zB ⟨t,_,_,_,rfl,rfl,SqL.of (zT g _),ma,?_⟩;refine zB ⟨l,2,rfl,by decide,by decide,S4.keep x,λp H5 aa S5 B5=>?_⟩;have L:=(M.tups (Tups.of x)).tups (B5.tups3 (S4.keep x));have W:=(B4.trans (But.of (l:=l) x)).trans B5
 have pb:m*p<=2:=by
  have:m*p<=2*1:=Nat.mul_le_mul mb (by lia);lia
 have D:((m:Nat):Int)*((p:Nat):Int)=((m*p:Nat):Int):=(Int.natCast_mul _ _).symm;refine⟨_,_,rfl,rfl,.inl ⟨by lia,by lia⟩,?_⟩;refine zu rfl ⟨by rw[D];lia,by rw[D];lia,?_⟩;rw[D];generalize m*p=cnt at pb;refine yz (lo:=0) (n:=((cnt:Nat):Int).toNat) (λi σ d=>∃ C r fr c b N,σ=[some (.ref l),some (.int (way:Nat)),some (.ref r),C]/\Pk3 d l/\But l H d/\NetAt d r fr c b N/\Few 6 (8+i) N) ⟨_,r,fr,c,b,_,rfl,S5,W,L,jY (by lia),by lia,by lia⟩ ?_ ?_
 ·rintro i σ d hi ⟨C,r,fr,c,b,N,rfl,j,o,na,a⟩
  refine zB (zB ⟨l,r,fr,c,b,N,6,8+i,rfl,j,a,by lia,na,λr' U V J N' H3 u _ O I q=>?_⟩);exact⟨_,r',U,V,J,N',rfl,I,o.trans q,O,u⟩
 ·rintro σ d ⟨C,r,fr,c,b,N,rfl,j,o,na,a⟩
  exact zB (k r fr c b N d ⟨a.ok,a.ln,by have:=a.fk;lia⟩ na j o)
theorem zb9:FnScope ["_law_left_here","_law_net_here","_law_some_here"] ["_law_left_here","_law_net_here"] (zQ lK):=by trivial
theorem cJ {f fK:JI}{fd dK:Yl}(F:Fun K "_law_some" "_law_some" lK f fd) (G:Mgs mg) (UK:Use P w K mg base "_law_pick" ["_law_left_here","_law_many"] 1 x8 fK dK):FnOk P w K mg base CX0 2 f fd ["_law_left_here","_law_net_here"] pD:=by
 refine F.ok zb9 (λvs H Q E h=>?_) (λa3 A outer s H vs Q E hr h=>?_)
 ·obtain⟨l,r,fr,er,ps,N,rfl,_⟩:=h
  rfl
 obtain⟨l,r,fr,er,ps,N,rfl,S,ok,na,k⟩:=h;have a0:=ok.l16;have l1:=ok.l1;refine⟨_,(@zE _ _ _ _ _ (@sk _ 2 _ _ _ _ (some _) _ _ _ _ _ _ _ _ ["_law_lane","_law_left_here"] [none,some 0] zb9.nd rfl rfl rfl (@yZ _ _ _ _ _ _ rfl G.range (@zA _ _ _ _ _ (@zY _ _ _ _ _ _ _ yP (@pvb _ 1 _ _ rfl) zH (λ_ _=>rfl)) zC rfl) rfl) (CapOk.of (by kernel_rfl)) (λ_ _ _ _ _=>(@zN _ _ 0 _ (show (["_law_lane","_law_left_here"]:List Str).Nodup from by decide +kernel) rfl (.inl rfl) (.inr rfl))) (λ_ _ _ _ _=>(@jF _ _ _ (@zt _ _ _ _ _ _ _ _ xR (@zR _ _ _ _ _ _ _ _ _ _ _ _ UK hr (@zA _ _ _ _ _ (@pvb _ 1 _ _ rfl) (@zA _ _ _ _ _ zH zC rfl) rfl) rfl rfl rfl rfl) zH (yC _)))) (λ_ _ _ _ _=>(@pvb _ 0 _ _ rfl)) (by intro _;rfl) (by with_unfolding_all rfl)) (@zM _ _ _ (@zV _ _ _ _ (@zY _ _ _ _ _ _ _ zj (@zy _ _ _ _ (@zA _ _ _ _ _ (@uf _ _ _ _ _ _ _ rfl rfl G.tuple rfl G.range (@zA _ _ _ _ _ (@zY _ _ _ _ _ _ _ yP (@pvb _ 1 _ _ rfl) zH (λ_ _=>rfl)) zC rfl) rfl rfl) (@zA _ _ _ _ _ (@nL _ _ _ _ _ _ _ _ (@zt _ _ _ _ _ _ _ _ (cB hr.units0) (@pvb _ 2 _ _ rfl) (@zy _ _ _ _ zC) (yC _)) (@zo _ _ _ _ _ _ _ _ _ zr rfl G.tuple rfl (@zA _ _ _ _ _ (@pvb _ 2 _ _ rfl) zC rfl) (by decide) (by decide) rfl rfl) (@zi _ _ _ _ _ (@zA _ _ _ _ _ (@zR _ _ _ _ _ _ _ _ _ _ _ _ UK hr (@zA _ _ _ _ _ (@pvb _ 0 _ _ rfl) (@zA _ _ _ _ _ (@zY _ _ _ _ _ _ _ yP (@pvb _ 1 _ _ rfl) zH (λ_ _=>rfl)) zC rfl) rfl) rfl rfl rfl rfl) zC rfl))) zC rfl) rfl)) (@zR _ _ _ _ _ _ _ _ _ _ _ _ UK hr (@zA _ _ _ _ _ (@pvb _ 0 _ _ rfl) (@zA _ _ _ _ _ zH zC rfl) rfl) rfl rfl rfl rfl) (λ_ _=>rfl))))),?_⟩;refine zB ⟨r,_,_,_,rfl,rfl,SqT.of na.net,rfl,_,rfl,by lia,by lia,λlc u=>?_⟩;have M:=S.ne u;have aT:Frs l H lc:=λb o e _=>zJ e u;refine qV (lo:=0) (n:=((N.lanes:Nat):Int).toNat) (λi acc σ C=>(∃ v0,σ=[v0,some (.ref l)])/\Pk3 C l/\But l H C/\C lc=some (.lst acc)/\∃ ms:List Nat,acc=zU ms/\ms.length<=i/\(∀ m∈ms,m<i)/\ms.Pairwise (· < ·)) ⟨⟨_,rfl⟩,S.upd M,But.of (zD u _),zT u _,[],rfl,Jg _,λm J=>(nomatch J),.nil⟩ (λi acc σ C z=>z.2.2.2.1) ?_ ?_
 ·rintro i acc σ C hi ⟨⟨v0,rfl⟩,S2,X,U,ms,rfl,ml,mlt,mp⟩
  refine zB ⟨l,2,rfl,by decide,by decide,S2,λv H3 Z S3 B3=>⟨rfl,_,rfl,?_⟩⟩;have h3:=B3 lc _ U M.symm;have e0:(0:Int)+((i:Nat):Int)=((i:Nat):Int):=ZY _;refine uL (λ_=>?_) (λ_=>?_)
  ·refine zB ⟨h3,by rw[zZ,JB];lia,nx (by lia) ⟨⟨_,rfl⟩,S3.upd M,(X.trans B3).upd aT,zG,ms++[i],?_,by rw[Jd];show _+1<=_;lia,λm J=>?_,?_⟩⟩
   ·rw[<- bA,e0];rfl
   ·rcases Jv.mp J with y|y
    ·have:=mlt m y;lia
    ·rw[Jc.mp y];lia
   ·refine Ym.mpr ⟨mp,List.pairwise_singleton _ _,λa ha b hb=>?_⟩
    rw[Jc.mp hb];exact mlt a ha
  ·exact nx (by lia) ⟨⟨_,rfl⟩,S3,X.trans B3,h3,ms,rfl,by lia,λm J=>by have:=mlt m J;lia,mp⟩
 rintro acc σ C ⟨⟨v0,rfl⟩,S2,X,U,ms,rfl,ml,mlt,mp⟩;rw[Yk]at ml mlt;have O:=na.tups (X.tups3 S);refine zB ⟨r,_,_,_,rfl,rfl,SqT.of O.net,rfl,N.lanes,rfl,by lia,λD R=>?_⟩;have Y:=zD R (.tup (zU (List.range N.lanes)));have h1:=zT R (.tup (zU (List.range N.lanes)));have T:=Y _ _ U;have S1:=S2.keep Y;have B1:=X.trans (But.of (l:=l) Y);have aa:=O.tups (Tups.of Y);show eD _ _ _ (L2.upd C D (.tup (zU (List.range N.lanes)))) _;generalize L2.upd C D (.tup (zU (List.range N.lanes)))=H3 at *;clear U Y S2 X O R;refine zB ⟨(by show 0<=sizeLine;decide),λe he=>?_⟩;have I:=zD he (.lst []);refine⟨lc,e,_,rfl,rfl,SqL.of (I _ _ T),SqL.of (zT he _),_,rfl,?_⟩;have aE:=I _ _ T;have ab:=I _ _ h1;have S4:=S1.keep I;have B4:=B1.trans (But.of (l:=l) I);have ao:=aa.tups (Tups.of I);generalize L2.upd H3 e (.lst [])=H4 at *;clear T h1 S1 B1 aa I he
 have fin:∀ (p:JI) (moves:List Nat) (B:Hp),Lns N.lanes moves->B p=some (.tup (zU moves))->B D=some (.tup (zU (List.range N.lanes)))->Pk3 B l->But l H B->∀ q,B q=none->∀ (v:Nat) (d:Hp),(v:Int)<2->Pk3 d l->But l (L2.upd B q (.lst [.ref D,.ref p])) d->∃ a xs j x,V.ref q=.ref a/\V.int (v:Nat)=.int j/\SqL K d a xs/\atI xs j=some x/\Q x d:=λp moves B ln U h1 S5 B5 q c v d Z W L=>by
  have s5:=zD c (.lst [.ref D,.ref p]);have t6:=(Tups.of s5).trans (L.tups3 (S5.keep s5));have B':=(B5.trans (But.of (l:=l) s5)).trans L
  have hx:∃ x,[V.ref D,V.ref p][v]?=some x/\Q x d:=by
   rcases v with _|_|v
   ·exact zu rfl (k D _ d (Lns.all l1) (t6 _ _ h1) W B')
   ·exact zu rfl (k p moves d ln (t6 _ _ U) W B')
   ·lia
  obtain⟨x,ex,qx⟩:=hx;exact⟨q,_,_,x,rfl,rfl,SqL.of (L q _ (zT c _) (S5.ne c).symm),yT ex,qx⟩
 by_cases un:ms=[]
 ·rw[show (!(zU ms).isEmpty)=false by rw[un];rfl]
  refine xB (zB (zB ⟨r,_,_,_,rfl,rfl,SqT.of ao.net,rfl,l,_,rfl,by lia,by lia,S4,λone B ho S5 B5=>⟨(by show 1<=sizeLine;decide),λp g=>?_⟩⟩));have t:=zD g (.tup [.int (one:Nat)]);have t5:=B5.tups3 S4;refine⟨(by show 2<=sizeLine;decide),λq c=>zB ⟨l,2,rfl,by decide,by decide,(S5.keep t).keep (zD c _),λv d Z W L=>?_⟩⟩;exact fin p [one] _ ⟨by simp,λm J=>by rw[Jc.mp J];lia,List.pairwise_singleton _ _⟩ (zT g _) (t _ _ (t5 _ _ ab)) (S5.keep t) ((B4.trans B5).trans (But.of t)) q c v d Z W L
 ·rw[show (!(zU ms).isEmpty)=true by cases ms with
   | nil=>exact absurd rfl un
   | cons a b=>rfl]
  refine x5 (zB ⟨lc,_,rfl,.inl ⟨SqL.of aE,λp g=>?_⟩⟩);have t:=zD g (.tup (zU ms));refine⟨(by show 2<=sizeLine;decide),λq c=>zB ⟨l,2,rfl,by decide,by decide,(S4.keep t).keep (zD c _),λv d Z W L=>?_⟩⟩;exact fin p ms _ ⟨un,mlt,mp⟩ (zT g _) (t _ _ ab) (S4.keep t) (B4.trans (But.of t)) q c v d Z W L
abbrev za4:Stmt:=top 46
def eJ:Sp:=λb H Q _=>∃ l:JI,b=[.ref l]/\Pk3 H l/\∀ r fr d c N a,Few 8 20 N->NetAt a r fr d c N->Pk3 a l->But l H a->Q (.ref r) a
theorem lH:FnScope ["_law_left_here","_law_way","_law_size","_law_forks","_law_k","_law_a","_law_ends_here"] ["_law_left_here"] (zQ za4):=by trivial
theorem zbq {f fK fN fM fB fX:JI}{fd dK dN dM dB dX:Yl}(F:Fun K "_law_evened" "_law_evened" za4 f fd) (G:Mgs mg) (X:Use P w K mg base "_law_pick" ["_law_left_here","_law_many"] 1 x8 fK dK) (UN:Use P w K mg base "_law_net" ["_law_left_here"] 12 mz fN dN) (UM:Use P w K mg base "_law_made" ["_law_way","_law_k"] 11 pF fM dM) (UB:Use P w K mg base "_law_block" ["_law_row"] 5 vw fB dB) (UX:Use P w K mg base "_law_mixed" ["_law_left_here","_law_row"] 2 tO fX dX):FnOk P w K mg base CX0 13 f fd ["_law_left_here"] eJ:=by
 refine F.ok lH (λvs H Q E h=>?_) (λcm A outer s H vs Q E hr h=>?_)
 ·obtain⟨l,rfl,_⟩:=h
  rfl
 obtain⟨l,rfl,S,k⟩:=h;have y:Room 1 _:=hr.mono (by decide);have bB:Room 2 _:=hr.mono (by decide);have bu:Room 5 _:=hr.mono (by decide);have a3:Room 11 _:=hr.mono (by decide);refine⟨_,(@zE _ _ _ _ _ (@zW _ _ 1 _ _ _ _ lH.nd rfl (.inl rfl) (@zR _ _ _ _ _ _ _ _ _ _ _ _ X y (@zA _ _ _ _ _ (@pvb _ 0 _ _ rfl) (@zA _ _ _ _ _ zH zC rfl) rfl) rfl rfl rfl rfl) rfl (by trivial)) (@zE _ _ _ _ _ (@yb _ _ _ _ _ _ _ _ (@zt _ _ _ _ _ _ _ _ xR (@pvb _ 1 _ _ rfl) zH (yC _)) (@zM _ _ _ (@zV _ _ _ _ (@zR _ _ _ _ _ _ _ _ _ _ _ _ UN hr (@zA _ _ _ _ _ (@pvb _ 0 _ _ rfl) zC rfl) rfl rfl rfl rfl))) yA) (@zE _ _ _ _ _ (@yb _ _ _ _ _ _ _ _ (@zt _ _ _ _ _ _ _ _ jK (@pvb _ 1 _ _ rfl) zH (yC _)) (@zM _ _ _ (@zV _ _ _ _ (@zR _ _ _ _ _ _ _ _ _ _ _ _ UM a3 (@zA _ _ _ _ _ (@zY _ _ _ _ _ _ _ zj (@zy _ _ _ _ (@zA _ _ _ _ _ zH (@zA _ _ _ _ _ zH zC rfl) rfl)) (@zR _ _ _ _ _ _ _ _ _ _ _ _ X y (@zA _ _ _ _ _ (@pvb _ 0 _ _ rfl) (@zA _ _ _ _ _ zH zC rfl) rfl) rfl rfl rfl rfl) (λ_ _=>rfl)) (@zA _ _ _ _ _ (@zR _ _ _ _ _ _ _ _ _ _ _ _ X y (@zA _ _ _ _ _ (@pvb _ 0 _ _ rfl) (@zA _ _ _ _ _ zH zC rfl) rfl) rfl rfl rfl rfl) zC rfl) rfl) rfl rfl rfl rfl))) yA) (@zE _ _ _ _ _ (@zW _ _ 2 _ _ _ _ lH.nd rfl (.inl rfl) (@zY _ _ _ _ _ _ _ zj (@zy _ _ _ _ (@zA _ _ _ _ _ zH (@zA _ _ _ _ _ zH (@zA _ _ _ _ _ zH (@zA _ _ _ _ _ zH (@zA _ _ _ _ _ zH zC rfl) rfl) rfl) rfl) rfl)) (@zR _ _ _ _ _ _ _ _ _ _ _ _ X y (@zA _ _ _ _ _ (@pvb _ 0 _ _ rfl) (@zA _ _ _ _ _ zH zC rfl) rfl) rfl rfl rfl rfl) (λ_ _=>rfl)) rfl (by trivial)) (@zE _ _ _ _ _ (@sk _ 3 _ _ _ _ none _ _ _ _ _ (kh K 2 (uO (xT 0) (uO (xT 1) bQ))) _ _ ["_law_a","_law_b","_law_left_here"] [none,none,some 0] lH.nd rfl rfl rfl (@pf _ _ _ _ (@zR _ _ _ _ _ _ _ _ _ _ _ _ UB bu (@zA _ _ _ _ _ (@vH _ _ _ _ _ _ _ rfl rfl G.list rfl G.range (@zA _ _ _ _ _ (@pvb _ 2 _ _ rfl) zC rfl) rfl rfl) zC rfl) rfl rfl rfl rfl)) (CapOk.of (by kernel_rfl)) (λ_ _ _ _ _=>(@yK _ _ _ _ _ _ rfl (@zP _ _ _ _ _ (@zN _ _ 0 _ (show (["_law_a","_law_b","_law_left_here"]:List Str).Nodup from by decide +kernel) rfl (.inl rfl) (.inr rfl)) (@zP _ _ _ _ _ (@zN _ _ 1 _ (show (["_law_a","_law_b","_law_left_here"]:List Str).Nodup from by decide +kernel) rfl (.inl rfl) (.inr rfl)) zw rfl) rfl) rfl rfl)) (λ_ _ _ _ _=>xh) (λ_ _ _ _ _=>(@zY _ _ _ _ _ _ (iV K) zj (@zy _ _ _ _ (@zA _ _ _ _ _ (@zi _ _ _ _ _ (@zA _ _ _ _ _ (@pvb _ 0 _ _ rfl) (@zA _ _ _ _ _ (@pvb _ 1 _ _ rfl) zC rfl) rfl)) (@zA _ _ _ _ _ (@zi _ _ _ _ _ (@zA _ _ _ _ _ (@pvb _ 1 _ _ rfl) (@zA _ _ _ _ _ (@pvb _ 0 _ _ rfl) zC rfl) rfl)) zC rfl) rfl)) (@zR _ _ _ _ _ _ _ _ _ _ _ _ X y (@zA _ _ _ _ _ (@pvb _ 2 _ _ rfl) (@zA _ _ _ _ _ zH zC rfl) rfl) rfl rfl rfl rfl) (λ_ _=>rfl))) (by intro _;rfl) (by with_unfolding_all rfl)) (@zE _ _ _ _ _ (@yj _ _ _ _ _ _ _ _ Y2 rfl (@yZ _ _ _ _ _ _ rfl G.range (@zA _ _ _ _ _ (@zS _ _ _ _ _ _ _ _ wC (@zR _ _ _ _ _ _ _ _ _ _ _ _ X y (@zA _ _ _ _ _ (@pvb _ 0 _ _ rfl) (@zA _ _ _ _ _ zH zC rfl) rfl) rfl rfl rfl rfl) (@zo _ _ _ _ _ _ _ _ _ wT rfl G.int rfl (@zA _ _ _ _ _ (@wb _ _ _ _ _ _ _ _ jK (@pvb _ 2 _ _ rfl) zH (yC _)) zC rfl) (by decide) (by decide) rfl rfl)) zC rfl) rfl) (@zN _ _ 4 _ lH.nd rfl (.inl rfl) (by trivial)) (@zE _ _ _ _ _ (@zW _ _ 5 _ _ _ _ lH.nd rfl (.inl rfl) (@zR _ _ _ _ _ _ _ _ _ _ _ _ X y (@zA _ _ _ _ _ (@pvb _ 0 _ _ rfl) (@zA _ _ _ _ _ (@pvb _ 2 _ _ rfl) zC rfl) rfl) rfl rfl rfl rfl) rfl (by trivial)) (@zM _ _ _ (@y4 _ _ _ _ (@wd _ _ _ _ _ _ _ _ _ _ _ _ Y6 YH YJ yq (@pvb _ 3 _ _ rfl) (@zA _ _ _ _ _ (@zi _ _ _ _ _ (@zA _ _ _ _ _ (@pvb _ 5 _ _ rfl) (@zA _ _ _ _ _ (@zS _ _ _ _ _ _ _ _ xv (@zS _ _ _ _ _ _ _ _ yR (@zS _ _ _ _ _ _ _ _ yR (@pvb _ 5 _ _ rfl) zH) (@zR _ _ _ _ _ _ _ _ _ _ _ _ X y (@zA _ _ _ _ _ (@pvb _ 0 _ _ rfl) (@zA _ _ _ _ _ (@zS _ _ _ _ _ _ _ _ xM (@pvb _ 2 _ _ rfl) zH) zC rfl) rfl) rfl rfl rfl rfl)) (@pvb _ 2 _ _ rfl)) zC rfl) rfl)) zC rfl) rfl rfl rfl rfl rfl) rfl))) (by intro _;rfl)) (@zE _ _ _ _ _ (@zW _ _ 6 _ _ _ _ lH.nd rfl (.inl rfl) (@zY _ _ _ _ _ _ _ zj (@zy _ _ _ _ (@zA _ _ _ _ _ (@uf _ _ _ _ _ _ _ rfl rfl G.tuple rfl G.range (@zA _ _ _ _ _ (@pvb _ 2 _ _ rfl) zC rfl) rfl rfl) (@zA _ _ _ _ _ (@zR _ _ _ _ _ _ _ _ _ _ _ _ UX bB (@zA _ _ _ _ _ (@pvb _ 0 _ _ rfl) (@zA _ _ _ _ _ (@vH _ _ _ _ _ _ _ rfl rfl G.list rfl G.range (@zA _ _ _ _ _ (@pvb _ 2 _ _ rfl) zC rfl) rfl rfl) zC rfl) rfl) rfl rfl rfl rfl) zC rfl) rfl)) (@zR _ _ _ _ _ _ _ _ _ _ _ _ X y (@zA _ _ _ _ _ (@pvb _ 0 _ _ rfl) (@zA _ _ _ _ _ zH zC rfl) rfl) rfl rfl rfl rfl) (λ_ _=>rfl)) rfl (by trivial)) (@zM _ _ _ (@zV _ _ _ _ (@zi _ _ _ _ _ (@zA _ _ _ _ _ (@pvb _ 2 _ _ rfl) (@zA _ _ _ _ _ (@zo _ _ _ _ _ _ _ _ _ zr rfl G.tuple rfl (@zA _ _ _ _ _ (@pvb _ 3 _ _ rfl) zC rfl) (by decide) (by decide) rfl rfl) (@zA _ _ _ _ _ (@pvb _ 6 _ _ rfl) zC rfl) rfl) rfl))))))))))),?_⟩;refine⟨_,rfl,l,8,rfl,by decide,by decide,S,λway H1 hw S1 B1=>?_⟩;refine⟨_,rfl,rfl,_,rfl,uL (λ_=>?_) (λz0=>?_)⟩
 ·exact⟨_,rfl,l,rfl,S1,λr fr er C N H2 aT na T M=>k r fr er C N H2 ⟨aT.ok,by have:=aT.ln;lia,by have:=aT.fk;lia⟩ na T (B1.trans M)⟩
 refine⟨_,rfl,_,_,rfl,rfl,_,rfl,uL (λ_=>?_) (λz1=>?_)⟩
 ·refine⟨by show 2<=sizeLine;decide,λt I=>⟨_,rfl,l,2,rfl,by decide,by decide,S1.keep (zD I _),λv H2 hv T M=>?_⟩⟩
  obtain⟨wy,wm,wa⟩:=vG (xs:=[0,2]) (v:=v) (by show v<2;lia);refine⟨t,_,_,_,rfl,rfl,SqL.of (M t _ (zT I _) (S1.ne I).symm),wa,?_⟩;have Z:But l H H2:=(B1.trans (But.of (zD I _))).trans M;clear I M wa;refine⟨_,rfl,l,3,rfl,by decide,by decide,T,λsz H3 hz J W=>?_⟩;refine⟨wy,sz,rfl,by lia,λr fr er C U s4 bo=>?_⟩;obtain⟨m1,m2⟩:=nk wy (k:=sz) (by lia);exact k r fr er C _ U ⟨jY (by lia),by lia,by lia⟩ bo (J.keep s4) ((Z.trans W).trans (But.of s4))
 refine⟨by show 5<=sizeLine;decide,λt I=>⟨_,rfl,l,5,rfl,by decide,by decide,S1.keep (zD I _),λv H2 hv T M=>?_⟩⟩;obtain⟨size,wm,wa⟩:=vG (xs:=[2,4,4,4,8]) (v:=v) (by show v<5;lia);refine⟨t,_,_,_,rfl,rfl,SqL.of (M t _ (zT I _) (S1.ne I).symm),wa,?_⟩;have Z:But l H H2:=(B1.trans (But.of (zD I _))).trans M;clear I M wa B1 S1 S
 obtain⟨m,em,m3⟩:∃ m,size=2 ^ m/\1<=m/\m<=3:=by
  have z:∀ n∈[2,4,4,4,8],n=2 ^ 1\/n=2 ^ 2\/n=2 ^ 3:=by decide
  rcases z size wm with e|e|e
  ·exact⟨1,e,by decide,by decide⟩
  ·exact⟨2,e,by decide,by decide⟩
  ·exact⟨3,e,by decide,by decide⟩
 have sz:2<=size/\size<=8:=(show ∀ n∈[2,4,4,4,8],2<=n/\n<=8 by decide) size wm;refine⟨_,rfl,size,rfl,by lia,λp hp=>?_⟩;have s3:=zD hp (.lst (zU (List.range size)));refine⟨m,by lia,p,List.range size,rfl,zG,by rw[Y4];exact em,by lia,λlb C H3 s4 R pr=>?_⟩;have J:=T.keep (s3.trans s4);have W:But l H H3:=Z.trans (But.of (s3.trans s4));have a7:=zbM (k:=m) (by lia)
 have fb:∀ g∈xI m (List.range size),g.1<size/\g.2<size/\g.1≠g.2:=by
  have:=a7.fk;rw[em];exact this
 have b9:(xI m (List.range size)).length<=12:=by
  rw[em];have z:∀ m,m<4->(xI m (List.range (2 ^ m))).length<=12:=by decide
  exact z m (by lia)
 clear s3 s4 hp T Z a7 wm;have pl:=pr.len;refine⟨lb,rfl,⟨_,SqL.of R⟩,λlc O=>?_⟩;have j:=J.ne O
 have a9:lb≠l:=λe=>by
  subst e;obtain⟨a,b,c,q,_⟩:=J.ex;rw[q]at R;cases R;obtain⟨a,g,e,_⟩:=pr.get (i:=0) rfl;cases e
 have b1:Frs l H lc:=W.frs O;have ab:Frs l H3 lc:=λb o e _=>zJ e O;refine jh (K:=K) (a:=lb) (xs:=C) (λi acc σ U=>(∃ v0 v1,σ=[v0,v1,some (.ref l)])/\Pk3 U l/\But l H3 U/\U lc=some (.lst acc)/\∃ fs,Prs U acc fs/\fs.length=i/\∀ g∈fs,g.1<size/\g.2<size/\g.1≠g.2) ⟨⟨_,_,rfl⟩,J.upd j,But.of (zD O _),zT O _,[],trivial,rfl,λg hg=>(nomatch hg)⟩ (λi acc σ U z=>⟨z.2.2.2.1,SqL.of (z.2.2.1 _ _ R a9)⟩) ?_ ?_
 ·rintro i x acc σ U hx ⟨⟨v0,v1,rfl⟩,S4,B4,h4,fs,p4,fl,aE⟩
  obtain⟨a,g,rfl,eg,ha⟩:=(pr.tups (B4.tups3 J)).get hx;have il:=(Jb.mp hx).1;have gk:=fb g (JD eg);refine⟨a,_,rfl,SqT.of ha,rfl,_,_,rfl,_,_,rfl,rfl,?_⟩;refine⟨_,rfl,_,rfl,(by show 2<=sizeLine;decide),λD u=>⟨_,rfl,_,rfl,(by show 2<=sizeLine;decide),λt2 bb=>⟨(by show 2<=sizeLine;decide),λl5 B=>?_⟩⟩⟩;have s5:=zD u (.tup [.int (g.1:Nat),.int (g.2:Nat)]);have s6:=zD bb (.tup [.int (g.2:Nat),.int (g.1:Nat)]);have s7:=zD B (.lst [.ref D,.ref t2]);have u7:=(s5.trans s6).trans s7;have k1:FkOk _ size (.ref D):=⟨D,g,rfl,s7 _ _ (s6 _ _ (zT u _)),gk⟩;have k2:FkOk _ size (.ref t2):=⟨t2,(g.2,g.1),rfl,s7 _ _ (zT bb _),gk.2.1,gk.1,gk.2.2.symm⟩;have h5:=zT B (.lst [.ref D,.ref t2]);have S5:=S4.keep u7;have bS:=u7 _ _ h4;have p5:=p4.tups (Tups.of u7);have B5:=B4.trans (But.of (l:=l) u7);have n5:=(S4.keep (s5.trans s6)).ne B;generalize L2.upd (L2.upd (L2.upd U D (.tup [.int (g.1:Nat),.int (g.2:Nat)])) t2 (.tup [.int (g.2:Nat),.int (g.1:Nat)])) l5 (.lst [.ref D,.ref t2])=H5 at *;refine⟨_,rfl,l,2,rfl,by decide,by decide,S5,λv Y hv S6 L=>?_⟩;have t6:=L.tups3 S5
  obtain⟨x,ex,kx⟩:∃ x,[V.ref D,V.ref t2][v]?=some x/\FkOk Y size x:=by
   rcases v with _|_|v
   ·exact⟨_,rfl,k1.tups t6⟩
   ·exact⟨_,rfl,k2.tups t6⟩
   ·lia
  refine⟨l5,_,_,x,rfl,rfl,SqL.of (L l5 _ h5 n5.symm),yT ex,?_⟩;have h6:=L lc _ bS j.symm;have p6:=p5.tups t6;obtain⟨a2,g2,rfl,bR,b0⟩:=kx;have al:=p6.len;refine⟨h6,by rw[JB];lia,nx il ⟨⟨_,_,rfl⟩,S6.upd j,(B5.trans L).upd ab,zG,fs++[g2],Prs.add (f:=g2) (Tups.lst h6 _ _ bR) (p6.tups (Tups.lst h6)),by rw[Jd,fl];rfl,λf hf=>?_⟩⟩;rcases Jv.mp hf with z|z
  ·exact aE f z
  ·rw[Jc.mp z];exact b0
 rintro acc σ U ⟨⟨v0,v1,rfl⟩,S4,B4,h4,fs,p4,fl,aE⟩;have b5:=W.trans B4;have a6:fs.length<=12:=by lia
 clear B4 a9 J R pr W ab;refine⟨_,rfl,l,4,rfl,by decide,by decide,S4,λv H5 hv S5 B5=>?_⟩;have h5:=B5 lc _ h4 j.symm;have p5:=p4.tups (B5.tups3 S4);have b4:=b5.trans B5;refine⟨_,rfl,_,_,rfl,rfl,.inr ⟨_,rfl,_,_,rfl,rfl,.inl ⟨by lia,by lia⟩,?_⟩⟩
 have cb:((v:Int)*(if decide ((size:Int)<8)=true then 1 else 0))=((if size<8 then v else 0:Nat):Int):=by
  by_cases z:size<8
  ·rw[Jm (JC (by lia)),Jm z];lia
  ·rw[Jf (by rw[Js (by lia)];exact Jj),Jf z];lia
 have cl:(if size<8 then v else 0)<=4:=by split<;>lia
 refine⟨_,rfl,by rw[cb];lia,by rw[cb];lia,?_⟩;rw[cb];generalize b7:(if size<8 then v else 0)=cnt at cl
 refine yz (lo:=0) (n:=((cnt:Nat):Int).toNat) (λi σ Y=>(∃ w4 w5 w6,σ=[some (.ref l),some (.int (way:Nat)),some (.int (size:Nat)),some (.ref lc),w4,w5,w6])/\Pk3 Y l/\But l H Y/\∃ C fs,Y lc=some (.lst C)/\Prs Y C fs/\fs.length<=12+i/\∀ f∈fs,f.1<size/\f.2<size/\f.1≠f.2)
  ⟨⟨_,_,_,rfl⟩,S5,b4,acc,fs,h5,p5,a6,aE⟩ ?_ ?_
 ·rintro i σ Y hi ⟨⟨w4,w5,w6,rfl⟩,S6,L,C,fs,h6,p6,ck,a4⟩
  refine⟨_,rfl,_,rfl,l,size,rfl,by lia,by lia,S6,λone H7 ho S7 B7=>?_⟩;refine⟨_,rfl,.inl ⟨rfl,_,SqL.of (B7 lc _ h6 j.symm)⟩,_,rfl,_,rfl,_,_,rfl,rfl,_,rfl,_,rfl,_,_,rfl,rfl,l,_,rfl,by lia,by lia,S7,λd H8 hd S8 B8=>?_⟩;refine⟨_,_,rfl,rfl,_,rfl,_,_,rfl,rfl,by lia,?_⟩;have aa:one<size:=by lia
  obtain⟨ok1,a8⟩:=nO (one:=one) (d:=d) (lanes:=size) aa (by lia);have ec:((one:Int)+1+d)%size=(((one+1+d)%size:Nat):Int):=by rw[Int.natCast_emod,Int.natCast_add,Int.natCast_add];rfl
  dsimp only;rw[ec];generalize (one+1+d)%size=ao at ok1 a8;refine⟨by show 2<=sizeLine;decide,λD u=>?_⟩;have s9:=zD u (.tup [.int (one:Nat),.int (ao:Nat)]);have h8:=B8 lc _ (B7 lc _ h6 j.symm) j.symm;have h9:=s9 _ _ h8;have p8:=(p6.tups ((B7.tups3 S6).trans (B8.tups3 S7))).tups (Tups.of s9);have b8:=p8.len;refine⟨lc,C,_,rfl,rfl,h9,by rw[JB];lia,⟨_,_,_,rfl⟩,(S8.keep s9).upd j,(((L.trans B7).trans B8).trans (But.of s9)).upd b1,C++[.ref D],fs++[(one,ao)],zG,Prs.add (f:=(one,ao)) (Tups.lst h9 _ _ (zT u _)) (p8.tups (Tups.lst h9)),by rw[Jd];show _+1<=_;lia,λf hf=>?_⟩;rcases Jv.mp hf with z|z
  ·exact a4 f z
  ·rw[Jc.mp z];exact⟨aa,ok1,a8⟩
 ·rintro σ H2 ⟨⟨w4,w5,w6,rfl⟩,T,M,C,fs,h2,p2,b2,a5⟩
  have c4:((cnt:Nat):Int).toNat=cnt:=Yk _;rw[c4]at b2;refine⟨_,rfl,size,rfl,by lia,λD u=>?_⟩;have s1:=zD u (.tup (zU (List.range size)));refine⟨_,rfl,_,rfl,size,rfl,by lia,λl2 bl=>?_⟩;have s2:=zD bl (.lst (zU (List.range size)));have u2:=s1.trans s2;refine⟨l,l2,zU (List.range size),rfl,zT bl _,by rw[zZ,Y4];lia,T.keep u2,λt3 ys H3 py bt J W=>?_⟩;have a0:=W D _ (s2 _ _ (zT u _)) (T.ne u).symm;have h3:=W lc _ (u2 _ _ h2) j.symm;have p3:=p2.tups ((Tups.of u2).trans (W.tups3 (T.keep u2)));have b6:=(M.trans (But.of u2)).trans W;refine⟨(by show 2<=sizeLine;decide),λl5 B=>⟨_,rfl,l,2,rfl,by decide,by decide,J.keep (zD B _),λv3 Y cc S6 L=>?_⟩⟩;have s6:=zD B (.lst [.ref D,.ref t3]);have t6:=(Tups.of s6).trans (L.tups3 (J.keep s6))
  obtain⟨x,ex,e,kx,pe⟩:∃ x,[V.ref D,V.ref t3][v3]?=some (.ref x)/\∃ es:List Nat,Y x=some (.tup (zU es))/\es.Perm (List.range size):=by
   rcases v3 with _|_|v3
   ·exact⟨_,rfl,_,t6 _ _ a0,.refl _⟩
   ·obtain⟨es,rfl,pe⟩:=qN py
    exact⟨_,rfl,es,t6 _ _ bt,pe⟩
   ·lia
  refine⟨l5,_,_,_,rfl,rfl,SqL.of (L l5 _ (zT B _) (J.ne B).symm),yT ex,?_⟩;have h6:=L lc _ (s6 _ _ h3) j.symm;have p6:=p3.tups t6;have b3:=(b6.trans (But.of s6)).trans L;refine⟨_,rfl,_,rfl,lc,_,rfl,.inl ⟨SqL.of h6,λt7 ba=>?_⟩⟩;have s7:=zD ba (.tup C);refine⟨_,rfl,(by show 3<=sizeLine;decide),λr bc=>?_⟩;have s8:=zD bc (.tup [.int (size:Nat),.ref t7,.ref x]);have u8:=s7.trans s8;exact k r t7 x C ⟨size,fs,e⟩ _ ⟨⟨by show 1<=size;lia,by show size<=16;lia,by show fs.length<=128;lia,a5,pe⟩,by show size<=8;lia,by show fs.length<=20;lia⟩ ⟨zT bc _,s8 _ _ (zT ba _),p6.tups (Tups.of u8),u8 _ _ kx⟩ (S6.keep u8) (b3.trans (But.of u8))
end
end K43
namespace K43
open PySem L2 Own Bn
abbrev lO:Stmt:=top 45
theorem gU (c:Int):c-c / 2=(c+1) / 2:=by lia
section
variable {P:Yo}{w:YI}{K:Jl}{mg:Str->Option Jo}{base:YP}
theorem eQ:FnScope ["_law_net_here","_law_counts","_law_row","_law_a","_law_b","_law_total"] ["_law_net_here","_law_counts"] (zQ lO):=by trivial
theorem cO {f:JI}{fd:Yl}(F:Fun K "_law_ends" "_law_ends" lO f fd) (G:Mgs mg):FnOk P w K mg base CX0 1 f fd ["_law_net_here","_law_counts"] uc:=by
 refine F.ok eQ (λX H Q E h=>?_) (λao A outer s H X Q E hr h=>?_)
 ·obtain⟨r,fr,S,O,N,c,cs,rfl,_⟩:=h
  rfl
 obtain⟨r,fr,S,O,N,c,cs,rfl,ok,na,Y,cl,k⟩:=h;refine⟨_,(@zE _ _ _ _ _ (@zW _ _ 2 _ _ _ _ eQ.nd rfl (.inr rfl) (@zo _ _ _ _ _ _ _ _ _ yn rfl G.list rfl (@zA _ _ _ _ _ (@pvb _ 1 _ _ rfl) zC rfl) (by decide) (by decide) rfl rfl) rfl (by trivial)) (@zE _ _ _ _ _ (@yj _ _ _ _ _ _ _ _ Y2 rfl (@wY _ _ _ _ (@zY _ _ _ _ _ _ _ yP (@pvb _ 0 _ _ rfl) zH (λ_ _=>rfl))) (@yK _ _ _ _ _ _ rfl (@zP _ _ _ _ _ (@zN _ _ 3 _ eQ.nd rfl (.inl rfl) (by trivial)) (@zP _ _ _ _ _ (@zN _ _ 4 _ eQ.nd rfl (.inl rfl) (by trivial)) zw rfl) rfl) rfl rfl) (@zE _ _ _ _ _ (@zW _ _ 5 _ _ _ _ eQ.nd rfl (.inl rfl) (@zS _ _ _ _ _ _ _ _ yR (@zY _ _ _ _ _ _ _ zj (@pvb _ 2 _ _ rfl) (@pvb _ 3 _ _ rfl) (λ_ _=>rfl)) (@zY _ _ _ _ _ _ _ zj (@pvb _ 2 _ _ rfl) (@pvb _ 4 _ _ rfl) (λ_ _=>rfl))) rfl (by trivial)) (@zE _ _ _ _ _ (@yJ _ _ _ _ _ _ (@zS _ _ _ _ _ _ _ _ xM (@pvb _ 5 _ _ rfl) (@zS _ _ _ _ _ _ _ _ xi (@pvb _ 5 _ _ rfl) zH)) (@xL _ _ _ _ _ _ _ (@pvb _ 2 _ _ rfl) (@pvb _ 3 _ _ rfl) yh (by intro _;rfl)) rfl rfl rfl) (@zM _ _ _ (@yJ _ _ _ _ _ _ (@zS _ _ _ _ _ _ _ _ xi (@pvb _ 5 _ _ rfl) zH) (@xL _ _ _ _ _ _ _ (@pvb _ 2 _ _ rfl) (@pvb _ 4 _ _ rfl) yh (by intro _;rfl)) rfl rfl rfl)))) (by intro _;rfl)) (@zM _ _ _ (@zV _ _ _ _ (@zo _ _ _ _ _ _ _ _ _ zr rfl G.tuple rfl (@zA _ _ _ _ _ (@su _ _ _ _ none _ _ _ _ _ _ ["_law_lane","_law_row"] [none,some 2] rfl (@wY _ _ _ _ (@zY _ _ _ _ _ _ _ yP (@pvb _ 0 _ _ rfl) zH (λ_ _=>rfl))) (CapOk.of (by kernel_rfl)) (λ_ _ _ _ _=>(@zN _ _ 0 _ (show (["_law_lane","_law_row"]:List Str).Nodup from by decide +kernel) rfl (.inl rfl) (.inr rfl))) (λ_ _ _ _ _=>xh) (λ_ _ _ _ _=>(@zY _ _ _ _ _ _ (iV K) zj (@pvb _ 1 _ _ rfl) (@pvb _ 0 _ _ rfl) (λ_ _=>rfl))) (by intro _;rfl)) zC rfl) (by decide) (by decide) rfl rfl))))),?_⟩;refine⟨_,rfl,c,_,rfl,.inr (SqT.of Y),λlo j=>?_⟩;have M:=zD j (.lst (cs.map V.int));refine⟨_,rfl,r,_,_,_,rfl,rfl,SqT.of (M _ _ na.net),rfl,fr,rfl,⟨_,SqT.of (M _ _ na.forks)⟩,?_⟩;refine uP (K:=K) (a:=fr) (xs:=O) (λi σ n=>(∃ L J I,σ=[some (.ref r),some (.ref c),some (.ref lo),L,J,I])/\Same H n/\n lo=some (.lst ((yM (N.forks.take i) cs).1.map V.int))) ⟨⟨_,_,_,rfl⟩,M,zG⟩ (λi σ n _ q=>SqT.of (q.2.1 _ _ na.forks)) ?_ ?_
 ·rintro i p σ n R ⟨⟨L,J,I,rfl⟩,d,m⟩
  obtain⟨a,g,rfl,U,Z⟩:=(na.prs.tups (Tups.of d)).get R;have aa:=ok.fk g (JD U);have fl:(yM (N.forks.take i) cs).1.length=N.lanes:=by rw[wN,cl]
  have fx:=wM U cs;generalize yM (N.forks.take i) cs=st at *;refine⟨a,_,rfl,SqT.of Z,rfl,_,_,rfl,_,_,rfl,rfl,?_⟩;refine⟨_,rfl,_,rfl,lo,_,_,_,rfl,rfl,SqL.of m,xO (by lia),_,rfl,_,rfl,lo,_,_,_,rfl,rfl,SqL.of m,xO (by lia),_,_,rfl,rfl,?_⟩;refine⟨_,rfl,_,rfl,_,_,rfl,rfl,⟨by decide,by decide⟩,_,_,rfl,rfl,?_⟩;refine⟨_,rfl,_,rfl,lo,_,_,g.1,rfl,rfl,m,w8 (by rw[Je];lia),?_⟩;refine⟨_,rfl,_,_,rfl,rfl,⟨by decide,by decide⟩,_,rfl,_,rfl,lo,_,_,g.2,rfl,rfl,zG,w8 (by rw[Z4,Je];lia),⟨_,_,_,rfl⟩,λb o e=>?_,?_⟩
  ·rw[zK (zJ e j),zK (zJ e j)];exact d b o e
  ·rw[zG,fx]
   dsimp only;rw[gU];unfold yU;rw[xQ,xQ]
 ·rintro σ n ⟨⟨L,J,I,rfl⟩,d,m⟩
  have e:N.forks.take O.length=N.forks:=by rw[na.prs.len];exact Y5
  rw[e]at m;have fl:(yM N.forks cs).1.length=N.lanes:=by rw[wN,cl]
  have el:N.ends.length=N.lanes:=by rw[ok.en.length_eq,Y4]
  have ab:=ok.l16;refine⟨_,rfl,r,_,_,_,rfl,rfl,SqT.of (d _ _ na.net),rfl,S,rfl,⟨_,SqT.of (d _ _ na.ends)⟩,λl T=>?_⟩;refine oJ (K:=K) (a:=S) (xs:=zU N.ends) (λi acc σ u=>(∃ v,σ=[v,some (.ref lo)])/\Same n u/\u l=some (.lst acc)/\acc=((N.ends.take i).map λe=>(yM N.forks cs).1.getD e 0).map V.int) ⟨⟨_,rfl⟩,zD T _,zG,rfl⟩ (λi acc σ u z=>⟨z.2.2.1,SqT.of (z.2.1 _ _ (d _ _ na.ends))⟩) ?_ ?_
  ·rintro i x acc σ u C ⟨⟨v,rfl⟩,y,D,t⟩
   have B:i<N.ends.length:=by have:=(Jb.mp C).1;rwa [zZ]at this
   have ex:x=.int N.ends[i]:=by
    unfold zU at C;rw[JN,J7 B]at C;exact(Jp C).symm
   subst ex;have W:N.ends[i]<N.lanes:=Yp.mp (ok.en.mem_iff.mp (JY B));refine⟨_,rfl,_,rfl,lo,_,_,_,rfl,rfl,SqL.of (y _ _ m),xO (by lia),D,?_,nx (by rw[zZ];exact B) ⟨⟨_,rfl⟩,λb o e=>?_,zG,?_⟩⟩
   ·rw[t,Je,Je,Jw,JB];lia
   ·rw[zK (zJ e T)];exact y b o e
   ·rw[t,Yh B,JV,JV];rfl
  rintro acc σ u ⟨⟨v,rfl⟩,y,D,t⟩;rw[zZ,Y5]at t;rw[t]at D;exact⟨l,_,rfl,.inl ⟨SqL.of D,λp R=>k p _ ((d.trans y).trans (zD R _)) zG⟩⟩
abbrev eX:Stmt:=top 47
def o0 (n:Nat):Sp:=λd H Q _=>∃ (c:JI) (moves:List Nat) (t:Nat),d=[.int (n:Nat),.ref c,.int (t:Nat)]/\n<=8/\t<=7/\H c=some (.tup (zU moves))/\moves.length<=16 /\
 ∀ l b a,Same H a->a l=some (.lst b)->b.length<=bnd n t->AllAt a b (Rw moves n t)->Q (.ref l) a
theorem zc8:∀ n,n<=8->∀ t,t<=7->bnd n t<=6435:=by decide +kernel
theorem mD (x:Nat)(a:List Nat):inV (.int (x:Nat)) (zU a)=decide (x∈a):=by
 rw[Yq,decide_eq_true_iff];unfold inV zU;rw[List.any_map,List.any_eq_true];constructor
 ·rintro⟨y,b,e⟩
  have z:((y:Nat):Int)=(x:Nat):=by simpa [eqV] using e
  have:y=x:=by lia
  exact this ▸ b
 ·intro h
  exact⟨x,h,by simp[eqV]⟩
theorem qd (a:List Nat):(zU a).all uQ=true:=List.all_eq_true.mpr λx b=>by
 obtain⟨m,_,rfl⟩:=Jy.mp b;rfl
theorem zaV:FnScope ["_law_lanes","_law_some_here","_law_total","_law_found","_law_most","_law_many"] ["_law_lanes","_law_some_here","_law_total"] (zQ eX):=by trivial
theorem jQ {f:JI}{fd:Yl}(F:Fun K "_law_all_of" "_law_all_of" eX f fd) (G:Mgs mg) (bS:Binds K fd ["_law_lanes","_law_some_here","_law_total"] []) (mS:mg "_law_all_of" = some (.ref f)) (n:Nat)
  (GS:FnOk P w K mg base CX0 n f fd ["_law_lanes","_law_some_here","_law_total"] (λvs H Q E=>∃ m,n=m+1/\o0 m vs H Q E)):FnOk P w K mg base CX0 (n+1) f fd ["_law_lanes","_law_some_here","_law_total"] (o0 n):=by
 have UA:Use P w K mg base "_law_all_of" ["_law_lanes","_law_some_here","_law_total"] n (λvs H Q E=>∃ m,n=m+1/\o0 m vs H Q E) f fd:=⟨GS,bS,F.kp,mS⟩;refine F.ok zaV (λvs H Q E h=>?_) (λaT A outer s H vs Q E hr h=>?_)
 ·obtain⟨D,moves,t,rfl,_⟩:=h
  rfl
 obtain⟨D,moves,t,rfl,n6,t9,L,ml,k⟩:=h;refine⟨_,(@zE _ _ _ _ _ (@yb _ _ _ _ _ _ _ _ (@zt _ _ _ _ _ _ _ _ xR (@pvb _ 0 _ _ rfl) zH (yC _)) (@zM _ _ _ (@zV _ _ _ _ (@zS _ _ _ _ _ _ _ _ pj (@zy _ _ _ _ (@zA _ _ _ _ _ (@zi _ _ _ _ _ zC) zC rfl)) (@zo _ _ _ _ _ _ _ _ _ wT rfl G.int rfl (@zA _ _ _ _ _ (@wb _ _ _ _ _ _ _ _ xR (@pvb _ 2 _ _ rfl) zH (yC _)) zC rfl) (by decide) (by decide) rfl rfl)))) yA) (@zE _ _ _ _ _ (@pZ _ _ 3 4 _ _ _ _ _ _ _ _ _ _ _ rfl zaV.nd rfl rfl (by decide) rfl rfl (@zA _ _ _ _ _ (@zy _ _ _ _ zC) (@zA _ _ _ _ _ (@zS _ _ _ _ _ _ _ _ wC (@pvb _ 2 _ _ rfl) (@zo _ _ _ _ _ _ _ _ _ wT rfl G.int rfl (@zA _ _ _ _ _ (@wb _ _ _ _ _ _ _ _ qO (@zS _ _ _ _ _ _ _ _ xM (@pvb _ 0 _ _ rfl) zH) (@pvb _ 1 _ _ rfl) rfl) zC rfl) (by decide) (by decide) rfl rfl)) zC rfl) rfl) rfl rfl) (@zE _ _ _ _ _ (@yj _ _ _ _ _ _ _ _ Y2 rfl (@yZ _ _ _ _ _ _ rfl G.range (@zA _ _ _ _ _ (@zS _ _ _ _ _ _ _ _ yR (@pvb _ 4 _ _ rfl) zH) zC rfl) rfl) (@zN _ _ 5 _ zaV.nd rfl (.inr rfl) (by trivial)) (@zM _ _ _ (@y4 _ _ _ _ (@wd _ _ _ _ _ _ _ _ _ _ _ _ Y6 PySem.F.slot_list_extend PySem.F.type_list_extend ug (@pvb _ 3 _ _ rfl) (@zA _ _ _ _ _ (@su _ _ _ _ none _ _ _ _ _ _ ["_law_counts","_law_many"] [none,some 5] rfl (@pf _ _ _ _ (@zR _ _ _ _ _ _ _ _ _ _ _ _ UA hr (@zA _ _ _ _ _ (@zS _ _ _ _ _ _ _ _ xM (@pvb _ 0 _ _ rfl) zH) (@zA _ _ _ _ _ (@pvb _ 1 _ _ rfl) (@zA _ _ _ _ _ (@zS _ _ _ _ _ _ _ _ xM (@pvb _ 2 _ _ rfl) (@pvb _ 5 _ _ rfl)) zC rfl) rfl) rfl) rfl rfl rfl rfl)) (CapOk.of (by kernel_rfl)) (λ_ _ _ _ _=>(@zN _ _ 0 _ (show (["_law_counts","_law_many"]:List Str).Nodup from by decide +kernel) rfl (.inl rfl) (.inr rfl))) (λ_ _ _ _ _=>xh) (λ_ _ _ _ _=>(@zS _ _ _ _ _ _ _ _ xE (@pvb _ 0 _ _ rfl) (@zi _ _ _ _ _ (@zA _ _ _ _ _ (@pvb _ 1 _ _ rfl) zC rfl)))) (by intro _;rfl)) zC rfl) rfl rfl rfl rfl rfl) rfl)) (by intro _;rfl)) (@zM _ _ _ (@zV _ _ _ _ (@zX _ _ _ _ _ _ _ _ _ (oR true (by exact hr.units)) rfl G.sorted rfl (@zA _ _ _ _ _ (@pvb _ 3 _ _ rfl) zC rfl) (by decide) (by decide) rfl rfl)))))),?_⟩
 cases n with
 | zero =>
  refine⟨_,rfl,rfl,true,JP V.bl (JC rfl),x5 ?_⟩;refine⟨by show 0<=sizeLine;decide,λb g=>⟨by show 1<=sizeLine;decide,λl I=>?_⟩⟩;have T:=zD g (.tup []);have u:=zD I (.lst [.ref b]);refine⟨_,rfl,rfl,.inr ⟨_,rfl,l,_,[.ref b],rfl,rfl,zG,?_,?_,?_,λp U=>?_⟩⟩
  ·split<;>decide
  ·split<;>decide
  ·rw[JB]
   split
   ·show 1*Int.toNat 1<=16777216;decide
   ·show 1*Int.toNat 0<=16777216;decide
  have S:=zD U (.lst (List.replicate (if decide (V.int ((t:Nat):Int)=V.int 0)=true then (1:Int) else 0).toNat [V.ref b]).flatten);refine k p _ _ ((T.trans u).trans S) zG ?_ ?_
  ·show _<=1
   split
   ·exact Jg 1
   ·exact JL 1
  ·intro x d
   by_cases z:t=0
   ·rw[Jm (JC (by rw[z];rfl))]at d
    have e:x=.ref b:=Jc.mp d;refine⟨b,[],e,S _ _ (u _ _ (zT g _)),rfl,λx d=>absurd d Ju,by rw[z];rfl,λi hi=>absurd hi (ZL i)⟩
   ·rw[Jf (λy=>z (by have:=V.int.inj (YM y);lia))]at d
    exact absurd d Ju
 | succ n =>
  refine⟨_,rfl,rfl,false,JP V.bl (Js λz=>absurd (V.int.inj z) (by lia)),xB ?_⟩;refine⟨by show 0<=sizeLine;decide,λl I=>?_⟩;have T:=zD I (.lst []);refine⟨_,rfl,_,rfl,_,_,rfl,rfl,_,rfl,D,_,rfl,.inr (SqT.of (T _ _ L)),rfl,qd moves,.inr ⟨_,rfl,_,_,rfl,rfl,.inl ⟨by lia,by lia⟩,_,_,rfl,?_⟩⟩;have en:((n+1:Nat):Int)-1=(n:Nat):=by lia
  dsimp only;rw[Jf (show ¬(false=true) by decide),en,mD];generalize B:((t:Nat):Int)*(if decide (n∈moves)=true then (1:Int) else 0)=most
  have ab:most=((if n∈moves then t else 0:Nat):Int):=by
   rw[<- B];by_cases z:n∈moves
   ·rw[Jm (JC z),Jm z];lia
   ·rw[Jf (λy=>z (YM y)),Jf z];lia
  generalize hc:(if n∈moves then t else 0:Nat)=c at ab;have ct:c<=t:=by rw[<- hc];split<;>lia
  have cm:c=0\/n∈moves:=by
   by_cases z:n∈moves
   ·exact .inr z
   ·rw[Jf z]at hc;exact .inl hc.symm
  have bn:=zc8 (n+1) n6 t t9;have aE:bnd (n+1) t=ku n t (t+1):=rfl;refine⟨_,rfl,_,_,rfl,rfl,_,rfl,by lia,by lia,?_⟩;refine yz (lo:=0) (n:=(most+1).toNat) (λi σ J=>(∃ Y,σ=[some (.int (n+1:Nat)),some (.ref D),some (.int (t:Nat)),some (.ref l),some (.int most),Y])/\Same H J/\∃ xs,J l=some (.lst xs)/\xs.length<=ku n t i/\AllAt J xs (Rw moves (n+1) t)) ⟨⟨_,rfl⟩,T,[],zT I _,JL _,λx d=>absurd d Ju⟩ ?_ ?_
  ·rintro i σ J hi ⟨⟨Y,rfl⟩,u,xs,W,xl,N⟩
   have it:i<=t:=by lia
   have bi:=oU n t (show i+1<=t+1 by lia);rw[uz]at bi;refine⟨_,rfl,.inl ⟨rfl,xs,SqL.of W⟩,?_⟩;refine⟨_,rfl,_,_,rfl,rfl,_,rfl,_,rfl,_,rfl,_,_,rfl,rfl,n,rfl,D,moves,t-i,?_,by lia,by lia,u _ _ L,ml,λl1 X H3 S h3 yl ya=>?_⟩
   ·show [V.int (((n+1:Nat):Int)-1),V.ref D,V.int (((t:Nat):Int)-(0+(i:Nat)))]=_
    rw[show ((n+1:Nat):Int)-1=(n:Nat) by lia,show ((t:Nat):Int)-(0+(i:Nat))=((t-i:Nat):Int) by lia]
   refine⟨l1,rfl,⟨_,SqL.of h3⟩,λl2 v=>?_⟩;refine jh (K:=K) (a:=l1) (xs:=X) (λj acc σ C=>(∃ Z,σ=[Z,some (.int (0+(i:Nat)))])/\Same H3 C/\C l2=some (.lst acc)/\acc.length=j/\AllAt C acc (Rw moves (n+1) t)) ⟨⟨_,rfl⟩,zD v _,zT v _,rfl,λx d=>absurd d Ju⟩ (λj acc σ C z=>⟨z.2.2.1,SqL.of (z.2.1 _ _ h3)⟩) ?_ ?_
   ·rintro j x acc σ C d ⟨⟨Z,rfl⟩,O,h4,al,aa⟩
    obtain⟨b,row,rfl,g,R⟩:=ya x (JD d);have jl:=(Jb.mp d).1;have rl:=R.len;refine⟨_,rfl,_,rfl,by show 1<=sizeLine;decide,λq hq=>?_⟩;have s5:=zD hq (.tup [.int (0+(i:Nat))]);refine⟨b,q,_,_,rfl,rfl,s5 _ _ (O _ _ g),zG,by rw[Je,rl,JB];show n+1<=_;lia,λr H6 s6 ao=>?_⟩;have u6:=s5.trans s6;have h6:=u6 _ _ h4;refine⟨h6,by rw[al,JB];lia,nx jl ⟨⟨_,rfl⟩,λc o e=>?_,zG,by rw[Jd,al];rfl,?_⟩⟩
    ·rw[zK (zJ e v)];exact u6 _ _ (O c o e)
    ·refine(AllAt.tups (Tups.lst h6) (AllAt.app (aa.tups (Tups.of u6)) λx d=>?_))
     refine⟨r,row++[((i:Nat):Int)],Jc.mp d,?_,Rw.snoc ?_ (by lia) ?_⟩
     ·rw[ao,JV,ZY];rfl
     ·rw[show ((t:Nat):Int)-(i:Nat)=((t-i:Nat):Int) by lia];exact R
     ·rcases cm with z|z
      ·exact .inl (by lia)
      ·exact .inr z
   rintro acc σ C ⟨⟨Z,rfl⟩,O,h4,al,aa⟩;have u4:=S.trans O;have M:=u4 _ _ W;refine⟨l,l2,xs,acc,rfl,rfl,M,h4,by rw[JB];lia,⟨_,rfl⟩,λc o e=>?_,_,zG,by rw[uz,Jd];lia,?_⟩
   ·rw[zK (zJ e I)];exact u4 _ _ (u c o e)
   ·exact AllAt.tups (Tups.lst M) (AllAt.app (N.tups (Tups.of u4)) aa)
  ·rintro σ J ⟨⟨Y,rfl⟩,u,xs,W,xl,N⟩
   have bi:=oU n t (show (most+1).toNat<=t+1 by lia);refine⟨_,rfl,l,xs,_,rfl,SqL.of W,by lia,za9 (n:=n) λx d=>?_,λp X U py _=>?_⟩
   ·obtain⟨b,row,e,g,R⟩:=N x d
    obtain⟨q0,q1⟩:=kT R.nn;exact⟨b,row,e,g,R.len,λy hy=>⟨R.nn y hy,by have:=q1 y hy;have:=R.sum;lia⟩⟩
   ·refine k p X _ (u.trans (zD U _)) zG (by rw[py.length_eq];lia) λx d=>?_
    obtain⟨b,row,e,g,R⟩:=N x (py.mem_iff.mp d);exact⟨b,row,e,zD U _ _ _ g,R⟩
theorem cU {f:JI}{fd:Yl}(F:Fun K "_law_all_of" "_law_all_of" eX f fd) (G:Mgs mg) (b:Binds K fd ["_law_lanes","_law_some_here","_law_total"] []) (a:mg "_law_all_of" = some (.ref f)):∀ n:Nat,FnOk P w K mg base CX0 (n+1) f fd ["_law_lanes","_law_some_here","_law_total"] (o0 n)
 | 0=>jQ F G b a 0 ⟨λvs H Q E ⟨m,h,_⟩=>by lia,λA outer s H args us vs Q E _ _ _ _ ⟨m,h,_⟩=>by lia⟩
 | m+1=>jQ F G b a (m+1) ((cU F G b a m).imp λvs H Q E ⟨c,h,q⟩=>by cases h;exact q)
abbrev sR:Sp:=λa H Q E=>∃ m,m<=8/\o0 m a H Q E
theorem i7 {f:JI}{fd:Yl}(F:Fun K "_law_all_of" "_law_all_of" eX f fd) (G:Mgs mg) (b:Binds K fd ["_law_lanes","_law_some_here","_law_total"] []) (a:mg "_law_all_of" = some (.ref f)):FnOk P w K mg base CX0 9 f fd ["_law_lanes","_law_some_here","_law_total"] sR :=
 FnOk.any 8 λm c=>(cU F G b a m).mono (by lia)
abbrev zaX:Stmt:=top 48
def eG:Sp:=λb H Q _=>∃ r fr e d N c cs,b=[.ref r,.ref c]/\Nt.Ok N/\NetAt H r fr e d N/\H c=some (.tup (cs.map V.int))/\cs.length=N.lanes/\∀ a,Same H a->Q (.int (x6 (yD N cs))) a
theorem zb8:FnScope ["_law_net_here","_law_counts","_law_ends_here"] ["_law_net_here","_law_counts"] (zQ zaX):=by trivial
theorem zbm {f t:JI}{fd u:Yl}(F:Fun K "_law_spread" "_law_spread" zaX f fd) (G:Mgs mg) (v:Use P w K mg base "_law_ends" ["_law_net_here","_law_counts"] 1 uc t u):FnOk P w K mg base CX0 2 f fd ["_law_net_here","_law_counts"] eG:=by
 refine F.ok zb8 (λi H Q E h=>?_) (λy A outer s H i Q E p h=>?_)
 ·obtain⟨r,fr,e,a,N,c,cs,rfl,_⟩:=h
  rfl
 obtain⟨r,fr,e,a,N,c,cs,rfl,ok,na,q,cl,k⟩:=h;refine⟨_,(@zE _ _ _ _ _ (@zW _ _ 2 _ _ _ _ zb8.nd rfl (.inl rfl) (@zR _ _ _ _ _ _ _ _ _ _ _ _ v p (@zA _ _ _ _ _ (@pvb _ 0 _ _ rfl) (@zA _ _ _ _ _ (@pvb _ 1 _ _ rfl) zC rfl) rfl) rfl rfl rfl rfl) rfl (by trivial)) (@zM _ _ _ (@zV _ _ _ _ (@zS _ _ _ _ _ _ _ _ xM (@zX _ _ _ _ _ _ _ _ _ (qt rfl false) rfl G.max rfl (@zA _ _ _ _ _ (@pvb _ 2 _ _ rfl) zC rfl) (by decide) (by decide) rfl rfl) (@zX _ _ _ _ _ _ _ _ _ (ux rfl false) rfl G.min rfl (@zA _ _ _ _ _ (@pvb _ 2 _ _ rfl) zC rfl) (by decide) (by decide) rfl rfl))))),?_⟩;refine zB (zB ⟨r,fr,e,a,N,c,cs,rfl,ok,na,q,cl,λb x j d=>?_⟩);have B:=uo ok cs;have z:=ok.l1;have g:0<(yD N cs).length:=by lia
 refine zB ⟨b,_,rfl,SqT.of d,g,λM n o=>?_⟩;refine zB ⟨b,_,rfl,SqT.of d,g,λm l lm=>⟨_,_,rfl,rfl,?_⟩⟩;have:=k x j;unfold x6 at this;rw[tV n o,tU l lm]at this;exact this
end
end K43
namespace L2
open PySem PySem.Spec PyProof.Rows Own Bn
section
variable {step:KN->Nat->Option KN}{moves:List Nat}{k0:KN}{c0:List Int}{most:Nat}
def WaysOf (step:KN->Nat->Option KN)(moves:List Nat)(k0:KN)(c0:List Int)(ls:List LvL):Prop :=
 ∀ i lv,ls[i]?=some lv->∀ p∈lv,∃ row,row.length=i/\Over moves row/\wG step k0 row=some p.1/\wD c0 row=p.2
def LeastOf (step:KN->Nat->Option KN)(moves:List Nat)(k0:KN)(c0:List Int)(ls:List LvL)(n:Nat):Prop :=
 ∀ row s,row.length<n->Over moves row->wG step k0 row=some s->∃ i lv c,i<=row.length/\ls[i]?=some lv/\(s,c)∈lv/\(i=row.length->leR c (wD c0 row))
theorem bK {ls:List LvL}{s:KN}(h:s∈xF ls):∃ i lv c,i<ls.length/\ls[i]?=some lv/\(s,c)∈lv:=by
 obtain⟨lv,b,z⟩:=List.mem_flatMap.mp h;obtain⟨p,a,rfl⟩:=Jy.mp z;obtain⟨i,e⟩:=YZ b;exact⟨i,lv,p.2,(Jb.mp e).1,e,a⟩
theorem rY:∀ (m n:Nat) (level seen:LvL) (ls a:List LvL),Clm step moves k0 c0 n level seen->(∀ p∈level,p.2.length=c0.length)->xF ls=seen.map (·.1)->ls.length=n->WaysOf step moves k0 c0 ls->LeastOf step moves k0 c0 ls n ->
  yY step moves most m level seen ls=.whl a->WaysOf step moves k0 c0 a/\∀ n,LeastOf step moves k0 c0 a n
 | 0,_,_,_,_,_,_,_,_,_,_,_,e=>by cases e
 | m+1,n,level,seen,ls,a,h,cl,o,ln,w,lo,e=>by
  by_cases j:level=[]
  ·subst j
   rw[wP]at e;cases e;refine⟨w,λN row s E b r=>?_⟩;by_cases c:row.length<n
   ·exact lo row s c b r
   have all:∀ (r:List Nat) {s:KN},s∈seen.map (·.1)->Over moves r->∀ t,wG step s r=some t->t∈seen.map (·.1):=by
    intro r
    induction r with
    | nil=>intro s d _ t e;cases e;exact d
    | cons m r ih =>
     intro s d b t e;obtain⟨L,F,y⟩:=h.cls s (xG.mpr d) m (b m (.head _));rw[JU]at y;have D:(step s m).bind (λt=>wG step t r)=some t:=e;rw[F]at D;exact ih (xG.mp y) (λx G=>b x (.tail _ G)) t D
   have d:=all row (by have:=h.fst;rw[JU]at this;exact xG.mp this) b s r;rw[<- o]at d;obtain⟨i,lv,g,k,u,e2⟩:=bK d;exact⟨i,lv,g,by lia,u,e2,λz=>absurd z (by lia)⟩
  by_cases l:most<seen.length+level.length
  ·rw[wQ j l]at e;cases e
  by_cases f:(yo step (seen++level) moves level).fl=[]
  ·rw[vC j l f]at e
   have na:=uF (step:=step) (seen:=seen++level) (moves:=moves) (n:=c0.length) level cl;have new:(ls++[level])[n]?=some level:=by rw[<- ln];exact List.getElem?_concat_length
   refine rY m (n+1) _ _ _ a (h.next j cl f) na.on ?_ (by rw[Jd,ln];rfl) (λi lv q p A=>?_) (λrow s E b r=>?_) e
   ·rw[qW,o,JV]
    congr 1
    show level.map (λp:KN × List Int=>p.1)++[]=level.map (λp:KN × List Int=>p.1);rw[JU]
   ·by_cases c:i<ls.length
    ·rw[Y0 c]at q
     exact w i lv q p A
    ·have k:=(Jb.mp q).1
     rw[Jd]at k;have C:i=n:=by have:i<ls.length+1:=k;lia
     rw[C,new]at q;cases q;rw[C];exact h.way p.1 p.2 (xy h.nd A)
   ·by_cases c:row.length<n
    ·obtain⟨i,lv,g,K,J,I,H⟩:=lo row s c b r
     exact⟨i,lv,g,K,by rw[Y0 (by lia)];exact J,I,H⟩
    have B:row.length=n:=by lia
    obtain⟨M,v,q⟩:=h.step_of B b;rw[r]at v;cases v;rcases q with q|⟨g,q⟩
    ·have d:s∈xF ls:=by rw[o];exact xG.mp q
     obtain⟨i,lv,g,k,u,e2⟩:=bK d;exact⟨i,lv,g,by lia,by rw[Y0 k];exact u,e2,λz=>absurd z (by lia)⟩
    ·exact⟨n,level,g,by lia,new,xH q,λ_=>h.lst row s g B b r q⟩
  ·rw[wR j l f]at e;cases e
theorem oZ {ls:List LvL}(e:yY step moves most (most+1) [(k0,c0)] [] []=.whl ls):WaysOf step moves k0 c0 ls/\∀ n,LeastOf step moves k0 c0 ls n :=
 rY (most+1) 0 _ _ _ ls qh (λp b=>by rw[Jc.mp b]) rfl rfl (λi lv q=>by cases q) (λrow s a=>absurd a (ZL _)) e
end
section
variable {N:Nt}{moves:List Nat}{most:Nat}{ls:List LvL}{far balls:Int}{cs:List Int}
theorem j7:∀ (row:List Nat) (c:List Int),(∀ m∈row,m<c.length)->(wD c row).sum=c.sum+(row.length:Nat)
 | [],c,_=>by show c.sum=c.sum+(0:Int);lia
 | m::r,c,h=>by
  have b:=h m (.head _);show (wD (yQ c m) r).sum=_;rw[j7 r (yQ c m) (λx a=>by rw[wH];exact h x (.tail _ a))]
  have e:(yQ c m).sum=c.sum+1:=by
   unfold yQ zz;rw[jB _ _ _ b];lia
  rw[e,JW];lia
theorem Far.counts (ok:Nt.Ok N)(k:∀ m∈moves,m<N.lanes)(h:wA N moves most=.whl ls)(t:Far ls far balls cs):Rw moves N.lanes balls cs/\x6 (yD N cs)=far:=by
 obtain⟨i,lv,p,s,q,o⟩:=uX t.1;obtain⟨w,e2⟩:=List.cons.inj o;obtain⟨e2,v⟩:=List.cons.inj e2;obtain⟨row,g,d,r,a⟩:=(oZ (show yY (xY N) moves most (most+1) [(k0R N,zL N)] [] []=.whl ls from h)).1 i lv s p q;have lt:∀ m∈row,m<N.lanes:=λm c=>k m (d m c);have b:=aQ ok lt row.length (Jg _);rw[Y5,r]at b;have f:(zL N).length=N.lanes:=Y7;rw[<- v]at a
 have at_:∀ i,i<N.lanes->cs.getD i 0=(row.count i:Nat):=λi e=>by
  rw[<- a,ur row _ i (by lia),kw,ZY]
 have cl:cs.length=N.lanes:=by rw[<- a];exact vL N row
 refine⟨⟨cl,λx n=>?_,?_,λi e no=>?_⟩,?_⟩
 ·obtain⟨j,l,rfl⟩:=List.getElem_of_mem n
  have:=at_ j (by lia);rw[Ja,J7 l]at this;have this:cs[j]=_:=this;rw[this];exact Int.natCast_nonneg _
 ·rw[<- a,j7 row _ (λm c=>by rw[f];exact lt m c),g,e2]
  have:(zL N).sum=0:=by
   show (List.replicate N.lanes (0:Int)).sum=0;rw[List.sum_replicate_int,Int.mul_zero]
  rw[this];lia
 ·rw[at_ i e,List.count_eq_zero_of_not_mem λz=>no (d i z)];rfl
 ·rw[a]at b
  have u:=Jp b;have:uG (bM p.1)=x6 (yD N cs):=by rw[u];exact jX (ju ok _)
  lia
theorem Far.least (ok:Nt.Ok N)(k:∀ m∈moves,m<N.lanes)(h:wA N moves most=.whl ls)(s:Far ls far balls cs){t:Int}{c:List Int}(R:Rw moves N.lanes t c)(le:t<balls\/t=balls/\yX c cs=.lt):x6 (yD N c)<far:=by
 have lt:∀ m∈vN c,m<N.lanes:=λm o=>k m (R.over m o);have f:=aQ ok lt (vN c).length (Jg _);rw[Y5,R.cnt]at f;obtain⟨i,lv,d,C,r,q,p⟩:=(oZ (show yY (xY N) moves most (most+1) [(k0R N,zL N)] [] []=.whl ls from h)).2 ((vN c).length+1) (vN c) _ (Z9 _) R.over f;have e:=s.2 _ (ui (n:=0) r q);rw[Zh]at e;have B:=rJ e;have em:uG (bM (plK (rg N (vN c) (vN c).length) (wJ (yD N c))))=x6 (yD N c):=jX (ju ok _);have a:leR (-far::balls::cs) (-(uG (bM (plK (rg N (vN c) (vN c).length) (wJ (yD N c)))))::(i:Int)::d):=e;rw[em]at a;have x:=rJ a;refine Classical.byContradiction λno=>?_;have eq:-far = -(x6 (yD N c)):=by lia
 rw[<- eq]at a
 have b:leR (balls::cs) ((i:Int)::d):=by
  have:(compare (-far) (-far)).then (yX (balls::cs) ((i:Int)::d))≠.gt:=a;rw[Yx.mpr rfl]at this;exact this
 have bi:=rJ b;have A:=R.many;rcases le with z|⟨y,j⟩
 ·lia
 ·have u:(i:Int)=balls:=by lia
  have l:i=(vN c).length:=by lia
  have g:=p l;rw[R.cnt]at g;rw[u]at b
  have w:leR cs d:=by
   have:(compare balls balls).then (yX cs d)≠.gt:=b;rw[Yx.mpr rfl]at this;exact this
  have v:=yx w g;have:yX cs c=.gt:=by rw[uu c cs,j];rfl
  exact v this
end
end L2
namespace L2
open PySem PySem.Spec PyProof.Rows
theorem zbL {K:Jl}{C:JI}{cd:ClassData}(e:PySem.W.clsIn K C=some cd):∃ a b c,K.lookup C=some ⟨a,b,.cls cd,c⟩:=by
 unfold PySem.W.clsIn at e;split at e
 ·rename_i a b f c d
  obtain rfl:=Jp e;exact⟨a,b,c,d⟩
 ·cases e
end L2
namespace Bn
open PySem L2 Own
def zdb (N:Nt)(j:Nat):Nat:=if j<N.forks.length then 2*(N.forks.length-1-j)+N.lanes else 0
def cf (cs:List Int):Nat->Int:=λl=>cs.getD l 0
end Bn
namespace L2
open PySem
section
variable {K:Jl}{C D:JI}{cd:ClassData}{b:Bool}
theorem kY (c:PySem.W.clsIn K D=some cd) (t:PySem.W.typeIn K (.ref D)=some (.type "type")) (s:PySem.W.mroIn K C (.ref D)=some b):PySem.W.kitCls K (.ref C) (.ref D)=some b:=by
 simp only[PySem.W.kitCls,c,t];exact(Jm rfl).trans s
theorem zam (z:PySem.W.mroIn K D (.type "BaseException")=some true) (c:PySem.W.clsIn K D=some cd) (t:PySem.W.typeIn K (.ref D)=some (.type "type")) (s:PySem.W.mroIn K C (.ref D)=some b):PySem.W.exmOne K (.ref C) (.ref D)=some b:=by
 unfold PySem.W.exmOne;rw[show PySem.W.subIn K (.ref D) (.type "BaseException")=some true from z];exact(Jm rfl).trans (kY c t s)
theorem jR {N:JI}{o:Obj}(l:K.lookup N=some o)(h:PySem.W.nsOkIn [(N,o)] N=true):PySem.W.nsOkIn K N=true:=by
 have e:K.lookup N=List.lookup N [(N,o)]:=by rw[l];simp[List.lookup]
 unfold PySem.W.nsOkIn at h ⊢;rw[e];exact h
theorem fj (c:PySem.W.clsIn K D=some cd) (o:PySem.W.nsOkIn K cd.ns=true) (i:PySem.W.nsIn K cd.ns "__init__" = some none):PySem.W.tailIn K bmV (.ref D::bmV)=true:=by
 obtain⟨x,y,z,l⟩:=zbL c;have t:PySem.W.tailIn K bmV bmV=true:=rfl;rw[PySem.W.tailIn,l];dsimp only;rw[o,i,t];exact Bool.or_true _
end
end L2
namespace K43
open PySem L2 Own Bn
abbrev za1:Stmt:=top 49
def jC (K:Jl)(Pt:JI):Sp:=λb H Q _=>∃ (a:JI) (ns:List Int),b=[.ref a]/\SqL K H a (ns.map V.int)/\ns.length<=63/\H Pt=some (.tbl #[])/\∀ c,Q (.bl true) c
def Scr (K:Jl)(a:JI)(xs:List V)(H:Hp):Prop:=H a=some (.lst xs)\/(∃ o,H a=some (.frz o (.lst xs)))\/∀ b,SqL K b a xs
theorem Scr.of {K:Jl}{a:JI}{xs:List V}{H:Hp}(h:SqL K H a xs):Scr K a xs H:=by
 rcases h with (h|h)|h
 ·exact .inl h
 ·exact .inr (.inl h)
 ·exact .inr (.inr λb=>.inr h)
theorem Scr.sq {K:Jl}{a:JI}{xs:List V}{H:Hp}(h:Scr K a xs H):SqL K H a xs:=by
 rcases h with h|h|h
 ·exact .inl (.inl h)
 ·exact .inl (.inr h)
 ·exact h H
theorem Scr.keep {K:Jl}{a:JI}{xs:List V}{H H':Hp}(h:Scr K a xs H)(k:∀ o,H a=some o->(o=.lst xs\/∃ u,o=.frz u (.lst xs))->(∀ H',SqL K H' a xs)\/H' a=some o):Scr K a xs H':=by
 rcases h with h|⟨o,h⟩|h
 ·rcases k _ h (.inl rfl) with z|z
  ·exact .inr (.inr z)
  ·exact .inl z
 ·rcases k _ h (.inr ⟨o,rfl⟩) with z|z
  ·exact .inr (.inr z)
  ·exact .inr (.inl ⟨o,z⟩)
 ·exact .inr (.inr h)
structure LE (K:Jl) (a l Pt:JI) (xs:List V) (H:Hp):Prop where
 S:Pk3 H l
 tab:TabQ qR Pt H
 scr:Scr K a xs H
 al:a≠l\/∀ H',SqL K H' a xs
section
variable {K:Jl}{a l Pt:JI}{xs:List V}{H H':Hp}
theorem LE.same (h:LE K a l Pt xs H)(s:Same H H'):LE K a l Pt xs H':=⟨h.S.keep s,h.tab.same s,h.scr.keep λo e _=>.inr (s _ _ e),h.al⟩
theorem LE.pick (h:LE K a l Pt xs H)(d:Pk3 H' l)(b:But l H H'):LE K a l Pt xs H':=by
 obtain⟨f,c⟩:=h.S.lst;refine⟨d,h.tab.but b c,h.scr.keep λo e _=>?_,h.al⟩;rcases h.al with z|z
 ·exact .inr (b _ _ e z)
 ·exact .inl z
theorem LE.ver (h:LE K a l Pt xs H)(t:TabQ qR Pt H')(b:But Pt H H'):LE K a l Pt xs H':=by
 obtain⟨ls,f,_⟩:=h.tab;obtain⟨x,y,z,d,r⟩:=h.S.ex;refine⟨⟨x,y,z,b _ _ d (x9 d f λq=>by cases q),r⟩,t,h.scr.keep λo e c=>.inr (b _ _ e λq=>?_),h.al⟩;rw[q,f]at e;cases e;rcases c with c|⟨u,c⟩<;>cases c
theorem ow {q:Str}(t:TabQ q Pt H)(b:But Pt H H'):Tups H H':=λc d e=>by
 obtain⟨ls,a,_⟩:=t;exact b _ _ e (x9 e a λq=>by cases q)
end
theorem Lns.len {lanes:Nat}{moves:List Nat}(h:Lns lanes moves):moves.length<=lanes:=by
 have:=jg (l:=moves) (ks:=List.range lanes) (h.up.imp λz=>JA z) λx a=>Yp.mpr (h.lt x a)
 rwa [Y4]at this
def ToldAt (H:Hp)(p:JI)(N:Nt)(moves:List Nat):Prop:=(¬ EvenOn N moves/\H p=some (.tup [.str "uneven",.non]))\/(EvenOn N moves/\TellF H p (wA N moves 1500))
section
variable {P:Yo}{w:YI}{K:Jl}{mg:Str->Option Jo}{base:YP}
theorem vz:FnScope ["_law_script","_law_k","_law_left_here","_law_net_here","_law_some_here","_law_told","_law_far","_law_counts","_law_gone","_law_many","_law_one"] ["_law_script"] (zQ za1):=by trivial
theorem zbo {f fL fV fS fR fP fA Pt CE:JI}{fd dL dV dS dR dP dA:Yl}(F:Fun K "law" "law" za1 f fd) (G:Mgs mg) (GA:MgA mg) (mE:mg "NotEven" = some (.ref CE)) (xm:PySem.W.exmOne K (.ref CE) (.ref CE)=some true) (cH:FnOk P w K mg base (CX1 P w) 8 fR dR ["net","some","most"] (pE qR Pt CE)) (bR:Binds K dR ["net","some","most"] []) (kR:PySem.W.keepIn K (.ref fR)=true) (mR:mg "reach" = some (.ref fR)) (UL:Use P w K mg base "_law_left" ["_law_script","_law_k"] 1 (pG K) fL dL) (UV:Use P w K mg base "_law_evened" ["_law_left_here"] 13 eJ fV dV) (US:Use P w K mg base "_law_some" ["_law_left_here","_law_net_here"] 2 pD fS dS)
  (UP:Use P w K mg base "_law_spread" ["_law_net_here","_law_counts"] 2 eG fP dP) (UA:Use P w K mg base "_law_all_of" ["_law_lanes","_law_some_here","_law_total"] 9 sR fA dA):FnOk P w K mg base CX0 14 f fd ["_law_script"] (jC K Pt):=by
 refine F.ok vz (λvs H Q E h=>?_) (λc9 A outer s H vs Q E hr h=>?_)
 ·obtain⟨a,ns,rfl,_⟩:=h
  rfl
 obtain⟨a,ns,rfl,hS,c4,c3,k⟩:=h;have tab:TabQ qR Pt H:=⟨[],c3,λp hp=>absurd hp Ju⟩;have c2:Room 1 _:=hr.mono (by decide);have bo:Room 2 _:=hr.mono (by decide);have c1:Room 8 _:=hr.mono (by decide);have cT:Room 9 _:=hr.mono (by decide);refine⟨_,(@zE _ _ _ _ _ (@yj _ _ _ _ _ _ _ _ Y2 rfl (@yZ _ _ _ _ _ _ (by rfl) G.range (@zA _ _ _ _ _ (@zX _ _ _ _ _ _ _ _ _ (uy rfl) (by rfl) G.max rfl (@zA _ _ _ _ _ zH (@zA _ _ _ _ _ (@zX _ _ _ _ _ _ _ _ _ (qr rfl) (by rfl) G.min rfl (@zA _ _ _ _ _ (@zX _ _ _ _ _ _ _ _ _ zp (by rfl) G.len Yb (@zA _ _ _ _ _ (@pvb _ 0 _ _ rfl) zC rfl) (by decide) (by decide) rfl rfl) (@zA _ _ _ _ _ zH zC rfl) rfl) (by decide) (by decide) rfl rfl) zC rfl) rfl) (by decide) (by decide) rfl rfl) zC rfl) rfl) (@zN _ _ 1 _ vz.nd rfl (.inl rfl) (by trivial)) (@zE _ _ _ _ _ (@zW _ _ 2 _ _ _ _ vz.nd rfl (.inl rfl) (@zR _ _ _ _ _ _ _ _ _ _ _ _ UL c2 (@zA _ _ _ _ _ (@pvb _ 0 _ _ rfl) (@zA _ _ _ _ _ (@pvb _ 1 _ _ rfl) zC rfl) rfl) (by rfl) rfl rfl rfl) rfl (by trivial)) (@zE _ _ _ _ _ (@zW _ _ 3 _ _ _ _ vz.nd rfl (.inl rfl) (@zR _ _ _ _ _ _ _ _ _ _ _ _ UV hr (@zA _ _ _ _ _ (@pvb _ 2 _ _ rfl) zC rfl) (by rfl) rfl rfl rfl) rfl (by trivial)) (@zE _ _ _ _ _ (@zW _ _ 4 _ _ _ _ vz.nd rfl (.inr rfl) (@zR _ _ _ _ _ _ _ _ _ _ _ _ US bo (@zA _ _ _ _ _ (@pvb _ 2 _ _ rfl) (@zA _ _ _ _ _ (@pvb _ 3 _ _ rfl) zC rfl) rfl) (by rfl) rfl rfl rfl) rfl (by trivial)) (@zE _ _ _ _ _ (@zW _ _ 5 _ _ _ _ vz.nd rfl (.inl rfl) (@zi _ _ _ _ _ (@zA _ _ _ _ _ wB (@zA _ _ _ _ _ wZ zC rfl) rfl)) rfl (by trivial)) (@zE _ _ _ _ _ (df (j:=5) (L:=CE) ⟨⟨rfl,rfl,rfl⟩,λ_ _ z=>z⟩ cH c1 rfl mR kR bR (@zA _ _ _ _ _ (@pvb _ 3 _ _ rfl) (@zA _ _ _ _ _ (@pvb _ 4 _ _ rfl) (@zA _ _ _ _ _ zH zC rfl) rfl) rfl) ⟨rfl,mE,rfl⟩ vz.nd rfl rfl (λe=>@zM _ _ _ (@zW _ _ 5 _ _ _ _ vz.nd rfl (.inl rfl) (@zi _ _ _ _ _ (@zA _ _ _ _ _ wB (@zA _ _ _ _ _ wZ zC rfl) rfl)) rfl (by trivial)))) (@zM _ _ _ (@yb _ _ _ _ _ _ _ _ (@zt _ _ _ _ _ _ _ _ xR (@zY _ _ _ _ _ _ _ yP (@pvb _ 5 _ _ rfl) zH (λ_ _=>rfl)) wB (yC _)) (@zE _ _ _ _ _ (@yJ _ _ _ _ _ _ (@yL _ _ _ _ _ _ _ _ _ _ yw (@pvb _ 5 _ _ rfl) (@yB _ _ _ zH) yS) (@yK _ _ _ _ _ _ rfl (@zP _ _ _ _ _ (@zN _ _ 6 _ vz.nd rfl (.inl rfl) (by trivial)) (@zP _ _ _ _ _ (@zN _ _ 7 _ vz.nd rfl (.inr rfl) (by trivial)) zw rfl) rfl) rfl rfl) rfl rfl rfl) (@zE _ _ _ _ _ (@yb _ _ _ _ _ _ _ _ (@dW _ _ _ _ _ _ _ (@zt _ _ _ _ _ _ _ _ jJ (@zX _ _ _ _ _ _ _ _ _ zp (by rfl) G.len Yb (@zA _ _ _ _ _ (@pvb _ 7 _ _ rfl) zC rfl) (by decide) (by decide) rfl rfl) (@zY _ _ _ _ _ _ _ yP (@pvb _ 3 _ _ rfl) zH (λ_ _=>rfl)) (yC _)) (@dW _ _ _ _ _ _ _ (@zt _ _ _ _ _ _ _ _ jK (@zX _ _ _ _ _ _ _ _ _ (ux rfl false) (by rfl) G.min rfl (@zA _ _ _ _ _ (@pvb _ 7 _ _ rfl) zC rfl) (by decide) (by decide) rfl rfl) zH (yC _)) (@dQ _ _ _ _ (@zt _ _ _ _ _ _ _ _ jJ (@zR _ _ _ _ _ _ _ _ _ _ _ _ UP bo (@zA _ _ _ _ _ (@pvb _ 3 _ _ rfl) (@zA _ _ _ _ _ (@pvb _ 7 _ _ rfl) zC rfl) rfl) (by rfl) rfl rfl rfl) (@pvb _ 6 _ _ rfl) (yC _))))).pt (@zM _ _ _ (@zV _ _ _ _ nM)) yA) (@zE _ _ _ _ _ (@yb _ _ _ _ _ _ _ _ (@lw _ _ _ (@zX _ _ _ _ _ _ _ _ _ (gw rfl true) rfl GA.any rfl (@zA _ _ _ _ _ (@su _ _ _ _ (some _) _ _ _ _ _ _ ["_law_lane","_law_counts","_law_some_here"] [none,some 7,some 4] rfl (@yZ _ _ _ _ _ _ (by rfl) G.range (@zA _ _ _ _ _ (@zY _ _ _ _ _ _ _ yP (@pvb _ 3 _ _ rfl) zH (λ_ _=>rfl)) zC rfl) rfl) (CapOk.of (by kernel_rfl)) (λ_ _ _ _ _=>(@zN _ _ 0 _ (show (["_law_lane","_law_counts","_law_some_here"]:List Str).Nodup from by decide +kernel) rfl (.inl rfl) (.inr rfl))) (λ_ _ _ _ _=>(@jF _ _ _ (@zt _ _ _ _ _ _ _ (rIn K true) oA (@pvb _ 0 _ _ rfl) (@pvb _ 2 _ _ rfl) rfl))) (λ_ _ _ _ _=>(@wb _ _ _ _ _ _ _ _ jJ (@zY _ _ _ _ _ _ (zbb K) yP (@pvb _ 1 _ _ rfl) (@pvb _ 0 _ _ rfl) (λ_ _=>rfl)) zH (yC _))) (by intro _;rfl)) zC rfl) (by decide) (by decide) rfl rfl) (by intro _;rfl)) (@zM _ _ _ (@zV _ _ _ _ nM)) yA) (@zE _ _ _ _ _ (@zW _ _ 8 _ _ _ _ vz.nd rfl (.inl rfl) zH rfl (by trivial)) (@zM _ _ _ (@yj _ _ _ _ _ _ _ _ Y2 rfl (@yZ _ _ _ _ _ _ (by rfl) G.range (@zA _ _ _ _ _ (@zS _ _ _ _ _ _ _ _ yR (@zX _ _ _ _ _ _ _ _ _ (qr rfl) (by rfl) G.min rfl (@zA _ _ _ _ _ (@zX _ _ _ _ _ _ _ _ _ (qo rfl false) (by rfl) G.sum rfl (@zA _ _ _ _ _ (@pvb _ 7 _ _ rfl) zC rfl) (by decide) (by decide) rfl rfl) (@zA _ _ _ _ _ zH zC rfl) rfl) (by decide) (by decide) rfl rfl) zH) zC rfl) rfl) (@zN _ _ 9 _ vz.nd rfl (.inl rfl) (by trivial)) (@zM _ _ _ (@yj _ _ _ _ _ _ _ _ Y2 rfl (@pf _ _ _ _ (@yL _ _ _ _ _ _ _ _ _ _ wW (@zR _ _ _ _ _ _ _ _ _ _ _ _ UA cT (@zA _ _ _ _ _ (@zY _ _ _ _ _ _ _ yP (@pvb _ 3 _ _ rfl) zH (λ_ _=>rfl)) (@zA _ _ _ _ _ (@pvb _ 4 _ _ rfl) (@zA _ _ _ _ _ (@pvb _ 9 _ _ rfl) zC rfl) rfl) rfl) (by rfl) rfl rfl rfl) yS (@yB _ _ _ (@zX _ _ _ _ _ _ _ _ _ (uy rfl) (by rfl) G.max rfl (@zA _ _ _ _ _ zH (@zA _ _ _ _ _ (@zS _ _ _ _ _ _ _ _ xM zH (@pvb _ 8 _ _ rfl)) zC rfl) rfl) (by decide) (by decide) rfl rfl)))) (@zN _ _ 10 _ vz.nd rfl (.inl rfl) (by trivial)) (@zE _ _ _ _ _ (@yb _ _ _ _ _ _ _ _ (@zbc _ _ _ _ _ _ _ (@dW _ _ _ _ _ _ _ (@zt _ _ _ _ _ _ _ _ jK (@pvb _ 9 _ _ rfl) (@zX _ _ _ _ _ _ _ _ _ (qo rfl false) (by rfl) G.sum rfl (@zA _ _ _ _ _ (@pvb _ 7 _ _ rfl) zC rfl) (by decide) (by decide) rfl rfl) (yC _)) (@dQ _ _ _ _ (@zt _ _ _ _ _ _ _ _ (zbi (by exact hr.units0)) (@pvb _ 10 _ _ rfl) (@pvb _ 7 _ _ rfl) (yC _)))).pt (@aS _ _ _ _ (@zt _ _ _ _ _ _ _ _ zaA (@zR _ _ _ _ _ _ _ _ _ _ _ _ UP bo (@zA _ _ _ _ _ (@pvb _ 3 _ _ rfl) (@zA _ _ _ _ _ (@pvb _ 10 _ _ rfl) zC rfl) rfl) (by rfl) rfl rfl rfl) (@pvb _ 6 _ _ rfl) (yC _)))).pt (@zM _ _ _ (@zV _ _ _ _ nM)) yA) (@zM _ _ _ (@zW _ _ 8 _ _ _ _ vz.nd rfl (.inl rfl) (@zS _ _ _ _ _ _ _ _ yR (@pvb _ 8 _ _ rfl) zH) rfl (by trivial)))) (by intro _;rfl))) (by intro _;rfl))))))) yA))))))) (by intro _;rfl)) (@zM _ _ _ (@zV _ _ _ _ nM))),?_⟩;have ml:(ns.map V.int).length=ns.length:=Je _;refine zB ⟨a,_,rfl,.inl hS,_,_,rfl,_,_,rfl,?_⟩;rw[ml]
 have e5:(if (if (5:Int)<(ns.length:Nat) then (5:Int) else (ns.length:Nat)) > 1 then (if (5:Int)<(ns.length:Nat) then (5:Int) else (ns.length:Nat)) else 1)<=5/\(1:Int)<=(if (if (5:Int)<(ns.length:Nat) then (5:Int) else (ns.length:Nat)) > 1 then (if (5:Int)<(ns.length:Nat) then (5:Int) else (ns.length:Nat)) else 1):=by
  split<;>split at *<;>lia
 refine⟨_,rfl,by lia,by lia,?_⟩;generalize (if (if (5:Int)<(ns.length:Nat) then (5:Int) else (ns.length:Nat)) > 1 then (if (5:Int)<(ns.length:Nat) then (5:Int) else (ns.length:Nat)) else 1)=cnt at e5;refine yz (lo:=0) (n:=cnt.toNat) (λi σ J=>(∃ v1 v2 v3 v4 v5 v6 v7 v8 Y v10,σ=[some (.ref a),v1,v2,v3,v4,v5,v6,v7,v8,Y,v10])/\Scr K a (ns.map V.int) J/\TabQ qR Pt J) ⟨⟨_,_,_,_,_,_,_,_,_,_,rfl⟩,Scr.of hS,tab⟩ ?_ ?_
 ·rintro i σ J hi ⟨⟨v1,v2,v3,v4,v5,v6,v7,v8,Y,v10,rfl⟩,a6,tab⟩
  have i5:i<5:=by lia
  refine zB (zB ⟨a,ns,_,rfl,a6.sq,c4,by lia,by lia,λl H3 hl s3 S3=>?_⟩)
  have bl:LE K a l Pt (ns.map V.int) H3:=⟨S3,tab.same s3,a6.keep λo e _=>.inr (s3 _ _ e),by
   rcases a6 with z|⟨o,z⟩|z
   ·exact .inl (zJ z hl)
   ·exact .inl (zJ z hl)
   ·exact .inr z⟩
  clear a6 tab s3 hl S3;refine zB ⟨l,rfl,bl.S,λr fr er ps N H4 ct bc S4 B4=>?_⟩;have a9:=bl.pick S4 B4;have ok:=ct.ok;have l1:=ok.l1;refine zB (zB ⟨l,r,fr,er,ps,N,rfl,a9.S,ok,bc,λX moves H5 ln cb S5 B5=>?_⟩);have b9:=a9.pick S5 B5;have b6:=bc.tups (B5.tups3 a9.S);have c8:=ln.len;have l8:=ct.ln;refine⟨by show 2<=sizeLine;decide,λt0 cP=>?_⟩;have s6:=zD cP (.tup [.str "open",.non]);have I:=b9.same s6;have bb:=b6.tups (Tups.of s6);have U:=s6 _ _ cb;clear bl S4 B4 a9 S5 B5 bc b6 cb b9;refine zc6 Q ?_;show we _ _ _ _ (L2.upd H5 t0 (.tup [.str "open",.non]));generalize L2.upd H5 t0 (.tup [.str "open",.non])=H6 at *;clear s6;refine aL (λσ H7=>∃ p,σ=[some (.ref a),some (.int (0+(i:Nat))),some (.ref l),some (.ref r),some (.ref X),some (.ref p),v6,v7,v8,Y,v10]/\LE K a l Pt (ns.map V.int) H7/\Tups H6 H7/\ToldAt H7 p N moves) ?_ λD g rt=>?_
  rotate_left
  ·refine zB (zB ⟨r,fr,er,ps,N,X,moves,1500,rfl,ok,bb,U,ln.lt,by lia,by decide,by decide,I.tab,λH7 b7 t7 ne=>?_,λp H7 b7 t7 ev tell=>?_⟩)
   ·refine⟨CE,rfl,xm,by show 2<=sizeLine;decide,λq hq=>g _ _ ⟨q,rfl,(I.ver t7 b7).same (zD hq _),λb ys e=>zD hq _ _ _ (ow I.tab b7 _ _ e),.inl ⟨ne,zG⟩⟩⟩
   ·exact g _ _ ⟨p,rfl,I.ver t7 b7,ow I.tab b7,.inr ⟨ev,tell⟩⟩
  rintro σ H7 ⟨p,rfl,C,t7,told⟩;have b5:=bb.tups t7;have a0:=t7 _ _ U;rcases told with ⟨ne,hp⟩|⟨ev,tell⟩
  ·exact zB ⟨p,_,_,_,rfl,rfl,SqT.of hp,rfl,rfl,false,JP V.bl (Js λz=>absurd (V.str.inj z) (by decide)),xB ⟨⟨_,_,_,_,_,_,_,_,_,_,rfl⟩,C.scr,C.tab⟩⟩
  cases hR:wA N moves 1500 with
  | opn =>
   rw[hR]at tell
   exact zB ⟨p,_,_,_,rfl,rfl,SqT.of tell,rfl,rfl,false,JP V.bl (Js λz=>absurd (V.str.inj z) (by decide)),xB ⟨⟨_,_,_,_,_,_,_,_,_,_,rfl⟩,C.scr,C.tab⟩⟩
  | brk c=>rw[hR]at tell;exact tell.elim
  | whl ls =>
  rw[hR]at tell;obtain⟨v,u,d,t,hp,cm,fa⟩:=tell;obtain⟨Z,cx⟩:=fa.counts ok ln.lt hR;have bu:=Z.len;refine zB ⟨p,_,_,_,rfl,rfl,SqT.of hp,rfl,rfl,true,JP V.bl (JC rfl),x5 ?_⟩;refine zB ⟨_,rfl,p,_,rfl,hp,λp1 H8 s8 h8=>?_⟩;refine⟨p1,_,rfl,SqT.of h8,rfl,_,_,rfl,_,_,rfl,rfl,?_⟩;have b8:=C.same s8;have a8:=b5.tups (Tups.of s8);have aT:=s8 _ _ a0;have S:=s8 _ _ cm;have c6:(t.map V.int).length=t.length:=Je _;refine zbu (R:=Q) ?_;refine uj (λσ H9=>σ=[some (.ref a),some (.int (0+(i:Nat))),some (.ref l),some (.ref r),some (.ref X),some (.ref p),some (.int u),some (.ref v),v8,Y,v10]/\Same H8 H9) ?_ λD g rt=>?_
  rotate_left
  ·refine zB ⟨v,_,rfl,.inr (SqT.of S),zB ⟨r,_,_,_,rfl,rfl,SqT.of a8.net,rfl,rfl,false,?_,xB ?_⟩⟩
   ·rw[c6,bu]
    show V.bl (!decide (V.int ((N.lanes:Nat):Int)=V.int ((N.lanes:Nat):Int)))=V.bl false;rw[JC rfl];rfl
   refine zB ⟨v,t,rfl,SqT.of S,by lia,λm mm lm=>⟨_,_,rfl,rfl,false,JP V.bl (Js (by have:=Z.nn m mm;lia)),xB ?_⟩⟩;refine zB (zB ⟨r,fr,er,ps,N,v,t,rfl,ok,a8,S,bu,λH9 s9=>zB ⟨rfl,false,?_,xB (g _ _ ⟨rfl,s9⟩)⟩⟩);rw[cx];show V.bl (!decide (V.int u=V.int u))=V.bl false;rw[JC rfl];rfl
  rintro σ H9 ⟨rfl,s9⟩;have cL:=b8.same s9;have b4:=a8.tups (Tups.of s9);have aE:=s9 _ _ aT;have ck:=s9 _ _ S;clear s9 s8 h8 b8 a8 aT S C b5 a0 hp cm t7 I bb U;refine uj (λσ bS=>σ=[some (.ref a),some (.int (0+(i:Nat))),some (.ref l),some (.ref r),some (.ref X),some (.ref p),some (.int u),some (.ref v),v8,Y,v10]/\Same H9 bS) ?_ λD g rt=>?_
  rotate_left
  ·refine zB ⟨r,_,_,_,rfl,rfl,SqT.of b4.net,rfl,N.lanes,rfl,by lia,by lia,λlc bt=>?_⟩
   refine qV (lo:=0) (n:=((N.lanes:Nat):Int).toNat) (λj acc σ J=>(∃ v0,σ=[v0,some (.ref v),some (.ref X)])/\Same H9 J/\J lc=some (.lst acc)/\∃ q,q<=j/\acc=List.map V.bl (List.replicate q false)) ⟨⟨_,rfl⟩,zD bt _,zT bt _,0,Jg _,rfl⟩ (λj acc σ J z=>z.2.2.1) ?_ ?_
   ·rintro j acc σ J hj ⟨⟨v0,rfl⟩,s2,h2,q,qj,rfl⟩
    have e0:(0:Int)+((j:Nat):Int)=((j:Nat):Int):=ZY _;refine zB (zB ⟨X,_,rfl,.inr (SqT.of (s2 _ _ aE)),rfl,qd moves,_,rfl,uL (λy=>?_) (λ_=>?_)⟩)
    ·rw[Jm rfl,e0,mD]at y
     have no:j∉moves:=λx=>by rw[JC x]at y;cases y
     have cz:=Z.oth j (by lia) no
     have ca:(t.map V.int)[j]?=some (.int 0):=by
      rw[JN,J7 (by lia)];rw[Ja,J7 (by lia)]at cz;exact JP (λz=>some (V.int z)) cz
     refine zB (zB ⟨v,_,_,_,rfl,rfl,SqT.of (s2 _ _ ck),by rw[e0];exact yT ca,rfl,h2,by rw[Je,Y7,JB];lia,nx (by lia) ⟨⟨_,rfl⟩,λb o e=>?_,zG,q+1,by lia,by rw[List.replicate_succ',JV];rfl⟩⟩);rw[zK (zJ e bt)];exact s2 b o e
    ·exact nx (by lia) ⟨⟨_,rfl⟩,s2,h2,q,by lia,rfl⟩
   rintro acc σ J ⟨⟨v0,rfl⟩,s2,h2,q,qj,rfl⟩;refine⟨lc,_,rfl,SqL.of h2,false,JP V.bl (List.any_eq_false.mpr λx hx=>by rw[Wr hx];exact λz=>by cases z),xB (g _ _ ⟨rfl,s2⟩)⟩
  rintro σ bS ⟨rfl,a7⟩;have ao:=cL.same a7;have ab:=b4.tups (Tups.of a7);have a5:=a7 _ _ aE;have a4:=a7 _ _ ck;have b0:0<=d:=by rw[<- Z.sum];exact(kT Z.nn).1
  refine zaG ?_;refine zB ⟨v,t,rfl,SqT.of a4,_,_,rfl,_,_,rfl,rfl,_,rfl,?_,?_,?_⟩
  ·have:=Z.sum;split<;>lia
  ·have:=Z.sum;split<;>lia
  rw[Z.sum];have tp:((if (7:Int)<d then (7:Int) else d)+1)<=8/\((if (7:Int)<d then (7:Int) else d)+1)<=d+1:=by split<;>lia
  generalize ((if (7:Int)<d then (7:Int) else d)+1)=top at tp;refine yz (lo:=0) (n:=top.toNat) (λj σ bB=>(∃ (gone:Int) (Y v10:Option V),σ=[some (.ref a),some (.int (0+(i:Nat))),some (.ref l),some (.ref r),some (.ref X),some (.ref p),some (.int u),some (.ref v),some (.int gone),Y,v10])/\Same bS bB) ⟨⟨_,_,_,rfl⟩,λ_ _ e=>e⟩ ?_ ?_
  ·rintro j σ bB hj ⟨⟨gone,Y,v10,rfl⟩,B⟩
   have jb:(j:Int)<=d:=by lia
   refine zB ⟨r,_,_,_,rfl,rfl,SqT.of (B _ _ ab.net),rfl,zB (zB ⟨N.lanes,l8,X,moves,j,by rw[ZY];rfl,l8,by lia,B _ _ a5,by lia,λlr xs c7 cE c5 xl xa=>?_⟩)⟩;refine zB ⟨_,_,rfl,rfl,_,_,rfl,_,rfl,lr,xs,rfl,SqL.of c5,λp2 cc=>?_⟩;generalize (some (if 2500-gone > 0 then 2500-gone else 0):Option Int)=cut;have b3:=zD cc (.lst (xW xs none cut));have cn:=zT cc (.lst (xW xs none cut));have b2:=(B.trans cE).trans b3;refine⟨p2,rfl,⟨_,SqL.of cn⟩,?_⟩;refine bU (K:=K) (a:=p2) (xs:=xW xs none cut) (λm σ T=>(∃ (gone:Int) (v10:Option V),σ=[some (.ref a),some (.int (0+(i:Nat))),some (.ref l),some (.ref r),some (.ref X),some (.ref p),some (.int u),some (.ref v),some (.int gone),some (.int (0+(j:Nat))),v10])/\Same (L2.upd c7 p2 (.lst (xW xs none cut))) T) ⟨⟨_,_,rfl⟩,λ_ _ e=>e⟩ (λm σ T _ z=>SqL.of (z.2 _ _ cn)) ?_ ?_
   ·rintro m x σ T hx ⟨⟨gone,v10,rfl⟩,O⟩
    obtain⟨b,row,rfl,hb,R⟩:=xa x (cut_mem (JD hx));have b1:=b2.trans O;have W:=O _ _ (b3 _ _ hb);have a3:=b1 _ _ a4;refine zcu ?_;refine uj (λσ ba=>σ=[some (.ref a),some (.int (0+(i:Nat))),some (.ref l),some (.ref r),some (.ref X),some (.ref p),some (.int u),some (.ref v),some (.int gone),some (.int (0+(j:Nat))),some (.ref b)]/\Same T ba) ?_ λD g _=>?_
    ·rintro σ ba ⟨rfl,M⟩
     exact zB ⟨_,_,rfl,rfl,⟨_,_,rfl⟩,O.trans M⟩
    have aa:=ab.tups (Tups.of b1);have s0:=Z.sum;refine zB (zB ⟨v,t,rfl,SqT.of a3,_,_,rfl,rfl,_,rfl,uL (λy=>x5 ?_) (λy=>?_)⟩)
    ·have lt:=YM y
     have ls:=fa.least ok ln.lt hR R (.inl (by lia));exact zB (zB ⟨r,fr,er,ps,N,b,row,rfl,ok,aa,W,R.len,λba M=>zB ⟨_,_,rfl,rfl,false,JP V.bl (Js (by lia)),xB (g _ _ ⟨rfl,M⟩)⟩⟩)
    ·have ge:¬((0:Int)+(j:Nat)<t.sum):=λz=>y (JC z)
     refine zB (zB ⟨b,v,row,t,rfl,rfl,SqT.of W,SqT.of a3,_,rfl,uL (λz=>?_) (λ_=>xB (g _ _ ⟨rfl,λ_ _ e=>e⟩))⟩);have ls:=fa.least ok ln.lt hR R (.inr ⟨by lia,jf z (R.len.trans bu.symm)⟩);exact zB (zB ⟨r,fr,er,ps,N,b,row,rfl,ok,aa,W,R.len,λba M=>zB ⟨_,_,rfl,rfl,false,JP V.bl (Js (by lia)),xB (g _ _ ⟨rfl,M⟩)⟩⟩)
   ·rintro σ T ⟨⟨gone,v10,rfl⟩,O⟩
    exact⟨⟨_,_,_,rfl⟩,b2.trans O⟩
  ·rintro σ bB ⟨⟨gone,Y,v10,rfl⟩,B⟩
   exact⟨⟨_,_,_,_,_,_,_,_,_,_,rfl⟩,(ao.same B).scr,(ao.same B).tab⟩
 ·rintro σ J _
  exact k J
end
structure FnAt (K:Jl) (x:Str) (st:Stmt) (f:JI) (fd:Yl):Prop where
 ns:PySem.W.nsIn K mainGlobals x=some (some (.ref f))
 fn:Fun K x x st f fd
theorem yO {K:Jl}{x:Str}{st:Stmt}{f:JI}{oc:Jo}{od an:Option JI}{osl:Array (Option Jo)}{kV doc pm cdv ct:Jo}(a:PySem.W.nsIn K mainGlobals x=some (some (.ref f)))(l:K.lookup f=some ⟨oc,od,.func (PySem.W.fnOf x x (xj st) (y7 st) (zQ st) .none kV doc pm an cdv ct),osl⟩)(c:PySem.W.codeIn K cdv x=true)(k:PySem.W.keepIn K (.ref f)=true):FnAt K x st f (PySem.W.fnOf x x (xj st) (y7 st) (zQ st) .none kV doc pm an cdv ct):=⟨a,zbI l c k⟩
structure FnAtC (K:Jl) (x:Str) (st:Stmt) (f:JI) (fd:Yl) (c:JI):Prop where
 ns:PySem.W.nsIn K mainGlobals x=some (some (.ref f))
 fn:FunC K x x st f fd c
theorem zbJ {K:Jl}{x:Str}{st:Stmt}{f c:JI}{oc:Jo}{od an:Option JI}{osl:Array (Option Jo)}{kV doc pm ct:Jo}(a:PySem.W.nsIn K mainGlobals x=some (some (.ref f)))(l:K.lookup f=some ⟨oc,od,.func (PySem.W.fnOf x x (xj st) (y7 st) (zQ st) .none kV doc pm an (.ref c) ct),osl⟩)(cd:PySem.W.codeIn K (.ref c) x=true)(k:PySem.W.keepIn K (.ref f)=true):FnAtC K x st f (PySem.W.fnOf x x (xj st) (y7 st) (zQ st) .none kV doc pm an (.ref c) ct) c:=⟨a,⟨⟨_,_,_,_,_,_,_,_,rfl,l,cd⟩,k⟩⟩
theorem _root_.L2.FunC.fun {K:Jl}{x qual:Str}{st:Stmt}{f:JI}{fd:Yl}{c:JI}(F:FunC K x qual st f fd c):Fun K x qual st f fd:=by
 obtain⟨d,b,kV,doc,pm,an,g,a,e,l,q⟩:=F.ex;exact⟨⟨d,b,kV,doc,pm,an,.ref c,g,a,e,l,q⟩,F.kp⟩
theorem gm {K:Jl}{c P:JI}{od:Option JI}{vs:Array Jo}{osl:Array (Option Jo)}(l:K.lookup c=some ⟨.type "code",od,.fields vs,osl⟩) (e:PySem.W.codeHdIn [(c,⟨.type "code",od,.fields vs,osl⟩)] c P=true):PySem.W.codeHdIn K c P=true:=by
 have q:List.lookup c [(c,(⟨.type "code",od,.fields vs,osl⟩:Obj))]=some ⟨.type "code",od,.fields vs,osl⟩:=by rw[YE,ZD]
 unfold PySem.W.codeHdIn at e ⊢;rw[q]at e;rw[l];exact e
theorem us1 {us:List Jo}(h:us.length=1):∃ a,us=[a]:=by
 match us,h with
 | [a],_=>exact⟨a,rfl⟩
theorem us2 {us:List Jo}(h:us.length=2):∃ b a,us=[b,a]:=by
 match us,h with
 | [b,a],_=>exact⟨b,a,rfl⟩
theorem us3 {us:List Jo}(h:us.length=3):∃ c b a,us=[c,b,a]:=by
 match us,h with
 | [c,b,a],_=>exact⟨c,b,a,rfl⟩
theorem us4 {us:List Jo}(h:us.length=4):∃ c b a u3,us=[c,b,a,u3]:=by
 match us,h with
 | [c,b,a,u3],_=>exact⟨c,b,a,u3,rfl⟩
theorem us5 {us:List Jo}(h:us.length=5):∃ d c b u3 a,us=[d,c,b,u3,a]:=by
 match us,h with
 | [d,c,b,u3,a],_=>exact⟨d,c,b,u3,a,rfl⟩
set_option maxHeartbeats 4000001 in
theorem zbR {l:PySem.W.OpenLaw}{w:YI}{K:Jl}{h:YP}{mg:Str->Option Jo}{fa f1 f2 f3 f4 f5 f6 f7 f8 f9 c2 c1 c0 cT cP cz cx cn cm ck cc cb b0 bS bR bu bt bo bl bc bb ba a9 a8 a7 a6 a5 a4 a3 fA:JI}{d1 d2 d3 d4 d5 d6 d7 d8 d9 dV dU dT dS dR dP dM dK dH dG dF dE dD dC dB dA dx dt dr dp dn de dd c9 c8 c7 c6 c5 c4 c3:Yl}(X:K.In h) (G:h.Ns mainGlobals mg) (fx:mg "law" = some (.ref fa))
  {g Pt:JI}
  (A1:FnAt K "layers" pS f1 d1)
  (A2:FnAt K "depth" lQ f2 d2)
  (A3:FnAt K "flowed" pU f3 d3)
  (A4:FnAt K "ends_of" eV f4 d4)
  (A5:FnAt K "power_of_two" zaZ f5 d5)
  (A6:FnAt K "alone" lR f6 d6)
  (A7:FnAt K "shares" pP f7 d7)
  (A8:FnAt K "unlike_pair" pN f8 d8)
  (A9:FnAt K "uneven" pO f9 d9)
  (U:FnAt K "is_even" pT c2 dV)
  (T:FnAt K "end_of" za5 c1 dU)
  (S:FnAt K "run_through" zaY c0 dT)
  (R:FnAt K "passed" pR cT dS)
  (Q:FnAt K "given_at" lP cP dR)
  (P:FnAt K "added" lS cz dP)
  (O:FnAt K "first_turns" pV cx dM)
  (N:FnAt K "first_place" sW cn dK)
  (L:FnAt K "place_behind" pQ cm dH)
  (J:FnAt K "next_level" za0 ck dG)
  (I:FnAt K "climbed" za6 cc dF)
  (H:FnAt K "farthest" za3 cb dE)
  (F:FnAtC K "reach" sV b0 dD g)
  (E:FnAt K "_law_left" eU bS dC)
  (D:FnAt K "_law_pick" eR bR dB)
  (C:FnAt K "_law_mixed" lL bu dA)
  (B:FnAt K "_law_merger" nD bt dx)
  (A:FnAt K "_law_stairway" nB bo dt)
  (z:FnAt K "_law_block" nE bl dr)
  (y:FnAt K "_law_tree" nA bc dp)
  (x:FnAt K "_law_made" eT bb dn)
  (u:FnAt K "_law_any" eW ba de)
  (t:FnAt K "_law_changed" za7 a9 dd)
  (r:FnAt K "_law_net" eS a8 c9)
  (q:FnAt K "_law_some" lK a7 c8)
  (o:FnAt K "_law_ends" lO a6 c7)
  (n:FnAt K "_law_evened" za4 a5 c6)
  (m:FnAt K "_law_all_of" eX a4 c5)
  (k:FnAt K "_law_spread" zaX a3 c4)
  (V:FnAt K "law" za1 fA c3)
  (z1:PySem.W.nsIn K mainGlobals "len" = some none)
  (z2:PySem.W.nsIn K mainGlobals "range" = some none)
  (z3:PySem.W.nsIn K mainGlobals "tuple" = some none)
  (z4:PySem.W.nsIn K mainGlobals "enumerate" = some none)
  (z5:PySem.W.nsIn K mainGlobals "abs" = some none)
  (z6:PySem.W.nsIn K mainGlobals "zip" = some none)
  (z7:PySem.W.nsIn K mainGlobals "isinstance" = some none)
  (z8:PySem.W.nsIn K mainGlobals "all" = some none)
  (z9:PySem.W.nsIn K mainGlobals "sum" = some none)
  (er:PySem.W.nsIn K mainGlobals "bool" = some none)
  (ep:PySem.W.nsIn K mainGlobals "int" = some none)
  (eo:PySem.W.nsIn K mainGlobals "str" = some none)
  (en:PySem.W.nsIn K mainGlobals "max" = some none)
  (el:PySem.W.nsIn K mainGlobals "min" = some none)
  (ek:PySem.W.nsIn K mainGlobals "sorted" = some none)
  (ej:PySem.W.nsIn K mainGlobals "list" = some none)
  (ei:PySem.W.nsIn K mainGlobals "any" = some none)
  {CL CE NE:JI}{xa xb:Str}{fE aa:List Jo}{fy gP:Bool}{es:List Str}{ab:Option Bool}{fB:Option JI}{g0 g1 g2 g3 g5:Option Jo}{oN oM:Obj}{W cE:ClassData}
  (aE:PySem.W.nsIn K mainGlobals "NotEven" = some (some (.ref CE)))
  (lE:K.lookup CE=some (excClassObj xa xb CE NE fE (.ref CL::bmV) fy es aa gP ab fB g0 g1 g2 g3 g5 "ValueError.__new__")) (lN:K.lookup NE=some oN) (uN:PySem.W.nsOkIn [(NE,oN)] NE=true) (iE:PySem.W.nsIn K NE "__init__" = some none)
  (fC:PySem.W.clsIn K CL=some W) (lM:K.lookup W.ns=some oM) (uM:PySem.W.nsOkIn [(W.ns,oM)] W.ns=true) (iM:PySem.W.nsIn K W.ns "__init__" = some none) (fv:PySem.W.keepIn K (.ref CE)=true)
  (y1:PySem.W.mroIn K CE (.type "BaseException")=some true) (fD:PySem.W.clsIn K CE=some cE) (y2:PySem.W.typeIn K (.ref CE)=some (.type "type")) (y3:PySem.W.mroIn K CE (.ref CE)=some true)
  (cH:PySem.W.codeHdIn K g Pt=true) (et:mainGlobals≠Pt) (kP:K.lookup Pt=none)
  : (K.lookup Pt=none/\∃ c,PySem.W.codeHdIn K c Pt=true)/\∃ fd:Yl,(∀ (s:JO) (v:Jo),BindsTo s fd ⟨[v],[]⟩ [("_law_script",v)])/\∀ base:YP,K.In base->base.Ns mainGlobals mg->(∀ p∈[Pt],base.BuiltinsAt mg p)->FnOk l.prog w K mg base CX0 14 fa fd ["_law_script"] (jC K Pt):=by
 have e:=fx.symm.trans (JE X G V.ns);cases e;have M:Mgs mg:=⟨Y3 X G z1,Y3 X G z2,Y3 X G z3,Y3 X G z4,Y3 X G z5,Y3 X G z6,Y3 X G z7,Y3 X G z8,Y3 X G z9,Y3 X G er,Y3 X G ep,Y3 X G eo,Y3 X G en,Y3 X G el,Y3 X G ek,Y3 X G ej⟩;have M2:MgA mg:=⟨Y3 X G ei⟩;have b1:=A1.fn.binds (ps:=["net"]) λ_ _ _ _ _ _ b a=>by obtain⟨d,rfl⟩:=us1 a;rfl
 have m1:=JE X G A1.ns;have b2:=A2.fn.binds (ps:=["net"]) λ_ _ _ _ _ _ b a=>by obtain⟨d,rfl⟩:=us1 a;rfl
 have m2:=JE X G A2.ns;have b3:=A3.fn.binds (ps:=["net","counts"]) λ_ _ _ _ _ _ b a=>by obtain⟨d,f,rfl⟩:=us2 a;rfl
 have m3:=JE X G A3.ns;have b4:=A4.fn.binds (ps:=["net","counts"]) λ_ _ _ _ _ _ b a=>by obtain⟨d,f,rfl⟩:=us2 a;rfl
 have m4:=JE X G A4.ns;have b5:=A5.fn.binds (ps:=["many"]) λ_ _ _ _ _ _ b a=>by obtain⟨d,rfl⟩:=us1 a;rfl
 have m5:=JE X G A5.ns;have b6:=A6.fn.binds (ps:=["lanes","lane","many"]) λ_ _ _ _ _ _ b a=>by obtain⟨d,f,j,rfl⟩:=us3 a;rfl
 have m6:=JE X G A6.ns;have b7:=A7.fn.binds (ps:=["net"]) λ_ _ _ _ _ _ b a=>by obtain⟨d,rfl⟩:=us1 a;rfl
 have m7:=JE X G A7.ns;have b8:=A8.fn.binds (ps:=["share"]) λ_ _ _ _ _ _ b a=>by obtain⟨d,rfl⟩:=us1 a;rfl
 have m8:=JE X G A8.ns;have b9:=A9.fn.binds (ps:=["net","some"]) λ_ _ _ _ _ _ b a=>by obtain⟨d,f,rfl⟩:=us2 a;rfl
 have m9:=JE X G A9.ns;have gC:=U.fn.binds (ps:=["net","some"]) λ_ _ _ _ _ _ b a=>by obtain⟨d,f,rfl⟩:=us2 a;rfl
 have fu:=JE X G U.ns;have gs:=T.fn.binds (ps:=["net","lane"]) λ_ _ _ _ _ _ b a=>by obtain⟨d,f,rfl⟩:=us2 a;rfl
 have ft:=JE X G T.ns;have gr:=S.fn.binds (ps:=["net","turns","lane","back"]) λ_ _ _ _ _ _ b a=>by obtain⟨d,f,j,u3,rfl⟩:=us4 a;rfl
 have fp:=JE X G S.ns;have gk:=R.fn.binds (ps:=["net","turns","lane"]) λ_ _ _ _ _ _ b a=>by obtain⟨d,f,j,rfl⟩:=us3 a;rfl
 have fo:=JE X G R.ns;have gi:=Q.fn.binds (ps:=["row","place","value"]) λ_ _ _ _ _ _ b a=>by obtain⟨d,f,j,rfl⟩:=us3 a;rfl
 have fm:=JE X G Q.ns;have gg:=P.fn.binds (ps:=["counts","place","many"]) λ_ _ _ _ _ _ b a=>by obtain⟨d,f,j,rfl⟩:=us3 a;rfl
 have fl:=JE X G P.ns;have gd:=O.fn.binds (ps:=["net"]) λ_ _ _ _ _ _ b a=>by obtain⟨d,rfl⟩:=us1 a;rfl
 have fk:=JE X G O.ns;have gc:=N.fn.binds (ps:=["net"]) λ_ _ _ _ _ _ b a=>by obtain⟨d,rfl⟩:=us1 a;rfl
 have ff:=JE X G N.ns;have fY:=L.fn.binds (ps:=["net","place","lane"]) λ_ _ _ _ _ _ b a=>by obtain⟨d,f,j,rfl⟩:=us3 a;rfl
 have fe:=JE X G L.ns;have fX:=J.fn.binds (ps:=["level","seen","moves","led"]) λ_ _ _ _ _ _ b a=>by obtain⟨d,f,j,u3,rfl⟩:=us4 a;rfl
 have fb:=JE X G J.ns;have fV:=I.fn.binds (ps:=["first","counts","moves","led","most"]) λ_ _ _ _ _ _ b a=>by obtain⟨d,f,j,u3,u4,rfl⟩:=us5 a;rfl
 have e9:=JE X G I.ns;have fU:=H.fn.binds (ps:=["levels"]) λ_ _ _ _ _ _ b a=>by obtain⟨d,rfl⟩:=us1 a;rfl
 have e8:=JE X G H.ns;have fT:=F.fn.fun.binds (ps:=["net","some","most"]) λ_ _ _ _ _ _ b a=>by obtain⟨d,f,j,rfl⟩:=us3 a;rfl
 have e6:=JE X G F.ns;have fS:=E.fn.binds (ps:=["_law_script","_law_k"]) λ_ _ _ _ _ _ b a=>by obtain⟨d,f,rfl⟩:=us2 a;rfl
 have e5:=JE X G E.ns;have fR:=D.fn.binds (ps:=["_law_left_here","_law_many"]) λ_ _ _ _ _ _ b a=>by obtain⟨d,f,rfl⟩:=us2 a;rfl
 have e4:=JE X G D.ns;have fP:=C.fn.binds (ps:=["_law_left_here","_law_row"]) λ_ _ _ _ _ _ b a=>by obtain⟨d,f,rfl⟩:=us2 a;rfl
 have e3:=JE X G C.ns;have eb:=B.fn.binds (ps:=["_law_one","_law_other"]) λ_ _ _ _ _ _ b a=>by obtain⟨d,f,rfl⟩:=us2 a;rfl
 have a0:=JE X G B.ns;have ea:=A.fn.binds (ps:=["_law_row"]) λ_ _ _ _ _ _ b a=>by obtain⟨d,rfl⟩:=us1 a;rfl
 have aT:=JE X G A.ns;have d0:=z.fn.binds (ps:=["_law_row"]) λ_ _ _ _ _ _ b a=>by obtain⟨d,rfl⟩:=us1 a;rfl
 have ao:=JE X G z.ns;have dY:=y.fn.binds (ps:=["_law_row"]) λ_ _ _ _ _ _ b a=>by obtain⟨d,rfl⟩:=us1 a;rfl
 have Z:=JE X G y.ns;have fN:=x.fn.binds (ps:=["_law_way","_law_k"]) λ_ _ _ _ _ _ b a=>by obtain⟨d,f,rfl⟩:=us2 a;rfl
 have e1:=JE X G x.ns;have fM:=u.fn.binds (ps:=["_law_left_here"]) λ_ _ _ _ _ _ b a=>by obtain⟨d,rfl⟩:=us1 a;rfl
 have e0:=JE X G u.ns;have fL:=t.fn.binds (ps:=["_law_left_here","_law_net_here"]) λ_ _ _ _ _ _ b a=>by obtain⟨d,f,rfl⟩:=us2 a;rfl
 have eN:=JE X G t.ns;have fK:=r.fn.binds (ps:=["_law_left_here"]) λ_ _ _ _ _ _ b a=>by obtain⟨d,rfl⟩:=us1 a;rfl
 have eM:=JE X G r.ns;have fI:=q.fn.binds (ps:=["_law_left_here","_law_net_here"]) λ_ _ _ _ _ _ b a=>by obtain⟨d,f,rfl⟩:=us2 a;rfl
 have ez:=JE X G q.ns;have fH:=o.fn.binds (ps:=["_law_net_here","_law_counts"]) λ_ _ _ _ _ _ b a=>by obtain⟨d,f,rfl⟩:=us2 a;rfl
 have ey:=JE X G o.ns;have fG:=n.fn.binds (ps:=["_law_left_here"]) λ_ _ _ _ _ _ b a=>by obtain⟨d,rfl⟩:=us1 a;rfl
 have ew:=JE X G n.ns;have dX:=m.fn.binds (ps:=["_law_lanes","_law_some_here","_law_total"]) λ_ _ _ _ _ _ b a=>by obtain⟨d,f,j,rfl⟩:=us3 a;rfl
 have Y:=JE X G m.ns;have fF:=k.fn.binds (ps:=["_law_net_here","_law_counts"]) λ_ _ _ _ _ _ b a=>by obtain⟨d,f,rfl⟩:=us2 a;rfl
 have eu:=JE X G k.ns;have mE:=JE X G aE;have XO:XPln K CE CL:=⟨⟨_,_,_,_,_,_,_,_,_,_,_,_,_,_,_,lE,jR lN uN,iE⟩,fj fC (jR lM uM) iM,fv⟩;have xm:=zam y1 fD y2 y3;obtain⟨oc,od,kV,doc,pm,an,hB,ct,hA,ed,_,_⟩:=id V.fn.ex;refine⟨⟨kP,g,cH⟩,c3,λs v=>by rw[ed];exact .of_eq rfl,λbase _ _ bB=>?_⟩;have CK:CodeK K mg base g Pt:=⟨cH,bB Pt (.head _),et⟩;have U1:Use l.prog w K mg base "layers" ["net"] 1 sL f1 d1:=⟨iy A1.fn M,b1,A1.fn.kp,m1⟩;have U2:Use l.prog w K mg base "depth" ["net"] 2 pI f2 d2:=⟨cR A2.fn M U1,b2,A2.fn.kp,m2⟩;have U3:Use l.prog w K mg base "flowed" ["net","counts"] 1 sN f3 d3:=⟨i3 A3.fn M,b3,A3.fn.kp,m3⟩;have U4:Use l.prog w K mg base "ends_of" ["net","counts"] 2 uc f4 d4:=⟨ar A4.fn M U3,b4,A4.fn.kp,m4⟩;have U5:Use l.prog w K mg base "power_of_two" ["many"] 1 mw f5 d5:=⟨ah A5.fn M,b5,A5.fn.kp,m5⟩;have U6:Use l.prog w K mg base "alone" ["lanes","lane","many"] 1 pJ f6 d6:=⟨cS A6.fn M,b6,A6.fn.kp,m6⟩;have U7:Use l.prog w K mg base "shares" ["net"] 3 sJ f7 d7:=⟨iq A7.fn M U2 U5 U6 U4,b7,A7.fn.kp,m7⟩;have U8:Use l.prog w K mg base "unlike_pair" ["share"] 1 tw f8 d8:=⟨ii A8.fn M,b8,A8.fn.kp,m8⟩;have U9:Use l.prog w K mg base "uneven" ["net","some"] 4 sD f9 d9:=⟨im A9.fn M U7 U8,b9,A9.fn.kp,m9⟩;have hy:Use l.prog w K mg base "is_even" ["net","some"] 5 sM c2 dV:=⟨iz U.fn M U9,gC,U.fn.kp,fu⟩;have hx:Use l.prog w K mg base "end_of" ["net","lane"] 1 eK c1 dU:=⟨zbr T.fn,gs,T.fn.kp,ft⟩;have hv:Use l.prog w K mg base "run_through" ["net","turns","lane","back"] 2 eH c0 dT:=⟨zbn S.fn M hx,gr,S.fn.kp,fp⟩;have hu:Use l.prog w K mg base "passed" ["net","turns","lane"] 3 (mx false) cT dS:=⟨iu R.fn hv,gk,R.fn.kp,fo⟩;have ht:Use l.prog w K mg base "given_at" ["row","place","value"] 1 pH cP dR:=⟨cQ Q.fn M,gi,Q.fn.kp,fm⟩;have eh:Use l.prog w K mg base "added" ["counts","place","many"] 2 tQ cz dP:=⟨cV P.fn M ht,gg,P.fn.kp,fl⟩;have hs:Use l.prog w K mg base "first_turns" ["net"] 1 sO cx dM:=⟨i4 O.fn M,gd,O.fn.kp,fk⟩;have hr:Use l.prog w K mg base "first_place" ["net"] 2 uZ cn dK:=⟨kA N.fn hs,gc,N.fn.kp,ff⟩;have hq:Use l.prog w K mg base "place_behind" ["net","place","lane"] 4 vt cm dH:=⟨ir L.fn M hu eh,fY,L.fn.kp,fe⟩;have hp:Use l.prog w K mg base "next_level" ["level","seen","moves","led"] 6 (my l.prog w K (uK qR) ["net"] wI) ck dG:=⟨aj J.fn M eh (gM qR hq),fX,J.fn.kp,fb⟩;have ho:Use l.prog w K mg base "climbed" ["first","counts","moves","led","most"] 7 (sP l.prog w K (uK qR) ["net"] wI) cc dF:=⟨kB I.fn M hp,fV,I.fn.kp,e9⟩;have hn:Use l.prog w K mg base "farthest" ["levels"] 1 (eI l.prog w) cb dE:=⟨zbp H.fn M,fU,H.fn.kp,e8⟩;have hz:FnOk l.prog w K mg base (CX1 l.prog w) 8 b0 dD ["net","some","most"] (pE qR Pt CE):=cK F.fn CK XO mE hy ho hr hn;have hk:Use l.prog w K mg base "_law_left" ["_law_script","_law_k"] 1 (pG K) bS dC:=⟨aq E.fn M,fS,E.fn.kp,e5⟩;have i:Use l.prog w K mg base "_law_pick" ["_law_left_here","_law_many"] 1 x8 bR dB:=⟨ai D.fn,fR,D.fn.kp,e4⟩;have eg:Use l.prog w K mg base "_law_mixed" ["_law_left_here","_law_row"] 2 tO bu dA:=⟨cM C.fn M i,fP,C.fn.kp,e3⟩;have hj:Use l.prog w K mg base "_law_merger" ["_law_one","_law_other"] 5 wk bt dx:=⟨iw B.fn M eb a0,eb,B.fn.kp,a0⟩;have hi:Use l.prog w K mg base "_law_stairway" ["_law_row"] 10 sI bo dt:=⟨ip A.fn M hj ea aT,ea,A.fn.kp,aT⟩;have ef:Use l.prog w K mg base "_law_block" ["_law_row"] 5 vw bl dr:=⟨i6 z.fn M d0 ao,d0,z.fn.kp,ao⟩;have hh:Use l.prog w K mg base "_law_tree" ["_law_row"] 5 sF bc dp:=⟨io y.fn M dY Z,dY,y.fn.kp,Z⟩;have ec:Use l.prog w K mg base "_law_made" ["_law_way","_law_k"] 11 pF bb dn:=⟨ap x.fn M ef hi hh,fN,x.fn.kp,e1⟩;have hg:Use l.prog w K mg base "_law_any" ["_law_left_here"] 3 lB ba de:=⟨au u.fn M i eg,fM,u.fn.kp,e0⟩;have hc:Use l.prog w K mg base "_law_changed" ["_law_left_here","_law_net_here"] 2 eL a9 dd:=⟨zbs t.fn M i,fL,t.fn.kp,eN⟩;have hb:Use l.prog w K mg base "_law_net" ["_law_left_here"] 12 mz a8 c9:=⟨ak r.fn M i hg ec hc,fK,r.fn.kp,eM⟩;have ha:Use l.prog w K mg base "_law_some" ["_law_left_here","_law_net_here"] 2 pD a7 c8:=⟨cJ q.fn M i,fI,q.fn.kp,ez⟩;have g7:Use l.prog w K mg base "_law_ends" ["_law_net_here","_law_counts"] 1 uc a6 c7:=⟨cO o.fn M,fH,o.fn.kp,ey⟩;have g6:Use l.prog w K mg base "_law_evened" ["_law_left_here"] 13 eJ a5 c6:=⟨zbq n.fn M i hb ec ef eg,fG,n.fn.kp,ew⟩;have g4:Use l.prog w K mg base "_law_all_of" ["_law_lanes","_law_some_here","_law_total"] 9 sR a4 c5:=⟨i7 m.fn M dX Y,dX,m.fn.kp,Y⟩;have gV:Use l.prog w K mg base "_law_spread" ["_law_net_here","_law_counts"] 2 eG a3 c4:=⟨zbm k.fn M g7,fF,k.fn.kp,eu⟩;exact zbo V.fn M M2 mE xm hz fT F.fn.kp e6 hk g6 ha gV g4
theorem zcA {l:PySem.W.OpenLaw}{q:Yo}{loose:List Str}{y:(Str->Option Jo)->YP->Prop}{i:YI->YP->Prop}{d:DefRec}{K:Params->Jl}{Pt:JI}(o:l.most=some 63) (g:d.params.defaults=[])
  (t:∀ (w:YI) (h:YP),i w h->(K w.params).In h/\∀ p∈[Pt],h.get? p=some (PySem.W.tabObj #[]))
  (F:∀ (w:YI) (mg:Str->Option Jo) (e:JI) (h:YP),(K w.params).In h->h.Ns mainGlobals mg->mg d.name=some (.ref e)->((K w.params).lookup Pt=none/\∃ c,PySem.W.codeHdIn (K w.params) c Pt=true) /\
   ∃ fd:Yl,(∀ (s:JO) (u:Jo),BindsTo s fd ⟨[u],[]⟩ [("_law_script",u)])/\∀ base:YP,(K w.params).In base->base.Ns mainGlobals mg->(∀ p∈[Pt],base.BuiltinsAt mg p)->FnOk l.prog w (K w.params) mg base CX0 14 e fd ["_law_script"] (jC (K w.params) Pt)) :
  PySem.W.WalkO q loose y i l.row.toRowW d [] (λf vs=>PySem.call f vs) :=
 L2.fQ (n:=63) (k:=14) (x:="_law_script") (CX:=CX0) (sp:=λK=>jC K Pt) [Pt] o (by decide) g ⟨rfl,by decide,by decide,rfl⟩ t (λw mg e h a b c=>⟨λp m=>Jc.mp m ▸ (F w mg e h a b c).1,(F w mg e h a b c).2⟩) (λ_ _ a ns r v j=>⟨a,ns,rfl,v,r,j Pt (.head _),λ_=>rfl⟩) λ_ _ _ _ z=>z
end K43
theorem PySem.W.Fast.tw4630059747174127924:True:=trivial
theorem PySem.W.Fast.tw923176140266352741:True:=trivial
theorem PySem.W.Fast.tw8109390647686542969:True:=trivial
theorem PySem.W.Fast.tw1257170391444985795:True:=trivial
theorem PySem.W.Fast.tw1261823892790473378:True:=trivial
theorem PySem.W.Fast.tw10339825619970983993:True:=trivial
theorem PySem.W.Fast.tw15232117705330870363:True:=trivial
theorem PySem.W.Fast.tw18375932049022506194:True:=trivial
theorem PySem.W.Fast.tw3146441352740869288:True:=trivial
theorem PySem.W.Fast.tw15090123647942300096:True:=trivial
theorem PySem.W.Fast.tw17847283746078936051:True:=trivial
theorem PySem.W.Fast.tw599899163559644856:True:=trivial
theorem PySem.W.Fast.tw5045667164820853301:True:=trivial
theorem PySem.W.Fast.tw12281689983540428893:True:=trivial
theorem PySem.W.Fast.tw3811599494626120320:True:=trivial
theorem PySem.W.Fast.tw15705594975846849923:True:=trivial
theorem PySem.W.Fast.tw4183669830687494167:True:=trivial
theorem PySem.W.Fast.tw16687372654448937845:True:=trivial
theorem PySem.W.Fast.tw6912059946806510698:True:=trivial
theorem PySem.W.Fast.tw11161056756092404969:True:=trivial
theorem PySem.W.Fast.tw16474532298832458599:True:=trivial
theorem PySem.W.Fast.tw6671444762894458732:True:=trivial
theorem PySem.W.Fast.tw8326870735650496774:True:=trivial
theorem PySem.W.Fast.tw2676009830978408389:True:=trivial
theorem PySem.W.Fast.tw7765766242048876500:True:=trivial
theorem PySem.W.Fast.tw7121820875170581134:True:=trivial
theorem PySem.W.Fast.tw5782079314430414552:True:=trivial
theorem PySem.W.Fast.tw144178984251190339:True:=trivial
theorem PySem.W.Fast.tw15821567880824755061:True:=trivial
theorem PySem.W.Fast.tw10838985447311578940:True:=trivial
theorem PySem.W.Fast.tw7888336015346082086:True:=trivial
theorem PySem.W.Fast.tw17373590685482024112:True:=trivial
theorem PySem.W.Fast.tw14217042337313458410:True:=trivial
theorem PySem.W.Fast.tw14626891561922802463:True:=trivial
theorem PySem.W.Fast.tw18320564856732750864:True:=trivial
theorem PySem.W.Fast.tw9231244189861449320:True:=trivial
theorem PySem.W.Fast.tw14632097612874237621:True:=trivial
theorem PySem.W.Fast.tw8794944315247809935:True:=trivial
theorem PySem.W.Fast.tw11036581634345308712:True:=trivial
theorem PySem.W.Fast.tw8786636644106675552:True:=trivial
theorem PySem.W.Fast.tw7778737620471183676:True:=trivial
theorem PySem.W.Fast.tw9823963701113459369:True:=trivial
theorem PySem.W.Fast.tw2722084893430054308:True:=trivial
theorem PySem.W.Fast.tw15577427167227672328:True:=trivial
theorem PySem.W.Fast.tw9345912582682986302:True:=trivial
theorem PySem.W.Fast.tw6010405003495382069:True:=trivial
theorem PySem.W.Fast.tw9714068576003667457:True:=trivial
open PySem PySem.W PyProof.Rows
set_option maxRecDepth 100000 in
set_option maxHeartbeats 0 in
theorem PySem.Challenge.cw_stairlanes_k43_counts_that_come_so_far_holds : PySem.Challenge.rw_stairlanes_k43_counts_that_come_so_far.Holds := by
 w_on;o_law;k_head;(case hw=>w_witness2)
 k_fill
 refine K43.zcA (l:=PySem.Challenge.rw_stairlanes_k43_counts_that_come_so_far) rfl rfl (fun w h Y=>⟨PySem.W.km_in_of Y,PySem.W.km_tabs_of Y⟩) ?F
 case F =>
  intro w mg fa h KX G hmg
  refine' K43.zbR KX G hmg (K43.yO ?a1 ?l1 ?c1 ?k1) (K43.yO ?a2 ?l2 ?c2 ?k2) (K43.yO ?a3 ?l3 ?c3 ?k3) (K43.yO ?a4 ?l4 ?c4 ?k4) (K43.yO ?a5 ?l5 ?c5 ?k5) (K43.yO ?a6 ?l6 ?c6 ?k6) (K43.yO ?a7 ?l7 ?c7 ?k7) (K43.yO ?a8 ?l8 ?c8 ?k8) (K43.yO ?a9 ?l9 ?c9 ?k9) (K43.yO ?a10 ?l10 ?c10 ?k10) (K43.yO ?a11 ?l11 ?c11 ?k11) (K43.yO ?a12 ?l12 ?c12 ?k12) (K43.yO ?a13 ?l13 ?c13 ?k13) (K43.yO ?a14 ?l14 ?c14 ?k14) (K43.yO ?a15 ?l15 ?c15 ?k15) (K43.yO ?a16 ?l16 ?c16 ?k16) (K43.yO ?a17 ?l17 ?c17 ?k17) (K43.yO ?a18 ?l18 ?c18 ?k18) (K43.yO ?a19 ?l19 ?c19 ?k19) (K43.yO ?a20 ?l20 ?c20 ?k20) (K43.yO ?a21 ?l21 ?c21 ?k21) (K43.zbJ ?a22 ?l22 ?c22 ?k22) (K43.yO ?a23 ?l23 ?c23 ?k23) (K43.yO ?a24 ?l24 ?c24 ?k24) (K43.yO ?a25 ?l25 ?c25 ?k25) (K43.yO ?a26 ?l26 ?c26 ?k26) (K43.yO ?a27 ?l27 ?c27 ?k27) (K43.yO ?a28 ?l28 ?c28 ?k28) (K43.yO ?a29 ?l29 ?c29 ?k29) (K43.yO ?a30 ?l30 ?c30 ?k30) (K43.yO ?a31 ?l31 ?c31 ?k31) (K43.yO ?a32 ?l32 ?c32 ?k32) (K43.yO ?a33 ?l33 ?c33 ?k33) (K43.yO ?a34 ?l34 ?c34 ?k34) (K43.yO ?a35 ?l35 ?c35 ?k35) (K43.yO ?a36 ?l36 ?c36 ?k36) (K43.yO ?a37 ?l37 ?c37 ?k37) (K43.yO ?a38 ?l38 ?c38 ?k38) (K43.yO ?a39 ?l39 ?c39 ?k39) ?z1 ?z2 ?z3 ?z4 ?z5 ?z6 ?z7 ?z8 ?z9 ?z10 ?z11 ?z12 ?z13 ?z14 ?z15 ?z16 ?z17 ?aE ?lE ?lN ?uN ?iE ?cCL ?lM ?uM ?iM ?kpE ?y1 ?cCE ?y2 ?y3 (K43.gm ?lH2 ?eH2) ?nB4 ?kP
  (case a1|l1|c1|k1|a2|l2|c2|k2|a3|l3|c3|k3|a4|l4|c4|k4|a5|l5|c5|k5|a6|l6|c6|k6|a7|l7|c7|k7|a8|l8|c8|k8|a9|l9|c9|k9|a10|l10|c10|k10|a11|l11|c11|k11|a12|l12|c12|k12|a13|l13|c13|k13|a14|l14|c14|k14|a15|l15|c15|k15|a16|l16|c16|k16|a17|l17|c17|k17|a18|l18|c18|k18|a19|l19|c19|k19|a20|l20|c20|k20|a21|l21|c21|k21|a22|l22|c22|k22|a23|l23|c23|k23|a24|l24|c24|k24|a25|l25|c25|k25|a26|l26|c26|k26|a27|l27|c27|k27|a28|l28|c28|k28|a29|l29|c29|k29|a30|l30|c30|k30|a31|l31|c31|k31|a32|l32|c32|k32|a33|l33|c33|k33|a34|l34|c34|k34|a35|l35|c35|k35|a36|l36|c36|k36|a37|l37|c37|k37|a38|l38|c38|k38|a39|l39|c39|k39|z1|z2|z3|z4|z5|z6|z7|z8|z9|z10|z11|z12|z13|z14|z15|z16|z17|aE|lE|lN=>k_is)
  (case uN=>simp[PySem.W.nsOkIn,List.lookup])
  (case iE|cCL|lM=>k_is)
  (case uM=>simp[PySem.W.nsOkIn,List.lookup])
  (case iM|kpE|y1|cCE|y2|y3=>k_is)
  (case lH2=>k_is);(case eH2=>rfl);(case nB4=>decide);(case kP=>rfl)
