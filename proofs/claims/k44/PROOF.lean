import PyProof.Rows.All
import Wide.All
import OpenK.AllK
import Wide.FinOn
import Lean
import PyProof.EqAt
import PyProof.EqKinds
import PyProof.TupleCall
import PyProof.NeKinds
import KE.KIntText
import PyProof.TupleOfStr
import PyProof.ReprRoads
import PyProof.NeData
import PyProof.DictKinds
import PyProof.AttrMiss
import PyProof.IsiH_list
import KE.KDictOf
import KE.KSortTup
import KE.KItemsList
import KE.KDictSum
import PyProof.DictWalks
import PyProof.DictItems
import KE.KDictList
import KE.KEqDict
import KE.KPairComp
import PyProof.DictTruth
import PyProof.MeetsDict
import KE.KLam
import KE.KNestM
import PyProof.Defs
import PyProof.P3In
import PyProof.Rows.SortRev
import PyProof.Rows.Range3
import PyProof.DictCompW
import PyProof.EvalArms
import PyProof.AutoIntG2
import KE.KTryMore
import PyProof.ExcClass3
import PySem.Challenge.RW_stairlanes_k44_never_farther_apart
set_option Elab.async false
set_option linter.all false
local macro_rules|`(tactic| lia)=>`(tactic| first|with_reducible(first|assumption|exact Nat.le_of_lt ‹_›|exact Nat.lt_succ_of_le ‹_›|exact Nat.le_succ_of_le ‹_›|exact Nat.le_of_not_lt ‹_›|exact Nat.le_trans ‹_› ‹_›|exact Nat.lt_of_lt_of_le ‹_› ‹_›|exact Nat.sub_one_lt_of_le ‹_› ‹_›)|lia -verbose)
set_option maxRecDepth 100000
local macro_rules|`(tactic|trivial)=>`(tactic|first|exact⟨by rfl,by first|exact Or.inl rfl|exact Or.inr (.inl rfl)|exact Or.inr (.inr rfl),by decide,by decide⟩|exact⟨rfl,rfl,rfl,by decide +kernel,rfl,by decide +kernel,by decide +kernel⟩|exact True.intro|rfl|assumption|exact .inl rfl|exact .inr rfl)
section
open PySem PySem.Spec PyProof.Rows
def J0:=@wpAny_bind
def J2:=@List.getElem?_eq_getElem
def J7:=@Heap.get?_push_of_some
def J8:=@List.getD_eq_getElem?_getD
def J9:=@wpAny_pure
def Ja:=@List.mem_singleton
def Jb:=@List.length_append
def Jc:=@List.length_map
def Jd:=@List.getElem?_eq_some_iff
def Je:=@Nat.le_refl
def Jf:=@List.size_toArray
def Jg:=@if_neg
def Jh:=@Heap.lt_size
def Ji:=@Bool.false_ne_true
def Jj:=@Option.some.inj
def Jk:=@Heap.get?_push_size
def Jm:=@List.not_mem_nil
def Jn:=@List.mem_map
def Jp:=@List.mem_cons
def Jq:=@if_pos
def Jr:=@List.mem_append
def Js:=@List.length_take
def Jt:=@decide_eq_false
def Ju:=@sizeLine_eq
def Jv:=@List.mem_append_right
def Jw:=@List.mem_of_getElem?
def Jx:=@Nat.ne_of_lt
def Jy:=@PySem.W.mg_of
def Jz:=@Nat.lt_of_lt_of_le
def JA:=@List.getElem_mem
def JB:=@wpAny_mono
def JC:=@decide_eq_true
def JD:=@List.nodup_cons
def JE:=@wpAny_newObj_type
def JF:=@List.getElem?_map
def JG:=@List.map_append
def JH:=@List.mem_cons_self
def JJ:=@List.mem_cons_of_mem
def JK:=@List.take_of_length_le
def JL:=@congrArg
def JM:=@Nat.zero_le
def JN:=@Heap.get?_update_other
def JP:=@PassesOwn.never
def JQ:=@Nat.le_trans
def JR:=@List.length_range
def JS:=@PySem.W.mg_none_of
def JT:=@List.append_nil
def JU:=@List.map_cons
def JV:=@List.take_length
def JW:=@PySem.F.plainAttrs_list
def JX:=@List.replicate_succ
def JY:=@PySem.boot_len
def JZ:=@Int.toNat_natCast
def Y0:=@List.append_assoc
def Y1:=@wpAny_seqItems
def Y2:=@wpAny_holding
def Y3:=@PyProof.Rows.callWith_type1
def Y4:=@List.length_replicate
def Y5:=@List.length_cons
def Y6:=@List.mem_append_left
def Y7:=@wpAny_setField_rec
def Y8:=@List.take_append_getElem
def Y9:=@PySem.F.slot_list_append
def Ya:=@PySem.F.type_list_append
def Yb:=@Heap.get?_update_self
def Yc:=@wpAny_dictEntries
def Yd:=@List.mem_range
def Ye:=@Nat.lt_irrefl
def Yf:=@Bool.eq_iff_iff
def Yg:=@wpAny_dictEpoch
def Yh:=@List.length_nil
def Yi:=@List.length_drop
def Yj:=@wpAny_call_entry
def Yk:=@Bool.and_eq_true
def Ym:=@List.lookup_cons
def Yn:=@List.getElem?_append_left
def Yp:=@List.length_pos_iff
def Yq:=@of_decide_eq_true
def Yr:=@Paired.length
def Ys:=@Heap.size_push
def Yt:=@wpAny_Call_Name_kw
def Yu:=@wpAny_standAt
def Yv:=@List.getElem?_append_right
def Yw:=@List.take_succ_eq_append_getElem
def Yx:=@Option.map_eq_some_iff
def Yy:=@List.nodup_nil
def Yz:=@List.find?_cons
def YA:=@F.plain_min_loop
def YB:=@Around.under_plainId
def YC:=@Nat.pow_le_pow_right
def YD:=@List.getElem?_of_mem
def YE:=@plainId_quiet
def YF:=@wpAny_rule
def YG:=@List.length_set
def YH:=@List.forIn_cons
def YJ:=@codeAny_builtin
def YK:=@Nat.ne_of_gt
def YL:=@wpAny_field
def YM:=@wpAny_letGo
def YN:=@List.foldl_append
def YQ:=@List.mem_iff_getElem
def YR:=@Int.compare_eq_gt
def YS:=@PySem.mem_of_lookup
def YT:=@List.map_congr_left
def YU:=@Heap.SameBut.update
def YV:=@List.all_eq_true
def YW:=@Nat.pow_succ
def YX:=@Nat.one_le_two_pow
def YY:=@Nat.min_eq_left
def YZ:=@if_true
def Z0:=@List.flatten_cons
def Z1:=@Nat.lt_succ_of_lt
def Z2:=@Int.compare_eq_lt
def Z3:=@wpAny_tryCatch
def Z4:=@Array.getElem?_eq_some_iff
def Z5:=@Nat.lt_succ_self
def Z6:=@Option.getD_some
def Z7:=@beq_eq_false_iff_ne
def Z8:=@List.take_succ_cons
def Z9:=@Option.isSome_iff_exists
def Za:=@wpAny_passesOwn
def Zb:=@wpAny_updateSeq
def Zc:=@List.length_zip
def Zd:=@assignInOrder_cons
def Ze:=@Calls.spliced_cons
def Zf:=@List.filterMap_map
def Zg:=@List.length_eq_zero_iff
def Zh:=@wpAny_truthy_bool
def Zi:=@wpAny_typeOf
def Zj:=@Calls.callWith_builtin
def Zk:=@or_false
def Zm:=@List.forIn_nil
def Zn:=@List.nodup_append
def Zp:=@Int.compare_eq_eq
def Zq:=@Int.lt_trichotomy
def Zr:=@PyProof.Rows.slot_tuple_getitem
def Zs:=@F.plain_max_loop
def Zt:=@beq_self_eq_true
def Zu:=@wpAny_typeNameOfWhole_itemiter
def Zv:=@Int.le_refl
def Zw:=@F.slot_dict_itemiterator_next
def Zx:=@List.mem_of_mem_take
def Zy:=@wpAny_execs_nil
def Zz:=@List.nil_append
def ZA:=@Bool.or_eq_true
def ZB:=@Nat.not_lt_zero
def ZC:=@size_of_entries
def ZD:=@Int.emod_nonneg
def ZE:=@codeAny_mono
def ZF:=@List.idxOf_lt_length_of_mem
def ZG:=@call_meets
def ZH:=@Int.emod_lt_of_pos
def ZJ:=@List.drop_eq_getElem_cons
def ZK:=@List.getElem?_eq_none_iff
def ZL:=@Calls.spliced_nil
def ZM:=@AutoSeq1.wpAny_loadPart'
def ZN:=@List.take_nil
end
abbrev Jl:=PySem.W.Frag
abbrev Jo:=PySem.Value
abbrev JI:=PySem.Addr
abbrev JO:=PySem.Shared
abbrev Yl:=PySem.FuncData
abbrev Yo:=PySem.Program
abbrev YI:=PySem.World
abbrev YO:=PySem.Around
abbrev YP:=PySem.Heap
namespace L2
open PySem PySem.Spec PyProof.Rows
abbrev Key:=Sum Int Str
def sP:Key->Jo->Bool
  | .inl k,v=>Value.isInt k v
  | .inr x,v=>Value.isStrOf x v
def zbY (w:YI):Key->Int
  | .inl k=>hashInt k
  | .inr x=>hashStr w x
theorem yS:∀ {k:Key}{v:Jo},sP k v=true->(∃ i t,k=Sum.inl i/\v=Value.int i t)\/(∃ x t,k=Sum.inr x/\v=Value.str x t)
  | .inl i,v,h=>by
    obtain⟨t,e⟩:=Value.isInt_shape (k:=i) (v:=v) h
    exact .inl ⟨i,t,rfl,e⟩
  | .inr x,v,h=>by
    obtain⟨t,e⟩:=Value.isStrOf_shape (x:=x) (v:=v) h;exact .inr ⟨x,t,rfl,e⟩
theorem iJ (i:Int)(t:Tok):sP (.inl i) (.int i t)=true:=by simp[sP,Value.isInt]
theorem iI (x:Str)(t:Tok):sP (.inr x) (.str x t)=true:=by simp[sP,Value.isStrOf]
theorem zaD (a b:Int):decide ((Sum.inl a:Key)=Sum.inl b)=(a == b):=by
  by_cases e:a=b
  · subst e;simp
  · have h:¬(Sum.inl a:Key)=Sum.inl b:=λq=>e (Sum.inl.inj q)
    rw[Jt h];exact(Z7.mpr e).symm
theorem zaz (a b:Str):decide ((Sum.inr a:Key)=Sum.inr b)=decide (a=b):=by
  by_cases e:a=b
  · subst e;simp
  · have h:¬(Sum.inr a:Key)=Sum.inr b:=λq=>e (Sum.inr.inj q)
    rw[Jt h,Jt e]
theorem zaC (a:Int)(b:Str):decide ((Sum.inl a:Key)=Sum.inr b)=false:=Jt (λq=>nomatch q)
theorem zaA (a:Str)(b:Int):decide ((Sum.inr a:Key)=Sum.inl b)=false:=Jt (λq=>nomatch q)
def yi (prog:Yo)(w:YI):PySem.KeyKind prog w Key where
  is:=sP
  hash:=zbY w
  inj:=λv a b l f=>by
    rcases yS l with ⟨i,t,rfl,rfl⟩|⟨x,t,rfl,rfl⟩
    · rcases yS f with ⟨j,u,rfl,e⟩|⟨y,u,rfl,e⟩
      · injection e with c _;rw[c]
      · exact nomatch e
    · rcases yS f with ⟨j,u,rfl,e⟩|⟨y,u,rfl,e⟩
      · exact nomatch e
      · injection e with c _;rw[c]
  byValue:=λk v h=>by
    rcases yS h with ⟨i,t,rfl,rfl⟩|⟨x,t,rfl,rfl⟩<;>rfl
  pyHash:=λd h=>by
    rcases yS d with ⟨i,t,rfl,rfl⟩|⟨x,t,rfl,rfl⟩
    · exact wpAny_pyHash_int h
    · exact wpAny_pyHash_str h
  eqBool:=λg d h=>by
    rcases yS g with ⟨i,t,rfl,rfl⟩|⟨x,t,rfl,rfl⟩
    · rcases yS d with ⟨j,u,rfl,rfl⟩|⟨y,u,rfl,rfl⟩
      · rw[zaD]at h;exact wpAny_eqBool_int h
      · rw[zaC]at h;exact SeqAt.EqAt.int_str i t y u _ _ _ _ h
    · rcases yS d with ⟨j,u,rfl,rfl⟩|⟨y,u,rfl,rfl⟩
      · rw[zaA]at h;exact SeqAt.EqAt.str_int x t j u _ _ _ _ h
      · rw[zaz]at h;exact wpAny_eqBool_str h
  «strs»:=λk x t v h=>by
    rcases yS h with ⟨i,u,rfl,e⟩|⟨y,u,rfl,e⟩
    · exact nomatch e
    · injection e with c _
      subst c;cases v<;>rfl
theorem mf (prog:Yo)(w:YI)(k:Key)(v:Jo):(yi prog w).is k v=sP k v:=rfl
theorem oi (prog:Yo)(w:YI)(i:Int)(t:Tok):(yi prog w).is (.inl i) (.int i t)=true:=iJ i t
theorem oh (prog:Yo)(w:YI)(x:Str)(t:Tok):(yi prog w).is (.inr x) (.str x t)=true:=iI x t
inductive V where
  | non|bl (b:Bool)|int (i:Int)|str (x:Str)|byt (b:Array UInt8)|flt (b:UInt64)|ref (a:JI)|ty (n:String)
  deriving DecidableEq
def RelV:V->Jo->Prop
  | .non,u=>u=Value.none
  | .bl b,u=>u=Value.bool b
  | .int i,u=>∃ t,u=Value.int i t
  | .str x,u=>∃ t,u=Value.str x t
  | .byt b,u=>∃ t,u=Value.bytes b t
  | .flt b,u=>∃ t,u=Value.float b t
  | .ref a,u=>u=Value.ref a
  | .ty n,u=>u=Value.type n
abbrev Vals:List V->List Jo->Prop:=Paired RelV
theorem Vals.length {xs:List V}{us:List Jo}(r:Vals xs us):xs.length=us.length:=Yr r
theorem Vals.get:∀ {xs:List V}{us:List Jo}{i:Nat}{x:V},Vals xs us->xs[i]?=some x->∃ u,us[i]?=some u/\RelV x u
  | _,_,_,_,.nil,e=>by simp at e
  | _,_,0,_,.cons r _,e=>by simp at e;subst e;exact⟨_,rfl,r⟩
  | _,_,i+1,x,.cons _ t,e=>by
    obtain⟨u,h1,a⟩:=Vals.get (i:=i) (x:=x) t (by simpa using e);exact⟨u,by simpa using h1,a⟩
theorem Vals.set {x:V}{u:Jo}(r:RelV x u):∀ {xs:List V}{us:List Jo}(i:Nat),Vals xs us->Vals (xs.set i x) (us.set i u)
  | _,_,_,.nil=>.nil
  | _,_,0,.cons _ t=>.cons r t
  | _,_,i+1,.cons q t=>.cons q (Vals.set r i t)
theorem Vals.append:∀ {xs ys:List V}{us ws:List Jo},Vals xs us->Vals ys ws->Vals (xs++ys) (us++ws)
  | _,_,_,_,.nil,s=>s
  | _,_,_,_,.cons r t,s=>.cons r (Vals.append t s)
theorem Vals.take:∀ {xs:List V}{us:List Jo}(n:Nat),Vals xs us->Vals (xs.take n) (us.take n)
  | _,_,0,_=>.nil
  | _,_,_+1,.nil=>.nil
  | _,_,n+1,.cons r t=>.cons r (Vals.take n t)
theorem Vals.drop:∀ {xs:List V}{us:List Jo}(n:Nat),Vals xs us->Vals (xs.drop n) (us.drop n)
  | _,_,0,r=>r
  | _,_,_+1,.nil=>.nil
  | _,_,n+1,.cons _ t=>Vals.drop n t
def RelO:Option V->Option Jo->Prop
  | some v,some u=>RelV v u
  | none,none=>True
  | _,_=>False
def KV {a:Type}:List (a × V)->List (a × Jo)->Prop:=Paired λ(p:a × V) (q:a × Jo)=>p.1=q.1/\RelV p.2 q.2
def kV:Key->V
  | .inl i=>.int i
  | .inr x=>.str x
inductive HO where
  | lst (xs:List V)
  | tup (xs:List V)
  | dK (kvs:List (Key × V))|dT (kvs:List (List Key × V))
  | set (S:Int->Bool) (n:Nat)
  | ins (C dx:JI) (fs:List (Str × V))
  | own (x:JI)
  | xd (fs:List (Str × V))
  | met (f x:JI)
  | rng (lo hi:Int)
  | frz (o:Obj) (u:HO)
  | tbl (ps:Array Jo)
  | ext (φ:YP->Prop)
abbrev Hp:=JI->Option HO
def upd (H:Hp)(a:JI)(o:HO):Hp:=λb=>if b=a then some o else H b
theorem zH {H:Hp}{a:JI}{o:HO}:upd H a o a=some o:=by unfold upd;rw[Jq rfl]
theorem zK {H:Hp}{a b:JI}{o:HO}(h:b≠a):upd H a o b=H b:=by unfold upd;rw[Jg h]
theorem x8 {H:Hp}{a b:JI}{o u:HO}(h:H a=some o)(h':H b=some u)(d:o≠u):a≠b:=by
  intro e;subst e;rw[h]at h';exact d (Jj h')
theorem zJ {H:Hp}{a b:JI}{o:HO}(h:H a=some o)(h':H b=none):a≠b:=by
  intro e;subst e;rw[h]at h';cases h'
def TupX (h:YP)(a:JI)(items:Array Jo):Prop:=∃ o,h.get? a=some o/\o.cls=.type "tuple"/\∃ n,o.data=.seq items n/\o.dict=none
theorem TupX.tup {h:YP}{a:JI}{items:Array Jo}(x:TupX h a items):IsTup h a items:=let ⟨o,e,c,n,d,_⟩:=x;⟨o,e,c,n,d⟩
theorem TupX.new (h:YP)(items:Array Jo):TupX (h.push { cls:=.type "tuple",data:=.seq items }) h.objs.size items:=⟨_,Jk _ rfl,rfl,0,rfl,rfl⟩
section
variable (P:Yo)(w:YI)
def ObjOk (H:Hp)(h:YP)(a:JI):HO->Prop
  | .lst xs=>xs.length<=sizeLine/\∃ (its:List Jo) (n:Nat),Vals xs its/\h.get? a=some { cls:=.type "list",data:=.seq its.toArray n }
  | .tup xs=>xs.length<=sizeLine/\∃ its:List Jo,Vals xs its/\TupX h a its.toArray
  | .dK b=>b.length<=sizeLine/\(a == sysModules)=false/\∃ g,KV b g/\h.DictOf (yi P w) a g
  | .dT b=>b.length<=sizeLine/\(a == sysModules)=false/\∃ xs:List (List Key × JI × Jo),
      Paired (λ(p:List Key × V) (q:List Key × JI × Jo)=>p.1=q.1/\H q.2.1=some (.tup (p.1.map kV))/\RelV p.2 q.2.2) b xs /\
      ∃ o k r,h.get? a=some o/\o.ExactDict/\o.data=.dict k r/\k.toList=xs.map (entryOfKey (tupleKind (yi P w)))/\(xs.map (·.1)).Nodup
  | .set S n=>h.SetOf (intKind P w) a S n
  | .ins C d fs=>H d=some (.own a)/\fs.length<=1000/\d≠a/\h.get? a=some (PySem.W.instObj C d) /\
      ∃ c,h.Ns1 d c/\(∀ f,RelO (fs.lookup f) (c f))/\PySem.Within c (fs.map (·.1))
  | .own _=>∃ o,h.get? a=some o
  | .xd fs=>∃ c,h.Ns1 a c/\∀ f,RelO (fs.lookup f) (c f)
  | .rng lo m=>∃ t u v,h.get? a=some { cls:=.type "range",data:=.fields #[.int lo t,.int m u,.int 1 v] }
  | .frz o u=>h.get? a=some o/\ObjOk H h a u
  | .tbl l=>h.get? a=some { cls:=.none,data:=.fields l }
  | .met f x=>h.get? a=some (PySem.W.methodObj (.ref f) (.ref x))
  | .ext e=>e h/\(∃ o,h.get? a=some o)/\∀ j i:YP,e j->(∀ o,j.get? a=some o->i.get? a=some o)->e i
def HOk (H:Hp)(h:YP):Prop:=∀ a o,H a=some o->ObjOk P w H h a o
end
section
variable {P:Yo}{w:YI}{H H':Hp}{h h':YP}{a:JI}{o:HO}
theorem ObjOk.lt (x:ObjOk P w H h a o):a<h.objs.size:=by
  cases o with
  | lst c=>obtain⟨_,_,_,_,e⟩:=x;exact Jh e
  | tup c=>obtain⟨_,_,_,p⟩:=x;exact p.tup.lt
  | dK b=>obtain⟨_,_,_,_,o,_,_,e,_⟩:=x;exact Jh e
  | dT b=>obtain⟨_,_,_,_,o,_,_,e,_⟩:=x;exact Jh e
  | set S n=>obtain⟨o,_,_,_,e,_⟩:=x;exact Jh e
  | ins C j fs=>obtain⟨_,_,_,e,_⟩:=x;exact Jh e
  | own y=>obtain⟨_,e⟩:=x;exact Jh e
  | xd fs=>obtain⟨_,⟨_,_,_,e,_⟩,_⟩:=x;exact Jh e
  | rng lo i=>obtain⟨_,_,_,e⟩:=x;exact Jh e
  | frz ob u=>obtain⟨e,_⟩:=x;exact Jh e
  | tbl g=>exact Jh (show h.get? a=some _ from x)
  | met f y=>exact Jh (show h.get? a=some _ from x)
  | ext d=>obtain⟨_,⟨_,e⟩,_⟩:=x;exact Jh e
theorem Paired.mapP {α β:Type}{F G:α->β->Prop}:∀ {l₁:List α}{c:List β},Paired F l₁ c->(∀ a b,F a b->G a b)->Paired G l₁ c
  | _,_,.nil,_=>.nil
  | _,_,.cons r t,f=>.cons (f _ _ r) (Paired.mapP t f)
theorem ObjOk.stay (x:ObjOk P w H h a o)(k:∀ b u,(b=a\/H b=some (.own a))->h.get? b=some u->h'.get? b=some u)(E:∀ b,H b=some (.own a)->H' b=some (.own a))(D:∀ b xs,H b=some (.tup xs)->H' b=some (.tup xs)):ObjOk P w H' h' a o:=by
  induction o with
  | lst xs=>obtain⟨z,j,n,r,e⟩:=x;exact⟨z,j,n,r,k _ _ (.inl rfl) e⟩
  | tup xs=>obtain⟨z,j,r,ob,e,c⟩:=x;exact⟨z,j,r,ob,k _ _ (.inl rfl) e,c⟩
  | dK s=>obtain⟨z,y,B,r,ob,g,i,e,c⟩:=x;exact⟨z,y,B,r,ob,g,i,k _ _ (.inl rfl) e,c⟩
  | dT s =>
    obtain⟨z,y,xs,r,ob,g,i,e,c⟩:=x
    exact⟨z,y,xs,Paired.mapP r λp q z=>⟨z.1,D _ _ z.2.1,z.2.2⟩,ob,g,i,k _ _ (.inl rfl) e,c⟩
  | set S n=>obtain⟨ob,g,i,t,e,c⟩:=x;exact⟨ob,g,i,t,k _ _ (.inl rfl) e,c⟩
  | ins C I fs =>
    obtain⟨d,z,ne,e,m,⟨l,g,i,e2,c⟩,r⟩:=x
    exact⟨E _ d,z,ne,k _ _ (.inl rfl) e,m,⟨l,g,i,k _ _ (.inr d) e2,c⟩,r⟩
  | own y=>obtain⟨ob,e⟩:=x;exact⟨ob,k _ _ (.inl rfl) e⟩
  | xd fs=>obtain⟨m,⟨l,g,i,e,c⟩,r⟩:=x;exact⟨m,⟨l,g,i,k _ _ (.inl rfl) e,c⟩,r⟩
  | rng lo G=>obtain⟨t,u,v,e⟩:=x;exact⟨t,u,v,k _ _ (.inl rfl) e⟩
  | frz ob u ih=>obtain⟨e,q⟩:=x;exact⟨k _ _ (.inl rfl) e,ih q⟩
  | tbl A =>
    have e:h.get? a=some { cls:=.none,data:=.fields A }:=x;show h'.get? a=some { cls:=.none,data:=.fields A }
    exact k a _ (.inl rfl) e
  | met f y =>
    have e:h.get? a=some (PySem.W.methodObj (.ref f) (.ref y)):=x;show h'.get? a=some (PySem.W.methodObj (.ref f) (.ref y))
    exact k a _ (.inl rfl) e
  | ext F=>obtain⟨p,⟨o,e⟩,st⟩:=x;exact⟨st _ _ p λo q=>k _ _ (.inl rfl) q,⟨o,k _ _ (.inl rfl) e⟩,st⟩
theorem HOk.lt (x:HOk P w H h)(e:H a=some o):a<h.objs.size:=(x a o e).lt
theorem HOk.fresh (x:HOk P w H h)(e:h.objs.size<=a):H a=none:=by
  cases q:H a with
  | none=>rfl
  | some u=>exact absurd (Jz (x.lt q) e) (Ye _)
theorem HOk.kept (x:HOk P w H h)(k:∀ b u,h.get? b=some u->h'.get? b=some u):HOk P w H h':=λa o e =>
  (x a o e).stay (λb u _ q=>k b u q) (λ_ q=>q) λ_ _ q=>q
theorem HOk.laid (x:HOk P w H h)(k:∀ b u,h.get? b=some u->h'.get? b=some u)(g:h.objs.size<=a)(new:ObjOk P w (upd H a o) h' a o):HOk P w (upd H a o) h':=λb u e=>by
  have d:=x.fresh g;by_cases f:b=a
  · subst f;rw[zH]at e;cases e;exact new
  · rw[zK f]at e
    exact(x b u e).stay (λc v _ q=>k c v q) (λc q=>by rw[zK (zJ q d)];exact q) λc i q=>by rw[zK (zJ q d)];exact q
end
def Rd (H:Hp)(a:JI)(u:HO):Prop:=H a=some u\/∃ o,H a=some (.frz o u)
theorem Rd.ok {P:Yo}{w:YI}{H:Hp}{h:YP}{a:JI}{u:HO}(r:Rd H a u)(x:HOk P w H h):ObjOk P w H h a u:=by
  rcases r with r|⟨o,r⟩
  · exact x a u r
  · obtain⟨_,q⟩:=x a _ r
    exact q
def Mut:Option HO->Prop
  | some (.lst _)=>True
  | some (.dK _)=>True
  | some (.dT _)=>True
  | some (.set _ _)=>True
  | some (.ins _ _ _)=>True
  | some (.ext _)=>True
  | _=>False
section
variable {P:Yo}{w:YI}{H:Hp}{h h':YP}{x e:JI}{o':HO}
theorem HOk.write (ok:HOk P w H h)(i:Mut (H x))(o:e=x\/H e=some (.own x))(k:∀ b u,b≠e->h.get? b=some u->h'.get? b=some u)(m:∃ u,h'.get? e=some u)(new:ObjOk P w (upd H x o') h' x o'):HOk P w (upd H x o') h':=λb u q=>by
  have d:∀ c y,H c=some (.own y)->c≠x:=λc y r z=>by subst z;rw[r]at i;exact i
  have f:∀ c g,H c=some (.tup g)->c≠x:=λc g r z=>by subst z;rw[r]at i;exact i
  by_cases l:b=x
  · subst l;rw[zH]at q;cases q;exact new
  · rw[zK l]at q
    by_cases a:b=e
    · have n:H b=some (.own x):=by
        rcases o with z|z
        · exact absurd (a.trans z) l
        · rw[a];exact z
      rw[q]at n;cases n;obtain⟨v,p⟩:=m;exact⟨v,by rw[a];exact p⟩
    · refine(ok b u q).stay (λc v j r=>k c v ?_ r) (λc r=>by rw[zK (d c b r)];exact r) λc g r=>by rw[zK (f c g r)];exact r
      rcases j with rfl|j
      · exact a
      · rintro rfl
        rcases o with z|z
        · exact d c b j z
        · rw[j]at z;cases z;exact l rfl
end
structure Un (fs ex:List JI) (H H':Hp) (h h':YP):Prop where
  keep:∀ b o,h.get? b=some o->H b=none->b∉fs->b∉ex->h'.get? b=some o
  slot:∀ b o,h.get? b=some o->H b=none->b∈fs->b∉ex->∃ sl,h'.get? b=some { o with slots:=sl }
  free:∀ b o,h.get? b=some o->H b=none->b∉ex->H' b=none
  there:∀ b o,h.get? b=some o->b∉ex->∃ o',h'.get? b=some o'
  tups:∀ b xs,H b=some (.tup xs)->H' b=some (.tup xs)
  frzs:∀ b o u,H b=some (.frz o u)->H' b=some (.frz o u)
  tbls:∀ b ps,H b=some (.tbl ps)->∃ more,H' b=some (.tbl (ps++more))
section
variable {fs ex:List JI}{H H1:Hp}{h h1 h':YP}{a x e:JI}{o:HO}
theorem Un.any (u:Un fs ex H H1 h h1){b:JI}{ob:Obj}(q:h.get? b=some ob)(n:H b=none)(a:b∉ex):∃ sl,h1.get? b=some { ob with slots:=sl }:=by
  by_cases c:b∈fs
  · exact u.slot b ob q n c a
  · exact⟨ob.slots,u.keep b ob q n c a⟩
theorem Un.kept (k:∀ b u,h.get? b=some u->h'.get? b=some u):Un fs ex H H h h' :=
  ⟨λb ob q _ _ _=>k b ob q,λb ob q _ _ _=>⟨ob.slots,k b ob q⟩,λ_ _ _ n _=>n,λb ob q _=>⟨ob,k b ob q⟩,λ_ _ q=>q,λ_ _ _ q=>q,λ_ a q=>⟨#[],by rw[q];simp⟩⟩
theorem Un.refl:Un fs ex H H h h:=Un.kept λ_ _ q=>q
theorem Un.laid (k:∀ b u,h.get? b=some u->h'.get? b=some u)(e:h.objs.size<=a)(c:H a=none):Un fs ex H (upd H a o) h h' where
  keep:=λb u q _ _ _=>k b u q
  slot:=λb u q _ _ _=>⟨u.slots,k b u q⟩
  free:=λb u q n _=>by rw[zK (Jx (Jz (Jh q) e))];exact n
  there:=λb u q _=>⟨u,k b u q⟩
  tups:=λb d q=>by rw[zK (zJ q c)];exact q
  frzs:=λb u d q=>by rw[zK (zJ q c)];exact q
  tbls:=λb f q=>⟨#[],by rw[zK (zJ q c),q];simp⟩
theorem Un.write (c:Mut (H x))(l:e=x\/H e=some (.own x))(k:∀ b u,b≠e->h.get? b=some u->h'.get? b=some u)(f:∃ u,h'.get? e=some u):Un fs ex H (upd H x o) h h':=by
  have g:∀ b,H b=none->b≠x:=λb n z=>by subst z;rw[n]at c;exact c
  have i:∀ b,H b=none->b≠e:=λb n z=>by
    subst z;rcases l with r|r
    · exact g b n r
    · rw[n]at r;cases r
  have d:∀ b u,H b=some u->¬ Mut (some u)->b≠x:=λb u q nm z=>by subst z;rw[q]at c;exact nm c
  refine⟨λb u q n _ _=>k b u (i b n) q,λb u q n _ _=>⟨u.slots,k b u (i b n) q⟩,λb u q n _=>by rw[zK (g b n)];exact n,λb u q _=>?_,
    λb j q=>by rw[zK (d b _ q λz=>z)];exact q,λb u j q=>by rw[zK (d b _ q λz=>z)];exact q,λb m q=>⟨#[],by rw[zK (d b _ q λz=>z),q];simp⟩⟩
  by_cases a:b=e
  · subst a;exact f
  · exact⟨u,k b u a q⟩
end
def trk (h:YP)(H:Hp):List JI:=(List.range h.objs.size).filter λa=>(H a).isSome
def sy (h:YP)(H:Hp):YP:=PySem.W.hideAll h (trk h H)
theorem iL (h:YP)(H:Hp):(sy h H).objs.size=h.objs.size:=PySem.W.hideAll_size _ _
theorem dh {h:YP}{H:Hp}{b:JI}{o:Obj}(e:h.get? b=some o)(n:H b=none):(sy h H).get? b=some o :=
  PySem.W.hideAll_get _ e λa=>by
    have q:(H b).isSome=true:=(List.mem_filter.mp a).2;rw[n]at q;simp at q
theorem bU {h:YP}{H:Hp}{b:JI}{o:Obj}(e:(sy h H).get? b=some o):h.get? b=some o/\H b=none:=by
  have a:h.get? b=some o:=PySem.W.of_hideAll (trk h H) e;refine⟨a,?_⟩
  cases q:H b with
  | none=>rfl
  | some x =>
    have c:b∈trk h H:=List.mem_filter.mpr ⟨Yd.mpr (Jh a),by simp[q]⟩;have z:(sy h H).get? b=none:=PySem.W.hideAll_none (trk h H) c;rw[z]at e;cases e
def aH (g h:YP)(L:JI):List (JI × Obj):=(List.range h.objs.size).filterMap λa=>if a=L\/(g.get? a).isSome=true then none else (h.get? a).map λo=>(a,o)
def rest (g h:YP)(L d:JI):List (JI × Obj):=(aH g h L).filter λp=>decide (p.1≠d)
structure Mod (K:Jl) (mg:Str->Option Jo) (base:YP):Prop where
  kin:K.In base
  glob:base.Ns mainGlobals mg
  blt:∃ mb,base.Ns builtinsNs mb/\∀ x:Str,x≠"__name__"->mb x=bootBuiltins x
  nolimit:base.NoLimit
structure Cx where
  prog:Yo
  w:YI
  K:Jl
  mg:Str->Option Jo
  base:YP
  A:YO
  N:List Str
  s₀:JO
  H₀:Hp
  env:Env
  outer:List Env
  stack:List Env
  ex:List JI
  fn:Str->Bool
  calm:Bool
  pn:List (JI × Obj)
  xe:Jo->JO->Prop
def frs (l:List Env):List JI:=l.filterMap (·.frame)
abbrev Cx.fs (X:Cx):List JI:=frs X.outer
def Vis (sc:Scope)(x:Str):Prop:=sc.names.lookup x=some .local \/ sc.names.lookup x=some .cell\/sc.names.lookup x=some .free
def Loc (sc:Scope)(x:Str):Prop:=sc.names.lookup x=some .local \/ sc.names.lookup x=some .cell
def Look (env:Env)(h:YP)(m:Str->Option Jo)(x:Str)(u:Jo):Prop :=
  (env.kindOf x=some .local /\ m x=some u)\/((env.kindOf x=some .cell\/env.kindOf x=some .free)/\∃ c,env.cells.lookup x=some c/\h.IsCell c (some u))
structure Cx.Ok (X:Cx):Prop where
  mod:Mod X.K X.mg X.base
  kind:X.env.scope.kind=.function
  glob:X.env.globals=mainGlobals
  blt:X.env.builtins=builtinsNs
  above:X.s₀.heap.objs.size<=X.env.locals
  inj:∀ x y c,X.env.cells.lookup x=some c->X.env.cells.lookup y=some c->x=y
  has:∀ x,(X.env.kindOf x=some .cell\/X.env.kindOf x=some .free)->∃ c,X.env.cells.lookup x=some c
  cab:∀ x c,X.fn x=true->X.env.cells.lookup x=some c->X.s₀.heap.objs.size<=c
  hd:X.calm=true->X.A.handled=none
  frames:X.A.frames=some X.stack
  stk:X.stack=X.outer\/(X.stack=X.env::X.outer/\X.env.frame=some X.env.locals)
  exf:∀ b∈X.ex,b≠X.env.locals/\∀ x c,X.env.cells.lookup x=some c->c≠b
  bs:∀ b o,X.base.get? b=some o->X.s₀.heap.get? b=some o/\X.H₀ b=none
  bsz:X.base.objs.size<=X.s₀.heap.objs.size
  noex:∀ b o,X.base.get? b=some o->b∉X.ex
  exfs:∀ b∈X.ex,b∉X.fs
  funs:X.s₀.heap.FunFrames X.base X.outer
  frf:∀ b∈X.fs,X.H₀ b=none
structure Inv (X:Cx) (pins:List (JI × Obj)) (σ:List (Option V)) (H:Hp) (s:JO):Prop where
  ok:X.Ok
  os:s.os=X.s₀.os
  bare:AllBare s.gens
  base:Un X.fs X.ex X.H₀ H X.s₀.heap s.heap
  loc:∃ m,s.heap.Ns X.env.locals m/\∀ (i:Nat) (x:Str) (v:V),X.N[i]?=some x->σ[i]?=some (some v)->Vis X.env.scope x->∃ u,RelV v u/\Look X.env s.heap m x u
  cell:∀ x c,X.env.cells.lookup x=some c->∃ v,s.heap.IsCell c v
  free:H X.env.locals=none
  freeC:∀ x c,X.env.cells.lookup x=some c->H c=none
  pin:∀ p∈X.pn++pins,s.heap.get? p.1=some p.2/\H p.1=none/\p.1≠X.env.locals/\p.1∉X.fs/\∀ v,p.2.data≠.cell v
  hok:HOk X.prog X.w H s.heap
  len:σ.length=X.N.length
section
variable {X:Cx}{pins:List (JI × Obj)}{σ:List (Option V)}{H H':Hp}{s:JO}{h':YP}
theorem Cx.Ok.nofr (ok:X.Ok){b:JI}{o:Obj}(e:X.base.get? b=some o):b∉X.fs:=λa=>by
  have:=(ok.funs.mem a).1;rw[e]at this;cases this
theorem Inv.bs (I:Inv X pins σ H s):∀ b o,X.base.get? b=some o->s.heap.get? b=some o/\H b=none:=λb o e =>
  ⟨I.base.keep b o (I.ok.bs b o e).1 (I.ok.bs b o e).2 (I.ok.nofr e) (I.ok.noex b o e),I.base.free b o (I.ok.bs b o e).1 (I.ok.bs b o e).2 (I.ok.noex b o e)⟩
theorem Inv.bk (I:Inv X pins σ H s):∀ b o,X.base.get? b=some o->s.heap.get? b=some o:=λb o e=>(I.bs b o e).1
theorem Inv.mod (I:Inv X pins σ H s):Mod X.K X.mg X.base:=I.ok.mod
theorem Inv.kIn (I:Inv X pins σ H s):X.K.In s.heap:=I.ok.mod.kin.keeps I.bk
theorem Inv.lt (I:Inv X pins σ H s):X.env.locals<s.heap.objs.size:=let ⟨_,a,_⟩:=I.loc;a.lt
theorem Inv.sz (I:Inv X pins σ H s):X.s₀.heap.objs.size<=s.heap.objs.size:=JQ I.ok.above (Nat.le_of_lt I.lt)
theorem Inv.nofs (I:Inv X pins σ H s){a:JI}(h:s.heap.objs.size<=a):a∉X.fs:=λc=>by
  obtain⟨_,o,b,_⟩:=I.ok.funs.mem c;exact absurd (Jz (Jh b) (JQ I.sz h)) (Ye _)
theorem Inv.cne (I:Inv X pins σ H s):∀ x c,X.env.cells.lookup x=some c->c≠X.env.locals:=λx c e z=>by
  obtain⟨v,o,d,f⟩:=I.cell x c e;obtain⟨m,⟨g,h,i,a,b,_⟩,_⟩:=I.loc;rw[z,a]at d;cases d;rw[b]at f;cases f
theorem Inv.funs (I:Inv X pins σ H s):s.heap.FunFrames X.base X.outer:=by
  have all:∀ (l:List Env),(∀ b∈frs l,b∈X.fs)->X.s₀.heap.FunFrames X.base l->s.heap.FunFrames X.base l:=by
    intro l
    induction l with
    | nil=>intro _ _;trivial
    | cons env r ih =>
      intro f j;obtain⟨k,⟨L,o,a,i,h,m⟩,g⟩:=j;have d:L∈X.fs:=f L (by unfold frs;rw[List.filterMap_cons,a];exact JH);obtain⟨n,e⟩:=I.base.slot L o h (I.ok.frf L d) d λz=>I.ok.exfs L z d;exact⟨k,⟨L,_,a,i,e,m⟩,ih (λb c=>f b (by unfold frs;rw[List.filterMap_cons,a];exact JJ _ c)) g⟩
  exact all X.outer (λ_ c=>c) I.ok.funs
theorem Inv.stack (I:Inv X pins σ H s):s.heap.FunFrames X.base X.stack:=by
  rcases I.ok.stk with e|⟨e,b⟩
  · rw[e];exact I.funs
  · rw[e]
    obtain⟨m,a,_⟩:=I.loc;refine .cons (by rw[I.ok.kind];decide) b a ?_ I.funs;exact Heap.get?_none_of_le (JQ I.ok.bsz I.ok.above)
theorem Inv.stkSub (I:Inv X pins σ H s):∀ b∈frs X.stack,b∈X.env.locals::X.fs:=λb a=>by
  rcases I.ok.stk with e|⟨e,c⟩
  · rw[e]at a;exact JJ _ a
  · rw[e]at a
    unfold frs at a;rw[List.filterMap_cons,c]at a;exact a
theorem Inv.stkFree (I:Inv X pins σ H s):∀ b∈frs X.stack,H b=none:=λb a=>by
  rcases Jp.mp (I.stkSub b a) with e|a
  · rw[e];exact I.free
  · obtain⟨_,o,c,_⟩:=I.ok.funs.mem a
    exact I.base.free b o c (I.ok.frf b a) λz=>I.ok.exfs b z a
theorem Inv.step {g':Array GenState}{t':Nat}{d':Drawn}{ch:List JI}(I:Inv X pins σ H s)(g:∀ b∈ch,(b∈X.ex\/X.s₀.heap.objs.size<=b)/\b≠X.env.locals/\(∀ x c,X.env.cells.lookup x=some c->c≠b)/\∀ p∈X.pn++pins,p.1≠b)(keep:∀ b o,b≠X.env.locals->b∉X.fs->b∉ch->s.heap.get? b=some o->H b=none->h'.get? b=some o)(slot:∀ b o,b≠X.env.locals->b∈X.fs->b∉ch->s.heap.get? b=some o->H b=none->∃ sl,h'.get? b=some { o with slots:=sl })(free:∀ b o,b∉ch->s.heap.get? b=some o->H b=none->H' b=none)(there:∀ b o,b∉ch->s.heap.get? b=some o->∃ A,h'.get? b=some A)(tups:∀ b t,H b=some (.tup t)->H' b=some (.tup t))(D:∀ b o u,H b=some (.frz o u)->H' b=some (.frz o u))(C:∀ b E,H b=some (.tbl E)->∃ more,H' b=some (.tbl (E++more)))(ns:∀ m,s.heap.Ns X.env.locals m->h'.Ns X.env.locals m)(J:HOk X.prog X.w H' h')(R:AllBare g') :
    Inv X pins σ H' { s with heap:=h',gens:=g',drawn:=d',toks:=t' }:=by
  have B:∀ b o,X.s₀.heap.get? b=some o->b≠X.env.locals:=λb o e=>Jx (Jz (Jh e) I.ok.above)
  have j:∀ b o,X.s₀.heap.get? b=some o->b∉X.ex->b∉ch:=λb o e a w=>by
    rcases (g b w).1 with z|z
    · exact a z
    · exact absurd (Jz (Jh e) z) (Ye _)
  have cellK:∀ x c,X.env.cells.lookup x=some c->∀ v,s.heap.IsCell c v->h'.IsCell c v:=λx c e v ⟨o,y,F⟩=>by
    have f:c∉ch:=λz=>(g c z).2.2.1 x c e rfl;by_cases M:c∈X.fs
    · obtain⟨sl,q⟩:=slot c o (I.cne x c e) M f y (I.freeC x c e)
      exact⟨_,q,F⟩
    · exact⟨o,keep c o (I.cne x c e) M f y (I.freeC x c e),F⟩
  refine⟨I.ok,I.os,R,⟨λb o e n w a=>?_,λb o e n w a=>?_,λb o e n a=>?_,λb o e a=>?_,λb t e=>tups b t (I.base.tups b t e),λb o t e=>D b o t (I.base.frzs b o t e),λb E e=>?_⟩,?_,λx c e=>?_,?_,λx c e=>?_,λp L=>?_,J,I.len⟩
  · exact keep b o (B b o e) w (j b o e a) (I.base.keep b o e n w a) (I.base.free b o e n a)
  · obtain⟨sl,h⟩:=I.base.slot b o e n w a
    obtain⟨G,e2⟩:=slot b _ (B b o e) w (j b o e a) h (I.base.free b o e n a);exact⟨G,e2⟩
  · obtain⟨A,h⟩:=I.base.there b o e a
    exact free b A (j b o e a) h (I.base.free b o e n a)
  · obtain⟨A,h⟩:=I.base.there b o e a
    exact there b A (j b o e a) h
  · obtain⟨O,h⟩:=I.base.tbls b E e
    obtain⟨N,e2⟩:=C b _ h;exact⟨O++N,by rw[e2,Array.append_assoc]⟩
  · obtain⟨m,P,Q⟩:=I.loc
    refine⟨m,ns m P,λi x v h e2 S=>?_⟩;obtain⟨u,r,l⟩:=Q i x v h e2 S;refine⟨u,r,?_⟩;rcases l with l|⟨k,c,e,z⟩
    · exact .inl l
    · exact .inr ⟨k,c,e,cellK x c e _ z⟩
  · obtain⟨v,z⟩:=I.cell x c e
    exact⟨v,cellK x c e v z⟩
  · obtain⟨m,⟨o,_,_,y,_⟩,_⟩:=I.loc
    exact free _ o (λz=>(g _ z).2.1 rfl) y I.free
  · obtain⟨v,o,y,F⟩:=I.cell x c e
    exact free c o (λz=>(g c z).2.2.1 x c e rfl) y (I.freeC x c e)
  · obtain⟨e,n,ne,K,d⟩:=I.pin p L
    have f:p.1∉ch:=λz=>(g p.1 z).2.2.2 p L rfl;exact⟨keep p.1 p.2 ne K f e n,free p.1 p.2 f e n,ne,K,d⟩
theorem Inv.un {t':Nat}(I:Inv X pins σ H s)(u:Un X.fs [] H H' s.heap h')(hok:HOk X.prog X.w H' h'):Inv X pins σ H' { s with heap:=h',toks:=t' }:=by
  obtain⟨m,⟨o,q,t,g,r⟩,_⟩:=id I.loc;obtain⟨k,j⟩:=u.any g I.free (by simp)
  exact I.step (g':=s.gens) (d':=s.drawn) (ch:=[]) (λ_ z=>nomatch z) (λb o _ c _ e n=>u.keep b o e n c (by simp)) (λb o _ c _ e n=>u.slot b o e n c (by simp)) (λb o _ e n=>u.free b o e n (by simp)) (λb o _ e=>u.there b o e (by simp)) u.tups u.frzs u.tbls (λp i=>by
    obtain⟨l,d,f,a,h⟩:=i;rw[g]at a;cases a
    exact⟨_,d,f,j,h⟩) hok I.bare
theorem Inv.call {g':Array GenState}{t':Nat}{d':Drawn}{ch:List JI}(I:Inv X pins σ H s)(u:Un (frs X.stack) ch H H' s.heap h')(hok:HOk X.prog X.w H' h')(q:AllBare g')(f:∀ b∈ch,(b∈X.ex\/X.s₀.heap.objs.size<=b)/\b≠X.env.locals/\(∀ x c,X.env.cells.lookup x=some c->c≠b)/\∀ p∈X.pn++pins,p.1≠b) :
    Inv X pins σ H' { s with heap:=h',gens:=g',drawn:=d',toks:=t' }:=by
  obtain⟨m,⟨o,A,B,j,r⟩,_⟩:=id I.loc;obtain⟨v,g⟩:=u.any j I.free λz=>(f _ z).2.1 rfl
  exact I.step (ch:=ch) f (λb o g t a e n=>u.keep b o e n (λz=>(Jp.mp (I.stkSub b z)).elim g t) a) (λb o _ _ a e n=>u.any e n a) (λb o a e n=>u.free b o e n a) (λb o a e=>u.there b o e a) u.tups u.frzs u.tbls (λy l=>by
    obtain⟨w,h,i,d,k⟩:=l;rw[j]at d;cases d
    exact⟨_,h,i,g,k⟩) hok q
theorem Inv.turned {t':Nat}{it:JI}(I:Inv X pins σ H s)(k:∀ b o,b≠it->s.heap.get? b=some o->h'.get? b=some o)(h:H it=none)(f:it≠X.env.locals)(h1:it∈X.ex\/X.s₀.heap.objs.size<=it)(t:∀ x c,X.env.cells.lookup x=some c->c≠it)(l:∀ p∈X.pn++pins,p.1≠it):Inv X pins σ H { s with heap:=h',toks:=t' }:=by
  have d:∀ b u,H b=some u->b≠it:=λb u e z=>by rw[z,h]at e;cases e
  refine I.step (g':=s.gens) (d':=s.drawn) (ch:=[it]) (λb j=>?_) (λb o _ _ a e _=>k b o (λz=>a (by simp[z])) e) (λb o _ _ a e _=>⟨o.slots,k b o (λz=>a (by simp[z])) e⟩) (λ_ _ _ _ n=>n)
    (λb o a e=>⟨o,k b o (λz=>a (by simp[z])) e⟩) (λ_ _ e=>e) (λ_ _ _ e=>e) (λb A e=>⟨#[],by rw[e];simp⟩) (λm i=>?_) (λb u e=>?_) I.bare
  · have e:b=it:=by simpa using j
    subst e;exact⟨h1,f,t,l⟩
  · obtain⟨o,w,y,g,r⟩:=i
    exact⟨o,w,y,k _ o (Ne.symm f) g,r⟩
  · refine(I.hok b u e).stay (λc v a q=>k c v ?_ q) (λ_ q=>q) λ_ _ q=>q
    rcases a with z|z
    · rw[z];exact d b u e
    · exact d c _ z
theorem Inv.tok (I:Inv X pins σ H s)(t:Nat):Inv X pins σ H { s with toks:=t }:=I.un (h':=s.heap) (t':=t) Un.refl I.hok
theorem Inv.kept {t':Nat}(I:Inv X pins σ H s)(k:∀ b u,s.heap.get? b=some u->h'.get? b=some u):Inv X pins σ H { s with heap:=h',toks:=t' }:=I.un (Un.kept k) (I.hok.kept k)
theorem Inv.laid {a:JI}{o:HO}{t':Nat}(I:Inv X pins σ H s)(k:∀ b u,s.heap.get? b=some u->h'.get? b=some u)(c:s.heap.objs.size<=a)(new:ObjOk X.prog X.w (upd H a o) h' a o) :
    Inv X pins σ (upd H a o) { s with heap:=h',toks:=t' }:=I.un (Un.laid k c (I.hok.fresh c)) (I.hok.laid k c new)
theorem Inv.write {x e:JI}{o:HO}{t':Nat}(I:Inv X pins σ H s)(c:Mut (H x))(d:e=x\/H e=some (.own x))(k:∀ b u,b≠e->s.heap.get? b=some u->h'.get? b=some u)(a:∃ u,h'.get? e=some u)(new:ObjOk X.prog X.w (upd H x o) h' x o):Inv X pins σ (upd H x o) { s with heap:=h',toks:=t' }:=I.un (Un.write c d k a) (I.hok.write c d k a new)
theorem Inv.pins_of {a:List (JI × Obj)}(I:Inv X pins σ H s)(h:∀ p∈a,s.heap.get? p.1=some p.2/\H p.1=none/\p.1≠X.env.locals/\p.1∉X.fs/\∀ v,p.2.data≠.cell v):Inv X a σ H s :=
  ⟨I.ok,I.os,I.bare,I.base,I.loc,I.cell,I.free,I.freeC,λp b=>(Jr.mp b).elim (λz=>I.pin p (Y6 _ z)) (h p),I.hok,I.len⟩
theorem oW {N:List Str}(c:N.Nodup){i j:Nat}{x:Str}(a:N[i]?=some x)(b:N[j]?=some x):i=j:=by
  obtain⟨f,d⟩:=Jd.mp a;obtain⟨e,e2⟩:=Jd.mp b;exact(List.getElem_inj c).mp (d.trans e2.symm)
theorem rH {M:Model}{A:YO}{E:Jo->JO->Prop}{i:Nat}{x:Str}{v:V}{u:Jo}{Q:Unit->JO->Prop}(I:Inv X pins σ H s)(hN:X.N.Nodup)(hi:X.N[i]?=some x)(t:Loc X.env.scope x)(r:RelV v u)(h:∀ s',Inv X pins (σ.set i (some v)) H s'->(∃ a,Heap.SameBut a s.heap s'.heap/\(a=X.env.locals\/X.env.cells.lookup x=some a))->Q () s')(hf:X.fn x=true\/X.env.scope.names.lookup x=some .local:=by first|exact .inl rfl|exact .inr rfl|assumption):wpAny M A (storeName X.env x u) Q E s:=by
  obtain⟨m,hn,hl⟩:=id I.loc;have O:(X.env.scope.kind == .class || (X.env.scope.kind == .module && X.env.locals != X.env.globals))=false:=by rw[I.ok.kind];rfl
  have C:i<σ.length:=by rw[I.len];exact(Jd.mp hi).1
  have cne:=I.cne
  have tracked:∀ {a:JI}{h':YP},(∃ o,s.heap.get? a=some o/\H a=none)->Heap.SameBut a s.heap h'->HOk X.prog X.w H h':=λ{a h'} ha f b ob e=>by
    obtain⟨_,_,w⟩:=ha;refine(I.hok b ob e).stay (λc P l q=>(f.2 c ?_).trans q) (λ_ q=>q) λ_ _ q=>q;rintro rfl;rcases l with rfl|l
    · rw[w]at e;cases e
    · rw[w]at l;cases l
  rcases t with B|B
  · refine wpAny_storeName_local B hn (λh' aE f=>?_) O
    obtain⟨oL,_,_,ab,_⟩:=id hn;refine h _ ⟨I.ok,I.os,I.bare,⟨λb o e n F t=>?_,λb o e n F t=>?_,I.base.free,λb o e t=>?_,I.base.tups,I.base.frzs,I.base.tbls⟩,⟨_,aE,λj y S g e2 e3=>?_⟩,λy c e=>?_,I.free,I.freeC,λp hp=>?_,tracked ⟨oL,ab,I.free⟩ f,by simpa using I.len⟩ ⟨_,f,.inl rfl⟩
    · exact(f.2 b (Jx (Jz (Jh e) I.ok.above))).trans (I.base.keep b o e n F t)
    · obtain⟨U,g⟩:=I.base.slot b o e n F t
      exact⟨U,(f.2 b (Jx (Jz (Jh e) I.ok.above))).trans g⟩
    · obtain⟨Y,g⟩:=I.base.there b o e t
      exact⟨Y,(f.2 b (Jx (Jz (Jh e) I.ok.above))).trans g⟩
    · by_cases D:j=i
      · subst D
        rw[hi]at g;cases g;rw[List.getElem?_set_self C]at e2;cases e2;exact⟨u,r,.inl ⟨B,by simp⟩⟩
      · rw[List.getElem?_set_ne (Ne.symm D)]at e2
        obtain⟨T,W,q⟩:=hl j y S g e2 e3;refine⟨T,W,?_⟩;rcases q with ⟨k,e⟩|⟨k,c,e,z⟩
        · refine .inl ⟨k,?_⟩
          have:y≠x:=λe=>D (oW hN g (e ▸ hi));simp[this,e]
        · exact .inr ⟨k,c,e,z.sameBut f (cne y c e)⟩
    · obtain⟨P,z⟩:=I.cell y c e
      exact⟨P,z.sameBut f (cne y c e)⟩
    · obtain⟨e,n,ne,Z,d⟩:=I.pin p hp
      exact⟨(f.2 p.1 ne).trans e,n,ne,Z,d⟩
  · have G:X.fn x=true:=by
      rcases hf with z|z
      · exact z
      · rw[z]at B;cases B
    obtain⟨c,l⟩:=I.ok.has x (.inl B);obtain⟨P,z⟩:=I.cell x c l;refine wpAny_storeName_cell I.ok.kind B l z (λh' L f=>?_);obtain⟨oc,J,N⟩:=id z;refine h { s with heap:=h' } ⟨I.ok,I.os,I.bare,⟨λb o e n F t=>?_,λb o e n F t=>?_,I.base.free,λb o e t=>?_,I.base.tups,I.base.frzs,I.base.tbls⟩,⟨m,hn.sameBut f (Ne.symm (cne x c l)),λj y S g e2 e3=>?_⟩,λy R e=>?_,I.free,I.freeC,λp hp=>?_,tracked ⟨oc,J,I.freeC x c l⟩ f,by simpa using I.len⟩ ⟨c,f,.inr l⟩
    · exact(f.2 b (Jx (Jz (Jh e) (I.ok.cab x c G l)))).trans (I.base.keep b o e n F t)
    · obtain⟨U,g⟩:=I.base.slot b o e n F t
      exact⟨U,(f.2 b (Jx (Jz (Jh e) (I.ok.cab x c G l)))).trans g⟩
    · obtain⟨Y,g⟩:=I.base.there b o e t
      exact⟨Y,(f.2 b (Jx (Jz (Jh e) (I.ok.cab x c G l)))).trans g⟩
    · by_cases D:j=i
      · subst D
        rw[hi]at g;cases g;rw[List.getElem?_set_self C]at e2;cases e2;exact⟨u,r,.inr ⟨.inl B,c,l,L⟩⟩
      · rw[List.getElem?_set_ne (Ne.symm D)]at e2
        obtain⟨T,W,q⟩:=hl j y S g e2 e3;refine⟨T,W,?_⟩;rcases q with q|⟨k,R,e,z'⟩
        · exact .inl q
        · refine .inr ⟨k,R,e,z'.sameBut f ?_⟩
          rintro rfl;exact D (oW hN g (I.ok.inj _ _ _ e l ▸ hi))
    · by_cases K:R=c
      · subst K;exact⟨_,L⟩
      · obtain⟨w2,z2⟩:=I.cell y R e
        exact⟨w2,z2.sameBut f K⟩
    · obtain⟨e,n,ne,Z,d⟩:=I.pin p hp
      refine⟨(f.2 p.1 ?_).trans e,n,ne,Z,d⟩;intro q;rw[q,J]at e;have q':oc=p.2:=Jj e;exact d P (by rw[<- q'];exact N)
theorem xE {M:Model}{A:YO}{E:Jo->JO->Prop}{i:Nat}{x:Str}{v:V}{u:Jo}{Q:Unit->JO->Prop}(I:Inv X pins σ H s)(c:X.N.Nodup)(hi:X.N[i]?=some x)(a:Loc X.env.scope x)(r:RelV v u)(h:∀ s',Inv X pins (σ.set i (some v)) H s'->Q () s')(b:X.fn x=true\/X.env.scope.names.lookup x=some .local:=by first|exact .inl rfl|exact .inr rfl|assumption):wpAny M A (storeName X.env x u) Q E s :=
  rH I c hi a r (λs' d _=>h s' d) b
theorem Inv.call' {s':JO}{ch:List JI}(I:Inv X pins σ H s)(f:s'.os=s.os)(u:Un (frs X.stack) ch H H' s.heap s'.heap)(hok:HOk X.prog X.w H' s'.heap)(g:AllBare s'.gens)(a:∀ b∈ch,(b∈X.ex\/X.s₀.heap.objs.size<=b)/\b≠X.env.locals/\(∀ x c,X.env.cells.lookup x=some c->c≠b)/\∀ p∈X.pn++pins,p.1≠b):Inv X pins σ H' s':=by
  obtain⟨h',g',d',t',d⟩:=s';have e:d=s.os:=f;subst e;exact I.call (g':=g') (t':=t') (d':=d') u hok g a
end
abbrev XK:=Jo->Option JI->Hp->Prop
abbrev St:=List (Option V)
abbrev VK:=V->Hp->Prop
abbrev TE:=St->Hp->VK->Prop
abbrev TT:=St->Hp->(Bool->Hp->Prop)->Prop
abbrev TA:=St->Hp->(List V->Hp->Prop)->Prop
structure Ends where
  nx:St->Hp->Prop
  rt:VK
  bk:St->Hp->Prop:=λ_ _=>False
  ct:St->Hp->Prop:=λ_ _=>False
abbrev TS:=Ends->St->Hp->Prop
def EP (X:Cx)(pins:List (JI × Obj))(σ:St)(Q:VK)(u:Jo)(s':JO):Prop:=∃ v a,Inv X pins σ a s'/\RelV v u/\Q v a
def TP (X:Cx)(pins:List (JI × Obj))(σ:St)(Q:Bool->Hp->Prop)(b:Bool)(s':JO):Prop:=∃ a,Inv X pins σ a s'/\Q b a
def AP (X:Cx)(pins:List (JI × Obj))(σ:St)(Q:List V->Hp->Prop)(us:List Jo)(s':JO):Prop:=∃ a b,Inv X pins σ b s'/\Vals a us/\Q a b
def SP (X:Cx)(pins:List (JI × Obj))(D:Ends)(f:Flow)(s':JO):Prop :=
  match f with
  | .next=>∃ a b,Inv X pins a b s'/\D.nx a b
  | .brk=>∃ a b,Inv X pins a b s'/\D.bk a b
  | .cont=>∃ a b,Inv X pins a b s'/\D.ct a b
  | .ret u=>∃ v a b,Inv X pins a b s'/\RelV v u/\D.rt v b
def PE (X:Cx)(e:Expr)(t:TE):Prop :=
  ∀ (pins:List (JI × Obj)) (s:JO) (σ:St) (H:Hp) (Q:VK),Inv X pins σ H s->t σ H Q->wpAny (model X.prog X.w) X.A (eval e X.env) (EP X pins σ Q) X.xe s
def PT (X:Cx)(e:Expr)(t:TT):Prop :=
  ∀ (pins:List (JI × Obj)) (s:JO) (σ:St) (H:Hp) (Q:Bool->Hp->Prop),Inv X pins σ H s->t σ H Q->wpAny (model X.prog X.w) X.A (isTrue e X.env (eval e X.env)) (TP X pins σ Q) X.xe s
def PW (X:Cx)(e:Expr)(t:TT):Prop :=
  ∀ (whole:Sem Jo) (pins:List (JI × Obj)) (s:JO) (σ:St) (H:Hp) (Q:Bool->Hp->Prop),Inv X pins σ H s->t σ H Q->wpAny (model X.prog X.w) X.A (isTrue e X.env whole) (TP X pins σ Q) X.xe s
theorem PW.pt {X:Cx}{e:Expr}{t:TT}(h:PW X e t):PT X e t:=h _
def PA (X:Cx)(a:List Expr)(t:TA):Prop :=
  ∀ (pos:Pos) (pins:List (JI × Obj)) (s:JO) (σ:St) (H:Hp) (Q:List V->Hp->Prop),Inv X pins σ H s->t σ H Q->wpAny (model X.prog X.w) X.A (spliced (backTo pos (starEach a X.env))) (AP X pins σ Q) X.xe s
def PS (X:Cx)(st:Stmt)(t:TS):Prop :=
  ∀ (pins:List (JI × Obj)) (s:JO) (σ:St) (H:Hp) (D:Ends),Inv X pins σ H s->t D σ H->wpAny (model X.prog X.w) X.A (exec st X.env) (SP X pins D) X.xe s
def PSs (X:Cx)(st:List Stmt)(t:TS):Prop :=
  ∀ (pins:List (JI × Obj)) (s:JO) (σ:St) (H:Hp) (D:Ends),Inv X pins σ H s->t D σ H->wpAny (model X.prog X.w) X.A (execs st X.env) (SP X pins D) X.xe s
theorem thn {α:Type}{t:Sem α}{Q b:α->JO->Prop}{M:Model}{A:YO}{E:Jo->JO->Prop}{s:JO}(h:wpAny M A t Q E s)(c:∀ a s,Q a s->b a s):wpAny M A t b E s:=JB h c λ_ _ x=>x
section
variable {X:Cx}
def gE (i:Nat):TE:=λσ H Q=>∃ v,σ[i]?=some (some v)/\Q v H
def tC (v:V):TE:=λ_ H Q=>Q v H
theorem fZ {i:Nat}{x:Str}{pos:Pos}(o:X.N[i]?=some x) (g:Vis X.env.scope x) (hd:(x == ("__debug__":Str))=false:=by decide) (d:(x == ("__classdict__":Str))=false:=by decide):PE X (.Name x pos) (gE i):=by
  intro pins s σ H Q I h;obtain⟨v,e,h⟩:=h;obtain⟨m,j,n⟩:=I.loc;obtain⟨u,r,l⟩:=n i x v o e g;have fin:EP X pins σ Q u s:=⟨v,H,I,r,h⟩;rcases l with ⟨b,k⟩|⟨b,c,f,a⟩
  · exact wpAny_Name (wpAny_loadName_local I.ok.kind b j k fin) hd
  · rcases b with b|b
    · exact wpAny_Name (wpAny_loadName_cell I.ok.kind b f a fin) hd
    · exact wpAny_Name (wpAny_loadName_free I.ok.kind b f a fin d) hd
theorem zG {i j pos}:PE X (.Constant (.int i) j pos) (tC (.int i)):=λ_ _ _ H _ I h=>wpAny_Constant_int ⟨.int i,H,I.tok _,⟨_,rfl⟩,h⟩
theorem rQ {b j pos}:PE X (.Constant (.bool b) j pos) (tC (.bl b)):=λ_ _ _ H _ I h=>Constant_bool ⟨.bl b,H,I,rfl,h⟩
theorem wP {j pos}:PE X (.Constant .none j pos) (tC .non):=λ_ _ _ H _ I h=>Constant_none ⟨.non,H,I,rfl,h⟩
theorem wA {x j pos}:PE X (.Constant (.str x) j pos) (tC (.str x)):=λ_ _ _ H _ I h=>Calls.Constant_str ⟨.str x,H,I.tok _,⟨_,rfl⟩,h⟩
def Gl (X:Cx)(x:Str):Prop:=X.env.kindOf x=some .globalImplicit
theorem uC {E:Jo->JO->Prop}{pins:List (JI × Obj)}{s:JO}{σ:St}{H:Hp}{x:Str}{u:Jo}{pos:Pos}{Q:Jo->JO->Prop}(I:Inv X pins σ H s) (b:Gl X x) (a:X.mg x=some u) (h:Q u s)
    (hd:(x == ("__debug__":Str))=false:=by decide):wpAny (model X.prog X.w) X.A (eval (.Name x pos) X.env) Q E s :=
  Calls.Name_function_global I.ok.kind b (Calls.loadGlobal_global (by rw[I.ok.glob];exact I.mod.glob.keeps I.bk) a h) hd
theorem xv {E:Jo->JO->Prop}{pins:List (JI × Obj)}{s:JO}{σ:St}{H:Hp}{x:Str}{u:Jo}{pos:Pos}{Q:Jo->JO->Prop}(I:Inv X pins σ H s) (d:Gl X x) (c:X.mg x=none) (a:bootBuiltins x=some u) (h:Q u s)
    (b:x≠"__name__":=by decide) (e:(x == ("__debug__":Str))=false:=by decide):wpAny (model X.prog X.w) X.A (eval (.Name x pos) X.env) Q E s:=by
  obtain⟨i,g,f⟩:=I.mod.blt;exact Calls.Name_function_global I.ok.kind d (Calls.loadGlobal_builtin (by rw[I.ok.glob];exact I.mod.glob.keeps I.bk) c (by rw[I.ok.blt];exact g.keeps I.bk) ((f x b).trans a) h) e
variable {a b:Expr}{ta tb:TE}{pos:Pos}
def tB (t:TE):TT:=λσ H Q=>t σ H λx a=>∃ c,x=.bl c/\Q c a
theorem gx {e:Expr}{t:TE}(h:PE X e t)(f:∀ whole,isTrue e X.env whole=(do let v <- whole;standAt e.pos;holding [v] (truthy v)):=by intro _;rfl):PT X e (tB t):=by
  intro pins s σ H Q I c;refine isTrue_plain (thn (h pins s σ H _ I c) λv j ⟨x,i,g,a,b⟩=>?_) (f _);obtain⟨d,rfl,q⟩:=b;cases a;exact Zh ⟨i,g,q⟩
variable {tA tB':TT}{rest:List Expr}
def tOr (t u:TT):TT:=λσ H Q=>t σ H λc a=>if c=true then Q true a else u σ a Q
def zbC (t:TT):TT:=λσ H Q=>t σ H λc a=>Q (!c) a
theorem zae (ha:PT X a tA):PW X (.BoolOp .Or [a] pos) tA:=by
  intro b pins s σ H Q I h;refine isTrue_or (thn (ha pins s σ H Q I h) λc d e=>?_)
  cases c with
  | false=>exact isTrue_or_nil e
  | true=>exact e
theorem zbd (ha:PT X a tA)(hb:PW X (.BoolOp .Or (b::rest) pos) tB'):PW X (.BoolOp .Or (a::b::rest) pos) (tOr tA tB'):=by
  intro g pins s σ H Q I h;refine isTrue_or (thn (ha pins s σ H _ I h) λc i ⟨f,e,d⟩=>?_)
  cases c with
  | true=>exact⟨f,e,d⟩
  | false=>exact hb g pins i σ f Q e d
theorem zag (ha:PT X a tA):PT X (.UnaryOp .Not a pos) (zbC tA):=by
  intro pins s σ H Q I h;exact isTrue_not (ha pins s σ H (λc b=>Q (!c) b) I h)
def tIf (t:TT)(ta tb:TE):TE:=λσ H Q=>t σ H λc a=>if c=true then ta σ a Q else tb σ a Q
theorem oJ {c:Expr}(j:PT X c tA)(ha:PE X a ta)(hb:PE X b tb):PE X (.IfExp c a b pos) (tIf tA ta tb):=by
  intro pins s σ H Q I h;refine wpAny_IfExp (thn (j pins s σ H _ I h) λd e ⟨i,g,f⟩=>?_)
  cases d with
  | true=>exact ha pins e σ i Q g f
  | false=>exact hb pins e σ i Q g f
end
def SqL (K:Jl)(H:Hp)(a:JI)(xs:List V):Prop :=
  Rd H a (.lst xs) \/
    ∃ (o:Obj) (b:Array Jo) (n:Nat),K.lookup a=some o/\o.cls=.type "list"/\o.dict=none/\o.data=.seq b n/\b.size<=sizeLine/\Vals xs b.toList
def SqT (K:Jl)(H:Hp)(a:JI)(xs:List V):Prop :=
  Rd H a (.tup xs) \/
    ∃ (o:Obj) (b:Array Jo) (n:Nat),K.lookup a=some o/\o.cls=.type "tuple"/\o.data=.seq b n/\b.size<=sizeLine/\Vals xs b.toList
def zb3:Jo->Option V
  | .none=>some .non
  | .bool b=>some (.bl b)
  | .int i _=>some (.int i)
  | .str x _=>some (.str x)
  | .bytes b _=>some (.byt b)
  | .float b _=>some (.flt b)
  | .ref a=>some (.ref a)
  | .type n=>some (.ty n)
  | _=>none
theorem RelV.abs {x:V}{u:Jo}(r:RelV x u):zb3 u=some x:=by
  cases x with
  | non=>cases r;rfl
  | bl _=>cases r;rfl
  | int _=>obtain⟨t,rfl⟩:=r;rfl
  | str _=>obtain⟨t,rfl⟩:=r;rfl
  | byt _=>obtain⟨t,rfl⟩:=r;rfl
  | flt _=>obtain⟨t,rfl⟩:=r;rfl
  | ref _=>cases r;rfl
  | ty _=>cases r;rfl
theorem RelV.inj {x y:V}{u:Jo}(r:RelV x u)(q:RelV y u):x=y:=Jj (r.abs.symm.trans q.abs)
theorem Vals.inj:∀ {xs ys:List V}{us:List Jo},Vals xs us->Vals ys us->xs=ys
  | _,_,_,.nil,.nil=>rfl
  | _,_,_,.cons r t,.cons a t'=>by rw[r.inj a,Vals.inj t t']
section
variable {X:Cx}{pins:List (JI × Obj)}{σ:St}{H:Hp}{s:JO}{a:JI}{xs ys:List V}
theorem SqL.of {K:Jl}(h:H a=some (.lst xs)):SqL K H a xs:=.inl (.inl h)
theorem SqT.of {K:Jl}(h:H a=some (.tup xs)):SqT K H a xs:=.inl (.inl h)
theorem Inv.list (I:Inv X pins σ H s)(h:SqL X.K H a xs):∃ its:List Jo,Vals xs its/\PlainL s.heap a its.toArray/\xs.length<=sizeLine:=by
  rcases h with h|⟨o,its,n,c,f,d,b,g,r⟩
  · obtain⟨z,its,n,r,e⟩:=h.ok I.hok
    exact⟨its,r,⟨_,n,e,rfl,rfl,rfl⟩,z⟩
  · refine⟨its.toList,r,⟨o,n,I.kIn a o c,f,d,by simpa using b⟩,?_⟩
    have e:=r.length;simp only[Array.length_toList]at e
    simp_all
theorem Inv.tuple (I:Inv X pins σ H s)(h:SqT X.K H a xs):∃ its:List Jo,Vals xs its/\IsTup s.heap a its.toArray/\xs.length<=sizeLine:=by
  rcases h with h|⟨o,its,n,c,d,b,f,r⟩
  · obtain⟨z,its,r,p⟩:=h.ok I.hok
    exact⟨its,r,p.tup,z⟩
  · refine⟨its.toList,r,⟨o,I.kIn a o c,d,n,by simpa using b⟩,?_⟩
    have e:=r.length;simp only[Array.length_toList]at e
    simp_all
theorem Inv.list_inj (I:Inv X pins σ H s)(h:SqL X.K H a xs)(h':SqL X.K H a ys):xs=ys:=by
  obtain⟨c,r,⟨o,n,e,_,_,d⟩,_⟩:=I.list h;obtain⟨b,i,⟨k,l,f,_,_,g⟩,_⟩:=I.list h';rw[e]at f;cases f;rw[d]at g;injection g with j _;have:c=b:=by simpa using JL Array.toList j
  subst this;exact r.inj i
theorem Inv.tuple_inj (I:Inv X pins σ H s)(h:SqT X.K H a xs)(h':SqT X.K H a ys):xs=ys:=by
  obtain⟨c,r,⟨o,e,_,n,d⟩,_⟩:=I.tuple h;obtain⟨b,i,⟨k,f,_,l,g⟩,_⟩:=I.tuple h';rw[e]at f;cases f;rw[d]at g;injection g with j _;have:c=b:=by simpa using JL Array.toList j
  subst this;exact r.inj i
end
abbrev Cx.wish (X:Cx)(E:Jo->JO->Prop):Cx:={ X with xe:=E }
abbrev Cx.nox (X:Cx):Cx:=X.wish λ_ _=>False
theorem Cx.Ok.wish {X:Cx}(ok:X.Ok)(E:Jo->JO->Prop):(X.wish E).Ok :=
  ⟨ok.mod,ok.kind,ok.glob,ok.blt,ok.above,ok.inj,ok.has,ok.cab,ok.hd,ok.frames,ok.stk,ok.exf,ok.bs,ok.bsz,ok.noex,ok.exfs,ok.funs,ok.frf⟩
theorem Cx.Ok.unwish {X:Cx}{E:Jo->JO->Prop}(ok:(X.wish E).Ok):X.Ok :=
  ⟨ok.mod,ok.kind,ok.glob,ok.blt,ok.above,ok.inj,ok.has,ok.cab,ok.hd,ok.frames,ok.stk,ok.exf,ok.bs,ok.bsz,ok.noex,ok.exfs,ok.funs,ok.frf⟩
section
variable {X:Cx}{pins:List (JI × Obj)}{σ:St}{H:Hp}{s:JO}{E:Jo->JO->Prop}
theorem Inv.wish (I:Inv X pins σ H s)(E:Jo->JO->Prop):Inv (X.wish E) pins σ H s:=⟨I.ok.wish E,I.os,I.bare,I.base,I.loc,I.cell,I.free,I.freeC,I.pin,I.hok,I.len⟩
theorem Inv.unwish (I:Inv (X.wish E) pins σ H s):Inv X pins σ H s:=⟨I.ok.unwish,I.os,I.bare,I.base,I.loc,I.cell,I.free,I.freeC,I.pin,I.hok,I.len⟩
theorem SP.unwish {D:Ends}{f:Flow}{s':JO}(h:SP (X.wish E) pins D f s'):SP X pins D f s':=by
  cases f with
  | next=>obtain⟨a,b,I,q⟩:=h;exact⟨a,b,I.unwish,q⟩
  | brk=>obtain⟨a,b,I,q⟩:=h;exact⟨a,b,I.unwish,q⟩
  | cont=>obtain⟨a,b,I,q⟩:=h;exact⟨a,b,I.unwish,q⟩
  | ret u=>obtain⟨v,a,b,I,r,q⟩:=h;exact⟨v,a,b,I.unwish,r,q⟩
theorem PSs.nox {st:List Stmt}{t:TS}(h:PSs X.nox st t):PSs X st t:=λpins s σ H D I a =>
  JB (h pins s σ H D (I.wish _) a) (λ_ _ q=>q.unwish) λ_ _ z=>False.elim z
end
section
variable {X:Cx}{st:Stmt}{rest:List Stmt}{t u:TS}{e:Expr}{te:TE}{pos:Pos}
def lX:TS:=λD σ H=>D.nx σ H
def uO (t u:TS):TS:=λD σ H=>t { D with nx:=u D } σ H
theorem zx:PSs X [] lX:=λ_ _ σ H _ I h=>Zy ⟨σ,H,I,h⟩
theorem zE (h1:PS X st t)(c:PSs X rest u):PSs X (st::rest) (uO t u):=by
  intro pins s σ H D I h;refine wpAny_execs_cons (thn (h1 pins s σ H { D with nx:=u D } I h) λf b q=>?_)
  cases f with
  | next =>
    obtain⟨a,e,d,q⟩:=q
    exact c pins b a e D d q
  | ret v=>exact q
  | brk=>exact q
  | cont=>exact q
theorem zM (h1:PS X st t):PSs X [st] t:=by
  intro pins s σ H D I h;refine wpAny_execs_cons (thn (h1 pins s σ H D I h) λf a q=>?_)
  cases f with
  | next=>exact Zy q
  | ret v=>exact q
  | brk=>exact q
  | cont=>exact q
def za2:TS:=λD σ H=>D.ct σ H
theorem oG:PS X (.Continue pos) za2:=λ_ _ σ H _ I h=>wpAny_Continue ⟨σ,H,I,h⟩
theorem Inv.quiet {pins:List (JI × Obj)}{σ:St}{H:Hp}{s:JO}(I:Inv X pins σ H s):interactive X.env=false:=by simp[interactive,I.ok.kind]
def za1 (te:TE):TS:=λD σ H=>te σ H λ_ a=>D.nx σ a
theorem y7 (b:PE X e te)(hs:swapsWith e none pos.line X.env=pure false:=by rfl):PS X (.Expr e pos) (za1 te):=by
  intro pins s σ H D I h;exact wpAny_Expr_any (thn (b pins s σ H _ I h) λv f ⟨x,d,c,g,a⟩=>⟨σ,d,c,a⟩) I.quiet hs
def zbA (te:TE):TS:=λD σ H=>te σ H D.rt
theorem zW (c:PE X e te):PS X (.Return (some e) pos) (zbA te):=by
  intro pins s σ H D I h;exact wpAny_Return_some (thn (c pins s σ H _ I h) λv g ⟨x,f,d,a,b⟩=>⟨x,σ,f,d,a,b⟩)
def af (c:TT)(t u:TS):TS:=λD σ H=>c σ H λb a=>if b=true then t D σ a else u D σ a
theorem yV {c:Expr}{a b:List Stmt}{e:TT}(k:PT X c e)(ha:PSs X a t)(hb:PSs X b u):PS X (.If c a b pos) (af e t u):=by
  intro pins s σ H D I h;refine wpAny_If (thn (k pins s σ H _ I h) λd f ⟨j,i,g⟩=>?_)
  cases d with
  | true=>exact ha pins f σ j D i g
  | false=>exact hb pins f σ j D i g
end
abbrev TG:=V->St->Hp->(St->Hp->Prop)->Prop
abbrev TGs:=List V->St->Hp->(St->Hp->Prop)->Prop
def PG (X:Cx)(target:Expr)(t:TG):Prop :=
  ∀ (pins:List (JI × Obj)) (s:JO) (σ:St) (H:Hp) (v:V) (u:Jo) (Q:St->Hp->Prop),Inv X pins σ H s->RelV v u->t v σ H Q ->
    wpAny (model X.prog X.w) X.A (assign target X.env u) (λ_ c=>∃ a b,Inv X pins a b c/\Q a b) X.xe s
def PGs (X:Cx)(ts:List Expr)(t:TGs):Prop :=
  ∀ (pins:List (JI × Obj)) (s:JO) (σ:St) (H:Hp) (b:List V) (c:List Jo) (Q:St->Hp->Prop),Inv X pins σ H s->Vals b c->t b σ H Q ->
    wpAny (model X.prog X.w) X.A (assignInOrder ((assignEach ts X.env).map (·.2)) c) (λ_ e=>∃ a d,Inv X pins a d e/\Q a d) X.xe s
abbrev TSet:=V->V->V->Hp->(Hp->Prop)->Prop
def PSet (X:Cx)(t:TSet):Prop :=
  ∀ (pins:List (JI × Obj)) (s:JO) (σ:St) (H:Hp) (o i v:V) (a b u:Jo) (Q:Hp->Prop),Inv X pins σ H s->RelV o a->RelV i b->RelV v u->t o i v H Q ->
    wpAny (model X.prog X.w) X.A (setItem a b u) (λ_ d=>∃ c,Inv X pins σ c d/\Q c) X.xe s
abbrev TIp:=V->V->Hp->VK->Prop
def PIp (X:Cx)(op:Operator)(t:TIp):Prop :=
  ∀ (pins:List (JI × Obj)) (s:JO) (σ:St) (H:Hp) (x y:V) (v u:Jo) (Q:VK),Inv X pins σ H s->RelV x v->RelV y u->t x y H Q ->
    wpAny (model X.prog X.w) X.A (inplaceOp op v u) (EP X pins σ Q) X.xe s
section
variable {X:Cx}{pos:Pos}
def xT (i:Nat):TG:=λv σ H Q=>Q (σ.set i (some v)) H
theorem zN {i:Nat}{x:Str}(c:X.N.Nodup)(hi:X.N[i]?=some x)(a:Loc X.env.scope x)(b:X.fn x=true\/X.env.scope.names.lookup x=some .local:=by first|exact .inl rfl|exact .inr rfl|assumption):PG X (.Name x pos) (xT i):=by
  intro pins s σ H v u Q I r h;exact wpAny_assign_Name (xE I c hi a r (λe d=>⟨_,H,d,h⟩) b)
def dk:TGs:=λa σ H Q=>a=[]/\Q σ H
def uE (t:TG)(u:TGs):TGs:=λb σ H Q=>∃ v r,b=v::r/\t v σ H λa c=>u r a c Q
theorem zu:PGs X [] dk:=by
  intro pins s σ H a b Q I r h;obtain⟨e,h⟩:=h;subst e;cases r;exact assignInOrder_nil ⟨σ,H,I,h⟩
theorem zP {e:Expr}{a:List Expr}{t:TG}{u:TGs}(h1:PG X e t)(g:PGs X a u)(hs:(assignEach (e::a) X.env).map (·.2)=assign e X.env::(assignEach a X.env).map (·.2):=by rfl):PGs X (e::a) (uE t u):=by
  intro pins s σ H l n Q I r h;obtain⟨v,m,i,h⟩:=h;subst i
  cases r with
  | cons r d =>
    rw[hs];refine Zd (thn (h1 pins s σ H _ _ _ I r h) λ_ c ⟨b,k,j,f⟩=>?_);exact g pins c b k _ _ Q j d f
def lO (K:Jl)(n:Nat)(t:TGs):TG:=λv σ H Q=>∃ a b,v=.ref a/\SqT K H a b/\b.length=n/\t b σ H Q
theorem yN {c:List Expr}{k:Nat}{t:TGs}{n:Nat}(w:X.calm=true)(h:PGs X c t)(p:(assignEach c X.env).length=n:=by rfl)(f:(assignEach c X.env).findIdx? (·.1)=none:=by rfl):PG X (.Tuple c k pos) (lO X.K n t):=by
  intro pins s σ H v u Q I r d;obtain⟨a,i,y,m,q,d⟩:=d;subst y;cases r;obtain⟨A,g,l,B⟩:=I.tuple m;refine assign_Tuple_tuple (I.ok.hd w) l (by simp[p,<- q,g.length]) f λx j=>?_;have z:Inv X pins σ H { s with heap:=x }:=I.kept (t':=s.toks) λb o e=>j b o (Jx (Jh e)) e;exact h pins _ σ H i _ Q z (by simpa using g) d
def zb2 (to a:TE)(t:TSet):TG:=λv σ H Q=>to σ H λo d=>a σ d λi c=>t o i v c λb=>Q σ b
theorem xK {o i:Expr}{to c:TE}{t:TSet}(m:PE X o to)(hi:PE X i c)(hs:PSet X t)(ha:∀ v,assign (.Subscript o i pos) X.env v=(do
      let a <- holding [v] (eval o X.env)
      let b <- holding [v,a] (eval i X.env)
      standAt pos
      holding [v,a,b] (setItem a b v)
      release [v,a,b] []):=by intro _;rfl):PG X (.Subscript o i pos) (zb2 to c t):=by
  intro pins s σ H v u Q I r h;rw[ha];refine J0 (Y2 (thn (m pins s σ H _ I h) λa e ⟨x,A,q,g,l⟩=>?_));refine J0 (Y2 (thn (hi pins e σ A _ q l) λb d ⟨y,z,p,f,k⟩=>?_));refine J0 (Yu (J0 (Y2 (thn (hs pins d σ z x y v a b u _ p g f r k) λ_ B ⟨w,n,j⟩=>?_))));exact wpAny_release ⟨σ,w,n,j⟩
def cW (a:TE)(g:TG):TS:=λD σ H=>a σ H λx b=>g x σ b D.nx
theorem yM {tg e:Expr}{a:TE}{g:TG}(j:PE X e a)(i:PG X tg g)(hs:swapsWithSole [tg] e pos.line X.env=pure false:=by rfl)(f:swappedStores [tg] e X.env=pure none:=by rfl)(k:(assignEach [tg] X.env).map (·.2)=[assign tg X.env]:=by rfl):PS X (.Assign [tg] e pos) (cW a g):=by
  intro pins s σ H D I h;refine wpAny_Assign_stores (thn (j pins s σ H _ I h) λv b ⟨x,m,l,c,d⟩=>?_) hs f;rw[k];exact thn (i pins b σ m x v _ l c d) λ_ n q=>q
theorem zV {i:Nat}{x:Str}{e:Expr}{a:TE}{pos':Pos}(j:X.N.Nodup)(hi:X.N[i]?=some x)(d:Loc X.env.scope x)(g:PE X e a)(hs:swapsWith e (some (.Name x pos')) pos.line X.env=pure false:=by rfl)(f:X.fn x=true\/X.env.scope.names.lookup x=some .local:=by first|exact .inl rfl|exact .inr rfl|assumption) :
    PS X (.Assign [.Name x pos'] e pos) (cW a (xT i)):=by
  intro pins s σ H D I h;refine wpAny_Assign_Name (thn (g pins s σ H _ I h) λv o ⟨y,m,l,b,c⟩=>?_) hs;exact xE l j hi d b (λn k=>⟨_,m,k,c⟩) f
def zbB (i j:Nat)(b:TA):TS:=λD σ H=>b σ H λa c=>∃ v w,a=[v,w]/\D.nx ((σ.set i (some v)).set j (some w)) c
theorem qk {i j:Nat}{x y:Str}{a b:Expr}{r:TA}{k py pt:Pos}{kt k2 pt2}(M:X.calm=true)(z:X.N.Nodup)(hi:X.N[i]?=some x)(L:X.N[j]?=some y)(n:i≠j)(u:X.env.scope.names.lookup x=some .local)(t:X.env.scope.names.lookup y=some .local)(ha:PA X [a,b] r)(K:swappedStores [.Tuple [.Name x k,.Name y py] kt pt] (.Tuple [a,b] k2 pt2) X.env=pure (some [x,y]))(hs:swapsWithSole [.Tuple [.Name x k,.Name y py] kt pt] (.Tuple [a,b] k2 pt2) pos.line X.env=pure false:=by rfl) :
    PS X (.Assign [.Tuple [.Name x k,.Name y py] kt pt] (.Tuple [a,b] k2 pt2) pos) (zbB i j r):=by
  intro pins s σ H D I h;rw[exec_Assign_arm];refine J0 (Yu ?_);rw[hs];refine J0 (J9 ?_);rw[Jg (by decide)];refine J0 (Tuple_ (thn (ha _ pins s σ H _ I h) λC f ⟨S,B,R,F,g⟩=>?_));obtain⟨v,w,N,g⟩:=g;subst N
  obtain⟨d,c,rfl,E,l⟩:∃ d c,C=[d,c]/\RelV v d/\RelV w c:=by
    cases F with
    | cons p q =>
      cases q with
      | cons J G =>
        cases G;exact⟨_,_,rfl,p,J⟩
  refine JE ?_ (by show 2<=sizeLine;decide);have Q:Inv X pins σ B { f with heap:=f.heap.push { cls:=.type "tuple",data:=.seq [d,c].toArray } }:=R.kept (t':=f.toks) λb o e=>J7 _ e;rw[K];refine J0 (J9 ?_);show wpAny (model X.prog X.w) X.A (do rule "assign.swapped-stores";let items <- unpackItems (.ref f.heap.objs.size) 2 none;assignInOrder [λv=>bindName X.env y v,λv=>bindName X.env x v] items.reverse;pure Flow.next) _ _ _;refine J0 (YF (J0 (unpackItems_tuple (items:=#[d,c]) (I.ok.hd M) (IsTup.new f.heap _) λh' m=>?_)));have P:=Q.kept (h':=h') (t':=f.toks) λb o e=>m b o (Jx (Jh e)) e;show wpAny _ _ (assignInOrder [λv=>bindName X.env y v,λv=>bindName X.env x v] [c,d] >>= λ_=>pure Flow.next) _ _ _;refine J0 (Zd (wpAny_bindName (xE P z L (.inl t) l (λU O=>?_) (.inr t))));refine Zd (wpAny_bindName (xE O z hi (.inl u) E (λT A=>assignInOrder_nil (J9 ?_)) (.inr u)));rw[List.set_comm _ _ (Ne.symm n)]at A;exact⟨_,B,A,g⟩
def zbH (i:Nat)(b:TE)(a:TIp):TS:=λD σ H=>∃ x,σ[i]?=some (some x)/\b σ H λy d=>a x y d λz c=>D.nx (σ.set i (some z)) c
theorem zah {i:Nat}{x:Str}{e:Expr}{o:TE}{op:Operator}{n:TIp}{pos':Pos}(M:X.N.Nodup)(hi:X.N[i]?=some x)(g:Loc X.env.scope x)(K:PE X e o)(C:PIp X op n)(J:X.fn x=true\/X.env.scope.names.lookup x=some .local:=by first|exact .inl rfl|exact .inr rfl|assumption) :
    PS X (.AugAssign (.Name x pos') op e pos) (zbH i o n):=by
  intro pins s σ H D I h;obtain⟨v,N,h⟩:=h;obtain⟨m,E,G⟩:=I.loc;have j:Vis X.env.scope x:=by rcases g with k|k;exact .inl k;exact .inr (.inl k)
  obtain⟨u,r,l⟩:=G i x v hi N j;refine wpAny_AugAssign_Name ?_
  have go:wpAny (model X.prog X.w) X.A (eval e X.env) (λw f=>wpAny (model X.prog X.w) X.A (inplaceOp op u w) (λr d=>wpAny (model X.prog X.w) X.A (storeName X.env x r) (λ_=>SP X pins D .next) X.xe d) X.xe f) X.xe s:=by
    refine thn (K pins s σ H _ I h) λw p ⟨y,S,Q,t,B⟩=>?_;refine thn (C pins p σ S v y u w _ Q r t B) λz V ⟨T,R,P,q,A⟩=>?_;exact xE P M hi g q (λU O=>⟨_,R,O,A⟩) J
  rcases l with ⟨a,F⟩|⟨a,c,L,b⟩
  · exact wpAny_loadName_local I.ok.kind a E F go
  · rcases a with a|a
    · exact wpAny_loadName_cell I.ok.kind a L b go
    · rcases g with k|k
      · have:X.env.scope.names.lookup x=some .free:=a
        rw[k]at this;cases this
      · have:X.env.scope.names.lookup x=some .free:=a
        rw[k]at this;cases this
def aZ (c:TT)(g:TS):TS:=λD σ H=>∃ W:Nat->St->Hp->Prop,(∃ m,W m σ H)/\∀ m σ H,W m σ H ->
  c σ H λb e=>if b=true then ∃ N:St->Hp->Prop,(∀ a f,N a f->∃ d,d<m/\W d a f)/\g { D with nx:=N,ct:=N,bk:=D.nx } σ e else D.nx σ e
theorem oF {c:Expr}{body:List Stmt}{q:TT}{r:TS}(t:PassesOwn (model X.prog X.w) X.A X.env X.xe)(J:PT X c q)(hb:PSs X body r):PS X (.While c body [] pos) (aZ q r):=by
  intro pins s σ H D I h;obtain⟨W,⟨G,B⟩,turn⟩:=h;refine wpAny_While (codeAny_whileLoop (λn F=>∃ g z,Inv X pins g z F/\W n g z) ?_ G ⟨σ,H,I,B⟩);rintro n E ⟨d,y,K,A⟩;refine Za t (thn (J pins E d y _ K (turn n d y A)) λb C ⟨x,w,j⟩=>?_)
  cases b with
  | true =>
    obtain⟨N,u,j⟩:=j;rw[Jq rfl];refine Za t (thn (hb pins C d x _ w j) λf L i=>?_)
    cases f with
    | next =>
      obtain⟨a,e,p,l⟩:=i;obtain⟨m,o,k⟩:=u a e l
      exact⟨m,o,a,e,p,k⟩
    | cont =>
      obtain⟨a,e,p,l⟩:=i;obtain⟨m,o,k⟩:=u a e l
      exact⟨m,o,a,e,p,k⟩
    | brk=>exact i
    | ret v=>exact i
  | false =>
    rw[Jg Ji];exact Zy ⟨d,x,w,j⟩
end
structure It where
  go:Nat->Hp->Prop
  yld:Nat->Hp->V->Hp->Prop
  stop:Nat->Hp->Prop
def FpOk (X:Cx)(pins:List (JI × Obj))(H:Hp)(b:JI):Prop :=
  H b=none/\b≠X.env.locals/\b∉X.fs/\(b∈X.ex\/X.s₀.heap.objs.size<=b)/\(∀ x c,X.env.cells.lookup x=some c->c≠b)/\∀ p∈X.pn++pins,p.1≠b
theorem Inv.fpOk {X:Cx}{pins:List (JI × Obj)}{σ:St}{H H':Hp}{s:JO}{b:JI}(I:Inv X pins σ H s)(hb:s.heap.objs.size<=b)(d:H' b=none):FpOk X pins H' b:=by
  refine⟨d,YK (Jz I.lt hb),I.nofs hb,.inr (JQ I.sz hb),λx c e z=>?_,λp a z=>?_⟩
  · obtain⟨v,q⟩:=I.cell x c e
    exact absurd (Jz q.lt (by rw[z];exact hb)) (Ye _)
  · exact absurd (Jz (Jh (I.pin p a).1) (by rw[z];exact hb)) (Ye _)
structure Turn (P:Yo) (w:YI) (K:Jl) (tg:Expr) (J:It) (fp:List JI) (it:JI) (tn:Nat->YP->Prop):Prop where
  mem:it∈fp
  obj:∀ i h,tn i h->∀ b∈fp,∃ o,h.get? b=some o/\∀ v,o.data≠.cell v
  keep:∀ i h h',tn i h->(∀ b∈fp,∀ o,h.get? b=some o->h'.get? b=some o)->tn i h'
  item:∀ (X:Cx),X.prog=P->X.w=w->X.K=K->X.calm=true->∀ (i:Nat) (pins:List (JI × Obj)) (s:JO) (σ:St) (H:Hp) (E:Jo->JO->Prop),Inv X pins σ H s->(∀ b∈fp,FpOk X pins H b)->tn i s.heap->J.go i H ->
    wpAny (model P w) X.A (pyNext (.ref it)) (λr s1=>∃ u,r=some u /\
      wpAny (model P w) X.A (letOwnedTupleGo tg (.ref it) u) (λ_ s2=>∃ x H',Inv X pins σ H' s2/\RelV x u/\J.yld i H x H'/\tn (i+1) s2.heap/\∀ b∈fp,H' b=none) E s1) E s
  done:∀ (X:Cx),X.prog=P->X.w=w->X.K=K->X.calm=true->∀ (i:Nat) (pins:List (JI × Obj)) (s:JO) (σ:St) (H:Hp) (E:Jo->JO->Prop),Inv X pins σ H s->(∀ b∈fp,FpOk X pins H b)->tn i s.heap->J.stop i H ->
    wpAny (model P w) X.A (pyNext (.ref it)) (λr s1=>r=none/\Inv X pins σ H s1) E s
  self:∀ (A:YO) (i:Nat) (s:JO) (Q:Jo->JO->Prop) (E:Jo->JO->Prop),tn i s.heap->Q (.ref it) s->wpAny (model P w) A (pyIter (.ref it)) Q E s
abbrev TI:=St->Hp->(It->Hp->Prop)->Prop
def PIE (X:Cx)(pins:List (JI × Obj))(σ:St)(tg:Expr)(R:It->Hp->Prop)(c:Jo)(s2:JO):Prop :=
  ∃ (it:JI) (e:List JI) (d:Nat->YP->Prop) (J:It) (a:Hp),c=.ref it/\Inv X pins σ a s2/\Turn X.prog X.w X.K tg J e it d/\d 0 s2.heap/\(∀ b∈e,FpOk X pins a b)/\R J a
def PI (X:Cx)(tg iter:Expr)(a:TI):Prop :=
  ∀ (pins:List (JI × Obj)) (s:JO) (σ:St) (H:Hp) (R:It->Hp->Prop),Inv X pins σ H s->a σ H R ->
    wpAny (model X.prog X.w) X.A (eval iter X.env) (λv b=>wpAny (model X.prog X.w) X.A (pyIter v) (PIE X pins σ tg R) X.xe b) X.xe s
theorem di {M:Model}{A:YO}{E:Jo->JO->Prop}{s:JO}{tg:Expr}{it:JI}{u:Jo}{o:Obj}{n:String}{vs:Array Jo}{Q:Unit->JO->Prop}(b:s.heap.get? it=some o) (d:o.cls=.type n) (hd:o.data=.fields vs)
    (c:["enumerate","zip","dict_itemiterator","dict_reverseitemiterator","odict_iterator","itertools.zip_longest","itertools.pairwise"].contains n=false) (a:Q () s):wpAny M A (letOwnedTupleGo tg (.ref it) u) Q E s:=by
  unfold letOwnedTupleGo
  cases tg<;>first
    | exact J9 a
    | (cases u<;>first
        | exact J9 a
        | (refine J0 (wpAny_load b ?_)
           rw[d,hd];show wpAny M A (if (["enumerate","zip","dict_itemiterator","dict_reverseitemiterator","odict_iterator","itertools.zip_longest","itertools.pairwise"].contains n && vs[0]? == some (rawInt _))=true then _ else _) Q E s;rw[Jg (by intro h;rw[c,Bool.false_and]at h;cases h)]
           exact J9 a))
def Itl (K:Jl)(a:JI):It :=
  ⟨λi H=>∃ b x,SqL K H a b/\b[i]?=some x,λi H x c=>c=H/\∀ b,SqL K H a b->b[i]?=some x,λi H=>∃ b,SqL K H a b/\b.length<=i⟩
def Itt (K:Jl)(a:JI):It :=
  ⟨λi H=>∃ b x,SqT K H a b/\b[i]?=some x,λi H x c=>c=H/\∀ b,SqT K H a b->b[i]?=some x,λi H=>∃ b,SqT K H a b/\b.length<=i⟩
def Itr (lo:Int)(n:Nat):It:=⟨λi _=>i<n,λi H x a=>a=H/\x=.int (lo+i),λi _=>n<=i⟩
theorem jG {P:Yo}{w:YI}{K:Jl}{tg:Expr}(a it:JI):Turn P w K tg (Itl K a) [it] it (λi h=>h.IsListIter it a i) where
  mem:=by simp
  obj:=λi h st b f=>by
    have e:b=it:=by simpa using f
    subst e;obtain⟨o,e,c,d⟩:=st;exact⟨o,e,λv z=>by rw[d]at z;cases z⟩
  keep:=λi h m st k=>st.at λo e=>k it (by simp) o e
  item:=by
    intro X y r A L i pins s σ H E I l st t;subst y r A;obtain⟨M,x,j,q⟩:=t;obtain⟨J,n,p,Q⟩:=I.list j;obtain⟨u,S,O⟩:=n.get q;obtain⟨G,F,T,D,C,B⟩:=l it (by simp);refine wpAny_pyNext_list_item st p.isList (x:=u) (by simpa using S) λm g N=>?_;have V:Inv X pins σ H { s with heap:=m }:=I.turned (t':=s.toks) (λb o f e=>(N.2 b f).trans e) G F D C B;obtain⟨o,e,c,d⟩:=id g;exact⟨u,rfl,di (s:={ s with heap:=m }) e c d (by decide) ⟨x,H,V,O,⟨rfl,λW R=>by rw[I.list_inj R j];exact q⟩,g,λb f=>(l b f).1⟩⟩
  done:=by
    intro X y r A L i pins s σ H E I l st t;subst y r A;obtain⟨M,j,q⟩:=t;obtain⟨J,n,p,Q⟩:=I.list j;obtain⟨G,F,T,D,C,B⟩:=l it (by simp);have Y:=n.length;exact wpAny_pyNext_list_end (I.ok.hd L) st p.isList (by simp;simp_all) λm U=>⟨rfl,I.turned (t':=s.toks) (λb o f e=>U b o f e) G F D C B⟩
  self:=λ_ _ _ _ _ st h=>wpAny_pyIter_listiter st h
theorem nR {P:Yo}{w:YI}{K:Jl}{tg:Expr}(a it:JI):Turn P w K tg (Itt K a) [it] it (λi h=>h.IsTupleIter it a i) where
  mem:=by simp
  obj:=λi h st b f=>by
    have e:b=it:=by simpa using f
    subst e;obtain⟨o,e,c,d⟩:=st;exact⟨o,e,λv z=>by rw[d]at z;cases z⟩
  keep:=λi h n st k=>st.at λo e=>k it (by simp) o e
  item:=by
    intro X A t B L i pins s σ H E I m st y;subst A t B;obtain⟨M,x,l,r⟩:=y;obtain⟨g,q,p,Q⟩:=I.tuple l;obtain⟨u,S,O⟩:=q.get r;obtain⟨J,G,T,F,D,C⟩:=m it (by simp);refine wpAny_pyNext_tuple_item st (show s.heap.IsTuple a g.toArray from p) (x:=u) (by simpa using S) λn j N=>?_;have V:Inv X pins σ H { s with heap:=n }:=I.turned (t':=s.toks) (λb o f e=>(N.2 b f).trans e) J G F D C;obtain⟨o,e,c,d⟩:=id j;exact⟨u,rfl,di (s:={ s with heap:=n }) e c d (by decide) ⟨x,H,V,O,⟨rfl,λW R=>by rw[I.tuple_inj R l];exact r⟩,j,λb f=>(m b f).1⟩⟩
  done:=by
    intro X A t B L i pins s σ H E I m st y;subst A t B;obtain⟨M,l,r⟩:=y;obtain⟨g,q,p,Q⟩:=I.tuple l;obtain⟨J,G,T,F,D,C⟩:=m it (by simp);have Y:=q.length;exact wpAny_pyNext_tuple_end (I.ok.hd L) st (show s.heap.IsTuple a g.toArray from p) (by simp;simp_all) λn U=>⟨rfl,I.turned (t':=s.toks) (λb o f e=>U b o f e) J G F D C⟩
  self:=λ_ _ _ _ _ st h=>wpAny_pyIter_tupleiter st h
theorem nS {P:Yo}{w:YI}{K:Jl}{tg:Expr}(it:JI)(lo:Int)(n:Nat):Turn P w K tg (Itr lo n) [it] it (λi h=>IsRangeIter h it (lo+(i:Nat)*1) ((n:Int)-(i:Nat)) 1) where
  mem:=by simp
  obj:=λi h st b a=>by
    have e:b=it:=by simpa using a
    subst e
    exact⟨_,st,λv z=>by
      have B:Data.fields _=Data.cell v:=z
      cases B⟩
  keep:=λi h f st k=>k it (by simp) _ st
  item:=by
    intro X m g p l i pins s σ H E I d st j;subst m g p;obtain⟨y,x,F,u,r,q⟩:=d it (by simp);have W:=Walks.range (prog:=X.prog) (w:=X.w) (I.ok.hd l) it lo 1 n;refine W.item i s _ _ j st λv f A D c C=>?_;obtain⟨t,rfl⟩:=D;have J:Inv X pins σ H { s with heap:=f,toks:=A }:=I.turned (λb o a e=>C b o (by simpa using a) e) y x u r q;refine⟨_,rfl,di (s:={ s with heap:=f,toks:=A }) (n:="range_iterator") c rfl rfl (by decide) ⟨.int (lo+i),H,J,⟨t,?_⟩,⟨rfl,rfl⟩,c,λb a=>(d b a).1⟩⟩;rw[Int.mul_one]
  done:=by
    intro X m g p l i pins s σ H E I d st j;subst m g p;obtain⟨y,x,F,u,r,q⟩:=d it (by simp);exact wpAny_pyNext_range_end (I.ok.hd l) st (by have:n<=i:=j;lia) λf G=>⟨rfl,I.turned (t':=s.toks) (λb o a e=>G b o a e) y x u r q⟩
  self:=λ_ _ _ _ _ st h=>wpAny_pyIter_rangeiter st h
section
variable {X:Cx}{tg:Expr}
def zbr (K:Jl)(tl:TE):TI:=λσ H R=>tl σ H λx b=>∃ a,x=.ref a/\(∃ c,SqL K b a c)/\R (Itl K a) b
def zb0 (K:Jl)(tl:TE):TI:=λσ H R=>tl σ H λx b=>∃ a,x=.ref a/\(∃ c,SqT K b a c)/\R (Itt K a) b
theorem bA {l:Expr}{tl:TE}(j:PE X l tl):PI X tg l (zbr X.K tl):=by
  intro pins s σ H R I h;refine thn (j pins s σ H _ I h) λv c ⟨x,m,d,f,g⟩=>?_;obtain⟨a,e,⟨r,i⟩,q⟩:=g;subst e;cases f;obtain⟨n,t,p,u⟩:=d.list i;refine wpAny_pyIter_list p.isList ?_;refine⟨c.heap.objs.size,[c.heap.objs.size],_,_,m,rfl,d.kept (t':=c.toks) λb o e=>J7 _ e,jG a _,⟨_,Jk _ rfl,rfl,rfl⟩,λb k=>?_,q⟩;have e:b=c.heap.objs.size:=by simpa using k
  subst e;exact d.fpOk (Je _) (d.hok.fresh (Je _))
theorem wO {l:Expr}{tl:TE}(k:PE X l tl):PI X tg l (zb0 X.K tl):=by
  intro pins s σ H R I h;refine thn (k pins s σ H _ I h) λv c ⟨x,n,d,g,i⟩=>?_;obtain⟨a,e,⟨r,j⟩,q⟩:=i;subst e;cases g;obtain⟨f,t,p,u⟩:=d.tuple j;refine wpAny_pyIter_tuple (show c.heap.IsTuple a f.toArray from p) ?_;refine⟨c.heap.objs.size,[c.heap.objs.size],_,_,n,rfl,d.kept (t':=c.toks) λb o e=>J7 _ e,nR a _,⟨_,Jk _ rfl,rfl,rfl⟩,λb m=>?_,q⟩;have e:b=c.heap.objs.size:=by simpa using m
  subst e;exact d.fpOk (Je _) (d.hok.fresh (Je _))
theorem oD {pins:List (JI × Obj)}{σ:St}{H:Hp}{s:JO}{R:It->Hp->Prop}{E:Jo->JO->Prop}{lo hi:Int}{t u v:Tok}{tk:Nat}(I:Inv X pins σ H s)(h1:-(2 ^ 62)<=lo)(g:lo<2 ^ 62)(f:-(2 ^ 62)<=hi)(d:hi<2 ^ 62)(q:R (Itr lo (hi-lo).toNat) H):wpAny (model X.prog X.w) X.A (pyIter (.ref s.heap.objs.size)) (PIE X pins σ tg R) E { s with heap:=s.heap.push { cls:=.type "range",data:=.fields #[.int lo t,.int hi u,.int 1 v] },toks:=tk }:=by
  refine wpAny_pyIter_range (IsRange.new ..) (small_one h1 g f d) ?_;have a:Inv X pins σ H { s with heap:=s.heap.push { cls:=.type "range",data:=.fields #[.int lo t,.int hi u,.int 1 v] },toks:=tk }:=I.kept λb o e=>J7 _ e
  refine⟨(s.heap.push { cls:=.type "range",data:=.fields #[.int lo t,.int hi u,.int 1 v] }).objs.size,[(s.heap.push { cls:=.type "range",data:=.fields #[.int lo t,.int hi u,.int 1 v] }).objs.size],_,_,H,rfl,
    a.kept (t':=tk) λb o e=>J7 _ e,nS _ lo (hi-lo).toNat,?_,λb c=>?_,q⟩
  · have h:lo+((0:Nat):Int)*1=lo:=by simp
    have e2:(((hi-lo).toNat:Nat):Int)-((0:Nat):Int)=Builtin.Range.rangeSize lo hi 1:=by rw[rangeSize_one];split<;>grind
    show IsRangeIter _ _ (lo+((0:Nat):Int)*1) ((((hi-lo).toNat:Nat):Int)-((0:Nat):Int)) 1;rw[h,e2];exact Jk _ rfl
  · have e:b=(s.heap.push { cls:=.type "range",data:=.fields #[.int lo t,.int hi u,.int 1 v] }).objs.size:=by simpa using c
    subst e;exact a.fpOk (Je _) (a.hok.fresh (Je _))
def zbq (b:TA):TI:=λσ H R=>b σ H λa c=>∃ j:Int,a=[.int j]/\-(2 ^ 62)<=j/\j<2 ^ 62/\R (Itr 0 j.toNat) c
def zbp (b:TA):TI:=λσ H R=>b σ H λa c=>∃ i j:Int,a=[.int i,.int j]/\(-(2 ^ 62)<=i/\i<2 ^ 62/\-(2 ^ 62)<=j/\j<2 ^ 62)/\R (Itr i (j-i).toNat) c
theorem yc {a:Expr}{c:TA}{p pos:Pos}(k:Gl X "range") (i:X.mg "range" = none) (ha:PA X [a] c) (hs:starEach [a] X.env=[(false,eval a X.env)]:=by rfl):PI X tg (.Call (.Name "range" p) [a] [] pos) (zbq c):=by
  intro pins s σ H R I h;refine Call_ (xv I k i boot_range (Y3 (thn (ha pos pins s σ H _ I h) λn o ⟨m,u,l,f,b⟩=>?_) hs rfl));obtain⟨j,e,b,g,q⟩:=b;subst e
  cases f with
  | cons r d =>
    cases d;obtain⟨t,rfl⟩:=r;exact call_range_1 (oD l (by simp_all) (by simp_all) b g (by simpa using q))
theorem jY {a b:Expr}{g:TA}{p pos:Pos}(v:Gl X "range") (u:X.mg "range" = none) (ha:PA X [a,b] g) (hs:starEach [a,b] X.env=[(false,eval a X.env),(false,eval b X.env)]:=by rfl) (c:starEach [b] X.env=[(false,eval b X.env)]:=by rfl) :
    PI X tg (.Call (.Name "range" p) [a,b] [] pos) (zbp g):=by
  intro pins s σ H R I h;refine Call_ (xv I v u boot_range (Y3 (thn (ha pos pins s σ H _ I h) λy A ⟨x,B,w,k,f⟩=>?_) (by rw[hs,c]) (by rw[c];rfl)));obtain⟨i,j,e,⟨f,o,n,m⟩,q⟩:=f;subst e
  cases k with
  | cons r d =>
    cases d with
    | cons l d =>
      cases d;obtain⟨t,rfl⟩:=r;obtain⟨z,rfl⟩:=l;exact call_range_2 (oD w f o n m q)
def zbF (e:TI)(g:TG)(f:TS):TS:=λD σ H=>e σ H λJ j=>∃ W:Nat->Nat->St->Hp->Prop,(∃ m,W 0 m σ j)/\∀ i m σ H,W i m σ H ->
  (J.stop i H/\D.nx σ H)\/(J.go i H/\∃ N:St->Hp->Prop,(∀ b a,N b a->∃ d,d<m/\W (i+1) d b a)/\∀ x a,J.yld i H x a->g x σ a λc h=>f { D with nx:=N,ct:=N,bk:=D.nx } c h)
def wY (fp:List JI)(h:YP):List (JI × Obj):=fp.filterMap λb=>(h.get? b).map λo=>(b,o)
theorem yw {fp:List JI}{h:YP}{b:JI}{o:Obj}(hb:b∈fp)(e:h.get? b=some o):(b,o)∈wY fp h:=List.mem_filterMap.mpr ⟨b,hb,by rw[e];rfl⟩
theorem jt {fp:List JI}{h:YP}{p:JI × Obj}(a:p∈wY fp h):p.1∈fp/\h.get? p.1=some p.2:=by
  obtain⟨b,c,e⟩:=List.mem_filterMap.mp a
  cases q:h.get? b with
  | none=>rw[q]at e;cases e
  | some o =>
    rw[q]at e;have d:(b,o)=p:=Jj e;subst d;exact⟨c,q⟩
theorem Inv.pinned {pins:List (JI × Obj)}{σ:St}{H:Hp}{s:JO}{fp:List JI}(I:Inv X pins σ H s)(h:∀ b∈fp,FpOk X pins H b)(g:∀ b∈fp,∃ o,s.heap.get? b=some o/\∀ v,o.data≠.cell v):Inv X (pins++wY fp s.heap) σ H s :=
  I.pins_of λp f=>(Jr.mp f).elim (λz=>I.pin p (Jv _ z)) λz=>by
    obtain⟨a,e⟩:=jt z;obtain⟨k,j,i,_⟩:=h p.1 a;obtain⟨o,c,d⟩:=g p.1 a;rw[e]at c;cases c;exact⟨e,k,j,i,d⟩
theorem Inv.unpinned {pins a:List (JI × Obj)}{σ:St}{H:Hp}{s:JO}(I:Inv X (pins++a) σ H s):Inv X pins σ H s:=I.pins_of λp b=>I.pin p (Jv _ (Y6 _ b))
theorem yo {iter:Expr}{body:List Stmt}{P:TI}{g:TG}{R:TS}{pos:Pos}(z:PassesOwn (model X.prog X.w) X.A X.env X.xe)(Y:X.calm=true)(hi:PI X tg iter P)(hg:PG X tg g)(hb:PSs X body R)(hs:∀ x,foldedSetIterable iter X.env x=pure x:=by intro _;rfl):PS X (.For tg iter body [] pos) (zbF P g R):=by
  intro pins s σ H D I h;refine wpAny_For (thn (hi pins s σ H _ I h) λv s1 h1=>thn h1 λab s2 h2=>?_) hs;obtain⟨it,A,Q,J,H2,e,I2,T,L,Z,W,⟨m0,w0⟩,turn⟩:=h2;subst e;have p:∀ {q:Hp},(∀ b∈A,q b=none)->∀ b∈A,FpOk X pins q b:=λhn b hb=>⟨hn b hb,(Z b hb).2⟩;refine codeAny_forLoop_any (λn V=>∃ i l q,Inv X pins l q V/\Q i V.heap/\(∀ b∈A,q b=none)/\W i n l q) ?_ m0 ⟨0,σ,H2,I2,L,λb hb=>(Z b hb).1,w0⟩;rintro n U ⟨i,k,E,I3,B,C,w3⟩;rcases turn i n k E w3 with ⟨stop,qn⟩|⟨go,N,hN,step⟩
  · refine Za z (thn (T.done X rfl rfl rfl Y i pins U k E X.xe I3 (p C) B stop) λr s4 ⟨G,I4⟩=>?_)
    subst G;exact Zy ⟨k,E,I4,qn⟩
  · refine Za z (thn (T.item X rfl rfl rfl Y i pins U k E X.xe I3 (p C) B go) λr s4 ⟨u,G,h4⟩=>?_)
    subst G;refine Za z (thn h4 λ_ S ⟨x,H5,I5,r5,y5,w,M⟩=>?_);have O:=I5.pinned (p M) (T.obj _ _ w);refine Za z (thn (hg _ S k H5 x u _ O r5 (step x H5 y5)) λ_ s6 ⟨K,H6,I6,q6⟩=>?_);refine Za z (thn (hb _ s6 K H6 _ I6 q6) λf F t=>?_)
    have again:∀ {a:St}{j:Hp},Inv X (pins++wY A S.heap) a j F->N a j->∃ m,m<n/\∃ i l q,Inv X pins l q F/\Q i F.heap/\(∀ b∈A,q b=none)/\W i m l q:=λ{a j} c y=>by
      obtain⟨m',hm,w7⟩:=hN a j y;refine⟨m',hm,i+1,a,j,c.unpinned,T.keep _ _ _ w λb hb o e=>(c.pin (b,o) (Jv _ (Jv _ (yw hb e)))).1,λb hb=>?_,w7⟩;obtain⟨o,e,d⟩:=T.obj _ _ w b hb;exact(c.pin (b,o) (Jv _ (Jv _ (yw hb e)))).2.1
    cases f with
    | next=>obtain⟨a,j,c,y⟩:=t;exact again c y
    | cont=>obtain⟨a,j,c,y⟩:=t;exact again c y
    | brk=>obtain⟨a,j,c,t⟩:=t;exact⟨a,j,c.unpinned,t⟩
    | ret v=>obtain⟨x7,a,j,c,r7,t⟩:=t;exact⟨x7,a,j,c.unpinned,r7,t⟩
end
theorem uF {K:Jl}{a:JI}{xs:List V}{g:TG}{k:TS}{D:Ends}{σ:St}{H:Hp}(b:Nat->St->Hp->Prop)(t:b 0 σ H)(o:∀ i σ H,i<=xs.length->b i σ H->SqT K H a xs)(hs:∀ i x σ H,xs[i]?=some x->b i σ H->g x σ H λd j=>k { D with nx:=b (i+1),ct:=b (i+1),bk:=D.nx } d j)(s:∀ σ H,b xs.length σ H->D.nx σ H) :
    ∃ W:Nat->Nat->St->Hp->Prop,(∃ m,W 0 m σ H)/\∀ i m σ H,W i m σ H ->
      ((Itt K a).stop i H/\D.nx σ H)\/((Itt K a).go i H/\∃ N:St->Hp->Prop,(∀ f c,N f c->∃ l,l<m/\W (i+1) l f c)/\∀ x c,(Itt K a).yld i H x c->g x σ c λd j=>k { D with nx:=N,ct:=N,bk:=D.nx } d j):=by
  refine⟨λi m σ H=>m=xs.length-i/\i<=xs.length/\b i σ H,⟨xs.length,by simp,JM _,t⟩,?_⟩;rintro i m σ H ⟨rfl,r,p⟩;have q:=o i σ H r p;by_cases h:i<xs.length
  · refine .inr ⟨⟨xs,xs[i],q,by simp[h]⟩,b (i+1),λf c n=>⟨xs.length-(i+1),by grind,rfl,h,n⟩,λx c y=>?_⟩
    obtain⟨e,y⟩:=y;subst e;exact hs i x σ _ (y xs q) p
  · have e:i=xs.length:=by grind
    subst e;exact .inl ⟨⟨xs,q,Je _⟩,s σ H p⟩
theorem y0 {lo:Int}{n:Nat}{g:TG}{j:TS}{D:Ends}{σ:St}{H:Hp}(a:Nat->St->Hp->Prop)(q:a 0 σ H)(hs:∀ i σ H,i<n->a i σ H->g (.int (lo+i)) σ H λc h=>j { D with nx:=a (i+1),ct:=a (i+1),bk:=D.nx } c h)(o:∀ σ H,a n σ H->D.nx σ H) :
    ∃ W:Nat->Nat->St->Hp->Prop,(∃ m,W 0 m σ H)/\∀ i m σ H,W i m σ H ->
      ((Itr lo n).stop i H/\D.nx σ H)\/((Itr lo n).go i H/\∃ N:St->Hp->Prop,(∀ d b,N d b->∃ k,k<m/\W (i+1) k d b)/\∀ x b,(Itr lo n).yld i H x b->g x σ b λc h=>j { D with nx:=N,ct:=N,bk:=D.nx } c h):=by
  refine⟨λi m σ H=>m=n-i/\i<=n/\a i σ H,⟨n,by simp,JM _,q⟩,?_⟩;rintro i m σ H ⟨rfl,r,p⟩;by_cases f:i<n
  · refine .inr ⟨f,a (i+1),λd b l=>⟨n-(i+1),by grind,rfl,f,l⟩,λx b y=>?_⟩
    obtain⟨e,y⟩:=y;subst e y;exact hs i σ _ f p
  · have e:i=n:=by lia
    subst e;exact .inl ⟨Je _,o σ H p⟩
abbrev R2:=V->V->Hp->VK->Prop
def OpR (X:Cx)(f:Jo->Jo->Sem Jo)(r:R2):Prop :=
  ∀ (pins:List (JI × Obj)) (s:JO) (σ:St) (H:Hp) (x y:V) (v u:Jo) (Q:VK),Inv X pins σ H s->RelV x v->RelV y u->r x y H Q ->
    wpAny (model X.prog X.w) X.A (f v u) (EP X pins σ Q) X.xe s
def UnR (X:Cx)(f:Jo->Sem Jo)(r:V->Hp->VK->Prop):Prop :=
  ∀ (pins:List (JI × Obj)) (s:JO) (σ:St) (H:Hp) (x:V) (v:Jo) (Q:VK),Inv X pins σ H s->RelV x v->r x H Q ->
    wpAny (model X.prog X.w) X.A (f v) (EP X pins σ Q) X.xe s
def CallR (X:Cx)(f:Jo)(r:List V->Hp->VK->Prop):Prop :=
  ∀ (pins:List (JI × Obj)) (s:JO) (σ:St) (H:Hp) (a:List V) (b:List Jo) (Q:VK),Inv X pins σ H s->Vals a b->r a H Q ->
    wpAny (model X.prog X.w) X.A (call f b) (EP X pins σ Q) X.xe s
def TruR (X:Cx)(r:V->Hp->(Bool->Hp->Prop)->Prop):Prop :=
  ∀ (pins:List (JI × Obj)) (s:JO) (σ:St) (H:Hp) (x:V) (v:Jo) (Q:Bool->Hp->Prop),Inv X pins σ H s->RelV x v->r x H Q ->
    wpAny (model X.prog X.w) X.A (truthy v) (TP X pins σ Q) X.xe s
def tOp (r:R2)(b a:TE):TE:=λσ H Q=>b σ H λx d=>a σ d λy c=>r x y c Q
def tUn (r:V->Hp->VK->Prop)(a:TE):TE:=λσ H Q=>a σ H λx b=>r x b Q
def rI (C:Int->Int->Prop)(g:Int->Int->V):R2:=λx y H Q=>∃ i j,x=.int i/\y=.int j/\C i j/\Q (g i j) H
def rI0 (g:Int->Int->V):R2:=λx y H Q=>∃ i j,x=.int i/\y=.int j/\Q (g i j) H
def rU (g:Int->V):V->Hp->VK->Prop:=λx H Q=>∃ i,x=.int i/\Q (g i) H
section
variable {X:Cx}{a b:Expr}{ta tb:TE}{pos:Pos}
theorem zaM (ha:PE X a ta)(hb:PE X b tb){pins:List (JI × Obj)}{s:JO}{σ:St}{H:Hp}{R:V->V->Hp->Prop}(I:Inv X pins σ H s)(h:ta σ H λx g=>tb σ g λy c=>R x y c){Q:Jo->JO->Prop}{f:Jo->Jo->Sem Jo}(n:∀ v u s2 x y c,Inv X pins σ c s2->RelV x v->RelV y u->R x y c->wpAny (model X.prog X.w) X.A (f v u) Q X.xe s2) :
    wpAny (model X.prog X.w) X.A (eval a X.env) (λv e=>wpAny (model X.prog X.w) X.A (eval b X.env) (λu d=>wpAny (model X.prog X.w) X.A (f v u) Q X.xe d) X.xe e) X.xe s:=by
  refine thn (ha pins s σ H _ I h) λv i ⟨x,g,p,k,m⟩=>?_;refine thn (hb pins i σ g _ p m) λu s2 ⟨y,c,o,j,l⟩=>?_;exact n v u s2 x y c o k j l
theorem zS {op:Operator}{r:R2}(f:OpR X (binaryOp op) r)(ha:PE X a ta)(hb:PE X b tb):PE X (.BinOp a op b pos) (tOp r ta tb):=by
  intro pins s σ H Q I h;exact wpAny_BinOp (zaM ha hb I h λv u c x y i g e d q=>f pins c σ i x y v u Q g e d q)
theorem fg {op:UnaryOp}{r:V->Hp->VK->Prop}(e:UnR X (unaryOp op) r)(ha:PE X a ta):PE X (.UnaryOp op a pos) (tUn r ta):=by
  intro pins s σ H Q I h;exact UnaryOp_ (thn (ha pins s σ H _ I h) λv b ⟨x,g,f,c,d⟩=>e pins b σ g x v Q f c d)
theorem opI {f:Jo->Jo->Sem Jo}{C:Int->Int->Prop}{g:Int->Int->Int}(rule:∀ (i j:Int) (t u:Tok) (s:JO) (Q:Jo->JO->Prop) (E:Jo->JO->Prop),C i j->Q (.int (g i j) s.toks) { s with toks:=s.toks+1 }->wpAny (model X.prog X.w) X.A (f (.int i t) (.int j u)) Q E s) :
    OpR X f (rI C λi j=>.int (g i j)):=by
  intro pins s σ H x y v u Q I c b h;obtain⟨i,j,rfl,rfl,d,q⟩:=h;obtain⟨t,rfl⟩:=c;obtain⟨a,rfl⟩:=b;exact rule i j t a s _ _ d ⟨.int (g i j),H,I.tok _,⟨_,rfl⟩,q⟩
theorem zbh {f:Jo->Jo->Sem Jo}{g:Int->Int->Int}(rule:∀ (i j:Int) (t u:Tok) (s:JO) (Q:Jo->JO->Prop) (E:Jo->JO->Prop),Q (.int (g i j) s.toks) { s with toks:=s.toks+1 }->wpAny (model X.prog X.w) X.A (f (.int i t) (.int j u)) Q E s) :
    OpR X f (rI0 λi j=>.int (g i j)):=by
  intro pins s σ H x y v u Q I c b h;obtain⟨i,j,rfl,rfl,q⟩:=h;obtain⟨t,rfl⟩:=c;obtain⟨a,rfl⟩:=b;exact rule i j t a s _ _ ⟨.int (g i j),H,I.tok _,⟨_,rfl⟩,q⟩
theorem zam {f:Jo->Jo->Sem Jo}{g:Int->Int->Bool}(rule:∀ (i j:Int) (t u:Tok) (s:JO) (Q:Jo->JO->Prop) (E:Jo->JO->Prop),Q (.bool (g i j)) s->wpAny (model X.prog X.w) X.A (f (.int i t) (.int j u)) Q E s) :
    OpR X f (rI0 λi j=>.bl (g i j)):=by
  intro pins s σ H x y v u Q I c b h;obtain⟨i,j,rfl,rfl,q⟩:=h;obtain⟨t,rfl⟩:=c;obtain⟨a,rfl⟩:=b;exact rule i j t a s _ _ ⟨.bl (g i j),H,I,rfl,q⟩
def CDiv (i j:Int):Prop:=0<j/\j<1073741824
def CPow (i j:Int):Prop:=0<=j/\j<=1000000/\i.natAbs<2 ^ 64
def CMul (i j:Int):Prop:=(-(2 ^ 64)<i/\i<2 ^ 64)\/(-(2 ^ 64)<j/\j<2 ^ 64)
theorem CMul.ok {i j:Int}(h:CMul i j):IntMulOk i j:=by
  rcases h with ⟨b,a⟩|⟨b,a⟩
  · exact .of_left (intBits_le_64 b a)
  · exact .of_right (intBits_le_64 b a)
theorem yQ:OpR X (binaryOp .Add) (rI0 λi j=>.int (i+j)):=zbh λ_ _ _ _ _ _ _ q=>add_int q
theorem xW:OpR X (binaryOp .Sub) (rI0 λi j=>.int (i-j)):=zbh λ_ _ _ _ _ _ _ q=>sub_int q
theorem xL:OpR X (binaryOp .Mult) (rI CMul λi j=>.int (i*j)):=opI λ_ _ _ _ _ _ _ a q=>mul_int q a.ok
theorem xh:OpR X (binaryOp .FloorDiv) (rI CDiv λi j=>.int (i / j)):=opI λi j _ _ _ _ _ a q=>by
  have c:(0:Int)<j:=a.1;have b:j<1073741824:=a.2;exact floordiv_int (by grind) (by rw[Int.fdiv_eq_ediv_of_nonneg i (by lia)];exact q) (.inl (PyProof.noPylong_small (by omega)))
theorem xt:OpR X (binaryOp .Mod) (rI (λ_ j=>0<j) λi j=>.int (i%j)):=opI λi j _ _ _ _ _ a q=>by
  have b:(0:Int)<j:=a;exact mod_int' (by grind) (by rw[Int.fmod_eq_emod_of_nonneg i (by grind)];exact q)
theorem uU:OpR X (binaryOp .Pow) (rI CPow λi j=>.int (i ^ j.toNat)):=opI λ_ _ _ _ _ _ _ a q=>pow_int_small a.1 a.2.1 a.2.2 q
theorem bp:OpR X (inplaceOp .Mult) (rI CMul λi j=>.int (i*j)):=opI λ_ _ _ _ _ _ _ a q=>imul_int q a.ok
theorem unI {f:Jo->Sem Jo}{g:Int->Int}(rule:∀ (i:Int) (t:Tok) (s:JO) (Q:Jo->JO->Prop) (E:Jo->JO->Prop),Q (.int (g i) s.toks) { s with toks:=s.toks+1 }->wpAny (model X.prog X.w) X.A (f (.int i t)) Q E s) :
    UnR X f (rU λi=>.int (g i)):=by
  intro pins s σ H x v Q I a h;obtain⟨i,rfl,q⟩:=h;obtain⟨t,rfl⟩:=a;exact rule i t s _ _ ⟨.int (g i),H,I.tok _,⟨_,rfl⟩,q⟩
theorem nO:UnR X (unaryOp .USub) (rU λi=>.int (-i)):=unI λ_ _ _ _ _ q=>neg_int q
end
def za3:V->V->Bool
  | .non,.non=>true|.non,.int _=>true|.int _,.non=>true|.non,.bl _=>true|.bl _,.non=>true|.non,.str _=>true|.str _,.non=>true
  | .int _,.int _=>true|.bl _,.bl _=>true|.str _,.str _=>true|.byt _,.byt _=>true
  | .int _,.str _=>true|.str _,.int _=>true|.bl _,.str _=>true|.str _,.bl _=>true
  | _,_=>false
def rEq:R2:=λx y H Q=>za3 x y=true/\Q (.bl (decide (x=y))) H
def rNe:R2:=λx y H Q=>za3 x y=true/\Q (.bl (!decide (x=y))) H
theorem ko {i j:Int}:decide (V.int i=V.int j)=(i == j):=by
  rw[Yf];simp
theorem cA {i j:Bool}:decide (V.bl i=V.bl j)=(i == j):=by
  rw[Yf];simp
theorem kj {i j:Str}:decide (V.str i=V.str j)=(i == j):=by
  rw[Yf];simp
theorem kr {i j:Array UInt8}:decide (V.byt i=V.byt j)=(i.toList == j.toList):=by
  rw[Yf];cases i;cases j;simp
section
variable {X:Cx}{a b c:Expr}{ta tb:TE}{pos:Pos}
theorem yE {pins:List (JI × Obj)}{σ:St}{H:Hp}{s:JO}{Q:VK}{k a:Bool}(I:Inv X pins σ H s)(q:Q (.bl k) H)(e:k=a):EP X pins σ Q (.bool a) s:=by
  subst e;exact⟨.bl k,H,I,rfl,q⟩
theorem xu:OpR X (compareOp .Eq) rEq:=by
  intro pins s σ H x y v u Q I d a h;obtain⟨c,q⟩:=h
  cases x with
  | non =>
    cases d
    cases y with
    | non=>cases a;exact PySem.EqNone.eq_none_none (yE I q (by simp))
    | bl j=>cases a;exact PySem.EqNone.eq_none_bool (yE I q (by simp))
    | int j=>obtain⟨b,rfl⟩:=a;exact PySem.EqNone.eq_none_int (yE I q (by simp))
    | str j=>obtain⟨b,rfl⟩:=a;exact PySem.EqNone.eq_none_str (yE I q (by simp))
    | _=>exact absurd (show false=true from c) Ji
  | bl i =>
    cases d
    cases y with
    | non=>cases a;exact PySem.EqNone.eq_bool_none (yE I q (by simp))
    | bl j=>cases a;exact eq_bool (yE I q cA)
    | str j=>obtain⟨b,rfl⟩:=a;exact PySem.EqMixed.eq_bool_str (yE I q (by simp))
    | _=>exact absurd (show false=true from c) Ji
  | int i =>
    obtain⟨t,rfl⟩:=d
    cases y with
    | non=>cases a;exact PySem.EqNone.eq_int_none (yE I q (by simp))
    | int j=>obtain⟨b,rfl⟩:=a;exact eq_int (yE I q ko)
    | str j=>obtain⟨b,rfl⟩:=a;exact PySem.EqMixed.eq_int_str (yE I q (by simp))
    | _=>exact absurd (show false=true from c) Ji
  | str i =>
    obtain⟨t,rfl⟩:=d
    cases y with
    | non=>cases a;exact PySem.EqNone.eq_str_none (yE I q (by simp))
    | bl j=>cases a;exact PySem.EqMixed.eq_str_bool (yE I q (by simp))
    | int j=>obtain⟨b,rfl⟩:=a;exact PySem.EqMixed.eq_str_int (yE I q (by simp))
    | str j=>obtain⟨b,rfl⟩:=a;exact eq_str (yE I q kj)
    | _=>exact absurd (show false=true from c) Ji
  | byt i =>
    obtain⟨t,rfl⟩:=d
    cases y with
    | byt j=>obtain⟨b,rfl⟩:=a;exact PySem.W.eq_bytes (yE I q kr)
    | _=>exact absurd (show false=true from c) Ji
  | _=>cases y<;>exact absurd (show false=true from c) Ji
theorem kD:OpR X (compareOp .NotEq) rNe:=by
  intro pins s σ H x y v u Q I d a h;obtain⟨c,q⟩:=h
  cases x with
  | non =>
    cases d
    cases y with
    | non=>cases a;exact PySem.EqNone.ne_none_none (yE I q (by simp))
    | bl j=>cases a;exact PySem.EqNone.ne_none_bool (yE I q (by simp))
    | int j=>obtain⟨b,rfl⟩:=a;exact PySem.EqNone.ne_none_int (yE I q (by simp))
    | str j=>obtain⟨b,rfl⟩:=a;exact PySem.EqNone.ne_none_str (yE I q (by simp))
    | _=>exact absurd (show false=true from c) Ji
  | bl i =>
    cases d
    cases y with
    | non=>cases a;exact PySem.EqNone.ne_bool_none (yE I q (by simp))
    | bl j=>cases a;exact ne_bool (yE I q (JL not cA))
    | str j=>obtain⟨b,rfl⟩:=a;exact PySem.EqMixed.ne_bool_str (yE I q (by simp))
    | _=>exact absurd (show false=true from c) Ji
  | int i =>
    obtain⟨t,rfl⟩:=d
    cases y with
    | non=>cases a;exact PySem.EqNone.ne_int_none (yE I q (by simp))
    | int j=>obtain⟨b,rfl⟩:=a;exact ne_int (yE I q (JL not ko))
    | str j=>obtain⟨b,rfl⟩:=a;exact PySem.EqMixed.ne_int_str (yE I q (by simp))
    | _=>exact absurd (show false=true from c) Ji
  | str i =>
    obtain⟨t,rfl⟩:=d
    cases y with
    | non=>cases a;exact PySem.EqNone.ne_str_none (yE I q (by simp))
    | bl j=>cases a;exact PySem.EqMixed.ne_str_bool (yE I q (by simp))
    | int j=>obtain⟨b,rfl⟩:=a;exact PySem.EqMixed.ne_str_int (yE I q (by simp))
    | str j=>obtain⟨b,rfl⟩:=a;exact ne_str (yE I q (JL not kj))
    | _=>exact absurd (show false=true from c) Ji
  | byt i =>
    obtain⟨t,rfl⟩:=d
    cases y with
    | byt j=>obtain⟨b,rfl⟩:=a;exact PySem.W.ne_bytes (yE I q (JL not kr))
    | _=>exact absurd (show false=true from c) Ji
  | _=>cases y<;>exact absurd (show false=true from c) Ji
theorem aN:OpR X (compareOp .Lt) (rI0 λi j=>.bl (decide (i<j))):=zam λ_ _ _ _ _ _ _ q=>lt_int q
theorem sF:OpR X (compareOp .Gt) (rI0 λi j=>.bl (decide (j<i))):=zam λ_ _ _ _ _ _ _ q=>gt_int q
theorem zbg:OpR X (compareOp .GtE) (rI0 λi j=>.bl (decide (j<=i))):=zam λ_ _ _ _ _ _ _ q=>ge_int q
theorem eB:OpR X (compareOp .Is) (λx y H Q=>y=.non/\Q (.bl (decide (x=.non))) H):=by
  intro pins s σ H x y v u Q I a b h;obtain⟨rfl,q⟩:=h;cases b;refine is_none_gen (yE I q ?_)
  cases x<;>first
    | (cases a;rfl)
    | (obtain⟨t,rfl⟩:=a;rfl)
theorem bG:OpR X (compareOp .IsNot) (λx y H Q=>y=.non/\Q (.bl (!decide (x=.non))) H):=by
  intro pins s σ H x y v u Q I a b h;obtain⟨rfl,q⟩:=h;cases b;refine isnot_none_gen (yE I q ?_)
  cases x<;>first
    | (cases a;rfl)
    | (obtain⟨t,rfl⟩:=a;rfl)
theorem yI (b:Expr){op:CmpOp}(h:op≠.In:=by decide)(a:op≠.NotIn:=by decide):behindInMarks op b=false:=by
  have c:(op == CmpOp.In)=false:=by cases op<;>first|rfl|exact absurd rfl h
  have e2:(op == CmpOp.NotIn)=false:=by cases op<;>first|rfl|exact absurd rfl a
  cases b<;>simp[behindInMarks,c,e2]
theorem vC {op:CmpOp}{r:R2}(f:OpR X (compareOp op) r)(ha:PE X a ta)(hb:PE X b tb)(g:behindInMarks op b=false):PE X (.Compare a [op] [b] pos) (tOp r ta tb):=by
  intro pins s σ H Q I h;exact wpAny_Compare1 (zaM ha hb I h λv u c x y j i e d q=>f pins c σ j x y v u Q i e d q) g
def zaS (t:TE):TT:=λσ H Q=>t σ H λx a=>∃ k,x=.bl k/\Q k a
theorem zq {op:CmpOp}{r:R2}(o:OpR X (compareOp op) r)(ha:PE X a ta)(hb:PE X b tb)(p:behindInMarks op b=false):PT X (.Compare a [op] [b] pos) (zaS (tOp r ta tb)):=by
  intro pins s σ H Q I h
  refine wpAny_isTrue_Compare1 (thn (ha pins s σ H _ I h) λv f ⟨x,C,w,j,n⟩=>thn (hb pins f σ C _ w n) λu d ⟨y,B,t,i,m⟩ =>
    thn (o pins d σ B x y v u _ t j i m) λc D ⟨z,A,q,g,k,e,l⟩=>?_) p
  subst e;cases g;exact Zh ⟨A,q,l⟩
def TruV (K:Jl)(x:V)(H:Hp)(k:Bool):Prop :=
  match x with
  | .non=>k=false
  | .bl b=>k=b
  | .int i=>k=(i != 0)
  | .str y=>y.length<=sizeLine/\k=((y.length:Int) != 0)
  | .byt y=>y.size<=sizeLine/\k=((y.size:Int) != 0)
  | .ref p=>(∃ a,SqL K H p a/\k = !a.isEmpty)\/(∃ a,SqT K H p a/\k = !a.isEmpty)\/∃ c,H p=some (.dK c)/\k = !c.isEmpty
  | _=>False
theorem lK {a:Type}{kvs:List (a × V)}{vs:List (a × Jo)}(r:KV kvs vs):(!vs.isEmpty) = !kvs.isEmpty:=by
  cases r<;>rfl
theorem sQ {xs:List V}{its:List Jo}(r:Vals xs its):(!its.toArray.isEmpty) = !xs.isEmpty:=by
  cases r<;>simp
theorem sO:(sizeLine:Nat)<2 ^ 63:=by rw[Ju];decide
theorem aW:TruR X (λx H Q=>∃ k,TruV X.K x H k/\Q k H):=by
  intro pins s σ H x v Q I f h;obtain⟨k,e,q⟩:=h;have A:=sO;have z:sizeLine=16777216:=Ju
  cases x with
  | non =>
    cases f;have a:k=false:=e;subst a
    exact truthy_none ⟨H,I,q⟩
  | bl b =>
    cases f;have a:k=b:=e;subst a
    exact Zh ⟨H,I,q⟩
  | int i =>
    obtain⟨t,rfl⟩:=f;have a:k=(i != 0):=e;subst a
    exact PySem.P.truthy_int ⟨H,I,q⟩
  | str y =>
    obtain⟨t,rfl⟩:=f;obtain⟨u,a⟩:y.length<=sizeLine/\k=((y.length:Int) != 0):=e;subst a
    exact PySem.P.truthy_str (by lia) ⟨H,I.tok _,q⟩
  | byt y =>
    obtain⟨t,rfl⟩:=f;obtain⟨u,a⟩:y.size<=sizeLine/\k=((y.size:Int) != 0):=e;subst a
    exact PySem.W.truthy_bytes (by lia) ⟨H,I.tok _,q⟩
  | ref p =>
    cases f;have a:(∃ d,SqL X.K H p d/\k = !d.isEmpty)\/(∃ d,SqT X.K H p d/\k = !d.isEmpty)\/∃ c,H p=some (.dK c)/\k = !c.isEmpty:=e;rcases a with ⟨d,g,a⟩|⟨d,g,a⟩|⟨c,g,a⟩
    · subst a
      obtain⟨n,r,l,o⟩:=I.list g;have hlen:=r.length;exact wpAny_truthy_list l.isList (by simp only[Jf];lia) ⟨H,I.tok _,by rw[sQ r];exact q⟩
    · subst a
      obtain⟨n,r,l,o⟩:=I.tuple g;have hlen:=r.length;exact truthy_tuple l (by simp only[Jf];grind) ⟨H,I.tok _,by rw[sQ r];exact q⟩
    · subst a
      obtain⟨o,w,j,r,m⟩:c.length<=sizeLine/\(p == sysModules)=false/\∃ j,KV c j/\s.heap.DictOf (yi X.prog X.w) p j:=I.hok p _ g;have hlen:c.length=j.length:=Yr r
      exact wpAny_truthy_dict w m (by lia) ⟨H,I.tok _,by rw[lK r];exact q⟩
  | _=>exact(show False from e).elim
theorem gy (ha:PE X a ta)(e:∀ whole,isTrue a X.env whole=(do let v <- whole;standAt a.pos;holding [v] (truthy v))) :
    PT X a (λσ H Q=>ta σ H λx H'=>∃ k,TruV X.K x H' k/\Q k H'):=by
  intro pins s σ H Q I h;exact isTrue_plain (thn (ha pins s σ H _ I h) λv b ⟨x,g,f,c,d⟩=>aW pins b σ g x v Q f c d) (e _)
theorem rF {x:V}{us:List Jo}(r:Vals [x] us):∃ u,us=[u]/\RelV x u:=by
  cases r with
  | cons b a=>cases a;exact⟨_,rfl,b⟩
theorem i7 {x y:V}{us:List Jo}(r:Vals [x,y] us):∃ u a,us=[u,a]/\RelV x u/\RelV y a:=by
  cases r with
  | cons e d =>
    cases d with
    | cons c b=>cases b;exact⟨_,_,rfl,e,c⟩
theorem nL:CallR X (.builtin "abs") (λxs H Q=>∃ i,xs=[.int i]/\Q (.int (if i<0 then -i else i)) H):=by
  intro pins s σ H xs a Q I r h;obtain⟨i,rfl,q⟩:=h;obtain⟨u,rfl,t,rfl⟩:=rF r;exact call_abs_int λu b=>⟨.int (if i<0 then -i else i),H,I.tok _,⟨_,rfl⟩,q⟩
theorem qH (b:X.calm=true):CallR X (.builtin "max") (λxs H Q=>∃ i j,xs=[.int i,.int j]/\Q (.int (if j > i then j else i)) H):=by
  intro pins s σ H xs d Q I r h;obtain⟨i,j,rfl,q⟩:=h;obtain⟨u,c,rfl,⟨t,rfl⟩,⟨f,rfl⟩⟩:=i7 r;refine max_two_ints (I.ok.hd b) λg e k=>⟨_,H,I.kept k,?_,q⟩;by_cases a:j > i
  · rw[Jq a,Jq a];exact⟨_,rfl⟩
  · rw[Jg a,Jg a];exact⟨_,rfl⟩
theorem iq (b:X.calm=true):CallR X (.builtin "min") (λxs H Q=>∃ i j,xs=[.int i,.int j]/\Q (.int (if j<i then j else i)) H):=by
  intro pins s σ H xs d Q I r h;obtain⟨i,j,rfl,q⟩:=h;obtain⟨u,c,rfl,⟨t,rfl⟩,⟨f,rfl⟩⟩:=i7 r;refine min_two_ints (I.ok.hd b) λg e k=>⟨_,H,I.kept k,?_,q⟩;by_cases a:j<i
  · rw[Jq a,Jq a];exact⟨_,rfl⟩
  · rw[Jg a,Jg a];exact⟨_,rfl⟩
theorem wL:CallR X (.type "int") (λxs H Q=>(∃ i,xs=[.int i]/\Q (.int i) H)\/∃ k,xs=[.bl k]/\Q (.int (if k then 1 else 0)) H):=by
  intro pins s σ H xs b Q I r h;rcases h with ⟨i,rfl,q⟩|⟨k,rfl,q⟩
  · obtain⟨u,rfl,t,rfl⟩:=rF r
    exact call_int_int ⟨.int i,H,I,⟨_,rfl⟩,q⟩
  · obtain⟨u,rfl,a⟩:=rF r
    cases a;exact call_int_bool ⟨.int (if k then 1 else 0),H,I.tok _,⟨_,rfl⟩,q⟩
end
structure Room (k:Nat) (A:YO):Prop where
  hd:A.handled=none
  dp:A.depth+3*k+5<recursionLimit
  un:A.units+16*k+200<cLine
  gd:A.guards=some []
theorem Room.mono {j k:Nat}{A:YO}(r:Room k A)(h:j<=k):Room j A:=⟨r.hd,by have:=r.dp;grind,by have:=r.un;grind,r.gd⟩
theorem Room.deeper {k:Nat}{A:YO}(r:Room (k+1) A)(env:Env):Room k (A.deeper env) :=
  ⟨r.hd,by have:=r.dp;show A.depth+1+3*k+5<_;lia,by have:=r.un;show A.units+3+16*k+200<_;lia,r.gd⟩
theorem Room.depth {k:Nat}{A:YO}(r:Room k A):A.depth<recursionLimit:=by have:=r.dp;grind
theorem Room.units {k:Nat}{A:YO}(r:Room k A):A.units+64<cLine:=by have:=r.un;grind
theorem Room.units0 {k:Nat}{A:YO}(r:Room k A):A.units<cLine:=by have:=r.un;grind
def zaV:TA:=λ_ H Q=>Q [] H
def gH (c:TE)(b:TA):TA:=λσ H Q=>c σ H λx e=>b σ e λa d=>Q (x::a) d
section
variable {X:Cx}{e:Expr}{es:List Expr}{te:TE}{t:TA}{pos:Pos}
theorem zC:PA X [] zaV:=λ_ _ _ _ H Q I h=>ZL ⟨[],H,I,.nil,h⟩
theorem zA (ha:PE X e te)(i:PA X es t)(hs:starEach (e::es) X.env=(false,eval e X.env)::starEach es X.env:=by rfl):PA X (e::es) (gH te t):=by
  intro pos pins s σ H Q I h;rw[hs];show wpAny _ _ (spliced ((false,eval e X.env)::backTo pos (starEach es X.env))) _ _ s;refine Ze (thn (ha pins s σ H _ I h) λu b ⟨x,m,k,d,g⟩=>?_);exact thn (i pos pins b σ m _ k g) λn o ⟨a,l,j,c,f⟩=>⟨x::a,l,j,.cons d c,f⟩
def zbz (t:TA):TE:=λσ H Q=>t σ H λa b=>a.length<=sizeLine/\∀ p,b p=none->Q (.ref p) (upd b p (.tup a))
def zbD (t:TA):TE:=λσ H Q=>t σ H λa b=>a.length<=sizeLine/\∀ p,b p=none->Q (.ref p) (upd b p (.lst a))
theorem zj {x1}(h:PA X es t):PE X (.Tuple es x1 pos) (zbz t):=by
  intro pins s σ H Q I i;refine wpAny_Tuple_spliced (thn (h pos pins s σ H _ I i) λg a ⟨f,d,c,r,z,q⟩=>⟨by rw[<- r.length];exact z,?_⟩);have j:d a.heap.objs.size=none:=c.hok.fresh (Je _);refine⟨.ref a.heap.objs.size,upd d a.heap.objs.size (.tup f),c.laid (t':=a.toks) (λb u e=>J7 _ e) (Je _) ?_,rfl,q _ j⟩;exact⟨z,g,r,TupX.new _ _⟩
theorem zr (h:PA X es t):PE X (.List es pos) (zbD t):=by
  intro pins s σ H Q I i;refine wpAny_List_spliced (thn (h pos pins s σ H _ I i) λg a ⟨f,d,c,r,z,q⟩=>⟨by rw[<- r.length];exact z,?_⟩);have j:d a.heap.objs.size=none:=c.hok.fresh (Je _);refine⟨.ref a.heap.objs.size,upd d a.heap.objs.size (.lst f),c.laid (t':=a.toks) (λb u e=>J7 _ e) (Je _) ?_,rfl,q _ j⟩;exact⟨z,g,0,r,Jk _ rfl⟩
end
abbrev Sp:=List V->Hp->VK->XK->Prop
abbrev CXT:=List Env->Hp->JO->XK->Jo->JO->Prop
structure Env0 (P:Yo) (w:YI) (K:Jl) (mg:Str->Option Jo) (base:YP) (A:YO) (outer:List Env) (s:JO) (H:Hp):Prop where
  frames:A.frames=some outer
  mod:Mod K mg base
  bs:∀ b o,base.get? b=some o->s.heap.get? b=some o/\H b=none
  bsz:base.objs.size<=s.heap.objs.size
  funs:s.heap.FunFrames base outer
  frf:∀ b∈frs outer,H b=none
  hok:HOk P w H s.heap
  bare:AllBare s.gens
def CE (outer:List Env)(P:Yo)(w:YI)(H:Hp)(s:JO)(Q:VK)(u:Jo)(s':JO):Prop :=
  ∃ v a,s'.os=s.os/\AllBare s'.gens/\Un (frs outer) [] H a s.heap s'.heap/\HOk P w a s'.heap/\RelV v u/\Q v a
def CR (CX:CXT)(outer:List Env)(P:Yo)(w:YI)(H:Hp)(s:JO)(Q:VK)(E:XK)(r:Result)(s':JO):Prop :=
  match r with
  | .ok (.ret u)=>CE outer P w H s Q u s'
  | .ok _=>False
  | .error e=>CX outer H s E e s'
structure FnOk (P:Yo) (w:YI) (K:Jl) (mg:Str->Option Jo) (base:YP) (CX:CXT) (k:Nat) (f:JI) (fd:Yl) (ps:List Str) (sp:Sp):Prop where
  len:∀ vs H Q E,sp vs H Q E->vs.length=ps.length
  run:∀ (A:YO) (outer:List Env) (s:JO) (H:Hp) (args:Args) (us:List Jo) (vs:List V) (Q:VK) (E:XK),Room k A->Env0 P w K mg base A outer s H->BindsTo s fd args (ps.zip us)->Vals vs us->sp vs H Q E ->
    codeAny (model P w) A (.call (.ref f) args) (CR CX outer P w H s Q E) s
theorem FnOk.mono {P:Yo}{w:YI}{K:Jl}{mg:Str->Option Jo}{base:YP}{CX:CXT}{j k:Nat}{f:JI}{fd:Yl}{ps:List Str}{sp:Sp}(F:FnOk P w K mg base CX j f fd ps sp)(h:j<=k) :
    FnOk P w K mg base CX k f fd ps sp:=⟨F.len,λA outer s H args b a Q E c=>F.run A outer s H args b a Q E (c.mono h)⟩
theorem FnOk.imp {P:Yo}{w:YI}{K:Jl}{mg:Str->Option Jo}{base:YP}{CX:CXT}{k:Nat}{f:JI}{fd:Yl}{ps:List Str}{sp a:Sp}(F:FnOk P w K mg base CX k f fd ps sp)(h:∀ vs H Q E,a vs H Q E->sp vs H Q E):FnOk P w K mg base CX k f fd ps a :=
  ⟨λvs H Q E q=>F.len vs H Q E (h _ _ _ _ q),λA outer s H args b vs Q E e g i c d=>F.run A outer s H args b vs Q E e g i c (h _ _ _ _ d)⟩
section
variable {X:Cx}{pins:List (JI × Obj)}{σ:St}{H:Hp}{s s':JO}
theorem Inv.env0 (I:Inv X pins σ H s):Env0 X.prog X.w X.K X.mg X.base X.A X.stack s H :=
  ⟨I.ok.frames,I.ok.mod,I.bs,JQ I.ok.bsz I.sz,I.stack,I.stkFree,I.hok,I.bare⟩
theorem Inv.after {Q:VK}{u:Jo}(I:Inv X pins σ H s)(h:CE X.stack X.prog X.w H s Q u s'):EP X pins σ Q u s':=by
  obtain⟨v,f,os,bare,un,c,r,q⟩:=h;obtain⟨e,g,d,t,a⟩:=s';obtain rfl:a=s.os:=os;exact⟨v,f,I.call (h':=e) (g':=g) (d':=d) (t':=t) (ch:=[]) un c bare (λb z=>absurd z (by simp)),r,q⟩
end
def aI (sp:Sp)(a:List V)(E:XK)(t:TA):TE:=λσ H Q=>t σ H λb c=>sp (b++a) c Q E
def Binds (K:Jl)(fd:Yl)(ps:List Str)(ds:List Jo):Prop :=
  ∀ (s:JO) (a:List Jo),K.In s.heap->(a++ds).length=ps.length->BindsTo s fd ⟨a,[]⟩ (ps.zip (a++ds))
theorem Binds.all {K:Jl}{fd:Yl}{ps:List Str}(h:∀ us:List Jo,us.length=ps.length->bindArgs fd ⟨us,[]⟩=pure (ps.zip us)):Binds K fd ps []:=λs us _ a=>by
  rw[JT]at a ⊢;exact .of_eq (h us a)
def Passes (CX:CXT)(X:Cx)(E:XK):Prop:=∀ (pins:List (JI × Obj)) (σ:St) (H:Hp) (s:JO) (e:Jo) (a:JO),Inv X pins σ H s->CX X.stack H s E e a->X.xe e a
section
variable {X:Cx}{CX:CXT}{k:Nat}{f:JI}{fd:Yl}{ps:List Str}{sp:Sp}{dvs:List V}{ds:List Jo}{E:XK}{x:Str}{p pos:Pos}{e:Expr}{es:List Expr}{t:TA}
theorem zaa {pins:List (JI × Obj)}{σ:St}{H:Hp}{s:JO}{Q:VK}{us:List Jo}{vs:List V}(F:FnOk X.prog X.w X.K X.mg X.base CX k f fd ps sp)(g:Room k X.A)(hb:Binds X.K fd ps ds)(hd:Vals dvs ds)(d:Passes CX X E)(I:Inv X pins σ H s)(r:Vals vs us)(h:sp (vs++dvs) H Q E):wpAny (model X.prog X.w) X.A (call (.ref f) us) (EP X pins σ Q) X.xe s:=by
  have b:Vals (vs++dvs) (us++ds):=r.append hd;have i:(us++ds).length=ps.length:=by rw[<- b.length];exact F.len _ _ _ _ h
  refine wpAny_call (ZE (F.run X.A X.stack s H ⟨us,[]⟩ (us++ds) (vs++dvs) Q E g I.env0 (hb s us I.kIn i) b h) λr c a=>?_)
  cases r with
  | error e=>exact d pins σ H s e c I a
  | ok j =>
    cases j with
    | ret u=>exact I.after a
    | next=>exact False.elim a
    | brk=>exact False.elim a
    | cont=>exact False.elim a
theorem kC (F:FnOk X.prog X.w X.K X.mg X.base CX k f fd ps sp) (g:Room k X.A) (l:Gl X x) (i:X.mg x=some (.ref f)) (j:PySem.W.keepIn X.K (.ref f)=true) (hb:Binds X.K fd ps ds) (hd:Vals dvs ds) (d:Passes CX X E)
    (ha:PA X (e::es) t) (b:(x == ("__debug__":Str))=false:=by decide) (m:starEach (e::es) X.env=(false,eval e X.env)::starEach es X.env:=by rfl) (a:(backTo pos (starEach es X.env)).any (·.1)=false:=by rfl) :
    PE X (.Call (.Name x p) (e::es) [] pos) (aI sp dvs E t):=by
  intro pins s σ H Q I h;refine Yt (uC I l i ?_ b);refine PySem.W.callWith_K (h₀:=X.base) I.ok.mod.kin j (thn (ha pos pins s σ H _ I h) λo u ⟨n,v,c,r,q⟩=>⟨c.kIn,?_⟩) m a;exact zaa F g hb hd d c r q
end
def PK (X:Cx)(a:List Keyword)(t:TA):Prop :=
  ∀ (pos:Pos) (pins:List (JI × Obj)) (s:JO) (σ:St) (H:Hp) (Q:List V->Hp->Prop),Inv X pins σ H s->t σ H Q->wpAny (model X.prog X.w) X.A (evalAll ((backToKw pos (keywordEach a X.env)).map (·.2))) (AP X pins σ Q) X.xe s
section
variable {X:Cx}{x:Str}{pos kpos:Pos}{e:Expr}{kws:List Keyword}{te:TE}{t:TA}{nm:Option Str}
theorem zai:PK X [] zaV:=λ_ _ _ _ H Q I h=>wpAny_evalAll_nil ⟨[],H,I,.nil,h⟩
theorem cy (ha:PE X e te)(i:PK X kws t):PK X (⟨nm,e,kpos⟩::kws) (gH te t):=by
  intro pos pins s σ H Q I h;show wpAny _ _ (evalAll ((do let v <- eval e X.env;standAt pos;pure v)::(backToKw pos (keywordEach kws X.env)).map (·.2))) _ _ s;refine wpAny_evalAll_cons (J0 (thn (ha pins s σ H _ I h) λu b ⟨x,m,k,d,g⟩=>J0 (Yu (J9 ?_))));exact thn (i pos pins b σ m _ k g) λn o ⟨a,l,j,c,f⟩=>⟨x::a,l,j,.cons d c,f⟩
end
structure FnScope (N P:List Str) (sc:Scope):Prop where
  kind:sc.kind=.function
  co:sc.isCoroutine=false
  gen:sc.isGenerator=false
  nd:N.Nodup
  pre:N.take P.length=P
  par:∀ x∈P,sc.names.lookup x=some .local \/ sc.names.lookup x=some .cell
  nofree:∀ y∈sc.names,y.2≠.free
theorem qI {kindOf:Str->Option NameKind}{x:Str}:∀ {binds:List (Str × Jo)}{m:Str->Option Jo},(∀ v,(x,v)∉binds)->bindL kindOf binds m x=m x
  | [],_,_=>rfl
  | (n,v)::r,m,h=>by
    unfold bindL;rw[qI λw a=>h w (JJ _ a)];split
    · have:x≠n:=by rintro rfl;exact h v JH
      simp[this]
    · rfl
theorem qK {kindOf:Str->Option NameKind}{x:Str}:∀ {binds:List (Str × Jo)}{m:Str->Option Jo},(∀ v,(x,v)∉binds)->bindC kindOf binds m x=m x
  | [],_,_=>rfl
  | (n,v)::r,m,h=>by
    unfold bindC;rw[qK λw a=>h w (JJ _ a)];split
    · rfl
    · have:x≠n:=by rintro rfl;exact h v JH
      simp[this]
theorem qJ {kindOf:Str->Option NameKind}{x:Str}{v:Jo}:∀ {P:List Str}{vs:List Jo}{i:Nat}{m:Str->Option Jo},P.Nodup->P[i]?=some x->vs[i]?=some v->kindOf x=some .local ->
    bindL kindOf (P.zip vs) m x=some v
  | [],_,_,_,_,h,_,_=>by simp at h
  | _::_,[],_,_,_,_,h,_=>by simp at h
  | p::P,w::vs,0,m,nd,h1,a,b=>by
    simp at h1 a;subst h1;subst a;show bindL kindOf ((p,w)::P.zip vs) m p=_;unfold bindL;rw[qI λv c=>(JD.mp nd).1 (List.of_mem_zip c).1,Jq b]
    simp
  | p::P,w::vs,i+1,m,nd,h1,a,b=>by
    show bindL kindOf ((p,w)::P.zip vs) m x=_;unfold bindL;exact qJ (i:=i) (JD.mp nd).2 (by simpa using h1) (by simpa using a) b
theorem qL {kindOf:Str->Option NameKind}{x:Str}{v:Jo}:∀ {P:List Str}{vs:List Jo}{i:Nat}{m:Str->Option Jo},P.Nodup->P[i]?=some x->vs[i]?=some v->kindOf x≠some .local ->
    bindC kindOf (P.zip vs) m x=some v
  | [],_,_,_,_,h,_,_=>by simp at h
  | _::_,[],_,_,_,_,h,_=>by simp at h
  | p::P,w::vs,0,m,nd,h1,a,b=>by
    simp at h1 a;subst h1;subst a;show bindC kindOf ((p,w)::P.zip vs) m p=_;unfold bindC;rw[qK λv c=>(JD.mp nd).1 (List.of_mem_zip c).1,Jg b]
    simp
  | p::P,w::vs,i+1,m,nd,h1,a,b=>by
    show bindC kindOf ((p,w)::P.zip vs) m x=_;unfold bindC;exact qL (i:=i) (JD.mp nd).2 (by simpa using h1) (by simpa using a) b
def vh (N:List Str)(vs:List V):St:=vs.map some++List.replicate (N.length-vs.length) none
def wT (CX:CXT)(P:Yo)(w:YI)(K:Jl)(mg:Str->Option Jo)(base:YP)(N:List Str)(qual:Str)(scope:Scope)(f:JI)(cd:Jo)(A:YO)(outer:List Env)(s:JO)(H:Hp)(E:XK):Cx where
  prog:=P
  w:=w
  K:=K
  mg:=mg
  base:=base
  A:=A.deeper (envOfC qual scope s.heap.objs.size f cd)
  N:=N
  s₀:=s
  H₀:=H
  env:=envOfC qual scope s.heap.objs.size f cd
  outer:=outer
  stack:=envOfC qual scope s.heap.objs.size f cd::outer
  ex:=[]
  calm:=true
  fn:=λ_=>true
  pn:=[]
  xe:=λe b=>wpAny (model P w) (A.deeper (envOfC qual scope s.heap.objs.size f cd)) (leaving (envOfC qual scope s.heap.objs.size f cd) e) (λ_ a=>CX outer H s E e a) (λc a=>CX outer H s E c a) b
theorem nK {sc:Scope}{n:Nat}{x:Str}(h:sc.names.lookup x=some .cell):∃ c,(cellsFrom n sc.names []).lookup x=some c:=by
  have q:=PySem.W.cellsFrom_some sc.names n [] (.inl h);exact Z9.mp q
theorem iK {CX:CXT}{P:Yo}{w:YI}{K:Jl}{mg:Str->Option Jo}{base:YP}{N ps:List Str}{qual:Str}{scope:Scope}{f:JI}{cd:Jo}{A:YO}{outer:List Env}{s s1:JO}{H:Hp}{E:XK}{us:List Jo}{vs:List V}(S:FnScope N ps scope)(hd:A.handled=none)(g:Env0 P w K mg base A outer s H)(L:vs.length=ps.length)(r:Vals vs us)(x:InCallC s s.heap.objs.size (bindL (envOfC qual scope s.heap.objs.size f cd).kindOf (ps.zip us) λ_=>none) (cellsFrom (s.heap.objs.size+1) scope.names []) (bindC (envOfC qual scope s.heap.objs.size f cd).kindOf (ps.zip us) λ_=>none) s1) :
    Inv (wT CX P w K mg base N qual scope f cd A outer s H E) [] (vh N vs) H s1:=by
  have I:ps.length<=N.length:=by have:=JL List.length S.pre;rw[Js]at this;lia
  obtain⟨B,J,rfl,D⟩:=x.done;have l:∀ b:JI,b∉(wT CX P w K mg base N qual scope f cd A outer s H E).ex:=λb z=>absurd (show b∈([]:List JI) from z) (by simp)
  refine⟨⟨g.mod,S.kind,rfl,rfl,Je _,λy z c B d=>?_,λy j=>?_,λy c _ h=>?_,λ_=>hd,Around.frames_deeper g.frames,.inr ⟨rfl,rfl⟩,λb z=>absurd z (l b),g.bs,g.bsz,λb _ _=>l b,λb z=>absurd z (l b),g.funs,g.frf⟩,
    rfl,g.bare,Un.kept D,⟨_,x.toInCall.ns,λi y v B d M=>?_⟩,λy c h=>⟨_,x.cell y c h⟩,g.hok.fresh (Je _),λy c h=>?_,λp m=>absurd (show p∈([]:List (JI × Obj)) from m) (by simp),g.hok.kept D,?_⟩
  · exact name_of_addr x.apart (YS B) (YS d)
  · have j:scope.names.lookup y=some .cell\/scope.names.lookup y=some .free:=j
    rcases j with j|j
    · exact nK j
    · exact absurd rfl (S.nofree _ (YS j))
  · exact Nat.le_of_lt (x.above y c (YS h))
  · have t:i<vs.length:=by
      unfold vh at d;by_cases t:i<vs.length
      · exact t
      · rw[Yv (by simpa using t)]at d
        rw[List.getElem?_replicate]at d;split at d<;>cases d
    have G:vs[i]?=some v:=by
      unfold vh at d;rw[Yn (by simpa using t),JF]at d
      cases e:vs[i]? with
      | none=>rw[e]at d;cases d
      | some a=>rw[e]at d;cases d;rfl
    obtain⟨u,C,F⟩:=r.get G
    have m:ps[i]?=some y:=by
      rw[<- S.pre,List.getElem?_take_of_lt (by simp_all)];exact B
    have o:ps.Nodup:=by rw[<- S.pre];exact S.nd.sublist (List.take_sublist _ _)
    refine⟨u,F,?_⟩;rcases S.par y (Jw m) with k|k
    · exact .inl ⟨k,qJ o m C k⟩
    · obtain⟨c,e⟩:=nK (n:=s.heap.objs.size+1) k
      refine .inr ⟨.inl k,c,e,?_⟩;have q:=x.cell y c e;rw[qL o m C (by show scope.names.lookup y≠_;rw[k];decide)]at q;exact q
  · exact g.hok.fresh (Nat.le_of_lt (x.above y c (YS h)))
  · unfold vh
    show _=N.length;rw[Jb,Jc,Y4]
    simp_all
theorem aO {CX:CXT}{P:Yo}{w:YI}{K:Jl}{mg:Str->Option Jo}{base:YP}{k:Nat}{f:JI}{name qual:Str}{params:Arguments}{body:List Stmt}{scope:Scope}{C kV doc pm cdv ct oc:Jo}{an od:Option JI}{osl:Array (Option Jo)}{N ps:List Str}{sp:Sp}(G:K.lookup f=some ⟨oc,od,.func (PySem.W.fnOf name qual params body scope C kV doc pm an cdv ct),osl⟩)(z:PySem.W.codeIn K cdv qual=true)(S:FnScope N ps scope)(len:∀ vs H Q E,sp vs H Q E->vs.length=ps.length)(g:∀ (A:YO) (outer:List Env) (s:JO) (H:Hp) (vs:List V) (Q:VK) (E:XK),Room k (A.deeper (envOfC qual scope s.heap.objs.size f cdv))->sp vs H Q E ->
      ∃ t,PSs (wT CX P w K mg base N qual scope f cdv A outer s H E) body t/\t { nx:=λ_ c=>Q .non c,rt:=Q } (vh N vs) H) :
    FnOk P w K mg base CX (k+1) f (PySem.W.fnOf name qual params body scope C kV doc pm an cdv ct) ps sp:=by
  refine⟨len,λA outer s H args F vs Q E p i U r j=>?_⟩;have R:=len _ _ _ _ j;have D:K.In s.heap:=i.mod.kin.keeps λb o e=>(i.bs b o e).1;have lim:s.heap.NoLimit:=i.mod.nolimit.keeps λb o e=>(i.bs b o e).1
  have d:∀ y∈ps.zip F,scope.names.lookup y.1=some .local \/ (scope.names.lookup y.1=some .cell/\((cellsFrom (s.heap.objs.size+1) scope.names []).lookup y.1).isSome=true):=λ⟨n,v⟩ L=>by
    rcases S.par n (List.of_mem_zip L).1 with q|q
    · exact .inl q
    · exact .inr ⟨q,PySem.W.cellsFrom_some _ _ _ (.inl q)⟩
  refine codeAny_call_function p.depth (D _ _ G) rfl S.co S.gen rfl (PySem.W.codeRec_of D z) (U _ _ _ _ ?_);refine wpAny_newFunctionEnv_cells S.kind d λenv T B x=>?_;subst T;refine⟨lim.keeps x.toInCall.keep,codeAny_func ?_⟩;obtain⟨t,M,O⟩:=g A outer s H vs Q E (p.deeper _) j;have I:Inv (wT CX P w K mg base N qual scope f cdv A outer s H E) [] (vh N vs) H B:=iK S p.hd i R r x;refine JB (M [] B (vh N vs) H _ I O) (λW l h=>?_) λe l h=>h
  have fin:∀ {a:St}{c:Hp}{v:V}{u:Jo},Inv (wT CX P w K mg base N qual scope f cdv A outer s H E) [] a c l->RelV v u->Q v c->CE outer P w H s Q u l :=
    λ{a c v u} J m q=>⟨v,c,J.os,J.bare,J.base,J.hok,m,q⟩
  cases W with
  | ret u =>
    obtain⟨v,a,c,J,m,q⟩:=h
    exact fin J m q
  | next =>
    obtain⟨a,c,J,q⟩:=h
    exact fin (v:=V.non) (u:=Value.none) J rfl q
  | brk =>
    obtain⟨_,_,_,q⟩:=h
    exact False.elim q
  | cont =>
    obtain⟨_,_,_,q⟩:=h;exact False.elim q
section
variable {X:Cx}{x:Str}{p pos:Pos}{e:Expr}{es:List Expr}{t:TA}{id T:String}{r:List V->Hp->VK->Prop}
def tCB (r:List V->Hp->VK->Prop)(t:TA):TE:=λσ H Q=>t σ H λa b=>r a b Q
theorem zc (o:CallR X (.builtin id) r) (m:Gl X x) (l:X.mg x=none) (j:bootBuiltins x=some (.builtin id)) (ha:PA X (e::es) t) (k:x≠"__name__":=by decide) (b:(x == ("__debug__":Str))=false:=by decide)
    (n:starEach (e::es) X.env=(false,eval e X.env)::starEach es X.env:=by rfl) (a:(backTo pos (starEach es X.env)).any (·.1)=false:=by rfl):PE X (.Call (.Name x p) (e::es) [] pos) (tCB r t):=by
  intro pins s σ H Q I h;refine Yt (xv I m l j ?_ k b);exact PyProof.Rows.callWith_builtin1 (thn (ha pos pins s σ H _ I h) λd f ⟨c,u,q,g,i⟩=>o pins f σ u c d Q q g i) n a
theorem zi (o:CallR X (.type T) r) (m:Gl X x) (l:X.mg x=none) (j:bootBuiltins x=some (.type T)) (ha:PA X (e::es) t) (k:x≠"__name__":=by decide) (b:(x == ("__debug__":Str))=false:=by decide)
    (n:starEach (e::es) X.env=(false,eval e X.env)::starEach es X.env:=by rfl) (a:(backTo pos (starEach es X.env)).any (·.1)=false:=by rfl):PE X (.Call (.Name x p) (e::es) [] pos) (tCB r t):=by
  intro pins s σ H Q I h;refine Yt (xv I m l j ?_ k b);exact Y3 (thn (ha pos pins s σ H _ I h) λd f ⟨c,u,q,g,i⟩=>o pins f σ u c d Q q g i) n a
end
end L2
namespace HT
open PySem PyProof.Rows
section
variable {prog:Yo}{w:YI}{A:YO}{E:Jo->JO->Prop}{s:JO}
theorem cat_tup {t b:JI}{vs ws:List Jo}{Q:Jo->JO->Prop}(u:IsTup s.heap t vs.toArray) (hb:IsTup s.heap b ws.toArray) (m:vs≠[])
    (h1:ws=[]->Q (.ref t) s) (v:ws≠[]->Q (.ref s.heap.objs.size) { s with heap:=s.heap.push { cls:=.type "tuple",data:=.seq (vs++ws).toArray } })
    (j:vs.length+ws.length<=sizeLine):wpAny (model prog w) A (binaryOp .Add (.ref t) (.ref b)) Q E s:=by
  obtain⟨⟨cls,q,data,k⟩,i,p,n,o⟩:=id u;obtain⟨⟨r,g,data2,c⟩,a,f,l,d⟩:=id hb;simp only at p o f d;subst p o f d;have e:vs.toArray++ws.toArray=(vs++ws).toArray:=by simp
  by_cases h:ws=[]
  · exact concat_meets ⟨_,i,rfl⟩ ⟨_,a,rfl⟩ noFill_tuple_add seq_tuple_add PySem.F.slot_tuple_add PySem.F.entry_tuple_add (PySem.F.args_tuple_add_2 _ _)
      (tuple_addW1 t b vs.toArray ws.toArray n l q g k c (by simpa using m) (by simp[h])) ⟨i,a,h1 h⟩
  · refine concat_meets ⟨_,i,rfl⟩ ⟨_,a,rfl⟩ noFill_tuple_add seq_tuple_add PySem.F.slot_tuple_add PySem.F.entry_tuple_add (PySem.F.args_tuple_add_2 _ _)
      (tuple_addW2 t b vs.toArray ws.toArray n l q g k c (by simpa using m) (by simpa using h) (by rw[Jf,Jf];exact j)) ⟨i,a,?_⟩
    rw[e];exact v h
def sIx (n d:Nat):Option Int->Nat
  | none=>d
  | some v=>if v<0 then (v+(n:Int)).toNat else min v.toNat n
theorem sIx_none (n d:Nat):sIx n d none=d:=rfl
theorem sIx_nat (n d k:Nat):sIx n d (some (k:Int))=min k n:=by
  show (if (k:Int)<0 then ((k:Int)+(n:Int)).toNat else min (k:Int).toNat n)=min k n;rw[Jg (by simp_all),JZ]
theorem au (n d:Nat)(hd:d<=n)(o:Option Int):sIx n d o<=n:=by
  cases o with
  | none=>exact hd
  | some v =>
    show (if v<0 then (v+(n:Int)).toNat else min v.toNat n)<=n;by_cases a:v<0
    · rw[Jq a];grind
    · rw[Jg a];exact Nat.min_le_right _ _
theorem kw (v:Int)(n d:Nat):(if v<0 then max (v+(n:Int)) 0 else min v (n:Int))=((sIx n d (some v):Nat):Int):=by
  show (if v<0 then max (v+(n:Int)) 0 else min v (n:Int))=(((if v<0 then (v+(n:Int)).toNat else min v.toNat n):Nat):Int);by_cases a:v<0
  · simp only[Jq a];simp_all
  · simp only[Jg a];grind
theorem lV (lo hi:Option Int)(n:Nat):Builtin.Slice.sliceAdjust lo hi 1 (n:Int)=(((sIx n 0 lo:Nat):Int),((sIx n n hi:Nat):Int)):=by
  have a:¬((1:Int)<0):=by simp_all
  unfold Builtin.Slice.sliceAdjust;simp only[a,if_false];refine Prod.ext ?_ ?_
  · cases lo with
    | none=>rfl
    | some v=>exact kw v n 0
  · cases hi with
    | none=>rfl
    | some v=>exact kw v n n
theorem mT (i j:Nat):Builtin.Slice.slicePlaces (i:Int) (j:Int) 1=j-i:=by
  unfold Builtin.Slice.slicePlaces;have a:(1:Int) > 0:=by simp_all
  simp only[a,YZ,Int.ediv_one];split<;>simp_all
theorem tU {v:Jo}{o:Option Int}{Q:Option Int->JO->Prop}(p:IsPart v o)(h:Q o s):wpAny (model prog w) A (Builtin.Slice.slicePartIndex v) Q E s:=by
  cases p with
  | none=>exact slicePart_none h
  | int i t=>exact slicePart_int h
theorem sliceApplied_gen {sl:JI}{d c:Jo}{lo hi:Option Int}{n:Nat}{Q:Int × Int × Nat->JO->Prop}(hs:s.heap.IsSliceOf sl d c .none)(e:IsPart d lo)(pu:IsPart c hi)(h:Q (((sIx n 0 lo:Nat):Int),1,sIx n n hi-sIx n 0 lo) s):wpAny (model prog w) A (Builtin.Slice.sliceApplied (.ref sl) (pure (n:Int))) Q E s:=by
  obtain⟨os,a,f,b⟩:=id hs;unfold Builtin.Slice.sliceApplied Builtin.Slice.sliceFields;refine J0 (J0 (YL a b (x:=d) rfl (J0 (YL a b (x:=c) rfl (J0 (YL a b (x:=.none) rfl (J9 ?_)))))));refine J0 (slicePart_none ?_);show wpAny _ _ (if ((1:Int) == 0)=true then _ else _) _ _ s;rw[Jg (by decide)];refine J0 (tU e (J0 (tU pu (J0 (J9 ?_)))));show wpAny _ _ (match Builtin.Slice.sliceAdjust lo hi 1 (n:Int) with|(lo,hi)=>pure (lo,(1:Int),Builtin.Slice.slicePlaces lo hi 1)) _ _ s;rw[lV lo hi n];show wpAny _ _ (pure (((sIx n 0 lo:Nat):Int),(1:Int),Builtin.Slice.slicePlaces ((sIx n 0 lo:Nat):Int) ((sIx n n hi:Nat):Int) 1)) _ _ s;rw[mT];exact J9 h
theorem fQ (xs:Array Jo)(i k:Nat):((List.range k).filterMap λ(m:Nat)=>xs[((i:Int)+(m:Int)*1).toNat]?).toArray=((xs.toList.drop i).take k).toArray:=by
  have e:(λ(m:Nat)=>xs[((i:Int)+(m:Int)*1).toNat]?)=λm=>xs[i+m]?:=by
    funext m
    have:((i:Int)+(m:Int)*1).toNat=i+m:=by grind
    rw[this]
  rw[e];have:=pick_run xs i k;rw[Zf]at this;have e2:((λx=>xs[x]?)∘λx=>i+x)=λm=>xs[i+m]?:=rfl;rw[e2]at this;rw[this]
theorem getItem_tuple_cut {t sl:JI}{items:Array Jo}{i g:Jo}{lo hi:Option Int}{Q:Jo->JO->Prop}(b:IsTup s.heap t items) (hs:s.heap.IsSliceOf sl i g .none) (j:IsPart i lo) (pu:IsPart g hi)
    (k:¬(sIx items.size 0 lo=0/\sIx items.size items.size hi=items.size))
    (h:Q (.ref s.heap.objs.size) { s with heap:=s.heap.push { cls:=.type "tuple",data:=.seq ((items.toList.drop (sIx items.size 0 lo)).take (sIx items.size items.size hi-sIx items.size 0 lo)).toArray } })
    (l:items.size<=sizeLine):wpAny (model prog w) A (getItem (.ref t) (.ref sl)) Q E s:=by
  have a:sizeOk (.seq ((items.toList.drop (sIx items.size 0 lo)).take (sIx items.size items.size hi-sIx items.size 0 lo)).toArray):=by
    show ((items.toList.drop (sIx items.size 0 lo)).take (sIx items.size items.size hi-sIx items.size 0 lo)).toArray.size<=sizeLine;rw[Jf,Js,Yi,Array.length_toList];omega
  have r:sIx items.size items.size hi<=items.size:=au _ _ (Je _) hi;obtain⟨os,c,e,n⟩:=id hs;have f:s.TypeIs (.ref sl) "slice":=⟨os,c,e⟩;unfold getItem
  try with_reducible refine Y2 ?_
  first|refine J0 (J9 ?_)|skip
  refine J0 (wpAny_sequenceKey b.typeIs (by decide) ?_)
  refine J0 (wpAny_callSpecial?_slot (name:=Str.ofString "__getitem__") b.typeIs Zr
    (Yj Zr b.typeIs entry_tuple_getitem ?_ (args_tuple_getitem _ _)))
  show wpAny _ _ (Builtin.Tuple.tupleItemsOf (.ref t) >>= _) _ _ s;refine J0 (tupleItemsOf_ b ?_);refine J0 (Zi f ?_);rw[Jq (by decide)];refine J0 (sliceApplied_gen hs j pu ?_)
  have d:¬((((sIx items.size 0 lo:Nat):Int) == 0 && (1:Int) == 1 && (sIx items.size items.size hi-sIx items.size 0 lo) == items.size)=true):=by
    intro q;rw[Yk,Yk]at q;have p:((sIx items.size 0 lo:Nat):Int)=0:=eq_of_beq q.1.1;have o:sIx items.size items.size hi-sIx items.size 0 lo=items.size:=eq_of_beq q.2;exact k ⟨by simp_all,by simp_all⟩
  show wpAny _ _ (if (((sIx items.size 0 lo:Nat):Int) == 0 && (1:Int) == 1 && (sIx items.size items.size hi-sIx items.size 0 lo) == items.size)=true then _ else _) _ _ s;rw[Jg d,fQ]
  first
    | exact J0 (m:=Builtin.Tuple.tupleExact _) (JE (J9 ⟨_,rfl,J9 h⟩) a)
    | exact J0 (m:=Builtin.Tuple.tupleExact _) (JE (J0 (J9 (J9 ⟨_,rfl,J9 h⟩))) a)
    | exact J0 (J0 (m:=Builtin.Tuple.tupleExact _) (JE (J9 (J9 ⟨_,rfl,J9 h⟩)) a))
    | exact J0 (J0 (m:=Builtin.Tuple.tupleExact _) (JE (J9 ⟨_,rfl,J9 h⟩) a))
end
end HT
namespace L2
open PySem PySem.Spec PyProof.Rows
abbrev TO:=St->Hp->(Option Int->Hp->Prop)->Prop
def PO (X:Cx)(e:Option Expr)(t:TO):Prop :=
  ∀ (pins:List (JI × Obj)) (s:JO) (σ:St) (H:Hp) (Q:Option Int->Hp->Prop),Inv X pins σ H s->t σ H Q ->
    wpAny (model X.prog X.w) X.A (evalPart e X.env) (λu b=>∃ o a,Inv X pins σ a b/\IsPart u o/\Q o a) X.xe s
def cV:TO:=λ_ H Q=>Q none H
def zaT (t:TE):TO:=λσ H Q=>t σ H λx a=>∃ i,x=.int i/\Q (some i) a
section
variable {X:Cx}{e:Expr}{te:TE}{lo hi:Option Expr}{tl th:TO}{pos p2:Pos}
theorem yR:PO X none cV:=by
  intro pins s σ H Q I h;rw[evalPart_none];exact J9 ⟨none,H,I,.none,h⟩
theorem zy (h:PE X e te):PO X (some e) (zaT te):=by
  intro pins s σ H Q I c;rw[evalPart_some];refine thn (h pins s σ H _ I c) λu g ⟨x,f,d,a,b⟩=>?_;obtain⟨i,rfl,q⟩:=b;obtain⟨t,rfl⟩:=a;exact⟨some i,f,d,.int i t,q⟩
def SlR (X:Cx)(r:V->Option Int->Option Int->Hp->VK->Prop):Prop :=
  ∀ (pins:List (JI × Obj)) (s:JO) (σ:St) (H:Hp) (x:V) (v b a:Jo) (lo hi:Option Int) (c:JI) (Q:VK),Inv X pins σ H s->RelV x v->s.heap.IsSliceOf c b a .none->IsPart b lo->IsPart a hi->r x lo hi H Q ->
    ∃ T id,typeLookup (.type T) "__getitem__" = pure (some (.builtin id))/\s.TypeIs v T/\wpAny (model X.prog X.w) X.A (getItem v (.ref c)) (EP X pins σ Q) X.xe s
def tSl (r:V->Option Int->Option Int->Hp->VK->Prop)(te:TE)(tl th:TO):TE:=λσ H Q=>te σ H λx c=>tl σ c λl b=>th σ b λu a=>r x l u a Q
theorem yK {r:V->Option Int->Option Int->Hp->VK->Prop}(w:SlR X r)(A:PE X e te)(y:PO X lo tl)(p:PO X hi th):PE X (.Subscript e (.Slice lo hi none p2) pos) (tSl r te tl th):=by
  intro pins s σ H Q I h;refine Subscript_ (thn (A pins s σ H _ I h) λv i ⟨x,J,F,j,n⟩=>?_);refine wpAny_Slice (thn (y pins i σ J _ F n) λd g ⟨l,G,E,o,m⟩=>thn (p pins g σ G _ E m) λc a ⟨u,f,D,pu,k⟩=>?_);rw[evalPart_none];refine J9 ?_;have C:Inv X pins σ f { a with heap:=a.heap.push { cls:=.type "slice",data:=.fields #[d,c,.none] } }:=D.kept (t':=a.toks) λb ob q=>J7 _ q;obtain⟨T,id,B,t,z⟩:=w pins { a with heap:=a.heap.push { cls:=.type "slice",data:=.fields #[d,c,.none] } } σ f x v d c l u a.heap.objs.size Q C j (Heap.IsSliceOf.new ..) o pu k;show wpAny (model X.prog X.w) X.A (subscriptTail e (.Slice lo hi none p2) v (.ref a.heap.objs.size)) (EP X pins σ Q) X.xe { a with heap:=a.heap.push { cls:=.type "slice",data:=.fields #[d,c,.none] } };exact tail_any (ops:=[.ref a.heap.objs.size,v]) t B z (by with_unfolding_all rfl)
def wI (xs:List V)(lo hi:Option Int):List V:=(xs.drop (HT.sIx xs.length 0 lo)).take (HT.sIx xs.length xs.length hi-HT.sIx xs.length 0 lo)
theorem ug (xs:List V)(lo hi:Option Int):(wI xs lo hi).length<=xs.length:=by
  unfold wI;rw[Js,Yi]
  grind
def zbP (K:Jl):V->Option Int->Option Int->Hp->VK->Prop:=λx lo hi H Q=>∃ a b,x=.ref a/\SqT K H a b /\
  ¬(HT.sIx b.length 0 lo=0/\HT.sIx b.length b.length hi=b.length)/\∀ p,H p=none->Q (.ref p) (upd H p (.tup (wI b lo hi)))
theorem ah:SlR X (zbP X.K):=by
  intro pins s σ H x v n m lo hi p Q I g l i pu h;obtain⟨a,c,rfl,j,k,q⟩:=h;cases g;obtain⟨d,r,f,e⟩:=I.tuple j;have hlen:d.toArray.size=c.length:=by rw[Jf];exact r.length.symm
  refine⟨"tuple",_,PyProof.Rows.slot_tuple_getitem.lookup,f.typeIs,?_⟩;refine HT.getItem_tuple_cut f l i pu (by rw[hlen];exact k) ?_ (by rw[hlen];exact e);rw[hlen];refine⟨.ref s.heap.objs.size,_,I.laid (t':=s.toks) (o:=.tup (wI c lo hi)) (λb ob q=>J7 _ q) (Je _) ?_,rfl,q _ (I.hok.fresh (Je _))⟩;exact⟨JQ (ug c lo hi) e,_,(r.drop (HT.sIx c.length 0 lo)).take (HT.sIx c.length c.length hi-HT.sIx c.length 0 lo),TupX.new _ _⟩
def zbb (K:Jl):R2:=λx y H Q=>∃ a b d c,x=.ref a/\y=.ref b/\SqT K H a d/\SqT K H b c/\d≠[]/\d.length+c.length<=sizeLine /\
  (c=[]->Q (.ref a) H)/\(c≠[]->∀ p,H p=none->Q (.ref p) (upd H p (.tup (d++c))))
theorem Vals.nil_iff {xs:List V}{us:List Jo}(r:Vals xs us):us=[]↔xs=[]:=by
  cases r with
  | nil=>simp
  | cons _ _=>simp
theorem bH:OpR X (binaryOp .Add) (zbb X.K):=by
  intro pins s σ H x y v u Q I k j h;obtain⟨a,b,i,g,rfl,rfl,t,r,p,e,m,l⟩:=h;cases k;cases j;obtain⟨A,d,n,_⟩:=I.tuple t;obtain⟨f,c,p2,_⟩:=I.tuple r;refine HT.cat_tup n p2 (λz=>p (d.nil_iff.mp z)) (λz=>⟨.ref a,H,I,rfl,m (c.nil_iff.mp z)⟩) (λz=>?_) (by rw[<- d.length,<- c.length];exact e);refine⟨.ref s.heap.objs.size,_,I.laid (t':=s.toks) (o:=.tup (i++g)) (λb ob q=>J7 _ q) (Je _) ?_,rfl,l (λw=>z (c.nil_iff.mpr w)) _ (I.hok.fresh (Je _))⟩;exact⟨by rw[Jb];exact e,_,d.append c,TupX.new _ _⟩
end
def ixN (n:Nat)(i:Int):Option Nat:=if 0<=i then (if i<n then some i.toNat else none) else if -(n:Int)<=i then some (i+n).toNat else none
def atI {α:Type}(xs:List α)(i:Int):Option α:=(ixN xs.length i).bind λj=>xs[j]?
theorem pF {n:Nat}{i:Int}{j:Nat}(h:ixN n i=some j):seqIndex? i n=some j/\j<n/\-(n:Int)<=i/\i<n:=by
  unfold ixN at h;by_cases b:0<=i
  · rw[Jq b]at h
    by_cases a:i<n
    · rw[Jq a]at h
      have e:i.toNat=j:=Jj h;exact⟨by rw[seqIndex_of b a,e],by omega,by grind,a⟩
    · rw[Jg a]at h;cases h
  · rw[Jg b]at h
    by_cases a:-(n:Int)<=i
    · rw[Jq a]at h
      have e:(i+n).toNat=j:=Jj h;exact⟨by rw[seqIndex_neg (by simp_all) a,e],by grind,a,by grind⟩
    · rw[Jg a]at h;cases h
theorem ky {α:Type}{xs:List α}{i:Int}{v:α}(h:atI xs i=some v):∃ j,seqIndex? i xs.length=some j/\xs[j]?=some v/\j<xs.length/\-(xs.length:Int)<=i/\i<xs.length:=by
  unfold atI at h
  cases e:ixN xs.length i with
  | none=>rw[e]at h;cases h
  | some j =>
    rw[e]at h;obtain⟨d,c,b,a⟩:=pF e;exact⟨j,d,h,c,b,a⟩
theorem yL {α:Type}{xs:List α}{j:Nat}{v:α}(h:xs[j]?=some v):atI xs (j:Int)=some v:=by
  have a:j<xs.length:=(Jd.mp h).1
  have e:ixN xs.length (j:Int)=some j:=by
    unfold ixN;rw[Jq (by simp_all),Jq (by simp_all)];simp
  unfold atI;rw[e];exact h
def PlainIx (b:Expr):Prop:=∀ o i,subscripted b false o i=operate [o,i] (getItem o i)
def IxR (X:Cx)(r:R2):Prop :=
  ∀ (value slice:Expr) (pins:List (JI × Obj)) (s:JO) (σ:St) (H:Hp) (x y:V) (v u:Jo) (Q:VK),Inv X pins σ H s->RelV x v->RelV y u->r x y H Q ->
    subscripted slice false v u=operate [v,u] (getItem v u)->wpAny (model X.prog X.w) X.A (subscriptTail value slice v u) (EP X pins σ Q) X.xe s
def MtR (X:Cx)(id:String)(r:V->List V->Hp->VK->Prop):Prop :=
  ∀ (pins:List (JI × Obj)) (s:JO) (σ:St) (H:Hp) (x:V) (a:List V) (v:Jo) (b:List Jo) (Q:VK),Inv X pins σ H s->RelV x v->Vals a b->r x a H Q ->
    wpAny (model X.prog X.w) X.A (call (.builtin id) (v::b)) (EP X pins σ Q) X.xe s
section
variable {X:Cx}{a b:Expr}{ta tb:TE}{pos:Pos}
theorem zX {r:R2}(f:IxR X r)(ha:PE X a ta)(hb:PE X b tb)(hs:PlainIx b):PE X (.Subscript a b pos) (tOp r ta tb):=by
  intro pins s σ H Q I h;exact Subscript_ (zaM ha hb I h λv u c x y i g e d q=>f a b pins c σ i x y v u Q g e d q (hs _ _))
def jS (K:Jl):R2:=λx y H Q=>∃ p a i v,x=.ref p/\y=.int i/\SqL K H p a/\atI a i=some v/\Q v H
def zba (K:Jl):R2:=λx y H Q=>∃ p a i v,x=.ref p/\y=.int i/\SqT K H p a/\atI a i=some v/\Q v H
theorem zZ:IxR X (jS X.K):=by
  intro value slice pins s σ H x y v u Q I n m h f;obtain⟨p,F,i,z,rfl,rfl,o,B,q⟩:=h;cases n;obtain⟨t,rfl⟩:=m;obtain⟨e,r,b,G⟩:=I.list o;obtain⟨j,a,E,K,D,C⟩:=ky B;obtain⟨w,k,d⟩:=r.get E;have A:=r.length;have J:=sO;have fin:EP X pins σ Q w s:=⟨z,H,I,d,q⟩;by_cases g:0<=i
  · have c:i.toNat=j:=by
      rw[seqIndex_of g C]at a;exact Jj a
    exact item_listR b.isList g (by lia) (by rw[c];simpa using k) fin f
  · have c:(i+(e.toArray.size:Int)).toNat=j:=by
      rw[seqIndex_neg (by simp_all) D]at a;rw[Jf,<- A];exact Jj a
    exact subscriptTail_builtinR (x:=w) b.isList.typeIs slot_list_getitem.lookup
      (wpAny_getItem_list_neg (Q:=λr l=>r=w/\EP X pins σ Q r l) b.isList (by simp_all) (by rw[Jf]<;>simp_all) (by grind) (by rw[c];simpa using k) ⟨rfl,fin⟩) f
theorem yA:IxR X (zba X.K):=by
  intro value slice pins s σ H x y v u Q I e d h f;obtain⟨p,B,i,z,rfl,rfl,g,l,q⟩:=h;cases e;obtain⟨t,rfl⟩:=d;obtain⟨A,r,b,C⟩:=I.tuple g;obtain⟨j,n,m,G,F,E⟩:=ky l;obtain⟨w,o,a⟩:=r.get m;have k:=r.length;have D:=sO;have fin:EP X pins σ Q w s:=⟨z,H,I,a,q⟩
  exact subscriptTail_builtinR (x:=w) b.typeIs slot_tuple_getitem.lookup
    (getItem_tuple (j:=j) (Q:=λr c=>r=w/\EP X pins σ Q r c) b (by grind) (by grind) (by rw[Jf,<- k];exact n) (by simpa using o) ⟨rfl,fin⟩) f
theorem mo (its:List Jo)(n j:Nat)(u:Jo):Obj.mapSeq (·.setIfInBounds j u) { cls:=.type "list",data:=.seq its.toArray n }={ cls:=.type "list",data:=.seq (its.set j u).toArray n }:=by
  simp[Obj.mapSeq]
theorem Inv.lst {pins:List (JI × Obj)}{σ:St}{H:Hp}{s:JO}{p:JI}{xs:List V}(I:Inv X pins σ H s)(h:H p=some (.lst xs)) :
    ∃ (its:List Jo) (n:Nat),Vals xs its/\s.heap.get? p=some { cls:=.type "list",data:=.seq its.toArray n }/\xs.length<=sizeLine:=by
  obtain⟨z,its,n,r,e⟩:=I.hok p _ h;exact⟨its,n,r,e,z⟩
theorem Inv.lstUpd {pins:List (JI × Obj)}{σ:St}{H:Hp}{s:JO}{p:JI}{xs ys:List V}{its its':List Jo}{n a:Nat}{f:Obj->Obj}(I:Inv X pins σ H s) (h:H p=some (.lst xs))
    (g:s.heap.get? p=some { cls:=.type "list",data:=.seq its.toArray n }) (c:f { cls:=.type "list",data:=.seq its.toArray n }={ cls:=.type "list",data:=.seq its'.toArray a }) (r:Vals ys its') (d:ys.length<=sizeLine) (t:Nat) :
    Inv X pins σ (upd H p (.lst ys)) { s with heap:=s.heap.update p f,toks:=t }:=by
  have e:(s.heap.update p f).get? p=some { cls:=.type "list",data:=.seq its'.toArray a }:=by
    rw[Yb f g (by rw[c]<;>rfl),c]
  refine I.write (x:=p) (e:=p) (by rw[h];trivial) (.inl rfl) (λb u i q=>(JN _ _ (Ne.symm i)).trans q) ⟨_,e⟩ ?_;exact⟨d,its',a,r,e⟩
def za8:V->V->V->Hp->(Hp->Prop)->Prop:=λo i v H Q=>∃ p a k j,o=.ref p/\i=.int k/\H p=some (.lst a)/\ixN a.length k=some j/\Q (upd H p (.lst (a.set j v)))
theorem yb:PSet X za8:=by
  intro pins s σ H o i v D E u Q I z A y h;obtain⟨p,x,k,j,rfl,rfl,f,C,q⟩:=h;cases z;obtain⟨t,rfl⟩:=A;obtain⟨a,n,r,c,B⟩:=I.lst f;obtain⟨b,G,l,g⟩:=pF C;have d:=r.length;have F:=sO
  have w:Inv X pins σ (upd H p (.lst (x.set j v))) { s with heap:=s.heap.update p (Obj.mapSeq (·.setIfInBounds j u)) } :=
    I.lstUpd f c (mo a n j u) (r.set y j) (by rw[YG];exact B) s.toks
  by_cases m:0<=k
  · have e:k.toNat=j:=by
      rw[seqIndex_of m g]at b;exact Jj b
    exact PySem.W.ki_setAt c m (by grind) (by rw[Jf,<- d];exact g) (by rw[e];exact⟨_,w,q⟩)
  · have e:(k+(a.toArray.size:Int)).toNat=j:=by
      rw[seqIndex_neg (by simp_all) l]at b;rw[Jf,<- d];exact Jj b
    exact PySem.W.ki_setBack c (by simp_all) (by rw[Jf,<- d];exact l) (by grind) (by rw[e];exact⟨_,w,q⟩)
theorem qV (lo hi:Option Int)(n:Nat):(sliceBounds lo hi none n).1=((HT.sIx n 0 lo:Nat):Int)/\(sliceBounds lo hi none n).2.1=((HT.sIx n n hi:Nat):Int)/\(sliceBounds lo hi none n).2.2=1:=by
  refine⟨?_,?_,rfl⟩
  · cases lo with
    | none=>simp[sliceBounds,HT.sIx]
    | some i =>
      simp only[sliceBounds,HT.sIx,Option.getD_none,show (1:Int) > 0 by decide,YZ];by_cases h:i<0
      · simp only[h,YZ]<;>grind
      · simp only[h,if_false]<;>grind
  · cases hi with
    | none=>simp[sliceBounds,HT.sIx]
    | some i =>
      simp only[sliceBounds,HT.sIx,Option.getD_none,show (1:Int) > 0 by decide,YZ];by_cases h:i<0
      · simp only[h,YZ]<;>grind
      · simp only[h,if_false]<;>grind
theorem sw (its:List Jo)(lo hi:Option Int):slicePick its.toArray lo hi none=((its.drop (HT.sIx its.length 0 lo)).take (HT.sIx its.length its.length hi-HT.sIx its.length 0 lo)).toArray:=by
  obtain⟨c,b,a⟩:=qV lo hi its.toArray.size;unfold slicePick;rw[c,b,a];simp only[sliceRange_one,pick_run,Jf]<;>rfl
def zbQ (K:Jl):V->Option Int->Option Int->Hp->VK->Prop:=λx lo c H Q=>∃ a b,x=.ref a/\SqL K H a b/\∀ p,H p=none->Q (.ref p) (upd H p (.lst (wI b lo c)))
theorem wx:SlR X (zbQ X.K):=by
  intro pins s σ H x v n m lo d p Q I f k g pu h;obtain⟨a,c,rfl,j,q⟩:=h;cases f;obtain⟨l,r,e,i⟩:=I.list j;have hlen:=r.length;refine⟨"list",_,slot_list_getitem.lookup,e.isList.typeIs,?_⟩;refine wpAny_getItem_list_slice e.isList k g pu .none (by simp) ?_ (by rw[Jf]<;>simp_all);rw[sw,<- hlen];refine⟨.ref s.heap.objs.size,_,I.laid (t':=s.toks) (o:=.lst (wI c lo d)) (λb ob q=>J7 _ q) (Je _) ?_,rfl,q _ (I.hok.fresh (Je _))⟩;exact⟨JQ (ug c lo d) i,_,0,(r.drop (HT.sIx c.length 0 lo)).take (HT.sIx c.length c.length d-HT.sIx c.length 0 lo),Jk _ rfl⟩
def uG:V->Bool
  | .non=>true
  | .bl _=>true
  | .int _=>true
  | .str _=>true
  | _=>false
def eqV:V->V->Bool
  | .non,.non=>true
  | .bl a,.bl b=>a == b
  | .bl a,.int b=>(if a then 1 else 0) == b
  | .int a,.bl b=>a == (if b then 1 else 0)
  | .int a,.int b=>a == b
  | .str a,.str b=>a == b
  | _,_=>false
theorem dw {A:YO}{s:JO}{y x:V}{u v:Jo}(e:RelV y u)(c:RelV x v)(g:uG y=true)(f:uG x=true):SeqAt.EqAt A s u v (eqV y x):=by
  cases y with
  | non =>
    cases e
    cases x with
    | non=>cases c;exact SeqAt.EqAt.same _
    | bl b=>cases c;exact SeqAt.EqAt.none_bool b
    | int b=>obtain⟨t,rfl⟩:=c;exact SeqAt.EqAt.none_int b t
    | str b=>obtain⟨t,rfl⟩:=c;exact SeqAt.EqAt.none_str b t
    | _=>exact absurd (show false=true from f) Ji
  | bl a =>
    cases e
    cases x with
    | non=>cases c;exact SeqAt.EqAt.bool_none a
    | bl b=>cases c;exact SeqAt.EqAt.bool_bool a b
    | int b=>obtain⟨t,rfl⟩:=c;exact SeqAt.EqAt.bool_int a b t
    | str b=>obtain⟨t,rfl⟩:=c;exact SeqAt.EqAt.bool_str a b t
    | _=>exact absurd (show false=true from f) Ji
  | int a =>
    obtain⟨d,rfl⟩:=e
    cases x with
    | non=>cases c;exact SeqAt.EqAt.int_none a d
    | bl b=>cases c;exact SeqAt.EqAt.int_bool a d b
    | int b=>obtain⟨t,rfl⟩:=c;exact SeqAt.EqAt.int_int a d b t
    | str b=>obtain⟨t,rfl⟩:=c;exact SeqAt.EqAt.int_str a d b t
    | _=>exact absurd (show false=true from f) Ji
  | str a =>
    obtain⟨d,rfl⟩:=e
    cases x with
    | non=>cases c;exact SeqAt.EqAt.str_none a d
    | bl b=>cases c;exact SeqAt.EqAt.str_bool a d b
    | int b=>obtain⟨t,rfl⟩:=c;exact SeqAt.EqAt.str_int a d b t
    | str b=>obtain⟨t,rfl⟩:=c;exact SeqAt.EqAt.str_str a d b t
    | _=>exact absurd (show false=true from f) Ji
  | _=>exact absurd (show false=true from g) Ji
def eqU (x:V)(u:Jo):Bool:=match u with
  | .none=>eqV .non x
  | .bool b=>eqV (.bl b) x
  | .int i _=>eqV (.int i) x
  | .str z _=>eqV (.str z) x
  | _=>false
theorem dv {x y:V}{u:Jo}(r:RelV y u)(f:uG y=true):eqU x u=eqV y x:=by
  cases y with
  | non=>cases r;rfl
  | bl b=>cases r;rfl
  | int i=>obtain⟨t,rfl⟩:=r;rfl
  | str z=>obtain⟨t,rfl⟩:=r;rfl
  | _=>exact absurd (show false=true from f) Ji
theorem pL {x:V}:∀ {xs:List V}{us:List Jo},Vals xs us->xs.all uG=true->us.any (eqU x)=xs.any λy=>eqV y x
  | _,_,.nil,_=>rfl
  | y::xs,u::us,.cons r t,f=>by
    rw[List.all_cons,Yk]at f;rw[List.any_cons,List.any_cons,dv r f.1,pL t f.2]
theorem sK {A:YO}{s:JO}{x:V}{v:Jo}(b:RelV x v)(c:uG x=true):∀ {xs:List V}{us:List Jo},Vals xs us->xs.all uG=true->∀ u∈us,SeqAt.EqAt A s u v (eqU x u)
  | _,_,.nil,_=>λu a=>by cases a
  | y::xs,u::us,.cons r t,f=>λd a=>by
    rw[List.all_cons,Yk]at f;rcases Jp.mp a with rfl|a
    · rw[dv r f.1];exact dw r b f.1 c
    · exact sK b c t f.2 d a
def inV (x:V)(xs:List V):Bool:=xs.any λy=>eqV y x
def rIn (K:Jl)(neg:Bool):R2:=λx y H Q=>∃ p a,y=.ref p/\(SqL K H p a\/SqT K H p a)/\uG x=true/\a.all uG=true/\Q (.bl (if neg then !inV x a else inV x a)) H
theorem rS:OpR X (compareOp .In) (rIn X.K false):=by
  intro pins s σ H x y v u Q I e g h;obtain⟨p,j,rfl,b,f,fs,q⟩:=h;cases g;rcases b with b|b
  · obtain⟨a,r,c,i⟩:=I.list b
    refine SeqAt.in_listAt (eqU x) c.isList (λw d=>sK e f r fs w (by simpa using d)) ⟨.bl _,H,I,rfl,?_⟩;rw[show a.toArray.any (eqU x)=a.any (eqU x) by simp,pL r fs];exact q
  · obtain⟨a,r,c,i⟩:=I.tuple b
    refine SeqAt.in_tupleAt (eqU x) c (λw d=>sK e f r fs w (by simpa using d)) ⟨.bl _,H,I,rfl,?_⟩;rw[show a.toArray.any (eqU x)=a.any (eqU x) by simp,pL r fs];exact q
theorem zk:CallR X (.builtin "len") (λxs H Q=>∃ p ys,xs=[.ref p]/\(SqL X.K H p ys\/SqT X.K H p ys)/\Q (.int ys.length) H):=by
  intro pins s σ H xs g Q I r h;obtain⟨p,ys,rfl,a,q⟩:=h;obtain⟨u,rfl,e⟩:=rF r;cases e;have i:=sO;rcases a with a|a
  · obtain⟨d,b,c,f⟩:=I.list a
    have hlen:=b.length;exact Calls.call_len_list c.isList (by simp only[Jf]<;>lia) ⟨.int ys.length,H,I.tok _,⟨s.toks+1,by rw[Jf,hlen]⟩,q⟩
  · obtain⟨d,b,c,f⟩:=I.tuple a
    have hlen:=b.length;exact len_tuple c (by simp only[Jf]<;>grind) ⟨.int ys.length,H,I.tok _,⟨s.toks+1,by rw[Jf,hlen]⟩,q⟩
theorem yk:CallR X (.type "list") (λxs H Q=>∃ p ys,xs=[.ref p]/\(SqL X.K H p ys\/SqT X.K H p ys)/\∀ l,H l=none->Q (.ref l) (upd H l (.lst ys))):=by
  intro pins s σ H xs y Q I r h;obtain⟨p,ys,rfl,j,q⟩:=h;obtain⟨u,rfl,x⟩:=rF r;cases x
  have fin:∀ (a:List Jo),Vals ys a->ys.length<=sizeLine->∀ (c:YP) (f:Nat),(∀ b w,s.heap.get? b=some w->c.get? b=some w) ->
      c.get? s.heap.objs.size=some { cls:=.type "list",dict:=none,data:=.seq a.toArray f,slots:=#[] }->EP X pins σ Q (.ref s.heap.objs.size) { s with heap:=c }:=λa d i c f g e =>
    ⟨.ref s.heap.objs.size,_,I.laid (t':=s.toks) g (Je _) (show ObjOk X.prog X.w _ c _ (.lst ys) from⟨i,a,f,d,e⟩),rfl,q _ (I.hok.fresh (Je _))⟩
  rcases j with j|j
  · obtain⟨a,d,k,i⟩:=I.list j
    have hlen:=d.length;obtain⟨o,m,v,n,t⟩:=k.isList;exact call_list_seq p (.inl rfl) m v t (λc f g e=>fin a d i c f g e) (by simp only[Jf]<;>simp_all)
  · obtain⟨a,d,k,i⟩:=I.tuple j
    have hlen:=d.length;obtain⟨o,m,v,n,t⟩:=k;exact call_list_seq p (.inr rfl) m v t (λc f g e=>fin a d i c f g e) (by simp only[Jf]<;>simp_all)
theorem zo:CallR X (.type "tuple") (λxs H Q=>∃ p ys,xs=[.ref p]/\((SqL X.K H p ys/\∀ l,H l=none->Q (.ref l) (upd H l (.tup ys)))\/(SqT X.K H p ys/\Q (.ref p) H))):=by
  intro pins s σ H xs t Q I r h;obtain⟨p,ys,rfl,h⟩:=h;obtain⟨u,rfl,k⟩:=rF r;cases k;rcases h with ⟨g,q⟩|⟨g,q⟩
  · obtain⟨a,d,f,i⟩:=I.list g
    have hlen:=d.length;refine call_tuple_list f.isList (λc m=>?_) (by simp only[Jf]<;>simp_all);have j:Inv X pins σ H { s with heap:=c }:=I.kept (t':=s.toks) m
    have n:Inv X pins σ (upd H c.objs.size (.tup ys)) { s with heap:=c.push { cls:=.type "tuple",data:=.seq a.toArray } } :=
      j.laid (t':=s.toks) (λb o e=>J7 _ e) (Je _) (show ObjOk X.prog X.w _ _ _ (.tup ys) from⟨i,a,d,TupX.new _ _⟩)
    exact⟨.ref c.objs.size,_,n,rfl,q _ (j.hok.fresh (Je _))⟩
  · obtain⟨a,d,f,i⟩:=I.tuple g
    exact call_tuple_same f ⟨.ref p,H,I,rfl,q⟩
def tyV (K:Jl)(T:String)(x:V)(H:Hp):Prop:=match x with
  | .str _=>T = "str"
  | .int _=>T = "int"
  | .ref p=>(T = "list"/\∃ b,SqL K H p b)\/(T = "tuple"/\∃ o,K.lookup p=some o/\o.cls=.type "tuple"/\o.dict=none) \/
      (T = "dict"/\((∃ a,H p=some (.dK a))\/∃ a,H p=some (.dT a)))\/(T = "set"/\∃ S n,H p=some (.set S n))
  | _=>False
theorem aU {pins:List (JI × Obj)}{σ:St}{H:Hp}{s:JO}{T:String}{x:V}{v:Jo}(I:Inv X pins σ H s)(r:RelV x v)(ty:tyV X.K T x H) :
    s.TypeIs v T/\∀ a,v=.ref a->∃ ob,s.heap.get? a=some ob/\ob.dict=none:=by
  cases x with
  | str z =>
    obtain⟨t,rfl⟩:=r;cases (show T = "str" from ty)
    exact⟨typeIs_str s z t,λ_ e=>nomatch e⟩
  | int i =>
    obtain⟨t,rfl⟩:=r;cases (show T = "int" from ty)
    exact⟨typeIs_int s i t,λ_ e=>nomatch e⟩
  | ref p =>
    cases r;rcases ty with ⟨rfl,l,h⟩|⟨rfl,o,b,j,d⟩|⟨rfl,b⟩|⟨rfl,S,n,b⟩
    · obtain⟨k,_,g,_⟩:=I.list h
      refine⟨g.isList.typeIs,λa e=>?_⟩;cases e;obtain⟨o,n,e,c,d,_⟩:=g;exact⟨o,e,d⟩
    · refine⟨⟨o,I.kIn p o b,j⟩,λa e=>?_⟩
      cases e;exact⟨o,I.kIn _ o b,d⟩
    · have z:∃ o,s.heap.get? p=some o/\o.ExactDict:=by
        rcases b with ⟨f,b⟩|⟨f,b⟩
        · obtain⟨_,_,_,_,o,_,_,e,ex,_⟩:=I.hok p _ b
          exact⟨o,e,ex⟩
        · obtain⟨_,_,_,_,o,_,_,e,ex,_⟩:=I.hok p _ b
          exact⟨o,e,ex⟩
      obtain⟨o,e,ex⟩:=z;refine⟨⟨o,e,ex.1⟩,λa e2=>?_⟩;cases e2;exact⟨o,e,ex.2.1⟩
    · obtain⟨o,_,_,_,e,ex,_⟩:=I.hok p _ b
      refine⟨⟨o,e,ex.1⟩,λa e2=>?_⟩;cases e2
      exact⟨o,e,ex.2.1⟩
  | _=>exact False.elim ty
def tBM (K:Jl)(T:String)(r:V->List V->Hp->VK->Prop)(to:TE)(t:TA):TE:=λσ H Q=>to σ H λx a=>tyV K T x a/\t σ a λb c=>r x b c Q
variable {o e:Expr}{es:List Expr}{to:TE}{t:TA}{name:Str}{apos cpos:Pos}{T id:String}{r:V->List V->Hp->VK->Prop}
theorem wR (w:PlainAttrs T) (slot:Slot T name id) (f:typeOf (.builtin id)=pure (.type "method_descriptor")) (A:MtR X id r) (z:PE X o to) (ha:PA X (e::es) t)
    (c:attributeBase o name X.env (eval o X.env)=eval o X.env:=by rfl)
    (d:((backTo cpos (starEach (e::es) X.env)).all (λx=>!x.1) && (backToKw cpos (keywordEach [] X.env)).all (λx=>x.1.isSome)
      && decide ((e::es).length+([]:List Keyword).length+(if ([]:List Keyword).isEmpty then 0 else 1)<30))=true:=by rfl)
    (b:(apos.endLine == cpos.line)=true:=by rfl) (y:starEach (e::es) X.env=(false,eval e X.env)::starEach es X.env:=by rfl) (a:(backTo cpos (starEach es X.env)).any (·.1)=false:=by rfl) :
    PE X (.Call (.Attribute o name apos) (e::es) [] cpos) (tBM X.K T r to t):=by
  intro pins s σ H Q I h;refine wpAny_Call_method_late c d b rfl (thn (z pins s σ H _ I h) λv n ⟨x,F,j,g,ty,u⟩=>?_);obtain⟨C,B⟩:=aU j g ty;refine⟨T,id,w,slot,f,C,B,?_⟩;have i:=ha cpos pins n σ F _ j u;rw[y]at i ⊢;refine Zj (by show (false || (backTo cpos (starEach es X.env)).any (·.1))=false;rw[a]<;>rfl) (Calls.evalArgs_plain ?_);exact thn i λl m ⟨k,E,D,p,q⟩=>A pins m σ E x k v l Q D g p q
end
def MtM (X:Cx)(id:String)(r:V->List V->Hp->VK->Prop):Prop :=
  ∀ (pins:List (JI × Obj)) (s:JO) (σ:St) (H:Hp) (x:V) (a:List V) (v:Jo) (b:List Jo) (Q:VK),Inv X pins σ H s->RelV x v->Vals a b->r x a H Q ->
    wpAny (model X.prog X.w) X.A (call (.builtin id) (v::b)) (EP X pins σ Q) X.xe s
theorem Vals.one:∀ {x:V}{us:List Jo},Vals [x] us->∃ u,us=[u]/\RelV x u
  | _,_,.cons r .nil=>⟨_,rfl,r⟩
theorem Vals.two:∀ {x y:V}{us:List Jo},Vals [x,y] us->∃ u v,us=[u,v]/\RelV x u/\RelV y v
  | _,_,_,.cons r (.cons q .nil)=>⟨_,_,rfl,r,q⟩
theorem Vals.eraseIdx:∀ {xs:List V}{us:List Jo}(i:Nat),Vals xs us->Vals (xs.eraseIdx i) (us.eraseIdx i)
  | _,_,_,.nil=>.nil
  | _,_,0,.cons _ t=>t
  | _,_,i+1,.cons r t=>.cons r (Vals.eraseIdx i t)
theorem Vals.rep {xs:List V}{us:List Jo}(h:Vals xs us):∀ k:Nat,Vals (List.replicate k xs).flatten (List.replicate k us).flatten
  | 0=>.nil
  | k+1=>by
    rw[JX,JX,Z0,Z0];exact Vals.append h (Vals.rep h k)
theorem ra {α:Type}:∀ (l:List α) (i:Nat),(l.eraseIdx i).length<=l.length
  | [],_=>Je _
  | _::_,0=>Nat.le_succ _
  | _::r,i+1=>Nat.succ_le_succ (ra r i)
theorem rq (its:List Jo):∀ (k:Nat) (acc:List Jo),
    List.foldl (λb a=>b++a) acc.toArray (List.replicate k its.toArray)=(acc++(List.replicate k its).flatten).toArray
  | 0,acc=>by simp
  | k+1,acc=>by
    have e:acc.toArray++its.toArray=(acc++its).toArray:=by simp
    have e2:(acc++its)++(List.replicate k its).flatten=acc++(List.replicate (k+1) its).flatten:=by
      rw[JX,Z0,Y0]
    rw[<- e2,<- rq its k (acc++its),<- e,JX,List.foldl_cons]
section
variable {X:Cx}{pins:List (JI × Obj)}{σ:St}{H:Hp}{s:JO}{l:JI}{xs ys:List V}
theorem Inv.lset {its its':List Jo}{n:Nat}{f:Array Jo->Array Jo}{t':Nat}(I:Inv X pins σ H s) (h:H l=some (.lst xs))
    (e:s.heap.get? l=some { cls:=.type "list",data:=.seq its.toArray n }) (d:f its.toArray=its'.toArray) (b:Vals ys its') (a:ys.length<=sizeLine) :
    Inv X pins σ (upd H l (.lst ys)) { s with heap:=s.heap.update l (Obj.mapSeq f),toks:=t' }:=by
  have q:=PySem.IsL.update e f;rw[d]at q;refine I.write (x:=l) (e:=l) (by rw[h];exact trivial) (.inl rfl) (λi u g c=>(JN s.heap (Obj.mapSeq f) (Ne.symm g)).trans c) ⟨_,q⟩ ?_;exact⟨a,its',_,b,q⟩
theorem Inv.lnew {its:List Jo}{t':Nat}(I:Inv X pins σ H s)(b:Vals ys its)(a:ys.length<=sizeLine) :
    Inv X pins σ (upd H s.heap.objs.size (.lst ys)) { s with heap:=s.heap.push { cls:=.type "list",data:=.seq its.toArray },toks:=t' } :=
  I.laid (λ_ _ q=>J7 _ q) (Je _) ⟨a,its,0,b,Jk _ rfl⟩
theorem Inv.fresh (I:Inv X pins σ H s):H s.heap.objs.size=none:=I.hok.fresh (Je _)
theorem Inv.lstM (I:Inv X pins σ H s)(a:H l=some (.lst xs)):xs.length<=sizeLine/\∃ (its:List Jo) (n:Nat),Vals xs its/\xs.length=its.length/\s.heap.get? l=some { cls:=.type "list",data:=.seq its.toArray n }:=by
  obtain⟨z,its,n,r,e⟩:=I.hok l _ a;exact⟨z,its,n,r,r.length,e⟩
theorem oV {n:Nat}(h:n<=sizeLine):Builtin.List.listTooLong n=false:=by
  unfold Builtin.List.listTooLong;exact Jt (by simp_all)
end
section
variable {X:Cx}
def rAppend:V->List V->Hp->VK->Prop:=λx b H Q=>∃ l a y,x=.ref l/\b=[y]/\H l=some (.lst a)/\a.length<sizeLine/\Q .non (upd H l (.lst (a++[y])))
theorem yd:MtM X "list.append" rAppend:=by
  intro pins s σ H x i v j Q I c d h;obtain⟨l,g,y,rfl,rfl,b,k,q⟩:=h;cases c;obtain⟨u,rfl,f⟩:=d.one;obtain⟨z,a,n,r,m,e⟩:=I.lstM b;refine ZG F.slot_list_append ⟨_,e,rfl⟩ F.entry_list_append (F.args_list_append_2 _ _) (PySem.list_append l a.toArray n u (by rw[Jf];simp_all)) ⟨e,?_⟩;refine⟨.non,_,I.lset (its':=a++[u]) b e (by simp) (r.append (.cons f .nil)) ?_,rfl,q⟩;rw[Jb,List.length_singleton]
  grind
def rExtend:V->List V->Hp->VK->Prop:=λx d H Q=>∃ l b c a,x=.ref l/\d=[.ref b]/\H l=some (.lst c)/\H b=some (.lst a)/\c.length+a.length<=sizeLine/\Q .non (upd H l (.lst (c++a)))
theorem rV:MtM X "list.extend" rExtend:=by
  intro pins s σ H x B v C Q I i j h;obtain⟨l,b,A,w,rfl,rfl,g,p,D,q⟩:=h;cases i;obtain⟨u,rfl,k⟩:=j.one;cases k;obtain⟨z,c,n,r,E,e⟩:=I.lstM g;obtain⟨y,a,o,m,t,e2⟩:=I.lstM p;have f:c.toArray.size+a.toArray.size<=sizeLine:=by rw[Jf,Jf];simp_all
  have d:¬(!c.toArray.isEmpty && Builtin.List.listTooLong (c.toArray.size+a.toArray.size))=true:=by
    rw[oV f,Bool.and_false];exact Ji
  refine ZG F.slot_list_extend ⟨_,e,rfl⟩ F.entry_list_extend (F.args_list_extend_2 _ _)
    (AutoSeq1.list_extend_list_list_0 l c.toArray n b a.toArray o d (by rw[Jf];simp_all) (by lia)) ⟨e,e2,?_⟩
  refine⟨.non,_,I.lset (its':=c++a) g e (by simp) (r.append m) ?_,rfl,q⟩;rw[Jb];omega
def rPopAt:V->List V->Hp->VK->Prop:=λx b H Q=>∃ l a i k y,x=.ref l/\b=[.int i]/\H l=some (.lst a)/\-(2 ^ 63)<=i/\i<2 ^ 63/\seqIndex? i a.length=some k/\a[k]?=some y/\Q y (upd H l (.lst (a.eraseIdx k)))
theorem eT:MtM X "list.pop" rPopAt:=by
  intro pins s σ H x D v E Q I f g h;obtain⟨l,d,i,k,y,rfl,rfl,c,C,B,A,m,q⟩:=h;cases f;obtain⟨u,rfl,j⟩:=g.one;obtain⟨t,rfl⟩:=j;obtain⟨z,a,n,r,p,e⟩:=I.lstM c;obtain⟨w,o,b⟩:=r.get m
  refine ZG F.slot_list_pop ⟨_,e,rfl⟩ F.entry_list_pop (F.args_list_pop_2 _ _)
    (MeetsSeq.list_pop_at l a.toArray n i t k w (fitsIndex_both C B) (by rw[Jf,<- p];exact A) (by rw[<- Array.getElem?_toList];exact o) (by rw[Jf];simp_all)) ⟨e,?_⟩
  refine⟨y,_,I.lset (its':=a.eraseIdx k) c e ?_ (r.eraseIdx k) ?_,b,q⟩
  · show a.toArray.eraseIdxIfInBounds k=(a.eraseIdx k).toArray
    rw[List.eraseIdxIfInBounds_toArray]
  · have:=ra d k
    lia
def zbU:R2:=λx y H Q=>∃ l b c a,x=.ref l/\y=.ref b/\H l=some (.lst c)/\H b=some (.lst a)/\c.length+a.length<=sizeLine/\∀ p,H p=none->Q (.ref p) (upd H p (.lst (c++a)))
theorem wb:OpR X (binaryOp .Add) zbU:=by
  intro pins s σ H x y v u Q I f d h;obtain⟨l,b,t,o,rfl,rfl,i,j,A,q⟩:=h;cases f;cases d;obtain⟨z,c,n,r,B,e⟩:=I.lstM i;obtain⟨p,a,w,g,m,e2⟩:=I.lstM j;refine PySem.P.add_list e e2 ?_ (by rw[Jf,Jf];simp_all);have k:c.toArray++a.toArray=(c++a).toArray:=by simp
  rw[k];exact⟨.ref _,_,I.lnew (t':=s.toks) (r.append g) (by rw[Jb];omega),rfl,q _ I.fresh⟩
def zbR:R2:=λx y H Q=>∃ l k a,x=.ref l/\y=.int k/\H l=some (.lst a)/\-(2 ^ 63)<=k/\k<2 ^ 63/\a.length*k.toNat<=sizeLine /\
  ∀ p,H p=none->Q (.ref p) (upd H p (.lst (List.replicate k.toNat a).flatten))
theorem bn {α:Type}(xs:List α)(k:Nat):(List.replicate k xs).flatten.length=k*xs.length:=by
  induction k with
  | zero=>simp
  | succ k ih=>rw[JX,Z0,Jb,ih,Nat.succ_mul,Nat.add_comm]
theorem mV:OpR X (binaryOp .Mult) zbR:=by
  intro pins s σ H x y v u Q I A w h;obtain⟨l,k,J,rfl,rfl,C,E,D,o,q⟩:=h;cases A;obtain⟨t,rfl⟩:=w;obtain⟨z,b,n,r,B,e⟩:=I.lstM C;have hlen:b.toArray.size*k.toNat<=sizeLine:=by rw[Jf,<- B];exact o
  have g:¬ b.toArray.size*k.toNat > (2 ^ 63-1) / 8:=by
    have:(sizeLine:Nat)<=(2 ^ 63-1) / 8:=by decide
    lia
  have f:¬(!Builtin.List.listFitsIndex k)=true:=by
    rw[fitsIndex_both E D];exact Ji
  have c:¬ Builtin.List.listTooLong (b.toArray.size*k.toNat)=true:=by
    rw[oV hlen];exact Ji
  have d:List.foldl (λj i=>j++i) #[] (List.replicate (if b.toArray.isEmpty=true then 0 else k.toNat) b.toArray)=(List.replicate k.toNat b).flatten.toArray:=by
    have G:∀ m:Nat,List.foldl (λj i=>j++i) #[] (List.replicate m b.toArray)=(List.replicate m b).flatten.toArray:=λm=>by
      have:=rq b m [];rw[Zz]at this;exact this
    rw[G]
    cases b with
    | nil=>simp
    | cons a K=>rw[Jg (by simp)]
  refine wpAny_binaryOp_repeat_ref (T:="list") (U:="int") (by decide) ⟨_,e,rfl⟩ (λp=>typeIs_int p k t) noFill_list_mul F.fills_int_mul F.slot_int_rmul repeat_list F.slot_int_index.lookup
    (ZG F.slot_int_rmul (typeIs_int s k t) F.entry_int_rmul (F.args_int_rmul_2 _ _) (int___rmul___int_list k t l b.toArray n)
      ⟨e,rfl,⟨_,e,rfl⟩,ZG F.slot_list_mul ⟨_,e,rfl⟩ F.entry_list_mul (F.args_list_mul_2 _ _) (AutoListH.list___mul___list_int_3 l b.toArray n k t f g c) ⟨e,?_⟩⟩)
  rw[d];exact⟨.ref _,_,I.lnew (t':=s.toks) (r.rep k.toNat) (by rw[bn,Nat.mul_comm];exact o),rfl,q _ I.fresh⟩
end
end L2
namespace Att
open PySem PySem.W PySem.Calls PyProof.Rows
theorem ui {P:Params}{h:YP}:∀ (ns:List Int) (vs:List Jo),WellAll P h vs (ns.map WData.int)->IntsAre vs ns:=by
  intro ns
  induction ns with
  | nil =>
    intro vs w;rw[List.map_nil]at w;cases w
    exact .nil
  | cons n ns ih =>
    intro vs w;rw[JU]at w
    cases w with
    | cons a b =>
      cases a;exact .cons _ _ (ih _ b)
theorem jO {l:OpenLaw}{n:Nat}(s:l.most=some n){P:Params}{h:YP}{args:List WData}{vals:List Jo}(b:l.row.toRowW.claim.pre args=true)(g:WellAll P h vals args) :
    ∃ a vs ns,vals=[Value.ref a]/\args=[WData.list (ns.map WData.int)]/\h.get? a=some { cls:=.type "list",data:=.seq vs.toArray }/\IntsAre vs ns/\ns.length<=n:=by
  have i:WShape.hasAll [] args [.list .int]=true:=(pre_splitW b).1;have j:l.pre.holds [] { args:=args }=true:=(pre_splitW b).2;obtain⟨d,r,rfl,v,u⟩:=hasAllW_cons i;obtain rfl:=hasAllW_nil u;obtain⟨w,rfl,t⟩:=hasW_list v;obtain⟨ns,rfl⟩:=items_int t
  have hlen:ns.length<=n:=by
    unfold OpenLaw.pre at j
    have f:(WTm.not (.lt (.lit (.int (n:Int))) (.len (.arg 0)))).holds [] { args:=[.list (ns.map .int)] }=true:=by
      have f:=(holds_andW j).1;rw[s]at f;exact f
    have e:=condW_of f (w_not (w_lt w_lit (w_len_list (w_arg rfl))));rw[Jc]at e;refine Nat.le_of_not_lt λq=>?_;have o:(n:Int)<((ns.length:Nat):Int):=by simp_all
    first
      | (rw[JC o]at e;exact absurd e (by decide))
      | (simp at e;omega)
  cases g with
  | cons m k =>
    cases k
    cases m with
    | list p c=>exact⟨_,_,ns,rfl,rfl,p,ui ns _ c,hlen⟩
theorem jW (l:OpenLaw)(args:List WData):l.row.toRowW.claim.post args (.bool true) args=true :=
  postW_of (r:=l.row.toRowW) (X:=(true == true))
    (show WShape.has [] (.bool true) .bool=true by first|rfl|decide|simp[WShape.has,WShape.arms,WShape.armsAll])
    (show (WTm.eq .res (.lit (.bool true))).value [] { args:=args,res:=some (.bool true),after:=args }=some (.bool (true == true)) from w_eq_bool (w_res rfl) w_lit) rfl
theorem attach_call {l:OpenLaw}{n:Nat}{q:Yo}{loose:List Str}{t:(Str->Option Jo)->YP->Prop}{s:YI->YP->Prop}{d:DefRec}
    (y:l.most=some n) (k:d.params.defaults=[])
    (call:∀ (w:YI) (s₀ b:JO) (mg mb:Str->Option Jo) (c:JI) (o:Obj) (pm cd doc:Jo) (a:JI) (vs:List Jo) (ns:List Int),
      Ground q loose [] t w s₀ mg mb b.heap->s w b.heap ->
      b.heap.get? c=some o->o.data=.func (docDef d.name d.params d.body d.scope pm cd doc)->b.heap.CodeRec cd d.name->mg d.name=some (.ref c) ->
      b.heap.get? a=some { cls:=.type "list",data:=.seq vs.toArray }->IntsAre vs ns->ns.length<=n->b.gens = #[] ->
      codeAny (model l.prog w) callerA (.call (.ref c) ⟨[.ref a],[]⟩) (λr h=>r=.ok (.ret (.bool true))/\OldK b.heap h.heap/\h.os=b.os/\AllBare h.gens) b) :
    WalkO q loose t s l.row.toRowW d [] (λf vs=>PySem.call f vs):=by
  intro w s₀ b mg mb G Y c o pm cd doc F kV x B m p j A args vals as e u H i I;obtain rfl:F=.none:=Dflts.none p k;obtain rfl:kV=.none:=Dflts.noKw p;obtain⟨a,vs,ns,rfl,rfl,g,hints,hlen⟩:=jO y e i;refine enter_call (ZE (call w s₀ b mg mb c o pm cd doc a vs ns G Y x (fd_plain B) m j g hints hlen A) λr h v=>?_);obtain⟨rfl,E,D,C⟩:=v;exact⟨.inl ⟨.bool true,.bool true,[],rfl,λ_=>rfl,.bool true,jW l _,λ_=>⟨List.Pairwise.nil,λ_ z=>(nomatch z)⟩⟩,E,D,C⟩
section
def zbX (h:YP)(L d:JI):List (JI × Obj):=(List.range h.objs.size).filterMap λa=>if a=L\/a=d then none else (h.get? a).map λo=>(a,o)
end
end Att
namespace L2
open PySem PySem.Spec PyProof.Rows
theorem rE:∀ {vs:List Jo}{ns:List Int},IntsAre vs ns->Vals (ns.map V.int) vs
  | _,_,.nil=>.nil
  | _,_,.cons n t h=>.cons ⟨t,rfl⟩ (rE h)
abbrev KOf {K:Jl}{h:YP}(_:K.In h):Jl:=K
def xi (s:Stmt):Arguments:=match s with
  | .FunctionDef _ a _ _ _ _ _ _ _ _=>a
  | _=>{ posonlyargs:=[],args:=[],vararg:=none,kwonlyargs:=[],kw_defaults:=[],kwarg:=none,defaults:=[] }
def y9 (s:Stmt):List Stmt:=match s with
  | .FunctionDef _ _ b _ _ _ _ _ _ _=>b
  | _=>[]
def zR (s:Stmt):Scope:=match s with
  | .FunctionDef _ _ _ _ _ _ sc _ _ _=>sc
  | _=>{ kind:=.function,names:=[],isGenerator:=false,isCoroutine:=false }
abbrev CX0:CXT:=λ_ _ _ _ _ _=>False
abbrev E0:XK:=λ_ _ _=>False
theorem fw {X:Cx}:Passes CX0 X E0:=λ_ _ _ _ _ _ _ h=>h.elim
structure Fun (K:Jl) (x qual:Str) (st:Stmt) (f:JI) (fd:Yl):Prop where
  ex:∃ (oc:Jo) (od:Option JI) (kV doc pm:Jo) (an:Option JI) (cdv ct:Jo) (osl:Array (Option Jo)),
    fd=PySem.W.fnOf x qual (xi st) (y9 st) (zR st) .none kV doc pm an cdv ct/\K.lookup f=some ⟨oc,od,.func fd,osl⟩/\PySem.W.codeIn K cdv qual=true
  kp:PySem.W.keepIn K (.ref f)=true
section
variable {P:Yo}{w:YI}{K:Jl}{mg:Str->Option Jo}{base:YP}
theorem Fun.ok {x qual:Str}{st:Stmt}{f:JI}{fd:Yl}{N ps:List Str}{k:Nat}{sp:Sp}(F:Fun K x qual st f fd)(S:FnScope N ps (zR st))(len:∀ vs H Q E,sp vs H Q E->vs.length=ps.length)(a:∀ (cdv:Jo) (A:YO) (outer:List Env) (s:JO) (H:Hp) (vs:List V) (Q:VK) (E:XK),Room k (A.deeper (envOfC qual (zR st) s.heap.objs.size f cdv))->sp vs H Q E ->
      ∃ t,PSs (wT CX0 P w K mg base N qual (zR st) f cdv A outer s H E).nox (y9 st) t/\t { nx:=λ_ g=>Q .non g,rt:=Q } (vh N vs) H):FnOk P w K mg base CX0 (k+1) f fd ps sp:=by
  obtain⟨l,j,kV,doc,pm,an,cdv,m,i,rfl,d,c⟩:=F.ex;refine aO d c S len λA outer s H vs Q E e b=>?_;obtain⟨t,h,q⟩:=a cdv A outer s H vs Q E e b;exact⟨t,h.nox,q⟩
theorem Fun.binds {x qual:Str}{st:Stmt}{f:JI}{fd:Yl}{ps:List Str}(F:Fun K x qual st f fd)(h:∀ (kV doc pm:Jo) (an:Option JI) (cdv ct:Jo) (us:List Jo),us.length=ps.length->bindArgs (PySem.W.fnOf x qual (xi st) (y9 st) (zR st) .none kV doc pm an cdv ct) ⟨us,[]⟩=pure (ps.zip us)):Binds K fd ps []:=by
  obtain⟨d,c,kV,doc,pm,an,cdv,ct,a,rfl,e,b⟩:=F.ex;exact .all (h kV doc pm an cdv ct)
theorem zaG {x qual:Str}{st:Stmt}{f:JI}{oc:Jo}{od an:Option JI}{osl:Array (Option Jo)}{kV doc pm cdv ct:Jo}(l:K.lookup f=some ⟨oc,od,.func (PySem.W.fnOf x qual (xi st) (y9 st) (zR st) .none kV doc pm an cdv ct),osl⟩)(c:PySem.W.codeIn K cdv qual=true)(k:PySem.W.keepIn K (.ref f)=true):Fun K x qual st f (PySem.W.fnOf x qual (xi st) (y9 st) (zR st) .none kV doc pm an cdv ct):=⟨⟨oc,od,kV,doc,pm,an,cdv,ct,osl,rfl,l,c⟩,k⟩
end
section
variable {X:Cx}
theorem pv (i:Nat) {x:Str}{pos:Pos}(d:X.N[i]?=some x:=by rfl) (b:Vis X.env.scope x:=by first|exact Or.inl rfl|exact Or.inr (.inl rfl)|exact Or.inr (.inr rfl)) (c:(x == ("__debug__":Str))=false:=by decide)
    (a:(x == ("__classdict__":Str))=false:=by decide):PE X (.Name x pos) (gE i):=fZ d b c a
theorem qv (i:Nat) {x:Str}{pos:Pos}(h:X.N[i]?=some x/\Vis X.env.scope x/\(x == ("__debug__":Str))=false/\(x == ("__classdict__":Str))=false):PE X (.Name x pos) (gE i):=fZ h.1 h.2.1 h.2.2.1 h.2.2.2
end
theorem xX {A B:Prop}(h:B):if false=true then A else B:=by
  rw[Jg Ji];exact h
theorem wE {A B:Prop}(h:A):if true=true then A else B:=by
  rw[Jq rfl];exact h
theorem uX {c A B:Prop}[Decidable c](h1:c->A)(a:¬ c->B):if c then A else B:=by
  by_cases h:c
  · rw[Jq h]
    exact h1 h
  · rw[Jg h]
    exact a h
def Same (H H':Hp):Prop:=∀ b o,H b=some o->H' b=some o
theorem Same.refl (H:Hp):Same H H:=λ_ _ h=>h
theorem Same.trans {H e d:Hp}(a:Same H e)(b:Same e d):Same H d:=λc o h=>b c o (a c o h)
end L2
set_option maxHeartbeats 4000001
namespace L2
open PySem PySem.Spec PyProof.Rows
def vc (cells:List (Str × JI)):List (Str × NameKind)->List (Str × JI)->List (Str × JI)
 | [],cs=>cs
 | (n,k)::r,cs=>if k == .free then vc cells r ((n,(cells.lookup n).getD 0)::cs) else vc cells r cs
theorem su {env:Env}:∀ (names:List (Str × NameKind)) (cs:List (Str × JI)),(∀ y∈names,y.2=.free->∃ c,env.cells.lookup y.1=some c) ->
  (forIn names cs λx r=>match x with|(name,kind)=>if (kind == NameKind.free)=true then (do let a <- cellOf env name;pure (ForInStep.yield ((name,a)::r))) else pure (ForInStep.yield r):Sem (List (Str × JI)))=pure (vc env.cells names cs)
 | [],cs,_=>rfl
 | (n,k)::r,cs,h=>by
  rw[YH];by_cases e:(k == NameKind.free)=true
  ·obtain⟨c,g⟩:=h (n,k) JH (by simpa using e)
   have d:cellOf env n=pure c:=by
    have b:env.cells.lookup n=some c:=g;unfold cellOf;rw[b]
   simp only[e,YZ,d,pure_bind];rw[su r _ λy f=>h y (JJ _ f)];have b:env.cells.lookup n=some c:=g;show _=pure (if (k == NameKind.free)=true then _ else _);rw[Jq e,b];rfl
  ·have i:(k == NameKind.free)=false:=by simpa using e
   simp only[i,Bool.false_eq_true,if_false,pure_bind];rw[su r _ λy f=>h y (JJ _ f)];show _=pure (if (k == NameKind.free)=true then _ else _);rw[Jg e]
theorem sk {scope:Scope}{env:Env}(h:∀ y∈scope.names,y.2=.free->∃ c,env.cells.lookup y.1=some c):closureFor scope env=pure (vc env.cells scope.names []):=by
 unfold closureFor;show (forIn scope.names [] _ >>= λr=>pure r)=_;rw[bind_pure];exact su _ _ h
theorem uJ {cells:List (Str × JI)}:∀ (names:List (Str × NameKind)) (cs:List (Str × JI)) (x:Str) (c:JI),(∀ y∈names,y.2=.free->∃ c,cells.lookup y.1=some c) ->
  (∀ x c,cs.lookup x=some c->cells.lookup x=some c)->(vc cells names cs).lookup x=some c->cells.lookup x=some c
 | [],cs,x,c,_,hs,e=>hs x c e
 | (n,k)::r,cs,x,c,h,hs,e=>by
  unfold vc at e;by_cases q:(k == NameKind.free)=true
  ·rw[Jq q]at e
   obtain⟨c0,j⟩:=h (n,k) JH (by simpa using q);refine uJ r _ x c (λy f=>h y (JJ _ f)) (λd l a=>?_) e;rw[Ym]at a
   cases g:d == n with
   | true =>
    rw[g]at a;have i:d=n:=by simpa using g
    subst i;have b:cells.lookup d=some c0:=j;rw[b]at a ⊢
    exact a
   | false =>
    rw[g]at a;exact hs d l a
  ·rw[Jg q]at e
   exact uJ r _ x c (λy f=>h y (JJ _ f)) hs e
theorem uZ {cells:List (Str × JI)}:∀ (names:List (Str × NameKind)) (cs:List (Str × JI)) (x:Str),(∃ c,cs.lookup x=some c)->∃ c,(vc cells names cs).lookup x=some c
 | [],cs,x,e=>e
 | (n,k)::r,cs,x,e=>by
  unfold vc;by_cases q:(k == NameKind.free)=true
  ·rw[Jq q]
   refine uZ r _ x ?_;rw[Ym]
   cases a:x == n with
   | true=>exact⟨_,rfl⟩
   | false=>exact e
  ·rw[Jg q]
   exact uZ r _ x e
theorem wK {cells:List (Str × JI)}:∀ (names:List (Str × NameKind)) (cs:List (Str × JI)) (x:Str),names.lookup x=some .free->∃ c,(vc cells names cs).lookup x=some c
 | [],cs,x,e=>by simp at e
 | (n,k)::r,cs,x,e=>by
  rw[Ym]at e;unfold vc
  cases a:x == n with
  | true =>
   rw[a]at e;have b:k=.free:=Jj e;subst b;rw[Jq (by decide)];refine uZ r _ x ?_;rw[Ym,a]
   exact⟨_,rfl⟩
  | false =>
   rw[a]at e;by_cases q:(k == NameKind.free)=true
   ·rw[Jq q];exact wK r _ x e
   ·rw[Jg q];exact wK r _ x e
def cG (env:Env)(p:Str × NameKind):Bool:=p.2 == .free && env.scope.kind == .function && env.kindOf p.1 == some .cell
def vG (env:Env)(p:Str × NameKind):Str × NameKind:=if cG env p=true then (p.1,.cell) else p
theorem uc (env:Env)(p:Str × NameKind):(vG env p).1=p.1:=by unfold vG;split<;>rfl
theorem ub (env:Env)(p:Str × NameKind):(vG env p).2=p.2\/((vG env p).2=.cell/\p.2=.free):=by
 unfold vG;split
 ·rename_i h
  refine .inr ⟨rfl,?_⟩;unfold cG at h;cases e:p.2<;>simp[e]at h<;>rfl
 ·exact .inl rfl
theorem vP (scope:Scope)(env:Env):(relabel scope env).names=scope.names.map (vG env):=rfl
theorem sN {f:Str × NameKind->Str × NameKind}(a:∀ p,(f p).1=p.1):∀ (l:List (Str × NameKind)) (x:Str),(l.map f).lookup x=none/\l.lookup x=none\/∃ p∈l,(l.map f).lookup x=some (f p).2/\l.lookup x=some p.2
 | [],_=>.inl ⟨rfl,rfl⟩
 | p::r,x=>by
  have c:((p::r).map f).lookup x=if x == p.1 then some (f p).2 else (r.map f).lookup x:=by
   show List.lookup x (((f p).1,(f p).2)::r.map f)=_;rw[Ym,a p];cases x == p.1<;>rfl
  have e2:(p::r).lookup x=if x == p.1 then some p.2 else r.lookup x:=by
   show List.lookup x ((p.1,p.2)::r)=_;rw[Ym];cases x == p.1<;>rfl
  rw[c,e2];cases x == p.1
  ·rcases sN a r x with z|⟨q,b,z⟩
   ·exact .inl z
   ·exact .inr ⟨q,JJ _ b,z⟩
  ·exact .inr ⟨p,JH,rfl,rfl⟩
theorem xg {scope:Scope}{env:Env}{x:Str}{a:NameKind}(h:(relabel scope env).names.lookup x=some a):scope.names.lookup x=some a\/(a=.cell/\scope.names.lookup x=some .free):=by
 rw[vP]at h;rcases sN (uc env) scope.names x with ⟨z,_⟩|⟨p,_,z,e⟩
 ·rw[z]at h;cases h
 ·rw[z]at h
  obtain rfl:=Jj h;rcases ub env p with q|⟨q,b⟩
  ·rw[q];exact .inl e
  ·exact .inr ⟨q,by rw[e,b]⟩
theorem vw {scope:Scope}{env:Env}{x:Str}(h:scope.names.lookup x=some .free):(relabel scope env).names.lookup x=some .cell\/(relabel scope env).names.lookup x=some .free:=by
 rw[vP];rcases sN (uc env) scope.names x with ⟨_,z⟩|⟨p,_,z,e⟩
 ·rw[z]at h;cases h
 ·rw[e]at h
  rcases ub env p with q|⟨q,_⟩
  ·rw[z,q,h];exact .inr rfl
  ·rw[z,q];exact .inl rfl
def yW (X:Cx)(N':List Str)(scope:Scope)(C:JI)(s₀:JO)(H₀:Hp)(fp:List JI)(pins:List (JI × Obj)):Cx :=
 { X with N:=N',s₀:=s₀,H₀:=H₀,env:=compEnvC scope (vc X.env.cells scope.names []) C X.env,outer:=X.stack,stack:=X.stack,ex:=fp,fn:=λ_=>false,pn:=X.pn++pins,xe:=λ_ _=>False }
def im (cap:List (Option Nat))(σ:St):St:=cap.map λo=>match o with|some i=>(match σ[i]? with|some v=>v|none=>none)|none=>none
def tst (M:Model)(A:YO)(env:Env)(E:Jo->JO->Prop)(o:Option Expr)(Q:Bool->JO->Prop)(s:JO):Prop:=match o with
 | none=>Q true s
 | some c=>wpAny M A (isTrue c env (eval c env)) Q E s
theorem pT {M:Model}{A:YO}{env:Env}{E:Jo->JO->Prop}{o:Option Expr}{Q a:Bool->JO->Prop}{s:JO}(h:tst M A env E o Q s)(k:∀ b z,Q b z->a b z):tst M A env E o a s:=by
 cases o with
 | none=>exact k _ _ h
 | some c=>exact thn h k
def PTo (X:Cx)(o:Option Expr)(t:TT):Prop :=
 ∀ (pins:List (JI × Obj)) (s:JO) (σ:St) (H:Hp) (Q:Bool->Hp->Prop),Inv X pins σ H s->t σ H Q->tst (model X.prog X.w) X.A X.env X.xe o (TP X pins σ Q) s
def gD:TT:=λ_ H Q=>Q true H
theorem x5 {X:Cx}:PTo X none gD:=λ_ _ _ H _ I h=>⟨H,I,h⟩
theorem cq {X:Cx}{c:Expr}{t:TT}(h:PT X c t):PTo X (some c) t:=λpins s σ H Q I a=>h pins s σ H Q I a
abbrev NoX:Jo->JO->Prop:=λ_ _=>False
def Go (M:Model)(A:YO)(tg elt:Expr)(o:Option Expr)(it acc:Jo)(env:Env)(R:Result->JO->Prop)(g:JO->Prop)(s:JO):Prop :=
 wpAny M A (pyNext it) (λr a=>match r with
  | none=>R (.ok .next) a
  | some v=>wpAny M A (letOwnedTupleGo tg it v) (λ_ b=>wpAny M A (assign tg env v) (λ_ c=>tst M A env NoX o (λyes d =>
    if yes=true then wpAny M A (eval elt env) (λx e=>wpAny M A (call (.builtin "list.append") [acc,x]) (λ_ f=>g f) NoX e) NoX d else g d) c) NoX b) NoX a) NoX s
theorem iZ {prog:Yo}{w:YI}{A:YO}{R:Result->JO->Prop}{s:JO}{elt tg iter:Expr}{o:Option Expr}{scope:Scope}{pos:Pos}{it acc:Jo}{env:Env}(J:Nat->JO->Prop)(turn:∀ n s,J n s->Go (model prog w) A tg elt o it acc env R (λz=>∃ m,m<n/\J m z) s)(n:Nat)(h:J n s) :
  codeAny (model prog w) A (.compLoop (.ListComp elt [⟨tg,iter,o.toList,0⟩] scope pos) 0 it acc env) R s:=by
 cases o with
 | none =>
  refine PySem.W.kcp_loop J (λn a l=>JB (turn n a l) (λr b g=>?_) λ_ _ z=>z.elim) n h
  cases r with
  | none=>exact g
  | some v=>exact JB g (λ_ c k=>JB k (λ_ d j=>JB (show wpAny _ _ _ _ _ d from j) (λx e i=>JB i (λ_ _ q=>q) λ_ _ z=>z.elim) λ_ _ z=>z.elim) λ_ _ z=>z.elim) λ_ _ z=>z.elim
 | some t =>
  refine PySem.W.kct_loop J (λn a l=>JB (turn n a l) (λr b g=>?_) λ_ _ z=>z.elim) n h
  cases r with
  | none=>exact g
  | some v =>
   refine JB g (λ_ c k=>JB k (λ_ d j=>JB (show wpAny _ _ _ _ _ d from j) (λyes e i=>?_) λ_ _ z=>z.elim) λ_ _ z=>z.elim) λ_ _ z=>z.elim;cases yes
   ·exact i
   ·exact JB (show wpAny _ _ _ _ _ e from i) (λx f p=>JB p (λ_ _ q=>q) λ_ _ z=>z.elim) λ_ _ z=>z.elim
structure CapOk (N N':List Str) (sc scope:Scope) (cap:List (Option Nat)):Prop where
 kind:scope.kind=.function
 nocell:∀ y∈scope.names,y.2≠.cell
 names:∀ y∈scope.names,y.2=.local -> scope.names.lookup y.1=some .local
 free:∀ y∈scope.names,y.2=.free->sc.names.lookup y.1=some .cell\/sc.names.lookup y.1=some .free
 len:cap.length=N'.length
 cap:∀ p∈N'.zip cap,∀ i,p.2=some i->N[i]?=some p.1/\scope.names.lookup p.1=some .free/\(sc.names.lookup p.1=some .cell\/sc.names.lookup p.1=some .free)
theorem vZ {α:Type}:∀ {l:List (Str × α)}{x:Str}{a:α},l.lookup x=some a->(x,a)∈l
 | [],_,_,h=>by simp at h
 | (n,k)::r,x,a,h=>by
  rw[Ym]at h
  cases b:x == n with
  | true =>
   rw[b]at h;have e:k=a:=Jj h;have e2:x=n:=by simpa using b
   subst e e2
   exact JH
  | false=>rw[b]at h;exact JJ _ (vZ h)
def LCW (J:It)(g:TG)(tt:TT)(k:TE)(l:JI)(Q:VK)(W:Nat->Nat->List V->St->Hp->Prop):Prop :=
 ∀ i m acc e c,W i m acc e c->c l=some (.lst acc) /\
  ((J.stop i c/\Q (.ref l) c)\/(J.go i c/\∀ x j,J.yld i c x j->g x e j λa n=>tt a n λb h =>
   if b=true then k a h λy f=>f l=some (.lst acc)/\acc.length<sizeLine/\∃ d,d<m/\W (i+1) d (acc++[y]) a (upd f l (.lst (acc++[y])))
   else ∃ d,d<m/\W (i+1) d acc a h))
def tLC (cap:List (Option Nat))(b:TI)(g:TG)(tt:TT)(c:TE):TE:=λσ H Q=>b σ H λJ a=>∀ l,a l=none ->
 ∃ W:Nat->Nat->List V->St->Hp->Prop,(∃ m,W 0 m [] (im cap σ) (upd a l (.lst [])))/\LCW J g tt c l Q W
theorem kW {X:Cx}{elt tg iter:Expr}{o:Option Expr}{scope:Scope}{pos a3:Pos}{wi:TI}{g:TG}{tt:TT}{te:TE}{N':List Str}{cap:List (Option Nat)}{use:Option (Jo->Sem Unit)}{Q0:Jo->JO->Prop}(hc:X.calm=true)(hi:PI X tg iter wi)(P:CapOk X.N N' X.env.scope scope cap)(hg:∀ C s₀ H₀ fp pins,PG (yW X N' scope C s₀ H₀ fp pins) tg g)(ht:∀ C s₀ H₀ fp pins,PTo (yW X N' scope C s₀ H₀ fp pins) o tt)(he:∀ C s₀ H₀ fp pins,PE (yW X N' scope C s₀ H₀ fp pins) elt te)(hs:∀ x,foldedSetIterable iter X.env x=pure x){pins:List (JI × Obj)}{s:JO}{σ:St}{H:Hp}{Q:VK}(I:Inv X pins σ H s)(h:tLC cap wi g tt te σ H Q)(fin:∀ (l C:JI) (O:Hp) (U:JO) (m:Str->Option Jo),Inv X pins σ O U->Q (.ref l) O->U.heap.Ns C m->FpOk X pins O C->compPost (model X.prog X.w) X.A X.xe use Q0 (.ref l) C (.ok .next) U) :
  wpAny (model X.prog X.w) X.A (comprehension (.ListComp elt [⟨tg,iter,o.toList,0⟩] scope pos) scope X.env a3 (newList []) false (eval iter X.env) use) Q0 X.xe s:=by
 have F:∀ y∈scope.names,y.2=.free->∃ c,X.env.cells.lookup y.1=some c:=λy hy hf=>I.ok.has y.1 (P.free y hy hf);refine wpAny_comprehension_free (use:=use) rfl hs (sk F) P.kind P.names (thn (hi pins s σ H _ I h) λv s1 h1=>thn h1 λcn A h2=>?_);obtain⟨it,fp,tn,J,H2,e,I2,T,a7,N,body⟩:=h2;subst e;have a5:H2 A.heap.objs.size=none:=I2.hok.fresh (Je _);obtain⟨W,⟨m0,w0⟩,turn⟩:=body A.heap.objs.size a5;have k:Inv X pins σ (upd H2 A.heap.objs.size (.lst [])) { A with heap:=A.heap.push { cls:=.type "list",data:=.seq ([]:List Jo).toArray },toks:=A.toks }:=I2.lnew (its:=[]) (t':=A.toks) .nil (JM _);refine JE (wpAny_newFunctionEnv P.nocell (by intro y hy;simp at hy) (λw E D=>?_) P.kind);dsimp only at E D ⊢;generalize hl:A.heap.objs.size=l at *;generalize hP:A.heap.push { cls:=.type "list",dict:=none,data:=.seq ([]:List Jo).toArray }=P2 at *;generalize b2:upd H2 l (.lst [])=H3 at *;have old:∀ b o,P2.get? b=some o->w.get? b=some o:=λb o e=>D.extBut b o (Jx (Jh e)) (J7 _ e);have a4:∀ b o,A.heap.get? b=some o->P2.get? b=some o:=λb o e=>hP ▸ J7 _ e
 have bc:∀ b∈fp,b<l:=λb a=>by
  obtain⟨o,e,_⟩:=T.obj _ _ a7 b a;rw[<- hl];exact Jh e
 have b4:∀ b∈fp,H3 b=none:=λb a=>by
  rw[<- b2,zK (Jx (bc b a))];exact(N b a).1
 have b1:P2.objs.size=l+1:=by rw[<- hP,Ys,hl]
 have t:∀ x c,(vc X.env.cells scope.names []).lookup x=some c->X.env.cells.lookup x=some c:=λx c e=>uJ _ _ x c F (λ_ _ z=>by simp at z) e;generalize a9:({ A with heap:=P2,toks:=A.toks }:JO)=s3 at *;have f:s3.heap=P2:=by rw[<- a9]
 let Y:=yW X N' scope P2.objs.size s3 H3 fp pins
 have B:Y.Ok:=by
  refine⟨k.ok.mod,P.kind,k.ok.glob,k.ok.blt,by show s3.heap.objs.size<=P2.objs.size;rw[f];exact Je _,λx y c e1 e2=>k.ok.inj x y c (t x c e1) (t y c e2),λx Z=>?_,λx c Z=>absurd (show false=true from Z) Ji,k.ok.hd,k.ok.frames,.inl rfl,λb a=>⟨?_,λx c e=>?_⟩,k.bs,
   JQ k.ok.bsz k.sz,λb o e a=>?_,λb a hz=>?_,k.stack,k.stkFree⟩
  ·have bu:scope.names.lookup x=some .free:=by
    rcases Z with Z|Z
    ·rcases xg Z with z|z
     ·exact absurd rfl (P.nocell _ (vZ z))
     ·exact z.2
    ·rcases xg Z with z|z
     ·exact z
     ·exact z.2
   exact wK _ _ x bu
  ·exact Jx (by show b<P2.objs.size;rw[b1];exact Z1 (bc b a))
  ·exact(N b a).2.2.2.2.1 x c (t x c e)
  ·rcases (N b a).2.2.2.1 with z|z
   ·exact k.ok.noex b o e z
   ·exact absurd (Jz (Jh e) (JQ k.ok.bsz z)) (Ye _)
  ·rcases Jp.mp (k.stkSub b hz) with z|z
   ·exact(N b a).2.1 z
   ·exact(N b a).2.2.1 z
 have b0:Inv Y [] (im cap σ) H3 { A with heap:=w,toks:=A.toks }:=by
  refine⟨B,by show A.os=s3.os;rw[<- a9],I2.bare,by show Un _ _ _ _ s3.heap w;rw[f];exact Un.kept old,⟨_,E,λj x v e1 e2 e3=>?_⟩,λx c e=>?_,?_,λx c e=>k.freeC x c (t x c e),λp hp=>?_,λb o e=>?_,?_⟩
  ·have b7:N'[j]?=some x:=e1
   unfold im at e2;rw[JF]at e2
   cases ec:cap[j]? with
   | none=>rw[ec]at e2;cases e2
   | some oc =>
    rw[ec]at e2
    cases oc with
    | none=>cases e2
    | some i =>
     have b5:σ[i]?=some (some v):=by
      cases ei:σ[i]? with
      | none=>simp[ei]at e2
      | some v' =>
       simp[ei]at e2;rw[e2]
     have hz:(x,some i)∈N'.zip cap:=by
      refine Jw (i:=j) ?_;rw[List.getElem?_zip_eq_some];exact⟨b7,ec⟩
     obtain⟨hN,hf,hk⟩:=P.cap _ hz i rfl;obtain⟨m,hn,bB⟩:=k.loc;obtain⟨u,r,lk⟩:=bB i x v hN b5 (by rcases hk with z|z;exact .inr (.inl z);exact .inr (.inr z));refine⟨u,r,.inr ⟨?_,?_⟩⟩
     ·exact vw hf
     ·rcases lk with ⟨z,_⟩|⟨_,c,bS,ab⟩
      ·have z':X.env.scope.names.lookup x=some .local:=z
       rcases hk with q|q
       ·rw[q]at z';cases z'
       ·rw[q]at z';cases z'
      ·obtain⟨c',ba⟩:=wK (cells:=X.env.cells) scope.names [] x hf
       have:=t x c' ba;rw[bS]at this;cases this;obtain⟨ob,e,d⟩:=ab;rw[f]at e;exact⟨c,ba,ob,old c ob e,d⟩
  ·obtain⟨v,ob,e',d⟩:=k.cell x c (t x c e)
   rw[f]at e';exact⟨v,ob,old c ob e',d⟩
  ·refine k.hok.fresh ?_
   rw[f];exact Je _
  ·have a0:p∈X.pn++pins:=(Jr.mp hp).elim (λz=>z) (λz=>nomatch z)
   obtain⟨e,n,ne,nf,d⟩:=k.pin p a0;rw[f]at e;refine⟨old _ _ e,n,Jx (Jh e),λz=>?_,d⟩;rcases Jp.mp (k.stkSub _ z) with q|q
   ·exact ne q
   ·exact nf q
  ·have:=k.hok.kept (h':=w) (λb u q=>old b u (by rw[<- f];exact q))
   exact this b o e
  ·show (cap.map _).length=N'.length
   rw[Jc,P.len]
 have L:∀ {G:Hp},(∀ b∈fp,G b=none)->∀ b∈fp,FpOk Y [] G b:=λ{G} hn b a=>by
  refine⟨hn b a,(B.exf b a).1,B.exfs b a,.inl a,(B.exf b a).2,λp hp=>?_⟩;have a0:p∈X.pn++pins:=(Jr.mp hp).elim (λz=>z) (λz=>nomatch z);exact(N b a).2.2.2.2.2 p a0
 have a8:tn 0 w:=T.keep 0 _ _ a7 λb a o e=>old b o (a4 b o e)
 have loop:codeAny (model X.prog X.w) X.A (.compLoop (.ListComp elt [⟨tg,iter,o.toList,0⟩] scope pos) 0 (.ref it) (.ref l) Y.env) (compPost (model X.prog X.w) X.A X.xe use Q0 (.ref l) P2.objs.size) { A with heap:=w,toks:=A.toks }:=by
  refine iZ (λn s'=>∃ i acc K G,Inv Y [] K G s'/\tn i s'.heap/\(∀ b∈fp,G b=none)/\W i n acc K G) ?_ m0 ⟨0,[],_,H3,b0,a8,b4,w0⟩;rintro n s4 ⟨i,acc,S,O,I4,a6,bb,w4⟩;obtain⟨cb,q4⟩:=turn i n acc S O w4;rcases q4 with ⟨stop,qn⟩|⟨go,step⟩
  ·refine thn (T.done Y rfl rfl rfl hc i [] s4 S O Y.xe I4 (L bb) a6 stop) λr U ⟨hr,I5⟩=>?_
   subst hr;obtain⟨m,hn,_⟩:=id I5.loc;have un:Un (frs X.stack) fp H3 O s3.heap U.heap:=I5.base;have bl:s3.heap.objs.size<=P2.objs.size:=by rw[f];exact Je _
   have IX:Inv X pins σ O U:=k.call' (ch:=fp) I5.os un I5.hok I5.bare λb a=>⟨(N b a).2.2.2.1,(N b a).2.1,(N b a).2.2.2.2.1,(N b a).2.2.2.2.2⟩;exact fin l P2.objs.size O U m IX qn hn (k.fpOk bl I5.free)
  ·refine thn (T.item Y rfl rfl rfl hc i [] s4 S O Y.xe I4 (L bb) a6 go) λr U ⟨u,hr,h5⟩=>?_
   subst hr;refine thn h5 λ_ s6 ⟨x,H6,I6,r6,y6,aT,b3⟩=>?_;have b8:=I6.pinned (L b3) (T.obj _ _ aT);refine thn (hg _ _ _ _ _ _ s6 S H6 x u _ b8 r6 (step x H6 y6)) λ_ s7 ⟨aE,H7,I7,q7⟩=>?_;refine pT (ht _ _ _ _ _ _ s7 aE H7 _ I7 q7) λb s8 ⟨H8,I8,q8⟩=>?_
   have again:∀ {R:St}{H9:Hp}{s9:JO}{M:List V},Inv Y ([]++wY fp s6.heap) R H9 s9->(∃ m',m'<n/\W (i+1) m' M R H9)->∃ m,m<n/\∃ i acc K G,Inv Y [] K G s9/\tn i s9.heap/\(∀ b∈fp,G b=none)/\W i m acc K G:=λ{R H9 s9 M} I9 ⟨m',hm,w9⟩=>by
    refine⟨m',hm,i+1,M,R,H9,I9.unpinned,T.keep _ _ _ aT λb a o e=>(I9.pin (b,o) (Jv _ (Jv _ (yw a e)))).1,λb a=>?_,w9⟩;obtain⟨o,e,d⟩:=T.obj _ _ aT b a;exact(I9.pin (b,o) (Jv _ (Jv _ (yw a e)))).2.1
   cases b with
   | false =>
    rw[Jg Ji]at q8 ⊢
    exact again I8 q8
   | true =>
    rw[Jq rfl]at q8 ⊢;refine thn (he _ _ _ _ _ _ s8 aE H8 _ I8 q8) λyv s9 ⟨y,H9,I9,r9,bR,bt,q9⟩=>?_;refine thn (yd (X:=Y) _ s9 aE H9 (.ref l) [y] (.ref l) [yv] (λ_ G=>G=upd H9 l (.lst (acc++[y]))) I9 rfl (.cons r9 .nil) ⟨l,acc,y,rfl,rfl,bR,bt,rfl⟩) λ_ cc ⟨_,ct,b9,_,b6⟩=>?_;subst b6;exact again b9 q9
 exact codeAny_compStart_list loop (T.self X.A 0 _ _ _ a8 loop)
theorem Inv.gone {X:Cx}{pins:List (JI × Obj)}{σ:St}{H:Hp}{s:JO}{C:JI}{h':YP}(I:Inv X pins σ H s)(f:FpOk X pins H C)(a:Heap.SameBut C s.heap h'):Inv X pins σ H { s with heap:=h' } :=
 I.turned (t':=s.toks) (λb o c e=>(a.2 b c).trans e) f.1 f.2.1 f.2.2.2.1 f.2.2.2.2.1 f.2.2.2.2.2
theorem oI {X:Cx}{elt tg iter:Expr}{o:Option Expr}{scope:Scope}{pos:Pos}{a:TI}{g:TG}{tt:TT}{b:TE}{N':List Str}{cap:List (Option Nat)}(k:X.calm=true)(hi:PI X tg iter a)(n:CapOk X.N N' X.env.scope scope cap)(i:∀ C s₀ H₀ fp pins,PG (yW X N' scope C s₀ H₀ fp pins) tg g)(d:∀ C s₀ H₀ fp pins,PTo (yW X N' scope C s₀ H₀ fp pins) o tt)(j:∀ C s₀ H₀ fp pins,PE (yW X N' scope C s₀ H₀ fp pins) elt b)(hs:∀ x,foldedSetIterable iter X.env x=pure x:=by intro _;rfl) :
  PE X (.ListComp elt [⟨tg,iter,o.toList,0⟩] scope pos) (tLC cap a g tt b):=by
 intro pins s σ H Q I h;rw[eval_ListComp];exact kW (use:=none) k hi n i d j hs I h λl C r t m p q e f=>⟨m,e,λu c=>⟨.ref l,r,p.gone f c,rfl,q⟩⟩
theorem sD {X:Cx}{i:Nat}{y:Str}{elt tg iter:Expr}{o:Option Expr}{scope:Scope}{pos b py:Pos}{k:TI}{g:TG}{tt:TT}{n:TE}{N':List Str}{cap:List (Option Nat)}(L:X.N.Nodup)(j:X.N[i]?=some y)(p:X.env.scope.names.lookup y=some .local)(J:X.calm=true)(hi:PI X tg iter k)(M:CapOk X.N N' X.env.scope scope cap)(F:∀ C s₀ H₀ fp pins,PG (yW X N' scope C s₀ H₀ fp pins) tg g)(B:∀ C s₀ H₀ fp pins,PTo (yW X N' scope C s₀ H₀ fp pins) o tt)(G:∀ C s₀ H₀ fp pins,PE (yW X N' scope C s₀ H₀ fp pins) elt n)(hs:∀ x,foldedSetIterable iter X.env x=pure x:=by intro _;rfl)(d:swapsWith (.ListComp elt [⟨tg,iter,o.toList,0⟩] scope pos) (some (.Name y py)) b.line X.env=pure true:=by with_unfolding_all rfl) :
  PS X (.Assign [.Name y py] (.ListComp elt [⟨tg,iter,o.toList,0⟩] scope pos) b) (cW (tLC cap k g tt n) (xT i)):=by
 intro pins s σ H D I h;rw[exec_Assign_Name_used y py _ b d];refine J0 (Yu (J0 (J0 (thn (kW (use:=some (assign (.Name y py) X.env)) (Q0:=λ_ z=>SP X pins D .next z) J hi M F B G hs I h λl C P Q m O q E f=>?_) λ_ z A=>J9 (J9 A)))));refine wpAny_assign_Name (rH (v:=.ref l) O L j (.inl p) rfl (λt N ⟨a,r,K⟩=>?_) (.inr p))
 have u:C≠a:=by
  rcases K with z|z
  ·rw[z];exact f.2.1
  ·exact λw=>f.2.2.2.2.1 y a z w.symm
 have e:t.heap.Ns C m:=E.sameBut r u;exact⟨m,e,λR c=>⟨_,P,N.gone f c,q⟩⟩
end L2
namespace Own
open PySem PySem.Spec PyProof.Rows
section
variable {M:Model}{prog:Yo}{w:YI}{A:YO}{E:Jo->JO->Prop}{s:JO}{α:Type}{Q:α->JO->Prop}
theorem rf {a:JI}{o:Obj}{vs:Array Jo}{x:Jo}{f:Jo->Sem α}(k:Nat)(c:s.heap.get? a=some o)(hd:o.data=.fields vs)(b:vs[k]?=some x)(h:wpAny M A (f x) Q E s) :
  wpAny M A (field (.ref a) k >>= f) Q E s:=J0 (YL c hd b h)
theorem nx {T id:String}{B:Builtin}{it:JI}{P:Jo->JO->Prop}(slot:Slot T "__next__" id) (ty:s.TypeIs (.ref it) T) (en:entryFor table id=some B) (ok:argsOk id ⟨[.ref it],[]⟩)
  (h:wpAny (model prog w) A.in1 (B ⟨[.ref it],[]⟩) (λr s'=>∃ v,r=.done (.ret v)/\P v s') E s):wpAny (model prog w) A (Builtin.SmallTypes.nextOf (.ref it)) P E s:=by
 unfold Builtin.SmallTypes.nextOf;refine J0 (wpAny_callSpecial?_slot (name:="__next__") ty slot (Yj slot ty en (thn2 h) ok))
where
 thn2 {a:Sem Fin}{P:Jo->JO->Prop}{b:YO}(h:wpAny (model prog w) b a (λr s'=>∃ v,r=.done (.ret v)/\P v s') E s) :
   wpAny (model prog w) b a (λr s'=>∃ v,r=.done (.ret v)/\wpAny (model prog w) A (pure v) P E s') E s :=
  JB h (λ_ _ ⟨v,e,q⟩=>⟨v,e,J9 q⟩) λ_ _ z=>z
end
theorem ends {A:YO}{E:Jo->JO->Prop}{prog:Yo}{w:YI}{s:JO}{α:Type}{Q:α->JO->Prop}(c:A.handled=none)
  (h:∀ h' x,(∀ b o,s.heap.get? b=some o->h'.get? b=some o)->(∃ o,h'.get? x=some o/\o.cls=.type "StopIteration")->E (.ref x) { s with heap:=h' }) :
  wpAny (model prog w) A (Builtin.SmallTypes.stopIteration:Sem α) Q E s:=by
 unfold Builtin.SmallTypes.stopIteration newExc newTuple;refine J0 (J0 (JE ?_ (by size_fits)));refine J0 (wpAny_of_eq (a:=Value.none) (by rfl) (JE (wpAny_raiseNew_none c (h _ _ (λb o e=>?_) ⟨_,Jk _ rfl,rfl⟩)) (by size_fits)));exact J7 _ (J7 _ e)
def cN:Bool->String
 | true=>"list_iterator"
 | false=>"tuple_iterator"
abbrev RIt (b:Bool)(h:YP)(it a:JI)(i:Int):Prop:=h.get? it=some { cls:=.type (cN b),dict:=none,data:=.fields #[.ref a,.int i 0],slots:=#[] }
def SqO:Bool->YP->JI->Array Jo->Prop
 | true,h,a,xs=>h.IsList a xs
 | false,h,a,xs=>h.IsTuple a xs
theorem SqO.ob {b:Bool}{h:YP}{a:JI}{xs:Array Jo}(x:SqO b h a xs):∃ o n,h.get? a=some o/\o.data=.seq xs n:=by
 cases b<;>(obtain⟨o,e,_,n,d⟩:=x;exact⟨o,n,e,d⟩)
theorem SqO.mv {b:Bool}{h h':YP}{a:JI}{xs:Array Jo}(x:SqO b h a xs)(k:∀ o,h.get? a=some o->h'.get? a=some o):SqO b h' a xs:=by
 cases b<;>(obtain⟨o,e,r⟩:=x;exact⟨o,k o e,r⟩)
theorem SqO.ne {b c:Bool}{h:YP}{a it f:JI}{i:Int}{xs:Array Jo}(x:SqO b h a xs)(y:RIt c h it f i):a≠it:=λz=>by
 obtain⟨o,n,e,d⟩:=x.ob;rw[z,y]at e;cases e;cases d
section
variable {prog:Yo}{w:YI}{A:YO}{E:Jo->JO->Prop}{s:JO}
theorem ty {b:Bool}{it a:JI}{i:Int}(y:RIt b s.heap it a i):s.TypeIs (.ref it) (cN b):=⟨_,y,rfl⟩
theorem qi {b:Bool}{it a:JI}{i:Nat}{xs:Array Jo}{x:Jo}{P:Jo->JO->Prop}{B:Builtin}(m:B=match b with|true=>Builtin.«list_iterator.__next__»|false=>Builtin.«tuple_iterator.__next__»)(y:RIt b s.heap it a i)(sq:SqO b s.heap a xs)(g:xs[i]?=some x)(h:∀ h',RIt b h' it a (i+1)->Heap.SameBut it s.heap h'->P x { s with heap:=h' }) :
  wpAny (model prog w) A (B ⟨[.ref it],[]⟩) (λr f=>∃ v,r=.done (.ret v)/\P v f) E s:=by
 obtain⟨o,n,e,d⟩:=sq.ob
 have fin:wpAny (model prog w) A (match xs[(i:Int).toNat]? with
   | some x=>(do setField (.ref it) 1 (rawInt ((i:Int)+1));ret x:Sem Fin)
   | none=>Builtin.SmallTypes.stopIteration) (λr f=>∃ v,r=.done (.ret v)/\P v f) E s:=by
  rw[JZ,g];exact J0 (Y7 y (show 1<2 by decide) λh' j k=>J9 ⟨x,rfl,h h' j k⟩)
 rw[JZ,g]at fin;subst m;cases b <;>
 ·refine rf 0 y rfl rfl (PyIte (show ¬((Value.ref a == Value.none)=true) from Ji) (rf 1 y rfl rfl (J0 (Y1 e d ?_))))
  simp only[JZ,g];exact fin
where
 PyIte {c:Prop} [Decidable c] {α:Type}{a b:Sem α}{M:Model}{A:YO}{Q:α->JO->Prop}{E:Jo->JO->Prop}{s:JO}(l:¬ c) (h:wpAny M A b Q E s):wpAny M A (if c then a else b) Q E s:=by
  rw[Jg l];exact h
theorem rL {b:Bool}{it a:JI}{i:Nat}{xs:Array Jo}{Q:Fin->JO->Prop}{B:Builtin}(m:B=match b with|true=>Builtin.«list_iterator.__next__»|false=>Builtin.«tuple_iterator.__next__»)
  (j:A.handled=none) (y:RIt b s.heap it a i) (sq:SqO b s.heap a xs) (g:xs[i]?=none)
  (h:∀ h' x,(∀ c o,c≠it->s.heap.get? c=some o->h'.get? c=some o)->(∃ o,h'.get? x=some o/\o.cls=.type "StopIteration")->E (.ref x) { s with heap:=h' }) :
  wpAny (model prog w) A (B ⟨[.ref it],[]⟩) Q E s:=by
 obtain⟨o,n,e,d⟩:=sq.ob;subst m;cases b <;>
 ·refine rf 0 y rfl rfl (qi.PyIte (show ¬((Value.ref a == Value.none)=true) from Ji) (rf 1 y rfl rfl (J0 (Y1 e d ?_))))
  simp only[JZ,g];refine J0 (YF (J0 (Y7 y (show 0<2 by decide) λr _ f=>?_)));exact ends j λp x k z=>h p x (λc o l q=>k c o ((f.2 c l).trans q)) z
theorem bW {b:Bool}{it a:JI}{i:Nat}{xs:Array Jo}{x:Jo}{P:Jo->JO->Prop}(y:RIt b s.heap it a i)(sq:SqO b s.heap a xs)(c:xs[i]?=some x)(h:∀ h',RIt b h' it a (i+1)->Heap.SameBut it s.heap h'->P x { s with heap:=h' }):wpAny (model prog w) A (Builtin.SmallTypes.nextOf (.ref it)) P E s:=by
 cases b
 ·exact nx F.slot_tuple_iterator_next (ty y) F.entry_tuple_iterator_next (F.args_tuple_iterator_next_1 _) (qi (b:=false) rfl y sq c h)
 ·exact nx slot_listiter_next (ty y) entry_listiter_next (args_listiter_next _) (qi (b:=true) rfl y sq c h)
theorem jz {b:Bool}{it a:JI}{i:Nat}{xs:Array Jo}{P:Jo->JO->Prop}(e:A.handled=none) (y:RIt b s.heap it a i) (sq:SqO b s.heap a xs) (d:xs[i]?=none)
  (h:∀ h' x,(∀ c o,c≠it->s.heap.get? c=some o->h'.get? c=some o)->(∃ o,h'.get? x=some o/\o.cls=.type "StopIteration")->E (.ref x) { s with heap:=h' }) :
  wpAny (model prog w) A (Builtin.SmallTypes.nextOf (.ref it)) P E s:=by
 have inner:A.in1.handled=none:=e;cases b
 ·exact nx F.slot_tuple_iterator_next (ty y) F.entry_tuple_iterator_next (F.args_tuple_iterator_next_1 _) (rL (b:=false) rfl inner y sq d h)
 ·exact nx slot_listiter_next (ty y) entry_listiter_next (args_listiter_next _) (rL (b:=true) rfl inner y sq d h)
theorem x9 {b:Bool}{a:JI}{xs:Array Jo}{P:Jo->JO->Prop}(sq:SqO b s.heap a xs)(h:P (.ref s.heap.objs.size) { s with heap:=s.heap.push { cls:=.type (cN b),data:=.fields #[.ref a,.int 0 0] } }):wpAny (model prog w) A (pyIter (.ref a)) P E s:=by
 cases b
 ·exact wpAny_pyIter_tuple sq h
 ·exact wpAny_pyIter_list sq h
end
theorem draws {prog:Yo}{w:YI}{A:YO}(m:A.handled=none)(b:Bool)(it a:JI)(xs:Array Jo)(f:a≠it) :
  Draws prog w A it [it,a] xs.size (λi v=>xs[i]?=some v) (λi h=>RIt b h it a i/\SqO b h a xs) :=
 ⟨λ_ _ st=>⟨_,st.1⟩,λ_ _ _ st k=>⟨k it JH _ st.1,st.2.mv λo e=>k a (JJ _ JH) o e⟩,
  λi s Q E j st k=>bW st.1 st.2 (Array.getElem?_eq_getElem j) λd y g=>k _ d s.toks (Array.getElem?_eq_getElem j) ⟨y,st.2.mv λo e=>(g.2 a f).trans e⟩ g,
  λs Q E st k=>jz m st.1 st.2 (by simp) λd x l z=>k d x (λc o n q=>l c o n q) z⟩
theorem dy (b:Bool)(a:JI)(o:Obj)(xs:Array Jo) :
  Meets (Builtin.«enumerate.__new__» ⟨[.type "enumerate",.ref a],[]⟩) (λ_ R s=>s.heap.get? a=some o/\SqO b s.heap a xs /\
   R (.ok (.ret (.ref (s.heap.push { cls:=.type (cN b),data:=.fields #[.ref a,.int 0 0] }).objs.size)))
    { s with heap:=(s.heap.push { cls:=.type (cN b),data:=.fields #[.ref a,.int 0 0] }).push { cls:=.type "enumerate",data:=.fields #[.none,.bool false,.ref s.heap.objs.size,rawInt 0,.none,.none] } }) :=
 .of_wp λprog w A R s h=>by
  obtain⟨j,g,d,i,os⟩:=s;obtain⟨f,sq,h⟩:=h;have sub:=sub_enumerate;have e:SqO b (Shared.heap ⟨j,g,d,i,os⟩) a xs:=sq
  wp_walk using ZM f;refine wpAny_stack_any λst=>J9 ?_
  split
  case h_1 c _ _ _ _ _ =>
   cases (c == Value.type "enumerate")<;>(wp_walk using ZM f,x9 e;exact⟨_,rfl,h⟩)
  all_goals (wp_walk using ZM f,x9 e;exact⟨_,rfl,h⟩)
theorem iu {prog:Yo}{w:YI}{A:YO}{E:Jo->JO->Prop}{s:JO}{b:Bool}{a:JI}{xs:Array Jo}{P:Jo->JO->Prop}(sq:SqO b s.heap a xs)(h:∀ h' e it,s.heap.objs.size<=e->s.heap.objs.size<=it->e≠it->IsEnum h' e it 0 .none->RIt b h' it a 0->(∀ c o,s.heap.get? c=some o->h'.get? c=some o)->P (.ref e) { s with heap:=h' }) :
  wpAny (model prog w) A (call (.type "enumerate") [.ref a]) P E s:=by
 obtain⟨o,n,d,_⟩:=sq.ob;refine callType_new F.called_enumerate (by decide) (F.typeCall_enumerate_1 _) (F.newCall_enumerate_1 _) (λobj=>F.args_object_init_2 obj _) F.entry_enumerate_new (dy b a o xs) ⟨d,sq,⟨_,Jk _ rfl,rfl⟩,?_⟩;refine h _ _ _ ?_ (Je _) ?_ (Jk _ rfl) (J7 _ (Jk _ rfl)) λc o e=>J7 _ (J7 _ e)
 ·rw[Ys];exact Nat.le_succ _
 ·rw[Ys];exact Nat.succ_ne_self _
structure Sep (z TI TO i1 i2:JI) (f1 f2:List JI):Prop where
 all:[z,TI,TO,i1,i2].Nodup
 z1:z∉f1
 t1:TO∉f1
 o1:i2∉f1
 z2:z∉f2
 t2:TO∉f2
 o2:i1∉f2
section
variable {prog:Yo}{w:YI}{A:YO}{E:Jo->JO->Prop}{s:JO}{z TI TO i1 i2:JI}{f1 f2:List JI}{n1 n2 k:Nat}{P1 P2:Nat->Jo->Prop}{S1 S2:Nat->YP->Prop}{a b:Jo}
theorem i4 (S:Sep z TI TO i1 i2 f1 f2)(D:Draws prog w A i1 f1 n1 P1 S1)(C:Draws prog w A i2 f2 n2 P2 S2){Q:Jo->JO->Prop}(n:IsZip s.heap z TI TO .none)(hI:IsPair s.heap TI (.ref i1) (.ref i2))(hO:IsPair s.heap TO a b)(d1:S1 k s.heap)(d2:S2 k s.heap)(l1:k<n1)(l2:k<n2)(h:∀ x y h' tk,P1 k x->P2 k y->IsZip h' z TI TO (rawInt s.heap.objs.size)->IsPair h' TO x y->S1 (k+1) h'->S2 (k+1) h'->IsPair h' s.heap.objs.size x y ->
   (∀ c o,c∉[z,TO,i1,i2]->s.heap.get? c=some o->h'.get? c=some o)->Q (.ref s.heap.objs.size) { s with heap:=h',toks:=tk }) :
  wpAny (model prog w) A (Builtin.«zip.__next__» ⟨[.ref z],[]⟩) (λr Y=>∃ v,r=.done (.ret v)/\Q v Y) E s:=by
 have L:=S.all;simp only[JD,Jp,Jm,Zk,not_or]at L;obtain⟨⟨zI,u,W,V⟩,⟨IO,I1,I2⟩,⟨O1,O2⟩,ab,_⟩:=L;refine rf 2 n rfl rfl (rf 3 n rfl rfl (J0 (Y1 hI rfl (J0 (rf 0 n rfl rfl (J9 ?_))))));simp only[YZ];refine J0 (YF (rf 4 n rfl rfl (J0 (Y7 n (show 0<5 by decide) λha U m=>J0 ?_))));have F:IsZip ha z TI TO .ellipsis:=U;simp only[List.zipIdx_cons,List.zipIdx_nil,YH,Zm];refine J0 (J0 (wpAny_onRaise (J0 (D.item k _ _ _ l1 (D.frame _ _ _ d1 λc g o e=>(m.2 c λq=>S.z1 (q ▸ g)).trans e) λx hb tb Z db l=>J9 ?_))));have P:IsPair hb TO a b:=(l.2 TO O1).trans ((m.2 TO (Ne.symm u)).trans hO);refine J0 (Y1 P rfl (J0 (wpAny_updateSeq_pair P λg Oc sc=>J0 (YM (J9 ?_)))));have H:IsPair g TO x b:=Oc;have G:S2 k g:=C.frame _ _ _ d2 λc d o e=>(sc.2 c λq=>S.t2 (q ▸ d)).trans ((l.2 c λq=>S.o2 (q ▸ d)).trans ((m.2 c λq=>S.z2 (q ▸ d)).trans e));refine J0 (J0 (wpAny_onRaise (J0 (C.item k _ _ _ l2 G λy hd X py dd j=>J9 ?_))));have O:IsPair hd TO x b:=(j.2 TO O2).trans H;refine J0 (Y1 O rfl (J0 (wpAny_updateSeq_pair O λf Oe i=>J0 (YM (J9 (J9 ?_))))));have t:IsPair f TO x y:=Oe;refine J0 (Y1 t rfl (J0 (wpAny_newTuple (J0 ?_))));have sz:f.objs.size=s.heap.objs.size:=by rw[i.1,j.1,sc.1,l.1,m.1]
 have I:IsZip f z TI TO .ellipsis:=(i.2 z u).trans ((j.2 z V).trans ((sc.2 z u).trans ((l.2 z W).trans F)));have zn:f.objs.size≠z:=YK (Jh I);unfold Builtin.SmallTypes.ownedTupleHandOut;refine J0 (Y7 (J7 _ I) (show 0<5 by decide) λhf T K=>Y7 T (show 1<5 by decide) λB R J=>J9 ⟨_,rfl,?_⟩);have up:∀ c o,c≠z->f.get? c=some o->B.get? c=some o:=λc o q e=>(J.2 c q).trans ((K.2 c q).trans (J7 _ e));have new:IsPair B f.objs.size x y:=(J.2 _ zn).trans ((K.2 _ zn).trans (Jk _ rfl));have p:IsZip B z TI TO (rawInt f.objs.size):=R;rw[sz]at new p;show Q (.ref f.objs.size) _;rw[sz];refine h x y B X Z py p (up _ _ (Ne.symm u) t) ?_ ?_ new λc o g e=>?_
 ·exact D.frame _ _ _ db λc d o e=>up c o (λq=>S.z1 (q ▸ d)) ((i.2 c λq=>S.t1 (q ▸ d)).trans ((j.2 c λq=>S.o1 (q ▸ d)).trans ((sc.2 c λq=>S.t1 (q ▸ d)).trans e)))
 ·exact C.frame _ _ _ dd λc d o e=>up c o (λq=>S.z2 (q ▸ d)) ((i.2 c λq=>S.t2 (q ▸ d)).trans e)
 ·simp only[Jp,Jm,Zk,not_or]at g
  obtain⟨N,M,c3,c4⟩:=g;exact up c o N ((i.2 c M).trans ((j.2 c c4).trans ((sc.2 c M).trans ((l.2 c c3).trans ((m.2 c N).trans e)))))
end
section
variable {prog:Yo}{w:YI}{A:YO}{E:Jo->JO->Prop}{s:JO}{z TI TO i1 i2:JI}{f1 f2:List JI}{n1:Nat}{P1:Nat->Jo->Prop}{S1:Nat->YP->Prop}
theorem i3 (S:Sep z TI TO i1 i2 f1 f2) (m:Draws prog w A i1 f1 n1 P1 S1) {Q:Fin->JO->Prop}(a:IsZip s.heap z TI TO .none) (v:IsPair s.heap TI (.ref i1) (.ref i2)) (y:S1 n1 s.heap)
  (h:∀ h' x,(∀ c o,c∉[z,TO,i1,i2]->s.heap.get? c=some o->h'.get? c=some o)->(∃ o,h'.get? x=some o/\o.cls=.type "StopIteration")->E (.ref x) { s with heap:=h' }):wpAny (model prog w) A (Builtin.«zip.__next__» ⟨[.ref z],[]⟩) Q E s:=by
 have j:=S.all;simp only[JD,Jp,Jm,Zk,not_or]at j;obtain⟨⟨D,C,p,F⟩,⟨IO,J,I⟩,⟨H,G⟩,B,_⟩:=j;refine rf 2 a rfl rfl (rf 3 a rfl rfl (J0 (Y1 v rfl (J0 (rf 0 a rfl rfl (J9 ?_))))));simp only[YZ];refine J0 (YF (rf 4 a rfl rfl (J0 (Y7 a (show 0<5 by decide) λu n i=>J0 ?_))));have f:IsZip u z TI TO .ellipsis:=n;simp only[List.zipIdx_cons,List.zipIdx_nil,YH,Zm];refine J0 (J0 (wpAny_onRaise (J0 (m.done _ _ _ (m.frame _ _ _ y λc d o e=>(i.2 c λq=>S.z1 (q ▸ d)).trans e) λt x k ⟨r,ex,l⟩=>?_))));have g:IsZip t z TI TO .ellipsis:=k z _ p f;have xz:x≠z:=λq=>by rw[q,g]at ex;cases ex;exact absurd (show Value.type "zip" = Value.type "StopIteration" from l) (by decide)
 refine Y7 g (show 0<5 by decide) λd _ sc=>h d x (λc o b e=>?_) ⟨r,(sc.2 x xz).trans ex,l⟩;simp only[Jp,Jm,Zk,not_or]at b;exact(sc.2 c b.1).trans (k c o b.2.2.1 ((i.2 c b.1).trans e))
end
theorem cI (b1 b2:Bool)(a1 a2:JI)(xs ys:Array Jo):Meets (Builtin.«zip.__new__» ⟨[.type "zip",.ref a1,.ref a2],[]⟩) (λ_ R s=>SqO b1 s.heap a1 xs/\SqO b2 s.heap a2 ys /\
  ∀ h' z,(∃ TI TO i1 i2,[z,TI,TO,i1,i2].Nodup/\(∀ c∈[z,TI,TO,i1,i2],s.heap.objs.size<=c)/\IsZip h' z TI TO .none/\IsPair h' TI (.ref i1) (.ref i2)/\IsPair h' TO .none .none/\RIt b1 h' i1 a1 0/\RIt b2 h' i2 a2 0) ->
   (∀ c o,s.heap.get? c=some o->h'.get? c=some o)->R (.ok (.ret (.ref z))) { s with heap:=h' }) :=
 .of_wp λprog w A R s h=>by
  obtain⟨a,g,d,b,os⟩:=s;obtain⟨k,j,h⟩:=h;have sub:=sub_zip;have i:SqO b1 (Shared.heap ⟨a,g,d,b,os⟩) a1 xs:=k;have f:SqO b2 (Shared.heap ⟨a.push { cls:=.type (cN b1),data:=.fields #[.ref a1,.int 0 0] },g,d,b,os⟩) a2 ys:=j.mv λo e=>J7 _ e
  wp_walk using x9 i,x9 f
  refine⟨_,rfl,h _ _ ⟨_,_,_,_,?_,?_,Jk _ rfl,J7 _ (J7 _ (Jk _ rfl)),J7 _ (Jk _ rfl),
   J7 _ (J7 _ (J7 _ (J7 _ (Jk _ rfl)))),J7 _ (J7 _ (J7 _ (Jk _ rfl)))⟩ λc o e=>?_⟩
  ·simp only[Ys,JD,Jp,Jm,Zk,not_or]
   simp<;>lia
  ·simp only[Ys,Jp,Jm,Zk]
   intro c l;have:a.objs.size<=c:=by lia
   exact this
  ·exact J7 _ (J7 _ (J7 _ (J7 _ (J7 _ e))))
end Own
namespace L2
open PySem PySem.Spec PyProof.Rows Own
section
variable {X:Cx}{pins:List (JI × Obj)}{σ:St}{H:Hp}{s:JO}{h':YP}
theorem Inv.spunN {fp:List JI}{T:JI}{o:HO}{t':Nat}(I:Inv X pins σ H s)(k:∀ b o,b∉fp->s.heap.get? b=some o->h'.get? b=some o)(h:∀ b∈fp,FpOk X pins H b)(i:s.heap.objs.size<=T)(new:ObjOk X.prog X.w (upd H T o) h' T o):Inv X pins σ (upd H T o) { s with heap:=h',toks:=t' }:=by
 have f:H T=none:=I.hok.fresh i;have neT:∀ b u,s.heap.get? b=some u->b≠T:=λb u e=>Jx (Jz (Jh e) i);have g:∀ b u,H b=some u->b∉fp:=λb u e a=>by rw[(h b a).1]at e;cases e
 refine I.step (g':=s.gens) (d':=s.drawn) (ch:=fp) (λb a=>?_) (λb o _ _ d e _=>k b o d e) (λb o _ _ d e _=>⟨o.slots,k b o d e⟩) (λb o _ e n=>by rw[zK (neT b o e)];exact n)
  (λb o d e=>⟨o,k b o d e⟩) (λb j e=>by rw[zK (zJ e f)];exact e) (λb o u e=>by rw[zK (zJ e f)];exact e) (λb C e=>⟨#[],by rw[zK (zJ e f),e];simp⟩) (λm p=>?_) (λb u e=>?_) I.bare
 ·obtain⟨E,y,D,x,w,t⟩:=h b a
  exact⟨x,y,w,t⟩
 ·obtain⟨o,A,B,l,r⟩:=p
  exact⟨o,A,B,k _ o (λa=>(h _ a).2.1 rfl) l,r⟩
 ·by_cases a:b=T
  ·subst a;rw[zH]at e;cases e;exact new
  ·rw[zK a]at e
   refine(I.hok b u e).stay (λc v d q=>k c v ?_ q) (λc q=>by rw[zK (zJ q f)];exact q) λc j q=>by rw[zK (zJ q f)];exact q
   rcases d with z|z
   ·rw[z];exact g b u e
   ·exact g c _ z
theorem Inv.spun {fp:List JI}{t':Nat}(I:Inv X pins σ H s)(k:∀ b o,b∉fp->s.heap.get? b=some o->h'.get? b=some o)(g:∀ b∈fp,FpOk X pins H b):Inv X pins σ H { s with heap:=h',toks:=t' }:=by
 have f:∀ b u,H b=some u->b∉fp:=λb u e d=>by rw[(g b d).1]at e;cases e
 refine I.step (g':=s.gens) (d':=s.drawn) (ch:=fp) (λb d=>?_) (λb o _ _ a e _=>k b o a e) (λb o _ _ a e _=>⟨o.slots,k b o a e⟩) (λb o _ e n=>n)
  (λb o a e=>⟨o,k b o a e⟩) (λb h e=>e) (λb o u e=>e) (λb A e=>⟨#[],by rw[e];simp⟩) (λm j=>?_) (λb u e=>?_) I.bare
 ·obtain⟨C,w,B,t,p,l⟩:=g b d
  exact⟨t,w,p,l⟩
 ·obtain⟨o,x,y,i,r⟩:=j
  exact⟨o,x,y,k _ o (λd=>(g _ d).2.1 rfl) i,r⟩
 ·refine(I.hok b u e).stay (λc v a q=>k c v ?_ q) (λc q=>q) λc h q=>q
  rcases a with z|z
  ·rw[z];exact f b u e
  ·exact f c _ z
end
def SqB:Bool->Jl->Hp->JI->List V->Prop
 | true,K,H,a,xs=>SqL K H a xs
 | false,K,H,a,xs=>SqT K H a xs
section
variable {X:Cx}{pins:List (JI × Obj)}{σ:St}{H:Hp}{s:JO}{a c:JI}{xs ys:List V}{b:Bool}
theorem Inv.sq (I:Inv X pins σ H s)(h:SqB b X.K H a xs):∃ its:List Jo,Vals xs its/\SqO b s.heap a its.toArray:=by
 cases b
 ·obtain⟨its,r,p,z⟩:=I.tuple h
  exact⟨its,r,p⟩
 ·obtain⟨its,r,p,z⟩:=I.list h
  exact⟨its,r,p.isList⟩
theorem Inv.sq_inj (I:Inv X pins σ H s)(h:SqB b X.K H a xs)(h':SqB b X.K H a ys):xs=ys:=by
 cases b
 ·exact I.tuple_inj h h'
 ·exact I.list_inj h h'
theorem Inv.sq_ne (I:Inv X pins σ H s)(h:SqB b X.K H a xs)(f:FpOk X pins H c):c≠a:=by
 rintro rfl
 have d:∀ o,X.K.lookup c=some o->False:=λo e=>by
  have g:=I.ok.mod.kin c o e;rcases f.2.2.2.1 with z|z
  ·exact I.ok.noex c o g z
  ·exact absurd (Jz (Jh g) (JQ I.ok.bsz z)) (Ye _)
 cases b <;>
 ·rcases h with (h|⟨o,h⟩)|⟨o,_,_,e,_⟩
  ·rw[f.1]at h;cases h
  ·rw[f.1]at h;cases h
  ·exact d o e
end
def Pr (v u:V)(H:Hp)(x:V)(H':Hp):Prop:=∃ T,H T=none/\x=.ref T/\H'=upd H T (.tup [v,u])
theorem qr {P:Yo}{w:YI}{H:Hp}{h:YP}{T:JI}{v u:V}{a b:Jo}(e:IsPair h T a b)(c:RelV v a)(d:RelV u b):ObjOk P w (upd H T (.tup [v,u])) h T (.tup [v,u]) :=
 ⟨show 2<=sizeLine by decide,[a,b],.cons c (.cons d .nil),⟨_,e,rfl,_,rfl,rfl⟩⟩
def Ite (K:Jl)(b:Bool)(a:JI):It :=
 ⟨λi H=>∃ c x,SqB b K H a c/\c[i]?=some x,λi H x d=>∃ y,(∀ c,SqB b K H a c->c[i]?=some y)/\Pr (.int i) y H x d,λi H=>∃ c,SqB b K H a c/\c.length=i⟩
theorem jH {P:Yo}{w:YI}{K:Jl}{es:List Expr}{k1}{S:Pos}(b:Bool)(a e it:JI)(k:e≠it):Turn P w K (.Tuple es k1 S) (Ite K b a) [e,it] e (λi h=>(∃ old,IsEnum h e it i old)/\RIt b h it a i) where
 mem:=JH
 obj:=λi h ⟨⟨old,g⟩,f⟩ c n=>by
  rcases Jp.mp n with q|q
  ·rw[q];exact⟨_,g,λv z=>by cases z⟩
  ·rw[Ja.mp q];exact⟨_,f,λv z=>by cases z⟩
 keep:=λi h h' ⟨⟨old,g⟩,f⟩ L=>⟨⟨old,L e (by simp) _ g⟩,L it (by simp) _ f⟩
 item:=by
  intro X C B D n i pins s σ H E I m ⟨⟨old,g⟩,f⟩ ⟨O,x,l,r⟩;subst C B D;obtain⟨d,y,p⟩:=I.sq l;obtain⟨u,M,R⟩:=y.get r;have F:i<d.toArray.size:=by simpa using (Jd.mp M).1
  refine wpAny_pyNext_enum_itemD (draws (prog:=X.prog) (w:=X.w) (A:=X.A.in1) (I.ok.hd n) b it a d.toArray (p.ne f)) g ⟨f,p⟩ F k (by simp[k,I.sq_ne l (m e (by simp))]) λv h1 Q W Z Y hT _ hk=>?_;obtain rfl:u=v:=Jj (M.symm.trans (by simpa using W));refine⟨_,rfl,wpAny_letOwnedTupleGo_enum Z λh2 G t=>?_⟩;have J:s.heap.objs.size≠e:=YK (Jh g);have T:s.heap.objs.size≠it:=YK (Jh f);refine⟨.ref s.heap.objs.size,_,I.spunN (fp:=[e,it]) (λc o j q=>?_) m (Je _) (qr (v:=.int i) (u:=x) ((t.2 _ J).trans hT) ⟨Q,rfl⟩ R),rfl,⟨x,λys V=>by rw[I.sq_inj V l];exact r,_,I.fresh,rfl,rfl⟩,⟨⟨_,G⟩,(t.2 it (Ne.symm k)).trans Y.1⟩,λc j=>?_⟩
  ·have N:c≠e:=λz=>j (by simp[z])
   exact(t.2 c N).trans (hk c o N (λz=>j (by simp[z])) q)
  ·rw[zK,(m c j).1]
   rintro rfl;rcases Jp.mp j with z|z
   ·exact J z
   ·exact T (Ja.mp z)
 done:=by
  intro X C B D n i pins s σ H E I m ⟨⟨old,g⟩,f⟩ ⟨O,l,r⟩;subst C B D;obtain⟨d,y,p⟩:=I.sq l;have U:i=d.toArray.size:=by rw[Jf,<- y.length,r]
  refine wpAny_pyNext_enum_endD (draws (prog:=X.prog) (w:=X.w) (A:=X.A.in1) (I.ok.hd n) b it a d.toArray (p.ne f)) g ⟨by rw[<- U];exact f,p⟩ λh' eb=>⟨rfl,I.spun (t':=s.toks) (fp:=[e,it]) (λc o j q=>eb c o (λz=>j (by simp[z])) q) m⟩
 self:=λ_ _ _ _ _ ⟨⟨_,g⟩,_⟩ h=>wpAny_pyIter_enum g h
def zbs (K:Jl)(b:Bool)(f:TA):TI:=λσ H R=>f σ H λe c=>∃ a d,e=[.ref a]/\SqB b K c a d/\R (Ite K b a) c
theorem kA {X:Cx}{a:Expr}{g:TA}{p pos o:Pos}{C:List Expr}{k1} (b:Bool) (A:Gl X "enumerate") (w:X.mg "enumerate" = none) (ha:PA X [a] g) (hs:starEach [a] X.env=[(false,eval a X.env)]:=by rfl) :
  PI X (.Tuple C k1 o) (.Call (.Name "enumerate" p) [a] [] pos) (zbs X.K b g):=by
 intro pins s σ H R I h;refine Call_ (xv I A w (u:=.type "enumerate") (by rfl) (Y3 (thn (ha pos pins s σ H _ I h) λK i ⟨J,E,f,l,m⟩=>?_) hs rfl));obtain⟨D,G,rfl,v,q⟩:=m;obtain⟨u,rfl,k⟩:=l.one;cases k;obtain⟨F,L,n⟩:=f.sq v;refine iu n λM e it t r ne j y x=>wpAny_pyIter_enum j ⟨_,[e,it],_,_,E,rfl,f.kept (t':=i.toks) x,jH b D e it ne,⟨⟨_,j⟩,y⟩,λc B=>?_,q⟩
 have d:i.heap.objs.size<=c:=by
  rcases Jp.mp B with z|z
  ·rw[z];exact t
  ·rw[Ja.mp z];exact r
 exact f.fpOk d (f.hok.fresh d)
def Itz (K:Jl)(b1 b2:Bool)(a1 a2:JI):It :=
 ⟨λi H=>∃ a b x y,SqB b1 K H a1 a/\SqB b2 K H a2 b/\a[i]?=some x/\b[i]?=some y,λi H v c=>∃ x y,(∀ a,SqB b1 K H a1 a->a[i]?=some x)/\(∀ b,SqB b2 K H a2 b->b[i]?=some y)/\Pr x y H v c,
  λi H=>∃ a,SqB b1 K H a1 a/\a.length=i⟩
theorem i8 {P:Yo}{w:YI}{K:Jl}{es:List Expr}{k1}{r:Pos}(b1 b2:Bool)(a1 a2 z TI TO i1 i2:JI)(nd:[z,TI,TO,i1,i2].Nodup) :
  Turn P w K (.Tuple es k1 r) (Itz K b1 b2 a1 a2) [z,TI,TO,i1,i2] z (λi h=>IsZip h z TI TO .none/\IsPair h TI (.ref i1) (.ref i2)/\(∃ a b,IsPair h TO a b)/\RIt b1 h i1 a1 i/\RIt b2 h i2 a2 i) where
 mem:=JH
 obj:=λi h ⟨f,n,⟨a,b,u⟩,m,p⟩ c G=>by
  simp only[Jp,Jm,Zk]at G;rcases G with rfl|rfl|rfl|rfl|rfl
  ·exact⟨_,f,λv q=>by cases q⟩
  ·exact⟨_,n,λv q=>by cases q⟩
  ·exact⟨_,u,λv q=>by cases q⟩
  ·exact⟨_,m,λv q=>by cases q⟩
  ·exact⟨_,p,λv q=>by cases q⟩
 keep:=λi h h' ⟨f,n,⟨a,b,u⟩,m,p⟩ J=>⟨J z (by simp) _ f,J TI (by simp) _ n,⟨a,b,J TO (by simp) _ u⟩,J i1 (by simp) _ m,J i2 (by simp) _ p⟩
 item:=by
  intro X Z W hK G i pins s σ H E I t ⟨f,n,⟨a,b,u⟩,m,p⟩ ⟨xs,ys,x,y,D,V,O,hy⟩;subst Z W hK;obtain⟨N,U,r⟩:=I.sq D;obtain⟨u2,r2,p2⟩:=I.sq V;obtain⟨v1,e1,rx⟩:=U.get O;obtain⟨v2,e2,ry⟩:=r2.get hy;have j:=nd;simp only[JD,Jp,Jm,Zk,not_or]at j;obtain⟨⟨R,zO,M,L⟩,⟨IO,I1,I2⟩,⟨O1,O2⟩,k,_⟩:=j;have e:∀ c∈[z,TI,TO,i1,i2],c≠a1:=λc d=>I.sq_ne D (t c d);have B:∀ c∈[z,TI,TO,i1,i2],c≠a2:=λc d=>I.sq_ne V (t c d);have S:Sep z TI TO i1 i2 [i1,a1] [i2,a2]:=⟨nd,by simp[M,e z (by simp)],by simp[O1,e TO (by simp)],by simp[Ne.symm k,e i2 (by simp)],by simp[L,B z (by simp)],by simp[O2,B TO (by simp)],by simp[k,B i1 (by simp)]⟩;have hd:=I.ok.hd G;have D1:=draws (prog:=X.prog) (w:=X.w) (A:=X.A.in1) hd b1 i1 a1 N.toArray (r.ne m);have D2:=draws (prog:=X.prog) (w:=X.w) (A:=X.A.in1) hd b2 i2 a2 u2.toArray (p2.ne p);have g:s.TypeIs (.ref z) "zip":=⟨_,f,rfl⟩;unfold pyNext
  refine J0 (wpAny_attempt (wpAny_callSpecial?_slot (name:="__next__") g F.slot_zip_next (Yj F.slot_zip_next g F.entry_zip_next (i4 S D1 D2 f n u ⟨m,r⟩ ⟨p,p2⟩ (by simpa using (Jd.mp e1).1) (by simpa using (Jd.mp e2).1)
   λw1 w2 h' tk aE ab zh Oh d1 d2 new Q=>J9 ?_) (F.args_zip_next_1 _))))
  obtain rfl:v1=w1:=Jj (e1.symm.trans (by simpa using aE));obtain rfl:v2=w2:=Jj (e2.symm.trans (by simpa using ab));refine⟨_,rfl,wpAny_letOwnedTupleGo_zip zh λh3 z3 C=>?_⟩;have nz:s.heap.objs.size≠z:=YK (Jh f)
  have a0:∀ c∈[z,TI,TO,i1,i2],c≠s.heap.objs.size:=λc d=>by
   simp only[Jp,Zk,Jm]at d;rcases d with rfl|rfl|rfl|rfl|rfl
   ·exact Jx (Jh f)
   ·exact Jx (Jh n)
   ·exact Jx (Jh u)
   ·exact Jx (Jh m)
   ·exact Jx (Jh p)
  refine⟨.ref s.heap.objs.size,_,I.spunN (fp:=[z,TI,TO,i1,i2]) (λc o d q=>?_) t (Je _) (qr ((C.2 _ nz).trans new) rx ry),rfl,⟨x,y,λl Y=>by rw[I.sq_inj Y D];exact O,λl Y=>by rw[I.sq_inj Y V];exact hy,_,I.fresh,rfl,rfl⟩,
   ⟨z3,(C.2 _ (Ne.symm R)).trans (Q TI _ (by simp[Ne.symm R,IO,I1,I2]) n),⟨_,_,(C.2 _ (Ne.symm zO)).trans Oh⟩,(C.2 _ (Ne.symm M)).trans d1.1,(C.2 _ (Ne.symm L)).trans d2.1⟩,λc d=>by rw[zK (a0 c d),(t c d).1]⟩
  simp only[Jp,Jm,Zk,not_or]at d;exact(C.2 c d.1).trans (Q c o (by simp[d]) q)
 done:=by
  intro X Z W hK G i pins s σ H E I t ⟨f,n,⟨a,b,u⟩,m,p⟩ ⟨xs,D,O⟩;subst Z W hK;obtain⟨N,U,r⟩:=I.sq D;have j:=nd;simp only[JD,Jp,Jm,Zk,not_or]at j;obtain⟨⟨R,zO,M,L⟩,⟨IO,I1,I2⟩,⟨O1,O2⟩,k,_⟩:=j;have e:∀ c∈[z,TI,TO,i1,i2],c≠a1:=λc d=>I.sq_ne D (t c d);have S:Sep z TI TO i1 i2 [i1,a1] [i2]:=⟨nd,by simp[M,e z (by simp)],by simp[O1,e TO (by simp)],by simp[Ne.symm k,e i2 (by simp)],by simp[L],by simp[O2],by simp[k]⟩;have aT:i=N.toArray.size:=by rw[Jf,<- U.length,O]
  have g:s.TypeIs (.ref z) "zip":=⟨_,f,rfl⟩;unfold pyNext
  refine J0 (wpAny_attempt (wpAny_callSpecial?_slot (name:="__next__") g F.slot_zip_next (Yj F.slot_zip_next g F.entry_zip_next
   (i3 S (draws (prog:=X.prog) (w:=X.w) (A:=X.A.in1) (I.ok.hd G) b1 i1 a1 N.toArray (r.ne m)) f n ⟨by rw[<- aT];exact m,r⟩ λh' x Q ⟨o,eo,co⟩=>?_) (F.args_zip_next_1 _))))
  refine J0 (wpAny_isInstance (T:="StopIteration") (b:=true) ⟨o,eo,co⟩ isSubtype_stop (J9 ⟨rfl,I.spun (t':=s.toks) (fp:=[z,TI,TO,i1,i2]) (λc o d q=>Q c o ?_ q) t⟩));simp only[Jp,Jm,Zk,not_or]at d ⊢;exact⟨d.1,d.2.2.1,d.2.2.2.1,d.2.2.2.2⟩
 self:=λ_ _ _ _ _ st h=>wpAny_pyIter_zip st.1 h
def zbZ (K:Jl)(b1 b2:Bool)(g:TA):TI:=λσ H R=>g σ H λf c=>∃ b a e d,f=[.ref b,.ref a]/\SqB b1 K c b e/\SqB b2 K c a d/\R (Itz K b1 b2 b a) c
theorem fW {X:Cx}{a b:Expr}{o:TA}{p pos G:Pos}{S:List Expr}{k1} (b1 b2:Bool) (M:Gl X "zip") (K:X.mg "zip" = none) (ha:PA X [a,b] o) (hs:starEach [a,b] X.env=[(false,eval a X.env),(false,eval b X.env)]:=by rfl) (e:starEach [b] X.env=[(false,eval b X.env)]:=by rfl) :
  PI X (.Tuple S k1 G) (.Call (.Name "zip" p) [a,b] [] pos) (zbZ X.K b1 b2 o):=by
 intro pins s σ H R I h;refine Call_ (xv I M K (u:=.type "zip") (by rfl) (Y3 (thn (ha pos pins s σ H _ I h) λY A ⟨W,T,d,D,E⟩=>?_) (by rw[hs,e]) (by rw[e];rfl)));obtain⟨y,x,V,U,rfl,n,m,q⟩:=E;obtain⟨u,v,rfl,C,B⟩:=D.two;cases C;cases B;obtain⟨l,_,j⟩:=d.sq n;obtain⟨k,_,i⟩:=d.sq m;refine callType_new F.called_zip (by decide) (F.typeCall_zip_2 _ _) (F.newCall_zip_2 _ _) (λobj=>F.args_object_init_3 obj _ _) F.entry_zip_new (cI b1 b2 y x l.toArray k.toArray) ⟨j,i,λZ z ⟨TI,TO,t,r,J,f,g,O,N,Q,P⟩ L=>⟨⟨_,g,rfl⟩,?_⟩⟩;exact wpAny_pyIter_zip g ⟨_,[z,TI,TO,t,r],_,_,T,rfl,d.kept (t':=A.toks) L,i8 b1 b2 y x z TI TO t r J,⟨g,O,⟨_,_,N⟩,Q,P⟩,λc w=>d.fpOk (f c w) (d.hok.fresh (f c w)),q⟩
section
theorem lW {prog:Yo}{w:YI}{A:YO}(d:A.handled=none)(b:Bool)(I a:JI)(c:a≠I)(xs:Array Jo) :
  Walks prog w A I [I,a] [I] xs.size (λi v=>xs[i]?=some v) (λi h=>(match b with|true=>h.IsListIter I a i|false=>h.IsTupleIter I a i)/\SqO b h a xs):=by
 cases b
 ·exact Walks.tuple d I a c xs
 ·exact Walks.list d I a c xs
end
example (K:Jl):PySem.W.kitOne K (.type "int") (.type "tuple")=some false:=by rfl
example (K:Jl):PySem.W.kitOne K (.type "int") (.type "bool")=some false:=by first|rfl|decide|(with_unfolding_all rfl)
theorem zD {H:Hp}{p:JI}(h:H p=none)(o:HO):Same H (upd H p o):=λb u q=>by rw[zK (zJ q h)];exact q
def zbu (N N':List Str)(sc scope:Scope)(cap:List (Option Nat)):Bool :=
 decide (scope.kind=.function) && (scope.names.all λy=>decide (y.2≠.cell) && (decide (y.2≠.local) || decide (scope.names.lookup y.1=some .local)) &&
  (decide (y.2≠.free) || (decide (sc.names.lookup y.1=some .cell) || decide (sc.names.lookup y.1=some .free)))) && decide (cap.length=N'.length) &&
 ((N'.zip cap).all λp=>match p.2 with
  | none=>true
  | some i=>decide (N[i]?=some p.1) && (decide (scope.names.lookup p.1=some .free) && (decide (sc.names.lookup p.1=some .cell) || decide (sc.names.lookup p.1=some .free))))
theorem CapOk.of {N N':List Str}{sc scope:Scope}{cap:List (Option Nat)}(h:zbu N N' sc scope cap=true):CapOk N N' sc scope cap:=by
 unfold zbu at h;simp only[Yk,YV,ZA,decide_eq_true_eq]at h;obtain⟨⟨⟨g,b⟩,f⟩,d⟩:=h;refine⟨g,λy a=>(b y a).1.1,λy a e=>?_,λy a e=>?_,f,λp c i e=>?_⟩
 ·rcases (b y a).1.2 with z|z
  ·exact absurd e z
  ·exact z
 ·rcases (b y a).2 with z|z
  ·exact absurd e z
  ·exact z
 ·have q:=d p c
  rw[e]at q;simp only[Yk,ZA,decide_eq_true_eq]at q;exact q
def Nx (n i:Nat)(p:Prop):Prop:=∃ a,a<n-i/\a=n-(i+1)/\i+1<=n/\p
theorem nx {n i:Nat}{p:Prop}(h:i<n)(q:p):Nx n i p:=⟨n-(i+1),by lia,rfl,h,q⟩
theorem ow {lo:Int}{n:Nat}{g:TG}{d:TE}{l:JI}{σ:St}{H:Hp}{Q:VK}(a:Nat->List V->St->Hp->Prop)(j:a 0 [] σ H)(h:∀ i acc σ H,a i acc σ H->H l=some (.lst acc))(hs:∀ i acc σ H,i<n->a i acc σ H->g (.int (lo+i)) σ H λb k=>d b k λy f=>f l=some (.lst acc)/\acc.length<sizeLine/\Nx n i (a (i+1) (acc++[y]) b (upd f l (.lst (acc++[y])))))(hd:∀ acc σ H,a n acc σ H->Q (.ref l) H):∃ W:Nat->Nat->List V->St->Hp->Prop,(∃ m,W 0 m [] σ H)/\LCW (Itr lo n) g gD d l Q W:=by
 refine⟨λi m acc σ H=>m=n-i/\i<=n/\a i acc σ H,⟨n,by simp,JM _,j⟩,?_⟩;rintro i m acc σ H ⟨rfl,o,p⟩;refine⟨h i acc σ H p,?_⟩;by_cases c:i<n
 ·refine .inr ⟨c,λx q ⟨e,y⟩=>?_⟩
  subst e y;exact hs i acc σ _ c p
 ·have e:i=n:=by lia
  subst e;exact .inl ⟨Je _,hd acc σ H p⟩
theorem dn {K:Jl}{b:Bool}{a:JI}{xs:List V}{g:TG}{l:TS}{D:Ends}{σ:St}{H:Hp}(c:Nat->St->Hp->Prop)(v:c 0 σ H)(r:∀ i σ H,i<=xs.length->c i σ H->SqB b K H a xs)(hs:∀ i x σ H T,xs[i]?=some x->H T=none->c i σ H->g (.ref T) σ (upd H T (.tup [.int i,x])) λf k=>l { D with nx:=c (i+1),ct:=c (i+1),bk:=D.nx } f k)(t:∀ σ H,c xs.length σ H->D.nx σ H) :
  ∃ W:Nat->Nat->St->Hp->Prop,(∃ m,W 0 m σ H)/\∀ i m σ H,W i m σ H ->
   ((Ite K b a).stop i H/\D.nx σ H)\/((Ite K b a).go i H/\∃ N:St->Hp->Prop,(∀ h d,N h d->∃ n,n<m/\W (i+1) n h d)/\∀ x d,(Ite K b a).yld i H x d->g x σ d λf k=>l { D with nx:=N,ct:=N,bk:=D.nx } f k):=by
 refine⟨λi m σ H=>m=xs.length-i/\i<=xs.length/\c i σ H,⟨xs.length,by simp,JM _,v⟩,?_⟩;rintro i m σ H ⟨rfl,s,p⟩;have q:=r i σ H s p;by_cases j:i<xs.length
 ·refine .inr ⟨⟨xs,xs[i],q,J2 j⟩,c (i+1),λh d o=>⟨xs.length-(i+1),by lia,rfl,j,o⟩,λx d ⟨y,w,T,u,z,e2⟩=>?_⟩
  subst z e2;exact hs i y σ H T (w xs q) u p
 ·have e:i=xs.length:=by lia
  subst e;exact .inl ⟨⟨xs,q,rfl⟩,t σ H p⟩
section
variable {X:Cx}
theorem num_at {ns:List Int}{its:List Jo}(r:Vals (ns.map V.int) its){i:Nat}{v:Jo}(h:its[i]?=some v):i<ns.length/\∃ t,v=.int (ns.getD i 0) t:=by
 have c:its.length=ns.length:=by rw[<- r.length,Jc]
 have d:=(Jd.mp h).1
 have e:(List.map V.int ns)[i]?=some (V.int (ns.getD i 0)):=by
  rw[JF,J8,J2 (by simp_all)];rfl
 obtain⟨b,a,⟨t,rfl⟩⟩:=r.get e;rw[h]at a;exact⟨by simp_all,t,Jj a⟩
theorem x3 {ns:List Int}{i:Nat}(h:i<ns.length):ns.getD i 0∈ns:=by
 rw[J8,J2 h];exact JA h
theorem sJ {ns:List Int}{x:Int}(h:x∈ns):∃ i,i<ns.length/\ns.getD i 0=x:=by
 obtain⟨i,a,e⟩:=List.getElem_of_mem h;exact⟨i,a,by rw[J8,J2 a];exact e⟩
theorem vK (F:X.calm=true)(b:Bool):CallR X (.builtin "max") (λvs H Q=>∃ a ns,vs=[.ref a]/\SqB b X.K H a (List.map V.int ns)/\0<ns.length/\∀ M,M∈ns->(∀ x∈ns,x<=M)->Q (.int M) H):=by
 intro pins s σ H vs L Q I m h;obtain⟨a,ns,rfl,B,k,q⟩:=h;obtain⟨u,rfl,w⟩:=m.one;cases w;obtain⟨d,r,p⟩:=I.sq B;obtain⟨o,n,g,_⟩:=p.ob;have O:d.length=ns.length:=by rw[<- r.length,Jc]
 refine call_max_walk (x9 p ⟨s.heap.objs.size,[s.heap.objs.size,a],[s.heap.objs.size],_,_,_,λi j=>decide (ns.getD i 0 > ns.getD j 0),rfl,lW (show X.A.in1.handled=none from I.ok.hd F) b _ a (Jx (Jh g)) d.toArray,⟨?_,p.mv λo e=>J7 _ e⟩,λc C=>?_,by rw[Jf];simp_all,?_,?_⟩)
 ·cases b<;>exact⟨_,Jk _ rfl,rfl,rfl⟩
 ·show c<(s.heap.push _).objs.size
  rw[Ys];rcases Jp.mp C with z|z
  ·rw[z];exact Z5 _
  ·rw[Ja.mp z];exact Z1 (Jh g)
 ·intro i j K J N R S E f G
  obtain⟨_,t,rfl⟩:=num_at r (i:=i) (by simpa using E);obtain⟨_,t',rfl⟩:=num_at r (i:=j) (by simpa using f);exact gt_int G
 ·intro v P l A D
  have best:=argBest_gt (λi=>ns.getD i 0) (d.toArray.size-1);obtain⟨li,t,rfl⟩:=num_at r (by simpa using A);refine⟨.int _,H,I.kept (t':=l) λc o e=>D c o (λz=>Jx (Jh e) (Ja.mp z)) (J7 _ e),⟨t,rfl⟩,q _ (x3 li) λx y=>?_⟩;obtain⟨j,f,rfl⟩:=sJ y;exact best.2 j (by rw[Jf];lia)
theorem vJ (F:X.calm=true)(b:Bool):CallR X (.builtin "min") (λvs H Q=>∃ a ns,vs=[.ref a]/\SqB b X.K H a (List.map V.int ns)/\0<ns.length/\∀ M,M∈ns->(∀ x∈ns,M<=x)->Q (.int M) H):=by
 intro pins s σ H vs L Q I m h;obtain⟨a,ns,rfl,B,k,q⟩:=h;obtain⟨u,rfl,w⟩:=m.one;cases w;obtain⟨d,r,p⟩:=I.sq B;obtain⟨o,n,g,_⟩:=p.ob;have O:d.length=ns.length:=by rw[<- r.length,Jc]
 refine call_min_walk (x9 p ⟨s.heap.objs.size,[s.heap.objs.size,a],[s.heap.objs.size],_,_,_,λi j=>decide (ns.getD i 0<ns.getD j 0),rfl,lW (show X.A.in1.handled=none from I.ok.hd F) b _ a (Jx (Jh g)) d.toArray,⟨?_,p.mv λo e=>J7 _ e⟩,λc C=>?_,by rw[Jf];simp_all,?_,?_⟩)
 ·cases b<;>exact⟨_,Jk _ rfl,rfl,rfl⟩
 ·show c<(s.heap.push _).objs.size
  rw[Ys];rcases Jp.mp C with z|z
  ·rw[z];exact Z5 _
  ·rw[Ja.mp z];exact Z1 (Jh g)
 ·intro i j K J N R S E f G
  obtain⟨_,t,rfl⟩:=num_at r (i:=i) (by simpa using E);obtain⟨_,t',rfl⟩:=num_at r (i:=j) (by simpa using f);exact lt_int G
 ·intro v P l A D
  have best:=argBest_lt (λi=>ns.getD i 0) (d.toArray.size-1);obtain⟨li,t,rfl⟩:=num_at r (by simpa using A);refine⟨.int _,H,I.kept (t':=l) λc o e=>D c o (λz=>Jx (Jh e) (Ja.mp z)) (J7 _ e),⟨t,rfl⟩,q _ (x3 li) λx y=>?_⟩;obtain⟨j,f,rfl⟩:=sJ y;exact best.2 j (by rw[Jf];lia)
end
end L2
namespace L2
open PySem PySem.Spec PyProof.Rows Own
theorem pE {K:Jl}{a:JI}{xs:List V}{g:TG}{h:TE}{l:JI}{σ:St}{H:Hp}{Q:VK}(b:Nat->List V->St->Hp->Prop)(o:b 0 [] σ H)(n:∀ i acc σ H,b i acc σ H->H l=some (.lst acc)/\SqT K H a xs)(hs:∀ i x acc σ H,xs[i]?=some x->b i acc σ H->g x σ H λc q=>h c q λy j=>j l=some (.lst acc)/\acc.length<sizeLine/\Nx xs.length i (b (i+1) (acc++[y]) c (upd j l (.lst (acc++[y])))))(hd:∀ acc σ H,b xs.length acc σ H->Q (.ref l) H):∃ W:Nat->Nat->List V->St->Hp->Prop,(∃ m,W 0 m [] σ H)/\LCW (Itt K a) g gD h l Q W:=by
 refine⟨λi m acc σ H=>m=xs.length-i/\i<=xs.length/\b i acc σ H,⟨_,rfl,JM _,o⟩,?_⟩;rintro i m acc σ H ⟨rfl,r,p⟩;obtain⟨k,d⟩:=n i acc σ H p;refine⟨k,?_⟩;by_cases f:i<xs.length
 ·refine .inr ⟨⟨xs,xs[i],d,J2 f⟩,λx s ⟨e,y⟩=>?_⟩
  subst e;exact hs i x acc σ _ (y xs d) p
 ·obtain rfl:i=xs.length:=by lia
  exact .inl ⟨⟨xs,d,Je _⟩,hd acc σ H p⟩
theorem bo {K:Jl}{a:JI}{xs:List V}{g:TG}{h:TE}{l:JI}{σ:St}{H:Hp}{Q:VK}(b:Nat->List V->St->Hp->Prop)(o:b 0 [] σ H)(n:∀ i acc σ H,b i acc σ H->H l=some (.lst acc)/\SqL K H a xs)(hs:∀ i x acc σ H,xs[i]?=some x->b i acc σ H->g x σ H λc q=>h c q λy j=>j l=some (.lst acc)/\acc.length<sizeLine/\Nx xs.length i (b (i+1) (acc++[y]) c (upd j l (.lst (acc++[y])))))(hd:∀ acc σ H,b xs.length acc σ H->Q (.ref l) H):∃ W:Nat->Nat->List V->St->Hp->Prop,(∃ m,W 0 m [] σ H)/\LCW (Itl K a) g gD h l Q W:=by
 refine⟨λi m acc σ H=>m=xs.length-i/\i<=xs.length/\b i acc σ H,⟨_,rfl,JM _,o⟩,?_⟩;rintro i m acc σ H ⟨rfl,r,p⟩;obtain⟨k,d⟩:=n i acc σ H p;refine⟨k,?_⟩;by_cases f:i<xs.length
 ·refine .inr ⟨⟨xs,xs[i],d,J2 f⟩,λx s ⟨e,y⟩=>?_⟩
  subst e;exact hs i x acc σ _ (y xs d) p
 ·obtain rfl:i=xs.length:=by lia
  exact .inl ⟨⟨xs,d,Je _⟩,hd acc σ H p⟩
theorem iC {lo:Int}{n:Nat}{g:TG}{tt:TT}{f:TE}{l:JI}{σ:St}{H:Hp}{Q:VK}(c:Nat->List V->St->Hp->Prop)(o:c 0 [] σ H)(k:∀ i acc σ H,c i acc σ H->H l=some (.lst acc))(hs:∀ i acc σ H,i<n->c i acc σ H->g (.int (lo+i)) σ H λa q=>tt a q λb j=>if b=true then f a j λy h=>h l=some (.lst acc)/\acc.length<sizeLine/\Nx n i (c (i+1) (acc++[y]) a (upd h l (.lst (acc++[y])))) else Nx n i (c (i+1) acc a j))(hd:∀ acc σ H,c n acc σ H->Q (.ref l) H):∃ W:Nat->Nat->List V->St->Hp->Prop,(∃ m,W 0 m [] σ H)/\LCW (Itr lo n) g tt f l Q W:=by
 refine⟨λi m acc σ H=>m=n-i/\i<=n/\c i acc σ H,⟨_,rfl,JM _,o⟩,?_⟩;rintro i m acc σ H ⟨rfl,r,p⟩;refine⟨k i acc σ H p,?_⟩;by_cases d:i<n
 ·refine .inr ⟨d,λx s ⟨e,y⟩=>?_⟩
  subst e y;exact hs i acc σ _ d p
 ·obtain rfl:i=n:=by lia
  exact .inl ⟨Je _,hd acc σ H p⟩
end L2
namespace L2
open PySem PySem.Spec PyProof.Rows Own
section
variable {prog:Yo}{w:YI}{A:YO}{E:Jo->JO->Prop}{s:JO}
theorem nG {Q:List Jo->JO->Prop}{r:JI}{a b c:Int}{t u v:Tok}{n:Nat}(x:A.handled=none)(l:IsRange s.heap r a b c t u v)(k:Builtin.Range.small a b c=true)(p:Builtin.Range.rangeSize a b c=n)(hlen:n<=2 ^ 24)(q:∀ (h':YP) (tk:Nat) (acc:Array Jo),(∀ b o,s.heap.get? b=some o->h'.get? b=some o)->ItemsOf (λi v=>∃ t,v=.int (a+i*c) t) acc n->Q acc.toList { s with heap:=h',toks:=tk }):wpAny (model prog w) A (collect (.ref r)) Q E s:=by
 have key:∀ R:Result->JO->Prop,(∀ (h':YP) (tk:Nat) (acc:Array Jo) (f:Nat),(∀ b o,s.heap.get? b=some o->h'.get? b=some o)->h'.get? s.heap.objs.size=some { cls:=.type "list",data:=.seq acc f }->ItemsOf (λi v=>∃ t,v=.int (a+i*c) t) acc n->R (.ok (.ret (.ref s.heap.objs.size))) { s with heap:=h',toks:=tk }) ->
   codeAny (model prog w) A (.builtin "proto.collect" ⟨[.ref r],[]⟩) R s:=by
  intro R y;have j:=λz=>YB (A:=A) F.plain_proto_collect z;have h:=λz=>YB (A:=A) F.plain_list_iadd z;refine YJ F.entry_proto_collect ?_;rw[j];refine J0 (m:=newList []) (JE (J9 ⟨YE F.plain_list_iadd _,YJ F.entry_list_iadd ?_⟩));rw[h];have B:(s.heap.push { cls:=.type "list",data:=.seq ([]:List Jo).toArray }).get? s.heap.objs.size=some { cls:=.type "list",data:=.seq #[] 0 }:=Jk _ rfl;exact wpAny_extend_range (s:={ s with heap:=s.heap.push { cls:=.type "list",data:=.seq ([]:List Jo).toArray } }) x (J7 _ l) k p hlen s.heap.objs.size (.ref s.heap.objs.size) _ B λh' tk d f g e it=>y h' tk d f (λb o z=>g b o (Jx (Jh z)) (J7 _ z)) e it
 unfold collect;exact J0 (wpAny_runValue (key _ λh' tk acc f g e it=>J0 (m:=load s.heap.objs.size) (wpAny_load e (J9 (q h' tk acc g it)))))
theorem sx (r:JI)(a b c:Int)(t u v:Tok)(n:Nat)(e:Builtin.Range.small a b c=true)(g:Builtin.Range.rangeSize a b c=n)(hlen:n<=2 ^ 24) :
  Meets (Builtin.«tuple.__new__» ⟨[.type "tuple",.ref r],[]⟩) (λA R s=>A.handled=none/\IsRange s.heap r a b c t u v/\∀ (h':YP) (tk:Nat) (acc:Array Jo),(∀ b o,s.heap.get? b=some o->h'.get? b=some o)->ItemsOf (λi v=>∃ t,v=.int (a+i*c) t) acc n ->
   R (.ok (.ret (.ref h'.objs.size))) { s with heap:=h'.push { cls:=.type "tuple",data:=.seq acc },toks:=tk }) :=
 .of_wp λprog w A R s h=>by
  obtain⟨j,d,h⟩:=h;have x:=sub_tuple_self;have q:=init_tuple_lookup;have p:=madeHere_tuple;have l:s.TypeIs (.ref r) "range":=⟨_,d,rfl⟩;have k:A.in1.handled=none:=j
  wp_walk using Zi l,nG k d e g hlen
  intro h' tk acc f it;rw[show acc.toList.toArray=acc by simp];exact J0 (m:=Builtin.Tuple.tupleExact acc) (JE (J9 ⟨_,rfl,h h' tk acc f it⟩) (by show acc.size<=sizeLine;rw[it.1,Ju];exact hlen))
theorem pI {Q:Jo->JO->Prop}{r:JI}{a b c:Int}{t u v:Tok}{n:Nat}(h:A.handled=none) (f:IsRange s.heap r a b c t u v) (d:Builtin.Range.small a b c=true) (g:Builtin.Range.rangeSize a b c=n) (hlen:n<=2 ^ 24)
  (q:∀ (h':YP) (tk:Nat) (acc:Array Jo),(∀ b o,s.heap.get? b=some o->h'.get? b=some o)->ItemsOf (λi v=>∃ t,v=.int (a+i*c) t) acc n->Q (.ref h'.objs.size) { s with heap:=h'.push { cls:=.type "tuple",data:=.seq acc },toks:=tk }) :
  wpAny (model prog w) A (call (.type "tuple") [.ref r]) Q E s :=
 callType_new F.called_tuple (by decide) (F.typeCall_tuple_1 _) (F.newCall_tuple_1 _) (λobj=>F.args_object_init_2 obj _) F.entry_tuple_new (sx r a b c t u v n d g hlen) ⟨h,f,λh' tk acc e it=>⟨⟨_,Jk _ rfl,rfl⟩,q h' tk acc e it⟩⟩
end
def pR (n:Nat):List V:=(List.range n).map λ(i:Nat)=>V.int i
theorem vN {acc:Array Jo}{n:Nat}(h:ItemsOf (λi v=>∃ t,v=Value.int (0+i*1) t) acc n):Vals (pR n) acc.toList:=by
 obtain⟨d,c⟩:=h
 have go:∀ (l:List Jo) (k:Nat),(∀ (j:Nat) (v:Jo),l[j]?=some v->∃ t,v=Value.int ((k+j:Nat):Int) t)->Vals ((List.range l.length).map λ(i:Nat)=>V.int ((k+i:Nat):Int)) l:=by
  intro l
  induction l with
  | nil=>intro k _;exact .nil
  | cons x l ih =>
   intro k b;rw[Y5,List.range_succ_eq_map,JU,List.map_map];refine .cons (by obtain⟨t,e⟩:=b 0 x rfl;exact⟨t,e⟩) ?_
   have:=ih (k+1) λj v a=>by
    obtain⟨t,e⟩:=b (j+1) v (by simpa using a);exact⟨t,by rw[e];congr 1;lia⟩
   refine cast (JL (λz=>Vals z l) (YT λi _=>?_)) this;show V.int ((k+1+i:Nat):Int)=V.int ((k+(i+1):Nat):Int)
   congr 2;lia
 have:=go acc.toList 0 λj v a=>by
  obtain⟨t,e⟩:=c j v (by simpa using a);exact⟨t,by rw[e];congr 1;simp_all⟩
 rw[Array.length_toList,d]at this;unfold pR;refine cast (JL (λz=>Vals z acc.toList) (YT λi _=>?_)) this;show V.int ((0+i:Nat):Int)=V.int (i:Int);rw[Nat.zero_add]
theorem pQ (n:Nat):(pR n).length=n:=by simp[pR]
section
variable {X:Cx}
def gF (b:Bool)(d:TA):TE:=λσ H Q=>d σ H λc a=>∃ j:Nat,c=[.int j]/\j<=100000/\∀ l,a l=none->Q (.ref l) (upd a l (if b=true then .lst (pR j) else .tup (pR j)))
theorem pY {j:Nat}(h:j<=100000):Builtin.Range.small 0 (j:Int) 1=true:=small_one (by simp_all) (by simp_all) (by simp_all) (by lia)
theorem lh {j:Nat}:Builtin.Range.rangeSize 0 (j:Int) 1=((j:Nat):Int):=by rw[rangeSize_one];split<;>simp_all
theorem vB {a:Expr}{x:TA}{p i pos c:Pos}(E:X.calm=true) (w:Gl X "list") (r:X.mg "list" = none) (v:Gl X "range") (m:X.mg "range" = none) (ha:PA X [a] x) (hs:starEach [a] X.env=[(false,eval a X.env)]:=by rfl)
  (d:starEach [.Call (.Name "range" i) [a] [] c] X.env=[(false,eval (.Call (.Name "range" i) [a] [] c) X.env)]:=by rfl):PE X (.Call (.Name "list" p) [.Call (.Name "range" i) [a] [] c] [] pos) (gF true x):=by
 intro pins s σ H Q I h;refine Yt (xv I w r (u:=.type "list") (by rfl) (Y3 ?_ d rfl));rw[d];refine Ze (Call_ (xv I v m boot_range (Y3 (thn (ha c pins s σ H _ I h) λK g ⟨J,L,l,A,B⟩=>?_) hs rfl)));obtain⟨j,rfl,k,q⟩:=B;obtain⟨u,rfl,t,rfl⟩:=A.one;refine call_range_1 (ZL ?_);refine call_list_range (n:=j) (l.ok.hd E) (IsRange.new ..) (pY k) lh (JQ k (by decide)) λF y f G C e it=>?_;have D:∀ b o,g.heap.get? b=some o->F.get? b=some o:=λb o z=>C b o (J7 _ z);refine⟨.ref _,_,l.laid (t':=y) (o:=.lst (pR j)) D ?_ ⟨by rw[pQ];exact JQ k (by decide),f.toList,G,vN it,by simpa using e⟩,rfl,q _ (l.hok.fresh ?_)⟩
 all_goals (show g.heap.objs.size<=(g.heap.push _).objs.size;rw[Ys];exact Nat.le_succ _)
theorem vA {a:Expr}{w:TA}{p f pos c:Pos}(F:X.calm=true) (r:Gl X "tuple") (l:X.mg "tuple" = none) (m:Gl X "range") (k:X.mg "range" = none) (ha:PA X [a] w) (hs:starEach [a] X.env=[(false,eval a X.env)]:=by rfl)
  (d:starEach [.Call (.Name "range" f) [a] [] c] X.env=[(false,eval (.Call (.Name "range" f) [a] [] c) X.env)]:=by rfl):PE X (.Call (.Name "tuple" p) [.Call (.Name "range" f) [a] [] c] [] pos) (gF false w):=by
 intro pins s σ H Q I h;refine Yt (xv I r l (u:=.type "tuple") (by rfl) (Y3 ?_ d rfl));rw[d];refine Ze (Call_ (xv I m k boot_range (Y3 (thn (ha c pins s σ H _ I h) λK x ⟨J,G,A,B,C⟩=>?_) hs rfl)));obtain⟨j,rfl,g,q⟩:=C;obtain⟨u,rfl,t,rfl⟩:=B.one;refine call_range_1 (ZL ?_);refine pI (n:=j) (A.ok.hd F) (IsRange.new ..) (pY g) lh (JQ g (by decide)) λi v acc D it=>?_;have E:∀ b o,x.heap.get? b=some o->i.get? b=some o:=λb o z=>D b o (J7 _ z);have y:Inv X pins σ G { x with heap:=i,toks:=v }:=A.kept E;refine⟨.ref i.objs.size,_,y.laid (t':=v) (o:=.tup (pR j)) (λb o e=>J7 _ e) (Je _) ⟨by rw[pQ];exact JQ g (by decide),acc.toList,vN it,?_⟩,rfl,q _ (y.hok.fresh (Je _))⟩;exact⟨_,Jk _ rfl,rfl,0,by simp,rfl⟩
theorem eA (g:X.A.units<cLine):OpR X (compareOp .NotEq) (λx y H Q=>∃ a b xs,x=.ref a/\y=.ref b/\SqL X.K H a xs/\SqL X.K H b []/\Q (.bl (!xs.isEmpty)) H):=by
 intro pins s σ H x y v u Q I k i h;obtain⟨a,b,xs,rfl,rfl,o,n,q⟩:=h;cases k;cases i;obtain⟨r,c,f,_⟩:=I.list o;obtain⟨p,l,d,_⟩:=I.list n;cases l;have m:=c.length
 cases xs with
 | nil =>
  cases c
  exact SeqAt.RcNeAt.lists (e:=λ_=>true) f.isList d.isList rfl g (λj h=>absurd h (ZB _)) X.prog X.w _ _ ⟨.bl _,H,I,rfl,q⟩
 | cons z t =>
  exact SeqAt.RcNeAt.lists_lengths f.isList d.isList (by rw[Jf,<- m];simp) g X.prog X.w _ _ ⟨.bl _,H,I,rfl,q⟩
theorem mj (l:JI) (o:Obj) (items:Array Jo) (n:Nat) (x:Jo) (j:Nat) (E:o.cls=.type "tuple") (hd:o.data=.seq items n) (e:Nat->Bool) (y:∀ i,i<j->e i=false) (h1:e j=true) (D:j<items.size) :
  Meets (Builtin.«tuple.index» ⟨[.ref l,x],[]⟩) (λA R s=>s.heap.get? l=some o/\(∀ i (h:i<items.size),SeqAt.EqAt A.in1 s items[i] x (e i))/\R (.ok (.ret (.int j s.toks))) { s with toks:=s.toks+1 }) :=
 .of_wp λprog w A R s h=>by
  cases s with
  | mk m z C g os =>
  obtain⟨p,u,h⟩:=h;unfold Builtin.«tuple.index»;simp only[Std.Legacy.Range.forIn_eq_forIn_range']
  wp_walk using Y1 p hd,wpAny_forIn_list _ (λrest b c=>c=⟨m,z,C,g,os⟩/\b.1=none/\∃ i,i<=j/\rest=List.range' i (items.size-i)) _
  case turn =>
   rintro i rest b c ⟨rfl,v,d,r,a⟩;have k:items.size-d=(items.size-(d+1))+1:=by grind
   rw[k,List.range'_succ]at a;injection a with B e2;subst B;have f:i<items.size:=by lia
   have t:items[i]?=some items[i]:=by simp[f]
   simp only[t];refine J0 (u i f prog w _ _ ?_);by_cases q:i=j
   ·subst q;rw[h1];wp_walk;exact⟨_,rfl,h⟩
   ·rw[y i (by lia)];wp_walk;exact⟨rfl,rfl,i+1,by lia,e2⟩
  case fin =>
   rintro b c ⟨rfl,v,d,r,a⟩;have:=JL List.length a;simp at this;omega
  case h=>exact⟨rfl,rfl,0,JM _,by simp[Std.Legacy.Range.size]⟩
theorem sR:∀ {ns:List Int}{k:Int}{i:Nat},i<ns.idxOf k->(ns.getD i 0 == k)=false
 | [],k,i,h=>by simp at h
 | n::ns,k,i,h=>by
  rw[List.idxOf_cons]at h
  cases e:n == k with
  | true=>rw[e]at h;simp at h
  | false =>
   rw[e]at h;simp only[cond_false]at h
   cases i with
   | zero=>exact e
   | succ i=>exact sR (ns:=ns) (i:=i) (by simp_all)
def zaR (to:TE)(t:TA):TE:=λσ H Q=>to σ H λx c=>∃ a ns,x=.ref a/\c a=some (.tup (List.map V.int ns))/\t σ c λd b=>∃ k:Int,d=[.int k]/\b a=some (.tup (List.map V.int ns))/\k∈ns/\Q (.int (ns.idxOf k:Nat)) b
theorem bC {o e:Expr}{to:TE}{t:TA}{apos cpos:Pos}(hu:X.A.units+64<cLine) (T:PE X o to) (ha:PA X [e] t)
  (d:attributeBase o "index" X.env (eval o X.env)=eval o X.env:=by rfl)
  (j:((backTo cpos (starEach [e] X.env)).all (λx=>!x.1) && (backToKw cpos (keywordEach [] X.env)).all (λx=>x.1.isSome) && decide ([e].length+([]:List Keyword).length+(if ([]:List Keyword).isEmpty then 0 else 1)<30))=true:=by rfl)
  (c:(apos.endLine == cpos.line)=true:=by rfl) (S:starEach [e] X.env=(false,eval e X.env)::starEach [] X.env:=by rfl):PE X (.Call (.Attribute o "index" apos) [e] [] cpos) (zaR to t):=by
 intro pins s σ H Q I h;refine wpAny_Call_method_late d j c rfl (thn (T pins s σ H _ I h) λv p ⟨x,E,C,L,a,ns,ex,R,M⟩=>?_);subst ex;cases L;obtain⟨_,aE,_,⟨ob,z,c1,n1,d1,N⟩⟩:=(show ObjOk X.prog X.w E p.heap a (.tup (List.map V.int ns)) from C.hok a _ R);refine⟨"tuple","tuple.index",PySem.F.plainAttrs_tuple,PySem.F.slot_tuple_index,PySem.F.type_tuple_index,⟨ob,z,c1⟩,λa' Y=>by cases Y;exact⟨ob,z,N⟩,?_⟩;have y:=ha cpos pins p σ E _ C M;rw[S]at y ⊢;refine Zj rfl (Calls.evalArgs_plain ?_);refine thn y λus J ⟨vs,D,B,K,k,ev,m,P,q⟩=>?_;subst ev;obtain⟨u,rfl,F,rfl⟩:=K.one;obtain⟨_,b,r,⟨f,g,A,O,Z,ab⟩⟩:=(show ObjOk X.prog X.w D J.heap a (.tup (List.map V.int ns)) from B.hok a _ m);have hlen:b.toArray.size=ns.length:=by rw[Jf,<- r.length,Jc]
 have w:=ZF P
 refine ZG PySem.F.slot_tuple_index ⟨f,g,A⟩ PySem.F.entry_tuple_index (PySem.F.args_tuple_index_2 _ _)
  (mj a f b.toArray O (.int k F) (ns.idxOf k) A Z (λi=>ns.getD i 0 == k) (λi l=>?_) ?_ (by rw[hlen];exact w)) ⟨g,λi l=>?_,?_⟩
 ·exact sR l
 ·rw[J8,J2 w]
  simp
 ·have n:i<ns.length:=by rw[<- hlen];exact l
  obtain⟨w1,W,G,rfl⟩:=r.get (show (List.map V.int ns)[i]?=some (V.int (ns.getD i 0)) by rw[JF,J8,J2 n];rfl);have U:b.toArray[i]=.int (ns.getD i 0) G:=by simpa using (Jd.mp W).2
  rw[U];exact(MeetsSeq.EqGives.int _ _ _ _).at _ _
 ·exact⟨.int _,D,B.tok _,⟨_,rfl⟩,q⟩
theorem oX:fillsNumberSlot (.type "tuple") "mul" = pure false :=
 PySem.fillsNumberSlot_seq (id:="tuple.__mul__") (r:=some (.builtin "tuple.__rmul__")) F.slot_tuple_mul.lookup (by decide +kernel) F.slot_tuple_rmul.lookup (by decide +kernel)
theorem mN:seqRepeat? (.type "tuple")=pure (some (.builtin "tuple.__mul__")):=by
 unfold seqRepeat?;rw[PySem.seqSlot_of (T:="tuple") (name:="__mul__") (id:="tuple.__mul__") F.slot_tuple_mul.lookup (by decide +kernel),PySem.seqSlot_of (T:="tuple") (name:="__rmul__") (id:="tuple.__rmul__") F.slot_tuple_rmul.lookup (by decide +kernel)];rfl
theorem dz (a:Int)(t:Tok)(l:JI)(dd:Option JI)(sl:Array (Option Jo))(items:Array Jo)(n:Nat) :
  Meets (Builtin.«int.__rmul__» ⟨[.int a t,.ref l],[]⟩) (λ_ R s=>s.heap.get? l=some { cls:=.type "tuple",dict:=dd,data:=.seq items n,slots:=sl }/\R (.ok (.ret Value.notImplemented)) s) :=
 .of_wp λprog w A R s h=>by
  cases s;obtain⟨b,h⟩:=h
  wp_walk using ZM b
  exact⟨_,rfl,h⟩
theorem mi (l:JI) (o:Obj) (x:Jo) (n k:Nat) (t:Tok) (r:o.cls=.type "tuple") (hd:o.data=.seq #[x] n) (E:k<=100000) :
  Meets (Builtin.«tuple.__mul__» ⟨[.ref l,.int k t],[]⟩) (λ_ R s=>s.heap.get? l=some o /\
   (k=1->R (.ok (.ret (.ref l))) s)/\(k≠1->R (.ok (.ret (.ref s.heap.objs.size))) { s with heap:=s.heap.push { cls:=.type "tuple",data:=.seq (List.replicate k x).toArray } })) :=
 .of_wp λprog w A R s h=>by
  cases s with
  | mk q u z j os =>
  obtain⟨b,v,f⟩:=h;have ty:Shared.TypeIs ⟨q,u,z,j,os⟩ (.ref l) "tuple":=⟨o,b,r⟩
  wp_walk using Y1 b hd,Zi ty
  have D:¬(decide ((k:Int) < -2 ^ 63) || decide ((k:Int)>=2 ^ 63))=true:=by
   rw[Jt (by simp_all),Jt (by lia)];exact Ji
  rw[Jg D]
  wp_walk using Y1 b hd,Zi ty
  by_cases a:k=1
  ·have d:((#[x]:Array Jo).isEmpty || (k:Int) == 1)=true:=by subst a;rfl
   rw[Jq d]
   wp_walk using Zi ty
   exact⟨_,rfl,v a⟩
  ·have d:¬((#[x]:Array Jo).isEmpty || (k:Int) == 1)=true:=by
    have:((k:Int) == 1)=false:=by rw[Z7];lia
    rw[this];exact Ji
   rw[Jg d]
   have y:∀ (m:Nat) (acc:Array Jo),(List.foldl (λi g=>i++g) acc (List.replicate m #[x]))=acc++(List.replicate m x).toArray:=λm=>by
    induction m with
    | zero=>intro acc;simp
    | succ m ih=>intro acc;rw[JX,List.foldl_cons,ih,JX];apply Array.ext';simp
   by_cases p:k=0
   ·subst p
    have c:(decide (((0:Nat):Int)<=0) || (#[x]:Array Jo).isEmpty)=true:=rfl;rw[Jq c]
    wp_walk
    exact⟨_,rfl,f (by decide)⟩
   ·have c:¬(decide ((k:Int)<=0) || (#[x]:Array Jo).isEmpty)=true:=by
     rw[Jt (by simp_all)];exact Ji
    have C:¬(((#[x]:Array Jo).size:Int)*(k:Int) > (2 ^ 63-1) / 8):=by
     show ¬((1:Int)*(k:Int) > (2 ^ 63-1) / 8);lia
    have B:¬ Builtin.Tuple.tupleTooMany (((#[x]:Array Jo).size:Int)*(k:Int))=true:=by
     unfold Builtin.Tuple.tupleTooMany;show ¬ decide ((1:Int)*(k:Int) > (sizeLine:Int))=true;rw[Jt (by rw[Ju];lia)];exact Ji
    rw[Jg c,Jg C,Jg B,JZ,y];refine J0 (m:=Builtin.Tuple.tupleExact _) (JE (J9 ⟨_,rfl,?_⟩) ?_)
    ·have e:(#[]++(List.replicate k x).toArray:Array Jo)=(List.replicate k x).toArray:=by simp
     rw[e];exact f a
    ·show (#[]++(List.replicate k x).toArray:Array Jo).size<=sizeLine
     rw[Ju];simp;lia
theorem Vals.same {v:V}{u:Jo}(r:RelV v u):∀ k:Nat,Vals (List.replicate k v) (List.replicate k u)
 | 0=>.nil
 | k+1=>by rw[JX,JX];exact .cons r (Vals.same r k)
theorem qt:OpR X (binaryOp .Mult) (λx y H Q=>∃ a v,∃ k:Nat,x=.ref a/\y=.int k/\H a=some (.tup [v])/\k<=100000/\∀ r H',Same H H'->H' r=some (.tup (List.replicate k v))->Q (.ref r) H'):=by
 intro pins s σ H x y J G Q I A w h;obtain⟨a,v,k,rfl,rfl,j,D,q⟩:=h;cases A;obtain⟨t,rfl⟩:=w;obtain⟨_,E,r,⟨⟨c,K,d,n⟩,f,m,i,l,g⟩⟩:=(show ObjOk X.prog X.w H s.heap a (.tup [v]) from I.hok a _ j);simp only at m l g;subst m l g;obtain⟨u,rfl,B⟩:=r.one
 refine wpAny_binaryOp_repeat_ref (T:="tuple") (U:="int") (by decide) ⟨_,f,rfl⟩ (λp=>typeIs_int p k t) oX F.fills_int_mul F.slot_int_rmul mN F.slot_int_index.lookup
  (ZG F.slot_int_rmul (typeIs_int s k t) F.entry_int_rmul (F.args_int_rmul_2 _ _) (dz k t a none n _ i)
   ⟨f,rfl,⟨_,f,rfl⟩,ZG F.slot_tuple_mul ⟨_,f,rfl⟩ F.entry_tuple_mul (F.args_tuple_mul_2 _ _) (mi a _ u i k t rfl rfl D) ⟨f,λe=>?_,λe=>?_⟩⟩)
 ·subst e
  exact⟨.ref a,H,I,rfl,q a H (Same.refl H) j⟩
 ·have C:(List.replicate k v).length<=sizeLine:=by rw[Y4,Ju];lia
  exact⟨.ref s.heap.objs.size,_,I.laid (t':=s.toks) (o:=.tup (List.replicate k v)) (λb ob z=>J7 _ z) (Je _) ⟨C,_,Vals.same B k,TupX.new _ _⟩,rfl,q _ _ (zD (I.hok.fresh (Je _)) _) zH⟩
end
end L2
namespace Bn
open PySem L2 Own
def Tups (H H':Hp):Prop:=∀ a b,H a=some (.tup b)->H' a=some (.tup b)
theorem Tups.trans {H d c:Hp}(x:Tups H d)(y:Tups d c):Tups H c:=λa b e=>y a b (x a b e)
theorem Tups.of {H H':Hp}(s:Same H H'):Tups H H':=λa _ e=>s a _ e
theorem Tups.lst {H:Hp}{l:JI}{xs ys:List V}(h:H l=some (.lst xs)):Tups H (upd H l (.lst ys)):=λa b e=>by
 rw[zK (by rintro rfl;rw[h]at e;cases e)];exact e
def But (l:JI)(H H':Hp):Prop:=∀ b o,H b=some o->b≠l->H' b=some o
theorem But.trans {l:JI}{H c a:Hp}(x:But l H c)(y:But l c a):But l H a:=λb o e n=>y b o (x b o e n) n
theorem But.of {l:JI}{H a:Hp}(x:Same H a):But l H a:=λb o e _=>x b o e
def Prs (H:Hp):List V->List (Nat × Nat)->Prop
 | [],[]=>True
 | p::ps,f::fs=>(∃ a,p=.ref a/\H a=some (.tup [.int f.1,.int f.2]))/\Prs H ps fs
 | _,_=>False
theorem Prs.tups {H H':Hp}(t:Tups H H'):∀ {ps:List V}{fs:List (Nat × Nat)},Prs H ps fs->Prs H' ps fs
 | [],[],_=>trivial
 | _::_,_::_,⟨⟨a,e,h⟩,r⟩=>⟨⟨a,e,t _ _ h⟩,r.tups t⟩
theorem Prs.len {H:Hp}:∀ {ps:List V}{fs:List (Nat × Nat)},Prs H ps fs->ps.length=fs.length
 | [],[],_=>rfl
 | _::_,_::_,⟨_,r⟩=>JL (· + 1) r.len
theorem Prs.add {H:Hp}{a:JI}{f:Nat × Nat}(h:H a=some (.tup [.int f.1,.int f.2])):∀ {ps:List V}{fs:List (Nat × Nat)},Prs H ps fs->Prs H (ps++[.ref a]) (fs++[f])
 | [],[],_=>⟨⟨a,rfl,h⟩,trivial⟩
 | _::_,_::_,⟨x,r⟩=>⟨x,r.add h⟩
theorem Prs.get {H:Hp}:∀ {ps:List V}{fs:List (Nat × Nat)}{i:Nat}{p:V},Prs H ps fs->ps[i]?=some p->∃ a f,p=.ref a/\fs[i]?=some f/\H a=some (.tup [.int f.1,.int f.2])
 | [],[],_,_,_,e=>by simp at e
 | _::_,f::_,0,p,⟨⟨a,b,h⟩,_⟩,e=>by
  have:_=p:=Jj e;subst this
  exact⟨a,f,b,rfl,h⟩
 | _::_,_::_,i+1,p,⟨_,r⟩,e=>r.get (i:=i) (by simpa using e)
structure Nt where
 lanes:Nat
 forks:List (Nat × Nat)
 ends:List Nat
structure Nt.Ok (N:Nt):Prop where
 l1:1<=N.lanes
 l16:N.lanes<=16
 fm:N.forks.length<=128
 fk:∀ f∈N.forks,f.1<N.lanes/\f.2<N.lanes/\f.1≠f.2
 en:N.ends.Perm (List.range N.lanes)
def zU (a:List Nat):List V:=a.map λ(e:Nat)=>V.int e
structure NetAt (H:Hp) (r fr er:JI) (ps:List V) (N:Nt):Prop where
 net:H r=some (.tup [.int N.lanes,.ref fr,.ref er])
 forks:H fr=some (.tup ps)
 prs:Prs H ps N.forks
 ends:H er=some (.tup (zU N.ends))
theorem NetAt.tups {H H':Hp}{r fr er:JI}{ps:List V}{N:Nt}(t:Tups H H')(h:NetAt H r fr er ps N):NetAt H' r fr er ps N:=⟨t _ _ h.net,t _ _ h.forks,h.prs.tups t,t _ _ h.ends⟩
def yJ (st:List Int × List Int)(f:Nat × Nat):List Int × List Int :=
 ((st.1.set f.1 ((st.1.getD f.1 0+st.1.getD f.2 0+1) / 2)).set f.2 ((st.1.getD f.1 0+st.1.getD f.2 0) / 2),st.2++[(st.1.getD f.1 0+st.1.getD f.2 0)%2])
def yU (st:List Int × List Int)(fs:List (Nat × Nat)):List Int × List Int:=fs.foldl yJ st
def zw (fs:List (Nat × Nat))(cs:List Int):List Int × List Int:=yU (cs,[]) fs
def zp (N:Nt)(cs:List Int):List Int:=N.ends.map λe=>(zw N.forks cs).1.getD e 0
def yn (N:Nt)(cs:List Int):List Int:=(zw N.forks cs).2
theorem iQ (fs:List (Nat × Nat))(f:Nat × Nat)(cs:List Int):zw (fs++[f]) cs=yJ (zw fs cs) f:=by
 unfold zw yU;rw[YN];rfl
theorem yx (st:List Int × List Int)(f:Nat × Nat):(yJ st f).1.length=st.1.length:=by simp[yJ]
theorem wQ:∀ (fs:List (Nat × Nat)) (st:List Int × List Int),(yU st fs).1.length=st.1.length/\(yU st fs).2.length=st.2.length+fs.length
 | [],st=>⟨rfl,rfl⟩
 | f::fs,st=>by
  have h:=wQ fs (yJ st f);refine⟨h.1.trans (yx st f),h.2.trans ?_⟩;simp[yJ];lia
theorem xF (fs:List (Nat × Nat))(cs:List Int):(zw fs cs).1.length=cs.length:=(wQ fs (cs,[])).1
theorem xA (fs:List (Nat × Nat))(cs:List Int):(zw fs cs).2.length=fs.length:=by
 have:=(wQ fs (cs,[])).2;simpa [zw] using this
theorem xC {fs:List (Nat × Nat)}{i:Nat}{f:Nat × Nat}(h:fs[i]?=some f)(cs:List Int):zw (fs.take (i+1)) cs=yJ (zw (fs.take i) cs) f:=by
 have w:=Jd.mp h;obtain⟨a,e⟩:=w;rw[Yw a,iQ,e]
theorem yC {xs:List Int}{i p:Nat}{a:Int}(h:p<xs.length):(xs.set i a).getD p 0=if i=p then a else xs.getD p 0:=by
 rw[J8,List.getElem?_set];by_cases e:i=p
 ·subst e;simp[h]
 ·simp[e]
theorem pG {N:Nt}(ok:N.Ok){e:Nat}(h:e∈N.ends):e<N.lanes:=Yd.mp (ok.en.mem_iff.mp h)
theorem uH {N:Nt}(ok:N.Ok):N.ends.length=N.lanes:=by rw[ok.en.length_eq,JR]
theorem xI {cs:List Int}{i:Nat}(h:i<cs.length):atI (cs.map V.int) ((i:Nat):Int)=some (.int (cs.getD i 0)):=by
 refine yL ?_;rw[JF,J8,J2 h];rfl
theorem wn {α:Type}{xs:List α}{i:Nat}(h:i<xs.length):ixN xs.length ((i:Nat):Int)=some i:=by
 unfold ixN;rw[Jq (by lia),Jq (by simp_all)];simp
theorem xP (cs:List Int)(i:Nat)(a:Int):(cs.map V.int).set i (.int a)=(cs.set i a).map V.int:=by rw[List.map_set]
structure Mgs (mg:Str->Option Jo):Prop where
 len:mg "len" = none
 range:mg "range" = none
 tuple:mg "tuple" = none
 enum:mg "enumerate" = none
 abs:mg "abs" = none
 zip:mg "zip" = none
 isi:mg "isinstance" = none
 all:mg "all" = none
 sum:mg "sum" = none
 bool:mg "bool" = none
 int:mg "int" = none
 str:mg "str" = none
 max:mg "max" = none
 min:mg "min" = none
 sorted:mg "sorted" = none
 list:mg "list" = none
structure Use (P:Yo) (w:YI) (K:Jl) (mg:Str->Option Jo) (base:YP) (x:Str) (ps:List Str) (k:Nat) (sp:Sp) (f:JI) (fd:Yl):Prop where
 ok:FnOk P w K mg base CX0 k f fd ps sp
 b:Binds K fd ps []
 kp:PySem.W.keepIn K (.ref f)=true
 m:mg x=some (.ref f)
def tO:Sp:=λb H Q _=>∃ r fr e d N c cs,b=[.ref r,.ref c]/\Nt.Ok N/\NetAt H r fr e d N/\H c=some (.tup (List.map V.int cs))/\cs.length=N.lanes /\
 ∀ p lo lt a,Same H a->a p=some (.tup [.ref lo,.ref lt])->a lo=some (.lst ((zw N.forks cs).1.map V.int))->a lt=some (.lst ((zw N.forks cs).2.map V.int))->Q (.ref p) a
def uR:Sp:=λb H Q _=>∃ r fr e d N c cs,b=[.ref r,.ref c]/\Nt.Ok N/\NetAt H r fr e d N/\H c=some (.tup (List.map V.int cs))/\cs.length=N.lanes /\
 ∀ p a,Same H a->a p=some (.tup ((zp N cs).map V.int))->Q (.ref p) a
def Frs (l:JI)(H:Hp)(x:JI):Prop:=∀ b o,H b=some o->b≠l->b≠x
theorem But.frs {l x:JI}{H a:Hp}(B:But l H a)(h:a x=none):Frs l H x:=λb o e n=>zJ (B b o e n) h
theorem But.upd {l x:JI}{H a:Hp}{o:HO}(B:But l H a)(f:Frs l H x):But l H (upd a x o):=λb u e n=>by rw[zK (f b u e n)];exact B b u e n
theorem wz {xs:List Nat}{v:Nat}(h:v<xs.length):∃ n,n∈xs/\atI (zU xs) ((v:Nat):Int)=some (.int n):=by
 refine⟨xs[v],JA h,yL ?_⟩;unfold zU;rw[JF,J2 h];rfl
theorem zd (a:List Nat):(zU a).length=a.length:=by simp[zU]
theorem oO {one d lanes:Nat}(h1:one<lanes)(a:d+1<lanes):(one+1+d)%lanes<lanes/\one≠(one+1+d)%lanes:=by
 refine⟨Nat.mod_lt _ (by lia),λe=>?_⟩;by_cases z:one+1+d<lanes
 ·rw[Nat.mod_eq_of_lt z]at e;lia
 ·rw[Nat.mod_eq_sub_mod (by lia),Nat.mod_eq_of_lt (by lia)]at e;lia
end Bn
namespace L2
open PySem
theorem zB {α:Type _}{o:Option (Option α)}{q:α->Prop}(r:match o with|some (some v)=>q v|_=>False):∃ v,o=some (some v)/\q v:=by
 match o,r with
 | some (some v),r=>exact⟨v,rfl,r⟩
theorem zY {α:Sort _}{p q:α->Prop}{a:α}(h:p a)(r:q a):∃ x,p x/\q x:=⟨a,h,r⟩
def okV (N:List Str)(sc:Scope)(i:Nat)(x:Str):Bool:=decide (N[i]?=some x) && (match sc.names.lookup x with|some .local => true|some .cell=>true|some .free=>true|_=>false) && !(x == ("__debug__":Str)) && !(x == ("__classdict__":Str))
theorem pvb {X:Cx}(i:Nat){x:Str}{pos:Pos}(h:okV X.N X.env.scope i x=true):PE X (.Name x pos) (gE i):=by
 unfold okV at h;rw[Yk,Yk,Yk,Bool.not_eq_true',Bool.not_eq_true']at h;obtain⟨⟨⟨d,a⟩,c⟩,b⟩:=h;refine fZ (Yq d) ?_ c b;unfold Vis;split at a
 ·exact .inl ‹_›
 ·exact .inr (.inl ‹_›)
 ·exact .inr (.inr ‹_›)
 ·cases a
theorem zQ {X:Cx}{x:Str}{ps:List Str}{k:Nat}{sp:Sp}{f:JI}{fd:Yl}{e:Expr}{a:List Expr}{t:TA}{p pos:Pos}(U:Bn.Use X.prog X.w X.K X.mg X.base x ps k sp f fd) (d:Room k X.A) (ha:PA X (e::a) t)
  (g:Gl X x) (c:(x == ("__debug__":Str))=false) (h:starEach (e::a) X.env=(false,eval e X.env)::starEach a X.env) (b:(backTo pos (starEach a X.env)).any (·.1)=false):PE X (.Call (.Name x p) (e::a) [] pos) (aI sp [] E0 t) :=
 kC U.ok d g U.m U.kp U.b .nil fw ha c h b
end L2
namespace Bn
open PySem L2 Own
def nm (ns:List Nat)(i:Nat):Nat:=ns.getD i 0
section
variable {ns:List Nat}{n:Nat}(pm:ns.Perm (List.range n))
include pm
end
def Nt.again (N:Nt)(f:Nat × Nat):Nt:=⟨N.lanes,N.forks++[f],N.ends⟩
end Bn
namespace L2
open PySem PySem.Spec PyProof.Rows Own
section
variable {prog:Yo}{w:YI}{A:YO}{E:Jo->JO->Prop}{s:JO}
theorem o8 {t sl:JI}{items:Array Jo}{f e:Jo}{lo hi:Option Int}{Q:Jo->JO->Prop}(a:IsTup s.heap t items)(hs:s.heap.IsSliceOf sl f e .none)(g:IsPart f lo)(pu:IsPart e hi)(j:HT.sIx items.size 0 lo=0)(i:HT.sIx items.size items.size hi=items.size)(h:Q (.ref t) s):wpAny (model prog w) A (getItem (.ref t) (.ref sl)) Q E s:=by
 obtain⟨os,b,c,k⟩:=id hs;have d:s.TypeIs (.ref sl) "slice":=⟨os,b,c⟩;unfold getItem
 try with_reducible refine Y2 ?_
 first|refine J0 (J9 ?_)|skip
 refine J0 (wpAny_sequenceKey a.typeIs (by decide) (J0 (wpAny_callSpecial?_slot (name:=Str.ofString "__getitem__") a.typeIs Zr (Yj Zr a.typeIs PyProof.Rows.entry_tuple_getitem ?_ (PyProof.Rows.args_tuple_getitem _ _)))));show wpAny _ _ (Builtin.Tuple.tupleItemsOf (.ref t) >>= _) _ _ s;refine J0 (tupleItemsOf_ a (J0 (Zi d ?_)));rw[Jq (by decide)];refine J0 (HT.sliceApplied_gen hs g pu ?_);rw[j,i];show wpAny _ _ (if (((0:Nat):Int) == 0 && (1:Int) == 1 && (items.size-0) == items.size)=true then _ else _) _ _ s;rw[Jq (by simp)];refine J0 ?_;unfold Builtin.Tuple.tupleIsExact;refine J0 (Zi a.typeIs (J9 ?_));rw[Jq (by decide)];exact J0 (YF (J9 ⟨_,rfl,J9 h⟩))
end
section
variable {prog:Yo}{w:YI}{A:YO}{R:Result->JO->Prop}{I S:JI}{fp wr:List JI}{n:Nat}{P B:Nat->Jo->Prop}{St:Nat->YP->Prop}
def BestAt (B:Nat->Jo->Prop)(j:Nat)(its:Array Jo):Prop:=(j=0/\its = #[])\/(0<j/\∃ v,its = #[v,v]/\B j v)
theorem j8 (W:Walks prog w A.in1 I fp wr n P St)(away:S∉fp)(d:Jo)(first:∀ v,P 0 v->B 1 v)(more:∀ j v b (s:JO) (Q:Jo->JO->Prop) (E:Jo->JO->Prop),0<j->P j v->B j b->(∀ c,B (j+1) (if c=true then v else b)->Q (.bool c) s)->wpAny (model prog w) A.in1 (richCompare .Gt v b) Q E s) :
  ∀ (m j:Nat) (s:JO) (its:Array Jo) (c:Nat),j+m=n->St j s.heap->s.heap.get? S=some { cls:=.type "list",dict:=none,data:=.seq its c,slots:=#[] }->BestAt B j its ->
   (∀ v C D,(n=0/\v=d\/0<n/\B n v)->(∀ b o,b∉wr->b≠S->s.heap.get? b=some o->C.get? b=some o)->R (.ok (.ret v)) { s with heap:=C,toks:=D }) ->
   codeAny (model prog w) A (.builtin "max.loop" ⟨[.ref I,.none,.ref S],[("default",d)]⟩) R s:=by
 have out:S∉wr:=λz=>away (W.sub _ z);have nm:(toString "max"++toString ".loop":String) = "max.loop":=by decide
 intro m
 induction m with
 | zero =>
  intro j s its c G st u best k;obtain rfl:j=n:=by omega
  refine YJ F.entry_max_loop (by
   refine YB Zs _ ▸ (show wpAny _ A.in1 (seqItems? (.ref S) >>= _) _ _ _ from ?_);refine J0 (Y1 u rfl (show wpAny _ A.in1 (tryCatch (pyNext (.ref I)) _ >>= _) _ _ _ from J0 (Z3 (W.done s _ _ st λJ p keep=>?_))));have g:=keep S _ out u;rcases best with ⟨H,rfl⟩|⟨jp,v,rfl,bv⟩
   ·exact J0 (YF (J9 (k d _ p (.inl ⟨H,rfl⟩) λb o f _ e=>keep b o f e)))
   ·show wpAny _ A.in1 (updateSeq S (λ_=>#[]) >>= _) _ _ _
    exact J0 (Zb g rfl (J0 (YM (J9 (k v _ p (.inr ⟨jp,bv⟩) λb o f i e=>(JN _ _ (Ne.symm i)).trans (keep b o f e)))))))
 | succ m ih =>
  intro j s its c G st u best k
  refine YJ F.entry_max_loop (by
   refine YB Zs _ ▸ (show wpAny _ A.in1 (seqItems? (.ref S) >>= _) _ _ _ from ?_);refine J0 (Y1 u rfl (show wpAny _ A.in1 (tryCatch (pyNext (.ref I)) _ >>= _) _ _ _ from J0 (Z3 (W.item j s _ _ (by lia) st λv J p pv q keep=>?_))));have g:=keep S _ out u;rcases best with ⟨rfl,rfl⟩|⟨jp,y,rfl,K⟩
   ·show wpAny _ A.in1 (updateSeq S (λ_=>#[v,v]) >>= _) _ _ _
    refine J0 (Zb g rfl ?_);rw[nm];exact J9 ⟨YE Zs _,ih 1 _ _ _ (by lia) (W.frame _ _ _ q λb f o e=>(JN _ _ (λz:S=b=>away (z ▸ f))).trans e) (Yb _ g rfl) (.inr ⟨Nat.one_pos,v,rfl,first v pv⟩) λr x h t a=>k r x h t λb o f i e=>a b o f i ((JN _ _ (Ne.symm i)).trans (keep b o f e))⟩
   ·show wpAny _ A.in1 (tryCatch (holding [v,v] (richCompare .Gt v y >>= _)) _ >>= _) _ _ _
    refine J0 (Z3 (Y2 (J0 (more j v y _ _ _ jp pv K λyes l=>J0 (Y2 (Zh (J0 (YM (J9 ?_)))))))));cases yes
    ·rw[Jg Ji]at l
     rw[Jg Ji];refine J0 (YM ?_);rw[nm];exact J9 ⟨YE Zs _,ih (j+1) _ _ _ (by lia) q g (.inr ⟨Nat.succ_pos _,y,rfl,l⟩) λr x h t a=>k r x h t λb o f i e=>a b o f i (keep b o f e)⟩
    ·rw[Jq rfl]at l
     simp only[YZ];refine J0 (Zb g rfl (J0 (YM ?_)));rw[nm]
     exact J9 ⟨YE Zs _,ih (j+1) _ _ _ (by lia) (W.frame _ _ _ q λb f o e=>(JN _ _ (λz:S=b=>away (z ▸ f))).trans e) (Yb _ g rfl) (.inr ⟨Nat.succ_pos _,v,rfl,l⟩) λr x h t a=>k r x h t λb o f i e=>a b o f i ((JN _ _ (Ne.symm i)).trans (keep b o f e))⟩)
end
section
variable {prog:Yo}{w:YI}{A:YO}{E:Jo->JO->Prop}{s:JO}
theorem iT (a d:Jo):argsOk "max" ⟨[a],[("default",d)]⟩:=by unfold argsOk;kernel_rfl
theorem mn (d:Jo):Builtin.Builtins.bindParams "max" ["key","default"] 0 ⟨[],[("default",d)]⟩=pure [none,some d]:=by kernel_rfl
theorem j7 {x d:Jo}{Q:Jo->JO->Prop}(h:wpAny (model prog w) A.in1 (pyIter x) (λit s2=>∃ (I:JI) (fp wr:List JI) (n:Nat) (P B:Nat->Jo->Prop) (St:Nat->YP->Prop),it=.ref I/\Walks prog w A.in1 I fp wr n P St/\St 0 s2.heap/\(∀ b∈fp,b<s2.heap.objs.size)/\(∀ v,P 0 v->B 1 v) /\
   (∀ j v b (s:JO) (Q:Jo->JO->Prop) (E:Jo->JO->Prop),0<j->P j v->B j b->(∀ c,B (j+1) (if c=true then v else b)->Q (.bool c) s)->wpAny (model prog w) A.in1 (richCompare .Gt v b) Q E s) /\
   ∀ v h' tk,(n=0/\v=d\/0<n/\B n v)->(∀ b o,b∉wr->s2.heap.get? b=some o->h'.get? b=some o)->Q v { s2 with heap:=h',toks:=tk }) E s) :
  wpAny (model prog w) A (call (.builtin "max") [x] [("default",d)]) Q E s:=by
 have nm:(toString "max"++toString ".loop":String) = "max.loop":=by decide
 refine wpAny_call (codeAny_call_builtin F.plain_max F.entry_max ?_);simp only[checkBuiltinCall,F.kind_max]
 have body:wpAny (model prog w) A.in1 (Builtin.«max» ⟨[x],[("default",d)]⟩) (λfin i=>match fin with|.done f=>(match (Except.ok f:Result) with|.ok (.ret v)=>Q v i|.ok _=>False|.error e=>E e i)|.again l=>l.quiet=true/\codeAny (model prog w) A l (λr i=>match r with|.ok (.ret v)=>Q v i|.ok _=>False|.error e=>E e i) i) E s:=by
  show wpAny _ A.in1 (Builtin.Builtins.bindParams "max" ["key","default"] 0 ⟨[],[("default",d)]⟩ >>= _) _ _ _;refine J0 (wpAny_of_eq (mn d) (J0 (J9 (J0 (JB h (λit s2 z=>?_) λ_ _ e=>e)))));obtain⟨I,fp,wr,n,P,B,St,rfl,W,st,low,first,more,k⟩:=z;refine J0 (JE (by rw[nm];exact J9 ⟨YE Zs _,j8 W (λz=>Ye _ (low _ z)) d first more n 0 _ _ _ (by lia) (W.frame _ _ _ st λb _ o e=>J7 _ e) (Jk _ rfl) (.inl ⟨rfl,rfl⟩) λv h' tk p keep=>k v h' tk p λb o q e=>keep b o q (Jx (Jh e)) (J7 _ e)⟩))
 have fits:=iT x d
 cases m:Manifest.signature? "max" with
 | none=>exact J9 body
 | some g =>
  simp only[argsOk,m]at fits;have a:Bind.checkArgs "max" g ⟨[x],[("default",d)]⟩=pure ():=fits;show wpAny _ A.in1 (Bind.checkArgs "max" g ⟨[x],[("default",d)]⟩) _ _ _;rw[a];exact J9 body
end
section
variable {X:Cx}{e e2:Expr}{ta tb:TE}{p kp pos:Pos}
def gp (K:Jl)(b:Bool):R2:=λx y H Q=>∃ a ns d,x=.ref a/\y=.int d/\SqB b K H a (List.map V.int ns)/\(ns=[]->Q (.int d) H)/\(ns≠[]->∀ M,M∈ns->(∀ z∈ns,z<=M)->Q (.int M) H)
def Top (ns:List Int)(j:Nat)(v:Jo):Prop:=∃ (M:Int) (t:Tok),v=.int M t/\M∈ns/\∀ i,i<j->ns.getD i 0<=M
def on1 (f:V->Hp->Prop):List V->Hp->Prop
 | [x],H=>f x H
 | _,_=>False
theorem eE {f:V->Hp->Prop}:∀ {vs:List V}{H:Hp},on1 f vs H->∃ x,vs=[x]/\f x H
 | [x],_,h=>⟨x,rfl,h⟩
theorem bE (b:Bool) (hc:X.calm=true) (hg:Gl X "max") (C:X.mg "max" = none) (ha:PE X e ta) (hd:PE X e2 tb)
  (K:starEach [e] X.env=(false,eval e X.env)::starEach [] X.env:=by rfl)
  (F:((backTo pos (starEach [e] X.env)).any (·.1) || (backToKw pos (keywordEach [⟨some "default",e2,kp⟩] X.env)).any (·.1.isNone))=false:=by rfl)
  (m:(backToKw pos (keywordEach [⟨some "default",e2,kp⟩] X.env)).all (·.1.isSome)=true:=by rfl) (G:(backToKw pos (keywordEach [⟨some "default",e2,kp⟩] X.env)).filterMap (·.1)=[("default":Str)]:=by rfl) :
  PE X (.Call (.Name "max" p) [e] [⟨some "default",e2,kp⟩] pos) (tOp (gp X.K b) ta tb):=by
 intro pins s σ H Q I h;refine Yt (xv I hg C (u:=.builtin "max") (by rfl) ?_);refine PySem.W.callWith_of (P:=λ_=>True) F (λh _=>⟨.machine,.inr (.inl rfl),.now⟩) (evalArgs_kw2 m (thn ((zA (hs:=K) ha zC) pos pins s σ H (on1 λx E=>tb σ E λy l=>gp X.K b x y l Q) I h) λus R ⟨vs,E,I1,V,B⟩=>?_) K)
 ·obtain⟨x,rfl,B⟩:=eE B
  refine thn ((cy hd zai) pos pins R σ E (on1 λy l=>gp X.K b x y l Q) I1 B) λws q ⟨zs,l,D,U,A⟩=>⟨trivial,?_⟩
  ·obtain⟨y,rfl,A⟩:=eE A
   obtain⟨u,rfl,T⟩:=V.one;obtain⟨v,rfl,S⟩:=U.one;rw[G];obtain⟨a,ns,d,rfl,rfl,hq,Y,W⟩:=A;obtain⟨J,rfl⟩:=S;cases T;obtain⟨f,r,p⟩:=D.sq hq;obtain⟨o,n,L,_⟩:=p.ob;have hl:f.length=ns.length:=by rw[<- r.length,Jc]
   show wpAny _ _ (call (.builtin "max") [.ref a] [("default",.int d J)]) _ _ _;refine j7 (x9 p ⟨q.heap.objs.size,[q.heap.objs.size,a],[q.heap.objs.size],f.toArray.size,(λi v=>f.toArray[i]?=some v),Top ns,_,rfl,lW (show X.A.in1.handled=none from D.ok.hd hc) b _ a (Jx (Jh L)) f.toArray,⟨?_,p.mv λo e=>J7 _ e⟩,λc C=>?_,λv k=>?_,?_,?_⟩)
   ·cases b<;>exact⟨_,Jk _ rfl,rfl,rfl⟩
   ·show c<(q.heap.push _).objs.size
    rw[Ys];rcases Jp.mp C with z|z
    ·exact z ▸ Z5 _
    ·exact(Ja.mp z) ▸ Z1 (Jh L)
   ·obtain⟨l0,t,rfl⟩:=num_at r (i:=0) (by simpa using k)
    refine⟨_,t,rfl,x3 l0,λi w=>?_⟩;obtain rfl:i=0:=by simp_all
    exact Zv _
   ·intro j v bv s' Q' E' jp k ⟨M,t,e1,mem,top⟩ kk
    subst e1;obtain⟨lj,t',rfl⟩:=num_at r (i:=j) (by simpa using k);refine gt_int (kk _ ?_);by_cases g:ns.getD j 0 > M
    ·rw[JC g,Jq rfl]
     refine⟨_,t',rfl,x3 lj,λi w=>?_⟩;by_cases z:i=j
     ·rw[z];exact Zv _
     ·have:=top i (by lia);lia
    ·rw[Jt g,Jg Ji]
     refine⟨M,t,rfl,mem,λi w=>?_⟩;by_cases z:i=j
     ·rw[z];simp_all
     ·exact top i (by lia)
   ·intro v h' O k hk
    have N:=D.kept (t':=O) (h':=h') λc o e=>hk c o (λz=>Jx (Jh e) (Ja.mp z)) (J7 _ e);rw[Jf,hl]at k;rcases k with ⟨Z,rfl⟩|⟨np,M,t,rfl,mem,top⟩
    ·exact⟨.int d,l,N,⟨J,rfl⟩,Y (Zg.mp Z)⟩
    ·refine⟨.int M,l,N,⟨t,rfl⟩,W (by rintro rfl;simp at np) M mem λz hz=>?_⟩
     obtain⟨i,w,rfl⟩:=sJ hz;exact top i w
end
end L2
namespace K44
open PySem L2 Own Bn
def top (i:Nat):Stmt:=PySem.Challenge.pw_stairlanes_k44_never_farther_apart.main.body.getD i (.Pass ⟨0,0,0,0⟩)
end K44
namespace L2
open PySem PySem.Spec PyProof.Rows Own
section
variable {X:Cx}
theorem y8:OpR X (binaryOp .Add) (λx y H Q=>∃ a b xs ys,x=.ref a/\y=.ref b/\H a=some (.tup xs)/\H b=some (.tup ys)/\xs.length+ys.length<=sizeLine/\∀ r H',Same H H'->H' r=some (.tup (xs++ys))->Q (.ref r) H'):=by
 intro pins s σ H x y v u Q I o n h;obtain⟨a,b,xs,ys,rfl,rfl,j,i,F,q⟩:=h;by_cases z:xs=[]
 ·subst z
  cases o;cases n;obtain⟨L,A,C,_⟩:=I.tuple (SqT.of j);obtain⟨m,M,B,_⟩:=I.tuple (SqT.of i);cases A;obtain⟨⟨P,K,N,l⟩,w,g,E,d⟩:=C;obtain⟨⟨O,J,e2,k⟩,t,f,D,c⟩:=B;simp only at g d f c;subst g d f c;refine concat_meets ⟨_,w,rfl⟩ ⟨_,t,rfl⟩ noFill_tuple_add seq_tuple_add PySem.F.slot_tuple_add PySem.F.entry_tuple_add (PySem.F.args_tuple_add_2 _ _) (tuple_addW0 a b #[] m.toArray E D K J l k rfl) ⟨w,t,?_⟩;exact⟨.ref b,H,I,rfl,q b H (Same.refl H) (by rw[Zz];exact i)⟩
 ·exact bH pins s σ H _ _ v u Q I o n ⟨a,b,xs,ys,rfl,rfl,SqT.of j,SqT.of i,z,F,λe=>q a H (Same.refl H) (by rw[e,JT];exact j),λ_ p G=>q p _ (zD G _) zH⟩
theorem yr:SlR X (λx lo hi H Q=>∃ a xs,x=.ref a/\H a=some (.tup xs)/\∀ p H',Same H H'->H' p=some (.tup (wI xs lo hi))->Q (.ref p) H'):=by
 intro pins s σ H x v k j lo hi l Q I e i f pu h;obtain⟨a,xs,rfl,c,q⟩:=h;by_cases b:HT.sIx xs.length 0 lo=0/\HT.sIx xs.length xs.length hi=xs.length
 ·cases e
  obtain⟨d,r,g,n⟩:=I.tuple (SqT.of c);have hlen:d.toArray.size=xs.length:=by rw[Jf];exact r.length.symm
  refine⟨"tuple",_,PyProof.Rows.slot_tuple_getitem.lookup,g.typeIs,o8 g i f pu (by rw[hlen];exact b.1) (by rw[hlen];exact b.2) ⟨.ref a,H,I,rfl,q a H (Same.refl H) ?_⟩⟩;unfold wI;rw[b.1,b.2,List.drop_zero,Nat.sub_zero,JV];exact c
 ·exact ah pins s σ H _ v k j lo hi l Q I e i f pu ⟨a,xs,rfl,SqT.of c,b,λp m=>q p _ (zD m _) zH⟩
end
theorem sZ (xs:List V)(i:Nat)(h:i<=xs.length):wI xs none (some (i:Int))=xs.take i:=by
 unfold wI;rw[HT.sIx_none,HT.sIx_nat,List.drop_zero,Nat.sub_zero,YY h]
theorem si (xs:List V)(i:Nat)(h:i<=xs.length):wI xs (some (i:Int)) none=xs.drop i:=by
 unfold wI;rw[HT.sIx_none,HT.sIx_nat,YY h];exact JK (by rw[Yi];exact Je _)
end L2
namespace Bn
open PySem L2 Own
structure Grp where
 many:Int
 lane:Nat
 fork:Nat
def yG (back:Bool)(st:List Int × Nat)(k:Nat)(f:Nat × Nat):List Int × Nat :=
 if st.2=f.1\/st.2=f.2 then (st.1.set k (1-st.1.getD k 0),if (if back then 1-st.1.getD k 0 else st.1.getD k 0)=0 then f.1 else f.2) else st
def yH (back:Bool)(fs:List (Nat × Nat))(ts:List Int)(lane:Nat):Nat->List Int × Nat
 | 0=>(ts,lane)
 | i+1=>yG back (yH back fs ts lane i) i (fs.getD i (0,0))
def yB (xs:List Int)(i:Nat)(d:Int):List Int:=xs.set i (xs.getD i 0+d)
theorem yD (xs:List Int)(i:Nat)(d:Int):(yB xs i d).length=xs.length:=by simp[yB]
theorem yX {xs:List Int}{i p:Nat}{d:Int}(h:p<xs.length):(yB xs i d).getD p 0=xs.getD p 0+if i=p then d else 0:=by
 unfold yB;rw[yC h];by_cases e:i=p
 ·subst e;rw[Jq rfl,Jq rfl]
 ·rw[Jg e,Jg e,Int.add_zero]
theorem x4 {xs ys:List Int}(b:xs.length=ys.length)(h:∀ p,p<xs.length->xs.getD p 0=ys.getD p 0):xs=ys:=by
 refine List.ext_getElem b λp a c=>?_;have:=h p a
 rwa [J8,J8,J2 a,J2 c]at this
theorem wv {L T:List Int}{f:Nat × Nat}{p:Nat}(a:p<L.length):(yJ (L,T) f).1.getD p 0=if f.2=p then (L.getD f.1 0+L.getD f.2 0) / 2 else if f.1=p then (L.getD f.1 0+L.getD f.2 0+1) / 2 else L.getD p 0:=by
 unfold yJ;simp only;rw[yC (by rw[YG];exact a),yC a]
theorem eD (back:Bool)(L T:List Int)(f:Nat × Nat)(here k:Nat)(ts:List Int)(h1:f.1<L.length)(w:f.2<L.length)(ne:f.1≠f.2)(A:here<L.length)(t:ts.getD k 0=(L.getD f.1 0+L.getD f.2 0)%2) :
  let d:Int:=if back then -1 else 1
  let r:=yG back (ts,here) k f
  (yJ (yB L here d,T) f).1=yB (yJ (L,T) f).1 r.2 d/\r.2<L.length /\
   ((here=f.1\/here=f.2)->((yB L here d).getD f.1 0+(yB L here d).getD f.2 0)%2=1-ts.getD k 0)/\(¬(here=f.1\/here=f.2)->((yB L here d).getD f.1 0+(yB L here d).getD f.2 0)%2=ts.getD k 0):=by
 intro d r;have m:d=if back then -1 else 1:=rfl;have v:=yX (xs:=L) (i:=here) (d:=d) h1;have u:=yX (xs:=L) (i:=here) (d:=d) w;generalize o:L.getD f.1 0+L.getD f.2 0=c at *;have j:r=yG back (ts,here) k f:=rfl;unfold yG at j;simp only at j;by_cases on:here=f.1\/here=f.2
 ·rw[Jq on]at j
  have n:(yB L here d).getD f.1 0+(yB L here d).getD f.2 0=c+d:=by
   rw[v,u,<- o];rcases on with e|e
   ·subst e;rw[Jq rfl,Jg ne];lia
   ·subst e;rw[Jg (Ne.symm ne),Jq rfl];lia
  have h:r.2=if (if back then 1-c%2 else c%2)=0 then f.1 else f.2:=by rw[j,t]
  refine⟨x4 (by rw[yx,yD,yD,yx]) λp l=>?_,?_,λ_=>?_,λz=>absurd on z⟩
  ·rw[yx,yD]at l
   have a:p<L.length:=l;rw[wv (by rw[yD];exact a),n,yX (xs:=(yJ (L,T) f).1) (by rw[yx];exact a),wv a,o,yX (xs:=L) a,h];cases back
   ·simp only[Bool.false_eq_true,if_false]at m ⊢
    rw[m];by_cases b:f.2=p
    ·subst b
     simp only[YZ];by_cases z:c%2=0
     ·rw[Jq z,Jg ne];lia
     ·rw[Jg z,Jq rfl];lia
    ·rw[Jg b,Jg b]
     by_cases g:f.1=p
     ·subst g
      simp only[YZ];by_cases z:c%2=0
      ·rw[Jq z,Jq rfl];lia
      ·rw[Jg z,Jg (Ne.symm ne)];lia
     ·rw[Jg g,Jg g]
      have s:¬ here=p:=by rcases on with e|e<;>simp_all
      have q:¬(if c%2=0 then f.1 else f.2)=p:=by split<;>assumption
      rw[Jg s,Jg q]
   ·simp only[YZ]at m ⊢
    rw[m];by_cases b:f.2=p
    ·subst b
     simp only[YZ];by_cases z:1-c%2=0
     ·rw[Jq z,Jg ne];lia
     ·rw[Jg z,Jq rfl];lia
    ·rw[Jg b,Jg b]
     by_cases g:f.1=p
     ·subst g
      simp only[YZ];by_cases z:1-c%2=0
      ·rw[Jq z,Jq rfl];lia
      ·rw[Jg z,Jg (Ne.symm ne)];lia
     ·rw[Jg g,Jg g]
      have s:¬ here=p:=by rcases on with e|e<;>simp_all
      have q:¬(if 1-c%2=0 then f.1 else f.2)=p:=by split<;>assumption
      rw[Jg s,Jg q]
  ·rw[h]
   by_cases z:(if back=true then 1-c%2 else c%2)=0
   ·rw[Jq z];exact h1
   ·rw[Jg z];exact w
  ·rw[n,t]
   cases back<;>simp at m<;>lia
 ·rw[Jg on]at j
  have y:¬ here=f.1:=λz=>on (.inl z);have x:¬ here=f.2:=λz=>on (.inr z);rw[Jg y]at v;rw[Jg x]at u;have n:(yB L here d).getD f.1 0+(yB L here d).getD f.2 0=c:=by rw[v,u,<- o];lia
  have h:r.2=here:=by rw[j]
  refine⟨x4 (by rw[yx,yD,yD,yx]) λp l=>?_,by rw[h];exact A,λz=>absurd z on,λ_=>by rw[n,t]⟩;rw[yx,yD]at l;have a:p<L.length:=l;rw[wv (by rw[yD];exact a),n,yX (xs:=(yJ (L,T) f).1) (by rw[yx];exact a),wv a,o,yX (xs:=L) a,h];by_cases b:f.2=p
  ·rw[Jq b,Jq b,Jg (by simp_all)];lia
  ·rw[Jg b,Jg b]
   by_cases g:f.1=p
   ·rw[Jq g,Jq g,Jg (by simp_all)];lia
   ·rw[Jg g,Jg g]
structure Ran (back:Bool) (fs:List (Nat × Nat)) (cs ts:List Int) (lane i:Nat):Prop where
 flows:(zw (fs.take i) (yB cs lane (if back then -1 else 1))).1=yB (zw (fs.take i) cs).1 (yH back fs ts lane i).2 (if back then -1 else 1)
 turns:∀ k,k<i->(zw (fs.take i) (yB cs lane (if back then -1 else 1))).2.getD k 0=(yH back fs ts lane i).1.getD k 0
 rest:∀ k,i<=k->(yH back fs ts lane i).1.getD k 0=ts.getD k 0
 len:(yH back fs ts lane i).1.length=ts.length
 here:(yH back fs ts lane i).2<cs.length
 bits:∀ t∈(yH back fs ts lane i).1,t=0\/t=1
theorem ue (cs:List Int)(T:List Int):∀ (a:List (Nat × Nat)) (L:List Int) (k:Nat),k<T.length->(yU (L,T) a).2.getD k 0=T.getD k 0
 | [],_,_,_=>rfl
 | g::a,L,k,h=>by
  have:=ue cs (yJ (L,T) g).2 a (yJ (L,T) g).1 k (by simp[yJ];lia);rw[show yU (L,T) (g::a)=yU ((yJ (L,T) g).1,(yJ (L,T) g).2) a from rfl,this];show (T++[_]).getD k 0=T.getD k 0;rw[J8,Yn h,<- J8]
theorem cO {fs:List (Nat × Nat)}{i:Nat}{f:Nat × Nat}(h:fs[i]?=some f)(cs:List Int):(zw fs cs).2.getD i 0=((zw (fs.take i) cs).1.getD f.1 0+(zw (fs.take i) cs).1.getD f.2 0)%2:=by
 have sp:fs=fs.take (i+1)++fs.drop (i+1):=(List.take_append_drop _ _).symm
 have e:zw fs cs=yU (zw (fs.take (i+1)) cs) (fs.drop (i+1)):=by
  conv=>lhs;rw[sp]
  unfold zw yU;rw[YN]
 have b:i<fs.length:=(Jd.mp h).1;have a:(zw (fs.take i) cs).2.length=i:=by rw[xA,Js];lia
 rw[e,xC h];have:=ue cs (yJ (zw (fs.take i) cs) f).2 (fs.drop (i+1)) (yJ (zw (fs.take i) cs) f).1 i (by simp[yJ,a]);rw[this];unfold yJ;simp only;rw[J8,Yv (by lia),a];simp
theorem pZ {ts:List Int}{k:Nat}(h:∀ t∈ts,t=0\/t=1):∀ t∈ts.set k (1-ts.getD k 0),t=0\/t=1:=λt a=>by
 rcases List.mem_or_eq_of_mem_set a with z|z
 ·exact h t z
 ·by_cases b:k<ts.length
  ·have:=h _ (L2.x3 b);lia
  ·rw[List.set_eq_of_length_le (by simp_all)]at a;exact h t a
theorem ran {back:Bool}{fs:List (Nat × Nat)}{cs:List Int}{lane:Nat}(ok:∀ f∈fs,f.1<cs.length/\f.2<cs.length/\f.1≠f.2)(h:lane<cs.length)(hb:∀ t∈(zw fs cs).2,t=0\/t=1):∀ i,i<=fs.length->Ran back fs cs (zw fs cs).2 lane i
 | 0,_=>⟨rfl,λk b=>absurd b (ZB _),λ_ _=>rfl,rfl,h,hb⟩
 | i+1,hi=>by
  have ih:=ran (back:=back) ok h hb i (by lia);have c:fs[i]?=some fs[i]:=J2 (by lia);have w:fs.getD i (0,0)=fs[i]:=by rw[J8,c];rfl
  have d:=ok _ (JA (show i<fs.length by lia));have j:=xC c (yB cs lane (if back then -1 else 1));have e2:=xC c cs;have tt:=cO c cs;generalize fs[i]=f at *;have g:(zw (fs.take i) cs).1.length=cs.length:=xF _ _;have n:(zw (fs.take i) (yB cs lane (if back then -1 else 1))).2.length=i:=by rw[xA,Js];lia
  have o:(zw fs cs).2.length=fs.length:=xA _ _;have of:=eD back (zw (fs.take i) cs).1 (zw (fs.take i) (yB cs lane (if back then -1 else 1))).2 f (yH back fs (zw fs cs).2 lane i).2 i (yH back fs (zw fs cs).2 lane i).1 (by simp_all) (by simp_all) d.2.2 (by rw[g];exact ih.here) (by rw[ih.rest i (Je _)];exact tt);obtain⟨u,s,q,p⟩:=of;have rs:yH back fs (zw fs cs).2 lane (i+1)=yG back ((yH back fs (zw fs cs).2 lane i).1,(yH back fs (zw fs cs).2 lane i).2) i f:=by show yG _ _ _ _=_;rw[w]
  have st:zw (fs.take i) (yB cs lane (if back then -1 else 1))=(yB (zw (fs.take i) cs).1 (yH back fs (zw fs cs).2 lane i).2 (if back then -1 else 1),(zw (fs.take i) (yB cs lane (if back then -1 else 1))).2):=by rw[<- ih.flows]
  generalize a:yH back fs (zw fs cs).2 lane i=r at *;generalize v:(zw (fs.take i) (yB cs lane (if back then -1 else 1))).2=T at *
  have m:(yG back (r.1,r.2) i f).1.getD i 0=(yJ (yB (zw (fs.take i) cs).1 r.2 (if back then -1 else 1),T) f).2.getD i 0:=by
   unfold yJ;simp only;rw[J8 (l:=T++_),Yv (by simp_all),n];simp only[Nat.sub_self,List.getElem?_cons_zero,Z6];unfold yG;by_cases on:r.2=f.1\/r.2=f.2
   ·rw[Jq on,q on]
    simp only;rw[yC (by have z:=ih.len;rw[a,o]at z;lia),Jq rfl]
   ·rw[Jg on,p on]
  have keep:∀ k,k≠i->(yG back (r.1,r.2) i f).1.getD k 0=r.1.getD k 0:=λk b=>by
   unfold yG;split
   ·simp only
    rw[J8,List.getElem?_set_ne (Ne.symm b),<- J8]
   ·rfl
  refine⟨?_,λk b=>?_,λk b=>?_,?_,?_,?_⟩
  ·rw[j,st,u,rs,e2,show zw (fs.take i) cs=((zw (fs.take i) cs).1,(zw (fs.take i) cs).2) from rfl];rfl
  ·rw[j,st,rs]
   by_cases e:k=i
   ·subst e;exact m.symm
   ·have z:=ih.turns k (by lia)
    rw[a,v]at z;rw[keep k e,<- z];unfold yJ;simp only;rw[J8,Yn (by lia),<- J8]
  ·have z:=ih.rest k (by lia)
   rw[a]at z;rw[rs,keep k (by lia),z]
  ·rw[rs]
   unfold yG;split
   ·simp only;rw[YG,<- ih.len,a]
   ·rw[<- ih.len,a]
  ·rw[rs,<- g];exact s
  ·rw[rs]
   unfold yG;split
   ·exact pZ (by have z:=ih.bits;rw[a]at z;exact z)
   ·have z:=ih.bits;rw[a]at z;exact z
theorem vW {back:Bool}{fs:List (Nat × Nat)}{ts:List Int}{lane:Nat}(h:∀ t∈ts,t=0\/t=1):∀ i,∀ t∈(yH back fs ts lane i).1,t=0\/t=1
 | 0=>h
 | i+1=>by
  have ih:=vW (back:=back) (fs:=fs) (lane:=lane) h i;show ∀ t∈(yG back (yH back fs ts lane i) i (fs.getD i (0,0))).1,t=0\/t=1;unfold yG;split
  ·exact pZ ih
  ·exact ih
theorem uS {back:Bool}{fs:List (Nat × Nat)}{ts:List Int}{lane:Nat}:∀ i,(yH back fs ts lane i).1.length=ts.length
 | 0=>rfl
 | i+1=>by
  have ih:=uS (back:=back) (fs:=fs) (ts:=ts) (lane:=lane) i;show (yG back (yH back fs ts lane i) i (fs.getD i (0,0))).1.length=_;unfold yG;split
  ·simp only;rw[YG];exact ih
  ·exact ih
theorem vV {back:Bool}{fs:List (Nat × Nat)}{ts:List Int}{lane n:Nat}(ok:∀ f∈fs,f.1<n/\f.2<n/\f.1≠f.2)(b:lane<n):∀ i,i<=fs.length->(yH back fs ts lane i).2<n
 | 0,_=>b
 | i+1,hi=>by
  have ih:=vV (back:=back) (ts:=ts) ok b i (by lia);have a:=ok _ (JA (show i<fs.length by lia));have c:fs.getD i (0,0)=fs[i]:=by rw[J8,J2 (show i<fs.length by lia)];rfl
  show (yG back (yH back fs ts lane i) i (fs.getD i (0,0))).2<n;rw[c];generalize fs[i]=f at *;unfold yG;split
  ·simp only
   by_cases z:(if back=true then 1-(yH back fs ts lane i).1.getD i 0 else (yH back fs ts lane i).1.getD i 0)=0
   ·rw[Jq z];exact a.1
   ·rw[Jg z];exact a.2.1
  ·exact ih
theorem o5 (k:Nat):∀ a:List Nat,(a.map λ(e:Nat)=>(e:Int)).idxOf (k:Int)=a.idxOf k
 | []=>rfl
 | e::a=>by
  rw[JU,List.idxOf_cons,List.idxOf_cons,o5 k a]
  have:((e:Int) == (k:Int))=(e == k):=by
   rw[Yf,beq_iff_eq];rw[beq_iff_eq];lia
  rw[this]
theorem eP (a:List Nat):zU a=(a.map λ(e:Nat)=>(e:Int)).map V.int:=by unfold zU;rw[List.map_map];rfl
def gN:Sp:=λb H Q _=>∃ r fr d c N,∃ a:Nat,b=[.ref r,.int a]/\Nt.Ok N/\NetAt H r fr d c N/\a<N.lanes/\Q (.int (N.ends.idxOf a:Nat)) H
def RunQ (back:Bool)(vs:List V)(H:Hp)(Q:VK):Prop:=∃ r fr g f N e b,∃ a:Nat,vs=[.ref r,.ref e,.int a]/\Nt.Ok N/\NetAt H r fr g f N/\H e=some (.tup (List.map V.int b))/\b.length=N.forks.length/\(∀ t∈b,t=0\/t=1)/\a<N.lanes /\
 ∀ p c d,Same H d->d p=some (.tup [.ref c,.int (N.ends.idxOf (yH back N.forks b a N.forks.length).2:Nat)])->d c=some (.tup ((yH back N.forks b a N.forks.length).1.map V.int))->Q (.ref p) d
def nh (back:Bool):Sp:=λa H Q _=>RunQ back a H Q
def gK:Sp:=λb H Q _=>∃ (a:List V) (back:Bool),b=a++[.bl back]/\RunQ back a H Q
theorem cX (xs:List Int)(i:Nat)(v:Int)(h:i<xs.length):(xs.map V.int).take i++[V.int v]++(xs.map V.int).drop (i+1)=(xs.set i v).map V.int:=by
 rw[List.set_eq_take_append_cons_drop,Jq h,JG,JU,List.map_take,List.map_drop,Y0];rfl
def part (m:Int)(lane k:Nat):List Grp:=if m=0 then [] else [⟨m,lane,k⟩]
end Bn
namespace L2
open PySem PySem.Spec PyProof.Rows Own
section
variable {X:Cx}
theorem Inv.big {pins:List (JI × Obj)}{σ:St}{H:Hp}{s:JO}(I:Inv X pins σ H s):sysModules<s.heap.objs.size:=by
 have h:mainGlobals<s.heap.objs.size:=(I.mod.glob.keeps I.bk).lt;exact Nat.lt_trans (by decide) h
end
end L2
namespace L2
open PySem PySem.Spec PyProof.Rows Own
def LtAt (A:YO)(s:JO)(y x:Jo)(b:Bool):Prop:=∀ (prog:Yo) (w:YI) (E:Jo->JO->Prop) (Q:Jo->JO->Prop),Q (.bool b) s->wpAny (model prog w) A (richCompare .Lt y x) Q E s
theorem LtAt.ints {A:YO}{s:JO}(a b:Int)(t u:Tok):LtAt A s (.int a t) (.int b u) (decide (a<b)):=λ_ _ _ _ h=>lt_int h
theorem ot (l b:JI)(xs ys:Array Jo)(n m:Nat)(L K:Option JI)(p o:Array (Option Jo))(k:Nat)(k1:k<xs.size)(k2:k<ys.size)(c:Bool) :
  Meets (Builtin.«tuple.__lt__» ⟨[.ref l,.ref b],[]⟩)
   (λA R s=>s.heap.get? l=some { cls:=.type "tuple",dict:=L,data:=.seq xs n,slots:=p }/\s.heap.get? b=some { cls:=.type "tuple",dict:=K,data:=.seq ys m,slots:=o } /\
    (∀ j (N:j<xs.size) (M:j<ys.size),j<k->SeqAt.EqAt A.in1 s xs[j] ys[j] true)/\SeqAt.EqAt A.in1 s xs[k] ys[k] false/\LtAt A.in1 s xs[k] ys[k] c/\R (.ok (.ret (.bool c))) s) :=
 .of_wp λprog w A R s h=>by
  obtain⟨D,g,d,u,os⟩:=s;obtain⟨E,I,G,F,H,h⟩:=h;have kinds:=AutoSeq1.sub_tuple_tuple;have r:(xs.toList.zip ys.toList).length=min xs.size ys.size:=by simp
  wp_walk using wpAny_loadPart' E,wpAny_loadPart' I,wpAny_forIn_list _ (λrest b e=>b.1=none/\e=⟨D,g,d,u,os⟩/\∃ i,i<=k/\rest=(xs.toList.zip ys.toList).drop i) _
  case turn =>
   rintro⟨y,x⟩ rest b e ⟨q,rfl,i,v,a⟩;have C:i<xs.size:=by lia
   have B:i<ys.size:=by lia
   have f:i<(xs.toList.zip ys.toList).length:=by rw[r];lia
   rw[ZJ f]at a;obtain⟨t,e2⟩:=List.cons.inj a;have J:y=xs[i]:=by simpa using JL Prod.fst t
   have ex:x=ys[i]:=by simpa using JL Prod.snd t
   subst J ex;by_cases z:i=k
   ·subst z
    refine J0 (F prog w _ _ ?_);simp only[YZ,Bool.not_false];refine J0 (YF (J0 (H prog w _ _ ?_)))
    wp_walk
    exact⟨_,rfl,h⟩
   ·refine J0 (G i C B (by lia) prog w _ _ ?_)
    wp_walk
    exact⟨rfl,rfl,i+1,by lia,e2⟩
  case fin =>
   rintro⟨P,O⟩ e ⟨q,rfl,i,v,a⟩;have f:i<(xs.toList.zip ys.toList).length:=by rw[r];lia
   rw[ZJ f]at a;cases a
  case h =>
   exact⟨rfl,rfl,0,JM _,rfl⟩
theorem LtAt.tuples {A:YO}{s:JO}{l b:JI}{xs ys:Array Jo}{k:Nat}{c:Bool}(t:IsTup s.heap l xs)(hb:IsTup s.heap b ys)(r:A.units<cLine)(k1:k<xs.size)(k2:k<ys.size)(v:∀ j (h1:j<xs.size) (G:j<ys.size),j<k->SeqAt.EqAt A.in1 s xs[j] ys[j] true)(u:SeqAt.EqAt A.in1 s xs[k] ys[k] false)(y:LtAt A.in1 s xs[k] ys[k] c):LtAt A s (.ref l) (.ref b) c:=λprog w E Q h=>by
 obtain⟨⟨D,f,B,d⟩,i,q,n,o⟩:=t;obtain⟨⟨C,e,z,a⟩,g,p,m,e2⟩:=hb;simp only at q o p e2;subst q o p e2;exact richCompare_meets_room (op:=.Lt) ⟨_,i,rfl⟩ ⟨_,g,rfl⟩ F.slot_tuple_lt F.entry_tuple_lt (F.args_tuple_lt_2 _ _) (ot l b xs ys n m f e d a k k1 k2 c) ⟨i,g,v,u,y,show Value.bool c≠Value.notImplemented/\Q (.bool c) s from⟨(λx=>nomatch x),h⟩⟩ r
end L2
namespace K44
open PySem L2 Own Bn
abbrev mF:Stmt:=top 11
abbrev mI:Stmt:=top 12
def qS:Sp:=λd H Q _=>∃ a b,∃ (place:Nat) (v:Int),d=[.ref a,.int place,.int v]/\H a=some (.tup (List.map V.int b))/\place<b.length/\b.length<=1000/\∀ p c,Same H c->c p=some (.tup ((b.set place v).map V.int))->Q (.ref p) c
def um:Sp:=λd H Q _=>∃ a b,∃ (place:Nat) (v:Int),d=[.ref a,.int place,.int v]/\H a=some (.tup (List.map V.int b))/\place<b.length/\b.length<=1000/\∀ p c,Same H c->c p=some (.tup ((b.set place (b.getD place 0+v)).map V.int))->Q (.ref p) c
section
variable {P:Yo}{w:YI}{K:Jl}{mg:Str->Option Jo}{base:YP}
theorem zbJ:FnScope ["row","place","value"] ["row","place","value"] (zR mF):=by trivial
theorem eJ {f:JI}{fd:Yl}(F:Fun K "given_at" "given_at" mF f fd) (G:Mgs mg):FnOk P w K mg base CX0 1 f fd ["row","place","value"] qS:=by
 refine F.ok zbJ (λl H Q E h=>?_) (λC A outer s H l Q E J h=>?_)
 ·obtain⟨a,b,place,v,rfl,_⟩:=h
  rfl
 obtain⟨a,b,place,v,rfl,g,p,D,k⟩:=h;refine⟨_,(@zM _ _ _ (@zW _ _ _ _ (@zS _ _ _ _ _ _ _ _ y8 (@zS _ _ _ _ _ _ _ _ y8 (@yK _ _ _ _ _ _ _ _ _ _ yr (@pvb _ 0 _ _ rfl) yR (@zy _ _ _ (@pvb _ 1 _ _ rfl))) (@zj _ _ _ _ _ (@zA _ _ _ _ _ (@pvb _ 2 _ _ rfl) zC rfl))) (@yK _ _ _ _ _ _ _ _ _ _ yr (@pvb _ 0 _ _ rfl) (@zy _ _ _ (@zS _ _ _ _ _ _ _ _ yQ (@pvb _ 1 _ _ rfl) zG)) yR)))),?_⟩;have I:(b.map V.int).length=b.length:=Jc _;refine zB (zB (zY rfl ⟨a,_,rfl,g,λx N o j=>?_⟩));rw[sZ _ place (by lia)]at j;refine zB ⟨(by show 1<=sizeLine;decide),λu c=>?_⟩;have e:=zD c (.tup [.int v]);refine⟨x,u,_,_,rfl,rfl,e _ _ j,zH,?_,λt M n z=>?_⟩
 ·rw[Js,Ju];show _+1<=_;grind
 have u3:=(o.trans e).trans n;refine zB (zB ⟨_,_,rfl,rfl,_,rfl,a,_,rfl,u3 _ _ g,λr L d i=>?_⟩);rw[show ((place:Int)+1)=((place+1:Nat):Int) from rfl,si _ (place+1) (by lia)]at i;refine⟨t,r,_,_,rfl,rfl,d _ _ z,i,?_,λq B m y=>?_⟩
 ·rw[Jb,Js,Yi,Ju];show _+1+_<=_;grind
 exact k q B ((u3.trans d).trans m) (by rw[y,cX b place v p])
theorem zbO:FnScope ["counts","place","many"] ["counts","place","many"] (zR mI):=by trivial
theorem eO {f j:JI}{fd l:Yl}(F:Fun K "added" "added" mI f fd) (G:Mgs mg) (m:Use P w K mg base "given_at" ["row","place","value"] 1 qS j l):FnOk P w K mg base CX0 2 f fd ["counts","place","many"] um:=by
 refine F.ok zbO (λg H Q E h=>?_) (λn A outer s H g Q E i h=>?_)
 ·obtain⟨a,b,place,v,rfl,_⟩:=h
  rfl
 obtain⟨a,b,place,v,rfl,d,c,e,k⟩:=h;refine⟨_,(@zM _ _ _ (@zW _ _ _ _ (@zQ _ _ _ _ _ _ _ _ _ _ _ _ m i (@zA _ _ _ _ _ (@pvb _ 0 _ _ rfl) (@zA _ _ _ _ _ (@pvb _ 1 _ _ rfl) (@zA _ _ _ _ _ (@zS _ _ _ _ _ _ _ _ yQ (@zX _ _ _ _ _ _ _ yA (@pvb _ 0 _ _ rfl) (@pvb _ 1 _ _ rfl) (λ_ _=>rfl)) (@pvb _ 2 _ _ rfl)) zC rfl) rfl) rfl) rfl rfl rfl rfl))),?_⟩;exact zB (zB (zB (zB ⟨a,_,_,_,rfl,rfl,SqT.of d,xI c,_,rfl,_,_,rfl,rfl,a,b,place,_,rfl,d,c,e,k⟩)))
end
end K44
namespace L2
open PySem PySem.Spec PyProof.Rows
section
variable [DecidableEq κ]
theorem RelO.isSome_eq {o:Option V}{u:Option Jo}(r:RelO o u):o.isSome=u.isSome:=by
 cases o with
 | none=>cases u with
  | none=>rfl
  | some _=>exact(show False from r).elim
 | some _=>cases u with
  | none=>exact(show False from r).elim
  | some _=>rfl
theorem RelO.getD {o:Option V}{u:Option Jo}{d:V}{d':Jo}(r:RelO o u)(a:RelV d d'):RelV (o.getD d) (u.getD d'):=by
 cases o with
 | none=>cases u with
  | none=>exact a
  | some _=>exact(show False from r).elim
 | some _=>cases u with
  | none=>exact(show False from r).elim
  | some _=>exact r
end
theorem zbo {P:Yo}{w:YI}{k:Key}{u:Jo}(r:RelV (kV k) u):(yi P w).is k u=true:=by
 cases k with
 | inl i=>obtain⟨t,e⟩:=(show ∃ t,u=Value.int i t from r);subst e;exact oi P w i t
 | inr x=>obtain⟨t,e⟩:=(show ∃ t,u=Value.str x t from r);subst e;exact oh P w x t
theorem rg {P:Yo}{w:YI}:∀ {ks:List Key}{us:List Jo},Vals (ks.map kV) us->ItemsAre (yi P w) ks us
 | [],_,r=>by rw[List.map_nil]at r;cases r;exact .nil
 | k::ks,_,r=>by
  rw[JU]at r
  cases r with
  | cons h t=>exact .cons (zbo h) (rg t)
section
variable {P:Yo}{w:YI}{H:Hp}{h:YP}{a:JI}
theorem aK {u:HO}(ok:HOk P w H h)(e:Rd H a u):ObjOk P w H h a u:=e.ok ok
theorem zaB {ks:List Key}(ok:HOk P w H h)(e:H a=some (.tup (ks.map kV))):(tupleKind (yi P w)).is h ks a:=by
 obtain⟨_,b,r,o,f,d,n,c⟩:=(show ObjOk P w H h a (.tup (ks.map kV)) from ok a _ e);exact⟨o,b.toArray,n,f,d,c.1,by simpa using rg r⟩
end
section
variable {X:Cx}{pins:List (JI × Obj)}{σ:St}{H:Hp}{s:JO}{a:JI}
theorem pH {h':YP}{t':Nat}{ob:HO}(I:Inv X pins σ H s)(c:Mut (H a))(hs:Heap.SameBut a s.heap h')(d:∃ q,h'.get? a=some q)(new:ObjOk X.prog X.w (upd H a ob) h' a ob) :
  Inv X pins σ (upd H a ob) { s with heap:=h',toks:=t' } :=
 I.write (x:=a) (e:=a) c (.inl rfl) (λb q f z=>(hs.2 b f).trans z) d new
end
def gG:List (TE × TE)->St->Hp->(List (V × V)->Hp->Prop)->Prop
 | [],_,H,Q=>Q [] H
 | (tk,a)::r,σ,H,Q=>tk σ H λx d=>a σ d λy c=>gG r σ c λps b=>Q ((x,y)::ps) b
abbrev VV:List (V × V)->List (Jo × Jo)->Prop:=Paired λp q=>RelV p.1 q.1/\RelV p.2 q.2
def PPs (X:Cx)(pos:Pos)(keys:List (Option Expr))(values:List Expr)(a:List (TE × TE)):Prop :=
 ∀ (pins:List (JI × Obj)) (s:JO) (σ:St) (H:Hp) (Q:List (V × V)->Hp->Prop),Inv X pins σ H s->gG a σ H Q ->
  wpAny (model X.prog X.w) X.A (evalPairs (pairTrees keys values X.env pos)) (λd e=>∃ b c,Inv X pins σ c e/\VV b d/\Q b c) X.xe s
theorem cw {X:Cx}{pos:Pos}:PPs X pos [] [] []:=λpins s σ H Q I h=>pairTrees_nil_walk ⟨[],H,I,.nil,h⟩
theorem g9 {X:Cx}{pos:Pos}{k v:Expr}{ks:List (Option Expr)}{vs:List Expr}{tk b:TE}{a:List (TE × TE)}(o:PE X k tk)(m:PE X v b)(n:PPs X pos ks vs a) :
  PPs X pos (some k::ks) (v::vs) ((tk,b)::a):=λpins s σ H Q I h =>
 pairTrees_cons_walk (thn (o pins s σ H _ I h) λu d ⟨x,z,r,f,j⟩=>thn (m pins d σ z _ r j) λA c ⟨y,w,q,e,i⟩ =>
  thn (n pins c σ w _ q i) λws B ⟨l,t,p,rel,g⟩=>⟨(x,y)::l,t,p,.cons ⟨f,e⟩ rel,g⟩)
structure M1 (X:Cx) (o:Expr) (m:Str) (apos:Pos) (e:Expr) (cpos:Pos):Prop where
 base:attributeBase o m X.env (eval o X.env)=eval o X.env
 few:((backTo cpos (starEach [e] X.env)).all (λx=>!x.1) && (backToKw cpos (keywordEach [] X.env)).all (λx=>x.1.isSome)
  && decide (([e]:List Expr).length+([]:List Keyword).length+(if ([]:List Keyword).isEmpty then 0 else 1)<30))=true
 line:(apos.endLine == cpos.line)=true
 trees:backTo cpos (starEach [e] X.env)=[(false,eval e X.env)]
structure M2 (X:Cx) (o:Expr) (m:Str) (apos:Pos) (e f:Expr) (cpos:Pos):Prop where
 base:attributeBase o m X.env (eval o X.env)=eval o X.env
 few:((backTo cpos (starEach [e,f] X.env)).all (λx=>!x.1) && (backToKw cpos (keywordEach [] X.env)).all (λx=>x.1.isSome)
  && decide (([e,f]:List Expr).length+([]:List Keyword).length+(if ([]:List Keyword).isEmpty then 0 else 1)<30))=true
 line:(apos.endLine == cpos.line)=true
 trees:backTo cpos (starEach [e,f] X.env)=[(false,eval e X.env),(false,eval f X.env)]
end L2
namespace L2
open PySem PySem.Spec PyProof.Rows Own
theorem jA:∀ {ds:List PyData}{n:Nat},(∀ e∈ds,e.canLay0=true/\e.depth<=n)->PyData.canLayAll0 ds=true/\PyData.depthAll ds<=n
 | [],_,_=>⟨rfl,JM _⟩
 | d::ds,n,h=>by
  obtain⟨a1,a2⟩:=h d JH;obtain⟨b,c⟩:=jA (ds:=ds) λe a=>h e (JJ _ a);refine⟨?_,?_⟩
  ·show (d.canLay0 && PyData.canLayAll0 ds)=true
   rw[a1,b];rfl
  ·show max d.depth (PyData.depthAll ds)<=n
   lia
abbrev KI:=Int ⊕ List Int
abbrev KN:=List KI
section
variable (prog:Yo)(w:YI)
def NIt (h:YP):KI->Jo->Prop
 | .inl i,v=>∃ t,v=.int i t
 | .inr xs,v=>∃ b,v=.ref b/\IsTupleKey (yi prog w) h (xs.map Sum.inl) b
def NIts (h:YP):KN->List Jo->Prop
 | [],vs=>vs=[]
 | k::ks,vs=>∃ v r,vs=v::r/\NIt prog w h k v/\NIts h ks r
def NIs (h:YP)(ks:KN)(a:JI):Prop:=∃ o items n,h.get? a=some o/\o.cls=.type "tuple"/\o.data=.seq items n/\NIts prog w h ks items.toList
def nh1:KI->Int
 | .inl i=>hashInt i
 | .inr xs=>tupleKeyHash (yi prog w) (xs.map Sum.inl)
def nd1:KI->Nat
 | .inl _=>1
 | .inr xs=>xs.length+1
def nds (ks:KN):Nat:=(ks.map nd1).sum
end
variable {prog:Yo}{w:YI}{A:YO}{E:Jo->JO->Prop}
theorem br {a b:List Int}(h:a.map (Sum.inl:Int->Key)=b.map Sum.inl):a=b :=
 List.map_inj_right (λx y e=>Sum.inl.inj e) |>.mp h
theorem NIt.inj {h:YP}{x y:KI}{v:Jo}(a:NIt prog w h x v)(b:NIt prog w h y v):x=y:=by
 cases x with
 | inl i =>
  obtain⟨t,rfl⟩:=a
  cases y with
  | inl j=>obtain⟨u,e⟩:=b;cases e;rfl
  | inr f=>obtain⟨b,e,_⟩:=b;cases e
 | inr l =>
  obtain⟨c,rfl,k⟩:=a
  cases y with
  | inl j=>obtain⟨u,e⟩:=b;cases e
  | inr f =>
   obtain⟨d,e,g⟩:=b;cases e;rw[br (k.inj g)]
theorem NIts.inj {h:YP}:∀ {x y:KN}{vs:List Jo},NIts prog w h x vs->NIts prog w h y vs->x=y
 | [],[],_,_,_=>rfl
 | [],_::_,_,a,b=>by obtain⟨v,r,e,_⟩:=b;rw[show _=[] from a]at e;cases e
 | _::_,[],_,a,b=>by obtain⟨v,r,e,_⟩:=a;rw[show _=[] from b]at e;cases e
 | x::j,y::i,_,a,b=>by
  obtain⟨v,r,rfl,g,f⟩:=a;obtain⟨k,l,e,d,c⟩:=b;cases e;rw[g.inj d,NIts.inj f c]
theorem NIs.inj {h:YP}{x y:KN}{a:JI}(p:NIs prog w h x a)(q:NIs prog w h y a):x=y:=by
 obtain⟨o,j,n,g,_,f,e⟩:=p;obtain⟨k,d,l,c,_,b,i⟩:=q;rw[g]at c;cases c;rw[f]at b;cases b;exact e.inj i
theorem NIt.keeps {h h':YP}{d:JI}{o:Obj}{es ep}(hd:h.get? d=some o)(c:o.data=.dict es ep)(s:Heap.SameBut d h h'){k:KI}{v:Jo}(a:NIt prog w h k v):NIt prog w h' k v:=by
 cases k with
 | inl i=>exact a
 | inr g =>
  obtain⟨b,e,f⟩:=a;exact⟨b,e,f.keeps hd c s⟩
theorem NIts.keeps {h h':YP}{d:JI}{o:Obj}{es ep}(hd:h.get? d=some o)(b:o.data=.dict es ep)(s:Heap.SameBut d h h'):∀ {ks:KN}{vs:List Jo},NIts prog w h ks vs->NIts prog w h' ks vs
 | [],_,a=>a
 | k::ks,_,a=>by
  obtain⟨v,r,e,a1,a2⟩:=a;exact⟨v,r,e,a1.keeps hd b s,NIts.keeps hd b s a2⟩
theorem NIs.keeps {h h':YP}{ks:KN}{a d:JI}{o:Obj}{es ep}(p:NIs prog w h ks a)(hd:h.get? d=some o)(f:o.data=.dict es ep)(s:Heap.SameBut d h h'):NIs prog w h' ks a:=by
 obtain⟨g,e,n,c,j,b,i⟩:=p;refine⟨g,e,n,?_,j,b,i.keeps hd f s⟩;rw[s.2 a (by rintro rfl;rw[hd]at c;cases c;rw[f]at b;cases b)];exact c
theorem sS:∀ (ks:KN) (vs:List Jo) (hs:Array Int) (s:JO) (Q:Array Int->JO->Prop),A.units<cLine->NIts prog w s.heap ks vs->Q (hs++(ks.map (nh1 prog w)).toArray) { s with toks:=s.toks+nds ks } ->
  wpAny (model prog w) A (forIn vs hs λx hs=>(do let r <- pyHash x;pure (ForInStep.yield (hs.push r)))) Q E s
 | [],vs,hs,s,Q,c,a,q=>by
  rw[show vs=[] from a,Zm];refine J9 ?_
  simpa [nds] using q
 | k::ks,vs,hs,s,Q,c,a,q=>by
  obtain⟨v,r,rfl,d,h⟩:=a;rw[YH]
  have g:∀ (m:Nat),m=nd1 k->({ s with toks:=s.toks+m+nds ks }:JO)={ s with toks:=s.toks+nds (k::ks) }:=λm e=>by
   subst e;unfold nds;rw[JU,List.sum_cons,Nat.add_assoc]
  have e2:hs.push (nh1 prog w k)++(ks.map (nh1 prog w)).toArray=hs++((k::ks).map (nh1 prog w)).toArray:=by simp
  have go:∀ (m:Nat),m=nd1 k->wpAny (model prog w) A (forIn r (hs.push (nh1 prog w k)) λx hs=>(do let r <- pyHash x;pure (ForInStep.yield (hs.push r)))) Q E { s with toks:=s.toks+m }:=λm e =>
   sS ks r (hs.push (nh1 prog w k)) { s with toks:=s.toks+m } Q c h (by rw[e2];have:=g m e;simp only at this ⊢;rw[this];exact q)
  cases k with
  | inl i =>
   obtain⟨t,rfl⟩:=d
   exact J0 (J0 (wpAny_pyHash_int (J9 (go 1 rfl))))
  | inr j =>
   obtain⟨b,rfl,f⟩:=d;exact J0 (J0 (wpAny_pyHash_tuple c f (J9 (go _ (by rw[Jc];rfl)))))
theorem iO {s:JO}{a:JI}{ks:KN}{Q:Int->JO->Prop}(c:A.units+1<cLine)(d:NIs prog w s.heap ks a)(q:Q (reduceHash (Builtin.Tuple.tupleHashOf (ks.map (nh1 prog w)))) { s with toks:=s.toks+(nds ks+1) }):wpAny (model prog w) A (pyHash (.ref a)) Q E s:=by
 obtain⟨o,h,n,b,g,f,e⟩:=d;show wpAny (model prog w) A (pyHashByItsType (.ref a)) Q E s;refine W.pyHash_slot (T:="tuple") (id:="tuple.__hash__") (B:=Builtin.«tuple.__hash__») ⟨o,b,g⟩ F.slot_tuple_hash F.entry_tuple_hash (F.args_tuple_hash_1 _) (by decide) (.inr (by lia)) ?_;unfold Builtin.«tuple.__hash__»;refine J0 ?_;show wpAny _ _ (pure _) _ _ _;refine J9 (J0 (wpAny_tupleItemsOf b f ?_));rw[<- Array.forIn_toList];refine J0 (sS ks _ _ s _ c e ?_);simp only[Array.empty_append];unfold retInt;exact J0 (wpAny_mkInt (J9 ⟨_,_,rfl,q⟩))
theorem rN {i:Int}{t:Tok}{n:Nat}{s:JO}{Q:Bool->JO->Prop}(q:Q true s):wpAny (model prog w) A (eqIsQuiet n (.int i t)) Q E s:=by
 cases n<;>exact J9 q
theorem ua {n:Nat}{s:JO}:∀ (vs:List Jo) (Q:Option Bool × Unit->JO->Prop),(∀ v∈vs,∀ R:Bool->JO->Prop,R true s->wpAny (model prog w) A (eqIsQuiet n v) R E s)->Q (none,()) s ->
  wpAny (model prog w) A (forIn vs ((none,()):Option Bool × Unit) λy _=>(do
   let b <- eqIsQuiet n y
   if (!b)=true then pure (ForInStep.done (some false,())) else pure (ForInStep.yield (none,())))) Q E s
 | [],Q,_,q=>by rw[Zm];exact J9 q
 | v::vs,Q,h,q=>by
  rw[YH];exact J0 (J0 (h v JH _ (J9 (ua vs Q (λu a=>h u (JJ _ a)) q))))
theorem rM {s:JO}{a:JI}{o:Obj}{its:Array Jo}{m n:Nat}{Q:Bool->JO->Prop}(c:s.heap.get? a=some o) (d:o.cls=.type "tuple") (hd:o.data=.seq its m)
  (h:∀ v∈its.toList,∀ R:Bool->JO->Prop,R true s->wpAny (model prog w) A (eqIsQuiet n v) R E s) (q:Q true s):wpAny (model prog w) A (eqIsQuiet (n+1) (.ref a)) Q E s:=by
 have ty:s.TypeIs (.ref a) "tuple":=⟨o,c,d⟩;unfold eqIsQuiet;refine J0 (wpAny_specialOf (T:="tuple") ty F.slot_tuple_eq.lookup (J0 (wpAny_isInstance (T:="tuple") (b:=true) ty rfl ?_)));show wpAny _ _ (do let _ <- seqItems? _;_) _ _ _;refine J0 (Y1 c hd (J0 ?_));rw[Z6,<- Array.forIn_toList];exact ua _ _ h (J9 q)
theorem NIts.mem {h:YP}:∀ {ks:KN}{vs:List Jo},NIts prog w h ks vs->∀ v∈vs,∃ k,NIt prog w h k v
 | [],_,a,v,b=>by rw[show _=[] from a]at b;cases b
 | k::ks,_,a,v,b=>by
  obtain⟨x,r,rfl,a1,a2⟩:=a;rcases Jp.mp b with rfl|z
  ·exact⟨k,a1⟩
  ·exact NIts.mem a2 v z
theorem oZ {i:Int}{v:Jo}(h:(yi prog w).is (.inl i) v=true):∃ t,v=.int i t:=by
 rw[mf]at h;rcases yS h with ⟨j,t,e,rfl⟩|⟨x,t,e,_⟩
 ·cases e;exact⟨t,rfl⟩
 ·cases e
theorem lI {ks:List Key}{vs:List Jo}(h:ItemsAre (yi prog w) ks vs):∀ xs:List Int,ks=xs.map Sum.inl->∀ v∈vs,∃ i t,v=.int i t:=by
 induction h with
 | nil=>intro xs _ v a;cases a
 | cons b _ ih =>
  intro xs e v a
  cases xs with
  | nil=>cases e
  | cons x xs =>
   rw[JU]at e;injection e with c e2;subst c;rcases Jp.mp a with rfl|z
   ·obtain⟨t,e⟩:=oZ b
    exact⟨x,t,e⟩
   ·exact ih xs e2 v z
theorem items_int {ks:List Int}{vs:List Jo}(h:ItemsAre (yi prog w) (ks.map Sum.inl) vs):∀ v∈vs,∃ i t,v=.int i t:=lI h ks rfl
theorem tu {s:JO}{a:JI}{ks:KN}{Q:Bool->JO->Prop}(c:NIs prog w s.heap ks a)(q:Q true s):wpAny (model prog w) A (eqIsQuiet 8 (.ref a)) Q E s:=by
 obtain⟨o,y,n,l,x,p,m⟩:=c;refine rM l x p (λv h R r=>?_) q;obtain⟨k,c⟩:=m.mem v h
 cases k with
 | inl i=>obtain⟨t,rfl⟩:=c;exact rN r
 | inr B =>
  obtain⟨b,rfl,C,z,D,d,g,f,e⟩:=c;refine rM d g f (λu j R r=>?_) r;obtain⟨i,t,rfl⟩:=items_int e u j;exact rN r
def dI:KI->PyData
 | .inl i=>.int i
 | .inr xs=>.tuple (xs.map PyData.int)
def dN (ks:KN):PyData:=.tuple (ks.map dI)
theorem mO {h:YP}{ks:List Key}{vs:List Jo}(a:ItemsAre (yi prog w) ks vs):∀ xs:List Int,ks=xs.map Sum.inl->∃ as,ReadsAll h vs (xs.map PyData.int) as:=by
 induction a with
 | nil =>
  intro xs e
  cases xs with
  | nil=>exact⟨_,.nil⟩
  | cons x xs=>cases e
 | cons b _ ih =>
  intro xs e
  cases xs with
  | nil=>cases e
  | cons x xs =>
   rw[JU]at e;injection e with c e2;subst c;obtain⟨t,rfl⟩:=oZ b;obtain⟨as,r⟩:=ih xs e2;exact⟨_,.cons (.int x t) r⟩
theorem NIt.reads {h:YP}{k:KI}{v:Jo}(a:NIt prog w h k v):∃ as,Reads h v (dI k) as:=by
 cases k with
 | inl i=>obtain⟨t,rfl⟩:=a;exact⟨_,.int i t⟩
 | inr c =>
  obtain⟨b,rfl,o,j,n,g,f,e,d⟩:=a;obtain⟨as,r⟩:=mO (h:=h) d c rfl;exact⟨_,.tuple g f e r⟩
theorem NIts.reads {h:YP}:∀ {ks:KN}{vs:List Jo},NIts prog w h ks vs->∃ as,ReadsAll h vs (ks.map dI) as
 | [],_,a=>by rw[show _=[] from a];exact⟨_,.nil⟩
 | k::ks,_,a=>by
  obtain⟨v,r,rfl,a1,a2⟩:=a;obtain⟨as,p⟩:=a1.reads;obtain⟨bs,q⟩:=NIts.reads a2;exact⟨_,.cons p q⟩
theorem NIs.reads {h:YP}{ks:KN}{a:JI}(p:NIs prog w h ks a):∃ as,Reads h (.ref a) (dN ks) as:=by
 obtain⟨o,f,n,e,d,c,b⟩:=p;obtain⟨as,r⟩:=b.reads;exact⟨_,.tuple e d c r⟩
theorem nE:∀ (x y:List Int),PyData.eqvAll (x.map PyData.int) (y.map PyData.int)=decide (x=y)
 | [],[]=>rfl
 | [],_::_=>rfl
 | _::_,[]=>rfl
 | a::x,b::y=>by
  show (PyData.eqv (.int a) (.int b) && PyData.eqvAll (x.map PyData.int) (y.map PyData.int))=_;rw[nE x y,show PyData.eqv (.int a) (.int b)=(a == b) from rfl,Yf];simp
theorem zaI (x y:KI):PyData.eqv (dI x) (dI y)=decide (x=y):=by
 cases x<;>cases y
 ·rw[show PyData.eqv (dI (.inl _)) (dI (.inl _))=(_ == _) from rfl,Yf];simp
 ·rfl
 ·rfl
 ·show PyData.eqvAll _ _=_
  rw[nE,Yf];simp
theorem kh:∀ (x y:KN),PyData.eqvAll (x.map dI) (y.map dI)=decide (x=y)
 | [],[]=>rfl
 | [],_::_=>rfl
 | _::_,[]=>rfl
 | a::x,b::y=>by
  show (PyData.eqv (dI a) (dI b) && PyData.eqvAll (x.map dI) (y.map dI))=_;rw[kh x y,zaI,Yf];simp
theorem oy:∀ x:List Int,PyData.canLayAll0 (x.map PyData.int)=true/\PyData.depthAll (x.map PyData.int)<=0
 | []=>⟨rfl,Je _⟩
 | a::x=>by
  obtain⟨p,q⟩:=oy x;refine⟨?_,?_⟩
  ·show (PyData.canLay0 (.int a) && PyData.canLayAll0 (x.map PyData.int))=true
   rw[p];rfl
  ·show max 0 (PyData.depthAll (x.map PyData.int))<=0
   simp_all
theorem lB (ks:KN):(dN ks).canLay0=true/\(dN ks).depth<=2:=by
 have key:∀ e∈ks.map dI,e.canLay0=true/\e.depth<=1:=λe b=>by
  obtain⟨k,_,rfl⟩:=Jn.mp b
  cases k with
  | inl i=>exact⟨rfl,by show 0<=1;lia⟩
  | inr a =>
   obtain⟨p,q⟩:=oy a;refine⟨p,?_⟩;show PyData.depthAll (a.map PyData.int)+1<=1
   simp_all
 obtain⟨p,q⟩:=jA key;refine⟨p,?_⟩;show PyData.depthAll (ks.map dI)+1<=2
 simp_all
theorem bz {s:JO}{x y:KN}{a b:JI}{Q:Bool->JO->Prop}(k:A.units+2<cLine)(h:NIs prog w s.heap x a)(g:NIs prog w s.heap y b)(q:Q (decide (x=y)) s):wpAny (model prog w) A (eqBool (.ref a) (.ref b)) Q E s:=by
 obtain⟨as,d⟩:=h.reads;obtain⟨bs,c⟩:=g.reads;obtain⟨f,j⟩:=lB x;obtain⟨e,i⟩:=lB y;refine PySem.SeqAt.eqBoolOverData prog w A E s _ _ _ _ as bs Q d c f e (by lia) ?_;rw[show PyData.eqv (dN x) (dN y)=PyData.eqvAll (x.map dI) (y.map dI) from rfl,kh];exact q
variable (prog w)
def xQ:HeapKind prog w KN where
 is:=NIs prog w
 hash:=λa=>reduceHash (Builtin.Tuple.tupleHashOf (a.map (nh1 prog w)))
 draws:=λa=>nds a+1
 room:=λA=>A.units+2<cLine
 inj:=λc b=>NIs.inj c b
 keeps:=λx g i f=>NIs.keeps x g i f
 pyHash:=λe d h=>iO (by lia) d h
 eqBool:=λe c b h=>bz e c b h
 quiet:=λd h=>tu d h
end L2
namespace Ts
open PySem PyProof.Rows
def R (a:Keyed->Int)(xs:Array Keyed)(i:Nat):Int:=match xs[i]? with
 | some p=>a p
 | none=>0
def bd (left:Bool)(k r:Int):Bool:=if left=true then decide (r<k) else !decide (k<r)
end Ts
namespace L2
open PySem PySem.Spec PyProof.Rows Own Ts
inductive Lx (H:Hp):Nat->V->V->Ordering->Prop where
 | int (n:Nat) (i j:Int):Lx H n (.int i) (.int j) (compare i j)
 | row {n:Nat}{a b:JI}{xs ys:List V}{cs:List Ordering}(ha:H a=some (.tup xs)) (hb:H b=some (.tup ys)) (l1:xs.length=cs.length) (l2:ys.length=cs.length) (h:∀ (i:Nat) u v c,xs[i]?=some u->ys[i]?=some v->cs[i]?=some c->Lx H n u v c) :
   Lx H (n+1) (.ref a) (.ref b) (cs.foldr Ordering.then .eq)
theorem vg:∀ {cs:List Ordering},cs.foldr Ordering.then .eq=.eq↔∀ c∈cs,c=.eq
 | []=>by simp
 | c::cs=>by
  rw[List.foldr_cons];constructor
  ·intro h
   cases c<;>simp[Ordering.then]at h;intro d hd;rcases Jp.mp hd with rfl|a
   ·rfl
   ·exact vg.mp h d a
  ·intro h
   rw[h c JH];exact vg.mpr λd hd=>h d (JJ _ hd)
theorem qN:∀ {cs:List Ordering},cs.foldr Ordering.then .eq≠.eq->∃ (k:Nat) (c:Ordering),cs[k]?=some c/\c≠.eq/\cs.foldr Ordering.then .eq=c/\∀ j:Nat,j<k->cs[j]?=some Ordering.eq
 | [],h=>absurd rfl h
 | c::cs,h=>by
  by_cases z:c=.eq
  ·subst z
   have e:(Ordering.eq::cs).foldr Ordering.then .eq=cs.foldr Ordering.then .eq:=rfl;rw[e]at h ⊢;obtain⟨k,d,i,g,f,b⟩:=qN h;refine⟨k+1,d,by simpa using i,g,f,λj a=>?_⟩
   cases j with
   | zero=>rfl
   | succ j=>simpa using b j (by simp_all)
  ·refine⟨0,c,rfl,z,?_,λj a=>by simp_all⟩
   rw[List.foldr_cons];cases c<;>first|rfl|exact absurd rfl z
section
variable {X:Cx}
theorem uo (i j:Int):(compare i j == .eq)=decide (i=j)/\(compare i j == .lt)=decide (i<j):=by
 rw[show compare i j=compareOfLessAndEq i j from rfl];unfold compareOfLessAndEq;by_cases b:i<j
 ·rw[Jq b,JC b,Jt (by lia)];exact⟨rfl,rfl⟩
 ·rw[Jg b,Jt b]
  by_cases a:i=j
  ·rw[Jq a,JC a];exact⟨rfl,rfl⟩
  ·rw[Jg a,Jt a];exact⟨rfl,rfl⟩
theorem Lx.refl {H:Hp}{n:Nat}{x y:V}{c:Ordering}(h:Lx H n x y c):x=y->c=.eq:=by
 induction h with
 | int n i j =>
  intro e;cases e;have:=(uo i i).1;rw[JC rfl]at this
  simpa using this
 | @row n a b m l cs k f p o h ih =>
  intro e;cases e;rw[k]at f;cases f;refine vg.mpr λc g=>?_;obtain⟨i,d⟩:=List.mem_iff_getElem?.mp g;have q:=(Jd.mp d).1;exact ih i _ _ c (J2 (by simp_all)) (J2 (by simp_all)) d rfl
theorem eZ {pins:List (JI × Obj)}{σ:St}{H:Hp}{s:JO}(I:Inv X pins σ H s){n:Nat}{x y:V}{c:Ordering}(h:Lx H n x y c):∀ (A:YO) (u v:Jo),A.units+n<cLine->RelV x u->RelV y v->SeqAt.EqAt A s u v (c == .eq):=by
 induction h with
 | int n i j =>
  intro A u v _ p o;have:=dw (A:=A) (s:=s) (x:=.int j) (y:=.int i) p o rfl rfl;rw[(uo i j).1]
  have e:eqV (.int i) (.int j)=decide (i=j):=by
   show (i == j)=decide (i=j);by_cases z:i=j<;>simp[z]
  rwa [e]at this
 | @row n a b Q P cs F E B w h ih =>
  intro A u v hu p o;cases p;cases o;by_cases M:a=b
  ·subst M
   have:cs.foldr Ordering.then .eq=.eq:=Lx.refl (.row F E B w h) rfl;rw[this];exact SeqAt.EqAt.same _
  ·obtain⟨g,K,Y,_⟩:=I.tuple (SqT.of F)
   obtain⟨f,J,W,_⟩:=I.tuple (SqT.of E);have r:=K.length;have q:=J.length;refine SeqAt.EqAt.of_refs M ?_
   have e:((List.range (min g.toArray.size f.toArray.size)).all (λj=>(cs.getD j .eq) == .eq) && g.toArray.size == f.toArray.size)=(cs.foldr Ordering.then .eq == .eq):=by
    rw[Jf,Jf,<- r,<- q,B,w,Zt,Bool.and_true,Nat.min_self];by_cases z:cs.foldr Ordering.then .eq=.eq
    ·rw[z]
     refine(YV.mpr λj hj=>?_).trans rfl;have D:=Yd.mp hj;rw[J8,J2 D,Z6,vg.mp z _ (JA D)];rfl
    ·obtain⟨k,d,G,h2,h3,_⟩:=qN z
     have Z:=(Jd.mp G).1;rw[h3];have L:(d == Ordering.eq)=false:=by simpa using h2
     rw[L];refine Bool.eq_false_iff.mpr λt=>?_;have:=YV.mp t k (Yd.mpr Z);rw[J8,G,Z6,L]at this;cases this
   have:=SeqAt.RcAt.tuples (e:=λj=>(cs.getD j .eq) == .eq) Y W (A:=A) (s:=s) (by lia) (λj k1 k2=>?_)
   ·rwa [e]at this
   ·have m:j<Q.length:=by simpa [r] using k1
    have l:j<P.length:=by simpa [q] using k2
    obtain⟨S,e1,U⟩:=K.get (J2 m);obtain⟨R,e2,T⟩:=J.get (J2 l);have O:g.toArray[j]=S:=by simpa using (Jd.mp e1).2
    have N:f.toArray[j]=R:=by simpa using (Jd.mp e2).2
    have C:j<cs.length:=by lia
    rw[O,N,J8,J2 C,Z6];exact ih j _ _ _ (J2 m) (J2 l) (J2 C) A.in1 _ _ (by show A.units+1+n<cLine;lia) U T
theorem zbl {pins:List (JI × Obj)}{σ:St}{H:Hp}{s:JO}(I:Inv X pins σ H s){n:Nat}{x y:V}{c:Ordering}(h:Lx H n x y c):c≠.eq->∀ (A:YO) (u v:Jo),A.units+n<cLine->RelV x u->RelV y v->LtAt A s u v (c == .lt):=by
 induction h with
 | int n i j =>
  intro _ A u v _ ⟨P,C⟩ ⟨O,e2⟩;subst C e2;rw[(uo i j).2]
  exact LtAt.ints i j P O
 | @row n a b z w cs ha Z l1 l2 h ih =>
  intro ne A u v hu l g;cases l;cases g;obtain⟨f,F,T,_⟩:=I.tuple (SqT.of ha);obtain⟨e,E,S,_⟩:=I.tuple (SqT.of Z);have W:=F.length;have U:=E.length;obtain⟨k,d,B,D,h3,h4⟩:=qN ne;have kl:=(Jd.mp B).1
  have at_:∀ j (t:j<f.toArray.size) (r:j<e.toArray.size),∃ (o:j<z.length) (m:j<w.length),RelV z[j] f.toArray[j]/\RelV w[j] e.toArray[j]:=λj t r=>by
   have q:j<z.length:=by simpa [W] using t
   have p:j<w.length:=by simpa [U] using r
   obtain⟨N,C,R⟩:=F.get (J2 q);obtain⟨M,e2,Q⟩:=E.get (J2 p);have L:f.toArray[j]=N:=by simpa using (Jd.mp C).2
   have K:e.toArray[j]=M:=by simpa using (Jd.mp e2).2
   rw[L,K];exact⟨q,p,R,Q⟩
  rw[h3];have J:k<f.toArray.size:=by rw[Jf];simp_all
  have G:k<e.toArray.size:=by rw[Jf];simp_all
  obtain⟨o,m,l,g⟩:=at_ k J G;refine LtAt.tuples (k:=k) T S (by lia) J G (λj t r Y=>?_) ?_ ?_
  ·obtain⟨o,m,l,g⟩:=at_ j t r
   exact eZ I (h j _ _ _ (J2 o) (J2 m) (h4 j Y)) A.in1 _ _ (by show A.units+1+n<cLine;lia) l g
  ·have:=eZ I (h k _ _ _ (J2 o) (J2 m) B) A.in1 _ _ (by show A.units+1+n<cLine;lia) l g
   rwa [show (d == Ordering.eq)=false from by simpa using D]at this
  ·exact ih k _ _ _ (J2 o) (J2 m) B D A.in1 _ _ (by show A.units+1+n<cLine;lia) l g
end
section
variable {X:Cx}{pins:List (JI × Obj)}{σ:St}{H:Hp}{s:JO}
theorem Inv.adopt {T:JI}{o:HO}(I:Inv X pins σ H s)(d:FpOk X pins H T)(new:ObjOk X.prog X.w (upd H T o) s.heap T o):Inv X pins σ (upd H T o) s:=by
 have a:=d.1
 have J:Inv X pins σ (upd H T o) { s with heap:=s.heap,gens:=s.gens,drawn:=s.drawn,toks:=s.toks }:=by
  refine I.step (ch:=[T]) (λb f=>?_) (λb u _ _ _ e _=>e) (λb u _ _ _ e _=>⟨u.slots,e⟩) (λb u i _ n=>by rw[zK λq=>i (Ja.mpr q)];exact n)
   (λb u _ e=>⟨u,e⟩) (λb g e=>by rw[zK (zJ e a)];exact e) (λb u x e=>by rw[zK (zJ e a)];exact e) (λb j e=>⟨#[],by rw[zK (zJ e a),e];simp⟩) (λm h=>h) (λb u e=>?_) I.bare
  ·have only:=Ja.mp f
   subst only;exact⟨d.2.2.2.1,d.2.1,d.2.2.2.2.1,d.2.2.2.2.2⟩
  ·by_cases f:b=T
   ·subst f;rw[zH]at e;cases e;exact new
   ·rw[zK f]at e
    exact(I.hok b u e).stay (λc v _ q=>q) (λc q=>by rw[zK (zJ q a)];exact q) λc g q=>by rw[zK (zJ q a)];exact q
 exact J
end
end L2
namespace L2
open PySem PySem.Spec PyProof.Rows Own
section
variable {X:Cx}{pins:List (JI × Obj)}{σ:St}{H:Hp}{s:JO}{d:JI}
theorem Inv.reword {u v:HO}(I:Inv X pins σ H s)(hd:H d=some u)(h:∀ xs,u≠.tup xs)(nb:∀ ps,u≠.tbl ps)(no:∀ a,u≠.own a)(l:∀ o' i,X.H₀ d≠some (.frz o' i))(new:ObjOk X.prog X.w (upd H d v) s.heap d v):Inv X pins σ (upd H d v) s:=by
 have ne:∀ {b},H b=none->b≠d:=λe z=>by rw[z,hd]at e;cases e
 have f:∀ {b} {q:HO},H b=some q->q≠u->upd H d v b=some q:=λ{b q} e n=>by
  rw[zK];· exact e
  ·intro z
   rw[z,hd]at e;exact n (Jj e).symm
 refine⟨I.ok,I.os,I.bare,⟨I.base.keep,I.base.slot,λb q e n m=>?_,I.base.there,λb xs e=>f (I.base.tups b xs e) λz=>h xs z.symm,λb q w e=>?_,λb ps e=>?_⟩,I.loc,I.cell,?_,λx c e=>?_,λp o=>?_,λb q e=>?_,I.len⟩
 ·have z:=I.base.free b q e n m
  rw[zK (ne z)];exact z
 ·rw[zK]
  ·exact I.base.frzs b q w e
  ·rintro rfl;exact l q w e
 ·obtain⟨more,z⟩:=I.base.tbls b ps e
  exact⟨more,f z λq=>nb _ q.symm⟩
 ·rw[zK (ne I.free)];exact I.free
 ·have z:=I.freeC x c e
  rw[zK (ne z)];exact z
 ·obtain⟨k,g,j⟩:=I.pin p o
  exact⟨k,by rw[zK (ne g)];exact g,j⟩
 ·by_cases z:b=d
  ·subst z
   rw[zH]at e;cases e;exact new
  ·rw[zK z]at e
   exact(I.hok b q e).stay (λc w _ r=>r) (λc r=>f r λz=>no _ z.symm) λc xs r=>f r λz=>h _ z.symm
end
def NIv (H:Hp):KI->V->Prop
 | .inl i,v=>v=.int i
 | .inr xs,v=>∃ b,v=.ref b/\H b=some (.tup (xs.map V.int))
def NIvs (H:Hp):KN->List V->Prop
 | [],vs=>vs=[]
 | k::ks,vs=>∃ v r,vs=v::r/\NIv H k v/\NIvs H ks r
def NKey (H:Hp)(k:KN)(b:JI):Prop:=∃ a,H b=some (.tup a)/\NIvs H k a
theorem NIvs.tups {H H':Hp}(t:∀ b ys,H b=some (.tup ys)->H' b=some (.tup ys)):∀ {k:KN}{ys:List V},NIvs H k ys->NIvs H' k ys
 | [],_,h=>h
 | .inl i::k,_,h=>by
  obtain⟨v,r,e,h1,a⟩:=h
  exact⟨v,r,e,h1,NIvs.tups t a⟩
 | .inr d::k,_,h=>by
  obtain⟨v,r,e,⟨b,h1,c⟩,a⟩:=h;exact⟨v,r,e,⟨b,h1,t _ _ c⟩,NIvs.tups t a⟩
theorem NKey.tups {H H':Hp}(t:∀ b ys,H b=some (.tup ys)->H' b=some (.tup ys)){k:KN}{b:JI}(h:NKey H k b):NKey H' k b:=by
 obtain⟨ys,c,a⟩:=h;exact⟨ys,t _ _ c,a.tups t⟩
section
variable {P:Yo}{w:YI}{H:Hp}{h:YP}
theorem oY (ok:HOk P w H h):∀ {k:KN}{ys:List V}{its:List Jo},NIvs H k ys->Vals ys its->NIts P w h k its
 | [],_,its,a,r=>by
  rw[show _=[] from a]at r
  cases r;rfl
 | k::ks,_,its,a,r=>by
  obtain⟨v,q,rfl,a1,a2⟩:=a
  cases r with
  | @cons _ u _ g c r =>
   refine⟨u,g,rfl,?_,oY ok a2 r⟩
   cases k with
   | inl i=>rw[show v=.int i from a1]at c;exact c
   | inr d =>
    obtain⟨b,rfl,f⟩:=a1;refine⟨b,c,?_⟩;have e:d.map V.int=(d.map (Sum.inl:Int->Key)).map kV:=by rw[List.map_map];rfl
    rw[e]at f;exact zaB ok f
theorem uA (ok:HOk P w H h){k:KN}{b:JI}(a:NKey H k b):NIs P w h k b:=by
 obtain⟨d,e,a⟩:=a;obtain⟨_,c,r,o,i,g,n,f⟩:=(show ObjOk P w H h b (.tup d) from ok b _ e);exact⟨o,c.toArray,n,i,g,f.1,by simpa using oY ok a r⟩
end
abbrev KVN:=List (KN × JI × V)
def PrN:KN × JI × V->KN × JI × Jo->Prop:=λp q=>p.1=q.1/\p.2.1=q.2.1/\RelV p.2.2 q.2.2
def vL (xs:KVN)(k:KN):Option V:=(xs.find? λx=>decide (x.1=k)).map (·.2.2)
def wX (xs:KVN)(k:KN)(b:JI)(v:V):KVN:=if (vL xs k).isSome then xs.map λx=>if x.1=k then (x.1,x.2.1,v) else x else xs++[(k,b,v)]
theorem ur {xs:KVN}{vs:List (KN × JI × Jo)}(r:Paired PrN xs vs)(k:KN):RelO (vL xs k) ((atKey vs k).map (·.2)):=by
 induction r with
 | nil=>exact True.intro
 | @cons p q b a h t ih =>
  unfold vL atKey at ih ⊢;rw[Yz,Yz,h.1];by_cases c:q.1=k
  ·rw[JC c];exact h.2.2
  ·rw[Jt c];exact ih
theorem gv {xs:KVN}{vs:List (KN × JI × Jo)}(r:Paired PrN xs vs)(k:KN){v:V}{u:Jo}(a:RelV v u):Paired PrN (xs.map λx=>if x.1=k then (x.1,x.2.1,v) else x) (vs.map (putAt k u)):=by
 induction r with
 | nil=>exact .nil
 | @cons p q d b h t ih =>
  refine .cons ?_ ih;unfold putAt;dsimp only;by_cases c:q.1=k
  ·rw[Jq (h.1.trans c),Jq c];exact⟨h.1,h.2.1,a⟩
  ·rw[Jg (λz=>c (h.1.symm.trans z)),Jg c];exact h
theorem putN_rel {xs:KVN}{vs:List (KN × JI × Jo)}(r:Paired PrN xs vs)(k:KN)(b:JI){v:V}{u:Jo}(a:RelV v u):Paired PrN (wX xs k b v) (storedH vs k b u):=by
 have e:=(ur r k).isSome_eq;rw[Option.isSome_map]at e;unfold wX storedH;rw[<- e];by_cases c:(vL xs k).isSome=true
 ·rw[Jq c,Jq c];exact gv r k a
 ·rw[Jg c,Jg c];exact Paired.snoc r ⟨rfl,rfl,a⟩
theorem oE (xs:KVN)(k:KN)(b:JI)(v:V):(wX xs k b v).length<=xs.length+1:=by
 unfold wX;split
 ·rw[Jc];lia
 ·rw[Jb];exact Je _
def PhN (P:Yo)(w:YI)(a:JI)(xs:KVN):YP->Prop:=λh=>xs.length<=sizeLine/\(a == sysModules)=false/\∃ b,Paired PrN xs b /\
 ∃ o c d,h.get? a=some o/\o.ExactDict/\o.data=.dict c d/\c.toList=b.map (entryOfKey (xQ P w))/\(b.map (·.1)).Nodup
def DN (P:Yo)(w:YI)(a:JI)(xs:KVN):HO:=.ext (PhN P w a xs)
def KsIn (H:Hp)(xs:KVN):Prop:=∀ x∈xs,NKey H x.1 x.2.1
theorem KsIn.tups {H H':Hp}{xs:KVN}(t:∀ b ys,H b=some (.tup ys)->H' b=some (.tup ys))(h:KsIn H xs):KsIn H' xs:=λx a=>(h x a).tups t
section
variable {P:Yo}{w:YI}{H H':Hp}{h h':YP}{a:JI}{xs:KVN}
theorem dn_new (z:xs.length<=sizeLine)(hd:(a == sysModules)=false){vs:List (KN × JI × Jo)}(r:Paired PrN xs vs)(d:h'.DictOfH (xQ P w) a vs):ObjOk P w H' h' a (DN P w a xs):=by
 obtain⟨o,h,i,b,g,f,e,_,c⟩:=d;refine⟨⟨z,hd,vs,r,o,h,i,b,g,f,e,c⟩,⟨o,b⟩,λk j ⟨z,hd,vs,r,o,h,i,b,g,f,e,c⟩ s=>⟨z,hd,vs,r,o,h,i,s o b,g,f,e,c⟩⟩
theorem sY (ok:HOk P w H h)(e:Rd H a (DN P w a xs))(ks:KsIn H xs):xs.length<=sizeLine/\(a == sysModules)=false/\∃ vs,Paired PrN xs vs/\h.DictOfH (xQ P w) a vs:=by
 obtain⟨⟨z,i,vs,r,o,m,n,l,k,j,f,d⟩,u,s⟩:=(show ObjOk P w H h a (DN P w a xs) from aK ok e);refine⟨z,i,vs,r,o,m,n,l,k,j,f,?_,d⟩;clear f d e z u s
 induction r with
 | nil=>intro x b;exact nomatch b
 | @cons p q A v c t ih =>
  intro x b;rcases Jp.mp b with here|there
  ·have:=uA ok (ks p JH)
   rw[c.1,c.2.1,<- here]at this;exact this
  ·exact ih (λy g=>ks y (JJ _ g)) x there
end
section
variable {X:Cx}{pins:List (JI × Obj)}{σ:St}{H:Hp}{s:JO}{a b:JI}{xs:KVN}{k:KN}{v d:V}{r:Jo}{A:YO}{E:Jo->JO->Prop}
theorem kL (a:A.units+3<cLine):(xQ X.prog X.w).room A.in1:=by show A.in1.units+2<cLine;rw[Around.in1_units];omega
theorem zbW {Q:Jo->JO->Prop}(d:A.units+3<cLine)(I:Inv X pins σ H s)(e:Rd H a (DN X.prog X.w a xs))(ks:KsIn H xs)(c:NKey H k b)(h:∀ s',Inv X pins σ H s'->Q (.bool (vL xs k).isSome) s') :
  wpAny (model X.prog X.w) A (compareOp .In (.ref b) (.ref a)) Q E s:=by
 obtain⟨z,f,i,rel,g⟩:=sY I.hok e ks;refine wpAny_in_heap (kL d) (uA I.hok c) f g ?_;have q:=(ur rel k).isSome_eq;rw[Option.isSome_map]at q;rw[<- q];exact h _ (I.tok _)
theorem zau {Q:Jo->JO->Prop}(l:A.units+3<cLine)(I:Inv X pins σ H s)(e:Rd H a (DN X.prog X.w a xs))(ks:KsIn H xs)(j:NKey H k b)(i:RelV d r)(h:∀ c s',Inv X pins σ H s'->RelV ((vL xs k).getD d) c->Q c s') :
  wpAny (model X.prog X.w) A (call (.builtin "dict.get") [.ref a,.ref b,r]) Q E s:=by
 obtain⟨z,m,g,rel,f⟩:=sY I.hok e ks;exact call_meetsIn PySem.F.slot_dict_get f.typeIs PySem.F.entry_dict_get (PySem.F.args_dict_get_3 _ _ _) (meetsH_dict_get_default (xQ X.prog X.w) a b m r) ⟨kL l,k,g,uA I.hok j,f,h _ _ (I.tok _) ((ur rel k).getD i)⟩
theorem j3 {Q:Unit->JO->Prop}(j:A.units+3<cLine)(I:Inv X pins σ H s)(e:H a=some (DN X.prog X.w a xs))(ks:KsIn H xs)(g:NKey H k b)(f:RelV v r)(l:xs.length<sizeLine)(h:∀ s',Inv X pins σ (upd H a (DN X.prog X.w a (wX xs k b v))) s'->Q () s') :
  wpAny (model X.prog X.w) A (setItem (.ref a) (.ref b) r) Q E s:=by
 obtain⟨z,t,d,rel,w⟩:=sY I.hok (.inl e) ks;have i:d.length<=sizeLine:=by rw[<- Yr rel];exact z
 have o:(wX xs k b v).length<=sizeLine:=by have:=oE xs k b v;lia
 refine wpAny_setItem_heap (hsz:=i) (kL j) (uA I.hok g) w λu c m=>h _ ?_;have p:∃ q,u.get? a=some q:=let ⟨q,_,_,n,_⟩:=c;⟨q,n⟩;exact pH I (by rw[e];exact True.intro) m p (dn_new o t (putN_rel rel k b f) c)
end
section
variable {prog:Yo}{w:YI}{A:YO}{E:Jo->JO->Prop}{s:JO}{d:JI}
theorem iY {o:Obj}{a:Array DictEntry}{f:Nat}{Q:Jo->JO->Prop}(b:s.heap.get? d=some o)(e:o.ExactDict)(hd:o.data=.dict a f)(hs:(d == sysModules)=false)(h:Q (.int a.size s.toks) { s with toks:=s.toks+1 }) :
  wpAny (model prog w) A (Builtin.«dict.__len__» ⟨[.ref d],[]⟩) (λfin c=>∃ r,fin=.done (.ret r)/\Q r c) E s:=by
 have ty:s.TypeIs (.ref d) "dict":=⟨o,b,e.1⟩;unfold Builtin.«dict.__len__» Builtin.Dict.dictSlotNone;refine J0 (J0 (wpAny_notOrdered_dict ty ?_));refine J0 ?_;show wpAny _ _ (pure ((.ref d,[]):Jo × List Jo)) _ _ _;refine J9 (J9 (J0 ?_));show wpAny _ _ (pure d) _ _ _;unfold dictSize;refine J9 (J0 (J0 (Yc b hd (J9 (J0 (wpAny_pendingCount_other hs ?_))))));unfold retInt
 have g:Q (.int ((a.size:Int)+((0:Nat):Int)) s.toks) { s with toks:=s.toks+1 }:=by
  rw[show ((a.size:Int)+((0:Nat):Int))=a.size from Int.add_zero _];exact h
 exact J0 (wpAny_mkInt (J9 ⟨_,rfl,g⟩))
theorem ou {o:Obj}{a:Array DictEntry}{f:Nat}{Q:Jo->JO->Prop}(c:s.heap.get? d=some o)(b:o.ExactDict)(hd:o.data=.dict a f)(hs:(d == sysModules)=false)(g:(a.size:Int)<2 ^ 63)(h:∀ t,Q (.int a.size t) { s with toks:=s.toks+1+1 }) :
  wpAny (model prog w) A (Builtin.«len» ⟨[.ref d],[]⟩) (λfin e=>∃ r,fin=.done (.ret r)/\Q r e) E s:=by
 have ty:s.TypeIs (.ref d) "dict":=⟨o,c,b.1⟩;unfold Builtin.«len»;refine J0 ?_;show wpAny _ _ (pure (Value.ref d)) _ _ _;refine J9 (J0 (wpAny_callSpecial?_slot ty PySem.F.slot_dict_len (Yj PySem.F.slot_dict_len ty PySem.F.entry_dict_len (iY c b hd hs ?_) (PySem.F.args_dict_len_1 _))));show wpAny _ _ (holding [Value.int (a.size:Int) s.toks] (asIndex (.int (a.size:Int) s.toks)) >>= _) _ _ _;refine J0 (Y2 (show wpAny _ _ (pure (a.size:Int)) _ _ _ from J9 (J0 (YM ?_))));dsimp only;rw[Jg (by simp_all),Jg (by simp_all)];unfold retInt;exact J0 (wpAny_mkInt (J9 ⟨_,rfl,h _⟩))
end
section
variable {X:Cx}{pins:List (JI × Obj)}{σ:St}{H:Hp}{s:JO}{a:JI}{xs:KVN}{A:YO}{E:Jo->JO->Prop}
theorem kO {P:Yo}{w:YI}{h:YP}(ok:HOk P w H h)(e:Rd H a (DN P w a xs)):(a == sysModules)=false/\∃ o b c,h.get? a=some o/\o.ExactDict/\o.data=.dict b c/\b.size=xs.length/\(b.size:Int)<2 ^ 63:=by
 obtain⟨⟨z,d,k,r,o,b,c,j,i,g,f,m⟩,_,_⟩:=(show ObjOk P w H h a (DN P w a xs) from aK ok e);have l:b.size=xs.length:=by rw[ZC f,<- Yr r]
 refine⟨d,o,b,c,j,i,g,l,?_⟩;rw[Ju]at z;lia
theorem zbj {Q:Jo->JO->Prop}(I:Inv X pins σ H s)(e:Rd H a (DN X.prog X.w a xs))(h:∀ t s',Inv X pins σ H s'->Q (.int xs.length t) s'):wpAny (model X.prog X.w) A (call (.builtin "len") [.ref a]) Q E s:=by
 obtain⟨b,o,i,j,g,d,c,l,f⟩:=kO I.hok e;refine Calls.call_function_entry kind_len plain_len entry_len (args_len1 _) (ou g d c b f λt=>?_);rw[l];exact h _ _ (I.tok _)
theorem bY {Q:Bool->JO->Prop}(I:Inv X pins σ H s)(e:Rd H a (DN X.prog X.w a xs))(h:∀ s',Inv X pins σ H s'->Q (!xs.isEmpty) s'):wpAny (model X.prog X.w) A (truthy (.ref a)) Q E s:=by
 obtain⟨i,o,g,p,d,c,j,l,f⟩:=kO I.hok e;have ty:s.TypeIs (.ref a) "dict":=⟨o,d,c.1⟩
 have q:∀ (n:Nat) (b:Bool),n=xs.length->b=((n:Int) != 0)->b = !xs.isEmpty:=λn b k e2=>by
  subst k e2
  cases xs with
  | nil=>rfl
  | cons x r=>rw[Yf];simp;lia
 unfold truthy;show wpAny _ _ (callSpecial? (Value.ref a) (Str.ofString "__bool__") >>= _) _ _ _;refine J0 (wpAny_callSpecial?_none (T:="dict") ty noBool_dict ?_);show wpAny _ _ (specialOf (Value.ref a) (Str.ofString "__len__") >>= _) _ _ _;refine J0 (wpAny_specialOf (T:="dict") ty PySem.F.slot_dict_len.lookup ?_);show wpAny _ _ (runValue (Code.builtin "len" { pos:=[Value.ref a] }) >>= _) _ _ _;refine J0 (wpAny_runValue (YJ entry_len ?_));refine JB (ou (Q:=λr s'=>(∃ t,r=.int g.size t)/\Inv X pins σ H s') d c j i f λt=>⟨⟨t,rfl⟩,I.tok _⟩) ?_ λ_ _ z=>z;rintro fin s' ⟨r,rfl,⟨t,rfl⟩,m⟩;refine J9 ?_;rw[q g.size _ l rfl];exact h s' m
end
def NAt (P:Yo)(w:YI)(H:Hp)(a:JI)(xs:KVN):Prop:=Rd H a (DN P w a xs)/\KsIn H xs
def ae (P:Yo)(w:YI)(g ty f:TE):TE:=λσ H Q=>g σ H λx e=>∃ a,x=.ref a/\(∃ c,Rd e a (DN P w a c))/\ty σ e λy h=>f σ h λz d=>∃ b c k,y=.ref b/\NAt P w d a c/\NKey d k b/\Q ((vL c k).getD z) d
def za7 (P:Yo)(w:YI)(f ty e:TE):TS:=λD σ H=>e σ H λv h=>f σ h λx g=>ty σ g λy d=>∃ a b c k,x=.ref a/\y=.ref b/\d a=some (DN P w a c)/\KsIn d c/\NKey d k b/\c.length<sizeLine/\D.nx σ (upd d a (DN P w a (wX c k b v)))
section
variable {X:Cx}{o i e f value:Expr}{pos pos' apos cpos:Pos}{td ty tv tx:TE}
theorem mZ {pins:List (JI × Obj)}{σ:St}{H:Hp}{s:JO}{a:JI}{xs:KVN}(I:Inv X pins σ H s)(d:Rd H a (DN X.prog X.w a xs)) :
  s.TypeIs (.ref a) "dict"/\∀ b,Value.ref a=.ref b->∃ ob,s.heap.get? b=some ob/\ob.dict=none:=by
 obtain⟨_,q,f,g,e,c,_⟩:=kO I.hok d;refine⟨⟨q,e,c.1⟩,λb z=>?_⟩;cases z;exact⟨q,e,c.2.1⟩
theorem fj (D:X.A.units+3<cLine) (E:PE X o td) (G:PE X e ty) (F:PE X f tx) (m:M2 X o "get" apos e f cpos):PE X (.Call (.Attribute o "get" apos) [e,f] [] cpos) (ae X.prog X.w td ty tx):=by
 intro pins s σ H Q I h;refine wpAny_Call_method m.base m.few m.line PySem.F.plainAttrs_dict PySem.F.slot_dict_get PySem.F.type_dict_get (thn (E pins s σ H _ I h) λu p ⟨x,P,g,t,a,ex,⟨R,d⟩,A⟩=>?_);subst ex;cases (show u=Value.ref a from t);obtain⟨j,i⟩:=mZ g d;refine⟨j,i,?_⟩;rw[m.trees]
 refine Zj rfl (Calls.evalArgs_plain (Ze (thn (G pins p σ P _ g A) λC l ⟨y,O,M,r,w⟩ =>
  Ze (thn (F pins l σ O _ M w) λW V ⟨z,N,L,q,b,S,k,J,n,B,v⟩=>ZL ?_))))
 subst J;cases (show C=Value.ref b from r);exact zau D L n.1 n.2 B q λT U K c=>⟨_,N,K,c,v⟩
theorem cv (z:X.A.units+3<cLine)(A:PE X o td)(hi:PE X i ty)(w:PE X value tv)(hs:swapsWith value (some (.Subscript o i pos')) pos.line X.env=pure false) :
  PS X (.Assign [.Subscript o i pos'] value pos) (za7 X.prog X.w td ty tv):=by
 intro pins s σ H D I h;refine wpAny_Assign_Subscript (thn (w pins s σ H _ I h) λr d ⟨v,L,J,g,n⟩=>thn (A pins d σ L _ J n) λu c ⟨x,K,G,f,m⟩=>thn (hi pins c σ K _ G m) λt O ⟨y,P,F,e,a,b,M,k,ex,C,B,p,q,l,j⟩=>?_) hs;subst ex C;cases (show u=Value.ref a from f);cases (show t=Value.ref b from e);exact j3 z F B p q g l λN E=>⟨σ,_,E,j⟩
theorem io:CallR X (.builtin "len") (λvs H Q=>∃ a xs,vs=[.ref a]/\Rd H a (DN X.prog X.w a xs)/\Q (.int xs.length) H):=by
 intro pins s σ H vs g Q I b ⟨a,xs,e,d,q⟩;subst e;obtain⟨u,rfl,c⟩:=b.one;cases (show u=Value.ref a from c);exact zbj I d λt h f=>⟨.int xs.length,H,f,⟨t,rfl⟩,q⟩
theorem zaQ:TruR X (λx H Q=>∃ a xs,x=.ref a/\Rd H a (DN X.prog X.w a xs)/\Q (!xs.isEmpty) H):=by
 intro pins s σ H x v Q I b ⟨a,xs,e,d,q⟩;subst e;cases (show v=Value.ref a from b);exact bY I d λf c=>⟨H,c,q⟩
theorem zbV (ha:PE X o td)(e:∀ whole,isTrue o X.env whole=(do let v <- whole;standAt o.pos;holding [v] (truthy v))) :
  PT X o (λσ H Q=>td σ H λx H'=>∃ a xs,x=.ref a/\Rd H' a (DN X.prog X.w a xs)/\Q (!xs.isEmpty) H'):=by
 intro pins s σ H Q I h;exact isTrue_plain (thn (ha pins s σ H _ I h) λv b ⟨x,g,f,c,d⟩=>zaQ pins b σ g x v Q f c d) (e _)
def zaY (P:Yo)(w:YI):TE:=λ_ H Q=>∀ p,H p=none->Q (.ref p) (upd H p (DN P w p []))
theorem kB:PE X (.Dict [] [] pos) (zaY X.prog X.w):=λpins s σ H Q I h =>
 wpAny_Dict_empty ⟨.ref s.heap.objs.size,_,I.laid (a:=s.heap.objs.size) (o:=DN X.prog X.w s.heap.objs.size []) (t':=s.toks) (λ_ _ q=>J7 _ q) (Je _)
  (dn_new (vs:=[]) (JM _) (Z7.mpr (YK I.big)) .nil (Heap.DictOfH.new _)),rfl,h _ (I.hok.fresh (Je _))⟩
end
def zbS (P:Yo)(w:YI)(p:JI)(Q:VK):List (V × V)->Hp->Prop
 | [(y,v)],a=>∃ b k,y=.ref b/\a p=some (DN P w p [])/\NKey a k b/\Q (.ref p) (upd a p (DN P w p [(k,b,v)]))
 | _,_=>False
def zaX (P:Yo)(w:YI)(ty c:TE):TE:=λσ H Q=>∀ p,H p=none->ty σ (upd H p (DN P w p [])) λy d=>c σ d λv a=>∃ b k,y=.ref b/\a p=some (DN P w p [])/\NKey a k b/\Q (.ref p) (upd a p (DN P w p [(k,b,v)]))
section
variable {X:Cx}{e f:Expr}{pos:Pos}{ty tv:TE}
theorem fi (N:X.A.units+3<cLine)(D:PE X e ty)(w:PE X f tv):PE X (.Dict [some e] [f] pos) (zaX X.prog X.w ty tv):=by
 intro pins s σ H Q I q;have C:=I.hok.fresh (Je s.heap.objs.size)
 have J:=I.laid (a:=s.heap.objs.size) (o:=DN X.prog X.w s.heap.objs.size []) (h':=s.heap.push { cls:=.type "dict",data:=.dict #[] }) (t':=s.toks) (λ_ _ q=>J7 _ q) (Je _)
  (dn_new (vs:=[]) (JM _) (Z7.mpr (YK I.big)) .nil (Heap.DictOfH.new _))
 refine wpAny_Dict_any rfl rfl (by simp) (by show 1<=15;lia) (thn ((g9 D w cw) pins _ σ _ (zbS X.prog X.w s.heap.objs.size Q) J (q _ C)) ?_);rintro vs M ⟨n,O,d,rel,r⟩
 match n,rel,r with
 | [(y,v)],rel,r =>
  obtain⟨b,k,rfl,g,p,m⟩:=r
  cases rel with
  | @cons _ i _ K h t =>
   cases t;obtain⟨j,L⟩:=i;cases (show j=Value.ref b from h.1);obtain⟨z,F,vs,l,G⟩:=sY d.hok (.inl g) (λx u=>nomatch u);cases l;unfold storeAll;rw[YH];refine J0 (J0 (wpAny_dictSet_heap (knd:=xQ X.prog X.w) (k:=k) (hsz:=JM _) (show X.A.units+2<cLine by lia) (uA d.hok p) G λh' c A=>J9 ?_));dsimp only;rw[Zm];refine J9 ⟨.ref s.heap.objs.size,_,?_,rfl,m⟩;have E:∃ q,h'.get? s.heap.objs.size=some q:=let ⟨q,_,_,B,_⟩:=c;⟨q,B⟩
   exact pH d (by rw[g];exact True.intro) A E (dn_new (by show 1<=sizeLine;decide) F (.cons ⟨rfl,rfl,h.2⟩ .nil) c)
 | [],_,r=>exact r.elim
 | _::_::_,_,r=>exact r.elim
end
section
variable {prog:Yo}{w:YI}{A:YO}{E:Jo->JO->Prop}{s:JO}{d:JI}
theorem iN {Q:Int->JO->Prop}(q:Q (reduceHash 0xFCA86420) { s with toks:=s.toks+1 }):wpAny (model prog w) A (pyHash .none) Q E s:=by
 show wpAny (model prog w) A (pyHashByItsType .none) Q E s;refine W.pyHash_slot (T:="NoneType") (id:="NoneType.__hash__") (B:=Builtin.«NoneType.__hash__») rfl F.slot_NoneType_hash F.entry_NoneType_hash (F.args_NoneType_hash_1 _) (by decide) (.inl rfl) ?_;unfold Builtin.«NoneType.__hash__»;refine J0 ?_;show wpAny _ _ (pure _) _ _ _;unfold retInt;exact J9 (J0 (wpAny_mkInt (J9 ⟨_,_,rfl,q⟩)))
theorem uY {a:JI}{k:KN}{Q:Bool->JO->Prop}(d:A.units<cLine)(c:NIs prog w s.heap k a)(q:Q false s):wpAny (model prog w) A (eqBool (.ref a) .none) Q E s:=by
 obtain⟨as,b⟩:=c.reads;exact PySem.SeqAt.eqBoolOverData prog w A E s _ _ _ .none as [] Q b .none (lB k).1 rfl (by show A.units+min _ 0<cLine;simp_all) q
theorem mP {n:Nat}{Q:Bool->JO->Prop}(q:Q true s):wpAny (model prog w) A (eqIsQuiet n .none) Q E s:=by
 cases n<;>exact J9 q
theorem rJ {α β:Type}{f:α->β->Sem (ForInStep β)}{b:β}:∀ (l:List α) {Q:β->JO->Prop},(∀ i∈l,∀ R:ForInStep β->JO->Prop,R (.yield b) s->wpAny (model prog w) A (f i b) R E s)->Q b s->wpAny (model prog w) A (forIn l b f) Q E s
 | [],Q,_,q=>by rw[Zm];exact J9 q
 | i::l,Q,h,q=>by
  rw[YH];exact J0 (h i JH _ (rJ l (λj a=>h j (JJ _ a)) q))
theorem jL {stored:List Jo}{Q:Bool->JO->Prop}(h:∀ v∈stored,∃ a k,v=.ref a/\NIs prog w s.heap k a)(q:Q false s):wpAny (model prog w) A (tableMayTell .none stored) Q E s:=by
 unfold tableMayTell;by_cases c:stored.isEmpty=true
 ·rw[Jq c];exact J9 q
 rw[Jg c];refine J0 (mP (J0 (rJ stored (λv b R r=>?_) (J9 q))));obtain⟨a,k,rfl,d⟩:=h v b;exact J0 (tu d (J9 r))
theorem iU {o:Obj}{b:Array DictEntry}{j:Nat}{h:Int}{Q:Option Nat->JO->Prop}(u:A.units<cLine)(g:s.heap.get? d=some o)(hd:o.data=.dict b j)(F:∀ e∈b.toList,∃ a k,e.key=.ref a/\NIs prog w s.heap k a)(q:Q none s) :
  wpAny (model prog w) A (dictFind d .none h) Q E s:=by
 have key:∀ (i:Nat) (e:DictEntry),b[i]?=some e->∃ a k,e.key=.ref a/\NIs prog w s.heap k a:=λi e f=>F e (by
  obtain⟨l,z⟩:=Z4.mp f
  rw[<- z];exact Array.getElem_mem_toList l)
 unfold dictFind;refine Y2 (J0 (Yc g hd ?_));by_cases c:(Value.none::List.filterMap (λi=>Option.map (λx=>x.key) b[i]?) (placesWithHash b.size (λi=>Option.map (λx=>x.hash) b[i]?) h)).all carriedByValue=true
 ·refine(JL (λm=>wpAny (model prog w) A m Q E s) (Jq c)).mpr ?_
  unfold dictWalkPlain;refine J0 (rJ _ (λi B R r=>?_) (J9 q))
  cases f:b[i]? with
  | none=>exact J9 r
  | some e =>
   obtain⟨a,k,t,n⟩:=key i e f;by_cases ch:(e.hash == h)=true
   ·refine(JL (λm=>wpAny (model prog w) A m R E s) (Jq ch)).mpr (J0 (Yg g hd (J0 ?_)))
    rw[t];refine uY u n (J0 (Yg g hd ?_));dsimp only;rw[Jg (c:=(j != j)=true) (by simp),Jg Ji];exact J0 (YF (J9 r))
   ·exact(JL (λm=>wpAny (model prog w) A m R E s) (Jg ch)).mpr (J9 r)
 ·refine(JL (λm=>wpAny (model prog w) A m Q E s) (Jg c)).mpr ?_
  have y:∀ v∈List.filterMap (λi=>Option.map (λx=>x.key) b[i]?) (placesWithHash b.size (λi=>Option.map (λx=>x.hash) b[i]?) h),∃ a k,v=.ref a/\NIs prog w s.heap k a:=λv D=>by
   obtain⟨i,-,e,f,rfl⟩:∃ i:Nat,True/\∃ e:DictEntry,b[i]?=some e/\e.key=v:=by
    obtain⟨i,p⟩:=List.mem_filterMap.mp D;exact⟨i,True.intro,Yx.mp p.2⟩
   exact key i e f
  by_cases C:(List.filterMap (λi=>Option.map (λx=>x.key) b[i]?) (placesWithHash b.size (λi=>Option.map (λx=>x.hash) b[i]?) h) == [Value.none])=true
  ·refine(JL (λm=>wpAny (model prog w) A m Q E s) (Jq C)).mpr (J0 (J9 ?_))
   dsimp only;rw[Jg (by simp)];refine J0 (rJ _ (λi B R r=>?_) (J9 q))
   cases f:b[i]? with
   | none=>exact J9 r
   | some e =>
    obtain⟨a,k,t,n⟩:=key i e f;by_cases ch:(e.hash == h)=true
    ·refine(JL (λm=>wpAny (model prog w) A m R E s) (Jq ch)).mpr (J0 (Yg g hd (J0 ?_)))
     rw[t];refine uY u n (J0 (Yg g hd ?_));rw[Jg (c:=(j != j)=true) (by simp),Jg Ji];refine J0 (YF ?_);rw[Jg (by simp)];exact J9 r
    ·exact(JL (λm=>wpAny (model prog w) A m R E s) (Jg ch)).mpr (J9 r)
  ·refine(JL (λm=>wpAny (model prog w) A m Q E s) (Jg C)).mpr (J0 (jL y ?_))
   dsimp only;rw[Jg (by simp)];refine J0 (rJ _ (λi B R r=>?_) (J9 q))
   cases f:b[i]? with
   | none=>exact J9 r
   | some e =>
    obtain⟨a,k,t,n⟩:=key i e f;by_cases ch:(e.hash == h)=true
    ·refine(JL (λm=>wpAny (model prog w) A m R E s) (Jq ch)).mpr (J0 (Yg g hd (J0 ?_)))
     rw[t];refine uY u n (J0 (Yg g hd ?_));rw[Jg (c:=(j != j)=true) (by simp),Jg Ji];refine J0 (YF ?_);rw[Jg (by simp)];exact J9 r
    ·exact(JL (λm=>wpAny (model prog w) A m R E s) (Jg ch)).mpr (J9 r)
theorem dj {o:Obj}{b:Array DictEntry}{h:Nat}{Q:Option Jo->JO->Prop}(c:A.units<cLine)(f:s.heap.get? d=some o)(hd:o.data=.dict b h)(g:∀ e∈b.toList,∃ a k,e.key=.ref a/\NIs prog w s.heap k a)(q:Q none { s with toks:=s.toks+1 }) :
  wpAny (model prog w) A (dictGet d .none) Q E s:=by
 unfold dictGet;exact Y2 (J0 (iN (J0 (iU (s:={ s with toks:=s.toks+1 }) c f hd g (J9 q)))))
theorem rD {o:Obj}{b:Array DictEntry}{i:Nat}{Q:Jo->JO->Prop}(f:A.units<cLine)(g:s.heap.get? d=some o)(j:o.ExactDict)(hd:o.data=.dict b i)(hs:(d == sysModules)=false)(h:∀ e∈b.toList,∃ a k,e.key=.ref a/\NIs prog w s.heap k a)(q:Q (.bool false) { s with toks:=s.toks+1 }) :
  wpAny (model prog w) A (Builtin.«dict.__contains__» ⟨[.ref d,.none],[]⟩) (λfin c=>∃ r,fin=.done (.ret r)/\Q r c) E s:=by
 unfold Builtin.«dict.__contains__»;refine J0 ?_;show wpAny _ _ (pure (d,Value.none)) _ _ _;refine J9 (J0 (dj f g hd h ?_));show wpAny _ _ (Builtin.Dict.pendingKey? d .none >>= _) _ _ _;exact J0 (wpAny_pendingKey_other hs (J9 ⟨_,rfl,q⟩))
section
variable {X:Cx}{pins:List (JI × Obj)}{σ:St}{H:Hp}{a:JI}{xs:KVN}
theorem eS {Q:Jo->JO->Prop}(q:A.units+3<cLine)(I:Inv X pins σ H s)(e:Rd H a (DN X.prog X.w a xs))(ks:KsIn H xs)(h:∀ s',Inv X pins σ H s'->Q (.bool false) s') :
  wpAny (model X.prog X.w) A (compareOp .In .none (.ref a)) Q E s:=by
 obtain⟨z,i,p,rel,o,n,t,d,c,m,l,j,r⟩:=sY I.hok e ks
 have g:∀ e∈n.toList,∃ a k,e.key=.ref a/\NIs X.prog X.w s.heap k a:=λe b=>by
  rw[l]at b;obtain⟨x,f,rfl⟩:=Jn.mp b;exact⟨x.2.1,x.1,rfl,j x f⟩
 have ty:s.TypeIs (.ref a) "dict":=⟨o,d,c.1⟩;show wpAny _ _ (contains (.ref a) .none >>= _) _ _ _
 exact J0 (wpAny_contains_slot ty slot_dict_contains (Yj slot_dict_contains ty entry_dict_contains
  (rD (by rw[Around.in1_units];lia) d c m i g (Zh (J9 (h _ (I.tok _))))) (args_dict_contains _ _)))
end
def zbT (P:Yo)(w:YI):V->V->Hp->VK->Prop:=λx y H Q=>∃ a c,y=.ref a/\NAt P w H a c/\((∃ b k,x=.ref b/\NKey H k b/\Q (.bl (vL c k).isSome) H)\/(x=.non/\Q (.bl false) H))
theorem zal {X:Cx}(e:X.A.units+3<cLine):OpR X (compareOp .In) (zbT X.prog X.w):=by
 intro pins s σ H x y v u Q I d h ⟨a,f,j,n,q⟩;subst j;cases (show u=Value.ref a from h);rcases q with ⟨b,k,ex,i,q⟩|⟨ex,q⟩
 ·subst ex
  cases (show v=Value.ref b from d);exact zbW e I n.1 n.2 i λg c=>⟨.bl (vL f k).isSome,H,c,rfl,q⟩
 ·subst ex
  cases (show v=Value.none from d);exact eS e I n.1 n.2 λg c=>⟨.bl false,H,c,rfl,q⟩
end
section
variable {prog:Yo}{w:YI}{A:YO}{E:Jo->JO->Prop}{s:JO}{d b:JI}{K:Type}[DecidableEq K]{knd:HeapKind prog w K}{xs:List (K × JI × Jo)}{k:K}{v:Jo}
theorem tW {Q:Unit->JO->Prop}(I:knd.room A)(u:knd.is s.heap k b)(J:s.heap.DictOfH knd d xs)(G:xs.length<=sizeLine)(q:∀ h',h'.DictOfH knd d (storedH xs k b v)->Heap.SameBut d s.heap h'->Q () { s with heap:=h' }):wpAny (model prog w) A (dictSetHashed d (.ref b) (knd.hash k) v) Q E s:=by
 obtain⟨o,K,L,g,t,f,r,l,h⟩:=J;unfold dictSetHashed;refine Y2 (J0 (wpAny_dictFind_heap I u g f r l h (λno=>?_) (λj p n=>?_)))
 ·refine J0 (YF (wpAny_updateDictKeys g f (q _ ?_ (YU _ _ _)) (by rw[ZC r];exact G) (by simp)))
  have m:=YU s.heap d (Obj.mapDictKeys λx=>x.push ⟨knd.hash k,.ref b,v⟩);refine⟨_,_,_,Yb _ g (Obj.isFreed_of_dict (Obj.data_mapDictKeys f _)),t.mapDictKeys _,Obj.data_mapDictKeys f _,?_,?_,?_⟩
  ·rw[storedH_new (atKey_none_of_get no),JG,Array.toList_push,r];rfl
  ·rw[storedH_new (atKey_none_of_get no)]
   intro x i;rcases Jr.mp i with z|z
   ·exact knd.keeps (l x z) g f m
   ·rw[Ja.mp z];exact knd.keeps u g f m
  ·rw[storedH_new (atKey_none_of_get no),JG,Zn]
   refine⟨h,by simp,λa C c B=>?_⟩;rw[List.map_singleton,Ja]at B;rintro rfl;rw[B]at C;exact not_mem_keys_of_get no C
 ·refine J0 (YF (J0 (wpAny_updateDict g f (wpAny_point (q _ ?_ (YU _ _ _))) (by simp))))
  have m:=YU s.heap d (Obj.mapDict λx=>x.modify j λe=>{ e with val:=v });refine⟨_,_,_,Yb _ g (Obj.isFreed_of_dict (Obj.data_mapDict f _)),t.mapDict _,Obj.data_mapDict f _,?_,?_,?_⟩
  ·rw[storedH_old (atKey_of_get h n),Array.toList_modify,r]
   exact modify_map_putAt _ _ k v (λa D=>rfl) h n
  ·have F:=storedH_old (atKey_of_get h n) b v
   rw[F];intro x i;obtain⟨y,H,rfl⟩:=Jn.mp i;have:=knd.keeps (l y H) g f m;unfold putAt;split
   ·exact this
   ·exact this
  ·rw[storedH_old (atKey_of_get h n),keys_map_putAt];exact h
def mergeN (xs ys:List (K × JI × Jo)):List (K × JI × Jo):=ys.foldl (λacc y=>storedH acc y.1 y.2.1 y.2.2) xs
theorem jM (acc:List (K × JI × Jo))(y:K × JI × Jo):(storedH acc y.1 y.2.1 y.2.2).length<=acc.length+1:=by
 unfold storedH;split
 ·rw[Jc];simp_all
 ·rw[Jb];exact Je _
theorem vY {o:JI}{ob:Obj}{ys:List (K × JI × Jo)}{Q:PUnit->JO->Prop}{f:Nat->PUnit->Sem (ForInStep PUnit)}(ne:d≠o)(step:∀ (i:Nat) (a:i<ys.length) (s:JO) (acc:List (K × JI × Jo)) (R:ForInStep PUnit->JO->Prop),s.heap.get? o=some ob->s.heap.DictOfH knd d acc->knd.is s.heap ys[i].1 ys[i].2.1->acc.length<=sizeLine ->
   (∀ h',h'.DictOfH knd d (storedH acc ys[i].1 ys[i].2.1 ys[i].2.2)->Heap.SameBut d s.heap h'->R (.yield PUnit.unit) { s with heap:=h' })->wpAny (model prog w) A (f i PUnit.unit) R E s) :
  ∀ (m i:Nat) (s:JO) (acc:List (K × JI × Jo)),i+m=ys.length->s.heap.get? o=some ob->s.heap.DictOfH knd d acc->(∀ x∈ys,knd.is s.heap x.1 x.2.1)->acc.length+m<=sizeLine ->
  (∀ h',h'.DictOfH knd d (mergeN acc (ys.drop i))->Heap.SameBut d s.heap h'->Q PUnit.unit { s with heap:=h' })->wpAny (model prog w) A (forIn (List.range' i m) PUnit.unit f) Q E s
 | 0,i,s,acc,r,g,b,e,n,q=>by
  rw[List.range'_zero,Zm];refine J9 (q s.heap ?_ (Heap.SameBut.refl _ _));rw[List.drop_eq_nil_of_le (by simp_all)]
  exact b
 | m+1,i,s,acc,r,g,b,e,n,q=>by
  have a:i<ys.length:=by lia
  rw[show List.range' i (m+1)=i::List.range' (i+1) m from rfl,YH];refine J0 (step i a s acc _ g b (e _ (JA a)) (by lia) λh' k c=>?_);obtain⟨C,y,B,v,H,u,G,F,D⟩:=b;have l:h'.get? o=some ob:=by rw[c.2 o (λz=>ne z.symm)];exact g
  refine vY ne step m (i+1) { s with heap:=h' } _ (by lia) l k (λx p=>knd.keeps (e x p) v u c) ?_ λt j h=>q t ?_ (c.trans h)
  ·have:=jM acc ys[i]
   lia
  ·rw[ZJ a]
   exact j
end
section
variable {prog:Yo}{w:YI}{A:YO}{E:Jo->JO->Prop}{s:JO}{d:JI}{K:Type}[DecidableEq K]{knd:HeapKind prog w K}{xs ys:List (K × JI × Jo)}
theorem eC {o:JI}{ob:Obj}{a:Array DictEntry}{j:Nat}{nm:String}{Q:Array DictEntry->JO->Prop}(h1:s.heap.get? o=some ob)(i:ob.data=.dict a j)(f:a.toList=ys.map (entryOfKey knd))(k:ys.length<=1)(h:∀ x∈ys,∀ R:Bool->JO->Prop,R false s->wpAny (model prog w) A (Builtin.Dict.quietEq (.ref x.2.1)) R E s)(q:Q a s):wpAny (model prog w) A (Builtin.Dict.entriesForEmpty nm o) Q E s:=by
 show wpAny _ _ (dictEntries o >>= _) _ _ _;refine J0 (Yc h1 i (J0 ?_));rw[<- Array.forIn_toList];refine rJ _ (λe d R r=>?_) (J9 q);rw[f]at d;obtain⟨x,g,rfl⟩:=Jn.mp d;refine J0 (h x g _ ?_)
 have b:¬(Array.filter (λz=>z.hash == (entryOfKey knd x).hash) a).size > 1:=by
  have m:=Array.size_filter_le (p:=λz:DictEntry=>z.hash == (entryOfKey knd x).hash) (xs:=a);have l:=ZC f;lia
 rw[Jq (c:=(!false)=true) rfl,Jg b];exact J9 r
theorem zan {o2:Obj}{b c:Array DictEntry}{e:Nat}{y:K × JI × Jo}(f:s.heap.get? d=some o2)(k:o2.ExactDict)(a:o2.data=.dict c e)(j:b.toList=[y].map (entryOfKey knd))(i:knd.is s.heap y.1 y.2.1) :
  (s.heap.update d (Obj.mapDictKeys λ_=>b)).DictOfH knd d [y]:=by
 have g:=YU s.heap d (Obj.mapDictKeys λ_=>b);refine⟨_,_,_,Yb _ f (Obj.isFreed_of_dict (Obj.data_mapDictKeys a _)),k.mapDictKeys _,Obj.data_mapDictKeys a _,j,?_,by simp⟩;intro x h;rw[Ja.mp h];exact knd.keeps i f a g
theorem mh {o:JI}{nm:String}{Q:Unit->JO->Prop}(O:knd.room A)(ne:d≠o)(U:(o == sysModules)=false)(G:s.heap.DictOfH knd d xs)(S:s.heap.DictOfH knd o ys)(N:xs.length+ys.length<=sizeLine)(T:xs≠[]\/ys.length=1)(P:∀ x∈ys,∀ R:Bool->JO->Prop,R false s->wpAny (model prog w) A (Builtin.Dict.quietEq (.ref x.2.1)) R E s)(q:∀ h',h'.DictOfH knd d (mergeN xs ys)->Heap.SameBut d s.heap h'->Q () { s with heap:=h' }):wpAny (model prog w) A (Builtin.Dict.mergeDict nm d o) Q E s:=by
 obtain⟨ob,h,t,g,h2,b,l,H,Z⟩:=id S;obtain⟨Y,r,X,J,W,I,V,g5,g6⟩:=id G
 have sz:([:h.size]:Std.Legacy.Range).size=ys.length:=by
  rw[<- ZC l];simp[Std.Legacy.Range.size]
 unfold Builtin.Dict.mergeDict;rw[Jg (by simpa using ne)];refine J0 ?_;unfold Builtin.Dict.showsAll;rw[Jg (by rw[U];simp)];refine J9 (J0 (Yc g b ?_));dsimp only;by_cases p:(!(decide (h.size<=8) && h.all λe=>(keyPart e.key).isSome))=true
 ·rw[Jq p]
  refine J0 (Yc J I ?_);by_cases em:r.isEmpty=true
  ·rw[Jq em]
   have e2:r.size=0:=by simpa using em
   have M:xs=[]:=by
    rw[ZC V]at e2;exact List.eq_nil_of_length_eq_zero e2
   have L:ys.length=1:=T.resolve_left λz=>z M;have u:h.size=1:=(ZC l).trans L;refine J0 (eC g b l (by simp_all) P ?_);rw[Jq (c:=(!h.isEmpty)=true) (by simp;intro z;rw[z]at u;cases u)];refine J0 (wpAny_updateDictKeys J I (J9 (q _ ?_ (YU _ _ _))) (by rw[e2];exact JM _) (by rw[u];lia));obtain⟨y,rfl⟩:=List.length_eq_one_iff.mp L;subst M;exact zan J W I l (H y JH)
  ·rw[Jg em]
   refine J0 (Yg g b (J0 (Yc g b (J0 ?_))));refine(JL (λm=>wpAny (model prog w) A m _ E s) (Std.Legacy.Range.forIn_eq_forIn_range' _ _ _)).mpr ?_;rw[sz];refine vY (ob:=ob) (ys:=ys) ne (λi F s acc R n C D v B=>?_) ys.length 0 s xs (by lia) g G H N λh' a f=>J9 (q h' a f);have K:h[i]?=some (entryOfKey knd ys[i]):=by rw[entry_at l,J2 F];rfl
   refine J0 (Yc n b ?_);rw[K];refine J0 (Y2 (tW (k:=ys[i].1) O D C v λh' a f=>?_));have j:h'.get? o=some ob:=by rw[f.2 o (λz=>ne z.symm)];exact n
   refine J0 (Yg (s:={ s with heap:=h' }) j b ?_);rw[Jg (c:=(t != t)=true) (by simp)];exact J9 (B h' a f)
 ·rw[Jg p]
  refine J0 (Yg g b (J0 (Yc g b (J0 ?_))));refine(JL (λm=>wpAny (model prog w) A m _ E s) (Std.Legacy.Range.forIn_eq_forIn_range' _ _ _)).mpr ?_;rw[sz];refine vY (ob:=ob) (ys:=ys) ne (λi F s acc R n C D v B=>?_) ys.length 0 s xs (by lia) g G H N λh' a f=>J9 (q h' a f);have K:h[i]?=some (entryOfKey knd ys[i]):=by rw[entry_at l,J2 F];rfl
  refine J0 (Yc n b ?_);rw[K];refine J0 (Y2 (tW (k:=ys[i].1) O D C v λh' a f=>?_));have j:h'.get? o=some ob:=by rw[f.2 o (λz=>ne z.symm)];exact n
  refine J0 (Yg (s:={ s with heap:=h' }) j b ?_);rw[Jg (c:=(t != t)=true) (by simp)];exact J9 (B h' a f)
theorem gq {a:JI}{k:KN}{R:Bool->JO->Prop}(h:NIs prog w s.heap k a)(r:R false s):wpAny (model prog w) A (Builtin.Dict.quietEq (.ref a)) R E s:=by
 obtain⟨o,d,n,c,b,f,e⟩:=h;exact J0 (wpAny_specialOf (T:="tuple") ⟨o,c,b⟩ F.slot_tuple_eq.lookup (J9 r))
theorem pP {o:JI}{Q:Jo->JO->Prop}(i:knd.room A)(ne:d≠o)(l:(o == sysModules)=false)(e:s.heap.DictOfH knd d xs)(c:s.heap.DictOfH knd o ys)(h:xs.length+ys.length<=sizeLine)(k:xs≠[]\/ys.length=1)(j:∀ x∈ys,∀ R:Bool->JO->Prop,R false s->wpAny (model prog w) A (Builtin.Dict.quietEq (.ref x.2.1)) R E s)(q:∀ h',h'.DictOfH knd d (mergeN xs ys)->Heap.SameBut d s.heap h'->Q .none { s with heap:=h' }):wpAny (model prog w) A (Builtin.«dict.update» ⟨[.ref d,.ref o],[]⟩) (λfin g=>∃ r,fin=.done (.ret r)/\Q r g) E s:=by
 have ty:=c.typeIs;unfold Builtin.«dict.update»;refine J0 ?_;show wpAny _ _ (Builtin.Dict.notOrdered "update" ⟨[Value.ref d,Value.ref o],[]⟩ >>= _) _ _ _;refine J0 (wpAny_notOrdered_dict (s:=s) e.typeIs ?_);show wpAny _ _ (pure (d,[Value.ref o])) _ _ _;refine J9 ?_;show wpAny _ _ (Builtin.Dict.updateFrom "dict.update" d (.ref o) [] .none) _ _ _;show wpAny _ _ (typeOf (Value.ref o) >>= _) _ _ _;refine J0 (Zi ty ?_);rw[Jg (by simp)];refine J0 ?_;unfold Builtin.Dict.merge Builtin.Dict.readDirectly;refine J0 (J0 (wpAny_isInstance (T:="dict") (b:=true) ty rfl ?_));rw[Jg (by simp)];refine J0 (wpAny_specialOf (T:="dict") ty F.slot_dict_iter.lookup (J9 ?_));rw[Jq (by decide)];refine J0 ?_;show wpAny _ _ (pure o) _ _ _;refine J9 (mh i ne l e c h k j λh' a f=>?_);refine J0 ?_;show wpAny _ _ (pure ()) _ _ _;exact J9 (J9 ⟨_,rfl,q h' a f⟩)
end
def we (xs ys:KVN):KVN:=ys.foldl (λacc y=>wX acc y.1 y.2.1 y.2.2) xs
theorem mergeV_rel:∀ {ys:KVN}{us:List (KN × JI × Jo)}{xs:KVN}{vs:List (KN × JI × Jo)},Paired PrN ys us->Paired PrN xs vs->Paired PrN (we xs ys) (mergeN vs us):=by
 intro ys us xs vs r
 induction r generalizing xs vs with
 | nil=>intro q;exact q
 | @cons p u a us h t ih =>
  intro q;have e:=putN_rel q p.1 p.2.1 h.2.2;rw[show storedH vs p.1 p.2.1 u.2.2=storedH vs u.1 u.2.1 u.2.2 by rw[h.1,h.2.1]]at e;exact ih e
theorem mergeV_len:∀ (ys xs:KVN),(we xs ys).length<=xs.length+ys.length
 | [],xs=>Je _
 | y::ys,xs=>by
  have h1:=mergeV_len ys (wX xs y.1 y.2.1 y.2.2);have a:=oE xs y.1 y.2.1 y.2.2;show (we (wX xs y.1 y.2.1 y.2.2) ys).length<=_;rw[Y5];lia
section
variable {X:Cx}{pins:List (JI × Obj)}{σ:St}{H:Hp}{s:JO}{a b:JI}{xs ys:KVN}{A:YO}{E:Jo->JO->Prop}
theorem eR {Q:Jo->JO->Prop}(p:A.units+3<cLine)(ne:a≠b)(I:Inv X pins σ H s)(j:H a=some (DN X.prog X.w a xs))(m:KsIn H xs)(D:Rd H b (DN X.prog X.w b ys))(l:KsIn H ys)(i:xs.length+ys.length<=sizeLine)(v:xs≠[]\/ys.length=1)(h:∀ s',Inv X pins σ (upd H a (DN X.prog X.w a (we xs ys))) s'->Q .none s'):wpAny (model X.prog X.w) A (call (.builtin "dict.update") [.ref a,.ref b]) Q E s:=by
 obtain⟨z,y,G,rel,k⟩:=sY I.hok (.inl j) m;obtain⟨F,g,J,c,d⟩:=sY I.hok D l;refine Yj PySem.F.slot_dict_update k.typeIs PySem.F.entry_dict_update (pP (kL p) ne g k d (by rw[<- Yr rel,<- Yr c];exact i) ?_ ?_ λC f t=>h _ ?_) (PySem.F.args_dict_update_2 _ _)
 ·rcases v with z|z
  ·refine .inl λe=>z ?_
   subst e;cases rel;rfl
  ·exact .inr (by rw[<- Yr c];exact z)
 ·intro x n R r
  obtain⟨o,P,S,O,N,M,L,B,K⟩:=d;exact gq (B x n) r
 ·have w:∃ q,C.get? a=some q:=let ⟨q,_,_,u,_⟩:=f;⟨q,u⟩
  exact pH I (by rw[j];exact True.intro) t w (dn_new (JQ (mergeV_len _ _) i) y (mergeV_rel c rel) f)
end
def zaW (P:Yo)(w:YI)(g ty:TE):TE:=λσ H Q=>g σ H λx f=>∃ a,x=.ref a/\(∃ c,Rd f a (DN P w a c))/\ty σ f λy e=>∃ b c d,y=.ref b/\a≠b/\e a=some (DN P w a c)/\KsIn e c/\NAt P w e b d/\c.length+d.length<=sizeLine/\(c≠[]\/d.length=1)/\Q .non (upd e a (DN P w a (we c d)))
theorem bD {X:Cx}{o e:Expr}{apos cpos:Pos}{c ty:TE}(w:X.A.units+3<cLine) (z:PE X o c) (B:PE X e ty) (m:M1 X o "update" apos e cpos):PE X (.Call (.Attribute o "update" apos) [e] [] cpos) (zaW X.prog X.w c ty):=by
 intro pins s σ H Q I h;refine wpAny_Call_method m.base m.few m.line PySem.F.plainAttrs_dict PySem.F.slot_dict_update PySem.F.type_dict_update (thn (z pins s σ H _ I h) λu j ⟨x,G,f,l,a,ex,⟨J,d⟩,q⟩=>?_);subst ex;cases (show u=Value.ref a from l);obtain⟨i,g⟩:=mZ f d;refine⟨i,g,?_⟩;rw[m.trees];refine Zj rfl (Calls.evalArgs_plain (Ze (thn (B pins j σ G _ f q) λt N ⟨y,O,F,k,b,L,K,C,ne,D,r,n,v,A,p⟩=>ZL ?_)));subst C;cases (show t=Value.ref b from k);exact eR w ne F D r n.1 n.2 v A λM E=>⟨.non,_,E,rfl,p⟩
section
variable {X:Cx}{pins:List (JI × Obj)}{σ:St}{H:Hp}{s:JO}{d:JI}{o:Obj}{xs:KVN}
theorem Inv.freezeN (I:Inv X pins σ H s)(hd:H d=some (DN X.prog X.w d xs)):∃ o a b,s.heap.get? d=some o/\o.ExactDict/\o.data=.dict a b/\a.size=xs.length/\(d == sysModules)=false/\Inv X pins σ (upd H d (.frz o (DN X.prog X.w d xs))) s:=by
 obtain⟨g,o,a,b,c,i,h,l,_⟩:=kO I.hok (.inl hd);refine⟨o,a,b,c,i,h,l,g,I.reword hd (λxs q=>by cases q) (λxs q=>by cases q) (λxs q=>by cases q) (λf e q=>?_) ⟨c,(show ObjOk X.prog X.w H s.heap d (DN X.prog X.w d xs) from I.hok d _ hd)⟩⟩;have:=I.base.frzs d f e q;rw[hd]at this;cases this
theorem Inv.thawN (I:Inv X pins σ H s)(hd:H d=some (.frz o (DN X.prog X.w d xs)))(b:∀ o' a,X.H₀ d≠some (.frz o' a)):Inv X pins σ (upd H d (DN X.prog X.w d xs)) s:=by
 obtain⟨_,r⟩:=(show ObjOk X.prog X.w H s.heap d (.frz o (DN X.prog X.w d xs)) from I.hok d _ hd);exact I.reword hd (λxs q=>by cases q) (λxs q=>by cases q) (λxs q=>by cases q) b r
theorem Inv.meltedN (I:Inv X pins σ H s){ys:KVN}(hd:H d=some (DN X.prog X.w d ys)):∀ o' a,X.H₀ d≠some (.frz o' a):=λo' a q=>by
 have:=I.base.frzs d o' a q;rw[hd]at this;cases this
theorem Inv.walkedN {c:Array DictEntry}{h:Nat}(I:Inv X pins σ H s)(hd:H d=some (.frz o (DN X.prog X.w d xs)))(e:o.data=.dict c h):s.heap.get? d=some o/\∃ vs,Paired PrN xs vs/\c.toList=vs.map (entryOfKey (xQ X.prog X.w)):=by
 obtain⟨g,⟨z,l,vs,r,k,i,j,b,n,a,f,m⟩,_,_⟩:=(show ObjOk X.prog X.w H s.heap d (.frz o (DN X.prog X.w d xs)) from I.hok d _ hd);rw[g]at b;obtain rfl:=Jj b;rw[e]at a;cases a;exact⟨g,vs,r,f⟩
end
theorem zbe {xs:KVN}{vs:List (KN × JI × Jo)}(r:Paired PrN xs vs):∀ {i:Nat}{p:KN × JI × V},xs[i]?=some p->∃ q,vs[i]?=some q/\PrN p q:=by
 induction r with
 | nil=>intro i p h;cases h
 | cons q t ih =>
  intro i p h
  cases i with
  | zero=>cases Jj h;exact⟨_,rfl,q⟩
  | succ i=>exact ih h
section
variable {prog:Yo}{w:YI}{A:YO}{E:Jo->JO->Prop}{s:JO}{d it:JI}{o:Obj}{es:Array DictEntry}{ep i:Nat}{e:DictEntry}{k0 v0:Jo}
theorem mY {Q:Jo->JO->Prop}(y:s.heap.get? d=some o) (hd:o.data=.dict es ep) (hi:IsItemIter s.heap it d i es.size ep k0 v0) (C:es[i]?=some e)
  (q:∀ h',IsItemIterOut h' it d (i+1) es.size ep e.key e.val s.heap.objs.size->h'.get? s.heap.objs.size=some { cls:=.type "tuple",data:=.seq #[e.key,e.val] }->(∀ b u,b≠it->s.heap.get? b=some u->h'.get? b=some u)->Q (.ref s.heap.objs.size) { s with heap:=h' }) :
  wpAny (model prog w) A (Builtin.«dict_itemiterator.__next__» ⟨[.ref it],[]⟩) (λfin B=>∃ v,fin=.done (.ret v)/\Q v B) E s:=by
 have ty:s.TypeIs (.ref it) "dict_itemiterator":=⟨_,hi,rfl⟩;unfold Builtin.«dict_itemiterator.__next__»;refine J0 ?_;show wpAny _ _ (pure (Value.ref it)) _ _ _;refine J9 (J0 (J0 (J0 (Zu ty (J9 (J0 (wpAny_fieldsOf hi rfl ?_)))))));show wpAny _ _ (Builtin.Dict_items.addrOf (Value.ref d) >>= _) _ _ _;refine J0 (show wpAny _ _ (pure d) _ _ _ from J9 (J0 (Yc y hd ?_)));dsimp only;rw[Jg (c:=((es.size:Int) != (es.size:Int))=true) (by simp)];refine J0 (show wpAny _ _ (pure d) _ _ _ from J9 (J0 (Yg y hd ?_)));rw[Jg (c:=((ep:Int) != (ep:Int))=true) (by simp)];refine J9 ?_;dsimp only;rw[Jg (c:=(i:Int)<0) (by lia),JZ,C];refine J0 (J0 (Zu ty (J9 (J0 (wpAny_isOneOf_itemiter ty ?_)))));show wpAny _ _ (setField (.ref it) 3 (rawInt ((i:Int)+1)) >>= _) _ _ _;refine J0 (Y7 hi (by show 3<8;lia) λa h g=>J0 (Y2 (J0 (wpAny_isOneOf_itemiter ⟨_,h,rfl⟩ ?_))));show wpAny _ _ (Builtin.Dict_items.isOneOf _ _ >>= _) _ _ _;refine J0 (wpAny_isOneOf_itemiter ⟨_,h,rfl⟩ ?_);show wpAny _ _ (Builtin.Dict_items.pairFromOwner (.ref it) 6 e.key e.val) _ _ _;unfold Builtin.Dict_items.pairFromOwner newTuple;refine J0 (JE ?_ (by show 2<=sizeLine;decide));have f:=J7 { cls:=Value.type "tuple",data:=Data.seq #[e.key,e.val] } h;have k:=Jk a (o:={ cls:=Value.type "tuple",data:=Data.seq #[e.key,e.val] }) rfl;have t:a.objs.size≠it:=YK (Jh h);have sz:a.objs.size=s.heap.objs.size:=g.1;have x:∀ b u,b≠it->s.heap.get? b=some u->(a.push { cls:=Value.type "tuple",data:=Data.seq #[e.key,e.val] }).get? b=some u:=λb u nb j=>J7 _ ((g.2 b nb).trans j);show wpAny (model prog w) A _ _ E { s with heap:=a.push { cls:=Value.type "tuple",data:=Data.seq #[e.key,e.val] } };generalize a.push { cls:=Value.type "tuple",data:=Data.seq #[e.key,e.val] }=h2 at f k x;show wpAny _ _ ((field (.ref it) 0 >>= _) >>= _) _ _ _;refine J0 (J0 (YL f rfl rfl ?_));show wpAny _ _ (pure true) _ _ _;refine J9 ?_;show wpAny _ _ (field (.ref it) 6 >>= _) _ _ _;refine J0 (YL f rfl rfl (J0 (YL f rfl rfl ?_)));refine J0 (Y7 f (by show 6<8;lia) λK H p=>J0 (Y7 H (by show 7<8;lia) λJ G n=>J0 (Y7 G (by show 0<8;lia) λI F m=>J0 (Y7 F (by show 1<8;lia) λD z l=>J0 (YM ?_)))));have r:=((p.trans n).trans m).trans l;refine J9 (J9 ⟨_,rfl,?_⟩);show Q (.ref a.objs.size) _;rw[sz]at k z t ⊢;exact q D z ((r.2 _ t).trans k) λb u nb j=>(r.2 b nb).trans (x b u nb j)
theorem jw {Q:Option Jo->JO->Prop}(a:s.heap.get? d=some o) (hd:o.data=.dict es ep) (hi:IsItemIter s.heap it d i es.size ep k0 v0) (c:es[i]?=some e)
  (q:∀ h',IsItemIterOut h' it d (i+1) es.size ep e.key e.val s.heap.objs.size->h'.get? s.heap.objs.size=some { cls:=.type "tuple",data:=.seq #[e.key,e.val] }->(∀ b u,b≠it->s.heap.get? b=some u->h'.get? b=some u)->Q (some (.ref s.heap.objs.size)) { s with heap:=h' }):wpAny (model prog w) A (pyNext (.ref it)) Q E s:=by
 have ty:s.TypeIs (.ref it) "dict_itemiterator":=⟨_,hi,rfl⟩;unfold pyNext;exact J0 (wpAny_attempt (wpAny_callSpecial?_slot ty Zw (Yj Zw ty F.entry_dict_itemiterator_next (mY a hd hi c λh' h g f=>J9 (q h' h g f)) (F.args_dict_itemiterator_next_1 _))))
theorem lF {Q:Fin->JO->Prop}(e:A.handled=none) (a:s.heap.get? d=some o) (hd:o.data=.dict es ep) (hi:IsItemIter s.heap it d i es.size ep k0 v0) (f:es[i]?=none)
  (q:∀ h' ev,Heap.ExtBut it s.heap h'->({ s with heap:=h' }:JO).TypeIs ev "StopIteration"->E ev { s with heap:=h' }) :
  wpAny (model prog w) A (Builtin.«dict_itemiterator.__next__» ⟨[.ref it],[]⟩) Q E s:=by
 have ty:s.TypeIs (.ref it) "dict_itemiterator":=⟨_,hi,rfl⟩;unfold Builtin.«dict_itemiterator.__next__»;refine J0 ?_;show wpAny _ _ (pure (Value.ref it)) _ _ _;refine J9 (J0 (J0 (J0 (Zu ty (J9 (J0 (wpAny_fieldsOf hi rfl ?_)))))));show wpAny _ _ (Builtin.Dict_items.addrOf (Value.ref d) >>= _) _ _ _;refine J0 (show wpAny _ _ (pure d) _ _ _ from J9 (J0 (Yc a hd ?_)));dsimp only;rw[Jg (c:=((es.size:Int) != (es.size:Int))=true) (by simp)];refine J0 (show wpAny _ _ (pure d) _ _ _ from J9 (J0 (Yg a hd ?_)));rw[Jg (c:=((ep:Int) != (ep:Int))=true) (by simp)];refine J9 ?_;dsimp only;rw[Jg (c:=(i:Int)<0) (by lia),JZ,f];refine J0 (J0 (Zu ty (J9 (J0 ?_))));show wpAny _ _ (setField (.ref it) 2 .none) _ _ _;refine wpAny_setField hi rfl (by show 2<8;lia) (J0 ?_);unfold newExc newTuple;refine J0 (JE ?_ (by show 0<=sizeLine;exact JM _));unfold firstArgMember;refine J0 (J0 (J9 (J9 (JE (wpAny_raiseNew_none e ?_) ?_))))
 rotate_left
 ·show (_++_:Array Jo).size<=sizeLine+2
  rw[Array.size_append];show 6+0<=sizeLine+2;rw[Ju];lia
 refine q _ _ (λb u nb g=>?_) ⟨_,Jk _ rfl,rfl⟩;exact J7 _ (J7 _ (((YU s.heap it _).2 b nb).trans g))
theorem jy {Q:Option Jo->JO->Prop}(c:A.handled=none)(b:s.heap.get? d=some o)(hd:o.data=.dict es ep)(hi:IsItemIter s.heap it d i es.size ep k0 v0)(e:es[i]?=none)(q:∀ h',Heap.ExtBut it s.heap h'->Q none { s with heap:=h' }):wpAny (model prog w) A (pyNext (.ref it)) Q E s:=by
 have ty:s.TypeIs (.ref it) "dict_itemiterator":=⟨_,hi,rfl⟩;unfold pyNext;refine J0 (wpAny_attempt (wpAny_callSpecial?_slot ty Zw (Yj Zw ty F.entry_dict_itemiterator_next (lF c b hd hi e λh' ev k a=>?_) (F.args_dict_itemiterator_next_1 _))));exact J0 (wpAny_isInstance a isSubtype_stop (J9 (q h' k)))
theorem lH {v:JI}{Q:Jo->JO->Prop}(b:s.heap.IsItemsView v d) (c:s.heap.get? d=some o) (hd:o.data=.dict es ep)
  (q:Q (.ref s.heap.objs.size) { s with heap:=s.heap.push { cls:=.type "dict_itemiterator",data:=.fields #[.none,.bool false,.ref d,.int 0 0,.int es.size 0,.int ep 0,.none,.none] } }):wpAny (model prog w) A (pyIter (.ref v)) Q E s:=by
 obtain⟨i,g,h,f⟩:=id b;have ty:=b.typeIs;have nx:=F.slot_dict_itemiterator_next.lookup
 have body:wpAny (model prog w) A.in1 (Builtin.«dict_items.__iter__» ⟨[.ref v],[]⟩) (λfin a=>∃ v,fin=.done (.ret v)/\∃ e r,a.TypeIs v e/\typeLookup (Value.type e) (Str.ofString "__next__")=pure (some r)/\Q v a) E s:=by
  unfold Builtin.«dict_items.__iter__» Builtin.Dict_items.newIterator;refine J0 (show wpAny _ _ (pure (Value.ref v)) _ _ _ from J9 (J0 (J0 (YL g f rfl ?_))));refine(show wpAny _ _ (pure d) _ _ _ from J9 (J0 ?_));refine J0 (Yc c hd (J0 (Yg c hd ?_)));refine JE (J9 ⟨_,rfl,_,_,⟨_,Jk _ rfl,rfl⟩,nx,q⟩) ?_;show 8<=sizeLine+2;rw[Ju];lia
 exact wpAny_pyIter_slot ty F.slot_dict_items_iter (Yj F.slot_dict_items_iter ty F.entry_dict_items_iter body (F.args_dict_items_iter_1 _))
end
def Itni (P:Yo)(w:YI)(d:JI)(o:Obj)(xs:KVN):It:=⟨λi H=>H d=some (.frz o (DN P w d xs))/\i<xs.length,λi H x a=>∃ p T,xs[i]?=some p/\H T=none/\x=.ref T/\a=upd H T (.tup [.ref p.2.1,p.2.2]),λi H=>H d=some (.frz o (DN P w d xs))/\i=xs.length⟩
theorem pS {P:Yo}{w:YI}{K:Jl}{F:List Expr}{k1}{T:Pos}(d it:JI)(o:Obj)(xs:KVN){n:Array DictEntry}{O:Nat}(j:o.data=.dict n O)(hl:n.size=xs.length):Turn P w K (.Tuple F k1 T) (Itni P w d o xs) [it] it (λi h=>∃ a b,IsItemIter h it d i n.size O a b) where
 mem:=Ja.mpr rfl
 obj:=λi h ⟨a,b,st⟩ c m=>by
  cases Ja.mp m;exact⟨_,st,λv z=>by cases z⟩
 keep:=λi h Z ⟨a,b,st⟩ k=>⟨a,b,k it (Ja.mpr rfl) _ st⟩
 item:=by
  intro X B x C m i pins s σ H E I l ⟨a,b,st⟩ ⟨A,M⟩;subst B x C;obtain⟨g,R,r,Q⟩:=I.walkedN A j;have f:=l it (Ja.mpr rfl);obtain⟨p,N⟩:∃ p,xs[i]?=some p:=⟨_,J2 M⟩;obtain⟨q,V,J⟩:=zbe r N;have ei:n[i]?=some (entryOfKey (xQ X.prog X.w) q):=by rw[entry_at Q,V];rfl
  have L:s.heap.objs.size≠it:=YK (Jh st);refine jw g j st ei λh1 U Y t=>⟨_,rfl,wpAny_letOwnedTupleGo_items U λh2 D G=>?_⟩;have S:RelV (.ref p.2.1) (Value.ref q.2.1):=by show Value.ref q.2.1=Value.ref p.2.1;rw[J.2.1]
  refine⟨.ref s.heap.objs.size,upd H s.heap.objs.size (.tup [.ref p.2.1,p.2.2]),I.spunN (t':=s.toks) (fp:=[it]) (λc u y e=>?_) l (Je _) (qr ((G.2 _ L).trans Y) S J.2.2),rfl,⟨p,_,N,I.fresh,rfl,rfl⟩,⟨_,_,D⟩,λc y=>?_⟩
  ·have ne:c≠it:=λz=>y (Ja.mpr z)
   exact(G.2 c ne).trans (t c u ne e)
  ·cases Ja.mp y
   rw[zK L.symm];exact f.1
 done:=by
  intro X B x C m i pins s σ H E I l ⟨a,b,st⟩ ⟨A,M⟩;subst B x C;obtain⟨g,R,r,Q⟩:=I.walkedN A j;obtain⟨f0,f1,f2,f3,f4,f5⟩:=l it (Ja.mpr rfl);exact jy (I.ok.hd m) g j st (Array.getElem?_eq_none (by simp_all)) λZ t=>⟨rfl,I.turned (t':=s.toks) (λc u W e=>t c u W e) f0 f1 f3 f4 f5⟩
 self:=λ_ _ _ _ _ ⟨_,_,st⟩ h=>PySem.W.kcp_self st h
section
variable {X:Cx}
def kZ (P:Yo)(w:YI)(c:TE):TI:=λσ H R=>c σ H λx b=>∃ d a,x=.ref d/\b d=some (DN P w d a)/\∀ o,R (Itni P w d o a) (upd b d (.frz o (DN P w d a)))
theorem lJ {prog:Yo}{w:YI}{A:YO}{E:Jo->JO->Prop}{s:JO}{d:JI}{o:Obj}{Q:Jo->JO->Prop}(b:s.heap.get? d=some o) (a:o.ExactDict) (hs:(d == sysModules)=false)
  (q:Q (.ref s.heap.objs.size) { s with heap:=s.heap.push { cls:=.type "dict_items",data:=.fields #[.ref d] } }):wpAny (model prog w) A (call (.builtin "dict.items") [.ref d]) Q E s:=by
 have ty:s.TypeIs (.ref d) "dict":=⟨o,b,a.1⟩;refine Yj F.slot_dict_items ty F.entry_dict_items ?_ (F.args_dict_items_1 _);unfold Builtin.«dict.items» Builtin.Dict.showsAll;refine J0 ?_;show wpAny _ _ (Builtin.Dict.notOrdered "items" ⟨[Value.ref d],[]⟩ >>= _) _ _ _;refine J0 (wpAny_notOrdered_dict (s:=s) ty ?_);refine(show wpAny _ _ (pure d) _ _ _ from J9 ?_);rw[Jg (by rw[hs];simp)];refine J0 (J9 (J0 (JE (J9 ⟨_,rfl,q⟩) ?_)));show 1<=sizeLine+2;rw[Ju];lia
theorem rO {l:Expr}{tl:TE}{apos cpos y:Pos}{j:List Expr}{k1} (B:PE X l tl) (c:attributeBase l "items" X.env (eval l X.env)=eval l X.env:=by rfl) (a:(apos.endLine == cpos.line)=true:=by rfl):PI X (.Tuple j k1 y) (.Call (.Attribute l "items" apos) [] [] cpos) (kZ X.prog X.w tl):=by
 intro pins s σ H R I h;refine wpAny_Call_method0_late c a (thn (B pins s σ H _ I h) λv f ⟨x,J,n,w,d,p,ex,m,q⟩=>?_);subst ex;cases w;obtain⟨t,r⟩:=mZ n (.inl m);obtain⟨o,F,G,g,z,k,le,A,E⟩:=n.freezeN m;refine⟨"dict","dict.items",PySem.F.plainAttrs_dict,PySem.F.slot_dict_items,PySem.F.type_dict_items,t,r,Zj rfl (PySem.evalArgs_none ?_)⟩;refine lJ g z A ?_;have i:=E.kept (t':=f.toks) (h':=f.heap.push { cls:=.type "dict_items",data:=.fields #[.ref d] }) λb u e=>J7 _ e;have D:=J7 { cls:=.type "dict_items",data:=.fields #[.ref d] } g;refine lH (s:={ f with heap:=f.heap.push { cls:=.type "dict_items",data:=.fields #[.ref d] } }) ⟨_,Jk _ rfl,rfl,rfl⟩ D k ?_;refine⟨_,[_],_,_,_,rfl,i.kept (t':=f.toks) λb u e=>J7 _ e,pS d _ o p k le,⟨_,_,Jk _ rfl⟩,λb C=>?_,q o⟩;cases Ja.mp C;exact i.fpOk (Je _) (i.hok.fresh (Je _))
end
end L2
namespace L2
open PySem PySem.Spec PyProof.Rows Own
section
def le2 (p q a b:Int):Prop:=p<a\/p=a/\q<=b
end
theorem my (l b:JI)(xs ys:Array Jo)(n m:Nat)(I H:Option JI)(k f:Array (Option Jo))(sz:xs.size=ys.size) :
  Meets (Builtin.«tuple.__lt__» ⟨[.ref l,.ref b],[]⟩)
   (λA R s=>s.heap.get? l=some { cls:=.type "tuple",dict:=I,data:=.seq xs n,slots:=k }/\s.heap.get? b=some { cls:=.type "tuple",dict:=H,data:=.seq ys m,slots:=f } /\
    (∀ j (M:j<xs.size) (L:j<ys.size),SeqAt.EqAt A.in1 s xs[j] ys[j] true)/\R (.ok (.ret (.bool false))) s) :=
 .of_wp λprog w A R s h=>by
  rcases h with ⟨C,E,D,h⟩;rcases s with ⟨B,g,d,q,os⟩;have kinds:=AutoSeq1.sub_tuple_tuple;have K:(xs.toList.zip ys.toList).length=min xs.size ys.size:=by simp
  wp_walk using wpAny_loadPart' C,wpAny_loadPart' E,wpAny_forIn_list _ (λrest b e=>b.1=none/\e=⟨B,g,d,q,os⟩/\∃ i,i<=(xs.toList.zip ys.toList).length/\rest=(xs.toList.zip ys.toList).drop i) _
  case turn =>
   rintro⟨y,x⟩ rest b e ⟨c,rfl,i,t,a⟩
   have r:i<(xs.toList.zip ys.toList).length:=by
    rcases Nat.lt_or_ge i (xs.toList.zip ys.toList).length with z|z
    ·exact z
    ·rw[List.drop_eq_nil_of_le z]at a;cases a
   have v:i<xs.size:=by simp_all
   have u:i<ys.size:=by simp_all
   rw[ZJ r]at a;obtain⟨p,e2⟩:=List.cons.inj a;have G:y=xs[i]:=by simpa using JL Prod.fst p
   have ex:x=ys[i]:=by simpa using JL Prod.snd p
   subst G ex;refine J0 (D i v u prog w _ _ ?_)
   wp_walk
   exact⟨rfl,rfl,i+1,by lia,e2⟩
  case fin =>
   rintro⟨J,N⟩ e ⟨c,rfl,i,t,a⟩;have o:J=none:=c;subst o;have F:Builtin.Tuple.tupleCompareSizes CmpOp.Lt xs.size ys.size=.bool false:=by rw[sz];simp[Builtin.Tuple.tupleCompareSizes]
   show wpAny _ _ (ret (Builtin.Tuple.tupleCompareSizes CmpOp.Lt xs.size ys.size)) _ _ _;rw[F];exact J9 ⟨_,rfl,h⟩
  case h =>
   exact⟨rfl,rfl,0,JM _,rfl⟩
theorem LtAt.tuplesS {A:YO}{s:JO}{l b:JI}{xs ys:Array Jo}(q:IsTup s.heap l xs)(hb:IsTup s.heap b ys)(p:A.units<cLine)(sz:xs.size=ys.size)(r:∀ j (h1:j<xs.size) (z:j<ys.size),SeqAt.EqAt A.in1 s xs[j] ys[j] true):LtAt A s (.ref l) (.ref b) false:=λprog w E Q h=>by
 obtain⟨⟨y,e,u,c⟩,g,o,n,i⟩:=q;obtain⟨⟨v,d,t,a⟩,f,k,m,e2⟩:=hb;simp only at o i k e2;subst o i k e2;exact richCompare_meets_room (op:=.Lt) ⟨_,g,rfl⟩ ⟨_,f,rfl⟩ F.slot_tuple_lt F.entry_tuple_lt (F.args_tuple_lt_2 _ _) (my l b xs ys n m e d c a sz) ⟨g,f,r,show Value.bool false≠Value.notImplemented/\Q (.bool false) s from⟨(λx=>nomatch x),h⟩⟩ p
section
variable {X:Cx}
theorem bg {pins:List (JI × Obj)}{σ:St}{H:Hp}{s:JO}(I:Inv X pins σ H s){n:Nat}{x y:V}{c:Ordering}(h:Lx H n x y c)(A:YO)(u v:Jo)(P:A.units+n<cLine)(g:RelV x u)(f:RelV y v):LtAt A s u v (c == .lt):=by
 by_cases z:c=.eq
 ·cases h with
  | int n i j =>
   obtain⟨E,rfl⟩:=g;obtain⟨D,rfl⟩:=f;rw[(uo i j).2]
   exact LtAt.ints i j E D
  | @row n a b w t cs R Q U T h =>
   cases g;cases f;obtain⟨l,p,K,_⟩:=I.tuple (SqT.of R);obtain⟨k,o,J,_⟩:=I.tuple (SqT.of Q);have M:=p.length;have L:=o.length;rw[z];refine LtAt.tuplesS K J (by lia) (by rw[Jf,Jf];simp_all) λj O N=>?_;have e:j<w.length:=by simpa [M] using O
   have d:j<t.length:=by simpa [L] using N
   have m:j<cs.length:=by simp_all
   obtain⟨C,S,G⟩:=p.get (J2 e);obtain⟨B,e2,F⟩:=o.get (J2 d);have r:l.toArray[j]=C:=by simpa using (Jd.mp S).2
   have q:k.toArray[j]=B:=by simpa using (Jd.mp e2).2
   have ce:cs[j]=.eq:=vg.mp z _ (JA m);have:=eZ I (h j _ _ _ (J2 e) (J2 d) (J2 m)) A.in1 _ _ (by show A.units+1+n<cLine;lia) G F;rw[ce]at this;rw[r,q];exact this
 ·exact zbl I h z A u v P g f
end
section
variable {prog:Yo}{w:YI}{A:YO}{R:Result->JO->Prop}{I S:JI}{fp wr:List JI}{n:Nat}{P:Nat->Jo->Prop}{St:Nat->YP->Prop}
def AskM (prog:Yo)(w:YI)(A:YO)(a:JO)(wr:List JI)(S:JI)(v e:Jo)(c:Bool):Prop :=
 ∀ (h:YP) (d:Nat) (Q:Jo->JO->Prop) (E:Jo->JO->Prop),(∀ b o,b∉wr->b≠S->a.heap.get? b=some o->h.get? b=some o)->Q (.bool c) { a with heap:=h,toks:=d }->wpAny (model prog w) A.in1 (richCompare .Lt v e) Q E { a with heap:=h,toks:=d }
theorem rX (W:Walks prog w A.in1 I fp wr n P St)(away:S∉fp)(p:JO)(l:Nat->Jo->Prop)(more:∀ j v a,0<j->P j v->l j a->∃ c:Bool,l (j+1) (if c=true then v else a)/\AskM prog w A p wr S v a c) :
  ∀ (m j:Nat) (h:YP) (tk:Nat) (c:Nat) (a:Jo),j+m=n->0<j->l j a->St j h->h.get? S=some { cls:=.type "list",dict:=none,data:=.seq #[a,a] c,slots:=#[] }->(∀ b o,b∉wr->b≠S->p.heap.get? b=some o->h.get? b=some o) ->
   (∀ u B y,l n u->(∀ b o,b∉wr->b≠S->p.heap.get? b=some o->B.get? b=some o)->R (.ok (.ret u)) { p with heap:=B,toks:=y })->codeAny (model prog w) A (.builtin "min.loop" ⟨[.ref I,.none,.ref S],[]⟩) R { p with heap:=h,toks:=tk }:=by
 have out:S∉wr:=λz=>away (W.sub _ z);have nm:(toString "min"++toString ".loop":String) = "min.loop":=by decide
 intro m
 induction m with
 | zero =>
  intro j h tk c a C jp bs st s old k;have D:j=n:=by omega
  subst D
  refine YJ F.entry_min_loop (by
   refine YB YA _ ▸ (show wpAny _ A.in1 (seqItems? (.ref S) >>= _) _ _ _ from ?_);refine J0 (Y1 s rfl (show wpAny _ A.in1 (tryCatch (pyNext (.ref I)) _ >>= _) _ _ _ from J0 (Z3 (W.done { p with heap:=h,toks:=tk } _ _ st λx r keep=>?_))));have d:=keep S _ out s
   show wpAny _ A.in1 (updateSeq S (λ_=>#[]) >>= _) _ _ _;exact J0 (Zb d rfl (J0 (YM (J9 (k _ _ r bs λb o g q e=>(JN _ _ (Ne.symm q)).trans (keep b o g (old b o g q e))))))))
 | succ m ih =>
  intro j h tk c a C jp bs st s old k
  refine YJ F.entry_min_loop (by
   refine YB YA _ ▸ (show wpAny _ A.in1 (seqItems? (.ref S) >>= _) _ _ _ from ?_);refine J0 (Y1 s rfl (show wpAny _ A.in1 (tryCatch (pyNext (.ref I)) _ >>= _) _ _ _ from J0 (Z3 (W.item j { p with heap:=h,toks:=tk } _ _ (by lia) st λv x r pv t keep=>?_))));have d:=keep S _ out s;have f:∀ b o,b∉wr->b≠S->p.heap.get? b=some o->x.get? b=some o:=λb o g q e=>keep b o g (old b o g q e);obtain⟨E,i,ask⟩:=more j v a jp pv bs;show wpAny _ A.in1 (tryCatch (holding [v,v] (richCompare .Lt v a >>= _)) _ >>= _) _ _ _;refine J0 (Z3 (Y2 (J0 (ask x r _ _ f (J0 (Y2 (Zh (J0 (YM (J9 ?_))))))))))
   cases E with
   | false =>
    rw[Jg Ji]at i;rw[Jg Ji];refine J0 (YM ?_);rw[nm]
    exact J9 ⟨YE YA _,ih (j+1) _ _ _ a (by lia) (by lia) i t d f k⟩
   | true =>
    rw[Jq rfl]at i;rw[Jq rfl];refine J0 (Zb d rfl (J0 (YM ?_)));rw[nm]
    exact J9 ⟨YE YA _,ih (j+1) _ _ _ v (by lia) (by lia) i (W.frame _ _ _ t λb g o e=>(JN _ _ (λz=>away (by rw[z];exact g))).trans e) (Yb _ d rfl) (λb o g q e=>(JN _ _ (Ne.symm q)).trans (f b o g q e)) k⟩)
end
section
variable {prog:Yo}{w:YI}{A:YO}{E:Jo->JO->Prop}{s:JO}
def WalkM (prog:Yo)(w:YI)(A:YO)(Q:Jo->JO->Prop)(it:Jo)(s2:JO):Prop :=
 ∃ (I:JI) (f wr:List JI) (n:Nat) (P:Nat->Jo->Prop) (St:Nat->YP->Prop),it=.ref I/\Walks prog w A.in1 I f wr n P St/\St 0 s2.heap/\(∀ b∈f,b<s2.heap.objs.size)/\0<n /\
   ∃ a:Nat->Jo->Prop,(∀ v,P 0 v->a 1 v)/\(∀ j v d,0<j->P j v->a j d->∃ c:Bool,a (j+1) (if c=true then v else d)/\AskM prog w A s2 wr s2.heap.objs.size v d c) /\
   ∀ u e g,a n u->(∀ b o,b∉wr->s2.heap.get? b=some o->e.get? b=some o)->Q u { s2 with heap:=e,toks:=g }
theorem j5 {x:Jo}{Q:Jo->JO->Prop}(h:wpAny (model prog w) A.in1 (pyIter x) (WalkM prog w A Q) E s):wpAny (model prog w) A (call (.builtin "min") [x]) Q E s:=by
 have nm:(toString "min"++toString ".loop":String) = "min.loop":=by decide
 refine call_function_tree F.kind_min F.plain_min F.entry_min (F.args_min1 _) ?_;show wpAny _ A.in1 (Builtin.Builtins.bindParams "min" ["key","default"] 0 ⟨[],[]⟩ >>= _) _ _ s;refine J0 (wpAny_of_eq (show Builtin.Builtins.bindParams "min" ["key","default"] 0 ⟨[],[]⟩=pure [none,none] from rfl) (J0 (J9 (J0 (JB h (λit a z=>?_) λ_ _ e=>e)))));obtain⟨I,q,wr,n,P,St,rfl,W,st,low,pos,l,first,more,k⟩:=z;have away:a.heap.objs.size∉q:=λz=>Ye _ (low _ z);have out:a.heap.objs.size∉wr:=λz=>away (W.sub _ z);refine J0 (JE ?_);rw[nm];refine J9 ⟨YE YA _,YJ F.entry_min_loop ?_⟩;have new:(a.heap.push { cls:=.type "list",data:=.seq #[] }).get? a.heap.objs.size=some { cls:=.type "list",dict:=none,data:=.seq #[] 0,slots:=#[] }:=Jk _ rfl;have j:St 0 (a.heap.push { cls:=.type "list",data:=.seq #[] }):=W.frame _ _ _ st λb _ o e=>J7 _ e;refine YB YA _ ▸ (show wpAny _ A.in1 (seqItems? (.ref a.heap.objs.size) >>= _) _ _ _ from ?_);refine J0 (Y1 new rfl (show wpAny _ A.in1 (tryCatch (pyNext (.ref I)) _ >>= _) _ _ _ from J0 (Z3 (W.item 0 _ _ _ pos j λv p B pv i keep=>?_))));have y:=first v pv
 have c:=keep _ _ out new;show wpAny _ A.in1 (updateSeq a.heap.objs.size (λ_=>#[v,v]) >>= _) _ _ _;refine J0 (Zb c rfl ?_);rw[nm];have up:∀ b o,b∉wr->b≠a.heap.objs.size->a.heap.get? b=some o->(p.update a.heap.objs.size (Obj.mapSeq λ_=>#[v,v])).get? b=some o:=λb o f t e=>(JN _ _ (Ne.symm t)).trans (keep b o f (J7 _ e));exact J9 ⟨YE YA _,rX W away a l more (n-1) 1 _ _ _ v (by lia) (by lia) y (W.frame _ _ _ i λb f o e=>(JN _ _ (λz=>away (by rw[z];exact f))).trans e) (Yb _ c rfl) up λu m g r d=>k u m g r λb o f e=>d b o f (Jx (Jh e)) e⟩
theorem eV {x y:Jo}{Q:Jo->JO->Prop}(h:wpAny (model prog w) A.in1 (pyIter (.ref s.heap.objs.size)) (WalkM prog w A Q) E { s with heap:=s.heap.push { cls:=.type "tuple",data:=.seq #[x,y] } }):wpAny (model prog w) A (call (.builtin "min") [x,y]) Q E s:=by
 have nm:(toString "min"++toString ".loop":String) = "min.loop":=by decide
 refine call_function_tree F.kind_min F.plain_min F.entry_min (F.args_min2 _ _) ?_;show wpAny _ A.in1 (Builtin.Builtins.bindParams "min" ["key","default"] 0 ⟨[],[]⟩ >>= _) _ _ s;refine J0 (wpAny_of_eq (show Builtin.Builtins.bindParams "min" ["key","default"] 0 ⟨[],[]⟩=pure [none,none] from rfl) (J0 ?_));refine wpAny_newTuple (J0 (JB h (λit a z=>?_) λ_ _ e=>e));obtain⟨I,q,wr,n,P,St,rfl,W,st,low,pos,l,first,more,k⟩:=z;have away:a.heap.objs.size∉q:=λz=>Ye _ (low _ z);have out:a.heap.objs.size∉wr:=λz=>away (W.sub _ z);refine J0 (JE ?_);rw[nm];refine J9 ⟨YE YA _,YJ F.entry_min_loop ?_⟩;have new:(a.heap.push { cls:=.type "list",data:=.seq #[] }).get? a.heap.objs.size=some { cls:=.type "list",dict:=none,data:=.seq #[] 0,slots:=#[] }:=Jk _ rfl;have j:St 0 (a.heap.push { cls:=.type "list",data:=.seq #[] }):=W.frame _ _ _ st λb _ o e=>J7 _ e;refine YB YA _ ▸ (show wpAny _ A.in1 (seqItems? (.ref a.heap.objs.size) >>= _) _ _ _ from ?_);refine J0 (Y1 new rfl (show wpAny _ A.in1 (tryCatch (pyNext (.ref I)) _ >>= _) _ _ _ from J0 (Z3 (W.item 0 _ _ _ pos j λv p C pv i keep=>?_))));have B:=first v pv
 have c:=keep _ _ out new;show wpAny _ A.in1 (updateSeq a.heap.objs.size (λ_=>#[v,v]) >>= _) _ _ _;refine J0 (Zb c rfl ?_);rw[nm];have up:∀ b o,b∉wr->b≠a.heap.objs.size->a.heap.get? b=some o->(p.update a.heap.objs.size (Obj.mapSeq λ_=>#[v,v])).get? b=some o:=λb o f t e=>(JN _ _ (Ne.symm t)).trans (keep b o f (J7 _ e));exact J9 ⟨YE YA _,rX W away a l more (n-1) 1 _ _ _ v (by lia) (by lia) B (W.frame _ _ _ i λb f o e=>(JN _ _ (λz=>away (by rw[z];exact f))).trans e) (Yb _ c rfl) up λu m g r d=>k u m g r λb o f e=>d b o f (Jx (Jh e)) e⟩
end
def y4 (cmp:V->V->Ordering)(b y:V):V:=if cmp y b=.lt then y else b
def xH (cmp:V->V->Ordering):List V->V
 | []=>.non
 | x::r=>r.foldl (y4 cmp) x
theorem iy (cmp:V->V->Ordering){l:List V}(h:l≠[])(y:V):xH cmp (l++[y])=y4 cmp (xH cmp l) y:=by
 cases l with
 | nil=>exact absurd rfl h
 | cons x r=>show List.foldl _ _ (r++[y])=_;rw[YN];rfl
theorem nB (cmp:V->V->Ordering):∀ (r:List V) (x:V),r.foldl (y4 cmp) x∈x::r
 | [],x=>.head _
 | y::r,x=>by
  have:=nB cmp r (y4 cmp x y);show List.foldl (y4 cmp) (y4 cmp x y) r∈x::y::r;rcases Jp.mp this with z|z
  ·rw[z]
   unfold y4;split
   ·exact .tail _ (.head _)
   ·exact .head _
  ·exact .tail _ (.tail _ z)
theorem nN (cmp:V->V->Ordering){l:List V}(h:l≠[]):xH cmp l∈l:=by
 cases l with
 | nil=>exact absurd rfl h
 | cons x r=>exact nB cmp r x
section
variable {X:Cx}{pins:List (JI × Obj)}{σ:St}{H:Hp}{s:JO}
theorem pO {b:Bool}{a:JI}{xs:List V}{its:List Jo}{n:Nat}{cmp:V->V->Ordering}{Q:VK}(J:X.calm=true)(T:X.A.units+64<cLine)(I:Inv X pins σ H s)(m:Vals xs its)(pp:SqO b s.heap a its.toArray)(al:a<s.heap.objs.size)(k:0<xs.length)(R:n<=20)(K:∀ x∈xs,∀ y∈xs,Lx H n x y (cmp x y))(q:Q (xH cmp xs) H) :
  wpAny (model X.prog X.w) X.A.in1 (pyIter (.ref a)) (WalkM X.prog X.w X.A (EP X pins σ Q)) X.xe s:=by
 have U:its.length=xs.length:=m.length.symm;refine x9 pp ⟨s.heap.objs.size,[s.heap.objs.size,a],[s.heap.objs.size],its.toArray.size,(λi v=>its.toArray[i]?=some v),_,rfl,lW (show X.A.in1.handled=none from I.ok.hd J) b _ a (Jx al) its.toArray,⟨?_,pp.mv λo e=>J7 _ e⟩,λc F=>?_,by rw[Jf];simp_all,(λj v=>0<j/\j<=xs.length/\RelV (xH cmp (xs.take j)) v),λv t=>?_,λj v B jp t ⟨_,S,w⟩=>?_,λu W l ⟨_,_,f⟩ G=>?_⟩
 ·cases b<;>exact⟨_,Jk _ rfl,rfl,rfl⟩
 ·show c<(s.heap.push _).objs.size
  rw[Ys];rcases Jp.mp F with z|z
  ·exact z ▸ Z5 _
  ·exact Ja.mp z ▸ Z1 al
 ·have E:xs[0]?=some xs[0]:=J2 k
  obtain⟨C,g,f⟩:=m.get E;have d:its[0]?=some v:=by simpa using t
  rw[d]at g;cases g;refine⟨by lia,k,?_⟩
  cases xs with
  | nil=>cases k
  | cons x r=>exact f
 ·have d:its[j]?=some v:=by simpa using t
  have p:j<xs.length:=by
   have:=(Jd.mp d).1
   simp_all
  obtain⟨C,g,f⟩:=m.get (J2 p);rw[d]at g;cases g
  have ne:xs.take j≠[]:=λz=>by
   have:=JL List.length z;rw[Js,Yh]at this
   simp_all
  have bm:xH cmp (xs.take j)∈xs:=Zx (nN cmp ne);have L:=K _ (JA p) _ bm;refine⟨cmp xs[j] (xH cmp (xs.take j)) == .lt,⟨by lia,by lia,?_⟩,λh l N P old D=>?_⟩
  ·rw[<- Y8 p,iy cmp ne]
   unfold y4;by_cases z:cmp xs[j] (xH cmp (xs.take j))=.lt
   ·rw[Jq z,Jq (by rw[z];rfl)];exact f
   ·rw[Jg z,Jg (λy=>z (by simpa using y))];exact w
  ·have O:Inv X pins σ H { s with heap:=h,toks:=l }:=I.kept λc o e=>old c o (λz=>Jx (Jh e) (Ja.mp z)) (λz=>by
    have M:=Jh e;have A:c=(s.heap.push { cls:=.type (cN b),data:=.fields #[.ref a,.int 0 0] }).objs.size:=z;rw[Ys]at A
    exact absurd A (Jx (Z1 M))) (J7 _ e)
   exact bg O L X.A.in1 v B (by show X.A.units+1+n<cLine;lia) f w X.prog X.w P N D
 ·refine⟨xH cmp xs,H,I.kept (t':=l) λc o e=>G c o (λz=>Jx (Jh e) (Ja.mp z)) (J7 _ e),?_,q⟩
  have:xs.take its.toArray.size=xs:=JK (by rw[Jf];simp_all);rw[this]at f;exact f
theorem qG (j:X.calm=true)(b:Bool)(h:X.A.units+64<cLine):CallR X (.builtin "min") (λvs H Q=>∃ a xs n cmp,vs=[.ref a]/\SqB b X.K H a xs/\0<xs.length/\n<=20/\(∀ x∈xs,∀ y∈xs,Lx H n x y (cmp x y))/\Q (xH cmp xs) H):=by
 rintro pins s σ H vs r Q I e ⟨a,xs,n,cmp,rfl,i,d,c,k,q⟩;obtain⟨u,rfl,f⟩:=e.one;cases f;obtain⟨p,g,pp⟩:=I.sq (b:=b) i;obtain⟨o,m,l,_⟩:=pp.ob;exact j5 (pO j h I g pp (Jh l) d c k q)
theorem lR (i:X.calm=true)(h:X.A.units+64<cLine):CallR X (.builtin "min") (λvs H Q=>∃ x y n cmp,vs=[x,y]/\n<=20/\(∀ u∈[x,y],∀ v∈[x,y],Lx H n u v (cmp u v))/\Q (y4 cmp x y) H):=by
 rintro pins s σ H vs l Q I d ⟨x,y,n,cmp,rfl,c,j,q⟩;obtain⟨u,a,rfl,g,f⟩:=i7 d;refine eV ?_;have k:=I.kept (t':=s.toks) (h':=s.heap.push { cls:=.type "tuple",data:=.seq #[u,a] }) λb u e=>J7 _ e;refine pO (s:={ s with heap:=s.heap.push { cls:=.type "tuple",data:=.seq #[u,a] } }) (b:=false) (xs:=[x,y]) (its:=[u,a]) i h k (.cons g (.cons f .nil)) ⟨_,Jk _ rfl,rfl,_,rfl⟩ ?_ (by show 0<2;lia) c j q;show s.heap.objs.size<(s.heap.push _).objs.size;rw[Ys];simp_all
end
def yj:List Int->List Int->Ordering
 | [],[]=>.eq
 | [],_::_=>.lt
 | _::_,[]=>.gt
 | a::x,b::y=>(compare a b).then (yj x y)
theorem qD:∀ {x y:List Int},x.length=y.length->(List.zipWith compare x y).foldr Ordering.then .eq=yj x y
 | [],[],_=>rfl
 | a::x,b::y,h=>by
  show (compare a b).then _=(compare a b).then _;rw[qD (x:=x) (y:=y) (by simpa using h)]
theorem kS {H:Hp}{a b:JI}{x y:List Int}(ha:H a=some (.tup (x.map V.int)))(hb:H b=some (.tup (y.map V.int)))(l:x.length=y.length):Lx H 1 (.ref a) (.ref b) (yj x y):=by
 rw[<- qD l];refine .row ha hb (by rw[Jc,List.length_zipWith];simp_all) (by rw[Jc,List.length_zipWith];simp_all) λi u v c e d f=>?_;rw[JF]at e d;obtain⟨p,h,rfl⟩:=Yx.mp e;obtain⟨q,g,rfl⟩:=Yx.mp d;rw[List.getElem?_zipWith,h,g]at f;cases f;exact .int 0 p q
def xR (x y:List Int):List Int:=if yj y x=.lt then y else x
def j6:List (List Int)->List Int
 | []=>[]
 | x::r=>r.foldl xR x
def ak (P:Yo)(w:YI)(t:TS):TS:=λD σ H=>t { D with nx:=λa e=>∃ d o c b,H d=some (DN P w d b)/\e d=some (.frz o (DN P w d c))/\D.nx a (upd e d (DN P w d c)) } σ H
section
variable {X:Cx}
theorem g8 {st:Stmt}{t:TS}(h:PS X st t):PS X st (ak X.prog X.w t):=by
 intro pins s σ H D I c;refine thn (h pins s σ H _ I c) λf k q=>?_
 cases f with
 | next =>
  obtain⟨a,l,g,d,o,j,i,e,b,q⟩:=q
  exact⟨a,_,g.thawN b (I.meltedN e),q⟩
 | brk=>exact q
 | cont=>exact q
 | ret u=>exact q
end
theorem lP {P:Yo}{w:YI}{d:JI}{o:Obj}{xs:KVN}{g:TG}{j:TS}{D:Ends}{σ:St}{H:Hp}(a:Nat->St->Hp->Prop)(u:a 0 σ H)(n:∀ i σ H,i<=xs.length->a i σ H->H d=some (.frz o (DN P w d xs)))(hs:∀ i p σ H T,xs[i]?=some p->H T=none->a i σ H->g (.ref T) σ (upd H T (.tup [.ref p.2.1,p.2.2])) λc h=>j { D with nx:=a (i+1),ct:=a (i+1),bk:=D.nx } c h)(s:∀ σ H,a xs.length σ H->D.nx σ H) :
  ∃ W:Nat->Nat->St->Hp->Prop,(∃ m,W 0 m σ H)/\∀ i m σ H,W i m σ H ->
   ((Itni P w d o xs).stop i H/\D.nx σ H)\/((Itni P w d o xs).go i H/\∃ N:St->Hp->Prop,(∀ f b,N f b->∃ k,k<m/\W (i+1) k f b)/\∀ x b,(Itni P w d o xs).yld i H x b->g x σ b λc h=>j { D with nx:=N,ct:=N,bk:=D.nx } c h):=by
 refine⟨λi m σ H=>m=xs.length-i/\i<=xs.length/\a i σ H,⟨xs.length,by simp,JM _,u⟩,λi m σ H ⟨em,r,p⟩=>?_⟩;subst em;have q:=n i σ H r p;by_cases lt:i<xs.length
 ·refine .inr ⟨⟨q,lt⟩,a (i+1),λf b l=>⟨xs.length-(i+1),by lia,rfl,lt,l⟩,λx b ⟨y,T,v,t,z,e2⟩=>?_⟩
  subst z e2;exact hs i y σ H T v t p
 ·have e:i=xs.length:=by lia
  subst e;exact .inl ⟨⟨q,rfl⟩,s σ H p⟩
end L2
namespace Bn
open PySem L2 Own
theorem vS:∀ (fs:List (Nat × Nat)) (st:List Int × List Int),(∀ t∈st.2,t=0\/t=1)->∀ t∈(yU st fs).2,t=0\/t=1
 | [],_,h=>h
 | f::fs,st,h=>vS fs (yJ st f) λt a=>by
  unfold yJ at a;simp only at a;rcases Jr.mp a with z|z
  ·exact h t z
  ·rw[Ja.mp z];lia
theorem iR (fs:List (Nat × Nat))(cs:List Int):∀ t∈(zw fs cs).2,t=0\/t=1:=vS fs (cs,[]) λt a=>by simp at a
theorem wu (n p:Nat):(List.replicate n (0:Int)).getD p 0=0:=by
 rw[J8,List.getElem?_replicate];split<;>rfl
theorem pN (n p:Nat):(List.replicate n (0:Int)).set p 0=List.replicate n 0:=by
 refine List.ext_getElem (by simp) λi b a=>?_;rw[List.getElem_set];split<;>simp
theorem vR (n:Nat):∀ (fs:List (Nat × Nat)) (T:List Int),yU (List.replicate n 0,T) fs=(List.replicate n 0,T++List.replicate fs.length 0)
 | [],T=>by simp[yU]
 | f::fs,T=>by
  have e:yJ (List.replicate n 0,T) f=(List.replicate n 0,T++[0]):=by
   unfold yJ;simp only[wu];rw[show ((0:Int)+0+1) / 2=0 by decide,show ((0:Int)+0) / 2=0 by decide,show ((0:Int)+0)%2=0 by decide,pN,pN]
  show yU (yJ (List.replicate n 0,T) f) fs=_;rw[e,vR n fs (T++[0]),Y5,JX,Y0];rfl
theorem r0 (n:Nat)(fs:List (Nat × Nat)):zw fs (List.replicate n 0)=(List.replicate n 0,List.replicate fs.length 0):=by
 unfold zw;rw[vR,Zz]
theorem iW (N:Nt)(ok:N.Ok):zp N (List.replicate N.lanes 0)=List.replicate N.lanes 0:=by
 unfold zp;rw[r0];refine List.ext_getElem (by rw[Jc,Y4,uH ok]) λi b a=>?_;rw[List.getElem_map,List.getElem_replicate];exact wu _ _
theorem nP (N:Nt):yn N (List.replicate N.lanes 0)=List.replicate N.forks.length 0:=by unfold yn;rw[r0]
theorem zaN {N:Nt}(ok:N.Ok)(back:Bool){cs:List Int}(cl:cs.length=N.lanes){lane:Nat}(o:lane<N.lanes) :
  yn N (yB cs lane (if back then -1 else 1))=(yH back N.forks (yn N cs) lane N.forks.length).1 /\
  zp N (yB cs lane (if back then -1 else 1))=yB (zp N cs) (N.ends.idxOf (yH back N.forks (yn N cs) lane N.forks.length).2) (if back then -1 else 1) /\
  (yH back N.forks (yn N cs) lane N.forks.length).2<N.lanes:=by
 have R:=ran (back:=back) (fs:=N.forks) (cs:=cs) (lane:=lane) (λf m=>by rw[cl];exact ok.fk f m) (by simp_all) (iR _ _) N.forks.length (Je _);have j:N.forks.take N.forks.length=N.forks:=JV;have i:=R.flows;have h:=R.turns;rw[j]at i h;have d:=R.here;rw[cl]at d;refine⟨?_,?_,d⟩
 ·refine x4 ?_ λp b=>?_
  ·unfold yn;rw[xA,R.len,xA]
  ·unfold yn at b;rw[xA]at b;exact h p b
 ·have ne:(yH back N.forks (yn N cs) lane N.forks.length).2∈N.ends:=ok.en.mem_iff.mpr (Yd.mpr d)
  have k:N.ends.Nodup:=ok.en.nodup_iff.mpr List.nodup_range;have n:(zp N cs).length=N.ends.length:=by unfold zp;rw[Jc]
  refine x4 (by rw[yD];unfold zp;rw[Jc,Jc]) λp b=>?_;have a:p<N.ends.length:=by unfold zp at b;rwa [Jc]at b
  rw[yX (by rw[n];exact a)]
  have g:∀ c:List Int,(N.ends.map λe=>c.getD e 0).getD p 0=c.getD N.ends[p] 0:=λc=>by
   rw[J8 (l:=List.map _ _),JF,J2 a];rfl
  unfold zp;rw[g,g,i];have lt':N.ends[p]<(zw N.forks cs).1.length:=by rw[xF,cl];exact pG ok (JA a)
  rw[yX lt']
  congr 1
  show (if (yH back N.forks (yn N cs) lane N.forks.length).2=N.ends[p] then _ else _)=_
  have iff:(yH back N.forks (yn N cs) lane N.forks.length).2=N.ends[p]↔N.ends.idxOf (yH back N.forks (yn N cs) lane N.forks.length).2=p:=by
   constructor
   ·intro e;rw[e];exact k.idxOf_getElem p a
   ·intro e
    have:=List.getElem_idxOf (ZF ne);subst e;exact this.symm
  by_cases e:(yH back N.forks (yn N cs) lane N.forks.length).2=N.ends[p]
  ·rw[Jq e,Jq (iff.mp e)]
  ·rw[Jg e,Jg λz=>e (iff.mpr z)]
end Bn
namespace Bn
open PySem L2 Own
def big (x y:Int):Int:=if y > x then y else x
theorem cD (x y:Int):x<=big x y:=by unfold big;split<;>lia
theorem aR (x y:Int):y<=big x y:=by unfold big;split<;>simp_all
def xO (st:List Int × List Int)(f:Nat × Nat):List Int × List Int :=
 ((st.1.set f.1 (1+big (st.1.getD f.1 0) (st.1.getD f.2 0))).set f.2 (1+big (st.1.getD f.1 0) (st.1.getD f.2 0)),st.2++[1+big (st.1.getD f.1 0) (st.1.getD f.2 0)])
def lay (n:Nat)(fs:List (Nat × Nat)):List Int × List Int:=fs.foldl xO (List.replicate n 0,[])
theorem xw {n:Nat}{fs:List (Nat × Nat)}{i:Nat}{f:Nat × Nat}(h:fs[i]?=some f):lay n (fs.take (i+1))=xO (lay n (fs.take i)) f:=by
 have w:=Jd.mp h;rw[Yw w.1,w.2];unfold lay;rw[YN];rfl
theorem wl {n:Nat}:∀ (i:Nat) (fs:List (Nat × Nat)),i<=fs.length->(lay n (fs.take i)).1.length=n/\(lay n (fs.take i)).2.length=i
 | 0,fs,_=>by simp[lay]
 | i+1,fs,h=>by
  have ih:=wl (n:=n) i fs (by lia);rw[xw (J2 (by lia))];unfold xO;simp[ih.1,ih.2]
def Tops (fs:List (Nat × Nat))(fo:List Int)(i lane:Nat)(x:Int):Prop :=
 0<=x/\(∀ j f,j<i->fs[j]?=some f->f.1=lane\/f.2=lane->fo.getD j 0<=x)/\(x=0\/∃ j f,j<i/\fs[j]?=some f/\(f.1=lane\/f.2=lane)/\fo.getD j 0=x)
theorem sU {fo:List Int}{m:Int}{j:Nat}(h:j<fo.length):(fo++[m]).getD j 0=fo.getD j 0:=by
 rw[J8,Yn h,<- J8]
theorem o9 {fo:List Int}{m:Int}{i:Nat}(h:fo.length=i):(fo++[m]).getD i 0=m:=by
 subst h;rw[J8,List.getElem?_concat_length];rfl
theorem wk {n:Nat}{fs:List (Nat × Nat)}(ok:∀ f∈fs,f.1<n/\f.2<n):∀ i,i<=fs.length->∀ lane,lane<n->Tops fs (lay n (fs.take i)).2 i lane ((lay n (fs.take i)).1.getD lane 0)
 | 0,_,lane,d=>by
  refine⟨?_,λj f l=>absurd l (ZB _),.inl ?_⟩<;>simp[lay,d]
 | i+1,hi,lane,d=>by
  have q:i<fs.length:=by lia
  have ih:=wk ok i (by lia);have ln:=wl (n:=n) i fs (by lia);have o:=J2 q;have k:=ok fs[i] (JA q);rw[xw o];generalize fs[i]=f at *;generalize lay n (fs.take i)=st at *;obtain⟨re,r⟩:=st;simp only at ih ln;show Tops fs (r++[1+big (re.getD f.1 0) (re.getD f.2 0)]) (i+1) lane (((re.set f.1 _).set f.2 _).getD lane 0);have s:=ih f.1 k.1;have t:=ih f.2 k.2;have gl:=cD (re.getD f.1 0) (re.getD f.2 0);have v:=aR (re.getD f.1 0) (re.getD f.2 0);generalize u:1+big (re.getD f.1 0) (re.getD f.2 0)=m at *;rw[yC (by simp[ln.1,d]),yC (by rw[ln.1];exact d)]
  have on:(f.1=lane\/f.2=lane)->re.getD lane 0<=m->Tops fs (r++[m]) (i+1) lane m:=λp hle=>by
   refine⟨by have:=s.1;lia,λj g l b a=>?_,.inr ⟨i,f,Z5 _,o,p,o9 ln.2⟩⟩;by_cases e:j=i
   ·subst e;rw[o9 ln.2];exact Zv _
   ·rw[sU (by lia)]
    have:=(ih lane d).2.1 j g (by lia) b a
    grind
  by_cases e2:f.2=lane
  ·rw[Jq e2];exact on (.inr e2) (by subst e2;lia)
  ·rw[Jg e2]
   by_cases h:f.1=lane
   ·rw[Jq h];exact on (.inl h) (by subst h;lia)
   ·rw[Jg h]
    have c:=ih lane d;refine⟨c.1,λj g l b a=>?_,?_⟩
    ·by_cases e:j=i
     ·subst e;rw[o]at b;obtain rfl:=Jj b
      rcases a with z|z
      ·exact absurd z h
      ·exact absurd z e2
     ·rw[sU (by lia)];exact c.2.1 j g (by lia) b a
    ·rcases c.2.2 with z|⟨j,g,l,b,a,e⟩
     ·exact .inl z
     ·exact .inr ⟨j,g,by lia,b,a,by rw[sU (by simp_all)];exact e⟩
def zbk (g f:Nat × Nat):Bool:=decide (g.1=f.1\/g.1=f.2) || decide (g.2=f.1\/g.2=f.2)
def zb5 (fs:List (Nat × Nat))(fo:List Int)(f:Nat × Nat)(i:Nat):List Int:=((List.range i).filter λj=>zbk (fs.getD j (0,0)) f).map λj=>fo.getD j 0
def yq (N:Nt):List Int:=(lay N.lanes N.forks).2
theorem kY {n:Nat}{fs:List (Nat × Nat)}(ok:∀ f∈fs,f.1<n/\f.2<n):∀ i,i<=fs.length->∀ z∈(lay n (fs.take i)).2,0<=z
 | 0,_,z,h=>by simp[lay]at h
 | i+1,hi,z,h=>by
  have a:i<fs.length:=by lia
  have ih:=kY ok i (by lia) z;have b:=wk ok i (by lia) fs[i].1 (ok _ (JA a)).1;rw[xw (J2 a)]at h;rcases Jr.mp h with w|w
  ·exact ih w
  ·rw[Ja.mp w]
   have:=cD ((lay n (fs.take i)).1.getD fs[i].1 0) ((lay n (fs.take i)).1.getD fs[i].2 0);have:=b.1;lia
abbrev Fk:=Nat × Nat
def run {σ α:Type}(step:σ->Fk->σ × α):σ->List Fk->σ × List (α × Fk)
 | s,[]=>(s,[])
 | s,f::fs=>((run step (step s f).1 fs).1,((step s f).2,f)::(run step (step s f).1 fs).2)
def va (re:List Int)(f:Fk):List Int × Int:=((re.set f.1 (1+big (re.getD f.1 0) (re.getD f.2 0))).set f.2 (1+big (re.getD f.1 0) (re.getD f.2 0)),1+big (re.getD f.1 0) (re.getD f.2 0))
theorem kX:∀ (fs:List Fk) (re fo:List Int),fs.foldl xO (re,fo)=((run va re fs).1,fo++(run va re fs).2.map Prod.fst)
 | [],re,fo=>by
  show (re,fo)=(re,fo++[])
  rw[JT]
 | f::fs,re,fo=>by
  rw[List.foldl_cons];show fs.foldl xO ((va re f).1,fo++[(va re f).2])=_;rw[kX fs];show (_,fo++[(va re f).2]++_)=(_,fo++((va re f).2::_));rw[Y0];rfl
def pz (N:Nt):List (Int × Fk):=(run va (List.replicate N.lanes 0) N.forks).2
theorem jT (N:Nt):(pz N).map Prod.fst=yq N:=by
 unfold yq lay pz;rw[kX];rfl
theorem gj:∀ (fs:List Fk) (re:List Int) (B:Int),(∀ lane,re.getD lane 0<=B)->∀ y∈(run va re fs).2,y.1<=B+fs.length
 | [],_,_,_,y,a=>by simp[run]at a
 | f::fs,re,B,h,y,a=>by
  have m:(va re f).2<=B+1:=by
   show 1+big (re.getD f.1 0) (re.getD f.2 0)<=B+1;have:=h f.1;have:=h f.2;unfold big;split<;>lia
  rcases Jp.mp a with rfl|q
  ·show (va re f).2<=_
   rw[Y5];lia
  ·have:=gj fs (va re f).1 (B+1) (λlane=>by
    by_cases b:lane<re.length
    ·have e:(va re f).1.getD lane 0=if f.2=lane then (va re f).2 else if f.1=lane then (va re f).2 else re.getD lane 0:=by
      show ((re.set f.1 _).set f.2 _).getD lane 0=_;rw[yC (by simp[b]),yC b];rfl
     rw[e];have:=h lane;split
     ·exact m
     ·split
      ·exact m
      ·lia
    ·have z:(va re f).1.getD lane 0=0:=by
      rw[J8,ZK.mpr (by show ((re.set f.1 _).set f.2 _).length<=lane;simp;simp_all)];rfl
     have c:re.getD lane 0=0:=by rw[J8,ZK.mpr (by simp_all)];rfl
     have:=h lane
     lia) y q
   rw[Y5];lia
def rnk (x:Int × Fk):Int:=x.1*1024+x.2.1*32+x.2.2
def ins (x:Int × Fk):List (Int × Fk)->List (Int × Fk)
 | []=>[x]
 | y::l=>if rnk x<=rnk y then x::y::l else y::ins x l
theorem zbc {N:Nt}:∀ y∈pz N,y.1<=N.forks.length:=λy b=>by
 have:=gj N.forks (List.replicate N.lanes 0) 0 (λa=>by
  rw[J8,List.getElem?_replicate]
  split<;>exact Zv _) y b
 simp_all
theorem iF {N:Nt}:∀ z∈yq N,z<=N.forks.length:=λz a=>by
 rw[<- jT]at a;obtain⟨y,b,rfl⟩:=Jn.mp a;exact zbc y b
theorem zT {H:Hp}{a:JI}(_:H a=none)(o:HO):L2.upd H a o a=some o:=zH
theorem Prs.app {H:Hp}:∀ {ps a:List V}{fs b:List Fk},Prs H ps fs->Prs H a b->Prs H (ps++a) (fs++b)
 | [],_,[],_,_,h=>h
 | _::_,_,_::_,_,⟨x,r⟩,h=>⟨x,Prs.app r h⟩
end Bn
namespace L2
open PySem
theorem zbx {i:Nat}{x:V}{t:TS}{D:Ends}{σ:St}{H:Hp}(h:∀ b:Ends,(∀ σ H,D.nx σ H->b.nx σ H)->t b (σ.set i (some x)) H):xT i x σ H λa c=>t D a c:=h D λ_ _ x=>x
theorem zaP {i:Nat}{x:V}{t:TS}{D:Ends}{σ:St}{H:Hp}(h:∀ a:Ends,(∀ σ H,D.nx σ H->a.nx σ H)->(∀ σ H,D.ct σ H->a.ct σ H)->t a (σ.set i (some x)) H):xT i x σ H λb c=>t D b c:=h D (λ_ _ x=>x) λ_ _ x=>x
theorem zz {t u:TS}{D:Ends}{σ:St}{H:Hp}(h:∀ a:Ends,(∀ σ H,u D σ H->a.nx σ H)->t a σ H):uO t u D σ H:=h { D with nx:=u D } λ_ _ x=>x
end L2
namespace L2
open PySem Own PyProof.Rows PySem.Spec
section
variable {X:Cx}
def zaU (i j k:Nat)(b:TA):TS:=λD σ H=>b σ H λa c=>∃ u v w,a=[u,v,w]/\D.nx (((σ.set i (some u)).set j (some v)).set k (some w)) c
theorem nV {u v w:V}{us:List Jo}(r:Vals [u,v,w] us):∃ a b c,us=[a,b,c]/\RelV u a/\RelV v b/\RelV w c:=by
 cases r with
 | cons p r =>
  obtain⟨b,c,rfl,q,t⟩:=Vals.two r;exact⟨_,b,c,rfl,p,q,t⟩
theorem cu {i j k:Nat}{x y z:Str}{a b c:Expr}{p:TA}{pos l py pz pt:Pos}{kt k2 pt2}(U:X.calm=true)(m:X.N.Nodup)(hi:X.N[i]?=some x)(T:X.N[j]?=some y)(S:X.N[k]?=some z)(O:i≠j)(N:i≠k)(M:j≠k)(A:X.env.scope.names.lookup x=some .local)(t:X.env.scope.names.lookup y=some .local)(r:X.env.scope.names.lookup z=some .local)(ha:PA X [a,b,c] p)(P:swappedStores [.Tuple [.Name x l,.Name y py,.Name z pz] kt pt] (.Tuple [a,b,c] k2 pt2) X.env=pure (some [x,y,z]))(hs:swapsWithSole [.Tuple [.Name x l,.Name y py,.Name z pz] kt pt] (.Tuple [a,b,c] k2 pt2) pos.line X.env=pure false:=by rfl) :
  PS X (.Assign [.Tuple [.Name x l,.Name y py,.Name z pz] kt pt] (.Tuple [a,b,c] k2 pt2) pos) (zaU i j k p):=λpins s σ H D I h=>by
 rw[exec_Assign_arm];refine J0 (Yu ?_);rw[hs];refine J0 (J9 ?_);rw[Jg Ji];refine J0 (PyProof.Rows.Tuple_ (thn (ha _ pins s σ H _ I h) λus d q=>?_));obtain⟨vs,C,Z,K,u,v,w,rfl,L⟩:=q;obtain⟨f,e,u3,rfl,G,F,E⟩:=nV K;refine JE ?_ (by show 3<=sizeLine;decide);have J:Inv X pins σ C { d with heap:=d.heap.push { cls:=.type "tuple",data:=.seq [f,e,u3].toArray } }:=Z.kept (t':=d.toks) λ_ _ g=>J7 _ g;rw[P];refine J0 (J9 ?_);show wpAny (model X.prog X.w) X.A (do rule "assign.swapped-stores";let items <- unpackItems (.ref d.heap.objs.size) 3 none;assignInOrder [λv=>bindName X.env z v,λv=>bindName X.env y v,λv=>bindName X.env x v] items.reverse;pure Flow.next) _ _ _;refine J0 (YF (J0 (PyProof.Rows.unpackItems_tuple (items:=#[f,e,u3]) (I.ok.hd U) (IsTup.new d.heap _) λR Q=>?_)));have Y:=J.kept (h':=R) (t':=d.toks) λb o g=>Q b o (Jx (Jh g)) g;show wpAny _ _ (assignInOrder [λv=>bindName X.env z v,λv=>bindName X.env y v,λv=>bindName X.env x v] [u3,e,f] >>= λ_=>pure Flow.next) _ _ _;refine J0 (Zd (wpAny_bindName (xE Y m S (.inl r) E (λs2 W=>?_) (.inr r))));refine Zd (wpAny_bindName (xE W m T (.inl t) F (λs3 V=>?_) (.inr t)));refine Zd (wpAny_bindName (xE V m hi (.inl A) G (λs4 B=>assignInOrder_nil (J9 ?_)) (.inr A)))
 have n:((σ.set k (some w)).set j (some v)).set i (some u)=((σ.set i (some u)).set j (some v)).set k (some w):=by
  rw[List.set_comm _ _ (Ne.symm O),List.set_comm _ _ (Ne.symm N),List.set_comm _ _ (Ne.symm M)]
 rw[n]at B;exact⟨_,C,B,L⟩
end
end L2
namespace Bn
open PySem L2 Own
abbrev Sn:=List Int × List Grp × List Int
abbrev Sn.none (N:Nt):Sn:=(List.replicate N.forks.length 0,[],List.replicate N.lanes 0)
end Bn
namespace L2
open PySem PySem.Spec PyProof.Rows
def FlyT (e T:JI)(cls:Jo)(dx:Option JI)(fl:Jo)(h:YP):Prop :=
 ∃ a b d c,h.get? e=some a/\(a.cls=cls/\a.dict=dx)/\a.data=.fields b/\b[1]?=some (.ref T)/\T≠e/\h.get? T=some d/\d.data=.fields c/\c[3]?=some fl
structure Stp (fs:List JI) (Z:JI->Prop) (h h':YP):Prop where
 keep:∀ b o,h.get? b=some o->¬ Z b->b∉fs->h'.get? b=some o
 slot:∀ b o,h.get? b=some o->¬ Z b->∃ sl,h'.get? b=some { o with slots:=sl }
 there:∀ b o,h.get? b=some o->∃ o',h'.get? b=some o'
theorem Stp.trans {fs:List JI}{Z:JI->Prop}{h h1 c:YP}(x:Stp fs Z h h1)(y:Stp fs Z h1 c):Stp fs Z h c :=
 ⟨λb o e z f=>y.keep b o (x.keep b o e z f) z f,λb o e z=>by
  obtain⟨i,q⟩:=x.slot b o e z;obtain⟨a,d⟩:=y.slot b _ q z;exact⟨a,d⟩,λb o e=>by
  obtain⟨g,q⟩:=x.there b o e
  exact y.there b g q⟩
theorem Stp.mono {fs a:List JI}{Z d:JI->Prop}{h h':YP}(x:Stp fs Z h h')(g:∀ b∈fs,b∈a)(c:∀ b o,h.get? b=some o->Z b->d b):Stp a d h h' :=
 ⟨λb o e z f=>x.keep b o e (λq=>z (c b o e q)) λq=>f (g b q),λb o e z=>x.slot b o e λq=>z (c b o e q),x.there⟩
theorem Stp.frames {fs:List JI}{Z:JI->Prop}{h h' B:YP}{l:List Env}(x:Stp fs Z h h')(c:∀ b o,h.get? b=some o->Z b->∃ vs,o.data=.fields vs)(f:h.FunFrames B l):h'.FunFrames B l :=
 f.of_keeps λb o e a=>by
  obtain⟨g,q⟩:=x.slot b o e λz=>by
   obtain⟨vs,d⟩:=c b o e z;exact a vs d
  exact⟨_,q,rfl⟩
theorem FlyT.fields {e T:JI}{cls:Jo}{dx:Option JI}{fl:Jo}{h:YP}(x:FlyT e T cls dx fl h):∀ b o,h.get? b=some o->(b=e\/b=T)->∃ vs,o.data=.fields vs:=by
 obtain⟨i,vs,j,c,d,_,f,_,_,g,a,_⟩:=x;rintro b o q (rfl|rfl)
 ·rw[d]at q;exact⟨vs,Jj q ▸ f⟩
 ·rw[g]at q;exact⟨c,Jj q ▸ a⟩
theorem mQ {h:YP}{a:JI}{c:Jo}{d:Option JI}{vs:Array Jo}{sl:Array (Option Jo)}(i:Nat)(x:Jo)(q:h.get? a=some ⟨c,d,.fields vs,sl⟩):(h.update a (Obj.mapFields (·.setIfInBounds i x))).get? a=some ⟨c,d,.fields (vs.setIfInBounds i x),sl⟩:=Yb _ q rfl
theorem uT {h:YP}{a b:JI}{f:Obj->Obj}(n:b≠a):(h.update a f).get? b=h.get? b:=JN _ _ (Ne.symm n)
theorem qj {h:YP}{a:JI}{o:Obj}{c:Jo}{d:Option JI}{vs:Array Jo}{sl:Array (Option Jo)}(i:Nat)(x:Jo)(q:h.get? a=some ⟨c,d,.fields vs,sl⟩):Stp [] (λb=>b=a) h (h.update a (Obj.mapFields (·.setIfInBounds i x))) :=
 ⟨λb o e z _=>(uT z).trans e,λb o e z=>⟨o.slots,(uT z).trans e⟩,λb o e=>by
  by_cases z:b=a
  ·rw[z];exact⟨_,mQ i x q⟩
  ·exact⟨o,(uT z).trans e⟩⟩
theorem zay {M:Model}{A:YO}{E:Jo->JO->Prop}{s:JO}{e T:JI}{cls fl:Jo}{dx:Option JI}{Q:Unit->JO->Prop}(x:FlyT e T cls dx fl s.heap)(h:∀ h',Stp [] (λb=>b=T) s.heap h'->FlyT e T cls dx .none h'->Q () { s with heap:=h' }):wpAny M A (setFlight (.ref e) none) Q E s:=by
 obtain⟨d,j,⟨n,dT,_,m⟩,c,f,k,g,i,ne,a,rfl,l⟩:=x;have sz:3<c.size:=(Z4.mp l).1;refine wpAny_setFlight_none f g i a rfl sz (h _ (qj (o:=d) 3 .none a) ⟨d,j,_,c.setIfInBounds 3 .none,(uT (Ne.symm ne)).trans f,k,g,i,ne,mQ 3 .none a,rfl,?_⟩);rw[Array.getElem?_setIfInBounds_self,Jq sz]
theorem r8 {M:Model}{A:YO}{E:Jo->JO->Prop}{s:JO}{B:YP}{env:Env}{outer:List Env}{L e:JI}{c:Jo}{d:Option JI}{vs:Array Jo}{sl:Array (Option Jo)}{head:Jo}{F:Bool}{Q:Unit->JO->Prop}(r:A.frames=some (env::outer))(y:s.heap.FunFrames B (env::outer))(G:env.frame=some L)(C:s.heap.get? e=some ⟨c,d,.fields vs,sl⟩)(w:1<vs.size)(h:∀ h' T,Stp (frs (env::outer)) (λb=>b=e) s.heap h'->s.heap.objs.size<=T->FlyT e T c d (rawInt L) h'->Q () { s with heap:=h' }) :
  wpAny M A (do let a <- frameOf env;let i <- entryPlaceOf L F;let b <- EntryCells.newEntry head a .none (rawInt L) .none i;setField (.ref e) 1 b) Q E s:=by
 have n:e∉frs (env::outer):=λz=>by
  obtain⟨_,o,x,m⟩:=y.mem z;rw[C]at x;cases x;exact m vs rfl
 refine J0 (wpAny_frameOf_fun r y G λh1 ⟨D,v,j⟩=>J0 (wpAny_entryPlaceOf λi p=>?_));have k:h1.get? e=some ⟨c,d,.fields vs,sl⟩:=(v e n).trans C;have lt:e<h1.objs.size:=Jh k;refine J0 ?_;refine(show wpAny M A (newFields _ _) _ _ _ from JE ?_ ?_)
 ·have g:=J7 { cls:=.type "traceback",dict:=none,data:=.fields ([head,.ref L,.none,rawInt L,.none]++if i.isEmpty=true then List.replicate 6 .none else i).toArray } k
  have t:(h1.push { cls:=.type "traceback",dict:=none,data:=.fields ([head,.ref L,.none,rawInt L,.none]++if i.isEmpty=true then List.replicate 6 .none else i).toArray }).get? h1.objs.size=_:=Jk _ rfl;refine wpAny_setField g rfl w (h _ h1.objs.size ?_ (by rw[D];exact Je _) ⟨_,_,_,_,mQ 1 _ g,⟨rfl,rfl⟩,rfl,?_,Ne.symm (Jx lt),(uT (Ne.symm (Jx lt))).trans t,rfl,?_⟩)
  ·refine Stp.trans (h1:=h1.push _) ⟨λb o q z m=>J7 _ ((v b m).trans q),λb o q z=>?_,λb o q=>?_⟩ ((qj (o:=⟨c,d,.fields vs,sl⟩) 1 _ g).mono (λ_ z=>nomatch z) λ_ _ _ z=>z)
   ·obtain⟨u,l⟩:=j b o q
    exact⟨u,J7 _ l⟩
   ·obtain⟨u,l⟩:=j b o q
    exact⟨_,J7 _ l⟩
  ·rw[Array.getElem?_setIfInBounds_self,Jq w]
  ·simp
 ·show (_:Array Jo).size<=sizeLine+2
  rcases p with rfl|⟨_,_,_,_,_,_,_,rfl⟩<;>(rw[Ju];show (11:Nat)<=16777218;decide)
theorem ju {M:Model}{A:YO}{E:Jo->JO->Prop}{s:JO}{B:YP}{env:Env}{outer:List Env}{L e:JI}{a:Obj}{vs:Array Jo}{Q:Unit->JO->Prop}(f:A.frames=some (env::outer))(k:s.heap.FunFrames B (env::outer))(g:env.frame=some L)(i:s.heap.get? e=some a)(hd:a.data=.fields vs)(h1:vs[1]?=some .none)(h:∀ h' T,Stp (frs (env::outer)) (λb=>b=e) s.heap h'->s.heap.objs.size<=T->FlyT e T a.cls a.dict (rawInt L) h'->Q () { s with heap:=h' }):wpAny M A (noteFrame (.ref e) env) Q E s:=by
 obtain⟨c,d,_,l⟩:=a;obtain rfl:=hd;have j:1<vs.size:=(Z4.mp h1).1;unfold noteFrame;rw[g];refine J0 (YL i rfl h1 ?_);exact r8 f k g i j h
theorem eQ {M:Model}{A:YO}{E:Jo->JO->Prop}{s:JO}{B:YP}{env:Env}{outer:List Env}{L e a:JI}{cls:Jo}{dx:Option JI}{Q:Unit->JO->Prop}(i:A.frames=some (env::outer))(w:s.heap.FunFrames B (env::outer))(m:env.frame=some L)(x:FlyT e a cls dx .none s.heap)(h:∀ h' T,Stp (frs (env::outer)) (λb=>b=e\/b=a) s.heap h'->s.heap.objs.size<=T->FlyT e T cls dx (rawInt L) h'->Q () { s with heap:=h' }):wpAny M A (noteFrame (.ref e) env) Q E s:=by
 have t:=x.fields;obtain⟨⟨ce,C,_,sle⟩,k,⟨F,dT,_,D⟩,u,n,⟨rfl,rfl⟩,rfl,r,ne,c,rfl,p⟩:=x;have v:1<k.size:=(Z4.mp r).1;have sz:3<u.size:=(Z4.mp p).1;have st:Stp [] (λb=>b=a) s.heap (s.heap.update a (Obj.mapFields (·.setIfInBounds 3 .none))):=qj (o:=⟨ce,C,.fields k,sle⟩) 3 .none c;unfold noteFrame;rw[m];refine J0 (YL n rfl r ?_);show wpAny M A (if (Value.ref a != Value.none)=true then _ else _) Q E s;rw[Jq (by rfl)];refine J0 (YL c rfl p ?_);show wpAny M A (if (Value.none == rawInt L)=true then _ else _) Q E s;rw[Jg (by intro z;cases z)];refine J0 (wpAny_setField c rfl sz ?_);have j:=(uT (f:=Obj.mapFields (·.setIfInBounds 3 .none)) (Ne.symm ne)).trans n;have g:=st.frames (λb o q z=>t b o q (.inr z)) w;refine r8 (s:={ s with heap:=s.heap.update a (Obj.mapFields (·.setIfInBounds 3 .none)) }) i g m j v λh' T d l y=>h h' T ?_ ?_ y
 ·exact(st.mono (λ_ z=>nomatch z) λ_ _ _ z=>.inr z).trans (d.mono (λ_ z=>z) λ_ _ _ z=>.inl z)
 ·rw[Heap.size_update]at l;exact l
def CX1 (P:Yo)(w:YI):CXT:=λouter H s E e a=>∃ (c T:JI) (cls:Jo) (d:Option JI) (b:Hp),e=.ref c/\a.os=s.os/\AllBare a.gens/\Un (frs outer) [] H b s.heap a.heap/\HOk P w b a.heap /\
 FlyT c T cls d .none a.heap/\(s.heap.get? c=none/\s.heap.get? T=none)/\(b c=none/\b T=none)/\E cls d b
theorem Un.stp {fs a:List JI}{Z:JI->Prop}{i H:Hp}{g h h':YP}(u:Un fs [] i H g h)(x:Stp a Z h h')(l:∀ b,Z b->g.get? b=none)(m:∀ b o,g.get? b=some o->b∈a->b∈fs):Un fs [] i H g h':=by
 have e:∀ b o,g.get? b=some o->¬ Z b:=λb o q z=>by rw[l b z]at q;cases q
 refine⟨λb o q n f _=>x.keep b o (u.keep b o q n f (by simp)) (e b o q) λz=>f (m b o q z),λb o q n _ _=>?_,u.free,λb o q ne=>?_,u.tups,u.frzs,u.tbls⟩
 ·obtain⟨p,c⟩:=u.any q n (by simp)
  obtain⟨d,j⟩:=x.slot b _ c (e b o q);exact⟨d,j⟩
 ·obtain⟨k,c⟩:=u.there b o q ne
  exact x.there b k c
theorem HOk.stp {P:Yo}{w:YI}{fs:List JI}{Z:JI->Prop}{H:Hp}{h h':YP}(ok:HOk P w H h)(x:Stp fs Z h h')(f:∀ b,Z b->H b=none)(g:∀ b∈fs,H b=none):HOk P w H h':=λa o e=>by
 have d:∀ b,(b=a\/H b=some (.own a))->∃ u,H b=some u:=by
  rintro b (rfl|q)
  ·exact⟨o,e⟩
  ·exact⟨_,q⟩
 refine(ok a o e).stay (λb u q r=>?_) (λ_ q=>q) λ_ _ q=>q;obtain⟨i,c⟩:=d b q;exact x.keep b u r (λz=>by rw[f b z]at c;cases c) λz=>by rw[g b z]at c;cases c
section
variable {P:Yo}{w:YI}{K:Jl}{mg:Str->Option Jo}{base:YP}{N:List Str}{qual:Str}{scope:Scope}{f:JI}{cd:Jo}{A:YO}{outer:List Env}{s:JO}{H:Hp}{E:XK}{pins:List (JI × Obj)}{σ:St}
theorem cB {b:JI}{o:Obj}{a:Hp}{s1:JO}(I:Inv (wT (CX1 P w) P w K mg base N qual scope f cd A outer s H E) pins σ a s1)(q:s.heap.get? b=some o)(hb:b∈frs (wT (CX1 P w) P w K mg base N qual scope f cd A outer s H E).stack):b∈frs outer:=by
 rcases Jp.mp (I.stkSub b hb) with z|z
 ·exact absurd (Jz (Jh q) I.ok.above) (by rw[z];exact Ye _)
 ·exact z
theorem zbi {a:Hp}{s1:JO}{T:JI}(I:Inv (wT (CX1 P w) P w K mg base N qual scope f cd A outer s H E) pins σ a s1)(l:s1.heap.objs.size<=T):s.heap.get? T=none :=
 Heap.get?_none_of_le (JQ I.sz l)
theorem cK {c:Hp}{s1:JO}{a:JI}{g:Obj}{vs:Array Jo}(I:Inv (wT (CX1 P w) P w K mg base N qual scope f cd A outer s H E) pins σ c s1)(n:s1.heap.get? a=some g)(hd:g.data=.fields vs)(h1:vs[1]?=some .none)(l:s.heap.get? a=none)(e:c a=none)(p:E g.cls g.dict c):(wT (CX1 P w) P w K mg base N qual scope f cd A outer s H E).xe (.ref a) s1:=by
 show wpAny _ _ (leaving _ _) _ _ _;unfold leaving;refine J0 (ju (B:=base) I.ok.frames I.stack rfl n hd h1 λu T st h r=>?_);refine zay r λt d j=>?_;have m:∀ b,b=a->s.heap.get? b=none:=λb q=>by rw[q];exact l
 have k:∀ b,b=T->s.heap.get? b=none:=λb q=>by rw[q];exact zbi I h
 refine⟨a,T,_,_,c,rfl,I.os,I.bare,((show Un (frs outer) [] H c s.heap s1.heap from I.base).stp st m λb o q i=>cB I q i).stp d k (λ_ _ _ z=>nomatch z),?_,j,⟨l,k T rfl⟩,⟨e,I.hok.fresh h⟩,p⟩;exact HOk.stp (HOk.stp (P:=P) (w:=w) I.hok st (λb q=>by rw[q];exact e) λb i=>I.stkFree b i) d (λb q=>by rw[q];exact I.hok.fresh h) λ_ z=>nomatch z
end
end L2
namespace L2
open PySem PySem.Spec PyProof.Rows Own
abbrev FZ (o:Obj):HO:=.frz o (.ext λ_=>True)
theorem nA {P:Yo}{w:YI}{H:Hp}{h:YP}{a:JI}{o:Obj}(e:h.get? a=some o):ObjOk P w H h a (FZ o):=⟨e,trivial,⟨o,e⟩,λ_ _ _ _=>trivial⟩
structure Lam where
 params:Arguments
 body:Expr
 scope:Scope
 qual:Str
def oz (L:Lam)(cl:List (Str × JI))(pm:Jo)(c:JI)(ct:Jo):Obj:=PySem.W.kla_obj "<lambda>" L.qual L.params L.body L.scope cl pm c ct
structure LamAt (H:Hp) (f:JI) (L:Lam) (cl:List (Str × JI)) (vs:List V):Prop where
 ex:∃ (pm:Jo) (c:JI) (ct:Jo) (oc:Obj) (fs:Array Jo) (t:Tok),H f=some (FZ (oz L cl pm c ct))/\H c=some (FZ oc)/\oc.data=.fields fs/\fs[1]?=some (.str L.qual t)
 len:cl.length=vs.length
 cell:∀ (i:Nat) x c v,cl[i]?=some (x,c)->vs[i]?=some v->∃ o u,H c=some (FZ o)/\o.data=.cell (some u)/\RelV v u
 nd1:(cl.map (·.1)).Nodup
 nd2:(cl.map (·.2)).Nodup
theorem LamAt.frz {H H':Hp}{f:JI}{L:Lam}{cl:List (Str × JI)}{vs:List V}(h:LamAt H f L cl vs)(z:∀ b o u,H b=some (.frz o u)->H' b=some (.frz o u)):LamAt H' f L cl vs:=by
 obtain⟨pm,c,p,j,fs,t,n,m,l,k⟩:=h.ex;refine⟨⟨pm,c,p,j,fs,t,z _ _ _ n,z _ _ _ m,l,k⟩,h.len,λi x c v a b=>?_,h.nd1,h.nd2⟩;obtain⟨o,u,g,e,d⟩:=h.cell i x c v a b;exact⟨o,u,z _ _ _ g,e,d⟩
def yY (cl:List (Str × JI))(H:Hp):Hp:=λb=>if b∈cl.map (·.2) then none else H b
def back (cl:List (Str × JI))(H H':Hp):Hp:=λb=>if b∈cl.map (·.2) then H b else H' b
theorem wU {cl:List (Str × JI)}{H:Hp}{b:JI}(h:b∈cl.map (·.2)):yY cl H b=none:=Jq h
theorem yO {cl:List (Str × JI)}{H:Hp}{b:JI}(h:b∉cl.map (·.2)):yY cl H b=H b:=Jg h
theorem pK {cl:List (Str × JI)}{H H':Hp}{b:JI}(h:b∈cl.map (·.2)):back cl H H' b=H b:=Jq h
theorem xU {cl:List (Str × JI)}{H H':Hp}{b:JI}(h:b∉cl.map (·.2)):back cl H H' b=H' b:=Jg h
theorem nW {cl:List (Str × JI)}{H:Hp}{b:JI}{o:HO}(h:yY cl H b=some o):b∉cl.map (·.2)/\H b=some o:=by
 by_cases c:b∈cl.map (·.2)
 ·rw[wU c]at h;cases h
 ·rw[yO c]at h;exact⟨c,h⟩
def CellsFz (cl:List (Str × JI))(H:Hp):Prop:=∀ b∈cl.map (·.2),∃ o,H b=some (FZ o)
theorem LamAt.fz {H:Hp}{f:JI}{L:Lam}{cl:List (Str × JI)}{vs:List V}(h:LamAt H f L cl vs):CellsFz cl H:=λb k=>by
 obtain⟨⟨x,c⟩,j,rfl⟩:=Jn.mp k;obtain⟨i,a,e⟩:=YQ.mp j;have g:i<vs.length:=by rw[<- h.len];exact a
 obtain⟨o,u,d,_⟩:=h.cell i x c vs[i] (by rw[J2 a,e]) (J2 g);exact⟨o,d⟩
section
variable {P:Yo}{w:YI}{H H':Hp}{h h':YP}{cl:List (Str × JI)}
theorem rh (x:HOk P w H h)(fz:CellsFz cl H):HOk P w (yY cl H) h:=λb u e=>by
 obtain⟨nb,f⟩:=nW e
 have keep:∀ {c:JI}{o:HO},H c=some o->(∀ q,o≠FZ q)->yY cl H c=some o:=λ{c o} z n=>by
  rw[yO];· exact z
  ·intro d
   obtain⟨q,a⟩:=fz c d;rw[z]at a;exact n q (Jj a)
 exact(x b u f).stay (λc v _ q=>q) (λc q=>keep q λz y=>by cases y) λc g q=>keep q λz y=>by cases y
theorem cM {fs:List JI}(un:Un fs [] (yY cl H) H' h h')(fz:CellsFz cl H)(k:∀ b∈fs,H b=none)(there:∀ b o,H b=some (FZ o)->h.get? b=some o)(low:∀ b∈cl.map (·.2),H' b=none)(ok:HOk P w H' h'):Un fs [] H (back cl H H') h h'/\HOk P w (back cl H H') h':=by
 have d:∀ {b:JI},H b=none->b∉cl.map (·.2):=λe a=>by
  obtain⟨o,q⟩:=fz _ a;rw[e]at q;cases q
 have kept:∀ b∈cl.map (·.2),∀ o,h.get? b=some o->h'.get? b=some o:=λb a o e=>un.keep b o e (wU a) (λz=>d (k b z) a) (by simp)
 have f:∀ {b:JI}{o:HO},H b=some o->(∀ q,o≠FZ q)->b∉cl.map (·.2):=λz n a=>by
  obtain⟨q,i⟩:=fz _ a;rw[z]at i;exact n q (Jj i)
 refine⟨⟨λb o e n x y=>un.keep b o e (by rw[yO (d n)];exact n) x y,λb o e n x y=>un.slot b o e (by rw[yO (d n)];exact n) x y,λb o e n y=>?_,un.there,λb g e=>?_,λb o u e=>?_,λb j e=>?_⟩,λb u e=>?_⟩
 ·rw[xU (d n)]
  exact un.free b o e (by rw[yO (d n)];exact n) y
 ·have nb:=f e λq z=>by cases z
  rw[xU nb];exact un.tups b g (by rw[yO nb];exact e)
 ·by_cases c:b∈cl.map (·.2)
  ·rw[pK c];exact e
  ·rw[xU c];exact un.frzs b o u (by rw[yO c];exact e)
 ·have nb:=f e λq z=>by cases z
  rw[xU nb];exact un.tbls b j (by rw[yO nb];exact e)
 ·by_cases c:b∈cl.map (·.2)
  ·rw[pK c]at e
   obtain⟨o,q⟩:=fz b c;rw[q]at e;cases e;exact nA (kept b c o (there b o q))
  ·rw[xU c]at e
   have old:∀ {x:JI}{o:HO},H' x=some o->back cl H H' x=some o:=λ{x o} z=>by
    rw[xU];· exact z
    ·intro l
     rw[low x l]at z;cases z
   exact(ok b u e).stay (λx v _ q=>q) (λx q=>old q) λx g q=>old q
end
def lQ (L:Lam)(cl:List (Str × JI))(a f c:JI):Env:={ scope:=L.scope,locals:=a,globals:=mainGlobals,cells:=cl,qual:=L.qual++".<locals>.",func:=some f,code:=.ref c,frame:=some a,builtins:=builtinsNs }
def cC (CX:CXT)(P:Yo)(w:YI)(K:Jl)(mg:Str->Option Jo)(base:YP)(N:List Str)(L:Lam)(cl:List (Str × JI))(f c:JI)(A:YO)(outer:List Env)(s:JO)(H:Hp)(E:XK):Cx where
 prog:=P
 w:=w
 K:=K
 mg:=mg
 base:=base
 A:=A.deeper (lQ L cl s.heap.objs.size f c)
 N:=N
 s₀:=s
 H₀:=yY cl H
 env:=lQ L cl s.heap.objs.size f c
 outer:=outer
 stack:=lQ L cl s.heap.objs.size f c::outer
 ex:=[]
 calm:=true
 fn:=λ_=>false
 pn:=[]
 xe:=λe b=>wpAny (model P w) (A.deeper (lQ L cl s.heap.objs.size f c)) (leaving (lQ L cl s.heap.objs.size f c) e) (λ_ a=>CX outer H s E e a) (λd a=>CX outer H s E d a) b
structure LamScope (ps fr:List Str) (sc:Scope):Prop where
 kind:sc.kind=.function
 co:sc.isCoroutine=false
 gen:sc.isGenerator=false
 nd:(ps++fr).Nodup
 par:∀ x∈ps,sc.names.lookup x=some .local
 fre:∀ x∈fr,sc.names.lookup x=some .free
 noc:∀ y∈sc.names,y.2≠.cell
 all:∀ x,sc.names.lookup x=some .free->x∈fr
section
variable {CX:CXT}{P:Yo}{w:YI}{K:Jl}{mg:Str->Option Jo}{base:YP}{L:Lam}{cl:List (Str × JI)}{vals vs:List V}{ps:List Str}{f c:JI}{A:YO}{outer:List Env}{s:JO}{H:Hp}{us:List Jo}{E:XK}
theorem kU {cl:List (Str × JI)}(nd:(cl.map (·.1)).Nodup):∀ {i:Nat}{x:Str}{c:JI},cl[i]?=some (x,c)->cl.lookup x=some c:=by
 induction cl with
 | nil=>intro i x c h;cases h
 | cons p r ih =>
  intro i x c h;rw[JU,JD]at nd
  cases i with
  | zero =>
   cases Jj h
   rw[Ym,Zt]
  | succ i =>
   have m:=Jw (show r[i]?=some (x,c) from h);rw[Ym,show (x == p.1)=false from Z7.mpr λz=>nd.1 (Jn.mpr ⟨_,m,z⟩)];exact ih nd.2 (show r[i]?=some (x,c) from h)
theorem mL {ps:List Str}{us:List Jo}(nd:ps.Nodup)(d:us.length=ps.length){i:Nat}{x:Str}{u:Jo}(b:ps[i]?=some x)(c:us[i]?=some u):(ps.zip us).reverse.lookup x=some u:=by
 have a:((ps.zip us).reverse.map (·.1)).Nodup:=by
  rw[List.map_reverse,List.map_fst_zip (by simp_all)];exact List.pairwise_reverse.mpr (nd.imp λh=>h.symm)
 have m:(x,u)∈(ps.zip us).reverse:=List.mem_reverse.mpr (Jw (i:=i) (by rw[List.getElem?_zip_eq_some];exact⟨b,c⟩));generalize (ps.zip us).reverse=l at a m
 induction l with
 | nil=>cases m
 | cons p r ih =>
  rw[JU,JD]at a;rcases Jp.mp m with e|z
  ·rw[<- e,Ym,Zt]
  ·rw[Ym,show (x == p.1)=false from Z7.mpr λy=>a.1 (Jn.mpr ⟨_,z,y⟩)]
   exact ih a.2 z
theorem bq {h':YP}{tk:Nat}(S:LamScope ps (cl.map (·.1)) L.scope)(hd:A.handled=none)(g:Env0 P w K mg base A outer s H)(la:LamAt H f L cl vals)(r:Vals vs us)(J:vs.length=ps.length)(ns:h'.Ns s.heap.objs.size (λx=>(ps.zip us).reverse.lookup x))(kp:∀ b o,s.heap.get? b=some o->h'.get? b=some o) :
  Inv (cC CX P w K mg base (ps++cl.map (·.1)) L cl f c A outer s H E) [] ((vs++vals).map some) (yY cl H) { s with heap:=h',toks:=tk }:=by
 have fz:=la.fz;have O:=Zn.mp S.nd;have ul:us.length=ps.length:=by rw[<- r.length];exact J
 have d:∀ {x:Str}{a:JI},cl.lookup x=some a->(x,a)∈cl:=λh=>YS h
 have cellOf:∀ {x:Str}{a:JI},(x,a)∈cl->∃ (i:Nat) (v:V) (o:Obj) (u:Jo),cl[i]?=some (x,a)/\vals[i]?=some v/\H a=some (FZ o)/\o.data=.cell (some u)/\RelV v u/\s.heap.get? a=some o:=λ{x a} m=>by
  obtain⟨i,t,e⟩:=YQ.mp m;have R:cl[i]?=some (x,a):=by rw[J2 t,e]
  have Q:i<vals.length:=by rw[<- la.len];exact t
  obtain⟨o,u,C,B,F⟩:=la.cell i x a vals[i] R (J2 Q);exact⟨i,_,o,u,R,J2 Q,C,B,F,(g.hok a _ C).1⟩
 refine⟨⟨g.mod,S.kind,rfl,rfl,Je _,λy z a k n=>?_,λy G=>?_,λy a q=>(by cases q),λ_=>hd,Around.frames_deeper g.frames,.inr ⟨rfl,rfl⟩,λb z=>(Jm z).elim,λb o e=>⟨(g.bs b o e).1,?_⟩,g.bsz,λb _ _=>Jm,λb z=>(Jm z).elim,g.funs,λb hb=>?_⟩,
  rfl,g.bare,Un.kept kp,⟨_,ns,λi y v k n h3=>?_⟩,λy a h=>?_,?_,λy a h=>wU (Jn.mpr ⟨_,d h,rfl⟩),λp I=>(Jm I).elim,(rh g.hok fz).kept kp,?_⟩
 ·-- one cell,one name
  have X:=d k;have W:=d n;obtain⟨i,t,D⟩:=YQ.mp X;obtain⟨j,Y,M⟩:=YQ.mp W;have:i=j:=(List.getElem_inj (h₀:=by rw[Jc];exact t) (h₁:=by rw[Jc];exact Y) la.nd2).mp (by rw[List.getElem_map,List.getElem_map,D,M]);subst this;rw[D]at M;exact JL Prod.fst M
 ·have G:L.scope.names.lookup y=some .cell\/L.scope.names.lookup y=some .free:=G
  rcases G with q|q
  ·exact absurd rfl (S.noc _ (YS q))
  ·obtain⟨p,I,e⟩:=Jn.mp (S.all y q)
   obtain⟨i,t,D⟩:=YQ.mp I;exact⟨p.2,kU la.nd1 (i:=i) (by rw[J2 t,D,<- e])⟩
 ·show yY cl H b=none
  unfold yY;split
  ·rfl
  ·exact(g.bs b o e).2
 ·show yY cl H b=none
  unfold yY;split
  ·rfl
  ·exact g.frf b hb
 ·have l:(vs++vals)[i]?=some v:=by
   rw[JF]at n
   cases e:(vs++vals)[i]? with
   | none=>rw[e]at n;cases n
   | some z=>rw[e]at n;cases n;rfl
  replace k:(ps++cl.map (·.1))[i]?=some y:=k;by_cases ci:i<vs.length
  ·rw[Yn ci]at l
   rw[Yn (by simp_all)]at k;obtain⟨u,Z,T⟩:=r.get l;exact⟨u,T,.inl ⟨S.par y (Jw k),mL O.1 ul k Z⟩⟩
  ·rw[Yv (by simp_all)]at l
   rw[Yv (by simp_all),JF,<- J]at k;obtain⟨⟨x,a⟩,N,rfl⟩:=Yx.mp k;obtain⟨o,u,C,B,F⟩:=la.cell _ x a v N l;exact⟨u,F,.inr ⟨.inr (S.fre x (Jn.mpr ⟨_,Jw N,rfl⟩)),a,kU la.nd1 N,o,kp _ _ (g.hok a _ C).1,B⟩⟩
 ·obtain⟨i,v,o,u,_,_,_,B,_,U⟩:=cellOf (d h)
  exact⟨some u,o,kp _ _ U,B⟩
 ·show yY cl H s.heap.objs.size=none
  unfold yY;split
  ·rfl
  ·exact g.hok.fresh (Je _)
 ·show ((vs++vals).map some).length=(ps++cl.map (·.1)).length
  rw[Jc,Jb,Jb,Jc,J,la.len]
end
theorem nH {sc:Scope}{env:Env}(h:∀ x,(x,NameKind.free)∈sc.names->∃ c,env.cells.lookup x=some c) :
  ∃ cl,closureFor sc env=pure cl/\cl.map (·.1)=((sc.names.filter λy=>y.2 == .free).map (·.1)).reverse/\∀ p∈cl,env.cells.lookup p.1=some p.2:=by
 unfold closureFor
 have key:∀ (l:List (Str × NameKind)) (acc:List (Str × JI)),(∀ x,(x,NameKind.free)∈l->∃ c,env.cells.lookup x=some c)->(∀ p∈acc,env.cells.lookup p.1=some p.2) ->
   ∃ cl,(forIn l acc λ(y:Str × NameKind) (r:List (Str × JI))=>(match y with|(name,kind)=>if (kind == NameKind.free)=true then do let a <- cellOf env name;pure (ForInStep.yield ((name,a)::r)) else pure (ForInStep.yield r):Sem (ForInStep (List (Str × JI)))))=pure cl/\cl.map (·.1)=((l.filter λy=>y.2 == .free).map (·.1)).reverse++acc.map (·.1)/\∀ p∈cl,env.cells.lookup p.1=some p.2:=by
  intro l
  induction l with
  | nil=>intro acc _ e;exact⟨acc,rfl,rfl,e⟩
  | cons y l ih =>
   intro acc j e;obtain⟨x,f⟩:=y;rw[YH];by_cases c:(f == NameKind.free)=true
   ·have n:f=.free:=by
     cases f<;>first|rfl|cases c
    subst n;obtain⟨a,k⟩:=j x (.head _)
    obtain⟨cl,d,e2,b⟩:=ih ((x,a)::acc) (λz g=>j z (.tail _ g)) (λp i=>by
     rcases Jp.mp i with rfl|q
     ·exact k
     ·exact e p q)
    refine⟨cl,?_,?_,b⟩
    ·have o:cellOf env x=pure a:=by unfold cellOf;rw[k]
     simp only[o,pure_bind];exact d
    ·rw[e2,List.filter_cons,Jq (show ((x,NameKind.free).2 == NameKind.free)=true from rfl),JU (l:=List.filter _ l),List.reverse_cons,Y0];rfl
   ·obtain⟨cl,d,e2,b⟩:=ih acc (λz g=>j z (.tail _ g)) e
    refine⟨cl,?_,?_,b⟩
    ·simp only[c,pure_bind]
     exact d
    ·rw[e2,List.filter_cons,Jg c]
 obtain⟨cl,d,e2,b⟩:=key sc.names [] h (λp i=>(Jm i).elim);refine⟨cl,?_,by rw[e2,List.map_nil,JT],b⟩;have s:=JL (λ(m:Sem (List (Str × JI)))=>m >>= λr=>pure r) d;exact s.trans (pure_bind _ _)
def TabOk (H:Hp)(qual:Str)(l:List (Pos × JI)):Prop:=∀ p∈l,∃ (a:Obj) (fs:Array Jo) (t:Tok),H p.2=some (FZ a)/\a.data=.fields fs/\fs[1]?=some (.str qual t)
theorem TabOk.frz {H H':Hp}{qual:Str}{l:List (Pos × JI)}(h:TabOk H qual l)(z:∀ b o u,H b=some (.frz o u)->H' b=some (.frz o u)):TabOk H' qual l:=λp c=>by
 obtain⟨a,fs,t,e,d⟩:=h p c;exact⟨a,fs,t,z _ _ _ e,d⟩
theorem sv (pos:Pos):∀ l:List (Pos × JI),codeAmong pos (triples l)=none\/∃ p∈l,codeAmong pos (triples l)=some (.ref p.2)
 | []=>.inl rfl
 | (q,a)::l=>by
  show (if (((q.line:Int) == pos.line && (q.col:Int) == pos.col)=true) then some (Value.ref a) else codeAmong pos (triples l))=none\/∃ p∈(q,a)::l,(if (((q.line:Int) == pos.line && (q.col:Int) == pos.col)=true) then some (Value.ref a) else codeAmong pos (triples l))=some (.ref p.2);split
  ·exact .inr ⟨_,.head _,rfl⟩
  ·rcases sv pos l with h|⟨p,b,h⟩
   ·exact .inl h
   ·exact .inr ⟨p,.tail _ b,h⟩
theorem vU:∀ l:List (Pos × JI),TriplesOk (triples l)
 | []=>trivial
 | (q,a)::l=>vU l
structure CodeK (K:Jl) (mg:Str->Option Jo) (base:YP) (c P:JI):Prop where
 hd:PySem.W.codeHdIn K c P=true
 blt:base.BuiltinsAt mg P
 gP:mainGlobals≠P
structure LamRaw (H:Hp) (f:JI) (L:Lam) (cl:List (Str × JI)):Prop where
 ex:∃ (pm:Jo) (c:JI) (ct:Jo) (oc:Obj) (fs:Array Jo) (t:Tok),H f=some (FZ (oz L cl pm c ct))/\H c=some (FZ oc)/\oc.data=.fields fs/\fs[1]?=some (.str L.qual t)
def CellsOf (env:Env)(cl:List (Str × JI)):Prop:=∀ p∈cl,env.cells.lookup p.1=some p.2
def zbE (env:Env)(P:JI)(L:Lam)(fr:List Str):TE:=λ_ H Q=>∃ l,H P=some (.tbl (triples l).toArray)/\TabOk H L.qual l /\
 ∀ f cl c a,cl.map (·.1)=fr->CellsOf env cl->H f=none->LamRaw a f L cl->a P=some (.tbl (triples c).toArray)->TabOk a L.qual c->(∀ b o,H b=some o->b≠P->a b=some o)->Q (.ref f) a
section
variable {X:Cx}{pins:List (JI × Obj)}{σ:St}{H:Hp}{s:JO}{h':YP}
theorem Inv.tab {P:JI}{ps more:Array Jo}{tk:Nat}(I:Inv X pins σ H s)(d:H P=some (.tbl ps))(k:Heap.ExtBut P s.heap h')(new:h'.get? P=some (PySem.W.tabObj (ps++more))):Inv X pins σ (upd H P (.tbl (ps++more))) { s with heap:=h',toks:=tk }:=by
 have ne:∀ {b:JI},H b=none->b≠P:=λe z=>by rw[z,d]at e;cases e
 have a:∀ {b:JI}{o:HO},H b=some o->(∀ q,o≠.tbl q)->upd H P (.tbl (ps++more)) b=some o:=λ{b o} e n=>by
  rw[zK];· exact e
  ·intro z
   rw[z,d]at e;exact n ps (Jj e).symm
 refine I.step (g':=s.gens) (d':=s.drawn) (ch:=[]) (λb j=>(Jm j).elim) (λb o _ _ _ e n=>k b o (ne n) e) (λb o _ _ _ e n=>⟨o.slots,k b o (ne n) e⟩) (λb o _ e n=>by rw[zK (ne n)];exact n) (λb o _ e=>?_) (λb f e=>a e λq z=>by cases z) (λb o u e=>a e λq z=>by cases z) (λb t e=>?_) (λm i=>?_) (λb u e=>?_) I.bare
 ·by_cases c:b=P
  ·subst c;exact⟨_,new⟩
  ·exact⟨o,k b o c e⟩
 ·by_cases c:b=P
  ·subst c
   rw[d]at e;cases e;exact⟨more,zH⟩
  ·exact⟨#[],by rw[zK c,e];simp⟩
 ·obtain⟨o,l,p,h,r⟩:=i
  exact⟨o,l,p,k _ o (ne I.free) h,r⟩
 ·by_cases c:b=P
  ·subst c
   rw[zH]at e;cases e;exact new
  ·rw[zK c]at e
   refine(I.hok b u e).stay (λx v g q=>k x v ?_ q) (λx q=>a q λz y=>by cases y) λx f q=>a q λz y=>by cases y
   rcases g with z|z
   ·rw[z];exact c
   ·rintro rfl
    rw[d]at z;cases z
theorem zak {params:Arguments}{body:Expr}{scope:Scope}{pos:Pos}{c P:JI}{fr:List Str}(M:CodeK X.K X.mg X.base c P)(i:X.env.code=.ref c)(B:defaultsOf params X.env=([],[]))(r:∀ x,(x,NameKind.free)∈scope.names->X.env.kindOf x=some .cell\/X.env.kindOf x=some .free)(R:((scope.names.filter λy=>y.2 == .free).map (·.1)).reverse=fr) :
  PE X (.Lambda params body scope pos) (zbE X.env P ⟨params,body,scope,X.env.qual++"<lambda>"⟩ fr):=by
 intro pins s σ H Q I h;obtain⟨l,w,tok,q⟩:=h;obtain⟨cl,A,m,z⟩:=nH (sc:=scope) (env:=X.env) λx hx=>I.ok.has x (r x hx);rw[R]at m;have Y:s.heap.Ns mainGlobals X.mg:=I.mod.glob.keeps I.bk;have Z:s.heap.BuiltinsAt X.mg P:=M.blt.keeps I.bk;have C:=PySem.W.codeHd_of_K I.kIn M.hd;have E:s.heap.get? P=some (PySem.W.tabObj (triples l).toArray):=I.hok P _ w;refine PySem.W.kla_eval B ?_;rcases sv pos l with hn|⟨p,K,hy⟩
 ·refine PySem.W.kla_makeFunction A I.ok.glob Y i C E (by rw[List.toList_toArray];exact vU l) (by rw[List.toList_toArray];exact hn) M.gP Z λd f h' tk ex lo W cr T=>?_
  obtain⟨c2,j,fs,t,ec,g1,g2,g3⟩:=cr;cases ec;have U:P<s.heap.objs.size:=Jh E;have sz:s.heap.objs.size<=h'.objs.size:=JQ lo (Nat.le_of_lt W);have cP:d≠P:=YK (Jz U lo);have fP:h'.objs.size≠P:=YK (Jz U sz);have cf:d≠h'.objs.size:=Jx W
  have L:(triples l).toArray++#[rawInt pos.line,rawInt pos.col,.ref d]=(triples (l++[(pos,d)])).toArray:=by
   rw[triples_append];simp
  rw[L]at T;have D:=I.tab (tk:=tk) (h':=h'.push (oz ⟨params,body,scope,X.env.qual++"<lambda>"⟩ cl ((X.mg "__name__").getD .none) d f)) (more:=#[rawInt pos.line,rawInt pos.col,.ref d]) w (λb o n e=>J7 _ (ex b o n e)) (by rw[L];exact J7 _ T);rw[L]at D;have V:H d=none:=I.hok.fresh lo;have J:H h'.objs.size=none:=I.hok.fresh sz;have m1:upd H P (.tbl (triples (l++[(pos,d)])).toArray) d=none:=by rw[zK cP];exact V
  have I2:=D.adopt (o:=FZ j) (I.fpOk lo m1) (nA (J7 _ g1));have m2:upd (upd H P (.tbl (triples (l++[(pos,d)])).toArray)) d (FZ j) h'.objs.size=none:=by rw[zK cf.symm,zK fP];exact J
  have I3:=I2.adopt (o:=FZ (oz ⟨params,body,scope,X.env.qual++"<lambda>"⟩ cl ((X.mg "__name__").getD .none) d f)) (I.fpOk sz m2) (nA (Jk _ rfl))
  have keep:∀ b o,H b=some o->b≠P->upd (upd (upd H P (.tbl (triples (l++[(pos,d)])).toArray)) d (FZ j)) h'.objs.size (FZ (oz ⟨params,body,scope,X.env.qual++"<lambda>"⟩ cl ((X.mg "__name__").getD .none) d f)) b=some o:=λb o e n=>by
   rw[zK (zJ e J),zK (zJ e V),zK n];exact e
  refine⟨.ref h'.objs.size,_,I3,rfl,q _ cl (l++[(pos,d)]) _ m z J ⟨_,d,f,j,fs,t,zH,by rw[zK cf];exact zH,g2,g3⟩ (by rw[zK fP.symm,zK cP.symm];exact zH) (λp K=>?_) keep⟩;rcases Jr.mp K with N|is
  ·obtain⟨O,S,t',v,G,F⟩:=tok p N
   exact⟨O,S,t',keep _ _ v (x8 v w (λy=>by cases y)),G,F⟩
  ·rw[Ja.mp is]
   exact⟨j,fs,t,by rw[zK cf];exact zH,g2,g3⟩
 ·obtain⟨j,fs,t,v,G,F⟩:=tok p K
  refine PySem.W.kla_makeFunctionHit A I.ok.glob Y i C E (by rw[List.toList_toArray];exact vU l) (by rw[List.toList_toArray];exact hy) Z λf h' tk k sz=>?_;have kk:∀ b o,s.heap.get? b=some o->(h'.push (oz ⟨params,body,scope,X.env.qual++"<lambda>"⟩ cl ((X.mg "__name__").getD .none) p.2 f)).get? b=some o:=λb o e=>J7 _ (k b o e);have g:=I.hok.fresh (a:=h'.objs.size) sz;have D:=I.laid (a:=h'.objs.size) (o:=FZ (oz ⟨params,body,scope,X.env.qual++"<lambda>"⟩ cl ((X.mg "__name__").getD .none) p.2 f)) (t':=tk) kk sz (nA (Jk _ rfl));refine⟨.ref h'.objs.size,_,D,rfl,q _ cl l _ m z g ⟨_,p.2,f,j,fs,t,zH,by rw[zK (zJ v g)];exact v,G,F⟩ (by rw[zK (zJ w g)];exact w) (tok.frz λb o u e=>by rw[zK (zJ e g)];exact e) λb o e _=>by rw[zK (zJ e g)];exact e⟩
end
def CellsAt (H:Hp)(cs:List (Str × JI))(vals:List V):Prop:=cs.length=vals.length/\∀ (i:Nat) x c v,cs[i]?=some (x,c)->vals[i]?=some v->∃ o u,H c=some (FZ o)/\o.data=.cell (some u)/\RelV v u
theorem CellsAt.fz {H:Hp}{cs:List (Str × JI)}{vals:List V}(h:CellsAt H cs vals):CellsFz cs H:=λb j=>by
 obtain⟨⟨x,c⟩,g,rfl⟩:=Jn.mp j;obtain⟨i,a,e⟩:=YQ.mp g;have f:i<vals.length:=by rw[<- h.1];exact a
 obtain⟨o,u,d,_⟩:=h.2 i x c vals[i] (by rw[J2 a,e]) (J2 f);exact⟨o,d⟩
theorem LamRaw.at_ {H:Hp}{f:JI}{L:Lam}{cl cs:List (Str × JI)}{vals ws:List V}(r:LamRaw H f L cl)(h:CellsAt H cs vals)(n1:(cl.map (·.1)).Nodup)(d:(cl.map (·.2)).Nodup)(len:cl.length=ws.length)(sub:∀ (i:Nat) x c v,cl[i]?=some (x,c)->ws[i]?=some v->∃ j:Nat,cs[j]?=some (x,c)/\vals[j]?=some v):LamAt H f L cl ws:=by
 refine⟨r.ex,len,λi x c v a b=>?_,n1,d⟩;obtain⟨j,e,e2⟩:=sub i x c v a b;exact h.2 j x c v e e2
def ag (env:Env)(xs:List (Str × Nat))(sp:Sp)(E:XK)(t:TA):TE:=λσ H Q=>t σ H λd c=>∃ vals:List V,vals.length=xs.length/\(∀ (j:Nat) x i v,xs[j]?=some (x,i)->vals[j]?=some v->σ[i]?=some (some v)) /\
 ∀ cs a,cs.map (·.1)=xs.map (·.1)->CellsOf env cs->(cs.map (·.2)).Nodup->CellsAt a cs vals->(∀ b,b∉cs.map (·.2)->a b=c b)->(∀ b∈cs.map (·.2),c b=none)->sp d a (λv e=>Q v (yY cs e)) E
section
variable {X:Cx}{pins:List (JI × Obj)}{σ:St}{H:Hp}{s:JO}
theorem Inv.cells {xs:List (Str × Nat)}{vals:List V}(I:Inv X pins σ H s)(nd:(xs.map (·.1)).Nodup)(y:∀ p∈xs,X.N[p.2]?=some p.1/\X.env.scope.names.lookup p.1=some .cell/\X.fn p.1=true)(n:vals.length=xs.length)(k:∀ (j:Nat) x i v,xs[j]?=some (x,i)->vals[j]?=some v->σ[i]?=some (some v)):∃ cs:List (Str × JI),cs.map (·.1)=xs.map (·.1)/\CellsOf X.env cs/\(cs.map (·.2)).Nodup/\cs.length=vals.length /\
   ∀ (j:Nat) x c v,cs[j]?=some (x,c)->vals[j]?=some v->∃ o u,s.heap.get? c=some o/\o.data=.cell (some u)/\RelV v u/\X.s₀.heap.objs.size<=c:=by
 induction xs generalizing vals with
 | nil =>
  cases vals with
  | nil=>exact⟨[],rfl,λp K=>(Jm K).elim,Yy,rfl,λj x c v h=>by cases h⟩
  | cons a b=>cases n
 | cons p xs ih =>
  cases vals with
  | nil=>cases n
  | cons t vals =>
   rw[JU,JD]at nd;obtain⟨cs,B,A,Q,P,O⟩:=ih (vals:=vals) nd.2 (λq f=>y q (.tail _ f)) (by simpa using n) (λj x i v a b=>k (j+1) x i v a b);obtain⟨d,l⟩:=p;obtain⟨G,w,F⟩:=y (d,l) (.head _);have J:=k 0 d l t rfl rfl;obtain⟨m,S,lo⟩:=I.loc;obtain⟨u,C,D⟩:=lo l d t G J (.inr (.inl w));rcases D with ⟨E,_⟩|⟨_,c,r,o,L,N⟩
   ·have g:X.env.scope.names.lookup d=some .local:=E
    rw[w]at g;cases g
   refine⟨(d,c)::cs,by rw[JU,JU,B],λq f=>?_,?_,by rw[Y5,Y5,P],λj x R v a b=>?_⟩
   ·rcases Jp.mp f with rfl|z
    ·exact r
    ·exact A q z
   ·rw[JU,JD]
    refine⟨λM=>?_,Q⟩;obtain⟨q,f,e⟩:=Jn.mp M;have:=I.ok.inj q.1 d c (by rw[A q f];exact JL some e) r;exact nd.1 (by rw[<- B,<- this];exact Jn.mpr ⟨q,f,rfl⟩)
   ·cases j with
    | zero =>
     cases Jj a;cases Jj b
     exact⟨o,u,L,N,C,I.ok.cab d c F r⟩
    | succ j=>exact O j x R v a b
variable {k:Nat}{f:JI}{fd:Yl}{ps:List Str}{sp:Sp}{x:Str}{p pos:Pos}{e:Expr}{es:List Expr}{t:TA}{E:XK}
theorem fq (F:FnOk X.prog X.w X.K X.mg X.base CX0 k f fd ps sp) (hr:Room k X.A) (hg:Gl X x) (hm:X.mg x=some (.ref f)) (T:PySem.W.keepIn X.K (.ref f)=true) (hb:Binds X.K fd ps []) (xs:List (Str × Nat)) (nd:(xs.map (·.1)).Nodup)
  (hk:∀ p∈xs,X.N[p.2]?=some p.1/\X.env.scope.names.lookup p.1=some .cell/\X.fn p.1=true) (ha:PA X (e::es) t) (U:(x == ("__debug__":Str))=false:=by decide) (he:starEach (e::es) X.env=(false,eval e X.env)::starEach es X.env:=by rfl) (S:(backTo pos (starEach es X.env)).any (·.1)=false:=by rfl) :
  PE X (.Call (.Name x p) (e::es) [] pos) (ag X.env xs sp E t):=by
 intro pins s σ H Q I h;refine Yt (uC I hg hm ?_ U);refine PySem.W.callWith_K (h₀:=X.base) I.ok.mod.kin T (thn (ha pos pins s σ H _ I h) λM m ⟨vs,K,l,r,vals,vl,R,q⟩=>⟨l.kIn,?_⟩) he S;obtain⟨cs,c1,c2,c3,Z,Y⟩:=l.cells nd hk vl R
 have cell:∀ b∈cs.map (·.2),∃ y o u,X.env.cells.lookup y=some b/\m.heap.get? b=some o/\o.data=.cell (some u)/\X.s₀.heap.objs.size<=b:=λb hb=>by
  obtain⟨⟨y,c⟩,D,rfl⟩:=Jn.mp hb;obtain⟨j,W,ej⟩:=YQ.mp D;have jv:j<vals.length:=by rw[<- Z];exact W
  obtain⟨o,u,G,N,_,g4⟩:=Y j y c vals[j] (by rw[J2 W,ej]) (J2 jv);exact⟨y,o,u,c2 (y,c) D,G,N,g4⟩
 have free:∀ b∈cs.map (·.2),K b=none:=λb hb=>by
  obtain⟨y,o,u,O,_⟩:=cell b hb;exact l.freeC y b O
 have nofr:∀ b∈cs.map (·.2),b∉frs X.stack:=λb hb hf=>by
  obtain⟨y,o,u,O,_,_,lo⟩:=cell b hb;rcases Jp.mp (l.stkSub b hf) with z|z
  ·exact l.cne y b O z
  ·obtain⟨_,o',ho,_⟩:=l.ok.funs.mem z
   exact absurd (Jz (Jh ho) lo) (Ye _)
 let B:Hp:=λb=>if b∈cs.map (·.2) then (m.heap.get? b).map FZ else K b
 have C:∀ {b:JI}{o:Obj},b∈cs.map (·.2)->m.heap.get? b=some o->B b=some (FZ o):=λ{b o} hb e=>by
  show (if b∈cs.map (·.2) then (m.heap.get? b).map FZ else K b)=_;rw[Jq hb,e];rfl
 have d:∀ b,b∉cs.map (·.2)->B b=K b:=λb hb=>Jg hb
 have g:∀ {b:JI}{o:HO},K b=some o->B b=some o:=λ{b o} e=>by
  rw[d b λhb=>by rw[free b hb]at e;cases e];exact e
 have ca:CellsAt B cs vals:=⟨Z,λi y c v a b=>by
  obtain⟨o,u,G,N,g3,_⟩:=Y i y c v a b
  exact⟨o,u,C (Jn.mpr ⟨_,Jw a,rfl⟩) G,N,g3⟩⟩
 have P:HOk X.prog X.w B m.heap:=λb u e2=>by
  by_cases hb:b∈cs.map (·.2)
  ·obtain⟨y,o,u',_,G,_⟩:=cell b hb
   rw[C hb G]at e2;cases e2;exact nA G
  ·rw[d b hb]at e2
   exact(l.hok b u e2).stay (λ_ _ _ z=>z) (λ_ z=>g z) λ_ _ z=>g z
 have A:=l.env0;have e2:Env0 X.prog X.w X.K X.mg X.base X.A X.stack m B:=⟨A.frames,A.mod,λb o z=>⟨(A.bs b o z).1,?_⟩,A.bsz,A.funs,λb hb=>?_,P,A.bare⟩
 rotate_left
 ·rw[d b λD=>?_];· exact(A.bs b o z).2
  ·obtain⟨y,o',u,_,_,_,lo⟩:=cell b D
   exact absurd (Jz (Jh z) (JQ l.ok.bsz lo)) (Ye _)
 ·rw[d b λD=>nofr b D hb];exact A.frf b hb
 have z:=q cs B c1 c2 c3 ca d free;have ul:M.length=ps.length:=by rw[<- r.length];exact F.len _ _ _ _ z
 refine wpAny_call (ZE (F.run X.A X.stack m B ⟨M,[]⟩ M vs _ E hr e2 (by have:=hb m M l.kIn (by rw[JT];exact ul);rwa [JT]at this) r z) λrs s' J=>?_)
 cases rs with
 | error e=>exact J.elim
 | ok fl =>
  cases fl with
  | next=>exact False.elim J
  | brk=>exact False.elim J
  | cont=>exact False.elim J
  | ret u =>
   obtain⟨v,H3,os,bare,un,L,rv,qq⟩:=J
   have V:CellsFz cs H3:=λb hb=>by
    obtain⟨o,w⟩:=ca.fz b hb;exact⟨o,un.frzs b o _ w⟩
   have same:∀ b∈cs.map (·.2),∀ o,m.heap.get? b=some o->s'.heap.get? b=some o:=λb hb o e=>by
    have:=un.frzs b o _ (C hb e);exact(L b _ this).1
   refine l.after ⟨v,yY cs H3,os,bare,⟨λb o e n x y=>?_,λb o e n x y=>?_,λb o e n y=>?_,un.there,λb ys e=>?_,λb o w e=>?_,λb qs e=>?_⟩,rh L V,rv,qq⟩
   ·by_cases hb:b∈cs.map (·.2)
    ·exact same b hb o e
    ·exact un.keep b o e (by rw[d b hb];exact n) x y
   ·by_cases hb:b∈cs.map (·.2)
    ·exact⟨o.slots,same b hb o e⟩
    ·exact un.slot b o e (by rw[d b hb];exact n) x y
   ·by_cases hb:b∈cs.map (·.2)
    ·exact wU hb
    ·rw[yO hb];exact un.free b o e (by rw[d b hb];exact n) y
   ·have hb:b∉cs.map (·.2):=λhb=>by rw[free b hb]at e;cases e
    rw[yO hb];exact un.tups b ys (g e)
   ·have hb:b∉cs.map (·.2):=λhb=>by rw[free b hb]at e;cases e
    rw[yO hb];exact un.frzs b o w (g e)
   ·have hb:b∉cs.map (·.2):=λhb=>by rw[free b hb]at e;cases e
    rw[yO hb];exact un.tbls b qs (g e)
end
def zbm (cl:List (Str × JI))(H:Hp)(Q:VK):VK:=λv a=>(∀ b∈cl.map (·.2),a b=none)->Q v (back cl H a)
section
variable {CX:CXT}{P:Yo}{w:YI}{K:Jl}{mg:Str->Option Jo}{base:YP}{L:Lam}{cl:List (Str × JI)}{vals vs:List V}{ps:List Str}{f c:JI}{A:YO}{outer:List Env}{s:JO}{H:Hp}{us:List Jo}{Q:VK}{E:XK}
theorem dc {k:Nat}(S:LamScope ps (cl.map (·.1)) L.scope) (i:Room (k+1) A) (a:Env0 P w K mg base A outer s H) (la:LamAt H f L cl vals) (r:Vals vs us) (l:vs.length=ps.length)
  (hb:∀ pm cdv ct,bindArgs (PySem.W.kla_fn "<lambda>" L.qual L.params L.body L.scope cl pm cdv ct) ⟨us,[]⟩=pure (ps.zip us))
  (d:∀ c,Room k (A.deeper (lQ L cl s.heap.objs.size f c))->∃ t,PE (cC CX P w K mg base (ps++cl.map (·.1)) L cl f c A outer s H E) L.body t/\t ((vs++vals).map some) (yY cl H) (zbm cl H Q)) :
  codeAny (model P w) A (.call (.ref f) ⟨us,[]⟩) (CR CX outer P w H s Q E) s:=by
 obtain⟨pm,c,ct,C,fs,n,R,O,N,M⟩:=la.ex;have lim:s.heap.NoLimit:=a.mod.nolimit.keeps λb o e=>(a.bs b o e).1;have ul:us.length=ps.length:=by rw[<- r.length];exact l
 refine PySem.W.kla_callFunE i.depth (a.hok f _ R).1 rfl S.co S.gen rfl ⟨c,C,fs,n,rfl,(a.hok c _ O).1,N,M⟩ ?_;rw[show bindArgs _ _=_ from hb pm (.ref c) ct];refine J9 (wpAny_newFunctionEnv S.noc (λy D=>S.par y.1 (List.of_mem_zip D).1) (λT ns p=>?_) S.kind);have j:∀ b o,s.heap.get? b=some o->T.get? b=some o:=λb o e=>(p.2 b (Jx (Jh e))).trans (J7 _ e);refine⟨lim.keeps j,PySem.W.kla_codeExpr ?_⟩;obtain⟨t,F,G⟩:=d c (i.deeper _);have I:=bq (CX:=CX) (E:=E) (c:=c) (tk:=s.toks+(ps.zip us).length) S i.hd a la r l ns j;refine JB (F [] _ _ _ _ I G) (λu x h=>?_) λe x h=>h;obtain⟨v,m,J,B,q⟩:=h;have g:=la.fz
 have low:∀ b∈cl.map (·.2),m b=none:=λb hb=>by
  obtain⟨o,z⟩:=g b hb;exact J.base.free b o (a.hok b _ z).1 (wU hb) Jm
 obtain⟨un,ok⟩:=cM (H':=m) J.base g a.frf (λb o z=>(a.hok b _ z).1) low J.hok;exact⟨v,_,J.os,J.bare,un,ok,B,q low⟩
end
abbrev LSpc:=List V->List V->Hp->VK->XK->Prop
structure LamQ (CX:CXT) (P:Yo) (w:YI) (K:Jl) (mg:Str->Option Jo) (base:YP) (k:Nat) (L:Lam) (fr ps:List Str) (sp:LSpc):Prop where
 S:LamScope ps fr L.scope
 len:∀ vals vs H Q E,sp vals vs H Q E->vs.length=ps.length
 bind:∀ (cl:List (Str × JI)) (us:List Jo),us.length=ps.length->∀ pm cdv ct,bindArgs (PySem.W.kla_fn "<lambda>" L.qual L.params L.body L.scope cl pm cdv ct) ⟨us,[]⟩=pure (ps.zip us)
 body:∀ (cl:List (Str × JI)) (f c:JI) (A:YO) (outer:List Env) (s:JO) (H:Hp) (vals vs:List V) (Q:VK) (E:XK),cl.map (·.1)=fr->Room k (A.deeper (lQ L cl s.heap.objs.size f c))->CellsFz cl H->sp vals vs (yY cl H) Q E ->
  ∃ t,PE (cC CX P w K mg base (ps++fr) L cl f c A outer s H E) L.body t/\t ((vs++vals).map some) (yY cl H) Q
def zaZ (L:Lam)(fr:List Str)(sp:LSpc)(E:XK)(i:Nat)(t:TA):TE:=λσ H Q=>∃ f,σ[i]?=some (some (.ref f))/\(∃ cl pm c d,H f=some (FZ (oz L cl pm c d)))/\t σ H λb a=>∃ cl vals,cl.map (·.1)=fr/\LamAt a f L cl vals/\sp vals b (yY cl a) (zbm cl a Q) E
section
variable {X:Cx}{CX:CXT}{k:Nat}{L:Lam}{fr ps:List Str}{sp:LSpc}{E:XK}{x:Str}{i:Nat}{p pos:Pos}{e:Expr}{es:List Expr}{t:TA}
theorem bF (F:LamQ CX X.prog X.w X.K X.mg X.base k L fr ps sp)(O:Room (k+1) X.A)(S:PE X (.Name x p) (gE i))(M:Passes CX X E)(ha:PA X (e::es) t)(R:starEach (e::es) X.env=(false,eval e X.env)::starEach es X.env:=by rfl)(m:(backTo pos (starEach es X.env)).any (·.1)=false:=by rfl) :
  PE X (.Call (.Name x p) (e::es) [] pos) (zaZ L fr sp E i t):=by
 intro pins s σ H Q I h;obtain⟨f,P,⟨aT,ab,c0,aE,n⟩,q⟩:=h;refine Yt (thn (S pins s σ H (λv H'=>v=.ref f/\H'=H) I ⟨_,P,rfl,rfl⟩) λg G ⟨v,Z,A,K,ev,V⟩=>?_);subst ev V;obtain rfl:g=.ref f:=K;refine PySem.W.callWith_F ⟨_,_,_,_,(A.hok f _ n).1⟩ ?_ R m;refine thn (ha pos pins G σ Z _ A q) λo w ⟨C,B,b,r,cl,vals,j,d,z⟩=>?_;obtain⟨pm,c,ct,oc,fs,tc,T,h2,h3,h4⟩:=d.ex;have y:=F.len _ _ _ _ _ z;have ul:o.length=ps.length:=by rw[<- r.length];exact y
 have Y:LamScope ps (cl.map (·.1)) L.scope:=by rw[j];exact F.S
 refine⟨⟨_,_,_,_,(b.hok f _ T).1⟩,?_⟩;refine wpAny_call (ZE (dc (CX:=CX) (E:=E) (Q:=Q) Y O b.env0 d r y (F.bind cl o ul) λW l=>?_) λrs J a=>?_)
 ·obtain⟨D,N,a⟩:=F.body cl f W X.A X.stack w B vals C _ E j l d.fz z
  exact⟨D,by rw[j];exact N,a⟩
 ·cases rs with
  | error e=>exact M pins σ B w e J b a
  | ok U =>
   cases U with
   | ret u=>exact b.after a
   | next=>exact False.elim a
   | brk=>exact False.elim a
   | cont=>exact False.elim a
end
abbrev LvL:=List (KN × List Int)
def zt (ps:LvL)(k:KN):Option (List Int):=(ps.find? λx=>decide (x.1=k)).map (·.2)
def vM (ps:LvL)(k:KN)(c:List Int):LvL:=if (zt ps k).isSome then ps.map λx=>if x.1=k then (x.1,c) else x else ps++[(k,c)]
def yT (c:List Int)(m:Nat):List Int:=Bn.yB c m 1
structure LAcc where
 on:LvL
 fl:List (List Int)
section
variable (step:KN->Nat->Option KN)(seen:LvL)
def go1 (s:KN)(c:List Int)(a:LAcc)(m:Nat):LAcc :=
 match step s m with
 | none=>⟨a.on,a.fl++[yT c m]⟩
 | some t=>if (zt seen t).isSome then a else ⟨vM a.on t (xR (yT c m) ((zt a.on t).getD (yT c m))),a.fl⟩
def goS (moves:List Nat)(a:LAcc)(p:KN × List Int):LAcc:=moves.foldl (go1 step seen p.1 p.2) a
def yg (moves:List Nat)(level:LvL):LAcc:=level.foldl (goS step seen moves) ⟨[],[]⟩
end
inductive LRes
 | opn
 | brk (c:List Int)
 | whl (ls:List LvL)
def ye (step:KN->Nat->Option KN)(moves:List Nat)(most:Nat):Nat->LvL->LvL->List LvL->LRes
 | 0,_,_,_=>.opn
 | n+1,level,seen,ls =>
  if level=[] then .whl ls else
  if most<seen.length+level.length then .opn else
  if (yg step (seen++level) moves level).fl≠[] then .brk (j6 (yg step (seen++level) moves level).fl) else
  ye step moves most n (yg step (seen++level) moves level).on (seen++level) (ls++[level])
def LvX (H:Hp)(x:KN × JI × V)(p:KN × List Int):Prop:=x.1=p.1/\∃ c,x.2.2=.ref c/\H c=some (.tup (p.2.map V.int))
structure LvE (H:Hp) (xs:KVN) (ps:LvL):Prop where
 ks:KsIn H xs
 pr:Paired (LvX H) xs ps
theorem wZ {α β:Type}{F G:α->β->Prop}(h:∀ a b,F a b->G a b){l1:List α}{l2:List β}(p:Paired F l1 l2):Paired G l1 l2:=by
 induction p with
 | nil=>exact .nil
 | cons a _ ih=>exact .cons (h _ _ a) ih
theorem LvX.tups {H H':Hp}(t:∀ b ys,H b=some (.tup ys)->H' b=some (.tup ys)){x:KN × JI × V}{p:KN × List Int}(h:LvX H x p):LvX H' x p:=by
 obtain⟨e,c,e2,a⟩:=h;exact⟨e,c,e2,t _ _ a⟩
theorem LvE.tups {H H':Hp}(t:∀ b ys,H b=some (.tup ys)->H' b=some (.tup ys)){xs:KVN}{ps:LvL}(h:LvE H xs ps):LvE H' xs ps:=⟨h.ks.tups t,wZ (λ_ _ z=>z.tups t) h.pr⟩
theorem LvE.keep {H H':Hp}(s:Same H H'){xs:KVN}{ps:LvL}(h:LvE H xs ps):LvE H' xs ps:=h.tups λb a e=>s _ _ e
theorem LvE.nil {H:Hp}:LvE H [] []:=⟨λx a=>(nomatch a),.nil⟩
theorem LvE.len {H:Hp}{xs:KVN}{ps:LvL}(h:LvE H xs ps):xs.length=ps.length:=Yr h.pr
theorem ee {H:Hp}{xs:KVN}{ps:LvL}(h:Paired (LvX H) xs ps)(k:KN):(vL xs k=none/\zt ps k=none)\/∃ c r,vL xs k=some (.ref c)/\zt ps k=some r/\H c=some (.tup (r.map V.int)):=by
 induction h with
 | nil=>exact Or.inl (And.intro rfl rfl)
 | @cons x p xs ps a t ih =>
  obtain⟨e,c,e2,b⟩:=a;unfold vL zt at ih ⊢;rw[Yz,Yz,e];by_cases z:p.1=k
  ·rw[JC z]
   exact .inr ⟨c,p.2,JL some e2,rfl,b⟩
  ·rw[Jt z]
   exact ih
theorem rZ {H:Hp}{xs:KVN}{ps:LvL}(h:Paired (LvX H) xs ps)(k:KN):(vL xs k).isSome=(zt ps k).isSome:=by
 rcases ee h k with ⟨a,b⟩|⟨c,r,a,b,_⟩<;>rw[a,b]<;>rfl
theorem zax {H:Hp}{xs:KVN}{ps:LvL}(h:Paired (LvX H) xs ps)(k:KN){c:JI}{r:List Int}(b:H c=some (.tup (r.map V.int))):Paired (LvX H) (xs.map λx=>if x.1=k then (x.1,x.2.1,.ref c) else x) (ps.map λx=>if x.1=k then (x.1,r) else x):=by
 induction h with
 | nil=>exact .nil
 | @cons x p xs ps a t ih =>
  refine .cons ?_ ih;dsimp only;by_cases z:p.1=k
  ·rw[Jq (a.1.trans z),Jq z];exact⟨a.1,c,rfl,b⟩
  ·rw[Jg (λy=>z (a.1.symm.trans y)),Jg z];exact a
theorem LvE.put {H:Hp}{xs:KVN}{ps:LvL}(h:LvE H xs ps){k:KN}{b c:JI}{r:List Int}(f:NKey H k b)(d:H c=some (.tup (r.map V.int))):LvE H (wX xs k b (.ref c)) (vM ps k r):=by
 unfold wX vM;rw[rZ h.pr k];by_cases z:(zt ps k).isSome=true
 ·rw[Jq z,Jq z]
  refine⟨λx a=>?_,zax h.pr k d⟩;obtain⟨y,e,rfl⟩:=Jn.mp a;have:=h.ks y e;split<;>exact this
 ·rw[Jg z,Jg z]
  refine⟨λx a=>?_,Paired.snoc h.pr ⟨rfl,c,rfl,d⟩⟩;rcases Jr.mp a with y|y
  ·exact h.ks x y
  ·rw[Ja.mp y];exact f
theorem sE {α β:Type}{F:α->β->Prop}{a1:List α}{b1:List β}(p:Paired F a1 b1){a2:List α}{b2:List β}(q:Paired F a2 b2):Paired F (a1++a2) (b1++b2):=by
 induction p with
 | nil=>exact q
 | cons a _ ih=>exact .cons a ih
theorem LvE.app {H:Hp}{xs ys:KVN}{ps a:LvL}(h:LvE H xs ps)(g:LvE H ys a):LvE H (xs++ys) (ps++a):=⟨λx b=>by
 rcases Jr.mp b with y|y
 ·exact h.ks x y
 ·exact g.ks x y,sE h.pr g.pr⟩
theorem LvE.at_ {H:Hp}{xs:KVN}{ps:LvL}(h:LvE H xs ps){i:Nat}{p:KN × JI × V}(e:xs[i]?=some p):∃ r c,ps[i]?=some (p.1,r)/\NKey H p.1 p.2.1/\p.2.2=.ref c/\H c=some (.tup (r.map V.int)):=by
 have key:∀ {xs:KVN}{ps:LvL},Paired (LvX H) xs ps->∀ {i:Nat}{p:KN × JI × V},xs[i]?=some p->∃ q,ps[i]?=some q/\LvX H p q:=by
  intro xs ps r
  induction r with
  | nil=>intro i p h;cases h
  | cons q t ih =>
   intro i p h
   cases i with
   | zero=>cases Jj h;exact⟨_,rfl,q⟩
   | succ i=>exact ih h
 obtain⟨q,e2,d,c,b,a⟩:=key h.pr e;refine⟨q.2,c,?_,h.ks p (Jw e),b,a⟩;rw[e2,d]
theorem rp {ps:LvL}{k:KN}:zt ps k=none↔∀ p∈ps,p.1≠k:=by
 unfold zt;rw[Option.map_eq_none_iff,List.find?_eq_none];constructor
 ·intro h p a e;exact h p a (JC e)
 ·intro h p a e;exact h p a (Yq e)
theorem xS {ps:LvL}{k:KN}{r:List Int}(h:zt ps k=some r):(k,r)∈ps:=by
 unfold zt at h;obtain⟨p,a,e⟩:=Yx.mp h;have d:=List.mem_of_find?_eq_some a;have b:=List.find?_some (p:=λx:KN × List Int=>decide (x.1=k)) a;have c:=Yq b;rw[<- c,<- e];exact d
theorem wG {ps:LvL}{k:KN}(h:(zt ps k).isSome=true):∃ r,(k,r)∈ps:=by
 obtain⟨r,e⟩:=Z9.mp h;exact⟨r,xS e⟩
theorem wH {ps:LvL}{k:KN}{r:List Int}(h:(k,r)∈ps):(zt ps k).isSome=true:=by
 cases e:zt ps k with
 | some r=>rfl
 | none=>exact absurd rfl (rp.mp e _ h)
theorem xy (a b:LvL)(k:KN):(zt (a++b) k).isSome=((zt a k).isSome || (zt b k).isSome):=by
 rw[Yf,ZA];constructor
 ·intro h
  obtain⟨r,c⟩:=wG h;rcases Jr.mp c with y|y
  ·exact .inl (wH y)
  ·exact .inr (wH y)
 ·rintro (h|h)
  ·obtain⟨r,c⟩:=wG h;exact wH (Y6 _ c)
  ·obtain⟨r,c⟩:=wG h;exact wH (Jv _ c)
def LvNd (ps:LvL):Prop:=(ps.map (·.1)).Nodup
theorem jU (ps:LvL)(k:KN)(r:List Int):(vM ps k r).map (·.1)=if (zt ps k).isSome then ps.map (·.1) else ps.map (·.1)++[k]:=by
 unfold vM;split
 ·rw[List.map_map]
  refine YT λx a=>?_;show (if x.1=k then (x.1,r) else x).1=x.1;split<;>rfl
 ·rw[JG];rfl
theorem LvNd.put {ps:LvL}(h:LvNd ps)(k:KN)(r:List Int):LvNd (vM ps k r):=by
 unfold LvNd;rw[jU];split
 ·exact h
 ·rename_i z
  refine Zn.mpr ⟨h,JD.mpr ⟨Jm,Yy⟩,λa f b d e=>?_⟩;rw[Ja.mp d]at e;obtain⟨p,c,rfl⟩:=Jn.mp f;exact z (wH (k:=k) (r:=p.2) (by rw[<- e];exact c))
theorem tw {ps:LvL}{k:KN}{r:List Int}{p:KN × List Int}(h:p∈vM ps k r):p∈ps\/p=(k,r):=by
 unfold vM at h;split at h
 ·obtain⟨x,a,rfl⟩:=Jn.mp h
  by_cases z:x.1=k
  ·rw[Jq z,z];exact .inr rfl
  ·rw[Jg z];exact .inl a
 ·rcases Jr.mp h with y|y
  ·exact .inl y
  ·exact .inr (Ja.mp y)
theorem gw (ps:LvL)(k:KN)(r:List Int):(vM ps k r).length<=ps.length+1:=by
 unfold vM;split
 ·rw[Jc];lia
 ·rw[Jb];exact Je _
theorem rY:∀ (ys xs:KVN),(ys.map (·.1)).Nodup->(∀ y∈ys,∀ x∈xs,x.1≠y.1)->we xs ys=xs++ys
 | [],xs,_,_=>by rw[JT];rfl
 | y::ys,xs,nd,ds=>by
  rw[JU,JD]at nd
  have e:wX xs y.1 y.2.1 y.2.2=xs++[y]:=by
   unfold wX
   have:vL xs y.1=none:=by
    unfold vL;rw[Option.map_eq_none_iff,List.find?_eq_none];exact λx a z=>ds y (.head _) x a (Yq z)
   rw[this];rfl
  show List.foldl _ (wX xs y.1 y.2.1 y.2.2) ys=_;rw[e]
  have:=rY ys (xs++[y]) nd.2 λz b x a=>by
   rcases Jr.mp a with q|q
   ·exact ds z (.tail _ b) x q
   ·rw[Ja.mp q]
    exact λe=>nd.1 (Jn.mpr ⟨z,b,e.symm⟩)
  rw[show List.foldl (λacc y=>wX acc y.1 y.2.1 y.2.2) (xs++[y]) ys=we (xs++[y]) ys from rfl,this,Y0];rfl
theorem pD {H:Hp}{xs:KVN}{ps:LvL}(h:Paired (LvX H) xs ps):xs.map (·.1)=ps.map (·.1):=by
 induction h with
 | nil=>rfl
 | cons a _ ih=>rw[JU,JU,ih,a.1]
theorem LvE.merge {H:Hp}{xs ys:KVN}{ps a:LvL}(h:LvE H xs ps)(g:LvE H ys a)(nd:LvNd a)(ds:∀ q∈a,zt ps q.1=none):we xs ys=xs++ys:=by
 refine rY ys xs (by rw[pD g.pr];exact nd) λy d x f e=>?_;have c:y.1∈a.map (·.1):=by rw[<- pD g.pr];exact Jn.mpr ⟨y,d,rfl⟩
 obtain⟨q,i,eq⟩:=Jn.mp c;have b:x.1∈ps.map (·.1):=by rw[<- pD h.pr];exact Jn.mpr ⟨x,f,rfl⟩
 obtain⟨p,j,k⟩:=Jn.mp b;exact rp.mp (ds q i) p j (k.trans (e.trans eq.symm))
end L2
namespace L2
open PySem PySem.Spec PyProof.Rows Own Bn
theorem Room.u3 {k:Nat}{A:YO}(r:Room k A):A.units+3<cLine:=by have:=r.un;lia
def RowsAt (H:Hp)(as:List JI)(rs:List (List Int)):Prop:=Paired (λa r=>H a=some (.tup (r.map V.int))) as rs
theorem RowsAt.tups {H H':Hp}(t:Tups H H'){as:List JI}{rs:List (List Int)}(h:RowsAt H as rs):RowsAt H' as rs:=wZ (λ_ _ e=>t _ _ e) h
structure AccOk (n m:Nat) (a:LAcc):Prop where
 on:∀ p∈a.on,p.2.length=n
 fl:∀ r∈a.fl,r.length=n
 few:a.on.length+a.fl.length<=m
theorem wc (c:List Int)(m:Nat):(yT c m).length=c.length:=by unfold yT yB;rw[YG]
theorem qy (x y:List Int):xR x y=x\/xR x y=y:=by unfold xR;split<;>simp
theorem AccOk.go {step:KN->Nat->Option KN}{seen:LvL}{s:KN}{c:List Int}{a:LAcc}{n m k:Nat}(h:AccOk n m a)(i:c.length=n):AccOk n (m+1) (go1 step seen s c a k):=by
 have b:(yT c k).length=n:=by rw[wc,i]
 have l:=h.few;unfold go1;split
 ·refine⟨h.on,λr d=>?_,by show a.on.length+(a.fl++[yT c k]).length<=_;rw[Jb];show _+(_+1)<=_;lia⟩
  rcases Jr.mp d with z|z
  ·exact h.fl r z
  ·rw[Ja.mp z];exact b
 ·rename_i t j
  split
  ·exact⟨h.on,h.fl,by lia⟩
  ·refine⟨λp f=>?_,h.fl,by have:=gw a.on t (xR (yT c k) ((zt a.on t).getD (yT c k)));show (vM a.on t _).length+a.fl.length<=_;lia⟩
   rcases tw f with z|z
   ·exact h.on p z
   ·rw[z]
    show (xR _ _).length=n;rcases qy (yT c k) ((zt a.on t).getD (yT c k)) with e|e
    ·rw[e];exact b
    ·rw[e]
     cases g:zt a.on t with
     | none=>exact b
     | some r=>exact h.on _ (xS g)
theorem AccOk.row {step:KN->Nat->Option KN}{seen:LvL}{s:KN}{c:List Int}{n:Nat}(b:c.length=n):∀ (moves:List Nat) {a:LAcc}{m:Nat},AccOk n m a->AccOk n (m+moves.length) (moves.foldl (go1 step seen s c) a)
 | [],a,m,h=>h
 | k::r,a,m,h=>by
  have:=AccOk.row (step:=step) (seen:=seen) (s:=s) (c:=c) b r (h.go (step:=step) (seen:=seen) (s:=s) (k:=k) b);rw[Y5,show m+(r.length+1)=m+1+r.length by lia];exact this
theorem AccOk.lev {step:KN->Nat->Option KN}{seen:LvL}{n:Nat}{moves:List Nat}:∀ (level:LvL) {a:LAcc}{m:Nat},(∀ p∈level,p.2.length=n)->AccOk n m a->AccOk n (m+level.length*moves.length) (level.foldl (goS step seen moves) a)
 | [],a,m,_,h=>by rw[Yh,Nat.zero_mul];exact h
 | p::r,a,m,b,h=>by
  have:=AccOk.lev (step:=step) (seen:=seen) (moves:=moves) r (λq c=>b q (.tail _ c)) (AccOk.row (step:=step) (seen:=seen) (s:=p.1) (b p (.head _)) moves h);rw[Y5,Nat.add_mul,Nat.one_mul,show m+(r.length*moves.length+moves.length)=m+moves.length+r.length*moves.length by lia];exact this
def Led (lsp:LSpc)(vals:List V)(step:KN->Nat->Option KN)(Ok:KN->Prop)(moves:List Nat)(H:Hp):Prop :=
 ∀ (c:Hp) (s:KN) (b:JI) (m:Nat) (Q:VK),Tups H c->Ok s->m∈moves->NKey c s b->(∀ a,Same c a->step s m=none->Q .non a)->(∀ a d t,Same c a->step s m=some t->NKey a t d->Q (.ref d) a)->lsp vals [.ref b,.int (m:Nat)] c Q E0
theorem Led.tups {lsp:LSpc}{vals:List V}{step:KN->Nat->Option KN}{Ok:KN->Prop}{moves:List Nat}{H H':Hp}(h:Led lsp vals step Ok moves H)(t:Tups H H'):Led lsp vals step Ok moves H':=λc s b m Q a=>h c s b m Q (t.trans a)
theorem uu {H:Hp}{cl:List (Str × JI)}(fz:CellsFz cl H):Tups H (yY cl H):=λa c e=>by
 rw[yO]
 ·exact e
 ·intro b
  obtain⟨o,q⟩:=fz a b;rw[e]at q;cases q
theorem rK {H a:Hp}{cl:List (Str × JI)}(s:Same (yY cl H) a):Same H (back cl H a):=λb o e=>by
 by_cases c:b∈cl.map (·.2)
 ·rw[pK c];exact e
 ·rw[xU c];exact s b o (by rw[yO c];exact e)
theorem jI {H a:Hp}{cl:List (Str × JI)}(low:∀ b∈cl.map (·.2),a b=none):Tups a (back cl H a):=λb d e=>by
 rw[xU]
 ·exact e
 ·intro c
  rw[low b c]at e;cases e
def MvAt (K:Jl)(H:Hp)(a:JI)(xs:List V):Prop:=H a=some (.tup xs)\/∀ b,SqT K b a xs
theorem MvAt.tups {K:Jl}{H H':Hp}(t:Tups H H'){a:JI}{xs:List V}(h:MvAt K H a xs):MvAt K H' a xs:=h.imp (t _ _) id
theorem MvAt.sq {K:Jl}{H:Hp}{a:JI}{xs:List V}(h:MvAt K H a xs):SqT K H a xs:=h.elim SqT.of λz=>z H
structure Way (K:Jl) (H:Hp) (mv f:JI) (L:Lam) (fr:List Str) (lsp:LSpc) (cl:List (Str × JI)) (vals:List V) (step:KN->Nat->Option KN) (Ok:KN->Prop) (moves:List Nat) (n:Nat):Prop where
 mv:MvAt K H mv (moves.map λm=>V.int (m:Nat))
 fr:cl.map (·.1)=fr
 la:LamAt H f L cl vals
 ld:Led lsp vals step Ok moves H
 lt:∀ m∈moves,m<n
 ok:∀ s m t,Ok s->m∈moves->step s m=some t->Ok t
 n1:n<=1000
theorem Way.keep {K:Jl}{H H':Hp}{mv f:JI}{L:Lam}{fr:List Str}{lsp:LSpc}{cl:List (Str × JI)}{vals:List V}{step:KN->Nat->Option KN}{Ok:KN->Prop}{moves:List Nat}{n:Nat}(h:Way K H mv f L fr lsp cl vals step Ok moves n)(t:Tups H H')(z:∀ b o u,H b=some (.frz o u)->H' b=some (.frz o u)):Way K H' mv f L fr lsp cl vals step Ok moves n :=
 ⟨h.mv.tups t,h.fr,h.la.frz z,h.ld.tups t,h.lt,h.ok,h.n1⟩
def ni (P:Yo)(w:YI)(K:Jl)(L:Lam)(fr:List Str)(lsp:LSpc):Sp:=λe H Q _=>∃ dl ds mv f d c level seen moves cl vals step Ok n,e=[.ref dl,.ref ds,.ref mv,.ref f]/\H dl=some (DN P w dl d)/\LvE H d level/\H ds=some (DN P w ds c)/\LvE H c seen/\dl≠ds /\
 Way K H mv f L fr lsp cl vals step Ok moves n/\(∀ p∈level,Ok p.1/\p.2.length=n)/\level.length*moves.length<=10000000 /\
 ∀ p o l b fs a,Same H a->H o=none->a p=some (.tup [.ref o,.ref l])->a o=some (DN P w o b)->LvE a b (yg step seen moves level).on->a l=some (.lst (fs.map V.ref))->RowsAt a fs (yg step seen moves level).fl->Q (.ref p) a
def df:V->Int
 | .int i=>i
 | _=>0
def cp (H:Hp):V->List Int
 | .ref a=>match H a with
  | some (.tup xs)=>xs.map df
  | _=>[]
 | _=>[]
theorem vt {H:Hp}{a:JI}{r:List Int}(h:H a=some (.tup (r.map V.int))):cp H (.ref a)=r:=by
 show (match H a with
  | some (.tup b)=>b.map df
  | _=>[])=r
 rw[h];show (r.map V.int).map df=r;rw[List.map_map];exact List.map_id r
def uj (H:Hp):V->V->Ordering:=λu v=>yj (cp H u) (cp H v)
theorem nM {H:Hp}:∀ {fs:List JI}{rs:List (List Int)}{a:JI}{r:List Int},RowsAt H fs rs->H a=some (.tup (r.map V.int))->∃ h,(fs.map V.ref).foldl (y4 (uj H)) (.ref a)=.ref h/\H h=some (.tup ((rs.foldl xR r).map V.int)):=by
 intro fs rs a r h
 induction h generalizing a r with
 | nil=>intro c;exact⟨a,rfl,c⟩
 | @cons b q fs rs d _ ih =>
  intro c;show ∃ h,(fs.map V.ref).foldl (y4 (uj H)) (y4 (uj H) (.ref a) (.ref b))=.ref h/\H h=some (.tup ((rs.foldl xR (xR r q)).map V.int));have e:uj H (.ref b) (.ref a)=yj q r:=by unfold uj;rw[vt c,vt d]
  unfold y4 xR;by_cases z:yj q r=.lt
  ·rw[Jq (e.trans z),Jq z];exact ih d
  ·rw[Jg (λy=>z (e.symm.trans y)),Jg z];exact ih c
theorem cF {H:Hp}{fs:List JI}{rs:List (List Int)}(h:RowsAt H fs rs)(ne:rs≠[]):∃ g,xH (uj H) (fs.map V.ref)=.ref g/\H g=some (.tup ((j6 rs).map V.int)):=by
 cases h with
 | nil=>exact absurd rfl ne
 | cons a t=>exact nM t a
theorem ly {H:Hp}{n:Nat}{fs:List JI}{rs:List (List Int)}(h:RowsAt H fs rs)(f:∀ r∈rs,r.length=n):∀ x∈fs.map V.ref,∀ y∈fs.map V.ref,Lx H 1 x y (uj H x y):=by
 have at_:∀ {fs:List JI}{rs:List (List Int)},RowsAt H fs rs->∀ a∈fs,∃ r∈rs,H a=some (.tup (r.map V.int)):=by
  intro fs rs h
  induction h with
  | nil=>intro a c;cases c
  | cons p _ ih =>
   intro a c;rcases Jp.mp c with rfl|z
   ·exact⟨_,.head _,p⟩
   ·obtain⟨r,d,e⟩:=ih a z
    exact⟨r,.tail _ d,e⟩
 intro x j y i;obtain⟨a,c,rfl⟩:=Jn.mp j;obtain⟨b,bm,rfl⟩:=Jn.mp i;obtain⟨r,d,g⟩:=at_ h a c;obtain⟨q,k,e2⟩:=at_ h b bm;unfold uj;rw[vt g,vt e2];exact kS g e2 (by rw[f r d,f q k])
structure NewOk (seen:LvL) (Ok:KN->Prop) (a:LAcc):Prop where
 nd:LvNd a.on
 new:∀ p∈a.on,zt seen p.1=none
 ok:∀ p∈a.on,Ok p.1
section
variable {step:KN->Nat->Option KN}{seen:LvL}{Ok:KN->Prop}{moves:List Nat}
theorem NewOk.go {s:KN}{c:List Int}{a:LAcc}{k:Nat}(h:NewOk seen Ok a)(f:∀ t,step s k=some t->Ok t):NewOk seen Ok (go1 step seen s c a k):=by
 unfold go1;split
 ·exact⟨h.nd,h.new,h.ok⟩
 ·rename_i t d
  split
  ·exact h
  ·rename_i z
   refine⟨h.nd.put _ _,λp b=>?_,λp b=>?_⟩
   ·rcases tw b with y|y
    ·exact h.new p y
    ·rw[y]
     cases e:zt seen t with
     | none=>rfl
     | some r=>rw[e]at z;exact absurd rfl z
   ·rcases tw b with y|y
    ·exact h.ok p y
    ·rw[y];exact f t d
theorem NewOk.row {s:KN}{c:List Int}:∀ (ms:List Nat) {a:LAcc},NewOk seen Ok a->(∀ m∈ms,∀ t,step s m=some t->Ok t)->NewOk seen Ok (ms.foldl (go1 step seen s c) a)
 | [],a,h,_=>h
 | k::r,a,h,q=>NewOk.row r (h.go (q k (.head _))) λm b=>q m (.tail _ b)
theorem NewOk.lev:∀ (level:LvL) {a:LAcc},NewOk seen Ok a->(∀ p∈level,∀ m∈moves,∀ t,step p.1 m=some t->Ok t)->NewOk seen Ok (level.foldl (goS step seen moves) a)
 | [],a,h,_=>h
 | p::r,a,h,q=>NewOk.lev r (NewOk.row moves h (q p (.head _))) λm b=>q m (.tail _ b)
theorem uB (level:LvL)(q:∀ p∈level,∀ m∈moves,∀ t,step p.1 m=some t->Ok t):NewOk seen Ok (yg step seen moves level) :=
 NewOk.lev level ⟨Yy,λp a=>(nomatch a),λp a=>(nomatch a)⟩ q
theorem sI {n:Nat}(level:LvL)(h:∀ p∈level,p.2.length=n):AccOk n (level.length*moves.length) (yg step seen moves level):=by
 have:=AccOk.lev (step:=step) (seen:=seen) (moves:=moves) level (a:=⟨[],[]⟩) (m:=0) h ⟨λp b=>(nomatch b),λp b=>(nomatch b),Je _⟩
 rwa [Nat.zero_add]at this
end
section
variable {step:KN->Nat->Option KN}{moves:List Nat}{most m:Nat}{level seen:LvL}{ls:List LvL}
theorem wJ:ye step moves most (m+1) [] seen ls=.whl ls:=Jq rfl
theorem vH (ne:level≠[])(h:most<seen.length+level.length):ye step moves most (m+1) level seen ls=.opn:=by
 unfold ye;rw[Jg ne,Jq h]
theorem vI (ne:level≠[])(h:¬ most<seen.length+level.length)(f:(yg step (seen++level) moves level).fl≠[]):ye step moves most (m+1) level seen ls=.brk (j6 (yg step (seen++level) moves level).fl):=by
 unfold ye;rw[Jg ne,Jg h,Jq f]
theorem wt (ne:level≠[])(h:¬ most<seen.length+level.length)(f:(yg step (seen++level) moves level).fl=[]):ye step moves most (m+1) level seen ls=ye step moves most m (yg step (seen++level) moves level).on (seen++level) (ls++[level]):=by
 rw[ye,Jg ne,Jg h,Jg (not_not_intro f)]
end
def LvsAt (P:Yo)(w:YI)(H:Hp)(as:List JI)(ls:List LvL):Prop:=Paired (λa lv=>∃ b,H a=some (DN P w a b)/\LvE H b lv) as ls
theorem LvsAt.but {P:Yo}{w:YI}{H H':Hp}{as:List JI}{ls:List LvL}(h:LvsAt P w H as ls)(t:Tups H H')(k:∀ a∈as,∀ o,H a=some o->H' a=some o):LvsAt P w H' as ls:=by
 induction h with
 | nil=>exact .nil
 | @cons a lv as ls q _ ih =>
  obtain⟨c,e,le⟩:=q;exact .cons ⟨c,k a (.head _) _ e,le.tups t⟩ (ih λb d=>k b (.tail _ d))
theorem LvsAt.keep {P:Yo}{w:YI}{H H':Hp}{as:List JI}{ls:List LvL}(h:LvsAt P w H as ls)(s:Same H H'):LvsAt P w H' as ls:=h.but (Tups.of s) λa _ o e=>s a o e
def TellR (P:Yo)(w:YI)(H:Hp)(p:JI):LRes->Prop
 | .opn=>H p=some (.tup [.str "open",.non])
 | .brk c=>∃ b,H p=some (.tup [.str "breaks",.ref b])/\H b=some (.tup (c.map V.int))
 | .whl ls=>∃ l as,H p=some (.tup [.str "whole",.ref l])/\H l=some (.lst (as.map V.ref))/\LvsAt P w H as ls
end L2
namespace L2
open PySem PySem.Spec PyProof.Rows
abbrev e2 (elt tg iter b a:Expr)(ifs:List Expr)(scope:Scope)(pos:Pos):Expr:=.ListComp elt [⟨tg,iter,[],0⟩,⟨b,a,ifs,0⟩] scope pos
theorem jF (elt tg iter b a:Expr)(ifs:List Expr)(scope:Scope)(pos:Pos)(it acc:Jo)(env:Env) :
  compTurn (e2 elt tg iter b a ifs scope pos) 0 it acc env=(standAt iter.pos >>= λ_=>pyNext it >>= λr=>match r with
   | none=>pure (.done .next)
   | some v=>letOwnedTupleGo tg it v >>= λ_=>assign tg env v >>= λ_ =>
    (eval a env >>= λx=>standAt a.pos >>= λ_=>foldedSetIterable a env x >>= λx=>holding [x] (pyIter x) >>= λi1=>runOwn (.compStart (e2 elt tg iter b a ifs scope pos) 1 i1 acc env) env >>= λ_ =>
     again (.compLoop (e2 elt tg iter b a ifs scope pos) 0 it acc env))):=by rfl
theorem jE (elt tg iter b a:Expr)(scope:Scope)(pos:Pos)(it acc:Jo)(env:Env) :
  compTurn (e2 elt tg iter b a [] scope pos) 1 it acc env=(standAt a.pos >>= λ_=>pyNext it >>= λr=>match r with
   | none=>pure (.done .next)
   | some v=>letOwnedTupleGo b it v >>= λ_=>assign b env v >>= λ_ =>
    ((eval elt env >>= λx=>call (.builtin "list.append") [acc,x] >>= λ_=>pure ()) >>= λ_ =>
     again (.compLoop (e2 elt tg iter b a [] scope pos) 1 it acc env))):=by rfl
theorem nQ (elt tg iter b a c:Expr)(scope:Scope)(pos:Pos)(it acc:Jo)(env:Env) :
  compTurn (e2 elt tg iter b a [c] scope pos) 1 it acc env=(standAt a.pos >>= λ_=>pyNext it >>= λr=>match r with
   | none=>pure (.done .next)
   | some v=>letOwnedTupleGo b it v >>= λ_=>assign b env v >>= λ_=>(forIn [c] true λc r=>if r=true then (isTrue c env (eval c env) >>= λok=>pure (ForInStep.yield ok)) else pure (ForInStep.yield r)) >>= λok =>
    if ok=true then
    ((eval elt env >>= λx=>call (.builtin "list.append") [acc,x] >>= λ_=>pure ()) >>= λ_ =>
     again (.compLoop (e2 elt tg iter b a [c] scope pos) 1 it acc env)) else again (.compLoop (e2 elt tg iter b a [c] scope pos) 1 it acc env)):=by rfl
section
variable {prog:Yo}{w:YI}{A:YO}{R:Result->JO->Prop}{s:JO}{elt tg iter tg1 iter1:Expr}{scope:Scope}{pos:Pos}{it acc:Jo}{env:Env}
theorem nF {ifs:List Expr}(c:codeAny (model prog w) A (.compLoop (e2 elt tg iter tg1 iter1 ifs scope pos) 1 it acc env) R s)(h:wpAny (model prog w) A (pyIter it) (λi2 z=>codeAny (model prog w) A (.compLoop (e2 elt tg iter tg1 iter1 ifs scope pos) 1 i2 acc env) R z) NoX s) :
  codeAny (model prog w) A (.compStart (e2 elt tg iter tg1 iter1 ifs scope pos) 1 it acc env) R s:=by
 refine codeAny_of_tree ?_;show wpAny _ A ((compStart (e2 elt tg iter tg1 iter1 ifs scope pos) 1 it acc env).onRaise (λx=>do noteFrame x env;standAt theWindowsPlace)) _ _ s;refine wpAny_notedAt ?_;unfold compStart;refine(show wpAny _ _ (ask >>= _) _ _ s from J0 (wpAny_askSetting (wpAny_ite ?_)));split
 ·first
   | exact J0 (J9 (J9 ⟨rfl,c⟩))
   | exact J9 ⟨rfl,c⟩
 ·apply J0;refine YF ?_
  first
   | exact J0 (Yu (J0 (JB h (λb d a=>J9 ⟨rfl,a⟩) λ_ _ z=>z.elim)))
   | (show wpAny _ _ (standAt iter1.pos >>= _) _ _ s;exact J0 (Yu (J0 (JB h (λb d a=>J9 ⟨rfl,a⟩) λ_ _ z=>z.elim))))
theorem jC {o:Option Expr}(J:Nat->JO->Prop)(turn:∀ n s,J n s->Go (model prog w) A tg1 elt o it acc env R (λz=>∃ m,m<n/\J m z) s)(n:Nat)(h:J n s) :
  codeAny (model prog w) A (.compLoop (.ListComp elt [⟨tg,iter,[],0⟩,⟨tg1,iter1,o.toList,0⟩] scope pos) 1 it acc env) R s:=by
 cases o with
 | none =>
  refine codeAny_loop rfl J (λn s k=>?_) n h;show wpAny _ A ((compTurn (e2 elt tg iter tg1 iter1 [] scope pos) 1 it acc env).onRaise (λx=>do noteFrame x env;theTreesLotGoes x)) _ _ s;refine wpAny_noted ?_;rw[jE];refine J0 (Yu (J0 (JB (turn n s k) (λr a i=>?_) λ_ _ z=>z.elim)))
  cases r with
  | none=>exact J9 i
  | some v =>
   refine J0 (JB i (λ_ b q=>?_) λ_ _ z=>z.elim);refine J0 (JB q (λ_ c p=>?_) λ_ _ z=>z.elim);have g:wpAny (model prog w) A (eval elt env) (λx e=>wpAny (model prog w) A (call (.builtin "list.append") [acc,x]) (λ_ f=>∃ m,m<n/\J m f) NoX e) NoX c:=p
   exact J0 (J0 (JB g (λx d j=>J0 (JB j (λ_ e l=>J9 (J9 ⟨rfl,l⟩)) λ_ _ z=>z.elim)) λ_ _ z=>z.elim))
 | some t =>
  refine codeAny_loop rfl J (λn s k=>?_) n h;show wpAny _ A ((compTurn (e2 elt tg iter tg1 iter1 [t] scope pos) 1 it acc env).onRaise (λx=>do noteFrame x env;theTreesLotGoes x)) _ _ s;refine wpAny_noted ?_;rw[nQ];refine J0 (Yu (J0 (JB (turn n s k) (λr a i=>?_) λ_ _ z=>z.elim)))
  cases r with
  | none=>exact J9 i
  | some v =>
   refine J0 (JB i (λ_ b q=>?_) λ_ _ z=>z.elim);refine J0 (JB q (λ_ c p=>?_) λ_ _ z=>z.elim);have g:wpAny (model prog w) A (isTrue t env (eval t env)) (λyes d=>if yes=true then wpAny (model prog w) A (eval elt env) (λx e=>wpAny (model prog w) A (call (.builtin "list.append") [acc,x]) (λ_ f=>∃ m,m<n/\J m f) NoX e) NoX d else ∃ m,m<n/\J m d) NoX c:=p;refine J0 (wpAny_tests_one (JB g (λyes d j=>?_) λ_ _ z=>z.elim))
   cases yes with
   | false=>exact J9 ⟨rfl,j⟩
   | true=>exact J0 (J0 (JB j (λx e l=>J0 (JB l (λ_ f u=>J9 (J9 ⟨rfl,u⟩)) λ_ _ z=>z.elim)) λ_ _ z=>z.elim))
theorem jD {ifs:List Expr}(J:Nat->JO->Prop)(turn:∀ n s,J n s->wpAny (model prog w) A (pyNext it) (λr a=>match r with
   | none=>R (.ok .next) a
   | some v=>wpAny (model prog w) A (letOwnedTupleGo tg it v) (λ_ b=>wpAny (model prog w) A (assign tg env v) (λ_ c=>wpAny (model prog w) A (eval iter1 env) (λx d=>wpAny (model prog w) A (pyIter x) (λi1 e =>
     codeAny (model prog w) A (.compStart (e2 elt tg iter tg1 iter1 ifs scope pos) 1 i1 acc env) (λr f=>match r with|.ok _=>∃ m,m<n/\J m f|.error _=>False) e) NoX d) NoX c) NoX b) NoX a) NoX s)(n:Nat)(h:J n s)(hs:∀ x,foldedSetIterable iter1 env x=pure x) :
  codeAny (model prog w) A (.compLoop (e2 elt tg iter tg1 iter1 ifs scope pos) 0 it acc env) R s:=by
 refine codeAny_loop rfl J (λn s j=>?_) n h;show wpAny _ A ((compTurn (e2 elt tg iter tg1 iter1 ifs scope pos) 0 it acc env).onRaise (λx=>do noteFrame x env;theTreesLotGoes x)) _ _ s;refine wpAny_noted ?_;rw[jF];refine J0 (Yu (J0 (JB (turn n s j) (λr a i=>?_) λ_ _ z=>z.elim)))
 cases r with
 | none=>exact J9 i
 | some v =>
  refine J0 (JB i (λ_ b p=>?_) λ_ _ z=>z.elim);refine J0 (JB p (λ_ c o=>?_) λ_ _ z=>z.elim);refine J0 (JB o (λx d l=>?_) λ_ _ z=>z.elim);refine J0 (Yu (J0 (wpAny_of_eq (hs x) (J0 (Y2 (JB l (λi1 e k=>?_) λ_ _ z=>z.elim))))));refine J0 (wpAny_runOwn (ZE k (λr f g=>?_)))
  cases r with
  | ok q=>exact J9 ⟨rfl,g⟩
  | error x=>exact g.elim
end
def LCW1 (J:It)(g:TG)(tt:TT)(k:TE)(l:JI)(Q:List V->St->Hp->Prop)(W:Nat->Nat->List V->St->Hp->Prop):Prop :=
 ∀ i m acc c d,W i m acc c d->d l=some (.lst acc) /\
  ((J.stop i d/\Q acc c d)\/(J.go i d/\∀ x j,J.yld i d x j->g x c j λa n=>tt a n λb h =>
   if b=true then k a h λy f=>f l=some (.lst acc)/\acc.length<sizeLine/\∃ e,e<m/\W (i+1) e (acc++[y]) a (upd f l (.lst (acc++[y])))
   else ∃ e,e<m/\W (i+1) e acc a h))
def za0 (cap:List (Option Nat))(n:TI)(g:TG)(d:TI)(q:TG)(tt:TT)(o:TE):TE:=λσ H Q=>n σ H λJ j=>∀ l,j l=none ->
 ∃ W:Nat->Nat->List V->St->Hp->Prop,(∃ m,W 0 m [] (im cap σ) (upd j l (.lst []))) /\
  ∀ i m acc c a,W i m acc c a->a l=some (.lst acc)/\((J.stop i a/\Q (.ref l) a)\/(J.go i a/\∀ x h,J.yld i a x h->g x c h λb t=>d b t λr s =>
   ∃ f:Nat->Nat->List V->St->Hp->Prop,(∃ p,f 0 p acc b s)/\LCW1 r q tt o l (λac k G=>∃ e,e<m/\W (i+1) e ac k G) f))
theorem dW {X:Cx}{elt tg iter P B:Expr}{o:Option Expr}{scope:Scope}{pos bb:Pos}{wi bu:TI}{g g1:TG}{tt:TT}{te:TE}{N':List Str}{cap:List (Option Nat)}{use:Option (Jo->Sem Unit)}{Q0:Jo->JO->Prop}(hc:X.calm=true)(hi:PI X tg iter wi)(ck:CapOk X.N N' X.env.scope scope cap)(hg:∀ C s₀ H₀ fp pins,PG (yW X N' scope C s₀ H₀ fp pins) tg g)(ct:∀ C s₀ H₀ fp pins,PI (yW X N' scope C s₀ H₀ fp pins) P B bu)(cx:∀ C s₀ H₀ fp pins,PG (yW X N' scope C s₀ H₀ fp pins) P g1)(ht:∀ C s₀ H₀ fp pins,PTo (yW X N' scope C s₀ H₀ fp pins) o tt)(he:∀ C s₀ H₀ fp pins,PE (yW X N' scope C s₀ H₀ fp pins) elt te)(hs:∀ x,foldedSetIterable iter X.env x=pure x)(cb:∀ C x,foldedSetIterable B (compEnvC scope (vc X.env.cells scope.names []) C X.env) x=pure x){pins:List (JI × Obj)}{s:JO}{σ:St}{H:Hp}{Q:VK}(I:Inv X pins σ H s)(h:za0 cap wi g bu g1 tt te σ H Q)(fin:∀ (l C:JI) (H4:Hp) (s5:JO) (m:Str->Option Jo),Inv X pins σ H4 s5->Q (.ref l) H4->s5.heap.Ns C m->FpOk X pins H4 C->compPost (model X.prog X.w) X.A X.xe use Q0 (.ref l) C (.ok .next) s5) :
  wpAny (model X.prog X.w) X.A (comprehension (.ListComp elt [⟨tg,iter,[],0⟩,⟨P,B,o.toList,0⟩] scope pos) scope X.env bb (newList []) false (eval iter X.env) use) Q0 X.xe s:=by
 have N:∀ y∈scope.names,y.2=.free->∃ c,X.env.cells.lookup y.1=some c:=λy hy hf=>I.ok.has y.1 (ck.free y hy hf);refine wpAny_comprehension_free (use:=use) rfl hs (sk N) ck.kind ck.names (thn (hi pins s σ H _ I h) λv s1 h1=>thn h1 λdd F h2=>?_);obtain⟨it,fp,tn,J,H2,e,I2,T,b0,f2,body⟩:=h2;subst e;have bl:H2 F.heap.objs.size=none:=I2.hok.fresh (Je _);obtain⟨W,⟨m0,w0⟩,turn⟩:=body F.heap.objs.size bl;have A:Inv X pins σ (upd H2 F.heap.objs.size (.lst [])) { F with heap:=F.heap.push { cls:=.type "list",data:=.seq ([]:List Jo).toArray },toks:=F.toks }:=I2.lnew (its:=[]) (t':=F.toks) .nil (JM _);refine JE (wpAny_newFunctionEnv ck.nocell (by intro y hy;simp at hy) (λE M L=>?_) ck.kind);dsimp only at M L ⊢;generalize hl:F.heap.objs.size=l at *;generalize hP:F.heap.push { cls:=.type "list",dict:=none,data:=.seq ([]:List Jo).toArray }=P2 at *;generalize cL:upd H2 l (.lst [])=H3 at *;have old:∀ b o,P2.get? b=some o->E.get? b=some o:=λb o e=>L.extBut b o (Jx (Jh e)) (J7 _ e);have bc:∀ b o,F.heap.get? b=some o->P2.get? b=some o:=λb o e=>hP ▸ J7 _ e
 have b5:∀ b∈fp,b<l:=λb a=>by
  obtain⟨o,e,_⟩:=T.obj _ _ b0 b a;rw[<- hl];exact Jh e
 have cT:∀ b∈fp,H3 b=none:=λb a=>by
  rw[<- cL,zK (Jx (b5 b a))];exact(f2 b a).1
 have cH:P2.objs.size=l+1:=by rw[<- hP,Ys,hl]
 have D:∀ x c,(vc X.env.cells scope.names []).lookup x=some c->X.env.cells.lookup x=some c:=λx c e=>uJ _ _ x c N (λ_ _ z=>by simp at z) e;generalize b2:({ F with heap:=P2,toks:=F.toks }:JO)=s3 at *;have w:s3.heap=P2:=by rw[<- b2]
 let Y:=yW X N' scope P2.objs.size s3 H3 fp pins
 have K:Y.Ok:=by
  refine⟨A.ok.mod,ck.kind,A.ok.glob,A.ok.blt,by show s3.heap.objs.size<=P2.objs.size;rw[w];exact Je _,λx y c e1 e2=>A.ok.inj x y c (D x c e1) (D y c e2),λx hx=>?_,λx c hx=>absurd (show false=true from hx) Ji,A.ok.hd,A.ok.frames,.inl rfl,λb a=>⟨?_,λx c e=>?_⟩,A.bs,
   JQ A.ok.bsz A.sz,λb o e a=>?_,λb a hz=>?_,A.stack,A.stkFree⟩
  ·have b9:scope.names.lookup x=some .free:=by
    rcases hx with hx|hx
    ·rcases xg hx with z|z
     ·exact absurd rfl (ck.nocell _ (vZ z))
     ·exact z.2
    ·rcases xg hx with z|z
     ·exact z
     ·exact z.2
   exact wK _ _ x b9
  ·exact Jx (by show b<P2.objs.size;rw[cH];exact Z1 (b5 b a))
  ·exact(f2 b a).2.2.2.2.1 x c (D x c e)
  ·rcases (f2 b a).2.2.2.1 with z|z
   ·exact A.ok.noex b o e z
   ·exact absurd (Jz (Jh e) (JQ A.ok.bsz z)) (Ye _)
  ·rcases Jp.mp (A.stkSub b hz) with z|z
   ·exact(f2 b a).2.1 z
   ·exact(f2 b a).2.2.1 z
 have cE:Inv Y [] (im cap σ) H3 { F with heap:=E,toks:=F.toks }:=by
  refine⟨K,by show F.os=s3.os;rw[<- b2],I2.bare,by show Un _ _ _ _ s3.heap E;rw[w];exact Un.kept old,⟨_,M,λj x v e1 e2 e3=>?_⟩,λx c e=>?_,?_,λx c e=>A.freeC x c (D x c e),λp hp=>?_,λb o e=>?_,?_⟩
  ·have c2:N'[j]?=some x:=e1
   unfold im at e2;rw[JF]at e2
   cases ec:cap[j]? with
   | none=>rw[ec]at e2;cases e2
   | some oc =>
    rw[ec]at e2
    cases oc with
    | none=>cases e2
    | some i =>
     have c0:σ[i]?=some (some v):=by
      cases ei:σ[i]? with
      | none=>simp[ei]at e2
      | some v' =>
       simp[ei]at e2;rw[e2]
     have hz:(x,some i)∈N'.zip cap:=by
      refine Jw (i:=j) ?_;rw[List.getElem?_zip_eq_some];exact⟨c2,ec⟩
     obtain⟨hN,hf,hk⟩:=ck.cap _ hz i rfl;obtain⟨m,hn,cc⟩:=A.loc;obtain⟨u,r,lk⟩:=cc i x v hN c0 (by rcases hk with z|z;exact .inr (.inl z);exact .inr (.inr z));refine⟨u,r,.inr ⟨?_,?_⟩⟩
     ·exact vw hf
     ·rcases lk with ⟨z,_⟩|⟨_,c,cz,a0⟩
      ·have z':X.env.scope.names.lookup x=some .local:=z
       rcases hk with q|q
       ·rw[q]at z';cases z'
       ·rw[q]at z';cases z'
      ·obtain⟨c',b3⟩:=wK (cells:=X.env.cells) scope.names [] x hf
       have:=D x c' b3;rw[cz]at this;cases this;obtain⟨ob,e,d⟩:=a0;rw[w]at e;exact⟨c,b3,ob,old c ob e,d⟩
  ·obtain⟨v,ob,e',d⟩:=A.cell x c (D x c e)
   rw[w]at e';exact⟨v,ob,old c ob e',d⟩
  ·refine A.hok.fresh ?_
   rw[w];exact Je _
  ·have a9:p∈X.pn++pins:=(Jr.mp hp).elim (λz=>z) (λz=>nomatch z)
   obtain⟨e,n,ne,nf,d⟩:=A.pin p a9;rw[w]at e;refine⟨old _ _ e,n,Jx (Jh e),λz=>?_,d⟩;rcases Jp.mp (A.stkSub _ z) with q|q
   ·exact ne q
   ·exact nf q
  ·have:=A.hok.kept (h':=E) (λb u q=>old b u (by rw[<- w];exact q))
   exact this b o e
  ·show (cap.map _).length=N'.length
   rw[Jc,ck.len]
 have S:∀ {t:Hp},(∀ b∈fp,t b=none)->∀ b∈fp,FpOk Y [] t b:=λ{t} hn b a=>by
  refine⟨hn b a,(K.exf b a).1,K.exfs b a,.inl a,(K.exf b a).2,λp hp=>?_⟩;have a9:p∈X.pn++pins:=(Jr.mp hp).elim (λz=>z) (λz=>nomatch z);exact(f2 b a).2.2.2.2.2 p a9
 have b1:tn 0 E:=T.keep 0 _ _ b0 λb a o e=>old b o (bc b o e)
 have loop:codeAny (model X.prog X.w) X.A (.compLoop (.ListComp elt [⟨tg,iter,[],0⟩,⟨P,B,o.toList,0⟩] scope pos) 0 (.ref it) (.ref l) Y.env) (compPost (model X.prog X.w) X.A X.xe use Q0 (.ref l) P2.objs.size) { F with heap:=E,toks:=F.toks }:=by
  refine jD (λn s'=>∃ i acc f t,Inv Y [] f t s'/\tn i s'.heap/\(∀ b∈fp,t b=none)/\W i n acc f t) ?_ m0 ⟨0,[],_,H3,cE,b1,cT,w0⟩ (cb _);rintro n s4 ⟨i,acc,a6,H4,I4,bS,b4,w4⟩;obtain⟨c7,q4⟩:=turn i n acc a6 H4 w4;rcases q4 with ⟨stop,qn⟩|⟨go,step⟩
  ·refine thn (T.done Y rfl rfl rfl hc i [] s4 a6 H4 Y.xe I4 (S b4) bS stop) λr s5 ⟨hr,I5⟩=>?_
   subst hr;obtain⟨m,hn,_⟩:=id I5.loc;have un:Un (frs X.stack) fp H3 H4 s3.heap s5.heap:=I5.base;have b6:s3.heap.objs.size<=P2.objs.size:=by rw[w];exact Je _
   have IX:Inv X pins σ H4 s5:=A.call' (ch:=fp) I5.os un I5.hok I5.bare λb a=>⟨(f2 b a).2.2.2.1,(f2 b a).2.1,(f2 b a).2.2.2.2.1,(f2 b a).2.2.2.2.2⟩;exact fin l P2.objs.size H4 s5 m IX qn hn (A.fpOk b6 I5.free)
  ·refine thn (T.item Y rfl rfl rfl hc i [] s4 a6 H4 Y.xe I4 (S b4) bS go) λr s5 ⟨u,hr,h5⟩=>?_
   subst hr;refine thn h5 λ_ s6 ⟨x,H6,I6,r6,y6,a8,cP⟩=>?_;have c5:=I6.pinned (S cP) (T.obj _ _ a8);refine thn (hg _ _ _ _ _ _ s6 a6 H6 x u _ c5 r6 (step x H6 y6)) λ_ s7 ⟨bt,H7,I7,q7⟩=>?_
   have again:∀ {a5:St}{H9:Hp}{s9:JO}{U:List V},Inv Y ([]++wY fp s6.heap) a5 H9 s9->(∃ m',m'<n/\W (i+1) m' U a5 H9)->∃ m,m<n/\∃ i acc f t,Inv Y [] f t s9/\tn i s9.heap/\(∀ b∈fp,t b=none)/\W i m acc f t:=λ{a5 H9 s9 U} I9 ⟨m',hm,w9⟩=>by
    refine⟨m',hm,i+1,U,a5,H9,I9.unpinned,T.keep _ _ _ a8 λb a o e=>(I9.pin (b,o) (Jv _ (Jv _ (yw a e)))).1,λb a=>?_,w9⟩;obtain⟨o,e,d⟩:=T.obj _ _ a8 b a;exact(I9.pin (b,o) (Jv _ (Jv _ (yw a e)))).2.1
   generalize ([]++wY fp s6.heap:List (JI × Obj))=pz at again I7;refine thn (ct _ _ _ _ _ _ s7 bt H7 _ I7 q7) λv1 s8 h8=>thn h8 λc6 s9 h9=>?_;obtain⟨b7,R,bB,J1,H9,e1,I9,T1,bR,f9,W1,⟨m1,w1⟩,ab⟩:=h9;subst e1;have G:∀ {t:Hp},(∀ b∈R,t b=none)->∀ b∈R,FpOk Y pz t b:=λhn b a=>⟨hn b a,(f9 b a).2⟩
   have Z:codeAny (model X.prog X.w) X.A (.compLoop (.ListComp elt [⟨tg,iter,[],0⟩,⟨P,B,o.toList,0⟩] scope pos) 1 (.ref b7) (.ref l) Y.env) (λr z=>match r with|.ok _=>∃ m,m<n/\∃ i acc f t,Inv Y [] f t z/\tn i z.heap/\(∀ b∈fp,t b=none)/\W i m acc f t|.error _=>False) s9:=by
    refine jC (λn s'=>∃ i acc f t,Inv Y pz f t s'/\bB i s'.heap/\(∀ b∈R,t b=none)/\W1 i n acc f t) ?_ m1 ⟨0,acc,bt,H9,I9,bR,λb a=>(f9 b a).1,w1⟩;rintro k t4 ⟨j,ac,a4,G4,K4,u4,v4,z4⟩;obtain⟨c8,p4⟩:=ab j k ac a4 G4 z4;rcases p4 with ⟨aE,pn⟩|⟨go1,aT⟩
    ·refine thn (T1.done Y rfl rfl rfl hc j pz t4 a4 G4 Y.xe K4 (G v4) u4 aE) λr t5 ⟨hr,K5⟩=>?_
     subst hr;exact again K5 pn
    ·refine thn (T1.item Y rfl rfl rfl hc j pz t4 a4 G4 Y.xe K4 (G v4) u4 go1) λr t5 ⟨u,hr,h5⟩=>?_
     subst hr;refine thn h5 λ_ t6 ⟨y,G6,K6,e6,d6,u6,v6⟩=>?_;have c3:=K6.pinned (G v6) (T1.obj _ _ u6);refine thn (cx _ _ _ _ _ _ t6 a4 G6 y u _ c3 e6 (aT y G6 d6)) λ_ t7 ⟨a7,G7,K7,p7⟩=>?_;refine pT (ht _ _ _ _ _ _ t7 a7 G7 _ K7 p7) λb t8 ⟨G8,K8,p8⟩=>?_
     have O:∀ {a3:St}{G9:Hp}{t9:JO}{ba:List V},Inv Y (pz++wY R t6.heap) a3 G9 t9->(∃ m',m'<k/\W1 (j+1) m' ba a3 G9)->∃ m,m<k/\∃ i acc f t,Inv Y pz f t t9/\bB i t9.heap/\(∀ b∈R,t b=none)/\W1 i m acc f t:=λ{a3 G9 t9 ba} K9 ⟨m',hm,z9⟩=>by
      refine⟨m',hm,j+1,ba,a3,G9,K9.unpinned,T1.keep _ _ _ u6 λb a o e=>(K9.pin (b,o) (Jv _ (Jv _ (yw a e)))).1,λb a=>?_,z9⟩;obtain⟨o,e,d⟩:=T1.obj _ _ u6 b a;exact(K9.pin (b,o) (Jv _ (Jv _ (yw a e)))).2.1
     cases b with
     | false =>
      rw[Jg Ji]at p8 ⊢
      exact O K8 p8
     | true =>
      rw[Jq rfl]at p8 ⊢;refine thn (he _ _ _ _ _ _ t8 a7 G8 _ K8 p8) λyv t9 ⟨yy,G9,K9,e9,cn,b8,p9⟩=>?_;refine thn (yd (X:=Y) _ t9 a7 G9 (.ref l) [yy] (.ref l) [yv] (λ_ t=>t=upd G9 l (.lst (ac++[yy]))) K9 rfl (.cons e9 .nil) ⟨l,ac,yy,rfl,rfl,cn,b8,rfl⟩) λ_ c9 ⟨_,de,c4,_,c1⟩=>?_;subst c1;exact O c4 p9
   exact nF Z (T1.self X.A 0 _ _ _ bR Z)
 exact codeAny_compStart_list loop (T.self X.A 0 _ _ _ b1 loop)
theorem zaj {X:Cx}{elt tg iter b a:Expr}{o:Option Expr}{scope:Scope}{pos:Pos}{j c:TI}{g n:TG}{tt:TT}{k:TE}{N':List Str}{cap:List (Option Nat)}(w:X.calm=true)(hi:PI X tg iter j)(y:CapOk X.N N' X.env.scope scope cap)(u:∀ C s₀ H₀ fp pins,PG (yW X N' scope C s₀ H₀ fp pins) tg g)(e:∀ C s₀ H₀ fp pins,PI (yW X N' scope C s₀ H₀ fp pins) b a c)(i:∀ C s₀ H₀ fp pins,PG (yW X N' scope C s₀ H₀ fp pins) b n)(r:∀ C s₀ H₀ fp pins,PTo (yW X N' scope C s₀ H₀ fp pins) o tt)(v:∀ C s₀ H₀ fp pins,PE (yW X N' scope C s₀ H₀ fp pins) elt k)(hs:∀ x,foldedSetIterable iter X.env x=pure x:=by intro _;rfl)(d:∀ C x,foldedSetIterable a (compEnvC scope (vc X.env.cells scope.names []) C X.env) x=pure x:=by intro _ _;rfl) :
  PE X (.ListComp elt [⟨tg,iter,[],0⟩,⟨b,a,o.toList,0⟩] scope pos) (za0 cap j g c n tt k):=by
 intro pins s σ H Q I h;rw[eval_ListComp];exact dW (use:=none) w hi y u e i r v hs d I h λl C A B m z q t f=>⟨m,t,λD p=>⟨.ref l,A,z.gone f p,rfl,q⟩⟩
end L2
namespace L2
open PySem PySem.Spec PyProof.Rows Own
theorem dZ {K:Jl}{b:Bool}{a:JI}{xs:List V}{g A:TG}{j:TI}{tt:TT}{w:TE}{l:JI}{σ:St}{H:Hp}{Q:VK}(d:Nat->List V->St->Hp->Prop)(E:d 0 [] σ H)(C:∀ i acc σ H,d i acc σ H->H l=some (.lst acc)/\SqB b K H a xs)(hs:∀ i acc σ H x T,xs[i]?=some x->H T=none->d i acc σ H->g (.ref T) σ (upd H T (.tup [.int i,x])) λc s=>j c s λq r =>
   ∃ f:Nat->Nat->List V->St->Hp->Prop,(∃ o,f 0 o acc c r)/\LCW1 q A tt w l (λac k G=>Nx xs.length i (d (i+1) ac k G)) f)(hd:∀ acc σ H,d xs.length acc σ H->Q (.ref l) H):∃ W:Nat->Nat->List V->St->Hp->Prop,(∃ m,W 0 m [] σ H) /\
   ∀ i m acc h H',W i m acc h H'->H' l=some (.lst acc)/\(((Ite K b a).stop i H'/\Q (.ref l) H')\/((Ite K b a).go i H'/\∀ x t,(Ite K b a).yld i H' x t->g x h t λc s=>j c s λq r =>
    ∃ f:Nat->Nat->List V->St->Hp->Prop,(∃ o,f 0 o acc c r)/\LCW1 q A tt w l (λac k G=>∃ z,z<m/\W (i+1) z ac k G) f)):=by
 refine⟨λi m acc σ H=>m=xs.length-i/\i<=xs.length/\d i acc σ H,⟨xs.length,by simp,JM _,E⟩,?_⟩;rintro i m acc σ H ⟨rfl,J,p⟩;obtain⟨B,n⟩:=C i acc σ H p;refine⟨B,?_⟩;by_cases u:i<xs.length
 ·refine .inr ⟨⟨xs,_,n,J2 u⟩,λv t ⟨y,F,T,D,I,e2⟩=>?_⟩
  subst I e2;exact hs i acc σ H y T (F xs n) D p
 ·have e:i=xs.length:=by lia
  subst e;exact .inl ⟨⟨xs,n,rfl⟩,hd acc σ H p⟩
end L2
namespace Bn
open PySem L2 Own
def pw (e:Nat):Int:=((2 ^ e:Nat):Int)
theorem gu {i j:Nat}(h:i<=j){x:Int}(a:pw j ∣ x):pw i ∣ x:=Int.dvd_trans (Int.natCast_dvd_natCast.mpr (Nat.pow_dvd_pow 2 h)) a
theorem lz (e:Nat):pw (e+1)=2*pw e:=by unfold pw;rw[YW,Int.natCast_mul];lia
def more (cs xs:List Int)(k:Int):List Int:=(List.range cs.length).map λi=>cs.getD i 0+k*xs.getD i 0
theorem yu (cs xs:List Int)(k:Int):(more cs xs k).length=cs.length:=by simp[more]
theorem yz {cs xs:List Int}{k:Int}{i:Nat}(h:i<cs.length):(more cs xs k).getD i 0=cs.getD i 0+k*xs.getD i 0:=by
 rw[J8,J2 (by rw[yu];exact h)];simp[more]
theorem sV {xs ys:List Int}(b:xs.length=ys.length)(h:∀ i,i<xs.length->xs.getD i 0=ys.getD i 0):xs=ys:=by
 refine List.ext_getElem b λi a c=>?_;have:=h i a
 rwa [J8,J8,J2 a,J2 c]at this
def Left (d n:Nat)(re xs:List Int):Prop:=∀ i,i<n->pw (d-(re.getD i 0).toNat) ∣ xs.getD i 0
theorem iA {d n:Nat}{re fo xs ts:List Int}{f:Nat × Nat}(h1:f.1<n)(o:f.2<n)(k:re.length=n)(j:xs.length=n)(t:0<=re.getD f.1 0)(s:0<=re.getD f.2 0)(u:1+big (re.getD f.1 0) (re.getD f.2 0)<=d)(L:Left d n re xs):(2:Int) ∣ xs.getD f.1 0+xs.getD f.2 0/\Left d n (xO (re,fo) f).1 (yJ (xs,ts) f).1:=by
 have gl:=cD (re.getD f.1 0) (re.getD f.2 0);have v:=aR (re.getD f.1 0) (re.getD f.2 0);generalize h:1+big (re.getD f.1 0) (re.getD f.2 0)=m at *;have r:pw (d-m.toNat+1) ∣ xs.getD f.1 0:=gu (by lia) (L f.1 h1);have e2:pw (d-m.toNat+1) ∣ xs.getD f.2 0:=gu (by lia) (L f.2 o);have p:pw (d-m.toNat+1) ∣ xs.getD f.1 0+xs.getD f.2 0:=Int.dvd_add r e2;generalize l:xs.getD f.1 0+xs.getD f.2 0=S at *;obtain⟨q,g⟩:=p;rw[lz]at g
 have half:S / 2=pw (d-m.toNat)*q:=by
  have:S=2*(pw (d-m.toNat)*q):=by rw[g,Int.mul_assoc]
  lia
 have a:(S+1) / 2=pw (d-m.toNat)*q:=by
  have:S=2*(pw (d-m.toNat)*q):=by rw[g,Int.mul_assoc]
  lia
 refine⟨⟨pw (d-m.toNat)*q,by rw[g,Int.mul_assoc]⟩,λi b=>?_⟩;show pw (d-(((re.set f.1 _).set f.2 _).getD i 0).toNat) ∣ ((xs.set f.1 _).set f.2 _).getD i 0;rw[yC (by simp[k,b]),yC (by rw[k];exact b),yC (by simp[j,b]),yC (by rw[j];exact b)];simp only[l,h,half,a];by_cases c:f.2=i
 ·rw[Jq c,Jq c];exact Int.dvd_mul_right _ _
 ·rw[Jg c,Jg c]
  by_cases e:f.1=i
  ·rw[Jq e,Jq e];exact Int.dvd_mul_right _ _
  ·rw[Jg e,Jg e];exact L i b
theorem j4 {n:Nat}{cs xs ts us:List Int}{k:Int}{f:Nat × Nat}(h1:f.1<n)(o:f.2<n)(lc:cs.length=n)(e:xs.length=n)(ev:(2:Int) ∣ xs.getD f.1 0+xs.getD f.2 0) :
  yJ (more cs xs k,ts) f=(more (yJ (cs,ts) f).1 (yJ (xs,us) f).1 k,(yJ (cs,ts) f).2):=by
 obtain⟨q,g⟩:=ev;have j:=yz (cs:=cs) (xs:=xs) (k:=k) (i:=f.1) (by simp_all);have h:=yz (cs:=cs) (xs:=xs) (k:=k) (i:=f.2) (by simp_all)
 have sum:cs.getD f.1 0+k*xs.getD f.1 0+(cs.getD f.2 0+k*xs.getD f.2 0)=cs.getD f.1 0+cs.getD f.2 0+2*(k*q):=by
  have:k*xs.getD f.1 0+k*xs.getD f.2 0=2*(k*q):=by rw[<- Int.mul_add,g,Int.mul_left_comm]
  lia
 refine Prod.ext ?_ ?_
 ·refine sV (by simp[yJ,yu]) λi l=>?_
  have a:i<n:=by simpa [yJ,yu,lc] using l
  rw[yz (by simp[yJ,lc,a])];show (((more cs xs k).set f.1 _).set f.2 _).getD i 0=((cs.set f.1 _).set f.2 _).getD i 0+k*((xs.set f.1 _).set f.2 _).getD i 0;rw[yC (by simp[yu,lc,a]),yC (by simp[yu,lc,a]),yC (by simp[lc,a]),yC (by rw[lc];exact a),yC (by simp[e,a]),yC (by rw[e];exact a)];simp only[j,h,sum,g];have m:(2*q) / 2=q:=by simp_all
  have b:(2*q+1) / 2=q:=by lia
  by_cases c:f.2=i
  ·simp only[Jq c,m];lia
  ·simp only[Jg c]
   by_cases d:f.1=i
   ·simp only[Jq d,b];lia
   ·simp only[Jg d];exact yz (by simp_all)
 ·show ts++[_]=ts++[_]
  simp only[j,h,sum]
  congr 2;simp_all
theorem rW {d n:Nat}{fs:List (Nat × Nat)}(ok:∀ f∈fs,f.1<n/\f.2<n){cs xs:List Int}{k:Int}(lc:cs.length=n)(r:xs.length=n)(hd:∀ z∈(lay n fs).2,z<=d)(o:Left d n (List.replicate n 0) xs) :
  ∀ i,i<=fs.length->zw (fs.take i) (more cs xs k)=(more (zw (fs.take i) cs).1 (zw (fs.take i) xs).1 k,(zw (fs.take i) cs).2)/\Left d n (lay n (fs.take i)).1 (zw (fs.take i) xs).1
 | 0,_=>⟨by simp[zw,yU],by simpa [zw,yU,lay] using o⟩
 | i+1,hi=>by
  have m:i<fs.length:=by lia
  obtain⟨l,g⟩:=rW ok (k:=k) lc r hd o i (by lia);have b:=J2 m;have a:=ok fs[i] (JA m);have q:=wk ok i (by lia) _ a.1;have p:=wk ok i (by lia) _ a.2;have ln:=wl (n:=n) i fs (by lia)
  have mem:1+big ((lay n (fs.take i)).1.getD fs[i].1 0) ((lay n (fs.take i)).1.getD fs[i].2 0)<=d:=by
   refine hd _ ?_
   have go:∀ j,i+1<=j->j<=fs.length->1+big ((lay n (fs.take i)).1.getD fs[i].1 0) ((lay n (fs.take i)).1.getD fs[i].2 0)∈(lay n (fs.take j)).2:=λj=>by
    induction j with
    | zero=>intro h;simp_all
    | succ j c =>
     intro h s;rw[xw (J2 (show j<fs.length by lia))];by_cases e:i=j
     ·subst e;unfold xO;simp
     ·unfold xO;exact Y6 _ (c (by lia) (by lia))
   have:=go fs.length (by omega) (Je _)
   rwa [JV]at this
  rw[xC b,xC b,xC b,xw b,l];have t:=xF (fs.take i) xs;have u:=xF (fs.take i) cs;have st:=iA (fo:=(lay n (fs.take i)).2) (ts:=(zw (fs.take i) xs).2) a.1 a.2 ln.1 (by simp_all) q.1 p.1 mem g;exact⟨j4 (us:=(zw (fs.take i) xs).2) a.1 a.2 (by simp_all) (by simp_all) st.1,st.2⟩
def yF (n lane:Nat)(m:Int):List Int:=(List.replicate n (0:Int)).set lane m
theorem qM (n lane:Nat)(m:Int):(yF n lane m).length=n:=by simp[yF]
theorem lU (d n lane:Nat):Left d n (List.replicate n 0) (yF n lane (pw d)):=λi a=>by
 unfold yF;rw[yC (by simp[a])];have z:(List.replicate n (0:Int)).getD i 0=0:=by simp[a]
 rw[z];split
 ·exact Int.dvd_refl _
 ·exact Int.dvd_zero _
theorem lS {N:Nt}(ok:N.Ok){cs:List Int}(lc:cs.length=N.lanes){d lane:Nat}{k:Int}(hd:∀ z∈yq N,z<=d) :
  zp N (more cs (yF N.lanes lane (pw d)) k)=more (zp N cs) (zp N (yF N.lanes lane (pw d))) k/\yn N (more cs (yF N.lanes lane (pw d)) k)=yn N cs:=by
 have h:=(rW (d:=d) (n:=N.lanes) (fs:=N.forks) (λf e=>⟨(ok.fk f e).1,(ok.fk f e).2.1⟩) (k:=k) lc (qM _ _ _) hd (lU d N.lanes lane) N.forks.length (Je _)).1;rw[JV]at h;refine⟨?_,by unfold yn;rw[h]⟩;refine sV (by simp[zp,yu]) λi c=>?_;have b:i<N.ends.length:=by simpa [zp] using c
 rw[yz (by simpa [zp] using c)]
 have g:∀ a:List Int,(zp N a).getD i 0=(zw N.forks a).1.getD N.ends[i] 0:=λa=>by
  rw[J8,J2 (by simpa [zp] using b)];simp[zp]
 rw[g,g,g,h];exact yz (by rw[xF,lc];exact pG ok (JA b))
def xG:Nat->List Nat->List Fk
 | 0,_=>[]
 | m+1,row=>if row.length<2 then [] else (row.take (row.length / 2)).zip row.reverse++xG m (row.take (row.length / 2))++xG m (row.drop (row.length / 2))
def xc (k:Nat):Nt:=⟨2 ^ k,(List.replicate k (xG k (List.range (2 ^ k)))).flatten,List.range (2 ^ k)⟩
theorem mK:∀ k,k<5->(xc k).forks.length<=128/\∀ f∈(xc k).forks,f.1<2 ^ k/\f.2<2 ^ k/\f.1≠f.2:=by decide +kernel
theorem jR {k:Nat}(h:k<5):(xc k).Ok:=by
 obtain⟨a,b⟩:=mK k h;refine⟨YX,?_,a,b,.refl _⟩;show 2 ^ k<=2 ^ 4;exact YC (show 0<2 by decide) (show k<=4 by lia)
theorem wM:∀ (m:Nat) (row:List Nat),(xG m row).length<=m*row.length
 | 0,_=>JM _
 | m+1,row=>by
  unfold xG;split
  ·exact JM _
  ·rw[Jb,Jb,Zc,Js]
   have a:=wM m (row.take (row.length / 2));have b:=wM m (row.drop (row.length / 2));rw[Js]at a;rw[Yi]at b
   have c:m*min (row.length / 2) row.length+m*(row.length-row.length / 2)=m*row.length:=by
    rw[<- Nat.mul_add];congr 1;lia
   rw[Nat.succ_mul]
   grind
end Bn
namespace L2
open PySem PySem.Spec PyProof.Rows Own
def ya {α:Type}(xs ys:List α):List α:=(xs.zip ys).flatMap λp=>[p.1,p.2]
theorem xn {α:Type}:∀ (xs ys:List α),xs.length=ys.length->(ya xs ys).length=2*xs.length
 | [],[],_=>rfl
 | x::xs,y::ys,h=>by
  have h':xs.length=ys.length:=by simpa using h
  have:=xn xs ys h';show (ya xs ys).length+2=2*(xs.length+1);rw[this];lia
theorem wp {α β:Type}{f g:α->Option β}:∀ (l:List α),(∀ x∈l,f x=g x)->l.filterMap f=l.filterMap g
 | [],_=>rfl
 | x::l,h=>by
  have e:=wp l λy a=>h y (JJ _ a);simp only[List.filterMap_cons,h x JH,e]
def by2 {α:Type}(off:Nat)(xs:List α):List α:=(List.range ((xs.length+1-off) / 2)).filterMap λk=>xs[off+2*k]?
theorem pJ {α:Type}(off:Nat)(a:off<=1)(xs:List α):(by2 off xs).length=(xs.length+1-off) / 2:=by
 unfold by2
 have e:(List.range ((xs.length+1-off) / 2)).filterMap (λk=>xs[off+2*k]?)=(List.range ((xs.length+1-off) / 2)).pmap (λk (h:k<(xs.length+1-off) / 2)=>xs[off+2*k]'(by omega)) (λk h=>Yd.mp h):=by
  rw[List.pmap_eq_map_attach,<- List.filterMap_eq_map]
  conv=>lhs;rw[<- List.attach_map_subtype_val (List.range ((xs.length+1-off) / 2)),Zf]
  refine wp _ λk b=>?_;have:=Yd.mp k.2;show xs[off+2*k.1]?=some _;rw[J2 (by omega)]
 rw[e,List.length_pmap,JR]
theorem aD {α β:Type}(f:α->β)(off:Nat)(xs:List α):by2 off (xs.map f)=(by2 off xs).map f:=by
 unfold by2;rw[Jc,List.map_filterMap];refine wp _ λk _=>?_;rw[JF]
theorem jB {xs:List V}{us:List Jo}(r:Vals xs us)(a:List Nat):Vals (a.filterMap λk=>xs[k]?) (a.filterMap λk=>us[k]?):=by
 induction a with
 | nil=>exact .nil
 | cons i a ih =>
  cases e:xs[i]? with
  | none =>
   have e2:us[i]?=none:=ZK.mpr (by rw[<- r.length];exact ZK.mp e)
   rw[List.filterMap_cons_none e,List.filterMap_cons_none e2];exact ih
  | some x =>
   obtain⟨u,e2,b⟩:=r.get e;rw[List.filterMap_cons_some e,List.filterMap_cons_some e2];exact .cons b ih
theorem fO (items:Array Jo):slicePick items none none (some 2)=((List.range ((items.size+1) / 2)).filterMap λk=>items.toList[2*k]?).toArray:=by
 have b:sliceBounds none none (some 2) items.size=(0,(items.size:Int),2):=rfl
 have c:sliceRange 0 (items.size:Int) 2=(List.range ((items.size+1) / 2)).map λk=>2*k:=by
  unfold sliceRange;have a:(2:Int) > 0:=by decide
  by_cases h:(0:Int)<items.size
  ·have e:(((items.size:Int)-0+2-1) / 2).toNat=(items.size+1) / 2:=by lia
   simp only[a,YZ,h,e];apply YT;intro k _;lia
  ·have e:items.size=0:=by simp_all
   rw[e];rfl
 unfold slicePick;rw[b];show ((sliceRange 0 (items.size:Int) 2).filterMap (items[·]?)).toArray=_;rw[c,Zf];refine JL List.toArray (wp _ λk _=>?_);simp
theorem jX (items:Array Jo):slicePick items (some 1) none (some 2)=((List.range (items.size / 2)).filterMap λk=>items.toList[1+2*k]?).toArray:=by
 have b:sliceBounds (some 1) none (some 2) items.size=(max 0 (min 1 (items.size:Int)),(items.size:Int),2):=rfl
 have c:sliceRange (max 0 (min 1 (items.size:Int))) (items.size:Int) 2=(List.range (items.size / 2)).map λk=>1+2*k:=by
  unfold sliceRange;have a:(2:Int) > 0:=by decide
  by_cases h:(1:Int)<items.size
  ·have m:max 0 (min 1 (items.size:Int))=1:=by lia
   rw[m];have e:(((items.size:Int)-1+2-1) / 2).toNat=items.size / 2:=by lia
   simp only[a,YZ,h,e];apply YT;intro k _;lia
  ·have e:items.size=0\/items.size=1:=by lia
   rcases e with e|e<;>rw[e]<;>rfl
 unfold slicePick;rw[b];show ((sliceRange (max 0 (min 1 (items.size:Int))) (items.size:Int) 2).filterMap (items[·]?)).toArray=_;rw[c,Zf];refine JL List.toArray (wp _ λk _=>?_);simp
def zbG (K:Jl)(d:TE)(tl ts:TO):TE:=λσ H Q=>d σ H λx f=>tl σ f λlo e=>ts σ e λo b=>o=some 2/\∃ off a c,((lo=none/\off=0)\/(lo=some 1/\off=1))/\x=.ref a/\SqL K b a c/\∀ p,b p=none->Q (.ref p) (upd b p (.lst (by2 off c)))
theorem qp {X:Cx}{e st:Expr}{lo:Option Expr}{n:TE}{tl ts:TO}{p pos:Pos}(J:PE X e n)(G:PO X lo tl)(hs:PO X (some st) ts):PE X (.Subscript e (.Slice lo none (some st) p) pos) (zbG X.K n tl ts):=by
 intro pins s σ H Q I h;refine Subscript_ (thn (J pins s σ H _ I h) λv w ⟨x,O,L,z,B⟩=>wpAny_Slice (thn (G pins w σ O _ L B) λm y ⟨ol,P,M,D,C⟩=>?_));rw[evalPart_none];refine J9 (thn (hs pins y σ P _ M C) λg d ⟨o,N,K,po,A⟩=>?_);obtain⟨rfl,off,a,l,f,rfl,F,k⟩:=A;cases z;have i:Inv X pins σ N { d with heap:=d.heap.push { cls:=.type "slice",data:=.fields #[m,.none,g] } }:=K.kept (t':=d.toks) λb ob q=>J7 _ q;obtain⟨c,r,t,R⟩:=i.list F;have hlen:=r.length;show wpAny (model X.prog X.w) X.A (subscriptTail e (.Slice lo none (some st) p) (.ref a) (.ref d.heap.objs.size)) (EP X pins σ Q) X.xe { d with heap:=d.heap.push { cls:=.type "slice",data:=.fields #[m,.none,g] } };refine tail_any (ops:=[.ref a,.ref d.heap.objs.size]) t.isList.typeIs slot_list_getitem.lookup (wpAny_getItem_list_slice t.isList (Heap.IsSliceOf.new ..) D .none po (by simp) ?_ (by rw[Jf]<;>simp_all)) (by with_unfolding_all rfl)
 have E:slicePick c.toArray ol none (some 2)=((List.range ((c.length+1-off) / 2)).filterMap λk=>c[off+2*k]?).toArray:=by
  rcases f with ⟨rfl,rfl⟩|⟨rfl,rfl⟩
  ·rw[fO];simp only[Jf,Nat.sub_zero,Nat.zero_add]
  ·rw[jX];simp only[Jf,Nat.add_sub_cancel]
 rw[E];have j:off<=1:=by rcases f with ⟨_,rfl⟩|⟨_,rfl⟩<;>decide
 have u:Vals (by2 off l) ((List.range ((c.length+1-off) / 2)).filterMap λk=>c[off+2*k]?):=by
  have:=jB r ((List.range ((c.length+1-off) / 2)).map λk=>off+2*k);rw[Zf,Zf]at this;unfold by2;rw[hlen];exact this
 refine⟨.ref _,_,i.laid (t':=d.toks) (o:=.lst (by2 off l)) (λb ob q=>J7 _ q) (Je _) ⟨by rw[pJ off j];omega,_,0,u,?_⟩,rfl,k _ (i.hok.fresh (Je _))⟩;exact Jk _ rfl
end L2
namespace L2
open PySem PySem.Spec PyProof.Rows Own Bn
def Bits (ts:List Int):Prop:=∀ t∈ts,t=0\/t=1
end L2
namespace L2
open PySem PySem.Spec PyProof.Rows Own
theorem iG {P:Yo}{w:YI}{K:Jl}{mg mb:Str->Option Jo}{CX:CXT}{k:Nat}{U a:JI}{fd:Yl}{x:Str}{sp:Sp}{f:JO}{vs:List Jo}{ns:List Int}(ts:List JI)
  (W:K.In f.heap) (J:f.heap.Ns mainGlobals mg) (hb:f.heap.Ns builtinsNs mb) (ab:∀ x:Str,x≠"__name__"->mb x=bootBuiltins x) (Q:f.heap.NoLimit) (hg:f.gens = #[])
  (ha:f.heap.get? a=some { cls:=.type "list",data:=.seq vs.toArray }) (hi:IntsAre vs ns) (hl:ns.length<=sizeLine) (hr:Room k callerA)
  (B:∀ p∈ts,f.heap.get? p=some (PySem.W.tabObj #[])/\K.lookup p=none/\∃ c,PySem.W.codeHdIn K c p=true)
  (Z:∃ bm ob,mg "__builtins__" = some (.ref bm)/\bm≠builtinsNs/\f.heap.get? bm=some ob/\ob.cls=.type "module"/\ob.dict=some builtinsNs/\ob.data=.plain)
  (F:∀ base:YP,K.In base->base.Ns mainGlobals mg->(∀ p∈ts,base.BuiltinsAt mg p)->FnOk P w K mg base CX k U fd [x] sp) (L:∀ (s:JO) (u:Jo),BindsTo s fd ⟨[u],[]⟩ [(x,u)])
  (Y:∀ H:Hp,SqL K H a (ns.map V.int)->(∀ p∈ts,H p=some (.tbl #[]))->sp [.ref a] H (λv _=>v=.bl true) λ_ _ _=>False)
  (aE:∀ H e i,CX [] H f (λ_ _ _=>False) e i->False) :
  codeAny (model P w) callerA (.call (.ref U) ⟨[.ref a],[]⟩) (λr i=>r=.ok (.ret (.bool true))/\OldK f.heap i.heap/\i.os=f.os/\AllBare i.gens) f:=by
 have rv:=rE hi;have O:=hi.length
 have aT:a∉ts:=λh=>by
  have:=(B a h).1;rw[ha]at this;cases this
 have core:∀ H:Hp,(∀ b,H b=none\/(b=a/\∃ o S,H b=some (.frz o (.lst S)))\/(b∈ts/\H b=some (.tbl #[])))->(∀ p∈ts,H p=some (.tbl #[]))->SqL K H a (ns.map V.int)->HOk P w H f.heap->(H a≠none->K.lookup a=none) ->
   codeAny (model P w) callerA (.call (.ref U) ⟨[.ref a],[]⟩) (λr i=>r=.ok (.ret (.bool true))/\OldK f.heap i.heap/\i.os=f.os/\AllBare i.gens) f:=by
  intro H R hT hS M hK;have g:∀ {b:JI}{o:Obj},f.heap.get? b=some o->H b=none->(sy f.heap H).get? b=some o:=λe n=>dh e n
  have X:∀ {b:JI}{o:Obj}{D:Array DictEntry}{E:Nat},f.heap.get? b=some o->o.data=.dict D E->H b=none:=λ{b o D E} e d=>by
   rcases R b with z|⟨z,_⟩|⟨z,_⟩
   ·exact z
   ·rw[z,ha]at e
    cases e;cases (show Data.seq vs.toArray _=Data.dict D E from d)
   ·rw[(B b z).1]at e
    cases e;cases (show Data.fields #[]=Data.dict D E from d)
  have l:∀ {b:JI}{m:Str->Option Jo},f.heap.Ns b m->(sy f.heap H).Ns b m:=λ{b m} ⟨o,D,E,e,d,r⟩=>⟨o,D,E,g e (X e d),d,r⟩
  have N:K.In (sy f.heap H):=λb o e=>g (W b o e) (by
   rcases R b with z|⟨z,y⟩|⟨z,_⟩
   ·exact z
   ·obtain⟨o',S,q⟩:=y
    rw[z]at e q;rw[hK (by rw[q];simp)]at e;cases e
   ·rw[(B b z).2.1]at e;cases e)
  have hM:Mod K mg (sy f.heap H):=⟨N,l J,⟨mb,l hb,ab⟩,let ⟨mc,h1,h2⟩:=Q;⟨mc,l h1,h2⟩⟩;have e0:Env0 P w K mg (sy f.heap H) callerA [] f H:=⟨rfl,hM,λb o e=>bU e,Nat.le_of_eq (iL _ _),trivial,λb hb=>absurd (show b∈([]:List JI) from hb) (by simp),M,.of_eq hg⟩
  have hB:∀ p∈ts,(sy f.heap H).BuiltinsAt mg p:=λp C=>by
   obtain⟨bm,ob,b1,b2,I,b4,b5,t⟩:=Z;refine⟨bm,ob,b1,b2,λz=>?_,λz=>?_,g I ?_,b4,b5,t⟩
   ·obtain⟨og,D,E,e,d,_⟩:=J
    rw[<- z,I]at e;rw[<- Jj e,t]at d;cases d
   ·have e:=(B p C).1
    rw[<- z,I]at e;rw[Jj e]at t;cases t
   ·rcases R bm with z|⟨z,_⟩|⟨z,_⟩
    ·exact z
    ·rw[z,ha]at I
     rw[<- Jj I]at t;cases t
    ·rw[(B bm z).1]at I
     rw[<- Jj I]at t;cases t
  refine ZE ((F _ N (l J) hB).run callerA [] f H ⟨[.ref a],[]⟩ [.ref a] [.ref a] _ _ hr e0 (L f (.ref a)) (.cons rfl .nil) (Y H hS hT)) λr i h=>?_
  cases r with
  | error e=>exact(aE H e i h).elim
  | ok fl =>
   cases fl with
   | next=>exact False.elim h
   | brk=>exact False.elim h
   | cont=>exact False.elim h
   | ret u =>
    obtain⟨v,H',os,bare,un,A,r',q⟩:=h;have q':v=.bl true:=q;subst q';obtain rfl:u=Value.bool true:=r'
    have kept:∀ b o,f.heap.get? b=some o->b∉ts->i.heap.get? b=some o:=λb o e nb=>by
     rcases R b with z|⟨_,ob,S,z⟩|⟨z,_⟩
     ·exact un.keep b o e z (λy=>absurd (show b∈([]:List JI) from y) (by simp)) (by simp)
     ·have z2:=un.frzs b ob _ z
      obtain⟨e1,_⟩:=M b _ z;obtain⟨e2,_⟩:=A b _ z2;rw[e]at e1;cases e1;exact e2
     ·exact absurd z nb
    have tabs:∀ b∈ts,∃ more,i.heap.get? b=some (PySem.W.tabObj (#[]++more)):=λb hb=>by
     obtain⟨more,z⟩:=un.tbls b _ (hT b hb);exact⟨more,A b _ z⟩
    refine⟨rfl,⟨λb o e=>?_,λb o e=>un.there b o e (by simp)⟩,os,bare⟩;by_cases hb:b∈ts
    ·obtain⟨t1,_,c,t3⟩:=B b hb
     rw[t1]at e;cases e;obtain⟨o2,ws,_,_,_,_,_,_,_,g1,g2,g3,g4,_⟩:=PySem.W.codeHd_of_K W t3;obtain⟨more,z⟩:=tabs b hb;exact .inr (.inl ⟨⟨c,o2,ws,g1,g2,g3,g4⟩,rfl,#[],more,rfl,z⟩)
    ·exact .inl (kept b o e hb)
 have tab:∀ {H:Hp}{p:JI},p∈ts->ObjOk P w H f.heap p (.tbl #[]):=λC=>(B _ C).1
 cases T:K.lookup a with
 | some o =>
  have e:=W a o T;rw[ha]at e;cases e;refine core (λb=>if b∈ts then some (.tbl #[]) else none) (λb=>?_) (λp C=>Jq C) (.inr ⟨_,vs.toArray,_,T,rfl,rfl,rfl,by rw[Jf,O];exact hl,by simpa using rv⟩) (λb u z=>?_) λz=>absurd (Jg aT) z
  ·by_cases hb:b∈ts
   ·exact .inr (.inr ⟨hb,Jq hb⟩)
   ·exact .inl (Jg hb)
  ·by_cases hb:b∈ts
   ·have j:=(Jq hb).symm.trans z
    cases j;exact tab hb
   ·have j:=(Jg hb).symm.trans z
    cases j
 | none =>
  refine core (λb=>if b∈ts then some (.tbl #[]) else if b=a then some (.frz { cls:=.type "list",data:=.seq vs.toArray } (.lst (ns.map V.int))) else none) (λb=>?_) (λp C=>Jq C) (.inl (.inr ⟨{ cls:=.type "list",data:=.seq vs.toArray },(Jg aT).trans (Jq rfl)⟩)) (λb u z=>?_) λ_=>T
  ·by_cases hb:b∈ts
   ·exact .inr (.inr ⟨hb,Jq hb⟩)
   ·by_cases G:b=a
    ·exact .inr (.inl ⟨G,_,_,(Jg hb).trans (Jq G)⟩)
    ·exact .inl ((Jg hb).trans (Jg G))
  ·by_cases hb:b∈ts
   ·have j:=(Jq hb).symm.trans z
    cases j;exact tab hb
   ·by_cases G:b=a
    ·have j:=((Jg hb).trans (Jq G)).symm.trans z
     cases j;subst G;exact⟨ha,by rw[Jc];exact hl,vs,_,rv,ha⟩
    ·have j:=((Jg hb).trans (Jg G)).symm.trans z
     cases j
theorem i6 {l:PySem.W.OpenLaw}{n k:Nat}{q:Yo}{loose:List Str}{R:(Str->Option Jo)->YP->Prop}{B:YI->YP->Prop}{d:DefRec}{K:Params->Jl}{CX:CXT}{sp:Jl->Sp}{x:Str}(ts:List JI)(J:l.most=some n)(r:n<=sizeLine)(y:d.params.defaults=[])(I:Room k callerA)(N:∀ (w:YI) (h:YP),B w h->(K w.params).In h/\∀ p∈ts,h.get? p=some (PySem.W.tabObj #[]))(F:∀ (w:YI) (mg:Str->Option Jo) (i:JI) (h:YP),(K w.params).In h->h.Ns mainGlobals mg->mg d.name=some (.ref i)->(∀ p∈ts,(K w.params).lookup p=none/\∃ c,PySem.W.codeHdIn (K w.params) c p=true) /\
   ∃ fd:Yl,(∀ (s:JO) (u:Jo),BindsTo s fd ⟨[u],[]⟩ [(x,u)]) /\
    ∀ base:YP,(K w.params).In base->base.Ns mainGlobals mg->(∀ p∈ts,base.BuiltinsAt mg p)->FnOk l.prog w (K w.params) mg base CX k i fd [x] (sp (K w.params)))(m:∀ (K:Jl) (H:Hp) (a:JI) (ns:List Int),ns.length<=n->SqL K H a (ns.map V.int)->(∀ p∈ts,H p=some (.tbl #[]))->sp K [.ref a] H (λv _=>v=.bl true) λ_ _ _=>False)(z:∀ (H:Hp) (s:JO) (e:Jo) (s':JO),CX [] H s (λ_ _ _=>False) e s'->False) :
  PySem.W.WalkO q loose R B l.row.toRowW d [] (λf vs=>PySem.call f vs):=by
 refine Att.attach_call J y λw D b mg T i o pm cd doc a vs ns G Y U W S t g hints hlen L=>?_;obtain⟨C,E⟩:=N w _ Y;obtain⟨A,fd,M,Q⟩:=F w mg i _ C G.T.g t;exact iG ts C G.T.g G.T.b G.T.builtins G.T.nolimit L g hints (JQ hlen r) I (λp j=>⟨E p j,(A p j).1,(A p j).2⟩) G.T.bmain Q M (λH P O=>m (K w.params) H a ns hlen P O) λH e s'=>z H b e s'
structure FunC (K:Jl) (x qual:Str) (st:Stmt) (f:JI) (fd:Yl) (c:JI):Prop where
 ex:∃ (oc:Jo) (od:Option JI) (kV doc pm:Jo) (an:Option JI) (ct:Jo) (osl:Array (Option Jo)),
  fd=PySem.W.fnOf x qual (xi st) (y9 st) (zR st) .none kV doc pm an (.ref c) ct/\K.lookup f=some ⟨oc,od,.func fd,osl⟩/\PySem.W.codeIn K (.ref c) qual=true
 kp:PySem.W.keepIn K (.ref f)=true
end L2
namespace L2
open PySem PySem.Spec PyProof.Rows Own Bn
def rR (N:Nt)(ts:List Int)(lane:Nat):List Int:=(yH false N.forks ts lane N.forks.length).1
def x6 (N:Nt)(ts:List Int)(lane:Nat):Nat:=N.ends.idxOf (yH false N.forks ts lane N.forks.length).2
theorem jZ (N:Nt)(ts:List Int)(lane:Nat):(rR N ts lane).length=ts.length:=uS _
theorem mU {N:Nt}{ts:List Int}{lane:Nat}(h:Bits ts):Bits (rR N ts lane):=vW h _
def TabQ (q:Str)(Pt:JI)(H:Hp):Prop:=∃ l,H Pt=some (.tbl (triples l).toArray)/\TabOk H q l
theorem TabQ.keep {q:Str}{Pt:JI}{H H':Hp}(t:TabQ q Pt H)(k:∀ b o,H b=some o->(∃ ps,o=.tbl ps)\/(∃ u v,o=.frz u v)->H' b=some o):TabQ q Pt H':=by
 obtain⟨l,c,a⟩:=t;exact⟨l,k _ _ c (.inl ⟨_,rfl⟩),a.frz λb o u e=>k _ _ e (.inr ⟨_,_,rfl⟩)⟩
theorem TabQ.same {q:Str}{Pt:JI}{H H':Hp}(t:TabQ q Pt H)(s:Same H H'):TabQ q Pt H':=t.keep λb o e _=>s b o e
theorem TabQ.but {q:Str}{Pt l:JI}{H H':Hp}{xs:List V}(t:TabQ q Pt H)(b:But l H H')(h:H l=some (.lst xs)):TabQ q Pt H':=t.keep λc o e z=>b c o e λy=>by
 rw[y,h]at e;cases e;rcases z with ⟨_,z⟩|⟨_,_,z⟩<;>cases z
def tQ:Sp:=λb H Q _=>∃ r fr d c N,b=[.ref r]/\Nt.Ok N/\NetAt H r fr d c N/\∀ p a,Same H a->a p=some (.tup ((List.replicate N.forks.length (0:Int)).map V.int))->Q (.ref p) a
structure Whole (Ok:KN->Prop) (most:Nat) (ls:List LvL):Prop where
 ok:∀ lv∈ls,∀ p∈lv,Ok p.1
 few:(ls.map List.length).sum<=most
theorem uh {step:KN->Nat->Option KN}{Ok:KN->Prop}{moves:List Nat}{most:Nat}(hs:∀ s m t,Ok s->m∈moves->step s m=some t->Ok t):∀ (m:Nat) (level seen:LvL) (ls a:List LvL),Whole Ok most ls->(ls.map List.length).sum=seen.length->seen.length<=most->(∀ p∈level,Ok p.1)->ye step moves most m level seen ls=.whl a->Whole Ok most a
 | 0,_,_,_,_,_,_,_,_,e=>by cases e
 | m+1,level,seen,ls,a,d,g,le,lo,e=>by
  by_cases c:level=[]
  ·subst c;rw[wJ]at e;cases e;exact d
  by_cases h:most<seen.length+level.length
  ·rw[vH c h]at e;cases e
  by_cases f:(yg step (seen++level) moves level).fl=[]
  ·rw[wt c h f]at e
   have e2:((ls++[level]).map List.length).sum=(seen++level).length:=by rw[JG,List.sum_append,g,Jb];rfl
   refine uh hs m _ (seen++level) _ a ⟨λlv i p b=>?_,?_⟩ e2 (by rw[Jb];simp_all) (λp b=>?_) e
   ·rcases Jr.mp i with z|z
    ·exact d.ok lv z p b
    ·rw[Ja.mp z]at b;exact lo p b
   ·rw[e2,Jb];simp_all
   ·exact(uB (step:=step) (seen:=seen++level) (moves:=moves) (Ok:=Ok) level λp b k j t e=>hs _ _ _ (lo p b) j e).ok p b
  ·rw[vI c h f]at e;cases e
theorem TellR.kept {P:Yo}{w:YI}{H H':Hp}{p:JI}{R:LRes}(h:TellR P w H p R)(k:∀ b o,H b=some o->(∀ q,o≠FZ q)->H' b=some o):TellR P w H' p R:=by
 have t:Tups H H':=λb f e=>k b _ e λq z=>by cases z
 cases R with
 | opn=>exact t _ _ h
 | brk c=>obtain⟨b,d,a⟩:=h;exact⟨b,t _ _ d,t _ _ a⟩
 | whl ls =>
  obtain⟨l,as,d,a,g⟩:=h;refine⟨l,as,t _ _ d,k _ _ a (λq z=>by cases z),?_⟩;clear d a
  induction g with
  | nil=>exact .nil
  | cons q _ ih =>
   obtain⟨f,e,le⟩:=q;exact .cons ⟨f,k _ _ e (λq z=>by cases z),le.tups t⟩ ih
theorem nX {cs:List (Str × JI)}{H:Hp}(fz:CellsFz cs H):∀ b o,H b=some o->(∀ q,o≠FZ q)->yY cs H b=some o:=λb o e n=>by
 rw[yO];· exact e
 ·intro a
  obtain⟨q,z⟩:=fz b a;rw[e]at z;exact n q (Jj z)
theorem qC:∀ x:List Int,yj x x=.eq
 | []=>rfl
 | a::x=>by show (compare a a).then (yj x x)=.eq;rw[Zp.mpr rfl,qC x];rfl
theorem qB:∀ x y:List Int,yj y x=(yj x y).swap
 | [],[]=>rfl
 | [],_::_=>rfl
 | _::_,[]=>rfl
 | a::x,b::y=>by
  show (compare b a).then (yj y x)=((compare a b).then (yj x y)).swap;rw[qB x y];rcases Zq a b with h|h|h
  ·rw[Z2.mpr h,YR.mpr h];rfl
  ·subst h
   rw[Zp.mpr (rfl:a=a)];rfl
  ·rw[YR.mpr h,Z2.mpr h];rfl
def leR (x y:List Int):Prop:=yj x y≠.gt
theorem wj (x:List Int):leR x x:=by unfold leR;rw[qC];exact λh=>by cases h
theorem xB:∀ {x y z:List Int},leR x y->leR y z->leR x z
 | [],[],[],_,_=>λh=>by cases h
 | [],_,_::_,_,_=>λh=>by cases h
 | [],_::_,[],_,h=>absurd rfl h
 | _::_,[],_,h,_=>absurd rfl h
 | _::_,_::_,[],_,h=>absurd rfl h
 | a::x,b::y,c::z,h1,f=>by
  have e:(compare a b).then (yj x y)≠.gt:=h1;have d:(compare b c).then (yj y z)≠.gt:=f;show (compare a c).then (yj x z)≠.gt;rcases Zq a b with p|p|p
  ·rcases Zq b c with q|q|q
   ·rw[Z2.mpr (show a<c by lia)];exact λh=>by cases h
   ·rw[Z2.mpr (show a<c by simp_all)];exact λh=>by cases h
   ·rw[YR.mpr q]at d;exact absurd rfl d
  ·subst p
   rw[Zp.mpr (rfl:a=a)]at e;rcases Zq a c with q|q|q
   ·rw[Z2.mpr q];exact λh=>by cases h
   ·subst q
    rw[Zp.mpr (rfl:a=a)]at d ⊢;exact xB (x:=x) (y:=y) (z:=z) e d
   ·rw[YR.mpr q]at d;exact absurd rfl d
  ·rw[YR.mpr p]at e;exact absurd rfl e
theorem qz (x y:List Int):leR (xR x y) x/\leR (xR x y) y:=by
 unfold xR;by_cases h:yj y x=.lt
 ·rw[Jq h];exact⟨(by unfold leR;rw[h];exact λz=>by cases z),wj y⟩
 ·rw[Jg h]
  refine⟨wj x,λz=>h ?_⟩;rw[qB x y,z];rfl
theorem eW:∀ {l:List (List Int)},l≠[]->j6 l∈l
 | [],h=>absurd rfl h
 | x::r,_=>by
  have key:∀ (r:List (List Int)) (x:List Int),r.foldl xR x∈x::r:=by
   intro r
   induction r with
   | nil=>intro x;exact .head _
   | cons y r ih =>
    intro x;show r.foldl xR (xR x y)∈x::y::r;rcases Jp.mp (ih (xR x y)) with z|z
    ·rw[z]
     rcases qy x y with e|e
     ·rw[e];exact .head _
     ·rw[e];exact .tail _ (.head _)
    ·exact .tail _ (.tail _ z)
  exact key r x
theorem bZ:∀ {l:List (List Int)}{x:List Int},x∈l->leR (j6 l) x
 | [],x,h=>by cases h
 | a::r,x,h=>by
  have key:∀ (r:List (List Int)) (a:List Int),leR (r.foldl xR a) a/\∀ x∈r,leR (r.foldl xR a) x:=by
   intro r
   induction r with
   | nil=>intro a;exact⟨wj a,λx b=>(nomatch b)⟩
   | cons y r ih =>
    intro a;obtain⟨c,f⟩:=ih (xR a y);obtain⟨e,d⟩:=qz a y;refine⟨xB c e,λx b=>?_⟩;rcases Jp.mp b with rfl|z
    ·exact xB c d
    ·exact f x z
  rcases Jp.mp h with rfl|z
  ·exact(key r _).1
  ·exact(key r a).2 x z
theorem qu:∀ {c d:List Int}{m:Nat},c.length=d.length->leR c d->leR (yT c m) (yT d m)
 | [],[],m,_,h=>by unfold yT yB;exact h
 | a::c,b::d,0,_,h=>by
  have h':(compare a b).then (yj c d)≠.gt:=h;show (compare (a+1) (b+1)).then (yj c d)≠.gt
  have e:compare (a+1) (b+1)=compare a b:=by
   rcases Zq a b with p|p|p
   ·rw[Z2.mpr p,Z2.mpr (by simp_all)]
   ·subst p;rw[Zp.mpr (rfl:a=a),Zp.mpr rfl]
   ·rw[YR.mpr p,YR.mpr (by simp_all)]
  rw[e];exact h'
 | a::c,b::d,m+1,l,h=>by
  have h':(compare a b).then (yj c d)≠.gt:=h;show (compare a b).then (yj (yT c m) (yT d m))≠.gt
  cases z:compare a b with
  | lt=>exact λh=>by cases h
  | gt=>rw[z]at h';exact absurd rfl h'
  | eq=>rw[z]at h';exact qu (c:=c) (d:=d) (by simpa using l) h'
theorem vQ (ps:LvL)(k:KN)(r:List Int):zt (vM ps k r) k=some r:=by
 unfold vM;split
 ·rename_i h
  have key:∀ ps:LvL,(zt ps k).isSome=true->zt (ps.map λx=>if x.1=k then (x.1,r) else x) k=some r:=by
   intro ps
   induction ps with
   | nil=>intro h;cases h
   | cons p ps ih =>
    intro h;unfold zt at ih h ⊢;rw[JU,Yz];rw[Yz]at h;by_cases z:p.1=k
    ·rw[Jq z]
     show (match decide (p.1=k) with|true=>some (p.1,r)|false=>_).map _=_;rw[JC z];rfl
    ·rw[Jg z,Jt z]
     rw[Jt z]at h;exact ih h
  exact key ps h
 ·rename_i h
  have e:zt ps k=none:=by
   cases g:zt ps k with
   | none=>rfl
   | some x=>rw[g]at h;exact absurd rfl h
  unfold zt at e ⊢;rw[Option.map_eq_none_iff]at e;rw[List.find?_append,e];show Option.map _ ((none:Option (KN × List Int)).or (List.find? _ [(k,r)]))=_;rw[Yz];show Option.map _ ((none:Option (KN × List Int)).or (match decide (k=k) with|true=>some (k,r)|false=>_))=_;rw[JC rfl];rfl
theorem o7 {k j:KN}(r:List Int)(h:j≠k):∀ ps:LvL,zt (ps.map λx=>if x.1=k then (x.1,r) else x) j=zt ps j:=by
 intro ps
 induction ps with
 | nil=>rfl
 | cons p ps ih =>
  unfold zt at ih ⊢;rw[JU,Yz,Yz];by_cases z:p.1=k
  ·rw[Jq z]
   have n:¬ p.1=j:=λy=>h (y.symm.trans z);show (match decide (p.1=j) with|true=>_|false=>_:Option (KN × List Int)).map _=_;rw[Jt n];exact ih
  ·rw[Jg z]
   by_cases y:p.1=j
   ·rw[JC y]
   ·rw[Jt y];exact ih
theorem ud (ps:LvL){k j:KN}(r:List Int)(h:j≠k):zt (vM ps k r) j=zt ps j:=by
 unfold vM;split
 ·exact o7 r h ps
 ·unfold zt
  rw[List.find?_append]
  cases e:List.find? (λx=>decide (x.1=j)) ps with
  | some x=>rfl
  | none =>
   show Option.map _ ((none:Option (KN × List Int)).or (List.find? _ [(k,r)]))=_;rw[Yz];show Option.map _ ((none:Option (KN × List Int)).or (match decide (k=j) with|true=>some (k,r)|false=>_))=_;rw[Jt (λz=>h z.symm)];rfl
abbrev Tri:=KN × List Int × Nat
structure Met (step:KN->Nat->Option KN) (seen:LvL) (T:List Tri) (a:LAcc):Prop where
 on:∀ t c,zt a.on t=some c->∃ x∈T,step x.1 x.2.2=some t/\c=yT x.2.1 x.2.2
 has:∀ x∈T,∀ t,step x.1 x.2.2=some t->zt seen t=none->∃ c,zt a.on t=some c/\leR c (yT x.2.1 x.2.2)
 fl1:∀ r∈a.fl,∃ x∈T,step x.1 x.2.2=none/\r=yT x.2.1 x.2.2
 fl2:∀ x∈T,step x.1 x.2.2=none->yT x.2.1 x.2.2∈a.fl
theorem o0 {α:Type}{o:Option α}(h:¬ o.isSome=true):o=none:=by
 cases o with
 | none=>rfl
 | some x=>exact absurd rfl h
section
variable {step:KN->Nat->Option KN}{seen:LvL}
theorem Met.go {T:List Tri}{a:LAcc}(h:Met step seen T a)(s:KN)(c:List Int)(m:Nat):Met step seen (T++[(s,c,m)]) (go1 step seen s c a m):=by
 have last:∀ {p:Tri->Prop}{x:Tri},x∈T++[(s,c,m)]->(x∈T->p x)->p (s,c,m)->p x:=λb F E=>by
  rcases Jr.mp b with z|z
  ·exact F z
  ·rw[Ja.mp z];exact E
 have d:∀ {x:Tri},x∈T->x∈T++[(s,c,m)]:=λz=>Y6 _ z;have l:((s,c,m):Tri)∈T++[(s,c,m)]:=Jv _ (Ja.mpr rfl);unfold go1
 cases e:step s m with
 | none =>
  refine⟨λt j g=>?_,λx b t f sn=>?_,λr n=>?_,λx b ex=>?_⟩
  ·obtain⟨x,b,q⟩:=h.on t j g;exact⟨x,d b,q⟩
  ·refine last (p:=λx=>step x.1 x.2.2=some t->∃ j,zt a.on t=some j/\leR j (yT x.2.1 x.2.2)) b (λz f=>h.has x z t f sn) (λf=>?_) f
   have i:step s m=some t:=f;rw[e]at i;cases i
  ·rcases Jr.mp n with z|z
   ·obtain⟨x,b,q⟩:=h.fl1 r z;exact⟨x,d b,q⟩
   ·exact⟨_,l,e,Ja.mp z⟩
  ·exact last (p:=λx=>step x.1 x.2.2=none->yT x.2.1 x.2.2∈a.fl++[yT c m]) b (λz ex=>Y6 _ (h.fl2 x z ex)) (λ_=>Jv _ (Ja.mpr rfl)) ex
 | some u =>
  dsimp only;by_cases o:(zt seen u).isSome=true
  ·rw[Jq o]
   refine⟨λt j g=>?_,λx b t f sn=>?_,λr n=>?_,λx b ex=>?_⟩
   ·obtain⟨x,b,q⟩:=h.on t j g;exact⟨x,d b,q⟩
   ·refine last (p:=λx=>step x.1 x.2.2=some t->∃ j,zt a.on t=some j/\leR j (yT x.2.1 x.2.2)) b (λz f=>h.has x z t f sn) (λf=>?_) f
    have i:step s m=some t:=f;rw[e]at i;cases i;rw[sn]at o;cases o
   ·obtain⟨x,b,q⟩:=h.fl1 r n;exact⟨x,d b,q⟩
   ·refine last (p:=λx=>step x.1 x.2.2=none->yT x.2.1 x.2.2∈a.fl) b (λz ex=>h.fl2 x z ex) (λex=>?_) ex
    have k:step s m=none:=ex;rw[e]at k;cases k
  ·rw[Jg o]
   obtain⟨C,w⟩:=qz (yT c m) ((zt a.on u).getD (yT c m));refine⟨λt j g=>?_,λx b t f sn=>?_,λr n=>?_,λx b ex=>?_⟩
   ·by_cases tt:t=u
    ·subst tt
     rw[vQ]at g;cases g;rcases qy (yT c m) ((zt a.on t).getD (yT c m)) with q|q
     ·exact⟨_,l,e,q⟩
     ·cases v:zt a.on t with
      | none=>rw[v]at q;exact⟨_,l,e,by rw[Option.getD_none]at q ⊢;exact q⟩
      | some y =>
       rw[v]at q;obtain⟨x,b,B,A⟩:=h.on t y v;exact⟨x,d b,B,by rw[Z6]at q ⊢;rw[q];exact A⟩
    ·rw[ud _ _ tt]at g
     obtain⟨x,b,q⟩:=h.on t j g;exact⟨x,d b,q⟩
   ·by_cases tt:t=u
    ·subst tt
     rw[vQ];refine⟨_,rfl,?_⟩;refine last (p:=λx=>step x.1 x.2.2=some t->leR (xR (yT c m) ((zt a.on t).getD (yT c m))) (yT x.2.1 x.2.2)) b (λz f=>?_) (λ_=>C) f;obtain⟨y,G,D⟩:=h.has x z t f sn;rw[G,Z6]at w ⊢;exact xB w D
    ·rw[ud _ _ tt]
     refine last (p:=λx=>step x.1 x.2.2=some t->∃ j,zt a.on t=some j/\leR j (yT x.2.1 x.2.2)) b (λz f=>h.has x z t f sn) (λf=>?_) f;have i:step s m=some t:=f;rw[e]at i;exact absurd (Jj i).symm tt
   ·obtain⟨x,b,q⟩:=h.fl1 r n;exact⟨x,d b,q⟩
   ·refine last (p:=λx=>step x.1 x.2.2=none->yT x.2.1 x.2.2∈a.fl) b (λz ex=>h.fl2 x z ex) (λex=>?_) ex
    have k:step s m=none:=ex;rw[e]at k;cases k
theorem Met.row (s:KN)(c:List Int):∀ (ms:List Nat) {T:List Tri}{a:LAcc},Met step seen T a->Met step seen (T++ms.map λm=>(s,c,m)) (ms.foldl (go1 step seen s c) a)
 | [],T,a,h=>by rw[List.map_nil,JT];exact h
 | m::r,T,a,h=>by
  have:=Met.row s c r (h.go s c m)
  rwa [Y0]at this
def jK (moves:List Nat)(level:LvL):List Tri:=level.flatMap λp=>moves.map λm=>(p.1,p.2,m)
theorem Met.lev (moves:List Nat):∀ (level:LvL) {T:List Tri}{a:LAcc},Met step seen T a->Met step seen (T++jK moves level) (level.foldl (goS step seen moves) a)
 | [],T,a,h=>by show Met step seen (T++[]) a;rw[JT];exact h
 | p::r,T,a,h=>by
  have:=Met.lev moves r (Met.row p.1 p.2 moves h)
  rwa [Y0]at this
theorem sH (moves:List Nat)(level:LvL):Met step seen (jK moves level) (yg step seen moves level) :=
 Met.lev moves level (T:=[]) (a:=⟨[],[]⟩) ⟨λt c g=>(by cases g),λx b=>absurd b Jm,λr d=>absurd d Jm,λx b=>absurd b Jm⟩
end
theorem wC {moves:List Nat}{level:LvL}{x:Tri}:x∈jK moves level↔(x.1,x.2.1)∈level/\x.2.2∈moves:=by
 unfold jK;rw[List.mem_flatMap];constructor
 ·rintro⟨p,b,a⟩
  obtain⟨m,c,rfl⟩:=Jn.mp a;exact⟨b,c⟩
 ·rintro⟨e,d⟩
  exact⟨_,e,Jn.mpr ⟨_,d,rfl⟩⟩
def wW (step:KN->Nat->Option KN):KN->List Nat->Option KN
 | s,[]=>some s
 | s,m::r=>(step s m).bind λt=>wW step t r
def wq (c:List Int)(row:List Nat):List Int:=row.foldl yT c
theorem xJ (step:KN->Nat->Option KN):∀ (r:List Nat) (s:KN) (m:Nat),wW step s (r++[m])=(wW step s r).bind λt=>step t m
 | [],s,m=>by
  show (step s m).bind (λt=>some t)=step s m
  cases step s m<;>rfl
 | a::r,s,m=>by
  show (step s a).bind (λt=>wW step t (r++[m]))=((step s a).bind λt=>wW step t r).bind λt=>step t m
  cases step s a with
  | none=>rfl
  | some t=>exact xJ step r t m
theorem xk (c:List Int)(r:List Nat)(m:Nat):wq c (r++[m])=yT (wq c r) m:=by unfold wq;rw[YN];rfl
theorem sj (c:List Int)(r:List Nat):(wq c r).length=c.length:=by
 unfold wq
 induction r generalizing c with
 | nil=>rfl
 | cons m r ih=>show (r.foldl yT (yT c m)).length=_;rw[ih,wc]
theorem tZ {r:List Nat}{n:Nat}(h:r.length=n+1):∃ q m,r=q++[m]/\q.length=n:=by
 have ne:r≠[]:=λz=>by rw[z]at h;cases h
 refine⟨r.dropLast,r.getLast ne,(List.dropLast_concat_getLast ne).symm,?_⟩;rw[List.length_dropLast];simp_all
def Over (moves row:List Nat):Prop:=∀ m∈row,m∈moves
structure Clm (step:KN->Nat->Option KN) (moves:List Nat) (k0:KN) (c0:List Int) (n:Nat) (level seen:LvL):Prop where
 fst:(zt (seen++level) k0).isSome=true
 way:∀ t c,zt level t=some c->∃ row,row.length=n/\Over moves row/\wW step k0 row=some t/\wq c0 row=c
 all:∀ row,row.length<=n->Over moves row->∃ s,wW step k0 row=some s/\(zt (seen++level) s).isSome=true
 cls:∀ s,(zt seen s).isSome=true->∀ m∈moves,∃ t,step s m=some t/\(zt (seen++level) t).isSome=true
 new:∀ s,(zt level s).isSome=true->zt seen s=none
 lst:∀ row s c,row.length=n->Over moves row->wW step k0 row=some s->zt level s=some c->leR c (wq c0 row)
 nd:LvNd level
 num:n<=seen.length
 rch:∀ s,(zt seen s).isSome=true->∃ row,Over moves row/\wW step k0 row=some s
section
variable {step:KN->Nat->Option KN}{moves:List Nat}{k0:KN}{c0:List Int}{n:Nat}{level seen:LvL}
theorem xx:∀ {ps:LvL},LvNd ps->∀ {s:KN}{c:List Int},(s,c)∈ps->zt ps s=some c
 | [],_,s,c,h=>by cases h
 | p::ps,nd,s,c,h=>by
  unfold LvNd at nd;rw[JU,JD]at nd;unfold zt;rw[Yz];rcases Jp.mp h with z|z
  ·rw[<- z]
   show (match decide (s=s) with|true=>some (s,c)|false=>_:Option (KN × List Int)).map _=_;rw[JC rfl];rfl
  ·have n:¬ p.1=s:=λy=>nd.1 (Jn.mpr ⟨_,z,y.symm⟩)
   rw[Jt n];exact xx nd.2 z
theorem Clm.step_of (h:Clm step moves k0 c0 n level seen){row:List Nat}(e:row.length=n)(b:Over moves row):∃ s,wW step k0 row=some s/\((zt seen s).isSome=true\/∃ c,zt level s=some c):=by
 obtain⟨s,d,a⟩:=h.all row (by simp_all) b;refine⟨s,d,?_⟩;rw[xy,ZA]at a;rcases a with z|z
 ·exact .inl z
 ·exact .inr (Z9.mp z)
theorem Clm.next (h:Clm step moves k0 c0 n level seen)(ne:level≠[])(cl:∀ p∈level,p.2.length=c0.length)(fl:(yg step (seen++level) moves level).fl=[]):Clm step moves k0 c0 (n+1) (yg step (seen++level) moves level).on (seen++level):=by
 have M:=sH (step:=step) (seen:=seen++level) moves level;have W:=uB (step:=step) (seen:=seen++level) (moves:=moves) (Ok:=λ_=>True) level λ_ _ _ _ _ _=>trivial
 have f:∀ s,(zt (yg step (seen++level) moves level).on s).isSome=true->zt (seen++level) s=none:=λs a=>by
  obtain⟨r,G⟩:=wG a;exact W.new _ G
 have o:∀ s c,zt level s=some c->∀ m∈moves,∃ t,step s m=some t/\((zt (seen++level) t).isSome=true\/∃ v,zt (yg step (seen++level) moves level).on t=some v/\leR v (yT c m)):=λs c g m b=>by
  have D:((s,c,m):Tri)∈jK moves level:=wC.mpr ⟨xS g,b⟩
  cases e:step s m with
  | none =>
   have:=M.fl2 _ D e
   rw[fl]at this;cases this
  | some t =>
   refine⟨t,rfl,?_⟩;by_cases z:(zt (seen++level) t).isSome=true
   ·exact .inl z
   ·exact .inr (M.has _ D t e (o0 z))
 have lead:∀ s,(zt (seen++level) s).isSome=true->∀ m∈moves,∃ t,step s m=some t/\(zt ((seen++level)++(yg step (seen++level) moves level).on) t).isSome=true:=λs a m b=>by
  rw[xy,ZA]at a;rcases a with z|z
  ·obtain⟨t,e,q⟩:=h.cls s z m b
   exact⟨t,e,by rw[xy,q];rfl⟩
  ·obtain⟨c,g⟩:=Z9.mp z
   obtain⟨t,e,q⟩:=o s c g m b;refine⟨t,e,?_⟩;rw[xy];rcases q with q|⟨v,q,_⟩
   ·rw[q];rfl
   ·rw[q];exact Bool.or_true _
 refine⟨by rw[xy,h.fst];rfl,λt c g=>?_,λrow G j=>?_,lead,f,λrow s c P j a g=>?_,W.nd,?_,λs a=>?_⟩
 ·obtain⟨x,O,e,Q⟩:=M.on t c g
  obtain⟨J,I⟩:=wC.mp O;obtain⟨row,N,A,w,L⟩:=h.way x.1 x.2.1 (xx h.nd J);refine⟨row++[x.2.2],by rw[Jb,N];rfl,λm b=>?_,by rw[xJ,w];exact e,by rw[xk,L,Q]⟩;rcases Jr.mp b with z|z
  ·exact A m z
  ·rw[Ja.mp z];exact I
 ·rcases Nat.lt_or_ge n row.length with z|z
  ·obtain⟨q,m,rfl,B⟩:=tZ (show row.length=n+1 by lia)
   obtain⟨s,k,l⟩:=h.all q (by simp_all) λm b=>j m (Y6 _ b);obtain⟨t,e,i⟩:=lead s l m (j m (Jv _ (Ja.mpr rfl)));exact⟨t,by rw[xJ,k];exact e,i⟩
  ·obtain⟨s,k,l⟩:=h.all row z j
   exact⟨s,k,by rw[xy,l];rfl⟩
 ·obtain⟨q,m,rfl,B⟩:=tZ P
  have F:m∈moves:=j m (Jv _ (Ja.mpr rfl));have E:Over moves q:=λm b=>j m (Y6 _ b);obtain⟨t,k,l⟩:=h.step_of B E;rw[xJ,k]at a;have u:step t m=some s:=a;have sn:=f s (by rw[g];rfl);rcases l with z|⟨d,C⟩
  ·obtain⟨K,e,i⟩:=h.cls t z m F
   rw[u]at e;rw[<- Jj e,sn]at i;cases i
  ·obtain⟨K,e,i⟩:=o t d C m F
   rw[u]at e;rw[<- Jj e]at i;rcases i with y|⟨v,H,lc⟩
   ·rw[sn]at y;cases y
   ·rw[g]at H
    rw[Jj H,xk];refine xB lc (qu ?_ (h.lst q t d B E k C));rw[sj];exact cl _ (xS C)
 ·rw[Jb]
  have:=h.num;have:0<level.length:=Yp.mpr ne;lia
 ·rw[xy,ZA]at a
  rcases a with z|z
  ·exact h.rch s z
  ·obtain⟨c,g⟩:=Z9.mp z
   obtain⟨row,_,A,w,_⟩:=h.way s c g;exact⟨row,A,w⟩
structure Broke (step:KN->Nat->Option KN) (moves:List Nat) (k0:KN) (c0:List Int) (n:Nat) (c:List Int):Prop where
 ex:∃ row m,row.length=n/\Over moves (row++[m])/\wq c0 (row++[m])=c/\wW step k0 (row++[m])=none
 few:∀ row,row.length<=n->Over moves row->∃ s,wW step k0 row=some s
 lst:∀ row,row.length=n+1->Over moves row->wW step k0 row=none->leR c (wq c0 row)
theorem Clm.brk (h:Clm step moves k0 c0 n level seen)(cl:∀ p∈level,p.2.length=c0.length)(fl:(yg step (seen++level) moves level).fl≠[]):Broke step moves k0 c0 n (j6 (yg step (seen++level) moves level).fl):=by
 have M:=sH (step:=step) (seen:=seen++level) moves level;obtain⟨x,B,e,F⟩:=M.fl1 _ (eW fl);obtain⟨r,o⟩:=wC.mp B;obtain⟨row,A,y,w,v⟩:=h.way x.1 x.2.1 (xx h.nd r);refine⟨⟨row,x.2.2,A,λm f=>?_,by rw[xk,v,F],by rw[xJ,w];exact e⟩,λrow C b=>?_,λrow D b l=>?_⟩
 ·rcases Jr.mp f with z|z
  ·exact y m z
  ·rw[Ja.mp z];exact o
 ·obtain⟨s,c,_⟩:=h.all row C b
  exact⟨s,c⟩
 ·obtain⟨q,m,rfl,i⟩:=tZ D
  have k:m∈moves:=b m (Jv _ (Ja.mpr rfl));have j:Over moves q:=λm f=>b m (Y6 _ f);obtain⟨t,c,E⟩:=h.step_of i j;rw[xJ,c]at l;have a:step t m=none:=l;rcases E with z|⟨d,g⟩
  ·obtain⟨G,e,_⟩:=h.cls t z m k
   rw[a]at e;cases e
  ·have u:((t,d,m):Tri)∈jK moves level:=wC.mpr ⟨xS g,k⟩
   rw[xk];refine xB (bZ (M.fl2 _ u a)) (qu ?_ (h.lst q t d i j c g));rw[sj];exact cl _ (xS g)
end
structure Shut (step:KN->Nat->Option KN) (moves:List Nat) (k0:KN) (ks:List KN):Prop where
 fst:k0∈ks
 cls:∀ s∈ks,∀ m∈moves,∃ t∈ks,step s m=some t
def yh (ls:List LvL):List KN:=ls.flatMap λlv=>lv.map (·.1)
theorem rc (a b:List LvL):yh (a++b)=yh a++yh b:=by unfold yh;rw[List.flatMap_append]
theorem wF {ps:LvL}{s:KN}:(zt ps s).isSome=true↔s∈ps.map (·.1):=by
 constructor
 ·intro h
  obtain⟨r,a⟩:=wG h;exact Jn.mpr ⟨_,a,rfl⟩
 ·intro h
  obtain⟨p,b,rfl⟩:=Jn.mp h;exact wH b
section
variable {step:KN->Nat->Option KN}{moves:List Nat}{k0:KN}{c0:List Int}{most:Nat}
theorem nJ:∀ (m n:Nat) (level seen:LvL) (ls:List LvL),Clm step moves k0 c0 n level seen->(∀ p∈level,p.2.length=c0.length)->yh ls=seen.map (·.1)->LvNd (seen++level)->seen.length<=most ->
  match ye step moves most m level seen ls with
  | .opn=>True
  | .brk c=>∃ l,l<=most/\Broke step moves k0 c0 l c
  | .whl d=>Shut step moves k0 (yh d)/\(yh d).Nodup/\(yh d).length<=most/\∀ s∈yh d,∃ row,Over moves row/\wW step k0 row=some s
 | 0,_,_,_,_,_,_,_,_,_=>trivial
 | m+1,n,level,seen,ls,h,cl,k,nd,le=>by
  by_cases g:level=[]
  ·subst g
   rw[wJ];have e:yh ls=(seen++([]:LvL)).map (λp:KN × List Int=>p.1):=by rw[JT];exact k
   refine⟨⟨by rw[e];exact wF.mp h.fst,λs i m j=>?_⟩,by rw[e];exact nd,by rw[k,Jc];exact le,λs i=>?_⟩
   ·rw[k]at i
    obtain⟨t,q,o⟩:=h.cls s (wF.mpr i) m j;exact⟨t,by rw[e];exact wF.mp o,q⟩
   ·rw[k]at i
    exact h.rch s (wF.mpr i)
  by_cases j:most<seen.length+level.length
  ·rw[vH g j];trivial
  by_cases f:(yg step (seen++level) moves level).fl=[]
  ·rw[wt g j f]
   have na:=sI (step:=step) (seen:=seen++level) (moves:=moves) (n:=c0.length) level cl;have W:=uB (step:=step) (seen:=seen++level) (moves:=moves) (Ok:=λ_=>True) level λ_ _ _ _ _ _=>trivial;refine nJ m (n+1) _ _ _ (h.next g cl f) na.on ?_ ?_ (by rw[Jb];simp_all)
   ·rw[rc,k,JG]
    congr 1
    show level.map (λp:KN × List Int=>p.1)++[]=level.map (λp:KN × List Int=>p.1);rw[JT]
   ·unfold LvNd
    rw[JG];refine Zn.mpr ⟨nd,W.nd,λa v b u e=>?_⟩;subst e;obtain⟨p,r,rfl⟩:=Jn.mp u;have:=W.new p r;have z:=wF.mpr v;rw[this]at z;cases z
  ·rw[vI g j f]
   exact⟨n,by have:=h.num;lia,h.brk cl f⟩
theorem ii:Clm step moves k0 c0 0 [(k0,c0)] []:=by
 have b:zt [(k0,c0)] k0=some c0:=xx (show LvNd [(k0,c0)] from JD.mpr ⟨Jm,Yy⟩) (.head _)
 have only:∀ {t:KN}{c:List Int},zt [(k0,c0)] t=some c->t=k0/\c=c0:=λg=>by
  have e:=Ja.mp (xS g);injection e with j e2;exact⟨j,e2⟩
 have nil:∀ {row:List Nat},row.length<=0->row=[]:=λh=>Zg.mp (by lia);refine⟨by rw[Zz,b];rfl,λt c g=>?_,λrow d _=>?_,λs a=>(by cases a),λs _=>rfl,λrow s c i _ a g=>?_,JD.mpr ⟨Jm,Yy⟩,Je _,λs a=>(by cases a)⟩
 ·obtain⟨rfl,rfl⟩:=only g
  exact⟨[],rfl,λm f=>absurd f Jm,rfl,rfl⟩
 ·rw[nil d]
  exact⟨k0,rfl,by rw[Zz,b];rfl⟩
 ·obtain⟨_,rfl⟩:=only g
  rw[nil (Nat.le_of_eq i)];exact wj _
theorem qF:match ye step moves most (most+1) [(k0,c0)] [] [] with
  | .opn=>True
  | .brk c=>∃ b,b<=most/\Broke step moves k0 c0 b c
  | .whl a=>Shut step moves k0 (yh a)/\(yh a).Nodup/\(yh a).length<=most/\∀ s∈yh a,∃ row,Over moves row/\wW step k0 row=some s :=
 nJ (most+1) 0 _ _ _ ii (λp d=>by rw[Ja.mp d]) rfl (JD.mpr ⟨Jm,Yy⟩) (JM _)
theorem uq {α:Type}[DecidableEq α]:∀ {l ks:List α},l.Nodup->(∀ x∈l,x∈ks)->l.length<=ks.length
 | [],_,_,_=>JM _
 | a::l,ks,nd,h=>by
  rw[JD]at nd;have ha:=h a (.head _);have:=uq (l:=l) (ks:=ks.erase a) nd.2 λx b=>(List.mem_erase_of_ne λ(z:x=a)=>nd.1 (z ▸ b)).mpr (h x (.tail _ b));rw[List.length_erase_of_mem ha]at this;have:0<ks.length:=List.length_pos_of_mem ha;rw[Y5];lia
theorem tV {ks:List KN}(k:Shut step moves k0 ks)(y:ks.length<=most):∀ (m:Nat) (level seen:LvL) (ls:List LvL),(∀ p∈level,p.1∈ks)->(∀ p∈seen,p.1∈ks)->(∀ s∈yh ls,s∈ks)->LvNd (seen++level)->most+1<=m+seen.length->∃ g,ye step moves most m level seen ls=.whl g/\∀ s∈yh g,s∈ks
 | 0,level,seen,ls,h1,h,o,nd,B=>by
  have:=uq (l:=(seen++level).map (λp:KN × List Int=>p.1)) (ks:=ks) nd λx d=>by
   obtain⟨p,c,rfl⟩:=Jn.mp d;exact(Jr.mp c).elim (h p) (h1 p)
  rw[Jc,Jb]at this
  lia
 | m+1,level,seen,ls,h1,h,o,nd,B=>by
  have w:=uq (l:=(seen++level).map (λp:KN × List Int=>p.1)) (ks:=ks) nd λx d=>by
   obtain⟨p,c,rfl⟩:=Jn.mp d;exact(Jr.mp c).elim (h p) (h1 p)
  rw[Jc,Jb]at w;by_cases n:level=[]
  ·subst n
   exact⟨ls,wJ,o⟩
  have E:0<level.length:=Yp.mpr n;have M:=sH (step:=step) (seen:=seen++level) moves level;have W:=uB (step:=step) (seen:=seen++level) (moves:=moves) (Ok:=λ_=>True) level λ_ _ _ _ _ _=>trivial
  have f:(yg step (seen++level) moves level).fl=[]:=by
   cases e:(yg step (seen++level) moves level).fl with
   | nil=>rfl
   | cons r rs =>
    obtain⟨x,d,q,_⟩:=M.fl1 r (by rw[e];exact .head _);obtain⟨j,i⟩:=wC.mp d;obtain⟨t,_,e2⟩:=k.cls _ (h1 _ j) _ i;rw[q]at e2;cases e2
  rw[wt n (by lia) f];refine tV k y m _ _ _ (λp c=>?_) (λp c=>(Jr.mp c).elim (h p) (h1 p)) (λs v=>?_) ?_ (by rw[Jb];lia)
  ·obtain⟨x,d,q,_⟩:=M.on p.1 p.2 (xx W.nd c)
   obtain⟨j,i⟩:=wC.mp d;obtain⟨t,A,e2⟩:=k.cls _ (h1 _ j) _ i;rw[q]at e2;rw[Jj e2];exact A
  ·rw[rc]at v
   rcases Jr.mp v with z|z
   ·exact o s z
   ·have u:s∈level.map (λp:KN × List Int=>p.1)++[]:=z
    rw[JT]at u;obtain⟨p,c,rfl⟩:=Jn.mp u;exact h1 p c
  ·unfold LvNd
   rw[JG];refine Zn.mpr ⟨nd,W.nd,λa D b C e=>?_⟩;subst e;obtain⟨p,c,rfl⟩:=Jn.mp C;have z:=wF.mpr D;rw[W.new p c]at z;cases z
theorem Shut.fewer {a:List Nat}{ks:List KN}(b:Shut step moves k0 ks)(h:∀ m∈a,m∈moves):Shut step a k0 ks:=⟨b.fst,λs c m d=>b.cls s c m (h m d)⟩
theorem Shut.run {ks:List KN}(a:Shut step moves k0 ks):∀ (row:List Nat) {s:KN},s∈ks->Over moves row->∃ t∈ks,wW step s row=some t
 | [],s,hs,_=>⟨s,hs,rfl⟩
 | m::r,s,hs,b=>by
  obtain⟨t,f,e⟩:=a.cls s hs m (b m (.head _));obtain⟨u,d,e2⟩:=Shut.run a r f λx c=>b x (.tail _ c);exact⟨u,d,by show (step s m).bind _=_;rw[e];exact e2⟩
end
def zF (N:Nt):List Int:=List.replicate N.forks.length 0
def zL (N:Nt):List Int:=List.replicate N.lanes 0
def pU (N:Nt)(row:List Nat)(i:Nat):List Int:=(row.take i).foldl (rR N) (zF N)
theorem rG (N:Nt){row:List Nat}{i:Nat}(h:i<row.length):pU N row (i+1)=rR N (pU N row i) (row.getD i 0):=by
 unfold pU;rw[<- Y8 h,YN,J8,J2 h];rfl
theorem xD {row:List Nat}{i:Nat}(h:i<row.length):row.take (i+1)=row.take i++[row.getD i 0]:=by
 rw[<- Y8 h,J8,J2 h];rfl
section
variable {N:Nt}
theorem uI (N:Nt)(row:List Nat):(wq (zL N) row).length=N.lanes:=by rw[sj];exact Y4
theorem nU (ok:Nt.Ok N)(row:List Nat)(a:∀ m∈row,m<N.lanes):∀ i,i<=row.length->pU N row i=yn N (wq (zL N) (row.take i))
 | 0,_=>by
  rw[List.take_zero];show zF N=yn N (zL N);unfold zL
  rw[nP];rfl
 | i+1,h=>by
  have b:row.getD i 0<N.lanes:=by
   rw[J8,J2 h];exact a _ (JA h)
  rw[rG N h,nU ok row a i (by lia),xD h,xk];exact(zaN ok false (uI N _) b).1.symm
theorem iX (ok:Nt.Ok N){row:List Nat}(a:∀ m∈row,m<N.lanes){i:Nat}(h:i<row.length):zp N (wq (zL N) (row.take (i+1)))=yB (zp N (wq (zL N) (row.take i))) (x6 N (pU N row i) (row.getD i 0)) 1:=by
 have b:row.getD i 0<N.lanes:=by
  rw[J8,J2 h];exact a _ (JA h)
 rw[nU ok row a i (by lia),xD h,xk];exact(zaN ok false (uI N _) b).2.1
theorem passE_lt (ok:Nt.Ok N){row:List Nat}(a:∀ m∈row,m<N.lanes){i:Nat}(h:i<row.length):x6 N (pU N row i) (row.getD i 0)<N.lanes:=by
 have c:row.getD i 0<N.lanes:=by
  rw[J8,J2 h];exact a _ (JA h)
 have b:=(zaN ok false (uI N (row.take i)) c).2.2;unfold x6;rw[nU ok row a i (by lia)];have:=ZF (ok.en.mem_iff.mpr (Yd.mpr b));rw[ok.en.length_eq,JR]at this;exact this
theorem qA:∀ (row:List Nat) (c:List Int) (p:Nat),p<c.length->(wq c row).getD p 0=c.getD p 0+(row.count p:Nat)
 | [],c,p,h=>by show c.getD p 0=_;rw[List.count_nil];lia
 | m::r,c,p,h=>by
  show (wq (yT c m) r).getD p 0=_;rw[qA r (yT c m) p (by rw[wc];exact h),List.count_cons];unfold yT yB;by_cases z:m=p
  ·subst z
   rw[J8,List.getElem?_set_self h,Zt,Jq rfl];show c.getD m 0+1+_=_;rw[Int.natCast_add];lia
  ·rw[J8,List.getElem?_set_ne z,<- J8,Jg (by simpa using z),Nat.add_zero]
theorem cJ (N:Nt)(p:Nat):(zL N).getD p 0=0:=wu _ _
def mJ (c:List Int):List Nat:=(List.range c.length).flatMap λi=>List.replicate (c.getD i 0).toNat i
theorem tj (c:List Int)(a:Nat):(mJ c).count a=if a<c.length then (c.getD a 0).toNat else 0:=by
 unfold mJ;generalize c.length=n
 induction n with
 | zero=>rfl
 | succ n ih =>
  rw[List.range_succ,List.flatMap_append,List.count_append,ih];show _+(List.replicate (c.getD n 0).toNat n++[]).count a=_;rw[JT,List.count_replicate];by_cases z:n=a
  ·subst z
   rw[Zt,Jq rfl,Jg (Ye _),Jq (Z5 _),Nat.zero_add]
  ·have nb:(n == a)=false:=by simpa using z
   rw[nb,Jg (show ¬(false=true) by decide),Nat.add_zero];by_cases y:a<n
   ·rw[Jq y,Jq (by lia)]
   ·rw[Jg y,Jg (by lia)]
end
end L2
namespace L2
open PySem PySem.Spec PyProof.Rows Own Bn
theorem dJ {H:Hp}{g q:JI}{x y:List Int}{n:Nat}(b:H g=some (.tup (x.map V.int)))(a:H q=some (.tup (y.map V.int)))(d:x.length=n)(c:y.length=n):(∀ u∈[V.ref g,V.ref q],∀ v∈[V.ref g,V.ref q],Lx H 1 u v (uj H u v))/\∃ h,y4 (uj H) (.ref g) (.ref q)=.ref h/\H h=some (.tup ((xR x y).map V.int)) :=
 ⟨ly (fs:=[g,q]) (rs:=[x,y]) (.cons b (.cons a .nil)) λr e=>by
  rcases Jp.mp e with rfl|z
  ·exact d
  ·rw[Ja.mp z];exact c,nM (fs:=[q]) (rs:=[y]) (.cons a .nil) b⟩
end L2
namespace K44
open PySem L2 Own Bn
abbrev aq:Stmt:=top 16
theorem ke {d:JI}{H H':Hp}{P:Yo}{w:YI}{xs:KVN}(b:But d H H')(hd:H d=some (DN P w d xs)):∀ c o u,H c=some (.frz o u)->H' c=some (.frz o u):=λc o u e=>b c _ e λz=>by
 rw[z,hd]at e;cases e
theorem wB {d:JI}{H H':Hp}{P:Yo}{w:YI}{xs:KVN}(b:But d H H')(hd:H d=some (DN P w d xs)):Tups H H':=λc a e=>b c _ e λz=>by
 rw[z,hd]at e;cases e
section
variable {P:Yo}{w:YI}{K:Jl}{mg:Str->Option Jo}{base:YP}
theorem pg:FnScope ["level","seen","moves","led","onward","faults","state","counts","move","there","more"] ["level","seen","moves","led"] (zR aq):=by trivial
theorem bL {f fA:JI}{fd dA:Yl}{L:Lam}{fr cE:List Str}{lsp:LSpc}(F:Fun K "next_level" "next_level" aq f fd) (G:Mgs mg) (UA:Use P w K mg base "added" ["counts","place","many"] 2 um fA dA) (LQ:LamQ CX0 P w K mg base 4 L fr cE lsp):FnOk P w K mg base CX0 6 f fd ["level","seen","moves","led"] (ni P w K L fr lsp):=by
 refine F.ok pg (λvs H Q E h=>?_) (λc6 A outer s H vs Q E hr h=>?_)
 ·obtain⟨dl,ds,mv,f,xs,ys,level,seen,moves,cl,vals,step,Ok,n,rfl,_⟩:=h
  rfl
 obtain⟨dl,ds,mv,f,xs,ys,level,seen,moves,cl,vals,step,Ok,n,rfl,B,lvl,b3,a9,cb,W,cH,c5,k⟩:=h;refine⟨_,(@zE _ _ _ _ _ (@zV _ _ 4 _ _ _ _ pg.nd rfl (.inl rfl) kB rfl (by trivial)) (@zE _ _ _ _ _ (@zV _ _ 5 _ _ _ _ pg.nd rfl (.inl rfl) (@zr _ _ _ _ zC) rfl (by trivial)) (@zE _ _ _ _ _ (g8 (@yo _ _ _ _ _ _ _ _ JP rfl (rO (@pvb _ 0 _ _ rfl)) (@yN _ _ _ _ _ _ rfl (@zP _ _ _ _ _ (@zN _ _ 6 _ pg.nd rfl (.inl rfl) (by trivial)) (@zP _ _ _ _ _ (@zN _ _ 7 _ pg.nd rfl (.inl rfl) (by trivial)) zu rfl) rfl) rfl rfl) (@zM _ _ _ (@yo _ _ _ _ _ _ _ _ JP rfl (@wO _ _ _ _ (@pvb _ 2 _ _ rfl)) (@zN _ _ 8 _ pg.nd rfl (.inl rfl) (by trivial)) (@zE _ _ _ _ _ (@zV _ _ 9 _ _ _ _ pg.nd rfl (.inl rfl) (bF LQ hr (@pvb _ 3 _ _ rfl) fw (@zA _ _ _ _ _ (@pvb _ 6 _ _ rfl) (@zA _ _ _ _ _ (@pvb _ 8 _ _ rfl) zC rfl) rfl)) rfl (by trivial)) (@zE _ _ _ _ _ (@yV _ _ _ _ _ _ _ _ (@zq _ _ _ _ _ _ _ _ (zal hr.u3) (@pvb _ 9 _ _ rfl) (@pvb _ 1 _ _ rfl) rfl) (@zM _ _ _ oG) zx) (@zE _ _ _ _ _ (@zV _ _ 10 _ _ _ _ pg.nd rfl (.inl rfl) (@zQ _ _ _ _ _ _ _ _ _ _ _ _ UA (hr.mono (by decide)) (@zA _ _ _ _ _ (@pvb _ 7 _ _ rfl) (@zA _ _ _ _ _ (@pvb _ 8 _ _ rfl) (@zA _ _ _ _ _ zG zC rfl) rfl) rfl) rfl rfl rfl rfl) rfl (by trivial)) (@zM _ _ _ (@yV _ _ _ _ _ _ _ _ (@zq _ _ _ _ _ _ _ _ eB (@pvb _ 9 _ _ rfl) wP rfl) (@zM _ _ _ (@y7 _ _ _ _ (@wR _ _ _ _ _ _ _ _ _ _ _ _ JW Y9 Ya yd (@pvb _ 5 _ _ rfl) (@zA _ _ _ _ _ (@pvb _ 10 _ _ rfl) zC rfl) rfl rfl rfl rfl rfl) rfl)) (@zM _ _ _ (cv hr.u3 (@pvb _ 4 _ _ rfl) (@pvb _ 9 _ _ rfl) (@zc _ _ _ _ _ _ _ _ _ (lR rfl hr.units) rfl G.min rfl (@zA _ _ _ _ _ (@pvb _ 10 _ _ rfl) (@zA _ _ _ _ _ (fj hr.u3 (@pvb _ 4 _ _ rfl) (@pvb _ 9 _ _ rfl) (@pvb _ 10 _ _ rfl) ⟨rfl,rfl,rfl,rfl⟩) zC rfl) rfl) (by decide) (by decide) rfl rfl) rfl))))))) (by intro _;rfl))) (by intro _;rfl))) (@zM _ _ _ (@zW _ _ _ _ (@zj _ _ _ _ _ (@zA _ _ _ _ _ (@pvb _ 4 _ _ rfl) (@zA _ _ _ _ _ (@pvb _ 5 _ _ rfl) zC rfl) rfl))))))),?_⟩;refine λo ho=>⟨by show 0<=sizeLine;decide,λl hl=>?_⟩;have s1:=zD ho (DN P w o []);have s2:=zD (show L2.upd H o (DN P w o []) l=none from hl) (.lst []);have u2:=s1.trans s2
 have ol:o≠l:=λz=>by
  have a7:L2.upd H o (DN P w o []) l=none:=hl;rw[<- z,zH]at a7;cases a7
 have b2:H l=none:=by
  have a7:L2.upd H o (DN P w o []) l=none:=hl
  rwa [zK ol.symm]at a7
 have bR:dl≠o:=zJ B ho;have bS:dl≠l:=zJ B b2;have c1:L2.upd (L2.upd H o (DN P w o [])) l (.lst []) o=some (DN P w o []):=by rw[zK ol];exact zH
 have c2:L2.upd (L2.upd H o (DN P w o [])) l (.lst []) l=some (.lst []):=zH;refine zB ⟨dl,xs,rfl,u2 _ _ B,λob=>?_⟩
 let y:Nat->LAcc:=λi=>(level.take i).foldl (goS step seen moves) ⟨[],[]⟩
 have ll:xs.length=level.length:=lvl.len;refine lP (P:=P) (w:=w) (d:=dl) (o:=ob) (xs:=xs) (λi σ S=>(∃ v6 v7 v8 v9 v10,σ=[some (.ref dl),some (.ref ds),some (.ref mv),some (.ref f),some (.ref o),some (.ref l),v6,v7,v8,v9,v10])/\But dl H S/\S dl=some (.frz ob (DN P w dl xs))/\∃ zs fs,S o=some (DN P w o zs)/\LvE S zs (y i).on/\S l=some (.lst (fs.map V.ref))/\RowsAt S fs (y i).fl/\AccOk n (i*moves.length) (y i)) ?_ (λi σ S _ q=>q.2.2.1) ?_ ?_
 ·refine⟨⟨_,_,_,_,_,rfl⟩,λb u e ne=>?_,zH,[],[],?_,LvE.nil,?_,.nil,⟨λp hp=>(nomatch hp),λr hr=>(nomatch hr),by show 0+0<=_;simp_all⟩⟩
  ·rw[zK ne];exact u2 b u e
  ·rw[zK bR.symm];exact c1
  ·rw[zK bS.symm];exact c2
 ·rintro i p σ S T hp hT ⟨⟨v6,v7,v8,v9,v10,rfl⟩,bt,a8,zs,fs,bb,a5,bl,rws,ck⟩
  have il:i<level.length:=by rw[<- ll];exact(Jd.mp hp).1
  obtain⟨r,c,ep,kb,ec,hc⟩:=(lvl.tups (wB bt B)).at_ hp;have pin:(p.1,r)∈level:=Jw ep;obtain⟨cn,rl⟩:=cH _ pin;rw[ec];have sT:=zD hT (.tup [.ref p.2.1,.ref c]);refine⟨T,_,rfl,SqT.of zH,rfl,_,_,rfl,_,_,rfl,rfl,?_⟩;have W2:=W.keep (wB bt B) (ke bt B);refine zB ⟨mv,rfl,⟨_,(W2.mv.tups (Tups.of sT)).sq⟩,?_⟩
  have cx:y (i+1)=goS step seen moves (y i) (p.1,r):=by
   show List.foldl _ _ (level.take (i+1))=_;rw[<- Y8 il,YN,show level[i]=(p.1,r) from (Jd.mp ep).2];rfl
  generalize hA:y i=a0 at *
  let v:Nat->LAcc:=λj=>(moves.take j).foldl (go1 step seen p.1 r) a0
  have fin:v moves.length=y (i+1):=by rw[cx];show List.foldl _ _ (moves.take moves.length)=_;rw[JV];rfl
  have ml:(moves.map λm=>V.int (m:Nat)).length=moves.length:=Jc _;refine uF (K:=K) (a:=mv) (xs:=moves.map λm=>V.int (m:Nat)) (λj σ Y=>(∃ v8 v9 v10,σ=[some (.ref dl),some (.ref ds),some (.ref mv),some (.ref f),some (.ref o),some (.ref l),some (.ref p.2.1),some (.ref c),v8,v9,v10])/\But dl H Y/\Y dl=some (.frz ob (DN P w dl xs))/\∃ zs fs,Y o=some (DN P w o zs)/\LvE Y zs (v j).on/\Y l=some (.lst (fs.map V.ref))/\RowsAt Y fs (v j).fl/\AccOk n (i*moves.length+j) (v j)) ?_ (λj σ Y _ q=>(W.mv.tups (wB q.2.1 B)).sq) ?_ ?_
  ·exact⟨⟨_,_,_,rfl⟩,bt.trans (But.of sT),sT _ _ a8,zs,fs,sT _ _ bb,a5.keep sT,sT _ _ bl,rws.tups (Tups.of sT),ck⟩
  ·rintro j x σ Y hx ⟨⟨v8,v9,v10,rfl⟩,X,aT,J,R,ab,U,aE,O,C⟩
   rw[JF]at hx;obtain⟨m,em,rfl⟩:=Yx.mp hx;have jl:j<moves.length:=(Jd.mp em).1;have mm:m∈moves:=Jw em
   have a4:v (j+1)=go1 step seen p.1 r (v j) m:=by
    show List.foldl _ _ (moves.take (j+1))=_;rw[<- Y8 jl,YN,show moves[j]=m from (Jd.mp em).2];rfl
   have N:=C.go (step:=step) (seen:=seen) (s:=p.1) (k:=m) rl;rw[<- a4]at N;have t3:=wB X B;have W3:=W.keep t3 (ke X B);obtain⟨pm,cc,ct,oc,fz,tk,cT,_⟩:=W3.la.ex;have cL:=lvl.tups t3;obtain⟨r',c',b8,cP,b9,b5⟩:=cL.at_ hp;have er:r'=r:=by rw[ep]at b8;cases b8;rfl
   have c3:c'=c:=by rw[ec]at b9;cases b9;rfl
   subst er c3;have tS:=t3.trans (uu W3.la.fz)
   have c4:(v j).on.length+(v j).fl.length<=10000000:=by
    have:=C.few;have:(i+1)*moves.length<=level.length*moves.length:=Nat.mul_le_mul_right _ il;rw[Nat.add_mul,Nat.one_mul]at this;lia
   refine zaP (λG0 b7 c0=>?_);refine zz (λG1 b6=>?_);refine⟨f,rfl,⟨_,_,_,_,cT⟩,_,rfl,_,rfl,cl,vals,W3.fr,W3.la,W.ld _ _ _ m _ tS cn mm (cP.tups (uu W3.la.fz)) (λH4 s4 e4 low=>?_) λH4 b4 t s4 e4 k4 low=>?_⟩
   ·-- elsewhere
    have D:=rK s4;generalize back cl Y H4=H5 at D ⊢;have M:=X.trans (But.of (l:=dl) D);have ba:=a9.tups (wB M B);have bu:H5 ds=some (DN P w ds ys):=M _ _ b3 cb.symm;have bB:=D _ _ b5;have e1:v (j+1)=⟨(v j).on,(v j).fl++[yT r' m]⟩:=by rw[a4];unfold go1;rw[e4]
    refine b6 _ _ ?_;refine zB (zB ⟨ds,ys,rfl,⟨.inl bu,ba.ks⟩,.inr ⟨rfl,false,rfl,xX ?_⟩⟩);refine zB (zB ⟨c',r',m,1,rfl,bB,by rw[rl];exact W.lt m mm,by rw[rl];exact W.n1,λq H6 I h6=>?_⟩);have bc:=I _ _ (D _ _ aE);refine zB ⟨rfl,true,JL V.bl (JC rfl),wE ?_⟩;refine zB ⟨.inl ⟨rfl,_,SqL.of bc⟩,_,rfl,l,_,_,rfl,rfl,bc,?_,?_⟩
    ·rw[Jc,Yr O,Ju];lia
    have lq:∀ {b:JI}{u:HO},H6 b=some u->b≠l->L2.upd H6 l (.lst (R.map V.ref++[.ref q])) b=some u:=λe ne=>by rw[zK ne];exact e
    have tq:Tups H6 (L2.upd H6 l (.lst (R.map V.ref++[.ref q]))):=λb xs e=>lq e (x8 e bc (λz=>by cases z));have b0:=M.trans (But.of (l:=dl) I);refine b7 _ _ ⟨⟨_,_,_,rfl⟩,λb u e ne=>lq (b0 b u e ne) (zJ e b2),lq (I _ _ (D _ _ aT)) bS,J,R++[q],lq (I _ _ (D _ _ ab)) ol,?_,?_,?_,N⟩
    ·rw[e1];exact((U.keep D).keep I).tups tq
    ·rw[JG];exact zH
    ·rw[e1];exact Paired.snoc ((O.tups (Tups.of D)).tups ((Tups.of I).trans tq)) (tq _ _ h6)
   ·have D:=rK s4
    have k5:=k4.tups (jI (H:=Y) low);generalize back cl Y H4=H5 at D k5 ⊢;have M:=X.trans (But.of (l:=dl) D);have ba:=a9.tups (wB M B);have bu:H5 ds=some (DN P w ds ys):=M _ _ b3 cb.symm;have bB:=D _ _ b5;refine b6 _ _ ?_;refine zB (zB ⟨ds,ys,rfl,⟨.inl bu,ba.ks⟩,.inl ⟨b4,t,rfl,k5,_,rfl,?_⟩⟩);rw[rZ a9.pr t];by_cases sn:(zt seen t).isSome=true
    ·have e1:v (j+1)=v j:=by rw[a4];unfold go1;rw[e4];exact Jq sn
     rw[sn];refine wE ?_;refine c0 _ _ ?_;rw[e1];rw[e1]at N;exact⟨⟨_,_,_,rfl⟩,M,D _ _ aT,J,R,D _ _ ab,U.keep D,D _ _ aE,O.tups (Tups.of D),N⟩
    ·have e1:v (j+1)=⟨vM (v j).on t (xR (yT r' m) ((zt (v j).on t).getD (yT r' m))),(v j).fl⟩:=by rw[a4];unfold go1;rw[e4];exact Jg sn
     rw[show (zt seen t).isSome=false by simpa using sn];refine xX ?_;refine zB (zB ⟨c',r',m,1,rfl,bB,by rw[rl];exact W.lt m mm,by rw[rl];exact W.n1,λq H6 I h6=>?_⟩);have a6:=I _ _ (D _ _ ab);have Z:=(U.keep D).keep I;have k6:=k5.tups (Tups.of I);have b0:=M.trans (But.of (l:=dl) I);refine zB ⟨rfl,false,JL V.bl (Jt (λz=>by cases z)),xX ?_⟩;refine zB (zB ⟨o,rfl,⟨_,.inl a6⟩,_,rfl,_,rfl,b4,J,t,rfl,⟨.inl a6,Z.ks⟩,k6,?_⟩)
     have le:∃ g s,(vL J t).getD (.ref q)=.ref g/\(zt (v j).on t).getD (yT r' m)=s/\H6 g=some (.tup (s.map V.int))/\s.length=n:=by
      rcases ee Z.pr t with ⟨a1,a2⟩|⟨g,s,a1,a2,a3⟩
      ·exact⟨q,yT r' m,by rw[a1];rfl,by rw[a2];rfl,h6,by rw[wc];exact rl⟩
      ·exact⟨g,s,by rw[a1];rfl,by rw[a2];rfl,a3,C.on _ (xS a2)⟩
     obtain⟨g,sr,g1,g2,g3,g4⟩:=le;rw[g1];rw[g2]at e1;have cz:(yT r' m).length=n:=by rw[wc];exact rl
     obtain⟨lx,h,p1,p2⟩:=dJ h6 g3 cz g4;refine⟨_,_,1,uj H6,rfl,by decide,lx,?_⟩;rw[p1];refine zB (zB ⟨o,b4,J,t,rfl,rfl,a6,Z.ks,k6,?_,?_⟩)
     ·rw[Z.len,Ju];lia
     have tq:Tups H6 (L2.upd H6 o (DN P w o (wX J t b4 (.ref h)))):=λb xs e=>by rw[zK (x8 e a6 (λz=>by cases z))];exact e
     refine b7 _ _ ⟨⟨_,_,_,rfl⟩,λb u e ne=>?_,?_,_,R,zH,?_,?_,?_,N⟩
     ·rw[zK (zJ e ho)];exact b0 b u e ne
     ·rw[zK bR];exact I _ _ (D _ _ aT)
     ·rw[e1];exact(Z.put k6 p2).tups tq
     ·rw[zK ol.symm];exact I _ _ (D _ _ aE)
     ·rw[e1];exact(O.tups (Tups.of D)).tups ((Tups.of I).trans tq)
  ·rintro σ Y ⟨⟨v8,v9,v10,rfl⟩,X,aT,J,R,ab,U,aE,O,C⟩
   have b1:v (moves.map λm=>V.int (m:Nat)).length=y (i+1):=by rw[ml];exact fin
   rw[b1]at U O C;refine⟨⟨_,_,_,_,_,rfl⟩,X,aT,J,R,ab,U,aE,O,?_⟩;rw[ml]at C;rw[Nat.add_mul,Nat.one_mul];exact C
 ·rintro σ S ⟨⟨v6,v7,v8,v9,v10,rfl⟩,bt,a8,zs,fs,bb,a5,bl,rws,ck⟩
  have e:y xs.length=yg step seen moves level:=by show List.foldl _ _ (level.take xs.length)=_;rw[ll,JV];rfl
  rw[e]at a5 rws;refine⟨dl,ob,xs,xs,u2 _ _ B,a8,?_⟩
  have sm:Same H (L2.upd S dl (DN P w dl xs)):=λb u e=>by
   by_cases z:b=dl
   ·rw[z]at e ⊢;rw[B]at e;rw[<- e];exact zH
   ·rw[zK z];exact bt b u e z
  have tz:Tups S (L2.upd S dl (DN P w dl xs)):=λb ys e=>by rw[zK (x8 e a8 (λz=>by cases z))];exact e
  refine zB (zB ⟨by show 2<=sizeLine;decide,λq hq=>?_⟩);have I:=zD (show L2.upd S dl (DN P w dl xs) q=none from hq) (.tup [.ref o,.ref l]);refine k q o l zs fs _ (sm.trans I) ho zH (I _ _ ?_) ((a5.tups tz).keep I) (I _ _ ?_) ((rws.tups tz).tups (Tups.of I))
  ·rw[zK bR.symm];exact bb
  ·rw[zK bS.symm];exact bl
end
end K44
namespace L2
open PySem PySem.Spec PyProof.Rows Own Bn
instance memN (k:KN) (ks:List KN):Decidable (k∈ks):=decidable_of_iff (ks.any (λx=>decide (x=k))=true) (by simp)
end L2
namespace L2
open PySem PySem.Spec PyProof.Rows Own Bn
def uV (xs:List Int):Int:=(xs.min?).getD 0
def wg (xs:List Int):Int:=(xs.max?).getD 0
theorem vD {xs:List Int}{m:Int}(h:m∈xs)(l:∀ x∈xs,m<=x):uV xs=m:=by
 unfold uV;rw[List.min?_eq_some_iff.mpr ⟨h,l⟩];rfl
theorem vE {xs:List Int}{m:Int}(h:m∈xs)(l:∀ x∈xs,x<=m):wg xs=m:=by
 unfold wg;rw[List.max?_eq_some_iff.mpr ⟨h,l⟩];rfl
theorem pB {xs:List Int}(h:xs≠[]):uV xs∈xs/\∀ x∈xs,uV xs<=x:=by
 cases e:xs.min? with
 | none=>rw[List.min?_eq_none_iff]at e;exact absurd e h
 | some m =>
  obtain⟨a,b⟩:=List.min?_eq_some_iff.mp e;rw[vD a b];exact⟨a,b⟩
theorem bf {xs:List Int}(h:xs≠[]):wg xs∈xs/\∀ x∈xs,x<=wg xs:=by
 cases e:xs.max? with
 | none=>rw[List.max?_eq_none_iff]at e;exact absurd e h
 | some m =>
  obtain⟨a,b⟩:=List.max?_eq_some_iff.mp e;rw[vE a b];exact⟨a,b⟩
def wS (hs:List Int):List Int:=hs.map λh=>h-uV hs
theorem e7 (hs:List Int):(wS hs).length=hs.length:=Jc _
theorem kT {hs:List Int}(h:hs≠[]):(∀ x∈wS hs,0<=x)/\0∈wS hs:=by
 obtain⟨a,b⟩:=pB h;refine⟨λx c=>?_,Jn.mpr ⟨_,a,by lia⟩⟩;obtain⟨u,d,rfl⟩:=Jn.mp c;have:=b u d;lia
def plK (ts hs:List Int):KN:=[.inr ts,.inr hs]
theorem aM {H:Hp}{ts hs:List Int}{b:JI}(h:NKey H (plK ts hs) b):∃ t u,H b=some (.tup [.ref t,.ref u])/\H t=some (.tup (ts.map V.int))/\H u=some (.tup (hs.map V.int)):=by
 obtain⟨j,d,v,r,e,⟨t,i,c⟩,k,l,e2,⟨u,g,a⟩,f⟩:=h;subst i g f e2 e;exact⟨t,u,d,c,a⟩
theorem aS {H:Hp}{ts hs:List Int}{b t u:JI}(h1:H b=some (.tup [.ref t,.ref u]))(c:H t=some (.tup (ts.map V.int)))(a:H u=some (.tup (hs.map V.int))):NKey H (plK ts hs) b :=
 ⟨_,h1,_,_,rfl,⟨t,rfl,c⟩,_,_,rfl,⟨u,rfl,a⟩,rfl⟩
def xZ (N:Nt):KN->Nat->Option KN
 | [.inr ts,.inr hs],m=>some (plK (rR N ts m) (wS (yB hs (x6 N ts m) 1)))
 | _,_=>none
theorem uz (N:Nt)(ts hs:List Int)(m:Nat):xZ N (plK ts hs) m=some (plK (rR N ts m) (wS (yB hs (x6 N ts m) 1))):=rfl
def OkR (N:Nt)(k:KN):Prop:=∃ b a,k=plK b a/\b.length=N.forks.length/\Bits b/\a.length=N.lanes/\(∀ h∈a,0<=h)/\0∈a
theorem rT {N:Nt}(ok:Nt.Ok N):OkR N (plK (List.replicate N.forks.length 0) (List.replicate N.lanes 0)) :=
 ⟨_,_,rfl,Y4,λt a=>.inl (List.eq_of_mem_replicate a),Y4,λh b=>by rw[List.eq_of_mem_replicate b];exact Zv _,List.mem_replicate.mpr ⟨by have:=ok.l1;lia,rfl⟩⟩
theorem pW {N:Nt}(ok:Nt.Ok N){s t:KN}{m:Nat}(h:OkR N s)(e:xZ N s m=some t):OkR N t:=by
 obtain⟨a,b,rfl,f,d,c,j,i⟩:=h;rw[uz]at e;cases e;have g:=ok.l1
 have ne:yB b (x6 N a m) 1≠[]:=λz=>by
  have:=JL List.length z;rw[yD,Yh]at this;lia
 exact⟨_,_,rfl,(jZ _ _ _).trans f,mU d,by rw[e7,yD];exact c,(kT ne).1,(kT ne).2⟩
def uQ:Sp:=λb H Q _=>∃ r fr d c N,b=[.ref r]/\Nt.Ok N/\NetAt H r fr d c N/\∀ p a,Same H a->NKey a (plK (List.replicate N.forks.length 0) (List.replicate N.lanes 0)) p->Q (.ref p) a
def vm:Sp:=λe H Q _=>∃ r fr g f N b k,∃ a:Nat,e=[.ref r,.ref b,.int (a:Nat)]/\Nt.Ok N/\NetAt H r fr g f N/\NKey H k b/\OkR N k/\a<N.lanes /\
 ∀ c d t,Same H c->xZ N k a=some t->NKey c t d->Q (.ref d) c
def wD:LSpc:=λvals c H Q E=>∃ r b,∃ a:Nat,vals=[.ref r]/\c=[.ref b,.int (a:Nat)]/\vm [.ref r,.ref b,.int (a:Nat)] H Q E
theorem iB {H:Hp}{r fr er:JI}{ps:List V}{N:Nt}{moves:List Nat}(ok:Nt.Ok N)(na:NetAt H r fr er ps N)(lt:∀ m∈moves,m<N.lanes):Led wD [.ref r] (xZ N) (OkR N) moves H:=λe s b m Q t os c d _ a =>
 ⟨r,b,m,rfl,rfl,r,fr,er,ps,N,b,s,m,rfl,ok,na.tups t,d,os,lt m c,a⟩
end L2
namespace Bn
open PySem L2 Own
theorem da {n:Nat}{fs:List (Nat × Nat)}(ok:∀ f∈fs,f.1<n/\f.2<n):∀ i,i<=fs.length->∀ z∈(lay n (fs.take i)).2,z<=i
 | 0,_,z,h=>by simp[lay]at h
 | i+1,hi,z,h=>by
  have k:i<fs.length:=by lia
  have ih:=da ok i (by lia);have ln:=wl (n:=n) i fs (by lia);have d:=ok _ (JA k)
  have low:∀ c,c<n->(lay n (fs.take i)).1.getD c 0<=i:=λc l=>by
   rcases (wk ok i (by lia) c l).2.2 with w|⟨j,g,m,_,_,e⟩
   ·simp_all
   ·rw[<- e];exact ih _ (L2.x3 (by simp_all))
  rw[xw (J2 k)]at h;rcases Jr.mp h with w|w
  ·have:=ih z w;lia
  ·have a:=low _ d.1
   have b:=low _ d.2;have w:=Ja.mp w;have:big ((lay n (fs.take i)).1.getD fs[i].1 0) ((lay n (fs.take i)).1.getD fs[i].2 0)<=i:=by unfold big;split<;>assumption
   lia
def IsTop (N:Nt)(d:Nat):Prop:=(∀ z∈yq N,z<=d)/\(d:Int)∈0::yq N
theorem aY {N:Nt}(ok:N.Ok){d:Nat}(h:IsTop N d):d<=128:=by
 have:=da (n:=N.lanes) (fs:=N.forks) (λf a=>⟨(ok.fk f a).1,(ok.fk f a).2.1⟩) N.forks.length (Je _);rw[JV]at this;have b:=ok.fm;rcases Jp.mp h.2 with w|w
 ·simp_all
 ·have:=this d w;lia
theorem aX {N:Nt}(ok:N.Ok){M:Int}(h1:∀ z∈yq N,z<=M)(b:M∈0::yq N):∃ d:Nat,M=d/\IsTop N d:=by
 have p:0<=M:=by
  rcases Jp.mp b with w|w
  ·lia
  ·have:=kY (n:=N.lanes) (fs:=N.forks) (λf a=>⟨(ok.fk f a).1,(ok.fk f a).2.1⟩) N.forks.length (Je _)
   rw[JV]at this;exact this M w
 obtain⟨d,rfl⟩:=Int.eq_ofNat_of_zero_le p;exact⟨d,rfl,h1,b⟩
theorem eU {cs:List Int}{n lane d:Nat}{k v:Int}(lc:cs.length=n)(c:lane<n)(b:v=cs.getD lane 0+k*pw d):cs.take lane++[v]++cs.drop (lane+1)=more cs (yF n lane (pw d)) k:=by
 have e:cs.take lane++[v]++cs.drop (lane+1)=cs.set lane v:=by
  rw[Y0,List.set_eq_take_append_cons_drop,Jq (by simp_all)];rfl
 rw[e];refine sV (by simp[yu]) λi a=>?_;have a:i<cs.length:=by simpa using a
 rw[yC a,yz a];unfold yF;rw[yC (by simp;simp_all)];by_cases z:lane=i
 ·rw[Jq z,Jq z,b,z]
 ·rw[Jg z,Jg z]
  have:(List.replicate n (0:Int)).getD i 0=0:=by simp[show i<n by simp_all]
  rw[this];lia
end Bn
namespace Bn
open PySem L2 Own
def col (N:Nt)(d i j:Nat):Int:=((List.range N.lanes).map λa=>(zw (N.forks.take i) (yF N.lanes a (pw d))).1.getD j 0).sum
end Bn
namespace L2
open PySem PySem.Spec PyProof.Rows Own
theorem FnOk.any {P:Yo}{w:YI}{K:Jl}{mg:Str->Option Jo}{base:YP}{CX:CXT}{k:Nat}{f:JI}{fd:Yl}{ps:List Str}{sp:Nat->Sp}(M:Nat)(F:∀ m,m<=M->FnOk P w K mg base CX k f fd ps (sp m)) :
  FnOk P w K mg base CX k f fd ps (λvs H Q E=>∃ m,m<=M/\sp m vs H Q E) :=
 ⟨λvs H Q E ⟨m,a,q⟩=>(F m a).len vs H Q E q,λA outer s H args b vs Q E d e g c ⟨m,a,q⟩=>(F m a).run A outer s H args b vs Q E d e g c q⟩
end L2
namespace Bn
open PySem L2 Own
def xo:Nat->List Nat->List Fk × List Nat
 | 0,row=>([],row)
 | m+1,row=>((row.getD 0 0,row.getD (row.length / 2) 0)::((xo m (row.take (row.length / 2))).1++(xo m (row.drop (row.length / 2))).1),ya (xo m (row.take (row.length / 2))).2 (xo m (row.drop (row.length / 2))).2)
def mergeN:Nat->List Nat->List Nat->List Fk × List Nat
 | 0,a,b=>(a.zip b,a++b)
 | m+1,a,b=>((mergeN m (by2 0 a) (by2 1 b)).1++(mergeN m (by2 1 a) (by2 0 b)).1++(mergeN m (by2 0 a) (by2 1 b)).2.zip (mergeN m (by2 1 a) (by2 0 b)).2,ya (mergeN m (by2 0 a) (by2 1 b)).2 (mergeN m (by2 1 a) (by2 0 b)).2)
def xV:Nat->List Nat->List Fk × List Nat
 | 0,row=>([],row)
 | m+1,row=>((xV m (row.take (row.length / 2))).1++(xV m (row.drop (row.length / 2))).1++(mergeN m (xV m (row.take (row.length / 2))).2 (xV m (row.drop (row.length / 2))).2).1,(mergeN m (xV m (row.take (row.length / 2))).2 (xV m (row.drop (row.length / 2))).2).2)
theorem vd {m n:Nat}(h:n=2 ^ (m+1)):n / 2=2 ^ m/\n-n / 2=2 ^ m/\n / 2<=n:=by
 rw[YW]at h;lia
theorem wo {m:Nat}{row:List Nat}(h:row.length=2 ^ (m+1)):(row.take (row.length / 2)).length=2 ^ m/\(row.drop (row.length / 2)).length=2 ^ m:=by
 obtain⟨a,b,c⟩:=vd h;rw[Js,Yi];exact⟨by rw[YY c];exact a,b⟩
theorem uK {α:Type}{m:Nat}{a:List α}(h:a.length=2 ^ (m+1)):(by2 0 a).length=2 ^ m/\(by2 1 a).length=2 ^ m:=by
 rw[pJ 0 (by decide),pJ 1 (by decide),h,YW];lia
theorem ve:∀ (m:Nat) (row:List Nat),row.length=2 ^ m->(xo m row).2.length=2 ^ m/\(xo m row).1.length+1=2 ^ m
 | 0,row,h=>⟨h,rfl⟩
 | m+1,row,h=>by
  obtain⟨a,b⟩:=wo h;obtain⟨c,f⟩:=ve m _ a;obtain⟨d,e⟩:=ve m _ b;show (ya _ _).length=_/\(_::(_++_)).length+1=_;rw[xn _ _ (c.trans d.symm),Y5,Jb,c,YW];exact⟨by lia,by grind⟩
theorem xj:∀ (m:Nat) (a b:List Nat),a.length=2 ^ m->b.length=2 ^ m->(mergeN m a b).2.length=2 ^ (m+1)/\(mergeN m a b).1.length=(m+1)*2 ^ m
 | 0,a,b,ha,hb=>by
  show (a++b).length=_/\(a.zip b).length=_
  rw[Jb,Zc,ha,hb];exact⟨rfl,rfl⟩
 | m+1,a,b,ha,hb=>by
  obtain⟨j,a1⟩:=uK ha;obtain⟨i,h⟩:=uK hb;obtain⟨d,g⟩:=xj m _ _ j h;obtain⟨c,f⟩:=xj m _ _ a1 i;show (ya _ _).length=_/\(_++_++List.zip _ _).length=_;rw[xn _ _ (d.trans c.symm),Jb,Jb,Zc,d,c,g,f,Nat.min_self];have e:(m+1)*2 ^ m+(m+1)*2 ^ m=(m+1)*2 ^ (m+1):=by rw[<- Nat.two_mul,YW,Nat.mul_left_comm,Nat.mul_comm 2 (2 ^ m)]
  refine⟨by rw[YW 2 (m+1),Nat.mul_comm],?_⟩;rw[e,<- Nat.succ_mul]
def uP:Nat->Nat
 | 0=>0
 | m+1=>uP m+uP m+(m+1)*2 ^ m
theorem vk:∀ m,m<=10->uP m<=100000/\(m+1)*2 ^ m<=20000:=by decide +kernel
theorem ww:∀ (m:Nat) (row:List Nat),row.length=2 ^ m->(xV m row).2.length=2 ^ m/\(xV m row).1.length=uP m
 | 0,row,h=>⟨h,rfl⟩
 | m+1,row,h=>by
  obtain⟨a,b⟩:=wo h;obtain⟨i,g⟩:=ww m _ a;obtain⟨f,e⟩:=ww m _ b;obtain⟨d,c⟩:=xj m _ _ i f;refine⟨d,?_⟩;show (List.append (List.append _ _) _).length=uP m+uP m+(m+1)*2 ^ m;rw[List.append_eq,List.append_eq,Jb,Jb,c,g,e]
def vf (k:Nat):Nt:=⟨2 ^ k,(xo k (List.range (2 ^ k))).1,(xo k (List.range (2 ^ k))).2⟩
def wN (k:Nat):Nt:=⟨2 ^ k,(xV k (List.range (2 ^ k))).1,(xV k (List.range (2 ^ k))).2⟩
theorem i9:∀ k,k<5->(vf k).forks.length<=128/\(∀ f∈(vf k).forks,f.1<2 ^ k/\f.2<2 ^ k/\f.1≠f.2)/\(vf k).ends.Perm (List.range (2 ^ k)):=by decide +kernel
theorem jN:∀ k,k<5->(wN k).forks.length<=128/\(∀ f∈(wN k).forks,f.1<2 ^ k/\f.2<2 ^ k/\f.1≠f.2)/\(wN k).ends.Perm (List.range (2 ^ k)):=by decide +kernel
theorem vF {k:Nat}(h:k<5):1<=2 ^ k/\2 ^ k<=16:=⟨YX,YC (show 0<2 by decide) (show k<=4 by lia)⟩
theorem cR {k:Nat}(h:k<5):(vf k).Ok:=let ⟨a,b,c⟩:=i9 k h;⟨(vF h).1,(vF h).2,a,b,c⟩
theorem gJ {k:Nat}(h:k<5):(wN k).Ok:=let ⟨a,b,c⟩:=jN k h;⟨(vF h).1,(vF h).2,a,b,c⟩
end Bn
namespace L2
open PySem PySem.Spec PyProof.Rows Own
theorem kg {K:Jl}{b1 b2:Bool}{a1 a2:JI}{xs ys:List V}(w:xs.length=ys.length){g:TG}{h:TS}{D:Ends}{σ:St}{H:Hp}(a:Nat->St->Hp->Prop)(s:a 0 σ H)(n:∀ i σ H,i<=xs.length->a i σ H->SqB b1 K H a1 xs/\SqB b2 K H a2 ys)(hs:∀ i x y T σ H,xs[i]?=some x->ys[i]?=some y->H T=none->a i σ H->g (.ref T) σ (upd H T (.tup [x,y])) λc f=>h { D with nx:=a (i+1),ct:=a (i+1),bk:=D.nx } c f)(q:∀ σ H,a xs.length σ H->D.nx σ H) :
  ∃ W:Nat->Nat->St->Hp->Prop,(∃ m,W 0 m σ H)/\∀ i m σ H,W i m σ H ->
   ((Itz K b1 b2 a1 a2).stop i H/\D.nx σ H)\/((Itz K b1 b2 a1 a2).go i H/\∃ N:St->Hp->Prop,(∀ d b,N d b->∃ k,k<m/\W (i+1) k d b)/\∀ x b,(Itz K b1 b2 a1 a2).yld i H x b->g x σ b λc f=>h { D with nx:=N,ct:=N,bk:=D.nx } c f):=by
 refine⟨λi m σ H=>m=xs.length-i/\i<=xs.length/\a i σ H,⟨_,rfl,JM _,s⟩,?_⟩;rintro i m σ H ⟨rfl,o,p⟩;obtain⟨e,j⟩:=n i σ H o p;by_cases more:i<xs.length
 ·refine .inr ⟨⟨xs,ys,_,_,e,j,J2 more,J2 (by simp_all)⟩,a (i+1),λd b l=>⟨xs.length-(i+1),by lia,rfl,more,l⟩,λv b ⟨x,y,ex,t,T,r,u,e2⟩=>?_⟩
  subst u e2;exact hs i x y T σ H (ex xs e) (t ys j) r p
 ·obtain rfl:i=xs.length:=by lia
  exact .inl ⟨⟨xs,e,rfl⟩,q σ H p⟩
end L2
namespace Bn
open PySem L2 Own
def dl (lane l:Nat):Int:=if l=lane then 1 else 0
def zaL (k:Nat):Nt:=⟨2 ^ k,xG k (List.range (2 ^ k)),List.range (2 ^ k)⟩
theorem aF:∀ k,k<5->(zaL k).forks.length<=32/\∀ f∈(zaL k).forks,f.1<2 ^ k/\f.2<2 ^ k/\f.1≠f.2:=by decide +kernel
theorem fJ {k:Nat}(h:k<5):2 ^ k<=16:=by
 show 2 ^ k<=2 ^ 4;exact YC (show 0<2 by decide) (show k<=4 by lia)
theorem zaK {k:Nat}(h:k<5):(zaL k).Ok:=by
 obtain⟨a,b⟩:=aF k h;exact⟨YX,fJ h,JQ a (by decide),b,.refl _⟩
end Bn
namespace L2
open PySem PySem.Spec PyProof.Rows Own Bn
def o6:KN->List Int
 | [_,.inr hs]=>hs
 | _=>[]
def jQ (n:Nat)(p:KN × List Int):List Int:=-(wg (o6 p.1))::(n:Int)::p.2
def xY:Nat->List LvL->List (List Int)
 | _,[]=>[]
 | n,lv::ls=>lv.map (jQ n)++xY (n+1) ls
theorem uw:∀ (n:Nat) (ls:List LvL) (lv:LvL),xY n (ls++[lv])=xY n ls++lv.map (jQ (n+ls.length))
 | n,[],lv=>by show lv.map _++[]=[]++_;rw[JT,Zz];rfl
 | n,a::ls,lv=>by
  show a.map _++xY (n+1) (ls++[lv])=(a.map _++xY (n+1) ls)++_;rw[uw (n+1) ls lv,Y0,Y5];rw[show n+1+ls.length=n+(ls.length+1) by lia]
theorem uL:∀ {n:Nat}{ls:List LvL}{r:List Int},r∈xY n ls->∃ i lv p,ls[i]?=some lv/\p∈lv/\r=jQ (n+i) p
 | n,[],r,h=>by cases h
 | n,a::ls,r,h=>by
  rcases Jr.mp (show r∈a.map (jQ n)++xY (n+1) ls from h) with z|z
  ·obtain⟨p,b,e⟩:=Jn.mp z
   exact⟨0,a,p,rfl,b,e.symm⟩
  ·obtain⟨i,lv,p,f,d,c⟩:=uL z
   exact⟨i+1,lv,p,f,d,by rw[c,show n+1+i=n+(i+1) by lia]⟩
theorem uW:∀ {n:Nat}{ls:List LvL}{i:Nat}{lv:LvL}{p:KN × List Int},ls[i]?=some lv->p∈lv->jQ (n+i) p∈xY n ls
 | n,[],i,lv,p,h,_=>by cases h
 | n,a::ls,0,lv,p,h,b=>by
  cases h
  exact Jr.mpr (.inl (Jn.mpr ⟨p,b,rfl⟩))
 | n,a::ls,i+1,lv,p,h,b=>by
  have:=uW (n:=n+1) (show ls[i]?=some lv from h) b;rw[show n+1+i=n+(i+1) by lia]at this;exact Jr.mpr (.inr this)
theorem jJ (n:Nat)(ls:List LvL):(xY n ls).length=(ls.map List.length).sum:=by
 induction ls generalizing n with
 | nil=>rfl
 | cons a ls ih =>
  show (a.map _++xY (n+1) ls).length=a.length+_;rw[Jb,Jc,ih];rfl
theorem oK {α β:Type}{F:α->β->Prop}{xs:List α}{ys:List β}(h:Paired F xs ys):∀ {i:Nat}{a:α},xs[i]?=some a->∃ b,ys[i]?=some b/\F a b:=by
 induction h with
 | nil=>intro i a e;cases e
 | cons q _ ih =>
  intro i a e
  cases i with
  | zero=>cases e;exact⟨_,rfl,q⟩
  | succ i=>exact ih e
theorem zbf {α β:Type}{F:α->β->Prop}{xs:List α}{ys:List β}(h:Paired F xs ys):∀ {i:Nat}{b:β},ys[i]?=some b->∃ a,xs[i]?=some a/\F a b:=by
 induction h with
 | nil=>intro i a e;cases e
 | cons q _ ih =>
  intro i a e
  cases i with
  | zero=>cases e;exact⟨_,rfl,q⟩
  | succ i=>exact ih e
def TriAt (H:Hp)(b:JI)(r:List Int):Prop:=∃ i j c x,H b=some (.tup [.int i,.int j,.ref c])/\H c=some (.tup (x.map V.int))/\r=i::j::x
def TrisAt (H:Hp)(bs:List JI)(rs:List (List Int)):Prop:=Paired (TriAt H) bs rs
theorem TrisAt.tups {H H':Hp}(t:Tups H H'){bs:List JI}{rs:List (List Int)}(h:TrisAt H bs rs):TrisAt H' bs rs:=wZ (λ_ _ ⟨i,j,c,x,d,b,a⟩=>⟨i,j,c,x,t _ _ d,t _ _ b,a⟩) h
def vq (H:Hp):V->List Int
 | .ref a=>match H a with
  | some (.tup [.int i,.int j,.ref c])=>i::j::cp H (.ref c)
  | _=>[]
 | _=>[]
theorem vp {H:Hp}{b:JI}{r:List Int}(h:TriAt H b r):vq H (.ref b)=r:=by
 obtain⟨i,j,c,x,d,a,rfl⟩:=h;simp only[vq,d];rw[vt a]
def aB (H:Hp):V->V->Ordering:=λu v=>yj (vq H u) (vq H v)
theorem zav {H:Hp}{a b:JI}{x y:List Int}(ha:TriAt H a x)(hb:TriAt H b y)(l:x.length=y.length):Lx H 2 (.ref a) (.ref b) (yj x y):=by
 obtain⟨i,j,c,r,q,p,rfl⟩:=ha;obtain⟨g,f,w,d,t,s,rfl⟩:=hb
 have e:yj (i::j::r) (g::f::d)=[compare i g,compare j f,yj r d].foldr Ordering.then .eq:=by
  show (compare i g).then ((compare j f).then (yj r d))=(compare i g).then ((compare j f).then ((yj r d).then .eq));cases yj r d<;>rfl
 rw[e];refine .row q t rfl rfl λk u v o h m n=>?_;rcases k with _|_|_|k
 ·cases h;cases m;cases n;exact .int 1 _ _
 ·cases h;cases m;cases n;exact .int 1 _ _
 ·cases h;cases m;cases n;exact kS p s (by simpa using l)
 ·simp at h
theorem aG (f:V->List Int):∀ {l:List V}{y:V},y∈l->leR (f (xH (λu v=>yj (f u) (f v)) l)) (f y)
 | [],y,h=>by cases h
 | a::r,y,h=>by
  have pick:∀ b y,leR (f (y4 (λu v=>yj (f u) (f v)) b y)) (f b)/\leR (f (y4 (λu v=>yj (f u) (f v)) b y)) (f y):=λb y=>by
   have e:f (y4 (λu v=>yj (f u) (f v)) b y)=xR (f b) (f y):=by unfold y4 xR;split<;>rfl
   rw[e];exact qz _ _
  have key:∀ (r:List V) (a:V),leR (f (r.foldl (y4 λu v=>yj (f u) (f v)) a)) (f a)/\∀ y∈r,leR (f (r.foldl (y4 λu v=>yj (f u) (f v)) a)) (f y):=λr=>by
   induction r with
   | nil=>exact λa=>⟨wj _,λy c=>nomatch c⟩
   | cons z r ih =>
    intro a;obtain⟨k,j⟩:=pick a z;obtain⟨i,m⟩:=ih (y4 (λu v=>yj (f u) (f v)) a z);refine⟨xB i k,λy c=>?_⟩;rcases Jp.mp c with rfl|d
    ·exact xB i j
    ·exact m y d
  rcases Jp.mp h with rfl|g
  ·exact(key r _).1
  ·exact(key r a).2 y g
theorem iw {H:Hp}{bs:List JI}{rs:List (List Int)}(h:TrisAt H bs rs)(ne:bs≠[]):∃ b r,xH (aB H) (bs.map V.ref)=.ref b/\TriAt H b r/\r∈rs/\∀ x∈rs,leR r x:=by
 obtain⟨b,j,e⟩:=Jn.mp (nN (aB H) (l:=bs.map V.ref) λz=>ne (List.map_eq_nil_iff.mp z));obtain⟨i,f⟩:=YD j;obtain⟨r,m,a⟩:=oK h f;refine⟨b,r,e.symm,a,Jw m,λx g=>?_⟩;obtain⟨k,n⟩:=YD g;obtain⟨c,o,d⟩:=zbf h n;have:=aG (vq H) (l:=bs.map V.ref) (Jn.mpr ⟨c,Jw o,rfl⟩);rw[show xH (λu v=>yj (vq H u) (vq H v)) (bs.map V.ref)=.ref b from e.symm,vp a,vp d]at this;exact this
theorem cQ {H:Hp}{bs:List JI}{rs:List (List Int)}{n:Nat}(h:TrisAt H bs rs)(e:∀ r∈rs,r.length=n):∀ x∈bs.map V.ref,∀ y∈bs.map V.ref,Lx H 2 x y (aB H x y):=by
 intro x l y k;obtain⟨b,bm,rfl⟩:=Jn.mp l;obtain⟨c,m,rfl⟩:=Jn.mp k;obtain⟨i,g⟩:=YD bm;obtain⟨j,f⟩:=YD m;obtain⟨r,o,a⟩:=oK h g;obtain⟨q,eq,d⟩:=oK h f;have:=zav a d ((e r (Jw o)).trans (e q (Jw eq)).symm);show Lx H 2 _ _ (yj (vq H (.ref b)) (vq H (.ref c)));rw[vp a,vp d];exact this
def vO (P:Yo)(w:YI)(l:List (JI × KVN))(G:Hp):Hp:=l.foldl (λG p=>upd G p.1 (DN P w p.1 p.2)) G
theorem ux {P:Yo}{w:YI}:∀ {l:List (JI × KVN)}{G:Hp}{b:JI},(∀ p∈l,p.1≠b)->vO P w l G b=G b
 | [],_,_,_=>rfl
 | p::l,G,b,h=>by
  show vO P w l (upd G p.1 _) b=G b;rw[ux λq a=>h q (.tail _ a),zK (Ne.symm (h p (.head _)))]
theorem pV {P:Yo}{w:YI}:∀ {l:List (JI × KVN)}{G:Hp}{p:JI × KVN},(l.map (·.1)).Nodup->p∈l->vO P w l G p.1=some (DN P w p.1 p.2)
 | q::l,G,p,nd,h=>by
  obtain⟨c,b⟩:=JD.mp nd;show vO P w l (upd G q.1 _) p.1=_;rcases Jp.mp h with rfl|a
  ·rw[ux λr d z=>c (Jn.mpr ⟨r,d,z⟩),zH]
  ·exact pV b a
def ad (P:Yo)(w:YI)(t:TE):TE:=λσ H Q=>t σ H λx a=>∃ l:List (JI × KVN),(l.map (·.1)).Nodup/\(∀ p∈l,∃ b,H p.1=some (DN P w p.1 b))/\(∀ p∈l,∃ o,a p.1=some (.frz o (DN P w p.1 p.2)))/\Q x (vO P w l a)
section
variable {X:Cx}
theorem fh {e:Expr}{t:TE}(h:PE X e t):PE X e (ad X.prog X.w t):=by
 intro pins s σ H Q I c;refine thn (h pins s σ H _ I c) λv A q=>?_;obtain⟨x,w,f,g,l,i,d,b,q⟩:=q;refine⟨x,_,?_,g,q⟩;clear q c h
 induction l generalizing w with
 | nil=>exact f
 | cons p l ih =>
  obtain⟨k,j⟩:=JD.mp i;obtain⟨o,r⟩:=b p (.head _);obtain⟨y,m⟩:=d p (.head _);refine ih _ (f.thawN r (I.meltedN m)) j (λq a=>d q (.tail _ a)) λq a=>?_;obtain⟨u,n⟩:=b q (.tail _ a);exact⟨u,(zK λz=>k (Jn.mpr ⟨q,a,z⟩)).trans n⟩
end
theorem mz {P:Yo}{w:YI}{d:JI}{o:Obj}{xs:KVN}{g:TG}{e:TE}{l:JI}{ac:List V}{σ:St}{H:Hp}{Q:List V->St->Hp->Prop}(a:Nat->List V->St->Hp->Prop)(q:a 0 ac σ H)(k:∀ i acc σ H,a i acc σ H->H l=some (.lst acc)/\H d=some (.frz o (DN P w d xs)))(hs:∀ i p acc σ H T,xs[i]?=some p->H T=none->a i acc σ H->g (.ref T) σ (upd H T (.tup [.ref p.2.1,p.2.2])) λb t=>e b t λy h=>h l=some (.lst acc)/\acc.length<sizeLine/\Nx xs.length i (a (i+1) (acc++[y]) b (upd h l (.lst (acc++[y])))))(hd:∀ acc σ H,a xs.length acc σ H->Q acc σ H):∃ W:Nat->Nat->List V->St->Hp->Prop,(∃ m,W 0 m ac σ H)/\LCW1 (Itni P w d o xs) g gD e l Q W:=by
 refine⟨λi m acc σ H=>m=xs.length-i/\i<=xs.length/\a i acc σ H,⟨_,rfl,JM _,q⟩,λi m acc σ H ⟨em,u,p⟩=>?_⟩;subst em;obtain⟨j,f⟩:=k i acc σ H p;refine⟨j,?_⟩;by_cases c:i<xs.length
 ·refine .inr ⟨⟨f,c⟩,λx v ⟨y,T,r,n,s,e2⟩=>?_⟩
  subst s e2;exact hs i y acc σ H T r n p
 ·obtain rfl:i=xs.length:=by lia
  exact .inl ⟨⟨f,rfl⟩,hd acc σ H p⟩
def za9 (K:Jl)(b:Bool):List V->Hp->VK->Prop:=λc H Q=>∃ a ns,c=[.ref a]/\SqB b K H a (List.map V.int ns)/\0<ns.length/\∀ M,M∈ns->(∀ x∈ns,x<=M)->Q (.int M) H
def TellRN (P:Yo)(w:YI)(H:Hp)(p:JI):LRes->Prop
 | .whl ls=>∃ l as,as.Nodup/\H p=some (.tup [.str "whole",.ref l])/\H l=some (.lst (as.map V.ref))/\LvsAt P w H as ls
 | R=>TellR P w H p R
theorem TellRN.kept {P:Yo}{w:YI}{H H':Hp}{p:JI}{R:LRes}(h:TellRN P w H p R)(k:∀ b o,H b=some o->(∀ q,o≠FZ q)->H' b=some o):TellRN P w H' p R:=by
 have t:Tups H H':=λb a e=>k b _ e λq z=>by cases z
 cases R with
 | opn=>exact TellR.kept (P:=P) (w:=w) (R:=.opn) h k
 | brk c=>exact TellR.kept (P:=P) (w:=w) (R:=.brk c) h k
 | whl ls =>
  obtain⟨l,as,d,g,f,i⟩:=h;refine⟨l,as,d,t _ _ g,k _ _ f (λq z=>by cases z),?_⟩;clear g f d
  induction i with
  | nil=>exact .nil
  | cons q _ ih =>
   obtain⟨a,e,le⟩:=q;exact .cons ⟨a,k _ _ e (λq z=>by cases z),le.tups t⟩ ih
def tR (P:Yo)(w:YI)(K:Jl)(L:Lam)(fr:List Str)(lsp:LSpc):Sp:=λg H Q _=>∃ e d mv f a c moves cl vals step Ok n,∃ most:Nat,g=[.ref e,.ref d,.ref mv,.ref f,.int (most:Nat)]/\NKey H a e/\H d=some (.tup (List.map V.int c))/\c.length=n/\Ok a/\Way K H mv f L fr lsp cl vals step Ok moves n/\most<=500000/\moves.length<=16/\0<most /\
 ∀ p b,Same H b->TellRN P w b p (ye step moves most (most+1) [(a,c)] [] [])->Q (.ref p) b
theorem mx {P:Yo}{w:YI}{H:Hp}{as:List JI}{ls:List LvL}{a:JI}(h:LvsAt P w H as ls)(ha:a∈as):∃ xs,H a=some (DN P w a xs):=by
 obtain⟨i,e⟩:=YD ha;obtain⟨lv,_,xs,b,_⟩:=oK h e;exact⟨xs,b⟩
theorem iD {K:Jl}{b:Bool}{a:JI}{xs:List V}{g s:TG}{h:TI}{tt:TT}{q:TE}{l:JI}{σ:St}{H:Hp}{R:Hp->Prop}(d:Nat->List V->St->Hp->Prop)(v:d 0 [] σ H)(u:∀ i acc σ H,d i acc σ H->H l=some (.lst acc)/\SqB b K H a xs)(hs:∀ i acc σ H x T,xs[i]?=some x->H T=none->d i acc σ H->g (.ref T) σ (upd H T (.tup [.int i,x])) λc p=>h c p λn o =>
   ∃ e:Nat->Nat->List V->St->Hp->Prop,(∃ k,e 0 k acc c o)/\LCW1 n s tt q l (λac j G=>Nx xs.length i (d (i+1) ac j G)) e)(hd:∀ acc σ H,d xs.length acc σ H->R H):∃ W:Nat->Nat->List V->St->Hp->Prop,(∃ m,W 0 m [] σ H) /\
   ∀ i m acc f H',W i m acc f H'->H' l=some (.lst acc)/\(((Ite K b a).stop i H'/\R H')\/((Ite K b a).go i H'/\∀ x t,(Ite K b a).yld i H' x t->g x f t λc p=>h c p λn o =>
    ∃ e:Nat->Nat->List V->St->Hp->Prop,(∃ k,e 0 k acc c o)/\LCW1 n s tt q l (λac j G=>∃ r,r<m/\W (i+1) r ac j G) e)) :=
 dZ (Q:=λ_=>R) d v u hs hd
theorem gI (ls:List LvL)(i:Nat):((ls.take i).map List.length).sum<=(ls.map List.length).sum:=by
 induction ls generalizing i with
 | nil=>rw[ZN];exact Je _
 | cons a ls ih =>
  cases i with
  | zero=>exact JM _
  | succ i=>exact Nat.add_le_add_left (ih i) _
theorem bX {α:Type}{l:List α}(nd:l.Nodup){i:Nat}{a:α}(e:l[i]?=some a):a∉l.take i:=λh=>by
 obtain⟨j,b⟩:=YD h;have c:=(Jd.mp b).1;rw[Js]at c;rw[List.getElem?_take,Jq (by lia)]at b;have:=(List.getElem?_inj (by lia) nd).mp (b.trans e.symm);lia
theorem qw {H H':Hp}{x:JI}(s:Same H H')(h:H' x=none):H x=none:=by
 cases e:H x with
 | none=>rfl
 | some o=>rw[s _ _ e]at h;cases h
theorem oH {α β:Type}{p:α->β->Prop}:∀ {as:List α},(∀ a∈as,∃ x,p a x)->∃ l:List (α × β),l.map (·.1)=as/\∀ q∈l,p q.1 q.2
 | [],_=>⟨[],rfl,λq c=>nomatch c⟩
 | a::as,h=>by
  obtain⟨x,f⟩:=h a (.head _);obtain⟨l,e,g⟩:=oH λb i=>h b (.tail _ i);refine⟨(a,x)::l,by rw[JU,e],λq c=>?_⟩;rcases Jp.mp c with rfl|d
  ·exact f
  ·exact g q d
end L2
namespace K44
open PySem L2 Own Bn
abbrev ay:Stmt:=top 15
theorem kN {H H':Hp}{x:JI}(s:Same H H')(h:H' x=none):H x=none:=by
 cases e:H x with
 | none=>rfl
 | some o=>rw[s _ _ e]at h;cases h
theorem zaw {P:Yo}{w:YI}{H:Hp}{as:List JI}{ls:List LvL}{a:JI}{ys:List V}(h:LvsAt P w H as ls)(e:H a=some (.lst ys)):a∉as:=by
 induction h with
 | nil=>exact Jm
 | cons q _ ih =>
  intro z;rcases Jp.mp z with rfl|y
  ·obtain⟨b,e2,_⟩:=q
   rw[e]at e2;cases e2
  ·exact ih y
section
variable {P:Yo}{w:YI}{K:Jl}{mg:Str->Option Jo}{base:YP}
theorem jP:FnScope ["first","counts","moves","led","most","level","levels","seen","faults"] ["first","counts","moves","led","most"] (zR ay):=by trivial
theorem mX {f fN:JI}{fd dN:Yl}{L:Lam}{fr:List Str}{lsp:LSpc}(F:Fun K "climbed" "climbed" ay f fd) (G:Mgs mg) (UN:Use P w K mg base "next_level" ["level","seen","moves","led"] 6 (ni P w K L fr lsp) fN dN):FnOk P w K mg base CX0 7 f fd ["first","counts","moves","led","most"] (tR P w K L fr lsp):=by
 refine F.ok jP (λvs H Q E h=>?_) (λc1 A outer s H vs Q E hr h=>?_)
 ·obtain⟨T,S,mv,f,I,c,moves,cl,vals,step,Ok,n,most,rfl,_⟩:=h
  rfl
 obtain⟨T,S,mv,f,I,c,moves,cl,vals,step,Ok,n,most,rfl,bu,ck,cn,b4,W,mb,b5,mp,k⟩:=h;refine⟨_,(@zE _ _ _ _ _ (@zV _ _ 5 _ _ _ _ jP.nd rfl (.inl rfl) (fi hr.u3 (@pvb _ 0 _ _ rfl) (@pvb _ 1 _ _ rfl)) rfl (by trivial)) (@zE _ _ _ _ _ (@zV _ _ 6 _ _ _ _ jP.nd rfl (.inl rfl) (@zr _ _ _ _ zC) rfl (by trivial)) (@zE _ _ _ _ _ (@zV _ _ 7 _ _ _ _ jP.nd rfl (.inl rfl) kB rfl (by trivial)) (@zE _ _ _ _ _ (@oF _ _ _ _ _ _ JP (zbV (@pvb _ 5 _ _ rfl) (λ_=>rfl)) (@zE _ _ _ _ _ (@y7 _ _ _ _ (bD hr.u3 (@pvb _ 7 _ _ rfl) (@pvb _ 5 _ _ rfl) ⟨rfl,rfl,rfl,rfl⟩) rfl) (@zE _ _ _ _ _ (@yV _ _ _ _ _ _ _ _ (@zq _ _ _ _ _ _ _ _ sF (@zc _ _ _ _ _ _ _ _ _ io rfl G.len JY (@zA _ _ _ _ _ (@pvb _ 7 _ _ rfl) zC rfl) (by decide) (by decide) rfl rfl) (@pvb _ 4 _ _ rfl) (yI _)) (@zM _ _ _ (@zW _ _ _ _ (@zj _ _ _ _ _ (@zA _ _ _ _ _ wA (@zA _ _ _ _ _ wP zC rfl) rfl)))) zx) (@zE _ _ _ _ _ (@y7 _ _ _ _ (@wR _ _ _ _ _ _ _ _ _ _ _ _ JW Y9 Ya yd (@pvb _ 6 _ _ rfl) (@zA _ _ _ _ _ (@pvb _ 5 _ _ rfl) zC rfl) rfl rfl rfl rfl rfl) rfl) (@zE _ _ _ _ _ (@yM _ _ _ _ _ _ (@zQ _ _ _ _ _ _ _ _ _ _ _ _ UN hr (@zA _ _ _ _ _ (@pvb _ 5 _ _ rfl) (@zA _ _ _ _ _ (@pvb _ 7 _ _ rfl) (@zA _ _ _ _ _ (@pvb _ 2 _ _ rfl) (@zA _ _ _ _ _ (@pvb _ 3 _ _ rfl) zC rfl) rfl) rfl) rfl) rfl rfl rfl rfl) (@yN _ _ _ _ _ _ rfl (@zP _ _ _ _ _ (@zN _ _ 5 _ jP.nd rfl (.inl rfl) (by trivial)) (@zP _ _ _ _ _ (@zN _ _ 8 _ jP.nd rfl (.inl rfl) (by trivial)) zu rfl) rfl) rfl rfl) rfl rfl rfl) (@zM _ _ _ (@yV _ _ _ _ _ _ _ _ (@gy _ _ _ (@pvb _ 8 _ _ rfl) (λ_=>rfl)) (@zM _ _ _ (@zW _ _ _ _ (@zj _ _ _ _ _ (@zA _ _ _ _ _ wA (@zA _ _ _ _ _ (@zc _ _ _ _ _ _ _ _ _ (qG rfl true hr.units) rfl G.min rfl (@zA _ _ _ _ _ (@pvb _ 8 _ _ rfl) zC rfl) (by decide) (by decide) rfl rfl) zC rfl) rfl)))) zx))))))) (@zM _ _ _ (@zW _ _ _ _ (@zj _ _ _ _ _ (@zA _ _ _ _ _ wA (@zA _ _ _ _ _ (@pvb _ 6 _ _ rfl) zC rfl) rfl)))))))),?_⟩;refine zz (λDz ct=>λdl a7=>zB (zB ⟨T,I,rfl,zH,bu.tups (Tups.of (zD a7 _)),ct _ _ ?_⟩));refine⟨by show 0<=sizeLine;decide,λd N=>λds B=>?_⟩
 have sA:Same H (L2.upd (L2.upd H dl (DN P w dl [])) dl (DN P w dl [(I,T,.ref S)])):=λb u e=>by
  rw[zK (zJ e a7),zK (zJ e a7)];exact e
 have a8:L2.upd (L2.upd H dl (DN P w dl [])) dl (DN P w dl [(I,T,.ref S)]) dl=some (DN P w dl [(I,T,.ref S)]):=zH;replace N:L2.upd (L2.upd H dl (DN P w dl [])) dl (DN P w dl [(I,T,.ref S)]) d=none:=N;replace B:L2.upd (L2.upd (L2.upd H dl (DN P w dl [])) dl (DN P w dl [(I,T,.ref S)])) d (.lst []) ds=none:=B;show uO _ _ _ _ (L2.upd (L2.upd (L2.upd (L2.upd H dl (DN P w dl [])) dl (DN P w dl [(I,T,.ref S)])) d (.lst [])) ds (DN P w ds []));generalize L2.upd (L2.upd H dl (DN P w dl [])) dl (DN P w dl [(I,T,.ref S)])=HA at *;have sB:=zD N (.lst []);have sC:=zD B (DN P w ds []);have a5:L2.upd HA d (.lst []) d=some (.lst []):=zH;have bR:=sC _ _ a5;have bS:=sC _ _ (sB _ _ a8);have bB:L2.upd (L2.upd HA d (.lst [])) ds (DN P w ds []) ds=some (DN P w ds []):=zH;have b9:d≠ds:=zJ a5 B;have b1:dl≠ds:=zJ (sB _ _ a8) B;have b8:H d=none:=kN sA N;have cH:H ds=none:=kN (sA.trans sB) B;have sX:Same H (L2.upd (L2.upd HA d (.lst [])) ds (DN P w ds [])):=(sA.trans sB).trans sC;generalize L2.upd (L2.upd HA d (.lst [])) ds (DN P w ds [])=HX at *;clear sA sB sC a5 N B a8
 refine⟨λm σ j=>∃ dl i r level seen as ls v8,σ=[some (.ref T),some (.ref S),some (.ref mv),some (.ref f),some (.int (most:Nat)),some (.ref dl),some (.ref d),some (.ref ds),v8]/\Same H j/\j dl=some (DN P w dl i)/\LvE j i level/\j ds=some (DN P w ds r)/\LvE j r seen/\dl≠ds/\j d=some (.lst (as.map V.ref))/\LvsAt P w j as ls/\ds∉as/\dl∉as/\as.Nodup /\
  as.length<=seen.length/\LvNd level/\(∀ p∈level,zt seen p.1=none)/\(∀ p∈level,Ok p.1/\p.2.length=n)/\seen.length<=most/\(seen≠[]\/level.length=1)/\level.length<=16*most+1/\most+1<=m+seen.length/\ye step moves most (most+1) [(I,c)] [] []=ye step moves most m level seen ls,⟨most+1,?_⟩,?_⟩
 ·exact⟨dl,_,[],[(I,c)],[],[],[],_,rfl,sX,bS,⟨λx hx=>by rw[Ja.mp hx];exact bu.tups (Tups.of sX),.cons ⟨rfl,S,rfl,sX _ _ ck⟩ .nil⟩,bB,LvE.nil,b1,bR,.nil,Jm,Jm,Yy,Je _,JD.mpr ⟨Jm,Yy⟩,λp v=>rfl,λp v=>by rw[Ja.mp v];exact⟨b4,cn⟩,JM _,.inr rfl,by show 1<=_;lia,Je _,rfl⟩
 clear bR bS bB sX b9 b1;rintro m σ j ⟨dl,i,r,level,seen,as,ls,v8,rfl,s2,Z,C,M,J,aE,Y,R,b2,bb,b3,c2,nd,new,a0,sm,one,cP,em,ec⟩
 have e0:(!i.isEmpty) = !level.isEmpty:=by
  have:=C.len;cases i<;>cases level<;>first|rfl|cases this
 refine zB ⟨dl,i,rfl,.inl Z,?_⟩;rw[e0];obtain⟨m,rfl⟩:∃ m',m=m'+1:=⟨m-1,by lia⟩;by_cases le:level=[]
 ·rw[le]
  refine xX ?_;refine zB ⟨by show 2<=sizeLine;decide,λp v=>?_⟩;have s3:=zD v (.tup [.str "whole",.ref d]);refine k p _ (s2.trans s3) ?_;rw[ec,le,wJ];exact⟨d,as,b3,zH,s3 _ _ Y,R.keep s3⟩
 rw[show (!level.isEmpty)=true by cases level;exact absurd rfl le;rfl];refine wE ⟨_,λcL H' hN=>⟨m,Z5 _,hN⟩,?_⟩;have l2:=C.len;have l3:=J.len;refine zz (λDy cx=>?_);refine zB ⟨ds,rfl,⟨_,.inl M⟩,_,rfl,dl,r,i,rfl,aE.symm,M,J.ks,⟨.inl Z,C.ks⟩,by rw[Ju];lia,?_,?_⟩
 ·rcases one with z|z
  ·exact .inl λy=>z (by rw[y]at l3;exact Zg.mp l3.symm)
  ·exact .inr (by rw[l2];exact z)
 rw[J.merge C nd new];have bt:d≠ds:=x8 Y M λz=>by cases z
 have a4:L2.upd j ds (DN P w ds (r++i)) ds=some (DN P w ds (r++i)):=zH;have t3:Tups j (L2.upd j ds (DN P w ds (r++i))):=λb zs e=>by rw[zK (x8 e M λz=>by cases z)];exact e
 have ba:L2.upd j ds (DN P w ds (r++i)) dl=some (DN P w dl i):=by rw[zK aE];exact Z
 have D:L2.upd j ds (DN P w ds (r++i)) d=some (.lst (as.map V.ref)):=by rw[zK bt];exact Y
 have s3:Same H (L2.upd j ds (DN P w ds (r++i))):=λb u e=>by rw[zK (zJ e cH)];exact s2 b u e
 have O:LvsAt P w (L2.upd j ds (DN P w ds (r++i))) as ls:=R.but t3 λa ha o e=>by rw[zK (λ(z:a=ds)=>b2 (z ▸ ha))];exact e
 have X:=C.tups t3;have bl:=(J.tups t3).app X;refine cx _ _ ?_;show uO _ _ _ _ (L2.upd j ds (DN P w ds (r++i)));generalize L2.upd j ds (DN P w ds (r++i))=U at *;clear M Y Z R C J t3 s2;have yl:(r++i).length=seen.length+level.length:=by rw[Jb];simp_all
 refine zB ⟨ds,_,rfl,.inl a4,_,rfl,_,_,rfl,rfl,_,rfl,uX (λz=>?_) (λz=>?_)⟩
 ·have z1:most<seen.length+level.length:=by
   have:=Yq z;rw[yl]at this;lia
  refine⟨by show 2<=sizeLine;decide,λp v=>?_⟩;have s4:=zD v (.tup [.str "open",.non]);refine k p _ (s3.trans s4) ?_;rw[ec,vH le z1];exact zH
 have z1:¬ most<seen.length+level.length:=λy=>z (JC (by rw[yl];lia));have lp:0<level.length:=Yp.mpr le;dsimp only[lX];refine zz (λDx cz=>?_);refine zB ⟨.inl ⟨rfl,_,SqL.of D⟩,_,rfl,d,_,_,rfl,rfl,D,by rw[Jc,Ju];lia,?_⟩;have cc:L2.upd U d (.lst (as.map V.ref++[.ref dl])) d=some (.lst ((as++[dl]).map V.ref)):=by rw[JG];exact zH
 have q4:∀ {b:JI}{u:HO},U b=some u->b≠d->L2.upd U d (.lst (as.map V.ref++[.ref dl])) b=some u:=λe ne=>by rw[zK ne];exact e
 have t4:Tups U (L2.upd U d (.lst (as.map V.ref++[.ref dl]))):=λb zs e=>q4 e (x8 e D λz=>by cases z);have a9:=q4 ba (x8 ba D λz=>by cases z);have a3:=q4 a4 bt.symm;have s4:Same H (L2.upd U d (.lst (as.map V.ref++[.ref dl]))):=λb u e=>q4 (s3 b u e) (zJ e b8)
 have ab:LvsAt P w (L2.upd U d (.lst (as.map V.ref++[.ref dl]))) (as++[dl]) (ls++[level]):=Paired.snoc (O.but t4 λa ha o e=>by
  by_cases y:a=d
  ·exact absurd (y ▸ ha) (zaw O D)
  ·exact q4 e y) ⟨i,a9,X.tups t4⟩
 have b6:=X.tups t4;have bc:=bl.tups t4;refine cz _ _ ?_;show uO _ _ _ _ (L2.upd U d (.lst (as.map V.ref++[.ref dl])));generalize L2.upd U d (.lst (as.map V.ref++[.ref dl]))=H4 at *;clear a4 D ba O X bl t4 s3 q4;have W4:=W.keep (Tups.of s4) λb o u e=>s4 b _ e;have nw:=uB (step:=step) (seen:=seen++level) (moves:=moves) (Ok:=Ok) level λp v m hm t e=>W.ok _ _ _ (a0 p v).1 hm e;have na:=sI (step:=step) (seen:=seen++level) (moves:=moves) (n:=n) level λp v=>(a0 p v).2;have cT:level.length*moves.length<=level.length*16:=Nat.mul_le_mul_left _ b5;refine zz (λDw cE=>?_);refine zB (zB (zB (zB ⟨dl,ds,mv,f,i,r++i,level,seen++level,moves,cl,vals,step,Ok,n,rfl,a9,b6,a3,bc,aE,W4,a0,by lia,λp o l zs fs H5 s5 ho v cb b7 a6 aT=>?_⟩)));refine⟨p,_,rfl,SqT.of v,rfl,_,_,rfl,_,_,rfl,rfl,cE _ _ ?_⟩;have fl:=Yr aT;by_cases fe:(yg step (seen++level) moves level).fl=[]
 ·have f0:fs=[]:=by rw[fe]at fl;exact Zg.mp fl
  refine zB ⟨false,.inl ⟨_,SqL.of a6,by rw[f0];rfl⟩,xX ?_⟩;refine⟨o,zs,r++i,_,seen++level,as++[dl],ls++[level],_,rfl,s4.trans s5,cb,b7,s5 _ _ a3,bc.keep s5,λz=>?_,s5 _ _ cc,ab.keep s5,?_,?_,?_,?_,nw.nd,nw.new,λp v=>⟨nw.ok p v,na.on p v⟩,by rw[Jb];simp_all,.inl ?_,?_,by rw[Jb];lia,?_⟩
  ·rw[z,a3]at ho;cases ho
  ·intro z
   rcases Jr.mp z with y|y
   ·exact b2 y
   ·exact aE (Ja.mp y).symm
  ·intro z
   rcases Jr.mp z with y|y
   ·obtain⟨zs,e⟩:=mx ab (Y6 _ y)
    rw[ho]at e;cases e
   ·rw[Ja.mp y,a9]at ho;cases ho
  ·exact Zn.mpr ⟨b3,JD.mpr ⟨Jm,Yy⟩,λa ha b hb z=>bb (by rw[<- Ja.mp hb,<- z];exact ha)⟩
  ·rw[Jb,Jb];show as.length+1<=_;lia
  ·intro y
   have:=JL List.length y;rw[Jb,Yh]at this
   simp_all
  ·have:=na.few;lia
  ·rw[ec,wt le z1 fe]
 ·have fp:0<(fs.map V.ref).length:=by
   rw[Jc,fl];exact Yp.mpr fe
  refine zB ⟨true,.inl ⟨_,SqL.of a6,?_⟩,wE ?_⟩
  ·cases fs with
   | nil=>exact absurd fp (by simp)
   | cons a b=>rfl
  obtain⟨g,g1,g2⟩:=cF aT fe;refine zB ⟨l,_,1,uj H5,rfl,SqL.of a6,fp,by decide,ly aT na.fl,?_⟩;rw[g1];refine⟨by show 2<=sizeLine;decide,λq hq=>?_⟩;have s6:=zD hq (.tup [.str "breaks",.ref g]);refine k q _ ((s4.trans s5).trans s6) ?_;rw[ec,vI le z1 fe];exact⟨g,zH,s6 _ _ g2⟩
abbrev ax:Stmt:=top 3
abbrev qd:Stmt:=top 5
abbrev ao:Stmt:=top 6
theorem zaE (h a b:Nat):inV (V.int h) [V.int a,V.int b]=decide (h=a\/h=b):=by
 rw[Yf,decide_eq_true_iff];simp[inV,eqV];lia
theorem scD:FnScope ["net","lane"] ["net","lane"] (zR ax):=by trivial
theorem zas {f:JI}{fd:Yl}(F:Fun K "end_of" "end_of" ax f fd):FnOk P w K mg base CX0 1 f fd ["net","lane"] gN:=by
 refine F.ok scD (λd H Q E h=>?_) (λj A outer s H d Q E g h=>?_)
 ·obtain⟨r,fr,c,e,N,a,rfl,_⟩:=h
  rfl
 obtain⟨r,fr,c,e,N,a,rfl,ok,na,i,k⟩:=h;refine⟨_,(@zM _ _ _ (@zW _ _ _ _ (@bC _ _ _ _ _ _ _ g.units (@zX _ _ _ _ _ _ _ yA (@pvb _ 0 _ _ rfl) zG (λ_ _=>rfl)) (@zA _ _ _ _ _ (@pvb _ 1 _ _ rfl) zC rfl) rfl rfl rfl rfl))),?_⟩;have b:=na.ends;rw[eP]at b;refine zB ⟨r,_,_,_,rfl,rfl,SqT.of na.net,rfl,c,_,rfl,b,_,rfl,(a:Int),rfl,b,?_,?_⟩
 ·exact Jn.mpr ⟨a,ok.en.mem_iff.mpr (Yd.mpr i),rfl⟩
 ·rw[o5];exact k
theorem scR:FnScope ["net","turns","lane","back","behind","here","number","fork","turn"] ["net","turns","lane","back"] (zR ao):=by trivial
theorem zao {f fD:JI}{fd dD:Yl}(F:Fun K "run_through" "run_through" ao f fd) (G:Mgs mg) (UD:Use P w K mg base "end_of" ["net","lane"] 1 gN fD dD):FnOk P w K mg base CX0 2 f fd ["net","turns","lane","back"] gK:=by
 refine F.ok scR (λvs H Q E h=>?_) (λab A outer s H vs Q E hr h=>?_)
 ·obtain⟨us,back,rfl,r,fr,er,J,N,D,ts,lane,rfl,_⟩:=h
  rfl
 obtain⟨us,back,rfl,r,fr,er,J,N,D,ts,lane,rfl,ok,na,R,tl,bits,hl,k⟩:=h;refine⟨_,(@zE _ _ _ _ _ (@zV _ _ 4 _ _ _ _ scR.nd rfl (.inl rfl) (@zi _ _ _ _ _ _ _ _ _ yk rfl G.list rfl (@zA _ _ _ _ _ (@pvb _ 1 _ _ rfl) zC rfl) (by decide) (by decide) rfl rfl) rfl (by trivial)) (@zE _ _ _ _ _ (@zV _ _ 5 _ _ _ _ scR.nd rfl (.inl rfl) (@pvb _ 2 _ _ rfl) rfl (by trivial)) (@zE _ _ _ _ _ (@yo _ _ _ _ _ _ _ _ JP rfl (@kA _ _ _ _ _ _ _ _ false rfl G.enum (@zA _ _ _ _ _ (@zX _ _ _ _ _ _ _ yA (@pvb _ 0 _ _ rfl) zG (λ_ _=>rfl)) zC rfl) rfl) (@yN _ _ _ _ _ _ rfl (@zP _ _ _ _ _ (@zN _ _ 6 _ scR.nd rfl (.inl rfl) (by trivial)) (@zP _ _ _ _ _ (@zN _ _ 7 _ scR.nd rfl (.inl rfl) (by trivial)) zu rfl) rfl) rfl rfl) (@zM _ _ _ (@yV _ _ _ _ _ _ _ _ (@zq _ _ _ _ _ _ _ _ rS (@pvb _ 5 _ _ rfl) (@pvb _ 7 _ _ rfl) rfl) (@zE _ _ _ _ _ (@zV _ _ 8 _ _ _ _ scR.nd rfl (.inl rfl) (@zX _ _ _ _ _ _ _ zZ (@pvb _ 4 _ _ rfl) (@pvb _ 6 _ _ rfl) (λ_ _=>rfl)) rfl (by trivial)) (@zE _ _ _ _ _ (@yM _ _ _ _ _ _ (@zS _ _ _ _ _ _ _ _ xW zG (@pvb _ 8 _ _ rfl)) (@xK _ _ _ _ _ _ _ (@pvb _ 4 _ _ rfl) (@pvb _ 6 _ _ rfl) yb (by intro _;rfl)) rfl rfl rfl) (@zM _ _ _ (@zV _ _ 5 _ _ _ _ scR.nd rfl (.inl rfl) (@zX _ _ _ _ _ _ _ yA (@pvb _ 7 _ _ rfl) (@oJ _ _ _ _ _ _ _ _ (@gx _ _ _ (@pvb _ 3 _ _ rfl) (by intro _;rfl)) (@zS _ _ _ _ _ _ _ _ xW zG (@pvb _ 8 _ _ rfl)) (@pvb _ 8 _ _ rfl)) (λ_ _=>rfl)) rfl (by trivial))))) zx)) (by intro _;rfl)) (@zM _ _ _ (@zW _ _ _ _ (@zj _ _ _ _ _ (@zA _ _ _ _ _ (@zi _ _ _ _ _ _ _ _ _ zo rfl G.tuple rfl (@zA _ _ _ _ _ (@pvb _ 4 _ _ rfl) zC rfl) (by decide) (by decide) rfl rfl) (@zA _ _ _ _ _ (@zQ _ _ _ _ _ _ _ _ _ _ _ _ UD hr (@zA _ _ _ _ _ (@pvb _ 0 _ _ rfl) (@zA _ _ _ _ _ (@pvb _ 5 _ _ rfl) zC rfl) rfl) rfl rfl rfl rfl) zC rfl) rfl))))))),?_⟩;refine zB ⟨D,_,rfl,.inr (SqT.of R),λd I=>zB ?_⟩;have M:=zD I (.lst (ts.map V.int));refine zB ⟨r,_,_,_,rfl,rfl,SqT.of (M _ _ na.net),rfl,fr,J,rfl,SqT.of (M _ _ na.forks),?_⟩
 refine dn (K:=K) (b:=false) (a:=fr) (xs:=J) (λi σ m=>(∃ C B y,σ=[some (.ref r),some (.ref D),some (.int lane),some (.bl back),some (.ref d),some (.int (yH back N.forks ts lane i).2),C,B,y])/\Same H m/\m d=some (.lst ((yH back N.forks ts lane i).1.map V.int)))
  ⟨⟨_,_,_,rfl⟩,M,zH⟩ (λi σ m _ q=>SqT.of (q.2.1 _ _ na.forks)) ?_ ?_
 ·rintro i x σ m T hx Z ⟨⟨C,B,y,rfl⟩,v,n⟩
  obtain⟨a,g,rfl,eg,L⟩:=(na.prs.tups (Tups.of v)).get hx;have gi:i<N.forks.length:=(Jd.mp eg).1;have gd:N.forks.getD i (0,0)=g:=by rw[J8,eg];rfl
  have rs:yH back N.forks ts lane (i+1)=yG back (yH back N.forks ts lane i) i g:=by show yG _ _ _ _=_;rw[gd]
  have rl:=uS (back:=back) (fs:=N.forks) (ts:=ts) (lane:=lane) i;have rb:=vW (back:=back) (fs:=N.forks) (lane:=lane) bits i;generalize yH back N.forks ts lane i=st at *;have u:=zD Z (.tup [.int i,.ref a]);have lT:d≠T:=zJ n Z;refine⟨T,_,rfl,SqT.of zH,rfl,_,_,rfl,_,_,rfl,rfl,?_⟩;refine zB (zB ⟨a,_,rfl,.inr (SqT.of (u _ _ L)),rfl,rfl,_,rfl,?_⟩);show if (if false=true then !inV (V.int (st.2:Nat)) [V.int (g.1:Nat),V.int (g.2:Nat)] else inV (V.int (st.2:Nat)) [V.int (g.1:Nat),V.int (g.2:Nat)])=true then _ else _;rw[Jg Ji,zaE];by_cases on:st.2=g.1\/st.2=g.2
  ·rw[JC on]
   refine wE ?_;have c:yG back st i g=(st.1.set i (1-st.1.getD i 0),if (if back then 1-st.1.getD i 0 else st.1.getD i 0)=0 then g.1 else g.2):=by unfold yG;rw[Jq on]
   have O:i<st.1.length:=by simp_all
   have S:=rb _ (L2.x3 O);have Y:=u _ _ n;refine zB (zB ⟨d,_,_,_,rfl,rfl,SqL.of Y,xI O,?_⟩);refine zB ⟨_,_,rfl,rfl,_,rfl,_,rfl,d,_,_,i,rfl,rfl,Y,wn (by rw[Jc];exact O),?_⟩
   have l:upd (upd m T (.tup [.int i,.ref a])) d (.lst ((st.1.map V.int).set i (.int (1-st.1.getD i 0)))) a=some (.tup [.int g.1,.int g.2]):=by
    rw[zK (by rintro rfl;rw[n]at L;cases L)];exact u _ _ L
   have fin:∀ nx:Nat,nx=(yG back st i g).2->(∃ C B y,([some (.ref r),some (.ref D),some (.int lane),some (.bl back),some (.ref d),some (.int nx),some (.int i),some (.ref a),some (.int (st.1.getD i 0))]:List (Option V))=[some (.ref r),some (.ref D),some (.int lane),some (.bl back),some (.ref d),some (.int (yH back N.forks ts lane (i+1)).2),C,B,y]) /\
     Same H (upd (upd m T (.tup [.int i,.ref a])) d (.lst ((st.1.map V.int).set i (.int (1-st.1.getD i 0)))))/\upd (upd m T (.tup [.int i,.ref a])) d (.lst ((st.1.map V.int).set i (.int (1-st.1.getD i 0)))) d=some (.lst ((yH back N.forks ts lane (i+1)).1.map V.int)):=λnx en=>by
    refine⟨⟨_,_,_,by rw[rs,en]⟩,λb o e=>?_,?_⟩
    ·rw[zK (zJ e I)];exact u _ _ (v b o e)
    ·rw[zH,rs,c,xP]
   cases back with
   | false =>
    rcases S with z|z
    ·exact zB (zB (zY rfl (xX (zB ⟨a,_,_,_,rfl,rfl,SqT.of l,by rw[z];exact yL (j:=0) rfl,fin g.1 (by rw[c,z];rfl)⟩))))
    ·exact zB (zB (zY rfl (xX (zB ⟨a,_,_,_,rfl,rfl,SqT.of l,by rw[z];exact yL (j:=1) rfl,fin g.2 (by rw[c,z];rfl)⟩))))
   | true =>
    rcases S with z|z
    ·exact zB (zB (zY rfl (wE (zB ⟨_,_,rfl,rfl,a,_,_,_,rfl,rfl,SqT.of l,by rw[z];exact yL (j:=1) rfl,fin g.2 (by rw[c,z];rfl)⟩))))
    ·exact zB (zB (zY rfl (wE (zB ⟨_,_,rfl,rfl,a,_,_,_,rfl,rfl,SqT.of l,by rw[z];exact yL (j:=0) rfl,fin g.1 (by rw[c,z];rfl)⟩))))
  ·rw[Jt on]
   have c:yG back st i g=st:=by unfold yG;rw[Jg on]
   exact xX ⟨⟨_,_,_,by rw[rs,c];rfl⟩,v.trans u,by rw[rs,c];exact u _ _ n⟩
 ·rintro σ m ⟨⟨C,B,y,rfl⟩,v,n⟩
  have W:=na.prs.len;rw[W]at n;have hh:=vV (back:=back) (ts:=ts) ok.fk hl N.forks.length (Je _);refine zB ⟨d,_,rfl,.inl ⟨SqL.of n,λt ht=>?_⟩⟩;have U:=zD ht (.tup ((yH back N.forks ts lane N.forks.length).1.map V.int));refine zB (zB ⟨r,fr,er,J,N,_,by rw[W];rfl,ok,na.tups (Tups.of (v.trans U)),hh,(by show 2<=sizeLine;decide),λp X=>?_⟩);exact k p t _ ((v.trans U).trans (zD X _)) zH (zD X _ _ _ zH)
theorem scP:FnScope ["net","turns","lane"] ["net","turns","lane"] (zR qd):=by trivial
theorem jh {f j:JI}{fd k:Yl}(F:Fun K "passed" "passed" qd f fd) (l:Use P w K mg base "run_through" ["net","turns","lane","back"] 2 gK j k):FnOk P w K mg base CX0 3 f fd ["net","turns","lane"] (nh false):=by
 refine F.ok scP (λg H Q E h=>?_) (λm A outer s H g Q E i h=>?_)
 ·obtain⟨r,fr,e,d,N,b,c,a,rfl,_⟩:=h
  rfl
 obtain⟨r,fr,e,d,N,b,c,a,rfl,q⟩:=h;refine⟨_,(@zM _ _ _ (@zW _ _ _ _ (@zQ _ _ _ _ _ _ _ _ _ _ _ _ l i (@zA _ _ _ _ _ (@pvb _ 0 _ _ rfl) (@zA _ _ _ _ _ (@pvb _ 1 _ _ rfl) (@zA _ _ _ _ _ (@pvb _ 2 _ _ rfl) (@zA _ _ _ _ _ rQ zC rfl) rfl) rfl) rfl) rfl rfl rfl rfl))),?_⟩;exact zB (zB (zB ⟨[.ref r,.ref b,.int a],false,rfl,r,fr,e,d,N,b,c,a,rfl,q⟩))
abbrev qh:Stmt:=top 14
abbrev tY:Stmt:=top 29
abbrev qc:Stmt:=top 30
theorem sL (n:Nat):List.replicate n (V.int 0)=(List.replicate n (0:Int)).map V.int:=(List.map_replicate).symm
theorem zbK:FnScope ["net"] ["net"] (zR qh):=by trivial
theorem jr {f:JI}{fd:Yl}(F:Fun K "first_turns" "first_turns" qh f fd) (G:Mgs mg):FnOk P w K mg base CX0 1 f fd ["net"] tQ:=by
 refine F.ok zbK (λc H Q E h=>?_) (λm A outer s H c Q E n h=>?_)
 ·obtain⟨r,fr,j,b,N,rfl,_⟩:=h
  rfl
 obtain⟨r,fr,j,b,N,rfl,ok,na,k⟩:=h;refine⟨_,(@zM _ _ _ (@zW _ _ _ _ (@zS _ _ _ _ _ _ _ _ qt (@zj _ _ _ _ _ (@zA _ _ _ _ _ zG zC rfl)) (@zc _ _ _ _ _ _ _ _ _ zk rfl G.len JY (@zA _ _ _ _ _ (@zX _ _ _ _ _ _ _ yA (@pvb _ 0 _ _ rfl) zG (λ_ _=>rfl)) zC rfl) (by decide) (by decide) rfl rfl)))),?_⟩;refine⟨by show 1<=sizeLine;decide,λt g=>?_⟩;have a:=zD g (.tup [.int 0]);have e:=na.prs.len;have o:=ok.fm;refine⟨_,rfl,r,_,_,_,rfl,rfl,SqT.of (a _ _ na.net),rfl,fr,b,rfl,.inr (SqT.of (a _ _ na.forks)),t,_,b.length,rfl,rfl,zH,by lia,λp l d i=>k p l (a.trans d) ?_⟩;rw[i,sL,e]
theorem zbL:FnScope ["net"] ["net"] (zR tY):=by trivial
theorem mW {f x:JI}{fd dT:Yl}(F:Fun K "first_place" "first_place" tY f fd) (y:Use P w K mg base "first_turns" ["net"] 1 tQ x dT):FnOk P w K mg base CX0 2 f fd ["net"] uQ:=by
 refine F.ok zbL (λl H Q E h=>?_) (λB A outer s H l Q E n h=>?_)
 ·obtain⟨r,fr,j,g,N,rfl,_⟩:=h
  rfl
 obtain⟨r,fr,j,g,N,rfl,ok,na,k⟩:=h;refine⟨_,(@zM _ _ _ (@zW _ _ _ _ (@zj _ _ _ _ _ (@zA _ _ _ _ _ (@zQ _ _ _ _ _ _ _ _ _ _ _ _ y n (@zA _ _ _ _ _ (@pvb _ 0 _ _ rfl) zC rfl) rfl rfl rfl rfl) (@zA _ _ _ _ _ (@zS _ _ _ _ _ _ _ _ qt (@zj _ _ _ _ _ (@zA _ _ _ _ _ zG zC rfl)) (@zX _ _ _ _ _ _ _ yA (@pvb _ 0 _ _ rfl) zG (λ_ _=>rfl))) zC rfl) rfl)))),?_⟩;have z:=ok.l16;refine⟨_,rfl,r,fr,j,g,N,rfl,ok,na,λt D e v=>⟨by show 1<=sizeLine;decide,λu m=>?_⟩⟩;have b:=zD m (.tup [.int 0]);have c:=(na.tups (Tups.of e)).tups (Tups.of b);refine⟨_,rfl,r,_,_,_,rfl,rfl,SqT.of c.net,rfl,u,_,N.lanes,rfl,rfl,zH,by lia,λp C d i=>?_⟩;refine⟨by show 2<=sizeLine;decide,λq o=>?_⟩;have a:=zD o (.tup [.ref t,.ref p]);rw[sL]at i;exact k q _ (((e.trans b).trans d).trans a) (aS zH (a _ _ (d _ _ (b _ _ v))) (a _ _ i))
theorem nr:FnScope ["net","place","lane","turns","heights","onward","end","more","least"] ["net","place","lane"] (zR qc):=by trivial
theorem passE_lt {N:Nt}(ok:Nt.Ok N){ts:List Int}{lane:Nat}(h:lane<N.lanes):x6 N ts lane<N.lanes:=by
 have b:=(vV (back:=false) (ts:=ts) ok.fk h N.forks.length (Je _));have:=ZF (ok.en.mem_iff.mpr (Yd.mpr b));rw[ok.en.length_eq,JR]at this;exact this
theorem jg {f fP fA:JI}{fd dP dA:Yl}(F:Fun K "place_behind" "place_behind" qc f fd) (G:Mgs mg) (UP:Use P w K mg base "passed" ["net","turns","lane"] 3 (nh false) fP dP) (UA:Use P w K mg base "added" ["counts","place","many"] 2 um fA dA):FnOk P w K mg base CX0 4 f fd ["net","place","lane"] vm:=by
 refine F.ok nr (λvs H Q E h=>?_) (λaE A outer s H vs Q E Y h=>?_)
 ·obtain⟨r,fr,Z,S,N,b,k,d,rfl,_⟩:=h
  rfl
 obtain⟨r,fr,Z,S,N,b,k,d,rfl,ok,na,kb,⟨ts,g,rfl,tl,bits,hl,h0,W⟩,T,q2⟩:=h;have J:Room 2 _:=Y.mono (by decide);refine⟨_,(@zE _ _ _ _ _ (@yM _ _ _ _ _ _ (@pvb _ 1 _ _ rfl) (@yN _ _ _ _ _ _ rfl (@zP _ _ _ _ _ (@zN _ _ 3 _ nr.nd rfl (.inl rfl) (by trivial)) (@zP _ _ _ _ _ (@zN _ _ 4 _ nr.nd rfl (.inl rfl) (by trivial)) zu rfl) rfl) rfl rfl) rfl rfl rfl) (@zE _ _ _ _ _ (@yM _ _ _ _ _ _ (@zQ _ _ _ _ _ _ _ _ _ _ _ _ UP Y (@zA _ _ _ _ _ (@pvb _ 0 _ _ rfl) (@zA _ _ _ _ _ (@pvb _ 3 _ _ rfl) (@zA _ _ _ _ _ (@pvb _ 2 _ _ rfl) zC rfl) rfl) rfl) rfl rfl rfl rfl) (@yN _ _ _ _ _ _ rfl (@zP _ _ _ _ _ (@zN _ _ 5 _ nr.nd rfl (.inl rfl) (by trivial)) (@zP _ _ _ _ _ (@zN _ _ 6 _ nr.nd rfl (.inl rfl) (by trivial)) zu rfl) rfl) rfl rfl) rfl rfl rfl) (@zE _ _ _ _ _ (@zV _ _ 7 _ _ _ _ nr.nd rfl (.inl rfl) (@zQ _ _ _ _ _ _ _ _ _ _ _ _ UA J (@zA _ _ _ _ _ (@pvb _ 4 _ _ rfl) (@zA _ _ _ _ _ (@pvb _ 6 _ _ rfl) (@zA _ _ _ _ _ zG zC rfl) rfl) rfl) rfl rfl rfl rfl) rfl (by trivial)) (@zE _ _ _ _ _ (@zV _ _ 8 _ _ _ _ nr.nd rfl (.inr rfl) (@zc _ _ _ _ _ _ _ _ _ (vJ rfl false) rfl G.min rfl (@zA _ _ _ _ _ (@pvb _ 7 _ _ rfl) zC rfl) (by decide) (by decide) rfl rfl) rfl (by trivial)) (@zM _ _ _ (@zW _ _ _ _ (@zj _ _ _ _ _ (@zA _ _ _ _ _ (@pvb _ 5 _ _ rfl) (@zA _ _ _ _ _ (@zi _ _ _ _ _ _ _ _ _ zo rfl G.tuple rfl (@zA _ _ _ _ _ (@oI _ _ _ _ none _ _ _ _ _ _ ["height","least"] [none,some 8] rfl (@wO _ _ _ _ (@pvb _ 7 _ _ rfl)) (CapOk.of (by kernel_rfl)) (λ_ _ _ _ _=>(@zN _ _ 0 _ (show (["height","least"]:List Str).Nodup from by decide +kernel) rfl (.inl rfl) (.inr rfl))) (λ_ _ _ _ _=>x5) (λ_ _ _ _ _=>(@zS _ _ _ _ _ _ _ _ xW (@pvb _ 0 _ _ rfl) (@pvb _ 1 _ _ rfl))) (by intro _;rfl)) zC rfl) (by decide) (by decide) rfl rfl) zC rfl) rfl)))))))),?_⟩;obtain⟨t,u,hb,ht,hu⟩:=aM kb;have ab:=ok.l16;refine⟨_,rfl,b,_,rfl,SqT.of hb,rfl,_,_,rfl,_,_,rfl,rfl,?_⟩;refine⟨_,rfl,_,rfl,_,rfl,r,fr,Z,S,N,t,ts,d,rfl,ok,na,ht,tl,bits,T,λp D H1 R hp I=>?_⟩;refine⟨p,_,rfl,SqT.of hp,rfl,_,_,rfl,_,_,rfl,rfl,?_⟩;have pl:=passE_lt (ts:=ts) ok T;refine⟨_,rfl,_,rfl,u,g,x6 N ts d,1,rfl,R _ _ hu,by lia,by lia,λm H2 s2 x=>?_⟩
 have ne:yB g (x6 N ts d) 1≠[]:=λz=>by
  have:=JL List.length z;rw[yD,Yh]at this;lia
 change H2 m=some (.tup ((yB g (x6 N ts d) 1).map V.int)) at x;refine⟨_,rfl,m,_,rfl,SqT.of x,Yp.mpr ne,λM mM lM=>?_⟩;have eM:=vD mM lM;refine⟨_,rfl,_,rfl,m,rfl,⟨_,SqT.of x⟩,λl n=>?_⟩;have al:(yB g (x6 N ts d) 1).length=N.lanes:=by rw[yD];exact hl
 refine pE (K:=K) (a:=m) (xs:=(yB g (x6 N ts d) 1).map V.int) (λi acc σ j=>(∃ v,σ=[v,some (.int M)])/\Same H2 j/\j l=some (.lst acc)/\acc=(((yB g (x6 N ts d) 1).take i).map λh=>h-M).map V.int) ⟨⟨_,rfl⟩,zD n _,zH,rfl⟩ (λi acc σ j q=>⟨q.2.2.1,SqT.of (q.2.1 _ _ x)⟩) ?_ ?_
 ·rintro i y acc σ j X ⟨⟨v,rfl⟩,C,B,rfl⟩
  rw[JF]at X;obtain⟨h,eh,rfl⟩:=Yx.mp X;have U:=(Jd.mp eh).1;refine⟨_,rfl,_,rfl,_,_,rfl,rfl,B,?_,nx (by rw[Jc];exact U) ⟨⟨_,rfl⟩,λc o e=>?_,zH,?_⟩⟩
  ·rw[Jc,Jc,Js,Ju];lia
  ·rw[zK (zJ e n)];exact C c o e
  ·rw[Yw U,JG,JG,(Jd.mp eh).2];rfl
 ·rintro acc σ j ⟨⟨v,rfl⟩,C,B,rfl⟩
  rw[Jc,JV,<- eM]at B;refine⟨l,_,rfl,.inl ⟨SqL.of B,λq hq=>⟨by show 2<=sizeLine;decide,λz W=>?_⟩⟩⟩;have s4:=zD hq (.tup ((wS (yB g (x6 N ts d) 1)).map V.int));have O:=zD W (.tup [.ref D,.ref q]);have L:=((s2.trans C).trans s4).trans O;exact q2 _ z _ (R.trans L) (uz N ts g d) (aS zH (L _ _ I) (O _ _ zH))
abbrev gb:Stmt:=top 18
abbrev qg:Stmt:=top 19
theorem scF:FnScope ["net","counts","on_lanes","turns","one","other","come"] ["net","counts"] (zR qg):=by trivial
theorem jq {f:JI}{fd:Yl}(F:Fun K "flowed" "flowed" qg f fd) (G:Mgs mg):FnOk P w K mg base CX0 1 f fd ["net","counts"] tO:=by
 refine F.ok scF (λL H Q E h=>?_) (λU A outer s H L Q E W h=>?_)
 ·obtain⟨r,fr,S,B,N,c,cs,rfl,_⟩:=h
  rfl
 obtain⟨r,fr,S,B,N,c,cs,rfl,ok,na,M,cl,k⟩:=h;refine⟨_,(@zE _ _ _ _ _ (@zV _ _ 2 _ _ _ _ scF.nd rfl (.inl rfl) (@zi _ _ _ _ _ _ _ _ _ yk rfl G.list rfl (@zA _ _ _ _ _ (@pvb _ 1 _ _ rfl) zC rfl) (by decide) (by decide) rfl rfl) rfl (by trivial)) (@zE _ _ _ _ _ (@zV _ _ 3 _ _ _ _ scF.nd rfl (.inl rfl) (@zr _ _ _ _ zC) rfl (by trivial)) (@zE _ _ _ _ _ (@yo _ _ _ _ _ _ _ _ JP rfl (@wO _ _ _ _ (@zX _ _ _ _ _ _ _ yA (@pvb _ 0 _ _ rfl) zG (λ_ _=>rfl))) (@yN _ _ _ _ _ _ rfl (@zP _ _ _ _ _ (@zN _ _ 4 _ scF.nd rfl (.inl rfl) (by trivial)) (@zP _ _ _ _ _ (@zN _ _ 5 _ scF.nd rfl (.inl rfl) (by trivial)) zu rfl) rfl) rfl rfl) (@zE _ _ _ _ _ (@zV _ _ 6 _ _ _ _ scF.nd rfl (.inl rfl) (@zS _ _ _ _ _ _ _ _ yQ (@zX _ _ _ _ _ _ _ zZ (@pvb _ 2 _ _ rfl) (@pvb _ 4 _ _ rfl) (λ_ _=>rfl)) (@zX _ _ _ _ _ _ _ zZ (@pvb _ 2 _ _ rfl) (@pvb _ 5 _ _ rfl) (λ_ _=>rfl))) rfl (by trivial)) (@zE _ _ _ _ _ (@yM _ _ _ _ _ _ (@zS _ _ _ _ _ _ _ _ xh (@zS _ _ _ _ _ _ _ _ yQ (@pvb _ 6 _ _ rfl) zG) zG) (@xK _ _ _ _ _ _ _ (@pvb _ 2 _ _ rfl) (@pvb _ 4 _ _ rfl) yb (by intro _;rfl)) rfl rfl rfl) (@zE _ _ _ _ _ (@yM _ _ _ _ _ _ (@zS _ _ _ _ _ _ _ _ xh (@pvb _ 6 _ _ rfl) zG) (@xK _ _ _ _ _ _ _ (@pvb _ 2 _ _ rfl) (@pvb _ 5 _ _ rfl) yb (by intro _;rfl)) rfl rfl rfl) (@zM _ _ _ (@y7 _ _ _ _ (@wR _ _ _ _ _ _ _ _ _ _ _ _ JW Y9 Ya yd (@pvb _ 3 _ _ rfl) (@zA _ _ _ _ _ (@zS _ _ _ _ _ _ _ _ xt (@pvb _ 6 _ _ rfl) zG) zC rfl) rfl rfl rfl rfl rfl) rfl))))) (by intro _;rfl)) (@zM _ _ _ (@zW _ _ _ _ (@zj _ _ _ _ _ (@zA _ _ _ _ _ (@pvb _ 2 _ _ rfl) (@zA _ _ _ _ _ (@pvb _ 3 _ _ rfl) zC rfl) rfl))))))),?_⟩;refine zB ⟨c,_,rfl,.inr (SqT.of M),λlo l=>?_⟩;have C:=zD l (.lst (cs.map V.int));refine⟨(by show 0<=sizeLine;decide),λlt j=>?_⟩;have z:=C.trans (zD j (.lst []));have ne:lo≠lt:=zJ zH j;refine zB ⟨r,_,_,_,rfl,rfl,SqT.of (z _ _ na.net),rfl,fr,rfl,⟨_,SqT.of (z _ _ na.forks)⟩,?_⟩
 refine uF (K:=K) (a:=fr) (xs:=B) (λi σ d=>(∃ y x v,σ=[some (.ref r),some (.ref c),some (.ref lo),some (.ref lt),y,x,v])/\Same H d/\d lo=some (.lst ((zw (N.forks.take i) cs).1.map V.int))/\d lt=some (.lst ((zw (N.forks.take i) cs).2.map V.int)))
  ⟨⟨_,_,_,rfl⟩,z,by rw[zK ne];exact zH,zH⟩ (λi σ d _ q=>SqT.of (q.2.1 _ _ na.forks)) ?_ ?_
 ·rintro i p σ d n ⟨⟨y,x,v,rfl⟩,t,m,u⟩
  obtain⟨a,g,rfl,J,O⟩:=(na.prs.tups (Tups.of t)).get n;have T:=ok.fk g (Jw J);have X:(zw (N.forks.take i) cs).1.length=N.lanes:=by rw[xF,cl]
  have R:(zw (N.forks.take i) cs).2.length<=128:=by rw[xA,Js];have:=ok.fm;lia
  have I:=xC J cs;generalize zw (N.forks.take i) cs=st at *;refine⟨a,_,rfl,SqT.of O,rfl,_,_,rfl,_,_,rfl,rfl,?_⟩;refine zB (zB ⟨lo,_,_,_,rfl,rfl,SqL.of m,xI (by lia),_,rfl,_,rfl,lo,_,_,_,rfl,rfl,SqL.of m,xI (by lia),_,_,rfl,rfl,?_⟩);refine zB ⟨_,_,rfl,rfl,_,_,rfl,rfl,⟨by decide,by decide⟩,_,rfl,_,rfl,lo,_,_,g.1,rfl,rfl,m,wn (by rw[Jc];lia),?_⟩;refine zB ⟨_,_,rfl,rfl,⟨by decide,by decide⟩,_,rfl,_,rfl,lo,_,_,g.2,rfl,rfl,zH,wn (by rw[YG,Jc];lia),?_⟩
  have D:upd (upd d lo (.lst ((st.1.map V.int).set g.1 (.int ((st.1.getD g.1 0+st.1.getD g.2 0+1) / 2))))) lo (.lst (((st.1.map V.int).set g.1 (.int ((st.1.getD g.1 0+st.1.getD g.2 0+1) / 2))).set g.2 (.int ((st.1.getD g.1 0+st.1.getD g.2 0) / 2)))) lt=some (.lst (st.2.map V.int)):=by
   rw[zK ne.symm,zK ne.symm];exact u
  refine zB ⟨.inl ⟨rfl,_,SqL.of D⟩,_,rfl,_,_,rfl,rfl,(by show (0:Int)<2;decide),lt,_,_,rfl,rfl,D,by rw[Jc];exact Nat.lt_of_le_of_lt R (by decide),⟨_,_,_,rfl⟩,λb o e=>?_,?_,?_⟩
  ·rw[zK (zJ (C b o e) j),zK (zJ e l),zK (zJ e l)];exact t b o e
  ·rw[zK ne,zH,I]
   unfold yJ;rw[xP,xP]
  ·rw[zH,I]
   unfold yJ;rw[JG];rfl
 ·rintro σ d ⟨⟨y,x,v,rfl⟩,t,m,u⟩
  have e:N.forks.take B.length=N.forks:=by rw[na.prs.len];exact JV
  rw[e]at m u;exact zB (zB ⟨(by show 2<=sizeLine;decide),λp n=>k p lo lt _ (t.trans (zD n _)) zH (zD n _ _ _ m) (zD n _ _ _ u)⟩)
theorem scE:FnScope ["net","counts","on_lanes","turns"] ["net","counts"] (zR gb):=by trivial
theorem bP {f O:JI}{fd T:Yl}(F:Fun K "ends_of" "ends_of" gb f fd) (G:Mgs mg) (U:Use P w K mg base "flowed" ["net","counts"] 1 tO O T):FnOk P w K mg base CX0 2 f fd ["net","counts"] uR:=by
 refine F.ok scE (λD H Q E h=>?_) (λY A outer s H D Q E I h=>?_)
 ·obtain⟨r,fr,t,B,N,c,cs,rfl,_⟩:=h
  rfl
 obtain⟨r,fr,t,B,N,c,cs,rfl,ok,na,M,cl,k⟩:=h;refine⟨_,(@zE _ _ _ _ _ (@yM _ _ _ _ _ _ (@zQ _ _ _ _ _ _ _ _ _ _ _ _ U I (@zA _ _ _ _ _ (@pvb _ 0 _ _ rfl) (@zA _ _ _ _ _ (@pvb _ 1 _ _ rfl) zC rfl) rfl) rfl rfl rfl rfl) (@yN _ _ _ _ _ _ rfl (@zP _ _ _ _ _ (@zN _ _ 2 _ scE.nd rfl (.inr rfl) (by trivial)) (@zP _ _ _ _ _ (@zN _ _ 3 _ scE.nd rfl (.inl rfl) (by trivial)) zu rfl) rfl) rfl rfl) rfl rfl rfl) (@zM _ _ _ (@zW _ _ _ _ (@zi _ _ _ _ _ _ _ _ _ zo rfl G.tuple rfl (@zA _ _ _ _ _ (@oI _ _ _ _ none _ _ _ _ _ _ ["lane","on_lanes"] [none,some 2] rfl (@wO _ _ _ _ (@zX _ _ _ _ _ _ _ yA (@pvb _ 0 _ _ rfl) zG (λ_ _=>rfl))) (CapOk.of (by kernel_rfl)) (λ_ _ _ _ _=>(@zN _ _ 0 _ (show (["lane","on_lanes"]:List Str).Nodup from by decide +kernel) rfl (.inl rfl) (.inr rfl))) (λ_ _ _ _ _=>x5) (λ_ _ _ _ _=>(@zX _ _ _ _ _ _ (jS K) zZ (@pvb _ 1 _ _ rfl) (@pvb _ 0 _ _ rfl) (λ_ _=>rfl))) (by intro _;rfl)) zC rfl) (by decide) (by decide) rfl rfl)))),?_⟩;refine zB (zB ⟨r,fr,t,B,N,c,cs,rfl,ok,na,M,cl,λp lo lt W z L C Z=>?_⟩);refine⟨p,_,rfl,SqT.of L,rfl,_,_,rfl,_,_,rfl,rfl,?_⟩;have d:=na.tups (Tups.of z);refine zB ⟨r,_,_,_,rfl,rfl,SqT.of d.net,rfl,t,rfl,⟨_,SqT.of d.ends⟩,λl u=>?_⟩;have X:lo≠l:=zJ C u;refine pE (K:=K) (a:=t) (xs:=zU N.ends) (λi acc σ g=>(∃ v,σ=[v,some (.ref lo)])/\Same W g/\g l=some (.lst acc)/\acc=((zp N cs).take i).map V.int) ⟨⟨_,rfl⟩,zD u _,zH,rfl⟩ (λi acc σ g q=>⟨q.2.2.1,SqT.of (q.2.1 _ _ d.ends)⟩) ?_ ?_
 ·rintro i x acc σ g n ⟨⟨v,rfl⟩,j,y,rfl⟩
  have m:i<N.ends.length:=by have:=(Jd.mp n).1;rwa [zd]at this
  have ex:x=.int N.ends[i]:=by
   unfold zU at n;rw[JF,J2 m]at n;exact(Jj n).symm
  subst ex;have lt':=pG ok (JA m);refine zB (zB ⟨lo,_,_,_,rfl,rfl,SqL.of (j _ _ C),xI (by rw[xF,cl];exact lt'),y,?_,nx (by rw[zd];exact m) ⟨⟨_,rfl⟩,λb o e=>?_,zH,?_⟩⟩)
  ·rw[Jc,Js];exact Nat.lt_of_le_of_lt (Nat.min_le_left _ _) (Jz (show i<1000 by have:=uH ok;have:=ok.l16;lia) (by decide))
  ·rw[zK (zJ e u)];exact j b o e
  ·have R:i<(zp N cs).length:=by unfold zp;rw[Jc];exact m
   have S:(zp N cs)[i]=(zw N.forks cs).1.getD N.ends[i] 0:=by simp[zp]
   rw[Yw R,JG,S];rfl
 ·rintro acc σ g ⟨⟨v,rfl⟩,j,y,rfl⟩
  refine⟨l,_,rfl,.inl ⟨SqL.of y,λq J=>k q _ ((z.trans j).trans (zD J _)) ?_⟩⟩;rw[zH,zd,JK (by unfold zp;rw[Jc];exact Je _)]
abbrev qe:Stmt:=top 1
theorem kM (n:Nat):(List.replicate n [V.int 0]).flatten=(List.replicate n (0:Int)).map V.int:=by
 induction n with
 | zero=>rfl
 | succ n ih=>rw[JX,Z0,ih,JX];rfl
def tM:Sp:=λb H Q _=>∃ r fr d c N,b=[.ref r]/\Nt.Ok N/\NetAt H r fr d c N/\∀ p a,Same H a->a p=some (.tup ((yq N).map V.int))->Q (.ref p) a
theorem qX:FnScope ["net","lanes","forks","ends","reached","found","one","other","layer"] ["net"] (zR qe):=by trivial
theorem jn {f:JI}{fd:Yl}(F:Fun K "layers" "layers" qe f fd) (G:Mgs mg):FnOk P w K mg base CX0 1 f fd ["net"] tM:=by
 refine F.ok qX (λY H Q E h=>?_) (λaT A outer s H Y Q E hr h=>?_)
 ·obtain⟨r,fr,X,T,N,rfl,_⟩:=h
  rfl
 obtain⟨r,fr,X,T,N,rfl,ok,na,k⟩:=h;refine⟨_,(@zE _ _ _ _ _ (@yM _ _ _ _ _ _ (@pvb _ 0 _ _ rfl) (@yN _ _ _ _ _ _ rfl (@zP _ _ _ _ _ (@zN _ _ 1 _ qX.nd rfl (.inl rfl) (by trivial)) (@zP _ _ _ _ _ (@zN _ _ 2 _ qX.nd rfl (.inl rfl) (by trivial)) (@zP _ _ _ _ _ (@zN _ _ 3 _ qX.nd rfl (.inl rfl) (by trivial)) zu rfl) rfl) rfl) rfl rfl) rfl rfl rfl) (@zE _ _ _ _ _ (@zV _ _ 4 _ _ _ _ qX.nd rfl (.inl rfl) (@zS _ _ _ _ _ _ _ _ mV (@zr _ _ _ _ (@zA _ _ _ _ _ zG zC rfl)) (@pvb _ 1 _ _ rfl)) rfl (by trivial)) (@zE _ _ _ _ _ (@zV _ _ 5 _ _ _ _ qX.nd rfl (.inl rfl) (@zr _ _ _ _ zC) rfl (by trivial)) (@zE _ _ _ _ _ (@yo _ _ _ _ _ _ _ _ JP rfl (@wO _ _ _ _ (@pvb _ 2 _ _ rfl)) (@yN _ _ _ _ _ _ rfl (@zP _ _ _ _ _ (@zN _ _ 6 _ qX.nd rfl (.inl rfl) (by trivial)) (@zP _ _ _ _ _ (@zN _ _ 7 _ qX.nd rfl (.inl rfl) (by trivial)) zu rfl) rfl) rfl rfl) (@zE _ _ _ _ _ (@zV _ _ 8 _ _ _ _ qX.nd rfl (.inl rfl) (@zS _ _ _ _ _ _ _ _ yQ zG (@zc _ _ _ _ _ _ _ _ _ (qH rfl) rfl G.max rfl (@zA _ _ _ _ _ (@zX _ _ _ _ _ _ _ zZ (@pvb _ 4 _ _ rfl) (@pvb _ 6 _ _ rfl) (λ_ _=>rfl)) (@zA _ _ _ _ _ (@zX _ _ _ _ _ _ _ zZ (@pvb _ 4 _ _ rfl) (@pvb _ 7 _ _ rfl) (λ_ _=>rfl)) zC rfl) rfl) (by decide) (by decide) rfl rfl)) rfl (by trivial)) (@zE _ _ _ _ _ (@yM _ _ _ _ _ _ (@pvb _ 8 _ _ rfl) (@xK _ _ _ _ _ _ _ (@pvb _ 4 _ _ rfl) (@pvb _ 6 _ _ rfl) yb (by intro _;rfl)) rfl rfl rfl) (@zE _ _ _ _ _ (@yM _ _ _ _ _ _ (@pvb _ 8 _ _ rfl) (@xK _ _ _ _ _ _ _ (@pvb _ 4 _ _ rfl) (@pvb _ 7 _ _ rfl) yb (by intro _;rfl)) rfl rfl rfl) (@zM _ _ _ (@y7 _ _ _ _ (@wR _ _ _ _ _ _ _ _ _ _ _ _ JW Y9 Ya yd (@pvb _ 5 _ _ rfl) (@zA _ _ _ _ _ (@pvb _ 8 _ _ rfl) zC rfl) rfl rfl rfl rfl rfl) rfl))))) (by intro _;rfl)) (@zM _ _ _ (@zW _ _ _ _ (@zi _ _ _ _ _ _ _ _ _ zo rfl G.tuple rfl (@zA _ _ _ _ _ (@pvb _ 5 _ _ rfl) zC rfl) (by decide) (by decide) rfl rfl))))))),?_⟩;have l1:=ok.l1;have aE:=ok.l16;have fm:=ok.fm;have pl:=na.prs.len;have Z:((N.lanes:Nat):Int).toNat=N.lanes:=by lia
 refine⟨_,rfl,r,_,rfl,SqT.of na.net,rfl,_,_,rfl,_,_,rfl,_,_,rfl,rfl,?_⟩;refine⟨(by show 1<=sizeLine;decide),λp1 M=>?_⟩;have S:=zD M (.lst [.int 0]);refine⟨_,rfl,p1,N.lanes,_,rfl,rfl,zH,by lia,by lia,by show 1*_<=sizeLine;rw[Ju];lia,λc t=>?_⟩;have R:=S.trans (zD t (.lst (List.replicate ((N.lanes:Int)).toNat [V.int 0]).flatten))
 have j:H c=none:=by
  cases z:H c with
  | none=>rfl
  | some o=>exact absurd (S _ _ z) (by rw[t];exact λw=>nomatch w)
 refine⟨(by show 0<=sizeLine;decide),λlf m=>?_⟩;have O:=R.trans (zD m (.lst []))
 have u:H lf=none:=by
  cases z:H lf with
  | none=>rfl
  | some o=>exact absurd (R _ _ z) (by rw[m];exact λw=>nomatch w)
 have d:c≠lf:=zJ zH m;refine⟨_,rfl,fr,rfl,⟨_,SqT.of (O _ _ na.forks)⟩,?_⟩
 refine uF (K:=K) (a:=fr) (xs:=T) (λi σ l=>(∃ J I D,σ=[some (.ref r),some (.int N.lanes),some (.ref fr),some (.ref X),some (.ref c),some (.ref lf),J,I,D])/\Same H l/\l c=some (.lst ((lay N.lanes (N.forks.take i)).1.map V.int))/\l lf=some (.lst ((lay N.lanes (N.forks.take i)).2.map V.int)))
  ⟨⟨_,_,_,rfl⟩,O,by rw[zK d,zH,Z,kM];rfl,zH⟩ (λi σ l _ q=>SqT.of (q.2.1 _ _ na.forks)) ?_ ?_
 ·rintro i p σ l hp ⟨⟨J,I,D,rfl⟩,v,C,B⟩
  obtain⟨a,g,rfl,L,ha⟩:=(na.prs.tups (Tups.of v)).get hp;have ab:=ok.fk g (Jw L);have ig:i<N.forks.length:=(Jd.mp L).1;have ln:=wl (n:=N.lanes) i N.forks (by lia);have U:=xw (n:=N.lanes) L;generalize lay N.lanes (N.forks.take i)=st at *;refine⟨a,_,rfl,SqT.of ha,rfl,_,_,rfl,_,_,rfl,rfl,?_⟩;refine⟨_,rfl,_,rfl,c,_,_,_,rfl,rfl,SqL.of C,xI (by lia),_,rfl,_,rfl,c,_,_,_,rfl,rfl,SqL.of C,xI (by lia),_,_,rfl,_,_,rfl,rfl,?_⟩;refine⟨_,rfl,_,rfl,_,rfl,c,_,_,g.1,rfl,rfl,C,wn (by rw[Jc];lia),?_⟩;refine⟨_,rfl,_,rfl,_,rfl,c,_,_,g.2,rfl,rfl,zH,wn (by rw[YG,Jc];lia),?_⟩;have W:∀ x y,L2.upd (L2.upd l c x) c y lf=some (.lst (st.2.map V.int)):=λx y=>by rw[zK d.symm,zK d.symm];exact B
  refine⟨_,rfl,.inl ⟨rfl,_,SqL.of (W _ _)⟩,_,rfl,lf,_,_,rfl,rfl,W _ _,by rw[Jc,ln.2];exact Jz (show i<1000 by lia) (by decide),⟨_,_,_,rfl⟩,λb o e=>?_,?_,?_⟩
  ·rw[zK (zJ e u),zK (zJ e j),zK (zJ e j)];exact v b o e
  ·rw[zK d,zH,U]
   unfold xO;rw[xP,xP];rfl
  ·rw[zH,U]
   unfold xO;rw[JG];rfl
 ·rintro σ l ⟨⟨J,I,D,rfl⟩,v,C,B⟩
  rw[pl,JV]at B;exact⟨_,rfl,lf,_,rfl,.inl ⟨SqL.of B,λq hq=>k q _ (v.trans (zD hq _)) zH⟩⟩
abbrev mG:Stmt:=top 2
def qT:Sp:=λb H Q _=>∃ r fr d c N,b=[.ref r]/\Nt.Ok N/\NetAt H r fr d c N/\∀ M a,Same H a->M∈0::yq N->(∀ z∈yq N,z<=M)->(yq N=[]->M=0)->(yq N≠[]->M∈yq N)->Q (.int M) a
theorem zbN:FnScope ["net"] ["net"] (zR mG):=by trivial
theorem eK {f n:JI}{fd o:Yl}(F:Fun K "depth" "depth" mG f fd) (G:Mgs mg) (q:Use P w K mg base "layers" ["net"] 1 tM n o):FnOk P w K mg base CX0 2 f fd ["net"] qT:=by
 refine F.ok zbN (λj H Q E h=>?_) (λt A outer s H j Q E l h=>?_)
 ·obtain⟨r,fr,g,c,N,rfl,_⟩:=h
  rfl
 obtain⟨r,fr,g,c,N,rfl,ok,na,k⟩:=h;refine⟨_,(@zM _ _ _ (@zW _ _ _ _ (@bE _ _ _ _ _ _ _ _ false rfl rfl G.max (@zQ _ _ _ _ _ _ _ _ _ _ _ _ q l (@zA _ _ _ _ _ (@pvb _ 0 _ _ rfl) zC rfl) rfl rfl rfl rfl) zG rfl rfl rfl rfl))),?_⟩;refine⟨_,rfl,r,fr,g,c,N,rfl,ok,na,λp i b m=>?_⟩;refine⟨p,yq N,0,rfl,rfl,SqT.of m,λe=>k 0 i b JH (λz a=>by rw[e]at a;simp at a) (λ_=>rfl) (λne=>absurd e ne),λne M d a=>k M i b (JJ _ d) a (λe=>absurd e ne) (λ_=>d)⟩
abbrev ap:Stmt:=top 22
abbrev qb:Stmt:=top 21
abbrev mH:Stmt:=top 23
def ng:Sp:=λa H Q _=>∃ m:Nat,a=[.int m]/\m<=1000/\Q (.int (pw m)) H
def qU:Sp:=λc H Q _=>∃ (lanes a:Nat) (many:Int),c=[.int lanes,.int a,.int many]/\a<lanes/\lanes<=16/\∀ p b,Same H b->b p=some (.tup ((yF lanes a many).map V.int))->Q (.ref p) b
def tJ:Sp:=λc H Q _=>∃ r fr f e N,c=[.ref r]/\Nt.Ok N/\NetAt H r fr f e N/\∀ p (d:Nat) ss H',Same H H'->IsTop N d->H' p=some (.tup ss)->ss.length=N.lanes->(∀ b,b<N.lanes->∃ a,ss[b]?=some (.ref a)/\H' a=some (.tup ((zp N (yF N.lanes b (pw d))).map V.int)))->Q (.ref p) H'
theorem cg:FnScope ["many","power","doubling"] ["many"] (zR ap):=by trivial
theorem bJ {f:JI}{fd:Yl}(F:Fun K "power_of_two" "power_of_two" ap f fd) (G:Mgs mg):FnOk P w K mg base CX0 1 f fd ["many"] ng:=by
 refine F.ok cg (λc H Q E h=>?_) (λd A outer s H c Q E e h=>?_)
 ·obtain⟨m,rfl,_⟩:=h
  rfl
 obtain⟨m,rfl,g,k⟩:=h;refine⟨_,(@zE _ _ _ _ _ (@zV _ _ 1 _ _ _ _ cg.nd rfl (.inl rfl) zG rfl (by trivial)) (@zE _ _ _ _ _ (@yo _ _ _ _ _ _ _ _ JP rfl (@yc _ _ _ _ _ _ rfl G.range (@zA _ _ _ _ _ (@pvb _ 0 _ _ rfl) zC rfl) rfl) (@zN _ _ 2 _ cg.nd rfl (.inl rfl) (by trivial)) (@zM _ _ _ (@zah _ _ 1 _ _ _ _ _ _ cg.nd rfl (.inl rfl) zG bp (by trivial))) (by intro _;rfl)) (@zM _ _ _ (@zW _ _ _ _ (@pvb _ 1 _ _ rfl))))),?_⟩;refine⟨_,rfl,m,rfl,by lia,by lia,y0 (lo:=0) (n:=((m:Nat):Int).toNat) (λi σ b=>b=H/\∃ a,σ=[some (.int m),some (.int (pw i)),a]) ⟨rfl,_,rfl⟩ ?_ ?_⟩
 ·rintro i σ b j ⟨rfl,a,rfl⟩
  refine⟨_,rfl,_,_,rfl,rfl,.inr ⟨by decide,by decide⟩,rfl,some (.int (0+(i:Nat))),?_⟩;rw[<- show pw i*2=pw (i+1) from by rw[lz,Int.mul_comm]];rfl
 ·rintro σ b ⟨rfl,a,rfl⟩
  refine⟨_,rfl,?_⟩;rw[show ((m:Nat):Int).toNat=m from by lia];exact k
theorem za6:FnScope ["lanes","lane","many","counts"] ["lanes","lane","many"] (zR mH):=by trivial
theorem eL {f:JI}{fd:Yl}(F:Fun K "alone" "alone" mH f fd) (G:Mgs mg):FnOk P w K mg base CX0 1 f fd ["lanes","lane","many"] qU:=by
 refine F.ok za6 (λj H Q E h=>?_) (λr A outer s H j Q E t h=>?_)
 ·obtain⟨lanes,c,many,rfl,_⟩:=h
  rfl
 obtain⟨lanes,c,many,rfl,u,q,k⟩:=h;refine⟨_,(@zE _ _ _ _ _ (@zV _ _ 3 _ _ _ _ za6.nd rfl (.inl rfl) (@zS _ _ _ _ _ _ _ _ mV (@zr _ _ _ _ (@zA _ _ _ _ _ zG zC rfl)) (@pvb _ 0 _ _ rfl)) rfl (by trivial)) (@zE _ _ _ _ _ (@yM _ _ _ _ _ _ (@pvb _ 2 _ _ rfl) (@xK _ _ _ _ _ _ _ (@pvb _ 3 _ _ rfl) (@pvb _ 1 _ _ rfl) yb (by intro _;rfl)) rfl rfl rfl) (@zM _ _ _ (@zW _ _ _ _ (@zi _ _ _ _ _ _ _ _ _ zo rfl G.tuple rfl (@zA _ _ _ _ _ (@pvb _ 3 _ _ rfl) zC rfl) (by decide) (by decide) rfl rfl))))),?_⟩;have l:((lanes:Nat):Int).toNat=lanes:=by lia
 refine⟨(by show 1<=sizeLine;decide),λm g=>?_⟩;have d:=zD g (.lst [.int 0]);refine⟨_,rfl,m,lanes,_,rfl,rfl,zH,by lia,by lia,by show 1*_<=sizeLine;rw[Ju];lia,λlc i=>?_⟩
 have a:H lc=none:=by
  cases z:H lc with
  | none=>rfl
  | some o=>exact absurd (d _ _ z) (by rw[i];exact λw=>nomatch w)
 rw[l,kM];refine⟨_,rfl,_,rfl,_,rfl,lc,_,_,c,rfl,rfl,zH,wn (by simp;lia),?_⟩;refine⟨_,rfl,lc,_,rfl,.inl ⟨SqL.of zH,λp n=>k p _ (λb o e=>?_) ?_⟩⟩
 ·rw[zK (zJ (o:=o) (by rw[zK (zJ e a),zK (zJ e a)];exact d _ _ e) n),zK (zJ e a),zK (zJ e a)];exact d _ _ e
 ·rw[zH,xP];rfl
theorem scS:FnScope ["net","lanes","balls"] ["net"] (zR qb):=by trivial
theorem jf {f fD fP fA fE:JI}{fd dD dP dA dE:Yl}(F:Fun K "shares" "shares" qb f fd) (G:Mgs mg) (UD:Use P w K mg base "depth" ["net"] 2 qT fD dD) (UP:Use P w K mg base "power_of_two" ["many"] 1 ng fP dP) (UA:Use P w K mg base "alone" ["lanes","lane","many"] 1 qU fA dA)
  (UE:Use P w K mg base "ends_of" ["net","counts"] 2 uR fE dE):FnOk P w K mg base CX0 3 f fd ["net"] tJ:=by
 refine F.ok scS (λY H Q E h=>?_) (λab A outer s H Y Q E D h=>?_)
 ·obtain⟨r,fr,L,C,N,rfl,_⟩:=h
  rfl
 obtain⟨r,fr,L,C,N,rfl,ok,na,k⟩:=h;have t:Room 1 _:=D.mono (by decide);refine⟨_,(@zE _ _ _ _ _ (@zV _ _ 1 _ _ _ _ scS.nd rfl (.inr rfl) (@zX _ _ _ _ _ _ _ yA (@pvb _ 0 _ _ rfl) zG (λ_ _=>rfl)) rfl (by trivial)) (@zE _ _ _ _ _ (@zV _ _ 2 _ _ _ _ scS.nd rfl (.inr rfl) (@zQ _ _ _ _ _ _ _ _ _ _ _ _ UP t (@zA _ _ _ _ _ (@zQ _ _ _ _ _ _ _ _ _ _ _ _ UD D (@zA _ _ _ _ _ (@pvb _ 0 _ _ rfl) zC rfl) rfl rfl rfl rfl) zC rfl) rfl rfl rfl rfl) rfl (by trivial)) (@zM _ _ _ (@zW _ _ _ _ (@zi _ _ _ _ _ _ _ _ _ zo rfl G.tuple rfl (@zA _ _ _ _ _ (@oI _ _ _ _ none _ _ _ _ _ _ ["lane","net","lanes","balls"] [none,some 0,some 1,some 2] rfl (@yc _ _ _ _ _ _ rfl G.range (@zA _ _ _ _ _ (@pvb _ 1 _ _ rfl) zC rfl) rfl) (CapOk.of (by kernel_rfl)) (λ_ _ _ _ _=>(@zN _ _ 0 _ (show (["lane","net","lanes","balls"]:List Str).Nodup from by decide +kernel) rfl (.inl rfl) (.inr rfl))) (λ_ _ _ _ _=>x5) (λ_ _ _ _ _=>(@zQ _ _ _ _ _ _ _ _ _ _ _ _ UE D (@zA _ _ _ _ _ (@pvb _ 1 _ _ rfl) (@zA _ _ _ _ _ (@zQ _ _ _ _ _ _ _ _ _ _ _ _ UA t (@zA _ _ _ _ _ (@pvb _ 2 _ _ rfl) (@zA _ _ _ _ _ (@pvb _ 0 _ _ rfl) (@zA _ _ _ _ _ (@pvb _ 3 _ _ rfl) zC rfl) rfl) rfl) rfl rfl rfl rfl) zC rfl) rfl) rfl rfl rfl rfl)) (by intro _;rfl)) zC rfl) (by decide) (by decide) rfl rfl))))),?_⟩;have S:=ok.l16;refine⟨_,rfl,r,_,_,_,rfl,rfl,SqT.of na.net,rfl,?_⟩;refine⟨_,rfl,r,fr,L,C,N,rfl,ok,na,λM H1 W hM hz _ _=>?_⟩;obtain⟨d,rfl,U⟩:=aX ok hz hM;have X:=aY ok U;refine⟨d,rfl,by lia,?_⟩;have R:=na.tups (Tups.of W);refine⟨_,rfl,N.lanes,rfl,by lia,by lia,λl x=>?_⟩;refine ow (lo:=0) (n:=((N.lanes:Nat):Int).toNat) (λi acc σ p=>(∃ v,σ=[v,some (.ref r),some (.int N.lanes),some (.int (pw d))])/\Same H1 p/\p l=some (.lst acc)/\acc.length=i/\∀ g,g<i->∃ a,acc[g]?=some (.ref a)/\p a=some (.tup ((zp N (yF N.lanes g (pw d))).map V.int))) ⟨⟨_,rfl⟩,zD x _,zH,rfl,λg h=>absurd h (ZB _)⟩ (λi acc σ p q=>q.2.2.1) ?_ ?_
 ·rintro i acc σ p hi ⟨⟨v,rfl⟩,u,J,al,y⟩
  have il:i<N.lanes:=by lia
  refine⟨_,rfl,_,rfl,_,rfl,_,rfl,N.lanes,i,pw d,by rw[Int.zero_add];rfl,il,S,λc H3 j hc=>?_⟩;refine⟨r,fr,L,C,N,c,_,rfl,ok,R.tups (Tups.of (u.trans j)),hc,qM _ _ _,λe H4 B he=>?_⟩;have I:=B _ _ (j _ _ J);refine⟨I,by rw[al];exact Jz (show i<1000 by lia) (by decide),nx (by lia) ⟨⟨_,rfl⟩,λb o z=>?_,zH,by simp[al],λg T=>?_⟩⟩
  ·rw[zK (zJ z x)];exact B _ _ (j _ _ (u b o z))
  ·by_cases z:g=i
   ·subst z
    exact⟨e,by rw[Yv (by lia),al,Nat.sub_self];rfl,Tups.lst I _ _ he⟩
   ·obtain⟨a,O,m⟩:=y g (by lia)
    exact⟨a,by rw[Yn (by lia)];exact O,Tups.lst I _ _ (B _ _ (j _ _ m))⟩
 ·rintro acc σ p ⟨⟨v,rfl⟩,u,J,al,y⟩
  have Z:((N.lanes:Nat):Int).toNat=N.lanes:=by lia
  rw[Z]at al y;refine⟨l,_,rfl,.inl ⟨SqL.of J,λq hq=>?_⟩⟩;have j:=zD hq (.tup acc)
  exact k q d acc _ ((W.trans u).trans j) U zH al λg x=>by
   obtain⟨a,O,m⟩:=y g x;exact⟨a,O,j _ _ m⟩
abbrev qY:Stmt:=top 26
abbrev qZ:Stmt:=top 25
abbrev qf:Stmt:=top 24
def Alike (xs:List Int)(one other:Nat):Prop:=∀ i j,i<j->j<xs.length->(i<one\/i=one/\j<other)->xs.getD i 0=xs.getD j 0
def FirstU (xs:List Int)(one other:Nat):Prop:=one<other/\other<xs.length/\xs.getD one 0≠xs.getD other 0/\Alike xs one other
def Even (xs:List Int):Prop:=∀ i j,i<j->j<xs.length->xs.getD i 0=xs.getD j 0
def tD:Sp:=λc H Q _=>∃ (a:JI) (b:List Int),c=[.ref a]/\H a=some (.tup (b.map V.int))/\b.length<=16/\(Even b->Q .non H)/\∀ one other p,FirstU b one other->H p=none->Q (.ref p) (L2.upd H p (.tup [.int (one:Nat),.int (other:Nat)]))
def tE:Sp:=λc H Q _=>∃ r fr f e N b ls,c=[.ref r,.ref b]/\Nt.Ok N/\NetAt H r fr f e N/\H b=some (.tup (zU ls))/\(∀ x∈ls,x<N.lanes) /\
 (∀ d a,IsTop N d->(∀ q,∀ h:q<ls.length,Even (zp N (yF N.lanes ls[q] (pw d))))->Same H a->Q .non a) /\
 ∀ d k,∀ h:k<ls.length,∀ (one other:Nat) p a,IsTop N d->(∀ q,q<k->∀ g:q<ls.length,Even (zp N (yF N.lanes ls[q] (pw d))))->FirstU (zp N (yF N.lanes ls[k] (pw d))) one other->Same H a->a p=some (.tup [.int ls[k],.int one,.int other])->Q (.ref p) a
def tN:Sp:=λc H Q _=>∃ r fr f e N b ls,c=[.ref r,.ref b]/\Nt.Ok N/\NetAt H r fr f e N/\H b=some (.tup (zU ls))/\(∀ x∈ls,x<N.lanes) /\
 (∀ d a,IsTop N d->(∀ q,∀ h:q<ls.length,Even (zp N (yF N.lanes ls[q] (pw d))))->Same H a->Q (.bl true) a) /\
 ∀ d k,∀ h:k<ls.length,∀ (one other:Nat) a,IsTop N d->(∀ q,q<k->∀ g:q<ls.length,Even (zp N (yF N.lanes ls[q] (pw d))))->FirstU (zp N (yF N.lanes ls[k] (pw d))) one other->Same H a->Q (.bl false) a
theorem ai:FnScope ["share","one","other"] ["share"] (zR qY):=by trivial
theorem ja {f:JI}{fd:Yl}(F:Fun K "unlike_pair" "unlike_pair" qY f fd) (G:Mgs mg):FnOk P w K mg base CX0 1 f fd ["share"] tD:=by
 refine F.ok ai (λt H Q E h=>?_) (λI A outer s H t Q E J h=>?_)
 ·obtain⟨a,b,rfl,_⟩:=h
  rfl
 obtain⟨a,b,rfl,m,D,v,u⟩:=h;refine⟨_,(@zE _ _ _ _ _ (@yo _ _ _ _ _ _ _ _ JP rfl (@yc _ _ _ _ _ _ rfl G.range (@zA _ _ _ _ _ (@zc _ _ _ _ _ _ _ _ _ zk rfl G.len JY (@zA _ _ _ _ _ (@pvb _ 0 _ _ rfl) zC rfl) (by decide) (by decide) rfl rfl) zC rfl) rfl) (@zN _ _ 1 _ ai.nd rfl (.inl rfl) (by trivial)) (@zM _ _ _ (@yo _ _ _ _ _ _ _ _ JP rfl (@jY _ _ _ _ _ _ _ rfl G.range (@zA _ _ _ _ _ (@zS _ _ _ _ _ _ _ _ yQ (@pvb _ 1 _ _ rfl) zG) (@zA _ _ _ _ _ (@zc _ _ _ _ _ _ _ _ _ zk rfl G.len JY (@zA _ _ _ _ _ (@pvb _ 0 _ _ rfl) zC rfl) (by decide) (by decide) rfl rfl) zC rfl) rfl) rfl rfl) (@zN _ _ 2 _ ai.nd rfl (.inl rfl) (by trivial)) (@zM _ _ _ (@yV _ _ _ _ _ _ _ _ (@zq _ _ _ _ _ _ _ _ kD (@zX _ _ _ _ _ _ _ yA (@pvb _ 0 _ _ rfl) (@pvb _ 1 _ _ rfl) (λ_ _=>rfl)) (@zX _ _ _ _ _ _ _ yA (@pvb _ 0 _ _ rfl) (@pvb _ 2 _ _ rfl) (λ_ _=>rfl)) (yI _)) (@zM _ _ _ (@zW _ _ _ _ (@zj _ _ _ _ _ (@zA _ _ _ _ _ (@pvb _ 1 _ _ rfl) (@zA _ _ _ _ _ (@pvb _ 2 _ _ rfl) zC rfl) rfl)))) zx)) (by intro _;rfl))) (by intro _;rfl)) (@zM _ _ _ (@zW _ _ _ _ wP))),?_⟩;refine⟨_,rfl,a,_,rfl,.inr (SqT.of m),_,rfl,by rw[Jc];lia,by rw[Jc];lia,?_⟩;rw[Jc];refine y0 (lo:=0) (n:=((b.length:Nat):Int).toNat) (λi σ l=>l=H/\(∃ o d,σ=[some (.ref a),o,d])/\Alike b i 0) ⟨rfl,⟨_,_,rfl⟩,λi j _ _ h=>by lia⟩ ?_ ?_
 ·rintro i σ l M ⟨rfl,⟨o,d,rfl⟩,al⟩
  have x:i<b.length:=by lia
  rw[Int.zero_add];refine⟨_,rfl,_,_,rfl,rfl,_,rfl,a,_,rfl,.inr (SqT.of m),_,_,rfl,⟨by lia,by lia,by rw[Jc];lia,by rw[Jc];lia⟩,?_⟩;rw[Jc];refine y0 (lo:=(i:Int)+1) (n:=((b.length:Int)-((i:Int)+1)).toNat) (λj σ C=>C=l/\(∃ d,σ=[some (.ref a),some (.int i),d])/\Alike b i (i+1+j)) ⟨rfl,⟨_,rfl⟩,?_⟩ ?_ ?_
  ·intro p q k g h
   exact al p q k g (by lia)
  ·rintro j σ l L ⟨rfl,⟨d,rfl⟩,c⟩
   have r:i+1+j<b.length:=by lia
   have B:(i:Int)+1+(j:Int)=((i+1+j:Nat):Int):=by lia
   rw[B];refine⟨_,rfl,_,rfl,a,_,_,_,rfl,rfl,SqT.of m,xI x,_,rfl,_,rfl,a,_,_,_,rfl,rfl,SqT.of m,xI r,rfl,_,rfl,?_⟩;by_cases e:b.getD i 0=b.getD (i+1+j) 0
   ·rw[show (!decide (V.int (b.getD i 0)=V.int (b.getD (i+1+j) 0)))=false from by rw[JC (by rw[e])];rfl]
    refine xX ⟨rfl,⟨_,rfl⟩,λp q k g h=>?_⟩;by_cases z:p=i/\q=i+1+j
    ·rw[z.1,z.2];exact e
    ·exact c p q k g (by lia)
   ·rw[show (!decide (V.int (b.getD i 0)=V.int (b.getD (i+1+j) 0)))=true from by rw[Jt (λz=>e (V.int.inj z))];rfl]
    exact wE ⟨_,rfl,_,rfl,(by show 2<=sizeLine;decide),λp y=>u i (i+1+j) p ⟨by lia,r,e,c⟩ y⟩
  ·rintro σ l ⟨rfl,⟨d,rfl⟩,c⟩
   refine⟨rfl,⟨_,_,rfl⟩,λp q k g h=>?_⟩;exact c p q k g (by lia)
 ·rintro σ l ⟨rfl,⟨o,d,rfl⟩,al⟩
  exact v λp q k g=>al p q k g (.inl (by lia))
theorem cY:FnScope ["net","some","told","lane","pair"] ["net","some"] (zR qZ):=by trivial
theorem jb {f V U:JI}{fd X dI:Yl}(F:Fun K "uneven" "uneven" qZ f fd) (G:Mgs mg) (Z:Use P w K mg base "shares" ["net"] 3 tJ V X) (Y:Use P w K mg base "unlike_pair" ["share"] 1 tD U dI):FnOk P w K mg base CX0 4 f fd ["net","some"] tE:=by
 refine F.ok cY (λI H Q E h=>?_) (λaE A outer s H I Q E C h=>?_)
 ·obtain⟨r,fr,D,B,N,e,ls,rfl,_⟩:=h
  rfl
 obtain⟨r,fr,D,B,N,e,ls,rfl,ok,na,c,o,L,J⟩:=h;have u:Room 1 _:=C.mono (by decide);refine⟨_,(@zE _ _ _ _ _ (@zV _ _ 2 _ _ _ _ cY.nd rfl (.inl rfl) (@zQ _ _ _ _ _ _ _ _ _ _ _ _ Z C (@zA _ _ _ _ _ (@pvb _ 0 _ _ rfl) zC rfl) rfl rfl rfl rfl) rfl (by trivial)) (@zE _ _ _ _ _ (@yo _ _ _ _ _ _ _ _ JP rfl (@wO _ _ _ _ (@pvb _ 1 _ _ rfl)) (@zN _ _ 3 _ cY.nd rfl (.inl rfl) (by trivial)) (@zE _ _ _ _ _ (@zV _ _ 4 _ _ _ _ cY.nd rfl (.inl rfl) (@zQ _ _ _ _ _ _ _ _ _ _ _ _ Y u (@zA _ _ _ _ _ (@zX _ _ _ _ _ _ _ yA (@pvb _ 2 _ _ rfl) (@pvb _ 3 _ _ rfl) (λ_ _=>rfl)) zC rfl) rfl rfl rfl rfl) rfl (by trivial)) (@zM _ _ _ (@yV _ _ _ _ _ _ _ _ (@zq _ _ _ _ _ _ _ _ bG (@pvb _ 4 _ _ rfl) wP rfl) (@zM _ _ _ (@zW _ _ _ _ (@zj _ _ _ _ _ (@zA _ _ _ _ _ (@pvb _ 3 _ _ rfl) (@zA _ _ _ _ _ (@zX _ _ _ _ _ _ _ yA (@pvb _ 4 _ _ rfl) zG (λ_ _=>rfl)) (@zA _ _ _ _ _ (@zX _ _ _ _ _ _ _ yA (@pvb _ 4 _ _ rfl) zG (λ_ _=>rfl)) zC rfl) rfl) rfl)))) zx))) (by intro _;rfl)) (@zM _ _ _ (@zW _ _ _ _ wP)))),?_⟩;have ab:=ok.l16;refine⟨_,rfl,r,fr,D,B,N,rfl,ok,na,λp d ss H1 g y R sl O=>?_⟩;refine⟨_,rfl,e,rfl,⟨_,SqT.of (g _ _ c)⟩,?_⟩;refine uF (K:=K) (a:=e) (xs:=zU ls) (λi σ b=>(∃ m l,σ=[some (.ref r),some (.ref e),some (.ref p),m,l])/\b=H1/\∀ q,q<i->∀ h:q<ls.length,Even (zp N (yF N.lanes ls[q] (pw d)))) ⟨⟨_,_,rfl⟩,rfl,λq h=>absurd h (ZB _)⟩ (λi σ b _ q=>q.2.1 ▸ SqT.of (g _ _ c)) ?_ ?_
 ·rintro i x σ b j ⟨⟨m,l,rfl⟩,rfl,ev⟩
  have n:i<ls.length:=by have:=(Jd.mp j).1;rwa [zd]at this
  have ex:x=.int ls[i]:=by
   unfold zU at j;rw[JF,J2 n]at j;exact(Jj j).symm
  subst ex;have lt':=o _ (JA n);obtain⟨a,W,S⟩:=O _ lt';have el:(zp N (yF N.lanes ls[i] (pw d))).length=N.lanes:=by unfold zp;rw[Jc];exact uH ok
  refine⟨_,rfl,_,rfl,p,_,_,_,rfl,rfl,SqT.of R,yL W,a,_,rfl,S,by lia,λv=>?_,λone other q T k=>?_⟩
  ·refine⟨_,rfl,rfl,_,rfl,xX ⟨⟨_,_,rfl⟩,rfl,λq k h=>?_⟩⟩
   by_cases z:q=i
   ·subst z;exact v
   ·exact ev q (by lia) h
  ·refine⟨_,rfl,rfl,_,rfl,wE ⟨_,rfl,_,rfl,q,_,_,_,rfl,rfl,SqT.of zH,rfl,_,rfl,q,_,_,_,rfl,rfl,SqT.of zH,rfl,(by show 3<=sizeLine;decide),λt M=>?_⟩⟩
   exact J d i n one other t _ y (λq k h=>ev q k h) T ((g.trans (zD k _)).trans (zD M _)) zH
 ·rintro σ b ⟨⟨m,l,rfl⟩,rfl,ev⟩
  rw[zd]at ev;exact L d b y (λq h=>ev q h h) g
theorem zbM:FnScope ["net","some"] ["net","some"] (zR qf):=by trivial
theorem jo {f v:JI}{fd x:Yl}(F:Fun K "is_even" "is_even" qf f fd) (G:Mgs mg) (y:Use P w K mg base "uneven" ["net","some"] 4 tE v x):FnOk P w K mg base CX0 5 f fd ["net","some"] tN:=by
 refine F.ok zbM (λm H Q E h=>?_) (λz A outer s H m Q E q h=>?_)
 ·obtain⟨r,fr,l,j,N,i,ls,rfl,_⟩:=h
  rfl
 obtain⟨r,fr,l,j,N,i,ls,rfl,ok,na,g,e,o,n⟩:=h;refine⟨_,(@zM _ _ _ (@zW _ _ _ _ (@vC _ _ _ _ _ _ _ _ eB (@zQ _ _ _ _ _ _ _ _ _ _ _ _ y q (@zA _ _ _ _ _ (@pvb _ 0 _ _ rfl) (@zA _ _ _ _ _ (@pvb _ 1 _ _ rfl) zC rfl) rfl) rfl rfl rfl rfl) wP rfl))),?_⟩;refine⟨_,rfl,_,rfl,r,fr,l,j,N,i,ls,rfl,ok,na,g,e,λd c a ev b=>?_,λd k t one other p c a ev u b B=>?_⟩
 ·exact⟨rfl,o d c a ev b⟩
 ·exact⟨rfl,n d k t one other c a ev u b⟩
end
end K44
namespace Bn
open PySem L2 Own
theorem sW {α:Type}:∀ (xs:List α) (k:Nat) (h:k<xs.length),(xs[k]::xs.eraseIdx k).Perm xs
 | x::xs,0,_=>.refl _
 | x::xs,k+1,h=>by
  have a:k<xs.length:=by simpa using h
  have ih:=sW xs k a;exact(List.Perm.swap x xs[k] _).trans (ih.cons x)
end Bn
namespace L2
open PySem
theorem lL {c:TT}{d b u:TS}{D:Ends}{σ:St}{H:Hp}(I:St->Hp->Prop)(key:∀ σ H,I σ H->u D σ H)(h:∀ a:Ends,(∀ σ H,I σ H->a.nx σ H)->a.rt=D.rt->af c d b a σ H):uO (af c d b) u D σ H:=h { D with nx:=u D } key rfl
theorem zbw {v:V}{i:Nat}{u:TS}{D:Ends}{σ:St}{H:Hp}(h:u D (σ.set i (some v)) H):uO (cW (tC v) (xT i)) u D σ H:=h
theorem wd {H H':Hp}{x:JI}(s:Same H H')(h:H' x=none):H x=none:=by
 cases e:H x with
 | none=>rfl
 | some o=>rw[s _ _ e]at h;cases h
def aL (K:Jl):List V->Hp->VK->Prop:=λb H Q=>∃ p a,b=[V.ref p]/\(SqL K H p a\/SqT K H p a)/\Q (V.int a.length) H
theorem ir {X:Cx}:CallR X (.builtin "len") (aL X.K):=zk
end L2
namespace Bn
open PySem L2 Own
structure Pk3 (H:Hp) (l:JI):Prop where
 ex:∃ a b c:Int,H l=some (.lst [.int a,.int b,.int c])/\0<=a/\0<=b/\b<2 ^ 31
theorem Pk3.keep {H H':Hp}{l:JI}(S:Pk3 H l)(s:Same H H'):Pk3 H' l:=by
 obtain⟨a,b,c,h,r⟩:=S.ex;exact⟨a,b,c,s _ _ h,r⟩
theorem Pk3.lst {H:Hp}{l:JI}(S:Pk3 H l):∃ xs,H l=some (.lst xs):=by
 obtain⟨a,b,c,h,_⟩:=S.ex;exact⟨_,h⟩
theorem Pk3.ne {H:Hp}{l p:JI}(S:Pk3 H l)(h:H p=none):l≠p:=by
 obtain⟨a,e⟩:=S.lst;exact zJ e h
theorem Pk3.upd {H:Hp}{l p:JI}{o:HO}(S:Pk3 H l)(h:l≠p):Pk3 (upd H p o) l:=by
 obtain⟨a,b,c,e,r⟩:=S.ex;exact⟨a,b,c,by rw[zK h];exact e,r⟩
theorem But.tups3 {H H':Hp}{l:JI}(x:But l H H')(S:Pk3 H l):Tups H H':=λa b e=>x a _ e (by
 rintro rfl;obtain⟨_,z⟩:=S.lst
 rw[z]at e;cases e)
def qQ (K:Jl):Sp:=λc H Q _=>∃ (a:JI) (ns:List Int) (k:Int),c=[.ref a,.int k]/\SqL K H a (ns.map V.int)/\ns.length<=63/\0<=k/\k<=1000/\∀ l b,H l=none->Same H b->Pk3 b l->Q (.ref l) b
def xN:Sp:=λa H Q _=>∃ (l:JI) (m:Int),a=[.ref l,.int m]/\0<m/\m<1073741824/\Pk3 H l/\∀ (v:Nat) H',(v:Int)<m->Pk3 H' l->But l H H'->Q (.int v) H'
def uk:Sp:=λd H Q _=>∃ (l p:JI) (b:List V),d=[.ref l,.ref p]/\H p=some (.lst b)/\b.length<=100000/\Pk3 H l/\∀ t c a,c.Perm b->a t=some (.tup c)->Pk3 a l->But l H a->Q (.ref t) a
theorem rP {ys:List V}{f:List Nat}(p:ys.Perm (zU f)):∃ ds:List Nat,ys=zU ds/\ds.Perm f:=by
 have key:∀ {ys g:List V},ys.Perm g->∀ {f:List Nat},g=zU f->∃ ds:List Nat,ys=zU ds/\ds.Perm f:=by
  intro ys g p
  induction p with
  | nil=>intro f e;cases f with
   | nil=>exact⟨[],rfl,.refl _⟩
   | cons a b=>cases e
  | cons b _ ih =>
   intro f e
   cases f with
   | nil=>cases e
   | cons a g =>
    injection e with j e2;obtain⟨cs,i,h⟩:=ih e2
    exact⟨a::cs,by rw[i,j];rfl,h.cons _⟩
  | swap b c l =>
   intro f e
   cases f with
   | nil=>cases e
   | cons a g=>cases g with
    | nil=>cases e
    | cons d g =>
     injection e with j e2;injection e2 with e2 q
     exact⟨d::a::g,by rw[j,e2,q];rfl,.swap _ _ _⟩
  | trans _ _ m k =>
   intro f e;obtain⟨cs,i,h⟩:=k e;obtain⟨ds,o,n⟩:=m i;exact⟨ds,o,n.trans h⟩
 exact key p rfl
end Bn
namespace K44
open PySem L2 Own Bn
abbrev av:Stmt:=top 31
def gL (P:Yo)(w:YI):Sp:=λf H Q _=>∃ l as ls n,f=[.ref l]/\H l=some (.lst (as.map V.ref))/\LvsAt P w H as ls/\as.Nodup/\(∀ lv∈ls,∀ p∈lv,(∃ g e,p.1=plK g e/\e≠[])/\p.2.length=n)/\(ls.map List.length).sum<=500000/\xY 0 ls≠[] /\
 ∀ q c b a cs d,Same H d->d q=some (.tup [.int b,.ref c])->d c=some (.tup (cs.map V.int))->(-b)::a::cs∈xY 0 ls->(∀ x∈xY 0 ls,leR ((-b)::a::cs) x)->Q (.ref q) d
section
variable {P:Yo}{w:YI}{K:Jl}{mg:Str->Option Jo}{base:YP}
theorem cj:FnScope ["levels","turned","balls","counts"] ["levels"] (zR av):=by trivial
theorem zaq {f:JI}{fd:Yl}(F:Fun K "farthest" "farthest" av f fd) (G:Mgs mg):FnOk P w K mg base CX0 1 f fd ["levels"] (gL P w):=by
 refine F.ok cj (λvs H Q E h=>?_) (λbc A outer s H vs Q E hr h=>?_)
 ·obtain⟨l,as,ls,n,rfl,_⟩:=h
  rfl
 obtain⟨l,as,ls,n,rfl,hl,D,W,a0,bb,a4,k⟩:=h;refine⟨_,(@zE _ _ _ _ _ (@yM _ _ _ _ _ _ (fh (@zc _ _ _ _ _ _ _ _ _ (qG rfl true hr.units) rfl G.min rfl (@zA _ _ _ _ _ (@zaj _ _ _ _ _ _ none _ _ _ (kZ P w (gE 1)) (lO K 2 (uE (xT 0) (uE (xT 1) dk))) (lO K 2 (uE (xT 2) (uE (xT 3) dk))) _ _ ["balls","level","place","counts"] [none,none,none,none] rfl (@kA _ _ _ _ _ _ _ _ true rfl G.enum (@zA _ _ _ _ _ (@pvb _ 0 _ _ rfl) zC rfl) rfl) (CapOk.of (by kernel_rfl)) (λ_ _ _ _ _=>(@yN _ _ _ _ _ _ rfl (@zP _ _ _ _ _ (@zN _ _ 0 _ (show (["balls","level","place","counts"]:List Str).Nodup from by decide +kernel) rfl (.inl rfl) (.inr rfl)) (@zP _ _ _ _ _ (@zN _ _ 1 _ (show (["balls","level","place","counts"]:List Str).Nodup from by decide +kernel) rfl (.inl rfl) (.inr rfl)) zu rfl) rfl) rfl rfl)) (λ_ _ _ _ _=>(rO (@pvb _ 1 _ _ rfl))) (λ_ _ _ _ _=>(@yN _ _ _ _ _ _ rfl (@zP _ _ _ _ _ (@zN _ _ 2 _ (show (["balls","level","place","counts"]:List Str).Nodup from by decide +kernel) rfl (.inl rfl) (.inr rfl)) (@zP _ _ _ _ _ (@zN _ _ 3 _ (show (["balls","level","place","counts"]:List Str).Nodup from by decide +kernel) rfl (.inl rfl) (.inr rfl)) zu rfl) rfl) rfl rfl)) (λ_ _ _ _ _=>x5) (λ_ _ _ _ _=>(@zj _ _ _ _ _ (@zA _ _ _ _ _ (@fg _ _ _ _ _ _ nO (@zc _ _ _ _ _ _ _ _ (za9 K false) (vK rfl false) rfl G.max rfl (@zA _ _ _ _ _ (@zX _ _ _ _ _ _ (zba K) yA (@pvb _ 2 _ _ rfl) zG (λ_ _=>rfl)) zC rfl) (by decide) (by decide) rfl rfl)) (@zA _ _ _ _ _ (@pvb _ 0 _ _ rfl) (@zA _ _ _ _ _ (@pvb _ 3 _ _ rfl) zC rfl) rfl) rfl))) (by intro _;rfl) (by intro _ _;rfl)) zC rfl) (by decide) (by decide) rfl rfl)) (@yN _ _ _ _ _ _ rfl (@zP _ _ _ _ _ (@zN _ _ 1 _ cj.nd rfl (.inl rfl) (by trivial)) (@zP _ _ _ _ _ (@zN _ _ 2 _ cj.nd rfl (.inl rfl) (by trivial)) (@zP _ _ _ _ _ (@zN _ _ 3 _ cj.nd rfl (.inl rfl) (by trivial)) zu rfl) rfl) rfl) rfl rfl) rfl rfl rfl) (@zM _ _ _ (@zW _ _ _ _ (@zj _ _ _ _ _ (@zA _ _ _ _ _ (@fg _ _ _ _ _ _ nO (@pvb _ 1 _ _ rfl)) (@zA _ _ _ _ _ (@pvb _ 3 _ _ rfl) zC rfl) rfl))))),?_⟩;have al:as.length=ls.length:=Yr D;refine zB ⟨l,_,rfl,SqL.of hl,λR g=>?_⟩;have s1:=zD g (.lst []);refine iD (b:=true) (xs:=as.map V.ref) (λi acc σ d=>(∃ v0 v1 Y X,σ=[v0,v1,Y,X])/\(∀ b u,b∉as.take i->H b=some u->d b=some u)/\(∀ a∈as.take i,∃ o xs,H a=some (DN P w a xs)/\d a=some (.frz o (DN P w a xs)))/\d R=some (.lst acc)/\∃ bs:List JI,acc=bs.map V.ref/\TrisAt d bs (xY 0 (ls.take i))) ⟨⟨_,_,_,_,rfl⟩,λb u _ e=>s1 _ _ e,λa ha=>absurd ha Jm,zH,[],rfl,.nil⟩ (λi acc σ d z=>⟨z.2.2.2.1,SqL.of (z.2.1 _ _ (λy=>?_) hl)⟩) ?_ ?_
 ·obtain⟨xs,e⟩:=mx D (Zx y)
  rw[hl]at e;cases e
 ·rintro i acc σ d x T hx hT ⟨⟨v0,v1,Y,X,rfl⟩,Z,z2,h2,bs,rfl,I⟩
  rw[JF]at hx;obtain⟨a,ea,rfl⟩:=Yx.mp hx;have ia:i<as.length:=(Jd.mp ea).1;obtain⟨lv,el,xs,hd,le⟩:=oK D ea;have a6:lv∈ls:=Jw el;have am:a∈as:=Jw ea;have a3:=bX W ea;have tk:as.take (i+1)=as.take i++[a]:=by rw[<- Y8 ia,(Jd.mp ea).2]
  have tl:ls.take (i+1)=ls.take i++[lv]:=by rw[<- Y8 (show i<ls.length by lia),(Jd.mp el).2]
  have d2:=Z a _ a3 hd
  have t2:Tups H d:=λb C e=>Z b _ (λz=>by
   obtain⟨O,q⟩:=mx D (Zx z)
   rw[e]at q;cases q) e
  have S:R≠a:=λz=>by rw[z,hd]at g;cases g
  have s3:=zD hT (.tup [.int i,.ref a]);refine⟨T,_,rfl,SqT.of zH,rfl,_,_,rfl,_,_,rfl,rfl,?_⟩;refine zB ⟨a,xs,rfl,s3 _ _ d2,λo=>?_⟩;have aT:a≠T:=zJ d2 hT;have z4:L2.upd (L2.upd d T (.tup [.int i,.ref a])) a (.frz o (DN P w a xs)) a=some (.frz o (DN P w a xs)):=zH;have k4:∀ b u,b≠a->d b=some u->L2.upd (L2.upd d T (.tup [.int i,.ref a])) a (.frz o (DN P w a xs)) b=some u:=λb u n e=>by rw[zK n];exact s3 _ _ e
  generalize L2.upd (L2.upd d T (.tup [.int i,.ref a])) a (.frz o (DN P w a xs))=H4 at *;have bl:=Yr I;rw[jJ]at bl;have ll:=le.len
  have ba:bs.length+lv.length<=500000:=by
   have:=gI ls (i+1);rw[tl,JG,List.sum_append,<- bl]at this;have q:bs.length+lv.length<=(ls.map List.length).sum:=this;lia
  have t4:Tups H H4:=λb C e=>k4 b _ (λz=>by rw[z,hd]at e;cases e) (t2 _ _ e);refine mz (λj acc σ B=>(∃ Y X,σ=[some (.int i),some (.ref a),Y,X])/\(∀ b u,b≠R->H4 b=some u->B b=some u)/\B R=some (.lst acc)/\∃ cs:List JI,acc=(bs++cs).map V.ref/\TrisAt B cs ((lv.take j).map (jQ i))) ⟨⟨_,_,rfl⟩,λb u _ e=>e,k4 _ _ S h2,[],by rw[JT],.nil⟩ (λj acc σ B z=>⟨z.2.2.1,z.2.1 _ _ S.symm z4⟩) ?_ ?_
  ·rintro j p acc σ B U m hU ⟨⟨Y,X,rfl⟩,J,h5,cs,rfl,tc⟩
   obtain⟨r,c,ep,kp,ec,hc⟩:=le.at_ m;have jl:=(Jd.mp m).1;obtain⟨⟨ts,hs,a9,a8⟩,rn⟩:=a0 lv a6 _ (Jw ep);have N:p.1=plK ts hs:=a9;rw[N]at kp;obtain⟨t,u,L,ht,hu⟩:=aM kp;have aE:∀ {b:JI}{C:List V},H b=some (.tup C)->b≠R:=λe z=>by rw[z,g]at e;cases e
   have s6:=zD hU (.tup [.ref p.2.1,p.2.2]);have t6:Tups H (L2.upd B U (.tup [.ref p.2.1,p.2.2])):=λb C e=>s6 _ _ (J _ _ (aE e) (t4 _ _ e));refine⟨U,_,rfl,SqT.of zH,rfl,_,_,rfl,_,_,rfl,rfl,?_⟩;refine zB ⟨p.2.1,_,_,_,rfl,rfl,SqT.of (t6 _ _ L),rfl,?_⟩;refine⟨u,hs,rfl,SqT.of (t6 _ _ hu),Yp.mpr a8,λM mM lM=>⟨M,rfl,zB (zB ⟨by show 3<=sizeLine;decide,λq hq=>?_⟩)⟩⟩;have s7:=zD hq (.tup [.int (-M),.int i,p.2.2]);have a7:B q=none:=qw s6 hq;have l7:=s7 _ _ (s6 _ _ h5);have cl:=Yr tc;rw[Jc,Js]at cl;refine⟨l7,?_,nx jl ⟨⟨_,_,rfl⟩,λb v n e=>?_,zH,cs++[q],?_,?_⟩⟩
   ·rw[Jc,Jb,Ju];lia
   ·rw[zK n];exact s7 _ _ (s6 _ _ (J b v n e))
   ·rw[<- Y0,JG (l₁:=bs++cs)];rfl
   ·rw[<- Y8 (show j<lv.length by lia),JG (l₁:=lv.take j),List.map_singleton]
    have t8:Tups B (L2.upd (L2.upd (L2.upd B U (.tup [.ref p.2.1,p.2.2])) q (.tup [.int (-M),.int i,p.2.2])) R (.lst ((bs++cs).map V.ref++[.ref q]))):=λb C e=>by
     rw[zK (x8 e h5 λz=>by cases z)];exact s7 _ _ (s6 _ _ e)
    refine Paired.snoc (TrisAt.tups t8 tc) ⟨-M,i,c,r,?_,t8 _ _ (J _ _ (aE hc) (t4 _ _ hc)),?_⟩
    ·rw[zK (zJ h5 a7).symm,zH,ec]
    ·have:lv[j]'(by lia)=(p.1,r):=(Jd.mp ep).2
     rw[this];show _::_::r = -M::(i:Int)::r;rw[N,show wg (o6 (plK ts hs))=M from vE mM lM]
  ·rintro acc σ B ⟨⟨Y,X,rfl⟩,J,h5,cs,rfl,tc⟩
   rw[ll,JV]at tc;refine nx (by rw[Jc];exact ia) ⟨⟨_,_,_,_,rfl⟩,λb v n e=>?_,λb L=>?_,h5,bs++cs,rfl,?_⟩
   ·rw[tk]at n
    have n1:b∉as.take i:=λz=>n (Y6 _ z);have n2:b≠a:=λz=>n (by rw[z];exact Jv _ (.head _));exact J _ _ (λz=>by rw[z,g]at e;cases e) (k4 _ _ n2 (Z _ _ n1 e))
   ·rw[tk]at L
    rcases Jr.mp L with z|z
    ·obtain⟨o',C,e1,e2⟩:=z2 b z
     exact⟨o',C,e1,J _ _ (λy=>by rw[y,g]at e1;cases e1) (k4 _ _ (λy=>a3 (y ▸ z)) e2)⟩
    ·rw[Ja.mp z]
     exact⟨o,xs,hd,J _ _ S.symm z4⟩
   ·rw[tl,uw]
    refine sE (TrisAt.tups (λb C e=>J _ _ (λz=>by rw[z,h2]at e;cases e) (k4 _ _ (λz=>by rw[z,d2]at e;cases e) e)) I) ?_;rw[Nat.zero_add,Js,YY (by lia)];exact tc
 ·rintro acc σ d ⟨-,Z,z2,h2,bs,rfl,I⟩
  rw[Jc,JV]at Z z2;rw[Jc,JK (by lia)]at I
  have bne:bs≠[]:=λz=>by
   rw[z]at I;have:=Yr I;exact a4 (Zg.mp this.symm)
  obtain⟨b,r,eb,L,rm,a5⟩:=iw I bne;obtain⟨i,j,c,x,h3,h4,rfl⟩:=L;refine⟨R,_,2,aB d,rfl,SqL.of h2,by rw[Jc];exact Yp.mpr bne,by decide,cQ (n:=n+2) I (λr hr=>?_),?_⟩
  ·obtain⟨i,lv,p,h1,h2,rfl⟩:=uL hr
   have:=(a0 lv (Jw h1) p h2).2;show p.2.length+1+1=_;lia
  rw[eb]
  obtain⟨O,ez,hz⟩:=oH (p:=λa xs=>H a=some (DN P w a xs)/\∃ o,d a=some (.frz o (DN P w a xs))) λa ha=>by
   obtain⟨o,xs,e1,e2⟩:=z2 a ha;exact⟨xs,e1,o,e2⟩
  refine⟨O,by rw[ez];exact W,λp m=>⟨p.2,(hz p m).1⟩,λp m=>(hz p m).2,?_⟩;have no:∀ b,b∉as->vO P w O d b=d b:=λb L=>ux λp m z=>L (by rw[<- ez];exact Jn.mpr ⟨p,m,z⟩)
  have s9:Same H (vO P w O d):=λb u e=>by
   by_cases z:b∈as
   ·rw[<- ez]at z
    obtain⟨p,m,rfl⟩:=Jn.mp z;rw[pV (by rw[ez];exact W) m,<- (hz p m).1];exact e
   ·rw[no b z];exact Z b u z e
  have t9:Tups d (vO P w O d):=λb C e=>by
   rw[no b λz=>?_]
   ·exact e
   ·obtain⟨o,xs,_,e2⟩:=z2 b z
    rw[e]at e2;cases e2
  show lO _ _ _ _ _ (vO P w O d) _;generalize vO P w O d=H3 at *;refine⟨b,_,rfl,SqT.of (t9 _ _ h3),rfl,_,_,rfl,_,_,rfl,_,_,rfl,rfl,?_⟩;refine zB ⟨i,rfl,zB ⟨by show 2<=sizeLine;decide,λq hq=>?_⟩⟩;have ab:=zD hq (.tup [.int (-i),.ref c]);refine k q c (-i) j x _ (s9.trans ab) zH (ab _ _ (t9 _ _ h4)) ?_ ?_
  ·rw[Int.neg_neg];exact rm
  ·rw[Int.neg_neg];exact a5
end
end K44
namespace L2
open PySem PySem.Spec PyProof.Rows
theorem iV {M:Model}{A:YO}{E:Jo->JO->Prop}{K:Jl}{s:JO}{c L:JI}{a:Obj}{cls:Jo}{b:Bool}{Q:Bool->JO->Prop}(X:K.In s.heap)(f:s.heap.get? c=some a)(g:a.cls=cls)(e:PySem.W.exmOne K cls (.ref L)=some b)(q:Q b s):wpAny M A (excMatches (.ref c) (.ref L)) Q E s :=
 PySem.W.exm_one X (λl i j h k d=>wpAny_typeOf_ref (k _ _ f) (by rw[g];exact d)) e A Q E s (λ_ _ z=>z) q
abbrev Cx.held (X:Cx)(e:JI):Cx:={ X with A:=X.A.mark (some (.ref e)),calm:=false }
section
variable {X:Cx}{pins:List (JI × Obj)}{σ:St}{H:Hp}{s:JO}
theorem Cx.Ok.held (ok:X.Ok)(e:JI):(X.held e).Ok:=⟨ok.mod,ok.kind,ok.glob,ok.blt,ok.above,ok.inj,ok.has,ok.cab,(λz=>nomatch z),ok.frames,ok.stk,ok.exf,ok.bs,ok.bsz,ok.noex,ok.exfs,ok.funs,ok.frf⟩
theorem Inv.held (I:Inv X pins σ H s)(e:JI):Inv (X.held e) pins σ H s:=⟨I.ok.held e,I.os,I.bare,I.base,I.loc,I.cell,I.free,I.freeC,I.pin,I.hok,I.len⟩
theorem Inv.unheld {e:JI}(ok:X.Ok)(I:Inv (X.held e) pins σ H s):Inv X pins σ H s:=⟨ok,I.os,I.bare,I.base,I.loc,I.cell,I.free,I.freeC,I.pin,I.hok,I.len⟩
def behind (i:Nat)(D:Ends):Ends:={ nx:=λσ H=>D.nx (σ.set i none) H,rt:=D.rt,bk:=λσ H=>D.bk (σ.set i none) H,ct:=λσ H=>D.ct (σ.set i none) H }
end
structure AtTry (X:Cx):Prop where
 st:X.stack=X.env::X.outer/\X.env.frame=some X.env.locals/\X.ex=[]
 nox:∀ e s,X.xe e s->False
structure XAt (X:Cx) (cn:Str) (L:JI):Prop where
 gl:Gl X cn
 mg:X.mg cn=some (.ref L)
 db:(cn == ("__debug__":Str))=false
section
variable {X:Cx}{k:Nat}{f:JI}{fd:Yl}{ps:List Str}{sp:Sp}{x:Str}{p pos:Pos}{e:Expr}{es:List Expr}{t:TA}
theorem zbv {pins:List (JI × Obj)}{s:JO}{σ:St}{H:Hp}{Q:VK}{E:XK}(F:FnOk X.prog X.w X.K X.mg X.base (CX1 X.prog X.w) k f fd ps sp) (l:Room k X.A) (v:Gl X x) (m:X.mg x=some (.ref f)) (o:PySem.W.keepIn X.K (.ref f)=true) (hb:Binds X.K fd ps [])
  (j:∀ e s,X.xe e s->False) (ha:PA X (e::es) t) (i:(x == ("__debug__":Str))=false) (w:starEach (e::es) X.env=(false,eval e X.env)::starEach es X.env) (g:(backTo pos (starEach es X.env)).any (·.1)=false)
  (I:Inv X pins σ H s) (h:t σ H λvs a=>sp vs a Q E) :
  wpAny (model X.prog X.w) X.A (eval (.Call (.Name x p) (e::es) [] pos) X.env) (EP X pins σ Q) (λev s'=>∃ a s1,Inv X pins σ a s1/\CX1 X.prog X.w X.stack a s1 E ev s') s:=by
 refine Yt (uC I v m ?_ i);refine PySem.W.callWith_K (h₀:=X.base) I.ok.mod.kin o (JB (ha pos pins s σ H _ I h) (λd s1 ⟨vs,a,c,r,q⟩=>⟨c.kIn,?_⟩) λev s1 z=>(j ev s1 z).elim) w g;have n:(d++([]:List Jo)).length=ps.length:=by rw[JT,<- r.length];exact F.len _ _ _ _ q
 have bd:=hb s1 d c.kIn n;rw[JT]at bd;refine wpAny_call (ZE (F.run X.A X.stack s1 a ⟨d,[]⟩ d vs Q E l c.env0 bd r q) λres s' b=>?_)
 cases res with
 | error ev=>exact⟨a,s1,c,b⟩
 | ok y =>
  cases y with
  | ret u=>exact c.after b
  | next=>exact b.elim
  | brk=>exact b.elim
  | cont=>exact b.elim
end
abbrev bmV:List Jo:=[.type "ValueError",.type "Exception",.type "BaseException",.type "object"]
theorem gn {M:Model}{A:YO}{E:Jo->JO->Prop}{s:JO}{env:Env}{x:Sem Jo}{Q:Flow->JO->Prop}{nm q:Str}{C N:JI}{bs bm sub:List Jo}{hdct ab:Bool}{sn:List Str}{col:Option Bool}{dd:Option JI}{k0 k1 k2 k3 k5:Option Jo}{newId:String}
  (hb:(Value.ref C::bm).contains (.type "BaseException")=true) (m:A.handled=none)
  (h:wpAny M A x (λv s1=>∃ e t dx,v=.ref e/\s1.heap.get? C=some (excClassObj nm q C N bs bm hdct sn sub ab col dd k0 k1 k2 k3 k5 newId)/\s1.heap.get? e=some { cls:=.ref C,dict:=dx,data:=.fields #[.ref t,.none,.none,.none,.bool false,.none] }/\E (.ref e) s1) E s):wpAny M A (raiseStmt env (some x) none) Q E s:=by
 unfold raiseStmt;refine J0 (JB h (λv s1 z=>?_) λ_ _ z=>z);obtain⟨e,t,dx,rfl,l,f,n⟩:=z;obtain⟨d,g,i,c,os⟩:=s1
 have a:∀ {α:Type}{k:Bool->Sem α}{b:α->JO->Prop},wpAny M A (k false) b E ⟨d,g,i,c,os⟩->wpAny M A (isType (.ref e) >>= k) b E ⟨d,g,i,c,os⟩:=λz=>by
  unfold isType loadHead;exact J0 (J0 (wpAny_loadPart f (J9 z)))
 have j:∀ {α:Type}{k:Bool->Sem α}{b:α->JO->Prop},wpAny M A (k true) b E ⟨d,g,i,c,os⟩->wpAny M A (isInstance (.ref e) (.type "BaseException") >>= k) b E ⟨d,g,i,c,os⟩:=λz=>by
  unfold isInstance;refine J0 (J0 (wpAny_typeOf_ref f ?_));show wpAny _ _ (isSubtype (.ref C) (.type "BaseException")) _ _ _;refine wpAny_isSubtype_exc l ?_;rw[hb];exact z
 refine J0 (J9 ?_);refine J0 (Y2 ?_);unfold excFromValue isExcClass;refine J0 (a (J9 ?_));show wpAny _ _ (isInstance (.ref e) (.type "BaseException") >>= _) _ _ _;refine j (J9 ?_);show wpAny _ _ (isType (.ref e) >>= _) _ _ _;refine a ?_;show wpAny _ _ (raisedInstance (.ref e) >>= _) _ _ _;unfold raisedInstance;refine J0 (J0 (wpAny_typeOf_ref f ?_));show wpAny _ _ (typeOf (.ref C) >>= _) _ _ _;refine J0 (wpAny_typeOf_ref l ?_);show wpAny _ _ (if (Value.type "type" == Value.type "type")=true then _ else _) _ _ _;rw[Jq (by decide)];refine J9 ?_;unfold setFlight;refine J0 (J0 (YL f rfl rfl ?_));show wpAny _ _ (if (Value.none != Value.none)=true then _ else _) _ _ _;rw[Jg (by decide)];exact J9 (wpAny_raiseNew_none m n)
theorem bV {K:Jl}{h:YP}{N:JI}{m:Str->Option Jo}{n:Str}(X:K.In h)(G:h.Ns N m)(e:PySem.W.nsIn K N n=some none):m n=none:=by
 obtain⟨ob,a,i,go,j,_,g⟩:=G;unfold PySem.W.nsIn at e;rw[<- g n];unfold nsFind findBy
 cases b:K.lookup N with
 | none=>rw[b]at e;cases e
 | some d =>
  have same:=Jj ((X _ _ b).symm.trans go);subst same;obtain⟨p,o,k,l⟩:=d;obtain rfl:k=.dict a i:=j;rw[b]at e;replace e:(match a.toList.find? (·.key.isStr n) with|some c=>some (some c.val)|none=>if a.toList.any (·.refKey) then none else some none)=some none:=e;rw[<- Array.find?_toList]
  cases f:a.toList.find? (·.key.isStr n) with
  | none=>rfl
  | some c=>rw[f]at e;cases e
theorem ObjOk.there {P:Yo}{w:YI}{H:Hp}{h:YP}{a:JI}{o:HO}(x:ObjOk P w H h a o):∃ u,h.get? a=some u:=by
 cases o with
 | lst c=>obtain⟨_,_,_,_,e⟩:=x;exact⟨_,e⟩
 | tup c =>
  obtain⟨_,_,_,p⟩:=x;obtain⟨u,e,_⟩:=p.tup
  exact⟨u,e⟩
 | dK b=>obtain⟨_,_,_,_,u,_,_,e,_⟩:=x;exact⟨u,e⟩
 | dT b=>obtain⟨_,_,_,_,u,_,_,e,_⟩:=x;exact⟨u,e⟩
 | set S n=>obtain⟨u,_,_,_,e,_⟩:=x;exact⟨u,e⟩
 | ins C j fs=>obtain⟨_,_,_,e,_⟩:=x;exact⟨_,e⟩
 | own y=>exact x
 | xd fs=>obtain⟨_,⟨u,_,_,e,_⟩,_⟩:=x;exact⟨u,e⟩
 | rng lo i=>obtain⟨_,_,_,e⟩:=x;exact⟨_,e⟩
 | frz ob u=>exact⟨_,(show h.get? a=some ob/\_ from x).1⟩
 | tbl g=>exact⟨_,(show h.get? a=some _ from x)⟩
 | met f y=>exact⟨_,(show h.get? a=some _ from x)⟩
 | ext d=>obtain⟨_,e,_⟩:=x;exact e
structure XPln (K:Jl) (C L:JI):Prop where
 cl:∃ nm q N bs hd sn sub ab col dd k0 k1 k2 k3 k5,K.lookup C=some (excClassObj nm q C N bs (.ref L::bmV) hd sn sub ab col dd k0 k1 k2 k3 k5 "ValueError.__new__")/\PySem.W.nsOkIn K N=true/\PySem.W.nsIn K N "__init__" = some none
 tl:PySem.W.tailIn K bmV (.ref L::bmV)=true
 kp:PySem.W.keepIn K (.ref C)=true
def cU (C:JI)(E:XK)(t:TA):TS:=λ_ σ H=>t σ H λa b=>a.length<=sizeLine/\E (.ref C) none b
section
variable {P:Yo}{w:YI}{K:Jl}{mg:Str->Option Jo}{base:YP}{N:List Str}{qual:Str}{scope:Scope}{fn:JI}{cd:Jo}{A:YO}{outer:List Env}{s:JO}{H:Hp}{E:XK}
theorem jV {C L:JI}{cn:Str}{np cpos pos:Pos}{a:Expr}{t:TA}(O:XPln K C L) (gl:Gl (wT (CX1 P w) P w K mg base N qual scope fn cd A outer s H E) cn) (T:mg cn=some (.ref C)) (ha:PA (wT (CX1 P w) P w K mg base N qual scope fn cd A outer s H E).nox [a] t)
  (m:(cn == ("__debug__":Str))=false:=by decide) (U:starEach [a] (wT (CX1 P w) P w K mg base N qual scope fn cd A outer s H E).env=[(false,eval a (wT (CX1 P w) P w K mg base N qual scope fn cd A outer s H E).env)]:=by rfl) :
  PS (wT (CX1 P w) P w K mg base N qual scope fn cd A outer s H E) (.Raise (some (.Call (.Name cn np) [a] [] cpos)) none pos) (cU C E t):=by
 intro pins J σ Z D I h;obtain⟨nm,q,B,bs,V,sn,sub,ab,col,dd,k0,k1,k2,k3,k5,x,i,l⟩:=O.cl;rw[arm_exec_Raise];refine J0 (Yu ?_);refine gn (C:=C) (nm:=nm) (q:=q) (N:=B) (bs:=bs) (bm:=.ref L::bmV) (sub:=sub) (hdct:=V) (ab:=ab) (sn:=sn) (col:=col) (dd:=dd) (k0:=k0) (k1:=k1) (k2:=k2) (k3:=k3) (k5:=k5) (newId:="ValueError.__new__") (by rw[List.contains_cons,List.contains_cons];simp[bmV]) (I.ok.hd rfl) ?_;refine J0 (JB (?_:wpAny _ _ (eval (.Call (.Name cn np) [a] [] cpos) _) _ _ _) (λv s3 z=>J0 (Yu (J9 z))) λ_ _ z=>z);refine Yt (uC I gl T ?_ m);refine PySem.W.callWith_K (h₀:=base) I.ok.mod.kin O.kp (JB (ha cpos pins J σ Z _ (I.wish _) h) (λF u z=>?_) λ_ _ z=>z.elim) U rfl;obtain⟨vs,k,c,r,n,M⟩:=z;have c:=c.unwish;have b:=c.kIn;refine⟨b,?_⟩;have f:Heap.Ns u.heap B _:=.of_isNs (PySem.W.isNs_of_in b i);obtain⟨S,g,d,p,os⟩:=u;refine wpAny_call_exc_subU PySem.F.excBase_ValueError (by decide) PySem.F.excBase_ValueError (PySem.W.tail_of_in b O.tl) (b _ _ x) f (bV b f l) (λW e made=>?_) (by show F.length<=sizeLine;rw[<- r.length];exact n);obtain⟨G,ge,_,_⟩:=made.there;have y:S.get? e=none:=made.new
 have R:s.heap.get? e=none:=by
  cases q:s.heap.get? e with
  | none=>rfl
  | some o =>
   obtain⟨Q,j⟩:=c.base.there e o q (λz=>nomatch z);exact absurd (y.symm.trans j) (λz=>nomatch z)
 have X:k e=none:=by
  cases q:k e with
  | none=>rfl
  | some o =>
   obtain⟨Q,j⟩:=(c.hok e o q).there;exact absurd (y.symm.trans j) (λz=>nomatch z)
 have Y:Inv (wT (CX1 P w) P w K mg base N qual scope fn cd A outer s H E) pins σ k ⟨W,g,d,p,os⟩:=c.kept (t':=p) made.keeps;exact⟨e,G,none,rfl,made.keeps _ _ (b _ _ x),ge,cK Y ge rfl rfl R X M⟩
end
def lY (K:Jl)(L:JI)(ts:TS)(D:Ends)(σ:St):XK:=λcls b a=>∃ C,cls=.ref C/\PySem.W.exmOne K (.ref C) (.ref L)=some true/\ts D σ a
section
variable {X:Cx}{pins:List (JI × Obj)}{σ:St}
theorem aC {L:JI}{cn:Str}{W:Stmt}{c:List Stmt}{np A:Pos}{ts:TS}{D:Ends}{O:Hp}{s1 s2:JO}{ev:Jo}{rest:List ExceptHandler}(I:Inv X pins σ O s1) (hx:CX1 X.prog X.w X.stack O s1 (lY X.K L ts D σ) ev s2)
  (a:X.stack=X.env::X.outer/\X.env.frame=some X.env.locals/\X.ex=[]) (gC:Gl X cn) (mC:X.mg cn=some (.ref L)) (R:(cn == ("__debug__":Str))=false)
  (hs:∀ e,PSs (X.held e).nox (W::c) ts) {E:Jo->JO->Prop} :
  wpAny (model X.prog X.w) X.A (noteFrame ev X.env) (λ_ s3=>wpAny (model X.prog X.w) X.A (setFlight ev none) (λ_ Z=>wpAny (model X.prog X.w) X.A (handleBy ev X.env (.ExceptHandler (some (.Name cn np)) none (W::c) A::rest)) (SP X pins D) E Z) E s3) E s2:=by
 obtain⟨M,T,cls,dx,g,rfl,os,bare,un,w,fl,⟨n1,n2⟩,⟨f1,f2⟩,C,rfl,G,k⟩:=hx;have J:Inv X pins σ g s2:=I.call' os un w bare λb z=>absurd z (by simp);have fr:X.A.frames=some (X.env::X.outer):=by rw[<- a.1];exact I.ok.frames
 have fu:s2.heap.FunFrames X.base (X.env::X.outer):=by rw[<- a.1];exact J.stack
 refine eQ (B:=X.base) fr fu a.2.1 fl λh3 N s V S=>zay S λK p x=>?_
 have t:s1.heap.get? N=none:=by
  cases q:s1.heap.get? N with
  | none=>rfl
  | some o =>
   obtain⟨o',d⟩:=un.there N o q (by simp);exact absurd (Jh d) (Nat.not_lt.mpr V)
 have U:∀ b,(b=M\/b=T)->s1.heap.get? b=none/\g b=none:=by
  rintro b (q|q)
  ·rw[q];exact⟨n1,f1⟩
  ·rw[q];exact⟨n2,f2⟩
 have y:g N=none:=J.hok.fresh V;have m:Un (frs X.stack) [] O g s1.heap K:=(un.stp s (λb q=>(U b q).1) λb o _ P=>by rw[a.1];exact P).stp p (λb q=>by rw[q];exact t) (λ_ _ _ z=>nomatch z);have h:HOk X.prog X.w g K:=HOk.stp (HOk.stp w s (λb q=>(U b q).2) λb P=>J.stkFree b (by rw[a.1];exact P)) p (λb q=>by rw[q];exact y) λ_ z=>nomatch z;have Y:Inv X pins σ g { s2 with heap:=K }:=I.call' (s':={ s2 with heap:=K }) os m h bare λb z=>absurd z (by simp);obtain⟨oe,vs,oT,ab,he,⟨hc,aE⟩,hd,h1,ne,hT,aT,a0⟩:=id x;refine wpAny_handleBy_cons (codeAny_handlers_test (uC (Y.held M) gC mC (iV (b:=true) Y.kIn he hc G ?_) R)) (by intro q;cases q);refine codeAny_handlers_suite (zay x λH n a3=>?_);have Q:Un (frs X.stack) [] O g s1.heap H:=m.stp n (λb q=>by rw[q];exact t) (λ_ _ _ z=>nomatch z);have F:HOk X.prog X.w g H:=HOk.stp h n (λb q=>by rw[q];exact y) λ_ z=>nomatch z;have J5:Inv X pins σ g { s2 with heap:=H }:=I.call' (s':={ s2 with heap:=H }) os Q F bare λb z=>absurd z (by simp);refine JB (hs M pins _ _ _ D ((J5.held M).wish _) k) (λf s8 q=>?_) λ_ _ z=>z.elim;have ok:=I.ok
 cases f with
 | next=>obtain⟨l,j,i,d⟩:=q;exact⟨_,j,i.unwish.unheld ok,d⟩
 | brk=>obtain⟨l,j,i,d⟩:=q;exact⟨_,j,i.unwish.unheld ok,d⟩
 | cont=>obtain⟨l,j,i,d⟩:=q;exact⟨_,j,i.unwish.unheld ok,d⟩
 | ret u=>obtain⟨v,l,j,i,r,d⟩:=q;exact⟨v,_,j,i.unwish.unheld ok,r,d⟩
end
section
variable {X:Cx}{k:Nat}{f L:JI}{fd:Yl}{ps:List Str}{sp:Sp}{x cn:Str}{p cpos epos np hpos pos:Pos}{e:Expr}{es:List Expr}{t:TA}{b0:Stmt}{suite:List Stmt}{ts:TS}{rest:List ExceptHandler}
def aa (K:Jl)(j:Nat)(L:JI)(sp:Sp)(t:TA)(ts:TS):TS:=λD σ H=>t σ H λa c=>sp a c (λv b=>D.nx (σ.set j (some v)) b) (lY K L ts D σ)
theorem gz {j:Nat}{y:Str}{g:Pos}(W:AtTry X) (F:FnOk X.prog X.w X.K X.mg X.base (CX1 X.prog X.w) k f fd ps sp) (r:Room k X.A) (B:Gl X x) (u:X.mg x=some (.ref f)) (w:PySem.W.keepIn X.K (.ref f)=true) (hb:Binds X.K fd ps []) (ha:PA X (e::es) t)
  (C:XAt X cn L) (G:X.N.Nodup) (A:X.N[j]?=some y) (i:X.env.scope.names.lookup y=some .local) (hs:∀ e,PSs (X.held e).nox (b0::suite) ts)
  (d:(x == ("__debug__":Str))=false:=by decide) (E:starEach (e::es) X.env=(false,eval e X.env)::starEach es X.env:=by rfl) (c:(backTo cpos (starEach es X.env)).any (·.1)=false:=by rfl)
  (q:swapsWith (.Call (.Name x p) (e::es) [] cpos) (some (.Name y g)) epos.line X.env=pure false:=by rfl) :
  PS X (.Try [.Assign [.Name y g] (.Call (.Name x p) (e::es) [] cpos) epos] (.ExceptHandler (some (.Name cn np)) none (b0::suite) hpos::rest) [] [] pos) (aa X.K j L sp t ts):=by
 intro pins s σ H D I h;refine PySem.wpAny_Try_except (wpAny_execs_cons (wpAny_Assign_Name (JB (zbv F r B u w hb W.nox ha d E c I h) (λv n ⟨z,l,b,o,a⟩=>?_) λev m ⟨l,n,b,a⟩=>aC b a W.st C.gl C.mg C.db hs) q));exact xE b G A (.inl i) o (λm J=>Zy (Zy ⟨_,l,J,a⟩)) (.inr i)
end
end L2
namespace L2
open PySem PySem.Spec PyProof.Rows Own Bn
structure Rw (moves:List Nat) (n:Nat) (t:Int) (row:List Int):Prop where
 len:row.length=n
 nn:∀ x∈row,0<=x
 sum:row.sum=t
 oth:∀ i,i<n->i∉moves->row.getD i 0=0
theorem dO:∀ {row:List Int},(∀ x∈row,0<=x)->0<=row.sum/\∀ x∈row,x<=row.sum
 | [],_=>⟨by decide,λx b=>absurd b Jm⟩
 | a::row,h=>by
  obtain⟨h1,c⟩:=dO λx b=>h x (.tail _ b);have d:=h a (.head _);rw[List.sum_cons];refine⟨by lia,λx b=>?_⟩;rcases Jp.mp b with z|z
  ·lia
  ·have:=c x z;lia
end L2
namespace L2
open PySem PySem.Spec PyProof.Rows Own Bn
theorem lu {a u:TS}{D:Ends}{σ:St}{H:Hp}(I:St->Hp->Prop)(key:∀ σ H,I σ H->u D σ H)(h:∀ b:Ends,(∀ σ H,I σ H->b.nx σ H)->b.rt=D.rt->a b σ H):uO a u D σ H:=h { D with nx:=u D } key rfl
theorem zb1 {i:Nat}{v:V}{σ:St}{H:Hp}{a u:TS}{D:Ends}(R:VK)(h:uO a u D (σ.set i (some v)) H):(λx b=>xT i x σ b ({ nx:=uO a u D,rt:=R }:Ends).nx) v H:=h
section
variable {N:Nt}{moves:List Nat}{t:Int}{row:List Int}
theorem Rw.at (R:Rw moves N.lanes t row)(i:Nat):0<=row.getD i 0:=by
 rw[show row.getD i 0=row[i]?.getD 0 from J8]
 cases e:row[i]? with
 | none=>exact Zv _
 | some x=>exact R.nn x (Jw e)
theorem Rw.cnt (R:Rw moves N.lanes t row):wq (zL N) (mJ row)=row:=by
 refine x4 (by rw[uI,R.len]) λi a=>?_;rw[uI]at a;have b:(zL N).length=N.lanes:=Y4;have:=R.at i;rw[qA _ _ i (by simp_all),tj,cJ,Jq (by rw[R.len];exact a)];lia
theorem Rw.over (R:Rw moves N.lanes t row):Over moves (mJ row):=λm a=>by
 have:=List.count_pos_iff.mpr a;rw[tj,R.len]at this;by_cases z:m<N.lanes
 ·rw[Jq z]at this
  apply Classical.byContradiction;intro no;rw[R.oth m z no]at this;exact absurd this (by decide)
 ·rw[Jg z]at this;lia
end
theorem zad (n:Nat):1<=pw n:=by
 unfold pw;have:0<2 ^ n:=Nat.pow_pos (by decide);lia
theorem xM {N:Nt}(ok:N.Ok)(cs:List Int):(zp N cs).length=N.lanes:=by unfold zp;rw[Jc];exact uH ok
def AllSame (xs:List Int):Prop:=∀ i j,i<j->j<xs.length->xs.getD i 0=xs.getD j 0
def EvenAt (N:Nt)(d m:Nat):Prop:=AllSame (zp N (yF N.lanes m (pw d)))
def EvenOn (N:Nt)(moves:List Nat):Prop:=∃ d,IsTop N d/\∀ m∈moves,EvenAt N d m
theorem EvenOn.fewer {N:Nt}{ms ks:List Nat}(h:EvenOn N ms)(s:∀ m∈ks,m∈ms):EvenOn N ks:=by
 obtain⟨d,t,e⟩:=h;exact⟨d,t,λm a=>e m (s m a)⟩
theorem gA {N:Nt}{d e:Nat}(h:IsTop N d)(g:IsTop N e):d=e:=by
 have le:∀ {a b:Nat},IsTop N a->IsTop N b->a<=b:=λ{a b} x y=>by
  rcases Jp.mp x.2 with z|z
  ·have:(a:Int)=0:=z
   exact JQ (Nat.le_of_eq (Int.ofNat.inj this)) (JM _)
  ·have:=y.1 _ z
   exact Int.ofNat_le.mp this
 exact Nat.le_antisymm (le h g) (le g h)
theorem cm {xs:List Int}(h:AllSame xs){i:Nat}(hi:i<xs.length):xs.getD i 0=xs.getD 0 0:=by
 cases i with
 | zero=>rfl
 | succ i=>exact(h 0 (i+1) (Nat.succ_pos _) hi).symm
def yZ (xs:List Int):Int:=wg xs-uV xs
theorem oj {xs:List Int}(ne:xs≠[])(c:Int):uV (xs.map (· + c))=uV xs+c:=by
 obtain⟨a,b⟩:=pB ne;refine vD (Jn.mpr ⟨_,a,rfl⟩) λx e=>?_;obtain⟨y,d,rfl⟩:=Jn.mp e;have:=b y d;show uV xs+c<=y+c;lia
theorem om {xs:List Int}(ne:xs≠[])(c:Int):wg (xs.map (· + c))=wg xs+c:=by
 obtain⟨a,b⟩:=bf ne;refine vE (Jn.mpr ⟨_,a,rfl⟩) λx e=>?_;obtain⟨y,d,rfl⟩:=Jn.mp e;have:=b y d;show y+c<=wg xs+c;lia
theorem nY {xs:List Int}(ne:xs≠[])(c:Int):yZ (xs.map (· + c))=yZ xs:=by
 unfold yZ;rw[oj ne,om ne];lia
theorem eu {xs:List Int}:wS xs=xs.map (· + -(uV xs)):=YT λx _=>Int.sub_eq_add_neg
theorem bh {xs:List Int}(ne:xs≠[])(c:Int):wS (xs.map (· + c))=wS xs:=by
 unfold wS;rw[oj ne,List.map_map];exact YT λx _=>by show x+c-(uV xs+c)=x-uV xs;lia
theorem be {xs:List Int}(ne:xs≠[]):wg (wS xs)=yZ xs:=by
 rw[eu,om ne];rfl
theorem iz (xs:List Int)(i:Nat)(c v:Int)(h:i<xs.length):yB (xs.map (· + c)) i v=(yB xs i v).map (· + c):=by
 refine x4 (by rw[yD,Jc,Jc,yD]) λp a=>?_;rw[yD,Jc]at a
 have g:∀ {b:List Int},p<b.length->(b.map (· + c)).getD p 0=b.getD p 0+c:=λ{b} z=>by
  rw[J8,JF,J2 z,J8,J2 z];rfl
 rw[g (by rw[yD];exact a),yX (by rw[Jc];exact a),yX a,g a];split<;>lia
theorem bi {xs:List Int}{i:Nat}(h:i<xs.length):wS (yB (wS xs) i 1)=wS (yB xs i 1):=by
 have ne:yB xs i 1≠[]:=λz=>by
  have:=JL List.length z;rw[yD,Yh]at this;lia
 rw[eu (xs:=xs),iz _ _ _ _ h,bh ne]
section
variable {N:Nt}
def k0R (N:Nt):KN:=plK (zF N) (zL N)
theorem zab (ok:Nt.Ok N){row:List Nat}(a:∀ m∈row,m<N.lanes):∀ i,i<=row.length->wW (xZ N) (k0R N) (row.take i)=some (plK (pU N row i) (wS (zp N (wq (zL N) (row.take i)))))
 | 0,_=>by
  rw[List.take_zero];show some (k0R N)=some (plK (zF N) (wS (zp N (zL N))));have e:zp N (zL N)=List.replicate N.lanes 0:=iW N ok
  have l:wS (List.replicate N.lanes (0:Int))=List.replicate N.lanes 0:=by
   have ne:List.replicate N.lanes (0:Int)≠[]:=λz=>by
    have:=JL List.length z;have d:=ok.l1;rw[Y4,Yh]at this;lia
   have c:uV (List.replicate N.lanes (0:Int))=0:=List.eq_of_mem_replicate (pB ne).1;unfold wS;rw[c,List.map_replicate];rfl
  rw[e,l];rfl
 | i+1,h=>by
  have f:row.getD i 0<N.lanes:=by
   rw[J8,J2 h];exact a _ (JA _)
  have b:=passE_lt ok a h;rw[xD h,xJ,zab ok a i (by lia)];show xZ N (plK (pU N row i) _) (row.getD i 0)=_;rw[uz,bi (by rw[xM ok];exact b),rG N h,<- xD h,iX ok a h]
theorem Rw.place (ok:Nt.Ok N){moves:List Nat}{t:Int}{c:List Int}(b:∀ m∈moves,m<N.lanes)(R:Rw moves N.lanes t c){ks:List KN}(a:Shut (xZ N) moves (k0R N) ks):∃ k∈ks,wg (o6 k)=yZ (zp N c):=by
 obtain⟨k,f,e⟩:=a.run (mJ c) a.fst R.over;have r:=zab ok (row:=mJ c) (λm d=>b m (R.over m d)) (mJ c).length (Je _);rw[JV,e,R.cnt]at r;refine⟨k,f,?_⟩;rw[Jj r]
 exact be λz=>by
  have:=xM ok c;have g:=ok.l1;rw[z,Yh]at this;lia
theorem dq (ok:Nt.Ok N){d m:Nat}(b:IsTop N d)(ev:EvenAt N d m){cs:List Int}(lc:cs.length=N.lanes)(k:Int):∃ c,zp N (more cs (yF N.lanes m (pw d)) k)=(zp N cs).map (· + c):=by
 refine⟨k*(zp N (yF N.lanes m (pw d))).getD 0 0,?_⟩;rw[(lS ok lc b.1).1];refine x4 (by rw[yu,Jc]) λp a=>?_;rw[yu]at a;rw[yz a,cm ev (by rw[xM ok];rw[xM ok]at a;exact a),J8 (l:=List.map _ _),JF,J8,J2 a];rfl
theorem aA (ok:Nt.Ok N)(c:List Int):zp N c≠[]:=λz=>by
 have:=xM ok c;have a:=ok.l1;rw[z,Yh]at this;lia
theorem uf (ok:Nt.Ok N){d m:Nat}(a:IsTop N d)(ev:EvenAt N d m){cs:List Int}(lc:cs.length=N.lanes)(k:Int):yZ (zp N (more cs (yF N.lanes m (pw d)) k))=yZ (zp N cs):=by
 obtain⟨c,e⟩:=dq ok a ev lc k;rw[e,nY (aA ok _)]
theorem md {cs:List Int}{n m:Nat}{v k:Int}{i:Nat}(lc:cs.length=n)(a:m<n)(hi:i<n):(more cs (yF n m v) k).getD i 0=cs.getD i 0+k*if m=i then v else 0:=by
 rw[yz (by rw[lc];exact hi)];unfold yF;rw[yC (by rw[Y4];exact hi)];split
 ·rfl
 ·rw[wu]
theorem nD (ok:Nt.Ok N){d:Nat}(f:IsTop N d){t:Int}(g:0<=t):∀ (ms:List Nat) {cs:List Int},(∀ m∈ms,m<N.lanes/\EvenAt N d m)->cs.length=N.lanes ->
  ∃ a,a.length=N.lanes/\yZ (zp N a)=yZ (zp N cs)/\∀ i,i<N.lanes->(i∉ms->a.getD i 0=cs.getD i 0)/\cs.getD i 0<=a.getD i 0/\(i∈ms->cs.getD i 0+t<=a.getD i 0)
 | [],cs,_,lc=>⟨cs,lc,rfl,λi _=>⟨λ_=>rfl,Zv _,λz=>absurd z Jm⟩⟩
 | m::ms,cs,h,lc=>by
  obtain⟨k,l⟩:=h m (.head _);have o:(more cs (yF N.lanes m (pw d)) t).length=N.lanes:=by rw[yu];exact lc
  obtain⟨a,u,e2,s⟩:=nD ok f g ms (λq r=>h q (.tail _ r)) o;refine⟨a,u,e2.trans (uf ok f l lc t),λi j=>?_⟩;obtain⟨e,c,b⟩:=s i j;rw[md lc k j]at e c b;have p:t*1<=t*pw d:=Int.mul_le_mul_of_nonneg_left (zad d) g;by_cases z:m=i
  ·rw[Jq z]at e c b
   exact⟨λn=>absurd (z ▸ JH) n,by lia,λ_=>by lia⟩
  ·rw[Jg z,Int.mul_zero,Int.add_zero]at e c b
   refine⟨λn=>e λq=>n (.tail _ q),c,λq=>?_⟩;rcases Jp.mp q with q|q
   ·exact absurd q.symm z
   ·exact b q
theorem pX (ok:Nt.Ok N){moves:List Nat}(h:∀ m∈moves,m<N.lanes)(ev:EvenOn N moves){ks:List KN}(v:Shut (xZ N) moves (k0R N) ks){c:List Int}(cl:c.length=N.lanes)(oth:∀ i,i<N.lanes->i∉moves->c.getD i 0=0):∃ k∈ks,wg (o6 k)=yZ (zp N c):=by
 obtain⟨d,u,ev⟩:=ev;have o:=dO (row:=c.map λx=>((x.natAbs:Nat):Int)) (λx b=>by obtain⟨y,_,rfl⟩:=Jn.mp b;lia);obtain⟨f,j,w,t⟩:=nD ok u o.1 moves (λm n=>⟨h m n,ev m n⟩) cl
 have R:Rw moves N.lanes f.sum f:=by
  refine⟨j,λx b=>?_,rfl,λi a no=>((t i a).1 no).trans (oth i a no)⟩;obtain⟨i,l,ex⟩:=List.getElem_of_mem b;have a:i<N.lanes:=by rw[<- j];exact l
  obtain⟨s,B,r⟩:=t i a;have g:f.getD i 0=x:=by rw[J8,J2 l];exact ex
  rw[g]at s B r;by_cases z:i∈moves
  ·have q:=o.2 _ (Jn.mpr ⟨c[i]'(by lia),JA _,rfl⟩)
   have p:=r z;rw[J8,J2 (by lia)]at p;have C:c[i]'(by lia)+_<=x:=p;lia
  ·rw[s z,oth i a z];exact Zv _
 obtain⟨k,A,e⟩:=R.place ok h v;exact⟨k,A,e.trans w⟩
def xq (N:Nt)(moves:List Nat)(most:Nat):LRes:=ye (xZ N) moves most (most+1) [(k0R N,zL N)] [] []
def Far (ls:List LvL)(b a:Int)(cs:List Int):Prop:=(-b)::a::cs∈xY 0 ls/\∀ x∈xY 0 ls,leR ((-b)::a::cs) x
theorem dQ {a b:Int}{x y:List Int}(h:leR (a::x) (b::y)):a<=b:=by
 rcases Zq a b with z|z|z
 ·exact Int.le_of_lt z
 ·exact Int.le_of_eq z
 ·exact absurd (show (compare a b).then (yj x y)=.gt by rw[YR.mpr z];rfl) h
theorem Far.ge {ls:List LvL}{b a:Int}{cs:List Int}(h:Far ls b a cs){k:KN}(e:k∈yh ls):wg (o6 k)<=b:=by
 obtain⟨lv,d,z⟩:=List.mem_flatMap.mp e;obtain⟨p,c,rfl⟩:=Jn.mp z;obtain⟨i,f⟩:=YD d;have:=dQ (h.2 _ (uW (n:=0) f c));lia
theorem Far.is {ls:List LvL}{b a:Int}{cs:List Int}(h:Far ls b a cs):∃ k∈yh ls,wg (o6 k)=b:=by
 obtain⟨i,lv,p,e,d,c⟩:=uL h.1;obtain⟨f,_⟩:=List.cons.inj c;exact⟨p.1,List.mem_flatMap.mpr ⟨lv,Jw e,Jn.mpr ⟨p,d,rfl⟩⟩,by lia⟩
theorem gm {most:Nat}{moves:List Nat}(ok:Nt.Ok N)(a:∀ m∈moves,m<N.lanes){c:List Int}(h:xq N moves most=.brk c):False:=by
 have ca:=qF (step:=xZ N) (moves:=moves) (k0:=k0R N) (c0:=zL N) (most:=most);rw[show ye (xZ N) moves most (most+1) [(k0R N,zL N)] [] []=.brk c from h]at ca;obtain⟨n,_,B⟩:=ca;obtain⟨row,m,_,d,_,e⟩:=B.ex;have r:=zab ok (row:=row++[m]) (λq b=>a q (d q b)) (row++[m]).length (Je _);rw[JV,e]at r;cases r
theorem vX {most:Nat}{moves:List Nat}{ls:List LvL}(h:xq N moves most=.whl ls):Shut (xZ N) moves (k0R N) (yh ls)/\(yh ls).length<=most:=by
 have ca:=qF (step:=xZ N) (moves:=moves) (k0:=k0R N) (c0:=zL N) (most:=most);rw[show ye (xZ N) moves most (most+1) [(k0R N,zL N)] [] []=.whl ls from h]at ca;exact⟨ca.1,ca.2.2.1⟩
theorem oC {most:Nat}{moves ms:List Nat}{ls:List LvL}(h:xq N moves most=.whl ls)(s:∀ m∈ms,m∈moves):∃ a,xq N ms most=.whl a/\∀ k∈yh a,k∈yh ls:=by
 obtain⟨c,le⟩:=vX h;exact tV (c.fewer s) le (most+1) _ _ _ (λp b=>by rw[Ja.mp b];exact c.fst) (λp b=>absurd b Jm) (λk d=>absurd d Jm) (JD.mpr ⟨Jm,Yy⟩) (Je _)
end
def aJ (xs:List Int):Bool:=xs.all λx=>x == xs.headD 0
theorem gU {xs:List Int}(h:aJ xs=true):AllSame xs:=by
 have at_:∀ i,i<xs.length->xs.getD i 0=xs.headD 0:=λi b=>by
  have:=YV.mp h _ (JA b);rw[J8,J2 (show i<xs.length from b)];exact eq_of_beq this
 exact λi j c a=>(at_ i (Nat.lt_trans c a)).trans (at_ j a).symm
def topD (N:Nt):Nat:=((yq N).foldl max 0).toNat
def aP (N:Nt)(moves:List Nat):Bool:=(yq N).all (λz=>decide (z<=(topD N:Int))) && ((0::yq N).contains (topD N:Int) && moves.all λm=>aJ (zp N (yF N.lanes m (pw (topD N)))))
theorem du {N:Nt}{moves:List Nat}(h:aP N moves=true):EvenOn N moves:=by
 obtain⟨e,a⟩:=(Yk _ _).mp h;obtain⟨a,d⟩:=(Yk _ _).mp a;refine⟨topD N,⟨λz b=>Yq (YV.mp e z b),?_⟩,λm c=>gU (YV.mp d m c)⟩;exact List.contains_iff_mem.mp a
def zbt (R:LRes)(f:Int):Bool:=match R with
 | .whl ls=>(yh ls).all (λk=>decide (wg (o6 k)<=f)) && (yh ls).any λk=>decide (f<=wg (o6 k))
 | _=>false
theorem bw {R:LRes}{f:Int}(h:zbt R f=true):∃ ls,R=.whl ls/\∀ {g d:Int}{cs:List Int},Far ls g d cs->g=f:=by
 cases R with
 | opn=>cases h
 | brk c=>cases h
 | whl ls =>
  obtain⟨m,l⟩:=(Yk _ _).mp (show ((yh ls).all _ && (yh ls).any _)=true from h);refine⟨ls,rfl,λ{g d cs} F=>?_⟩;obtain⟨k,j,e⟩:=F.is;have a:=Yq (YV.mp m k j);obtain⟨q,i,z⟩:=List.any_eq_true.mp l;have b:=F.ge i;have z:=Yq z;lia
theorem FunC.ok1 {P:Yo}{w:YI}{K:Jl}{mg:Str->Option Jo}{base:YP}{x qual:Str}{st:Stmt}{f c:JI}{fd:Yl}{N ps:List Str}{k:Nat}{sp:Sp}(F:FunC K x qual st f fd c)(S:FnScope N ps (zR st))(len:∀ vs H Q E,sp vs H Q E->vs.length=ps.length)(hb:∀ (A:YO) (outer:List Env) (s:JO) (H:Hp) (vs:List V) (Q:VK) (E:XK),Room k (A.deeper (envOfC qual (zR st) s.heap.objs.size f (.ref c)))->sp vs H Q E ->
   ∃ t,PSs (wT (CX1 P w) P w K mg base N qual (zR st) f (.ref c) A outer s H E) (y9 st) t/\t { nx:=λ_ d=>Q .non d,rt:=Q } (vh N vs) H):FnOk P w K mg base (CX1 P w) (k+1) f fd ps sp:=by
 obtain⟨h,g,kV,doc,pm,an,i,e,rfl,b,a⟩:=F.ex;exact aO b a S len hb
theorem qE {step:KN->Nat->Option KN}{moves:List Nat}{most n:Nat}:∀ (m:Nat) (level seen:LvL) (ls a:List LvL),(∀ lv∈ls,∀ p∈lv,p.2.length=n)->(∀ p∈level,p.2.length=n)->ye step moves most m level seen ls=.whl a->∀ lv∈a,∀ p∈lv,p.2.length=n
 | 0,_,_,_,_,_,_,e=>by cases e
 | m+1,level,seen,ls,a,h1,c,e=>by
  by_cases b:level=[]
  ·subst b;rw[wJ]at e;cases e;exact h1
  by_cases h:most<seen.length+level.length
  ·rw[vH b h]at e;cases e
  by_cases f:(yg step (seen++level) moves level).fl=[]
  ·rw[wt b h f]at e
   refine qE m _ (seen++level) _ a (λlv g=>?_) (λp d=>(sI (step:=step) (seen:=seen++level) (moves:=moves) level c).on p d) e;rcases Jr.mp g with z|z
   ·exact h1 lv z
   ·rw[Ja.mp z];exact c
  ·rw[vI b h f]at e;cases e
def TellF (H:Hp)(p:JI):LRes->Prop
 | .opn=>H p=some (.tup [.str "open",.non])
 | .brk _=>False
 | .whl ls=>∃ c b a cs,H p=some (.tup [.str "reach",.int b,.ref c])/\H c=some (.tup (cs.map V.int))/\Far ls b a cs
end L2
namespace K44
open PySem L2 Own Bn
abbrev tX:Stmt:=top 28
def zbn (q:Str):Stmt->Lam
 | .Assign _ (.Call _ (_::_::_::.Lambda p b s _::_) _ _) _=>⟨p,b,s,q⟩
 | _=>⟨⟨[],[],none,[],[],none,[]⟩,.Name "" ⟨0,0,0,0⟩,zR tX,q⟩
def uD (q:Str):Lam:=zbn q ((y9 tX).getD 1 (.Pass ⟨0,0,0,0⟩))
theorem aV {us:List Jo}(h:us.length=2):∃ u v,us=[u,v]:=by
 match us,h with
 | [u,v],_=>exact⟨u,v,rfl⟩
theorem bj {l:List (Str × NameKind)}{x:Str}{k:NameKind}(h:l.lookup x=some k):(x,k)∈l:=by
 obtain⟨a,c,e,_⟩:=List.lookup_eq_some_iff.mp h;rw[e];exact Jr.mpr (.inr (.head _))
theorem zbI:LamScope ["place","lane"] ["net"] (uD "").scope:=⟨rfl,rfl,rfl,by decide +kernel,by decide +kernel,by decide +kernel,by decide +kernel,λx a=>(show ∀ y∈(uD "").scope.names,y.2=.free->y.1∈[("net":Str)] from by decide +kernel) _ (bj a) rfl⟩
def qP (q:Str)(Pt CE:JI):Sp:=λc H Q E=>∃ r fr e d N b,∃ (moves:List Nat) (most:Nat),c=[.ref r,.ref b,.int (most:Nat)]/\Nt.Ok N/\NetAt H r fr e d N/\H b=some (.tup (zU moves))/\(∀ m∈moves,m<N.lanes)/\moves.length<=16/\0<most/\most<=100000/\TabQ q Pt H /\
 (∀ a,But Pt H a->TabQ q Pt a->¬ EvenOn N moves->E (.ref CE) none a) /\
 ∀ p a,But Pt H a->TabQ q Pt a->EvenOn N moves->TellF a p (xq N moves most)->Q (.ref p) a
section
variable {P:Yo}{w:YI}{K:Jl}{mg:Str->Option Jo}{base:YP}
theorem iH (q:Str) {f:JI}{fd:Yl}(d:Use P w K mg base "place_behind" ["net","place","lane"] 4 vm f fd):LamQ CX0 P w K mg base 4 (uD q) ["net"] ["place","lane"] wD:=by
 refine⟨zbI,λvals e H Q E h=>?_,λcl k i pm j n=>by obtain⟨u,v,rfl⟩:=aV i;rfl,λcl l c A outer s H vals e Q E m g fz h=>?_⟩
 ·obtain⟨r,b,a,_,rfl,_⟩:=h
  rfl
 obtain⟨r,b,a,rfl,rfl,h⟩:=h;refine⟨_,kC d.ok g (by rfl) d.m d.kp d.b .nil fw (zA (pv 2) (zA (pv 0) (zA (pv 1) zC))),?_⟩;exact⟨_,rfl,_,rfl,_,rfl,h⟩
theorem dm {sc:Scope}{x0:Str}{env:Env}(h:(sc.names.filter λy=>y.2 == .free)=[(x0,.free)])(k:env.kindOf x0=some .cell):∀ x,(x,NameKind.free)∈sc.names->env.kindOf x=some .cell\/env.kindOf x=some .free:=λx a=>by
 have z:(x,NameKind.free)∈sc.names.filter λy=>y.2 == .free:=List.mem_filter.mpr ⟨a,rfl⟩;rw[h]at z;obtain⟨e,_⟩:=Prod.mk.inj (Ja.mp z);exact .inl (e ▸ k)
theorem zaF {X:Cx}{x:Str}{i:Nat}(h1:X.N[i]?=some x)(c:X.env.scope.names.lookup x=some .cell)(b:X.fn x=true):∀ p∈[(x,i)],X.N[p.2]?=some p.1/\X.env.scope.names.lookup p.1=some .cell/\X.fn p.1=true:=λp a=>by
 rw[Ja.mp a];exact⟨h1,c,b⟩
theorem oP {cs:List (Str × JI)}{x:Str}(h:cs.map (·.1)=[x]):∃ c,cs=[(x,c)]:=by
 match cs,h with
 | [(y,c)],h=>exact⟨c,by rw[show y=x from (List.cons.inj h).1]⟩
def qR:Str:=("reach":Str)++(".<locals>.":Str)++("<lambda>":Str)
theorem gQ:FnScope ["net","some","most","word","found","far","counts"] ["net","some","most"] (zR tX):=by trivial
theorem eG {f fE fC fF fA c Pt CE CL:JI}{fd dE dC dF dA:Yl}(F:FunC K "reach" "reach" tX f fd c) (CK:CodeK K mg base c Pt) (XO:XPln K CE CL) (mE:mg "NotEven" = some (.ref CE)) (UE:Use P w K mg base "is_even" ["net","some"] 5 tN fE dE) (UC:Use P w K mg base "climbed" ["first","counts","moves","led","most"] 7 (tR P w K (uD qR) ["net"] wD) fC dC) (UF:Use P w K mg base "first_place" ["net"] 2 uQ fF dF)
  (UA:Use P w K mg base "farthest" ["levels"] 1 (gL P w) fA dA):FnOk P w K mg base (CX1 P w) 8 f fd ["net","some","most"] (qP qR Pt CE):=by
 refine F.ok1 gQ (λvs H Q E h=>?_) (λA outer s H vs Q E hr h=>?_)
 ·obtain⟨r,fr,er,ps,N,sm,moves,most,rfl,_⟩:=h
  rfl
 obtain⟨r,fr,er,ps,N,sm,moves,most,rfl,ok,na,u,mlt,ml,mp,mb,tab,kE,k⟩:=h;refine⟨_,(@zE _ _ _ _ _ (@yV _ _ _ _ _ _ _ _ (@zag _ _ _ _ (@gx _ _ _ (@zQ _ _ _ _ _ _ _ _ _ _ _ _ UE (hr.mono (by decide)) (@zA _ _ _ _ _ (@pvb _ 0 _ _ rfl) (@zA _ _ _ _ _ (@pvb _ 1 _ _ rfl) zC rfl) rfl) (by rfl) rfl rfl rfl) (by intro _;rfl))) (@zM _ _ _ (jV (E:=E) XO rfl mE (@zA _ _ _ _ _ wA zC rfl))) zx) (@zE _ _ _ _ _ (@yM _ _ _ _ _ _ (fq (E:=E0) UC.ok hr (by rfl) UC.m UC.kp UC.b [("net",0)] (by decide) (zaF rfl rfl rfl) (@zA _ _ _ _ _ (@zQ _ _ _ _ _ _ _ _ _ _ _ _ UF (hr.mono (by decide)) (@zA _ _ _ _ _ (@pvb _ 0 _ _ rfl) zC rfl) (by rfl) rfl rfl rfl) (@zA _ _ _ _ _ (@zS _ _ _ _ _ _ _ _ qt (@zj _ _ _ _ _ (@zA _ _ _ _ _ zG zC rfl)) (@zX _ _ _ _ _ _ _ yA (@pvb _ 0 _ _ rfl) zG (λ_ _=>rfl))) (@zA _ _ _ _ _ (@pvb _ 1 _ _ rfl) (@zA _ _ _ _ _ (zak (fr:=["net"]) CK rfl rfl (dm (x0:="net") rfl rfl) rfl) (@zA _ _ _ _ _ (@pvb _ 2 _ _ rfl) zC rfl) rfl) rfl) rfl) rfl)) (@yN _ _ _ _ _ _ rfl (@zP _ _ _ _ _ (@zN _ _ 3 _ gQ.nd rfl (.inl rfl) (by trivial)) (@zP _ _ _ _ _ (@zN _ _ 4 _ gQ.nd rfl (.inl rfl) (by trivial)) zu rfl) rfl) rfl rfl) rfl rfl rfl) (@zE _ _ _ _ _ (@yV _ _ _ _ _ _ _ _ (@zq _ _ _ _ _ _ _ _ xu (@pvb _ 3 _ _ rfl) wA (yI _)) (@zM _ _ _ (@zW _ _ _ _ (@zj _ _ _ _ _ (@zA _ _ _ _ _ wA (@zA _ _ _ _ _ wP zC rfl) rfl)))) zx) (@zE _ _ _ _ _ (@yM _ _ _ _ _ _ (@zQ _ _ _ _ _ _ _ _ _ _ _ _ UA (hr.mono (by decide)) (@zA _ _ _ _ _ (@pvb _ 4 _ _ rfl) zC rfl) (by rfl) rfl rfl rfl) (@yN _ _ _ _ _ _ rfl (@zP _ _ _ _ _ (@zN _ _ 5 _ gQ.nd rfl (.inl rfl) (by trivial)) (@zP _ _ _ _ _ (@zN _ _ 6 _ gQ.nd rfl (.inl rfl) (by trivial)) zu rfl) rfl) rfl rfl) rfl rfl rfl) (@zM _ _ _ (@zW _ _ _ _ (@zj _ _ _ _ _ (@zA _ _ _ _ _ wA (@zA _ _ _ _ _ (@pvb _ 5 _ _ rfl) (@zA _ _ _ _ _ (@pvb _ 6 _ _ rfl) zC rfl) rfl) rfl)))))))),?_⟩;have bt:=ok.l16;refine zB (zB ⟨r,fr,er,ps,N,sm,moves,rfl,ok,na,u,mlt,λd T tp ev B=>⟨true,rfl,xX ?_⟩,λd m hm one other T tp ev fu B=>⟨false,rfl,wE ⟨by show 1<=sizeLine;decide,kE T (But.of B) (tab.same B) λz=>?_⟩⟩⟩)
 rotate_left
 ·obtain⟨e,te,ze⟩:=z
  have:=gA te tp;subst this;exact fu.2.2.1 (ze _ (JA hm) one other fu.1 fu.2.1)
 have a3:EvenOn N moves:=⟨d,tp,λm hm=>by
  obtain⟨q,O,rfl⟩:=List.getElem_of_mem hm
  exact ev q O⟩
 have na:=na.tups (Tups.of B);replace u:=B _ _ u;replace k:∀ p U,But Pt T U->TabQ qR Pt U->TellF U p (xq N moves most)->Q (.ref p) U:=λp U b t z=>k p U ((But.of B).trans b) t a3 z;replace tab:=tab.same B;clear kE a3 B ev tp;show uO _ _ _ _ T;refine zB ⟨r,fr,er,ps,N,rfl,ok,na,λb0 H2 s2 k2=>⟨by show 1<=sizeLine;decide,λt ht=>?_⟩⟩;have s3:=zD ht (.tup [.int 0]);refine zB ⟨r,_,_,_,rfl,rfl,SqT.of (s3 _ _ (s2 _ _ na.net)),rfl,t,_,N.lanes,rfl,rfl,zH,by lia,λc0 H4 s4 h4=>?_⟩;rw[sL]at h4;have u4:=(s2.trans s3).trans s4;obtain⟨l,hP,tok⟩:=tab.same u4;refine zB ⟨l,hP,tok,λfL cl l' H5 ba bb hf raw a7 ab kp=>?_⟩;refine zB ⟨[.ref r],rfl,λj x i v hx hv=>?_,λcs S a9 aT nd ca out Z=>?_⟩
 ·cases j with
  | zero=>cases hx;cases hv;rfl
  | succ j=>cases hx
 obtain⟨a,rfl⟩:=oP ba;obtain⟨c2,rfl⟩:=oP a9;have cc:a=c2:=Jj ((bb _ (.head _)).symm.trans (aT _ (.head _)));subst cc;have b5:But Pt T H5:=λb o e n=>kp b o (u4 b o e) n
 have g:Same H5 S:=λb o e=>by
  rw[out b λX=>by rw[Z b X]at e;cases e];exact e
 have a4:NetAt S r fr er ps N:=(na.tups (Tups.of u4)).tups λb xs e=>g _ _ (kp _ _ e (x8 e hP λz=>by cases z));have J:Tups H4 S:=λb xs e=>g _ _ (kp _ _ e (x8 e hP λz=>by cases z))
 have aE:LamRaw S fL (uD qR) [("net",a)]:=by
  obtain⟨pm,cd,ct,oc,fs,tk,r1,r2,r3,r4⟩:=raw.ex;exact⟨pm,cd,ct,oc,fs,tk,g _ _ r1,g _ _ r2,r3,r4⟩
 have la:LamAt S fL (uD qR) [("net",a)] [.ref r]:=aE.at_ ca (JD.mpr ⟨Jm,Yy⟩) (JD.mpr ⟨Jm,Yy⟩) rfl λi x c v hx hv=>⟨i,hx,hv⟩;have W:Way K S sm fL (uD qR) ["net"] wD [("net",a)] [.ref r] (xZ N) (OkR N) moves N.lanes:=⟨.inl (J _ _ (u4 _ _ u)),rfl,la,iB ok a4 mlt,mlt,λs m t os _ e=>pW ok os e,by lia⟩;refine⟨b0,c0,sm,fL,_,zL N,moves,[("net",a)],[.ref r],xZ N,OkR N,N.lanes,most,rfl,(k2.tups (Tups.of (s3.trans s4))).tups J,J _ _ h4,Y4,rT ok,W,by lia,ml,mp,λp R s7 tell=>?_⟩
 have a8:CellsFz [("net",a)] R:=λb X=>by
  obtain⟨o,z⟩:=ca.fz b X;exact⟨o,s7 _ _ z⟩
 replace tell:=TellRN.kept tell (nX a8)
 have Y:Same H5 (yY [("net",a)] R):=λb o e=>by
  rw[yO λX=>by rw[Z b X]at e;cases e];exact s7 _ _ (g _ _ e)
 have b8:But Pt T (yY [("net",a)] R):=b5.trans (But.of Y);have I:TabQ qR Pt (yY [("net",a)] R):=TabQ.same ⟨l',a7,ab⟩ Y;show lO _ _ _ _ _ (yY [("net",a)] R) _;generalize yY [("net",a)] R=H8 at *;change TellRN P w H8 p (xq N moves most) at tell
 cases G:xq N moves most with
 | opn =>
  rw[G]at tell;refine⟨p,_,rfl,SqT.of tell,rfl,_,_,rfl,_,_,rfl,rfl,?_⟩;refine zB ⟨rfl,true,JL V.bl (JC rfl),wE ⟨by show 2<=sizeLine;decide,λq O=>?_⟩⟩;refine k q _ (b8.trans (But.of (zD O _))) (I.same (zD O _)) ?_
  rw[G];exact zH
 | brk bc=>exact(gm ok mlt G).elim
 | whl ls =>
  rw[G]at tell;obtain⟨ll,as,bl,h1,h2,h3⟩:=tell;refine⟨p,_,rfl,SqT.of h1,rfl,_,_,rfl,_,_,rfl,rfl,?_⟩;refine zB ⟨rfl,false,JL V.bl (Jt λz=>absurd (V.str.inj z) (by decide)),xX ?_⟩;have wh:=uh (Ok:=OkR N) (moves:=moves) (λs m t os _ e=>pW ok os e) _ _ [] [] ls ⟨λlv D=>absurd D Jm,JM _⟩ rfl (JM _) (λp C=>by rw[Ja.mp C];exact rT ok) G;have ln:=qE (n:=N.lanes) _ _ [] [] ls (λlv D=>absurd D Jm) (λp C=>by rw[Ja.mp C];exact Y4) G;have wf:=wh.few;have sh:=(vX G).1;refine zB ⟨ll,as,ls,N.lanes,rfl,h2,h3,bl,λlv D p C=>⟨?_,ln lv D p C⟩,by lia,λz=>?_,λq c a0 M cs H9 s9 O hc m1 m2=>?_⟩
  ·obtain⟨ts,hs,e,_,_,a6,_⟩:=wh.ok lv D p C
   exact⟨ts,hs,e,λz=>by rw[z,Yh]at a6;have:=ok.l1;lia⟩
  ·obtain⟨lv,D,y⟩:=List.mem_flatMap.mp sh.fst
   obtain⟨p,C,_⟩:=Jn.mp y;obtain⟨i,ei⟩:=YD D;have:=uW (n:=0) ei C;rw[z]at this;cases this
  ·refine⟨q,_,rfl,SqT.of O,rfl,_,_,rfl,_,_,rfl,rfl,?_⟩
   refine zB (zB ⟨by show 3<=sizeLine;decide,λq2 a5=>?_⟩);have L:=zD a5 (.tup [.str "reach",.int a0,.ref c]);refine k q2 _ ((b8.trans (But.of s9)).trans (But.of L)) ((I.same s9).same L) ?_;rw[G];exact⟨c,a0,M,cs,zH,L _ _ hc,m1,m2⟩
abbrev gW:Stmt:=top 48
def ToldAt (H:Hp)(p:JI)(N:Nt)(moves:List Nat):Prop:=(¬ EvenOn N moves/\H p=some (.tup [.str "uneven",.non]))\/(EvenOn N moves/\TellF H p (xq N moves 1500))
def nZ (q:Str)(Pt:JI):Sp:=λc H Q _=>∃ r fr e d N b,∃ moves:List Nat,c=[.ref r,.ref b]/\Nt.Ok N/\NetAt H r fr e d N/\H b=some (.tup (zU moves))/\(∀ m∈moves,m<N.lanes)/\moves.length<=16/\TabQ q Pt H /\
 ∀ p a,But Pt H a->TabQ q Pt a->ToldAt a p N moves->Q (.ref p) a
theorem cZ:FnScope ["_law_net_here","_law_some_here","_law_told_here"] ["_law_net_here","_law_some_here"] (zR gW):=by trivial
theorem bI {f b Pt CE:JI}{fd o:Yl}(F:Fun K "_law_told" "_law_told" gW f fd) (B:mg "NotEven" = some (.ref CE)) (u:PySem.W.exmOne K (.ref CE) (.ref CE)=some true) (d:FnOk P w K mg base (CX1 P w) 8 b o ["net","some","most"] (qP qR Pt CE)) (G:Binds K o ["net","some","most"] []) (C:PySem.W.keepIn K (.ref b)=true) (y:mg "reach" = some (.ref b)):FnOk P w K mg base CX0 9 f fd ["_law_net_here","_law_some_here"] (nZ qR Pt):=by
 refine F.ok cZ (λv H Q E h=>?_) (λI A outer s H v Q E D h=>?_)
 ·obtain⟨r,fr,n,l,N,i,moves,rfl,_⟩:=h
  rfl
 obtain⟨r,fr,n,l,N,i,moves,rfl,ok,na,g,mlt,x,tab,k⟩:=h;refine⟨_,(@zE _ _ _ _ _ (@zV _ _ 2 _ _ _ _ cZ.nd rfl (.inl rfl) wP rfl (by trivial)) (@zE _ _ _ _ _ (gz (j:=2) (L:=CE) ⟨⟨rfl,rfl,rfl⟩,λ_ _ z=>z⟩ d D rfl y C G (@zA _ _ _ _ _ (@pvb _ 0 _ _ rfl) (@zA _ _ _ _ _ (@pvb _ 1 _ _ rfl) (@zA _ _ _ _ _ zG zC rfl) rfl) rfl) ⟨rfl,B,rfl⟩ cZ.nd rfl rfl (λe=>@zM _ _ _ (@zV _ _ 2 _ _ _ _ cZ.nd rfl (.inl rfl) (@zj _ _ _ _ _ (@zA _ _ _ _ _ wA (@zA _ _ _ _ _ wP zC rfl) rfl)) rfl (by trivial)))) (@zM _ _ _ (@zW _ _ _ _ (@pvb _ 2 _ _ rfl))))),?_⟩;refine zB (zB ⟨r,fr,n,l,N,i,moves,1500,rfl,ok,na,g,mlt,x,by decide,by decide,tab,λt c a ne=>?_,λp t c a ev tell=>?_⟩)
 ·refine⟨CE,rfl,u,by show 2<=sizeLine;decide,λq m=>zB ?_⟩
  exact k q _ (c.trans (But.of (zD m _))) (a.same (zD m _)) (.inl ⟨ne,zH⟩)
 ·exact zB (k p t c a (.inr ⟨ev,tell⟩))
abbrev ga:Stmt:=top 33
abbrev gX:Stmt:=top 34
abbrev mB:Stmt:=top 35
theorem scK:FnScope ["_law_left_here","_law_many","_law_digit"] ["_law_left_here","_law_many"] (zR gX):=by trivial
theorem bK {f:JI}{fd:Yl}(F:Fun K "_law_pick" "_law_pick" gX f fd):FnOk P w K mg base CX0 1 f fd ["_law_left_here","_law_many"] xN:=by
 refine F.ok scK (λy H Q E h=>?_) (λL A outer s H y Q E M h=>?_)
 ·obtain⟨l,m,rfl,_⟩:=h
  rfl
 obtain⟨l,m,rfl,g,z,S,k⟩:=h;obtain⟨a,b,c,d,r,D,C⟩:=S.ex;refine⟨_,(@zE _ _ _ _ _ (@yV _ _ _ _ _ _ _ _ (@zq _ _ _ _ _ _ _ _ sF (@zX _ _ _ _ _ _ _ zZ (@pvb _ 0 _ _ rfl) zG (λ_ _=>rfl)) zG (yI _)) (@zE _ _ _ _ _ (@zV _ _ 2 _ _ _ _ scK.nd rfl (.inl rfl) (@zS _ _ _ _ _ _ _ _ xt (@zX _ _ _ _ _ _ _ zZ (@pvb _ 0 _ _ rfl) zG (λ_ _=>rfl)) (@pvb _ 1 _ _ rfl)) rfl (by trivial)) (@zE _ _ _ _ _ (@yM _ _ _ _ _ _ (@zS _ _ _ _ _ _ _ _ xh (@zX _ _ _ _ _ _ _ zZ (@pvb _ 0 _ _ rfl) zG (λ_ _=>rfl)) (@pvb _ 1 _ _ rfl)) (@xK _ _ _ _ _ _ _ (@pvb _ 0 _ _ rfl) zG yb (by intro _;rfl)) rfl rfl rfl) (@zM _ _ _ (@zW _ _ _ _ (@pvb _ 2 _ _ rfl))))) zx) (@zE _ _ _ _ _ (@yM _ _ _ _ _ _ (@zS _ _ _ _ _ _ _ _ yQ (@zX _ _ _ _ _ _ _ zZ (@pvb _ 0 _ _ rfl) zG (λ_ _=>rfl)) zG) (@xK _ _ _ _ _ _ _ (@pvb _ 0 _ _ rfl) zG yb (by intro _;rfl)) rfl rfl rfl) (@zE _ _ _ _ _ (@yM _ _ _ _ _ _ (@zS _ _ _ _ _ _ _ _ xt (@zS _ _ _ _ _ _ _ _ yQ (@zS _ _ _ _ _ _ _ _ yQ (@zS _ _ _ _ _ _ _ _ xL (@zX _ _ _ _ _ _ _ zZ (@pvb _ 0 _ _ rfl) zG (λ_ _=>rfl)) zG) zG) (@zX _ _ _ _ _ _ _ zZ (@pvb _ 0 _ _ rfl) zG (λ_ _=>rfl))) zG) (@xK _ _ _ _ _ _ _ (@pvb _ 0 _ _ rfl) zG yb (by intro _;rfl)) rfl rfl rfl) (@zM _ _ _ (@zW _ _ _ _ (@zS _ _ _ _ _ _ _ _ xt (@zS _ _ _ _ _ _ _ _ xh (@zS _ _ _ _ _ _ _ _ xt (@zS _ _ _ _ _ _ _ _ xL (@zX _ _ _ _ _ _ _ zZ (@pvb _ 0 _ _ rfl) zG (λ_ _=>rfl)) (@zX _ _ _ _ _ _ _ zZ (@pvb _ 0 _ _ rfl) zG (λ_ _=>rfl))) zG) zG) (@pvb _ 1 _ _ rfl))))))),?_⟩
 have fin:∀ (x:Int) (i:Hp),0<=x->x<m->Pk3 i l->But l H i->Q (.int x) i:=λx i u t G J=>by
  obtain⟨v,rfl⟩:=Int.eq_ofNat_of_zero_le u;exact k v i t G J
 refine zB ⟨l,_,_,_,rfl,rfl,SqL.of d,rfl,_,_,rfl,rfl,_,rfl,uX (λq=>?_) (λq=>?_)⟩
 ·refine zB ⟨l,_,_,_,rfl,rfl,SqL.of d,rfl,_,rfl,_,_,rfl,rfl,g,?_⟩
  refine zB ⟨l,_,_,_,rfl,rfl,SqL.of d,rfl,_,rfl,_,_,rfl,rfl,⟨g,z⟩,_,rfl,l,_,_,0,rfl,rfl,d,rfl,_,rfl,?_⟩;exact fin _ _ (ZD _ (by lia)) (ZH _ g) ⟨a / m,b,c,zH,Int.ediv_nonneg r (by lia),D,C⟩ λx o e ne=>by rw[zK ne];exact e
 ·refine zB ⟨l,_,_,_,rfl,rfl,SqL.of d,rfl,_,_,rfl,rfl,_,rfl,l,_,_,2,rfl,rfl,d,rfl,?_⟩
  have n:L2.upd H l (.lst ([V.int a,V.int b,V.int c].set 2 (V.int (c+1)))) l=some (.lst [.int a,.int b,.int (c+1)]):=zH;have I:But l H (L2.upd H l (.lst ([V.int a,V.int b,V.int c].set 2 (V.int (c+1))))):=λx o e ne=>by rw[zK ne];exact e
  show uO _ _ _ _ (L2.upd H l (.lst ([V.int a,V.int b,V.int c].set 2 (V.int (c+1)))));generalize L2.upd H l (.lst ([V.int a,V.int b,V.int c].set 2 (V.int (c+1))))=H1 at *;refine zB ⟨l,_,_,_,rfl,rfl,SqL.of n,rfl,_,_,rfl,rfl,.inr ⟨by decide,by decide⟩,_,_,rfl,rfl,_,rfl,l,_,_,_,rfl,rfl,SqL.of n,rfl,_,_,rfl,rfl,_,_,rfl,rfl,(by show (0:Int)<2147483647;decide),_,rfl,l,_,_,1,rfl,rfl,n,rfl,?_⟩;have B:0<=(b*48271+12345+(c+1))%2147483647:=ZD _ (by decide);have N:(b*48271+12345+(c+1))%2147483647<2147483647:=ZH _ (by decide);generalize p:L2.upd H1 l (HO.lst ([V.int a,V.int b,V.int (c+1)].set 1 (V.int ((b*48271+12345+(c+1))%2147483647))))=H2;have j:H2 l=some (.lst [.int a,.int ((b*48271+12345+(c+1))%2147483647),.int (c+1)]):=by rw[<- p];exact zH
  refine zB ⟨l,_,_,_,rfl,rfl,SqL.of j,rfl,_,rfl,l,_,_,_,rfl,rfl,SqL.of j,rfl,_,_,rfl,rfl,.inl ⟨by lia,by lia⟩,_,_,rfl,rfl,(by show (0:Int)<1999999973;decide),_,_,rfl,rfl,⟨by decide,by decide⟩,_,rfl,_,_,rfl,rfl,g,?_⟩;exact fin _ _ (ZD _ (by lia)) (ZH _ g) ⟨a,_,_,j,r,B,by lia⟩ λx o e ne=>by rw[<- p,zK ne];exact I x o e ne
theorem scL:FnScope ["_law_script","_law_k","_law_cell","_law_digits"] ["_law_script","_law_k"] (zR ga):=by trivial
theorem bO {f:JI}{fd:Yl}(F:Fun K "_law_left" "_law_left" ga f fd) (G:Mgs mg):FnOk P w K mg base CX0 1 f fd ["_law_script","_law_k"] (qQ K):=by
 refine F.ok scL (λn H Q E h=>?_) (λy A outer s H n Q E I h=>?_)
 ·obtain⟨a,ns,k,rfl,_⟩:=h
  rfl
 obtain⟨a,ns,k,rfl,e,v,C,B,q⟩:=h;refine⟨_,(@zE _ _ _ _ _ (@zV _ _ 2 _ _ _ _ scL.nd rfl (.inl rfl) zG rfl (by trivial)) (@zE _ _ _ _ _ (@yV _ _ _ _ _ _ _ _ (@zq _ _ _ _ _ _ _ _ sF (@zc _ _ _ _ _ _ _ _ _ zk rfl G.len JY (@zA _ _ _ _ _ (@pvb _ 0 _ _ rfl) zC rfl) (by decide) (by decide) rfl rfl) zG (yI _)) (@zM _ _ _ (@zV _ _ 2 _ _ _ _ scL.nd rfl (.inl rfl) (@zX _ _ _ _ _ _ _ zZ (@pvb _ 0 _ _ rfl) (@zS _ _ _ _ _ _ _ _ xt (@pvb _ 1 _ _ rfl) (@zc _ _ _ _ _ _ _ _ _ zk rfl G.len JY (@zA _ _ _ _ _ (@pvb _ 0 _ _ rfl) zC rfl) (by decide) (by decide) rfl rfl)) (λ_ _=>rfl)) rfl (by trivial))) zx) (@zE _ _ _ _ _ (@zV _ _ 3 _ _ _ _ scL.nd rfl (.inl rfl) (@zS _ _ _ _ _ _ _ _ xL (@zS _ _ _ _ _ _ _ _ xt (@zc _ _ _ _ _ _ _ _ _ nL rfl G.abs rfl (@zA _ _ _ _ _ (@pvb _ 2 _ _ rfl) zC rfl) (by decide) (by decide) rfl rfl) (@zS _ _ _ _ _ _ _ _ uU zG zG)) (@zi _ _ _ _ _ _ _ _ _ wL rfl G.int rfl (@zA _ _ _ _ _ (@vC _ _ _ _ _ _ _ _ zbg (@zc _ _ _ _ _ _ _ _ _ nL rfl G.abs rfl (@zA _ _ _ _ _ (@pvb _ 2 _ _ rfl) zC rfl) (by decide) (by decide) rfl rfl) (@zS _ _ _ _ _ _ _ _ uU zG zG) (yI _)) zC rfl) (by decide) (by decide) rfl rfl)) rfl (by trivial)) (@zM _ _ _ (@zW _ _ _ _ (@zr _ _ _ _ (@zA _ _ _ _ _ (@pvb _ 3 _ _ rfl) (@zA _ _ _ _ _ (@zS _ _ _ _ _ _ _ _ xt (@zS _ _ _ _ _ _ _ _ xL (@zS _ _ _ _ _ _ _ _ yQ (@zS _ _ _ _ _ _ _ _ yQ (@zS _ _ _ _ _ _ _ _ xt (@pvb _ 2 _ _ rfl) zG) (@zS _ _ _ _ _ _ _ _ xL (@zS _ _ _ _ _ _ _ _ xL zG (@pvb _ 1 _ _ rfl)) (@pvb _ 1 _ _ rfl))) zG) zG) zG) (@zA _ _ _ _ _ zG zC rfl) rfl) rfl))))))),?_⟩;have d:(ns.map V.int).length=ns.length:=Jc _;refine zbw ?_;refine lL (λσ m=>m=H/\∃ x:Int,σ=[some (.ref a),some (.int k),some (.int x),none]) ?_ λD c _=>?_
 ·rintro σ m ⟨rfl,x,rfl⟩
  have o:=ZD ((x%2305843009213693951+7919*k*k+11)*48271) (show (2147483647:Int)≠0 by decide);have J:=ZH ((x%2305843009213693951+7919*k*k+11)*48271) (show (0:Int)<2147483647 by decide);have u:∀ b:Bool,(0:Int)<=(if b=true then (1:Int) else 0):=by decide
  have t:∀ b:Bool,-(2 ^ 64)<(if b=true then (1:Int) else 0)/\(if b=true then (1:Int) else 0)<2 ^ 64:=by decide
  refine zB (zY rfl ⟨_,_,rfl,rfl,⟨by decide,by decide,by decide⟩,_,_,rfl,rfl,(by show (0:Int)<10 ^ 60;decide),?_⟩);refine zB (zY rfl ⟨_,_,rfl,rfl,⟨by decide,by decide,by decide⟩,_,_,rfl,rfl,.inr (zY rfl ⟨_,_,rfl,rfl,.inr (t _),?_⟩)⟩);refine zB (zB ⟨_,_,rfl,rfl,(by show (0:Int)<2305843009213693951;decide),_,rfl,_,_,rfl,rfl,.inl ⟨by decide,by decide⟩,_,rfl,_,_,rfl,rfl,.inr ⟨by lia,by lia⟩,_,_,rfl,rfl,_,_,rfl,rfl,_,_,rfl,rfl,.inr ⟨by decide,by decide⟩,_,_,rfl,rfl,(by show (0:Int)<2147483647;decide),(by show 3<=sizeLine;decide),λl g=>?_⟩);refine q l _ g (zD g _) ⟨_,_,_,zH,Int.mul_nonneg (ZD _ (by decide)) (u _),o,by lia⟩
 refine zB ⟨a,_,rfl,.inl e,_,_,rfl,rfl,_,rfl,uX (λz=>?_) (λz=>?_)⟩
 ·have np:0<ns.length:=by
   have:=Yq z;rw[d]at this;lia
  refine zB (zB (zB ⟨a,_,rfl,.inl e,_,_,rfl,rfl,by rw[d];lia,?_⟩));have r:=ZD k (show ((ns.length:Nat):Int)≠0 by lia);have p:=ZH k (show (0:Int)<(ns.length:Nat) by lia);rw[d];obtain⟨j,i⟩:=Int.eq_ofNat_of_zero_le r;rw[i]at p;exact⟨a,_,k%(ns.length:Nat),_,rfl,rfl,e,(by rw[i];exact xI (by lia)),c _ _ ⟨rfl,_,rfl⟩⟩
 ·exact c _ _ ⟨rfl,0,rfl⟩
theorem za5:FnScope ["_law_left_here","_law_row","_law_some_here","_law_found"] ["_law_left_here","_law_row"] (zR mB):=by trivial
theorem eH {f fK:JI}{fd dK:Yl}(F:Fun K "_law_mixed" "_law_mixed" mB f fd) (G:Mgs mg) (UK:Use P w K mg base "_law_pick" ["_law_left_here","_law_many"] 1 xN fK dK):FnOk P w K mg base CX0 2 f fd ["_law_left_here","_law_row"] uk:=by
 refine F.ok za5 (λV H Q E h=>?_) (λaT A outer s H V Q E R h=>?_)
 ·obtain⟨l,p,xs,rfl,_⟩:=h
  rfl
 obtain⟨l,p,xs,rfl,X,xl,S,k⟩:=h;refine⟨_,(@zE _ _ _ _ _ (@qk _ _ 2 3 _ _ _ _ _ _ _ _ _ _ _ rfl za5.nd rfl rfl (by decide) rfl rfl (@zA _ _ _ _ _ (@zi _ _ _ _ _ _ _ _ _ yk rfl G.list rfl (@zA _ _ _ _ _ (@pvb _ 1 _ _ rfl) zC rfl) (by decide) (by decide) rfl rfl) (@zA _ _ _ _ _ (@zr _ _ _ _ zC) zC rfl) rfl) rfl rfl) (@zE _ _ _ _ _ (@oF _ _ _ _ _ _ JP (@zq _ _ _ _ _ _ _ _ (eA R.units0) (@pvb _ 2 _ _ rfl) (@zr _ _ _ _ zC) (yI _)) (@zM _ _ _ (@y7 _ _ _ _ (@wR _ _ _ _ _ _ _ _ _ _ _ _ JW Y9 Ya yd (@pvb _ 3 _ _ rfl) (@zA _ _ _ _ _ (@wR _ _ _ _ _ _ _ _ _ _ _ _ JW PySem.F.slot_list_pop PySem.F.type_list_pop eT (@pvb _ 2 _ _ rfl) (@zA _ _ _ _ _ (@zQ _ _ _ _ _ _ _ _ _ _ _ _ UK R (@zA _ _ _ _ _ (@pvb _ 0 _ _ rfl) (@zA _ _ _ _ _ (@zc _ _ _ _ _ _ _ _ _ zk rfl G.len JY (@zA _ _ _ _ _ (@pvb _ 2 _ _ rfl) zC rfl) (by decide) (by decide) rfl rfl) zC rfl) rfl) rfl rfl rfl rfl) zC rfl) rfl rfl rfl rfl rfl) zC rfl) rfl rfl rfl rfl rfl) rfl))) (@zM _ _ _ (@zW _ _ _ _ (@zi _ _ _ _ _ _ _ _ _ zo rfl G.tuple rfl (@zA _ _ _ _ _ (@pvb _ 3 _ _ rfl) zC rfl) (by decide) (by decide) rfl rfl))))),?_⟩;refine zB ⟨p,_,rfl,.inl (SqL.of X),λlo u=>?_⟩;have z:=zD u (.lst xs);have y:=S.ne u;refine⟨(by show 0<=sizeLine;decide),λlt d=>?_⟩;have M:=zD d (.lst []);have x:=(S.keep z).ne d;have not:lo≠lt:=zJ zH d;have L:Frs l H lo:=λb o e _=>zJ e u;have flt:Frs l H lt:=λb o e _=>zJ (z _ _ e) d;refine⟨_,_,rfl,?_⟩
 refine⟨λm σ n=>σ=[some (.ref l),some (.ref p),some (.ref lo),some (.ref lt)]/\Pk3 n l/\But l H n/\∃ c g,n lo=some (.lst c)/\c.length=m/\n lt=some (.lst g)/\(g++c).Perm xs,
  zY rfl ⟨(S.keep z).keep M,(But.of z).trans (But.of M),xs,[],by rw[zK not];exact zH,rfl,zH,.refl _⟩,?_⟩
 rintro m σ n ⟨rfl,S3,B3,c,g,N,ul,W,pm⟩;refine zB ⟨(by show 0<=sizeLine;decide),λe Y=>?_⟩;have v:=zD Y (.lst []);refine⟨lo,e,c,rfl,rfl,SqL.of (v _ _ N),SqL.of zH,_,rfl,?_⟩;have T:=S3.keep v;have U:But l H (L2.upd n e (.lst [])):=B3.trans (But.of v);have r:=v _ _ N;have q:=v _ _ W;generalize L2.upd n e (.lst [])=H4 at *;have aE:g.length+c.length=xs.length:=by rw[<- Jb];exact pm.length_eq
 by_cases un:c=[]
 ·rw[show (!c.isEmpty)=false by rw[un];rfl]
  rw[un,JT]at pm;refine xX (zB ⟨lt,_,rfl,.inl ⟨SqL.of q,λt O=>k t g _ pm zH (T.keep (zD O _)) (U.trans (But.of (zD O _)))⟩⟩)
 have up:0<c.length:=Yp.mpr un
 rw[show (!c.isEmpty)=true by cases c with
  | nil=>exact absurd rfl un
  | cons a b=>rfl]
 refine wE ⟨_,λab H' Z=>⟨m-1,by lia,Z⟩,?_⟩;refine zB ⟨.inl ⟨rfl,_,SqL.of q⟩,_,rfl,.inl ⟨rfl,_,SqL.of r⟩,_,rfl,_,rfl,lo,_,rfl,.inl (SqL.of r),l,_,rfl,by lia,by lia,T,λj H5 hk S5 C=>?_⟩;have B:j<c.length:=by lia
 have J:=C lo _ r y.symm;have I:=C lt _ q x.symm;refine⟨lo,_,_,j,c[j],rfl,rfl,J,by lia,by lia,(pF (wn (xs:=c) (i:=j) B)).1,J2 B,?_⟩;have D:L2.upd H5 lo (.lst (c.eraseIdx j)) lt=some (.lst g):=by rw[zK not.symm];exact I
 refine⟨lt,_,_,rfl,rfl,D,by rw[Ju];lia,rfl,(S5.upd y).upd x,((U.trans C).upd L).upd flt,c.eraseIdx j,g++[c[j]],by rw[zK not];exact zH,by rw[List.length_eraseIdx,Jq B];lia,zH,?_⟩;refine List.Perm.trans ?_ pm;rw[Y0];refine List.Perm.append_left g ?_;exact sW c j B
abbrev oA:Stmt:=top 36
def tK (m:Nat):Sp:=λh H Q _=>∃ g f a b,h=[.ref g,.ref f]/\H g=some (.lst (zU a))/\H f=some (.lst (zU b))/\a.length=2 ^ m/\b.length=2 ^ m/\m<=8/\∀ c lf le e d,Same H d->H lf=none->d c=some (.tup [.ref lf,.ref le])->d lf=some (.lst e)->Prs d e (Bn.mergeN m a b).1->d le=some (.lst (zU (Bn.mergeN m a b).2))->Q (.ref c) d
theorem mq (row:List Nat)(i:Nat)(h:i<=row.length):wI (zU row) none (some (i:Int))=zU (row.take i):=by
 rw[sZ _ _ (by rw[zd];exact h)];unfold zU;rw[List.map_take]
theorem mt (row:List Nat)(i:Nat)(h:i<=row.length):wI (zU row) (some (i:Int)) none=zU (row.drop i):=by
 rw[si _ _ (by rw[zd];exact h)];unfold zU;rw[List.map_drop]
theorem kQ (off:Nat)(a:List Nat):by2 off (zU a)=zU (by2 off a):=by unfold zU;exact aD _ off a
theorem eY (a b:List Nat):zU a++zU b=zU (a++b):=by unfold zU;exact(JG ..).symm
theorem mw (row:List Nat)(i:Nat)(h:i<row.length):(zU row)[i]?=some (.int ((row.getD i 0:Nat):Int)):=by
 unfold zU;rw[JF,J2 h,J8,J2 h];rfl
theorem vT:∀ (a b:List Nat) (j:Nat),j<a.length->j<b.length->ya (a.take (j+1)) (b.take (j+1))=ya (a.take j) (b.take j)++[a.getD j 0,b.getD j 0]
 | x::a,y::b,0,_,_=>by rw[Z8,Z8,List.take_zero,List.take_zero];rfl
 | x::a,y::b,j+1,ha,hb=>by
  rw[Z8,Z8,Z8,Z8];show x::y::ya (a.take (j+1)) (b.take (j+1))=x::y::(ya (a.take j) (b.take j)++[a.getD j 0,b.getD j 0]);rw[vT a b j (by simpa using ha) (by simpa using hb)]
theorem pM {a b:List Nat}{j:Nat}(ha:j<a.length)(hb:j<b.length):(a.zip b).take (j+1)=(a.zip b).take j++[(a.getD j 0,b.getD j 0)]:=by
 rw[Yw (by rw[Zc];lia),List.getElem_zip,J8,J2 ha,J8,J2 hb];rfl
theorem num_at {a:List Nat}{j:Nat}{x:V}(h:(zU a)[j]?=some x):j<a.length/\x=.int ((a.getD j 0:Nat):Int):=by
 have b:j<a.length:=by rw[<- zd a];exact(Jd.mp h).1
 rw[mw a j b]at h;exact⟨b,(Jj h).symm⟩
theorem ph:FnScope ["_law_one","_law_other","_law_forks","_law_first","_law_more","_law_second","_law_ends_here","_law_x","_law_y"] ["_law_one","_law_other"] (zR oA):=by trivial
theorem oS {f:JI}{fd:Yl}(F:Fun K "_law_merger" "_law_merger" oA f fd) (G:Mgs mg) (bS:Binds K fd ["_law_one","_law_other"] []) (mS:mg "_law_merger" = some (.ref f)) (n:Nat)
  (GS:FnOk P w K mg base CX0 n f fd ["_law_one","_law_other"] (λvs H Q E=>∃ m,n=m+1/\tK m vs H Q E)):FnOk P w K mg base CX0 (n+1) f fd ["_law_one","_law_other"] (tK n):=by
 have UT:Use P w K mg base "_law_merger" ["_law_one","_law_other"] n (λvs H Q E=>∃ m,n=m+1/\tK m vs H Q E) f fd:=⟨GS,bS,F.kp,mS⟩;refine F.ok ph (λvs H Q E h=>?_) (λcP A outer s H vs Q E hr h=>?_)
 ·obtain⟨J,S,a,b,rfl,_⟩:=h
  rfl
 obtain⟨J,S,a,b,rfl,h1,h2,al,bl,bB,k⟩:=h;refine⟨_,(@zE _ _ _ _ _ (@yV _ _ _ _ _ _ _ _ (@zq _ _ _ _ _ _ _ _ xu (@zc _ _ _ _ _ _ _ _ _ zk rfl G.len JY (@zA _ _ _ _ _ (@pvb _ 0 _ _ rfl) zC rfl) (by decide) (by decide) rfl rfl) zG (yI _)) (@zM _ _ _ (@zW _ _ _ _ (@zj _ _ _ _ _ (@zA _ _ _ _ _ (@zr _ _ _ _ (@zA _ _ _ _ _ (@zj _ _ _ _ _ (@zA _ _ _ _ _ (@zX _ _ _ _ _ _ _ zZ (@pvb _ 0 _ _ rfl) zG (λ_ _=>rfl)) (@zA _ _ _ _ _ (@zX _ _ _ _ _ _ _ zZ (@pvb _ 1 _ _ rfl) zG (λ_ _=>rfl)) zC rfl) rfl)) zC rfl)) (@zA _ _ _ _ _ (@zr _ _ _ _ (@zA _ _ _ _ _ (@zX _ _ _ _ _ _ _ zZ (@pvb _ 0 _ _ rfl) zG (λ_ _=>rfl)) (@zA _ _ _ _ _ (@zX _ _ _ _ _ _ _ zZ (@pvb _ 1 _ _ rfl) zG (λ_ _=>rfl)) zC rfl) rfl)) zC rfl) rfl)))) zx) (@zE _ _ _ _ _ (@yM _ _ _ _ _ _ (@zQ _ _ _ _ _ _ _ _ _ _ _ _ UT hr (@zA _ _ _ _ _ (@qp _ _ _ _ _ _ _ _ _ (@pvb _ 0 _ _ rfl) yR (@zy _ _ _ zG)) (@zA _ _ _ _ _ (@qp _ _ _ _ _ _ _ _ _ (@pvb _ 1 _ _ rfl) (@zy _ _ _ zG) (@zy _ _ _ zG)) zC rfl) rfl) rfl rfl rfl rfl) (@yN _ _ _ _ _ _ rfl (@zP _ _ _ _ _ (@zN _ _ 2 _ ph.nd rfl (.inl rfl) (by trivial)) (@zP _ _ _ _ _ (@zN _ _ 3 _ ph.nd rfl (.inl rfl) (by trivial)) zu rfl) rfl) rfl rfl) rfl rfl rfl) (@zE _ _ _ _ _ (@yM _ _ _ _ _ _ (@zQ _ _ _ _ _ _ _ _ _ _ _ _ UT hr (@zA _ _ _ _ _ (@qp _ _ _ _ _ _ _ _ _ (@pvb _ 0 _ _ rfl) (@zy _ _ _ zG) (@zy _ _ _ zG)) (@zA _ _ _ _ _ (@qp _ _ _ _ _ _ _ _ _ (@pvb _ 1 _ _ rfl) yR (@zy _ _ _ zG)) zC rfl) rfl) rfl rfl rfl rfl) (@yN _ _ _ _ _ _ rfl (@zP _ _ _ _ _ (@zN _ _ 4 _ ph.nd rfl (.inl rfl) (by trivial)) (@zP _ _ _ _ _ (@zN _ _ 5 _ ph.nd rfl (.inl rfl) (by trivial)) zu rfl) rfl) rfl rfl) rfl rfl rfl) (@zE _ _ _ _ _ (@qk _ _ 2 6 _ _ _ _ _ _ _ _ _ _ _ rfl ph.nd rfl rfl (by decide) rfl rfl (@zA _ _ _ _ _ (@zS _ _ _ _ _ _ _ _ wb (@pvb _ 2 _ _ rfl) (@pvb _ 4 _ _ rfl)) (@zA _ _ _ _ _ (@zr _ _ _ _ zC) zC rfl) rfl) rfl rfl) (@zE _ _ _ _ _ (@yo _ _ _ _ _ _ _ _ JP rfl (@fW _ _ _ _ _ _ _ _ _ true true rfl G.zip (@zA _ _ _ _ _ (@pvb _ 3 _ _ rfl) (@zA _ _ _ _ _ (@pvb _ 5 _ _ rfl) zC rfl) rfl) rfl rfl) (@yN _ _ _ _ _ _ rfl (@zP _ _ _ _ _ (@zN _ _ 7 _ ph.nd rfl (.inl rfl) (by trivial)) (@zP _ _ _ _ _ (@zN _ _ 8 _ ph.nd rfl (.inl rfl) (by trivial)) zu rfl) rfl) rfl rfl) (@zE _ _ _ _ _ (@y7 _ _ _ _ (@wR _ _ _ _ _ _ _ _ _ _ _ _ JW Y9 Ya yd (@pvb _ 2 _ _ rfl) (@zA _ _ _ _ _ (@zj _ _ _ _ _ (@zA _ _ _ _ _ (@pvb _ 7 _ _ rfl) (@zA _ _ _ _ _ (@pvb _ 8 _ _ rfl) zC rfl) rfl)) zC rfl) rfl rfl rfl rfl rfl) rfl) (@zM _ _ _ (@y7 _ _ _ _ (@wR _ _ _ _ _ _ _ _ _ _ _ _ JW PySem.F.slot_list_extend PySem.F.type_list_extend rV (@pvb _ 6 _ _ rfl) (@zA _ _ _ _ _ (@zr _ _ _ _ (@zA _ _ _ _ _ (@pvb _ 7 _ _ rfl) (@zA _ _ _ _ _ (@pvb _ 8 _ _ rfl) zC rfl) rfl)) zC rfl) rfl rfl rfl rfl rfl) rfl))) (by intro _;rfl)) (@zM _ _ _ (@zW _ _ _ _ (@zj _ _ _ _ _ (@zA _ _ _ _ _ (@pvb _ 2 _ _ rfl) (@zA _ _ _ _ _ (@pvb _ 6 _ _ rfl) zC rfl) rfl))))))))),?_⟩;have na:=zd a;have nb:=zd b;have p8:2 ^ n<=2 ^ 8:=YC (by decide) bB;have e8:2 ^ 8=256:=rfl;refine zB ⟨J,_,rfl,.inl (SqL.of h1),rfl,_,rfl,?_⟩
 cases n with
 | zero =>
  have ba:a.length=1:=al;have cE:b.length=1:=bl;rw[JC (show V.int (((zU a).length:Nat):Int)=V.int 1 by rw[na,ba];rfl)];obtain⟨x,rfl⟩:=List.length_eq_one_iff.mp ba;obtain⟨y,rfl⟩:=List.length_eq_one_iff.mp cE;refine wE (zB ⟨J,_,0,_,rfl,rfl,SqL.of h1,rfl,_,rfl,S,_,0,_,rfl,rfl,SqL.of h2,rfl,(by show 2<=sizeLine;decide),λt ht=>⟨(by show 1<=sizeLine;decide),λlf hf=>?_⟩⟩);have Y:=zD ht (.tup [.int x,.int y]);have X:=zD hf (.lst [.ref t]);have u2:=Y.trans X;refine zB ⟨J,_,0,_,rfl,rfl,SqL.of (u2 _ _ h1),rfl,_,rfl,S,_,0,_,rfl,rfl,SqL.of (u2 _ _ h2),rfl,(by show 2<=sizeLine;decide),λle he=>⟨(by show 2<=sizeLine;decide),λc hc=>?_⟩⟩;have W:=zD he (.lst [.int x,.int y]);have I:=zD hc (.tup [.ref lf,.ref le])
  exact k c lf le [.ref t] _ ((u2.trans W).trans I) (wd Y hf) (zT hc _) (I _ _ (W _ _ (zT hf _))) ⟨⟨t,rfl,I _ _ (W _ _ (X _ _ (zT ht _)))⟩,trivial⟩ (I _ _ (zT he _))
 | succ m =>
  obtain⟨a0,a1⟩:=uK al;obtain⟨b0,b1⟩:=uK bl;have pw:2 ^ (m+1)=2 ^ m*2:=YW ..;have p0:=YX (n:=m);rw[Jt (show ¬ V.int (((zU a).length:Nat):Int)=V.int 1 by intro z;injection z with z;lia)];refine xX ?_;dsimp only[lX];refine zz (λD1 ck=>?_);refine zB ⟨2,rfl,rfl,0,J,_,.inl ⟨rfl,rfl⟩,rfl,SqL.of h1,λq1 a7=>?_⟩;rw[kQ];have Y:=zD a7 (.lst (zU (by2 0 a)));refine zB ⟨1,rfl,2,rfl,rfl,1,S,_,.inr ⟨rfl,rfl⟩,rfl,SqL.of (Y _ _ h2),λq2 a6=>?_⟩;rw[kQ];have X:=zD a6 (.lst (zU (by2 1 b)));refine⟨m,rfl,q1,q2,by2 0 a,by2 1 b,rfl,X _ _ (zT a7 _),zT a6 _,a0,b1,by lia,λc3 bR i M H3 W _ b9 b6 aT b7=>?_⟩;have u3:=(Y.trans X).trans W;refine⟨c3,_,rfl,SqT.of b9,rfl,_,_,rfl,_,_,rfl,rfl,ck _ _ ?_⟩;refine zz (λD2 cc=>?_);refine zB ⟨1,rfl,2,rfl,rfl,1,J,_,.inr ⟨rfl,rfl⟩,rfl,SqL.of (u3 _ _ h1),λq4 a5=>?_⟩;rw[kQ];have I:=zD a5 (.lst (zU (by2 1 a)));refine zB ⟨2,rfl,rfl,0,S,_,.inl ⟨rfl,rfl⟩,rfl,SqL.of (I _ _ (u3 _ _ h2)),λq5 a4=>?_⟩;rw[kQ];have s5:=zD a4 (.lst (zU (by2 0 b)));refine⟨m,rfl,q4,q5,by2 1 a,by2 0 b,rfl,s5 _ _ (zT a5 _),zT a4 _,a1,b0,by lia,λc6 a3 g L H6 s6 _ b8 b5 aE O=>?_⟩;have u6:=(I.trans s5).trans s6;refine⟨c6,_,rfl,SqT.of b8,rfl,_,_,rfl,_,_,rfl,rfl,cc _ _ ?_⟩;refine zz (λD3 cb=>?_);obtain⟨xl,xf⟩:=xj m _ _ a0 b1;obtain⟨yl,yf⟩:=xj m _ _ a1 b0;have bd:=(vk m (by lia)).2;have cL:=aT.len;have cH:=aE.len;have N:=u3.trans u6;have B:=u6 _ _ b7;refine zB (zB ⟨bR,a3,_,_,rfl,rfl,u6 _ _ b6,b5,by rw[Ju];lia,λd p=>⟨(by show 0<=sizeLine;decide),λu l=>⟨_,_,rfl,cb _ _ ?_⟩⟩⟩);have D:=zD p (.lst (M++L));have U:=zD l (.lst []);have a9:d≠u:=zJ (zT p (.lst (M++L))) l;have bc:=(Prs.app (aT.tups (Tups.of u6)) aE).tups (Tups.of (D.trans U));have a8:H d=none:=wd N p;have b4:H u=none:=wd (N.trans D) l;generalize hF:(Bn.mergeN m (by2 0 a) (by2 1 b)).2=fst at *;generalize hS:(Bn.mergeN m (by2 1 a) (by2 0 b)).2=snd at *;have e3:=U _ _ (D _ _ B);have e6:=U _ _ (D _ _ O);have n3:i≠d:=zJ B p;have n6:g≠d:=zJ O p;have bu:i≠u:=zJ (D _ _ B) l;have bt:g≠u:=zJ (D _ _ O) l;refine zB (zB ⟨i,g,_,_,rfl,SqL.of e3,SqL.of e6,?_⟩);refine kg (K:=K) (b1:=true) (b2:=true) (a1:=i) (a2:=g) (xs:=zU fst) (ys:=zU snd) (by rw[zd,zd,xl,yl]) (λj σ C=>(∃ v7 v8,σ=[some (.ref J),some (.ref S),some (.ref d),some (.ref i),some (.ref a3),some (.ref g),some (.ref u),v7,v8])/\Same H C/\C i=some (.lst (zU fst))/\C g=some (.lst (zU snd))/\(∃ r,C d=some (.lst r)/\Prs C r ((Bn.mergeN m (by2 0 a) (by2 1 b)).1++(Bn.mergeN m (by2 1 a) (by2 0 b)).1++(fst.zip snd).take j))/\C u=some (.lst (zU (ya (fst.take j) (snd.take j))))) ?_ (λj σ C _ z=>⟨SqL.of z.2.2.1,SqL.of z.2.2.2.1⟩) ?_ ?_
  ·refine⟨⟨_,_,rfl⟩,(N.trans D).trans U,e3,e6,⟨M++L,U _ _ (zT p _),?_⟩,zT l _⟩
   rw[List.take_zero,JT];exact bc
  ·rintro j x y T σ C hx hy hT ⟨⟨v7,v8,rfl⟩,s9,e3,e6,⟨r,h7,v⟩,h8⟩
   obtain⟨j1,rfl⟩:=num_at hx;obtain⟨j2,rfl⟩:=num_at hy;have pl:=v.len;rw[Jb,Jb,Js,Zc]at pl;have sT:=zD hT (.tup [.int ((fst.getD j 0:Nat):Int),.int ((snd.getD j 0:Nat):Int)]);refine⟨T,_,rfl,SqT.of zH,rfl,_,_,rfl,_,_,rfl,rfl,?_⟩;refine zB ⟨.inl ⟨rfl,_,SqL.of (sT _ _ h7)⟩,_,rfl,_,rfl,(by show 2<=sizeLine;decide),λt ht=>?_⟩;have st:=zD ht (.tup [.int ((fst.getD j 0:Nat):Int),.int ((snd.getD j 0:Nat):Int)]);have ut:=sT.trans st;refine⟨d,r,_,rfl,rfl,ut _ _ h7,by rw[Ju];lia,?_⟩;have b3:=zT ht (.tup [.int ((fst.getD j 0:Nat):Int),.int ((snd.getD j 0:Nat):Int)]);have ct:=ut _ _ h7;have cn:=ut _ _ h8;have cz:=ut _ _ e3;have cx:=ut _ _ e6;have bb:=s9.trans ut;have ab:=v.tups (Tups.of ut);generalize L2.upd (L2.upd C T (.tup [.int ((fst.getD j 0:Nat):Int),.int ((snd.getD j 0:Nat):Int)])) t (.tup [.int ((fst.getD j 0:Nat):Int),.int ((snd.getD j 0:Nat):Int)])=H9 at *;have tq:=Tups.lst (ys:=r++[.ref t]) ct;have R:L2.upd H9 d (.lst (r++[.ref t])) u=some (.lst (zU (ya (fst.take j) (snd.take j)))):=by rw[zK a9.symm];exact cn
   refine zB ⟨.inl ⟨rfl,_,SqL.of R⟩,_,rfl,_,rfl,(by show 2<=sizeLine;decide),λq hq=>?_⟩;have sq:=zD hq (.lst [.int ((fst.getD j 0:Nat):Int),.int ((snd.getD j 0:Nat):Int)]);have tl:=xn (fst.take j) (snd.take j) (by rw[Js,Js];lia);rw[Js]at tl;refine⟨u,q,_,_,rfl,rfl,sq _ _ R,zT hq _,by rw[zd,Ju,tl];show _+2<=_;lia,?_⟩;have Z:∀ {c:JI}{o:HO},L2.upd H9 d (.lst (r++[.ref t])) c=some o->c≠u->L2.upd (L2.upd (L2.upd H9 d (.lst (r++[.ref t]))) q (.lst [.int ((fst.getD j 0:Nat):Int),.int ((snd.getD j 0:Nat):Int)])) u (.lst (zU (ya (fst.take j) (snd.take j))++[.int ((fst.getD j 0:Nat):Int),.int ((snd.getD j 0:Nat):Int)])) c=some o:=λe ne=>by rw[zK ne];exact sq _ _ e
   refine⟨⟨_,_,rfl⟩,λc o e=>Z (by rw[zK (zJ e a8)];exact bb c o e) (zJ e b4),Z (by rw[zK n3];exact cz) bu,Z (by rw[zK n6];exact cx) bt,⟨r++[.ref t],Z zH a9,?_⟩,?_⟩
   ·rw[pM j1 j2,<- Y0]
    have tz:Tups (L2.upd H9 d (.lst (r++[.ref t]))) _:=λc xs e=>Z e (x8 e R (λz=>by cases z));exact(Prs.add (f:=(fst.getD j 0,snd.getD j 0)) (tq _ _ b3) (ab.tups tq)).tups tz
   ·rw[vT fst snd j j1 j2]
    have e:zU (ya (fst.take j) (snd.take j)++[fst.getD j 0,snd.getD j 0])=zU (ya (fst.take j) (snd.take j))++[.int ((fst.getD j 0:Nat):Int),.int ((snd.getD j 0:Nat):Int)]:=by rw[<- eY];rfl
    rw[e];exact zH
  ·rintro σ C ⟨⟨v7,v8,rfl⟩,s9,e3,e6,⟨r,h7,v⟩,h8⟩
   refine zB (zB ⟨(by show 2<=sizeLine;decide),λc hc=>?_⟩);have sc:=zD hc (.tup [.ref d,.ref u]);have eN:Bn.mergeN (m+1) a b=((Bn.mergeN m (by2 0 a) (by2 1 b)).1++(Bn.mergeN m (by2 1 a) (by2 0 b)).1++fst.zip snd,ya fst snd):=by rw[<- hF,<- hS];rfl
   refine k c d u r _ (s9.trans sc) a8 (zT hc _) (sc _ _ h7) ?_ ?_
   ·rw[eN]
    rw[JK (by rw[zd,Zc];simp_all)]at v;exact v.tups (Tups.of sc)
   ·rw[eN]
    rw[JK (by rw[zd];exact Je _),JK (by rw[zd];simp_all)]at h8;exact sc _ _ h8
theorem kH {f:JI}{fd:Yl}(F:Fun K "_law_merger" "_law_merger" oA f fd) (G:Mgs mg) (b:Binds K fd ["_law_one","_law_other"] []) (a:mg "_law_merger" = some (.ref f)):∀ n:Nat,FnOk P w K mg base CX0 (n+1) f fd ["_law_one","_law_other"] (tK n)
 | 0=>oS F G b a 0 ⟨λvs H Q E ⟨m,h,_⟩=>by simp_all,λA outer s H args us vs Q E _ _ _ _ ⟨m,h,_⟩=>by simp_all⟩
 | m+1=>oS F G b a (m+1) ((kH F G b a m).imp λvs H Q E ⟨c,h,q⟩=>by cases h;exact q)
abbrev wV:Sp:=λa H Q E=>∃ m,m<=4/\tK m a H Q E
theorem jj {f:JI}{fd:Yl}(F:Fun K "_law_merger" "_law_merger" oA f fd) (G:Mgs mg) (b:Binds K fd ["_law_one","_law_other"] []) (a:mg "_law_merger" = some (.ref f)):FnOk P w K mg base CX0 5 f fd ["_law_one","_law_other"] wV :=
 FnOk.any 4 λm c=>(kH F G b a m).mono (by simp_all)
abbrev gh:Stmt:=top 41
structure Few (l f:Nat) (N:Nt):Prop where
 ok:N.Ok
 ln:N.lanes<=l
 fk:N.forks.length<=f
def nq:Sp:=λb H Q _=>∃ l:JI,b=[.ref l]/\Pk3 H l/\∀ r fr d c N a,Few 6 8 N->NetAt a r fr d c N->Pk3 a l->But l H a->Q (.ref r) a
def FkOk (H:Hp)(lanes:Nat)(x:V):Prop:=∃ a g,x=.ref a/\H a=some (.tup [.int ((g:Nat × Nat).1:Nat),.int ((g.2:Nat))])/\g.1<lanes/\g.2<lanes/\g.1≠g.2
theorem FkOk.tups {H H':Hp}(t:Tups H H'){lanes:Nat}{x:V}(h:FkOk H lanes x):FkOk H' lanes x:=by
 obtain⟨a,g,e,c,b⟩:=h;exact⟨a,g,e,t _ _ c,b⟩
theorem n4:FnScope ["_law_left_here","_law_lanes","_law_forks","_law_k","_law_a","_law_b","_law_ends_here"] ["_law_left_here"] (zR gh):=by trivial
theorem bT {f fK fX:JI}{fd dK dX:Yl}(F:Fun K "_law_any" "_law_any" gh f fd) (G:Mgs mg) (UK:Use P w K mg base "_law_pick" ["_law_left_here","_law_many"] 1 xN fK dK) (UX:Use P w K mg base "_law_mixed" ["_law_left_here","_law_row"] 2 uk fX dX):FnOk P w K mg base CX0 3 f fd ["_law_left_here"] nq:=by
 refine F.ok n4 (λvs H Q E h=>?_) (λb2 A outer s H vs Q E hr h=>?_)
 ·obtain⟨l,rfl,_⟩:=h
  rfl
 obtain⟨l,rfl,S,k⟩:=h;have B:Room 1 _:=hr.mono (by decide);refine⟨_,(@zE _ _ _ _ _ (@zV _ _ 1 _ _ _ _ n4.nd rfl (.inl rfl) (@zX _ _ _ _ _ _ _ zZ (@zr _ _ _ _ (@zA _ _ _ _ _ zG (@zA _ _ _ _ _ zG (@zA _ _ _ _ _ zG (@zA _ _ _ _ _ zG (@zA _ _ _ _ _ zG (@zA _ _ _ _ _ zG (@zA _ _ _ _ _ zG (@zA _ _ _ _ _ zG zC rfl) rfl) rfl) rfl) rfl) rfl) rfl) rfl)) (@zQ _ _ _ _ _ _ _ _ _ _ _ _ UK B (@zA _ _ _ _ _ (@pvb _ 0 _ _ rfl) (@zA _ _ _ _ _ zG zC rfl) rfl) rfl rfl rfl rfl) (λ_ _=>rfl)) rfl (by trivial)) (@zE _ _ _ _ _ (@zV _ _ 2 _ _ _ _ n4.nd rfl (.inl rfl) (@zr _ _ _ _ zC) rfl (by trivial)) (@zE _ _ _ _ _ (@yo _ _ _ _ _ _ _ _ JP rfl (@yc _ _ _ _ _ _ rfl G.range (@zA _ _ _ _ _ (@zS _ _ _ _ _ _ _ _ xL (@zX _ _ _ _ _ _ _ zZ (@zr _ _ _ _ (@zA _ _ _ _ _ zG (@zA _ _ _ _ _ zG (@zA _ _ _ _ _ zG (@zA _ _ _ _ _ zG (@zA _ _ _ _ _ zG (@zA _ _ _ _ _ zG (@zA _ _ _ _ _ zG (@zA _ _ _ _ _ zG zC rfl) rfl) rfl) rfl) rfl) rfl) rfl) rfl)) (@zQ _ _ _ _ _ _ _ _ _ _ _ _ UK B (@zA _ _ _ _ _ (@pvb _ 0 _ _ rfl) (@zA _ _ _ _ _ zG zC rfl) rfl) rfl rfl rfl rfl) (λ_ _=>rfl)) (@zi _ _ _ _ _ _ _ _ _ wL rfl G.int rfl (@zA _ _ _ _ _ (@vC _ _ _ _ _ _ _ _ sF (@pvb _ 1 _ _ rfl) zG (yI _)) zC rfl) (by decide) (by decide) rfl rfl)) zC rfl) rfl) (@zN _ _ 3 _ n4.nd rfl (.inl rfl) (by trivial)) (@zE _ _ _ _ _ (@zV _ _ 4 _ _ _ _ n4.nd rfl (.inl rfl) (@zQ _ _ _ _ _ _ _ _ _ _ _ _ UK B (@zA _ _ _ _ _ (@pvb _ 0 _ _ rfl) (@zA _ _ _ _ _ (@pvb _ 1 _ _ rfl) zC rfl) rfl) rfl rfl rfl rfl) rfl (by trivial)) (@zE _ _ _ _ _ (@zV _ _ 5 _ _ _ _ n4.nd rfl (.inl rfl) (@zS _ _ _ _ _ _ _ _ xt (@zS _ _ _ _ _ _ _ _ yQ (@zS _ _ _ _ _ _ _ _ yQ (@pvb _ 4 _ _ rfl) zG) (@zQ _ _ _ _ _ _ _ _ _ _ _ _ UK B (@zA _ _ _ _ _ (@pvb _ 0 _ _ rfl) (@zA _ _ _ _ _ (@zS _ _ _ _ _ _ _ _ xW (@pvb _ 1 _ _ rfl) zG) zC rfl) rfl) rfl rfl rfl rfl)) (@pvb _ 1 _ _ rfl)) rfl (by trivial)) (@zM _ _ _ (@y7 _ _ _ _ (@wR _ _ _ _ _ _ _ _ _ _ _ _ JW Y9 Ya yd (@pvb _ 2 _ _ rfl) (@zA _ _ _ _ _ (@zX _ _ _ _ _ _ _ zZ (@zr _ _ _ _ (@zA _ _ _ _ _ (@zj _ _ _ _ _ (@zA _ _ _ _ _ (@pvb _ 4 _ _ rfl) (@zA _ _ _ _ _ (@pvb _ 5 _ _ rfl) zC rfl) rfl)) (@zA _ _ _ _ _ (@zj _ _ _ _ _ (@zA _ _ _ _ _ (@pvb _ 4 _ _ rfl) (@zA _ _ _ _ _ (@pvb _ 5 _ _ rfl) zC rfl) rfl)) (@zA _ _ _ _ _ (@zX _ _ _ _ _ _ _ zZ (@zS _ _ _ _ _ _ _ _ wb (@pvb _ 2 _ _ rfl) (@zr _ _ _ _ (@zA _ _ _ _ _ (@zj _ _ _ _ _ (@zA _ _ _ _ _ (@pvb _ 4 _ _ rfl) (@zA _ _ _ _ _ (@pvb _ 5 _ _ rfl) zC rfl) rfl)) zC rfl))) zG (λ_ _=>rfl)) zC rfl) rfl) rfl)) (@zQ _ _ _ _ _ _ _ _ _ _ _ _ UK B (@zA _ _ _ _ _ (@pvb _ 0 _ _ rfl) (@zA _ _ _ _ _ zG zC rfl) rfl) rfl rfl rfl rfl) (λ_ _=>rfl)) zC rfl) rfl rfl rfl rfl rfl) rfl)))) (by intro _;rfl)) (@zE _ _ _ _ _ (@zV _ _ 6 _ _ _ _ n4.nd rfl (.inl rfl) (@zX _ _ _ _ _ _ _ zZ (@zr _ _ _ _ (@zA _ _ _ _ _ (@vA _ _ _ _ _ _ _ rfl rfl G.tuple rfl G.range (@zA _ _ _ _ _ (@pvb _ 1 _ _ rfl) zC rfl) rfl rfl) (@zA _ _ _ _ _ (@zQ _ _ _ _ _ _ _ _ _ _ _ _ UX hr (@zA _ _ _ _ _ (@pvb _ 0 _ _ rfl) (@zA _ _ _ _ _ (@vB _ _ _ _ _ _ _ rfl rfl G.list rfl G.range (@zA _ _ _ _ _ (@pvb _ 1 _ _ rfl) zC rfl) rfl rfl) zC rfl) rfl) rfl rfl rfl rfl) zC rfl) rfl)) (@zQ _ _ _ _ _ _ _ _ _ _ _ _ UK B (@zA _ _ _ _ _ (@pvb _ 0 _ _ rfl) (@zA _ _ _ _ _ zG zC rfl) rfl) rfl rfl rfl rfl) (λ_ _=>rfl)) rfl (by trivial)) (@zM _ _ _ (@zW _ _ _ _ (@zj _ _ _ _ _ (@zA _ _ _ _ _ (@pvb _ 1 _ _ rfl) (@zA _ _ _ _ _ (@zi _ _ _ _ _ _ _ _ _ zo rfl G.tuple rfl (@zA _ _ _ _ _ (@pvb _ 2 _ _ rfl) zC rfl) (by decide) (by decide) rfl rfl) (@zA _ _ _ _ _ (@pvb _ 6 _ _ rfl) zC rfl) rfl) rfl)))))))),?_⟩;refine zz (λD1 bc=>?_);refine⟨(by show 8<=sizeLine;decide),λt C=>zB ⟨l,8,rfl,by decide,by decide,S.keep (zD C _),λv H1 hv S1 B1=>?_⟩⟩;obtain⟨lanes,lm,la⟩:=wz (xs:=[1,2,2,3,4,3,4,6]) (v:=v) (by show v<8;lia);have lb:1<=lanes/\lanes<=6:=(show ∀ n∈[1,2,2,3,4,3,4,6],1<=n/\n<=6 by decide) lanes lm;obtain⟨l1,l6⟩:=lb;refine⟨t,_,_,_,rfl,rfl,SqL.of (B1 t _ (zT C _) (S.ne C).symm),la,bc _ _ ?_⟩;have a6:But l H H1:=(But.of (zD C _)).trans B1;clear C B1 la lm;refine zz (λD2 bb=>?_);refine⟨(by show 0<=sizeLine;decide),λlf D=>bb _ _ ?_⟩;have o:=S1.ne D;have sf:=zD D (.lst []);have bt:Frs l H lf:=a6.frs D;refine⟨(by show 8<=sizeLine;decide),λt C=>zB ⟨l,8,rfl,by decide,by decide,(S1.keep sf).keep (zD C _),λv2 W b1 U Y=>?_⟩⟩;obtain⟨many,mm,ma⟩:=wz (xs:=[0,1,2,3,4,5,6,8]) (v:=v2) (by show v2<8;lia);have mb:many<=8:=(show ∀ n∈[0,1,2,3,4,5,6,8],n<=8 by decide) many mm;refine⟨t,_,_,_,rfl,rfl,SqL.of (Y t _ (zT C _) ((S1.keep sf).ne C).symm),ma,?_⟩;have a8:=Y lf _ (zD C _ _ _ (zT D (.lst []))) o.symm;have bS:But l H W:=((a6.trans (But.of sf)).trans (But.of (zD C _))).trans Y;clear C Y ma mm D sf;refine zB ⟨_,_,rfl,rfl,.inr (zY rfl ⟨_,_,rfl,rfl,.inl ⟨by lia,by lia⟩,?_⟩)⟩
 have cb:((many:Int)*(if decide ((1:Int)<lanes)=true then 1 else 0))=((if 1<lanes then many else 0:Nat):Int):=by
  by_cases z:1<lanes
  ·rw[Jq (JC (by lia)),Jq z];lia
  ·rw[Jg (by rw[Jt (by lia)];exact Ji),Jg z];lia
 have cl:(if 1<lanes then many else 0)<=8:=by split<;>lia
 refine zY rfl ⟨by rw[cb];lia,by rw[cb];lia,?_⟩;rw[cb];generalize aE:(if 1<lanes then many else 0)=cnt at cl
 refine y0 (lo:=0) (n:=((cnt:Nat):Int).toNat) (λi σ W=>(∃ w3 w4 w5 w6,σ=[some (.ref l),some (.int (lanes:Nat)),some (.ref lf),w3,w4,w5,w6])/\Pk3 W l/\But l H W/\∃ m fs,W lf=some (.lst m)/\Prs W m fs/\fs.length=i/\∀ f∈fs,f.1<lanes/\f.2<lanes/\f.1≠f.2)
  ⟨⟨_,_,_,_,rfl⟩,U,bS,[],[],a8,trivial,rfl,λf hf=>by simp at hf⟩ ?_ ?_
 ·rintro i σ W hi ⟨⟨w3,w4,w5,w6,rfl⟩,U,Y,m,fs,h2,p2,fl,O⟩
  have l2:1<lanes:=by
   by_cases z:1<lanes
   ·exact z
   ·rw[Jg z]at aE;lia
  refine zbx (λD0 bl=>?_);refine zz (λD4 ba=>?_);refine zB (zB ⟨l,lanes,rfl,by lia,by lia,U,λone H3 ho S3 X=>ba _ _ ?_⟩);refine zz (λD5 a9=>?_);refine zB ⟨_,_,rfl,rfl,_,rfl,_,rfl,_,_,rfl,rfl,l,_,rfl,by lia,by lia,S3,λd H4 hd S4 B4=>?_⟩;refine⟨_,_,rfl,rfl,_,rfl,_,_,rfl,rfl,by lia,a9 _ _ ?_⟩;have q:one<lanes:=by lia
  obtain⟨ok1,M⟩:=oO (one:=one) (d:=d) (lanes:=lanes) q (by lia);have ec:((one:Int)+1+d)%lanes=(((one+1+d)%lanes:Nat):Int):=by rw[Int.natCast_emod,Int.natCast_add,Int.natCast_add];rfl
  dsimp only;rw[ec];generalize (one+1+d)%lanes=b at ok1 M;have h4:=B4 lf _ (X lf _ h2 o.symm) o.symm;have p4:=p2.tups ((X.tups3 U).trans (B4.tups3 S3));have bB:But l H H4:=(Y.trans X).trans B4;have pl:=p4.len;refine zB ⟨.inl ⟨rfl,_,SqL.of h4⟩,_,rfl,_,rfl,(by show 2<=sizeLine;decide),λI y=>zB (zB ⟨(by show 2<=sizeLine;decide),λt2 aT=>?_⟩)⟩;have s1:=zD y (.tup [.int (one:Nat),.int (b:Nat)]);have s2:=zD aT (.tup [.int (one:Nat),.int (b:Nat)]);have Z:=s1.trans s2;refine zB (zB (zB ⟨(by show 2<=sizeLine;decide),λu N=>⟨(by show 1<=sizeLine;decide),λl3 a4=>?_⟩⟩));have s3:=zD N (.tup [.int (one:Nat),.int (b:Nat)]);have s4:=zD a4 (.lst [.ref u]);have u4:=(Z.trans s3).trans s4;refine⟨lf,l3,_,_,rfl,rfl,u4 _ _ h4,zT a4 _,by rw[Ju];show m.length+1<=_;lia,λl4 a3=>?_⟩;have s5:=zD a3 (.lst (m++[.ref u]));have u5:=u4.trans s5;have k1:FkOk _ lanes (.ref I):=⟨I,(one,b),rfl,s5 _ _ (s4 _ _ (s3 _ _ (s2 _ _ (zT y _)))),q,ok1,M⟩;have k2:FkOk _ lanes (.ref t2):=⟨t2,(one,b),rfl,s5 _ _ (s4 _ _ (s3 _ _ (zT aT _))),q,ok1,M⟩
  obtain⟨x0,e0,k0⟩:∃ x0,(m++[V.ref u])[0]?=some x0/\FkOk (L2.upd (L2.upd (L2.upd (L2.upd (L2.upd H4 I (.tup [.int (one:Nat),.int (b:Nat)])) t2 (.tup [.int (one:Nat),.int (b:Nat)])) u (.tup [.int (one:Nat),.int (b:Nat)])) l3 (.lst [.ref u])) l4 (.lst (m++[.ref u]))) lanes x0:=by
   cases m with
   | nil=>exact zY rfl ⟨u,(one,b),rfl,s5 _ _ (s4 _ _ (zT N _)),q,ok1,M⟩
   | cons p m =>
    obtain⟨a,g,e,eg,ha⟩:=p4.get (i:=0) (p:=p) rfl;exact⟨p,rfl,a,g,e,u5 _ _ ha,O g (Jw eg)⟩
  have h5:=u5 _ _ h4;have p5:=p4.tups (Tups.of u5);have S5:=S4.keep u5;have B5:=bB.trans (But.of (l:=l) u5);refine⟨l4,_,0,x0,rfl,rfl,SqL.of (zT a3 _),yL (j:=0) e0,?_⟩;generalize L2.upd (L2.upd (L2.upd (L2.upd (L2.upd H4 I (.tup [.int (one:Nat),.int (b:Nat)])) t2 (.tup [.int (one:Nat),.int (b:Nat)])) u (.tup [.int (one:Nat),.int (b:Nat)])) l3 (.lst [.ref u])) l4 (.lst (m++[.ref u]))=H5 at *;refine⟨(by show 3<=sizeLine;decide),λl5 c=>zB ⟨l,3,rfl,by decide,by decide,S5.keep (zD c _),λR H6 a7 S6 L=>?_⟩⟩;have J:=zD c (.lst [.ref I,.ref t2,x0]);have b0:R<3:=by lia
  have T:=(Tups.of J).trans (L.tups3 (S5.keep J))
  obtain⟨x,ex,kx⟩:∃ x,[V.ref I,V.ref t2,x0][R]?=some x/\FkOk H6 lanes x:=by
   rcases R with _|_|_|R
   ·exact zY rfl (k1.tups T)
   ·exact zY rfl (k2.tups T)
   ·exact zY rfl (k0.tups T)
   ·lia
  refine⟨l5,_,_,x,rfl,rfl,SqL.of (L l5 _ (zT c _) (S5.ne c).symm),yL ex,?_⟩;have h6:=L lf _ (J _ _ h5) o.symm;have p6:=p5.tups T;obtain⟨a,g,rfl,ha,gk⟩:=kx;refine⟨lf,m,_,rfl,rfl,h6,by rw[Ju];lia,bl _ _ ⟨⟨_,_,_,_,rfl⟩,S6.upd o,((B5.trans (But.of J)).trans L).upd bt,m++[.ref a],fs++[g],zH,Prs.add (f:=g) (Tups.lst h6 _ _ ha) (p6.tups (Tups.lst h6)),by rw[Jb,fl];rfl,λf hf=>?_⟩⟩;rcases Jr.mp hf with z|z
  ·exact O f z
  ·rw[Ja.mp z];exact gk
 ·rintro σ W ⟨⟨w3,w4,w5,w6,rfl⟩,U,Y,m,fs,h2,p2,fl,O⟩
  have bu:fs.length<=8:=by rw[fl];lia
  refine zB ⟨lanes,rfl,by lia,λI y=>?_⟩;have s1:=zD y (.tup (zU (List.range lanes)));refine zB (zB ⟨lanes,rfl,by lia,λl2 a5=>?_⟩);have s2:=zD a5 (.lst (zU (List.range lanes)));have Z:=s1.trans s2;refine⟨l,l2,zU (List.range lanes),rfl,zT a5 _,by rw[zd,JR];lia,U.keep Z,λu ys H3 py N S3 X=>?_⟩;have ab:=X I _ (s2 _ _ (zT y _)) (U.ne y).symm;have h3:=X lf _ (Z _ _ h2) o.symm;have p3:=p2.tups ((Tups.of Z).trans (X.tups3 (U.keep Z)));have bR:=(Y.trans (But.of Z)).trans X;refine⟨(by show 2<=sizeLine;decide),λl5 c=>zB ⟨l,2,rfl,by decide,by decide,S3.keep (zD c _),λR H6 a7 S6 L=>?_⟩⟩;have J:=zD c (.lst [.ref I,.ref u]);have T:=(Tups.of J).trans (L.tups3 (S3.keep J))
  obtain⟨x,ex,e,kx,pe⟩:∃ x,[V.ref I,V.ref u][R]?=some (.ref x)/\∃ es:List Nat,H6 x=some (.tup (zU es))/\es.Perm (List.range lanes):=by
   rcases R with _|_|R
   ·exact zY rfl ⟨_,T _ _ ab,.refl _⟩
   ·obtain⟨es,rfl,pe⟩:=rP py
    exact zY rfl ⟨es,T _ _ N,pe⟩
   ·lia
  refine⟨l5,_,_,.ref x,rfl,rfl,SqL.of (L l5 _ (zT c _) (S3.ne c).symm),yL ex,?_⟩;have h6:=L lf _ (J _ _ h3) o.symm;have p6:=p3.tups T;refine zB (zB ⟨lf,_,rfl,.inl ⟨SqL.of h6,λa ha=>?_⟩⟩);have s7:=zD ha (.tup m);refine zB ⟨(by show 3<=sizeLine;decide),λr a0=>?_⟩;have s8:=zD a0 (.tup [.int (lanes:Nat),.ref a,.ref x]);refine k r a x m ⟨lanes,fs,e⟩ _ ⟨⟨l1,by show lanes<=16;lia,by show fs.length<=128;lia,O,pe⟩,l6,bu⟩ ⟨zT a0 _,s8 _ _ (zT ha _),p6.tups (Tups.of (s7.trans s8)),s8 _ _ (s7 _ _ kx)⟩ ((S6.keep s7).keep s8) ((bR.trans (But.of J)).trans (L.trans (But.of (s7.trans s8))))
abbrev az:Stmt:=top 42
def gO:Sp:=λi H Q _=>∃ l r fr k j N h b,i=[.ref l,.ref r]/\Pk3 H l/\Few h b N/\b<=100/\NetAt H r fr k j N/\∀ g e f d c a,Few h (b+1) c->c.lanes=N.lanes->NetAt a g e f d c->Pk3 a l->But l H a->Q (.ref g) a
theorem aQ (xs:List V)(i j:Nat):wI xs (some (i:Int)) (some (j:Int))=(xs.drop i).take (j-i):=by
 unfold wI;rw[HT.sIx_nat,HT.sIx_nat];by_cases c:i<=xs.length
 ·rw[YY c]
  by_cases d:j<=xs.length
  ·rw[YY d]
  ·rw[Nat.min_eq_right (by lia),JK (by rw[Yi];lia),JK (by rw[Yi];lia)]
 ·rw[List.drop_of_length_le (show xs.length<=i by lia),List.drop_of_length_le (by lia),ZN,ZN]
theorem kv (xs:List V)(i:Nat):wI xs (some (i:Int)) none=xs.drop i:=by
 unfold wI;rw[HT.sIx_none,HT.sIx_nat];by_cases c:i<=xs.length
 ·rw[YY c]
  exact JK (by rw[Yi];exact Je _)
 ·rw[List.drop_of_length_le (show xs.length<=i by lia),List.drop_of_length_le (by lia),ZN]
theorem ku (xs:List V)(i:Nat):wI xs none (some (i:Int))=xs.take i:=by
 unfold wI;rw[HT.sIx_none,HT.sIx_nat,List.drop_zero,Nat.sub_zero];by_cases c:i<=xs.length
 ·rw[YY c]
 ·rw[JK (by lia),JK (by lia)]
theorem vz {H:Hp}:∀ {ps:List V}{fs:List (Nat × Nat)}(n:Nat),Prs H ps fs->Prs H (ps.take n) (fs.take n)
 | [],[],n,_=>by rw[ZN,ZN];trivial
 | _::_,_::_,0,_=>trivial
 | _::_,_::_,n+1,⟨x,r⟩=>⟨x,vz n r⟩
theorem xr {H:Hp}:∀ {ps:List V}{fs:List (Nat × Nat)}(n:Nat),Prs H ps fs->Prs H (ps.drop n) (fs.drop n)
 | [],[],n,_=>by rw[List.drop_nil,List.drop_nil];trivial
 | _::_,_::_,0,h=>h
 | _::_,_::_,n+1,⟨_,r⟩=>xr n r
def FksOk (lanes:Nat)(a:List (Nat × Nat)):Prop:=∀ f∈a,f.1<lanes/\f.2<lanes/\f.1≠f.2
theorem FksOk.app {lanes:Nat}{a b:List (Nat × Nat)}(x:FksOk lanes a)(y:FksOk lanes b):FksOk lanes (a++b):=λf c=>(Jr.mp c).elim (x f) (y f)
theorem FksOk.take {lanes:Nat}{a:List (Nat × Nat)}(x:FksOk lanes a)(n:Nat):FksOk lanes (a.take n):=λf b=>x f (Zx b)
theorem FksOk.drop {lanes:Nat}{a:List (Nat × Nat)}(x:FksOk lanes a)(n:Nat):FksOk lanes (a.drop n):=λf b=>x f (List.mem_of_mem_drop b)
theorem ny:FnScope ["_law_left_here","_law_net_here","_law_lanes","_law_forks","_law_ends_here","_law_way","_law_at","_law_k","_law_here","_law_row"] ["_law_left_here","_law_net_here"] (zR az):=by trivial
theorem zat {f fK:JI}{fd dK:Yl}(F:Fun K "_law_changed" "_law_changed" az f fd) (G:Mgs mg) (UK:Use P w K mg base "_law_pick" ["_law_left_here","_law_many"] 1 xN fK dK):FnOk P w K mg base CX0 2 f fd ["_law_left_here","_law_net_here"] gO:=by
 refine F.ok ny (λvs H Q E h=>?_) (λb8 A outer s H vs Q E hr h=>?_)
 ·obtain⟨l,r,fr,er,C,N,lb,fb,rfl,_⟩:=h
  rfl
 obtain⟨l,r,fr,er,C,N,lb,fb,rfl,S,a6,b7,na,k⟩:=h;refine⟨_,(@zE _ _ _ _ _ (@yM _ _ _ _ _ _ (@pvb _ 1 _ _ rfl) (@yN _ _ _ _ _ _ rfl (@zP _ _ _ _ _ (@zN _ _ 2 _ ny.nd rfl (.inl rfl) (by trivial)) (@zP _ _ _ _ _ (@zN _ _ 3 _ ny.nd rfl (.inl rfl) (by trivial)) (@zP _ _ _ _ _ (@zN _ _ 4 _ ny.nd rfl (.inl rfl) (by trivial)) zu rfl) rfl) rfl) rfl rfl) rfl rfl rfl) (@zE _ _ _ _ _ (cu (i:=5) (j:=6) (k:=7) rfl ny.nd rfl rfl rfl (by decide) (by decide) (by decide) rfl rfl rfl (@zA _ _ _ _ _ (@zQ _ _ _ _ _ _ _ _ _ _ _ _ UK hr (@zA _ _ _ _ _ (@pvb _ 0 _ _ rfl) (@zA _ _ _ _ _ zG zC rfl) rfl) rfl rfl rfl rfl) (@zA _ _ _ _ _ (@zQ _ _ _ _ _ _ _ _ _ _ _ _ UK hr (@zA _ _ _ _ _ (@pvb _ 0 _ _ rfl) (@zA _ _ _ _ _ (@zS _ _ _ _ _ _ _ _ yQ (@zc _ _ _ _ _ _ _ _ _ zk rfl G.len JY (@zA _ _ _ _ _ (@pvb _ 3 _ _ rfl) zC rfl) (by decide) (by decide) rfl rfl) zG) zC rfl) rfl) rfl rfl rfl rfl) (@zA _ _ _ _ _ (@zQ _ _ _ _ _ _ _ _ _ _ _ _ UK hr (@zA _ _ _ _ _ (@pvb _ 0 _ _ rfl) (@zA _ _ _ _ _ (@pvb _ 2 _ _ rfl) zC rfl) rfl) rfl rfl rfl rfl) zC rfl) rfl) rfl) rfl) (@zE _ _ _ _ _ (@zV _ _ 8 _ _ _ _ ny.nd rfl (.inl rfl) (@yK _ _ _ _ _ _ _ _ _ _ yr (@pvb _ 3 _ _ rfl) (@zy _ _ _ (@pvb _ 6 _ _ rfl)) (@zy _ _ _ (@zS _ _ _ _ _ _ _ _ yQ (@pvb _ 6 _ _ rfl) zG))) rfl (by trivial)) (@zE _ _ _ _ _ (@yV _ _ _ _ _ _ _ _ (@zq _ _ _ _ _ _ _ _ xu (@pvb _ 5 _ _ rfl) zG (yI _)) (@zM _ _ _ (@zW _ _ _ _ (@zj _ _ _ _ _ (@zA _ _ _ _ _ (@pvb _ 2 _ _ rfl) (@zA _ _ _ _ _ (@zS _ _ _ _ _ _ _ _ y8 (@zS _ _ _ _ _ _ _ _ y8 (@yK _ _ _ _ _ _ _ _ _ _ yr (@pvb _ 3 _ _ rfl) yR (@zy _ _ _ (@pvb _ 6 _ _ rfl))) (@zi _ _ _ _ _ _ _ _ _ zo rfl G.tuple rfl (@zA _ _ _ _ _ (@oI _ _ _ _ none _ _ _ (lO K 2 (uE (xT 0) (uE (xT 1) dk))) _ _ ["_law_a","_law_b"] [none,none] rfl (@wO _ _ _ _ (@pvb _ 8 _ _ rfl)) (CapOk.of (by kernel_rfl)) (λ_ _ _ _ _=>(@yN _ _ _ _ _ _ rfl (@zP _ _ _ _ _ (@zN _ _ 0 _ (show (["_law_a","_law_b"]:List Str).Nodup from by decide +kernel) rfl (.inl rfl) (.inr rfl)) (@zP _ _ _ _ _ (@zN _ _ 1 _ (show (["_law_a","_law_b"]:List Str).Nodup from by decide +kernel) rfl (.inl rfl) (.inr rfl)) zu rfl) rfl) rfl rfl)) (λ_ _ _ _ _=>x5) (λ_ _ _ _ _=>(@zj _ _ _ _ _ (@zA _ _ _ _ _ (@pvb _ 1 _ _ rfl) (@zA _ _ _ _ _ (@pvb _ 0 _ _ rfl) zC rfl) rfl))) (by intro _;rfl)) zC rfl) (by decide) (by decide) rfl rfl)) (@yK _ _ _ _ _ _ _ _ _ _ yr (@pvb _ 3 _ _ rfl) (@zy _ _ _ (@zS _ _ _ _ _ _ _ _ yQ (@pvb _ 6 _ _ rfl) zG)) yR)) (@zA _ _ _ _ _ (@pvb _ 4 _ _ rfl) zC rfl) rfl) rfl)))) zx) (@zE _ _ _ _ _ (@yV _ _ _ _ _ _ _ _ (@zq _ _ _ _ _ _ _ _ xu (@pvb _ 5 _ _ rfl) zG (yI _)) (@zM _ _ _ (@zW _ _ _ _ (@zj _ _ _ _ _ (@zA _ _ _ _ _ (@pvb _ 2 _ _ rfl) (@zA _ _ _ _ _ (@zS _ _ _ _ _ _ _ _ y8 (@yK _ _ _ _ _ _ _ _ _ _ yr (@pvb _ 3 _ _ rfl) yR (@zy _ _ _ (@pvb _ 6 _ _ rfl))) (@yK _ _ _ _ _ _ _ _ _ _ yr (@pvb _ 3 _ _ rfl) (@zy _ _ _ (@zS _ _ _ _ _ _ _ _ yQ (@pvb _ 6 _ _ rfl) zG)) yR)) (@zA _ _ _ _ _ (@pvb _ 4 _ _ rfl) zC rfl) rfl) rfl)))) zx) (@zE _ _ _ _ _ (@yV _ _ _ _ _ _ _ _ (@zq _ _ _ _ _ _ _ _ xu (@pvb _ 5 _ _ rfl) zG (yI _)) (@zM _ _ _ (@zW _ _ _ _ (@zj _ _ _ _ _ (@zA _ _ _ _ _ (@pvb _ 2 _ _ rfl) (@zA _ _ _ _ _ (@zS _ _ _ _ _ _ _ _ y8 (@zS _ _ _ _ _ _ _ _ y8 (@yK _ _ _ _ _ _ _ _ _ _ yr (@pvb _ 3 _ _ rfl) yR (@zy _ _ _ (@pvb _ 6 _ _ rfl))) (@pvb _ 8 _ _ rfl)) (@yK _ _ _ _ _ _ _ _ _ _ yr (@pvb _ 3 _ _ rfl) (@zy _ _ _ (@pvb _ 6 _ _ rfl)) yR)) (@zA _ _ _ _ _ (@pvb _ 4 _ _ rfl) zC rfl) rfl) rfl)))) zx) (@zE _ _ _ _ _ (@yV _ _ _ _ _ _ _ _ (@zq _ _ _ _ _ _ _ _ xu (@pvb _ 5 _ _ rfl) zG (yI _)) (@zM _ _ _ (@zW _ _ _ _ (@zj _ _ _ _ _ (@zA _ _ _ _ _ (@pvb _ 2 _ _ rfl) (@zA _ _ _ _ _ (@zS _ _ _ _ _ _ _ _ y8 (@zS _ _ _ _ _ _ _ _ y8 (@zS _ _ _ _ _ _ _ _ y8 (@yK _ _ _ _ _ _ _ _ _ _ yr (@pvb _ 3 _ _ rfl) yR (@zy _ _ _ (@pvb _ 6 _ _ rfl))) (@yK _ _ _ _ _ _ _ _ _ _ yr (@pvb _ 3 _ _ rfl) (@zy _ _ _ (@zS _ _ _ _ _ _ _ _ yQ (@pvb _ 6 _ _ rfl) zG)) (@zy _ _ _ (@zS _ _ _ _ _ _ _ _ yQ (@pvb _ 6 _ _ rfl) zG)))) (@pvb _ 8 _ _ rfl)) (@yK _ _ _ _ _ _ _ _ _ _ yr (@pvb _ 3 _ _ rfl) (@zy _ _ _ (@zS _ _ _ _ _ _ _ _ yQ (@pvb _ 6 _ _ rfl) zG)) yR)) (@zA _ _ _ _ _ (@pvb _ 4 _ _ rfl) zC rfl) rfl) rfl)))) zx) (@zE _ _ _ _ _ (@zV _ _ 9 _ _ _ _ ny.nd rfl (.inl rfl) (@zi _ _ _ _ _ _ _ _ _ yk rfl G.list rfl (@zA _ _ _ _ _ (@pvb _ 4 _ _ rfl) zC rfl) (by decide) (by decide) rfl rfl) rfl (by trivial)) (@zE _ _ _ _ _ (@yM _ _ _ _ _ _ (@zj _ _ _ _ _ (@zA _ _ _ _ _ (@zX _ _ _ _ _ _ _ yA (@pvb _ 4 _ _ rfl) (@pvb _ 7 _ _ rfl) (λ_ _=>rfl)) (@zA _ _ _ _ _ (@zX _ _ _ _ _ _ _ yA (@pvb _ 4 _ _ rfl) zG (λ_ _=>rfl)) zC rfl) rfl)) (@yN _ _ _ _ _ _ rfl (@zP _ _ _ _ _ (@xK _ _ _ _ _ _ _ (@pvb _ 9 _ _ rfl) zG yb (by intro _;rfl)) (@zP _ _ _ _ _ (@xK _ _ _ _ _ _ _ (@pvb _ 9 _ _ rfl) (@pvb _ 7 _ _ rfl) yb (by intro _;rfl)) zu rfl) rfl) rfl rfl) rfl rfl rfl) (@zM _ _ _ (@zW _ _ _ _ (@zj _ _ _ _ _ (@zA _ _ _ _ _ (@pvb _ 2 _ _ rfl) (@zA _ _ _ _ _ (@pvb _ 3 _ _ rfl) (@zA _ _ _ _ _ (@zi _ _ _ _ _ _ _ _ _ zo rfl G.tuple rfl (@zA _ _ _ _ _ (@pvb _ 9 _ _ rfl) zC rfl) (by decide) (by decide) rfl rfl) zC rfl) rfl) rfl))))))))))))),?_⟩;have ok:=a6.ok;have ba:=ok.l16;have l1:=ok.l1;have fk:=a6.fk;have pl:=na.prs.len;refine zB ⟨r,_,rfl,SqT.of na.net,rfl,_,_,rfl,_,_,rfl,_,_,rfl,rfl,?_⟩;dsimp only[xT];refine zz (λD1 b0=>?_);refine zB ⟨l,5,rfl,by decide,by decide,S,λway H1 hw S1 B1=>?_⟩;have a3:=na.tups (B1.tups3 S);refine zB (zB ⟨fr,C,rfl,.inr (SqT.of a3.forks),_,_,rfl,rfl,l,_,rfl,by lia,by lia,S1,λd H2 b4 S2 B2=>?_⟩);refine zB (zB ⟨l,_,rfl,by lia,by lia,S2,λL H3 hk S3 B3=>⟨_,_,_,rfl,b0 _ _ ?_⟩⟩);have y:=(a3.tups (B2.tups3 S1)).tups (B3.tups3 S2);have B':But l H H3:=(B1.trans B2).trans B3;clear a3 B1 B2 B3 S1 S2;have p2:d<=C.length:=by lia
 refine zz (λD2 bS=>?_);refine zB (zB (zY rfl (zB ⟨_,_,rfl,rfl,_,rfl,fr,C,rfl,y.forks,λhh H4 s4 aT=>bS _ _ ?_⟩)));have e1:((d:Nat):Int)+1=((d+1:Nat):Int):=rfl;have e2:((d:Nat):Int)+2=((d+2:Nat):Int):=rfl;rw[e1,aQ,show d+1-d=1 by lia]at aT;have v:FksOk N.lanes N.forks:=ok.fk;have a9:=a6.ln;have bl:N.forks.length<=100:=by lia
 have fin:∀ (a:JI) (qs:List V) (gs:List (Nat × Nat)) (X:Hp),Same H3 X->X a=some (.tup qs)->Prs X qs gs->FksOk N.lanes gs->gs.length<=fb+1->∀ q,X q=none->Q (.ref q) (L2.upd X q (.tup [.int (N.lanes:Nat),.ref a,.ref er])):=λa qs gs X J ha pr go gl q hq=>by
  have U:=zD hq (.tup [.int (N.lanes:Nat),.ref a,.ref er]);have u:=J.trans U;exact k q a er qs ⟨N.lanes,gs,N.ends⟩ _ ⟨⟨l1,ba,by show gs.length<=128;lia,go,ok.en⟩,a9,gl⟩ rfl ⟨zT hq _,U _ _ ha,pr.tups (Tups.of U),u _ _ y.ends⟩ (S3.keep u) (B'.trans (But.of u))
 have I:=y.prs;have f4:=s4 _ _ y.forks;have b5:((C.drop d).take 1).length<=1:=by rw[Js];lia
 have ab:=vz 1 (xr d I);have b6:((N.forks.drop d).take 1).length<=1:=by rw[Js];lia
 have pA:=vz d I;have lA:(N.forks.take d).length=d:=by rw[Js];lia
 have b3:(C.take d).length=d:=by rw[Js];lia
 have lD:∀ n,(N.forks.drop n).length=N.forks.length-n:=λn=>Yi;have aE:∀ n,(C.drop n).length=N.forks.length-n:=λn=>by rw[Yi,pl]
 refine zB ⟨rfl,_,rfl,uX (λ_=>?_) (λ_=>?_)⟩
 ·refine zB (zB (zB (zY rfl ⟨fr,C,rfl,f4,λp1 X J W=>?_⟩)))
  rw[ku]at W;have Y:=s4.trans J;have bc:=J _ _ aT;have bB:=ab.tups (Tups.of Y);refine zB ⟨hh,rfl,⟨_,SqT.of bc⟩,λlc a5=>?_⟩;have U:=zD a5 (.lst []);refine pE (K:=K) (a:=hh) (xs:=(C.drop d).take 1) (λi acc σ H6=>(∃ v0 v1,σ=[v0,v1])/\Same X H6/\H6 lc=some (.lst acc)/\acc.length=i/\Prs H6 acc ((((N.forks.drop d).take 1).take i).map λg=>(g.2,g.1))) ⟨⟨_,_,rfl⟩,U,zT a5 _,rfl,trivial⟩ (λi acc σ H6 z=>⟨z.2.2.1,SqT.of (z.2.1 _ _ bc)⟩) ?_ ?_
  ·rintro i x acc σ H6 hx ⟨⟨v0,v1,rfl⟩,s7,h7,al,p7⟩
   obtain⟨a,g,rfl,eg,ha⟩:=(bB.tups (Tups.of s7)).get hx;have gi:=(Jd.mp eg).1;refine⟨a,_,rfl,SqT.of ha,rfl,_,_,rfl,_,_,rfl,rfl,?_⟩;refine zB (zB ⟨(by show 2<=sizeLine;decide),λt ht=>?_⟩);have Z:=zD ht (.tup [.int (g.2:Nat),.int (g.1:Nat)]);have h8:=Z _ _ h7;refine⟨h8,by rw[Ju];lia,nx (Jd.mp hx).1 ⟨⟨_,_,rfl⟩,λb o e=>?_,zH,by rw[Jb,al];rfl,?_⟩⟩
   ·rw[zK (zJ e a5)];exact Z _ _ (s7 b o e)
   ·rw[<- Y8 gi,JG,(Jd.mp eg).2]
    exact Prs.add (f:=(g.2,g.1)) (Tups.lst h8 _ _ (zT ht _)) ((p7.tups (Tups.of Z)).tups (Tups.lst h8))
  rintro acc σ H6 ⟨⟨v0,v1,rfl⟩,s7,h7,al,p7⟩;rw[JK (by rw[ab.len];exact Je _)]at p7;refine⟨lc,_,rfl,.inl ⟨SqL.of h7,λt8 bb=>?_⟩⟩;have Z:=zD bb (.tup acc);refine⟨p1,t8,_,_,rfl,rfl,Z _ _ (s7 _ _ W),zT bb _,by rw[Ju];lia,λp9 H9 s9 h9=>?_⟩;have u9:=((Y.trans s7).trans Z).trans s9;refine zB (zB ⟨_,_,rfl,rfl,_,rfl,fr,C,rfl,u9 _ _ y.forks,λO a8 p B=>?_⟩);rw[e1,kv]at B;refine⟨p9,O,_,_,rfl,rfl,p _ _ h9,B,by rw[Ju,Jb,aE (d+1)];lia,λM a7 D R=>?_⟩;have m:=(u9.trans p).trans D;refine zB ⟨(by show 3<=sizeLine;decide),fin M _ _ _ m R (Prs.app (Prs.app (pA.tups (Tups.of m)) (p7.tups (Tups.of (((Z.trans s9).trans p).trans D)))) ((xr (d+1) I).tups (Tups.of m))) ?_ ?_⟩
  ·refine((v.take _).app λf hf=>?_).app (v.drop _)
   obtain⟨g,hg,rfl⟩:=Jn.mp hf;obtain⟨a,b,c⟩:=v g (List.mem_of_mem_drop (Zx hg));exact⟨b,a,c.symm⟩
  ·rw[Jb,Jb,Jc,lA,lD];lia
 refine zB ⟨rfl,_,rfl,uX (λ_=>?_) (λ_=>?_)⟩
 ·refine zB (zB (zB (zY rfl ⟨fr,C,rfl,f4,λp1 X J W=>?_⟩)))
  rw[ku]at W;have Y:=s4.trans J;refine zB (zB ⟨_,_,rfl,rfl,_,rfl,fr,C,rfl,Y _ _ y.forks,λO a8 p B=>?_⟩);rw[e1,kv]at B;refine⟨p1,O,_,_,rfl,rfl,p _ _ W,B,by rw[Ju,aE (d+1)];lia,λM a7 D R=>?_⟩;have m:=(Y.trans p).trans D;refine zB ⟨(by show 3<=sizeLine;decide),fin M _ _ _ m R (Prs.app (pA.tups (Tups.of m)) ((xr (d+1) I).tups (Tups.of m))) ((v.take _).app (v.drop _)) ?_⟩;rw[Jb,lA,lD];lia
 refine zB ⟨rfl,_,rfl,uX (λ_=>?_) (λ_=>?_)⟩
 ·refine zB (zB (zB (zY rfl ⟨fr,C,rfl,f4,λp1 X J W=>?_⟩)))
  rw[ku]at W;have Y:=s4.trans J;refine zB ⟨p1,hh,_,_,rfl,rfl,W,J _ _ aT,by rw[Ju];lia,λp9 H9 s9 h9=>?_⟩;have u9:=Y.trans s9;refine zB (zB (zY rfl ⟨fr,C,rfl,u9 _ _ y.forks,λO a8 p B=>?_⟩));rw[kv]at B;refine⟨p9,O,_,_,rfl,rfl,p _ _ h9,B,by rw[Ju,Jb,aE d];lia,λM a7 D R=>?_⟩;have m:=(u9.trans p).trans D;refine zB ⟨(by show 3<=sizeLine;decide),fin M _ _ _ m R (Prs.app (Prs.app (pA.tups (Tups.of m)) (ab.tups (Tups.of m))) ((xr d I).tups (Tups.of m))) (((v.take _).app ((v.drop _).take _)).app (v.drop _)) ?_⟩;rw[Jb,Jb,lA,lD];lia
 refine zB ⟨rfl,_,rfl,uX (λ_=>?_) (λ_=>?_)⟩
 ·refine zB (zB (zB (zY rfl ⟨fr,C,rfl,f4,λp1 X J W=>?_⟩)))
  rw[ku]at W;have Y:=s4.trans J;refine zB (zB ⟨_,_,rfl,rfl,_,rfl,_,rfl,_,_,rfl,rfl,_,rfl,fr,C,rfl,Y _ _ y.forks,λp6 H6 U h6=>?_⟩);rw[e1,e2,aQ,show d+2-(d+1)=1 by lia]at h6;have l6:((C.drop (d+1)).take 1).length<=1:=by rw[Js];lia
  have g6:((N.forks.drop (d+1)).take 1).length<=1:=by rw[Js];lia
  refine⟨p1,p6,_,_,rfl,rfl,U _ _ W,h6,by rw[Ju];lia,λp7 H7 s7 h7=>?_⟩;have u7:=(Y.trans U).trans s7;refine zB ⟨p7,hh,_,_,rfl,rfl,h7,s7 _ _ (U _ _ (J _ _ aT)),by rw[Ju,Jb];lia,λp9 H9 s9 h9=>?_⟩;have u9:=u7.trans s9;refine zB (zB ⟨_,_,rfl,rfl,_,rfl,fr,C,rfl,u9 _ _ y.forks,λO a8 p B=>?_⟩);rw[e2,kv]at B;refine⟨p9,O,_,_,rfl,rfl,p _ _ h9,B,by rw[Ju,Jb,Jb,aE (d+2)];lia,λM a7 D R=>?_⟩;have m:=(u9.trans p).trans D;refine zB ⟨(by show 3<=sizeLine;decide),fin M _ _ _ m R (Prs.app (Prs.app (Prs.app (pA.tups (Tups.of m)) ((vz 1 (xr (d+1) I)).tups (Tups.of m))) (ab.tups (Tups.of m))) ((xr (d+2) I).tups (Tups.of m))) ((((v.take _).app ((v.drop _).take _)).app ((v.drop _).take _)).app (v.drop _)) ?_⟩;have c6:((N.forks.drop (d+1)).take 1).length=min 1 (N.forks.length-(d+1)):=by rw[Js,lD]
  have c7:((N.forks.drop d).take 1).length=min 1 (N.forks.length-d):=by rw[Js,lD]
  rw[Jb,Jb,Jb,lA,lD,c6,c7];lia
 have bu:=s4 _ _ y.ends;have el:N.ends.length=N.lanes:=by rw[ok.en.length_eq,JR]
 have b2:=zd N.ends;have k1:L<N.ends.length:=by lia
 refine zB ⟨er,_,rfl,.inr (SqT.of bu),λlr a4=>?_⟩;have J:=zD a4 (.lst (zU N.ends));have bt:=J _ _ bu;have a1:=yL (mw N.ends L k1);have a0:=yL (j:=0) (mw N.ends 0 (by lia));refine zB (zB ⟨er,_,_,_,rfl,rfl,SqT.of bt,a1,_,rfl,er,_,0,_,rfl,rfl,SqT.of bt,a0,(by show 2<=sizeLine;decide),λT hT=>?_⟩);have U:=zD hT (.tup [.int ((N.ends.getD L 0:Nat):Int),.int ((N.ends.getD 0 0:Nat):Int)]);have h6:=U _ _ (zT a4 (.lst (zU N.ends)));refine⟨T,_,rfl,SqT.of zH,rfl,_,_,rfl,?_⟩;have u6:=(s4.trans J).trans U
 let d1:List Nat:=N.ends.set 0 (N.ends.getD L 0)
 let d2:List Nat:=d1.set L (N.ends.getD 0 0)
 have z1:(zU N.ends).set 0 (.int ((N.ends.getD L 0:Nat):Int))=zU d1:=List.map_set.symm;have z2:(zU d1).set L (.int ((N.ends.getD 0 0:Nat):Int))=zU d2:=List.map_set.symm;have b1:(zU d1).length=N.ends.length:=by rw[zd];exact YG
 have pd:d2.Perm N.ends:=by
  have:=List.set_set_perm (as:=N.ends) (i:=0) (j:=L) (by lia) k1;have g1:N.ends.getD L 0=N.ends[L]:=by rw[J8,J2 k1];rfl
  have g0:N.ends.getD 0 0=N.ends[0]:=by rw[J8,J2 (by lia)];rfl
  show ((N.ends.set 0 (N.ends.getD L 0)).set L (N.ends.getD 0 0)).Perm N.ends;rw[g1,g0];exact this
 refine zB ⟨lr,_,0,0,rfl,rfl,h6,wn (i:=0) (by lia),?_⟩;rw[z1];have bR:L2.upd (L2.upd (L2.upd H4 lr (.lst (zU N.ends))) T (.tup [.int ((N.ends.getD L 0:Nat):Int),.int ((N.ends.getD 0 0:Nat):Int)])) lr (.lst (zU d1)) lr=some (.lst (zU d1)):=zH;have n3:H3 lr=none:=wd s4 a4
 have sm:∀ (xs ys:List V),Same H3 (L2.upd (L2.upd (L2.upd (L2.upd H4 lr (.lst (zU N.ends))) T (.tup [.int ((N.ends.getD L 0:Nat):Int),.int ((N.ends.getD 0 0:Nat):Int)])) lr (.lst xs)) lr (.lst ys)):=λxs ys b o e=>by
  rw[zK (zJ e n3),zK (zJ e n3)];exact u6 b o e
 refine⟨_,_,rfl,_,rfl,_,rfl,lr,_,_,L,rfl,rfl,bR,by rw[b1];exact wn k1,?_⟩;rw[z2];refine⟨rfl,_,rfl,_,rfl,_,rfl,lr,_,rfl,.inl ⟨SqL.of zH,λt ht=>⟨(by show 3<=sizeLine;decide),λq hq=>?_⟩⟩⟩;have s7:=zD ht (.tup (zU d2));have Z:=zD hq (.tup [.int (N.lanes:Nat),.ref fr,.ref t]);have u:=((sm (zU d1) (zU d2)).trans s7).trans Z;exact k q fr t C ⟨N.lanes,N.forks,d2⟩ _ ⟨⟨l1,ba,ok.fm,ok.fk,pd.trans ok.en⟩,a9,by show N.forks.length<=fb+1;lia⟩ rfl ⟨zT hq _,u _ _ y.forks,I.tups (Tups.of u),Z _ _ (zT ht _)⟩ (S3.keep u) (B'.trans (But.of u))
abbrev pj:Stmt:=top 37
def tH (m:Nat):Sp:=λd H Q _=>∃ p row,d=[.ref p]/\H p=some (.lst (zU row))/\row.length=2 ^ m/\m<=4/\∀ c lf le b a,Same H a->a c=some (.tup [.ref lf,.ref le])->a lf=some (.lst b)->Prs a b (xV m row).1->a le=some (.lst (zU (xV m row).2))->Q (.ref c) a
theorem pc:FnScope ["_law_row","_law_half","_law_forks","_law_one","_law_more","_law_other","_law_last","_law_ends_here"] ["_law_row"] (zR pj):=by trivial
theorem oR {f fB:JI}{fd dB:Yl}(F:Fun K "_law_stairway" "_law_stairway" pj f fd) (G:Mgs mg) (UM:Use P w K mg base "_law_merger" ["_law_one","_law_other"] 5 wV fB dB) (bS:Binds K fd ["_law_row"] []) (mS:mg "_law_stairway" = some (.ref f)) (n:Nat)
  (GS:FnOk P w K mg base CX0 (n+5) f fd ["_law_row"] (λvs H Q E=>∃ m,n=m+1/\tH m vs H Q E)):FnOk P w K mg base CX0 (n+6) f fd ["_law_row"] (tH n):=by
 have UT:Use P w K mg base "_law_stairway" ["_law_row"] (n+5) (λvs H Q E=>∃ m,n=m+1/\tH m vs H Q E) f fd:=⟨GS,bS,F.kp,mS⟩;refine F.ok pc (λvs H Q E h=>?_) (λa8 A outer s H vs Q E J h=>?_)
 ·obtain⟨p,row,rfl,_⟩:=h
  rfl
 obtain⟨p,row,rfl,d,I,O,k⟩:=h;have W:Room 5 _:=J.mono (by lia);refine⟨_,(@zE _ _ _ _ _ (@yV _ _ _ _ _ _ _ _ (@zq _ _ _ _ _ _ _ _ xu (@zc _ _ _ _ _ _ _ _ _ zk rfl G.len JY (@zA _ _ _ _ _ (@pvb _ 0 _ _ rfl) zC rfl) (by decide) (by decide) rfl rfl) zG (yI _)) (@zM _ _ _ (@zW _ _ _ _ (@zj _ _ _ _ _ (@zA _ _ _ _ _ (@zr _ _ _ _ zC) (@zA _ _ _ _ _ (@zi _ _ _ _ _ _ _ _ _ yk rfl G.list rfl (@zA _ _ _ _ _ (@pvb _ 0 _ _ rfl) zC rfl) (by decide) (by decide) rfl rfl) zC rfl) rfl)))) zx) (@zE _ _ _ _ _ (@zV _ _ 1 _ _ _ _ pc.nd rfl (.inl rfl) (@zS _ _ _ _ _ _ _ _ xh (@zc _ _ _ _ _ _ _ _ _ zk rfl G.len JY (@zA _ _ _ _ _ (@pvb _ 0 _ _ rfl) zC rfl) (by decide) (by decide) rfl rfl) zG) rfl (by trivial)) (@zE _ _ _ _ _ (@yM _ _ _ _ _ _ (@zQ _ _ _ _ _ _ _ _ _ _ _ _ UT J (@zA _ _ _ _ _ (@yK _ _ _ _ _ _ _ _ _ _ wx (@pvb _ 0 _ _ rfl) yR (@zy _ _ _ (@pvb _ 1 _ _ rfl))) zC rfl) rfl rfl rfl rfl) (@yN _ _ _ _ _ _ rfl (@zP _ _ _ _ _ (@zN _ _ 2 _ pc.nd rfl (.inl rfl) (by trivial)) (@zP _ _ _ _ _ (@zN _ _ 3 _ pc.nd rfl (.inl rfl) (by trivial)) zu rfl) rfl) rfl rfl) rfl rfl rfl) (@zE _ _ _ _ _ (@yM _ _ _ _ _ _ (@zQ _ _ _ _ _ _ _ _ _ _ _ _ UT J (@zA _ _ _ _ _ (@yK _ _ _ _ _ _ _ _ _ _ wx (@pvb _ 0 _ _ rfl) (@zy _ _ _ (@pvb _ 1 _ _ rfl)) yR) zC rfl) rfl rfl rfl rfl) (@yN _ _ _ _ _ _ rfl (@zP _ _ _ _ _ (@zN _ _ 4 _ pc.nd rfl (.inl rfl) (by trivial)) (@zP _ _ _ _ _ (@zN _ _ 5 _ pc.nd rfl (.inl rfl) (by trivial)) zu rfl) rfl) rfl rfl) rfl rfl rfl) (@zE _ _ _ _ _ (@yM _ _ _ _ _ _ (@zQ _ _ _ _ _ _ _ _ _ _ _ _ UM W (@zA _ _ _ _ _ (@pvb _ 3 _ _ rfl) (@zA _ _ _ _ _ (@pvb _ 5 _ _ rfl) zC rfl) rfl) rfl rfl rfl rfl) (@yN _ _ _ _ _ _ rfl (@zP _ _ _ _ _ (@zN _ _ 6 _ pc.nd rfl (.inl rfl) (by trivial)) (@zP _ _ _ _ _ (@zN _ _ 7 _ pc.nd rfl (.inl rfl) (by trivial)) zu rfl) rfl) rfl rfl) rfl rfl rfl) (@zM _ _ _ (@zW _ _ _ _ (@zj _ _ _ _ _ (@zA _ _ _ _ _ (@zS _ _ _ _ _ _ _ _ wb (@zS _ _ _ _ _ _ _ _ wb (@pvb _ 2 _ _ rfl) (@pvb _ 4 _ _ rfl)) (@pvb _ 6 _ _ rfl)) (@zA _ _ _ _ _ (@pvb _ 7 _ _ rfl) zC rfl) rfl))))))))),?_⟩;have nl:=zd row;have p8:2 ^ n<=2 ^ 4:=YC (by decide) O;have e8:2 ^ 4=16:=rfl;refine zB ⟨p,_,rfl,.inl (SqL.of d),rfl,_,rfl,?_⟩
 cases n with
 | zero =>
  have M:row.length=1:=I;rw[JC (show V.int (((zU row).length:Nat):Int)=V.int 1 by rw[nl,M];rfl)];refine wE ⟨(by show 0<=sizeLine;decide),λl L=>zB ⟨p,_,rfl,.inl (SqL.of (zD L _ _ _ d)),λle hle=>⟨(by show 2<=sizeLine;decide),λc e=>?_⟩⟩⟩;have D:=zD L (.lst []);have B:=zD hle (.lst (zU row));have b:=zD e (.tup [.ref l,.ref le])
  exact k c l le [] _ ((D.trans B).trans b) (zT e _) (b _ _ (B _ _ (zT L _))) trivial (b _ _ (zT hle _))
 | succ m =>
  obtain⟨t1,t2,t3⟩:=vd I;obtain⟨la,lb⟩:=wo I;have pw:2 ^ (m+1)=2 ^ m*2:=YW ..;have p0:=YX (n:=m);rw[Jt (show ¬ V.int (((zU row).length:Nat):Int)=V.int 1 by intro z;injection z with z;lia)];refine xX (zB ⟨p,_,rfl,.inl (SqL.of d),_,_,rfl,rfl,⟨by decide,by decide⟩,?_⟩);have eh:(((zU row).length:Nat):Int) / 2=((row.length / 2:Nat):Int):=by rw[nl];lia
  simp only[eh];refine zB (zB (zY rfl ⟨p,_,rfl,SqL.of d,λp1 u=>?_⟩));rw[mq row _ t3];have D:=zD u (.lst (zU (row.take (row.length / 2))));refine⟨m,rfl,p1,row.take (row.length / 2),rfl,zT u _,la,by lia,λc2 T le2 i H2 B a4 Z q aT=>?_⟩;have u2:=D.trans B;refine⟨c2,_,rfl,SqT.of a4,rfl,_,_,rfl,_,_,rfl,rfl,?_⟩;refine zB (zB (zY rfl ⟨p,_,rfl,SqL.of (u2 _ _ d),λp3 t=>?_⟩));rw[mt row _ t3];have b:=zD t (.lst (zU (row.drop (row.length / 2))));refine⟨m,rfl,p3,row.drop (row.length / 2),rfl,zT t _,lb,by lia,λc4 S U g H4 s4 a3 Y o aE=>?_⟩;have y:=b.trans s4;refine⟨c4,_,rfl,SqT.of a3,rfl,_,_,rfl,_,_,rfl,rfl,?_⟩;obtain⟨xl,xf⟩:=ww m _ la;obtain⟨yl,yf⟩:=ww m _ lb;obtain⟨zl,zf⟩:=xj m _ _ xl yl;have a7:=q.len;have a6:=o.len;obtain⟨ba,a9⟩:=vk m (by lia);refine zB (zB ⟨m,by lia,le2,U,_,_,rfl,y _ _ aT,aE,xl,yl,by lia,λc6 R r N H6 a _ a0 X j ab=>?_⟩);refine⟨c6,_,rfl,SqT.of a0,rfl,_,_,rfl,_,_,rfl,rfl,?_⟩;have a5:=j.len;refine zB (zB ⟨T,S,_,_,rfl,rfl,a _ _ (y _ _ Z),a _ _ Y,by rw[Ju];lia,λl7 x=>?_⟩);have s7:=zD x (.lst (i++g));refine zB ⟨l7,R,_,_,rfl,rfl,zT x _,s7 _ _ X,by rw[Ju,Jb];lia,λl8 v=>?_⟩;have s8:=zD v (.lst ((i++g)++N));refine zB ⟨(by show 2<=sizeLine;decide),λc e=>?_⟩;have s9:=zD e (.tup [.ref l8,.ref r]);have C:=(s7.trans s8).trans s9;refine k c l8 r _ _ ((u2.trans y).trans (a.trans C)) (zT e _) (s9 _ _ (zT v _)) ?_ (C _ _ ab);refine Prs.tups (Tups.of C) ?_;exact Prs.app (Prs.app ((q.tups (Tups.of y)).tups (Tups.of a)) (o.tups (Tups.of a))) j
theorem kG {f d:JI}{fd e:Yl}(F:Fun K "_law_stairway" "_law_stairway" pj f fd) (G:Mgs mg) (c:Use P w K mg base "_law_merger" ["_law_one","_law_other"] 5 wV d e) (b:Binds K fd ["_law_row"] []) (a:mg "_law_stairway" = some (.ref f)):∀ n:Nat,FnOk P w K mg base CX0 (n+6) f fd ["_law_row"] (tH n)
 | 0=>oR F G c b a 0 ⟨λvs H Q E ⟨m,h,_⟩=>by simp_all,λA outer s H args us vs Q E _ _ _ _ ⟨m,h,_⟩=>by simp_all⟩
 | m+1=>oR F G c b a (m+1) ((kG F G c b a m).imp λvs H Q E ⟨g,h,q⟩=>by cases h;exact q)
abbrev tI:Sp:=λa H Q E=>∃ m,m<=4/\tH m a H Q E
theorem je {f b:JI}{fd c:Yl}(F:Fun K "_law_stairway" "_law_stairway" pj f fd) (G:Mgs mg) (e:Use P w K mg base "_law_merger" ["_law_one","_law_other"] 5 wV b c) (d:Binds K fd ["_law_row"] []) (a:mg "_law_stairway" = some (.ref f)):FnOk P w K mg base CX0 10 f fd ["_law_row"] tI :=
 FnOk.any 4 λm g=>(kG F G e d a m).mono (by simp_all)
abbrev pi:Stmt:=top 39
def tF (m:Nat):Sp:=λd H Q _=>∃ p row,d=[.ref p]/\H p=some (.lst (zU row))/\row.length=2 ^ m/\m<=4/\∀ c lf le b a,Same H a->a c=some (.tup [.ref lf,.ref le])->a lf=some (.lst b)->Prs a b (xo m row).1->a le=some (.lst (zU (xo m row).2))->Q (.ref c) a
theorem qW:FnScope ["_law_row","_law_half","_law_forks","_law_one","_law_more","_law_other","_law_ends_here","_law_x","_law_y"] ["_law_row"] (zR pi):=by trivial
theorem oQ {f:JI}{fd:Yl}(F:Fun K "_law_tree" "_law_tree" pi f fd) (G:Mgs mg) (bS:Binds K fd ["_law_row"] []) (mS:mg "_law_tree" = some (.ref f)) (n:Nat)
  (GS:FnOk P w K mg base CX0 n f fd ["_law_row"] (λvs H Q E=>∃ m,n=m+1/\tF m vs H Q E)):FnOk P w K mg base CX0 (n+1) f fd ["_law_row"] (tF n):=by
 have UT:Use P w K mg base "_law_tree" ["_law_row"] n (λvs H Q E=>∃ m,n=m+1/\tF m vs H Q E) f fd:=⟨GS,bS,F.kp,mS⟩;refine F.ok qW (λvs H Q E h=>?_) (λb3 A outer s H vs Q E hr h=>?_)
 ·obtain⟨p,row,rfl,_⟩:=h
  rfl
 obtain⟨p,row,rfl,C,rl,a5,k⟩:=h;refine⟨_,(@zE _ _ _ _ _ (@yV _ _ _ _ _ _ _ _ (@zq _ _ _ _ _ _ _ _ xu (@zc _ _ _ _ _ _ _ _ _ zk rfl G.len JY (@zA _ _ _ _ _ (@pvb _ 0 _ _ rfl) zC rfl) (by decide) (by decide) rfl rfl) zG (yI _)) (@zM _ _ _ (@zW _ _ _ _ (@zj _ _ _ _ _ (@zA _ _ _ _ _ (@zr _ _ _ _ zC) (@zA _ _ _ _ _ (@zi _ _ _ _ _ _ _ _ _ yk rfl G.list rfl (@zA _ _ _ _ _ (@pvb _ 0 _ _ rfl) zC rfl) (by decide) (by decide) rfl rfl) zC rfl) rfl)))) zx) (@zE _ _ _ _ _ (@zV _ _ 1 _ _ _ _ qW.nd rfl (.inl rfl) (@zS _ _ _ _ _ _ _ _ xh (@zc _ _ _ _ _ _ _ _ _ zk rfl G.len JY (@zA _ _ _ _ _ (@pvb _ 0 _ _ rfl) zC rfl) (by decide) (by decide) rfl rfl) zG) rfl (by trivial)) (@zE _ _ _ _ _ (@yM _ _ _ _ _ _ (@zQ _ _ _ _ _ _ _ _ _ _ _ _ UT hr (@zA _ _ _ _ _ (@yK _ _ _ _ _ _ _ _ _ _ wx (@pvb _ 0 _ _ rfl) yR (@zy _ _ _ (@pvb _ 1 _ _ rfl))) zC rfl) rfl rfl rfl rfl) (@yN _ _ _ _ _ _ rfl (@zP _ _ _ _ _ (@zN _ _ 2 _ qW.nd rfl (.inl rfl) (by trivial)) (@zP _ _ _ _ _ (@zN _ _ 3 _ qW.nd rfl (.inl rfl) (by trivial)) zu rfl) rfl) rfl rfl) rfl rfl rfl) (@zE _ _ _ _ _ (@yM _ _ _ _ _ _ (@zQ _ _ _ _ _ _ _ _ _ _ _ _ UT hr (@zA _ _ _ _ _ (@yK _ _ _ _ _ _ _ _ _ _ wx (@pvb _ 0 _ _ rfl) (@zy _ _ _ (@pvb _ 1 _ _ rfl)) yR) zC rfl) rfl rfl rfl rfl) (@yN _ _ _ _ _ _ rfl (@zP _ _ _ _ _ (@zN _ _ 4 _ qW.nd rfl (.inl rfl) (by trivial)) (@zP _ _ _ _ _ (@zN _ _ 5 _ qW.nd rfl (.inl rfl) (by trivial)) zu rfl) rfl) rfl rfl) rfl rfl rfl) (@zE _ _ _ _ _ (@zV _ _ 6 _ _ _ _ qW.nd rfl (.inl rfl) (@zr _ _ _ _ zC) rfl (by trivial)) (@zE _ _ _ _ _ (@yo _ _ _ _ _ _ _ _ JP rfl (@fW _ _ _ _ _ _ _ _ _ true true rfl G.zip (@zA _ _ _ _ _ (@pvb _ 3 _ _ rfl) (@zA _ _ _ _ _ (@pvb _ 5 _ _ rfl) zC rfl) rfl) rfl rfl) (@yN _ _ _ _ _ _ rfl (@zP _ _ _ _ _ (@zN _ _ 7 _ qW.nd rfl (.inl rfl) (by trivial)) (@zP _ _ _ _ _ (@zN _ _ 8 _ qW.nd rfl (.inl rfl) (by trivial)) zu rfl) rfl) rfl rfl) (@zM _ _ _ (@y7 _ _ _ _ (@wR _ _ _ _ _ _ _ _ _ _ _ _ JW PySem.F.slot_list_extend PySem.F.type_list_extend rV (@pvb _ 6 _ _ rfl) (@zA _ _ _ _ _ (@zr _ _ _ _ (@zA _ _ _ _ _ (@pvb _ 7 _ _ rfl) (@zA _ _ _ _ _ (@pvb _ 8 _ _ rfl) zC rfl) rfl)) zC rfl) rfl rfl rfl rfl rfl) rfl)) (by intro _;rfl)) (@zM _ _ _ (@zW _ _ _ _ (@zj _ _ _ _ _ (@zA _ _ _ _ _ (@zS _ _ _ _ _ _ _ _ wb (@zS _ _ _ _ _ _ _ _ wb (@zr _ _ _ _ (@zA _ _ _ _ _ (@zj _ _ _ _ _ (@zA _ _ _ _ _ (@zX _ _ _ _ _ _ _ zZ (@pvb _ 0 _ _ rfl) zG (λ_ _=>rfl)) (@zA _ _ _ _ _ (@zX _ _ _ _ _ _ _ zZ (@pvb _ 0 _ _ rfl) (@pvb _ 1 _ _ rfl) (λ_ _=>rfl)) zC rfl) rfl)) zC rfl)) (@pvb _ 2 _ _ rfl)) (@pvb _ 4 _ _ rfl)) (@zA _ _ _ _ _ (@pvb _ 6 _ _ rfl) zC rfl) rfl)))))))))),?_⟩;have nl:=zd row;have p8:2 ^ n<=2 ^ 4:=YC (by decide) a5;have e8:2 ^ 4=16:=rfl;refine zB ⟨p,_,rfl,.inl (SqL.of C),rfl,_,rfl,?_⟩
 cases n with
 | zero =>
  have a3:row.length=1:=rl;rw[JC (show V.int (((zU row).length:Nat):Int)=V.int 1 by rw[nl,a3];rfl)];refine wE ⟨(by show 0<=sizeLine;decide),λl hl=>zB ⟨p,_,rfl,.inl (SqL.of (zD hl _ _ _ C)),λle hle=>⟨(by show 2<=sizeLine;decide),λc I=>?_⟩⟩⟩;have s1:=zD hl (.lst []);have s2:=zD hle (.lst (zU row));have D:=zD I (.tup [.ref l,.ref le])
  exact k c l le [] _ ((s1.trans s2).trans D) (zT I _) (D _ _ (s2 _ _ (zT hl _))) trivial (D _ _ (zT hle _))
 | succ m =>
  obtain⟨t1,t2,t3⟩:=vd rl;obtain⟨la,lb⟩:=wo rl;have pw:2 ^ (m+1)=2 ^ m*2:=YW ..;have p0:=YX (n:=m);rw[Jt (show ¬ V.int (((zU row).length:Nat):Int)=V.int 1 by intro z;injection z with z;lia)];refine xX (zB ⟨p,_,rfl,.inl (SqL.of C),_,_,rfl,rfl,⟨by decide,by decide⟩,?_⟩);have eh:(((zU row).length:Nat):Int) / 2=((row.length / 2:Nat):Int):=by rw[nl];lia
  simp only[eh];refine zz (λD1 bl=>?_);refine zB (zB (zY rfl ⟨p,_,rfl,SqL.of C,λp1 Z=>?_⟩));rw[mq row _ t3];have s1:=zD Z (.lst (zU (row.take (row.length / 2))));refine⟨m,rfl,p1,row.take (row.length / 2),rfl,zT Z _,la,by lia,λc2 U le2 N H2 s2 bb a8 R a9=>?_⟩;have u2:=s1.trans s2;refine⟨c2,_,rfl,SqT.of bb,rfl,_,_,rfl,_,_,rfl,rfl,bl _ _ ?_⟩;refine zz (λD2 bc=>?_);refine zB (zB (zY rfl ⟨p,_,rfl,SqL.of (u2 _ _ C),λp3 Y=>?_⟩));rw[mt row _ t3];have D:=zD Y (.lst (zU (row.drop (row.length / 2))));refine⟨m,rfl,p3,row.drop (row.length / 2),rfl,zT Y _,lb,by lia,λc4 S g a4 H4 s4 ba a7 O B=>?_⟩;have u4:=D.trans s4;refine⟨c4,_,rfl,SqT.of ba,rfl,_,_,rfl,_,_,rfl,rfl,bc _ _ ?_⟩;have v:=u2.trans u4;obtain⟨xl,xf⟩:=ve m _ la;obtain⟨yl,yf⟩:=ve m _ lb;have bu:=R.len;have bt:=O.len;have b:=u4 _ _ a9;have aE:=u4 _ _ a8;have ab:=R.tups (Tups.of u4);have a6:=v _ _ C;generalize hF:(xo m (row.take (row.length / 2))).2=fst at *;generalize hS:(xo m (row.drop (row.length / 2))).2=snd at *;refine⟨(by show 0<=sizeLine;decide),λr a=>?_⟩;have s8:=zD a (.lst []);have b0:H r=none:=wd v a;have bR:le2≠r:=zJ b a;have bB:g≠r:=zJ B a;refine zB (zB ⟨le2,g,_,_,rfl,SqL.of (s8 _ _ b),SqL.of (s8 _ _ B),?_⟩);refine kg (K:=K) (b1:=true) (b2:=true) (a1:=le2) (a2:=g) (xs:=zU fst) (ys:=zU snd) (by rw[zd,zd,xl,yl]) (λj σ L=>(∃ v7 v8,σ=[some (.ref p),some (.int ((row.length / 2:Nat):Int)),some (.ref U),some (.ref le2),some (.ref S),some (.ref g),some (.ref r),v7,v8])/\Same H4 L/\L r=some (.lst (zU (ya (fst.take j) (snd.take j))))) ⟨⟨_,_,rfl⟩,s8,zT a _⟩ (λj σ L _ z=>⟨SqL.of (z.2.1 _ _ b),SqL.of (z.2.1 _ _ B)⟩) ?_ ?_
  ·rintro j x y T σ L hx hy hT ⟨⟨v7,v8,rfl⟩,i,J⟩
   obtain⟨j1,rfl⟩:=num_at hx;obtain⟨j2,rfl⟩:=num_at hy;have sT:=zD hT (.tup [.int ((fst.getD j 0:Nat):Int),.int ((snd.getD j 0:Nat):Int)]);refine⟨T,_,rfl,SqT.of zH,rfl,_,_,rfl,_,_,rfl,rfl,?_⟩;refine zB ⟨.inl ⟨rfl,_,SqL.of (sT _ _ J)⟩,_,rfl,_,rfl,(by show 2<=sizeLine;decide),λq hq=>?_⟩;have sq:=zD hq (.lst [.int ((fst.getD j 0:Nat):Int),.int ((snd.getD j 0:Nat):Int)]);have tl:=xn (fst.take j) (snd.take j) (by rw[Js,Js];lia);rw[Js]at tl;refine⟨r,q,_,_,rfl,rfl,sq _ _ (sT _ _ J),zT hq _,by rw[zd,Ju,tl];show _+2<=_;grind,?_⟩;refine⟨⟨_,_,rfl⟩,λc o e=>?_,?_⟩
   ·rw[zK (zJ e a)];exact sq _ _ (sT _ _ (i c o e))
   ·rw[vT fst snd j j1 j2]
    have e:zU (ya (fst.take j) (snd.take j)++[fst.getD j 0,snd.getD j 0])=zU (ya (fst.take j) (snd.take j))++[.int ((fst.getD j 0:Nat):Int),.int ((snd.getD j 0:Nat):Int)]:=by rw[<- eY];rfl
    rw[e];exact zH
  ·rintro σ L ⟨⟨v7,v8,rfl⟩,i,J⟩
   rw[JK (by rw[zd];exact Je _),JK (by rw[zd];simp_all)]at J;have X:=i _ _ a6;refine zB ⟨p,_,0,_,rfl,rfl,SqL.of X,yL (j:=0) (mw row 0 (by lia)),?_⟩;refine zB (zB ⟨p,_,_,_,rfl,rfl,SqL.of X,yL (mw row (row.length / 2) (by lia)),(by show 2<=sizeLine;decide),λt ht=>?_⟩);have s5:=zD ht (.tup [.int ((row.getD 0 0:Nat):Int),.int ((row.getD (row.length / 2) 0:Nat):Int)]);refine⟨(by show 1<=sizeLine;decide),λl6 a0=>?_⟩;have s6:=zD a0 (.lst [.ref t]);refine zB ⟨l6,U,_,_,rfl,rfl,zT a0 _,s6 _ _ (s5 _ _ (i _ _ aE)),by rw[Ju];simp only[Y5,Yh];lia,λl7 aT=>?_⟩;have s7:=zD aT (.lst ([.ref t]++N));refine zB ⟨l7,S,_,_,rfl,rfl,zT aT _,s7 _ _ (s6 _ _ (s5 _ _ (i _ _ a7))),by rw[Ju,Jb];simp only[Y5,Yh];lia,λW u=>?_⟩;have M:=zD u (.lst (([.ref t]++N)++a4));have u8:=((s5.trans s6).trans s7).trans M;refine zB ⟨(by show 2<=sizeLine;decide),λc I=>?_⟩;have d:=zD I (.tup [.ref W,.ref r]);have t8:=M _ _ (s7 _ _ (s6 _ _ (zT ht (.tup [.int ((row.getD 0 0:Nat):Int),.int ((row.getD (row.length / 2) 0:Nat):Int)]))));have eN:xo (m+1) row=((row.getD 0 0,row.getD (row.length / 2) 0)::((xo m (row.take (row.length / 2))).1++(xo m (row.drop (row.length / 2))).1),ya fst snd):=by rw[<- hF,<- hS];rfl
   refine k c W r _ _ (v.trans (i.trans (u8.trans d))) (zT I _) (d _ _ (zT u _)) ?_ (by rw[eN];exact d _ _ (u8 _ _ J));refine Prs.tups (Tups.of d) ?_;rw[Y0,eN];exact Prs.app (ps:=[.ref t]) (fs:=[(row.getD 0 0,row.getD (row.length / 2) 0)]) (show Prs _ [.ref t] [(row.getD 0 0,row.getD (row.length / 2) 0)] from⟨⟨t,rfl,t8⟩,trivial⟩) (Prs.app ((ab.tups (Tups.of i)).tups (Tups.of u8)) ((O.tups (Tups.of i)).tups (Tups.of u8)))
theorem kF {f:JI}{fd:Yl}(F:Fun K "_law_tree" "_law_tree" pi f fd) (G:Mgs mg) (b:Binds K fd ["_law_row"] []) (a:mg "_law_tree" = some (.ref f)):∀ n:Nat,FnOk P w K mg base CX0 (n+1) f fd ["_law_row"] (tF n)
 | 0=>oQ F G b a 0 ⟨λvs H Q E ⟨m,h,_⟩=>by simp_all,λA outer s H args us vs Q E _ _ _ _ ⟨m,h,_⟩=>by simp_all⟩
 | m+1=>oQ F G b a (m+1) ((kF F G b a m).imp λvs H Q E ⟨c,h,q⟩=>by cases h;exact q)
abbrev tG:Sp:=λa H Q E=>∃ m,m<=4/\tF m a H Q E
theorem jd {f:JI}{fd:Yl}(F:Fun K "_law_tree" "_law_tree" pi f fd) (G:Mgs mg) (b:Binds K fd ["_law_row"] []) (a:mg "_law_tree" = some (.ref f)):FnOk P w K mg base CX0 5 f fd ["_law_row"] tG :=
 FnOk.any 4 λm c=>(kF F G b a m).mono (by simp_all)
abbrev oB:Stmt:=top 38
def tT (m:Nat):Sp:=λc H Q _=>∃ p row,c=[.ref p]/\H p=some (.lst (zU row))/\row.length=2 ^ m/\m<=4/\∀ l b a,Same H a->a l=some (.lst b)->Prs a b (xG m row)->Q (.ref l) a
theorem zac (row:List Nat)(j:Nat)(h:j<row.length):row.reverse.getD j 0=row.getD (row.length-1-j) 0:=by
 rw[J8,List.getElem?_reverse h,J8]
theorem aj:FnScope ["_law_row","_law_half","_law_forks"] ["_law_row"] (zR oB):=by trivial
theorem oU {f:JI}{fd:Yl}(F:Fun K "_law_block" "_law_block" oB f fd) (G:Mgs mg) (bS:Binds K fd ["_law_row"] []) (mS:mg "_law_block" = some (.ref f)) (n:Nat)
  (GS:FnOk P w K mg base CX0 n f fd ["_law_row"] (λvs H Q E=>∃ m,n=m+1/\tT m vs H Q E)):FnOk P w K mg base CX0 (n+1) f fd ["_law_row"] (tT n):=by
 have UB:Use P w K mg base "_law_block" ["_law_row"] n (λvs H Q E=>∃ m,n=m+1/\tT m vs H Q E) f fd:=⟨GS,bS,F.kp,mS⟩;refine F.ok aj (λvs H Q E h=>?_) (λa6 A outer s H vs Q E hr h=>?_)
 ·obtain⟨p,row,rfl,_⟩:=h
  rfl
 obtain⟨p,row,rfl,u,U,aT,k⟩:=h;refine⟨_,(@zE _ _ _ _ _ (@yV _ _ _ _ _ _ _ _ (@zq _ _ _ _ _ _ _ _ xu (@zc _ _ _ _ _ _ _ _ _ zk rfl G.len JY (@zA _ _ _ _ _ (@pvb _ 0 _ _ rfl) zC rfl) (by decide) (by decide) rfl rfl) zG (yI _)) (@zM _ _ _ (@zW _ _ _ _ (@zr _ _ _ _ zC))) zx) (@zE _ _ _ _ _ (@zV _ _ 1 _ _ _ _ aj.nd rfl (.inl rfl) (@zS _ _ _ _ _ _ _ _ xh (@zc _ _ _ _ _ _ _ _ _ zk rfl G.len JY (@zA _ _ _ _ _ (@pvb _ 0 _ _ rfl) zC rfl) (by decide) (by decide) rfl rfl) zG) rfl (by trivial)) (@zE _ _ _ _ _ (@sD _ 2 _ _ _ _ none _ _ _ _ _ _ _ _ ["_law_i","_law_row"] [none,some 0] aj.nd rfl rfl rfl (@yc _ _ _ _ _ _ rfl G.range (@zA _ _ _ _ _ (@pvb _ 1 _ _ rfl) zC rfl) rfl) (CapOk.of (by kernel_rfl)) (λ_ _ _ _ _=>(@zN _ _ 0 _ (show (["_law_i","_law_row"]:List Str).Nodup from by decide +kernel) rfl (.inl rfl) (.inr rfl))) (λ_ _ _ _ _=>x5) (λ_ _ _ _ _=>(@zj _ _ _ _ _ (@zA _ _ _ _ _ (@zX _ _ _ _ _ _ (jS K) zZ (@pvb _ 1 _ _ rfl) (@pvb _ 0 _ _ rfl) (λ_ _=>rfl)) (@zA _ _ _ _ _ (@zX _ _ _ _ _ _ (jS K) zZ (@pvb _ 1 _ _ rfl) (@zS _ _ _ _ _ _ _ _ xW (@zS _ _ _ _ _ _ _ _ xW (@zc _ _ _ _ _ _ _ _ (aL K) ir rfl G.len JY (@zA _ _ _ _ _ (@pvb _ 1 _ _ rfl) zC rfl) (by decide) (by decide) rfl rfl) zG) (@pvb _ 0 _ _ rfl)) (λ_ _=>rfl)) zC rfl) rfl))) (by intro _;rfl) (by with_unfolding_all rfl)) (@zM _ _ _ (@zW _ _ _ _ (@zS _ _ _ _ _ _ _ _ wb (@zS _ _ _ _ _ _ _ _ wb (@pvb _ 2 _ _ rfl) (@zQ _ _ _ _ _ _ _ _ _ _ _ _ UB hr (@zA _ _ _ _ _ (@yK _ _ _ _ _ _ _ _ _ _ wx (@pvb _ 0 _ _ rfl) yR (@zy _ _ _ (@pvb _ 1 _ _ rfl))) zC rfl) rfl rfl rfl rfl)) (@zQ _ _ _ _ _ _ _ _ _ _ _ _ UB hr (@zA _ _ _ _ _ (@yK _ _ _ _ _ _ _ _ _ _ wx (@pvb _ 0 _ _ rfl) (@zy _ _ _ (@pvb _ 1 _ _ rfl)) yR) zC rfl) rfl rfl rfl rfl))))))),?_⟩;have nl:=zd row;have p8:2 ^ n<=2 ^ 4:=YC (by decide) aT;have e8:2 ^ 4=16:=rfl;refine zB ⟨p,_,rfl,.inl (SqL.of u),rfl,_,rfl,?_⟩
 cases n with
 | zero =>
  have ab:row.length=1:=U;rw[JC (show V.int (((zU row).length:Nat):Int)=V.int 1 by rw[nl,ab];rfl)]
  exact wE ⟨(by show 0<=sizeLine;decide),λl hl=>k l [] _ (zD hl _) (zT hl _) trivial⟩
 | succ m =>
  obtain⟨t1,t2,t3⟩:=vd U;obtain⟨la,lb⟩:=wo U;have pw:2 ^ (m+1)=2 ^ m*2:=YW ..;have p0:=YX (n:=m);rw[Jt (show ¬ V.int (((zU row).length:Nat):Int)=V.int 1 by intro z;injection z with z;lia)];refine xX (zB ⟨p,_,rfl,.inl (SqL.of u),_,_,rfl,rfl,⟨by decide,by decide⟩,?_⟩);have eh:(((zU row).length:Nat):Int) / 2=((row.length / 2:Nat):Int):=by rw[nl];lia
  simp only[eh];refine zB ⟨((row.length / 2:Nat):Int),rfl,by lia,by lia,λlc I=>?_⟩;refine ow (lo:=0) (n:=((row.length / 2:Nat):Int).toNat) (λj acc σ q=>(∃ M,σ=[M,some (.ref p)])/\Same H q/\q lc=some (.lst acc)/\acc.length=j/\Prs q acc (((row.take (row.length / 2)).zip row.reverse).take j)) ⟨⟨_,rfl⟩,zD I _,zH,rfl,trivial⟩ (λj acc σ q z=>z.2.2.1) ?_ ?_
  ·rintro j acc σ q hj ⟨⟨M,rfl⟩,r,X,al,a⟩
   have jl:j<row.length / 2:=by lia
   have b:=r _ _ u;have e0:(0:Int)+((j:Nat):Int)=((j:Nat):Int):=Int.zero_add _;refine zB (zB ⟨p,_,_,_,rfl,rfl,SqL.of b,(by rw[e0];exact yL (mw row j (by grind))),?_⟩);refine zB (zB ⟨p,_,rfl,.inl (SqL.of b),_,_,rfl,rfl,_,rfl,_,_,rfl,rfl,?_⟩);have ei:(((zU row).length:Nat):Int)-1-(0+((j:Nat):Int))=((row.length-1-j:Nat):Int):=by rw[nl];grind
   refine⟨p,_,_,_,rfl,rfl,SqL.of b,(by rw[ei];exact yL (mw row (row.length-1-j) (by lia))),?_⟩;rw[<- zac row j (by grind)];refine⟨(by show 2<=sizeLine;decide),λt ht=>?_⟩;have T:=zD ht (.tup [.int ((row.getD j 0:Nat):Int),.int ((row.reverse.getD j 0:Nat):Int)]);have W:=T _ _ X;refine⟨W,by rw[Ju];lia,nx hj ⟨⟨_,rfl⟩,λc o e=>?_,zH,by rw[Jb,al];rfl,?_⟩⟩
   ·rw[zK (zJ e I)];exact T _ _ (r c o e)
   ·rw[pM (by rw[Js];simp_all) (by rw[List.length_reverse];grind)]
    refine Prs.add (f:=((row.take (row.length / 2)).getD j 0,row.reverse.getD j 0)) ?_ ((a.tups (Tups.of T)).tups (Tups.lst W));rw[Tups.lst W _ _ (zT ht _),J8 (l:=row.take _),List.getElem?_take_of_lt jl,<- J8]
  rintro acc σ q ⟨⟨M,rfl⟩,r,X,al,a⟩;rw[JZ]at al a;rw[JK (by rw[Zc,Js,List.length_reverse];simp_all)]at a;have b:=r _ _ u;refine zB (zB (zB (zY rfl ⟨p,_,rfl,SqL.of b,λp5 D=>?_⟩)));rw[mq row _ t3];have s5:=zD D (.lst (zU (row.take (row.length / 2))));refine⟨m,rfl,p5,row.take (row.length / 2),rfl,zT D _,la,by lia,λl6 i H7 Z a3 d=>?_⟩;have R:=s5.trans Z;have b6:=wM m (row.take (row.length / 2));rw[la]at b6;have a7:m*2 ^ m<=4*16:=Nat.mul_le_mul (by lia) (by lia);have a5:=d.len;refine⟨lc,l6,_,_,rfl,rfl,R _ _ X,a3,by rw[Ju];lia,λl7 J=>?_⟩;have S:=zD J (.lst (acc++i));have y:=(Prs.app (a.tups (Tups.of R)) d).tups (Tups.of S);have O:=r.trans (R.trans S);have C:=O _ _ u;have h8:=zT J (.lst (acc++i));generalize L2.upd H7 l7 _=H8 at S y O C h8 ⊢;refine zB (zB (zY rfl ⟨p,_,rfl,SqL.of C,λp9 B=>?_⟩));rw[mt row _ t3];have s9:=zD B (.lst (zU (row.drop (row.length / 2))));refine⟨m,rfl,p9,row.drop (row.length / 2),rfl,zT B _,lb,by lia,λl9 aE H9 Y h9 x=>?_⟩;have N:=s9.trans Y;have b9:=wM m (row.drop (row.length / 2));rw[lb]at b9;have a4:=x.len;refine⟨l7,l9,_,_,rfl,rfl,N _ _ h8,h9,by rw[Jb,Ju];lia,λa0 g=>?_⟩;have v:=zD g (.lst ((acc++i)++aE));have L:=(Prs.app (y.tups (Tups.of N)) x).tups (Tups.of v);refine k a0 _ _ (O.trans (N.trans v)) (zT g _) ?_
  have e:xG (m+1) row=(row.take (row.length / 2)).zip row.reverse++xG m (row.take (row.length / 2))++xG m (row.drop (row.length / 2)):=by
   conv=>lhs;unfold xG
   rw[Jg (by lia)]
  rw[e];exact L
theorem kI {f:JI}{fd:Yl}(F:Fun K "_law_block" "_law_block" oB f fd) (G:Mgs mg) (b:Binds K fd ["_law_row"] []) (a:mg "_law_block" = some (.ref f)):∀ n:Nat,FnOk P w K mg base CX0 (n+1) f fd ["_law_row"] (tT n)
 | 0=>oU F G b a 0 ⟨λvs H Q E ⟨m,h,_⟩=>by simp_all,λA outer s H args us vs Q E _ _ _ _ ⟨m,h,_⟩=>by simp_all⟩
 | m+1=>oU F G b a (m+1) ((kI F G b a m).imp λvs H Q E ⟨c,h,q⟩=>by cases h;exact q)
abbrev vn:Sp:=λa H Q E=>∃ m,m<=4/\tT m a H Q E
theorem js {f:JI}{fd:Yl}(F:Fun K "_law_block" "_law_block" oB f fd) (G:Mgs mg) (b:Binds K fd ["_law_row"] []) (a:mg "_law_block" = some (.ref f)):FnOk P w K mg base CX0 5 f fd ["_law_row"] vn :=
 FnOk.any 4 λm c=>(kI F G b a m).mono (by simp_all)
abbrev gZ:Stmt:=top 40
def yt (way k:Nat):Nt:=if way=0 then wN k else if way=1 then vf k else xc k
theorem pC {way k:Nat}(h:k<5):(yt way k).Ok:=by
 unfold yt;split
 ·exact gJ h
 ·split
  ·exact cR h
  ·exact jR h
theorem sM (way k:Nat):(yt way k).lanes=2 ^ k:=by
 unfold yt;split
 ·rfl
 ·split<;>rfl
def tL:Sp:=λb H Q _=>∃ way k:Nat,b=[.int (way:Nat),.int (k:Nat)]/\k<5/\∀ r fr d c a,Same H a->NetAt a r fr d c (yt way k)->Q (.ref r) a
theorem qo {H:Hp}{ps:List V}{fs:List Fk}(h:Prs H ps fs):∀ n:Nat,Prs H (List.replicate n ps).flatten (List.replicate n fs).flatten
 | 0=>trivial
 | n+1=>by
  rw[JX,JX,Z0,Z0];exact Prs.app h (qo h n)
theorem nu:FnScope ["_law_way","_law_k","_law_row","_law_forks","_law_ends_here"] ["_law_way","_law_k"] (zR gZ):=by trivial
theorem bN {f fB fS fT:JI}{fd dB dS dT:Yl}(F:Fun K "_law_made" "_law_made" gZ f fd) (G:Mgs mg) (UB:Use P w K mg base "_law_block" ["_law_row"] 5 vn fB dB) (US:Use P w K mg base "_law_stairway" ["_law_row"] 10 tI fS dS) (UT:Use P w K mg base "_law_tree" ["_law_row"] 5 tG fT dT):FnOk P w K mg base CX0 11 f fd ["_law_way","_law_k"] tL:=by
 refine F.ok nu (λvs H Q E h=>?_) (λaT A outer s H vs Q E hr h=>?_)
 ·obtain⟨way,k,rfl,_⟩:=h
  rfl
 obtain⟨way,k,rfl,k5,q⟩:=h;have L:Room 5 _:=hr.mono (by decide);refine⟨_,(@zE _ _ _ _ _ (@zV _ _ 2 _ _ _ _ nu.nd rfl (.inl rfl) (@vB _ _ _ _ _ _ _ rfl rfl G.list rfl G.range (@zA _ _ _ _ _ (@zX _ _ _ _ _ _ _ zZ (@zr _ _ _ _ (@zA _ _ _ _ _ zG (@zA _ _ _ _ _ zG (@zA _ _ _ _ _ zG (@zA _ _ _ _ _ zG (@zA _ _ _ _ _ zG zC rfl) rfl) rfl) rfl) rfl)) (@pvb _ 1 _ _ rfl) (λ_ _=>rfl)) zC rfl) rfl rfl) rfl (by trivial)) (@zE _ _ _ _ _ (@qk _ _ 3 4 _ _ _ _ _ _ _ _ _ _ _ rfl nu.nd rfl rfl (by decide) rfl rfl (@zA _ _ _ _ _ (@zS _ _ _ _ _ _ _ _ mV (@zQ _ _ _ _ _ _ _ _ _ _ _ _ UB L (@zA _ _ _ _ _ (@pvb _ 2 _ _ rfl) zC rfl) rfl rfl rfl rfl) (@pvb _ 1 _ _ rfl)) (@zA _ _ _ _ _ (@pvb _ 2 _ _ rfl) zC rfl) rfl) rfl rfl) (@zE _ _ _ _ _ (@yV _ _ _ _ _ _ _ _ (@zq _ _ _ _ _ _ _ _ xu (@pvb _ 0 _ _ rfl) zG (yI _)) (@zM _ _ _ (@yM _ _ _ _ _ _ (@zQ _ _ _ _ _ _ _ _ _ _ _ _ US hr (@zA _ _ _ _ _ (@pvb _ 2 _ _ rfl) zC rfl) rfl rfl rfl rfl) (@yN _ _ _ _ _ _ rfl (@zP _ _ _ _ _ (@zN _ _ 3 _ nu.nd rfl (.inl rfl) (by trivial)) (@zP _ _ _ _ _ (@zN _ _ 4 _ nu.nd rfl (.inl rfl) (by trivial)) zu rfl) rfl) rfl rfl) rfl rfl rfl)) zx) (@zE _ _ _ _ _ (@yV _ _ _ _ _ _ _ _ (@zq _ _ _ _ _ _ _ _ xu (@pvb _ 0 _ _ rfl) zG (yI _)) (@zM _ _ _ (@yM _ _ _ _ _ _ (@zQ _ _ _ _ _ _ _ _ _ _ _ _ UT L (@zA _ _ _ _ _ (@pvb _ 2 _ _ rfl) zC rfl) rfl rfl rfl rfl) (@yN _ _ _ _ _ _ rfl (@zP _ _ _ _ _ (@zN _ _ 3 _ nu.nd rfl (.inl rfl) (by trivial)) (@zP _ _ _ _ _ (@zN _ _ 4 _ nu.nd rfl (.inl rfl) (by trivial)) zu rfl) rfl) rfl rfl) rfl rfl rfl)) zx) (@zM _ _ _ (@zW _ _ _ _ (@zj _ _ _ _ _ (@zA _ _ _ _ _ (@zc _ _ _ _ _ _ _ _ _ zk rfl G.len JY (@zA _ _ _ _ _ (@pvb _ 2 _ _ rfl) zC rfl) (by decide) (by decide) rfl rfl) (@zA _ _ _ _ _ (@zi _ _ _ _ _ _ _ _ _ zo rfl G.tuple rfl (@zA _ _ _ _ _ (@pvb _ 3 _ _ rfl) zC rfl) (by decide) (by decide) rfl rfl) (@zA _ _ _ _ _ (@zi _ _ _ _ _ _ _ _ _ zo rfl G.tuple rfl (@zA _ _ _ _ _ (@pvb _ 4 _ _ rfl) zC rfl) (by decide) (by decide) rfl rfl) zC rfl) rfl) rfl)))))))),?_⟩;have ab:2 ^ k<=2 ^ 4:=YC (by decide) (by lia);have aE:2 ^ 4=16:=rfl
 have O:atI [V.int 1,V.int 2,V.int 4,V.int 8,V.int 16] ((k:Nat):Int)=some (.int ((2 ^ k:Nat):Int)):=by
  have:∀ k,k<5->atI [V.int 1,V.int 2,V.int 4,V.int 8,V.int 16] ((k:Nat):Int)=some (.int ((2 ^ k:Nat):Int)):=by decide
  exact this k k5
 refine⟨(by show 5<=sizeLine;decide),λt ht=>?_⟩;have s0:=zD ht (.lst [.int 1,.int 2,.int 4,.int 8,.int 16]);refine zB ⟨t,_,_,_,rfl,rfl,SqL.of zH,O,?_⟩;refine⟨2 ^ k,rfl,by lia,λp hp=>?_⟩;have s1:=zD hp (.lst (zU (List.range (2 ^ k))));have Z:=s0.trans s1;have g:=zT hp (.lst (zU (List.range (2 ^ k))));show uO _ _ _ _ (L2.upd _ p (.lst (zU (List.range (2 ^ k)))));generalize L2.upd _ p (.lst (zU (List.range (2 ^ k))))=H1 at Z g ⊢;clear s0 s1 hp;refine zB ⟨k,by lia,p,List.range (2 ^ k),rfl,g,JR,by lia,λl T H2 i hl pr=>?_⟩;have pl:=pr.len;have bl:=wM k (List.range (2 ^ k));rw[JR]at bl;have b2:k*2 ^ k<=4*2 ^ 4:=Nat.mul_le_mul (by lia) ab;have b3:T.length*k<=(4*2 ^ 4)*4:=Nat.mul_le_mul (by lia) (by lia);refine zB ⟨l,k,T,rfl,rfl,hl,by simp_all,by lia,by rw[JZ,Ju];lia,λW x=>?_⟩;rw[JZ];have m:=zD x (.lst (List.replicate k T).flatten);refine zB ⟨_,_,rfl,?_⟩
 let I:Nt->St->Hp->Prop:=λN σ G=>∃ lf le n,σ=[some (.int (way:Nat)),some (.int (k:Nat)),some (.ref p),some (.ref lf),some (.ref le)]/\Same H G/\G p=some (.lst (zU (List.range (2 ^ k))))/\G lf=some (.lst n)/\Prs G n N.forks/\G le=some (.lst (zU N.ends))
 have i0:I (xc k) [some (.int (way:Nat)),some (.int (k:Nat)),some (.ref p),some (.ref W),some (.ref p)] (L2.upd H2 W (.lst (List.replicate k T).flatten)):=⟨W,p,_,rfl,(Z.trans i).trans m,m _ _ (i _ _ g),zT x _,(qo pr k).tups (Tups.of m),m _ _ (i _ _ g)⟩;dsimp only;refine lL (I (if way=0 then wN k else xc k)) ?_ λD j _=>?_
 ·rintro σ G ⟨lf,le,n,rfl,C,d,X,U,Y⟩
  refine lL (I (yt way k)) ?_ λD j _=>?_
  ·rintro σ G ⟨lf,le,n,rfl,C,d,X,U,Y⟩
   refine zB ⟨p,_,rfl,.inl (SqL.of d),_,rfl,lf,_,rfl,.inl ⟨SqL.of X,λa ha=>?_⟩⟩;have s4:=zD ha (.tup n);refine zB ⟨le,_,rfl,.inl ⟨SqL.of (s4 _ _ Y),λb hb=>?_⟩⟩;have s5:=zD hb (.tup (zU (yt way k).ends));refine⟨(by show 3<=sizeLine;decide),λr M=>?_⟩;rw[zd,JR];have S:=zD M (.tup [.int ((2 ^ k:Nat):Int),.ref a,.ref b]);refine q r a b n _ (((C.trans s4).trans s5).trans S) ⟨?_,S _ _ (s5 _ _ (zT ha _)),U.tups (Tups.of ((s4.trans s5).trans S)),S _ _ (zT hb _)⟩;rw[sM];exact zT M _
  ·refine zB ⟨rfl,_,rfl,?_⟩
   by_cases R:way=1
   ·rw[JC (show V.int ((way:Nat):Int)=V.int 1 by rw[R];rfl)]
    refine wE (zB ⟨k,by lia,p,List.range (2 ^ k),rfl,d,JR,by lia,λc v le2 o G2 i hc y u B=>?_⟩);refine⟨c,_,rfl,SqT.of hc,rfl,_,_,rfl,_,_,rfl,rfl,?_⟩;refine j _ _ ⟨v,le2,o,rfl,C.trans i,i _ _ d,y,?_,?_⟩
    ·rw[show yt way k=vf k from by unfold yt;rw[Jg (by lia),Jq R]];exact u
    ·rw[show yt way k=vf k from by unfold yt;rw[Jg (by lia),Jq R]];exact B
   ·rw[Jt (show ¬ V.int ((way:Nat):Int)=V.int 1 by intro z;injection z with z;lia)]
    have e:yt way k=if way=0 then wN k else xc k:=by unfold yt;rw[Jg R]
    refine xX (j _ _ ⟨lf,le,n,rfl,C,d,X,?_,?_⟩)
    ·rw[e];exact U
    ·rw[e];exact Y
 ·obtain⟨lf,le,n,e,C,d,X,U,Y⟩:=i0
  refine zB ⟨rfl,_,rfl,?_⟩;by_cases J:way=0
  ·rw[JC (show V.int ((way:Nat):Int)=V.int 0 by rw[J];rfl)]
   refine wE (zB ⟨k,by lia,p,List.range (2 ^ k),rfl,d,JR,by lia,λc v le2 o G2 i hc y u B=>?_⟩);refine⟨c,_,rfl,SqT.of hc,rfl,_,_,rfl,_,_,rfl,rfl,?_⟩;refine j _ _ ⟨v,le2,o,rfl,C.trans i,i _ _ d,y,?_,?_⟩
   ·rw[Jq J];exact u
   ·rw[Jq J];exact B
  ·rw[Jt (show ¬ V.int ((way:Nat):Int)=V.int 0 by intro z;injection z with z;simp_all)]
   refine xX (j _ _ ⟨W,p,_,rfl,(Z.trans i).trans m,m _ _ (i _ _ g),zT x _,?_,?_⟩)
   ·rw[Jg J];exact(qo pr k).tups (Tups.of m)
   ·rw[Jg J];exact m _ _ (i _ _ g)
abbrev gY:Stmt:=top 43
abbrev n9:Stmt:=top 44
def nj:Sp:=λb H Q _=>∃ l:JI,b=[.ref l]/\Pk3 H l/\∀ r fr d c N a,Few 6 10 N->NetAt a r fr d c N->Pk3 a l->But l H a->Q (.ref r) a
structure Lns (lanes:Nat) (moves:List Nat):Prop where
 ne:moves≠[]
 lt:∀ m∈moves,m<lanes
 up:moves.Pairwise (· < ·)
def qO:Sp:=λb H Q _=>∃ l r fr d c N,b=[.ref l,.ref r]/\Pk3 H l/\Nt.Ok N/\NetAt H r fr d c N/\∀ p moves a,Lns N.lanes moves->a p=some (.tup (zU moves))->Pk3 a l->But l H a->Q (.ref p) a
theorem oo (way:Nat){k:Nat}(h:k<3):(yt way k).forks.length<=8/\(yt way k).lanes<=4:=by
 have s:∀ k,k<3->(wN k).forks.length<=8/\(wN k).lanes<=4:=by decide
 have t:∀ k,k<3->(vf k).forks.length<=8/\(vf k).lanes<=4:=by decide
 have r:∀ k,k<3->(xc k).forks.length<=8/\(xc k).lanes<=4:=by decide
 unfold yt;split
 ·exact s k h
 ·split
  ·exact t k h
  ·exact r k h
theorem Lns.all {lanes:Nat}(h:1<=lanes):Lns lanes (List.range lanes):=⟨λz=>by have:=JL List.length z;rw[JR,Yh]at this;lia,λm a=>Yd.mp a,List.pairwise_lt_range⟩
theorem gR:FnScope ["_law_left_here","_law_way","_law_net_here","_law_k"] ["_law_left_here"] (zR gY):=by trivial
theorem bM {f fK fA fM fC:JI}{fd dK dA dM dC:Yl}(F:Fun K "_law_net" "_law_net" gY f fd) (G:Mgs mg) (B:Use P w K mg base "_law_pick" ["_law_left_here","_law_many"] 1 xN fK dK) (UA:Use P w K mg base "_law_any" ["_law_left_here"] 3 nq fA dA) (UM:Use P w K mg base "_law_made" ["_law_way","_law_k"] 11 tL fM dM) (UC:Use P w K mg base "_law_changed" ["_law_left_here","_law_net_here"] 2 gO fC dC):FnOk P w K mg base CX0 12 f fd ["_law_left_here"] nj:=by
 refine F.ok gR (λvs H Q E h=>?_) (λaE A outer s H vs Q E y h=>?_)
 ·obtain⟨l,rfl,_⟩:=h
  rfl
 obtain⟨l,rfl,S,k⟩:=h;have e:Room 1 _:=y.mono (by decide);have T:Room 2 _:=y.mono (by decide);have R:Room 3 _:=y.mono (by decide);refine⟨_,(@zE _ _ _ _ _ (@zV _ _ 1 _ _ _ _ gR.nd rfl (.inl rfl) (@zQ _ _ _ _ _ _ _ _ _ _ _ _ B e (@zA _ _ _ _ _ (@pvb _ 0 _ _ rfl) (@zA _ _ _ _ _ zG zC rfl) rfl) rfl rfl rfl rfl) rfl (by trivial)) (@zE _ _ _ _ _ (@yV _ _ _ _ _ _ _ _ (@zq _ _ _ _ _ _ _ _ xu (@pvb _ 1 _ _ rfl) zG (yI _)) (@zM _ _ _ (@zW _ _ _ _ (@zQ _ _ _ _ _ _ _ _ _ _ _ _ UA R (@zA _ _ _ _ _ (@pvb _ 0 _ _ rfl) zC rfl) rfl rfl rfl rfl))) zx) (@zE _ _ _ _ _ (@zV _ _ 2 _ _ _ _ gR.nd rfl (.inl rfl) (@zQ _ _ _ _ _ _ _ _ _ _ _ _ UM y (@zA _ _ _ _ _ (@zQ _ _ _ _ _ _ _ _ _ _ _ _ B e (@zA _ _ _ _ _ (@pvb _ 0 _ _ rfl) (@zA _ _ _ _ _ zG zC rfl) rfl) rfl rfl rfl rfl) (@zA _ _ _ _ _ (@zX _ _ _ _ _ _ _ zZ (@zr _ _ _ _ (@zA _ _ _ _ _ zG (@zA _ _ _ _ _ zG (@zA _ _ _ _ _ zG (@zA _ _ _ _ _ zG zC rfl) rfl) rfl) rfl)) (@zQ _ _ _ _ _ _ _ _ _ _ _ _ B e (@zA _ _ _ _ _ (@pvb _ 0 _ _ rfl) (@zA _ _ _ _ _ zG zC rfl) rfl) rfl rfl rfl rfl) (λ_ _=>rfl)) zC rfl) rfl) rfl rfl rfl rfl) rfl (by trivial)) (@zE _ _ _ _ _ (@yo _ _ _ _ _ _ _ _ JP rfl (@yc _ _ _ _ _ _ rfl G.range (@zA _ _ _ _ _ (@zS _ _ _ _ _ _ _ _ xL (@zX _ _ _ _ _ _ _ zZ (@zr _ _ _ _ (@zA _ _ _ _ _ zG (@zA _ _ _ _ _ zG (@zA _ _ _ _ _ zG (@zA _ _ _ _ _ zG zC rfl) rfl) rfl) rfl)) (@pvb _ 1 _ _ rfl) (λ_ _=>rfl)) (@zQ _ _ _ _ _ _ _ _ _ _ _ _ B e (@zA _ _ _ _ _ (@pvb _ 0 _ _ rfl) (@zA _ _ _ _ _ zG zC rfl) rfl) rfl rfl rfl rfl)) zC rfl) rfl) (@zN _ _ 3 _ gR.nd rfl (.inl rfl) (by trivial)) (@zM _ _ _ (@zV _ _ 2 _ _ _ _ gR.nd rfl (.inl rfl) (@zQ _ _ _ _ _ _ _ _ _ _ _ _ UC T (@zA _ _ _ _ _ (@pvb _ 0 _ _ rfl) (@zA _ _ _ _ _ (@pvb _ 2 _ _ rfl) zC rfl) rfl) rfl rfl rfl rfl) rfl (by trivial))) (by intro _;rfl)) (@zM _ _ _ (@zW _ _ _ _ (@pvb _ 2 _ _ rfl))))))),?_⟩;refine zB ⟨l,4,rfl,by decide,by decide,S,λway H1 hw S1 B1=>?_⟩;refine zB ⟨rfl,_,rfl,uX (λ_=>?_) (λz=>?_)⟩
 ·exact zB ⟨l,rfl,S1,λr fr c b N d a na j o=>k r fr c b N d ⟨a.ok,a.ln,by have:=a.fk;lia⟩ na j (B1.trans o)⟩
 refine zB ⟨l,3,rfl,by decide,by decide,S1,λkd d hk j o=>?_⟩;refine⟨(by show 4<=sizeLine;decide),λt g=>zB ⟨l,4,rfl,by decide,by decide,j.keep (zD g _),λv H3 hv I q=>?_⟩⟩;obtain⟨sz,Y,Z⟩:=wz (xs:=[1,2,2,0]) (v:=v) (by show v<4;lia);have zb:sz<3:=(show ∀ n∈[1,2,2,0],n<3 by decide) sz Y;refine⟨t,_,_,_,rfl,rfl,SqL.of (q t _ (zT g _) (j.ne g).symm),Z,?_⟩;have X:But l H H3:=((B1.trans o).trans (But.of (zD g _))).trans q;clear g q Z Y;refine⟨kd,sz,rfl,by lia,λr fr c b H4 s4 M=>?_⟩;obtain⟨m1,m2⟩:=oo kd zb;have S4:=I.keep s4;have B4:=X.trans (But.of (l:=l) s4);refine⟨(by show 4<=sizeLine;decide),λt g=>?_⟩;have x:=zD g (.lst [.int 0,.int 1,.int 1,.int 2]);obtain⟨m,mm,ma⟩:=wz (xs:=[0,1,1,2]) (v:=way) (by show way<4;lia);have mb:m<=2:=(show ∀ n∈[0,1,1,2],n<=2 by decide) m mm;refine zB ⟨t,_,_,_,rfl,rfl,SqL.of (zT g _),ma,?_⟩;refine zB ⟨l,2,rfl,by decide,by decide,S4.keep x,λp H5 ab S5 B5=>?_⟩;have L:=(M.tups (Tups.of x)).tups (B5.tups3 (S4.keep x));have W:=(B4.trans (But.of (l:=l) x)).trans B5
 have pb:m*p<=2:=by
  have:m*p<=2*1:=Nat.mul_le_mul mb (by lia);lia
 have D:((m:Nat):Int)*((p:Nat):Int)=((m*p:Nat):Int):=(Int.natCast_mul _ _).symm;refine⟨_,_,rfl,rfl,.inl ⟨by lia,by lia⟩,?_⟩;refine zY rfl ⟨by rw[D];lia,by rw[D];lia,?_⟩;rw[D];generalize m*p=cnt at pb;refine y0 (lo:=0) (n:=((cnt:Nat):Int).toNat) (λi σ d=>∃ C r fr c b N,σ=[some (.ref l),some (.int (way:Nat)),some (.ref r),C]/\Pk3 d l/\But l H d/\NetAt d r fr c b N/\Few 6 (8+i) N) ⟨_,r,fr,c,b,_,rfl,S5,W,L,pC (by lia),by lia,by lia⟩ ?_ ?_
 ·rintro i σ d hi ⟨C,r,fr,c,b,N,rfl,j,o,na,a⟩
  refine zB (zB ⟨l,r,fr,c,b,N,6,8+i,rfl,j,a,by lia,na,λr' U V J N' H3 u _ O I q=>?_⟩);exact⟨_,r',U,V,J,N',rfl,I,o.trans q,O,u⟩
 ·rintro σ d ⟨C,r,fr,c,b,N,rfl,j,o,na,a⟩
  exact zB (k r fr c b N d ⟨a.ok,a.ln,by have:=a.fk;lia⟩ na j o)
theorem za4:FnScope ["_law_left_here","_law_net_here","_law_some_here"] ["_law_left_here","_law_net_here"] (zR n9):=by trivial
theorem eF {f fK:JI}{fd dK:Yl}(F:Fun K "_law_some" "_law_some" n9 f fd) (G:Mgs mg) (UK:Use P w K mg base "_law_pick" ["_law_left_here","_law_many"] 1 xN fK dK):FnOk P w K mg base CX0 2 f fd ["_law_left_here","_law_net_here"] qO:=by
 refine F.ok za4 (λvs H Q E h=>?_) (λa5 A outer s H vs Q E hr h=>?_)
 ·obtain⟨l,r,fr,er,ps,N,rfl,_⟩:=h
  rfl
 obtain⟨l,r,fr,er,ps,N,rfl,S,ok,na,k⟩:=h;have a4:=ok.l16;have l1:=ok.l1;refine⟨_,(@zE _ _ _ _ _ (@sD _ 2 _ _ _ _ (some _) _ _ _ _ _ _ _ _ ["_law_lane","_law_left_here"] [none,some 0] za4.nd rfl rfl rfl (@yc _ _ _ _ _ _ rfl G.range (@zA _ _ _ _ _ (@zX _ _ _ _ _ _ _ yA (@pvb _ 1 _ _ rfl) zG (λ_ _=>rfl)) zC rfl) rfl) (CapOk.of (by kernel_rfl)) (λ_ _ _ _ _=>(@zN _ _ 0 _ (show (["_law_lane","_law_left_here"]:List Str).Nodup from by decide +kernel) rfl (.inl rfl) (.inr rfl))) (λ_ _ _ _ _=>(@cq _ _ _ (@zq _ _ _ _ _ _ _ _ xu (@zQ _ _ _ _ _ _ _ _ _ _ _ _ UK hr (@zA _ _ _ _ _ (@pvb _ 1 _ _ rfl) (@zA _ _ _ _ _ zG zC rfl) rfl) rfl rfl rfl rfl) zG (yI _)))) (λ_ _ _ _ _=>(@pvb _ 0 _ _ rfl)) (by intro _;rfl) (by with_unfolding_all rfl)) (@zM _ _ _ (@zW _ _ _ _ (@zX _ _ _ _ _ _ _ zZ (@zr _ _ _ _ (@zA _ _ _ _ _ (@vA _ _ _ _ _ _ _ rfl rfl G.tuple rfl G.range (@zA _ _ _ _ _ (@zX _ _ _ _ _ _ _ yA (@pvb _ 1 _ _ rfl) zG (λ_ _=>rfl)) zC rfl) rfl rfl) (@zA _ _ _ _ _ (@oJ _ _ _ _ _ _ _ _ (@zq _ _ _ _ _ _ _ _ (eA hr.units0) (@pvb _ 2 _ _ rfl) (@zr _ _ _ _ zC) (yI _)) (@zi _ _ _ _ _ _ _ _ _ zo rfl G.tuple rfl (@zA _ _ _ _ _ (@pvb _ 2 _ _ rfl) zC rfl) (by decide) (by decide) rfl rfl) (@zj _ _ _ _ _ (@zA _ _ _ _ _ (@zQ _ _ _ _ _ _ _ _ _ _ _ _ UK hr (@zA _ _ _ _ _ (@pvb _ 0 _ _ rfl) (@zA _ _ _ _ _ (@zX _ _ _ _ _ _ _ yA (@pvb _ 1 _ _ rfl) zG (λ_ _=>rfl)) zC rfl) rfl) rfl rfl rfl rfl) zC rfl))) zC rfl) rfl)) (@zQ _ _ _ _ _ _ _ _ _ _ _ _ UK hr (@zA _ _ _ _ _ (@pvb _ 0 _ _ rfl) (@zA _ _ _ _ _ zG zC rfl) rfl) rfl rfl rfl rfl) (λ_ _=>rfl))))),?_⟩;refine zB ⟨r,_,_,_,rfl,rfl,SqT.of na.net,rfl,_,rfl,by lia,by lia,λlc u=>?_⟩;have M:=S.ne u;have a3:Frs l H lc:=λb o e _=>zJ e u;refine iC (lo:=0) (n:=((N.lanes:Nat):Int).toNat) (λi acc σ C=>(∃ v0,σ=[v0,some (.ref l)])/\Pk3 C l/\But l H C/\C lc=some (.lst acc)/\∃ ms:List Nat,acc=zU ms/\ms.length<=i/\(∀ m∈ms,m<i)/\ms.Pairwise (· < ·)) ⟨⟨_,rfl⟩,S.upd M,But.of (zD u _),zT u _,[],rfl,Je _,λm J=>(nomatch J),.nil⟩ (λi acc σ C z=>z.2.2.2.1) ?_ ?_
 ·rintro i acc σ C hi ⟨⟨v0,rfl⟩,S2,X,U,ms,rfl,ml,mlt,mp⟩
  refine zB ⟨l,2,rfl,by decide,by decide,S2,λv H3 Z S3 B3=>⟨rfl,_,rfl,?_⟩⟩;have h3:=B3 lc _ U M.symm;have e0:(0:Int)+((i:Nat):Int)=((i:Nat):Int):=Int.zero_add _;refine uX (λ_=>?_) (λ_=>?_)
  ·refine zB ⟨h3,by rw[zd,Ju];lia,nx (by lia) ⟨⟨_,rfl⟩,S3.upd M,(X.trans B3).upd a3,zH,ms++[i],?_,by rw[Jb];show _+1<=_;lia,λm J=>?_,?_⟩⟩
   ·rw[<- eY,e0];rfl
   ·rcases Jr.mp J with y|y
    ·have:=mlt m y;lia
    ·rw[Ja.mp y];lia
   ·refine List.pairwise_append.mpr ⟨mp,List.pairwise_singleton _ _,λa ha b hb=>?_⟩
    rw[Ja.mp hb];exact mlt a ha
  ·exact nx (by lia) ⟨⟨_,rfl⟩,S3,X.trans B3,h3,ms,rfl,by lia,λm J=>by have:=mlt m J;lia,mp⟩
 rintro acc σ C ⟨⟨v0,rfl⟩,S2,X,U,ms,rfl,ml,mlt,mp⟩;rw[JZ]at ml mlt;have O:=na.tups (X.tups3 S);refine zB ⟨r,_,_,_,rfl,rfl,SqT.of O.net,rfl,N.lanes,rfl,by lia,λD R=>?_⟩;have Y:=zD R (.tup (zU (List.range N.lanes)));have h1:=zT R (.tup (zU (List.range N.lanes)));have T:=Y _ _ U;have S1:=S2.keep Y;have B1:=X.trans (But.of (l:=l) Y);have ab:=O.tups (Tups.of Y);show gH _ _ _ (L2.upd C D (.tup (zU (List.range N.lanes)))) _;generalize L2.upd C D (.tup (zU (List.range N.lanes)))=H3 at *;clear U Y S2 X O R;refine zB ⟨(by show 0<=sizeLine;decide),λe he=>?_⟩;have I:=zD he (.lst []);refine⟨lc,e,_,rfl,rfl,SqL.of (I _ _ T),SqL.of (zT he _),_,rfl,?_⟩;have a0:=I _ _ T;have aE:=I _ _ h1;have S4:=S1.keep I;have B4:=B1.trans (But.of (l:=l) I);have aT:=ab.tups (Tups.of I);generalize L2.upd H3 e (.lst [])=H4 at *;clear T h1 S1 B1 ab I he
 have fin:∀ (p:JI) (moves:List Nat) (B:Hp),Lns N.lanes moves->B p=some (.tup (zU moves))->B D=some (.tup (zU (List.range N.lanes)))->Pk3 B l->But l H B->∀ q,B q=none->∀ (v:Nat) (d:Hp),(v:Int)<2->Pk3 d l->But l (L2.upd B q (.lst [.ref D,.ref p])) d->∃ a xs j x,V.ref q=.ref a/\V.int (v:Nat)=.int j/\SqL K d a xs/\atI xs j=some x/\Q x d:=λp moves B ln U h1 S5 B5 q c v d Z W L=>by
  have s5:=zD c (.lst [.ref D,.ref p]);have t6:=(Tups.of s5).trans (L.tups3 (S5.keep s5));have B':=(B5.trans (But.of (l:=l) s5)).trans L
  have hx:∃ x,[V.ref D,V.ref p][v]?=some x/\Q x d:=by
   rcases v with _|_|v
   ·exact zY rfl (k D _ d (Lns.all l1) (t6 _ _ h1) W B')
   ·exact zY rfl (k p moves d ln (t6 _ _ U) W B')
   ·lia
  obtain⟨x,ex,qx⟩:=hx;exact⟨q,_,_,x,rfl,rfl,SqL.of (L q _ (zT c _) (S5.ne c).symm),yL ex,qx⟩
 by_cases un:ms=[]
 ·rw[show (!(zU ms).isEmpty)=false by rw[un];rfl]
  refine xX (zB (zB ⟨r,_,_,_,rfl,rfl,SqT.of aT.net,rfl,l,_,rfl,by lia,by lia,S4,λone B ho S5 B5=>⟨(by show 1<=sizeLine;decide),λp g=>?_⟩⟩));have t:=zD g (.tup [.int (one:Nat)]);have t5:=B5.tups3 S4;refine⟨(by show 2<=sizeLine;decide),λq c=>zB ⟨l,2,rfl,by decide,by decide,(S5.keep t).keep (zD c _),λv d Z W L=>?_⟩⟩;exact fin p [one] _ ⟨by simp,λm J=>by rw[Ja.mp J];lia,List.pairwise_singleton _ _⟩ (zT g _) (t _ _ (t5 _ _ aE)) (S5.keep t) ((B4.trans B5).trans (But.of t)) q c v d Z W L
 ·rw[show (!(zU ms).isEmpty)=true by cases ms with
   | nil=>exact absurd rfl un
   | cons a b=>rfl]
  refine wE (zB ⟨lc,_,rfl,.inl ⟨SqL.of a0,λp g=>?_⟩⟩);have t:=zD g (.tup (zU ms));refine⟨(by show 2<=sizeLine;decide),λq c=>zB ⟨l,2,rfl,by decide,by decide,(S4.keep t).keep (zD c _),λv d Z W L=>?_⟩⟩;exact fin p ms _ ⟨un,mlt,mp⟩ (zT g _) (t _ _ aE) (S4.keep t) (B4.trans (But.of t)) q c v d Z W L
abbrev aw:Stmt:=top 47
def gM:Sp:=λb H Q _=>∃ l:JI,b=[.ref l]/\Pk3 H l/\∀ r fr d c N a,Few 8 20 N->NetAt a r fr d c N->Pk3 a l->But l H a->Q (.ref r) a
theorem nv:FnScope ["_law_left_here","_law_way","_law_size","_law_forks","_law_k","_law_a","_law_ends_here"] ["_law_left_here"] (zR aw):=by trivial
theorem zar {f fK fN fM fB fX:JI}{fd dK dN dM dB dX:Yl}(F:Fun K "_law_evened" "_law_evened" aw f fd) (G:Mgs mg) (X:Use P w K mg base "_law_pick" ["_law_left_here","_law_many"] 1 xN fK dK) (UN:Use P w K mg base "_law_net" ["_law_left_here"] 12 nj fN dN) (UM:Use P w K mg base "_law_made" ["_law_way","_law_k"] 11 tL fM dM) (UB:Use P w K mg base "_law_block" ["_law_row"] 5 vn fB dB) (UX:Use P w K mg base "_law_mixed" ["_law_left_here","_law_row"] 2 uk fX dX):FnOk P w K mg base CX0 13 f fd ["_law_left_here"] gM:=by
 refine F.ok nv (λvs H Q E h=>?_) (λcz A outer s H vs Q E hr h=>?_)
 ·obtain⟨l,rfl,_⟩:=h
  rfl
 obtain⟨l,rfl,S,k⟩:=h;have y:Room 1 _:=hr.mono (by decide);have b0:Room 2 _:=hr.mono (by decide);have bS:Room 5 _:=hr.mono (by decide);have a5:Room 11 _:=hr.mono (by decide);refine⟨_,(@zE _ _ _ _ _ (@zV _ _ 1 _ _ _ _ nv.nd rfl (.inl rfl) (@zQ _ _ _ _ _ _ _ _ _ _ _ _ X y (@zA _ _ _ _ _ (@pvb _ 0 _ _ rfl) (@zA _ _ _ _ _ zG zC rfl) rfl) rfl rfl rfl rfl) rfl (by trivial)) (@zE _ _ _ _ _ (@yV _ _ _ _ _ _ _ _ (@zq _ _ _ _ _ _ _ _ xu (@pvb _ 1 _ _ rfl) zG (yI _)) (@zM _ _ _ (@zW _ _ _ _ (@zQ _ _ _ _ _ _ _ _ _ _ _ _ UN hr (@zA _ _ _ _ _ (@pvb _ 0 _ _ rfl) zC rfl) rfl rfl rfl rfl))) zx) (@zE _ _ _ _ _ (@yV _ _ _ _ _ _ _ _ (@zq _ _ _ _ _ _ _ _ aN (@pvb _ 1 _ _ rfl) zG (yI _)) (@zM _ _ _ (@zW _ _ _ _ (@zQ _ _ _ _ _ _ _ _ _ _ _ _ UM a5 (@zA _ _ _ _ _ (@zX _ _ _ _ _ _ _ zZ (@zr _ _ _ _ (@zA _ _ _ _ _ zG (@zA _ _ _ _ _ zG zC rfl) rfl)) (@zQ _ _ _ _ _ _ _ _ _ _ _ _ X y (@zA _ _ _ _ _ (@pvb _ 0 _ _ rfl) (@zA _ _ _ _ _ zG zC rfl) rfl) rfl rfl rfl rfl) (λ_ _=>rfl)) (@zA _ _ _ _ _ (@zQ _ _ _ _ _ _ _ _ _ _ _ _ X y (@zA _ _ _ _ _ (@pvb _ 0 _ _ rfl) (@zA _ _ _ _ _ zG zC rfl) rfl) rfl rfl rfl rfl) zC rfl) rfl) rfl rfl rfl rfl))) zx) (@zE _ _ _ _ _ (@zV _ _ 2 _ _ _ _ nv.nd rfl (.inl rfl) (@zX _ _ _ _ _ _ _ zZ (@zr _ _ _ _ (@zA _ _ _ _ _ zG (@zA _ _ _ _ _ zG (@zA _ _ _ _ _ zG (@zA _ _ _ _ _ zG (@zA _ _ _ _ _ zG zC rfl) rfl) rfl) rfl) rfl)) (@zQ _ _ _ _ _ _ _ _ _ _ _ _ X y (@zA _ _ _ _ _ (@pvb _ 0 _ _ rfl) (@zA _ _ _ _ _ zG zC rfl) rfl) rfl rfl rfl rfl) (λ_ _=>rfl)) rfl (by trivial)) (@zE _ _ _ _ _ (@sD _ 3 _ _ _ _ none _ _ _ _ _ (lO K 2 (uE (xT 0) (uE (xT 1) dk))) _ _ ["_law_a","_law_b","_law_left_here"] [none,none,some 0] nv.nd rfl rfl rfl (@bA _ _ _ _ (@zQ _ _ _ _ _ _ _ _ _ _ _ _ UB bS (@zA _ _ _ _ _ (@vB _ _ _ _ _ _ _ rfl rfl G.list rfl G.range (@zA _ _ _ _ _ (@pvb _ 2 _ _ rfl) zC rfl) rfl rfl) zC rfl) rfl rfl rfl rfl)) (CapOk.of (by kernel_rfl)) (λ_ _ _ _ _=>(@yN _ _ _ _ _ _ rfl (@zP _ _ _ _ _ (@zN _ _ 0 _ (show (["_law_a","_law_b","_law_left_here"]:List Str).Nodup from by decide +kernel) rfl (.inl rfl) (.inr rfl)) (@zP _ _ _ _ _ (@zN _ _ 1 _ (show (["_law_a","_law_b","_law_left_here"]:List Str).Nodup from by decide +kernel) rfl (.inl rfl) (.inr rfl)) zu rfl) rfl) rfl rfl)) (λ_ _ _ _ _=>x5) (λ_ _ _ _ _=>(@zX _ _ _ _ _ _ (jS K) zZ (@zr _ _ _ _ (@zA _ _ _ _ _ (@zj _ _ _ _ _ (@zA _ _ _ _ _ (@pvb _ 0 _ _ rfl) (@zA _ _ _ _ _ (@pvb _ 1 _ _ rfl) zC rfl) rfl)) (@zA _ _ _ _ _ (@zj _ _ _ _ _ (@zA _ _ _ _ _ (@pvb _ 1 _ _ rfl) (@zA _ _ _ _ _ (@pvb _ 0 _ _ rfl) zC rfl) rfl)) zC rfl) rfl)) (@zQ _ _ _ _ _ _ _ _ _ _ _ _ X y (@zA _ _ _ _ _ (@pvb _ 2 _ _ rfl) (@zA _ _ _ _ _ zG zC rfl) rfl) rfl rfl rfl rfl) (λ_ _=>rfl))) (by intro _;rfl) (by with_unfolding_all rfl)) (@zE _ _ _ _ _ (@yo _ _ _ _ _ _ _ _ JP rfl (@yc _ _ _ _ _ _ rfl G.range (@zA _ _ _ _ _ (@zS _ _ _ _ _ _ _ _ xL (@zQ _ _ _ _ _ _ _ _ _ _ _ _ X y (@zA _ _ _ _ _ (@pvb _ 0 _ _ rfl) (@zA _ _ _ _ _ zG zC rfl) rfl) rfl rfl rfl rfl) (@zi _ _ _ _ _ _ _ _ _ wL rfl G.int rfl (@zA _ _ _ _ _ (@vC _ _ _ _ _ _ _ _ aN (@pvb _ 2 _ _ rfl) zG (yI _)) zC rfl) (by decide) (by decide) rfl rfl)) zC rfl) rfl) (@zN _ _ 4 _ nv.nd rfl (.inl rfl) (by trivial)) (@zE _ _ _ _ _ (@zV _ _ 5 _ _ _ _ nv.nd rfl (.inl rfl) (@zQ _ _ _ _ _ _ _ _ _ _ _ _ X y (@zA _ _ _ _ _ (@pvb _ 0 _ _ rfl) (@zA _ _ _ _ _ (@pvb _ 2 _ _ rfl) zC rfl) rfl) rfl rfl rfl rfl) rfl (by trivial)) (@zM _ _ _ (@y7 _ _ _ _ (@wR _ _ _ _ _ _ _ _ _ _ _ _ JW Y9 Ya yd (@pvb _ 3 _ _ rfl) (@zA _ _ _ _ _ (@zj _ _ _ _ _ (@zA _ _ _ _ _ (@pvb _ 5 _ _ rfl) (@zA _ _ _ _ _ (@zS _ _ _ _ _ _ _ _ xt (@zS _ _ _ _ _ _ _ _ yQ (@zS _ _ _ _ _ _ _ _ yQ (@pvb _ 5 _ _ rfl) zG) (@zQ _ _ _ _ _ _ _ _ _ _ _ _ X y (@zA _ _ _ _ _ (@pvb _ 0 _ _ rfl) (@zA _ _ _ _ _ (@zS _ _ _ _ _ _ _ _ xW (@pvb _ 2 _ _ rfl) zG) zC rfl) rfl) rfl rfl rfl rfl)) (@pvb _ 2 _ _ rfl)) zC rfl) rfl)) zC rfl) rfl rfl rfl rfl rfl) rfl))) (by intro _;rfl)) (@zE _ _ _ _ _ (@zV _ _ 6 _ _ _ _ nv.nd rfl (.inl rfl) (@zX _ _ _ _ _ _ _ zZ (@zr _ _ _ _ (@zA _ _ _ _ _ (@vA _ _ _ _ _ _ _ rfl rfl G.tuple rfl G.range (@zA _ _ _ _ _ (@pvb _ 2 _ _ rfl) zC rfl) rfl rfl) (@zA _ _ _ _ _ (@zQ _ _ _ _ _ _ _ _ _ _ _ _ UX b0 (@zA _ _ _ _ _ (@pvb _ 0 _ _ rfl) (@zA _ _ _ _ _ (@vB _ _ _ _ _ _ _ rfl rfl G.list rfl G.range (@zA _ _ _ _ _ (@pvb _ 2 _ _ rfl) zC rfl) rfl rfl) zC rfl) rfl) rfl rfl rfl rfl) zC rfl) rfl)) (@zQ _ _ _ _ _ _ _ _ _ _ _ _ X y (@zA _ _ _ _ _ (@pvb _ 0 _ _ rfl) (@zA _ _ _ _ _ zG zC rfl) rfl) rfl rfl rfl rfl) (λ_ _=>rfl)) rfl (by trivial)) (@zM _ _ _ (@zW _ _ _ _ (@zj _ _ _ _ _ (@zA _ _ _ _ _ (@pvb _ 2 _ _ rfl) (@zA _ _ _ _ _ (@zi _ _ _ _ _ _ _ _ _ zo rfl G.tuple rfl (@zA _ _ _ _ _ (@pvb _ 3 _ _ rfl) zC rfl) (by decide) (by decide) rfl rfl) (@zA _ _ _ _ _ (@pvb _ 6 _ _ rfl) zC rfl) rfl) rfl))))))))))),?_⟩;refine⟨_,rfl,l,8,rfl,by decide,by decide,S,λway H1 hw S1 B1=>?_⟩;refine⟨_,rfl,rfl,_,rfl,uX (λ_=>?_) (λz0=>?_)⟩
 ·exact⟨_,rfl,l,rfl,S1,λr fr er C N H2 a3 na T M=>k r fr er C N H2 ⟨a3.ok,by have:=a3.ln;lia,by have:=a3.fk;lia⟩ na T (B1.trans M)⟩
 refine⟨_,rfl,_,_,rfl,rfl,_,rfl,uX (λ_=>?_) (λz1=>?_)⟩
 ·refine⟨by show 2<=sizeLine;decide,λt I=>⟨_,rfl,l,2,rfl,by decide,by decide,S1.keep (zD I _),λv H2 hv T M=>?_⟩⟩
  obtain⟨wy,wm,wa⟩:=wz (xs:=[0,2]) (v:=v) (by show v<2;lia);refine⟨t,_,_,_,rfl,rfl,SqL.of (M t _ (zT I _) (S1.ne I).symm),wa,?_⟩;have Z:But l H H2:=(B1.trans (But.of (zD I _))).trans M;clear I M wa;refine⟨_,rfl,l,3,rfl,by decide,by decide,T,λsz H3 hz J W=>?_⟩;refine⟨wy,sz,rfl,by lia,λr fr er C U s4 bB=>?_⟩;obtain⟨m1,m2⟩:=oo wy (k:=sz) (by lia);exact k r fr er C _ U ⟨pC (by lia),by lia,by lia⟩ bB (J.keep s4) ((Z.trans W).trans (But.of s4))
 refine⟨by show 5<=sizeLine;decide,λt I=>⟨_,rfl,l,5,rfl,by decide,by decide,S1.keep (zD I _),λv H2 hv T M=>?_⟩⟩;obtain⟨size,wm,wa⟩:=wz (xs:=[2,4,4,4,8]) (v:=v) (by show v<5;lia);refine⟨t,_,_,_,rfl,rfl,SqL.of (M t _ (zT I _) (S1.ne I).symm),wa,?_⟩;have Z:But l H H2:=(B1.trans (But.of (zD I _))).trans M;clear I M wa B1 S1 S
 obtain⟨m,em,m3⟩:∃ m,size=2 ^ m/\1<=m/\m<=3:=by
  have z:∀ n∈[2,4,4,4,8],n=2 ^ 1\/n=2 ^ 2\/n=2 ^ 3:=by decide
  rcases z size wm with e|e|e
  ·exact⟨1,e,by decide,by decide⟩
  ·exact⟨2,e,by decide,by decide⟩
  ·exact⟨3,e,by decide,by decide⟩
 have sz:2<=size/\size<=8:=(show ∀ n∈[2,4,4,4,8],2<=n/\n<=8 by decide) size wm;refine⟨_,rfl,size,rfl,by lia,λp hp=>?_⟩;have s3:=zD hp (.lst (zU (List.range size)));refine⟨m,by lia,p,List.range size,rfl,zH,by rw[JR];exact em,by lia,λlb C H3 s4 R pr=>?_⟩;have J:=T.keep (s3.trans s4);have W:But l H H3:=Z.trans (But.of (s3.trans s4));have a9:=zaK (k:=m) (by lia)
 have fb:∀ g∈xG m (List.range size),g.1<size/\g.2<size/\g.1≠g.2:=by
  have:=a9.fk;rw[em];exact this
 have cn:(xG m (List.range size)).length<=12:=by
  rw[em];have z:∀ m,m<4->(xG m (List.range (2 ^ m))).length<=12:=by decide
  exact z m (by lia)
 clear s3 s4 hp T Z a9 wm;have pl:=pr.len;refine⟨lb,rfl,⟨_,SqL.of R⟩,λlc O=>?_⟩;have j:=J.ne O
 have bb:lb≠l:=λe=>by
  subst e;obtain⟨a,b,c,q,_⟩:=J.ex;rw[q]at R;cases R;obtain⟨a,g,e,_⟩:=pr.get (i:=0) rfl;cases e
 have b4:Frs l H lc:=W.frs O;have aE:Frs l H3 lc:=λb o e _=>zJ e O;refine bo (K:=K) (a:=lb) (xs:=C) (λi acc σ U=>(∃ v0 v1,σ=[v0,v1,some (.ref l)])/\Pk3 U l/\But l H3 U/\U lc=some (.lst acc)/\∃ fs,Prs U acc fs/\fs.length=i/\∀ g∈fs,g.1<size/\g.2<size/\g.1≠g.2) ⟨⟨_,_,rfl⟩,J.upd j,But.of (zD O _),zT O _,[],trivial,rfl,λg hg=>(nomatch hg)⟩ (λi acc σ U z=>⟨z.2.2.2.1,SqL.of (z.2.2.1 _ _ R bb)⟩) ?_ ?_
 ·rintro i x acc σ U hx ⟨⟨v0,v1,rfl⟩,S4,B4,h4,fs,p4,fl,a0⟩
  obtain⟨a,g,rfl,eg,ha⟩:=(pr.tups (B4.tups3 J)).get hx;have il:=(Jd.mp hx).1;have gk:=fb g (Jw eg);refine⟨a,_,rfl,SqT.of ha,rfl,_,_,rfl,_,_,rfl,rfl,?_⟩;refine⟨_,rfl,_,rfl,(by show 2<=sizeLine;decide),λD u=>⟨_,rfl,_,rfl,(by show 2<=sizeLine;decide),λt2 bl=>⟨(by show 2<=sizeLine;decide),λl5 B=>?_⟩⟩⟩;have s5:=zD u (.tup [.int (g.1:Nat),.int (g.2:Nat)]);have s6:=zD bl (.tup [.int (g.2:Nat),.int (g.1:Nat)]);have s7:=zD B (.lst [.ref D,.ref t2]);have u7:=(s5.trans s6).trans s7;have k1:FkOk _ size (.ref D):=⟨D,g,rfl,s7 _ _ (s6 _ _ (zT u _)),gk⟩;have k2:FkOk _ size (.ref t2):=⟨t2,(g.2,g.1),rfl,s7 _ _ (zT bl _),gk.2.1,gk.1,gk.2.2.symm⟩;have h5:=zT B (.lst [.ref D,.ref t2]);have S5:=S4.keep u7;have b2:=u7 _ _ h4;have p5:=p4.tups (Tups.of u7);have B5:=B4.trans (But.of (l:=l) u7);have n5:=(S4.keep (s5.trans s6)).ne B;generalize L2.upd (L2.upd (L2.upd U D (.tup [.int (g.1:Nat),.int (g.2:Nat)])) t2 (.tup [.int (g.2:Nat),.int (g.1:Nat)])) l5 (.lst [.ref D,.ref t2])=H5 at *;refine⟨_,rfl,l,2,rfl,by decide,by decide,S5,λv Y hv S6 L=>?_⟩;have t6:=L.tups3 S5
  obtain⟨x,ex,kx⟩:∃ x,[V.ref D,V.ref t2][v]?=some x/\FkOk Y size x:=by
   rcases v with _|_|v
   ·exact⟨_,rfl,k1.tups t6⟩
   ·exact⟨_,rfl,k2.tups t6⟩
   ·lia
  refine⟨l5,_,_,x,rfl,rfl,SqL.of (L l5 _ h5 n5.symm),yL ex,?_⟩;have h6:=L lc _ b2 j.symm;have p6:=p5.tups t6;obtain⟨a2,g2,rfl,b1,b3⟩:=kx;have al:=p6.len;refine⟨h6,by rw[Ju];lia,nx il ⟨⟨_,_,rfl⟩,S6.upd j,(B5.trans L).upd aE,zH,fs++[g2],Prs.add (f:=g2) (Tups.lst h6 _ _ b1) (p6.tups (Tups.lst h6)),by rw[Jb,fl];rfl,λf hf=>?_⟩⟩;rcases Jr.mp hf with z|z
  ·exact a0 f z
  ·rw[Ja.mp z];exact b3
 rintro acc σ U ⟨⟨v0,v1,rfl⟩,S4,B4,h4,fs,p4,fl,a0⟩;have b8:=W.trans B4;have a8:fs.length<=12:=by lia
 clear B4 bb J R pr W aE;refine⟨_,rfl,l,4,rfl,by decide,by decide,S4,λv H5 hv S5 B5=>?_⟩;have h5:=B5 lc _ h4 j.symm;have p5:=p4.tups (B5.tups3 S4);have b7:=b8.trans B5;refine⟨_,rfl,_,_,rfl,rfl,.inr ⟨_,rfl,_,_,rfl,rfl,.inl ⟨by lia,by lia⟩,?_⟩⟩
 have cb:((v:Int)*(if decide ((size:Int)<8)=true then 1 else 0))=((if size<8 then v else 0:Nat):Int):=by
  by_cases z:size<8
  ·rw[Jq (JC (by lia)),Jq z];lia
  ·rw[Jg (by rw[Jt (by lia)];exact Ji),Jg z];lia
 have cl:(if size<8 then v else 0)<=4:=by split<;>lia
 refine⟨_,rfl,by rw[cb];lia,by rw[cb];lia,?_⟩;rw[cb];generalize cc:(if size<8 then v else 0)=cnt at cl
 refine y0 (lo:=0) (n:=((cnt:Nat):Int).toNat) (λi σ Y=>(∃ w4 w5 w6,σ=[some (.ref l),some (.int (way:Nat)),some (.int (size:Nat)),some (.ref lc),w4,w5,w6])/\Pk3 Y l/\But l H Y/\∃ C fs,Y lc=some (.lst C)/\Prs Y C fs/\fs.length<=12+i/\∀ f∈fs,f.1<size/\f.2<size/\f.1≠f.2)
  ⟨⟨_,_,_,rfl⟩,S5,b7,acc,fs,h5,p5,a8,a0⟩ ?_ ?_
 ·rintro i σ Y hi ⟨⟨w4,w5,w6,rfl⟩,S6,L,C,fs,h6,p6,cx,a6⟩
  refine⟨_,rfl,_,rfl,l,size,rfl,by lia,by lia,S6,λone H7 ho S7 B7=>?_⟩;refine⟨_,rfl,.inl ⟨rfl,_,SqL.of (B7 lc _ h6 j.symm)⟩,_,rfl,_,rfl,_,_,rfl,rfl,_,rfl,_,rfl,_,_,rfl,rfl,l,_,rfl,by lia,by lia,S7,λd H8 hd S8 B8=>?_⟩;refine⟨_,_,rfl,rfl,_,rfl,_,_,rfl,rfl,by lia,?_⟩;have ab:one<size:=by lia
  obtain⟨ok1,ba⟩:=oO (one:=one) (d:=d) (lanes:=size) ab (by lia);have ec:((one:Int)+1+d)%size=(((one+1+d)%size:Nat):Int):=by rw[Int.natCast_emod,Int.natCast_add,Int.natCast_add];rfl
  dsimp only;rw[ec];generalize (one+1+d)%size=aT at ok1 ba;refine⟨by show 2<=sizeLine;decide,λD u=>?_⟩;have s9:=zD u (.tup [.int (one:Nat),.int (aT:Nat)]);have h8:=B8 lc _ (B7 lc _ h6 j.symm) j.symm;have h9:=s9 _ _ h8;have p8:=(p6.tups ((B7.tups3 S6).trans (B8.tups3 S7))).tups (Tups.of s9);have ck:=p8.len;refine⟨lc,C,_,rfl,rfl,h9,by rw[Ju];lia,⟨_,_,_,rfl⟩,(S8.keep s9).upd j,(((L.trans B7).trans B8).trans (But.of s9)).upd b4,C++[.ref D],fs++[(one,aT)],zH,Prs.add (f:=(one,aT)) (Tups.lst h9 _ _ (zT u _)) (p8.tups (Tups.lst h9)),by rw[Jb];show _+1<=_;lia,λf hf=>?_⟩;rcases Jr.mp hf with z|z
  ·exact a6 f z
  ·rw[Ja.mp z];exact⟨ab,ok1,ba⟩
 ·rintro σ H2 ⟨⟨w4,w5,w6,rfl⟩,T,M,C,fs,h2,p2,b5,a7⟩
  have c4:((cnt:Nat):Int).toNat=cnt:=JZ _;rw[c4]at b5;refine⟨_,rfl,size,rfl,by lia,λD u=>?_⟩;have s1:=zD u (.tup (zU (List.range size)));refine⟨_,rfl,_,rfl,size,rfl,by lia,λl2 bu=>?_⟩;have s2:=zD bu (.lst (zU (List.range size)));have u2:=s1.trans s2;refine⟨l,l2,zU (List.range size),rfl,zT bu _,by rw[zd,JR];lia,T.keep u2,λt3 ys H3 py bR J W=>?_⟩;have a4:=W D _ (s2 _ _ (zT u _)) (T.ne u).symm;have h3:=W lc _ (u2 _ _ h2) j.symm;have p3:=p2.tups ((Tups.of u2).trans (W.tups3 (T.keep u2)));have b9:=(M.trans (But.of u2)).trans W;refine⟨(by show 2<=sizeLine;decide),λl5 B=>⟨_,rfl,l,2,rfl,by decide,by decide,J.keep (zD B _),λv3 Y ct S6 L=>?_⟩⟩;have s6:=zD B (.lst [.ref D,.ref t3]);have t6:=(Tups.of s6).trans (L.tups3 (J.keep s6))
  obtain⟨x,ex,e,kx,pe⟩:∃ x,[V.ref D,V.ref t3][v3]?=some (.ref x)/\∃ es:List Nat,Y x=some (.tup (zU es))/\es.Perm (List.range size):=by
   rcases v3 with _|_|v3
   ·exact⟨_,rfl,_,t6 _ _ a4,.refl _⟩
   ·obtain⟨es,rfl,pe⟩:=rP py
    exact⟨_,rfl,es,t6 _ _ bR,pe⟩
   ·lia
  refine⟨l5,_,_,_,rfl,rfl,SqL.of (L l5 _ (zT B _) (J.ne B).symm),yL ex,?_⟩;have h6:=L lc _ (s6 _ _ h3) j.symm;have p6:=p3.tups t6;have b6:=(b9.trans (But.of s6)).trans L;refine⟨_,rfl,_,rfl,lc,_,rfl,.inl ⟨SqL.of h6,λt7 bc=>?_⟩⟩;have s7:=zD bc (.tup C);refine⟨_,rfl,(by show 3<=sizeLine;decide),λr bt=>?_⟩;have s8:=zD bt (.tup [.int (size:Nat),.ref t7,.ref x]);have u8:=s7.trans s8;exact k r t7 x C ⟨size,fs,e⟩ _ ⟨⟨by show 1<=size;lia,by show size<=16;lia,by show fs.length<=128;lia,a7,pe⟩,by show size<=8;lia,by show fs.length<=20;lia⟩ ⟨zT bt _,s8 _ _ (zT bc _),p6.tups (Tups.of u8),u8 _ _ kx⟩ (S6.keep u8) (b6.trans (But.of u8))
end
end K44
namespace K44
open PySem L2 Own Bn
abbrev mD:Stmt:=top 45
theorem iP (c:Int):c-c / 2=(c+1) / 2:=by lia
section
variable {P:Yo}{w:YI}{K:Jl}{mg:Str->Option Jo}{base:YP}
theorem gS:FnScope ["_law_net_here","_law_counts_here","_law_row","_law_a","_law_b","_law_total"] ["_law_net_here","_law_counts_here"] (zR mD):=by trivial
theorem eI {f:JI}{fd:Yl}(F:Fun K "_law_ends" "_law_ends" mD f fd) (G:Mgs mg):FnOk P w K mg base CX0 1 f fd ["_law_net_here","_law_counts_here"] uR:=by
 refine F.ok gS (λX H Q E h=>?_) (λaT A outer s H X Q E hr h=>?_)
 ·obtain⟨r,fr,S,O,N,c,cs,rfl,_⟩:=h
  rfl
 obtain⟨r,fr,S,O,N,c,cs,rfl,ok,na,Y,cl,k⟩:=h;refine⟨_,(@zE _ _ _ _ _ (@zV _ _ 2 _ _ _ _ gS.nd rfl (.inr rfl) (@zi _ _ _ _ _ _ _ _ _ yk rfl G.list rfl (@zA _ _ _ _ _ (@pvb _ 1 _ _ rfl) zC rfl) (by decide) (by decide) rfl rfl) rfl (by trivial)) (@zE _ _ _ _ _ (@yo _ _ _ _ _ _ _ _ JP rfl (@wO _ _ _ _ (@zX _ _ _ _ _ _ _ yA (@pvb _ 0 _ _ rfl) zG (λ_ _=>rfl))) (@yN _ _ _ _ _ _ rfl (@zP _ _ _ _ _ (@zN _ _ 3 _ gS.nd rfl (.inl rfl) (by trivial)) (@zP _ _ _ _ _ (@zN _ _ 4 _ gS.nd rfl (.inl rfl) (by trivial)) zu rfl) rfl) rfl rfl) (@zE _ _ _ _ _ (@zV _ _ 5 _ _ _ _ gS.nd rfl (.inl rfl) (@zS _ _ _ _ _ _ _ _ yQ (@zX _ _ _ _ _ _ _ zZ (@pvb _ 2 _ _ rfl) (@pvb _ 3 _ _ rfl) (λ_ _=>rfl)) (@zX _ _ _ _ _ _ _ zZ (@pvb _ 2 _ _ rfl) (@pvb _ 4 _ _ rfl) (λ_ _=>rfl))) rfl (by trivial)) (@zE _ _ _ _ _ (@yM _ _ _ _ _ _ (@zS _ _ _ _ _ _ _ _ xW (@pvb _ 5 _ _ rfl) (@zS _ _ _ _ _ _ _ _ xh (@pvb _ 5 _ _ rfl) zG)) (@xK _ _ _ _ _ _ _ (@pvb _ 2 _ _ rfl) (@pvb _ 3 _ _ rfl) yb (by intro _;rfl)) rfl rfl rfl) (@zM _ _ _ (@yM _ _ _ _ _ _ (@zS _ _ _ _ _ _ _ _ xh (@pvb _ 5 _ _ rfl) zG) (@xK _ _ _ _ _ _ _ (@pvb _ 2 _ _ rfl) (@pvb _ 4 _ _ rfl) yb (by intro _;rfl)) rfl rfl rfl)))) (by intro _;rfl)) (@zM _ _ _ (@zW _ _ _ _ (@zi _ _ _ _ _ _ _ _ _ zo rfl G.tuple rfl (@zA _ _ _ _ _ (@oI _ _ _ _ none _ _ _ _ _ _ ["_law_lane","_law_row"] [none,some 2] rfl (@wO _ _ _ _ (@zX _ _ _ _ _ _ _ yA (@pvb _ 0 _ _ rfl) zG (λ_ _=>rfl))) (CapOk.of (by kernel_rfl)) (λ_ _ _ _ _=>(@zN _ _ 0 _ (show (["_law_lane","_law_row"]:List Str).Nodup from by decide +kernel) rfl (.inl rfl) (.inr rfl))) (λ_ _ _ _ _=>x5) (λ_ _ _ _ _=>(@zX _ _ _ _ _ _ (jS K) zZ (@pvb _ 1 _ _ rfl) (@pvb _ 0 _ _ rfl) (λ_ _=>rfl))) (by intro _;rfl)) zC rfl) (by decide) (by decide) rfl rfl))))),?_⟩;refine zB ⟨c,_,rfl,.inr (SqT.of Y),λlo j=>?_⟩;have M:=zD j (.lst (cs.map V.int));refine zB ⟨r,_,_,_,rfl,rfl,SqT.of (M _ _ na.net),rfl,fr,rfl,⟨_,SqT.of (M _ _ na.forks)⟩,?_⟩;refine uF (K:=K) (a:=fr) (xs:=O) (λi σ n=>(∃ L J I,σ=[some (.ref r),some (.ref c),some (.ref lo),L,J,I])/\Same H n/\n lo=some (.lst ((zw (N.forks.take i) cs).1.map V.int))) ⟨⟨_,_,_,rfl⟩,M,zH⟩ (λi σ n _ q=>SqT.of (q.2.1 _ _ na.forks)) ?_ ?_
 ·rintro i p σ n R ⟨⟨L,J,I,rfl⟩,d,m⟩
  obtain⟨a,g,rfl,U,Z⟩:=(na.prs.tups (Tups.of d)).get R;have ab:=ok.fk g (Jw U);have fl:(zw (N.forks.take i) cs).1.length=N.lanes:=by rw[xF,cl]
  have fx:=xC U cs;generalize zw (N.forks.take i) cs=st at *;refine⟨a,_,rfl,SqT.of Z,rfl,_,_,rfl,_,_,rfl,rfl,?_⟩;refine zB (zB ⟨lo,_,_,_,rfl,rfl,SqL.of m,xI (by lia),_,rfl,_,rfl,lo,_,_,_,rfl,rfl,SqL.of m,xI (by lia),_,_,rfl,rfl,?_⟩);refine zB (zB ⟨_,_,rfl,rfl,⟨by decide,by decide⟩,_,_,rfl,rfl,?_⟩);refine zB (zB ⟨lo,_,_,g.1,rfl,rfl,m,wn (by rw[Jc];lia),?_⟩);refine zB ⟨_,_,rfl,rfl,⟨by decide,by decide⟩,_,rfl,_,rfl,lo,_,_,g.2,rfl,rfl,zH,wn (by rw[YG,Jc];lia),⟨_,_,_,rfl⟩,λb o e=>?_,?_⟩
  ·rw[zK (zJ e j),zK (zJ e j)];exact d b o e
  ·rw[zH,fx]
   dsimp only;rw[iP];unfold yJ;rw[xP,xP]
 ·rintro σ n ⟨⟨L,J,I,rfl⟩,d,m⟩
  have e:N.forks.take O.length=N.forks:=by rw[na.prs.len];exact JV
  rw[e]at m;have fl:(zw N.forks cs).1.length=N.lanes:=by rw[xF,cl]
  have el:N.ends.length=N.lanes:=by rw[ok.en.length_eq,JR]
  have aE:=ok.l16;refine zB ⟨r,_,_,_,rfl,rfl,SqT.of (d _ _ na.net),rfl,S,rfl,⟨_,SqT.of (d _ _ na.ends)⟩,λl T=>?_⟩;refine pE (K:=K) (a:=S) (xs:=zU N.ends) (λi acc σ u=>(∃ v,σ=[v,some (.ref lo)])/\Same n u/\u l=some (.lst acc)/\acc=((N.ends.take i).map λe=>(zw N.forks cs).1.getD e 0).map V.int) ⟨⟨_,rfl⟩,zD T _,zH,rfl⟩ (λi acc σ u z=>⟨z.2.2.1,SqT.of (z.2.1 _ _ (d _ _ na.ends))⟩) ?_ ?_
  ·rintro i x acc σ u C ⟨⟨v,rfl⟩,y,D,t⟩
   have B:i<N.ends.length:=by have:=(Jd.mp C).1;rwa [zd]at this
   have ex:x=.int N.ends[i]:=by
    unfold zU at C;rw[JF,J2 B]at C;exact(Jj C).symm
   subst ex;have W:N.ends[i]<N.lanes:=Yd.mp (ok.en.mem_iff.mp (JA B));refine zB (zB ⟨lo,_,_,_,rfl,rfl,SqL.of (y _ _ m),xI (by lia),D,?_,nx (by rw[zd];exact B) ⟨⟨_,rfl⟩,λb o e=>?_,zH,?_⟩⟩)
   ·rw[t,Jc,Jc,Js,Ju];lia
   ·rw[zK (zJ e T)];exact y b o e
   ·rw[t,Yw B,JG,JG];rfl
  rintro acc σ u ⟨⟨v,rfl⟩,y,D,t⟩;rw[zd,JV]at t;rw[t]at D;exact⟨l,_,rfl,.inl ⟨SqL.of D,λp R=>k p _ ((d.trans y).trans (zD R _)) zH⟩⟩
abbrev gf:Stmt:=top 46
theorem dg (x:Nat)(a:List Nat):inV (.int (x:Nat)) (zU a)=decide (x∈a):=by
 rw[Yf,decide_eq_true_iff];unfold inV zU;rw[List.any_map,List.any_eq_true];constructor
 ·rintro⟨y,b,e⟩
  have z:((y:Nat):Int)=(x:Nat):=by simpa [eqV] using e
  have:y=x:=by lia
  exact this ▸ b
 ·intro h
  exact⟨x,h,by simp[eqV]⟩
theorem iS (a:List Nat):(zU a).all uG=true:=YV.mpr λx b=>by
 obtain⟨m,_,rfl⟩:=Jn.mp b;rfl
def nk:Sp:=λa H Q _=>∃ l r fr d b N p moves,a=[.ref l,.ref r,.ref p]/\Pk3 H l/\Nt.Ok N/\NetAt H r fr d b N/\H p=some (.tup (zU moves))/\∀ c (cs:List Int) H',cs.length=N.lanes->(∀ i,i<N.lanes->i∉moves->cs.getD i 0=0)->(∀ x∈cs,x.natAbs<=10 ^ 29)->H' c=some (.tup (cs.map V.int))->Pk3 H' l->But l H H'->Q (.ref c) H'
theorem gT:FnScope ["_law_left_here","_law_net_here","_law_some_here","_law_found","_law_lane","_law_far","_law_number"] ["_law_left_here","_law_net_here","_law_some_here"] (zR gf):=by trivial
theorem bQ {f fK:JI}{fd dK:Yl}(F:Fun K "_law_counts" "_law_counts" gf f fd) (G:Mgs mg) (v:Use P w K mg base "_law_pick" ["_law_left_here","_law_many"] 1 xN fK dK):FnOk P w K mg base CX0 2 f fd ["_law_left_here","_law_net_here","_law_some_here"] nk:=by
 refine F.ok gT (λvs H Q E h=>?_) (λbu A outer s H vs Q E hr h=>?_)
 ·obtain⟨l,r,fr,er,ps,N,p,moves,rfl,_⟩:=h
  rfl
 obtain⟨l,r,fr,er,ps,N,p,moves,rfl,S,ok,na,hp,k⟩:=h;have d:Room 1 _:=hr.mono (by decide);have a8:=ok.l16;refine⟨_,(@zE _ _ _ _ _ (@zV _ _ 3 _ _ _ _ gT.nd rfl (.inl rfl) (@zr _ _ _ _ zC) rfl (by trivial)) (@zE _ _ _ _ _ (@yo _ _ _ _ _ _ _ _ JP rfl (@yc _ _ _ _ _ _ rfl G.range (@zA _ _ _ _ _ (@zX _ _ _ _ _ _ _ yA (@pvb _ 1 _ _ rfl) zG (λ_ _=>rfl)) zC rfl) rfl) (@zN _ _ 4 _ gT.nd rfl (.inl rfl) (by trivial)) (@zE _ _ _ _ _ (@zV _ _ 5 _ _ _ _ gT.nd rfl (.inl rfl) (@zX _ _ _ _ _ _ _ zZ (@zr _ _ _ _ (@zA _ _ _ _ _ (@zS _ _ _ _ _ _ _ _ xL (@zQ _ _ _ _ _ _ _ _ _ _ _ _ v d (@zA _ _ _ _ _ (@pvb _ 0 _ _ rfl) (@zA _ _ _ _ _ (@zS _ _ _ _ _ _ _ _ uU zG zG) zC rfl) rfl) rfl rfl rfl rfl) (@zS _ _ _ _ _ _ _ _ uU zG zG)) (@zA _ _ _ _ _ (@zS _ _ _ _ _ _ _ _ yQ (@zS _ _ _ _ _ _ _ _ uU zG zG) (@zQ _ _ _ _ _ _ _ _ _ _ _ _ v d (@zA _ _ _ _ _ (@pvb _ 0 _ _ rfl) (@zA _ _ _ _ _ zG zC rfl) rfl) rfl rfl rfl rfl)) (@zA _ _ _ _ _ zG zC rfl) rfl) rfl)) (@zQ _ _ _ _ _ _ _ _ _ _ _ _ v d (@zA _ _ _ _ _ (@pvb _ 0 _ _ rfl) (@zA _ _ _ _ _ zG zC rfl) rfl) rfl rfl rfl rfl) (λ_ _=>rfl)) rfl (by trivial)) (@zE _ _ _ _ _ (@zV _ _ 6 _ _ _ _ gT.nd rfl (.inl rfl) (@zS _ _ _ _ _ _ _ _ xL (@zX _ _ _ _ _ _ _ zZ (@zr _ _ _ _ (@zA _ _ _ _ _ zG (@zA _ _ _ _ _ (@zQ _ _ _ _ _ _ _ _ _ _ _ _ v d (@zA _ _ _ _ _ (@pvb _ 0 _ _ rfl) (@zA _ _ _ _ _ zG zC rfl) rfl) rfl rfl rfl rfl) (@zA _ _ _ _ _ (@zQ _ _ _ _ _ _ _ _ _ _ _ _ v d (@zA _ _ _ _ _ (@pvb _ 0 _ _ rfl) (@zA _ _ _ _ _ zG zC rfl) rfl) rfl rfl rfl rfl) (@zA _ _ _ _ _ (@pvb _ 5 _ _ rfl) zC rfl) rfl) rfl) rfl)) (@zQ _ _ _ _ _ _ _ _ _ _ _ _ v d (@zA _ _ _ _ _ (@pvb _ 0 _ _ rfl) (@zA _ _ _ _ _ zG zC rfl) rfl) rfl rfl rfl rfl) (λ_ _=>rfl)) (@zX _ _ _ _ _ _ _ zZ (@zr _ _ _ _ (@zA _ _ _ _ _ zG (@zA _ _ _ _ _ zG (@zA _ _ _ _ _ (@fg _ _ _ _ _ _ nO zG) zC rfl) rfl) rfl)) (@zQ _ _ _ _ _ _ _ _ _ _ _ _ v d (@zA _ _ _ _ _ (@pvb _ 0 _ _ rfl) (@zA _ _ _ _ _ zG zC rfl) rfl) rfl rfl rfl rfl) (λ_ _=>rfl))) rfl (by trivial)) (@zM _ _ _ (@y7 _ _ _ _ (@wR _ _ _ _ _ _ _ _ _ _ _ _ JW Y9 Ya yd (@pvb _ 3 _ _ rfl) (@zA _ _ _ _ _ (@zS _ _ _ _ _ _ _ _ xL (@pvb _ 6 _ _ rfl) (@zi _ _ _ _ _ _ _ _ _ wL rfl G.int rfl (@zA _ _ _ _ _ (@vC _ _ _ _ _ _ _ _ rS (@pvb _ 4 _ _ rfl) (@pvb _ 2 _ _ rfl) rfl) zC rfl) (by decide) (by decide) rfl rfl)) zC rfl) rfl rfl rfl rfl rfl) rfl)))) (by intro _;rfl)) (@zM _ _ _ (@zW _ _ _ _ (@zi _ _ _ _ _ _ _ _ _ zo rfl G.tuple rfl (@zA _ _ _ _ _ (@pvb _ 3 _ _ rfl) zC rfl) (by decide) (by decide) rfl rfl))))),?_⟩;refine⟨(by show 0<=sizeLine;decide),λlf m=>?_⟩;have c:=S.ne m;have sf:=zD m (.lst []);have a3:Frs l H lf:=λb o e _=>zJ e m;refine zB ⟨r,_,_,_,rfl,rfl,SqT.of (sf _ _ na.net),rfl,_,rfl,by lia,by lia,?_⟩;refine y0 (lo:=0) (n:=((N.lanes:Nat):Int).toNat) (λi σ y=>(∃ X W U,σ=[some (.ref l),some (.ref r),some (.ref p),some (.ref lf),X,W,U])/\Pk3 y l/\But l H y/\∃ cs:List Int,y lf=some (.lst (cs.map V.int))/\cs.length=i/\(∀ j,j<i->j∉moves->cs.getD j 0=0)/\∀ x∈cs,x.natAbs<=10 ^ 29) ⟨⟨_,_,_,rfl⟩,S.keep sf,But.of sf,[],zT m _,rfl,λj hj=>absurd hj (ZB _),λx hx=>(nomatch hx)⟩ ?_ ?_
 ·rintro i σ y hi ⟨⟨X,W,U,rfl⟩,M,T,cs,J,cl,L,cb⟩
  dsimp only[xT];refine zz (λD1 a0=>?_);refine zB ⟨_,_,rfl,rfl,⟨by decide,by decide,by decide⟩,l,_,rfl,by decide,by decide,M,λv1 H3 ab S3 B3=>?_⟩;have e6:(10:Int) ^ Int.toNat 6=1000000:=by decide
  rw[e6]at ab;refine⟨_,_,rfl,rfl,⟨by decide,by decide,by decide⟩,_,_,rfl,rfl,.inl ⟨by lia,by lia⟩,?_⟩;refine⟨_,_,rfl,rfl,⟨by decide,by decide,by decide⟩,_,rfl,l,3,rfl,by decide,by decide,S3,λv2 H4 bt S4 B4=>⟨_,_,rfl,rfl,(by show 3<=sizeLine;decide),λt a=>?_⟩⟩;have I:=zD a (.lst [.int ((v1:Nat)*10 ^ Int.toNat 23),.int (2 ^ Int.toNat 20+(v2:Nat)),.int 64]);refine zB ⟨l,3,rfl,by decide,by decide,S4.keep I,λv3 H5 bl S5 R=>?_⟩
  obtain⟨g,ef,fb⟩:∃ g,[V.int ((v1:Nat)*10 ^ Int.toNat 23),V.int (2 ^ Int.toNat 20+(v2:Nat)),V.int 64][v3]?=some (.int g)/\g.natAbs<=10 ^ 29:=by
   have a4:(10:Int) ^ Int.toNat 23=100000000000000000000000:=by decide
   have a5:(2:Int) ^ Int.toNat 20=1048576:=by decide
   have q:(10:Nat) ^ 29=100000000000000000000000000000:=by decide
   rcases v3 with _|_|_|v3
   ·refine zY rfl ?_;rw[a4,q];lia
   ·refine zY rfl ?_;rw[a5,q];lia
   ·refine zY rfl ?_;rw[q];decide
   ·lia
  refine⟨t,_,_,_,rfl,rfl,SqL.of (R t _ (zT a _) (S4.ne a).symm),yL ef,a0 _ _ ?_⟩;refine zz (λD2 aT=>?_);have C:But l H H5:=(((T.trans B3).trans B4).trans (But.of I)).trans R;have h5:=R lf _ (I _ _ (B4 lf _ (B3 lf _ J c.symm) c.symm)) c.symm;clear J T B3 B4 R M S3 S4 I a ef;refine zB ⟨l,3,rfl,by decide,by decide,S5,λv4 H6 bc S6 B6=>?_⟩;refine zB ⟨l,40,rfl,by decide,by decide,S6,λv5 H7 bb S7 B7=>?_⟩;refine zB ⟨(by show 4<=sizeLine;decide),λt a=>?_⟩;have D:=zD a (.lst [.int 0,.int (v4:Nat),.int (v5:Nat),.int g]);refine zB ⟨l,4,rfl,by decide,by decide,S7.keep D,λZ H8 ba S8 O=>?_⟩
  obtain⟨nb,en,a7⟩:∃ nb,[V.int 0,V.int (v4:Nat),V.int (v5:Nat),V.int g][Z]?=some (.int nb)/\nb.natAbs<=10 ^ 29:=by
   have q:(40:Nat)<=10 ^ 29:=by decide
   rcases Z with _|_|_|_|Z
   ·exact zY rfl (JM _)
   ·exact zY rfl (by lia)
   ·exact zY rfl (by lia)
   ·exact zY rfl fb
   ·lia
  refine⟨t,_,_,_,rfl,rfl,SqL.of (O t _ (zT a _) (S7.ne a).symm),yL en,?_⟩;have a6:But l H H8:=(((C.trans B6).trans B7).trans (But.of D)).trans O;have h8:=O lf _ (D _ _ (B7 lf _ (B6 lf _ h5 c.symm) c.symm)) c.symm;clear h5 C B6 B7 O S5 S6 S7 D a en;refine zY rfl ⟨(by show 3<=sizeLine;decide),λt a=>?_⟩;have s9:=zD a (.lst [.int 1,.int 1,.int (-1)]);refine zB ⟨l,3,rfl,by decide,by decide,S8.keep s9,λY H9 a9 S9 B9=>?_⟩
  obtain⟨u,es,sl⟩:∃ u,[V.int 1,V.int 1,V.int (-1)][Y]?=some (.int u)/\-2<u/\u<2:=by
   rcases Y with _|_|_|Y
   ·exact zY rfl ⟨by decide,by decide⟩
   ·exact zY rfl ⟨by decide,by decide⟩
   ·exact zY rfl ⟨by decide,by decide⟩
   ·lia
  refine⟨t,_,_,_,rfl,rfl,SqL.of (B9 t _ (zT a _) (S8.ne a).symm),yL es,_,_,rfl,rfl,.inr ⟨by lia,by lia⟩,aT _ _ ?_⟩;have B:But l H H9:=(a6.trans (But.of s9)).trans B9;have h9:=B9 lf _ (s9 _ _ h8) c.symm;have aE:=B.tups3 S _ _ hp;have e0:(0:Int)+((i:Nat):Int)=((i:Nat):Int):=Int.zero_add _;refine zB ⟨.inl ⟨rfl,_,SqL.of h9⟩,_,rfl,_,rfl,_,rfl,p,_,rfl,.inr (SqT.of aE),rfl,iS moves,.inr (zY rfl ⟨_,_,rfl,rfl,.inr ?_,lf,_,_,rfl,rfl,h9,?_,⟨_,_,_,rfl⟩,S9.upd c,B.upd a3,cs++[nb*u*(if i∈moves then 1 else 0)],?_,by rw[Jb,cl];rfl,λj hj no=>?_,λx hx=>?_⟩)⟩
  ·split<;>lia
  ·rw[Jc,Ju];lia
  ·rw[e0,dg,zH,JG]
   by_cases z:i∈moves
   ·rw[Jq z,JC z];rfl
   ·rw[Jg z,Jt z];rfl
  ·by_cases z:j<i
   ·rw[J8,Yn (by lia),<- J8];exact L j z no
   ·have:j=i:=by lia
    subst this;rw[J8,Yv (by lia),cl,Nat.sub_self,Jg no,Int.mul_zero];rfl
  ·rcases Jr.mp hx with z|z
   ·exact cb x z
   ·rw[Ja.mp z]
    rcases (by lia:u = -1\/u=0\/u=1) with rfl|rfl|rfl<;>split<;>lia
 ·rintro σ y ⟨⟨X,W,U,rfl⟩,M,T,cs,J,cl,L,cb⟩
  rw[JZ]at cl L;refine zB ⟨lf,_,rfl,.inl ⟨SqL.of J,λt a=>?_⟩⟩;exact k t cs _ cl L cb (zT a _) (M.keep (zD a _)) (T.trans (But.of (zD a _)))
end
theorem j9:∀ way,way<3->way≠1->∀ k,k<3->aP (yt way k) (List.range (2 ^ k))=true:=by decide +kernel
theorem eX:∀ way,way<3->way≠1->∀ k,k<3->zbt (xq (yt way k) (List.range (2 ^ k)) 1500) (if k=0 then 0 else 1)=true:=by decide +kernel
end K44
namespace L2
open PySem PySem.Spec PyProof.Rows
theorem zaJ {K:Jl}{C:JI}{cd:ClassData}(e:PySem.W.clsIn K C=some cd):∃ a b c,K.lookup C=some ⟨a,b,.cls cd,c⟩:=by
 unfold PySem.W.clsIn at e;split at e
 ·rename_i a b f c d
  obtain rfl:=Jj e;exact⟨a,b,c,d⟩
 ·cases e
end L2
namespace Bn
open PySem L2 Own
def zb4 (N:Nt)(j:Nat):Nat:=if j<N.forks.length then 2*(N.forks.length-1-j)+N.lanes else 0
def cf (cs:List Int):Nat->Int:=λl=>cs.getD l 0
end Bn
namespace L2
open PySem
section
variable {K:Jl}{C D:JI}{cd:ClassData}{b:Bool}
theorem lG (c:PySem.W.clsIn K D=some cd) (t:PySem.W.typeIn K (.ref D)=some (.type "type")) (s:PySem.W.mroIn K C (.ref D)=some b):PySem.W.kitCls K (.ref C) (.ref D)=some b:=by
 simp only[PySem.W.kitCls,c,t];exact(Jq rfl).trans s
theorem bx (z:PySem.W.mroIn K D (.type "BaseException")=some true) (c:PySem.W.clsIn K D=some cd) (t:PySem.W.typeIn K (.ref D)=some (.type "type")) (s:PySem.W.mroIn K C (.ref D)=some b):PySem.W.exmOne K (.ref C) (.ref D)=some b:=by
 unfold PySem.W.exmOne;rw[show PySem.W.subIn K (.ref D) (.type "BaseException")=some true from z];exact(Jq rfl).trans (lG c t s)
theorem kK {N:JI}{o:Obj}(l:K.lookup N=some o)(h:PySem.W.nsOkIn [(N,o)] N=true):PySem.W.nsOkIn K N=true:=by
 have e:K.lookup N=List.lookup N [(N,o)]:=by rw[l];simp[List.lookup]
 unfold PySem.W.nsOkIn at h ⊢;rw[e];exact h
theorem gB (c:PySem.W.clsIn K D=some cd) (o:PySem.W.nsOkIn K cd.ns=true) (i:PySem.W.nsIn K cd.ns "__init__" = some none):PySem.W.tailIn K bmV (.ref D::bmV)=true:=by
 obtain⟨x,y,z,l⟩:=zaJ c;have t:PySem.W.tailIn K bmV bmV=true:=rfl;rw[PySem.W.tailIn,l];dsimp only;rw[o,i,t];exact Bool.or_true _
end
end L2
namespace K44
open PySem L2 Own Bn
abbrev ar:Stmt:=top 49
def lZ (K:Jl)(Pt:JI):Sp:=λb H Q _=>∃ (a:JI) (ns:List Int),b=[.ref a]/\SqL K H a (ns.map V.int)/\ns.length<=63/\H Pt=some (.tbl #[])/\∀ c,Q (.bl true) c
def Scr (K:Jl)(a:JI)(xs:List V)(H:Hp):Prop:=H a=some (.lst xs)\/(∃ o,H a=some (.frz o (.lst xs)))\/∀ b,SqL K b a xs
theorem Scr.of {K:Jl}{a:JI}{xs:List V}{H:Hp}(h:SqL K H a xs):Scr K a xs H:=by
 rcases h with (h|h)|h
 ·exact .inl h
 ·exact .inr (.inl h)
 ·exact .inr (.inr λb=>.inr h)
theorem Scr.sq {K:Jl}{a:JI}{xs:List V}{H:Hp}(h:Scr K a xs H):SqL K H a xs:=by
 rcases h with h|h|h
 ·exact .inl (.inl h)
 ·exact .inl (.inr h)
 ·exact h H
theorem Scr.keep {K:Jl}{a:JI}{xs:List V}{H H':Hp}(h:Scr K a xs H)(k:∀ o,H a=some o->(o=.lst xs\/∃ u,o=.frz u (.lst xs))->(∀ H',SqL K H' a xs)\/H' a=some o):Scr K a xs H':=by
 rcases h with h|⟨o,h⟩|h
 ·rcases k _ h (.inl rfl) with z|z
  ·exact .inr (.inr z)
  ·exact .inl z
 ·rcases k _ h (.inr ⟨o,rfl⟩) with z|z
  ·exact .inr (.inr z)
  ·exact .inr (.inl ⟨o,z⟩)
 ·exact .inr (.inr h)
structure LE (K:Jl) (a l Pt:JI) (xs:List V) (H:Hp):Prop where
 S:Pk3 H l
 tab:TabQ qR Pt H
 scr:Scr K a xs H
 al:a≠l\/∀ H',SqL K H' a xs
section
variable {K:Jl}{a l Pt:JI}{xs:List V}{H H':Hp}
theorem LE.same (h:LE K a l Pt xs H)(s:Same H H'):LE K a l Pt xs H':=⟨h.S.keep s,h.tab.same s,h.scr.keep λo e _=>.inr (s _ _ e),h.al⟩
theorem LE.pick (h:LE K a l Pt xs H)(d:Pk3 H' l)(b:But l H H'):LE K a l Pt xs H':=by
 obtain⟨f,c⟩:=h.S.lst;refine⟨d,h.tab.but b c,h.scr.keep λo e _=>?_,h.al⟩;rcases h.al with z|z
 ·exact .inr (b _ _ e z)
 ·exact .inl z
theorem LE.ver (h:LE K a l Pt xs H)(t:TabQ qR Pt H')(b:But Pt H H'):LE K a l Pt xs H':=by
 obtain⟨ls,f,_⟩:=h.tab;obtain⟨x,y,z,d,r⟩:=h.S.ex;refine⟨⟨x,y,z,b _ _ d (x8 d f λq=>by cases q),r⟩,t,h.scr.keep λo e c=>.inr (b _ _ e λq=>?_),h.al⟩;rw[q,f]at e;cases e;rcases c with c|⟨u,c⟩<;>cases c
theorem uy {q:Str}(t:TabQ q Pt H)(b:But Pt H H'):Tups H H':=λc d e=>by
 obtain⟨ls,a,_⟩:=t;exact b _ _ e (x8 e a λq=>by cases q)
end
theorem Lns.len {lanes:Nat}{moves:List Nat}(h:Lns lanes moves):moves.length<=lanes:=by
 have:=uq (l:=moves) (ks:=List.range lanes) (h.up.imp λz=>Jx z) λx a=>Yd.mpr (h.lt x a)
 rwa [JR]at this
theorem kJ {xs:List Nat}{v:Nat}(h:v<xs.length):(zU xs)[v]?=some (.int (xs[v]:Nat)):=by
 unfold zU;rw[JF,J2 h];rfl
theorem cS {N:Nt}{d:Nat}(h:IsTop N d):d<=N.forks.length:=by
 rcases Jp.mp h.2 with z|z
 ·have:(d:Int)=0:=z
  lia
 ·exact Int.ofNat_le.mp (iF _ z)
theorem zaf {d:Nat}(h:d<=60):(2 ^ Int.toNat 60:Int)=pw (60-d)*pw d:=by
 unfold pw;rw[<- Int.natCast_mul,<- Nat.pow_add,show 60-d+d=60 by lia];rfl
section
variable {P:Yo}{w:YI}{K:Jl}{mg:Str->Option Jo}{base:YP}
theorem vo:FnScope ["_law_script","_law_k","_law_left_here","_law_net_here","_law_some_here","_law_told_here","_law_turn","_law_counts_here","_law_ends_here","_law_lane","_law_times","_law_more","_law_further","_law_fewer","_law_stairs_net"] ["_law_script"] (zR ar):=by trivial
theorem zap {f fL fV fS fT fC fE fK fM Pt:JI}{fd dL dV dS dT dC dE dK dM:Yl}(F:Fun K "law" "law" ar f fd) (G:Mgs mg) (UL:Use P w K mg base "_law_left" ["_law_script","_law_k"] 1 (qQ K) fL dL) (UV:Use P w K mg base "_law_evened" ["_law_left_here"] 13 gM fV dV) (US:Use P w K mg base "_law_some" ["_law_left_here","_law_net_here"] 2 qO fS dS) (UT:Use P w K mg base "_law_told" ["_law_net_here","_law_some_here"] 9 (nZ qR Pt) fT dT)
  (UC:Use P w K mg base "_law_counts" ["_law_left_here","_law_net_here","_law_some_here"] 2 nk fC dC) (UE:Use P w K mg base "_law_ends" ["_law_net_here","_law_counts_here"] 1 uR fE dE) (UK:Use P w K mg base "_law_pick" ["_law_left_here","_law_many"] 1 xN fK dK) (UM:Use P w K mg base "_law_made" ["_law_way","_law_k"] 11 tL fM dM):FnOk P w K mg base CX0 14 f fd ["_law_script"] (lZ K Pt):=by
 refine F.ok vo (λvs H Q E h=>?_) (λfv A outer s H vs Q E hr h=>?_)
 ·obtain⟨a,ns,rfl,_⟩:=h
  rfl
 obtain⟨a,ns,rfl,hS,e0,ez,k⟩:=h;have tab:TabQ qR Pt H:=⟨[],ez,λp hp=>absurd hp Jm⟩;have J:Room 1 _:=hr.mono (by decide);have dF:Room 2 _:=hr.mono (by decide);have cn:Room 9 _:=hr.mono (by decide);have dd:Room 11 _:=hr.mono (by decide);refine⟨_,(@zE _ _ _ _ _ (@yo _ _ _ _ _ _ _ _ JP rfl (@yc _ _ _ _ _ _ rfl G.range (@zA _ _ _ _ _ (@zc _ _ _ _ _ _ _ _ _ (qH rfl) rfl G.max rfl (@zA _ _ _ _ _ zG (@zA _ _ _ _ _ (@zc _ _ _ _ _ _ _ _ _ (iq rfl) rfl G.min rfl (@zA _ _ _ _ _ (@zc _ _ _ _ _ _ _ _ _ zk rfl G.len JY (@zA _ _ _ _ _ (@pvb _ 0 _ _ rfl) zC rfl) (by decide) (by decide) rfl rfl) (@zA _ _ _ _ _ zG zC rfl) rfl) (by decide) (by decide) rfl rfl) zC rfl) rfl) (by decide) (by decide) rfl rfl) zC rfl) rfl) (@zN _ _ 1 _ vo.nd rfl (.inl rfl) (by trivial)) (@zE _ _ _ _ _ (@zV _ _ 2 _ _ _ _ vo.nd rfl (.inl rfl) (@zQ _ _ _ _ _ _ _ _ _ _ _ _ UL J (@zA _ _ _ _ _ (@pvb _ 0 _ _ rfl) (@zA _ _ _ _ _ (@pvb _ 1 _ _ rfl) zC rfl) rfl) rfl rfl rfl rfl) rfl (by trivial)) (@zE _ _ _ _ _ (@zV _ _ 3 _ _ _ _ vo.nd rfl (.inl rfl) (@zQ _ _ _ _ _ _ _ _ _ _ _ _ UV hr (@zA _ _ _ _ _ (@pvb _ 2 _ _ rfl) zC rfl) rfl rfl rfl rfl) rfl (by trivial)) (@zE _ _ _ _ _ (@zV _ _ 4 _ _ _ _ vo.nd rfl (.inl rfl) (@zQ _ _ _ _ _ _ _ _ _ _ _ _ US dF (@zA _ _ _ _ _ (@pvb _ 2 _ _ rfl) (@zA _ _ _ _ _ (@pvb _ 3 _ _ rfl) zC rfl) rfl) rfl rfl rfl rfl) rfl (by trivial)) (@zE _ _ _ _ _ (@zV _ _ 5 _ _ _ _ vo.nd rfl (.inl rfl) (@zQ _ _ _ _ _ _ _ _ _ _ _ _ UT cn (@zA _ _ _ _ _ (@pvb _ 3 _ _ rfl) (@zA _ _ _ _ _ (@pvb _ 4 _ _ rfl) zC rfl) rfl) rfl rfl rfl rfl) rfl (by trivial)) (@zE _ _ _ _ _ (@yV _ _ _ _ _ _ _ _ (@zq _ _ _ _ _ _ _ _ xu (@zX _ _ _ _ _ _ _ yA (@pvb _ 5 _ _ rfl) zG (λ_ _=>rfl)) wA (yI _)) (@zE _ _ _ _ _ (@yo _ _ _ _ _ _ _ _ JP rfl (@yc _ _ _ _ _ _ rfl G.range (@zA _ _ _ _ _ zG zC rfl) rfl) (@zN _ _ 6 _ vo.nd rfl (.inl rfl) (by trivial)) (@zE _ _ _ _ _ (@zV _ _ 7 _ _ _ _ vo.nd rfl (.inl rfl) (@zQ _ _ _ _ _ _ _ _ _ _ _ _ UC dF (@zA _ _ _ _ _ (@pvb _ 2 _ _ rfl) (@zA _ _ _ _ _ (@pvb _ 3 _ _ rfl) (@zA _ _ _ _ _ (@pvb _ 4 _ _ rfl) zC rfl) rfl) rfl) rfl rfl rfl rfl) rfl (by trivial)) (@zE _ _ _ _ _ (@zV _ _ 8 _ _ _ _ vo.nd rfl (.inl rfl) (@zQ _ _ _ _ _ _ _ _ _ _ _ _ UE J (@zA _ _ _ _ _ (@pvb _ 3 _ _ rfl) (@zA _ _ _ _ _ (@pvb _ 7 _ _ rfl) zC rfl) rfl) rfl rfl rfl rfl) rfl (by trivial)) (@zE _ _ _ _ _ (@yV _ _ _ _ _ _ _ _ (@zq _ _ _ _ _ _ _ _ sF (@zS _ _ _ _ _ _ _ _ xW (@zc _ _ _ _ _ _ _ _ _ (vK rfl false) rfl G.max rfl (@zA _ _ _ _ _ (@pvb _ 8 _ _ rfl) zC rfl) (by decide) (by decide) rfl rfl) (@zc _ _ _ _ _ _ _ _ _ (vJ rfl false) rfl G.min rfl (@zA _ _ _ _ _ (@pvb _ 8 _ _ rfl) zC rfl) (by decide) (by decide) rfl rfl)) (@zX _ _ _ _ _ _ _ yA (@pvb _ 5 _ _ rfl) zG (λ_ _=>rfl)) (yI _)) (@zM _ _ _ (@zW _ _ _ _ rQ)) zx) (@zE _ _ _ _ _ (@qk _ _ 9 10 _ _ _ _ _ _ _ _ _ _ _ rfl vo.nd rfl rfl (by decide) rfl rfl (@zA _ _ _ _ _ (@zX _ _ _ _ _ _ _ yA (@pvb _ 4 _ _ rfl) (@zQ _ _ _ _ _ _ _ _ _ _ _ _ UK J (@zA _ _ _ _ _ (@pvb _ 2 _ _ rfl) (@zA _ _ _ _ _ (@zc _ _ _ _ _ _ _ _ _ zk rfl G.len JY (@zA _ _ _ _ _ (@pvb _ 4 _ _ rfl) zC rfl) (by decide) (by decide) rfl rfl) zC rfl) rfl) rfl rfl rfl rfl) (λ_ _=>rfl)) (@zA _ _ _ _ _ (@zS _ _ _ _ _ _ _ _ xW (@zQ _ _ _ _ _ _ _ _ _ _ _ _ UK J (@zA _ _ _ _ _ (@pvb _ 2 _ _ rfl) (@zA _ _ _ _ _ zG zC rfl) rfl) rfl rfl rfl rfl) zG) zC rfl) rfl) rfl rfl) (@zE _ _ _ _ _ (@zV _ _ 11 _ _ _ _ vo.nd rfl (.inl rfl) (@zS _ _ _ _ _ _ _ _ y8 (@zS _ _ _ _ _ _ _ _ y8 (@yK _ _ _ _ _ _ _ _ _ _ yr (@pvb _ 7 _ _ rfl) yR (@zy _ _ _ (@pvb _ 9 _ _ rfl))) (@zj _ _ _ _ _ (@zA _ _ _ _ _ (@zS _ _ _ _ _ _ _ _ yQ (@zX _ _ _ _ _ _ _ yA (@pvb _ 7 _ _ rfl) (@pvb _ 9 _ _ rfl) (λ_ _=>rfl)) (@zS _ _ _ _ _ _ _ _ xL (@pvb _ 10 _ _ rfl) (@zS _ _ _ _ _ _ _ _ uU zG zG))) zC rfl))) (@yK _ _ _ _ _ _ _ _ _ _ yr (@pvb _ 7 _ _ rfl) (@zy _ _ _ (@zS _ _ _ _ _ _ _ _ yQ (@pvb _ 9 _ _ rfl) zG)) yR)) rfl (by trivial)) (@zE _ _ _ _ _ (@zV _ _ 12 _ _ _ _ vo.nd rfl (.inl rfl) (@zQ _ _ _ _ _ _ _ _ _ _ _ _ UE J (@zA _ _ _ _ _ (@pvb _ 3 _ _ rfl) (@zA _ _ _ _ _ (@pvb _ 11 _ _ rfl) zC rfl) rfl) rfl rfl rfl rfl) rfl (by trivial)) (@zM _ _ _ (@yV _ _ _ _ _ _ _ _ (@zq _ _ _ _ _ _ _ _ kD (@zS _ _ _ _ _ _ _ _ xW (@zc _ _ _ _ _ _ _ _ _ (vK rfl false) rfl G.max rfl (@zA _ _ _ _ _ (@pvb _ 12 _ _ rfl) zC rfl) (by decide) (by decide) rfl rfl) (@zc _ _ _ _ _ _ _ _ _ (vJ rfl false) rfl G.min rfl (@zA _ _ _ _ _ (@pvb _ 12 _ _ rfl) zC rfl) (by decide) (by decide) rfl rfl)) (@zS _ _ _ _ _ _ _ _ xW (@zc _ _ _ _ _ _ _ _ _ (vK rfl false) rfl G.max rfl (@zA _ _ _ _ _ (@pvb _ 8 _ _ rfl) zC rfl) (by decide) (by decide) rfl rfl) (@zc _ _ _ _ _ _ _ _ _ (vJ rfl false) rfl G.min rfl (@zA _ _ _ _ _ (@pvb _ 8 _ _ rfl) zC rfl) (by decide) (by decide) rfl rfl)) (yI _)) (@zM _ _ _ (@zW _ _ _ _ rQ)) zx)))))))) (by intro _;rfl)) (@zE _ _ _ _ _ (@zV _ _ 13 _ _ _ _ vo.nd rfl (.inl rfl) (@zQ _ _ _ _ _ _ _ _ _ _ _ _ UT cn (@zA _ _ _ _ _ (@pvb _ 3 _ _ rfl) (@zA _ _ _ _ _ (@zj _ _ _ _ _ (@zA _ _ _ _ _ (@zX _ _ _ _ _ _ _ yA (@pvb _ 4 _ _ rfl) zG (λ_ _=>rfl)) zC rfl)) zC rfl) rfl) rfl rfl rfl rfl) rfl (by trivial)) (@zM _ _ _ (@yV _ _ _ _ _ _ _ _ (@zbd _ _ _ _ _ _ _ (@zq _ _ _ _ _ _ _ _ kD (@zX _ _ _ _ _ _ _ yA (@pvb _ 13 _ _ rfl) zG (λ_ _=>rfl)) wA (yI _)) (@zae _ _ _ _ (@zq _ _ _ _ _ _ _ _ sF (@zX _ _ _ _ _ _ _ yA (@pvb _ 13 _ _ rfl) zG (λ_ _=>rfl)) (@zX _ _ _ _ _ _ _ yA (@pvb _ 5 _ _ rfl) zG (λ_ _=>rfl)) (yI _)))).pt (@zM _ _ _ (@zW _ _ _ _ rQ)) zx)))) zx) (@zE _ _ _ _ _ (@zV _ _ 14 _ _ _ _ vo.nd rfl (.inl rfl) (@zQ _ _ _ _ _ _ _ _ _ _ _ _ UM dd (@zA _ _ _ _ _ (@zX _ _ _ _ _ _ _ zZ (@zr _ _ _ _ (@zA _ _ _ _ _ zG (@zA _ _ _ _ _ zG zC rfl) rfl)) (@zQ _ _ _ _ _ _ _ _ _ _ _ _ UK J (@zA _ _ _ _ _ (@pvb _ 2 _ _ rfl) (@zA _ _ _ _ _ zG zC rfl) rfl) rfl rfl rfl rfl) (λ_ _=>rfl)) (@zA _ _ _ _ _ (@zQ _ _ _ _ _ _ _ _ _ _ _ _ UK J (@zA _ _ _ _ _ (@pvb _ 2 _ _ rfl) (@zA _ _ _ _ _ zG zC rfl) rfl) rfl rfl rfl rfl) zC rfl) rfl) rfl rfl rfl rfl) rfl (by trivial)) (@zM _ _ _ (@yV _ _ _ _ _ _ _ _ (@zq _ _ _ _ _ _ _ _ kD (@zX _ _ _ _ _ _ _ yA (@zQ _ _ _ _ _ _ _ _ _ _ _ _ UT cn (@zA _ _ _ _ _ (@pvb _ 14 _ _ rfl) (@zA _ _ _ _ _ (@vA _ _ _ _ _ _ _ rfl rfl G.tuple rfl G.range (@zA _ _ _ _ _ (@zX _ _ _ _ _ _ _ yA (@pvb _ 14 _ _ rfl) zG (λ_ _=>rfl)) zC rfl) rfl rfl) zC rfl) rfl) rfl rfl rfl rfl) zG (λ_ _=>rfl)) (@zi _ _ _ _ _ _ _ _ _ wL rfl G.int rfl (@zA _ _ _ _ _ (@vC _ _ _ _ _ _ _ _ sF (@zX _ _ _ _ _ _ _ yA (@pvb _ 14 _ _ rfl) zG (λ_ _=>rfl)) zG (yI _)) zC rfl) (by decide) (by decide) rfl rfl) (yI _)) (@zM _ _ _ (@zW _ _ _ _ rQ)) zx)))))))) (by intro _;rfl)) (@zM _ _ _ (@zW _ _ _ _ rQ))),?_⟩;have ml:(ns.map V.int).length=ns.length:=Jc _;refine zB ⟨a,_,rfl,.inl hS,_,_,rfl,_,_,rfl,?_⟩;rw[ml]
 have e5:(if (if (5:Int)<(ns.length:Nat) then (5:Int) else (ns.length:Nat)) > 1 then (if (5:Int)<(ns.length:Nat) then (5:Int) else (ns.length:Nat)) else 1)<=5/\(1:Int)<=(if (if (5:Int)<(ns.length:Nat) then (5:Int) else (ns.length:Nat)) > 1 then (if (5:Int)<(ns.length:Nat) then (5:Int) else (ns.length:Nat)) else 1):=by
  split<;>split at *<;>lia
 refine⟨_,rfl,by lia,by lia,?_⟩;generalize (if (if (5:Int)<(ns.length:Nat) then (5:Int) else (ns.length:Nat)) > 1 then (if (5:Int)<(ns.length:Nat) then (5:Int) else (ns.length:Nat)) else 1)=cnt at e5;refine y0 (lo:=0) (n:=cnt.toNat) (λi σ H2=>(∃ v1 v2 v3 v4 v5 v6 v7 v8 v9 v10 v11 dt bu X,σ=[some (.ref a),v1,v2,v3,v4,v5,v6,v7,v8,v9,v10,v11,dt,bu,X])/\Scr K a (ns.map V.int) H2/\TabQ qR Pt H2) ⟨⟨_,_,_,_,_,_,_,_,_,_,_,_,_,_,rfl⟩,Scr.of hS,tab⟩ ?_ ?_
 ·rintro i σ H2 hi ⟨⟨v1,v2,v3,v4,v5,v6,v7,v8,v9,v10,v11,dt,bu,X,rfl⟩,bR,tab⟩
  have i5:i<5:=by lia
  refine zB (zB ⟨a,ns,_,rfl,bR.sq,e0,by lia,by lia,λl H3 hl s3 S3=>?_⟩)
  have cc:LE K a l Pt (ns.map V.int) H3:=⟨S3,tab.same s3,bR.keep λo e _=>.inr (s3 _ _ e),by
   rcases bR with z|⟨o,z⟩|z
   ·exact .inl (zJ z hl)
   ·exact .inl (zJ z hl)
   ·exact .inr z⟩
  clear bR tab s3 hl S3;refine zB ⟨l,rfl,cc.S,λr fr er ps N H4 cH b9 S4 B4=>?_⟩;have b1:=cc.pick S4 B4;have ok:=cH.ok;have l1:=ok.l1;refine zB (zB ⟨l,r,fr,er,ps,N,rfl,b1.S,ok,b9,λsm moves H5 ln ck S5 B5=>?_⟩);have b0:=b1.pick S5 B5;have b8:=b9.tups (B5.tups3 b1.S);have fe:=ln.len;have l8:=cH.ln;refine zB (zB ⟨r,fr,er,ps,N,sm,moves,rfl,ok,b8,ck,ln.lt,by lia,b0.tab,λp H6 B6 a5 told=>?_⟩);have cb:=b0.ver a5 B6;have t6:=uy b0.tab B6;have bS:=b8.tups t6;have R:=t6 _ _ ck;clear cc S4 B4 b1 S5 B5 b9 b8 B6 a5 ck t6 b0;refine zb1 Q ?_;refine lu (λσ W=>(∃ w6 w7 w8 w9 B x u dr,σ=[some (.ref a),some (.int (0+(i:Nat))),some (.ref l),some (.ref r),some (.ref sm),some (.ref p),w6,w7,w8,w9,B,x,u,dr,X])/\LE K a l Pt (ns.map V.int) W) ?_ λD b7 rt=>?_
  rotate_left
  ·rcases told with ⟨ne,hp⟩|⟨ev,tell⟩
   ·exact zB ⟨p,_,_,_,rfl,rfl,SqT.of hp,rfl,rfl,false,JL V.bl (Jt λz=>absurd (V.str.inj z) (by decide)),xX (b7 _ _ ⟨⟨_,_,_,_,_,_,_,_,rfl⟩,cb⟩)⟩
   cases hR:xq N moves 1500 with
   | opn =>
    rw[hR]at tell
    exact zB ⟨p,_,_,_,rfl,rfl,SqT.of tell,rfl,rfl,false,JL V.bl (Jt λz=>absurd (V.str.inj z) (by decide)),xX (b7 _ _ ⟨⟨_,_,_,_,_,_,_,_,rfl⟩,cb⟩)⟩
   | brk c=>rw[hR]at tell;exact tell.elim
   | whl ls =>
   rw[hR]at tell;obtain⟨c0,fo,dY,ft,hp,fm,fa⟩:=tell;have c4:=(vX hR).1;have dP:=ev;obtain⟨d,td,e4⟩:=ev;have e9:d<=60:=JQ (cS td) (by have:=cH.fk;lia);refine zB ⟨p,_,_,_,rfl,rfl,SqT.of hp,rfl,rfl,true,JL V.bl (JC rfl),wE ?_⟩;refine lu (λσ W=>(∃ w6 w7 w8 w9 B x u,σ=[some (.ref a),some (.int (0+(i:Nat))),some (.ref l),some (.ref r),some (.ref sm),some (.ref p),w6,w7,w8,w9,B,x,u,bu,X])/\LE K a l Pt (ns.map V.int) W/\Tups H6 W) ?_ λD2 c5 fk=>?_
   ·rintro σ W ⟨⟨w6,w7,w8,w9,B,x,u,rfl⟩,g,t7⟩
    have c9:=t7 _ _ R;have d8:=bS.tups t7;have a8:0<moves.length:=Yp.mpr ln.ne;refine zz (λD3 T=>?_);refine zB (zB ⟨sm,_,_,_,rfl,rfl,SqT.of c9,yL (j:=0) (kJ a8),by show 1<=sizeLine;decide,λq hq=>?_⟩);have aE:∀ m∈[moves[0]],m∈moves:=λm hm=>by rw[Ja.mp hm];exact JA _
    have s8:=zD hq (.tup [.int (moves[0]:Nat)]);have C:=g.same s8;have d7:=d8.tups (Tups.of s8);refine⟨r,fr,er,ps,N,q,[moves[0]],rfl,ok,d7,zH,λm hm=>ln.lt m (aE m hm),by show 1<=16;decide,C.tab,λp2 H9 B9 c1 bl=>T _ _ ?_⟩;have b:=C.ver c1 B9;have t9:=uy C.tab B9;have et:=t9 _ _ (s8 _ _ (t7 _ _ hp));rcases bl with ⟨ne2,_⟩|⟨_,ab⟩
    ·exact absurd (dP.fewer aE) ne2
    obtain⟨fl,ey,c3⟩:=oC hR aE;rw[ey]at ab;obtain⟨c2,bc,a4,U,L,_,cL⟩:=ab;obtain⟨kf,cx,cP⟩:=cL.is;have ge:=fa.ge (c3 _ cx);rw[cP]at ge;refine zB ⟨p2,_,_,_,rfl,rfl,SqT.of L,rfl,rfl,false,?_,xX ?_⟩
    ·show V.bl (!decide (V.str "reach" = V.str "reach"))=V.bl false
     rw[JC rfl];rfl
    refine zB ⟨p2,_,_,_,rfl,rfl,SqT.of L,rfl,zB ⟨p,_,_,_,rfl,rfl,SqT.of et,rfl,_,_,rfl,rfl,_,rfl,uX (λy=>absurd (Yq y) (by lia)) (λ_=>b7 _ _ ⟨⟨_,_,_,_,_,_,_,_,rfl⟩,b⟩)⟩⟩
   refine⟨_,rfl,by decide,by decide,?_⟩;refine y0 (lo:=0) (n:=14) (λm σ W=>(∃ w6 w7 w8 w9 B x u,σ=[some (.ref a),some (.int (0+(i:Nat))),some (.ref l),some (.ref r),some (.ref sm),some (.ref p),w6,w7,w8,w9,B,x,u,bu,X])/\LE K a l Pt (ns.map V.int) W/\Tups H6 W) ⟨⟨_,_,_,_,_,_,_,rfl⟩,cb,λ_ _ e=>e⟩ ?_ ?_
   ·rintro m σ W hm ⟨⟨w6,w7,w8,w9,B,x,u,rfl⟩,g,t7⟩
    refine zB (zB (zB ⟨l,r,fr,er,ps,N,sm,moves,rfl,g.S,ok,bS.tups t7,t7 _ _ R,λc cs H8 cl d6 bd hc S8 B8=>?_⟩));have C:=g.pick S8 B8;have t8:=t7.trans (B8.tups3 g.S);have el:=xM ok cs;have ep:0<(zp N cs).length:=by lia
    obtain⟨kf,cx,cP⟩:=pX ok ln.lt dP c4 cl d6;have ge:=fa.ge cx;rw[cP]at ge;refine zB (zB ⟨r,fr,er,ps,N,c,cs,rfl,ok,bS.tups t8,hc,cl,λpe H9 s9 he=>?_⟩);have b:=C.same s9;have t9:=t8.trans (Tups.of s9);refine zB ⟨pe,_,rfl,SqT.of he,ep,λM mM lM=>?_⟩;refine zB ⟨pe,_,rfl,SqT.of he,ep,λm1 mm lm=>?_⟩;have sp:yZ (zp N cs)=M-m1:=by unfold yZ;rw[vE mM lM,vD mm lm]
    rw[sp]at ge;refine⟨_,_,rfl,rfl,zB ⟨p,_,_,_,rfl,rfl,SqT.of (t9 _ _ hp),rfl,_,_,rfl,rfl,_,rfl,uX (λy=>absurd (Yq y) (by lia)) (λ_=>?_)⟩⟩;have es:=t9 _ _ R;have a8:0<moves.length:=Yp.mpr ln.ne;have nl:(zU moves).length=moves.length:=zd _;dsimp only[lX];refine zz (λD3 T=>?_);refine zB (zB (zB ⟨sm,_,rfl,.inr (SqT.of es),l,_,rfl,by lia,by lia,b.S,λv fc hv Y O=>?_⟩));have vl:v<moves.length:=by lia
    have I:=b.pick Y O;have b3:=t9.trans (O.tups3 b.S);have ll:moves[v]<N.lanes:=ln.lt _ (JA vl);refine⟨sm,_,_,_,rfl,rfl,SqT.of (b3 _ _ R),yL (kJ vl),?_⟩;refine zB ⟨l,5,rfl,by decide,by decide,Y,λt cT ht dU Z=>⟨_,_,rfl,rfl,_,_,rfl,T _ _ ?_⟩⟩;have a0:=I.pick dU Z;have d1:=b3.trans (Z.tups3 I.S);have a3:cT c=some (.tup (cs.map V.int)):=(Z.tups3 I.S) _ _ ((O.tups3 b.S) _ _ (s9 _ _ hc));have dp:cT pe=some (.tup ((zp N cs).map V.int)):=(Z.tups3 I.S) _ _ ((O.tups3 b.S) _ _ he);have e3:=e4 _ (JA vl);generalize moves[v]=m0 at *;clear T Y O dU Z I b3 b t9 C t8 S8 B8;refine zz (λD4 eN=>?_);refine zB (zB (zY rfl ⟨c,_,rfl,a3,λp1 fD S cE=>?_⟩));have fu:(cs.map V.int).length=cs.length:=Jc _;rw[sZ _ m0 (by lia)]at cE;refine zB (zB ⟨c,_,_,_,rfl,rfl,SqT.of (S _ _ a3),xI (by lia),?_⟩);refine zB ⟨_,_,rfl,rfl,⟨by decide,by decide,by decide⟩,_,_,rfl,rfl,.inl ⟨by lia,by lia⟩,_,_,rfl,rfl,by show 1<=sizeLine;decide,λp2 L=>?_⟩;have b6:=zD L (.tup [.int (cs.getD m0 0+((t:Int)-2)*2 ^ Int.toNat 60)]);refine⟨p1,p2,_,_,rfl,rfl,b6 _ _ cE,zH,?_,λp3 fA dD dH=>?_⟩
    ·rw[Js,Ju];show _+1<=_;lia
    have b2:=(S.trans b6).trans dD;refine zB (zB ⟨_,_,rfl,rfl,_,rfl,c,_,rfl,b2 _ _ a3,λp4 fy b5 cz=>?_⟩);rw[show ((m0:Int)+1)=((m0+1:Nat):Int) from rfl,si _ (m0+1) (by lia)]at cz;refine⟨p3,p4,_,_,rfl,rfl,b5 _ _ dH,cz,?_,λp5 fb dB dG=>eN _ _ ?_⟩
    ·rw[Jb,Js,Yi,Ju];show _+1+_<=_;lia
    have bB:=(b2.trans b5).trans dB;have c8:=a0.same bB;have dx:=d1.trans (Tups.of bB);have de:=bB _ _ dp;have mr:=eU (d:=d) (k:=((t:Int)-2)*pw (60-d)) (v:=cs.getD m0 0+((t:Int)-2)*2 ^ Int.toNat 60) cl ll (by rw[zaf e9,Int.mul_assoc])
    have e8:fb p5=some (.tup ((more cs (yF N.lanes m0 (pw d)) (((t:Int)-2)*pw (60-d))).map V.int)):=by
     rw[dG,<- mr,JG,JG,List.map_take,List.map_drop];rfl
    have dA:=uf ok td e3 cl (((t:Int)-2)*pw (60-d));have eb:(more cs (yF N.lanes m0 (pw d)) (((t:Int)-2)*pw (60-d))).length=N.lanes:=by rw[yu];exact cl
    generalize more cs (yF N.lanes m0 (pw d)) (((t:Int)-2)*pw (60-d))=U at *;clear b2 S b6 dD b5 dB bB dG cz dH cE L mr;refine zz (λD5 eM=>?_);refine zB (zB ⟨r,fr,er,ps,N,p5,U,rfl,ok,bS.tups dx,e8,eb,λpf fx b4 hf=>eM _ _ ?_⟩);have c7:=c8.same b4;have d0:=dx.trans (Tups.of b4);have bb:=b4 _ _ de;have fp:=xM ok U;have dR:0<(zp N U).length:=by lia
    refine zB ⟨pf,_,rfl,SqT.of hf,dR,λM2 ed en=>?_⟩;refine zB ⟨pf,_,rfl,SqT.of hf,dR,λm2 ea ej=>⟨_,_,rfl,rfl,?_⟩⟩;refine zB ⟨pe,_,rfl,SqT.of bb,ep,λM3 ec ek=>?_⟩;refine zB ⟨pe,_,rfl,SqT.of bb,ep,λm3 d9 ei=>⟨_,_,rfl,rfl,?_⟩⟩;have d3:yZ (zp N U)=M2-m2:=by unfold yZ;rw[vE ed en,vD ea ej]
    have d2:yZ (zp N cs)=M3-m3:=by unfold yZ;rw[vE ec ek,vD d9 ei]
    rw[d3,d2]at dA;refine⟨rfl,false,?_,xX ?_⟩
    ·show V.bl (!decide (V.int (M2-m2)=V.int (M3-m3)))=V.bl false
     rw[dA,JC rfl];rfl
    exact⟨⟨_,_,_,_,_,_,_,rfl⟩,c7,d0⟩
   ·rintro σ W ⟨⟨w6,w7,w8,w9,B,x,u,rfl⟩,g,t7⟩
    exact c5 _ _ ⟨⟨_,_,_,_,_,_,_,rfl⟩,g,t7⟩
  rintro σ W ⟨⟨w6,w7,w8,w9,B,x,u,dr,rfl⟩,g⟩;refine zz (λD3 T=>?_);refine⟨by show 2<=sizeLine;decide,λlw ct=>?_⟩;have s8:=zD ct (.lst [.int 0,.int 2]);have C:=g.same s8;refine zB ⟨l,2,rfl,by decide,by decide,C.S,λw H9 hw S9 B9=>?_⟩;have b:=C.pick S9 B9
  have eh:lw≠l:=by
   obtain⟨ys,e⟩:=g.S.lst;exact λz=>by rw[z,e]at ct;cases ct
  obtain⟨way,w3,w1,ew⟩:∃ way:Nat,way<3/\way≠1/\atI [V.int 0,V.int 2] (w:Int)=some (.int (way:Nat)):=by
   have:w=0\/w=1:=by lia
   rcases this with rfl|rfl
   ·exact⟨0,by decide,by decide,rfl⟩
   ·exact⟨2,by decide,by decide,rfl⟩
  refine⟨lw,_,_,_,rfl,rfl,SqL.of (B9 _ _ zH eh),ew,?_⟩;refine zB ⟨l,3,rfl,by decide,by decide,S9,λsz fc hz Y O=>?_⟩;refine⟨way,sz,rfl,by lia,λr2 e1 e6 d5 cT d4 a7=>T _ _ ?_⟩;have a0:=(b.pick Y O).same d4;have okN:(yt way sz).Ok:=pC (by lia);have ba:=sM way sz;have eg:=okN.l16;have ev:=du (j9 way w3 w1 sz (by lia));obtain⟨ls,hR,ff⟩:=bw (eX way w3 w1 sz (by lia));rw[<- ba]at ev hR;refine zB (zB ⟨r2,_,_,_,rfl,rfl,SqT.of a7.net,rfl,(yt way sz).lanes,rfl,by lia,λt1 eo=>?_⟩);have S:=zD eo (.tup (zU (List.range (yt way sz).lanes)));have aT:=a0.same S;have a6:=a7.tups (Tups.of S);refine⟨r2,e1,e6,d5,yt way sz,t1,List.range (yt way sz).lanes,rfl,okN,a6,zH,λm hm=>Yd.mp hm,by rw[JR];exact eg,aT.tab,λp2 fB dX bt told=>?_⟩;have a9:=aT.ver bt dX;have c6:=a6.tups (uy aT.tab dX);rcases told with ⟨ne2,_⟩|⟨_,tell⟩
  ·exact absurd ev ne2
  rw[hR]at tell;obtain⟨c2,bc,a4,U,L,_,cL⟩:=tell;have ef:=ff cL;refine⟨p2,_,_,_,rfl,rfl,SqT.of L,rfl,zB ⟨r2,_,_,_,rfl,rfl,SqT.of c6.net,rfl,_,_,rfl,rfl,.inr ⟨_,rfl,rfl,false,?_,xX ?_⟩⟩⟩
  ·have e2:bc=if decide ((1:Int)<((yt way sz).lanes:Nat))=true then 1 else 0:=by
    rw[ef,ba];have:sz=0\/sz=1\/sz=2:=by lia
    rcases this with rfl|rfl|rfl<;>rfl
   rw[JC (JL V.int e2)];rfl
  exact⟨⟨_,_,_,_,_,_,_,_,_,_,_,_,_,_,rfl⟩,a9.scr,a9.tab⟩
 ·rintro σ H2 _
  exact k H2
end
structure FnAt (K:Jl) (x:Str) (st:Stmt) (f:JI) (fd:Yl):Prop where
 ns:PySem.W.nsIn K mainGlobals x=some (some (.ref f))
 fn:Fun K x x st f fd
theorem yP {K:Jl}{x:Str}{st:Stmt}{f:JI}{oc:Jo}{od an:Option JI}{osl:Array (Option Jo)}{kV doc pm cdv ct:Jo}(a:PySem.W.nsIn K mainGlobals x=some (some (.ref f)))(l:K.lookup f=some ⟨oc,od,.func (PySem.W.fnOf x x (xi st) (y9 st) (zR st) .none kV doc pm an cdv ct),osl⟩)(c:PySem.W.codeIn K cdv x=true)(k:PySem.W.keepIn K (.ref f)=true):FnAt K x st f (PySem.W.fnOf x x (xi st) (y9 st) (zR st) .none kV doc pm an cdv ct):=⟨a,zaG l c k⟩
structure FnAtC (K:Jl) (x:Str) (st:Stmt) (f:JI) (fd:Yl) (c:JI):Prop where
 ns:PySem.W.nsIn K mainGlobals x=some (some (.ref f))
 fn:FunC K x x st f fd c
theorem zaH {K:Jl}{x:Str}{st:Stmt}{f c:JI}{oc:Jo}{od an:Option JI}{osl:Array (Option Jo)}{kV doc pm ct:Jo}(a:PySem.W.nsIn K mainGlobals x=some (some (.ref f)))(l:K.lookup f=some ⟨oc,od,.func (PySem.W.fnOf x x (xi st) (y9 st) (zR st) .none kV doc pm an (.ref c) ct),osl⟩)(cd:PySem.W.codeIn K (.ref c) x=true)(k:PySem.W.keepIn K (.ref f)=true):FnAtC K x st f (PySem.W.fnOf x x (xi st) (y9 st) (zR st) .none kV doc pm an (.ref c) ct) c:=⟨a,⟨⟨_,_,_,_,_,_,_,_,rfl,l,cd⟩,k⟩⟩
theorem _root_.L2.FunC.fun {K:Jl}{x qual:Str}{st:Stmt}{f:JI}{fd:Yl}{c:JI}(F:FunC K x qual st f fd c):Fun K x qual st f fd:=by
 obtain⟨d,b,kV,doc,pm,an,g,a,e,l,q⟩:=F.ex;exact⟨⟨d,b,kV,doc,pm,an,.ref c,g,a,e,l,q⟩,F.kp⟩
theorem ic {K:Jl}{c P:JI}{od:Option JI}{vs:Array Jo}{osl:Array (Option Jo)}(l:K.lookup c=some ⟨.type "code",od,.fields vs,osl⟩) (e:PySem.W.codeHdIn [(c,⟨.type "code",od,.fields vs,osl⟩)] c P=true):PySem.W.codeHdIn K c P=true:=by
 have q:List.lookup c [(c,(⟨.type "code",od,.fields vs,osl⟩:Obj))]=some ⟨.type "code",od,.fields vs,osl⟩:=by rw[Ym,Zt]
 unfold PySem.W.codeHdIn at e ⊢;rw[q]at e;rw[l];exact e
theorem us1 {us:List Jo}(h:us.length=1):∃ a,us=[a]:=by
 match us,h with
 | [a],_=>exact⟨a,rfl⟩
theorem us2 {us:List Jo}(h:us.length=2):∃ b a,us=[b,a]:=by
 match us,h with
 | [b,a],_=>exact⟨b,a,rfl⟩
theorem us3 {us:List Jo}(h:us.length=3):∃ c b a,us=[c,b,a]:=by
 match us,h with
 | [c,b,a],_=>exact⟨c,b,a,rfl⟩
theorem us4 {us:List Jo}(h:us.length=4):∃ c b a u3,us=[c,b,a,u3]:=by
 match us,h with
 | [c,b,a,u3],_=>exact⟨c,b,a,u3,rfl⟩
theorem us5 {us:List Jo}(h:us.length=5):∃ d c b u3 a,us=[d,c,b,u3,a]:=by
 match us,h with
 | [d,c,b,u3,a],_=>exact⟨d,c,b,u3,a,rfl⟩
set_option maxHeartbeats 4000001 in
theorem zaO {l:PySem.W.OpenLaw}{w:YI}{K:Jl}{h:YP}{mg:Str->Option Jo}{fa f1 f2 f3 f4 f5 f6 f7 f8 f9 c6 c5 c4 c3 c2 c1 c0 cT cP cz cx cn ck cc cb b0 bS bR bu bt bl bc bb ba a9 a8 a7 a6 a5 fD:JI}{d1 d2 d3 d4 d5 d6 d7 d8 d9 eb ea d0 dY dX dV dU dT dS dR dP dM dK dH dG dF dE dD dC dB dA dx dt dr dp de dd c9 c8 c7:Yl}(X:K.In h) (G:h.Ns mainGlobals mg) (fB:mg "law" = some (.ref fa))
  {i Pt:JI}
  (A1:FnAt K "layers" qe f1 d1)
  (A2:FnAt K "depth" mG f2 d2)
  (A3:FnAt K "flowed" qg f3 d3)
  (A4:FnAt K "ends_of" gb f4 d4)
  (A5:FnAt K "power_of_two" ap f5 d5)
  (A6:FnAt K "alone" mH f6 d6)
  (A7:FnAt K "shares" qb f7 d7)
  (A8:FnAt K "unlike_pair" qY f8 d8)
  (A9:FnAt K "uneven" qZ f9 d9)
  (U:FnAt K "is_even" qf c6 eb)
  (T:FnAt K "end_of" ax c5 ea)
  (S:FnAt K "run_through" ao c4 d0)
  (R:FnAt K "passed" qd c3 dY)
  (Q:FnAt K "given_at" mF c2 dX)
  (P:FnAt K "added" mI c1 dV)
  (O:FnAt K "first_turns" qh c0 dU)
  (N:FnAt K "first_place" tY cT dT)
  (L:FnAt K "place_behind" qc cP dS)
  (J:FnAt K "next_level" aq cz dR)
  (I:FnAt K "climbed" ay cx dP)
  (H:FnAt K "farthest" av cn dM)
  (F:FnAtC K "reach" tX ck dK i)
  (E:FnAt K "_law_left" ga cc dH)
  (D:FnAt K "_law_pick" gX cb dG)
  (C:FnAt K "_law_mixed" mB b0 dF)
  (B:FnAt K "_law_merger" oA bS dE)
  (A:FnAt K "_law_stairway" pj bR dD)
  (z:FnAt K "_law_block" oB bu dC)
  (y:FnAt K "_law_tree" pi bt dB)
  (x:FnAt K "_law_made" gZ bl dA)
  (u:FnAt K "_law_any" gh bc dx)
  (t:FnAt K "_law_changed" az bb dt)
  (r:FnAt K "_law_net" gY ba dr)
  (q:FnAt K "_law_some" n9 a9 dp)
  (o:FnAt K "_law_ends" mD a8 de)
  (n:FnAt K "_law_counts" gf a7 dd)
  (m:FnAt K "_law_evened" aw a6 c9)
  (k:FnAt K "_law_told" gW a5 c8)
  (W:FnAt K "law" ar fD c7)
  (z1:PySem.W.nsIn K mainGlobals "len" = some none)
  (z2:PySem.W.nsIn K mainGlobals "range" = some none)
  (z3:PySem.W.nsIn K mainGlobals "tuple" = some none)
  (z4:PySem.W.nsIn K mainGlobals "enumerate" = some none)
  (z5:PySem.W.nsIn K mainGlobals "abs" = some none)
  (z6:PySem.W.nsIn K mainGlobals "zip" = some none)
  (z7:PySem.W.nsIn K mainGlobals "isinstance" = some none)
  (z8:PySem.W.nsIn K mainGlobals "all" = some none)
  (z9:PySem.W.nsIn K mainGlobals "sum" = some none)
  (et:PySem.W.nsIn K mainGlobals "bool" = some none)
  (es:PySem.W.nsIn K mainGlobals "int" = some none)
  (er:PySem.W.nsIn K mainGlobals "str" = some none)
  (ep:PySem.W.nsIn K mainGlobals "max" = some none)
  (eo:PySem.W.nsIn K mainGlobals "min" = some none)
  (en:PySem.W.nsIn K mainGlobals "sorted" = some none)
  (el:PySem.W.nsIn K mainGlobals "list" = some none)
  {CL CE NE:JI}{xa xb:Str}{fH ab:List Jo}{fC g7:Bool}{ew:List Str}{aT:Option Bool}{fE:Option JI}{g0 g1 g2 g3 g5:Option Jo}{oN oM:Obj}{Y cE:ClassData}
  (aE:PySem.W.nsIn K mainGlobals "NotEven" = some (some (.ref CE)))
  (lE:K.lookup CE=some (excClassObj xa xb CE NE fH (.ref CL::bmV) fC ew ab g7 aT fE g0 g1 g2 g3 g5 "ValueError.__new__")) (lN:K.lookup NE=some oN) (uN:PySem.W.nsOkIn [(NE,oN)] NE=true) (iE:PySem.W.nsIn K NE "__init__" = some none)
  (fF:PySem.W.clsIn K CL=some Y) (lM:K.lookup Y.ns=some oM) (uM:PySem.W.nsOkIn [(Y.ns,oM)] Y.ns=true) (iM:PySem.W.nsIn K Y.ns "__init__" = some none) (fA:PySem.W.keepIn K (.ref CE)=true)
  (y1:PySem.W.mroIn K CE (.type "BaseException")=some true) (fG:PySem.W.clsIn K CE=some cE) (y2:PySem.W.typeIn K (.ref CE)=some (.type "type")) (y3:PySem.W.mroIn K CE (.ref CE)=some true)
  (cH:PySem.W.codeHdIn K i Pt=true) (ey:mainGlobals≠Pt) (kP:K.lookup Pt=none)
  : (K.lookup Pt=none/\∃ c,PySem.W.codeHdIn K c Pt=true)/\∃ fd:Yl,(∀ (s:JO) (v:Jo),BindsTo s fd ⟨[v],[]⟩ [("_law_script",v)])/\∀ base:YP,K.In base->base.Ns mainGlobals mg->(∀ p∈[Pt],base.BuiltinsAt mg p)->FnOk l.prog w K mg base CX0 14 fa fd ["_law_script"] (lZ K Pt):=by
 have e:=fB.symm.trans (Jy X G W.ns);cases e;have M:Mgs mg:=⟨JS X G z1,JS X G z2,JS X G z3,JS X G z4,JS X G z5,JS X G z6,JS X G z7,JS X G z8,JS X G z9,JS X G et,JS X G es,JS X G er,JS X G ep,JS X G eo,JS X G en,JS X G el⟩;have b1:=A1.fn.binds (ps:=["net"]) λ_ _ _ _ _ _ b a=>by obtain⟨d,rfl⟩:=us1 a;rfl
 have m1:=Jy X G A1.ns;have b2:=A2.fn.binds (ps:=["net"]) λ_ _ _ _ _ _ b a=>by obtain⟨d,rfl⟩:=us1 a;rfl
 have m2:=Jy X G A2.ns;have b3:=A3.fn.binds (ps:=["net","counts"]) λ_ _ _ _ _ _ b a=>by obtain⟨d,f,rfl⟩:=us2 a;rfl
 have m3:=Jy X G A3.ns;have b4:=A4.fn.binds (ps:=["net","counts"]) λ_ _ _ _ _ _ b a=>by obtain⟨d,f,rfl⟩:=us2 a;rfl
 have m4:=Jy X G A4.ns;have b5:=A5.fn.binds (ps:=["many"]) λ_ _ _ _ _ _ b a=>by obtain⟨d,rfl⟩:=us1 a;rfl
 have m5:=Jy X G A5.ns;have b6:=A6.fn.binds (ps:=["lanes","lane","many"]) λ_ _ _ _ _ _ b a=>by obtain⟨d,f,j,rfl⟩:=us3 a;rfl
 have m6:=Jy X G A6.ns;have b7:=A7.fn.binds (ps:=["net"]) λ_ _ _ _ _ _ b a=>by obtain⟨d,rfl⟩:=us1 a;rfl
 have m7:=Jy X G A7.ns;have b8:=A8.fn.binds (ps:=["share"]) λ_ _ _ _ _ _ b a=>by obtain⟨d,rfl⟩:=us1 a;rfl
 have m8:=Jy X G A8.ns;have b9:=A9.fn.binds (ps:=["net","some"]) λ_ _ _ _ _ _ b a=>by obtain⟨d,f,rfl⟩:=us2 a;rfl
 have m9:=Jy X G A9.ns;have g6:=U.fn.binds (ps:=["net","some"]) λ_ _ _ _ _ _ b a=>by obtain⟨d,f,rfl⟩:=us2 a;rfl
 have fy:=Jy X G U.ns;have g4:=T.fn.binds (ps:=["net","lane"]) λ_ _ _ _ _ _ b a=>by obtain⟨d,f,rfl⟩:=us2 a;rfl
 have fx:=Jy X G T.ns;have gV:=S.fn.binds (ps:=["net","turns","lane","back"]) λ_ _ _ _ _ _ b a=>by obtain⟨d,f,j,u3,rfl⟩:=us4 a;rfl
 have fv:=Jy X G S.ns;have gP:=R.fn.binds (ps:=["net","turns","lane"]) λ_ _ _ _ _ _ b a=>by obtain⟨d,f,j,rfl⟩:=us3 a;rfl
 have fu:=Jy X G R.ns;have gC:=Q.fn.binds (ps:=["row","place","value"]) λ_ _ _ _ _ _ b a=>by obtain⟨d,f,j,rfl⟩:=us3 a;rfl
 have ft:=Jy X G Q.ns;have gs:=P.fn.binds (ps:=["counts","place","many"]) λ_ _ _ _ _ _ b a=>by obtain⟨d,f,j,rfl⟩:=us3 a;rfl
 have fp:=Jy X G P.ns;have gr:=O.fn.binds (ps:=["net"]) λ_ _ _ _ _ _ b a=>by obtain⟨d,rfl⟩:=us1 a;rfl
 have fo:=Jy X G O.ns;have gk:=N.fn.binds (ps:=["net"]) λ_ _ _ _ _ _ b a=>by obtain⟨d,rfl⟩:=us1 a;rfl
 have fm:=Jy X G N.ns;have gi:=L.fn.binds (ps:=["net","place","lane"]) λ_ _ _ _ _ _ b a=>by obtain⟨d,f,j,rfl⟩:=us3 a;rfl
 have fl:=Jy X G L.ns;have gg:=J.fn.binds (ps:=["level","seen","moves","led"]) λ_ _ _ _ _ _ b a=>by obtain⟨d,f,j,u3,rfl⟩:=us4 a;rfl
 have fk:=Jy X G J.ns;have gd:=I.fn.binds (ps:=["first","counts","moves","led","most"]) λ_ _ _ _ _ _ b a=>by obtain⟨d,f,j,u3,u4,rfl⟩:=us5 a;rfl
 have ff:=Jy X G I.ns;have gc:=H.fn.binds (ps:=["levels"]) λ_ _ _ _ _ _ b a=>by obtain⟨d,rfl⟩:=us1 a;rfl
 have fe:=Jy X G H.ns;have fY:=F.fn.fun.binds (ps:=["net","some","most"]) λ_ _ _ _ _ _ b a=>by obtain⟨d,f,j,rfl⟩:=us3 a;rfl
 have fc:=Jy X G F.ns;have fX:=E.fn.binds (ps:=["_law_script","_law_k"]) λ_ _ _ _ _ _ b a=>by obtain⟨d,f,rfl⟩:=us2 a;rfl
 have fb:=Jy X G E.ns;have fV:=D.fn.binds (ps:=["_law_left_here","_law_many"]) λ_ _ _ _ _ _ b a=>by obtain⟨d,f,rfl⟩:=us2 a;rfl
 have e9:=Jy X G D.ns;have fU:=C.fn.binds (ps:=["_law_left_here","_law_row"]) λ_ _ _ _ _ _ b a=>by obtain⟨d,f,rfl⟩:=us2 a;rfl
 have e8:=Jy X G C.ns;have eh:=B.fn.binds (ps:=["_law_one","_law_other"]) λ_ _ _ _ _ _ b a=>by obtain⟨d,f,rfl⟩:=us2 a;rfl
 have a4:=Jy X G B.ns;have eg:=A.fn.binds (ps:=["_law_row"]) λ_ _ _ _ _ _ b a=>by obtain⟨d,rfl⟩:=us1 a;rfl
 have a3:=Jy X G A.ns;have ef:=z.fn.binds (ps:=["_law_row"]) λ_ _ _ _ _ _ b a=>by obtain⟨d,rfl⟩:=us1 a;rfl
 have a0:=Jy X G z.ns;have ec:=y.fn.binds (ps:=["_law_row"]) λ_ _ _ _ _ _ b a=>by obtain⟨d,rfl⟩:=us1 a;rfl
 have Z:=Jy X G y.ns;have fT:=x.fn.binds (ps:=["_law_way","_law_k"]) λ_ _ _ _ _ _ b a=>by obtain⟨d,f,rfl⟩:=us2 a;rfl
 have e6:=Jy X G x.ns;have fS:=u.fn.binds (ps:=["_law_left_here"]) λ_ _ _ _ _ _ b a=>by obtain⟨d,rfl⟩:=us1 a;rfl
 have e5:=Jy X G u.ns;have fR:=t.fn.binds (ps:=["_law_left_here","_law_net_here"]) λ_ _ _ _ _ _ b a=>by obtain⟨d,f,rfl⟩:=us2 a;rfl
 have e4:=Jy X G t.ns;have fP:=r.fn.binds (ps:=["_law_left_here"]) λ_ _ _ _ _ _ b a=>by obtain⟨d,rfl⟩:=us1 a;rfl
 have e3:=Jy X G r.ns;have fN:=q.fn.binds (ps:=["_law_left_here","_law_net_here"]) λ_ _ _ _ _ _ b a=>by obtain⟨d,f,rfl⟩:=us2 a;rfl
 have e1:=Jy X G q.ns;have fM:=o.fn.binds (ps:=["_law_net_here","_law_counts_here"]) λ_ _ _ _ _ _ b a=>by obtain⟨d,f,rfl⟩:=us2 a;rfl
 have e0:=Jy X G o.ns;have fL:=n.fn.binds (ps:=["_law_left_here","_law_net_here","_law_some_here"]) λ_ _ _ _ _ _ b a=>by obtain⟨d,f,j,rfl⟩:=us3 a;rfl
 have eN:=Jy X G n.ns;have fK:=m.fn.binds (ps:=["_law_left_here"]) λ_ _ _ _ _ _ b a=>by obtain⟨d,rfl⟩:=us1 a;rfl
 have eM:=Jy X G m.ns;have fI:=k.fn.binds (ps:=["_law_net_here","_law_some_here"]) λ_ _ _ _ _ _ b a=>by obtain⟨d,f,rfl⟩:=us2 a;rfl
 have ez:=Jy X G k.ns;have mE:=Jy X G aE;have XO:XPln K CE CL:=⟨⟨_,_,_,_,_,_,_,_,_,_,_,_,_,_,_,lE,kK lN uN,iE⟩,gB fF (kK lM uM) iM,fA⟩;have xm:=bx y1 fG y2 y3;obtain⟨oc,od,kV,doc,pm,an,hF,ct,hE,ed,_,_⟩:=id W.fn.ex;refine⟨⟨kP,i,cH⟩,c7,λs v=>by rw[ed];exact .of_eq rfl,λbase _ _ bB=>?_⟩;have CK:CodeK K mg base i Pt:=⟨cH,bB Pt (.head _),ey⟩;have U1:Use l.prog w K mg base "layers" ["net"] 1 tM f1 d1:=⟨jn A1.fn M,b1,A1.fn.kp,m1⟩;have U2:Use l.prog w K mg base "depth" ["net"] 2 qT f2 d2:=⟨eK A2.fn M U1,b2,A2.fn.kp,m2⟩;have U3:Use l.prog w K mg base "flowed" ["net","counts"] 1 tO f3 d3:=⟨jq A3.fn M,b3,A3.fn.kp,m3⟩;have U4:Use l.prog w K mg base "ends_of" ["net","counts"] 2 uR f4 d4:=⟨bP A4.fn M U3,b4,A4.fn.kp,m4⟩;have U5:Use l.prog w K mg base "power_of_two" ["many"] 1 ng f5 d5:=⟨bJ A5.fn M,b5,A5.fn.kp,m5⟩;have U6:Use l.prog w K mg base "alone" ["lanes","lane","many"] 1 qU f6 d6:=⟨eL A6.fn M,b6,A6.fn.kp,m6⟩;have U7:Use l.prog w K mg base "shares" ["net"] 3 tJ f7 d7:=⟨jf A7.fn M U2 U5 U6 U4,b7,A7.fn.kp,m7⟩;have U8:Use l.prog w K mg base "unlike_pair" ["share"] 1 tD f8 d8:=⟨ja A8.fn M,b8,A8.fn.kp,m8⟩;have U9:Use l.prog w K mg base "uneven" ["net","some"] 4 tE f9 d9:=⟨jb A9.fn M U7 U8,b9,A9.fn.kp,m9⟩;have hC:Use l.prog w K mg base "is_even" ["net","some"] 5 tN c6 eb:=⟨jo U.fn M U9,g6,U.fn.kp,fy⟩;have hB:Use l.prog w K mg base "end_of" ["net","lane"] 1 gN c5 ea:=⟨zas T.fn,g4,T.fn.kp,fx⟩;have hA:Use l.prog w K mg base "run_through" ["net","turns","lane","back"] 2 gK c4 d0:=⟨zao S.fn M hB,gV,S.fn.kp,fv⟩;have hz:Use l.prog w K mg base "passed" ["net","turns","lane"] 3 (nh false) c3 dY:=⟨jh R.fn hA,gP,R.fn.kp,fu⟩;have hy:Use l.prog w K mg base "given_at" ["row","place","value"] 1 qS c2 dX:=⟨eJ Q.fn M,gC,Q.fn.kp,ft⟩;have ek:Use l.prog w K mg base "added" ["counts","place","many"] 2 um c1 dV:=⟨eO P.fn M hy,gs,P.fn.kp,fp⟩;have hx:Use l.prog w K mg base "first_turns" ["net"] 1 tQ c0 dU:=⟨jr O.fn M,gr,O.fn.kp,fo⟩;have hv:Use l.prog w K mg base "first_place" ["net"] 2 uQ cT dT:=⟨mW N.fn hx,gk,N.fn.kp,fm⟩;have hu:Use l.prog w K mg base "place_behind" ["net","place","lane"] 4 vm cP dS:=⟨jg L.fn M hz ek,gi,L.fn.kp,fl⟩;have ht:Use l.prog w K mg base "next_level" ["level","seen","moves","led"] 6 (ni l.prog w K (uD qR) ["net"] wD) cz dR:=⟨bL J.fn M ek (iH qR hu),gg,J.fn.kp,fk⟩;have hs:Use l.prog w K mg base "climbed" ["first","counts","moves","led","most"] 7 (tR l.prog w K (uD qR) ["net"] wD) cx dP:=⟨mX I.fn M ht,gd,I.fn.kp,ff⟩;have hr:Use l.prog w K mg base "farthest" ["levels"] 1 (gL l.prog w) cn dM:=⟨zaq H.fn M,gc,H.fn.kp,fe⟩;have hD:FnOk l.prog w K mg base (CX1 l.prog w) 8 ck dK ["net","some","most"] (qP qR Pt CE):=eG F.fn CK XO mE hC hs hv hr;have hq:Use l.prog w K mg base "_law_left" ["_law_script","_law_k"] 1 (qQ K) cc dH:=⟨bO E.fn M,fX,E.fn.kp,fb⟩;have g:Use l.prog w K mg base "_law_pick" ["_law_left_here","_law_many"] 1 xN cb dG:=⟨bK D.fn,fV,D.fn.kp,e9⟩;have ej:Use l.prog w K mg base "_law_mixed" ["_law_left_here","_law_row"] 2 uk b0 dF:=⟨eH C.fn M g,fU,C.fn.kp,e8⟩;have hp:Use l.prog w K mg base "_law_merger" ["_law_one","_law_other"] 5 wV bS dE:=⟨jj B.fn M eh a4,eh,B.fn.kp,a4⟩;have ho:Use l.prog w K mg base "_law_stairway" ["_law_row"] 10 tI bR dD:=⟨je A.fn M hp eg a3,eg,A.fn.kp,a3⟩;have ei:Use l.prog w K mg base "_law_block" ["_law_row"] 5 vn bu dC:=⟨js z.fn M ef a0,ef,z.fn.kp,a0⟩;have hn:Use l.prog w K mg base "_law_tree" ["_law_row"] 5 tG bt dB:=⟨jd y.fn M ec Z,ec,y.fn.kp,Z⟩;have V:Use l.prog w K mg base "_law_made" ["_law_way","_law_k"] 11 tL bl dA:=⟨bN x.fn M ei ho hn,fT,x.fn.kp,e6⟩;have hk:Use l.prog w K mg base "_law_any" ["_law_left_here"] 3 nq bc dx:=⟨bT u.fn M g ej,fS,u.fn.kp,e5⟩;have hj:Use l.prog w K mg base "_law_changed" ["_law_left_here","_law_net_here"] 2 gO bb dt:=⟨zat t.fn M g,fR,t.fn.kp,e4⟩;have hi:Use l.prog w K mg base "_law_net" ["_law_left_here"] 12 nj ba dr:=⟨bM r.fn M g hk V hj,fP,r.fn.kp,e3⟩;have hh:Use l.prog w K mg base "_law_some" ["_law_left_here","_law_net_here"] 2 qO a9 dp:=⟨eF q.fn M g,fN,q.fn.kp,e1⟩;have hg:Use l.prog w K mg base "_law_ends" ["_law_net_here","_law_counts_here"] 1 uR a8 de:=⟨eI o.fn M,fM,o.fn.kp,e0⟩;have hc:Use l.prog w K mg base "_law_counts" ["_law_left_here","_law_net_here","_law_some_here"] 2 nk a7 dd:=⟨bQ n.fn M g,fL,n.fn.kp,eN⟩;have hb:Use l.prog w K mg base "_law_evened" ["_law_left_here"] 13 gM a6 c9:=⟨zar m.fn M g hi V ei ej,fK,m.fn.kp,eM⟩;have ha:Use l.prog w K mg base "_law_told" ["_law_net_here","_law_some_here"] 9 (nZ qR Pt) a5 c8:=⟨bI k.fn mE xm hD fY F.fn.kp fc,fI,k.fn.kp,ez⟩;exact zap W.fn M hq hb hh ha hc hg g V
theorem zby {l:PySem.W.OpenLaw}{q:Yo}{loose:List Str}{y:(Str->Option Jo)->YP->Prop}{i:YI->YP->Prop}{d:DefRec}{K:Params->Jl}{Pt:JI}(o:l.most=some 63) (g:d.params.defaults=[])
  (t:∀ (w:YI) (h:YP),i w h->(K w.params).In h/\∀ p∈[Pt],h.get? p=some (PySem.W.tabObj #[]))
  (F:∀ (w:YI) (mg:Str->Option Jo) (e:JI) (h:YP),(K w.params).In h->h.Ns mainGlobals mg->mg d.name=some (.ref e)->((K w.params).lookup Pt=none/\∃ c,PySem.W.codeHdIn (K w.params) c Pt=true) /\
   ∃ fd:Yl,(∀ (s:JO) (u:Jo),BindsTo s fd ⟨[u],[]⟩ [("_law_script",u)])/\∀ base:YP,(K w.params).In base->base.Ns mainGlobals mg->(∀ p∈[Pt],base.BuiltinsAt mg p)->FnOk l.prog w (K w.params) mg base CX0 14 e fd ["_law_script"] (lZ (K w.params) Pt)) :
  PySem.W.WalkO q loose y i l.row.toRowW d [] (λf vs=>PySem.call f vs) :=
 L2.i6 (n:=63) (k:=14) (x:="_law_script") (CX:=CX0) (sp:=λK=>lZ K Pt) [Pt] o (by decide) g ⟨rfl,by decide,by decide,rfl⟩ t (λw mg e h a b c=>⟨λp m=>Ja.mp m ▸ (F w mg e h a b c).1,(F w mg e h a b c).2⟩) (λ_ _ a ns r v j=>⟨a,ns,rfl,v,r,j Pt (.head _),λ_=>rfl⟩) λ_ _ _ _ z=>z
end K44
theorem PySem.W.Fast.tw3797795500460946301:True:=trivial
theorem PySem.W.Fast.tw13890372801800424158:True:=trivial
theorem PySem.W.Fast.tw14747906654517760035:True:=trivial
theorem PySem.W.Fast.tw11075192130423433811:True:=trivial
theorem PySem.W.Fast.tw1567968021564702997:True:=trivial
theorem PySem.W.Fast.tw907265124360729059:True:=trivial
theorem PySem.W.Fast.tw3907328725005095857:True:=trivial
theorem PySem.W.Fast.tw7262775696529545256:True:=trivial
theorem PySem.W.Fast.tw2474993862028244586:True:=trivial
theorem PySem.W.Fast.tw9023536349609619026:True:=trivial
theorem PySem.W.Fast.tw530003203265845065:True:=trivial
theorem PySem.W.Fast.tw17066901685410831202:True:=trivial
theorem PySem.W.Fast.tw13193618721775916126:True:=trivial
theorem PySem.W.Fast.tw1284048041366936695:True:=trivial
theorem PySem.W.Fast.tw15973382894556423431:True:=trivial
theorem PySem.W.Fast.tw15050068167670662105:True:=trivial
theorem PySem.W.Fast.tw16488525477904027834:True:=trivial
theorem PySem.W.Fast.tw15120542876421076255:True:=trivial
theorem PySem.W.Fast.tw16579752505668885596:True:=trivial
theorem PySem.W.Fast.tw8407784211436461078:True:=trivial
theorem PySem.W.Fast.tw13408676171632193171:True:=trivial
theorem PySem.W.Fast.tw18327399869714530601:True:=trivial
theorem PySem.W.Fast.tw9838209142755124845:True:=trivial
theorem PySem.W.Fast.tw913058300740663642:True:=trivial
theorem PySem.W.Fast.tw7018651199650246698:True:=trivial
theorem PySem.W.Fast.tw38371855632334978:True:=trivial
theorem PySem.W.Fast.tw3554925100465979289:True:=trivial
theorem PySem.W.Fast.tw14154878550604639519:True:=trivial
theorem PySem.W.Fast.tw11252997546036052198:True:=trivial
theorem PySem.W.Fast.tw400281778854794366:True:=trivial
theorem PySem.W.Fast.tw3050925568913681532:True:=trivial
theorem PySem.W.Fast.tw17567772162564434148:True:=trivial
theorem PySem.W.Fast.tw13705237944898748224:True:=trivial
theorem PySem.W.Fast.tw7267482882543950954:True:=trivial
theorem PySem.W.Fast.tw6507787411099515253:True:=trivial
theorem PySem.W.Fast.tw5664890251752755986:True:=trivial
theorem PySem.W.Fast.tw9573904818539217893:True:=trivial
theorem PySem.W.Fast.tw3788048202856804050:True:=trivial
theorem PySem.W.Fast.tw9237246658177370854:True:=trivial
theorem PySem.W.Fast.tw1352806801118921387:True:=trivial
theorem PySem.W.Fast.tw4377601457107204463:True:=trivial
theorem PySem.W.Fast.tw10922864295035830094:True:=trivial
theorem PySem.W.Fast.tw6206647091827685712:True:=trivial
theorem PySem.W.Fast.tw6312511835554077535:True:=trivial
theorem PySem.W.Fast.tw10113938580561719232:True:=trivial
theorem PySem.W.Fast.tw7649964484858875284:True:=trivial
theorem PySem.W.Fast.tw9751823078700238303:True:=trivial
theorem PySem.W.Fast.tw11374859160219925426:True:=trivial
open PySem PySem.W PyProof.Rows
set_option maxRecDepth 100000 in
set_option maxHeartbeats 0 in
theorem PySem.Challenge.cw_stairlanes_k44_never_farther_apart_holds : PySem.Challenge.rw_stairlanes_k44_never_farther_apart.Holds := by
 w_on;o_law;k_head;(case hw=>w_witness2)
 k_fill
 refine K44.zby (l:=PySem.Challenge.rw_stairlanes_k44_never_farther_apart) rfl rfl (fun w h Y=>⟨PySem.W.km_in_of Y,PySem.W.km_tabs_of Y⟩) ?F
 case F =>
  intro w mg fa h KX G hmg
  refine' K44.zaO KX G hmg (K44.yP ?a1 ?l1 ?c1 ?k1) (K44.yP ?a2 ?l2 ?c2 ?k2) (K44.yP ?a3 ?l3 ?c3 ?k3) (K44.yP ?a4 ?l4 ?c4 ?k4) (K44.yP ?a5 ?l5 ?c5 ?k5) (K44.yP ?a6 ?l6 ?c6 ?k6) (K44.yP ?a7 ?l7 ?c7 ?k7) (K44.yP ?a8 ?l8 ?c8 ?k8) (K44.yP ?a9 ?l9 ?c9 ?k9) (K44.yP ?a10 ?l10 ?c10 ?k10) (K44.yP ?a11 ?l11 ?c11 ?k11) (K44.yP ?a12 ?l12 ?c12 ?k12) (K44.yP ?a13 ?l13 ?c13 ?k13) (K44.yP ?a14 ?l14 ?c14 ?k14) (K44.yP ?a15 ?l15 ?c15 ?k15) (K44.yP ?a16 ?l16 ?c16 ?k16) (K44.yP ?a17 ?l17 ?c17 ?k17) (K44.yP ?a18 ?l18 ?c18 ?k18) (K44.yP ?a19 ?l19 ?c19 ?k19) (K44.yP ?a20 ?l20 ?c20 ?k20) (K44.yP ?a21 ?l21 ?c21 ?k21) (K44.zaH ?a22 ?l22 ?c22 ?k22) (K44.yP ?a23 ?l23 ?c23 ?k23) (K44.yP ?a24 ?l24 ?c24 ?k24) (K44.yP ?a25 ?l25 ?c25 ?k25) (K44.yP ?a26 ?l26 ?c26 ?k26) (K44.yP ?a27 ?l27 ?c27 ?k27) (K44.yP ?a28 ?l28 ?c28 ?k28) (K44.yP ?a29 ?l29 ?c29 ?k29) (K44.yP ?a30 ?l30 ?c30 ?k30) (K44.yP ?a31 ?l31 ?c31 ?k31) (K44.yP ?a32 ?l32 ?c32 ?k32) (K44.yP ?a33 ?l33 ?c33 ?k33) (K44.yP ?a34 ?l34 ?c34 ?k34) (K44.yP ?a35 ?l35 ?c35 ?k35) (K44.yP ?a36 ?l36 ?c36 ?k36) (K44.yP ?a37 ?l37 ?c37 ?k37) (K44.yP ?a38 ?l38 ?c38 ?k38) (K44.yP ?a39 ?l39 ?c39 ?k39) ?z1 ?z2 ?z3 ?z4 ?z5 ?z6 ?z7 ?z8 ?z9 ?z10 ?z11 ?z12 ?z13 ?z14 ?z15 ?z16 ?aE ?lE ?lN ?uN ?iE ?cCL ?lM ?uM ?iM ?kpE ?y1 ?cCE ?y2 ?y3 (K44.ic ?lH2 ?eH2) ?nB4 ?kP
  (case a1|l1|c1|k1|a2|l2|c2|k2|a3|l3|c3|k3|a4|l4|c4|k4|a5|l5|c5|k5|a6|l6|c6|k6|a7|l7|c7|k7|a8|l8|c8|k8|a9|l9|c9|k9|a10|l10|c10|k10|a11|l11|c11|k11|a12|l12|c12|k12|a13|l13|c13|k13|a14|l14|c14|k14|a15|l15|c15|k15|a16|l16|c16|k16|a17|l17|c17|k17|a18|l18|c18|k18|a19|l19|c19|k19|a20|l20|c20|k20|a21|l21|c21|k21|a22|l22|c22|k22|a23|l23|c23|k23|a24|l24|c24|k24|a25|l25|c25|k25|a26|l26|c26|k26|a27|l27|c27|k27|a28|l28|c28|k28|a29|l29|c29|k29|a30|l30|c30|k30|a31|l31|c31|k31|a32|l32|c32|k32|a33|l33|c33|k33|a34|l34|c34|k34|a35|l35|c35|k35|a36|l36|c36|k36|a37|l37|c37|k37|a38|l38|c38|k38|a39|l39|c39|k39|z1|z2|z3|z4|z5|z6|z7|z8|z9|z10|z11|z12|z13|z14|z15|z16|aE|lE|lN=>k_is)
  (case uN=>simp[PySem.W.nsOkIn,List.lookup])
  (case iE|cCL|lM=>k_is)
  (case uM=>simp[PySem.W.nsOkIn,List.lookup])
  (case iM|kpE|y1|cCE|y2|y3=>k_is)
  (case lH2=>k_is);(case eH2=>rfl);(case nB4=>decide);(case kP=>rfl)
