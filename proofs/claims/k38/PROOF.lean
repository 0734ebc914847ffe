import PyProof.Rows.All
import Wide.All
import OpenK.AllK
import Wide.FinOn
import Lean
import PyProof.EqAt
import PyProof.EqKinds
import PyProof.TupleCall
import PyProof.NeKinds
import KE.KIntText
import PyProof.TupleOfStr
import PyProof.ReprRoads
import PyProof.NeData
import PyProof.DictKinds
import PyProof.AttrMiss
import PyProof.IsiH_list
import KE.KDictOf
import KE.KSortTup
import KE.KItemsList
import KE.KDictSum
import PyProof.DictWalks
import PyProof.DictItems
import KE.KDictList
import KE.KEqDict
import KE.KPairComp
import PyProof.DictTruth
import PyProof.MeetsDict
import PyProof.DictCompW
import PyProof.EvalArms
import KE.KLam
import KE.KNestM
import PyProof.Defs
import PyProof.P3In
import PyProof.Rows.SortRev
import PyProof.Rows.Range3
import PyProof.TupleCall
import PyProof.TupleOfSeq
import PyProof.StrBlockL
import PyProof.StrLawsTight
import PyProof.StrWalks
import PyProof.SliceStr2
import PyProof.StrLawsIdx
import PyProof.Rows.ReprOcc
import PyProof.Rows.StrBin
import PyProof.CollectIter
import PyProof.Rows.FStr
import PyProof.AutoIntG2
import PySem.Challenge.RW_stairlanes_k38_books_taken
set_option Elab.async false
set_option linter.all false
local macro_rules|`(tactic| lia)=>`(tactic| first|with_reducible(first|assumption|exact Nat.le_of_lt ‹_›|exact Nat.lt_succ_of_le ‹_›|exact Nat.le_succ_of_le ‹_›|exact Nat.le_of_not_lt ‹_›|exact Nat.le_trans ‹_› ‹_›|exact Nat.lt_of_lt_of_le ‹_› ‹_›|exact Nat.sub_one_lt_of_le ‹_› ‹_›)|lia -verbose)
set_option maxRecDepth 100000
local macro_rules|`(tactic|rfl')=>`(tactic|first|exact⟨by rfl,by first|exact Or.inl rfl|exact Or.inr (.inl rfl)|exact Or.inr (.inr rfl),by decide,by decide⟩|exact⟨rfl,rfl,rfl,by decide +kernel,rfl,by decide +kernel,by decide +kernel⟩|exact True.intro|rfl|assumption|exact .inl rfl|exact .inr rfl|trivial)
section
open PySem PySem.Spec PyProof.Rows
def J0:=@wpAny_bind
def J6:=@Heap.get?_push_of_some
def J7:=@wpAny_pure
def J8:=@List.getElem?_eq_getElem
def J9:=@List.getElem?_eq_some_iff
def Ja:=@List.mem_singleton
def Jb:=@List.length_append
def Jc:=@List.length_map
def Jd:=@Nat.le_refl
def Je:=@if_neg
def Jf:=@Option.some.inj
def Jg:=@List.size_toArray
def Jh:=@Bool.false_ne_true
def Jj:=@decide_eq_false
def Jm:=@if_pos
def Jn:=@Heap.lt_size
def Jp:=@Heap.get?_push_size
def Jq:=@List.mem_cons
def Jr:=@List.mem_append
def Js:=@List.mem_append_right
def Jt:=@decide_eq_true
def Ju:=@wpS_bind
def Jv:=@List.not_mem_nil
def Jw:=@List.mem_map
def Jx:=@wpS_pure
def Jy:=@Array.length_toList
def Jz:=@Nat.zero_le
def JA:=@List.getD_eq_getElem?_getD
def JB:=@Nat.ne_of_lt
def JC:=@List.length_take
def JD:=@List.mem_cons_of_mem
def JE:=@sizeLine_eq
def JF:=@List.mem_of_getElem?
def JG:=@List.map_append
def JH:=@List.mem_cons_self
def JJ:=@Nat.lt_of_lt_of_le
def JK:=@wpAny_mono
def JL:=@PySem.W.mg_of
def JM:=@List.length_cons
def JN:=@wpAny_newObj_type
def JP:=@List.nodup_cons
def JQ:=@congrArg
def JR:=@List.map_cons
def JS:=@Nat.le_trans
def JT:=@List.mem_append_left
def JU:=@Paired.length
def JV:=@List.getElem?_map
def JW:=@List.append_assoc
def JX:=@Option.map_eq_some_iff
def JY:=@PySem.W.mg_none_of
def JZ:=@List.append_nil
def Y0:=@List.take_append_getElem
def Y1:=@PySem.boot_len
def Y2:=@PySem.F.plainAttrs_list
def Y3:=@Array.getElem?_toList
def Y4:=@wpAny_dictEntries
def Y5:=@wpAny_holding
def Y6:=@wpAny_call_entry
def Y7:=@Array.toList_append
def Y8:=@List.take_of_length_le
def Y9:=@List.take_length
def Ya:=@wpAny_dictEpoch
def Yb:=@PassesOwn.never
def Yc:=@Array.size_push
def Yd:=@Bool.eq_iff_iff
def Ye:=@wpAny_seqItems
def Yf:=@Array.getElem?_eq_some_iff
def Yg:=@Int.toNat_natCast
def Yh:=@Heap.get?_update_other
def Yi:=@Bool.false_eq_true
def Yj:=@wpAny_setField_rec
def Yk:=@List.replicate_succ
def Ym:=@PyProof.Rows.callWith_type1
def Yn:=@wpS_forRange
def Yp:=@Array.size_append
def Yq:=@of_decide_eq_true
def Yr:=@List.pairwise_append
def Ys:=@List.lookup_cons
def Yt:=@List.drop_eq_getElem_cons
def Yu:=@wpAny_truthy_bool
def Yv:=@Int.compare_eq_lt
def Yw:=@Int.compare_eq_gt
def Yx:=@List.nodup_nil
def Yy:=@PySem.F.slot_list_append
def Yz:=@PySem.F.type_list_append
def YA:=@List.map_map
def YB:=@List.find?_cons
def YC:=@List.all_eq_true
def YD:=@Nat.pow_le_pow_right
def YE:=@Nat.lt_irrefl
def YF:=@Int.compare_eq_eq
def YG:=@Heap.SameBut.update
def YH:=@PySem.W.kia_one
def YJ:=@Heap.get?_update_self
def YK:=@Bool.and_eq_true
def YL:=@F.plain_min_loop
def YM:=@Nat.ne_of_gt
def YN:=@wpAny_typeOf
def YQ:=@List.mem_range
def YR:=@Heap.size_push
def YS:=@Around.under_plainId
def YT:=@List.mem_iff_getElem
def YU:=@List.flatten_cons
def YV:=@decide_eq_true_eq
def YW:=@decide_eq_false_iff_not
def YX:=@wpAny_rule
def YY:=@size_of_entries
def YZ:=@beq_eq_false_iff_ne
def Z0:=@wpAny_standAt
def Z1:=@wpS_mono
def Z2:=@List.extract_eq_take_drop
def Z3:=@List.forIn_cons
def Z4:=@codeAny_builtin
def Z5:=@List.take_succ_eq_append_getElem
def Z6:=@List.length_range
def Z7:=@List.getElem?_take_of_lt
def Z8:=@PySem.mem_of_lookup
def Z9:=@if_true
def Za:=@List.take_succ_cons
def Zb:=@List.length_drop
def Zc:=@List.forIn_nil
def Zd:=@List.length_eq_zero_iff
def Ze:=@Paired.snoc
def Zf:=@wpAny_Call_Name_kw
def Zg:=@Calls.callWith_builtin
def Zh:=@Nat.pow_succ
def Zi:=@if_false
def Zj:=@List.length_nil
def Zk:=@plainId_quiet
def Zm:=@List.mem_iff_getElem?
def Zn:=@wpAny_notOrdered_dict
def Zp:=@Array.toList_push
def Zq:=@List.foldl_append
def Zr:=@Int.lt_trichotomy
def Zs:=@List.getElem?_append_right
def Zt:=@Std.Legacy.Range.forIn_eq_forIn_range'
def Zu:=@Array.toList_extract
def Zv:=@wpAny_isInstance
def Zw:=@List.getElem_mem
def Zx:=@Int.le_trans
def Zy:=@List.getElem?_append_left
def Zz:=@List.getElem?_zip_eq_some
def ZA:=@Array.getElem?_eq_getElem
def ZB:=@List.map_congr_left
def ZC:=@List.length_pos_iff
def ZD:=@Option.isSome_iff_exists
def ZE:=@or_false
def ZF:=@wpAny_passesOwn
def ZG:=@List.length_zip
def ZH:=@Calls.spliced_cons
def ZJ:=@List.filterMap_map
def ZK:=@Nat.one_le_two_pow
def ZL:=@Nat.lt_succ_of_lt
def ZM:=@Nat.zero_add
def ZN:=@List.take_zero
def ZP:=@List.nodup_append
def ZQ:=@PyProof.Rows.slot_tuple_getitem
def ZR:=@List.length_replicate
def ZS:=@List.perm_append_comm
def ZT:=@call_meets
def ZU:=@Option.getD_some
def ZV:=@beq_self_eq_true
def ZW:=@wpAny_typeNameOfWhole_itemiter
def ZX:=@wpAny_attempt
def ZY:=@wpAny_field
def ZZ:=@wpAny_letGo
def W0:=@Int.le_refl
def W5:=@wpAny_typeNameOfWhole_keyiter
def W6:=@F.slot_dict_itemiterator_next
def W7:=@Nat.add_mul
def W8:=@Bool.or_eq_true
def W9:=@wpAny_specialOf
def Wa:=@F.slot_dict_keyiterator_next
def Wb:=@Int.emod_nonneg
def Wc:=@Array.toList_modify
def Wd:=@wpS_get
def We:=@List.drop_zero
def Wf:=@wpS_modify
def Wg:=@wpAny_tryCatch
def Wh:=@Nat.mul_le_mul
def Wi:=@Nat.lt_of_le_of_lt
def Wj:=@Int.emod_lt_of_pos
def Wk:=@Calls.spliced_nil
def Wm:=@AutoSeq1.wpAny_loadPart'
end
abbrev Jl:=PySem.W.Frag
abbrev Jo:=PySem.Value
abbrev JI:=PySem.Addr
abbrev JO:=PySem.Shared
abbrev Yl:=PySem.FuncData
abbrev Yo:=PySem.Program
abbrev YI:=PySem.World
abbrev YO:=PySem.Around
abbrev YP:=PySem.Heap
namespace L2
open PySem PySem.Spec PyProof.Rows
noncomputable abbrev Key:=Sum Int Str
noncomputable def sD:Key->Jo->Bool
  | .inl k,v=>Value.isInt k v
  | .inr x,v=>Value.isStrOf x v
noncomputable def zb0 (w:YI):Key->Int
  | .inl k=>hashInt k
  | .inr x=>hashStr w x
theorem yM:∀ {k:Key}{v:Jo},sD k v=true->(∃ i t,k=Sum.inl i/\v=Value.int i t)\/(∃ x t,k=Sum.inr x/\v=Value.str x t)
  | .inl i,v,h=>by
    obtain⟨t,e⟩:=Value.isInt_shape (k:=i) (v:=v) h
    exact .inl ⟨i,t,rfl,e⟩
  | .inr x,v,h=>by
    obtain⟨t,e⟩:=Value.isStrOf_shape (x:=x) (v:=v) h;exact .inr ⟨x,t,rfl,e⟩
theorem iQ (i:Int)(t:Tok):sD (.inl i) (.int i t)=true:=by simp[sD,Value.isInt]
theorem iP (x:Str)(t:Tok):sD (.inr x) (.str x t)=true:=by simp[sD,Value.isStrOf]
theorem zaq (a b:Int):decide ((Sum.inl a:Key)=Sum.inl b)=(a == b):=by
  by_cases e:a=b
  · subst e;simp
  · have h:¬(Sum.inl a:Key)=Sum.inl b:=λq=>e (Sum.inl.inj q)
    rw[Jj h];exact(YZ.mpr e).symm
theorem zam (a b:Str):decide ((Sum.inr a:Key)=Sum.inr b)=decide (a=b):=by
  by_cases e:a=b
  · subst e;simp
  · have h:¬(Sum.inr a:Key)=Sum.inr b:=λq=>e (Sum.inr.inj q)
    rw[Jj h,Jj e]
theorem zap (a:Int)(b:Str):decide ((Sum.inl a:Key)=Sum.inr b)=false:=Jj (λq=>nomatch q)
theorem zan (a:Str)(b:Int):decide ((Sum.inr a:Key)=Sum.inl b)=false:=Jj (λq=>nomatch q)
noncomputable def yZ (prog:Yo)(w:YI):PySem.KeyKind prog w Key where
  is:=sD
  hash:=zb0 w
  inj:=λv a b l f=>by
    rcases yM l with ⟨i,t,rfl,rfl⟩|⟨x,t,rfl,rfl⟩
    · rcases yM f with ⟨j,u,rfl,e⟩|⟨y,u,rfl,e⟩
      · injection e with c _;rw[c]
      · exact nomatch e
    · rcases yM f with ⟨j,u,rfl,e⟩|⟨y,u,rfl,e⟩
      · exact nomatch e
      · injection e with c _;rw[c]
  byValue:=λk v h=>by
    rcases yM h with ⟨i,t,rfl,rfl⟩|⟨x,t,rfl,rfl⟩<;>rfl
  pyHash:=λd h=>by
    rcases yM d with ⟨i,t,rfl,rfl⟩|⟨x,t,rfl,rfl⟩
    · exact wpAny_pyHash_int h
    · exact wpAny_pyHash_str h
  eqBool:=λg d h=>by
    rcases yM g with ⟨i,t,rfl,rfl⟩|⟨x,t,rfl,rfl⟩
    · rcases yM d with ⟨j,u,rfl,rfl⟩|⟨y,u,rfl,rfl⟩
      · rw[zaq]at h;exact wpAny_eqBool_int h
      · rw[zap]at h;exact SeqAt.EqAt.int_str i t y u _ _ _ _ h
    · rcases yM d with ⟨j,u,rfl,rfl⟩|⟨y,u,rfl,rfl⟩
      · rw[zan]at h;exact SeqAt.EqAt.str_int x t j u _ _ _ _ h
      · rw[zam]at h;exact wpAny_eqBool_str h
  «strs»:=λk x t v h=>by
    rcases yM h with ⟨i,u,rfl,e⟩|⟨y,u,rfl,e⟩
    · exact nomatch e
    · injection e with c _
      subst c;cases v<;>rfl
theorem mw (prog:Yo)(w:YI)(k:Key)(v:Jo):(yZ prog w).is k v=sD k v:=rfl
theorem o5 (prog:Yo)(w:YI)(i:Int)(t:Tok):(yZ prog w).is (.inl i) (.int i t)=true:=iQ i t
theorem o4 (prog:Yo)(w:YI)(x:Str)(t:Tok):(yZ prog w).is (.inr x) (.str x t)=true:=iP x t
inductive V where
  | non|bl (b:Bool)|int (i:Int)|str (x:Str)|byt (b:Array UInt8)|flt (b:UInt64)|ref (a:JI)|ty (n:String)
  deriving DecidableEq
noncomputable def RelV:V->Jo->Prop
  | .non,u=>u=Value.none
  | .bl b,u=>u=Value.bool b
  | .int i,u=>∃ t,u=Value.int i t
  | .str x,u=>∃ t,u=Value.str x t
  | .byt b,u=>∃ t,u=Value.bytes b t
  | .flt b,u=>∃ t,u=Value.float b t
  | .ref a,u=>u=Value.ref a
  | .ty n,u=>u=Value.type n
noncomputable abbrev Vals:List V->List Jo->Prop:=Paired RelV
theorem Vals.length {xs:List V}{us:List Jo}(r:Vals xs us):xs.length=us.length:=JU r
theorem Vals.get:∀ {xs:List V}{us:List Jo}{i:Nat}{x:V},Vals xs us->xs[i]?=some x->∃ u,us[i]?=some u/\RelV x u
  | _,_,_,_,.nil,e=>by simp at e
  | _,_,0,_,.cons r _,e=>by simp at e;subst e;exact⟨_,rfl,r⟩
  | _,_,i+1,x,.cons _ t,e=>by
    obtain⟨u,b,a⟩:=Vals.get (i:=i) (x:=x) t (by simpa using e);exact⟨u,by simpa using b,a⟩
theorem Vals.set {x:V}{u:Jo}(r:RelV x u):∀ {xs:List V}{us:List Jo}(i:Nat),Vals xs us->Vals (xs.set i x) (us.set i u)
  | _,_,_,.nil=>.nil
  | _,_,0,.cons _ t=>.cons r t
  | _,_,i+1,.cons q t=>.cons q (Vals.set r i t)
theorem Vals.append:∀ {xs ys:List V}{us ws:List Jo},Vals xs us->Vals ys ws->Vals (xs++ys) (us++ws)
  | _,_,_,_,.nil,s=>s
  | _,_,_,_,.cons r t,s=>.cons r (Vals.append t s)
theorem Vals.take:∀ {xs:List V}{us:List Jo}(n:Nat),Vals xs us->Vals (xs.take n) (us.take n)
  | _,_,0,_=>.nil
  | _,_,_+1,.nil=>.nil
  | _,_,n+1,.cons r t=>.cons r (Vals.take n t)
theorem Vals.drop:∀ {xs:List V}{us:List Jo}(n:Nat),Vals xs us->Vals (xs.drop n) (us.drop n)
  | _,_,0,r=>r
  | _,_,_+1,.nil=>.nil
  | _,_,n+1,.cons _ t=>Vals.drop n t
noncomputable def RelO:Option V->Option Jo->Prop
  | some v,some u=>RelV v u
  | none,none=>True
  | _,_=>False
noncomputable def KV {κ:Type}:List (κ × V)->List (κ × Jo)->Prop:=Paired λ(p:κ × V) (q:κ × Jo)=>p.1=q.1/\RelV p.2 q.2
noncomputable def kV:Key->V
  | .inl i=>.int i
  | .inr x=>.str x
inductive HO where
  | lst (xs:List V)
  | tup (xs:List V)
  | dK (kvs:List (Key × V))|dT (kvs:List (List Key × V))
  | set (S:Int->Bool) (n:Nat)
  | ins (C dx:JI) (fs:List (Str × V))
  | own (x:JI)
  | xd (fs:List (Str × V))
  | met (f x:JI)
  | rng (lo hi:Int)
  | frz (o:Obj) (u:HO)
  | tbl (ps:Array Jo)
  | ext (φ:YP->Prop)
noncomputable abbrev Hp:=JI->Option HO
noncomputable def upd (H:Hp)(a:JI)(o:HO):Hp:=λb=>if b=a then some o else H b
theorem zB {H:Hp}{a:JI}{o:HO}:upd H a o a=some o:=by unfold upd;rw[Jm rfl]
theorem zG {H:Hp}{a b:JI}{o:HO}(h:b≠a):upd H a o b=H b:=by unfold upd;rw[Je h]
theorem yD {H:Hp}{a b:JI}{o u:HO}(h:H a=some o)(h':H b=some u)(d:o≠u):a≠b:=by
  intro e;subst e;rw[h]at h';exact d (Jf h')
theorem zE {H:Hp}{a b:JI}{o:HO}(h:H a=some o)(h':H b=none):a≠b:=by
  intro e;subst e;rw[h]at h';cases h'
noncomputable def TupX (h:YP)(a:JI)(items:Array Jo):Prop:=∃ o,h.get? a=some o/\o.cls=.type "tuple"/\∃ n,o.data=.seq items n/\o.dict=none
theorem TupX.tup {h:YP}{a:JI}{items:Array Jo}(x:TupX h a items):IsTup h a items:=let ⟨o,e,c,n,d,_⟩:=x;⟨o,e,c,n,d⟩
theorem TupX.new (h:YP)(items:Array Jo):TupX (h.push { cls:=.type "tuple",data:=.seq items }) h.objs.size items:=⟨_,Jp _ rfl,rfl,0,rfl,rfl⟩
section
variable (P:Yo)(w:YI)
noncomputable def ObjOk (H:Hp)(h:YP)(a:JI):HO->Prop
  | .lst xs=>xs.length<=sizeLine/\∃ (its:List Jo) (n:Nat),Vals xs its/\h.get? a=some { cls:=.type "list",data:=.seq its.toArray n }
  | .tup xs=>xs.length<=sizeLine/\∃ its:List Jo,Vals xs its/\TupX h a its.toArray
  | .dK b=>b.length<=sizeLine/\(a == sysModules)=false/\∃ g,KV b g/\h.DictOf (yZ P w) a g
  | .dT b=>b.length<=sizeLine/\(a == sysModules)=false/\∃ xs:List (List Key × JI × Jo),
      Paired (λ(p:List Key × V) (q:List Key × JI × Jo)=>p.1=q.1/\H q.2.1=some (.tup (p.1.map kV))/\RelV p.2 q.2.2) b xs /\
      ∃ o k m,h.get? a=some o/\o.ExactDict/\o.data=.dict k m/\k.toList=xs.map (entryOfKey (tupleKind (yZ P w)))/\(xs.map (·.1)).Nodup
  | .set S n=>h.SetOf (intKind P w) a S n
  | .ins C d fs=>H d=some (.own a)/\fs.length<=1000/\d≠a/\h.get? a=some (PySem.W.instObj C d) /\
      ∃ c,h.Ns1 d c/\(∀ f,RelO (fs.lookup f) (c f))/\PySem.Within c (fs.map (·.1))
  | .own _=>∃ o,h.get? a=some o
  | .xd fs=>∃ c,h.Ns1 a c/\∀ f,RelO (fs.lookup f) (c f)
  | .rng lo hi=>∃ t u v,h.get? a=some { cls:=.type "range",data:=.fields #[.int lo t,.int hi u,.int 1 v] }
  | .frz o u=>h.get? a=some o/\ObjOk H h a u
  | .tbl l=>h.get? a=some { cls:=.none,data:=.fields l }
  | .met f x=>h.get? a=some (PySem.W.methodObj (.ref f) (.ref x))
  | .ext e=>e h/\(∃ o,h.get? a=some o)/\∀ j i:YP,e j->(∀ o,j.get? a=some o->i.get? a=some o)->e i
noncomputable def HOk (H:Hp)(h:YP):Prop:=∀ a o,H a=some o->ObjOk P w H h a o
end
section
variable {P:Yo}{w:YI}{H H':Hp}{h h':YP}{a:JI}{o:HO}
theorem ObjOk.lt (x:ObjOk P w H h a o):a<h.objs.size:=by
  cases o with
  | lst c=>obtain⟨_,_,_,_,e⟩:=x;exact Jn e
  | tup c=>obtain⟨_,_,_,p⟩:=x;exact p.tup.lt
  | dK b=>obtain⟨_,_,_,_,o,_,_,e,_⟩:=x;exact Jn e
  | dT b=>obtain⟨_,_,_,_,o,_,_,e,_⟩:=x;exact Jn e
  | set S n=>obtain⟨o,_,_,_,e,_⟩:=x;exact Jn e
  | ins C i fs=>obtain⟨_,_,_,e,_⟩:=x;exact Jn e
  | own y=>obtain⟨_,e⟩:=x;exact Jn e
  | xd fs=>obtain⟨_,⟨_,_,_,e,_⟩,_⟩:=x;exact Jn e
  | rng lo hi=>obtain⟨_,_,_,e⟩:=x;exact Jn e
  | frz ob u=>obtain⟨e,_⟩:=x;exact Jn e
  | tbl g=>exact Jn (show h.get? a=some _ from x)
  | met f y=>exact Jn (show h.get? a=some _ from x)
  | ext d=>obtain⟨_,⟨_,e⟩,_⟩:=x;exact Jn e
theorem Paired.mapP {α β:Type}{F G:α->β->Prop}:∀ {l₁:List α}{l₂:List β},Paired F l₁ l₂->(∀ a b,F a b->G a b)->Paired G l₁ l₂
  | _,_,.nil,_=>.nil
  | _,_,.cons r t,f=>.cons (f _ _ r) (Paired.mapP t f)
theorem ObjOk.stay (x:ObjOk P w H h a o)(k:∀ b u,(b=a\/H b=some (.own a))->h.get? b=some u->h'.get? b=some u)(E:∀ b,H b=some (.own a)->H' b=some (.own a))(D:∀ b xs,H b=some (.tup xs)->H' b=some (.tup xs)):ObjOk P w H' h' a o:=by
  induction o with
  | lst xs=>obtain⟨z,j,n,r,e⟩:=x;exact⟨z,j,n,r,k _ _ (.inl rfl) e⟩
  | tup xs=>obtain⟨z,j,r,ob,e,c⟩:=x;exact⟨z,j,r,ob,k _ _ (.inl rfl) e,c⟩
  | dK s=>obtain⟨z,y,B,r,ob,g,i,e,c⟩:=x;exact⟨z,y,B,r,ob,g,i,k _ _ (.inl rfl) e,c⟩
  | dT s =>
    obtain⟨z,y,xs,r,ob,g,i,e,c⟩:=x
    exact⟨z,y,xs,Paired.mapP r λp q z=>⟨z.1,D _ _ z.2.1,z.2.2⟩,ob,g,i,k _ _ (.inl rfl) e,c⟩
  | set S n=>obtain⟨ob,g,i,t,e,c⟩:=x;exact⟨ob,g,i,t,k _ _ (.inl rfl) e,c⟩
  | ins C G fs =>
    obtain⟨d,z,ne,e,m,⟨l,g,i,e2,c⟩,r⟩:=x
    exact⟨E _ d,z,ne,k _ _ (.inl rfl) e,m,⟨l,g,i,k _ _ (.inr d) e2,c⟩,r⟩
  | own y=>obtain⟨ob,e⟩:=x;exact⟨ob,k _ _ (.inl rfl) e⟩
  | xd fs=>obtain⟨m,⟨l,g,i,e,c⟩,r⟩:=x;exact⟨m,⟨l,g,i,k _ _ (.inl rfl) e,c⟩,r⟩
  | rng lo hi=>obtain⟨t,u,v,e⟩:=x;exact⟨t,u,v,k _ _ (.inl rfl) e⟩
  | frz ob u ih=>obtain⟨e,q⟩:=x;exact⟨k _ _ (.inl rfl) e,ih q⟩
  | tbl A =>
    have e:h.get? a=some { cls:=.none,data:=.fields A }:=x;show h'.get? a=some { cls:=.none,data:=.fields A }
    exact k a _ (.inl rfl) e
  | met f y =>
    have e:h.get? a=some (PySem.W.methodObj (.ref f) (.ref y)):=x;show h'.get? a=some (PySem.W.methodObj (.ref f) (.ref y))
    exact k a _ (.inl rfl) e
  | ext F=>obtain⟨p,⟨o,e⟩,st⟩:=x;exact⟨st _ _ p λo q=>k _ _ (.inl rfl) q,⟨o,k _ _ (.inl rfl) e⟩,st⟩
theorem HOk.lt (x:HOk P w H h)(e:H a=some o):a<h.objs.size:=(x a o e).lt
theorem HOk.fresh (x:HOk P w H h)(e:h.objs.size<=a):H a=none:=by
  cases q:H a with
  | none=>rfl
  | some u=>exact absurd (JJ (x.lt q) e) (YE _)
theorem HOk.kept (x:HOk P w H h)(k:∀ b u,h.get? b=some u->h'.get? b=some u):HOk P w H h':=λa o e =>
  (x a o e).stay (λb u _ q=>k b u q) (λ_ q=>q) λ_ _ q=>q
theorem HOk.laid (x:HOk P w H h)(k:∀ b u,h.get? b=some u->h'.get? b=some u)(g:h.objs.size<=a)(new:ObjOk P w (upd H a o) h' a o):HOk P w (upd H a o) h':=λb u e=>by
  have d:=x.fresh g;by_cases f:b=a
  · subst f;rw[zB]at e;cases e;exact new
  · rw[zG f]at e
    exact(x b u e).stay (λc v _ q=>k c v q) (λc q=>by rw[zG (zE q d)];exact q) λc i q=>by rw[zG (zE q d)];exact q
end
noncomputable def Rd (H:Hp)(a:JI)(u:HO):Prop:=H a=some u\/∃ o,H a=some (.frz o u)
theorem Rd.ok {P:Yo}{w:YI}{H:Hp}{h:YP}{a:JI}{u:HO}(r:Rd H a u)(x:HOk P w H h):ObjOk P w H h a u:=by
  rcases r with r|⟨o,r⟩
  · exact x a u r
  · obtain⟨_,q⟩:=x a _ r
    exact q
noncomputable def Mut:Option HO->Prop
  | some (.lst _)=>True
  | some (.dK _)=>True
  | some (.dT _)=>True
  | some (.set _ _)=>True
  | some (.ins _ _ _)=>True
  | some (.ext _)=>True
  | _=>False
section
variable {P:Yo}{w:YI}{H:Hp}{h h':YP}{x e:JI}{o':HO}
theorem HOk.write (ok:HOk P w H h)(i:Mut (H x))(o:e=x\/H e=some (.own x))(k:∀ b u,b≠e->h.get? b=some u->h'.get? b=some u)(m:∃ u,h'.get? e=some u)(new:ObjOk P w (upd H x o') h' x o'):HOk P w (upd H x o') h':=λb u q=>by
  have d:∀ c y,H c=some (.own y)->c≠x:=λc y r z=>by subst z;rw[r]at i;exact i
  have f:∀ c g,H c=some (.tup g)->c≠x:=λc g r z=>by subst z;rw[r]at i;exact i
  by_cases l:b=x
  · subst l;rw[zB]at q;cases q;exact new
  · rw[zG l]at q
    by_cases a:b=e
    · have n:H b=some (.own x):=by
        rcases o with z|z
        · exact absurd (a.trans z) l
        · rw[a];exact z
      rw[q]at n;cases n;obtain⟨v,p⟩:=m;exact⟨v,by rw[a];exact p⟩
    · refine(ok b u q).stay (λc v j r=>k c v ?_ r) (λc r=>by rw[zG (d c b r)];exact r) λc g r=>by rw[zG (f c g r)];exact r
      rcases j with rfl|j
      · exact a
      · rintro rfl
        rcases o with z|z
        · exact d c b j z
        · rw[j]at z;cases z;exact l rfl
end
structure Un (fs ex:List JI) (H H':Hp) (h h':YP):Prop where
  keep:∀ b o,h.get? b=some o->H b=none->b∉fs->b∉ex->h'.get? b=some o
  slot:∀ b o,h.get? b=some o->H b=none->b∈fs->b∉ex->∃ sl,h'.get? b=some { o with slots:=sl }
  free:∀ b o,h.get? b=some o->H b=none->b∉ex->H' b=none
  there:∀ b o,h.get? b=some o->b∉ex->∃ o',h'.get? b=some o'
  tups:∀ b xs,H b=some (.tup xs)->H' b=some (.tup xs)
  frzs:∀ b o u,H b=some (.frz o u)->H' b=some (.frz o u)
  tbls:∀ b ps,H b=some (.tbl ps)->∃ more,H' b=some (.tbl (ps++more))
section
variable {fs ex:List JI}{H H1:Hp}{h h1 h':YP}{a x e:JI}{o:HO}
theorem Un.any (u:Un fs ex H H1 h h1){b:JI}{ob:Obj}(q:h.get? b=some ob)(n:H b=none)(a:b∉ex):∃ sl,h1.get? b=some { ob with slots:=sl }:=by
  by_cases c:b∈fs
  · exact u.slot b ob q n c a
  · exact⟨ob.slots,u.keep b ob q n c a⟩
theorem Un.kept (k:∀ b u,h.get? b=some u->h'.get? b=some u):Un fs ex H H h h' :=
  ⟨λb ob q _ _ _=>k b ob q,λb ob q _ _ _=>⟨ob.slots,k b ob q⟩,λ_ _ _ n _=>n,λb ob q _=>⟨ob,k b ob q⟩,λ_ _ q=>q,λ_ _ _ q=>q,λ_ a q=>⟨#[],by rw[q];simp⟩⟩
theorem Un.refl:Un fs ex H H h h:=Un.kept λ_ _ q=>q
theorem Un.laid (k:∀ b u,h.get? b=some u->h'.get? b=some u)(d:h.objs.size<=a)(hn:H a=none):Un fs ex H (upd H a o) h h' where
  keep:=λb u q _ _ _=>k b u q
  slot:=λb u q _ _ _=>⟨u.slots,k b u q⟩
  free:=λb u q n _=>by rw[zG (JB (JJ (Jn q) d))];exact n
  there:=λb u q _=>⟨u,k b u q⟩
  tups:=λb c q=>by rw[zG (zE q hn)];exact q
  frzs:=λb u c q=>by rw[zG (zE q hn)];exact q
  tbls:=λb e q=>⟨#[],by rw[zG (zE q hn),q];simp⟩
theorem Un.write (c:Mut (H x))(l:e=x\/H e=some (.own x))(k:∀ b u,b≠e->h.get? b=some u->h'.get? b=some u)(f:∃ u,h'.get? e=some u):Un fs ex H (upd H x o) h h':=by
  have g:∀ b,H b=none->b≠x:=λb n z=>by subst z;rw[n]at c;exact c
  have i:∀ b,H b=none->b≠e:=λb n z=>by
    subst z;rcases l with r|r
    · exact g b n r
    · rw[n]at r;cases r
  have d:∀ b u,H b=some u->¬ Mut (some u)->b≠x:=λb u q nm z=>by subst z;rw[q]at c;exact nm c
  refine⟨λb u q n _ _=>k b u (i b n) q,λb u q n _ _=>⟨u.slots,k b u (i b n) q⟩,λb u q n _=>by rw[zG (g b n)];exact n,λb u q _=>?_,
    λb j q=>by rw[zG (d b _ q λz=>z)];exact q,λb u j q=>by rw[zG (d b _ q λz=>z)];exact q,λb m q=>⟨#[],by rw[zG (d b _ q λz=>z),q];simp⟩⟩
  by_cases a:b=e
  · subst a;exact f
  · exact⟨u,k b u a q⟩
end
noncomputable def trk (h:YP)(H:Hp):List JI:=(List.range h.objs.size).filter λa=>(H a).isSome
noncomputable def rE (h:YP)(H:Hp):YP:=PySem.W.hideAll h (trk h H)
theorem iV (h:YP)(H:Hp):(rE h H).objs.size=h.objs.size:=PySem.W.hideAll_size _ _
theorem eX {h:YP}{H:Hp}{b:JI}{o:Obj}(e:h.get? b=some o)(n:H b=none):(rE h H).get? b=some o :=
  PySem.W.hideAll_get _ e λa=>by
    have q:(H b).isSome=true:=(List.mem_filter.mp a).2;rw[n]at q;simp at q
theorem cj {h:YP}{H:Hp}{b:JI}{o:Obj}(e:(rE h H).get? b=some o):h.get? b=some o/\H b=none:=by
  have a:h.get? b=some o:=PySem.W.of_hideAll (trk h H) e;refine⟨a,?_⟩
  cases q:H b with
  | none=>rfl
  | some x =>
    have c:b∈trk h H:=List.mem_filter.mpr ⟨YQ.mpr (Jn a),by simp[q]⟩;have z:(rE h H).get? b=none:=PySem.W.hideAll_none (trk h H) c;rw[z]at e;cases e
noncomputable def bg (g h:YP)(L:JI):List (JI × Obj):=(List.range h.objs.size).filterMap λa=>if a=L\/(g.get? a).isSome=true then none else (h.get? a).map λo=>(a,o)
noncomputable def rest (g h:YP)(L d:JI):List (JI × Obj):=(bg g h L).filter λp=>decide (p.1≠d)
structure Mod (K:Jl) (mg:Str->Option Jo) (base:YP):Prop where
  kin:K.In base
  glob:base.Ns mainGlobals mg
  blt:∃ mb,base.Ns builtinsNs mb/\∀ x:Str,x≠"__name__"->mb x=bootBuiltins x
  nolimit:base.NoLimit
structure Cx where
  prog:Yo
  w:YI
  K:Jl
  mg:Str->Option Jo
  base:YP
  A:YO
  N:List Str
  s₀:JO
  H₀:Hp
  env:Env
  outer:List Env
  stack:List Env
  ex:List JI
  fn:Str->Bool
  calm:Bool
  pn:List (JI × Obj)
  xe:Jo->JO->Prop
noncomputable def frs (l:List Env):List JI:=l.filterMap (·.frame)
noncomputable abbrev Cx.fs (X:Cx):List JI:=frs X.outer
noncomputable def Vis (sc:Scope)(x:Str):Prop:=sc.names.lookup x=some .local \/ sc.names.lookup x=some .cell\/sc.names.lookup x=some .free
noncomputable def Loc (sc:Scope)(x:Str):Prop:=sc.names.lookup x=some .local \/ sc.names.lookup x=some .cell
noncomputable def Look (env:Env)(h:YP)(m:Str->Option Jo)(x:Str)(u:Jo):Prop :=
  (env.kindOf x=some .local /\ m x=some u)\/((env.kindOf x=some .cell\/env.kindOf x=some .free)/\∃ c,env.cells.lookup x=some c/\h.IsCell c (some u))
structure Cx.Ok (X:Cx):Prop where
  mod:Mod X.K X.mg X.base
  kind:X.env.scope.kind=.function
  glob:X.env.globals=mainGlobals
  blt:X.env.builtins=builtinsNs
  above:X.s₀.heap.objs.size<=X.env.locals
  inj:∀ x y c,X.env.cells.lookup x=some c->X.env.cells.lookup y=some c->x=y
  has:∀ x,(X.env.kindOf x=some .cell\/X.env.kindOf x=some .free)->∃ c,X.env.cells.lookup x=some c
  cab:∀ x c,X.fn x=true->X.env.cells.lookup x=some c->X.s₀.heap.objs.size<=c
  hd:X.calm=true->X.A.handled=none
  frames:X.A.frames=some X.stack
  stk:X.stack=X.outer\/(X.stack=X.env::X.outer/\X.env.frame=some X.env.locals)
  exf:∀ b∈X.ex,b≠X.env.locals/\∀ x c,X.env.cells.lookup x=some c->c≠b
  bs:∀ b o,X.base.get? b=some o->X.s₀.heap.get? b=some o/\X.H₀ b=none
  bsz:X.base.objs.size<=X.s₀.heap.objs.size
  noex:∀ b o,X.base.get? b=some o->b∉X.ex
  exfs:∀ b∈X.ex,b∉X.fs
  funs:X.s₀.heap.FunFrames X.base X.outer
  frf:∀ b∈X.fs,X.H₀ b=none
structure Inv (X:Cx) (pins:List (JI × Obj)) (σ:List (Option V)) (H:Hp) (s:JO):Prop where
  ok:X.Ok
  os:s.os=X.s₀.os
  bare:AllBare s.gens
  base:Un X.fs X.ex X.H₀ H X.s₀.heap s.heap
  loc:∃ m,s.heap.Ns X.env.locals m/\∀ (i:Nat) (x:Str) (v:V),X.N[i]?=some x->σ[i]?=some (some v)->Vis X.env.scope x->∃ u,RelV v u/\Look X.env s.heap m x u
  cell:∀ x c,X.env.cells.lookup x=some c->∃ v,s.heap.IsCell c v
  free:H X.env.locals=none
  freeC:∀ x c,X.env.cells.lookup x=some c->H c=none
  pin:∀ p∈X.pn++pins,s.heap.get? p.1=some p.2/\H p.1=none/\p.1≠X.env.locals/\p.1∉X.fs/\∀ v,p.2.data≠.cell v
  hok:HOk X.prog X.w H s.heap
  len:σ.length=X.N.length
section
variable {X:Cx}{pins:List (JI × Obj)}{σ:List (Option V)}{H H':Hp}{s:JO}{h':YP}
theorem Cx.Ok.nofr (ok:X.Ok){b:JI}{o:Obj}(e:X.base.get? b=some o):b∉X.fs:=λa=>by
  have:=(ok.funs.mem a).1;rw[e]at this;cases this
theorem Inv.bs (I:Inv X pins σ H s):∀ b o,X.base.get? b=some o->s.heap.get? b=some o/\H b=none:=λb o e =>
  ⟨I.base.keep b o (I.ok.bs b o e).1 (I.ok.bs b o e).2 (I.ok.nofr e) (I.ok.noex b o e),I.base.free b o (I.ok.bs b o e).1 (I.ok.bs b o e).2 (I.ok.noex b o e)⟩
theorem Inv.bk (I:Inv X pins σ H s):∀ b o,X.base.get? b=some o->s.heap.get? b=some o:=λb o e=>(I.bs b o e).1
theorem Inv.mod (I:Inv X pins σ H s):Mod X.K X.mg X.base:=I.ok.mod
theorem Inv.kIn (I:Inv X pins σ H s):X.K.In s.heap:=I.ok.mod.kin.keeps I.bk
theorem Inv.lt (I:Inv X pins σ H s):X.env.locals<s.heap.objs.size:=let ⟨_,a,_⟩:=I.loc;a.lt
theorem Inv.sz (I:Inv X pins σ H s):X.s₀.heap.objs.size<=s.heap.objs.size:=JS I.ok.above (Nat.le_of_lt I.lt)
theorem Inv.nofs (I:Inv X pins σ H s){a:JI}(h:s.heap.objs.size<=a):a∉X.fs:=λc=>by
  obtain⟨_,o,b,_⟩:=I.ok.funs.mem c;exact absurd (JJ (Jn b) (JS I.sz h)) (YE _)
theorem Inv.cne (I:Inv X pins σ H s):∀ x c,X.env.cells.lookup x=some c->c≠X.env.locals:=λx c e z=>by
  obtain⟨v,o,d,f⟩:=I.cell x c e;obtain⟨m,⟨g,h,i,a,b,_⟩,_⟩:=I.loc;rw[z,a]at d;cases d;rw[b]at f;cases f
theorem Inv.funs (I:Inv X pins σ H s):s.heap.FunFrames X.base X.outer:=by
  have all:∀ (l:List Env),(∀ b∈frs l,b∈X.fs)->X.s₀.heap.FunFrames X.base l->s.heap.FunFrames X.base l:=by
    intro l
    induction l with
    | nil=>intro _ _;trivial
    | cons env r ih =>
      intro f j;obtain⟨k,⟨L,o,a,i,h,m⟩,g⟩:=j;have d:L∈X.fs:=f L (by unfold frs;rw[List.filterMap_cons,a];exact JH);obtain⟨n,e⟩:=I.base.slot L o h (I.ok.frf L d) d λz=>I.ok.exfs L z d;exact⟨k,⟨L,_,a,i,e,m⟩,ih (λb c=>f b (by unfold frs;rw[List.filterMap_cons,a];exact JD _ c)) g⟩
  exact all X.outer (λ_ c=>c) I.ok.funs
theorem Inv.stack (I:Inv X pins σ H s):s.heap.FunFrames X.base X.stack:=by
  rcases I.ok.stk with e|⟨e,b⟩
  · rw[e];exact I.funs
  · rw[e]
    obtain⟨m,a,_⟩:=I.loc;refine .cons (by rw[I.ok.kind];decide) b a ?_ I.funs;exact Heap.get?_none_of_le (JS I.ok.bsz I.ok.above)
theorem Inv.stkSub (I:Inv X pins σ H s):∀ b∈frs X.stack,b∈X.env.locals::X.fs:=λb a=>by
  rcases I.ok.stk with e|⟨e,c⟩
  · rw[e]at a;exact JD _ a
  · rw[e]at a
    unfold frs at a;rw[List.filterMap_cons,c]at a;exact a
theorem Inv.stkFree (I:Inv X pins σ H s):∀ b∈frs X.stack,H b=none:=λb a=>by
  rcases Jq.mp (I.stkSub b a) with e|a
  · rw[e];exact I.free
  · obtain⟨_,o,c,_⟩:=I.ok.funs.mem a
    exact I.base.free b o c (I.ok.frf b a) λz=>I.ok.exfs b z a
theorem Inv.step {g':Array GenState}{t':Nat}{d':Drawn}{ch:List JI}(I:Inv X pins σ H s)(g:∀ b∈ch,(b∈X.ex\/X.s₀.heap.objs.size<=b)/\b≠X.env.locals/\(∀ x c,X.env.cells.lookup x=some c->c≠b)/\∀ p∈X.pn++pins,p.1≠b)(keep:∀ b o,b≠X.env.locals->b∉X.fs->b∉ch->s.heap.get? b=some o->H b=none->h'.get? b=some o)(slot:∀ b o,b≠X.env.locals->b∈X.fs->b∉ch->s.heap.get? b=some o->H b=none->∃ sl,h'.get? b=some { o with slots:=sl })(free:∀ b o,b∉ch->s.heap.get? b=some o->H b=none->H' b=none)(there:∀ b o,b∉ch->s.heap.get? b=some o->∃ A,h'.get? b=some A)(tups:∀ b t,H b=some (.tup t)->H' b=some (.tup t))(D:∀ b o u,H b=some (.frz o u)->H' b=some (.frz o u))(C:∀ b E,H b=some (.tbl E)->∃ more,H' b=some (.tbl (E++more)))(ns:∀ m,s.heap.Ns X.env.locals m->h'.Ns X.env.locals m)(J:HOk X.prog X.w H' h')(R:AllBare g') :
    Inv X pins σ H' { s with heap:=h',gens:=g',drawn:=d',toks:=t' }:=by
  have B:∀ b o,X.s₀.heap.get? b=some o->b≠X.env.locals:=λb o e=>JB (JJ (Jn e) I.ok.above)
  have j:∀ b o,X.s₀.heap.get? b=some o->b∉X.ex->b∉ch:=λb o e a w=>by
    rcases (g b w).1 with z|z
    · exact a z
    · exact absurd (JJ (Jn e) z) (YE _)
  have cellK:∀ x c,X.env.cells.lookup x=some c->∀ v,s.heap.IsCell c v->h'.IsCell c v:=λx c e v ⟨o,y,F⟩=>by
    have f:c∉ch:=λz=>(g c z).2.2.1 x c e rfl;by_cases M:c∈X.fs
    · obtain⟨sl,q⟩:=slot c o (I.cne x c e) M f y (I.freeC x c e)
      exact⟨_,q,F⟩
    · exact⟨o,keep c o (I.cne x c e) M f y (I.freeC x c e),F⟩
  refine⟨I.ok,I.os,R,⟨λb o e n w a=>?_,λb o e n w a=>?_,λb o e n a=>?_,λb o e a=>?_,λb t e=>tups b t (I.base.tups b t e),λb o t e=>D b o t (I.base.frzs b o t e),λb E e=>?_⟩,?_,λx c e=>?_,?_,λx c e=>?_,λp L=>?_,J,I.len⟩
  · exact keep b o (B b o e) w (j b o e a) (I.base.keep b o e n w a) (I.base.free b o e n a)
  · obtain⟨sl,h⟩:=I.base.slot b o e n w a
    obtain⟨G,e2⟩:=slot b _ (B b o e) w (j b o e a) h (I.base.free b o e n a);exact⟨G,e2⟩
  · obtain⟨A,h⟩:=I.base.there b o e a
    exact free b A (j b o e a) h (I.base.free b o e n a)
  · obtain⟨A,h⟩:=I.base.there b o e a
    exact there b A (j b o e a) h
  · obtain⟨O,h⟩:=I.base.tbls b E e
    obtain⟨N,e2⟩:=C b _ h;exact⟨O++N,by rw[e2,Array.append_assoc]⟩
  · obtain⟨m,P,Q⟩:=I.loc
    refine⟨m,ns m P,λi x v h e2 S=>?_⟩;obtain⟨u,r,l⟩:=Q i x v h e2 S;refine⟨u,r,?_⟩;rcases l with l|⟨k,c,e,z⟩
    · exact .inl l
    · exact .inr ⟨k,c,e,cellK x c e _ z⟩
  · obtain⟨v,z⟩:=I.cell x c e
    exact⟨v,cellK x c e v z⟩
  · obtain⟨m,⟨o,_,_,y,_⟩,_⟩:=I.loc
    exact free _ o (λz=>(g _ z).2.1 rfl) y I.free
  · obtain⟨v,o,y,F⟩:=I.cell x c e
    exact free c o (λz=>(g c z).2.2.1 x c e rfl) y (I.freeC x c e)
  · obtain⟨e,n,ne,K,d⟩:=I.pin p L
    have f:p.1∉ch:=λz=>(g p.1 z).2.2.2 p L rfl;exact⟨keep p.1 p.2 ne K f e n,free p.1 p.2 f e n,ne,K,d⟩
theorem Inv.un {t':Nat}(I:Inv X pins σ H s)(u:Un X.fs [] H H' s.heap h')(hok:HOk X.prog X.w H' h'):Inv X pins σ H' { s with heap:=h',toks:=t' }:=by
  obtain⟨m,⟨o,q,t,g,r⟩,_⟩:=id I.loc;obtain⟨k,j⟩:=u.any g I.free (by simp)
  exact I.step (g':=s.gens) (d':=s.drawn) (ch:=[]) (λ_ z=>nomatch z) (λb o _ c _ e n=>u.keep b o e n c (by simp)) (λb o _ c _ e n=>u.slot b o e n c (by simp)) (λb o _ e n=>u.free b o e n (by simp)) (λb o _ e=>u.there b o e (by simp)) u.tups u.frzs u.tbls (λp i=>by
    obtain⟨l,d,f,a,h⟩:=i;rw[g]at a;cases a
    exact⟨_,d,f,j,h⟩) hok I.bare
theorem Inv.call {g':Array GenState}{t':Nat}{d':Drawn}{ch:List JI}(I:Inv X pins σ H s)(u:Un (frs X.stack) ch H H' s.heap h')(hok:HOk X.prog X.w H' h')(q:AllBare g')(f:∀ b∈ch,(b∈X.ex\/X.s₀.heap.objs.size<=b)/\b≠X.env.locals/\(∀ x c,X.env.cells.lookup x=some c->c≠b)/\∀ p∈X.pn++pins,p.1≠b) :
    Inv X pins σ H' { s with heap:=h',gens:=g',drawn:=d',toks:=t' }:=by
  obtain⟨m,⟨o,A,B,j,r⟩,_⟩:=id I.loc;obtain⟨v,g⟩:=u.any j I.free λz=>(f _ z).2.1 rfl
  exact I.step (ch:=ch) f (λb o g t a e n=>u.keep b o e n (λz=>(Jq.mp (I.stkSub b z)).elim g t) a) (λb o _ _ a e n=>u.any e n a) (λb o a e n=>u.free b o e n a) (λb o a e=>u.there b o e a) u.tups u.frzs u.tbls (λy l=>by
    obtain⟨w,h,i,d,k⟩:=l;rw[j]at d;cases d
    exact⟨_,h,i,g,k⟩) hok q
theorem Inv.turned {t':Nat}{it:JI}(I:Inv X pins σ H s)(k:∀ b o,b≠it->s.heap.get? b=some o->h'.get? b=some o)(hn:H it=none)(f:it≠X.env.locals)(t:it∈X.ex\/X.s₀.heap.objs.size<=it)(l:∀ x c,X.env.cells.lookup x=some c->c≠it)(j:∀ p∈X.pn++pins,p.1≠it):Inv X pins σ H { s with heap:=h',toks:=t' }:=by
  have d:∀ b u,H b=some u->b≠it:=λb u e z=>by rw[z,hn]at e;cases e
  refine I.step (g':=s.gens) (d':=s.drawn) (ch:=[it]) (λb i=>?_) (λb o _ _ a e _=>k b o (λz=>a (by simp[z])) e) (λb o _ _ a e _=>⟨o.slots,k b o (λz=>a (by simp[z])) e⟩) (λ_ _ _ _ n=>n)
    (λb o a e=>⟨o,k b o (λz=>a (by simp[z])) e⟩) (λ_ _ e=>e) (λ_ _ _ e=>e) (λb A e=>⟨#[],by rw[e];simp⟩) (λm h=>?_) (λb u e=>?_) I.bare
  · have e:b=it:=by simpa using i
    subst e;exact⟨t,f,l,j⟩
  · obtain⟨o,w,y,g,r⟩:=h
    exact⟨o,w,y,k _ o (Ne.symm f) g,r⟩
  · refine(I.hok b u e).stay (λc v a q=>k c v ?_ q) (λ_ q=>q) λ_ _ q=>q
    rcases a with z|z
    · rw[z];exact d b u e
    · exact d c _ z
theorem Inv.tok (I:Inv X pins σ H s)(t:Nat):Inv X pins σ H { s with toks:=t }:=I.un (h':=s.heap) (t':=t) Un.refl I.hok
theorem Inv.kept {t':Nat}(I:Inv X pins σ H s)(k:∀ b u,s.heap.get? b=some u->h'.get? b=some u):Inv X pins σ H { s with heap:=h',toks:=t' }:=I.un (Un.kept k) (I.hok.kept k)
theorem Inv.laid {a:JI}{o:HO}{t':Nat}(I:Inv X pins σ H s)(k:∀ b u,s.heap.get? b=some u->h'.get? b=some u)(c:s.heap.objs.size<=a)(new:ObjOk X.prog X.w (upd H a o) h' a o) :
    Inv X pins σ (upd H a o) { s with heap:=h',toks:=t' }:=I.un (Un.laid k c (I.hok.fresh c)) (I.hok.laid k c new)
theorem Inv.write {x e:JI}{o:HO}{t':Nat}(I:Inv X pins σ H s)(c:Mut (H x))(d:e=x\/H e=some (.own x))(k:∀ b u,b≠e->s.heap.get? b=some u->h'.get? b=some u)(a:∃ u,h'.get? e=some u)(new:ObjOk X.prog X.w (upd H x o) h' x o):Inv X pins σ (upd H x o) { s with heap:=h',toks:=t' }:=I.un (Un.write c d k a) (I.hok.write c d k a new)
theorem Inv.pins_of {a:List (JI × Obj)}(I:Inv X pins σ H s)(h:∀ p∈a,s.heap.get? p.1=some p.2/\H p.1=none/\p.1≠X.env.locals/\p.1∉X.fs/\∀ v,p.2.data≠.cell v):Inv X a σ H s :=
  ⟨I.ok,I.os,I.bare,I.base,I.loc,I.cell,I.free,I.freeC,λp b=>(Jr.mp b).elim (λz=>I.pin p (JT _ z)) (h p),I.hok,I.len⟩
theorem oi {N:List Str}(c:N.Nodup){i j:Nat}{x:Str}(a:N[i]?=some x)(b:N[j]?=some x):i=j:=by
  obtain⟨f,d⟩:=J9.mp a;obtain⟨e,e2⟩:=J9.mp b;exact(List.getElem_inj c).mp (d.trans e2.symm)
theorem rP {M:Model}{A:YO}{E:Jo->JO->Prop}{i:Nat}{x:Str}{v:V}{u:Jo}{Q:Unit->JO->Prop}(I:Inv X pins σ H s)(hN:X.N.Nodup)(hi:X.N[i]?=some x)(t:Loc X.env.scope x)(r:RelV v u)(h:∀ W,Inv X pins (σ.set i (some v)) H W->(∃ a,Heap.SameBut a s.heap W.heap/\(a=X.env.locals\/X.env.cells.lookup x=some a))->Q () W)(hf:X.fn x=true\/X.env.scope.names.lookup x=some .local:=by first|exact .inl rfl|exact .inr rfl|assumption):wpAny M A (storeName X.env x u) Q E s:=by
  obtain⟨m,hn,hl⟩:=id I.loc;have O:(X.env.scope.kind == .class || (X.env.scope.kind == .module && X.env.locals != X.env.globals))=false:=by rw[I.ok.kind];rfl
  have C:i<σ.length:=by rw[I.len];exact(J9.mp hi).1
  have cne:=I.cne
  have tracked:∀ {a:JI}{h':YP},(∃ o,s.heap.get? a=some o/\H a=none)->Heap.SameBut a s.heap h'->HOk X.prog X.w H h':=λ{a h'} ha f b ob e=>by
    obtain⟨_,_,w⟩:=ha;refine(I.hok b ob e).stay (λc P l q=>(f.2 c ?_).trans q) (λ_ q=>q) λ_ _ q=>q;rintro rfl;rcases l with rfl|l
    · rw[w]at e;cases e
    · rw[w]at l;cases l
  rcases t with B|B
  · refine wpAny_storeName_local B hn (λh' ao f=>?_) O
    obtain⟨oL,_,_,ab,_⟩:=id hn;refine h _ ⟨I.ok,I.os,I.bare,⟨λb o e n F t=>?_,λb o e n F t=>?_,I.base.free,λb o e t=>?_,I.base.tups,I.base.frzs,I.base.tbls⟩,⟨_,ao,λj y S g e2 e3=>?_⟩,λy c e=>?_,I.free,I.freeC,λp hp=>?_,tracked ⟨oL,ab,I.free⟩ f,by simpa using I.len⟩ ⟨_,f,.inl rfl⟩
    · exact(f.2 b (JB (JJ (Jn e) I.ok.above))).trans (I.base.keep b o e n F t)
    · obtain⟨U,g⟩:=I.base.slot b o e n F t
      exact⟨U,(f.2 b (JB (JJ (Jn e) I.ok.above))).trans g⟩
    · obtain⟨Z,g⟩:=I.base.there b o e t
      exact⟨Z,(f.2 b (JB (JJ (Jn e) I.ok.above))).trans g⟩
    · by_cases D:j=i
      · subst D
        rw[hi]at g;cases g;rw[List.getElem?_set_self C]at e2;cases e2;exact⟨u,r,.inl ⟨B,by simp⟩⟩
      · rw[List.getElem?_set_ne (Ne.symm D)]at e2
        obtain⟨T,Y,q⟩:=hl j y S g e2 e3;refine⟨T,Y,?_⟩;rcases q with ⟨k,e⟩|⟨k,c,e,z⟩
        · refine .inl ⟨k,?_⟩
          have:y≠x:=λe=>D (oi hN g (e ▸ hi));simp[this,e]
        · exact .inr ⟨k,c,e,z.sameBut f (cne y c e)⟩
    · obtain⟨P,z⟩:=I.cell y c e
      exact⟨P,z.sameBut f (cne y c e)⟩
    · obtain⟨e,n,ne,nf,d⟩:=I.pin p hp
      exact⟨(f.2 p.1 ne).trans e,n,ne,nf,d⟩
  · have G:X.fn x=true:=by
      rcases hf with z|z
      · exact z
      · rw[z]at B;cases B
    obtain⟨c,l⟩:=I.ok.has x (.inl B);obtain⟨P,z⟩:=I.cell x c l;refine wpAny_storeName_cell I.ok.kind B l z (λh' L f=>?_);obtain⟨oc,J,N⟩:=id z;refine h { s with heap:=h' } ⟨I.ok,I.os,I.bare,⟨λb o e n F t=>?_,λb o e n F t=>?_,I.base.free,λb o e t=>?_,I.base.tups,I.base.frzs,I.base.tbls⟩,⟨m,hn.sameBut f (Ne.symm (cne x c l)),λj y S g e2 e3=>?_⟩,λy R e=>?_,I.free,I.freeC,λp hp=>?_,tracked ⟨oc,J,I.freeC x c l⟩ f,by simpa using I.len⟩ ⟨c,f,.inr l⟩
    · exact(f.2 b (JB (JJ (Jn e) (I.ok.cab x c G l)))).trans (I.base.keep b o e n F t)
    · obtain⟨U,g⟩:=I.base.slot b o e n F t
      exact⟨U,(f.2 b (JB (JJ (Jn e) (I.ok.cab x c G l)))).trans g⟩
    · obtain⟨Z,g⟩:=I.base.there b o e t
      exact⟨Z,(f.2 b (JB (JJ (Jn e) (I.ok.cab x c G l)))).trans g⟩
    · by_cases D:j=i
      · subst D
        rw[hi]at g;cases g;rw[List.getElem?_set_self C]at e2;cases e2;exact⟨u,r,.inr ⟨.inl B,c,l,L⟩⟩
      · rw[List.getElem?_set_ne (Ne.symm D)]at e2
        obtain⟨T,Y,q⟩:=hl j y S g e2 e3;refine⟨T,Y,?_⟩;rcases q with q|⟨k,R,e,z'⟩
        · exact .inl q
        · refine .inr ⟨k,R,e,z'.sameBut f ?_⟩
          rintro rfl;exact D (oi hN g (I.ok.inj _ _ _ e l ▸ hi))
    · by_cases K:R=c
      · subst K;exact⟨_,L⟩
      · obtain⟨w2,z2⟩:=I.cell y R e
        exact⟨w2,z2.sameBut f K⟩
    · obtain⟨e,n,ne,nf,d⟩:=I.pin p hp
      refine⟨(f.2 p.1 ?_).trans e,n,ne,nf,d⟩;intro q;rw[q,J]at e;have q':oc=p.2:=Jf e;exact d P (by rw[<- q'];exact N)
theorem vG {M:Model}{A:YO}{E:Jo->JO->Prop}{i:Nat}{x:Str}{v:V}{u:Jo}{Q:Unit->JO->Prop}(I:Inv X pins σ H s)(d:X.N.Nodup)(hi:X.N[i]?=some x)(b:Loc X.env.scope x)(r:RelV v u)(h:∀ a,Inv X pins (σ.set i (some v)) H a->Q () a)(c:X.fn x=true\/X.env.scope.names.lookup x=some .local:=by first|exact .inl rfl|exact .inr rfl|assumption):wpAny M A (storeName X.env x u) Q E s :=
  rP I d hi b r (λa e _=>h a e) c
theorem Inv.call' {a:JO}{ch:List JI}(I:Inv X pins σ H s)(g:a.os=s.os)(u:Un (frs X.stack) ch H H' s.heap a.heap)(hok:HOk X.prog X.w H' a.heap)(h:AllBare a.gens)(d:∀ b∈ch,(b∈X.ex\/X.s₀.heap.objs.size<=b)/\b≠X.env.locals/\(∀ x c,X.env.cells.lookup x=some c->c≠b)/\∀ p∈X.pn++pins,p.1≠b):Inv X pins σ H' a:=by
  obtain⟨h',g',d',t',f⟩:=a;have e:f=s.os:=g;subst e;exact I.call (g':=g') (t':=t') (d':=d') u hok h d
end
noncomputable abbrev XK:=Jo->Option JI->Hp->Prop
noncomputable abbrev St:=List (Option V)
noncomputable abbrev VK:=V->Hp->Prop
noncomputable abbrev TE:=St->Hp->VK->Prop
noncomputable abbrev TT:=St->Hp->(Bool->Hp->Prop)->Prop
noncomputable abbrev TA:=St->Hp->(List V->Hp->Prop)->Prop
structure Ends where
  nx:St->Hp->Prop
  rt:VK
  bk:St->Hp->Prop:=λ_ _=>False
  ct:St->Hp->Prop:=λ_ _=>False
noncomputable abbrev TS:=Ends->St->Hp->Prop
noncomputable def EP (X:Cx)(pins:List (JI × Obj))(σ:St)(Q:VK)(u:Jo)(b:JO):Prop:=∃ v a,Inv X pins σ a b/\RelV v u/\Q v a
noncomputable def TP (X:Cx)(pins:List (JI × Obj))(σ:St)(Q:Bool->Hp->Prop)(b:Bool)(c:JO):Prop:=∃ a,Inv X pins σ a c/\Q b a
noncomputable def AP (X:Cx)(pins:List (JI × Obj))(σ:St)(Q:List V->Hp->Prop)(us:List Jo)(c:JO):Prop:=∃ a b,Inv X pins σ b c/\Vals a us/\Q a b
noncomputable def SP (X:Cx)(pins:List (JI × Obj))(D:Ends)(f:Flow)(c:JO):Prop :=
  match f with
  | .next=>∃ a b,Inv X pins a b c/\D.nx a b
  | .brk=>∃ a b,Inv X pins a b c/\D.bk a b
  | .cont=>∃ a b,Inv X pins a b c/\D.ct a b
  | .ret u=>∃ v a b,Inv X pins a b c/\RelV v u/\D.rt v b
noncomputable def PE (X:Cx)(e:Expr)(t:TE):Prop :=
  ∀ (pins:List (JI × Obj)) (s:JO) (σ:St) (H:Hp) (Q:VK),Inv X pins σ H s->t σ H Q->wpAny (model X.prog X.w) X.A (eval e X.env) (EP X pins σ Q) X.xe s
noncomputable def PT (X:Cx)(e:Expr)(t:TT):Prop :=
  ∀ (pins:List (JI × Obj)) (s:JO) (σ:St) (H:Hp) (Q:Bool->Hp->Prop),Inv X pins σ H s->t σ H Q->wpAny (model X.prog X.w) X.A (isTrue e X.env (eval e X.env)) (TP X pins σ Q) X.xe s
noncomputable def PW (X:Cx)(e:Expr)(t:TT):Prop :=
  ∀ (whole:Sem Jo) (pins:List (JI × Obj)) (s:JO) (σ:St) (H:Hp) (Q:Bool->Hp->Prop),Inv X pins σ H s->t σ H Q->wpAny (model X.prog X.w) X.A (isTrue e X.env whole) (TP X pins σ Q) X.xe s
theorem PW.pt {X:Cx}{e:Expr}{t:TT}(h:PW X e t):PT X e t:=h _
noncomputable def PA (X:Cx)(a:List Expr)(t:TA):Prop :=
  ∀ (pos:Pos) (pins:List (JI × Obj)) (s:JO) (σ:St) (H:Hp) (Q:List V->Hp->Prop),Inv X pins σ H s->t σ H Q->wpAny (model X.prog X.w) X.A (spliced (backTo pos (starEach a X.env))) (AP X pins σ Q) X.xe s
noncomputable def PS (X:Cx)(st:Stmt)(t:TS):Prop :=
  ∀ (pins:List (JI × Obj)) (s:JO) (σ:St) (H:Hp) (D:Ends),Inv X pins σ H s->t D σ H->wpAny (model X.prog X.w) X.A (exec st X.env) (SP X pins D) X.xe s
noncomputable def PSs (X:Cx)(st:List Stmt)(t:TS):Prop :=
  ∀ (pins:List (JI × Obj)) (s:JO) (σ:St) (H:Hp) (D:Ends),Inv X pins σ H s->t D σ H->wpAny (model X.prog X.w) X.A (execs st X.env) (SP X pins D) X.xe s
theorem thn {α:Type}{t:Sem α}{Q b:α->JO->Prop}{M:Model}{A:YO}{E:Jo->JO->Prop}{s:JO}(h:wpAny M A t Q E s)(c:∀ a s,Q a s->b a s):wpAny M A t b E s:=JK h c λ_ _ x=>x
section
variable {X:Cx}
noncomputable def gG (i:Nat):TE:=λσ H Q=>∃ v,σ[i]?=some (some v)/\Q v H
noncomputable def tC (v:V):TE:=λ_ H Q=>Q v H
theorem af {i:Nat}{x:Str}{pos:Pos}(o:X.N[i]?=some x) (g:Vis X.env.scope x) (hd:(x == ("__debug__":Str))=false:=by decide) (d:(x == ("__classdict__":Str))=false:=by decide):PE X (.Name x pos) (gG i):=by
  intro pins s σ H Q I h;obtain⟨v,e,h⟩:=h;obtain⟨m,j,n⟩:=I.loc;obtain⟨u,r,l⟩:=n i x v o e g;have fin:EP X pins σ Q u s:=⟨v,H,I,r,h⟩;rcases l with ⟨b,k⟩|⟨b,c,f,a⟩
  · exact wpAny_Name (wpAny_loadName_local I.ok.kind b j k fin) hd
  · rcases b with b|b
    · exact wpAny_Name (wpAny_loadName_cell I.ok.kind b f a fin) hd
    · exact wpAny_Name (wpAny_loadName_free I.ok.kind b f a fin d) hd
theorem zJ {i j pos}:PE X (.Constant (.int i) j pos) (tC (.int i)):=λ_ _ _ H _ I h=>wpAny_Constant_int ⟨.int i,H,I.tok _,⟨_,rfl⟩,h⟩
theorem wK {b j pos}:PE X (.Constant (.bool b) j pos) (tC (.bl b)):=λ_ _ _ H _ I h=>Constant_bool ⟨.bl b,H,I,rfl,h⟩
theorem wJ {j pos}:PE X (.Constant .none j pos) (tC .non):=λ_ _ _ H _ I h=>Constant_none ⟨.non,H,I,rfl,h⟩
theorem wI {x j pos}:PE X (.Constant (.str x) j pos) (tC (.str x)):=λ_ _ _ H _ I h=>Calls.Constant_str ⟨.str x,H,I.tok _,⟨_,rfl⟩,h⟩
noncomputable def Gl (X:Cx)(x:Str):Prop:=X.env.kindOf x=some .globalImplicit
theorem kW {E:Jo->JO->Prop}{pins:List (JI × Obj)}{s:JO}{σ:St}{H:Hp}{x:Str}{u:Jo}{pos:Pos}{Q:Jo->JO->Prop}(I:Inv X pins σ H s) (a:Gl X x) (hm:X.mg x=some u) (h:Q u s)
    (hd:(x == ("__debug__":Str))=false:=by decide):wpAny (model X.prog X.w) X.A (eval (.Name x pos) X.env) Q E s :=
  Calls.Name_function_global I.ok.kind a (Calls.loadGlobal_global (by rw[I.ok.glob];exact I.mod.glob.keeps I.bk) hm h) hd
theorem xg {E:Jo->JO->Prop}{pins:List (JI × Obj)}{s:JO}{σ:St}{H:Hp}{x:Str}{u:Jo}{pos:Pos}{Q:Jo->JO->Prop}(I:Inv X pins σ H s) (b:Gl X x) (hm:X.mg x=none) (a:bootBuiltins x=some u) (h:Q u s)
    (hn:x≠"__name__":=by decide) (c:(x == ("__debug__":Str))=false:=by decide):wpAny (model X.prog X.w) X.A (eval (.Name x pos) X.env) Q E s:=by
  obtain⟨f,e,d⟩:=I.mod.blt;exact Calls.Name_function_global I.ok.kind b (Calls.loadGlobal_builtin (by rw[I.ok.glob];exact I.mod.glob.keeps I.bk) hm (by rw[I.ok.blt];exact e.keeps I.bk) ((d x hn).trans a) h) c
theorem uj {x:Str}{v:V}{u:Jo}{pos:Pos}(b:Gl X x) (hm:X.mg x=none) (a:bootBuiltins x=some u) (r:RelV v u) (hn:x≠"__name__":=by decide) (c:(x == ("__debug__":Str))=false:=by decide):PE X (.Name x pos) (tC v) :=
  λ_ _ _ H _ I h=>xg I b hm a ⟨v,H,I,r,h⟩ hn c
variable {a b:Expr}{ta tb:TE}{pos:Pos}
noncomputable def PC (X:Cx)(op:CmpOp)(a b:Expr)(t:TE):Prop :=
  ∀ (pins:List (JI × Obj)) (s:JO) (σ:St) (H:Hp) (Q:VK),Inv X pins σ H s->t σ H Q ->
    wpAny (model X.prog X.w) X.A (eval a X.env) (λv d=>wpAny (model X.prog X.w) X.A (eval b X.env) (λu c=>wpAny (model X.prog X.w) X.A (compareOp op v u) (EP X pins σ Q) X.xe c) X.xe d) X.xe s
noncomputable def tB (t:TE):TT:=λσ H Q=>t σ H λx a=>∃ c,x=.bl c/\Q c a
theorem mf {op:CmpOp}{t:TE}(h:PC X op a b t)(e:behindInMarks op b=false:=by first|exact nobehind _ (by decide) (by decide)|rfl):PT X (.Compare a [op] [b] pos) (tB t):=by
  intro pins s σ H Q I i;refine wpAny_isTrue_Compare1 (thn (h pins s σ H _ I i) λv o e=>thn e λu n j=>thn j λc m ⟨x,l,k,f,g⟩=>?_) e;obtain⟨d,rfl,q⟩:=g;cases f;exact Yu ⟨l,k,q⟩
theorem me {e:Expr}{t:TE}(h:PE X e t)(f:∀ whole,isTrue e X.env whole=(do let v <- whole;standAt e.pos;holding [v] (truthy v)):=by intro _;rfl):PT X e (tB t):=by
  intro pins s σ H Q I c;refine isTrue_plain (thn (h pins s σ H _ I c) λv j ⟨x,i,g,a,b⟩=>?_) (f _);obtain⟨d,rfl,q⟩:=b;cases a;exact Yu ⟨i,g,q⟩
variable {tA tB':TT}{rest:List Expr}
noncomputable def zbz (t u:TT):TT:=λσ H Q=>t σ H λc a=>if c=true then u σ a Q else Q false a
noncomputable def tOr (t u:TT):TT:=λσ H Q=>t σ H λc a=>if c=true then Q true a else u σ a Q
noncomputable def zbt (t:TT):TT:=λσ H Q=>t σ H λc a=>Q (!c) a
theorem cM (ha:PT X a tA):PW X (.BoolOp .And [a] pos) tA:=by
  intro b pins s σ H Q I h;refine isTrue_and (thn (ha pins s σ H Q I h) λc d e=>?_)
  cases c with
  | true=>exact isTrue_and_nil e
  | false=>exact e
theorem md (ha:PT X a tA):PW X (.BoolOp .Or [a] pos) tA:=by
  intro b pins s σ H Q I h;refine isTrue_or (thn (ha pins s σ H Q I h) λc d e=>?_)
  cases c with
  | false=>exact isTrue_or_nil e
  | true=>exact e
theorem ae (ha:PT X a tA)(hb:PW X (.BoolOp .And (b::rest) pos) tB'):PW X (.BoolOp .And (a::b::rest) pos) (zbz tA tB'):=by
  intro g pins s σ H Q I h;refine isTrue_and (thn (ha pins s σ H _ I h) λc i ⟨f,e,d⟩=>?_)
  cases c with
  | true=>exact hb g pins i σ f Q e d
  | false=>exact⟨f,e,d⟩
theorem gq (ha:PT X a tA)(hb:PW X (.BoolOp .Or (b::rest) pos) tB'):PW X (.BoolOp .Or (a::b::rest) pos) (tOr tA tB'):=by
  intro g pins s σ H Q I h;refine isTrue_or (thn (ha pins s σ H _ I h) λc i ⟨f,e,d⟩=>?_)
  cases c with
  | true=>exact⟨f,e,d⟩
  | false=>exact hb g pins i σ f Q e d
theorem gv (ha:PT X a tA):PT X (.UnaryOp .Not a pos) (zbt tA):=by
  intro pins s σ H Q I h;exact isTrue_not (ha pins s σ H (λc b=>Q (!c) b) I h)
noncomputable def zaR (ta tb:TE):TE:=λσ H Q=>ta σ H λx a=>∃ c,x=.bl c/\if c=true then tb σ a Q else Q (.bl false) a
noncomputable def zaI (ta:TE):TE:=λσ H Q=>ta σ H λx a=>∃ c,x=.bl c/\Q (.bl (!c)) a
theorem tT {op}{t:TE}(h:PE X a t):PE X (.BoolOp op [a] pos) t:=λpins s σ H Q I b=>BoolOp_one (h pins s σ H Q I b)
theorem vm (ha:PE X a ta)(hb:PE X (.BoolOp .And (b::rest) pos) tb):PE X (.BoolOp .And (a::b::rest) pos) (zaR ta tb):=by
  intro pins s σ H Q I h;refine BoolOp_and (thn (ha pins s σ H _ I h) λv g ⟨x,f,e,i,d⟩=>?_);obtain⟨c,rfl,d⟩:=d;cases i;refine Yu ?_
  cases c with
  | true=>exact hb pins g σ f Q e d
  | false=>exact⟨.bl false,f,e,rfl,d⟩
theorem ag (ha:PE X a ta):PE X (.UnaryOp .Not a pos) (zaI ta):=by
  intro pins s σ H Q I h;refine UnaryOp_ (thn (ha pins s σ H _ I h) λv g ⟨x,f,e,d,b⟩=>?_);obtain⟨c,rfl,b⟩:=b;cases d;exact not_of (Yu ⟨.bl (!c),f,e,rfl,b⟩)
noncomputable def tIf (t:TT)(ta tb:TE):TE:=λσ H Q=>t σ H λc a=>if c=true then ta σ a Q else tb σ a Q
theorem fI {c:Expr}(j:PT X c tA)(ha:PE X a ta)(hb:PE X b tb):PE X (.IfExp c a b pos) (tIf tA ta tb):=by
  intro pins s σ H Q I h;refine wpAny_IfExp (thn (j pins s σ H _ I h) λd e ⟨i,g,f⟩=>?_)
  cases d with
  | true=>exact ha pins e σ i Q g f
  | false=>exact hb pins e σ i Q g f
end
noncomputable def SqL (K:Jl)(H:Hp)(a:JI)(xs:List V):Prop :=
  Rd H a (.lst xs) \/
    ∃ (o:Obj) (b:Array Jo) (n:Nat),K.lookup a=some o/\o.cls=.type "list"/\o.dict=none/\o.data=.seq b n/\b.size<=sizeLine/\Vals xs b.toList
noncomputable def SqT (K:Jl)(H:Hp)(a:JI)(xs:List V):Prop :=
  Rd H a (.tup xs) \/
    ∃ (o:Obj) (b:Array Jo) (n:Nat),K.lookup a=some o/\o.cls=.type "tuple"/\o.data=.seq b n/\b.size<=sizeLine/\Vals xs b.toList
noncomputable def zb4:Jo->Option V
  | .none=>some .non
  | .bool b=>some (.bl b)
  | .int i _=>some (.int i)
  | .str x _=>some (.str x)
  | .bytes b _=>some (.byt b)
  | .float b _=>some (.flt b)
  | .ref a=>some (.ref a)
  | .type n=>some (.ty n)
  | _=>none
theorem RelV.abs {x:V}{u:Jo}(r:RelV x u):zb4 u=some x:=by
  cases x with
  | non=>cases r;rfl
  | bl _=>cases r;rfl
  | int _=>obtain⟨t,rfl⟩:=r;rfl
  | str _=>obtain⟨t,rfl⟩:=r;rfl
  | byt _=>obtain⟨t,rfl⟩:=r;rfl
  | flt _=>obtain⟨t,rfl⟩:=r;rfl
  | ref _=>cases r;rfl
  | ty _=>cases r;rfl
theorem RelV.inj {x y:V}{u:Jo}(r:RelV x u)(q:RelV y u):x=y:=Jf (r.abs.symm.trans q.abs)
theorem Vals.inj:∀ {xs ys:List V}{us:List Jo},Vals xs us->Vals ys us->xs=ys
  | _,_,_,.nil,.nil=>rfl
  | _,_,_,.cons r t,.cons a t'=>by rw[r.inj a,Vals.inj t t']
section
variable {X:Cx}{pins:List (JI × Obj)}{σ:St}{H:Hp}{s:JO}{a:JI}{xs ys:List V}
theorem SqL.of {K:Jl}(h:H a=some (.lst xs)):SqL K H a xs:=.inl (.inl h)
theorem SqT.of {K:Jl}(h:H a=some (.tup xs)):SqT K H a xs:=.inl (.inl h)
theorem Inv.list (I:Inv X pins σ H s)(h:SqL X.K H a xs):∃ its:List Jo,Vals xs its/\PlainL s.heap a its.toArray/\xs.length<=sizeLine:=by
  rcases h with h|⟨o,its,n,c,f,d,b,g,r⟩
  · obtain⟨z,its,n,r,e⟩:=h.ok I.hok
    exact⟨its,r,⟨_,n,e,rfl,rfl,rfl⟩,z⟩
  · refine⟨its.toList,r,⟨o,n,I.kIn a o c,f,d,by simpa using b⟩,?_⟩
    have e:=r.length;simp only[Jy]at e
    simp_all
theorem Inv.tuple (I:Inv X pins σ H s)(h:SqT X.K H a xs):∃ its:List Jo,Vals xs its/\IsTup s.heap a its.toArray/\xs.length<=sizeLine:=by
  rcases h with h|⟨o,its,n,c,d,b,f,r⟩
  · obtain⟨z,its,r,p⟩:=h.ok I.hok
    exact⟨its,r,p.tup,z⟩
  · refine⟨its.toList,r,⟨o,I.kIn a o c,d,n,by simpa using b⟩,?_⟩
    have e:=r.length;simp only[Jy]at e
    simp_all
theorem Inv.list_inj (I:Inv X pins σ H s)(h:SqL X.K H a xs)(h':SqL X.K H a ys):xs=ys:=by
  obtain⟨c,r,⟨o,n,e,_,_,d⟩,_⟩:=I.list h;obtain⟨b,i,⟨k,l,f,_,_,g⟩,_⟩:=I.list h';rw[e]at f;cases f;rw[d]at g;injection g with j _;have:c=b:=by simpa using JQ Array.toList j
  subst this;exact r.inj i
theorem Inv.tuple_inj (I:Inv X pins σ H s)(h:SqT X.K H a xs)(h':SqT X.K H a ys):xs=ys:=by
  obtain⟨c,r,⟨o,e,_,n,d⟩,_⟩:=I.tuple h;obtain⟨b,i,⟨k,f,_,l,g⟩,_⟩:=I.tuple h';rw[e]at f;cases f;rw[d]at g;injection g with j _;have:c=b:=by simpa using JQ Array.toList j
  subst this;exact r.inj i
end
noncomputable abbrev Cx.wish (X:Cx)(E:Jo->JO->Prop):Cx:={ X with xe:=E }
noncomputable abbrev Cx.nox (X:Cx):Cx:=X.wish λ_ _=>False
theorem Cx.Ok.wish {X:Cx}(ok:X.Ok)(E:Jo->JO->Prop):(X.wish E).Ok :=
  ⟨ok.mod,ok.kind,ok.glob,ok.blt,ok.above,ok.inj,ok.has,ok.cab,ok.hd,ok.frames,ok.stk,ok.exf,ok.bs,ok.bsz,ok.noex,ok.exfs,ok.funs,ok.frf⟩
theorem Cx.Ok.unwish {X:Cx}{E:Jo->JO->Prop}(ok:(X.wish E).Ok):X.Ok :=
  ⟨ok.mod,ok.kind,ok.glob,ok.blt,ok.above,ok.inj,ok.has,ok.cab,ok.hd,ok.frames,ok.stk,ok.exf,ok.bs,ok.bsz,ok.noex,ok.exfs,ok.funs,ok.frf⟩
section
variable {X:Cx}{pins:List (JI × Obj)}{σ:St}{H:Hp}{s:JO}{E:Jo->JO->Prop}
theorem Inv.wish (I:Inv X pins σ H s)(E:Jo->JO->Prop):Inv (X.wish E) pins σ H s:=⟨I.ok.wish E,I.os,I.bare,I.base,I.loc,I.cell,I.free,I.freeC,I.pin,I.hok,I.len⟩
theorem Inv.unwish (I:Inv (X.wish E) pins σ H s):Inv X pins σ H s:=⟨I.ok.unwish,I.os,I.bare,I.base,I.loc,I.cell,I.free,I.freeC,I.pin,I.hok,I.len⟩
theorem SP.unwish {D:Ends}{f:Flow}{c:JO}(h:SP (X.wish E) pins D f c):SP X pins D f c:=by
  cases f with
  | next=>obtain⟨a,b,I,q⟩:=h;exact⟨a,b,I.unwish,q⟩
  | brk=>obtain⟨a,b,I,q⟩:=h;exact⟨a,b,I.unwish,q⟩
  | cont=>obtain⟨a,b,I,q⟩:=h;exact⟨a,b,I.unwish,q⟩
  | ret u=>obtain⟨v,a,b,I,r,q⟩:=h;exact⟨v,a,b,I.unwish,r,q⟩
theorem PSs.nox {st:List Stmt}{t:TS}(h:PSs X.nox st t):PSs X st t:=λpins s σ H D I a =>
  JK (h pins s σ H D (I.wish _) a) (λ_ _ q=>q.unwish) λ_ _ z=>False.elim z
end
section
variable {X:Cx}{st:Stmt}{rest:List Stmt}{t u:TS}{e:Expr}{te:TE}{pos:Pos}
noncomputable def bi:TS:=λD σ H=>D.nx σ H
noncomputable def wC (t u:TS):TS:=λD σ H=>t { D with nx:=u D } σ H
theorem zu:PSs X [] bi:=λ_ _ σ H _ I h=>wpAny_execs_nil ⟨σ,H,I,h⟩
theorem zH (d:PS X st t)(c:PSs X rest u):PSs X (st::rest) (wC t u):=by
  intro pins s σ H D I h;refine wpAny_execs_cons (thn (d pins s σ H { D with nx:=u D } I h) λf b q=>?_)
  cases f with
  | next =>
    obtain⟨a,g,e,q⟩:=q
    exact c pins b a g D e q
  | ret v=>exact q
  | brk=>exact q
  | cont=>exact q
theorem zK (a:PS X st t):PSs X [st] t:=by
  intro pins s σ H D I h;refine wpAny_execs_cons (thn (a pins s σ H D I h) λf b q=>?_)
  cases f with
  | next=>exact wpAny_execs_nil q
  | ret v=>exact q
  | brk=>exact q
  | cont=>exact q
noncomputable def zaQ:TS:=λD σ H=>D.ct σ H
theorem oO:PS X (.Continue pos) zaQ:=λ_ _ σ H _ I h=>wpAny_Continue ⟨σ,H,I,h⟩
theorem Inv.quiet {pins:List (JI × Obj)}{σ:St}{H:Hp}{s:JO}(I:Inv X pins σ H s):interactive X.env=false:=by simp[interactive,I.ok.kind]
noncomputable def zaP (te:TE):TS:=λD σ H=>te σ H λ_ a=>D.nx σ a
theorem yj (c:PE X e te)(b:swapsWith e none pos.line X.env=pure false:=by rfl):PS X (.Expr e pos) (zaP te):=by
  intro pins s σ H D I h;exact wpAny_Expr_any (thn (c pins s σ H _ I h) λv g ⟨x,f,d,i,a⟩=>⟨σ,f,d,a⟩) I.quiet b
noncomputable def zbr (te:TE):TS:=λD σ H=>te σ H D.rt
theorem zS (c:PE X e te):PS X (.Return (some e) pos) (zbr te):=by
  intro pins s σ H D I h;exact wpAny_Return_some (thn (c pins s σ H _ I h) λv g ⟨x,f,d,a,b⟩=>⟨x,σ,f,d,a,b⟩)
noncomputable def aG (c:TT)(t u:TS):TS:=λD σ H=>c σ H λb a=>if b=true then t D σ a else u D σ a
theorem yY {c:Expr}{a b:List Stmt}{e:TT}(k:PT X c e)(ha:PSs X a t)(hb:PSs X b u):PS X (.If c a b pos) (aG e t u):=by
  intro pins s σ H D I h;refine wpAny_If (thn (k pins s σ H _ I h) λd f ⟨j,i,g⟩=>?_)
  cases d with
  | true=>exact ha pins f σ j D i g
  | false=>exact hb pins f σ j D i g
end
noncomputable abbrev TG:=V->St->Hp->(St->Hp->Prop)->Prop
noncomputable abbrev TGs:=List V->St->Hp->(St->Hp->Prop)->Prop
noncomputable def PG (X:Cx)(target:Expr)(t:TG):Prop :=
  ∀ (pins:List (JI × Obj)) (s:JO) (σ:St) (H:Hp) (v:V) (u:Jo) (Q:St->Hp->Prop),Inv X pins σ H s->RelV v u->t v σ H Q ->
    wpAny (model X.prog X.w) X.A (assign target X.env u) (λ_ c=>∃ a b,Inv X pins a b c/\Q a b) X.xe s
noncomputable def PGs (X:Cx)(ts:List Expr)(t:TGs):Prop :=
  ∀ (pins:List (JI × Obj)) (s:JO) (σ:St) (H:Hp) (b:List V) (c:List Jo) (Q:St->Hp->Prop),Inv X pins σ H s->Vals b c->t b σ H Q ->
    wpAny (model X.prog X.w) X.A (assignInOrder ((assignEach ts X.env).map (·.2)) c) (λ_ e=>∃ a d,Inv X pins a d e/\Q a d) X.xe s
noncomputable abbrev TSet:=V->V->V->Hp->(Hp->Prop)->Prop
noncomputable def PSet (X:Cx)(t:TSet):Prop :=
  ∀ (pins:List (JI × Obj)) (s:JO) (σ:St) (H:Hp) (o i v:V) (a b u:Jo) (Q:Hp->Prop),Inv X pins σ H s->RelV o a->RelV i b->RelV v u->t o i v H Q ->
    wpAny (model X.prog X.w) X.A (setItem a b u) (λ_ d=>∃ c,Inv X pins σ c d/\Q c) X.xe s
section
variable {X:Cx}{pos:Pos}
noncomputable def qC (i:Nat):TG:=λv σ H Q=>Q (σ.set i (some v)) H
theorem zM {i:Nat}{x:Str}(c:X.N.Nodup)(hi:X.N[i]?=some x)(a:Loc X.env.scope x)(b:X.fn x=true\/X.env.scope.names.lookup x=some .local:=by first|exact .inl rfl|exact .inr rfl|assumption):PG X (.Name x pos) (qC i):=by
  intro pins s σ H v u Q I r h;exact wpAny_assign_Name (vG I c hi a r (λe d=>⟨_,H,d,h⟩) b)
noncomputable def zb3:TGs:=λa σ H Q=>a=[]/\Q σ H
noncomputable def zbj (t:TG)(u:TGs):TGs:=λb σ H Q=>∃ v r,b=v::r/\t v σ H λa c=>u r a c Q
theorem yA:PGs X [] zb3:=by
  intro pins s σ H a b Q I r h;obtain⟨e,h⟩:=h;subst e;cases r;exact assignInOrder_nil ⟨σ,H,I,h⟩
theorem zP {e:Expr}{a:List Expr}{t:TG}{u:TGs}(j:PG X e t)(i:PGs X a u)(g:(assignEach (e::a) X.env).map (·.2)=assign e X.env::(assignEach a X.env).map (·.2):=by rfl):PGs X (e::a) (zbj t u):=by
  intro pins s σ H n p Q I r h;obtain⟨v,o,k,h⟩:=h;subst k
  cases r with
  | cons r d =>
    rw[g];refine assignInOrder_cons (thn (j pins s σ H _ _ _ I r h) λ_ c ⟨b,m,l,f⟩=>?_);exact i pins c b m _ _ Q l d f
noncomputable def zbi (K:Jl)(n:Nat)(t:TGs):TG:=λv σ H Q=>∃ a b,v=.ref a/\SqT K H a b/\b.length=n/\t b σ H Q
theorem yQ {c:List Expr}{k:Nat}{t:TGs}{n:Nat}(q:X.calm=true)(h:PGs X c t)(hn:(assignEach c X.env).length=n:=by rfl)(f:(assignEach c X.env).findIdx? (·.1)=none:=by rfl):PG X (.Tuple c k pos) (zbi X.K n t):=by
  intro pins s σ H v u Q I r d;obtain⟨a,i,x,m,p,d⟩:=d;subst x;cases r;obtain⟨z,g,l,A⟩:=I.tuple m;refine assign_Tuple_tuple (I.ok.hd q) l (by simp[hn,<- p,g.length]) f λw j=>?_;have y:Inv X pins σ H { s with heap:=w }:=I.kept (t':=s.toks) λb o e=>j b o (JB (Jn e)) e;exact h pins _ σ H i _ Q y (by simpa using g) d
noncomputable def zb2 (to a:TE)(t:TSet):TG:=λv σ H Q=>to σ H λo d=>a σ d λi c=>t o i v c λb=>Q σ b
theorem tR {o i:Expr}{to c:TE}{t:TSet}(n:PE X o to)(hi:PE X i c)(m:PSet X t)(ha:∀ v,assign (.Subscript o i pos) X.env v=(do
      let a <- holding [v] (eval o X.env)
      let b <- holding [v,a] (eval i X.env)
      standAt pos
      holding [v,a,b] (setItem a b v)
      release [v,a,b] []):=by intro _;rfl):PG X (.Subscript o i pos) (zb2 to c t):=by
  intro pins s σ H v u Q I r h;rw[ha];refine J0 (Y5 (thn (n pins s σ H _ I h) λa e ⟨x,B,w,g,l⟩=>?_));refine J0 (Y5 (thn (hi pins e σ B _ w l) λb d ⟨y,A,q,f,k⟩=>?_));refine J0 (Z0 (J0 (Y5 (thn (m pins d σ A x y v a b u _ q g f r k) λ_ C ⟨z,p,j⟩=>?_))));exact wpAny_release ⟨σ,z,p,j⟩
noncomputable def cA (a:TE)(g:TG):TS:=λD σ H=>a σ H λx b=>g x σ b D.nx
theorem yT {tg e:Expr}{a:TE}{g:TG}(k:PE X e a)(j:PG X tg g)(i:swapsWithSole [tg] e pos.line X.env=pure false:=by rfl)(f:swappedStores [tg] e X.env=pure none:=by rfl)(l:(assignEach [tg] X.env).map (·.2)=[assign tg X.env]:=by rfl):PS X (.Assign [tg] e pos) (cA a g):=by
  intro pins s σ H D I h;refine wpAny_Assign_stores (thn (k pins s σ H _ I h) λv b ⟨x,n,m,c,d⟩=>?_) i f;rw[l];exact thn (j pins b σ n x v _ m c d) λ_ o q=>q
theorem zZ {i:Nat}{x:Str}{e:Expr}{a:TE}{pos':Pos}(k:X.N.Nodup)(hi:X.N[i]?=some x)(d:Loc X.env.scope x)(j:PE X e a)(f:swapsWith e (some (.Name x pos')) pos.line X.env=pure false:=by rfl)(g:X.fn x=true\/X.env.scope.names.lookup x=some .local:=by first|exact .inl rfl|exact .inr rfl|assumption) :
    PS X (.Assign [.Name x pos'] e pos) (cA a (qC i)):=by
  intro pins s σ H D I h;refine wpAny_Assign_Name (thn (j pins s σ H _ I h) λv p ⟨y,n,m,b,c⟩=>?_) f;exact vG m k hi d b (λo l=>⟨_,n,l,c⟩) g
noncomputable def zbs (i j:Nat)(b:TA):TS:=λD σ H=>b σ H λa c=>∃ v w,a=[v,w]/\D.nx ((σ.set i (some v)).set j (some w)) c
theorem vj {i j:Nat}{x y:Str}{a b:Expr}{r:TA}{k py pt:Pos}{kt k2 pt2}(N:X.calm=true)(z:X.N.Nodup)(hi:X.N[i]?=some x)(M:X.N[j]?=some y)(n:i≠j)(u:X.env.scope.names.lookup x=some .local)(t:X.env.scope.names.lookup y=some .local)(ha:PA X [a,b] r)(K:swappedStores [.Tuple [.Name x k,.Name y py] kt pt] (.Tuple [a,b] k2 pt2) X.env=pure (some [x,y]))(L:swapsWithSole [.Tuple [.Name x k,.Name y py] kt pt] (.Tuple [a,b] k2 pt2) pos.line X.env=pure false:=by rfl) :
    PS X (.Assign [.Tuple [.Name x k,.Name y py] kt pt] (.Tuple [a,b] k2 pt2) pos) (zbs i j r):=by
  intro pins s σ H D I h;rw[exec_Assign_arm];refine J0 (Z0 ?_);rw[L];refine J0 (J7 ?_);rw[Je (by decide)];refine J0 (Tuple_ (thn (ha _ pins s σ H _ I h) λC f ⟨T,B,S,F,g⟩=>?_));obtain⟨v,w,O,g⟩:=g;subst O
  obtain⟨d,c,rfl,E,l⟩:∃ d c,C=[d,c]/\RelV v d/\RelV w c:=by
    cases F with
    | cons p q =>
      cases q with
      | cons J G =>
        cases G;exact⟨_,_,rfl,p,J⟩
  refine JN ?_ (by show 2<=sizeLine;decide);have R:Inv X pins σ B { f with heap:=f.heap.push { cls:=.type "tuple",data:=.seq [d,c].toArray } }:=S.kept (t':=f.toks) λb o e=>J6 _ e;rw[K];refine J0 (J7 ?_);show wpAny (model X.prog X.w) X.A (do rule "assign.swapped-stores";let items <- unpackItems (.ref f.heap.objs.size) 2 none;assignInOrder [λv=>bindName X.env y v,λv=>bindName X.env x v] items.reverse;pure Flow.next) _ _ _;refine J0 (YX (J0 (unpackItems_tuple (items:=#[d,c]) (I.ok.hd N) (IsTup.new f.heap _) λh' m=>?_)));have Q:=R.kept (h':=h') (t':=f.toks) λb o e=>m b o (JB (Jn e)) e;show wpAny _ _ (assignInOrder [λv=>bindName X.env y v,λv=>bindName X.env x v] [c,d] >>= λ_=>pure Flow.next) _ _ _;refine J0 (assignInOrder_cons (wpAny_bindName (vG Q z M (.inl t) l (λV P=>?_) (.inr t))));refine assignInOrder_cons (wpAny_bindName (vG P z hi (.inl u) E (λU A=>assignInOrder_nil (J7 ?_)) (.inr u)));rw[List.set_comm _ _ (Ne.symm n)]at A;exact⟨_,B,A,g⟩
noncomputable def aD (c:TT)(g:TS):TS:=λD σ H=>∃ W:Nat->St->Hp->Prop,(∃ m,W m σ H)/\∀ m σ H,W m σ H ->
  c σ H λb e=>if b=true then ∃ N:St->Hp->Prop,(∀ a f,N a f->∃ d,d<m/\W d a f)/\g { D with nx:=N,ct:=N,bk:=D.nx } σ e else D.nx σ e
theorem vO {c:Expr}{body:List Stmt}{q:TT}{r:TS}(t:PassesOwn (model X.prog X.w) X.A X.env X.xe)(J:PT X c q)(hb:PSs X body r):PS X (.While c body [] pos) (aD q r):=by
  intro pins s σ H D I h;obtain⟨W,⟨G,B⟩,turn⟩:=h;refine wpAny_While (codeAny_whileLoop (λn F=>∃ g z,Inv X pins g z F/\W n g z) ?_ G ⟨σ,H,I,B⟩);rintro n E ⟨d,y,K,A⟩;refine ZF t (thn (J pins E d y _ K (turn n d y A)) λb C ⟨x,w,j⟩=>?_)
  cases b with
  | true =>
    obtain⟨N,u,j⟩:=j;rw[Jm rfl];refine ZF t (thn (hb pins C d x _ w j) λf L i=>?_)
    cases f with
    | next =>
      obtain⟨a,e,p,l⟩:=i;obtain⟨m,o,k⟩:=u a e l
      exact⟨m,o,a,e,p,k⟩
    | cont =>
      obtain⟨a,e,p,l⟩:=i;obtain⟨m,o,k⟩:=u a e l
      exact⟨m,o,a,e,p,k⟩
    | brk=>exact i
    | ret v=>exact i
  | false =>
    rw[Je Jh];exact wpAny_execs_nil ⟨d,x,w,j⟩
end
structure It where
  go:Nat->Hp->Prop
  yld:Nat->Hp->V->Hp->Prop
  stop:Nat->Hp->Prop
noncomputable def FpOk (X:Cx)(pins:List (JI × Obj))(H:Hp)(b:JI):Prop :=
  H b=none/\b≠X.env.locals/\b∉X.fs/\(b∈X.ex\/X.s₀.heap.objs.size<=b)/\(∀ x c,X.env.cells.lookup x=some c->c≠b)/\∀ p∈X.pn++pins,p.1≠b
theorem Inv.fpOk {X:Cx}{pins:List (JI × Obj)}{σ:St}{H H':Hp}{s:JO}{b:JI}(I:Inv X pins σ H s)(hb:s.heap.objs.size<=b)(hn:H' b=none):FpOk X pins H' b:=by
  refine⟨hn,YM (JJ I.lt hb),I.nofs hb,.inr (JS I.sz hb),λx c e z=>?_,λp a z=>?_⟩
  · obtain⟨v,q⟩:=I.cell x c e
    exact absurd (JJ q.lt (by rw[z];exact hb)) (YE _)
  · exact absurd (JJ (Jn (I.pin p a).1) (by rw[z];exact hb)) (YE _)
structure Turn (P:Yo) (w:YI) (K:Jl) (tg:Expr) (J:It) (fp:List JI) (it:JI) (tn:Nat->YP->Prop):Prop where
  mem:it∈fp
  obj:∀ i h,tn i h->∀ b∈fp,∃ o,h.get? b=some o/\∀ v,o.data≠.cell v
  keep:∀ i h h',tn i h->(∀ b∈fp,∀ o,h.get? b=some o->h'.get? b=some o)->tn i h'
  item:∀ (X:Cx),X.prog=P->X.w=w->X.K=K->X.calm=true->∀ (i:Nat) (pins:List (JI × Obj)) (s:JO) (σ:St) (H:Hp) (E:Jo->JO->Prop),Inv X pins σ H s->(∀ b∈fp,FpOk X pins H b)->tn i s.heap->J.go i H ->
    wpAny (model P w) X.A (pyNext (.ref it)) (λr s1=>∃ u,r=some u /\
      wpAny (model P w) X.A (letOwnedTupleGo tg (.ref it) u) (λ_ s2=>∃ x H',Inv X pins σ H' s2/\RelV x u/\J.yld i H x H'/\tn (i+1) s2.heap/\∀ b∈fp,H' b=none) E s1) E s
  done:∀ (X:Cx),X.prog=P->X.w=w->X.K=K->X.calm=true->∀ (i:Nat) (pins:List (JI × Obj)) (s:JO) (σ:St) (H:Hp) (E:Jo->JO->Prop),Inv X pins σ H s->(∀ b∈fp,FpOk X pins H b)->tn i s.heap->J.stop i H ->
    wpAny (model P w) X.A (pyNext (.ref it)) (λr s1=>r=none/\Inv X pins σ H s1) E s
  self:∀ (A:YO) (i:Nat) (s:JO) (Q:Jo->JO->Prop) (E:Jo->JO->Prop),tn i s.heap->Q (.ref it) s->wpAny (model P w) A (pyIter (.ref it)) Q E s
noncomputable abbrev TI:=St->Hp->(It->Hp->Prop)->Prop
noncomputable def PIE (X:Cx)(pins:List (JI × Obj))(σ:St)(tg:Expr)(R:It->Hp->Prop)(c:Jo)(s2:JO):Prop :=
  ∃ (it:JI) (e:List JI) (d:Nat->YP->Prop) (J:It) (a:Hp),c=.ref it/\Inv X pins σ a s2/\Turn X.prog X.w X.K tg J e it d/\d 0 s2.heap/\(∀ b∈e,FpOk X pins a b)/\R J a
noncomputable def PI (X:Cx)(tg iter:Expr)(a:TI):Prop :=
  ∀ (pins:List (JI × Obj)) (s:JO) (σ:St) (H:Hp) (R:It->Hp->Prop),Inv X pins σ H s->a σ H R ->
    wpAny (model X.prog X.w) X.A (eval iter X.env) (λv b=>wpAny (model X.prog X.w) X.A (pyIter v) (PIE X pins σ tg R) X.xe b) X.xe s
theorem kY {M:Model}{A:YO}{E:Jo->JO->Prop}{s:JO}{tg:Expr}{it:JI}{u:Jo}{o:Obj}{n:String}{vs:Array Jo}{Q:Unit->JO->Prop}(b:s.heap.get? it=some o) (c:o.cls=.type n) (hd:o.data=.fields vs)
    (hn:["enumerate","zip","dict_itemiterator","dict_reverseitemiterator","odict_iterator","itertools.zip_longest","itertools.pairwise"].contains n=false) (a:Q () s):wpAny M A (letOwnedTupleGo tg (.ref it) u) Q E s:=by
  unfold letOwnedTupleGo
  cases tg<;>first
    | exact J7 a
    | (cases u<;>first
        | exact J7 a
        | (refine J0 (wpAny_load b ?_)
           rw[c,hd];show wpAny M A (if (["enumerate","zip","dict_itemiterator","dict_reverseitemiterator","odict_iterator","itertools.zip_longest","itertools.pairwise"].contains n && vs[0]? == some (rawInt _))=true then _ else _) Q E s;rw[Je (by intro h;rw[hn,Bool.false_and]at h;cases h)]
           exact J7 a))
noncomputable def Itl (K:Jl)(a:JI):It :=
  ⟨λi H=>∃ b x,SqL K H a b/\b[i]?=some x,λi H x c=>c=H/\∀ b,SqL K H a b->b[i]?=some x,λi H=>∃ b,SqL K H a b/\b.length<=i⟩
noncomputable def Itt (K:Jl)(a:JI):It :=
  ⟨λi H=>∃ b x,SqT K H a b/\b[i]?=some x,λi H x c=>c=H/\∀ b,SqT K H a b->b[i]?=some x,λi H=>∃ b,SqT K H a b/\b.length<=i⟩
noncomputable def Itr (lo:Int)(n:Nat):It:=⟨λi _=>i<n,λi H x a=>a=H/\x=.int (lo+i),λi _=>n<=i⟩
theorem jN {P:Yo}{w:YI}{K:Jl}{tg:Expr}(a it:JI):Turn P w K tg (Itl K a) [it] it (λi h=>h.IsListIter it a i) where
  mem:=by simp
  obj:=λi h st b f=>by
    have e:b=it:=by simpa using f
    subst e;obtain⟨o,e,c,d⟩:=st;exact⟨o,e,λv z=>by rw[d]at z;cases z⟩
  keep:=λi h m st k=>st.at λo e=>k it (by simp) o e
  item:=by
    intro X y r A L i pins s σ H E I l st t;subst y r A;obtain⟨M,x,j,q⟩:=t;obtain⟨J,n,p,Q⟩:=I.list j;obtain⟨u,S,O⟩:=n.get q;obtain⟨G,F,T,D,C,B⟩:=l it (by simp);refine wpAny_pyNext_list_item st p.isList (x:=u) (by simpa using S) λm g N=>?_;have V:Inv X pins σ H { s with heap:=m }:=I.turned (t':=s.toks) (λb o f e=>(N.2 b f).trans e) G F D C B;obtain⟨o,e,c,d⟩:=id g;exact⟨u,rfl,kY (s:={ s with heap:=m }) e c d (by decide) ⟨x,H,V,O,⟨rfl,λW R=>by rw[I.list_inj R j];exact q⟩,g,λb f=>(l b f).1⟩⟩
  done:=by
    intro X y r A L i pins s σ H E I l st t;subst y r A;obtain⟨M,j,q⟩:=t;obtain⟨J,n,p,Q⟩:=I.list j;obtain⟨G,F,T,D,C,B⟩:=l it (by simp);have Y:=n.length;exact wpAny_pyNext_list_end (I.ok.hd L) st p.isList (by simp;simp_all) λm U=>⟨rfl,I.turned (t':=s.toks) (λb o f e=>U b o f e) G F D C B⟩
  self:=λ_ _ _ _ _ st h=>wpAny_pyIter_listiter st h
theorem n5 {P:Yo}{w:YI}{K:Jl}{tg:Expr}(a it:JI):Turn P w K tg (Itt K a) [it] it (λi h=>h.IsTupleIter it a i) where
  mem:=by simp
  obj:=λi h st b f=>by
    have e:b=it:=by simpa using f
    subst e;obtain⟨o,e,c,d⟩:=st;exact⟨o,e,λv z=>by rw[d]at z;cases z⟩
  keep:=λi h n st k=>st.at λo e=>k it (by simp) o e
  item:=by
    intro X A t B L i pins s σ H E I m st y;subst A t B;obtain⟨M,x,l,r⟩:=y;obtain⟨g,q,p,Q⟩:=I.tuple l;obtain⟨u,S,O⟩:=q.get r;obtain⟨J,G,T,F,D,C⟩:=m it (by simp);refine wpAny_pyNext_tuple_item st (show s.heap.IsTuple a g.toArray from p) (x:=u) (by simpa using S) λn j N=>?_;have V:Inv X pins σ H { s with heap:=n }:=I.turned (t':=s.toks) (λb o f e=>(N.2 b f).trans e) J G F D C;obtain⟨o,e,c,d⟩:=id j;exact⟨u,rfl,kY (s:={ s with heap:=n }) e c d (by decide) ⟨x,H,V,O,⟨rfl,λW R=>by rw[I.tuple_inj R l];exact r⟩,j,λb f=>(m b f).1⟩⟩
  done:=by
    intro X A t B L i pins s σ H E I m st y;subst A t B;obtain⟨M,l,r⟩:=y;obtain⟨g,q,p,Q⟩:=I.tuple l;obtain⟨J,G,T,F,D,C⟩:=m it (by simp);have Y:=q.length;exact wpAny_pyNext_tuple_end (I.ok.hd L) st (show s.heap.IsTuple a g.toArray from p) (by simp;simp_all) λn U=>⟨rfl,I.turned (t':=s.toks) (λb o f e=>U b o f e) J G F D C⟩
  self:=λ_ _ _ _ _ st h=>wpAny_pyIter_tupleiter st h
theorem n9 {P:Yo}{w:YI}{K:Jl}{tg:Expr}(it:JI)(lo:Int)(n:Nat):Turn P w K tg (Itr lo n) [it] it (λi h=>IsRangeIter h it (lo+(i:Nat)*1) ((n:Int)-(i:Nat)) 1) where
  mem:=by simp
  obj:=λi h st b a=>by
    have e:b=it:=by simpa using a
    subst e
    exact⟨_,st,λv z=>by
      have B:Data.fields _=Data.cell v:=z
      cases B⟩
  keep:=λi h f st k=>k it (by simp) _ st
  item:=by
    intro X m g p l i pins s σ H E I d st j;subst m g p;obtain⟨y,x,F,u,r,q⟩:=d it (by simp);have W:=Walks.range (prog:=X.prog) (w:=X.w) (I.ok.hd l) it lo 1 n;refine W.item i s _ _ j st λv f A D c C=>?_;obtain⟨t,rfl⟩:=D;have J:Inv X pins σ H { s with heap:=f,toks:=A }:=I.turned (λb o a e=>C b o (by simpa using a) e) y x u r q;refine⟨_,rfl,kY (s:={ s with heap:=f,toks:=A }) (n:="range_iterator") c rfl rfl (by decide) ⟨.int (lo+i),H,J,⟨t,?_⟩,⟨rfl,rfl⟩,c,λb a=>(d b a).1⟩⟩;rw[Int.mul_one]
  done:=by
    intro X m g p l i pins s σ H E I d st j;subst m g p;obtain⟨y,x,F,u,r,q⟩:=d it (by simp);exact wpAny_pyNext_range_end (I.ok.hd l) st (by have:n<=i:=j;lia) λf G=>⟨rfl,I.turned (t':=s.toks) (λb o a e=>G b o a e) y x u r q⟩
  self:=λ_ _ _ _ _ st h=>wpAny_pyIter_rangeiter st h
section
variable {X:Cx}{tg:Expr}
noncomputable def bz (K:Jl)(d:TE):TI:=λσ H R=>d σ H λx b=>∃ a,x=.ref a/\(∃ c,SqL K b a c)/\R (Itl K a) b
noncomputable def zbe (K:Jl)(d:TE):TI:=λσ H R=>d σ H λx b=>∃ a,x=.ref a/\(∃ c,SqT K b a c)/\R (Itt K a) b
theorem ug {l:Expr}{f:TE}(k:PE X l f):PI X tg l (bz X.K f):=by
  intro pins s σ H R I h;refine thn (k pins s σ H _ I h) λv c ⟨x,n,d,g,i⟩=>?_;obtain⟨a,e,⟨t,j⟩,q⟩:=i;subst e;cases g;obtain⟨r,u,p,w⟩:=d.list j;refine wpAny_pyIter_list p.isList ?_;refine⟨c.heap.objs.size,[c.heap.objs.size],_,_,n,rfl,d.kept (t':=c.toks) λb o e=>J6 _ e,jN a _,⟨_,Jp _ rfl,rfl,rfl⟩,λb m=>?_,q⟩;have e:b=c.heap.objs.size:=by simpa using m
  subst e;exact d.fpOk (Jd _) (d.hok.fresh (Jd _))
theorem xc {l:Expr}{g:TE}(m:PE X l g):PI X tg l (zbe X.K g):=by
  intro pins s σ H R I h;refine thn (m pins s σ H _ I h) λv c ⟨x,r,d,i,j⟩=>?_;obtain⟨a,e,⟨t,k⟩,q⟩:=j;subst e;cases i;obtain⟨f,u,p,w⟩:=d.tuple k;refine wpAny_pyIter_tuple (show c.heap.IsTuple a f.toArray from p) ?_;refine⟨c.heap.objs.size,[c.heap.objs.size],_,_,r,rfl,d.kept (t':=c.toks) λb o e=>J6 _ e,n5 a _,⟨_,Jp _ rfl,rfl,rfl⟩,λb n=>?_,q⟩;have e:b=c.heap.objs.size:=by simpa using n
  subst e;exact d.fpOk (Jd _) (d.hok.fresh (Jd _))
theorem gm {pins:List (JI × Obj)}{σ:St}{H:Hp}{s:JO}{R:It->Hp->Prop}{E:Jo->JO->Prop}{lo hi:Int}{t u v:Tok}{tk:Nat}(I:Inv X pins σ H s)(h:-(2 ^ 62)<=lo)(g:lo<2 ^ 62)(f:-(2 ^ 62)<=hi)(d:hi<2 ^ 62)(q:R (Itr lo (hi-lo).toNat) H):wpAny (model X.prog X.w) X.A (pyIter (.ref s.heap.objs.size)) (PIE X pins σ tg R) E { s with heap:=s.heap.push { cls:=.type "range",data:=.fields #[.int lo t,.int hi u,.int 1 v] },toks:=tk }:=by
  refine wpAny_pyIter_range (IsRange.new ..) (small_one h g f d) ?_;have a:Inv X pins σ H { s with heap:=s.heap.push { cls:=.type "range",data:=.fields #[.int lo t,.int hi u,.int 1 v] },toks:=tk }:=I.kept λb o e=>J6 _ e
  refine⟨(s.heap.push { cls:=.type "range",data:=.fields #[.int lo t,.int hi u,.int 1 v] }).objs.size,[(s.heap.push { cls:=.type "range",data:=.fields #[.int lo t,.int hi u,.int 1 v] }).objs.size],_,_,H,rfl,
    a.kept (t':=tk) λb o e=>J6 _ e,n9 _ lo (hi-lo).toNat,?_,λb c=>?_,q⟩
  · have i:lo+((0:Nat):Int)*1=lo:=by simp
    have e2:(((hi-lo).toNat:Nat):Int)-((0:Nat):Int)=Builtin.Range.rangeSize lo hi 1:=by rw[rangeSize_one];split<;>grind
    show IsRangeIter _ _ (lo+((0:Nat):Int)*1) ((((hi-lo).toNat:Nat):Int)-((0:Nat):Int)) 1;rw[i,e2];exact Jp _ rfl
  · have e:b=(s.heap.push { cls:=.type "range",data:=.fields #[.int lo t,.int hi u,.int 1 v] }).objs.size:=by simpa using c
    subst e;exact a.fpOk (Jd _) (a.hok.fresh (Jd _))
noncomputable def zbf (b:TA):TI:=λσ H R=>b σ H λa c=>∃ j:Int,a=[.int j]/\-(2 ^ 62)<=j/\j<2 ^ 62/\R (Itr 0 j.toNat) c
theorem vk {a:Expr}{c:TA}{p pos:Pos}(k:Gl X "range") (hm:X.mg "range" = none) (ha:PA X [a] c) (i:starEach [a] X.env=[(false,eval a X.env)]:=by rfl):PI X tg (.Call (.Name "range" p) [a] [] pos) (zbf c):=by
  intro pins s σ H R I h;refine Call_ (xg I k hm boot_range (Ym (thn (ha pos pins s σ H _ I h) λn o ⟨m,u,l,f,b⟩=>?_) i rfl));obtain⟨j,e,b,g,q⟩:=b;subst e
  cases f with
  | cons r d =>
    cases d;obtain⟨t,rfl⟩:=r;exact call_range_1 (gm l (by simp_all) (by simp_all) b g (by simpa using q))
noncomputable def zbw (e:TI)(g:TG)(f:TS):TS:=λD σ H=>e σ H λJ j=>∃ W:Nat->Nat->St->Hp->Prop,(∃ m,W 0 m σ j)/\∀ i m σ H,W i m σ H ->
  (J.stop i H/\D.nx σ H)\/(J.go i H/\∃ N:St->Hp->Prop,(∀ b a,N b a->∃ d,d<m/\W (i+1) d b a)/\∀ x a,J.yld i H x a->g x σ a λc h=>f { D with nx:=N,ct:=N,bk:=D.nx } c h)
noncomputable def x9 (fp:List JI)(h:YP):List (JI × Obj):=fp.filterMap λb=>(h.get? b).map λo=>(b,o)
theorem yU {fp:List JI}{h:YP}{b:JI}{o:Obj}(hb:b∈fp)(e:h.get? b=some o):(b,o)∈x9 fp h:=List.mem_filterMap.mpr ⟨b,hb,by rw[e];rfl⟩
theorem j6 {fp:List JI}{h:YP}{p:JI × Obj}(a:p∈x9 fp h):p.1∈fp/\h.get? p.1=some p.2:=by
  obtain⟨b,c,e⟩:=List.mem_filterMap.mp a
  cases q:h.get? b with
  | none=>rw[q]at e;cases e
  | some o =>
    rw[q]at e;have d:(b,o)=p:=Jf e;subst d;exact⟨c,q⟩
theorem Inv.pinned {pins:List (JI × Obj)}{σ:St}{H:Hp}{s:JO}{fp:List JI}(I:Inv X pins σ H s)(h:∀ b∈fp,FpOk X pins H b)(g:∀ b∈fp,∃ o,s.heap.get? b=some o/\∀ v,o.data≠.cell v):Inv X (pins++x9 fp s.heap) σ H s :=
  I.pins_of λp f=>(Jr.mp f).elim (λz=>I.pin p (Js _ z)) λz=>by
    obtain⟨a,e⟩:=j6 z;obtain⟨k,j,i,_⟩:=h p.1 a;obtain⟨o,c,d⟩:=g p.1 a;rw[e]at c;cases c;exact⟨e,k,j,i,d⟩
theorem Inv.unpinned {pins a:List (JI × Obj)}{σ:St}{H:Hp}{s:JO}(I:Inv X (pins++a) σ H s):Inv X pins σ H s:=I.pins_of λp b=>I.pin p (Js _ (JT _ b))
theorem y7 {iter:Expr}{body:List Stmt}{P:TI}{g:TG}{R:TS}{pos:Pos}(z:PassesOwn (model X.prog X.w) X.A X.env X.xe)(Y:X.calm=true)(hi:PI X tg iter P)(hg:PG X tg g)(hb:PSs X body R)(hs:∀ x,foldedSetIterable iter X.env x=pure x:=by intro _;rfl):PS X (.For tg iter body [] pos) (zbw P g R):=by
  intro pins s σ H D I h;refine wpAny_For (thn (hi pins s σ H _ I h) λv s1 h1=>thn h1 λab s2 h2=>?_) hs;obtain⟨it,A,Q,J,H2,e,I2,T,L,Z,W,⟨m0,w0⟩,turn⟩:=h2;subst e;have p:∀ {q:Hp},(∀ b∈A,q b=none)->∀ b∈A,FpOk X pins q b:=λhn b hb=>⟨hn b hb,(Z b hb).2⟩;refine codeAny_forLoop_any (λn V=>∃ i l q,Inv X pins l q V/\Q i V.heap/\(∀ b∈A,q b=none)/\W i n l q) ?_ m0 ⟨0,σ,H2,I2,L,λb hb=>(Z b hb).1,w0⟩;rintro n U ⟨i,k,E,I3,B,C,w3⟩;rcases turn i n k E w3 with ⟨stop,qn⟩|⟨go,N,hN,step⟩
  · refine ZF z (thn (T.done X rfl rfl rfl Y i pins U k E X.xe I3 (p C) B stop) λr s4 ⟨G,I4⟩=>?_)
    subst G;exact wpAny_execs_nil ⟨k,E,I4,qn⟩
  · refine ZF z (thn (T.item X rfl rfl rfl Y i pins U k E X.xe I3 (p C) B go) λr s4 ⟨u,G,h4⟩=>?_)
    subst G;refine ZF z (thn h4 λ_ S ⟨x,H5,I5,r5,y5,w,M⟩=>?_);have O:=I5.pinned (p M) (T.obj _ _ w);refine ZF z (thn (hg _ S k H5 x u _ O r5 (step x H5 y5)) λ_ s6 ⟨K,H6,I6,q6⟩=>?_);refine ZF z (thn (hb _ s6 K H6 _ I6 q6) λf F t=>?_)
    have again:∀ {a:St}{j:Hp},Inv X (pins++x9 A S.heap) a j F->N a j->∃ m,m<n/\∃ i l q,Inv X pins l q F/\Q i F.heap/\(∀ b∈A,q b=none)/\W i m l q:=λ{a j} c y=>by
      obtain⟨m',hm,w7⟩:=hN a j y;refine⟨m',hm,i+1,a,j,c.unpinned,T.keep _ _ _ w λb hb o e=>(c.pin (b,o) (Js _ (Js _ (yU hb e)))).1,λb hb=>?_,w7⟩;obtain⟨o,e,d⟩:=T.obj _ _ w b hb;exact(c.pin (b,o) (Js _ (Js _ (yU hb e)))).2.1
    cases f with
    | next=>obtain⟨a,j,c,y⟩:=t;exact again c y
    | cont=>obtain⟨a,j,c,y⟩:=t;exact again c y
    | brk=>obtain⟨a,j,c,t⟩:=t;exact⟨a,j,c.unpinned,t⟩
    | ret v=>obtain⟨x7,a,j,c,r7,t⟩:=t;exact⟨x7,a,j,c.unpinned,r7,t⟩
end
theorem nN {K:Jl}{a:JI}{xs:List V}{g:TG}{k:TS}{D:Ends}{σ:St}{H:Hp}(b:Nat->St->Hp->Prop)(t:b 0 σ H)(r:∀ i σ H,i<=xs.length->b i σ H->SqL K H a xs)(o:∀ i x σ H,xs[i]?=some x->b i σ H->g x σ H λd j=>k { D with nx:=b (i+1),ct:=b (i+1),bk:=D.nx } d j)(s:∀ σ H,b xs.length σ H->D.nx σ H) :
    ∃ W:Nat->Nat->St->Hp->Prop,(∃ m,W 0 m σ H)/\∀ i m σ H,W i m σ H ->
      ((Itl K a).stop i H/\D.nx σ H)\/((Itl K a).go i H/\∃ N:St->Hp->Prop,(∀ f c,N f c->∃ l,l<m/\W (i+1) l f c)/\∀ x c,(Itl K a).yld i H x c->g x σ c λd j=>k { D with nx:=N,ct:=N,bk:=D.nx } d j):=by
  refine⟨λi m σ H=>m=xs.length-i/\i<=xs.length/\b i σ H,⟨xs.length,by simp,Jz _,t⟩,?_⟩;rintro i m σ H ⟨rfl,hi,p⟩;have q:=r i σ H hi p;by_cases h:i<xs.length
  · refine .inr ⟨⟨xs,xs[i],q,by simp[h]⟩,b (i+1),λf c n=>⟨xs.length-(i+1),by omega,rfl,h,n⟩,λx c y=>?_⟩
    obtain⟨e,y⟩:=y;subst e;exact o i x σ _ (y xs q) p
  · have e:i=xs.length:=by lia
    subst e;exact .inl ⟨⟨xs,q,Jd _⟩,s σ H p⟩
theorem pI {K:Jl}{a:JI}{xs:List V}{g:TG}{k:TS}{D:Ends}{σ:St}{H:Hp}(b:Nat->St->Hp->Prop)(t:b 0 σ H)(r:∀ i σ H,i<=xs.length->b i σ H->SqT K H a xs)(o:∀ i x σ H,xs[i]?=some x->b i σ H->g x σ H λd j=>k { D with nx:=b (i+1),ct:=b (i+1),bk:=D.nx } d j)(s:∀ σ H,b xs.length σ H->D.nx σ H) :
    ∃ W:Nat->Nat->St->Hp->Prop,(∃ m,W 0 m σ H)/\∀ i m σ H,W i m σ H ->
      ((Itt K a).stop i H/\D.nx σ H)\/((Itt K a).go i H/\∃ N:St->Hp->Prop,(∀ f c,N f c->∃ l,l<m/\W (i+1) l f c)/\∀ x c,(Itt K a).yld i H x c->g x σ c λd j=>k { D with nx:=N,ct:=N,bk:=D.nx } d j):=by
  refine⟨λi m σ H=>m=xs.length-i/\i<=xs.length/\b i σ H,⟨xs.length,by simp,Jz _,t⟩,?_⟩;rintro i m σ H ⟨rfl,hi,p⟩;have q:=r i σ H hi p;by_cases h:i<xs.length
  · refine .inr ⟨⟨xs,xs[i],q,by simp[h]⟩,b (i+1),λf c n=>⟨xs.length-(i+1),by grind,rfl,h,n⟩,λx c y=>?_⟩
    obtain⟨e,y⟩:=y;subst e;exact o i x σ _ (y xs q) p
  · have e:i=xs.length:=by grind
    subst e;exact .inl ⟨⟨xs,q,Jd _⟩,s σ H p⟩
theorem qD {lo:Int}{n:Nat}{g:TG}{j:TS}{D:Ends}{σ:St}{H:Hp}(a:Nat->St->Hp->Prop)(r:a 0 σ H)(o:∀ i σ H,i<n->a i σ H->g (.int (lo+i)) σ H λc h=>j { D with nx:=a (i+1),ct:=a (i+1),bk:=D.nx } c h)(q:∀ σ H,a n σ H->D.nx σ H) :
    ∃ W:Nat->Nat->St->Hp->Prop,(∃ m,W 0 m σ H)/\∀ i m σ H,W i m σ H ->
      ((Itr lo n).stop i H/\D.nx σ H)\/((Itr lo n).go i H/\∃ N:St->Hp->Prop,(∀ d b,N d b->∃ k,k<m/\W (i+1) k d b)/\∀ x b,(Itr lo n).yld i H x b->g x σ b λc h=>j { D with nx:=N,ct:=N,bk:=D.nx } c h):=by
  refine⟨λi m σ H=>m=n-i/\i<=n/\a i σ H,⟨n,by simp,Jz _,r⟩,?_⟩;rintro i m σ H ⟨rfl,hi,p⟩;by_cases f:i<n
  · refine .inr ⟨f,a (i+1),λd b l=>⟨n-(i+1),by grind,rfl,f,l⟩,λx b y=>?_⟩
    obtain⟨e,y⟩:=y;subst e y;exact o i σ _ f p
  · have e:i=n:=by lia
    subst e;exact .inl ⟨Jd _,q σ H p⟩
noncomputable abbrev R2:=V->V->Hp->VK->Prop
noncomputable def OpR (X:Cx)(f:Jo->Jo->Sem Jo)(r:R2):Prop :=
  ∀ (pins:List (JI × Obj)) (s:JO) (σ:St) (H:Hp) (x y:V) (v u:Jo) (Q:VK),Inv X pins σ H s->RelV x v->RelV y u->r x y H Q ->
    wpAny (model X.prog X.w) X.A (f v u) (EP X pins σ Q) X.xe s
noncomputable def CallR (X:Cx)(f:Jo)(r:List V->Hp->VK->Prop):Prop :=
  ∀ (pins:List (JI × Obj)) (s:JO) (σ:St) (H:Hp) (a:List V) (b:List Jo) (Q:VK),Inv X pins σ H s->Vals a b->r a H Q ->
    wpAny (model X.prog X.w) X.A (call f b) (EP X pins σ Q) X.xe s
noncomputable def TruR (X:Cx)(r:V->Hp->(Bool->Hp->Prop)->Prop):Prop :=
  ∀ (pins:List (JI × Obj)) (s:JO) (σ:St) (H:Hp) (x:V) (v:Jo) (Q:Bool->Hp->Prop),Inv X pins σ H s->RelV x v->r x H Q ->
    wpAny (model X.prog X.w) X.A (truthy v) (TP X pins σ Q) X.xe s
noncomputable def tOp (r:R2)(b a:TE):TE:=λσ H Q=>b σ H λx d=>a σ d λy c=>r x y c Q
noncomputable def rI (C:Int->Int->Prop)(g:Int->Int->V):R2:=λx y H Q=>∃ i j,x=.int i/\y=.int j/\C i j/\Q (g i j) H
noncomputable def rI0 (g:Int->Int->V):R2:=λx y H Q=>∃ i j,x=.int i/\y=.int j/\Q (g i j) H
section
variable {X:Cx}{a b:Expr}{ta tb:TE}{pos:Pos}
theorem zaB (ha:PE X a ta)(hb:PE X b tb){pins:List (JI × Obj)}{s:JO}{σ:St}{H:Hp}{R:V->V->Hp->Prop}(I:Inv X pins σ H s)(h:ta σ H λx g=>tb σ g λy c=>R x y c){Q:Jo->JO->Prop}{f:Jo->Jo->Sem Jo}(n:∀ v u s2 x y c,Inv X pins σ c s2->RelV x v->RelV y u->R x y c->wpAny (model X.prog X.w) X.A (f v u) Q X.xe s2) :
    wpAny (model X.prog X.w) X.A (eval a X.env) (λv e=>wpAny (model X.prog X.w) X.A (eval b X.env) (λu d=>wpAny (model X.prog X.w) X.A (f v u) Q X.xe d) X.xe e) X.xe s:=by
  refine thn (ha pins s σ H _ I h) λv i ⟨x,g,p,k,m⟩=>?_;refine thn (hb pins i σ g _ p m) λu s2 ⟨y,c,o,j,l⟩=>?_;exact n v u s2 x y c o k j l
theorem zV {op:Operator}{r:R2}(f:OpR X (binaryOp op) r)(ha:PE X a ta)(hb:PE X b tb):PE X (.BinOp a op b pos) (tOp r ta tb):=by
  intro pins s σ H Q I h;exact wpAny_BinOp (zaB ha hb I h λv u c x y i g e d q=>f pins c σ i x y v u Q g e d q)
theorem opI {f:Jo->Jo->Sem Jo}{C:Int->Int->Prop}{g:Int->Int->Int}(rule:∀ (i j:Int) (t u:Tok) (s:JO) (Q:Jo->JO->Prop) (E:Jo->JO->Prop),C i j->Q (.int (g i j) s.toks) { s with toks:=s.toks+1 }->wpAny (model X.prog X.w) X.A (f (.int i t) (.int j u)) Q E s) :
    OpR X f (rI C λi j=>.int (g i j)):=by
  intro pins s σ H x y v u Q I c b h;obtain⟨i,j,rfl,rfl,d,q⟩:=h;obtain⟨t,rfl⟩:=c;obtain⟨a,rfl⟩:=b;exact rule i j t a s _ _ d ⟨.int (g i j),H,I.tok _,⟨_,rfl⟩,q⟩
theorem za1 {f:Jo->Jo->Sem Jo}{g:Int->Int->Int}(rule:∀ (i j:Int) (t u:Tok) (s:JO) (Q:Jo->JO->Prop) (E:Jo->JO->Prop),Q (.int (g i j) s.toks) { s with toks:=s.toks+1 }->wpAny (model X.prog X.w) X.A (f (.int i t) (.int j u)) Q E s) :
    OpR X f (rI0 λi j=>.int (g i j)):=by
  intro pins s σ H x y v u Q I c b h;obtain⟨i,j,rfl,rfl,q⟩:=h;obtain⟨t,rfl⟩:=c;obtain⟨a,rfl⟩:=b;exact rule i j t a s _ _ ⟨.int (g i j),H,I.tok _,⟨_,rfl⟩,q⟩
theorem cU {f:Jo->Jo->Sem Jo}{g:Int->Int->Bool}(rule:∀ (i j:Int) (t u:Tok) (s:JO) (Q:Jo->JO->Prop) (E:Jo->JO->Prop),Q (.bool (g i j)) s->wpAny (model X.prog X.w) X.A (f (.int i t) (.int j u)) Q E s) :
    OpR X f (rI0 λi j=>.bl (g i j)):=by
  intro pins s σ H x y v u Q I c b h;obtain⟨i,j,rfl,rfl,q⟩:=h;obtain⟨t,rfl⟩:=c;obtain⟨a,rfl⟩:=b;exact rule i j t a s _ _ ⟨.bl (g i j),H,I,rfl,q⟩
noncomputable def CDiv (i j:Int):Prop:=0<j/\j<1073741824
noncomputable def CPow (i j:Int):Prop:=0<=j/\j<=1000000/\i.natAbs<2 ^ 64
noncomputable def CMul (i j:Int):Prop:=(-(2 ^ 64)<i/\i<2 ^ 64)\/(-(2 ^ 64)<j/\j<2 ^ 64)
theorem CMul.ok {i j:Int}(h:CMul i j):IntMulOk i j:=by
  rcases h with ⟨b,a⟩|⟨b,a⟩
  · exact .of_left (intBits_le_64 b a)
  · exact .of_right (intBits_le_64 b a)
theorem xF:OpR X (binaryOp .Add) (rI0 λi j=>.int (i+j)):=za1 λ_ _ _ _ _ _ _ q=>add_int q
theorem tW:OpR X (binaryOp .Sub) (rI0 λi j=>.int (i-j)):=za1 λ_ _ _ _ _ _ _ q=>sub_int q
theorem vp:OpR X (binaryOp .Mult) (rI CMul λi j=>.int (i*j)):=opI λ_ _ _ _ _ _ _ a q=>mul_int q a.ok
theorem vQ:OpR X (binaryOp .FloorDiv) (rI CDiv λi j=>.int (i / j)):=opI λi j _ _ _ _ _ a q=>by
  have c:(0:Int)<j:=a.1;have b:j<1073741824:=a.2;exact floordiv_int (by grind) (by rw[Int.fdiv_eq_ediv_of_nonneg i (by lia)];exact q) (.inl (PyProof.noPylong_small (by omega)))
theorem xR:OpR X (binaryOp .Mod) (rI (λ_ j=>0<j) λi j=>.int (i%j)):=opI λi j _ _ _ _ _ a q=>by
  have b:(0:Int)<j:=a;exact mod_int' (by grind) (by rw[Int.fmod_eq_emod_of_nonneg i (by grind)];exact q)
theorem fU:OpR X (binaryOp .Pow) (rI CPow λi j=>.int (i ^ j.toNat)):=opI λ_ _ _ _ _ _ _ a q=>pow_int_small a.1 a.2.1 a.2.2 q
end
noncomputable def zaS:V->V->Bool
  | .non,.non=>true|.non,.int _=>true|.int _,.non=>true|.non,.bl _=>true|.bl _,.non=>true|.non,.str _=>true|.str _,.non=>true
  | .int _,.int _=>true|.bl _,.bl _=>true|.str _,.str _=>true|.byt _,.byt _=>true
  | .int _,.str _=>true|.str _,.int _=>true|.bl _,.str _=>true|.str _,.bl _=>true
  | _,_=>false
noncomputable def rEq:R2:=λx y H Q=>zaS x y=true/\Q (.bl (decide (x=y))) H
noncomputable def rNe:R2:=λx y H Q=>zaS x y=true/\Q (.bl (!decide (x=y))) H
theorem kn {i j:Int}:decide (V.int i=V.int j)=(i == j):=by
  rw[Yd];simp
theorem dQ {i j:Bool}:decide (V.bl i=V.bl j)=(i == j):=by
  rw[Yd];simp
theorem kh {i j:Str}:decide (V.str i=V.str j)=(i == j):=by
  rw[Yd];simp
theorem kr {i j:Array UInt8}:decide (V.byt i=V.byt j)=(i.toList == j.toList):=by
  rw[Yd];cases i;cases j;simp
section
variable {X:Cx}{a b c:Expr}{ta tb tc:TE}{pos:Pos}
theorem zt {pins:List (JI × Obj)}{σ:St}{H:Hp}{s:JO}{Q:VK}{k a:Bool}(I:Inv X pins σ H s)(q:Q (.bl k) H)(e:k=a):EP X pins σ Q (.bool a) s:=by
  subst e;exact⟨.bl k,H,I,rfl,q⟩
theorem vR:OpR X (compareOp .Eq) rEq:=by
  intro pins s σ H x y v u Q I d a h;obtain⟨c,q⟩:=h
  cases x with
  | non =>
    cases d
    cases y with
    | non=>cases a;exact PySem.EqNone.eq_none_none (zt I q (by simp))
    | bl j=>cases a;exact PySem.EqNone.eq_none_bool (zt I q (by simp))
    | int j=>obtain⟨b,rfl⟩:=a;exact PySem.EqNone.eq_none_int (zt I q (by simp))
    | str j=>obtain⟨b,rfl⟩:=a;exact PySem.EqNone.eq_none_str (zt I q (by simp))
    | _=>exact absurd (show false=true from c) Jh
  | bl i =>
    cases d
    cases y with
    | non=>cases a;exact PySem.EqNone.eq_bool_none (zt I q (by simp))
    | bl j=>cases a;exact eq_bool (zt I q dQ)
    | str j=>obtain⟨b,rfl⟩:=a;exact PySem.EqMixed.eq_bool_str (zt I q (by simp))
    | _=>exact absurd (show false=true from c) Jh
  | int i =>
    obtain⟨t,rfl⟩:=d
    cases y with
    | non=>cases a;exact PySem.EqNone.eq_int_none (zt I q (by simp))
    | int j=>obtain⟨b,rfl⟩:=a;exact eq_int (zt I q kn)
    | str j=>obtain⟨b,rfl⟩:=a;exact PySem.EqMixed.eq_int_str (zt I q (by simp))
    | _=>exact absurd (show false=true from c) Jh
  | str i =>
    obtain⟨t,rfl⟩:=d
    cases y with
    | non=>cases a;exact PySem.EqNone.eq_str_none (zt I q (by simp))
    | bl j=>cases a;exact PySem.EqMixed.eq_str_bool (zt I q (by simp))
    | int j=>obtain⟨b,rfl⟩:=a;exact PySem.EqMixed.eq_str_int (zt I q (by simp))
    | str j=>obtain⟨b,rfl⟩:=a;exact eq_str (zt I q kh)
    | _=>exact absurd (show false=true from c) Jh
  | byt i =>
    obtain⟨t,rfl⟩:=d
    cases y with
    | byt j=>obtain⟨b,rfl⟩:=a;exact PySem.W.eq_bytes (zt I q kr)
    | _=>exact absurd (show false=true from c) Jh
  | _=>cases y<;>exact absurd (show false=true from c) Jh
theorem oU:OpR X (compareOp .NotEq) rNe:=by
  intro pins s σ H x y v u Q I d a h;obtain⟨c,q⟩:=h
  cases x with
  | non =>
    cases d
    cases y with
    | non=>cases a;exact PySem.EqNone.ne_none_none (zt I q (by simp))
    | bl j=>cases a;exact PySem.EqNone.ne_none_bool (zt I q (by simp))
    | int j=>obtain⟨b,rfl⟩:=a;exact PySem.EqNone.ne_none_int (zt I q (by simp))
    | str j=>obtain⟨b,rfl⟩:=a;exact PySem.EqNone.ne_none_str (zt I q (by simp))
    | _=>exact absurd (show false=true from c) Jh
  | bl i =>
    cases d
    cases y with
    | non=>cases a;exact PySem.EqNone.ne_bool_none (zt I q (by simp))
    | bl j=>cases a;exact ne_bool (zt I q (JQ not dQ))
    | str j=>obtain⟨b,rfl⟩:=a;exact PySem.EqMixed.ne_bool_str (zt I q (by simp))
    | _=>exact absurd (show false=true from c) Jh
  | int i =>
    obtain⟨t,rfl⟩:=d
    cases y with
    | non=>cases a;exact PySem.EqNone.ne_int_none (zt I q (by simp))
    | int j=>obtain⟨b,rfl⟩:=a;exact ne_int (zt I q (JQ not kn))
    | str j=>obtain⟨b,rfl⟩:=a;exact PySem.EqMixed.ne_int_str (zt I q (by simp))
    | _=>exact absurd (show false=true from c) Jh
  | str i =>
    obtain⟨t,rfl⟩:=d
    cases y with
    | non=>cases a;exact PySem.EqNone.ne_str_none (zt I q (by simp))
    | bl j=>cases a;exact PySem.EqMixed.ne_str_bool (zt I q (by simp))
    | int j=>obtain⟨b,rfl⟩:=a;exact PySem.EqMixed.ne_str_int (zt I q (by simp))
    | str j=>obtain⟨b,rfl⟩:=a;exact ne_str (zt I q (JQ not kh))
    | _=>exact absurd (show false=true from c) Jh
  | byt i =>
    obtain⟨t,rfl⟩:=d
    cases y with
    | byt j=>obtain⟨b,rfl⟩:=a;exact PySem.W.ne_bytes (zt I q (JQ not kr))
    | _=>exact absurd (show false=true from c) Jh
  | _=>cases y<;>exact absurd (show false=true from c) Jh
theorem zaZ:OpR X (compareOp .Lt) (rI0 λi j=>.bl (decide (i<j))):=cU λ_ _ _ _ _ _ _ q=>lt_int q
theorem br:OpR X (compareOp .LtE) (rI0 λi j=>.bl (decide (i<=j))):=cU λ_ _ _ _ _ _ _ q=>le_int q
theorem kG:OpR X (compareOp .Gt) (rI0 λi j=>.bl (decide (j<i))):=cU λ_ _ _ _ _ _ _ q=>gt_int q
theorem za0:OpR X (compareOp .GtE) (rI0 λi j=>.bl (decide (j<=i))):=cU λ_ _ _ _ _ _ _ q=>ge_int q
theorem ak:OpR X (compareOp .Is) (λx y H Q=>y=.non/\Q (.bl (decide (x=.non))) H):=by
  intro pins s σ H x y v u Q I a b h;obtain⟨rfl,q⟩:=h;cases b;refine is_none_gen (zt I q ?_)
  cases x<;>first
    | (cases a;rfl)
    | (obtain⟨t,rfl⟩:=a;rfl)
theorem kF:OpR X (compareOp .IsNot) (λx y H Q=>y=.non/\Q (.bl (!decide (x=.non))) H):=by
  intro pins s σ H x y v u Q I a b h;obtain⟨rfl,q⟩:=h;cases b;refine isnot_none_gen (zt I q ?_)
  cases x<;>first
    | (cases a;rfl)
    | (obtain⟨t,rfl⟩:=a;rfl)
theorem yK (b:Expr){op:CmpOp}(h:op≠.In:=by decide)(a:op≠.NotIn:=by decide):behindInMarks op b=false:=by
  have c:(op == CmpOp.In)=false:=by cases op<;>first|rfl|exact absurd rfl h
  have e2:(op == CmpOp.NotIn)=false:=by cases op<;>first|rfl|exact absurd rfl a
  cases b<;>simp[behindInMarks,c,e2]
theorem ui {op:CmpOp}{r:R2}(f:OpR X (compareOp op) r)(ha:PE X a ta)(hb:PE X b tb)(hm:behindInMarks op b=false):PE X (.Compare a [op] [b] pos) (tOp r ta tb):=by
  intro pins s σ H Q I h;exact wpAny_Compare1 (zaB ha hb I h λv u c x y i g e d q=>f pins c σ i x y v u Q g e d q) hm
noncomputable def zaG (t:TE):TT:=λσ H Q=>t σ H λx a=>∃ k,x=.bl k/\Q k a
theorem zo {op:CmpOp}{r:R2}(o:OpR X (compareOp op) r)(ha:PE X a ta)(hb:PE X b tb)(hm:behindInMarks op b=false):PT X (.Compare a [op] [b] pos) (zaG (tOp r ta tb)):=by
  intro pins s σ H Q I h
  refine wpAny_isTrue_Compare1 (thn (ha pins s σ H _ I h) λv f ⟨x,B,t,j,n⟩=>thn (hb pins f σ B _ t n) λu d ⟨y,A,q,i,m⟩ =>
    thn (o pins d σ A x y v u _ q j i m) λc C ⟨z,w,p,g,k,e,l⟩=>?_) hm
  subst e;cases g;exact Yu ⟨w,p,l⟩
noncomputable def aH (r c:R2)(ta tb tc:TE):TE:=λσ H Q=>ta σ H λx f=>tb σ f λy e=>r x y e λz a=>∃ k,z=.bl k /\
  (if k=true then tc σ a λb d=>c y b d Q else Q (.bl false) a)
theorem fO {op f:CmpOp}{r j:R2}(J:OpR X (compareOp op) r)(g:OpR X (compareOp f) j)(ha:PE X a ta)(hb:PE X b tb)(K:PE X c tc)(hm:lastMarks [op,f] [b,c]=false:=by with_unfolding_all rfl):PE X (.Compare a [op,f] [b,c] pos) (aH r j ta tb tc):=by
  intro pins s σ H Q I h
  refine Compare_chain (thn (ha pins s σ H _ I h) λv A ⟨x,R,N,D,G⟩=>chain_link (thn (hb pins A σ R _ N G) λu w ⟨y,P,M,i,F⟩ =>
    thn (J pins w σ P x y v u _ M D i F) λd t ⟨z,n,m,C,k,e,l⟩=>?_)) hm
  subst e;cases C;refine Yu ?_
  cases k with
  | false=>exact ite_ff ⟨.bl false,n,m,rfl,l⟩
  | true=>exact ite_tt (chain_last (thn (K pins t σ n _ m l) λp q ⟨o,O,L,B,E⟩=>g pins q σ O y o u p Q L i B E))
noncomputable def TruV (K:Jl)(x:V)(H:Hp)(k:Bool):Prop :=
  match x with
  | .non=>k=false
  | .bl b=>k=b
  | .int i=>k=(i != 0)
  | .str y=>y.length<=sizeLine/\k=((y.length:Int) != 0)
  | .byt y=>y.size<=sizeLine/\k=((y.size:Int) != 0)
  | .ref p=>(∃ a,SqL K H p a/\k = !a.isEmpty)\/(∃ a,SqT K H p a/\k = !a.isEmpty)\/∃ c,H p=some (.dK c)/\k = !c.isEmpty
  | _=>False
theorem lL {κ:Type}{kvs:List (κ × V)}{vs:List (κ × Jo)}(r:KV kvs vs):(!vs.isEmpty) = !kvs.isEmpty:=by
  cases r<;>rfl
theorem sF {xs:List V}{its:List Jo}(r:Vals xs its):(!its.toArray.isEmpty) = !xs.isEmpty:=by
  cases r<;>simp
theorem tu:(sizeLine:Nat)<2 ^ 63:=by rw[JE];decide
theorem aC:TruR X (λx H Q=>∃ k,TruV X.K x H k/\Q k H):=by
  intro pins s σ H x v Q I f h;obtain⟨k,e,q⟩:=h;have A:=tu;have z:sizeLine=16777216:=JE
  cases x with
  | non =>
    cases f;have a:k=false:=e;subst a
    exact truthy_none ⟨H,I,q⟩
  | bl b =>
    cases f;have a:k=b:=e;subst a
    exact Yu ⟨H,I,q⟩
  | int i =>
    obtain⟨t,rfl⟩:=f;have a:k=(i != 0):=e;subst a
    exact PySem.P.truthy_int ⟨H,I,q⟩
  | str y =>
    obtain⟨t,rfl⟩:=f;obtain⟨u,a⟩:y.length<=sizeLine/\k=((y.length:Int) != 0):=e;subst a
    exact PySem.P.truthy_str (by lia) ⟨H,I.tok _,q⟩
  | byt y =>
    obtain⟨t,rfl⟩:=f;obtain⟨u,a⟩:y.size<=sizeLine/\k=((y.size:Int) != 0):=e;subst a
    exact PySem.W.truthy_bytes (by lia) ⟨H,I.tok _,q⟩
  | ref p =>
    cases f;have a:(∃ d,SqL X.K H p d/\k = !d.isEmpty)\/(∃ d,SqT X.K H p d/\k = !d.isEmpty)\/∃ c,H p=some (.dK c)/\k = !c.isEmpty:=e;rcases a with ⟨d,g,a⟩|⟨d,g,a⟩|⟨c,g,a⟩
    · subst a
      obtain⟨n,r,l,o⟩:=I.list g;have hlen:=r.length;exact wpAny_truthy_list l.isList (by simp only[Jg];lia) ⟨H,I.tok _,by rw[sF r];exact q⟩
    · subst a
      obtain⟨n,r,l,o⟩:=I.tuple g;have hlen:=r.length;exact truthy_tuple l (by simp only[Jg];grind) ⟨H,I.tok _,by rw[sF r];exact q⟩
    · subst a
      obtain⟨o,w,j,r,m⟩:c.length<=sizeLine/\(p == sysModules)=false/\∃ j,KV c j/\s.heap.DictOf (yZ X.prog X.w) p j:=I.hok p _ g;have hlen:c.length=j.length:=JU r
      exact wpAny_truthy_dict w m (by lia) ⟨H,I.tok _,by rw[lL r];exact q⟩
  | _=>exact(show False from e).elim
theorem gu (ha:PE X a ta)(e:∀ whole,isTrue a X.env whole=(do let v <- whole;standAt a.pos;holding [v] (truthy v))) :
    PT X a (λσ H Q=>ta σ H λx H'=>∃ k,TruV X.K x H' k/\Q k H'):=by
  intro pins s σ H Q I h;exact isTrue_plain (thn (ha pins s σ H _ I h) λv b ⟨x,g,f,c,d⟩=>aC pins b σ g x v Q f c d) (e _)
theorem uK {x:V}{us:List Jo}(r:Vals [x] us):∃ u,us=[u]/\RelV x u:=by
  cases r with
  | cons b a=>cases a;exact⟨_,rfl,b⟩
theorem lZ {x y:V}{us:List Jo}(r:Vals [x,y] us):∃ u a,us=[u,a]/\RelV x u/\RelV y a:=by
  cases r with
  | cons e d =>
    cases d with
    | cons c b=>cases b;exact⟨_,_,rfl,e,c⟩
theorem ni:CallR X (.builtin "abs") (λxs H Q=>∃ i,xs=[.int i]/\Q (.int (if i<0 then -i else i)) H):=by
  intro pins s σ H xs a Q I r h;obtain⟨i,rfl,q⟩:=h;obtain⟨u,rfl,t,rfl⟩:=uK r;exact call_abs_int λu b=>⟨.int (if i<0 then -i else i),H,I.tok _,⟨_,rfl⟩,q⟩
theorem iq (b:X.calm=true):CallR X (.builtin "max") (λxs H Q=>∃ i j,xs=[.int i,.int j]/\Q (.int (if j > i then j else i)) H):=by
  intro pins s σ H xs d Q I r h;obtain⟨i,j,rfl,q⟩:=h;obtain⟨u,c,rfl,⟨t,rfl⟩,⟨f,rfl⟩⟩:=lZ r;refine max_two_ints (I.ok.hd b) λg e k=>⟨_,H,I.kept k,?_,q⟩;by_cases a:j > i
  · rw[Jm a,Jm a];exact⟨_,rfl⟩
  · rw[Je a,Je a];exact⟨_,rfl⟩
theorem ip (b:X.calm=true):CallR X (.builtin "min") (λxs H Q=>∃ i j,xs=[.int i,.int j]/\Q (.int (if j<i then j else i)) H):=by
  intro pins s σ H xs d Q I r h;obtain⟨i,j,rfl,q⟩:=h;obtain⟨u,c,rfl,⟨t,rfl⟩,⟨f,rfl⟩⟩:=lZ r;refine min_two_ints (I.ok.hd b) λg e k=>⟨_,H,I.kept k,?_,q⟩;by_cases a:j<i
  · rw[Jm a,Jm a];exact⟨_,rfl⟩
  · rw[Je a,Je a];exact⟨_,rfl⟩
theorem qI:CallR X (.type "int") (λxs H Q=>(∃ i,xs=[.int i]/\Q (.int i) H)\/∃ k,xs=[.bl k]/\Q (.int (if k then 1 else 0)) H):=by
  intro pins s σ H xs b Q I r h;rcases h with ⟨i,rfl,q⟩|⟨k,rfl,q⟩
  · obtain⟨u,rfl,t,rfl⟩:=uK r
    exact call_int_int ⟨.int i,H,I,⟨_,rfl⟩,q⟩
  · obtain⟨u,rfl,a⟩:=uK r
    cases a;exact call_int_bool ⟨.int (if k then 1 else 0),H,I.tok _,⟨_,rfl⟩,q⟩
end
structure ObjM (h:YP) (x dx C:JI) (mA:Str->Option Jo):Prop where
  obj:h.get? x=some (PySem.W.instObj C dx)
  ns:h.Ns1 dx mA
  ne:dx≠x
theorem iJ {h:YP}{dx:JI}{mA:Str->Option Jo}(n:h.Ns1 dx mA):∃ od,h.get? dx=some od/\∀ name,PySem.W.lookIn name od=some (mA name):=by
  obtain⟨o,c,l,f,j,i,_,g⟩:=n;refine⟨o,f,λname=>?_⟩;have e:=g name;unfold nsFind findBy at e;rw[<- Array.find?_toList]at e;unfold PySem.W.lookIn;rw[j];dsimp only;split
  · rename_i y q
    rw[q]at e;exact JQ some e
  · rename_i q
    rw[q]at e
    have a:c.toList.any (·.refKey)=false:=by
      rw[List.any_eq_false];intro y d;obtain⟨z,t,b⟩:=i y (Array.mem_toList_iff.mp d);simp[DictEntry.refKey,b]
    have k:¬ c.toList.any (·.refKey)=true:=by rw[a];exact Jh
    rw[Je k];exact JQ some e
theorem ObjM.look {h:YP}{x dx C:JI}{mA:Str->Option Jo}(I:ObjM h x dx C mA):∃ od,PySem.W.InstAt h x (PySem.W.instObj C dx) C (some od)/\∀ name,PySem.W.lookIn name od=some (mA name) :=
  let ⟨od,a,b⟩:=iJ I.ns
  ⟨od,⟨I.obj,rfl,rfl,a⟩,b⟩
theorem RelO.some_of {v:V}{o:Option Jo}(r:RelO (some v) o):∃ u,o=some u/\RelV v u:=by
  cases o with
  | none=>exact(show False from r).elim
  | some u=>exact⟨u,rfl,r⟩
section
variable {P:Yo}{w:YI}{H:Hp}{h:YP}{a C dx:JI}{fs:List (Str × V)}
theorem bJ (hok:HOk P w H h)(e:H a=some (.ins C dx fs)):∃ mA,ObjM h a dx C mA/\(∀ f,RelO (fs.lookup f) (mA f))/\PySem.Within mA (fs.map (·.1))/\fs.length<=1000/\H dx=some (.own a):=by
  obtain⟨d,z,ne,ob,mA,n,r,q⟩:=(show ObjOk P w H h a (.ins C dx fs) from hok a _ e);exact⟨mA,⟨ob,n,ne⟩,r,q,z,d⟩
end
structure Cls (K:Jl) (C:JI):Prop where
  pg:PySem.W.plainGet K C Str.empty=true
  hd:PySem.W.hasDictIn K C=true
  po:PySem.W.plainOver K C=true
  sa:PySem.W.findIn K (.ref C) "__setattr__" = some (some (.builtin "object.__setattr__"))
theorem Cls.get {K:Jl}{C:JI}(c:Cls K C)(f:Str):PySem.W.plainGet K C f=true:=c.pg
section
variable {X:Cx}{pins:List (JI × Obj)}{σ:St}{H:Hp}{s:JO}{A:YO}{E:Jo->JO->Prop}{Q:Jo->JO->Prop}{c:Jo}{b:Bool}
inductive TyOf (K:Jl) (H:Hp):V->Jo->Prop where
  | non:TyOf K H .non (.type "NoneType")
  | bl (x:Bool):TyOf K H (.bl x) (.type "bool")
  | int (i:Int):TyOf K H (.int i) (.type "int")
  | str (x:Str):TyOf K H (.str x) (.type "str")
  | flt (x:UInt64):TyOf K H (.flt x) (.type "float")
  | lst {a:JI}{xs:List V}(e:H a=some (.lst xs)):TyOf K H (.ref a) (.type "list")
  | frz {a:JI}{o:Obj}{xs:List V}(e:H a=some (.frz o (.lst xs))):TyOf K H (.ref a) (.type "list")
  | tup {a:JI}{xs:List V}(e:H a=some (.tup xs)):TyOf K H (.ref a) (.type "tuple")
  | dK {a:JI}{kvs:List (Key × V)}(e:H a=some (.dK kvs)):TyOf K H (.ref a) (.type "dict")
  | dT {a:JI}{kvs:List (List Key × V)}(e:H a=some (.dT kvs)):TyOf K H (.ref a) (.type "dict")
  | ins {a C dx:JI}{fs:List (Str × V)}(e:H a=some (.ins C dx fs)) (cl:Cls K C) (ha:PySem.W.findIn K (.ref C) "__class__" = some (some (.builtin "object.__class__")))
      (hn:PySem.W.specialIn K (.builtin "object.__class__") "__get__" = some (some (.builtin "getset_descriptor.__get__"))) (htk:PySem.W.takesIn K (.builtin "object.__class__")=some true)
      (hm:PySem.W.mroIn K C (.type "object")=some true):TyOf K H (.ref a) (.ref C)
theorem iS {x:V}{u t:Jo}(I:Inv X pins σ H s)(d:RelV x u)(ty:TyOf X.K H x t)(e:PySem.W.kitOne X.K t c=some b)(h:∀ tk,Q (.bool b) { s with toks:=tk }) :
    wpAny (model X.prog X.w) A (call (.builtin "isinstance") [u,c]) Q E s:=by
  cases ty with
  | non=>cases (show u=Value.none from d);exact YH PySem.W.kitx_none I.kIn True.intro e (λz=>nomatch z) h
  | bl y=>cases (show u=Value.bool y from d);exact YH PySem.W.kitx_bool I.kIn True.intro e (λz=>nomatch z) h
  | int i=>obtain⟨t,q⟩:=(show ∃ t,u=Value.int i t from d);cases q;exact YH PySem.W.kitx_int I.kIn True.intro e (λz=>nomatch z) h
  | str y=>obtain⟨t,q⟩:=(show ∃ t,u=Value.str y t from d);cases q;exact YH PySem.W.kitx_str I.kIn True.intro e (λz=>nomatch z) h
  | flt y=>obtain⟨t,q⟩:=(show ∃ t,u=Value.float y t from d);cases q;exact YH PySem.W.kitx_float I.kIn True.intro e (λz=>nomatch z) h
  | @lst a k f =>
    cases (show u=Value.ref a from d);obtain⟨_,_,n,_,g⟩:=(show ObjOk X.prog X.w H s.heap a (.lst k) from I.hok a _ f)
    exact YH PySem.W.kitx_list I.kIn ⟨_,g,rfl⟩ e (λz=>nomatch z) h
  | @frz a ob k f =>
    cases (show u=Value.ref a from d);obtain⟨_,_,_,n,_,g⟩:=(show ObjOk X.prog X.w H s.heap a (.frz ob (.lst k)) from I.hok a _ f)
    exact YH PySem.W.kitx_list I.kIn ⟨_,g,rfl⟩ e (λz=>nomatch z) h
  | @tup a k f =>
    cases (show u=Value.ref a from d);obtain⟨_,_,_,r⟩:=(show ObjOk X.prog X.w H s.heap a (.tup k) from I.hok a _ f);have p:=r.tup;obtain⟨o,g,l,_⟩:=p
    exact YH PySem.W.kitx_tuple I.kIn ⟨o,g,l⟩ e (λz=>nomatch z) h
  | @dK a j f =>
    cases (show u=Value.ref a from d);obtain⟨_,_,G,_,p⟩:=(show ObjOk X.prog X.w H s.heap a (.dK j) from I.hok a _ f);obtain⟨o,D,F,g,l,_⟩:=p
    exact YH PySem.W.kitx_dict I.kIn ⟨o,g,l.1⟩ e (λz=>nomatch z) h
  | @dT a j f =>
    cases (show u=Value.ref a from d);obtain⟨_,_,k,_,o,D,F,g,l,_⟩:=(show ObjOk X.prog X.w H s.heap a (.dT j) from I.hok a _ f)
    exact YH PySem.W.kitx_dict I.kIn ⟨o,g,l.1⟩ e (λz=>nomatch z) h
  | @ins a C M fs f cl B v m w =>
    cases (show u=Value.ref a from d);obtain⟨L,O,_⟩:=bJ I.hok f;obtain⟨K,J,_⟩:=O.look;exact YH (PySem.W.kitx_own (cl.get _) cl.hd B v m w) I.kIn J e (λz=>nomatch z) h
end
structure Room (k:Nat) (A:YO):Prop where
  hd:A.handled=none
  dp:A.depth+3*k+5<recursionLimit
  un:A.units+16*k+200<cLine
  gd:A.guards=some []
theorem Room.mono {j k:Nat}{A:YO}(r:Room k A)(h:j<=k):Room j A:=⟨r.hd,by have:=r.dp;grind,by have:=r.un;grind,r.gd⟩
theorem Room.deeper {k:Nat}{A:YO}(r:Room (k+1) A)(env:Env):Room k (A.deeper env) :=
  ⟨r.hd,by have:=r.dp;show A.depth+1+3*k+5<_;lia,by have:=r.un;show A.units+3+16*k+200<_;lia,r.gd⟩
theorem Room.depth {k:Nat}{A:YO}(r:Room k A):A.depth<recursionLimit:=by have:=r.dp;grind
theorem Room.units {k:Nat}{A:YO}(r:Room k A):A.units+64<cLine:=by have:=r.un;grind
theorem Room.units0 {k:Nat}{A:YO}(r:Room k A):A.units<cLine:=by have:=r.un;grind
noncomputable def gJ:TA:=λ_ H Q=>Q [] H
noncomputable def li (c:TE)(b:TA):TA:=λσ H Q=>c σ H λx e=>b σ e λa d=>Q (x::a) d
section
variable {X:Cx}{e:Expr}{es:List Expr}{te:TE}{t:TA}{pos:Pos}
theorem zC:PA X [] gJ:=λ_ _ _ _ H Q I h=>Wk ⟨[],H,I,.nil,h⟩
theorem zA (ha:PE X e te)(j:PA X es t)(i:starEach (e::es) X.env=(false,eval e X.env)::starEach es X.env:=by rfl):PA X (e::es) (li te t):=by
  intro pos pins s σ H Q I h;rw[i];show wpAny _ _ (spliced ((false,eval e X.env)::backTo pos (starEach es X.env))) _ _ s;refine ZH (thn (ha pins s σ H _ I h) λu b ⟨x,n,l,d,g⟩=>?_);exact thn (j pos pins b σ n _ l g) λo p ⟨a,m,k,c,f⟩=>⟨x::a,m,k,.cons d c,f⟩
noncomputable def zbq (t:TA):TE:=λσ H Q=>t σ H λa b=>a.length<=sizeLine/\∀ p,b p=none->Q (.ref p) (upd b p (.tup a))
noncomputable def zbu (t:TA):TE:=λσ H Q=>t σ H λa b=>a.length<=sizeLine/\∀ p,b p=none->Q (.ref p) (upd b p (.lst a))
theorem zX {x1}(h:PA X es t):PE X (.Tuple es x1 pos) (zbq t):=by
  intro pins s σ H Q I i;refine wpAny_Tuple_spliced (thn (h pos pins s σ H _ I i) λg a ⟨f,d,c,r,z,q⟩=>⟨by rw[<- r.length];exact z,?_⟩);have j:d a.heap.objs.size=none:=c.hok.fresh (Jd _);refine⟨.ref a.heap.objs.size,upd d a.heap.objs.size (.tup f),c.laid (t':=a.toks) (λb u e=>J6 _ e) (Jd _) ?_,rfl,q _ j⟩;exact⟨z,g,r,TupX.new _ _⟩
theorem yJ (h:PA X es t):PE X (.List es pos) (zbu t):=by
  intro pins s σ H Q I i;refine wpAny_List_spliced (thn (h pos pins s σ H _ I i) λg a ⟨f,d,c,r,z,q⟩=>⟨by rw[<- r.length];exact z,?_⟩);have j:d a.heap.objs.size=none:=c.hok.fresh (Jd _);refine⟨.ref a.heap.objs.size,upd d a.heap.objs.size (.lst f),c.laid (t':=a.toks) (λb u e=>J6 _ e) (Jd _) ?_,rfl,q _ j⟩;exact⟨z,g,0,r,Jp _ rfl⟩
end
noncomputable abbrev Sp:=List V->Hp->VK->XK->Prop
noncomputable abbrev CXT:=List Env->Hp->JO->XK->Jo->JO->Prop
structure Env0 (P:Yo) (w:YI) (K:Jl) (mg:Str->Option Jo) (base:YP) (A:YO) (outer:List Env) (s:JO) (H:Hp):Prop where
  frames:A.frames=some outer
  mod:Mod K mg base
  bs:∀ b o,base.get? b=some o->s.heap.get? b=some o/\H b=none
  bsz:base.objs.size<=s.heap.objs.size
  funs:s.heap.FunFrames base outer
  frf:∀ b∈frs outer,H b=none
  hok:HOk P w H s.heap
  bare:AllBare s.gens
noncomputable def CE (outer:List Env)(P:Yo)(w:YI)(H:Hp)(s:JO)(Q:VK)(u:Jo)(a:JO):Prop :=
  ∃ v b,a.os=s.os/\AllBare a.gens/\Un (frs outer) [] H b s.heap a.heap/\HOk P w b a.heap/\RelV v u/\Q v b
noncomputable def CR (CX:CXT)(outer:List Env)(P:Yo)(w:YI)(H:Hp)(s:JO)(Q:VK)(E:XK)(r:Result)(a:JO):Prop :=
  match r with
  | .ok (.ret u)=>CE outer P w H s Q u a
  | .ok _=>False
  | .error e=>CX outer H s E e a
structure FnOk (P:Yo) (w:YI) (K:Jl) (mg:Str->Option Jo) (base:YP) (CX:CXT) (k:Nat) (f:JI) (fd:Yl) (ps:List Str) (sp:Sp):Prop where
  len:∀ vs H Q E,sp vs H Q E->vs.length=ps.length
  run:∀ (A:YO) (outer:List Env) (s:JO) (H:Hp) (args:Args) (us:List Jo) (vs:List V) (Q:VK) (E:XK),Room k A->Env0 P w K mg base A outer s H->BindsTo s fd args (ps.zip us)->Vals vs us->sp vs H Q E ->
    codeAny (model P w) A (.call (.ref f) args) (CR CX outer P w H s Q E) s
theorem FnOk.mono {P:Yo}{w:YI}{K:Jl}{mg:Str->Option Jo}{base:YP}{CX:CXT}{j k:Nat}{f:JI}{fd:Yl}{ps:List Str}{sp:Sp}(F:FnOk P w K mg base CX j f fd ps sp)(h:j<=k) :
    FnOk P w K mg base CX k f fd ps sp:=⟨F.len,λA outer s H args b a Q E c=>F.run A outer s H args b a Q E (c.mono h)⟩
theorem FnOk.imp {P:Yo}{w:YI}{K:Jl}{mg:Str->Option Jo}{base:YP}{CX:CXT}{k:Nat}{f:JI}{fd:Yl}{ps:List Str}{sp a:Sp}(F:FnOk P w K mg base CX k f fd ps sp)(h:∀ vs H Q E,a vs H Q E->sp vs H Q E):FnOk P w K mg base CX k f fd ps a :=
  ⟨λvs H Q E q=>F.len vs H Q E (h _ _ _ _ q),λA outer s H args b vs Q E e g i c d=>F.run A outer s H args b vs Q E e g i c (h _ _ _ _ d)⟩
section
variable {X:Cx}{pins:List (JI × Obj)}{σ:St}{H:Hp}{s s':JO}
theorem Inv.env0 (I:Inv X pins σ H s):Env0 X.prog X.w X.K X.mg X.base X.A X.stack s H :=
  ⟨I.ok.frames,I.ok.mod,I.bs,JS I.ok.bsz I.sz,I.stack,I.stkFree,I.hok,I.bare⟩
theorem Inv.after {Q:VK}{u:Jo}(I:Inv X pins σ H s)(h:CE X.stack X.prog X.w H s Q u s'):EP X pins σ Q u s':=by
  obtain⟨v,f,os,bare,un,c,r,q⟩:=h;obtain⟨e,g,d,t,a⟩:=s';obtain rfl:a=s.os:=os;exact⟨v,f,I.call (h':=e) (g':=g) (d':=d) (t':=t) (ch:=[]) un c bare (λb z=>absurd z (by simp)),r,q⟩
end
noncomputable def bj (sp:Sp)(a:List V)(E:XK)(t:TA):TE:=λσ H Q=>t σ H λb c=>sp (b++a) c Q E
noncomputable def Binds (K:Jl)(fd:Yl)(ps:List Str)(ds:List Jo):Prop :=
  ∀ (s:JO) (a:List Jo),K.In s.heap->(a++ds).length=ps.length->BindsTo s fd ⟨a,[]⟩ (ps.zip (a++ds))
theorem Binds.all {K:Jl}{fd:Yl}{ps:List Str}(h:∀ us:List Jo,us.length=ps.length->bindArgs fd ⟨us,[]⟩=pure (ps.zip us)):Binds K fd ps []:=λs us _ a=>by
  rw[JZ]at a ⊢;exact .of_eq (h us a)
noncomputable def Passes (CX:CXT)(X:Cx)(E:XK):Prop:=∀ (pins:List (JI × Obj)) (σ:St) (H:Hp) (s:JO) (e:Jo) (a:JO),Inv X pins σ H s->CX X.stack H s E e a->X.xe e a
section
variable {X:Cx}{CX:CXT}{k:Nat}{f:JI}{fd:Yl}{ps:List Str}{sp:Sp}{dvs:List V}{ds:List Jo}{E:XK}{x:Str}{p pos:Pos}{e:Expr}{es:List Expr}{t:TA}
theorem aZ {pins:List (JI × Obj)}{σ:St}{H:Hp}{s:JO}{Q:VK}{us:List Jo}{vs:List V}(F:FnOk X.prog X.w X.K X.mg X.base CX k f fd ps sp)(g:Room k X.A)(hb:Binds X.K fd ps ds)(hd:Vals dvs ds)(d:Passes CX X E)(I:Inv X pins σ H s)(r:Vals vs us)(h:sp (vs++dvs) H Q E):wpAny (model X.prog X.w) X.A (call (.ref f) us) (EP X pins σ Q) X.xe s:=by
  have b:Vals (vs++dvs) (us++ds):=r.append hd;have i:(us++ds).length=ps.length:=by rw[<- b.length];exact F.len _ _ _ _ h
  refine wpAny_call (codeAny_mono (F.run X.A X.stack s H ⟨us,[]⟩ (us++ds) (vs++dvs) Q E g I.env0 (hb s us I.kIn i) b h) λr c a=>?_)
  cases r with
  | error e=>exact d pins σ H s e c I a
  | ok fl =>
    cases fl with
    | ret u=>exact I.after a
    | next=>exact False.elim a
    | brk=>exact False.elim a
    | cont=>exact False.elim a
theorem zQ (F:FnOk X.prog X.w X.K X.mg X.base CX k f fd ps sp) (g:Room k X.A) (j:Gl X x) (hm:X.mg x=some (.ref f)) (i:PySem.W.keepIn X.K (.ref f)=true) (hb:Binds X.K fd ps ds) (hd:Vals dvs ds) (d:Passes CX X E)
    (ha:PA X (e::es) t) (b:(x == ("__debug__":Str))=false:=by decide) (l:starEach (e::es) X.env=(false,eval e X.env)::starEach es X.env:=by rfl) (a:(backTo pos (starEach es X.env)).any (·.1)=false:=by rfl) :
    PE X (.Call (.Name x p) (e::es) [] pos) (bj sp dvs E t):=by
  intro pins s σ H Q I h;refine Zf (kW I j hm ?_ b);refine PySem.W.callWith_K (h₀:=X.base) I.ok.mod.kin i (thn (ha pos pins s σ H _ I h) λn o ⟨m,u,c,r,q⟩=>⟨c.kIn,?_⟩) l a;exact aZ F g hb hd d c r q
end
structure FnScope (N P:List Str) (sc:Scope):Prop where
  kind:sc.kind=.function
  co:sc.isCoroutine=false
  gen:sc.isGenerator=false
  nd:N.Nodup
  pre:N.take P.length=P
  par:∀ x∈P,sc.names.lookup x=some .local \/ sc.names.lookup x=some .cell
  nofree:∀ y∈sc.names,y.2≠.free
theorem qJ {kindOf:Str->Option NameKind}{x:Str}:∀ {binds:List (Str × Jo)}{m:Str->Option Jo},(∀ v,(x,v)∉binds)->bindL kindOf binds m x=m x
  | [],_,_=>rfl
  | (n,v)::r,m,h=>by
    unfold bindL;rw[qJ λw a=>h w (JD _ a)];split
    · have:x≠n:=by rintro rfl;exact h v JH
      simp[this]
    · rfl
theorem qL {kindOf:Str->Option NameKind}{x:Str}:∀ {binds:List (Str × Jo)}{m:Str->Option Jo},(∀ v,(x,v)∉binds)->bindC kindOf binds m x=m x
  | [],_,_=>rfl
  | (n,v)::r,m,h=>by
    unfold bindC;rw[qL λw a=>h w (JD _ a)];split
    · rfl
    · have:x≠n:=by rintro rfl;exact h v JH
      simp[this]
theorem qK {kindOf:Str->Option NameKind}{x:Str}{v:Jo}:∀ {P:List Str}{vs:List Jo}{i:Nat}{m:Str->Option Jo},P.Nodup->P[i]?=some x->vs[i]?=some v->kindOf x=some .local ->
    bindL kindOf (P.zip vs) m x=some v
  | [],_,_,_,_,h,_,_=>by simp at h
  | _::_,[],_,_,_,_,h,_=>by simp at h
  | p::P,w::vs,0,m,nd,b,a,c=>by
    simp at b a;subst b;subst a;show bindL kindOf ((p,w)::P.zip vs) m p=_;unfold bindL;rw[qJ λv d=>(JP.mp nd).1 (List.of_mem_zip d).1,Jm c]
    simp
  | p::P,w::vs,i+1,m,nd,b,a,c=>by
    show bindL kindOf ((p,w)::P.zip vs) m x=_;unfold bindL;exact qK (i:=i) (JP.mp nd).2 (by simpa using b) (by simpa using a) c
theorem qM {kindOf:Str->Option NameKind}{x:Str}{v:Jo}:∀ {P:List Str}{vs:List Jo}{i:Nat}{m:Str->Option Jo},P.Nodup->P[i]?=some x->vs[i]?=some v->kindOf x≠some .local ->
    bindC kindOf (P.zip vs) m x=some v
  | [],_,_,_,_,h,_,_=>by simp at h
  | _::_,[],_,_,_,_,h,_=>by simp at h
  | p::P,w::vs,0,m,nd,b,a,c=>by
    simp at b a;subst b;subst a;show bindC kindOf ((p,w)::P.zip vs) m p=_;unfold bindC;rw[qL λv d=>(JP.mp nd).1 (List.of_mem_zip d).1,Je c]
    simp
  | p::P,w::vs,i+1,m,nd,b,a,c=>by
    show bindC kindOf ((p,w)::P.zip vs) m x=_;unfold bindC;exact qM (i:=i) (JP.mp nd).2 (by simpa using b) (by simpa using a) c
noncomputable def start (N:List Str)(vs:List V):St:=vs.map some++List.replicate (N.length-vs.length) none
noncomputable def lS (CX:CXT)(P:Yo)(w:YI)(K:Jl)(mg:Str->Option Jo)(base:YP)(N:List Str)(qual:Str)(scope:Scope)(f:JI)(cd:Jo)(A:YO)(outer:List Env)(s:JO)(H:Hp)(E:XK):Cx where
  prog:=P
  w:=w
  K:=K
  mg:=mg
  base:=base
  A:=A.deeper (envOfC qual scope s.heap.objs.size f cd)
  N:=N
  s₀:=s
  H₀:=H
  env:=envOfC qual scope s.heap.objs.size f cd
  outer:=outer
  stack:=envOfC qual scope s.heap.objs.size f cd::outer
  ex:=[]
  calm:=true
  fn:=λ_=>true
  pn:=[]
  xe:=λe b=>wpAny (model P w) (A.deeper (envOfC qual scope s.heap.objs.size f cd)) (leaving (envOfC qual scope s.heap.objs.size f cd) e) (λ_ a=>CX outer H s E e a) (λc a=>CX outer H s E c a) b
theorem ng {sc:Scope}{n:Nat}{x:Str}(h:sc.names.lookup x=some .cell):∃ c,(cellsFrom n sc.names []).lookup x=some c:=by
  have q:=PySem.W.cellsFrom_some sc.names n [] (.inl h);exact ZD.mp q
theorem iT {CX:CXT}{P:Yo}{w:YI}{K:Jl}{mg:Str->Option Jo}{base:YP}{N ps:List Str}{qual:Str}{scope:Scope}{f:JI}{cd:Jo}{A:YO}{outer:List Env}{s s1:JO}{H:Hp}{E:XK}{us:List Jo}{vs:List V}(S:FnScope N ps scope)(hd:A.handled=none)(g:Env0 P w K mg base A outer s H)(J:vs.length=ps.length)(r:Vals vs us)(x:InCallC s s.heap.objs.size (bindL (envOfC qual scope s.heap.objs.size f cd).kindOf (ps.zip us) λ_=>none) (cellsFrom (s.heap.objs.size+1) scope.names []) (bindC (envOfC qual scope s.heap.objs.size f cd).kindOf (ps.zip us) λ_=>none) s1) :
    Inv (lS CX P w K mg base N qual scope f cd A outer s H E) [] (start N vs) H s1:=by
  have G:ps.length<=N.length:=by have:=JQ List.length S.pre;rw[JC]at this;lia
  obtain⟨t,I,rfl,C⟩:=x.done;have l:∀ b:JI,b∉(lS CX P w K mg base N qual scope f cd A outer s H E).ex:=λb z=>absurd (show b∈([]:List JI) from z) (by simp)
  refine⟨⟨g.mod,S.kind,rfl,rfl,Jd _,λy z c t d=>?_,λy j=>?_,λy c _ h=>?_,λ_=>hd,Around.frames_deeper g.frames,.inr ⟨rfl,rfl⟩,λb z=>absurd z (l b),g.bs,g.bsz,λb _ _=>l b,λb z=>absurd z (l b),g.funs,g.frf⟩,
    rfl,g.bare,Un.kept C,⟨_,x.toInCall.ns,λi y v t d L=>?_⟩,λy c h=>⟨_,x.cell y c h⟩,g.hok.fresh (Jd _),λy c h=>?_,λp m=>absurd (show p∈([]:List (JI × Obj)) from m) (by simp),g.hok.kept C,?_⟩
  · exact name_of_addr x.apart (Z8 t) (Z8 d)
  · have j:scope.names.lookup y=some .cell\/scope.names.lookup y=some .free:=j
    rcases j with j|j
    · exact ng j
    · exact absurd rfl (S.nofree _ (Z8 j))
  · exact Nat.le_of_lt (x.above y c (Z8 h))
  · have hi:i<vs.length:=by
      unfold start at d;by_cases hi:i<vs.length
      · exact hi
      · rw[Zs (by simpa using hi)]at d
        rw[List.getElem?_replicate]at d;split at d<;>cases d
    have F:vs[i]?=some v:=by
      unfold start at d;rw[Zy (by simpa using hi),JV]at d
      cases e:vs[i]? with
      | none=>rw[e]at d;cases d
      | some a=>rw[e]at d;cases d;rfl
    obtain⟨u,B,D⟩:=r.get F
    have m:ps[i]?=some y:=by
      rw[<- S.pre,Z7 (by simp_all)];exact t
    have o:ps.Nodup:=by rw[<- S.pre];exact S.nd.sublist (List.take_sublist _ _)
    refine⟨u,D,?_⟩;rcases S.par y (JF m) with k|k
    · exact .inl ⟨k,qK o m B k⟩
    · obtain⟨c,e⟩:=ng (n:=s.heap.objs.size+1) k
      refine .inr ⟨.inl k,c,e,?_⟩;have q:=x.cell y c e;rw[qM o m B (by show scope.names.lookup y≠_;rw[k];decide)]at q;exact q
  · exact g.hok.fresh (Nat.le_of_lt (x.above y c (Z8 h)))
  · unfold start
    show _=N.length;rw[Jb,Jc,ZR]
    simp_all
theorem aA {CX:CXT}{P:Yo}{w:YI}{K:Jl}{mg:Str->Option Jo}{base:YP}{k:Nat}{f:JI}{name qual:Str}{params:Arguments}{body:List Stmt}{scope:Scope}{C kV doc pm cdv ct oc:Jo}{an od:Option JI}{osl:Array (Option Jo)}{N ps:List Str}{sp:Sp}(G:K.lookup f=some ⟨oc,od,.func (PySem.W.fnOf name qual params body scope C kV doc pm an cdv ct),osl⟩)(z:PySem.W.codeIn K cdv qual=true)(S:FnScope N ps scope)(len:∀ vs H Q E,sp vs H Q E->vs.length=ps.length)(g:∀ (A:YO) (outer:List Env) (s:JO) (H:Hp) (vs:List V) (Q:VK) (E:XK),Room k (A.deeper (envOfC qual scope s.heap.objs.size f cdv))->sp vs H Q E ->
      ∃ t,PSs (lS CX P w K mg base N qual scope f cdv A outer s H E) body t/\t { nx:=λ_ c=>Q .non c,rt:=Q } (start N vs) H) :
    FnOk P w K mg base CX (k+1) f (PySem.W.fnOf name qual params body scope C kV doc pm an cdv ct) ps sp:=by
  refine⟨len,λA outer s H args F vs Q E p i U r j=>?_⟩;have R:=len _ _ _ _ j;have D:K.In s.heap:=i.mod.kin.keeps λb o e=>(i.bs b o e).1;have lim:s.heap.NoLimit:=i.mod.nolimit.keeps λb o e=>(i.bs b o e).1
  have d:∀ y∈ps.zip F,scope.names.lookup y.1=some .local \/ (scope.names.lookup y.1=some .cell/\((cellsFrom (s.heap.objs.size+1) scope.names []).lookup y.1).isSome=true):=λ⟨n,v⟩ L=>by
    rcases S.par n (List.of_mem_zip L).1 with q|q
    · exact .inl q
    · exact .inr ⟨q,PySem.W.cellsFrom_some _ _ _ (.inl q)⟩
  refine codeAny_call_function p.depth (D _ _ G) rfl S.co S.gen rfl (PySem.W.codeRec_of D z) (U _ _ _ _ ?_);refine wpAny_newFunctionEnv_cells S.kind d λenv T B x=>?_;subst T;refine⟨lim.keeps x.toInCall.keep,codeAny_func ?_⟩;obtain⟨t,M,O⟩:=g A outer s H vs Q E (p.deeper _) j;have I:Inv (lS CX P w K mg base N qual scope f cdv A outer s H E) [] (start N vs) H B:=iT S p.hd i R r x;refine JK (M [] B (start N vs) H _ I O) (λfl l h=>?_) λe l h=>h
  have fin:∀ {a:St}{c:Hp}{v:V}{u:Jo},Inv (lS CX P w K mg base N qual scope f cdv A outer s H E) [] a c l->RelV v u->Q v c->CE outer P w H s Q u l :=
    λ{a c v u} J m q=>⟨v,c,J.os,J.bare,J.base,J.hok,m,q⟩
  cases fl with
  | ret u =>
    obtain⟨v,a,c,J,m,q⟩:=h
    exact fin J m q
  | next =>
    obtain⟨a,c,J,q⟩:=h
    exact fin (v:=V.non) (u:=Value.none) J rfl q
  | brk =>
    obtain⟨_,_,_,q⟩:=h
    exact False.elim q
  | cont =>
    obtain⟨_,_,_,q⟩:=h;exact False.elim q
section
variable {X:Cx}{x:Str}{p pos:Pos}{e:Expr}{es:List Expr}{t:TA}{id T:String}{r:List V->Hp->VK->Prop}
noncomputable def tCB (r:List V->Hp->VK->Prop)(t:TA):TE:=λσ H Q=>t σ H λa b=>r a b Q
theorem zR (m:CallR X (.builtin id) r) (k:Gl X x) (hm:X.mg x=none) (j:bootBuiltins x=some (.builtin id)) (ha:PA X (e::es) t) (hn:x≠"__name__":=by decide) (b:(x == ("__debug__":Str))=false:=by decide)
    (l:starEach (e::es) X.env=(false,eval e X.env)::starEach es X.env:=by rfl) (a:(backTo pos (starEach es X.env)).any (·.1)=false:=by rfl):PE X (.Call (.Name x p) (e::es) [] pos) (tCB r t):=by
  intro pins s σ H Q I h;refine Zf (xg I k hm j ?_ hn b);exact PyProof.Rows.callWith_builtin1 (thn (ha pos pins s σ H _ I h) λd f ⟨c,o,n,g,i⟩=>m pins f σ o c d Q n g i) l a
theorem zw (m:CallR X (.type T) r) (k:Gl X x) (hm:X.mg x=none) (j:bootBuiltins x=some (.type T)) (ha:PA X (e::es) t) (hn:x≠"__name__":=by decide) (b:(x == ("__debug__":Str))=false:=by decide)
    (l:starEach (e::es) X.env=(false,eval e X.env)::starEach es X.env:=by rfl) (a:(backTo pos (starEach es X.env)).any (·.1)=false:=by rfl):PE X (.Call (.Name x p) (e::es) [] pos) (tCB r t):=by
  intro pins s σ H Q I h;refine Zf (xg I k hm j ?_ hn b);exact Ym (thn (ha pos pins s σ H _ I h) λd f ⟨c,o,n,g,i⟩=>m pins f σ o c d Q n g i) l a
end
end L2
namespace HT
open PySem PyProof.Rows
section
variable {prog:Yo}{w:YI}{A:YO}{E:Jo->JO->Prop}{s:JO}
theorem cat_tup {t b:JI}{vs ws:List Jo}{Q:Jo->JO->Prop}(u:IsTup s.heap t vs.toArray) (hb:IsTup s.heap b ws.toArray) (m:vs≠[])
    (x:ws=[]->Q (.ref t) s) (v:ws≠[]->Q (.ref s.heap.objs.size) { s with heap:=s.heap.push { cls:=.type "tuple",data:=.seq (vs++ws).toArray } })
    (j:vs.length+ws.length<=sizeLine):wpAny (model prog w) A (binaryOp .Add (.ref t) (.ref b)) Q E s:=by
  obtain⟨⟨cls,q,data,k⟩,i,p,n,o⟩:=id u;obtain⟨⟨r,g,data2,c⟩,a,f,l,d⟩:=id hb;simp only at p o f d;subst p o f d;have e:vs.toArray++ws.toArray=(vs++ws).toArray:=by simp
  by_cases h:ws=[]
  · exact concat_meets ⟨_,i,rfl⟩ ⟨_,a,rfl⟩ noFill_tuple_add seq_tuple_add PySem.F.slot_tuple_add PySem.F.entry_tuple_add (PySem.F.args_tuple_add_2 _ _)
      (tuple_addW1 t b vs.toArray ws.toArray n l q g k c (by simpa using m) (by simp[h])) ⟨i,a,x h⟩
  · refine concat_meets ⟨_,i,rfl⟩ ⟨_,a,rfl⟩ noFill_tuple_add seq_tuple_add PySem.F.slot_tuple_add PySem.F.entry_tuple_add (PySem.F.args_tuple_add_2 _ _)
      (tuple_addW2 t b vs.toArray ws.toArray n l q g k c (by simpa using m) (by simpa using h) (by rw[Jg,Jg];exact j)) ⟨i,a,?_⟩
    rw[e];exact v h
noncomputable def sIx (n d:Nat):Option Int->Nat
  | none=>d
  | some v=>if v<0 then (v+(n:Int)).toNat else min v.toNat n
theorem sIx_none (n d:Nat):sIx n d none=d:=rfl
theorem sIx_nat (n d k:Nat):sIx n d (some (k:Int))=min k n:=by
  show (if (k:Int)<0 then ((k:Int)+(n:Int)).toNat else min (k:Int).toNat n)=min k n;rw[Je (by simp_all),Yg]
theorem aV (n d:Nat)(hd:d<=n)(o:Option Int):sIx n d o<=n:=by
  cases o with
  | none=>exact hd
  | some v =>
    show (if v<0 then (v+(n:Int)).toNat else min v.toNat n)<=n;by_cases a:v<0
    · rw[Jm a];grind
    · rw[Je a];exact Nat.min_le_right _ _
theorem jC (v:Int)(n d:Nat):(if v<0 then max (v+(n:Int)) 0 else min v (n:Int))=((sIx n d (some v):Nat):Int):=by
  show (if v<0 then max (v+(n:Int)) 0 else min v (n:Int))=(((if v<0 then (v+(n:Int)).toNat else min v.toNat n):Nat):Int);by_cases a:v<0
  · simp only[Jm a];simp_all
  · simp only[Je a];grind
theorem lW (lo hi:Option Int)(n:Nat):Builtin.Slice.sliceAdjust lo hi 1 (n:Int)=(((sIx n 0 lo:Nat):Int),((sIx n n hi:Nat):Int)):=by
  have a:¬((1:Int)<0):=by simp_all
  unfold Builtin.Slice.sliceAdjust;simp only[a,Zi];refine Prod.ext ?_ ?_
  · cases lo with
    | none=>rfl
    | some v=>exact jC v n 0
  · cases hi with
    | none=>rfl
    | some v=>exact jC v n n
theorem mh (i j:Nat):Builtin.Slice.slicePlaces (i:Int) (j:Int) 1=j-i:=by
  unfold Builtin.Slice.slicePlaces;have a:(1:Int) > 0:=by simp_all
  simp only[a,Z9,Int.ediv_one];split<;>simp_all
theorem tK {v:Jo}{o:Option Int}{Q:Option Int->JO->Prop}(p:IsPart v o)(h:Q o s):wpAny (model prog w) A (Builtin.Slice.slicePartIndex v) Q E s:=by
  cases p with
  | none=>exact slicePart_none h
  | int i t=>exact slicePart_int h
theorem sliceApplied_gen {sl:JI}{d c:Jo}{lo hi:Option Int}{n:Nat}{Q:Int × Int × Nat->JO->Prop}(f:s.heap.IsSliceOf sl d c .none)(e:IsPart d lo)(pu:IsPart c hi)(h:Q (((sIx n 0 lo:Nat):Int),1,sIx n n hi-sIx n 0 lo) s):wpAny (model prog w) A (Builtin.Slice.sliceApplied (.ref sl) (pure (n:Int))) Q E s:=by
  obtain⟨os,a,g,b⟩:=id f;unfold Builtin.Slice.sliceApplied Builtin.Slice.sliceFields;refine J0 (J0 (ZY a b (x:=d) rfl (J0 (ZY a b (x:=c) rfl (J0 (ZY a b (x:=.none) rfl (J7 ?_)))))));refine J0 (slicePart_none ?_);show wpAny _ _ (if ((1:Int) == 0)=true then _ else _) _ _ s;rw[Je (by decide)];refine J0 (tK e (J0 (tK pu (J0 (J7 ?_)))));show wpAny _ _ (match Builtin.Slice.sliceAdjust lo hi 1 (n:Int) with|(lo,hi)=>pure (lo,(1:Int),Builtin.Slice.slicePlaces lo hi 1)) _ _ s;rw[lW lo hi n];show wpAny _ _ (pure (((sIx n 0 lo:Nat):Int),(1:Int),Builtin.Slice.slicePlaces ((sIx n 0 lo:Nat):Int) ((sIx n n hi:Nat):Int) 1)) _ _ s;rw[mh];exact J7 h
theorem g8 (xs:Array Jo)(i k:Nat):((List.range k).filterMap λ(m:Nat)=>xs[((i:Int)+(m:Int)*1).toNat]?).toArray=((xs.toList.drop i).take k).toArray:=by
  have e:(λ(m:Nat)=>xs[((i:Int)+(m:Int)*1).toNat]?)=λm=>xs[i+m]?:=by
    funext m
    have:((i:Int)+(m:Int)*1).toNat=i+m:=by grind
    rw[this]
  rw[e];have:=pick_run xs i k;rw[ZJ]at this;have e2:((λx=>xs[x]?)∘λx=>i+x)=λm=>xs[i+m]?:=rfl;rw[e2]at this;rw[this]
theorem getItem_tuple_cut {t sl:JI}{items:Array Jo}{i g:Jo}{lo hi:Option Int}{Q:Jo->JO->Prop}(b:IsTup s.heap t items) (j:s.heap.IsSliceOf sl i g .none) (k:IsPart i lo) (pu:IsPart g hi)
    (l:¬(sIx items.size 0 lo=0/\sIx items.size items.size hi=items.size))
    (h:Q (.ref s.heap.objs.size) { s with heap:=s.heap.push { cls:=.type "tuple",data:=.seq ((items.toList.drop (sIx items.size 0 lo)).take (sIx items.size items.size hi-sIx items.size 0 lo)).toArray } })
    (n:items.size<=sizeLine):wpAny (model prog w) A (getItem (.ref t) (.ref sl)) Q E s:=by
  have a:sizeOk (.seq ((items.toList.drop (sIx items.size 0 lo)).take (sIx items.size items.size hi-sIx items.size 0 lo)).toArray):=by
    show ((items.toList.drop (sIx items.size 0 lo)).take (sIx items.size items.size hi-sIx items.size 0 lo)).toArray.size<=sizeLine;rw[Jg,JC,Zb,Jy];omega
  have u:sIx items.size items.size hi<=items.size:=aV _ _ (Jd _) hi;obtain⟨os,c,e,o⟩:=id j;have f:s.TypeIs (.ref sl) "slice":=⟨os,c,e⟩;unfold getItem
  try with_reducible refine Y5 ?_
  first|refine J0 (J7 ?_)|skip
  refine J0 (wpAny_sequenceKey b.typeIs (by decide) ?_)
  refine J0 (wpAny_callSpecial?_slot (name:=Str.ofString "__getitem__") b.typeIs ZQ
    (Y6 ZQ b.typeIs entry_tuple_getitem ?_ (args_tuple_getitem _ _)))
  show wpAny _ _ (Builtin.Tuple.tupleItemsOf (.ref t) >>= _) _ _ s;refine J0 (tupleItemsOf_ b ?_);refine J0 (YN f ?_);rw[Jm (by decide)];refine J0 (sliceApplied_gen j k pu ?_)
  have d:¬((((sIx items.size 0 lo:Nat):Int) == 0 && (1:Int) == 1 && (sIx items.size items.size hi-sIx items.size 0 lo) == items.size)=true):=by
    intro q;rw[YK,YK]at q;have r:((sIx items.size 0 lo:Nat):Int)=0:=eq_of_beq q.1.1;have p:sIx items.size items.size hi-sIx items.size 0 lo=items.size:=eq_of_beq q.2;exact l ⟨by simp_all,by simp_all⟩
  show wpAny _ _ (if (((sIx items.size 0 lo:Nat):Int) == 0 && (1:Int) == 1 && (sIx items.size items.size hi-sIx items.size 0 lo) == items.size)=true then _ else _) _ _ s;rw[Je d,g8]
  first
    | exact J0 (m:=Builtin.Tuple.tupleExact _) (JN (J7 ⟨_,rfl,J7 h⟩) a)
    | exact J0 (m:=Builtin.Tuple.tupleExact _) (JN (J0 (J7 (J7 ⟨_,rfl,J7 h⟩))) a)
    | exact J0 (J0 (m:=Builtin.Tuple.tupleExact _) (JN (J7 (J7 ⟨_,rfl,J7 h⟩)) a))
    | exact J0 (J0 (m:=Builtin.Tuple.tupleExact _) (JN (J7 ⟨_,rfl,J7 h⟩) a))
end
end HT
namespace L2
open PySem PySem.Spec PyProof.Rows
noncomputable abbrev TO:=St->Hp->(Option Int->Hp->Prop)->Prop
noncomputable def PO (X:Cx)(e:Option Expr)(t:TO):Prop :=
  ∀ (pins:List (JI × Obj)) (s:JO) (σ:St) (H:Hp) (Q:Option Int->Hp->Prop),Inv X pins σ H s->t σ H Q ->
    wpAny (model X.prog X.w) X.A (evalPart e X.env) (λu b=>∃ o a,Inv X pins σ a b/\IsPart u o/\Q o a) X.xe s
noncomputable def dy:TO:=λ_ H Q=>Q none H
noncomputable def zaH (t:TE):TO:=λσ H Q=>t σ H λx a=>∃ i,x=.int i/\Q (some i) a
section
variable {X:Cx}{e:Expr}{te:TE}{lo hi:Option Expr}{tl th:TO}{pos p2:Pos}
theorem yq:PO X none dy:=by
  intro pins s σ H Q I h;rw[evalPart_none];exact J7 ⟨none,H,I,.none,h⟩
theorem yW (h:PE X e te):PO X (some e) (zaH te):=by
  intro pins s σ H Q I c;rw[evalPart_some];refine thn (h pins s σ H _ I c) λu g ⟨x,f,d,a,b⟩=>?_;obtain⟨i,rfl,q⟩:=b;obtain⟨t,rfl⟩:=a;exact⟨some i,f,d,.int i t,q⟩
noncomputable def SlR (X:Cx)(r:V->Option Int->Option Int->Hp->VK->Prop):Prop :=
  ∀ (pins:List (JI × Obj)) (s:JO) (σ:St) (H:Hp) (x:V) (v b a:Jo) (lo hi:Option Int) (c:JI) (Q:VK),Inv X pins σ H s->RelV x v->s.heap.IsSliceOf c b a .none->IsPart b lo->IsPart a hi->r x lo hi H Q ->
    ∃ T id,typeLookup (.type T) "__getitem__" = pure (some (.builtin id))/\s.TypeIs v T/\wpAny (model X.prog X.w) X.A (getItem v (.ref c)) (EP X pins σ Q) X.xe s
noncomputable def tSl (r:V->Option Int->Option Int->Hp->VK->Prop)(te:TE)(tl th:TO):TE:=λσ H Q=>te σ H λx c=>tl σ c λl b=>th σ b λu a=>r x l u a Q
theorem yo {r:V->Option Int->Option Int->Hp->VK->Prop}(w:SlR X r)(A:PE X e te)(y:PO X lo tl)(p:PO X hi th):PE X (.Subscript e (.Slice lo hi none p2) pos) (tSl r te tl th):=by
  intro pins s σ H Q I h;refine Subscript_ (thn (A pins s σ H _ I h) λv i ⟨x,J,F,j,n⟩=>?_);refine wpAny_Slice (thn (y pins i σ J _ F n) λd g ⟨l,G,E,o,m⟩=>thn (p pins g σ G _ E m) λc a ⟨u,f,D,pu,k⟩=>?_);rw[evalPart_none];refine J7 ?_;have C:Inv X pins σ f { a with heap:=a.heap.push { cls:=.type "slice",data:=.fields #[d,c,.none] } }:=D.kept (t':=a.toks) λb ob q=>J6 _ q;obtain⟨T,id,B,t,z⟩:=w pins { a with heap:=a.heap.push { cls:=.type "slice",data:=.fields #[d,c,.none] } } σ f x v d c l u a.heap.objs.size Q C j (Heap.IsSliceOf.new ..) o pu k;show wpAny (model X.prog X.w) X.A (subscriptTail e (.Slice lo hi none p2) v (.ref a.heap.objs.size)) (EP X pins σ Q) X.xe { a with heap:=a.heap.push { cls:=.type "slice",data:=.fields #[d,c,.none] } };exact tail_any (ops:=[.ref a.heap.objs.size,v]) t B z (by with_unfolding_all rfl)
noncomputable def vW (xs:List V)(lo hi:Option Int):List V:=(xs.drop (HT.sIx xs.length 0 lo)).take (HT.sIx xs.length xs.length hi-HT.sIx xs.length 0 lo)
theorem uU (xs:List V)(lo hi:Option Int):(vW xs lo hi).length<=xs.length:=by
  unfold vW;rw[JC,Zb]
  grind
noncomputable def zbQ (K:Jl):V->Option Int->Option Int->Hp->VK->Prop:=λx lo hi H Q=>∃ a b,x=.ref a/\SqT K H a b /\
  ¬(HT.sIx b.length 0 lo=0/\HT.sIx b.length b.length hi=b.length)/\∀ p,H p=none->Q (.ref p) (upd H p (.tup (vW b lo hi)))
theorem aJ:SlR X (zbQ X.K):=by
  intro pins s σ H x v n m lo hi p Q I g l i pu h;obtain⟨a,c,rfl,j,k,q⟩:=h;cases g;obtain⟨d,r,f,e⟩:=I.tuple j;have hlen:d.toArray.size=c.length:=by rw[Jg];exact r.length.symm
  refine⟨"tuple",_,PyProof.Rows.slot_tuple_getitem.lookup,f.typeIs,?_⟩;refine HT.getItem_tuple_cut f l i pu (by rw[hlen];exact k) ?_ (by rw[hlen];exact e);rw[hlen];refine⟨.ref s.heap.objs.size,_,I.laid (t':=s.toks) (o:=.tup (vW c lo hi)) (λb ob q=>J6 _ q) (Jd _) ?_,rfl,q _ (I.hok.fresh (Jd _))⟩;exact⟨JS (uU c lo hi) e,_,(r.drop (HT.sIx c.length 0 lo)).take (HT.sIx c.length c.length hi-HT.sIx c.length 0 lo),TupX.new _ _⟩
noncomputable def zaY (K:Jl):R2:=λx y H Q=>∃ a b d c,x=.ref a/\y=.ref b/\SqT K H a d/\SqT K H b c/\d≠[]/\d.length+c.length<=sizeLine /\
  (c=[]->Q (.ref a) H)/\(c≠[]->∀ p,H p=none->Q (.ref p) (upd H p (.tup (d++c))))
theorem Vals.nil_iff {xs:List V}{us:List Jo}(r:Vals xs us):us=[]↔xs=[]:=by
  cases r with
  | nil=>simp
  | cons _ _=>simp
theorem cT:OpR X (binaryOp .Add) (zaY X.K):=by
  intro pins s σ H x y v u Q I k j h;obtain⟨a,b,i,g,rfl,rfl,t,r,p,e,m,l⟩:=h;cases k;cases j;obtain⟨A,d,n,_⟩:=I.tuple t;obtain⟨f,c,p2,_⟩:=I.tuple r;refine HT.cat_tup n p2 (λz=>p (d.nil_iff.mp z)) (λz=>⟨.ref a,H,I,rfl,m (c.nil_iff.mp z)⟩) (λz=>?_) (by rw[<- d.length,<- c.length];exact e);refine⟨.ref s.heap.objs.size,_,I.laid (t':=s.toks) (o:=.tup (i++g)) (λb ob q=>J6 _ q) (Jd _) ?_,rfl,l (λw=>z (c.nil_iff.mpr w)) _ (I.hok.fresh (Jd _))⟩;exact⟨by rw[Jb];exact e,_,d.append c,TupX.new _ _⟩
end
noncomputable def ixN (n:Nat)(i:Int):Option Nat:=if 0<=i then (if i<n then some i.toNat else none) else if -(n:Int)<=i then some (i+n).toNat else none
noncomputable def atI {α:Type}(xs:List α)(i:Int):Option α:=(ixN xs.length i).bind λj=>xs[j]?
theorem pG {n:Nat}{i:Int}{j:Nat}(h:ixN n i=some j):seqIndex? i n=some j/\j<n/\-(n:Int)<=i/\i<n:=by
  unfold ixN at h;by_cases b:0<=i
  · rw[Jm b]at h
    by_cases a:i<n
    · rw[Jm a]at h
      have e:i.toNat=j:=Jf h;exact⟨by rw[seqIndex_of b a,e],by omega,by grind,a⟩
    · rw[Je a]at h;cases h
  · rw[Je b]at h
    by_cases a:-(n:Int)<=i
    · rw[Jm a]at h
      have e:(i+n).toNat=j:=Jf h;exact⟨by rw[seqIndex_neg (by simp_all) a,e],by grind,a,by grind⟩
    · rw[Je a]at h;cases h
theorem jE {α:Type}{xs:List α}{i:Int}{v:α}(h:atI xs i=some v):∃ j,seqIndex? i xs.length=some j/\xs[j]?=some v/\j<xs.length/\-(xs.length:Int)<=i/\i<xs.length:=by
  unfold atI at h
  cases e:ixN xs.length i with
  | none=>rw[e]at h;cases h
  | some j =>
    rw[e]at h;obtain⟨d,c,b,a⟩:=pG e;exact⟨j,d,h,c,b,a⟩
theorem yk {α:Type}{xs:List α}{j:Nat}{v:α}(h:xs[j]?=some v):atI xs (j:Int)=some v:=by
  have a:j<xs.length:=(J9.mp h).1
  have e:ixN xs.length (j:Int)=some j:=by
    unfold ixN;rw[Jm (by simp_all),Jm (by simp_all)];simp
  unfold atI;rw[e];exact h
noncomputable def PlainIx (b:Expr):Prop:=∀ o i,subscripted b false o i=operate [o,i] (getItem o i)
noncomputable def IxR (X:Cx)(r:R2):Prop :=
  ∀ (value slice:Expr) (pins:List (JI × Obj)) (s:JO) (σ:St) (H:Hp) (x y:V) (v u:Jo) (Q:VK),Inv X pins σ H s->RelV x v->RelV y u->r x y H Q ->
    subscripted slice false v u=operate [v,u] (getItem v u)->wpAny (model X.prog X.w) X.A (subscriptTail value slice v u) (EP X pins σ Q) X.xe s
noncomputable def MtR (X:Cx)(id:String)(r:V->List V->Hp->VK->Prop):Prop :=
  ∀ (pins:List (JI × Obj)) (s:JO) (σ:St) (H:Hp) (x:V) (a:List V) (v:Jo) (b:List Jo) (Q:VK),Inv X pins σ H s->RelV x v->Vals a b->r x a H Q ->
    wpAny (model X.prog X.w) X.A (call (.builtin id) (v::b)) (EP X pins σ Q) X.xe s
section
variable {X:Cx}{a b:Expr}{ta tb:TE}{pos:Pos}
theorem zj {r:R2}(g:IxR X r)(ha:PE X a ta)(hb:PE X b tb)(f:PlainIx b):PE X (.Subscript a b pos) (tOp r ta tb):=by
  intro pins s σ H Q I h;exact Subscript_ (zaB ha hb I h λv u c x y j i e d q=>g a b pins c σ j x y v u Q i e d q (f _ _))
noncomputable def ad (K:Jl):R2:=λx y H Q=>∃ p a i v,x=.ref p/\y=.int i/\SqL K H p a/\atI a i=some v/\Q v H
noncomputable def zbU (K:Jl):R2:=λx y H Q=>∃ p a i v,x=.ref p/\y=.int i/\SqT K H p a/\atI a i=some v/\Q v H
theorem yB:IxR X (ad X.K):=by
  intro value slice pins s σ H x y v u Q I n m h f;obtain⟨p,F,i,z,rfl,rfl,o,B,q⟩:=h;cases n;obtain⟨t,rfl⟩:=m;obtain⟨e,r,b,G⟩:=I.list o;obtain⟨j,a,E,K,D,C⟩:=jE B;obtain⟨w,k,d⟩:=r.get E;have A:=r.length;have J:=tu;have fin:EP X pins σ Q w s:=⟨z,H,I,d,q⟩;by_cases g:0<=i
  · have c:i.toNat=j:=by
      rw[seqIndex_of g C]at a;exact Jf a
    exact item_listR b.isList g (by lia) (by rw[c];simpa using k) fin f
  · have c:(i+(e.toArray.size:Int)).toNat=j:=by
      rw[seqIndex_neg (by simp_all) D]at a;rw[Jg,<- A];exact Jf a
    exact subscriptTail_builtinR (x:=w) b.isList.typeIs slot_list_getitem.lookup
      (wpAny_getItem_list_neg (Q:=λr l=>r=w/\EP X pins σ Q r l) b.isList (by simp_all) (by rw[Jg]<;>simp_all) (by grind) (by rw[c];simpa using k) ⟨rfl,fin⟩) f
theorem yE:IxR X (zbU X.K):=by
  intro value slice pins s σ H x y v u Q I e d h f;obtain⟨p,B,i,z,rfl,rfl,g,l,q⟩:=h;cases e;obtain⟨t,rfl⟩:=d;obtain⟨A,r,b,C⟩:=I.tuple g;obtain⟨j,n,m,G,F,E⟩:=jE l;obtain⟨w,o,a⟩:=r.get m;have k:=r.length;have D:=tu;have fin:EP X pins σ Q w s:=⟨z,H,I,a,q⟩
  exact subscriptTail_builtinR (x:=w) b.typeIs slot_tuple_getitem.lookup
    (getItem_tuple (j:=j) (Q:=λr c=>r=w/\EP X pins σ Q r c) b (by grind) (by grind) (by rw[Jg,<- k];exact n) (by simpa using o) ⟨rfl,fin⟩) f
theorem lA (its:List Jo)(n j:Nat)(u:Jo):Obj.mapSeq (·.setIfInBounds j u) { cls:=.type "list",data:=.seq its.toArray n }={ cls:=.type "list",data:=.seq (its.set j u).toArray n }:=by
  simp[Obj.mapSeq]
theorem Inv.lst {pins:List (JI × Obj)}{σ:St}{H:Hp}{s:JO}{p:JI}{xs:List V}(I:Inv X pins σ H s)(h:H p=some (.lst xs)) :
    ∃ (its:List Jo) (n:Nat),Vals xs its/\s.heap.get? p=some { cls:=.type "list",data:=.seq its.toArray n }/\xs.length<=sizeLine:=by
  obtain⟨z,its,n,r,e⟩:=I.hok p _ h;exact⟨its,n,r,e,z⟩
theorem Inv.lstUpd {pins:List (JI × Obj)}{σ:St}{H:Hp}{s:JO}{p:JI}{xs ys:List V}{its its':List Jo}{n a:Nat}{f:Obj->Obj}(I:Inv X pins σ H s) (h:H p=some (.lst xs))
    (g:s.heap.get? p=some { cls:=.type "list",data:=.seq its.toArray n }) (c:f { cls:=.type "list",data:=.seq its.toArray n }={ cls:=.type "list",data:=.seq its'.toArray a }) (r:Vals ys its') (d:ys.length<=sizeLine) (t:Nat) :
    Inv X pins σ (upd H p (.lst ys)) { s with heap:=s.heap.update p f,toks:=t }:=by
  have e:(s.heap.update p f).get? p=some { cls:=.type "list",data:=.seq its'.toArray a }:=by
    rw[YJ f g (by rw[c]<;>rfl),c]
  refine I.write (x:=p) (e:=p) (by rw[h];trivial) (.inl rfl) (λb u i q=>(Yh _ _ (Ne.symm i)).trans q) ⟨_,e⟩ ?_;exact⟨d,its',a,r,e⟩
noncomputable def zaW:V->V->V->Hp->(Hp->Prop)->Prop:=λo i v H Q=>∃ p a k j,o=.ref p/\i=.int k/\H p=some (.lst a)/\ixN a.length k=some j/\Q (upd H p (.lst (a.set j v)))
theorem wH:PSet X zaW:=by
  intro pins s σ H o i v D E u Q I z A y h;obtain⟨p,x,k,j,rfl,rfl,f,C,q⟩:=h;cases z;obtain⟨t,rfl⟩:=A;obtain⟨a,n,r,c,B⟩:=I.lst f;obtain⟨b,G,l,g⟩:=pG C;have d:=r.length;have F:=tu
  have w:Inv X pins σ (upd H p (.lst (x.set j v))) { s with heap:=s.heap.update p (Obj.mapSeq (·.setIfInBounds j u)) } :=
    I.lstUpd f c (lA a n j u) (r.set y j) (by rw[List.length_set];exact B) s.toks
  by_cases m:0<=k
  · have e:k.toNat=j:=by
      rw[seqIndex_of m g]at b;exact Jf b
    exact PySem.W.ki_setAt c m (by grind) (by rw[Jg,<- d];exact g) (by rw[e];exact⟨_,w,q⟩)
  · have e:(k+(a.toArray.size:Int)).toNat=j:=by
      rw[seqIndex_neg (by simp_all) l]at b;rw[Jg,<- d];exact Jf b
    exact PySem.W.ki_setBack c (by simp_all) (by rw[Jg,<- d];exact l) (by grind) (by rw[e];exact⟨_,w,q⟩)
theorem qY (lo hi:Option Int)(n:Nat):(sliceBounds lo hi none n).1=((HT.sIx n 0 lo:Nat):Int)/\(sliceBounds lo hi none n).2.1=((HT.sIx n n hi:Nat):Int)/\(sliceBounds lo hi none n).2.2=1:=by
  refine⟨?_,?_,rfl⟩
  · cases lo with
    | none=>simp[sliceBounds,HT.sIx]
    | some i =>
      simp only[sliceBounds,HT.sIx,Option.getD_none,show (1:Int) > 0 by decide,Z9];by_cases h:i<0
      · simp only[h,Z9]<;>grind
      · simp only[h,Zi]<;>grind
  · cases hi with
    | none=>simp[sliceBounds,HT.sIx]
    | some i =>
      simp only[sliceBounds,HT.sIx,Option.getD_none,show (1:Int) > 0 by decide,Z9];by_cases h:i<0
      · simp only[h,Z9]<;>grind
      · simp only[h,Zi]<;>grind
theorem rC (its:List Jo)(lo hi:Option Int):slicePick its.toArray lo hi none=((its.drop (HT.sIx its.length 0 lo)).take (HT.sIx its.length its.length hi-HT.sIx its.length 0 lo)).toArray:=by
  obtain⟨c,b,a⟩:=qY lo hi its.toArray.size;unfold slicePick;rw[c,b,a];simp only[sliceRange_one,pick_run,Jg]<;>rfl
noncomputable def zbR (K:Jl):V->Option Int->Option Int->Hp->VK->Prop:=λx lo hi H Q=>∃ a b,x=.ref a/\SqL K H a b/\∀ p,H p=none->Q (.ref p) (upd H p (.lst (vW b lo hi)))
theorem wS:SlR X (zbR X.K):=by
  intro pins s σ H x v m l lo hi n Q I e j f pu h;obtain⟨a,c,rfl,i,q⟩:=h;cases e;obtain⟨k,r,d,g⟩:=I.list i;have hlen:=r.length;refine⟨"list",_,slot_list_getitem.lookup,d.isList.typeIs,?_⟩;refine wpAny_getItem_list_slice d.isList j f pu .none (by simp) ?_ (by rw[Jg]<;>simp_all);rw[rC,<- hlen];refine⟨.ref s.heap.objs.size,_,I.laid (t':=s.toks) (o:=.lst (vW c lo hi)) (λb ob q=>J6 _ q) (Jd _) ?_,rfl,q _ (I.hok.fresh (Jd _))⟩;exact⟨JS (uU c lo hi) g,_,0,(r.drop (HT.sIx c.length 0 lo)).take (HT.sIx c.length c.length hi-HT.sIx c.length 0 lo),Jp _ rfl⟩
noncomputable def uT:V->Bool
  | .non=>true
  | .bl _=>true
  | .int _=>true
  | .str _=>true
  | _=>false
noncomputable def eqV:V->V->Bool
  | .non,.non=>true
  | .bl a,.bl b=>a == b
  | .bl a,.int b=>(if a then 1 else 0) == b
  | .int a,.bl b=>a == (if b then 1 else 0)
  | .int a,.int b=>a == b
  | .str a,.str b=>a == b
  | _,_=>false
theorem e7 {A:YO}{s:JO}{y x:V}{u v:Jo}(e:RelV y u)(c:RelV x v)(g:uT y=true)(f:uT x=true):SeqAt.EqAt A s u v (eqV y x):=by
  cases y with
  | non =>
    cases e
    cases x with
    | non=>cases c;exact SeqAt.EqAt.same _
    | bl b=>cases c;exact SeqAt.EqAt.none_bool b
    | int b=>obtain⟨t,rfl⟩:=c;exact SeqAt.EqAt.none_int b t
    | str b=>obtain⟨t,rfl⟩:=c;exact SeqAt.EqAt.none_str b t
    | _=>exact absurd (show false=true from f) Jh
  | bl a =>
    cases e
    cases x with
    | non=>cases c;exact SeqAt.EqAt.bool_none a
    | bl b=>cases c;exact SeqAt.EqAt.bool_bool a b
    | int b=>obtain⟨t,rfl⟩:=c;exact SeqAt.EqAt.bool_int a b t
    | str b=>obtain⟨t,rfl⟩:=c;exact SeqAt.EqAt.bool_str a b t
    | _=>exact absurd (show false=true from f) Jh
  | int a =>
    obtain⟨d,rfl⟩:=e
    cases x with
    | non=>cases c;exact SeqAt.EqAt.int_none a d
    | bl b=>cases c;exact SeqAt.EqAt.int_bool a d b
    | int b=>obtain⟨t,rfl⟩:=c;exact SeqAt.EqAt.int_int a d b t
    | str b=>obtain⟨t,rfl⟩:=c;exact SeqAt.EqAt.int_str a d b t
    | _=>exact absurd (show false=true from f) Jh
  | str a =>
    obtain⟨d,rfl⟩:=e
    cases x with
    | non=>cases c;exact SeqAt.EqAt.str_none a d
    | bl b=>cases c;exact SeqAt.EqAt.str_bool a d b
    | int b=>obtain⟨t,rfl⟩:=c;exact SeqAt.EqAt.str_int a d b t
    | str b=>obtain⟨t,rfl⟩:=c;exact SeqAt.EqAt.str_str a d b t
    | _=>exact absurd (show false=true from f) Jh
  | _=>exact absurd (show false=true from g) Jh
noncomputable def eqU (x:V)(u:Jo):Bool:=match u with
  | .none=>eqV .non x
  | .bool b=>eqV (.bl b) x
  | .int i _=>eqV (.int i) x
  | .str z _=>eqV (.str z) x
  | _=>false
theorem ez {x y:V}{u:Jo}(r:RelV y u)(f:uT y=true):eqU x u=eqV y x:=by
  cases y with
  | non=>cases r;rfl
  | bl b=>cases r;rfl
  | int i=>obtain⟨t,rfl⟩:=r;rfl
  | str z=>obtain⟨t,rfl⟩:=r;rfl
  | _=>exact absurd (show false=true from f) Jh
theorem pS {x:V}:∀ {xs:List V}{us:List Jo},Vals xs us->xs.all uT=true->us.any (eqU x)=xs.any λy=>eqV y x
  | _,_,.nil,_=>rfl
  | y::xs,u::us,.cons r t,f=>by
    rw[List.all_cons,YK]at f;rw[List.any_cons,List.any_cons,ez r f.1,pS t f.2]
theorem tY {A:YO}{s:JO}{x:V}{v:Jo}(b:RelV x v)(c:uT x=true):∀ {xs:List V}{us:List Jo},Vals xs us->xs.all uT=true->∀ u∈us,SeqAt.EqAt A s u v (eqU x u)
  | _,_,.nil,_=>λu a=>by cases a
  | y::xs,u::us,.cons r t,f=>λd a=>by
    rw[List.all_cons,YK]at f;rcases Jq.mp a with rfl|a
    · rw[ez r f.1];exact e7 r b f.1 c
    · exact tY b c t f.2 d a
noncomputable def inV (x:V)(xs:List V):Bool:=xs.any λy=>eqV y x
noncomputable def rIn (K:Jl)(neg:Bool):R2:=λx y H Q=>∃ p a,y=.ref p/\(SqL K H p a\/SqT K H p a)/\uT x=true/\a.all uT=true/\Q (.bl (if neg then !inV x a else inV x a)) H
theorem rX:OpR X (compareOp .In) (rIn X.K false):=by
  intro pins s σ H x y v u Q I e g h;obtain⟨p,j,rfl,b,f,fs,q⟩:=h;cases g;rcases b with b|b
  · obtain⟨a,r,c,i⟩:=I.list b
    refine SeqAt.in_listAt (eqU x) c.isList (λw d=>tY e f r fs w (by simpa using d)) ⟨.bl _,H,I,rfl,?_⟩;rw[show a.toArray.any (eqU x)=a.any (eqU x) by simp,pS r fs];exact q
  · obtain⟨a,r,c,i⟩:=I.tuple b
    refine SeqAt.in_tupleAt (eqU x) c (λw d=>tY e f r fs w (by simpa using d)) ⟨.bl _,H,I,rfl,?_⟩;rw[show a.toArray.any (eqU x)=a.any (eqU x) by simp,pS r fs];exact q
theorem zT:CallR X (.builtin "len") (λxs H Q=>∃ p ys,xs=[.ref p]/\(SqL X.K H p ys\/SqT X.K H p ys)/\Q (.int ys.length) H):=by
  intro pins s σ H xs g Q I r h;obtain⟨p,ys,rfl,a,q⟩:=h;obtain⟨u,rfl,e⟩:=uK r;cases e;have i:=tu;rcases a with a|a
  · obtain⟨d,b,c,f⟩:=I.list a
    have hlen:=b.length;exact Calls.call_len_list c.isList (by simp only[Jg]<;>lia) ⟨.int ys.length,H,I.tok _,⟨s.toks+1,by rw[Jg,hlen]⟩,q⟩
  · obtain⟨d,b,c,f⟩:=I.tuple a
    have hlen:=b.length;exact len_tuple c (by simp only[Jg]<;>grind) ⟨.int ys.length,H,I.tok _,⟨s.toks+1,by rw[Jg,hlen]⟩,q⟩
theorem y4:CallR X (.type "list") (λxs H Q=>∃ p ys,xs=[.ref p]/\(SqL X.K H p ys\/SqT X.K H p ys)/\∀ l,H l=none->Q (.ref l) (upd H l (.lst ys))):=by
  intro pins s σ H xs x Q I r h;obtain⟨p,ys,rfl,i,q⟩:=h;obtain⟨u,rfl,w⟩:=uK r;cases w
  have fin:∀ (a:List Jo),Vals ys a->ys.length<=sizeLine->∀ (c:YP) (f:Nat),(∀ b v,s.heap.get? b=some v->c.get? b=some v) ->
      c.get? s.heap.objs.size=some { cls:=.type "list",dict:=none,data:=.seq a.toArray f,slots:=#[] }->EP X pins σ Q (.ref s.heap.objs.size) { s with heap:=c }:=λa d g c f kp e =>
    ⟨.ref s.heap.objs.size,_,I.laid (t':=s.toks) kp (Jd _) (show ObjOk X.prog X.w _ c _ (.lst ys) from⟨g,a,f,d,e⟩),rfl,q _ (I.hok.fresh (Jd _))⟩
  rcases i with i|i
  · obtain⟨a,d,j,g⟩:=I.list i
    have hlen:=d.length;obtain⟨o,k,t,n,m⟩:=j.isList;exact call_list_seq p (.inl rfl) k t m (λc f kp e=>fin a d g c f kp e) (by simp only[Jg]<;>simp_all)
  · obtain⟨a,d,j,g⟩:=I.tuple i
    have hlen:=d.length;obtain⟨o,k,t,n,m⟩:=j;exact call_list_seq p (.inr rfl) k t m (λc f kp e=>fin a d g c f kp e) (by simp only[Jg]<;>simp_all)
theorem yO:CallR X (.type "tuple") (λxs H Q=>∃ p ys,xs=[.ref p]/\((SqL X.K H p ys/\∀ l,H l=none->Q (.ref l) (upd H l (.tup ys)))\/(SqT X.K H p ys/\Q (.ref p) H))):=by
  intro pins s σ H xs n Q I r h;obtain⟨p,ys,rfl,h⟩:=h;obtain⟨u,rfl,k⟩:=uK r;cases k;rcases h with ⟨g,q⟩|⟨g,q⟩
  · obtain⟨a,d,f,i⟩:=I.list g
    have hlen:=d.length;refine call_tuple_list f.isList (λc kp=>?_) (by simp only[Jg]<;>simp_all);have j:Inv X pins σ H { s with heap:=c }:=I.kept (t':=s.toks) kp
    have m:Inv X pins σ (upd H c.objs.size (.tup ys)) { s with heap:=c.push { cls:=.type "tuple",data:=.seq a.toArray } } :=
      j.laid (t':=s.toks) (λb o e=>J6 _ e) (Jd _) (show ObjOk X.prog X.w _ _ _ (.tup ys) from⟨i,a,d,TupX.new _ _⟩)
    exact⟨.ref c.objs.size,_,m,rfl,q _ (j.hok.fresh (Jd _))⟩
  · obtain⟨a,d,f,i⟩:=I.tuple g
    exact call_tuple_same f ⟨.ref p,H,I,rfl,q⟩
noncomputable def tyV (K:Jl)(T:String)(x:V)(H:Hp):Prop:=match x with
  | .str _=>T = "str"
  | .int _=>T = "int"
  | .ref p=>(T = "list"/\∃ b,SqL K H p b)\/(T = "tuple"/\∃ o,K.lookup p=some o/\o.cls=.type "tuple"/\o.dict=none) \/
      (T = "dict"/\((∃ a,H p=some (.dK a))\/∃ a,H p=some (.dT a)))\/(T = "set"/\∃ S n,H p=some (.set S n))
  | _=>False
theorem i8 {pins:List (JI × Obj)}{σ:St}{H:Hp}{s:JO}{T:String}{x:V}{v:Jo}(I:Inv X pins σ H s)(r:RelV x v)(ty:tyV X.K T x H) :
    s.TypeIs v T/\∀ a,v=.ref a->∃ ob,s.heap.get? a=some ob/\ob.dict=none:=by
  cases x with
  | str z =>
    obtain⟨t,rfl⟩:=r;cases (show T = "str" from ty)
    exact⟨typeIs_str s z t,λ_ e=>nomatch e⟩
  | int i =>
    obtain⟨t,rfl⟩:=r;cases (show T = "int" from ty)
    exact⟨typeIs_int s i t,λ_ e=>nomatch e⟩
  | ref p =>
    cases r;rcases ty with ⟨rfl,l,h⟩|⟨rfl,o,b,j,d⟩|⟨rfl,b⟩|⟨rfl,S,n,b⟩
    · obtain⟨k,_,g,_⟩:=I.list h
      refine⟨g.isList.typeIs,λa e=>?_⟩;cases e;obtain⟨o,n,e,c,d,_⟩:=g;exact⟨o,e,d⟩
    · refine⟨⟨o,I.kIn p o b,j⟩,λa e=>?_⟩
      cases e;exact⟨o,I.kIn _ o b,d⟩
    · have z:∃ o,s.heap.get? p=some o/\o.ExactDict:=by
        rcases b with ⟨f,b⟩|⟨f,b⟩
        · obtain⟨_,_,_,_,o,_,_,e,ex,_⟩:=I.hok p _ b
          exact⟨o,e,ex⟩
        · obtain⟨_,_,_,_,o,_,_,e,ex,_⟩:=I.hok p _ b
          exact⟨o,e,ex⟩
      obtain⟨o,e,ex⟩:=z;refine⟨⟨o,e,ex.1⟩,λa e2=>?_⟩;cases e2;exact⟨o,e,ex.2.1⟩
    · obtain⟨o,_,_,_,e,ex,_⟩:=I.hok p _ b
      refine⟨⟨o,e,ex.1⟩,λa e2=>?_⟩;cases e2
      exact⟨o,e,ex.2.1⟩
  | _=>exact False.elim ty
noncomputable def zby (K:Jl)(T:String)(r:V->List V->Hp->VK->Prop)(to:TE):TE:=λσ H Q=>to σ H λx a=>tyV K T x a/\r x [] a Q
noncomputable def tBM (K:Jl)(T:String)(r:V->List V->Hp->VK->Prop)(to:TE)(t:TA):TE:=λσ H Q=>to σ H λx a=>tyV K T x a/\t σ a λb c=>r x b c Q
variable {o e:Expr}{es:List Expr}{to:TE}{t:TA}{name:Str}{apos cpos:Pos}{T id:String}{r:V->List V->Hp->VK->Prop}
theorem ah (i:PlainAttrs T) (slot:Slot T name id) (c:typeOf (.builtin id)=pure (.type "method_descriptor")) (hm:MtR X id r) (j:PE X o to)
    (b:attributeBase o name X.env (eval o X.env)=eval o X.env:=by rfl) (a:(apos.endLine == cpos.line)=true:=by rfl):PE X (.Call (.Attribute o name apos) [] [] cpos) (zby X.K T r to):=by
  intro pins s σ H Q I h;refine wpAny_Call_method0_late b a (thn (j pins s σ H _ I h) λv f ⟨x,m,e,d,ty,g⟩=>?_);obtain⟨l,k⟩:=i8 e d ty;exact⟨T,id,i,slot,c,l,k,Zg rfl (PySem.evalArgs_none (hm pins f σ m x [] v [] Q e d .nil g))⟩
theorem wB (w:PlainAttrs T) (slot:Slot T name id) (f:typeOf (.builtin id)=pure (.type "method_descriptor")) (hm:MtR X id r) (z:PE X o to) (ha:PA X (e::es) t)
    (c:attributeBase o name X.env (eval o X.env)=eval o X.env:=by rfl)
    (d:((backTo cpos (starEach (e::es) X.env)).all (λx=>!x.1) && (backToKw cpos (keywordEach [] X.env)).all (λx=>x.1.isSome)
      && decide ((e::es).length+([]:List Keyword).length+(if ([]:List Keyword).isEmpty then 0 else 1)<30))=true:=by rfl)
    (b:(apos.endLine == cpos.line)=true:=by rfl) (y:starEach (e::es) X.env=(false,eval e X.env)::starEach es X.env:=by rfl) (a:(backTo cpos (starEach es X.env)).any (·.1)=false:=by rfl) :
    PE X (.Call (.Attribute o name apos) (e::es) [] cpos) (tBM X.K T r to t):=by
  intro pins s σ H Q I h;refine wpAny_Call_method_late c d b rfl (thn (z pins s σ H _ I h) λv n ⟨x,E,j,g,ty,u⟩=>?_);obtain⟨B,A⟩:=i8 j g ty;refine⟨T,id,w,slot,f,B,A,?_⟩;have i:=ha cpos pins n σ E _ j u;rw[y]at i ⊢;refine Zg (by show (false || (backTo cpos (starEach es X.env)).any (·.1))=false;rw[a]<;>rfl) (Calls.evalArgs_plain ?_);exact thn i λl m ⟨k,D,C,p,q⟩=>hm pins m σ D x k v l Q C g p q
end
noncomputable def MtM (X:Cx)(id:String)(r:V->List V->Hp->VK->Prop):Prop :=
  ∀ (pins:List (JI × Obj)) (s:JO) (σ:St) (H:Hp) (x:V) (a:List V) (v:Jo) (b:List Jo) (Q:VK),Inv X pins σ H s->RelV x v->Vals a b->r x a H Q ->
    wpAny (model X.prog X.w) X.A (call (.builtin id) (v::b)) (EP X pins σ Q) X.xe s
theorem Vals.one:∀ {x:V}{us:List Jo},Vals [x] us->∃ u,us=[u]/\RelV x u
  | _,_,.cons r .nil=>⟨_,rfl,r⟩
theorem Vals.two:∀ {x y:V}{us:List Jo},Vals [x,y] us->∃ u v,us=[u,v]/\RelV x u/\RelV y v
  | _,_,_,.cons r (.cons q .nil)=>⟨_,_,rfl,r,q⟩
theorem Vals.zero:∀ {us:List Jo},Vals [] us->us=[]
  | _,.nil=>rfl
theorem Vals.dropLast {xs:List V}{us:List Jo}(h:Vals xs us):Vals xs.dropLast us.dropLast:=by
  induction h with
  | nil=>exact .nil
  | cons r t ih =>
    cases t with
    | nil=>exact .nil
    | cons q a=>exact .cons r ih
theorem Vals.eraseIdx:∀ {xs:List V}{us:List Jo}(i:Nat),Vals xs us->Vals (xs.eraseIdx i) (us.eraseIdx i)
  | _,_,_,.nil=>.nil
  | _,_,0,.cons _ t=>t
  | _,_,i+1,.cons r t=>.cons r (Vals.eraseIdx i t)
theorem Vals.rep {xs:List V}{us:List Jo}(h:Vals xs us):∀ k:Nat,Vals (List.replicate k xs).flatten (List.replicate k us).flatten
  | 0=>.nil
  | k+1=>by
    rw[Yk,Yk,YU,YU];exact Vals.append h (Vals.rep h k)
theorem lQ {α:Type}(l:List α):l.eraseIdx (l.length-1)=l.dropLast:=by
  induction l with
  | nil=>rfl
  | cons a r ih =>
    cases r with
    | nil=>rfl
    | cons b r =>
      have e:(a::b::r).length-1=((b::r).length-1)+1:=by
        have d:(a::b::r).length=r.length+2:=rfl;have c:(b::r).length=r.length+1:=rfl
        simp_all
      rw[e,List.eraseIdx_cons_succ,ih]
      all_goals rfl
theorem rg {α:Type}:∀ (l:List α) (i:Nat),(l.eraseIdx i).length<=l.length
  | [],_=>Jd _
  | _::_,0=>Nat.le_succ _
  | _::r,i+1=>Nat.succ_le_succ (rg r i)
theorem qE (its:List Jo):∀ (k:Nat) (acc:List Jo),
    List.foldl (λb a=>b++a) acc.toArray (List.replicate k its.toArray)=(acc++(List.replicate k its).flatten).toArray
  | 0,acc=>by simp
  | k+1,acc=>by
    have e:acc.toArray++its.toArray=(acc++its).toArray:=by simp
    have e2:(acc++its)++(List.replicate k its).flatten=acc++(List.replicate (k+1) its).flatten:=by
      rw[Yk,YU,JW]
    rw[<- e2,<- qE its k (acc++its),<- e,Yk,List.foldl_cons]
section
variable {X:Cx}{pins:List (JI × Obj)}{σ:St}{H:Hp}{s:JO}{l:JI}{xs ys:List V}
theorem Inv.lset {its its':List Jo}{n:Nat}{f:Array Jo->Array Jo}{t':Nat}(I:Inv X pins σ H s) (h:H l=some (.lst xs))
    (e:s.heap.get? l=some { cls:=.type "list",data:=.seq its.toArray n }) (d:f its.toArray=its'.toArray) (b:Vals ys its') (a:ys.length<=sizeLine) :
    Inv X pins σ (upd H l (.lst ys)) { s with heap:=s.heap.update l (Obj.mapSeq f),toks:=t' }:=by
  have q:=PySem.IsL.update e f;rw[d]at q;refine I.write (x:=l) (e:=l) (by rw[h];exact trivial) (.inl rfl) (λi u g c=>(Yh s.heap (Obj.mapSeq f) (Ne.symm g)).trans c) ⟨_,q⟩ ?_;exact⟨a,its',_,b,q⟩
theorem Inv.lnew {its:List Jo}{t':Nat}(I:Inv X pins σ H s)(b:Vals ys its)(a:ys.length<=sizeLine) :
    Inv X pins σ (upd H s.heap.objs.size (.lst ys)) { s with heap:=s.heap.push { cls:=.type "list",data:=.seq its.toArray },toks:=t' } :=
  I.laid (λ_ _ q=>J6 _ q) (Jd _) ⟨a,its,0,b,Jp _ rfl⟩
theorem Inv.fresh (I:Inv X pins σ H s):H s.heap.objs.size=none:=I.hok.fresh (Jd _)
theorem Inv.lstM (I:Inv X pins σ H s)(a:H l=some (.lst xs)):xs.length<=sizeLine/\∃ (its:List Jo) (n:Nat),Vals xs its/\xs.length=its.length/\s.heap.get? l=some { cls:=.type "list",data:=.seq its.toArray n }:=by
  obtain⟨z,its,n,r,e⟩:=I.hok l _ a;exact⟨z,its,n,r,r.length,e⟩
theorem oh {n:Nat}(h:n<=sizeLine):Builtin.List.listTooLong n=false:=by
  unfold Builtin.List.listTooLong;exact Jj (by simp_all)
end
section
variable {X:Cx}
noncomputable def rAppend:V->List V->Hp->VK->Prop:=λx b H Q=>∃ l a y,x=.ref l/\b=[y]/\H l=some (.lst a)/\a.length<sizeLine/\Q .non (upd H l (.lst (a++[y])))
theorem yc:MtM X "list.append" rAppend:=by
  intro pins s σ H x i v j Q I c d h;obtain⟨l,g,y,rfl,rfl,b,k,q⟩:=h;cases c;obtain⟨u,rfl,f⟩:=d.one;obtain⟨z,a,n,r,m,e⟩:=I.lstM b;refine ZT F.slot_list_append ⟨_,e,rfl⟩ F.entry_list_append (F.args_list_append_2 _ _) (PySem.list_append l a.toArray n u (by rw[Jg];simp_all)) ⟨e,?_⟩;refine⟨.non,_,I.lset (its':=a++[u]) b e (by simp) (r.append (.cons f .nil)) ?_,rfl,q⟩;rw[Jb,List.length_singleton]
  grind
noncomputable def rExtend:V->List V->Hp->VK->Prop:=λx d H Q=>∃ l b c a,x=.ref l/\d=[.ref b]/\H l=some (.lst c)/\H b=some (.lst a)/\c.length+a.length<=sizeLine/\Q .non (upd H l (.lst (c++a)))
theorem vq:MtM X "list.extend" rExtend:=by
  intro pins s σ H x B v C Q I i j h;obtain⟨l,b,A,w,rfl,rfl,g,p,D,q⟩:=h;cases i;obtain⟨u,rfl,k⟩:=j.one;cases k;obtain⟨z,c,n,r,E,e⟩:=I.lstM g;obtain⟨y,a,o,m,t,e2⟩:=I.lstM p;have f:c.toArray.size+a.toArray.size<=sizeLine:=by rw[Jg,Jg];simp_all
  have d:¬(!c.toArray.isEmpty && Builtin.List.listTooLong (c.toArray.size+a.toArray.size))=true:=by
    rw[oh f,Bool.and_false];exact Jh
  refine ZT F.slot_list_extend ⟨_,e,rfl⟩ F.entry_list_extend (F.args_list_extend_2 _ _)
    (AutoSeq1.list_extend_list_list_0 l c.toArray n b a.toArray o d (by rw[Jg];simp_all) (by lia)) ⟨e,e2,?_⟩
  refine⟨.non,_,I.lset (its':=c++a) g e (by simp) (r.append m) ?_,rfl,q⟩;rw[Jb];omega
noncomputable def rPop:V->List V->Hp->VK->Prop:=λx b H Q=>∃ l a y,x=.ref l/\b=[]/\H l=some (.lst a)/\a[a.length-1]?=some y/\Q y (upd H l (.lst a.dropLast))
theorem zad:MtM X "list.pop" rPop:=by
  intro pins s σ H x p v t Q I f g h;obtain⟨l,o,y,rfl,rfl,d,j,q⟩:=h;cases f;have c:=g.zero;subst c;obtain⟨z,a,n,r,m,e⟩:=I.lstM d;obtain⟨u,k,i⟩:=r.get j
  have b:a.toArray[a.toArray.size-1]?=some u:=by
    show a.toArray[a.length-1]?=some u;rw[<- Y3,<- m];exact k
  refine ZT F.slot_list_pop ⟨_,e,rfl⟩ F.entry_list_pop (F.args_list_pop_1 _) (MeetsSeq.list_pop_last l a.toArray n u b (by rw[Jg];simp_all)) ⟨e,?_⟩;refine⟨y,_,I.lset (its':=a.dropLast) d e ?_ r.dropLast ?_,i,q⟩
  · show a.toArray.eraseIdxIfInBounds (a.toArray.size-1)=a.dropLast.toArray
    rw[Jg,List.eraseIdxIfInBounds_toArray,lQ]
  · rw[List.length_dropLast]
    grind
noncomputable def rPopAt:V->List V->Hp->VK->Prop:=λx b H Q=>∃ l a i k y,x=.ref l/\b=[.int i]/\H l=some (.lst a)/\-(2 ^ 63)<=i/\i<2 ^ 63/\seqIndex? i a.length=some k/\a[k]?=some y/\Q y (upd H l (.lst (a.eraseIdx k)))
theorem eC:MtM X "list.pop" rPopAt:=by
  intro pins s σ H x D v E Q I f g h;obtain⟨l,d,i,k,y,rfl,rfl,c,C,B,A,m,q⟩:=h;cases f;obtain⟨u,rfl,j⟩:=g.one;obtain⟨t,rfl⟩:=j;obtain⟨z,a,n,r,p,e⟩:=I.lstM c;obtain⟨w,o,b⟩:=r.get m
  refine ZT F.slot_list_pop ⟨_,e,rfl⟩ F.entry_list_pop (F.args_list_pop_2 _ _)
    (MeetsSeq.list_pop_at l a.toArray n i t k w (fitsIndex_both C B) (by rw[Jg,<- p];exact A) (by rw[<- Y3];exact o) (by rw[Jg];simp_all)) ⟨e,?_⟩
  refine⟨y,_,I.lset (its':=a.eraseIdx k) c e ?_ (r.eraseIdx k) ?_,b,q⟩
  · show a.toArray.eraseIdxIfInBounds k=(a.eraseIdx k).toArray
    rw[List.eraseIdxIfInBounds_toArray]
  · have:=rg d k
    lia
noncomputable def zbV:R2:=λx y H Q=>∃ l b c a,x=.ref l/\y=.ref b/\H l=some (.lst c)/\H b=some (.lst a)/\c.length+a.length<=sizeLine/\∀ p,H p=none->Q (.ref p) (upd H p (.lst (c++a)))
theorem ww:OpR X (binaryOp .Add) zbV:=by
  intro pins s σ H x y v u Q I f d h;obtain⟨l,b,t,o,rfl,rfl,i,j,A,q⟩:=h;cases f;cases d;obtain⟨z,c,n,r,B,e⟩:=I.lstM i;obtain⟨p,a,w,g,m,e2⟩:=I.lstM j;refine PySem.P.add_list e e2 ?_ (by rw[Jg,Jg];simp_all);have k:c.toArray++a.toArray=(c++a).toArray:=by simp
  rw[k];exact⟨.ref _,_,I.lnew (t':=s.toks) (r.append g) (by rw[Jb];omega),rfl,q _ I.fresh⟩
noncomputable def zbS:R2:=λx y H Q=>∃ l k a,x=.ref l/\y=.int k/\H l=some (.lst a)/\-(2 ^ 63)<=k/\k<2 ^ 63/\a.length*k.toNat<=sizeLine /\
  ∀ p,H p=none->Q (.ref p) (upd H p (.lst (List.replicate k.toNat a).flatten))
theorem bC {α:Type}(xs:List α)(k:Nat):(List.replicate k xs).flatten.length=k*xs.length:=by
  induction k with
  | zero=>simp
  | succ k ih=>rw[Yk,YU,Jb,ih,Nat.succ_mul,Nat.add_comm]
theorem ai:OpR X (binaryOp .Mult) zbS:=by
  intro pins s σ H x y v u Q I A w h;obtain⟨l,k,J,rfl,rfl,C,E,D,o,q⟩:=h;cases A;obtain⟨t,rfl⟩:=w;obtain⟨z,b,n,r,B,e⟩:=I.lstM C;have hlen:b.toArray.size*k.toNat<=sizeLine:=by rw[Jg,<- B];exact o
  have g:¬ b.toArray.size*k.toNat > (2 ^ 63-1) / 8:=by
    have:(sizeLine:Nat)<=(2 ^ 63-1) / 8:=by decide
    lia
  have f:¬(!Builtin.List.listFitsIndex k)=true:=by
    rw[fitsIndex_both E D];exact Jh
  have c:¬ Builtin.List.listTooLong (b.toArray.size*k.toNat)=true:=by
    rw[oh hlen];exact Jh
  have d:List.foldl (λj i=>j++i) #[] (List.replicate (if b.toArray.isEmpty=true then 0 else k.toNat) b.toArray)=(List.replicate k.toNat b).flatten.toArray:=by
    have G:∀ m:Nat,List.foldl (λj i=>j++i) #[] (List.replicate m b.toArray)=(List.replicate m b).flatten.toArray:=λm=>by
      have:=qE b m [];rw[List.nil_append]at this;exact this
    rw[G]
    cases b with
    | nil=>simp
    | cons a K=>rw[Je (by simp)]
  refine wpAny_binaryOp_repeat_ref (T:="list") (U:="int") (by decide) ⟨_,e,rfl⟩ (λp=>typeIs_int p k t) noFill_list_mul F.fills_int_mul F.slot_int_rmul repeat_list F.slot_int_index.lookup
    (ZT F.slot_int_rmul (typeIs_int s k t) F.entry_int_rmul (F.args_int_rmul_2 _ _) (int___rmul___int_list k t l b.toArray n)
      ⟨e,rfl,⟨_,e,rfl⟩,ZT F.slot_list_mul ⟨_,e,rfl⟩ F.entry_list_mul (F.args_list_mul_2 _ _) (AutoListH.list___mul___list_int_3 l b.toArray n k t f g c) ⟨e,?_⟩⟩)
  rw[d];exact⟨.ref _,_,I.lnew (t':=s.toks) (r.rep k.toNat) (by rw[bC,Nat.mul_comm];exact o),rfl,q _ I.fresh⟩
end
end L2
namespace Att
open PySem PySem.W PySem.Calls PyProof.Rows
theorem uY {P:Params}{h:YP}:∀ (ns:List Int) (vs:List Jo),WellAll P h vs (ns.map WData.int)->IntsAre vs ns:=by
  intro ns
  induction ns with
  | nil =>
    intro vs w;rw[List.map_nil]at w;cases w
    exact .nil
  | cons n ns ih =>
    intro vs w;rw[JR]at w
    cases w with
    | cons a b =>
      cases a;exact .cons _ _ (ih _ b)
theorem jV {l:OpenLaw}{n:Nat}(hn:l.most=some n){P:Params}{h:YP}{args:List WData}{vals:List Jo}(b:l.row.toRowW.claim.pre args=true)(g:WellAll P h vals args) :
    ∃ a vs ns,vals=[Value.ref a]/\args=[WData.list (ns.map WData.int)]/\h.get? a=some { cls:=.type "list",data:=.seq vs.toArray }/\IntsAre vs ns/\ns.length<=n:=by
  have i:WShape.hasAll [] args [.list .int]=true:=(pre_splitW b).1;have j:l.pre.holds [] { args:=args }=true:=(pre_splitW b).2;obtain⟨d,r,rfl,u,t⟩:=hasAllW_cons i;obtain rfl:=hasAllW_nil t;obtain⟨v,rfl,s⟩:=hasW_list u;obtain⟨ns,rfl⟩:=items_int s
  have hlen:ns.length<=n:=by
    unfold OpenLaw.pre at j
    have f:(WTm.not (.lt (.lit (.int (n:Int))) (.len (.arg 0)))).holds [] { args:=[.list (ns.map .int)] }=true:=by
      have f:=(holds_andW j).1;rw[hn]at f;exact f
    have e:=condW_of f (w_not (w_lt w_lit (w_len_list (w_arg rfl))));rw[Jc]at e;refine Nat.le_of_not_lt λq=>?_;have o:(n:Int)<((ns.length:Nat):Int):=by simp_all
    first
      | (rw[Jt o]at e;exact absurd e (by decide))
      | (simp at e;omega)
  cases g with
  | cons m k =>
    cases k
    cases m with
    | list p c=>exact⟨_,_,ns,rfl,rfl,p,uY ns _ c,hlen⟩
theorem je (l:OpenLaw)(args:List WData):l.row.toRowW.claim.post args (.bool true) args=true :=
  postW_of (r:=l.row.toRowW) (X:=(true == true))
    (show WShape.has [] (.bool true) .bool=true by first|rfl|decide|simp[WShape.has,WShape.arms,WShape.armsAll])
    (show (WTm.eq .res (.lit (.bool true))).value [] { args:=args,res:=some (.bool true),after:=args }=some (.bool (true == true)) from w_eq_bool (w_res rfl) w_lit) rfl
theorem attach_call {l:OpenLaw}{n:Nat}{q:Yo}{loose:List Str}{t:(Str->Option Jo)->YP->Prop}{s:YI->YP->Prop}{d:DefRec}
    (hn:l.most=some n) (k:d.params.defaults=[])
    (call:∀ (w:YI) (s₀ b:JO) (mg mb:Str->Option Jo) (c:JI) (o:Obj) (pm cd doc:Jo) (a:JI) (vs:List Jo) (ns:List Int),
      Ground q loose [] t w s₀ mg mb b.heap->s w b.heap ->
      b.heap.get? c=some o->o.data=.func (docDef d.name d.params d.body d.scope pm cd doc)->b.heap.CodeRec cd d.name->mg d.name=some (.ref c) ->
      b.heap.get? a=some { cls:=.type "list",data:=.seq vs.toArray }->IntsAre vs ns->ns.length<=n->b.gens = #[] ->
      codeAny (model l.prog w) callerA (.call (.ref c) ⟨[.ref a],[]⟩) (λr h=>r=.ok (.ret (.bool true))/\OldK b.heap h.heap/\h.os=b.os/\AllBare h.gens) b) :
    WalkO q loose t s l.row.toRowW d [] (λf vs=>PySem.call f vs):=by
  intro w s₀ b mg mb G Y c o pm cd doc E kV x A m p j z args vals as e u F i H;obtain rfl:E=.none:=Dflts.none p k;obtain rfl:kV=.none:=Dflts.noKw p;obtain⟨a,vs,ns,rfl,rfl,g,hints,hlen⟩:=jV hn e i;refine enter_call (codeAny_mono (call w s₀ b mg mb c o pm cd doc a vs ns G Y x (fd_plain A) m j g hints hlen z) λr h v=>?_);obtain⟨rfl,D,C,B⟩:=v;exact⟨.inl ⟨.bool true,.bool true,[],rfl,λ_=>rfl,.bool true,je l _,λ_=>⟨List.Pairwise.nil,λ_ y=>(nomatch y)⟩⟩,D,C,B⟩
section
noncomputable def zbY (h:YP)(L d:JI):List (JI × Obj):=(List.range h.objs.size).filterMap λa=>if a=L\/a=d then none else (h.get? a).map λo=>(a,o)
end
end Att
namespace L2
open PySem PySem.Spec PyProof.Rows
theorem rG:∀ {vs:List Jo}{ns:List Int},IntsAre vs ns->Vals (ns.map V.int) vs
  | _,_,.nil=>.nil
  | _,_,.cons n t h=>.cons ⟨t,rfl⟩ (rG h)
noncomputable abbrev KOf {K:Jl}{h:YP}(_:K.In h):Jl:=K
noncomputable def xI (s:Stmt):Arguments:=match s with
  | .FunctionDef _ a _ _ _ _ _ _ _ _=>a
  | _=>{ posonlyargs:=[],args:=[],vararg:=none,kwonlyargs:=[],kw_defaults:=[],kwarg:=none,defaults:=[] }
noncomputable def yd (s:Stmt):List Stmt:=match s with
  | .FunctionDef _ _ b _ _ _ _ _ _ _=>b
  | _=>[]
noncomputable def zN (s:Stmt):Scope:=match s with
  | .FunctionDef _ _ _ _ _ _ sc _ _ _=>sc
  | _=>{ kind:=.function,names:=[],isGenerator:=false,isCoroutine:=false }
noncomputable abbrev CX0:CXT:=λ_ _ _ _ _ _=>False
noncomputable abbrev E0:XK:=λ_ _ _=>False
theorem zY {X:Cx}:Passes CX0 X E0:=λ_ _ _ _ _ _ _ h=>h.elim
structure Fun (K:Jl) (x qual:Str) (st:Stmt) (f:JI) (fd:Yl):Prop where
  ex:∃ (oc:Jo) (od:Option JI) (kV doc pm:Jo) (an:Option JI) (cdv ct:Jo) (osl:Array (Option Jo)),
    fd=PySem.W.fnOf x qual (xI st) (yd st) (zN st) .none kV doc pm an cdv ct/\K.lookup f=some ⟨oc,od,.func fd,osl⟩/\PySem.W.codeIn K cdv qual=true
  kp:PySem.W.keepIn K (.ref f)=true
section
variable {P:Yo}{w:YI}{K:Jl}{mg:Str->Option Jo}{base:YP}
theorem Fun.ok {x qual:Str}{st:Stmt}{f:JI}{fd:Yl}{N ps:List Str}{k:Nat}{sp:Sp}(F:Fun K x qual st f fd)(S:FnScope N ps (zN st))(len:∀ vs H Q E,sp vs H Q E->vs.length=ps.length)(a:∀ (cdv:Jo) (A:YO) (outer:List Env) (s:JO) (H:Hp) (vs:List V) (Q:VK) (E:XK),Room k (A.deeper (envOfC qual (zN st) s.heap.objs.size f cdv))->sp vs H Q E ->
      ∃ t,PSs (lS CX0 P w K mg base N qual (zN st) f cdv A outer s H E).nox (yd st) t/\t { nx:=λ_ g=>Q .non g,rt:=Q } (start N vs) H):FnOk P w K mg base CX0 (k+1) f fd ps sp:=by
  obtain⟨l,j,kV,doc,pm,an,cdv,m,i,rfl,d,c⟩:=F.ex;refine aA d c S len λA outer s H vs Q E e b=>?_;obtain⟨t,h,q⟩:=a cdv A outer s H vs Q E e b;exact⟨t,h.nox,q⟩
theorem Fun.binds {x qual:Str}{st:Stmt}{f:JI}{fd:Yl}{ps:List Str}(F:Fun K x qual st f fd)(h:∀ (kV doc pm:Jo) (an:Option JI) (cdv ct:Jo) (us:List Jo),us.length=ps.length->bindArgs (PySem.W.fnOf x qual (xI st) (yd st) (zN st) .none kV doc pm an cdv ct) ⟨us,[]⟩=pure (ps.zip us)):Binds K fd ps []:=by
  obtain⟨d,c,kV,doc,pm,an,cdv,ct,a,rfl,e,b⟩:=F.ex;exact .all (h kV doc pm an cdv ct)
theorem zau {x qual:Str}{st:Stmt}{f:JI}{oc:Jo}{od an:Option JI}{osl:Array (Option Jo)}{kV doc pm cdv ct:Jo}(l:K.lookup f=some ⟨oc,od,.func (PySem.W.fnOf x qual (xI st) (yd st) (zN st) .none kV doc pm an cdv ct),osl⟩)(c:PySem.W.codeIn K cdv qual=true)(k:PySem.W.keepIn K (.ref f)=true):Fun K x qual st f (PySem.W.fnOf x qual (xI st) (yd st) (zN st) .none kV doc pm an cdv ct):=⟨⟨oc,od,kV,doc,pm,an,cdv,ct,osl,rfl,l,c⟩,k⟩
end
section
variable {X:Cx}
theorem pv (i:Nat) {x:Str}{pos:Pos}(d:X.N[i]?=some x:=by rfl) (b:Vis X.env.scope x:=by first|exact Or.inl rfl|exact Or.inr (.inl rfl)|exact Or.inr (.inr rfl)) (c:(x == ("__debug__":Str))=false:=by decide)
    (a:(x == ("__classdict__":Str))=false:=by decide):PE X (.Name x pos) (gG i):=af d b c a
theorem qv (i:Nat) {x:Str}{pos:Pos}(h:X.N[i]?=some x/\Vis X.env.scope x/\(x == ("__debug__":Str))=false/\(x == ("__classdict__":Str))=false):PE X (.Name x pos) (gG i):=af h.1 h.2.1 h.2.2.1 h.2.2.2
end
theorem zz {A B:Prop}(h:B):if false=true then A else B:=by
  rw[Je Jh];exact h
theorem yV {A B:Prop}(h:A):if true=true then A else B:=by
  rw[Jm rfl];exact h
theorem zar {c A B:Prop}[Decidable c](b:c->A)(a:¬ c->B):if c then A else B:=by
  by_cases h:c
  · rw[Jm h]
    exact b h
  · rw[Je h]
    exact a h
noncomputable def Same (H H':Hp):Prop:=∀ b o,H b=some o->H' b=some o
theorem Same.refl (H:Hp):Same H H:=λ_ _ h=>h
theorem Same.trans {H e d:Hp}(a:Same H e)(b:Same e d):Same H d:=λc o h=>b c o (a c o h)
theorem Same.free {H H':Hp}(e:Same H H'){l:JI}(h:H' l=Option.none):H l=Option.none:=by
  cases q:H l with
  | none=>rfl
  | some o =>
    rw[e l o q]at h;cases h
end L2
set_option maxHeartbeats 4000001
namespace L2
open PySem PySem.Spec PyProof.Rows
noncomputable def wc (cells:List (Str × JI)):List (Str × NameKind)->List (Str × JI)->List (Str × JI)
 | [],cs=>cs
 | (n,k)::r,cs=>if k == .free then wc cells r ((n,(cells.lookup n).getD 0)::cs) else wc cells r cs
theorem sW {env:Env}:∀ (names:List (Str × NameKind)) (cs:List (Str × JI)),(∀ y∈names,y.2=.free->∃ c,env.cells.lookup y.1=some c) ->
  (forIn names cs λx r=>match x with|(name,kind)=>if (kind == NameKind.free)=true then (do let a <- cellOf env name;pure (ForInStep.yield ((name,a)::r))) else pure (ForInStep.yield r):Sem (List (Str × JI)))=pure (wc env.cells names cs)
 | [],cs,_=>rfl
 | (n,k)::r,cs,h=>by
  rw[Z3];by_cases e:(k == NameKind.free)=true
  ·obtain⟨c,g⟩:=h (n,k) JH (by simpa using e)
   have d:cellOf env n=pure c:=by
    have b:env.cells.lookup n=some c:=g;unfold cellOf;rw[b]
   simp only[e,Z9,d,pure_bind];rw[sW r _ λy f=>h y (JD _ f)];have b:env.cells.lookup n=some c:=g;show _=pure (if (k == NameKind.free)=true then _ else _);rw[Jm e,b];rfl
  ·have i:(k == NameKind.free)=false:=by simpa using e
   simp only[i,Yi,Zi,pure_bind];rw[sW r _ λy f=>h y (JD _ f)];show _=pure (if (k == NameKind.free)=true then _ else _);rw[Je e]
theorem vA {scope:Scope}{env:Env}(h:∀ y∈scope.names,y.2=.free->∃ c,env.cells.lookup y.1=some c):closureFor scope env=pure (wc env.cells scope.names []):=by
 unfold closureFor;show (forIn scope.names [] _ >>= λr=>pure r)=_;rw[bind_pure];exact sW _ _ h
theorem wQ {cells:List (Str × JI)}:∀ (names:List (Str × NameKind)) (cs:List (Str × JI)) (x:Str) (c:JI),(∀ y∈names,y.2=.free->∃ c,cells.lookup y.1=some c) ->
  (∀ x c,cs.lookup x=some c->cells.lookup x=some c)->(wc cells names cs).lookup x=some c->cells.lookup x=some c
 | [],cs,x,c,_,f,e=>f x c e
 | (n,k)::r,cs,x,c,h,f,e=>by
  unfold wc at e;by_cases q:(k == NameKind.free)=true
  ·rw[Jm q]at e
   obtain⟨c0,l⟩:=h (n,k) JH (by simpa using q);refine wQ r _ x c (λy g=>h y (JD _ g)) (λd m a=>?_) e;rw[Ys]at a
   cases i:d == n with
   | true =>
    rw[i]at a;have j:d=n:=by simpa using i
    subst j;have b:cells.lookup d=some c0:=l;rw[b]at a ⊢
    exact a
   | false =>
    rw[i]at a;exact f d m a
  ·rw[Je q]at e
   exact wQ r _ x c (λy g=>h y (JD _ g)) f e
theorem uH {cells:List (Str × JI)}:∀ (names:List (Str × NameKind)) (cs:List (Str × JI)) (x:Str),(∃ c,cs.lookup x=some c)->∃ c,(wc cells names cs).lookup x=some c
 | [],cs,x,e=>e
 | (n,k)::r,cs,x,e=>by
  unfold wc;by_cases q:(k == NameKind.free)=true
  ·rw[Jm q]
   refine uH r _ x ?_;rw[Ys]
   cases a:x == n with
   | true=>exact⟨_,rfl⟩
   | false=>exact e
  ·rw[Je q]
   exact uH r _ x e
theorem xC {cells:List (Str × JI)}:∀ (names:List (Str × NameKind)) (cs:List (Str × JI)) (x:Str),names.lookup x=some .free->∃ c,(wc cells names cs).lookup x=some c
 | [],cs,x,e=>by simp at e
 | (n,k)::r,cs,x,e=>by
  rw[Ys]at e;unfold wc
  cases a:x == n with
  | true =>
   rw[a]at e;have b:k=.free:=Jf e;subst b;rw[Jm (by decide)];refine uH r _ x ?_;rw[Ys,a]
   exact⟨_,rfl⟩
  | false =>
   rw[a]at e;by_cases q:(k == NameKind.free)=true
   ·rw[Jm q];exact xC r _ x e
   ·rw[Je q];exact xC r _ x e
noncomputable def de (env:Env)(p:Str × NameKind):Bool:=p.2 == .free && env.scope.kind == .function && env.kindOf p.1 == some .cell
noncomputable def wY (env:Env)(p:Str × NameKind):Str × NameKind:=if de env p=true then (p.1,.cell) else p
theorem uR (env:Env)(p:Str × NameKind):(wY env p).1=p.1:=by unfold wY;split<;>rfl
theorem uQ (env:Env)(p:Str × NameKind):(wY env p).2=p.2\/((wY env p).2=.cell/\p.2=.free):=by
 unfold wY;split
 ·rename_i h
  refine .inr ⟨rfl,?_⟩;unfold de at h;cases e:p.2<;>simp[e]at h<;>rfl
 ·exact .inl rfl
theorem wg (scope:Scope)(env:Env):(relabel scope env).names=scope.names.map (wY env):=rfl
theorem tf {f:Str × NameKind->Str × NameKind}(a:∀ p,(f p).1=p.1):∀ (l:List (Str × NameKind)) (x:Str),(l.map f).lookup x=none/\l.lookup x=none\/∃ p∈l,(l.map f).lookup x=some (f p).2/\l.lookup x=some p.2
 | [],_=>.inl ⟨rfl,rfl⟩
 | p::r,x=>by
  have c:((p::r).map f).lookup x=if x == p.1 then some (f p).2 else (r.map f).lookup x:=by
   show List.lookup x (((f p).1,(f p).2)::r.map f)=_;rw[Ys,a p];cases x == p.1<;>rfl
  have e2:(p::r).lookup x=if x == p.1 then some p.2 else r.lookup x:=by
   show List.lookup x ((p.1,p.2)::r)=_;rw[Ys];cases x == p.1<;>rfl
  rw[c,e2];cases x == p.1
  ·rcases tf a r x with z|⟨q,b,z⟩
   ·exact .inl z
   ·exact .inr ⟨q,JD _ b,z⟩
  ·exact .inr ⟨p,JH,rfl,rfl⟩
theorem yi {scope:Scope}{env:Env}{x:Str}{a:NameKind}(h:(relabel scope env).names.lookup x=some a):scope.names.lookup x=some a\/(a=.cell/\scope.names.lookup x=some .free):=by
 rw[wg]at h;rcases tf (uR env) scope.names x with ⟨z,_⟩|⟨p,_,z,e⟩
 ·rw[z]at h;cases h
 ·rw[z]at h
  obtain rfl:=Jf h;rcases uQ env p with q|⟨q,b⟩
  ·rw[q];exact .inl e
  ·exact .inr ⟨q,by rw[e,b]⟩
theorem x8 {scope:Scope}{env:Env}{x:Str}(h:scope.names.lookup x=some .free):(relabel scope env).names.lookup x=some .cell\/(relabel scope env).names.lookup x=some .free:=by
 rw[wg];rcases tf (uR env) scope.names x with ⟨_,z⟩|⟨p,_,z,e⟩
 ·rw[z]at h;cases h
 ·rw[e]at h
  rcases uQ env p with q|⟨q,_⟩
  ·rw[z,q,h];exact .inr rfl
  ·rw[z,q];exact .inl rfl
noncomputable def yH (X:Cx)(N':List Str)(scope:Scope)(C:JI)(s₀:JO)(H₀:Hp)(fp:List JI)(pins:List (JI × Obj)):Cx :=
 { X with N:=N',s₀:=s₀,H₀:=H₀,env:=compEnvC scope (wc X.env.cells scope.names []) C X.env,outer:=X.stack,stack:=X.stack,ex:=fp,fn:=λ_=>false,pn:=X.pn++pins,xe:=λ_ _=>False }
noncomputable def pM (cap:List (Option Nat))(σ:St):St:=cap.map λo=>match o with|some i=>(match σ[i]? with|some v=>v|none=>none)|none=>none
noncomputable def tst (M:Model)(A:YO)(env:Env)(E:Jo->JO->Prop)(o:Option Expr)(Q:Bool->JO->Prop)(s:JO):Prop:=match o with
 | none=>Q true s
 | some c=>wpAny M A (isTrue c env (eval c env)) Q E s
theorem pf {M:Model}{A:YO}{env:Env}{E:Jo->JO->Prop}{o:Option Expr}{Q a:Bool->JO->Prop}{s:JO}(h:tst M A env E o Q s)(k:∀ b z,Q b z->a b z):tst M A env E o a s:=by
 cases o with
 | none=>exact k _ _ h
 | some c=>exact thn h k
noncomputable def PTo (X:Cx)(o:Option Expr)(t:TT):Prop :=
 ∀ (pins:List (JI × Obj)) (s:JO) (σ:St) (H:Hp) (Q:Bool->Hp->Prop),Inv X pins σ H s->t σ H Q->tst (model X.prog X.w) X.A X.env X.xe o (TP X pins σ Q) s
noncomputable def gF:TT:=λ_ H Q=>Q true H
theorem xY {X:Cx}:PTo X none gF:=λ_ _ _ H _ I h=>⟨H,I,h⟩
noncomputable abbrev NoX:Jo->JO->Prop:=λ_ _=>False
noncomputable def Go (M:Model)(A:YO)(tg elt:Expr)(o:Option Expr)(it acc:Jo)(env:Env)(R:Result->JO->Prop)(g:JO->Prop)(s:JO):Prop :=
 wpAny M A (pyNext it) (λr a=>match r with
  | none=>R (.ok .next) a
  | some v=>wpAny M A (letOwnedTupleGo tg it v) (λ_ b=>wpAny M A (assign tg env v) (λ_ c=>tst M A env NoX o (λyes d =>
    if yes=true then wpAny M A (eval elt env) (λx e=>wpAny M A (call (.builtin "list.append") [acc,x]) (λ_ f=>g f) NoX e) NoX d else g d) c) NoX b) NoX a) NoX s
theorem ie {prog:Yo}{w:YI}{A:YO}{R:Result->JO->Prop}{s:JO}{elt tg iter:Expr}{o:Option Expr}{scope:Scope}{pos:Pos}{it acc:Jo}{env:Env}(J:Nat->JO->Prop)(turn:∀ n s,J n s->Go (model prog w) A tg elt o it acc env R (λz=>∃ m,m<n/\J m z) s)(n:Nat)(h:J n s) :
  codeAny (model prog w) A (.compLoop (.ListComp elt [⟨tg,iter,o.toList,0⟩] scope pos) 0 it acc env) R s:=by
 cases o with
 | none =>
  refine PySem.W.kcp_loop J (λn a l=>JK (turn n a l) (λr b g=>?_) λ_ _ z=>z.elim) n h
  cases r with
  | none=>exact g
  | some v=>exact JK g (λ_ c k=>JK k (λ_ d j=>JK (show wpAny _ _ _ _ _ d from j) (λx e i=>JK i (λ_ _ q=>q) λ_ _ z=>z.elim) λ_ _ z=>z.elim) λ_ _ z=>z.elim) λ_ _ z=>z.elim
 | some t =>
  refine PySem.W.kct_loop J (λn a l=>JK (turn n a l) (λr b g=>?_) λ_ _ z=>z.elim) n h
  cases r with
  | none=>exact g
  | some v =>
   refine JK g (λ_ c k=>JK k (λ_ d j=>JK (show wpAny _ _ _ _ _ d from j) (λyes e i=>?_) λ_ _ z=>z.elim) λ_ _ z=>z.elim) λ_ _ z=>z.elim;cases yes
   ·exact i
   ·exact JK (show wpAny _ _ _ _ _ e from i) (λx f p=>JK p (λ_ _ q=>q) λ_ _ z=>z.elim) λ_ _ z=>z.elim
structure CapOk (N N':List Str) (sc scope:Scope) (cap:List (Option Nat)):Prop where
 kind:scope.kind=.function
 nocell:∀ y∈scope.names,y.2≠.cell
 names:∀ y∈scope.names,y.2=.local -> scope.names.lookup y.1=some .local
 free:∀ y∈scope.names,y.2=.free->sc.names.lookup y.1=some .cell\/sc.names.lookup y.1=some .free
 len:cap.length=N'.length
 cap:∀ p∈N'.zip cap,∀ i,p.2=some i->N[i]?=some p.1/\scope.names.lookup p.1=some .free/\(sc.names.lookup p.1=some .cell\/sc.names.lookup p.1=some .free)
theorem wA {α:Type}:∀ {l:List (Str × α)}{x:Str}{a:α},l.lookup x=some a->(x,a)∈l
 | [],_,_,h=>by simp at h
 | (n,k)::r,x,a,h=>by
  rw[Ys]at h
  cases b:x == n with
  | true =>
   rw[b]at h;have e:k=a:=Jf h;have e2:x=n:=by simpa using b
   subst e e2
   exact JH
  | false=>rw[b]at h;exact JD _ (wA h)
noncomputable def LCW (J:It)(g:TG)(tt:TT)(k:TE)(l:JI)(Q:VK)(W:Nat->Nat->List V->St->Hp->Prop):Prop :=
 ∀ i m acc e c,W i m acc e c->c l=some (.lst acc) /\
  ((J.stop i c/\Q (.ref l) c)\/(J.go i c/\∀ x j,J.yld i c x j->g x e j λa n=>tt a n λb h =>
   if b=true then k a h λy f=>f l=some (.lst acc)/\acc.length<sizeLine/\∃ d,d<m/\W (i+1) d (acc++[y]) a (upd f l (.lst (acc++[y])))
   else ∃ d,d<m/\W (i+1) d acc a h))
noncomputable def tLC (cap:List (Option Nat))(b:TI)(g:TG)(tt:TT)(c:TE):TE:=λσ H Q=>b σ H λJ a=>∀ l,a l=none ->
 ∃ W:Nat->Nat->List V->St->Hp->Prop,(∃ m,W 0 m [] (pM cap σ) (upd a l (.lst [])))/\LCW J g tt c l Q W
theorem kX {X:Cx}{elt tg iter:Expr}{o:Option Expr}{scope:Scope}{pos a0:Pos}{wi:TI}{g:TG}{tt:TT}{te:TE}{N':List Str}{cap:List (Option Nat)}{use:Option (Jo->Sem Unit)}{Q0:Jo->JO->Prop}(hc:X.calm=true)(hi:PI X tg iter wi)(P:CapOk X.N N' X.env.scope scope cap)(hg:∀ C s₀ H₀ fp pins,PG (yH X N' scope C s₀ H₀ fp pins) tg g)(ht:∀ C s₀ H₀ fp pins,PTo (yH X N' scope C s₀ H₀ fp pins) o tt)(he:∀ C s₀ H₀ fp pins,PE (yH X N' scope C s₀ H₀ fp pins) elt te)(hs:∀ x,foldedSetIterable iter X.env x=pure x){pins:List (JI × Obj)}{s:JO}{σ:St}{H:Hp}{Q:VK}(I:Inv X pins σ H s)(h:tLC cap wi g tt te σ H Q)(fin:∀ (l C:JI) (O:Hp) (U:JO) (m:Str->Option Jo),Inv X pins σ O U->Q (.ref l) O->U.heap.Ns C m->FpOk X pins O C->compPost (model X.prog X.w) X.A X.xe use Q0 (.ref l) C (.ok .next) U) :
  wpAny (model X.prog X.w) X.A (comprehension (.ListComp elt [⟨tg,iter,o.toList,0⟩] scope pos) scope X.env a0 (newList []) false (eval iter X.env) use) Q0 X.xe s:=by
 have F:∀ y∈scope.names,y.2=.free->∃ c,X.env.cells.lookup y.1=some c:=λy hy hf=>I.ok.has y.1 (P.free y hy hf);refine wpAny_comprehension_free (use:=use) rfl hs (vA F) P.kind P.names (thn (hi pins s σ H _ I h) λv s1 h1=>thn h1 λcf A h2=>?_);obtain⟨it,fp,tn,J,H2,e,I2,T,a6,N,body⟩:=h2;subst e;have a4:H2 A.heap.objs.size=none:=I2.hok.fresh (Jd _);obtain⟨W,⟨m0,w0⟩,turn⟩:=body A.heap.objs.size a4;have k:Inv X pins σ (upd H2 A.heap.objs.size (.lst [])) { A with heap:=A.heap.push { cls:=.type "list",data:=.seq ([]:List Jo).toArray },toks:=A.toks }:=I2.lnew (its:=[]) (t':=A.toks) .nil (Jz _);refine JN (wpAny_newFunctionEnv P.nocell (by intro y hy;simp at hy) (λw E D=>?_) P.kind);dsimp only at E D ⊢;generalize hl:A.heap.objs.size=l at *;generalize hP:A.heap.push { cls:=.type "list",dict:=none,data:=.seq ([]:List Jo).toArray }=P2 at *;generalize b2:upd H2 l (.lst [])=H3 at *;have old:∀ b o,P2.get? b=some o->w.get? b=some o:=λb o e=>D.extBut b o (JB (Jn e)) (J6 _ e);have a3:∀ b o,A.heap.get? b=some o->P2.get? b=some o:=λb o e=>hP ▸ J6 _ e
 have bc:∀ b∈fp,b<l:=λb a=>by
  obtain⟨o,e,_⟩:=T.obj _ _ a6 b a;rw[<- hl];exact Jn e
 have b4:∀ b∈fp,H3 b=none:=λb a=>by
  rw[<- b2,zG (JB (bc b a))];exact(N b a).1
 have b1:P2.objs.size=l+1:=by rw[<- hP,YR,hl]
 have t:∀ x c,(wc X.env.cells scope.names []).lookup x=some c->X.env.cells.lookup x=some c:=λx c e=>wQ _ _ x c F (λ_ _ z=>by simp at z) e;generalize a8:({ A with heap:=P2,toks:=A.toks }:JO)=s3 at *;have f:s3.heap=P2:=by rw[<- a8]
 let Y:=yH X N' scope P2.objs.size s3 H3 fp pins
 have B:Y.Ok:=by
  refine⟨k.ok.mod,P.kind,k.ok.glob,k.ok.blt,by show s3.heap.objs.size<=P2.objs.size;rw[f];exact Jd _,λx y c e1 e2=>k.ok.inj x y c (t x c e1) (t y c e2),λx Z=>?_,λx c Z=>absurd (show false=true from Z) Jh,k.ok.hd,k.ok.frames,.inl rfl,λb a=>⟨?_,λx c e=>?_⟩,k.bs,
   JS k.ok.bsz k.sz,λb o e a=>?_,λb a hz=>?_,k.stack,k.stkFree⟩
  ·have bt:scope.names.lookup x=some .free:=by
    rcases Z with Z|Z
    ·rcases yi Z with z|z
     ·exact absurd rfl (P.nocell _ (wA z))
     ·exact z.2
    ·rcases yi Z with z|z
     ·exact z
     ·exact z.2
   exact xC _ _ x bt
  ·exact JB (by show b<P2.objs.size;rw[b1];exact ZL (bc b a))
  ·exact(N b a).2.2.2.2.1 x c (t x c e)
  ·rcases (N b a).2.2.2.1 with z|z
   ·exact k.ok.noex b o e z
   ·exact absurd (JJ (Jn e) (JS k.ok.bsz z)) (YE _)
  ·rcases Jq.mp (k.stkSub b hz) with z|z
   ·exact(N b a).2.1 z
   ·exact(N b a).2.2.1 z
 have b0:Inv Y [] (pM cap σ) H3 { A with heap:=w,toks:=A.toks }:=by
  refine⟨B,by show A.os=s3.os;rw[<- a8],I2.bare,by show Un _ _ _ _ s3.heap w;rw[f];exact Un.kept old,⟨_,E,λj x v e1 e2 e3=>?_⟩,λx c e=>?_,?_,λx c e=>k.freeC x c (t x c e),λp hp=>?_,λb o e=>?_,?_⟩
  ·have b7:N'[j]?=some x:=e1
   unfold pM at e2;rw[JV]at e2
   cases ec:cap[j]? with
   | none=>rw[ec]at e2;cases e2
   | some oc =>
    rw[ec]at e2
    cases oc with
    | none=>cases e2
    | some i =>
     have b5:σ[i]?=some (some v):=by
      cases ei:σ[i]? with
      | none=>simp[ei]at e2
      | some v' =>
       simp[ei]at e2;rw[e2]
     have hz:(x,some i)∈N'.zip cap:=by
      refine JF (i:=j) ?_;rw[Zz];exact⟨b7,ec⟩
     obtain⟨hN,hf,hk⟩:=P.cap _ hz i rfl;obtain⟨m,hn,bu⟩:=k.loc;obtain⟨u,r,lk⟩:=bu i x v hN b5 (by rcases hk with z|z;exact .inr (.inl z);exact .inr (.inr z));refine⟨u,r,.inr ⟨?_,?_⟩⟩
     ·exact x8 hf
     ·rcases lk with ⟨z,_⟩|⟨_,c,bS,ab⟩
      ·have z':X.env.scope.names.lookup x=some .local:=z
       rcases hk with q|q
       ·rw[q]at z';cases z'
       ·rw[q]at z';cases z'
      ·obtain⟨c',a9⟩:=xC (cells:=X.env.cells) scope.names [] x hf
       have:=t x c' a9;rw[bS]at this;cases this;obtain⟨ob,e,d⟩:=ab;rw[f]at e;exact⟨c,a9,ob,old c ob e,d⟩
  ·obtain⟨v,ob,e',d⟩:=k.cell x c (t x c e)
   rw[f]at e';exact⟨v,ob,old c ob e',d⟩
  ·refine k.hok.fresh ?_
   rw[f];exact Jd _
  ·have aT:p∈X.pn++pins:=(Jr.mp hp).elim (λz=>z) (λz=>nomatch z)
   obtain⟨e,n,ne,nf,d⟩:=k.pin p aT;rw[f]at e;refine⟨old _ _ e,n,JB (Jn e),λz=>?_,d⟩;rcases Jq.mp (k.stkSub _ z) with q|q
   ·exact ne q
   ·exact nf q
  ·have:=k.hok.kept (h':=w) (λb u q=>old b u (by rw[<- f];exact q))
   exact this b o e
  ·show (cap.map _).length=N'.length
   rw[Jc,P.len]
 have L:∀ {G:Hp},(∀ b∈fp,G b=none)->∀ b∈fp,FpOk Y [] G b:=λ{G} hn b a=>by
  refine⟨hn b a,(B.exf b a).1,B.exfs b a,.inl a,(B.exf b a).2,λp hp=>?_⟩;have aT:p∈X.pn++pins:=(Jr.mp hp).elim (λz=>z) (λz=>nomatch z);exact(N b a).2.2.2.2.2 p aT
 have a7:tn 0 w:=T.keep 0 _ _ a6 λb a o e=>old b o (a3 b o e)
 have loop:codeAny (model X.prog X.w) X.A (.compLoop (.ListComp elt [⟨tg,iter,o.toList,0⟩] scope pos) 0 (.ref it) (.ref l) Y.env) (compPost (model X.prog X.w) X.A X.xe use Q0 (.ref l) P2.objs.size) { A with heap:=w,toks:=A.toks }:=by
  refine ie (λn s'=>∃ i acc K G,Inv Y [] K G s'/\tn i s'.heap/\(∀ b∈fp,G b=none)/\W i n acc K G) ?_ m0 ⟨0,[],_,H3,b0,a7,b4,w0⟩;rintro n s4 ⟨i,acc,S,O,I4,a5,ba,w4⟩;obtain⟨cb,q4⟩:=turn i n acc S O w4;rcases q4 with ⟨stop,qn⟩|⟨go,step⟩
  ·refine thn (T.done Y rfl rfl rfl hc i [] s4 S O Y.xe I4 (L ba) a5 stop) λr U ⟨hr,I5⟩=>?_
   subst hr;obtain⟨m,hn,_⟩:=id I5.loc;have un:Un (frs X.stack) fp H3 O s3.heap U.heap:=I5.base;have bl:s3.heap.objs.size<=P2.objs.size:=by rw[f];exact Jd _
   have IX:Inv X pins σ O U:=k.call' (ch:=fp) I5.os un I5.hok I5.bare λb a=>⟨(N b a).2.2.2.1,(N b a).2.1,(N b a).2.2.2.2.1,(N b a).2.2.2.2.2⟩;exact fin l P2.objs.size O U m IX qn hn (k.fpOk bl I5.free)
  ·refine thn (T.item Y rfl rfl rfl hc i [] s4 S O Y.xe I4 (L ba) a5 go) λr U ⟨u,hr,h5⟩=>?_
   subst hr;refine thn h5 λ_ s6 ⟨x,H6,I6,r6,y6,ax,b3⟩=>?_;have b8:=I6.pinned (L b3) (T.obj _ _ ax);refine thn (hg _ _ _ _ _ _ s6 S H6 x u _ b8 r6 (step x H6 y6)) λ_ s7 ⟨ao,H7,I7,q7⟩=>?_;refine pf (ht _ _ _ _ _ _ s7 ao H7 _ I7 q7) λb s8 ⟨H8,I8,q8⟩=>?_
   have again:∀ {R:St}{H9:Hp}{s9:JO}{M:List V},Inv Y ([]++x9 fp s6.heap) R H9 s9->(∃ m',m'<n/\W (i+1) m' M R H9)->∃ m,m<n/\∃ i acc K G,Inv Y [] K G s9/\tn i s9.heap/\(∀ b∈fp,G b=none)/\W i m acc K G:=λ{R H9 s9 M} I9 ⟨m',hm,w9⟩=>by
    refine⟨m',hm,i+1,M,R,H9,I9.unpinned,T.keep _ _ _ ax λb a o e=>(I9.pin (b,o) (Js _ (Js _ (yU a e)))).1,λb a=>?_,w9⟩;obtain⟨o,e,d⟩:=T.obj _ _ ax b a;exact(I9.pin (b,o) (Js _ (Js _ (yU a e)))).2.1
   cases b with
   | false =>
    rw[Je Jh]at q8 ⊢
    exact again I8 q8
   | true =>
    rw[Jm rfl]at q8 ⊢;refine thn (he _ _ _ _ _ _ s8 ao H8 _ I8 q8) λyv s9 ⟨y,H9,I9,r9,bB,bo,q9⟩=>?_;refine thn (yc (X:=Y) _ s9 ao H9 (.ref l) [y] (.ref l) [yv] (λ_ G=>G=upd H9 l (.lst (acc++[y]))) I9 rfl (.cons r9 .nil) ⟨l,acc,y,rfl,rfl,bB,bo,rfl⟩) λ_ cc ⟨_,cm,b9,_,b6⟩=>?_;subst b6;exact again b9 q9
 exact codeAny_compStart_list loop (T.self X.A 0 _ _ _ a7 loop)
theorem Inv.gone {X:Cx}{pins:List (JI × Obj)}{σ:St}{H:Hp}{s:JO}{C:JI}{h':YP}(I:Inv X pins σ H s)(f:FpOk X pins H C)(sb:Heap.SameBut C s.heap h'):Inv X pins σ H { s with heap:=h' } :=
 I.turned (t':=s.toks) (λb o a e=>(sb.2 b a).trans e) f.1 f.2.1 f.2.2.2.1 f.2.2.2.2.1 f.2.2.2.2.2
theorem oR {X:Cx}{elt tg iter:Expr}{o:Option Expr}{scope:Scope}{pos:Pos}{a:TI}{g:TG}{tt:TT}{b:TE}{N':List Str}{cap:List (Option Nat)}(n:X.calm=true)(hi:PI X tg iter a)(p:CapOk X.N N' X.env.scope scope cap)(j:∀ C s₀ H₀ fp pins,PG (yH X N' scope C s₀ H₀ fp pins) tg g)(d:∀ C s₀ H₀ fp pins,PTo (yH X N' scope C s₀ H₀ fp pins) o tt)(k:∀ C s₀ H₀ fp pins,PE (yH X N' scope C s₀ H₀ fp pins) elt b)(e:∀ x,foldedSetIterable iter X.env x=pure x:=by intro _;rfl) :
  PE X (.ListComp elt [⟨tg,iter,o.toList,0⟩] scope pos) (tLC cap a g tt b):=by
 intro pins s σ H Q I h;rw[eval_ListComp];exact kX (use:=none) n hi p j d k e I h λl C t u m r q i f=>⟨m,i,λv c=>⟨.ref l,t,r.gone f c,rfl,q⟩⟩
theorem gw {X:Cx}{i:Nat}{y:Str}{elt tg iter:Expr}{o:Option Expr}{scope:Scope}{pos b py:Pos}{k:TI}{g:TG}{tt:TT}{n:TE}{N':List Str}{cap:List (Option Nat)}(M:X.N.Nodup)(j:X.N[i]?=some y)(p:X.env.scope.names.lookup y=some .local)(K:X.calm=true)(hi:PI X tg iter k)(N:CapOk X.N N' X.env.scope scope cap)(G:∀ C s₀ H₀ fp pins,PG (yH X N' scope C s₀ H₀ fp pins) tg g)(B:∀ C s₀ H₀ fp pins,PTo (yH X N' scope C s₀ H₀ fp pins) o tt)(J:∀ C s₀ H₀ fp pins,PE (yH X N' scope C s₀ H₀ fp pins) elt n)(E:∀ x,foldedSetIterable iter X.env x=pure x:=by intro _;rfl)(d:swapsWith (.ListComp elt [⟨tg,iter,o.toList,0⟩] scope pos) (some (.Name y py)) b.line X.env=pure true:=by with_unfolding_all rfl) :
  PS X (.Assign [.Name y py] (.ListComp elt [⟨tg,iter,o.toList,0⟩] scope pos) b) (cA (tLC cap k g tt n) (qC i)):=by
 intro pins s σ H D I h;rw[exec_Assign_Name_used y py _ b d];refine J0 (Z0 (J0 (J0 (thn (kX (use:=some (assign (.Name y py) X.env)) (Q0:=λ_ z=>SP X pins D .next z) K hi N G B J E I h λl C Q R m P q F f=>?_) λ_ z A=>J7 (J7 A)))));refine wpAny_assign_Name (rP (v:=.ref l) P M j (.inl p) rfl (λt O ⟨a,r,L⟩=>?_) (.inr p))
 have u:C≠a:=by
  rcases L with z|z
  ·rw[z];exact f.2.1
  ·exact λw=>f.2.2.2.2.1 y a z w.symm
 have e:t.heap.Ns C m:=F.sameBut r u;exact⟨m,e,λS c=>⟨_,Q,O.gone f c,q⟩⟩
end L2
namespace Own
open PySem PySem.Spec PyProof.Rows
section
variable {M:Model}{prog:Yo}{w:YI}{A:YO}{E:Jo->JO->Prop}{s:JO}{α:Type}{Q:α->JO->Prop}
theorem rf {a:JI}{o:Obj}{vs:Array Jo}{x:Jo}{f:Jo->Sem α}(k:Nat)(c:s.heap.get? a=some o)(hd:o.data=.fields vs)(b:vs[k]?=some x)(h:wpAny M A (f x) Q E s) :
  wpAny M A (field (.ref a) k >>= f) Q E s:=J0 (ZY c hd b h)
theorem nx {T id:String}{B:Builtin}{it:JI}{P:Jo->JO->Prop}(slot:Slot T "__next__" id) (ty:s.TypeIs (.ref it) T) (en:entryFor table id=some B) (ok:argsOk id ⟨[.ref it],[]⟩)
  (h:wpAny (model prog w) A.in1 (B ⟨[.ref it],[]⟩) (λr a=>∃ v,r=.done (.ret v)/\P v a) E s):wpAny (model prog w) A (Builtin.SmallTypes.nextOf (.ref it)) P E s:=by
 unfold Builtin.SmallTypes.nextOf;refine J0 (wpAny_callSpecial?_slot (name:="__next__") ty slot (Y6 slot ty en (thn2 h) ok))
where
 thn2 {b:Sem Fin}{P:Jo->JO->Prop}{c:YO}(h:wpAny (model prog w) c b (λr a=>∃ v,r=.done (.ret v)/\P v a) E s) :
   wpAny (model prog w) c b (λr a=>∃ v,r=.done (.ret v)/\wpAny (model prog w) A (pure v) P E a) E s :=
  JK h (λ_ _ ⟨v,e,q⟩=>⟨v,e,J7 q⟩) λ_ _ z=>z
end
theorem ends {A:YO}{E:Jo->JO->Prop}{prog:Yo}{w:YI}{s:JO}{α:Type}{Q:α->JO->Prop}(c:A.handled=none)
  (h:∀ h' x,(∀ b o,s.heap.get? b=some o->h'.get? b=some o)->(∃ o,h'.get? x=some o/\o.cls=.type "StopIteration")->E (.ref x) { s with heap:=h' }) :
  wpAny (model prog w) A (Builtin.SmallTypes.stopIteration:Sem α) Q E s:=by
 unfold Builtin.SmallTypes.stopIteration newExc newTuple;refine J0 (J0 (JN ?_ (by size_fits)));refine J0 (wpAny_of_eq (a:=Value.none) (by rfl) (JN (wpAny_raiseNew_none c (h _ _ (λb o e=>?_) ⟨_,Jp _ rfl,rfl⟩)) (by size_fits)));exact J6 _ (J6 _ e)
noncomputable def cN:Bool->String
 | true=>"list_iterator"
 | false=>"tuple_iterator"
noncomputable abbrev RIt (b:Bool)(h:YP)(it a:JI)(i:Int):Prop:=h.get? it=some { cls:=.type (cN b),dict:=none,data:=.fields #[.ref a,.int i 0],slots:=#[] }
noncomputable def SqO:Bool->YP->JI->Array Jo->Prop
 | true,h,a,xs=>h.IsList a xs
 | false,h,a,xs=>h.IsTuple a xs
theorem SqO.ob {b:Bool}{h:YP}{a:JI}{xs:Array Jo}(x:SqO b h a xs):∃ o n,h.get? a=some o/\o.data=.seq xs n:=by
 cases b<;>(obtain⟨o,e,_,n,d⟩:=x;exact⟨o,n,e,d⟩)
theorem SqO.mv {b:Bool}{h h':YP}{a:JI}{xs:Array Jo}(x:SqO b h a xs)(k:∀ o,h.get? a=some o->h'.get? a=some o):SqO b h' a xs:=by
 cases b<;>(obtain⟨o,e,r⟩:=x;exact⟨o,k o e,r⟩)
theorem SqO.ne {b c:Bool}{h:YP}{a it f:JI}{i:Int}{xs:Array Jo}(x:SqO b h a xs)(y:RIt c h it f i):a≠it:=λz=>by
 obtain⟨o,n,e,d⟩:=x.ob;rw[z,y]at e;cases e;cases d
section
variable {prog:Yo}{w:YI}{A:YO}{E:Jo->JO->Prop}{s:JO}
theorem ty {b:Bool}{it a:JI}{i:Int}(y:RIt b s.heap it a i):s.TypeIs (.ref it) (cN b):=⟨_,y,rfl⟩
theorem qj {b:Bool}{it a:JI}{i:Nat}{xs:Array Jo}{x:Jo}{P:Jo->JO->Prop}{B:Builtin}(m:B=match b with|true=>Builtin.«list_iterator.__next__»|false=>Builtin.«tuple_iterator.__next__»)(y:RIt b s.heap it a i)(sq:SqO b s.heap a xs)(g:xs[i]?=some x)(h:∀ h',RIt b h' it a (i+1)->Heap.SameBut it s.heap h'->P x { s with heap:=h' }) :
  wpAny (model prog w) A (B ⟨[.ref it],[]⟩) (λr f=>∃ v,r=.done (.ret v)/\P v f) E s:=by
 obtain⟨o,n,e,d⟩:=sq.ob
 have fin:wpAny (model prog w) A (match xs[(i:Int).toNat]? with
   | some x=>(do setField (.ref it) 1 (rawInt ((i:Int)+1));ret x:Sem Fin)
   | none=>Builtin.SmallTypes.stopIteration) (λr f=>∃ v,r=.done (.ret v)/\P v f) E s:=by
  rw[Yg,g];exact J0 (Yj y (show 1<2 by decide) λh' j k=>J7 ⟨x,rfl,h h' j k⟩)
 rw[Yg,g]at fin;subst m;cases b <;>
 ·refine rf 0 y rfl rfl (PyIte (show ¬((Value.ref a == Value.none)=true) from Jh) (rf 1 y rfl rfl (J0 (Ye e d ?_))))
  simp only[Yg,g];exact fin
where
 PyIte {c:Prop} [Decidable c] {α:Type}{a b:Sem α}{M:Model}{A:YO}{Q:α->JO->Prop}{E:Jo->JO->Prop}{s:JO}(l:¬ c) (h:wpAny M A b Q E s):wpAny M A (if c then a else b) Q E s:=by
  rw[Je l];exact h
theorem rR {b:Bool}{it a:JI}{i:Nat}{xs:Array Jo}{Q:Fin->JO->Prop}{B:Builtin}(m:B=match b with|true=>Builtin.«list_iterator.__next__»|false=>Builtin.«tuple_iterator.__next__»)
  (j:A.handled=none) (y:RIt b s.heap it a i) (sq:SqO b s.heap a xs) (g:xs[i]?=none)
  (h:∀ h' x,(∀ c o,c≠it->s.heap.get? c=some o->h'.get? c=some o)->(∃ o,h'.get? x=some o/\o.cls=.type "StopIteration")->E (.ref x) { s with heap:=h' }) :
  wpAny (model prog w) A (B ⟨[.ref it],[]⟩) Q E s:=by
 obtain⟨o,n,e,d⟩:=sq.ob;subst m;cases b <;>
 ·refine rf 0 y rfl rfl (qj.PyIte (show ¬((Value.ref a == Value.none)=true) from Jh) (rf 1 y rfl rfl (J0 (Ye e d ?_))))
  simp only[Yg,g];refine J0 (YX (J0 (Yj y (show 0<2 by decide) λr _ f=>?_)));exact ends j λp x k z=>h p x (λc o l q=>k c o ((f.2 c l).trans q)) z
theorem cq {b:Bool}{it a:JI}{i:Nat}{xs:Array Jo}{x:Jo}{P:Jo->JO->Prop}(y:RIt b s.heap it a i)(sq:SqO b s.heap a xs)(c:xs[i]?=some x)(h:∀ h',RIt b h' it a (i+1)->Heap.SameBut it s.heap h'->P x { s with heap:=h' }):wpAny (model prog w) A (Builtin.SmallTypes.nextOf (.ref it)) P E s:=by
 cases b
 ·exact nx F.slot_tuple_iterator_next (ty y) F.entry_tuple_iterator_next (F.args_tuple_iterator_next_1 _) (qj (b:=false) rfl y sq c h)
 ·exact nx slot_listiter_next (ty y) entry_listiter_next (args_listiter_next _) (qj (b:=true) rfl y sq c h)
theorem j9 {b:Bool}{it a:JI}{i:Nat}{xs:Array Jo}{P:Jo->JO->Prop}(e:A.handled=none) (y:RIt b s.heap it a i) (sq:SqO b s.heap a xs) (d:xs[i]?=none)
  (h:∀ h' x,(∀ c o,c≠it->s.heap.get? c=some o->h'.get? c=some o)->(∃ o,h'.get? x=some o/\o.cls=.type "StopIteration")->E (.ref x) { s with heap:=h' }) :
  wpAny (model prog w) A (Builtin.SmallTypes.nextOf (.ref it)) P E s:=by
 have inner:A.in1.handled=none:=e;cases b
 ·exact nx F.slot_tuple_iterator_next (ty y) F.entry_tuple_iterator_next (F.args_tuple_iterator_next_1 _) (rR (b:=false) rfl inner y sq d h)
 ·exact nx slot_listiter_next (ty y) entry_listiter_next (args_listiter_next _) (rR (b:=true) rfl inner y sq d h)
theorem wX {b:Bool}{a:JI}{xs:Array Jo}{P:Jo->JO->Prop}(sq:SqO b s.heap a xs)(h:P (.ref s.heap.objs.size) { s with heap:=s.heap.push { cls:=.type (cN b),data:=.fields #[.ref a,.int 0 0] } }):wpAny (model prog w) A (pyIter (.ref a)) P E s:=by
 cases b
 ·exact wpAny_pyIter_tuple sq h
 ·exact wpAny_pyIter_list sq h
end
theorem draws {prog:Yo}{w:YI}{A:YO}(l:A.handled=none)(b:Bool)(it a:JI)(xs:Array Jo)(f:a≠it) :
  Draws prog w A it [it,a] xs.size (λi v=>xs[i]?=some v) (λi h=>RIt b h it a i/\SqO b h a xs) :=
 ⟨λ_ _ st=>⟨_,st.1⟩,λ_ _ _ st k=>⟨k it JH _ st.1,st.2.mv λo e=>k a (JD _ JH) o e⟩,
  λi s Q E hi st k=>cq st.1 st.2 (ZA hi) λd y g=>k _ d s.toks (ZA hi) ⟨y,st.2.mv λo e=>(g.2 a f).trans e⟩ g,
  λs Q E st k=>j9 l st.1 st.2 (by simp) λd x j z=>k d x (λc o m q=>j c o m q) z⟩
theorem dE (b:Bool)(a:JI)(o:Obj)(xs:Array Jo) :
  Meets (Builtin.«enumerate.__new__» ⟨[.type "enumerate",.ref a],[]⟩) (λ_ R s=>s.heap.get? a=some o/\SqO b s.heap a xs /\
   R (.ok (.ret (.ref (s.heap.push { cls:=.type (cN b),data:=.fields #[.ref a,.int 0 0] }).objs.size)))
    { s with heap:=(s.heap.push { cls:=.type (cN b),data:=.fields #[.ref a,.int 0 0] }).push { cls:=.type "enumerate",data:=.fields #[.none,.bool false,.ref s.heap.objs.size,rawInt 0,.none,.none] } }) :=
 .of_wp λprog w A R s h=>by
  obtain⟨j,g,d,i,os⟩:=s;obtain⟨f,sq,h⟩:=h;have sub:=sub_enumerate;have e:SqO b (Shared.heap ⟨j,g,d,i,os⟩) a xs:=sq
  wp_walk using Wm f;refine wpAny_stack_any λst=>J7 ?_
  split
  case h_1 c _ _ _ _ _ =>
   cases (c == Value.type "enumerate")<;>(wp_walk using Wm f,wX e;exact⟨_,rfl,h⟩)
  all_goals (wp_walk using Wm f,wX e;exact⟨_,rfl,h⟩)
theorem iu {prog:Yo}{w:YI}{A:YO}{E:Jo->JO->Prop}{s:JO}{b:Bool}{a:JI}{xs:Array Jo}{P:Jo->JO->Prop}(sq:SqO b s.heap a xs)(h:∀ h' e it,s.heap.objs.size<=e->s.heap.objs.size<=it->e≠it->IsEnum h' e it 0 .none->RIt b h' it a 0->(∀ c o,s.heap.get? c=some o->h'.get? c=some o)->P (.ref e) { s with heap:=h' }) :
  wpAny (model prog w) A (call (.type "enumerate") [.ref a]) P E s:=by
 obtain⟨o,n,d,_⟩:=sq.ob;refine callType_new F.called_enumerate (by decide) (F.typeCall_enumerate_1 _) (F.newCall_enumerate_1 _) (λobj=>F.args_object_init_2 obj _) F.entry_enumerate_new (dE b a o xs) ⟨d,sq,⟨_,Jp _ rfl,rfl⟩,?_⟩;refine h _ _ _ ?_ (Jd _) ?_ (Jp _ rfl) (J6 _ (Jp _ rfl)) λc o e=>J6 _ (J6 _ e)
 ·rw[YR];exact Nat.le_succ _
 ·rw[YR];exact Nat.succ_ne_self _
structure Sep (z TI TO i1 i2:JI) (f1 f2:List JI):Prop where
 all:[z,TI,TO,i1,i2].Nodup
 z1:z∉f1
 t1:TO∉f1
 o1:i2∉f1
 z2:z∉f2
 t2:TO∉f2
 o2:i1∉f2
section
variable {prog:Yo}{w:YI}{A:YO}{E:Jo->JO->Prop}{s:JO}{z TI TO i1 i2:JI}{f1 f2:List JI}{n1 n2 k:Nat}{P1 P2:Nat->Jo->Prop}{S1 S2:Nat->YP->Prop}{a b:Jo}
theorem i5 (S:Sep z TI TO i1 i2 f1 f2)(D:Draws prog w A i1 f1 n1 P1 S1)(C:Draws prog w A i2 f2 n2 P2 S2){Q:Jo->JO->Prop}(n:IsZip s.heap z TI TO .none)(hI:IsPair s.heap TI (.ref i1) (.ref i2))(hO:IsPair s.heap TO a b)(d1:S1 k s.heap)(d2:S2 k s.heap)(l1:k<n1)(l2:k<n2)(h:∀ x y h' tk,P1 k x->P2 k y->IsZip h' z TI TO (rawInt s.heap.objs.size)->IsPair h' TO x y->S1 (k+1) h'->S2 (k+1) h'->IsPair h' s.heap.objs.size x y ->
   (∀ c o,c∉[z,TO,i1,i2]->s.heap.get? c=some o->h'.get? c=some o)->Q (.ref s.heap.objs.size) { s with heap:=h',toks:=tk }) :
  wpAny (model prog w) A (Builtin.«zip.__next__» ⟨[.ref z],[]⟩) (λr Y=>∃ v,r=.done (.ret v)/\Q v Y) E s:=by
 have L:=S.all;simp only[JP,Jq,Jv,ZE,not_or]at L;obtain⟨⟨zI,u,W,V⟩,⟨IO,I1,I2⟩,⟨O1,O2⟩,ab,_⟩:=L;refine rf 2 n rfl rfl (rf 3 n rfl rfl (J0 (Ye hI rfl (J0 (rf 0 n rfl rfl (J7 ?_))))));simp only[Z9];refine J0 (YX (rf 4 n rfl rfl (J0 (Yj n (show 0<5 by decide) λha U m=>J0 ?_))));have F:IsZip ha z TI TO .ellipsis:=U;simp only[List.zipIdx_cons,List.zipIdx_nil,Z3,Zc];refine J0 (J0 (wpAny_onRaise (J0 (D.item k _ _ _ l1 (D.frame _ _ _ d1 λc g o e=>(m.2 c λq=>S.z1 (q ▸ g)).trans e) λx hb tb Z db l=>J7 ?_))));have P:IsPair hb TO a b:=(l.2 TO O1).trans ((m.2 TO (Ne.symm u)).trans hO);refine J0 (Ye P rfl (J0 (wpAny_updateSeq_pair P λg Oc sc=>J0 (ZZ (J7 ?_)))));have H:IsPair g TO x b:=Oc;have G:S2 k g:=C.frame _ _ _ d2 λc d o e=>(sc.2 c λq=>S.t2 (q ▸ d)).trans ((l.2 c λq=>S.o2 (q ▸ d)).trans ((m.2 c λq=>S.z2 (q ▸ d)).trans e));refine J0 (J0 (wpAny_onRaise (J0 (C.item k _ _ _ l2 G λy hd X py dd j=>J7 ?_))));have O:IsPair hd TO x b:=(j.2 TO O2).trans H;refine J0 (Ye O rfl (J0 (wpAny_updateSeq_pair O λf Oe i=>J0 (ZZ (J7 (J7 ?_))))));have t:IsPair f TO x y:=Oe;refine J0 (Ye t rfl (J0 (wpAny_newTuple (J0 ?_))));have sz:f.objs.size=s.heap.objs.size:=by rw[i.1,j.1,sc.1,l.1,m.1]
 have I:IsZip f z TI TO .ellipsis:=(i.2 z u).trans ((j.2 z V).trans ((sc.2 z u).trans ((l.2 z W).trans F)));have zn:f.objs.size≠z:=YM (Jn I);unfold Builtin.SmallTypes.ownedTupleHandOut;refine J0 (Yj (J6 _ I) (show 0<5 by decide) λhf T K=>Yj T (show 1<5 by decide) λB R J=>J7 ⟨_,rfl,?_⟩);have up:∀ c o,c≠z->f.get? c=some o->B.get? c=some o:=λc o q e=>(J.2 c q).trans ((K.2 c q).trans (J6 _ e));have new:IsPair B f.objs.size x y:=(J.2 _ zn).trans ((K.2 _ zn).trans (Jp _ rfl));have p:IsZip B z TI TO (rawInt f.objs.size):=R;rw[sz]at new p;show Q (.ref f.objs.size) _;rw[sz];refine h x y B X Z py p (up _ _ (Ne.symm u) t) ?_ ?_ new λc o g e=>?_
 ·exact D.frame _ _ _ db λc d o e=>up c o (λq=>S.z1 (q ▸ d)) ((i.2 c λq=>S.t1 (q ▸ d)).trans ((j.2 c λq=>S.o1 (q ▸ d)).trans ((sc.2 c λq=>S.t1 (q ▸ d)).trans e)))
 ·exact C.frame _ _ _ dd λc d o e=>up c o (λq=>S.z2 (q ▸ d)) ((i.2 c λq=>S.t2 (q ▸ d)).trans e)
 ·simp only[Jq,Jv,ZE,not_or]at g
  obtain⟨N,M,c3,c4⟩:=g;exact up c o N ((i.2 c M).trans ((j.2 c c4).trans ((sc.2 c M).trans ((l.2 c c3).trans ((m.2 c N).trans e)))))
end
section
variable {prog:Yo}{w:YI}{A:YO}{E:Jo->JO->Prop}{s:JO}{z TI TO i1 i2:JI}{f1 f2:List JI}{n1:Nat}{P1:Nat->Jo->Prop}{S1:Nat->YP->Prop}
theorem i4 (S:Sep z TI TO i1 i2 f1 f2) (m:Draws prog w A i1 f1 n1 P1 S1) {Q:Fin->JO->Prop}(a:IsZip s.heap z TI TO .none) (v:IsPair s.heap TI (.ref i1) (.ref i2)) (y:S1 n1 s.heap)
  (h:∀ h' x,(∀ c o,c∉[z,TO,i1,i2]->s.heap.get? c=some o->h'.get? c=some o)->(∃ o,h'.get? x=some o/\o.cls=.type "StopIteration")->E (.ref x) { s with heap:=h' }):wpAny (model prog w) A (Builtin.«zip.__next__» ⟨[.ref z],[]⟩) Q E s:=by
 have j:=S.all;simp only[JP,Jq,Jv,ZE,not_or]at j;obtain⟨⟨D,C,p,F⟩,⟨IO,J,I⟩,⟨H,G⟩,B,_⟩:=j;refine rf 2 a rfl rfl (rf 3 a rfl rfl (J0 (Ye v rfl (J0 (rf 0 a rfl rfl (J7 ?_))))));simp only[Z9];refine J0 (YX (rf 4 a rfl rfl (J0 (Yj a (show 0<5 by decide) λu n i=>J0 ?_))));have f:IsZip u z TI TO .ellipsis:=n;simp only[List.zipIdx_cons,List.zipIdx_nil,Z3,Zc];refine J0 (J0 (wpAny_onRaise (J0 (m.done _ _ _ (m.frame _ _ _ y λc d o e=>(i.2 c λq=>S.z1 (q ▸ d)).trans e) λt x k ⟨r,ex,l⟩=>?_))));have g:IsZip t z TI TO .ellipsis:=k z _ p f;have xz:x≠z:=λq=>by rw[q,g]at ex;cases ex;exact absurd (show Value.type "zip" = Value.type "StopIteration" from l) (by decide)
 refine Yj g (show 0<5 by decide) λd _ sc=>h d x (λc o b e=>?_) ⟨r,(sc.2 x xz).trans ex,l⟩;simp only[Jq,Jv,ZE,not_or]at b;exact(sc.2 c b.1).trans (k c o b.2.2.1 ((i.2 c b.1).trans e))
end
theorem dg (b1 b2:Bool)(a1 a2:JI)(xs ys:Array Jo):Meets (Builtin.«zip.__new__» ⟨[.type "zip",.ref a1,.ref a2],[]⟩) (λ_ R s=>SqO b1 s.heap a1 xs/\SqO b2 s.heap a2 ys /\
  ∀ h' z,(∃ TI TO i1 i2,[z,TI,TO,i1,i2].Nodup/\(∀ c∈[z,TI,TO,i1,i2],s.heap.objs.size<=c)/\IsZip h' z TI TO .none/\IsPair h' TI (.ref i1) (.ref i2)/\IsPair h' TO .none .none/\RIt b1 h' i1 a1 0/\RIt b2 h' i2 a2 0) ->
   (∀ c o,s.heap.get? c=some o->h'.get? c=some o)->R (.ok (.ret (.ref z))) { s with heap:=h' }) :=
 .of_wp λprog w A R s h=>by
  obtain⟨a,g,d,b,os⟩:=s;obtain⟨k,j,h⟩:=h;have sub:=sub_zip;have i:SqO b1 (Shared.heap ⟨a,g,d,b,os⟩) a1 xs:=k;have f:SqO b2 (Shared.heap ⟨a.push { cls:=.type (cN b1),data:=.fields #[.ref a1,.int 0 0] },g,d,b,os⟩) a2 ys:=j.mv λo e=>J6 _ e
  wp_walk using wX i,wX f
  refine⟨_,rfl,h _ _ ⟨_,_,_,_,?_,?_,Jp _ rfl,J6 _ (J6 _ (Jp _ rfl)),J6 _ (Jp _ rfl),
   J6 _ (J6 _ (J6 _ (J6 _ (Jp _ rfl)))),J6 _ (J6 _ (J6 _ (Jp _ rfl)))⟩ λc o e=>?_⟩
  ·simp only[YR,JP,Jq,Jv,ZE,not_or]
   simp<;>lia
  ·simp only[YR,Jq,Jv,ZE]
   intro c l;have:a.objs.size<=c:=by lia
   exact this
  ·exact J6 _ (J6 _ (J6 _ (J6 _ (J6 _ e))))
end Own
namespace L2
open PySem PySem.Spec PyProof.Rows Own
section
variable {X:Cx}{pins:List (JI × Obj)}{σ:St}{H:Hp}{s:JO}{h':YP}
theorem Inv.spunN {fp:List JI}{T:JI}{o:HO}{t':Nat}(I:Inv X pins σ H s)(k:∀ b o,b∉fp->s.heap.get? b=some o->h'.get? b=some o)(h:∀ b∈fp,FpOk X pins H b)(i:s.heap.objs.size<=T)(new:ObjOk X.prog X.w (upd H T o) h' T o):Inv X pins σ (upd H T o) { s with heap:=h',toks:=t' }:=by
 have f:H T=none:=I.hok.fresh i;have neT:∀ b u,s.heap.get? b=some u->b≠T:=λb u e=>JB (JJ (Jn e) i);have g:∀ b u,H b=some u->b∉fp:=λb u e a=>by rw[(h b a).1]at e;cases e
 refine I.step (g':=s.gens) (d':=s.drawn) (ch:=fp) (λb a=>?_) (λb o _ _ d e _=>k b o d e) (λb o _ _ d e _=>⟨o.slots,k b o d e⟩) (λb o _ e n=>by rw[zG (neT b o e)];exact n)
  (λb o d e=>⟨o,k b o d e⟩) (λb j e=>by rw[zG (zE e f)];exact e) (λb o u e=>by rw[zG (zE e f)];exact e) (λb C e=>⟨#[],by rw[zG (zE e f),e];simp⟩) (λm p=>?_) (λb u e=>?_) I.bare
 ·obtain⟨E,y,D,x,w,t⟩:=h b a
  exact⟨x,y,w,t⟩
 ·obtain⟨o,A,B,l,r⟩:=p
  exact⟨o,A,B,k _ o (λa=>(h _ a).2.1 rfl) l,r⟩
 ·by_cases a:b=T
  ·subst a;rw[zB]at e;cases e;exact new
  ·rw[zG a]at e
   refine(I.hok b u e).stay (λc v d q=>k c v ?_ q) (λc q=>by rw[zG (zE q f)];exact q) λc j q=>by rw[zG (zE q f)];exact q
   rcases d with z|z
   ·rw[z];exact g b u e
   ·exact g c _ z
theorem Inv.spun {fp:List JI}{t':Nat}(I:Inv X pins σ H s)(k:∀ b o,b∉fp->s.heap.get? b=some o->h'.get? b=some o)(g:∀ b∈fp,FpOk X pins H b):Inv X pins σ H { s with heap:=h',toks:=t' }:=by
 have f:∀ b u,H b=some u->b∉fp:=λb u e d=>by rw[(g b d).1]at e;cases e
 refine I.step (g':=s.gens) (d':=s.drawn) (ch:=fp) (λb d=>?_) (λb o _ _ a e _=>k b o a e) (λb o _ _ a e _=>⟨o.slots,k b o a e⟩) (λb o _ e n=>n)
  (λb o a e=>⟨o,k b o a e⟩) (λb h e=>e) (λb o u e=>e) (λb A e=>⟨#[],by rw[e];simp⟩) (λm j=>?_) (λb u e=>?_) I.bare
 ·obtain⟨C,w,B,t,p,l⟩:=g b d
  exact⟨t,w,p,l⟩
 ·obtain⟨o,x,y,i,r⟩:=j
  exact⟨o,x,y,k _ o (λd=>(g _ d).2.1 rfl) i,r⟩
 ·refine(I.hok b u e).stay (λc v a q=>k c v ?_ q) (λc q=>q) λc h q=>q
  rcases a with z|z
  ·rw[z];exact f b u e
  ·exact f c _ z
end
noncomputable def SqB:Bool->Jl->Hp->JI->List V->Prop
 | true,K,H,a,xs=>SqL K H a xs
 | false,K,H,a,xs=>SqT K H a xs
section
variable {X:Cx}{pins:List (JI × Obj)}{σ:St}{H:Hp}{s:JO}{a c:JI}{xs ys:List V}{b:Bool}
theorem Inv.sq (I:Inv X pins σ H s)(h:SqB b X.K H a xs):∃ its:List Jo,Vals xs its/\SqO b s.heap a its.toArray:=by
 cases b
 ·obtain⟨its,r,p,z⟩:=I.tuple h
  exact⟨its,r,p⟩
 ·obtain⟨its,r,p,z⟩:=I.list h
  exact⟨its,r,p.isList⟩
theorem Inv.sq_inj (I:Inv X pins σ H s)(h:SqB b X.K H a xs)(h':SqB b X.K H a ys):xs=ys:=by
 cases b
 ·exact I.tuple_inj h h'
 ·exact I.list_inj h h'
theorem Inv.sq_ne (I:Inv X pins σ H s)(h:SqB b X.K H a xs)(f:FpOk X pins H c):c≠a:=by
 rintro rfl
 have d:∀ o,X.K.lookup c=some o->False:=λo e=>by
  have g:=I.ok.mod.kin c o e;rcases f.2.2.2.1 with z|z
  ·exact I.ok.noex c o g z
  ·exact absurd (JJ (Jn g) (JS I.ok.bsz z)) (YE _)
 cases b <;>
 ·rcases h with (h|⟨o,h⟩)|⟨o,_,_,e,_⟩
  ·rw[f.1]at h;cases h
  ·rw[f.1]at h;cases h
  ·exact d o e
end
noncomputable def Pr (v u:V)(H:Hp)(x:V)(H':Hp):Prop:=∃ T,H T=none/\x=.ref T/\H'=upd H T (.tup [v,u])
theorem qu {P:Yo}{w:YI}{H:Hp}{h:YP}{T:JI}{v u:V}{a b:Jo}(e:IsPair h T a b)(c:RelV v a)(d:RelV u b):ObjOk P w (upd H T (.tup [v,u])) h T (.tup [v,u]) :=
 ⟨show 2<=sizeLine by decide,[a,b],.cons c (.cons d .nil),⟨_,e,rfl,_,rfl,rfl⟩⟩
noncomputable def Ite (K:Jl)(b:Bool)(a:JI):It :=
 ⟨λi H=>∃ c x,SqB b K H a c/\c[i]?=some x,λi H x d=>∃ y,(∀ c,SqB b K H a c->c[i]?=some y)/\Pr (.int i) y H x d,λi H=>∃ c,SqB b K H a c/\c.length=i⟩
theorem jO {P:Yo}{w:YI}{K:Jl}{es:List Expr}{k1}{R:Pos}(b:Bool)(a e it:JI)(j:e≠it):Turn P w K (.Tuple es k1 R) (Ite K b a) [e,it] e (λi h=>(∃ old,IsEnum h e it i old)/\RIt b h it a i) where
 mem:=JH
 obj:=λi h ⟨⟨old,f⟩,hi⟩ c m=>by
  rcases Jq.mp m with q|q
  ·rw[q];exact⟨_,f,λv z=>by cases z⟩
  ·rw[Ja.mp q];exact⟨_,hi,λv z=>by cases z⟩
 keep:=λi h h' ⟨⟨old,f⟩,hi⟩ J=>⟨⟨old,J e (by simp) _ f⟩,J it (by simp) _ hi⟩
 item:=by
  intro X B y C m i pins s σ H E I l ⟨⟨old,f⟩,hi⟩ ⟨N,x,k,n⟩;subst B y C;obtain⟨d,t,p⟩:=I.sq k;obtain⟨u,L,Q⟩:=t.get n;have D:i<d.toArray.size:=by simpa using (J9.mp L).1
  refine wpAny_pyNext_enum_itemD (draws (prog:=X.prog) (w:=X.w) (A:=X.A.in1) (I.ok.hd m) b it a d.toArray (p.ne hi)) f ⟨hi,p⟩ D j (by simp[j,I.sq_ne k (l e (by simp))]) λv h1 O V Y W hT _ Z=>?_;obtain rfl:u=v:=Jf (L.symm.trans (by simpa using V));refine⟨_,rfl,wpAny_letOwnedTupleGo_enum Y λh2 F r=>?_⟩;have G:s.heap.objs.size≠e:=YM (Jn f);have S:s.heap.objs.size≠it:=YM (Jn hi);refine⟨.ref s.heap.objs.size,_,I.spunN (fp:=[e,it]) (λc o g q=>?_) l (Jd _) (qu (v:=.int i) (u:=x) ((r.2 _ G).trans hT) ⟨O,rfl⟩ Q),rfl,⟨x,λys U=>by rw[I.sq_inj U k];exact n,_,I.fresh,rfl,rfl⟩,⟨⟨_,F⟩,(r.2 it (Ne.symm j)).trans W.1⟩,λc g=>?_⟩
  ·have M:c≠e:=λz=>g (by simp[z])
   exact(r.2 c M).trans (Z c o M (λz=>g (by simp[z])) q)
  ·rw[zG,(l c g).1]
   rintro rfl;rcases Jq.mp g with z|z
   ·exact G z
   ·exact S (Ja.mp z)
 done:=by
  intro X B y C m i pins s σ H E I l ⟨⟨old,f⟩,hi⟩ ⟨N,k,n⟩;subst B y C;obtain⟨d,t,p⟩:=I.sq k;have T:i=d.toArray.size:=by rw[Jg,<- t.length,n]
  refine wpAny_pyNext_enum_endD (draws (prog:=X.prog) (w:=X.w) (A:=X.A.in1) (I.ok.hd m) b it a d.toArray (p.ne hi)) f ⟨by rw[<- T];exact hi,p⟩ λh' eb=>⟨rfl,I.spun (t':=s.toks) (fp:=[e,it]) (λc o g q=>eb c o (λz=>g (by simp[z])) q) l⟩
 self:=λ_ _ _ _ _ ⟨⟨_,f⟩,_⟩ h=>wpAny_pyIter_enum f h
noncomputable def zbg (K:Jl)(b:Bool)(f:TA):TI:=λσ H R=>f σ H λe c=>∃ a d,e=[.ref a]/\SqB b K c a d/\R (Ite K b a) c
theorem kC {X:Cx}{a:Expr}{g:TA}{p pos o:Pos}{B:List Expr}{k1} (b:Bool) (y:Gl X "enumerate") (hm:X.mg "enumerate" = none) (ha:PA X [a] g) (v:starEach [a] X.env=[(false,eval a X.env)]:=by rfl) :
  PI X (.Tuple B k1 o) (.Call (.Name "enumerate" p) [a] [] pos) (zbg X.K b g):=by
 intro pins s σ H R I h;refine Call_ (xg I y hm (u:=.type "enumerate") (by rfl) (Ym (thn (ha pos pins s σ H _ I h) λJ i ⟨G,D,f,l,m⟩=>?_) v rfl));obtain⟨C,F,rfl,w,q⟩:=m;obtain⟨u,rfl,k⟩:=l.one;cases k;obtain⟨E,K,n⟩:=f.sq w;refine iu n λL e it t r ne j hi x=>wpAny_pyIter_enum j ⟨_,[e,it],_,_,D,rfl,f.kept (t':=i.toks) x,jO b C e it ne,⟨⟨_,j⟩,hi⟩,λc A=>?_,q⟩
 have d:i.heap.objs.size<=c:=by
  rcases Jq.mp A with z|z
  ·rw[z];exact t
  ·rw[Ja.mp z];exact r
 exact f.fpOk d (f.hok.fresh d)
noncomputable def Itz (K:Jl)(b1 b2:Bool)(a1 a2:JI):It :=
 ⟨λi H=>∃ a b x y,SqB b1 K H a1 a/\SqB b2 K H a2 b/\a[i]?=some x/\b[i]?=some y,λi H v c=>∃ x y,(∀ a,SqB b1 K H a1 a->a[i]?=some x)/\(∀ b,SqB b2 K H a2 b->b[i]?=some y)/\Pr x y H v c,
  λi H=>∃ a,SqB b1 K H a1 a/\a.length=i⟩
theorem gA {P:Yo}{w:YI}{K:Jl}{es:List Expr}{k1}{r:Pos}(b1 b2:Bool)(a1 a2 z TI TO i1 i2:JI)(nd:[z,TI,TO,i1,i2].Nodup) :
  Turn P w K (.Tuple es k1 r) (Itz K b1 b2 a1 a2) [z,TI,TO,i1,i2] z (λi h=>IsZip h z TI TO .none/\IsPair h TI (.ref i1) (.ref i2)/\(∃ a b,IsPair h TO a b)/\RIt b1 h i1 a1 i/\RIt b2 h i2 a2 i) where
 mem:=JH
 obj:=λi h ⟨f,n,⟨a,b,u⟩,m,p⟩ c G=>by
  simp only[Jq,Jv,ZE]at G;rcases G with rfl|rfl|rfl|rfl|rfl
  ·exact⟨_,f,λv q=>by cases q⟩
  ·exact⟨_,n,λv q=>by cases q⟩
  ·exact⟨_,u,λv q=>by cases q⟩
  ·exact⟨_,m,λv q=>by cases q⟩
  ·exact⟨_,p,λv q=>by cases q⟩
 keep:=λi h h' ⟨f,n,⟨a,b,u⟩,m,p⟩ J=>⟨J z (by simp) _ f,J TI (by simp) _ n,⟨a,b,J TO (by simp) _ u⟩,J i1 (by simp) _ m,J i2 (by simp) _ p⟩
 item:=by
  intro X Z W hK G i pins s σ H E I t ⟨f,n,⟨a,b,u⟩,m,p⟩ ⟨xs,ys,x,y,D,V,O,hy⟩;subst Z W hK;obtain⟨N,U,r⟩:=I.sq D;obtain⟨u2,r2,p2⟩:=I.sq V;obtain⟨v1,e1,rx⟩:=U.get O;obtain⟨v2,e2,ry⟩:=r2.get hy;have j:=nd;simp only[JP,Jq,Jv,ZE,not_or]at j;obtain⟨⟨R,zO,M,L⟩,⟨IO,I1,I2⟩,⟨O1,O2⟩,k,_⟩:=j;have e:∀ c∈[z,TI,TO,i1,i2],c≠a1:=λc d=>I.sq_ne D (t c d);have B:∀ c∈[z,TI,TO,i1,i2],c≠a2:=λc d=>I.sq_ne V (t c d);have S:Sep z TI TO i1 i2 [i1,a1] [i2,a2]:=⟨nd,by simp[M,e z (by simp)],by simp[O1,e TO (by simp)],by simp[Ne.symm k,e i2 (by simp)],by simp[L,B z (by simp)],by simp[O2,B TO (by simp)],by simp[k,B i1 (by simp)]⟩;have hd:=I.ok.hd G;have D1:=draws (prog:=X.prog) (w:=X.w) (A:=X.A.in1) hd b1 i1 a1 N.toArray (r.ne m);have D2:=draws (prog:=X.prog) (w:=X.w) (A:=X.A.in1) hd b2 i2 a2 u2.toArray (p2.ne p);have g:s.TypeIs (.ref z) "zip":=⟨_,f,rfl⟩;unfold pyNext
  refine J0 (ZX (wpAny_callSpecial?_slot (name:="__next__") g F.slot_zip_next (Y6 F.slot_zip_next g F.entry_zip_next (i5 S D1 D2 f n u ⟨m,r⟩ ⟨p,p2⟩ (by simpa using (J9.mp e1).1) (by simpa using (J9.mp e2).1)
   λw1 w2 h' tk ao ab zh Oh d1 d2 new Q=>J7 ?_) (F.args_zip_next_1 _))))
  obtain rfl:v1=w1:=Jf (e1.symm.trans (by simpa using ao));obtain rfl:v2=w2:=Jf (e2.symm.trans (by simpa using ab));refine⟨_,rfl,wpAny_letOwnedTupleGo_zip zh λh3 z3 C=>?_⟩;have nz:s.heap.objs.size≠z:=YM (Jn f)
  have aT:∀ c∈[z,TI,TO,i1,i2],c≠s.heap.objs.size:=λc d=>by
   simp only[Jq,ZE,Jv]at d;rcases d with rfl|rfl|rfl|rfl|rfl
   ·exact JB (Jn f)
   ·exact JB (Jn n)
   ·exact JB (Jn u)
   ·exact JB (Jn m)
   ·exact JB (Jn p)
  refine⟨.ref s.heap.objs.size,_,I.spunN (fp:=[z,TI,TO,i1,i2]) (λc o d q=>?_) t (Jd _) (qu ((C.2 _ nz).trans new) rx ry),rfl,⟨x,y,λl Y=>by rw[I.sq_inj Y D];exact O,λl Y=>by rw[I.sq_inj Y V];exact hy,_,I.fresh,rfl,rfl⟩,
   ⟨z3,(C.2 _ (Ne.symm R)).trans (Q TI _ (by simp[Ne.symm R,IO,I1,I2]) n),⟨_,_,(C.2 _ (Ne.symm zO)).trans Oh⟩,(C.2 _ (Ne.symm M)).trans d1.1,(C.2 _ (Ne.symm L)).trans d2.1⟩,λc d=>by rw[zG (aT c d),(t c d).1]⟩
  simp only[Jq,Jv,ZE,not_or]at d;exact(C.2 c d.1).trans (Q c o (by simp[d]) q)
 done:=by
  intro X Z W hK G i pins s σ H E I t ⟨f,n,⟨a,b,u⟩,m,p⟩ ⟨xs,D,O⟩;subst Z W hK;obtain⟨N,U,r⟩:=I.sq D;have j:=nd;simp only[JP,Jq,Jv,ZE,not_or]at j;obtain⟨⟨R,zO,M,L⟩,⟨IO,I1,I2⟩,⟨O1,O2⟩,k,_⟩:=j;have e:∀ c∈[z,TI,TO,i1,i2],c≠a1:=λc d=>I.sq_ne D (t c d);have S:Sep z TI TO i1 i2 [i1,a1] [i2]:=⟨nd,by simp[M,e z (by simp)],by simp[O1,e TO (by simp)],by simp[Ne.symm k,e i2 (by simp)],by simp[L],by simp[O2],by simp[k]⟩;have ax:i=N.toArray.size:=by rw[Jg,<- U.length,O]
  have g:s.TypeIs (.ref z) "zip":=⟨_,f,rfl⟩;unfold pyNext
  refine J0 (ZX (wpAny_callSpecial?_slot (name:="__next__") g F.slot_zip_next (Y6 F.slot_zip_next g F.entry_zip_next
   (i4 S (draws (prog:=X.prog) (w:=X.w) (A:=X.A.in1) (I.ok.hd G) b1 i1 a1 N.toArray (r.ne m)) f n ⟨by rw[<- ax];exact m,r⟩ λh' x Q ⟨o,eo,co⟩=>?_) (F.args_zip_next_1 _))))
  refine J0 (Zv (T:="StopIteration") (b:=true) ⟨o,eo,co⟩ isSubtype_stop (J7 ⟨rfl,I.spun (t':=s.toks) (fp:=[z,TI,TO,i1,i2]) (λc o d q=>Q c o ?_ q) t⟩));simp only[Jq,Jv,ZE,not_or]at d ⊢;exact⟨d.1,d.2.2.1,d.2.2.2.1,d.2.2.2.2⟩
 self:=λ_ _ _ _ _ st h=>wpAny_pyIter_zip st.1 h
noncomputable def zb1 (K:Jl)(b1 b2:Bool)(g:TA):TI:=λσ H R=>g σ H λf c=>∃ b a e d,f=[.ref b,.ref a]/\SqB b1 K c b e/\SqB b2 K c a d/\R (Itz K b1 b2 b a) c
theorem g9 {X:Cx}{a b:Expr}{o:TA}{p pos G:Pos}{S:List Expr}{k1} (b1 b2:Bool) (M:Gl X "zip") (hm:X.mg "zip" = none) (ha:PA X [a,b] o) (K:starEach [a,b] X.env=[(false,eval a X.env),(false,eval b X.env)]:=by rfl) (e:starEach [b] X.env=[(false,eval b X.env)]:=by rfl) :
  PI X (.Tuple S k1 G) (.Call (.Name "zip" p) [a,b] [] pos) (zb1 X.K b1 b2 o):=by
 intro pins s σ H R I h;refine Call_ (xg I M hm (u:=.type "zip") (by rfl) (Ym (thn (ha pos pins s σ H _ I h) λY A ⟨W,T,d,D,E⟩=>?_) (by rw[K,e]) (by rw[e];rfl)));obtain⟨y,x,V,U,rfl,n,m,q⟩:=E;obtain⟨u,v,rfl,C,B⟩:=D.two;cases C;cases B;obtain⟨l,_,j⟩:=d.sq n;obtain⟨k,_,i⟩:=d.sq m;refine callType_new F.called_zip (by decide) (F.typeCall_zip_2 _ _) (F.newCall_zip_2 _ _) (λobj=>F.args_object_init_3 obj _ _) F.entry_zip_new (dg b1 b2 y x l.toArray k.toArray) ⟨j,i,λZ z ⟨TI,TO,t,r,J,f,g,O,N,Q,P⟩ L=>⟨⟨_,g,rfl⟩,?_⟩⟩;exact wpAny_pyIter_zip g ⟨_,[z,TI,TO,t,r],_,_,T,rfl,d.kept (t':=A.toks) L,gA b1 b2 y x z TI TO t r J,⟨g,O,⟨_,_,N⟩,Q,P⟩,λc w=>d.fpOk (f c w) (d.hok.fresh (f c w)),q⟩
section
variable {X:Cx}
theorem bh {prog:Yo}{w:YI}{A:YO}(d:A.handled=none)(b:Bool)(I a:JI)(c:a≠I)(xs:Array Jo) :
  Walks prog w A I [I,a] [I] xs.size (λi v=>xs[i]?=some v) (λi h=>(match b with|true=>h.IsListIter I a i|false=>h.IsTupleIter I a i)/\SqO b h a xs):=by
 cases b
 ·exact Walks.tuple d I a c xs
 ·exact Walks.list d I a c xs
theorem uI (F:X.calm=true)(b:Bool):CallR X (.builtin "all") (λvs H Q=>∃ a bs,vs=[.ref a]/\SqB b X.K H a (List.map V.bl bs)/\Q (.bl (bs.all id)) H):=by
 intro pins s σ H vs J Q I y h;obtain⟨a,bs,rfl,C,q⟩:=h;obtain⟨u,rfl,l⟩:=y.one;cases l;obtain⟨f,r,p⟩:=I.sq C
 have m:a≠s.heap.objs.size:=by
  obtain⟨o,n,e,_⟩:=p.ob;exact JB (Jn e)
 have D:f.length=bs.length:=by rw[<- r.length,Jc]
 refine call_all_walk (wX p ⟨s.heap.objs.size,[s.heap.objs.size,a],[s.heap.objs.size],_,_,_,λi=>bs.getD i true,rfl,bh (show X.A.in1.handled=none from I.ok.hd F) b _ a m f.toArray,?_,?_,?_⟩)
 ·refine⟨?_,p.mv λo e=>J6 _ e⟩
  cases b<;>exact⟨_,Jp _ rfl,rfl,rfl⟩
 ·intro i v L N O B G
  have g:f[i]?=some v:=by simpa using B
  have hi:=(J9.mp g).1
  have e:(List.map V.bl bs)[i]?=some (V.bl (bs.getD i true)):=by
   rw[JV,JA,J8 (by simp_all)];rfl
  obtain⟨K,t,l⟩:=r.get e;rw[g]at t;obtain rfl:=Jf t;obtain rfl:v=Value.bool (bs.getD i true):=l;exact Yu G
 ·intro M w E
  refine⟨.bl (bs.all id),H,I.kept (t':=w) λc o e=>E c o ?_ (J6 _ e),?_,q⟩
  ·exact λz=>JB (Jn e) (Ja.mp z)
  ·show Value.bool _=Value.bool _
   congr 1
   rw[Jg,D,Yd,YC,YC];constructor
   ·intro h x A
    obtain⟨j,k,e⟩:=List.getElem_of_mem A;have d:=h j (YQ.mpr k);rw[JA,J8 k]at d;rw[<- e];exact d
   ·intro h j k
    rw[JA,J8 (YQ.mp k)];exact h _ (Zw _)
theorem vY:CallR X (.builtin "isinstance") (λvs H Q=>∃ x T t k,vs=[x,.ty T]/\TyOf X.K H x t/\PySem.W.kitOne X.K t (.type T)=some k/\Q (.bl k) H):=by
 intro pins s σ H vs g Q I c h;obtain⟨x,T,t,k,rfl,e,f,q⟩:=h;obtain⟨u,v,rfl,d,a⟩:=c.two;cases (show v=Value.type T from a);exact iS I d e f λb=>⟨.bl k,H,I.tok b,rfl,q⟩
end
example (K:Jl):PySem.W.kitOne K (.type "int") (.type "tuple")=some false:=by rfl
example (K:Jl):PySem.W.kitOne K (.type "int") (.type "bool")=some false:=by first|rfl|decide|(with_unfolding_all rfl)
theorem zD {H:Hp}{p:JI}(h:H p=none)(o:HO):Same H (upd H p o):=λb u q=>by rw[zG (zE q h)];exact q
noncomputable def zbk (N N':List Str)(sc scope:Scope)(cap:List (Option Nat)):Bool :=
 decide (scope.kind=.function) && (scope.names.all λy=>decide (y.2≠.cell) && (decide (y.2≠.local) || decide (scope.names.lookup y.1=some .local)) &&
  (decide (y.2≠.free) || (decide (sc.names.lookup y.1=some .cell) || decide (sc.names.lookup y.1=some .free)))) && decide (cap.length=N'.length) &&
 ((N'.zip cap).all λp=>match p.2 with
  | none=>true
  | some i=>decide (N[i]?=some p.1) && (decide (scope.names.lookup p.1=some .free) && (decide (sc.names.lookup p.1=some .cell) || decide (sc.names.lookup p.1=some .free))))
theorem CapOk.of {N N':List Str}{sc scope:Scope}{cap:List (Option Nat)}(h:zbk N N' sc scope cap=true):CapOk N N' sc scope cap:=by
 unfold zbk at h;simp only[YK,YC,W8,YV]at h;obtain⟨⟨⟨g,b⟩,f⟩,d⟩:=h;refine⟨g,λy a=>(b y a).1.1,λy a e=>?_,λy a e=>?_,f,λp c i e=>?_⟩
 ·rcases (b y a).1.2 with z|z
  ·exact absurd e z
  ·exact z
 ·rcases (b y a).2 with z|z
  ·exact absurd e z
  ·exact z
 ·have q:=d p c
  rw[e]at q;simp only[YK,W8,YV]at q;exact q
noncomputable def Nx (n i:Nat)(p:Prop):Prop:=∃ a,a<n-i/\a=n-(i+1)/\i+1<=n/\p
theorem nx {n i:Nat}{p:Prop}(h:i<n)(q:p):Nx n i p:=⟨n-(i+1),by lia,rfl,h,q⟩
theorem eJ {lo:Int}{n:Nat}{g:TG}{d:TE}{l:JI}{σ:St}{H:Hp}{Q:VK}(a:Nat->List V->St->Hp->Prop)(k:a 0 [] σ H)(j:∀ i acc σ H,a i acc σ H->H l=some (.lst acc))(h:∀ i acc σ H,i<n->a i acc σ H->g (.int (lo+i)) σ H λb o=>d b o λy f=>f l=some (.lst acc)/\acc.length<sizeLine/\Nx n i (a (i+1) (acc++[y]) b (upd f l (.lst (acc++[y])))))(hd:∀ acc σ H,a n acc σ H->Q (.ref l) H):∃ W:Nat->Nat->List V->St->Hp->Prop,(∃ m,W 0 m [] σ H)/\LCW (Itr lo n) g gF d l Q W:=by
 refine⟨λi m acc σ H=>m=n-i/\i<=n/\a i acc σ H,⟨n,by simp,Jz _,k⟩,?_⟩;rintro i m acc σ H ⟨rfl,hi,p⟩;refine⟨j i acc σ H p,?_⟩;by_cases c:i<n
 ·refine .inr ⟨c,λx q ⟨e,y⟩=>?_⟩
  subst e y;exact h i acc σ _ c p
 ·have e:i=n:=by lia
  subst e;exact .inl ⟨Jd _,hd acc σ H p⟩
theorem nO {K:Jl}{b:Bool}{a:JI}{xs:List V}{g:TG}{l:TS}{D:Ends}{σ:St}{H:Hp}(c:Nat->St->Hp->Prop)(v:c 0 σ H)(s:∀ i σ H,i<=xs.length->c i σ H->SqB b K H a xs)(r:∀ i x σ H T,xs[i]?=some x->H T=none->c i σ H->g (.ref T) σ (upd H T (.tup [.int i,x])) λf k=>l { D with nx:=c (i+1),ct:=c (i+1),bk:=D.nx } f k)(t:∀ σ H,c xs.length σ H->D.nx σ H) :
  ∃ W:Nat->Nat->St->Hp->Prop,(∃ m,W 0 m σ H)/\∀ i m σ H,W i m σ H ->
   ((Ite K b a).stop i H/\D.nx σ H)\/((Ite K b a).go i H/\∃ N:St->Hp->Prop,(∀ h d,N h d->∃ n,n<m/\W (i+1) n h d)/\∀ x d,(Ite K b a).yld i H x d->g x σ d λf k=>l { D with nx:=N,ct:=N,bk:=D.nx } f k):=by
 refine⟨λi m σ H=>m=xs.length-i/\i<=xs.length/\c i σ H,⟨xs.length,by simp,Jz _,v⟩,?_⟩;rintro i m σ H ⟨rfl,hi,p⟩;have q:=s i σ H hi p;by_cases j:i<xs.length
 ·refine .inr ⟨⟨xs,xs[i],q,J8 j⟩,c (i+1),λh d o=>⟨xs.length-(i+1),by lia,rfl,j,o⟩,λx d ⟨y,w,T,u,z,e2⟩=>?_⟩
  subst z e2;exact r i y σ H T (w xs q) u p
 ·have e:i=xs.length:=by lia
  subst e;exact .inl ⟨⟨xs,q,rfl⟩,t σ H p⟩
section
theorem sM {ns:List Int}{i:Nat}(h:i<ns.length):ns.getD i 0∈ns:=by
 rw[JA,J8 h];exact Zw h
end
end L2
namespace L2
open PySem PySem.Spec PyProof.Rows Own
section
variable {X:Cx}
theorem cS:OpR X (compareOp .IsNot) (λx y H Q=>∃ c d:Bool,x=.bl c/\y=.bl d/\Q (.bl (!(c == d))) H):=by
 intro pins s σ H x y v u Q I b a h;obtain⟨c,d,rfl,rfl,q⟩:=h;cases b;cases a;exact wpAny_isNot_plain rfl (zt I q (by cases c<;>cases d<;>rfl))
end
theorem pE {K:Jl}{a:JI}{xs:List V}{g:TG}{h:TE}{l:JI}{σ:St}{H:Hp}{Q:VK}(b:Nat->List V->St->Hp->Prop)(q:b 0 [] σ H)(o:∀ i acc σ H,b i acc σ H->H l=some (.lst acc)/\SqT K H a xs)(n:∀ i x acc σ H,xs[i]?=some x->b i acc σ H->g x σ H λc r=>h c r λy j=>j l=some (.lst acc)/\acc.length<sizeLine/\Nx xs.length i (b (i+1) (acc++[y]) c (upd j l (.lst (acc++[y])))))(hd:∀ acc σ H,b xs.length acc σ H->Q (.ref l) H):∃ W:Nat->Nat->List V->St->Hp->Prop,(∃ m,W 0 m [] σ H)/\LCW (Itt K a) g gF h l Q W:=by
 refine⟨λi m acc σ H=>m=xs.length-i/\i<=xs.length/\b i acc σ H,⟨_,rfl,Jz _,q⟩,?_⟩;rintro i m acc σ H ⟨rfl,hi,p⟩;obtain⟨k,d⟩:=o i acc σ H p;refine⟨k,?_⟩;by_cases f:i<xs.length
 ·refine .inr ⟨⟨xs,xs[i],d,J8 f⟩,λx s ⟨e,y⟩=>?_⟩
  subst e;exact n i x acc σ _ (y xs d) p
 ·obtain rfl:i=xs.length:=by lia
  exact .inl ⟨⟨xs,d,Jd _⟩,hd acc σ H p⟩
end L2
namespace L2
open PySem PySem.Spec PyProof.Rows Own
section
variable {prog:Yo}{w:YI}{A:YO}{E:Jo->JO->Prop}{s:JO}
theorem nW {Q:List Jo->JO->Prop}{r:JI}{a b c:Int}{t u v:Tok}{n:Nat}(p:A.handled=none)(l:IsRange s.heap r a b c t u v)(k:Builtin.Range.small a b c=true)(hn:Builtin.Range.rangeSize a b c=n)(hlen:n<=2 ^ 24)(q:∀ (h':YP) (tk:Nat) (acc:Array Jo),(∀ b o,s.heap.get? b=some o->h'.get? b=some o)->ItemsOf (λi v=>∃ t,v=.int (a+i*c) t) acc n->Q acc.toList { s with heap:=h',toks:=tk }):wpAny (model prog w) A (collect (.ref r)) Q E s:=by
 have key:∀ R:Result->JO->Prop,(∀ (h':YP) (tk:Nat) (acc:Array Jo) (f:Nat),(∀ b o,s.heap.get? b=some o->h'.get? b=some o)->h'.get? s.heap.objs.size=some { cls:=.type "list",data:=.seq acc f }->ItemsOf (λi v=>∃ t,v=.int (a+i*c) t) acc n->R (.ok (.ret (.ref s.heap.objs.size))) { s with heap:=h',toks:=tk }) ->
   codeAny (model prog w) A (.builtin "proto.collect" ⟨[.ref r],[]⟩) R s:=by
  intro R x;have j:=λz=>YS (A:=A) F.plain_proto_collect z;have h:=λz=>YS (A:=A) F.plain_list_iadd z;refine Z4 F.entry_proto_collect ?_;rw[j];refine J0 (m:=newList []) (JN (J7 ⟨Zk F.plain_list_iadd _,Z4 F.entry_list_iadd ?_⟩));rw[h];have y:(s.heap.push { cls:=.type "list",data:=.seq ([]:List Jo).toArray }).get? s.heap.objs.size=some { cls:=.type "list",data:=.seq #[] 0 }:=Jp _ rfl;exact wpAny_extend_range (s:={ s with heap:=s.heap.push { cls:=.type "list",data:=.seq ([]:List Jo).toArray } }) p (J6 _ l) k hn hlen s.heap.objs.size (.ref s.heap.objs.size) _ y λh' tk d f g e it=>x h' tk d f (λb o z=>g b o (JB (Jn z)) (J6 _ z)) e it
 unfold collect;exact J0 (wpAny_runValue (key _ λh' tk acc f g e it=>J0 (m:=load s.heap.objs.size) (wpAny_load e (J7 (q h' tk acc g it)))))
theorem rD (r:JI)(a b c:Int)(t u v:Tok)(n:Nat)(e:Builtin.Range.small a b c=true)(hn:Builtin.Range.rangeSize a b c=n)(hlen:n<=2 ^ 24) :
  Meets (Builtin.«tuple.__new__» ⟨[.type "tuple",.ref r],[]⟩) (λA R s=>A.handled=none/\IsRange s.heap r a b c t u v/\∀ (h':YP) (tk:Nat) (acc:Array Jo),(∀ b o,s.heap.get? b=some o->h'.get? b=some o)->ItemsOf (λi v=>∃ t,v=.int (a+i*c) t) acc n ->
   R (.ok (.ret (.ref h'.objs.size))) { s with heap:=h'.push { cls:=.type "tuple",data:=.seq acc },toks:=tk }) :=
 .of_wp λprog w A R s h=>by
  obtain⟨g,d,h⟩:=h;have q:=sub_tuple_self;have p:=init_tuple_lookup;have l:=madeHere_tuple;have k:s.TypeIs (.ref r) "range":=⟨_,d,rfl⟩;have j:A.in1.handled=none:=g
  wp_walk using YN k,nW j d e hn hlen
  intro h' tk acc f it;rw[show acc.toList.toArray=acc by simp];exact J0 (m:=Builtin.Tuple.tupleExact acc) (JN (J7 ⟨_,rfl,h h' tk acc f it⟩) (by show acc.size<=sizeLine;rw[it.1,JE];exact hlen))
theorem pN {Q:Jo->JO->Prop}{r:JI}{a b c:Int}{t u v:Tok}{n:Nat}(g:A.handled=none) (f:IsRange s.heap r a b c t u v) (d:Builtin.Range.small a b c=true) (hn:Builtin.Range.rangeSize a b c=n) (hlen:n<=2 ^ 24)
  (q:∀ (h':YP) (tk:Nat) (acc:Array Jo),(∀ b o,s.heap.get? b=some o->h'.get? b=some o)->ItemsOf (λi v=>∃ t,v=.int (a+i*c) t) acc n->Q (.ref h'.objs.size) { s with heap:=h'.push { cls:=.type "tuple",data:=.seq acc },toks:=tk }) :
  wpAny (model prog w) A (call (.type "tuple") [.ref r]) Q E s :=
 callType_new F.called_tuple (by decide) (F.typeCall_tuple_1 _) (F.newCall_tuple_1 _) (λobj=>F.args_object_init_2 obj _) F.entry_tuple_new (rD r a b c t u v n d hn hlen) ⟨g,f,λh' tk acc e it=>⟨⟨_,Jp _ rfl,rfl⟩,q h' tk acc e it⟩⟩
end
noncomputable def wb (n:Nat):List V:=(List.range n).map λ(i:Nat)=>V.int i
theorem wd {acc:Array Jo}{n:Nat}(h:ItemsOf (λi v=>∃ t,v=Value.int (0+i*1) t) acc n):Vals (wb n) acc.toList:=by
 obtain⟨d,c⟩:=h
 have go:∀ (l:List Jo) (k:Nat),(∀ (j:Nat) (v:Jo),l[j]?=some v->∃ t,v=Value.int ((k+j:Nat):Int) t)->Vals ((List.range l.length).map λ(i:Nat)=>V.int ((k+i:Nat):Int)) l:=by
  intro l
  induction l with
  | nil=>intro k _;exact .nil
  | cons x l ih =>
   intro k b;rw[JM,List.range_succ_eq_map,JR,YA];refine .cons (by obtain⟨t,e⟩:=b 0 x rfl;exact⟨t,e⟩) ?_
   have:=ih (k+1) λj v a=>by
    obtain⟨t,e⟩:=b (j+1) v (by simpa using a);exact⟨t,by rw[e];congr 1;lia⟩
   refine cast (JQ (λz=>Vals z l) (ZB λi _=>?_)) this;show V.int ((k+1+i:Nat):Int)=V.int ((k+(i+1):Nat):Int)
   congr 2;lia
 have:=go acc.toList 0 λj v a=>by
  obtain⟨t,e⟩:=c j v (by simpa using a);exact⟨t,by rw[e];congr 1;simp_all⟩
 rw[Jy,d]at this;unfold wb;refine cast (JQ (λz=>Vals z acc.toList) (ZB λi _=>?_)) this;show V.int ((0+i:Nat):Int)=V.int (i:Int);rw[ZM]
theorem pZ (n:Nat):(wb n).length=n:=by simp[wb]
section
variable {X:Cx}
noncomputable def gH (b:Bool)(d:TA):TE:=λσ H Q=>d σ H λc a=>∃ j:Nat,c=[.int j]/\j<=100000/\∀ l,a l=none->Q (.ref l) (upd a l (if b=true then .lst (wb j) else .tup (wb j)))
theorem oB {j:Nat}(h:j<=100000):Builtin.Range.small 0 (j:Int) 1=true:=small_one (by simp_all) (by simp_all) (by simp_all) (by lia)
theorem lu {j:Nat}:Builtin.Range.rangeSize 0 (j:Int) 1=((j:Nat):Int):=by rw[rangeSize_one];split<;>simp_all
theorem ji {a:Expr}{x:TA}{p i pos c:Pos}(F:X.calm=true) (w:Gl X "list") (r:X.mg "list" = none) (v:Gl X "range") (m:X.mg "range" = none) (ha:PA X [a] x) (E:starEach [a] X.env=[(false,eval a X.env)]:=by rfl)
  (d:starEach [.Call (.Name "range" i) [a] [] c] X.env=[(false,eval (.Call (.Name "range" i) [a] [] c) X.env)]:=by rfl):PE X (.Call (.Name "list" p) [.Call (.Name "range" i) [a] [] c] [] pos) (gH true x):=by
 intro pins s σ H Q I h;refine Zf (xg I w r (u:=.type "list") (by rfl) (Ym ?_ d rfl));rw[d];refine ZH (Call_ (xg I v m boot_range (Ym (thn (ha c pins s σ H _ I h) λL g ⟨K,M,l,A,B⟩=>?_) E rfl)));obtain⟨j,rfl,k,q⟩:=B;obtain⟨u,rfl,t,rfl⟩:=A.one;refine call_range_1 (Wk ?_);refine call_list_range (n:=j) (l.ok.hd F) (IsRange.new ..) (oB k) lu (JS k (by decide)) λG y f J C e it=>?_;have D:∀ b o,g.heap.get? b=some o->G.get? b=some o:=λb o z=>C b o (J6 _ z);refine⟨.ref _,_,l.laid (t':=y) (o:=.lst (wb j)) D ?_ ⟨by rw[pZ];exact JS k (by decide),f.toList,J,wd it,by simpa using e⟩,rfl,q _ (l.hok.fresh ?_)⟩
 all_goals (show g.heap.objs.size<=(g.heap.push _).objs.size;rw[YR];exact Nat.le_succ _)
theorem jh {a:Expr}{w:TA}{p f pos c:Pos}(G:X.calm=true) (r:Gl X "tuple") (l:X.mg "tuple" = none) (m:Gl X "range") (k:X.mg "range" = none) (ha:PA X [a] w) (F:starEach [a] X.env=[(false,eval a X.env)]:=by rfl)
  (d:starEach [.Call (.Name "range" f) [a] [] c] X.env=[(false,eval (.Call (.Name "range" f) [a] [] c) X.env)]:=by rfl):PE X (.Call (.Name "tuple" p) [.Call (.Name "range" f) [a] [] c] [] pos) (gH false w):=by
 intro pins s σ H Q I h;refine Zf (xg I r l (u:=.type "tuple") (by rfl) (Ym ?_ d rfl));rw[d];refine ZH (Call_ (xg I m k boot_range (Ym (thn (ha c pins s σ H _ I h) λL x ⟨K,J,A,B,C⟩=>?_) F rfl)));obtain⟨j,rfl,g,q⟩:=C;obtain⟨u,rfl,t,rfl⟩:=B.one;refine call_range_1 (Wk ?_);refine pN (n:=j) (A.ok.hd G) (IsRange.new ..) (oB g) lu (JS g (by decide)) λi v acc D it=>?_;have E:∀ b o,x.heap.get? b=some o->i.get? b=some o:=λb o z=>D b o (J6 _ z);have y:Inv X pins σ J { x with heap:=i,toks:=v }:=A.kept E;refine⟨.ref i.objs.size,_,y.laid (t':=v) (o:=.tup (wb j)) (λb o e=>J6 _ e) (Jd _) ⟨by rw[pZ];exact JS g (by decide),acc.toList,wd it,?_⟩,rfl,q _ (y.hok.fresh (Jd _))⟩;exact⟨_,Jp _ rfl,rfl,0,by simp,rfl⟩
theorem mj (g:X.A.units<cLine):OpR X (compareOp .NotEq) (λx y H Q=>∃ a b xs,x=.ref a/\y=.ref b/\SqL X.K H a xs/\SqL X.K H b []/\Q (.bl (!xs.isEmpty)) H):=by
 intro pins s σ H x y v u Q I k i h;obtain⟨a,b,xs,rfl,rfl,o,n,q⟩:=h;cases k;cases i;obtain⟨r,c,f,_⟩:=I.list o;obtain⟨p,l,d,_⟩:=I.list n;cases l;have m:=c.length
 cases xs with
 | nil =>
  cases c
  exact SeqAt.RcNeAt.lists (e:=λ_=>true) f.isList d.isList rfl g (λj h=>absurd h (Nat.not_lt_zero _)) X.prog X.w _ _ ⟨.bl _,H,I,rfl,q⟩
 | cons z t =>
  exact SeqAt.RcNeAt.lists_lengths f.isList d.isList (by rw[Jg,<- m];simp) g X.prog X.w _ _ ⟨.bl _,H,I,rfl,q⟩
theorem mz (l:JI) (o:Obj) (items:Array Jo) (n:Nat) (x:Jo) (j:Nat) (E:o.cls=.type "tuple") (hd:o.data=.seq items n) (e:Nat->Bool) (y:∀ i,i<j->e i=false) (v:e j=true) (D:j<items.size) :
  Meets (Builtin.«tuple.index» ⟨[.ref l,x],[]⟩) (λA R s=>s.heap.get? l=some o/\(∀ i (h:i<items.size),SeqAt.EqAt A.in1 s items[i] x (e i))/\R (.ok (.ret (.int j s.toks))) { s with toks:=s.toks+1 }) :=
 .of_wp λprog w A R s h=>by
  cases s with
  | mk m z C g os =>
  obtain⟨p,t,h⟩:=h;unfold Builtin.«tuple.index»;simp only[Zt]
  wp_walk using Ye p hd,wpAny_forIn_list _ (λrest b c=>c=⟨m,z,C,g,os⟩/\b.1=none/\∃ i,i<=j/\rest=List.range' i (items.size-i)) _
  case turn =>
   rintro i rest b c ⟨rfl,u,d,hi,a⟩;have k:items.size-d=(items.size-(d+1))+1:=by grind
   rw[k,List.range'_succ]at a;injection a with B e2;subst B;have f:i<items.size:=by lia
   have r:items[i]?=some items[i]:=by simp[f]
   simp only[r];refine J0 (t i f prog w _ _ ?_);by_cases q:i=j
   ·subst q;rw[v];wp_walk;exact⟨_,rfl,h⟩
   ·rw[y i (by lia)];wp_walk;exact⟨rfl,rfl,i+1,by lia,e2⟩
  case fin =>
   rintro b c ⟨rfl,u,d,hi,a⟩;have:=JQ List.length a;simp at this;omega
  case h=>exact⟨rfl,rfl,0,Jz _,by simp[Std.Legacy.Range.size]⟩
theorem sJ:∀ {ns:List Int}{k:Int}{i:Nat},i<ns.idxOf k->(ns.getD i 0 == k)=false
 | [],k,i,h=>by simp at h
 | n::ns,k,i,h=>by
  rw[List.idxOf_cons]at h
  cases e:n == k with
  | true=>rw[e]at h;simp at h
  | false =>
   rw[e]at h;simp only[cond_false]at h
   cases i with
   | zero=>exact e
   | succ i=>exact sJ (ns:=ns) (i:=i) (by simp_all)
noncomputable def zaF (to:TE)(t:TA):TE:=λσ H Q=>to σ H λx c=>∃ a ns,x=.ref a/\c a=some (.tup (List.map V.int ns))/\t σ c λd b=>∃ k:Int,d=[.int k]/\b a=some (.tup (List.map V.int ns))/\k∈ns/\Q (.int (ns.idxOf k:Nat)) b
theorem kD {o e:Expr}{to:TE}{t:TA}{apos cpos:Pos}(hu:X.A.units+64<cLine) (S:PE X o to) (ha:PA X [e] t)
  (d:attributeBase o "index" X.env (eval o X.env)=eval o X.env:=by rfl)
  (j:((backTo cpos (starEach [e] X.env)).all (λx=>!x.1) && (backToKw cpos (keywordEach [] X.env)).all (λx=>x.1.isSome) && decide ([e].length+([]:List Keyword).length+(if ([]:List Keyword).isEmpty then 0 else 1)<30))=true:=by rfl)
  (c:(apos.endLine == cpos.line)=true:=by rfl) (R:starEach [e] X.env=(false,eval e X.env)::starEach [] X.env:=by rfl):PE X (.Call (.Attribute o "index" apos) [e] [] cpos) (zaF to t):=by
 intro pins s σ H Q I h;refine wpAny_Call_method_late d j c rfl (thn (S pins s σ H _ I h) λv n ⟨x,D,B,K,a,ns,ex,P,L⟩=>?_);subst ex;cases K;obtain⟨_,ao,_,⟨ob,y,Z,n1,d1,M⟩⟩:=(show ObjOk X.prog X.w D n.heap a (.tup (List.map V.int ns)) from B.hok a _ P);refine⟨"tuple","tuple.index",PySem.F.plainAttrs_tuple,PySem.F.slot_tuple_index,PySem.F.type_tuple_index,⟨ob,y,Z⟩,λa' W=>by cases W;exact⟨ob,y,M⟩,?_⟩;have w:=ha cpos pins n σ D _ B L;rw[R]at w ⊢;refine Zg rfl (Calls.evalArgs_plain ?_);refine thn w λus G ⟨vs,C,A,J,k,ev,l,O,q⟩=>?_;subst ev;obtain⟨u,rfl,E,rfl⟩:=J.one;obtain⟨_,b,p,⟨f,g,z,N,Y,ab⟩⟩:=(show ObjOk X.prog X.w C G.heap a (.tup (List.map V.int ns)) from A.hok a _ l);have hlen:b.toArray.size=ns.length:=by rw[Jg,<- p.length,Jc]
 have r:=List.idxOf_lt_length_of_mem O
 refine ZT PySem.F.slot_tuple_index ⟨f,g,z⟩ PySem.F.entry_tuple_index (PySem.F.args_tuple_index_2 _ _)
  (mz a f b.toArray N (.int k E) (ns.idxOf k) z Y (λi=>ns.getD i 0 == k) (λi hi=>?_) ?_ (by rw[hlen];exact r)) ⟨g,λi hi=>?_,?_⟩
 ·exact sJ hi
 ·rw[JA,J8 r]
  simp
 ·have m:i<ns.length:=by rw[<- hlen];exact hi
  obtain⟨w1,U,F,rfl⟩:=p.get (show (List.map V.int ns)[i]?=some (V.int (ns.getD i 0)) by rw[JV,JA,J8 m];rfl);have T:b.toArray[i]=.int (ns.getD i 0) F:=by simpa using (J9.mp U).2
  rw[T];exact(MeetsSeq.EqGives.int _ _ _ _).at _ _
 ·exact⟨.int _,C,A.tok _,⟨_,rfl⟩,q⟩
theorem oj:fillsNumberSlot (.type "tuple") "mul" = pure false :=
 PySem.fillsNumberSlot_seq (id:="tuple.__mul__") (r:=some (.builtin "tuple.__rmul__")) F.slot_tuple_mul.lookup (by decide +kernel) F.slot_tuple_rmul.lookup (by decide +kernel)
theorem mY:seqRepeat? (.type "tuple")=pure (some (.builtin "tuple.__mul__")):=by
 unfold seqRepeat?;rw[PySem.seqSlot_of (T:="tuple") (name:="__mul__") (id:="tuple.__mul__") F.slot_tuple_mul.lookup (by decide +kernel),PySem.seqSlot_of (T:="tuple") (name:="__rmul__") (id:="tuple.__rmul__") F.slot_tuple_rmul.lookup (by decide +kernel)];rfl
theorem dO (a:Int)(t:Tok)(l:JI)(c:Option JI)(sl:Array (Option Jo))(items:Array Jo)(n:Nat) :
  Meets (Builtin.«int.__rmul__» ⟨[.int a t,.ref l],[]⟩) (λ_ R s=>s.heap.get? l=some { cls:=.type "tuple",dict:=c,data:=.seq items n,slots:=sl }/\R (.ok (.ret Value.notImplemented)) s) :=
 .of_wp λprog w A R s h=>by
  cases s;obtain⟨b,h⟩:=h
  wp_walk using Wm b
  exact⟨_,rfl,h⟩
theorem my (l:JI) (o:Obj) (x:Jo) (n k:Nat) (t:Tok) (r:o.cls=.type "tuple") (hd:o.data=.seq #[x] n) (D:k<=100000) :
  Meets (Builtin.«tuple.__mul__» ⟨[.ref l,.int k t],[]⟩) (λ_ R s=>s.heap.get? l=some o /\
   (k=1->R (.ok (.ret (.ref l))) s)/\(k≠1->R (.ok (.ret (.ref s.heap.objs.size))) { s with heap:=s.heap.push { cls:=.type "tuple",data:=.seq (List.replicate k x).toArray } })) :=
 .of_wp λprog w A R s h=>by
  cases s with
  | mk q u y j os =>
  obtain⟨b,v,f⟩:=h;have ty:Shared.TypeIs ⟨q,u,y,j,os⟩ (.ref l) "tuple":=⟨o,b,r⟩
  wp_walk using Ye b hd,YN ty
  have C:¬(decide ((k:Int) < -2 ^ 63) || decide ((k:Int)>=2 ^ 63))=true:=by
   rw[Jj (by simp_all),Jj (by lia)];exact Jh
  rw[Je C]
  wp_walk using Ye b hd,YN ty
  by_cases a:k=1
  ·have d:((#[x]:Array Jo).isEmpty || (k:Int) == 1)=true:=by subst a;rfl
   rw[Jm d]
   wp_walk using YN ty
   exact⟨_,rfl,v a⟩
  ·have d:¬((#[x]:Array Jo).isEmpty || (k:Int) == 1)=true:=by
    have:((k:Int) == 1)=false:=by rw[YZ];lia
    rw[this];exact Jh
   rw[Je d]
   have fl:∀ (m:Nat) (acc:Array Jo),(List.foldl (λi g=>i++g) acc (List.replicate m #[x]))=acc++(List.replicate m x).toArray:=λm=>by
    induction m with
    | zero=>intro acc;simp
    | succ m ih=>intro acc;rw[Yk,List.foldl_cons,ih,Yk];apply Array.ext';simp
   by_cases p:k=0
   ·subst p
    have c:(decide (((0:Nat):Int)<=0) || (#[x]:Array Jo).isEmpty)=true:=rfl;rw[Jm c]
    wp_walk
    exact⟨_,rfl,f (by decide)⟩
   ·have c:¬(decide ((k:Int)<=0) || (#[x]:Array Jo).isEmpty)=true:=by
     rw[Jj (by simp_all)];exact Jh
    have B:¬(((#[x]:Array Jo).size:Int)*(k:Int) > (2 ^ 63-1) / 8):=by
     show ¬((1:Int)*(k:Int) > (2 ^ 63-1) / 8);lia
    have z:¬ Builtin.Tuple.tupleTooMany (((#[x]:Array Jo).size:Int)*(k:Int))=true:=by
     unfold Builtin.Tuple.tupleTooMany;show ¬ decide ((1:Int)*(k:Int) > (sizeLine:Int))=true;rw[Jj (by rw[JE];lia)];exact Jh
    rw[Je c,Je B,Je z,Yg,fl];refine J0 (m:=Builtin.Tuple.tupleExact _) (JN (J7 ⟨_,rfl,?_⟩) ?_)
    ·have e:(#[]++(List.replicate k x).toArray:Array Jo)=(List.replicate k x).toArray:=by simp
     rw[e];exact f a
    ·show (#[]++(List.replicate k x).toArray:Array Jo).size<=sizeLine
     rw[JE];simp;lia
theorem Vals.same {v:V}{u:Jo}(r:RelV v u):∀ k:Nat,Vals (List.replicate k v) (List.replicate k u)
 | 0=>.nil
 | k+1=>by rw[Yk,Yk];exact .cons r (Vals.same r k)
theorem uk:OpR X (binaryOp .Mult) (λx y H Q=>∃ a v,∃ k:Nat,x=.ref a/\y=.int k/\H a=some (.tup [v])/\k<=100000/\∀ r H',Same H H'->H' r=some (.tup (List.replicate k v))->Q (.ref r) H'):=by
 intro pins s σ H x y J G Q I A w h;obtain⟨a,v,k,rfl,rfl,j,D,q⟩:=h;cases A;obtain⟨t,rfl⟩:=w;obtain⟨_,E,r,⟨⟨c,K,d,n⟩,f,m,i,l,g⟩⟩:=(show ObjOk X.prog X.w H s.heap a (.tup [v]) from I.hok a _ j);simp only at m l g;subst m l g;obtain⟨u,rfl,B⟩:=r.one
 refine wpAny_binaryOp_repeat_ref (T:="tuple") (U:="int") (by decide) ⟨_,f,rfl⟩ (λp=>typeIs_int p k t) oj F.fills_int_mul F.slot_int_rmul mY F.slot_int_index.lookup
  (ZT F.slot_int_rmul (typeIs_int s k t) F.entry_int_rmul (F.args_int_rmul_2 _ _) (dO k t a none n _ i)
   ⟨f,rfl,⟨_,f,rfl⟩,ZT F.slot_tuple_mul ⟨_,f,rfl⟩ F.entry_tuple_mul (F.args_tuple_mul_2 _ _) (my a _ u i k t rfl rfl D) ⟨f,λe=>?_,λe=>?_⟩⟩)
 ·subst e
  exact⟨.ref a,H,I,rfl,q a H (Same.refl H) j⟩
 ·have C:(List.replicate k v).length<=sizeLine:=by rw[ZR,JE];lia
  exact⟨.ref s.heap.objs.size,_,I.laid (t':=s.toks) (o:=.tup (List.replicate k v)) (λb ob z=>J6 _ z) (Jd _) ⟨C,_,Vals.same B k,TupX.new _ _⟩,rfl,q _ _ (zD (I.hok.fresh (Jd _)) _) zB⟩
end
end L2
namespace Bn
open PySem L2 Own
noncomputable def Tups (H H':Hp):Prop:=∀ a b,H a=some (.tup b)->H' a=some (.tup b)
theorem Tups.trans {H d c:Hp}(x:Tups H d)(y:Tups d c):Tups H c:=λa b e=>y a b (x a b e)
theorem Tups.of {H H':Hp}(s:Same H H'):Tups H H':=λa _ e=>s a _ e
theorem Tups.lst {H:Hp}{l:JI}{xs ys:List V}(h:H l=some (.lst xs)):Tups H (upd H l (.lst ys)):=λa b e=>by
 rw[zG (by rintro rfl;rw[h]at e;cases e)];exact e
noncomputable def But (l:JI)(H H':Hp):Prop:=∀ b o,H b=some o->b≠l->H' b=some o
theorem But.trans {l:JI}{H c a:Hp}(x:But l H c)(y:But l c a):But l H a:=λb o e n=>y b o (x b o e n) n
theorem But.of {l:JI}{H a:Hp}(x:Same H a):But l H a:=λb o e _=>x b o e
noncomputable def Prs (H:Hp):List V->List (Nat × Nat)->Prop
 | [],[]=>True
 | p::ps,f::fs=>(∃ a,p=.ref a/\H a=some (.tup [.int f.1,.int f.2]))/\Prs H ps fs
 | _,_=>False
theorem Prs.tups {H H':Hp}(t:Tups H H'):∀ {ps:List V}{fs:List (Nat × Nat)},Prs H ps fs->Prs H' ps fs
 | [],[],_=>trivial
 | _::_,_::_,⟨⟨a,e,h⟩,r⟩=>⟨⟨a,e,t _ _ h⟩,r.tups t⟩
theorem Prs.len {H:Hp}:∀ {ps:List V}{fs:List (Nat × Nat)},Prs H ps fs->ps.length=fs.length
 | [],[],_=>rfl
 | _::_,_::_,⟨_,r⟩=>JQ (· + 1) r.len
theorem Prs.add {H:Hp}{a:JI}{f:Nat × Nat}(h:H a=some (.tup [.int f.1,.int f.2])):∀ {ps:List V}{fs:List (Nat × Nat)},Prs H ps fs->Prs H (ps++[.ref a]) (fs++[f])
 | [],[],_=>⟨⟨a,rfl,h⟩,trivial⟩
 | _::_,_::_,⟨x,r⟩=>⟨x,r.add h⟩
theorem Prs.get {H:Hp}:∀ {ps:List V}{fs:List (Nat × Nat)}{i:Nat}{p:V},Prs H ps fs->ps[i]?=some p->∃ a f,p=.ref a/\fs[i]?=some f/\H a=some (.tup [.int f.1,.int f.2])
 | [],[],_,_,_,e=>by simp at e
 | _::_,f::_,0,p,⟨⟨a,b,h⟩,_⟩,e=>by
  have:_=p:=Jf e;subst this
  exact⟨a,f,b,rfl,h⟩
 | _::_,_::_,i+1,p,⟨_,r⟩,e=>r.get (i:=i) (by simpa using e)
structure Nt where
 lanes:Nat
 forks:List (Nat × Nat)
 ends:List Nat
structure Nt.Ok (N:Nt):Prop where
 l1:1<=N.lanes
 l16:N.lanes<=16
 fm:N.forks.length<=128
 fk:∀ f∈N.forks,f.1<N.lanes/\f.2<N.lanes/\f.1≠f.2
 en:N.ends.Perm (List.range N.lanes)
noncomputable def zW (a:List Nat):List V:=a.map λ(e:Nat)=>V.int e
structure NetAt (H:Hp) (r fr er:JI) (ps:List V) (N:Nt):Prop where
 net:H r=some (.tup [.int N.lanes,.ref fr,.ref er])
 forks:H fr=some (.tup ps)
 prs:Prs H ps N.forks
 ends:H er=some (.tup (zW N.ends))
theorem NetAt.tups {H H':Hp}{r fr er:JI}{ps:List V}{N:Nt}(t:Tups H H')(h:NetAt H r fr er ps N):NetAt H' r fr er ps N:=⟨t _ _ h.net,t _ _ h.forks,h.prs.tups t,t _ _ h.ends⟩
theorem uJ {cs:List Int}{i:Nat}(h:i<cs.length):atI (cs.map V.int) ((i:Nat):Int)=some (.int (cs.getD i 0)):=by
 refine yk ?_;rw[JV,JA,J8 h];rfl
theorem eT {α:Type}{xs:List α}{i:Nat}(h:i<xs.length):ixN xs.length ((i:Nat):Int)=some i:=by
 unfold ixN;rw[Jm (by lia),Jm (by simp_all)];simp
theorem oC (cs:List Int)(i:Nat)(a:Int):(cs.map V.int).set i (.int a)=(cs.set i a).map V.int:=by rw[List.map_set]
structure Mgs (mg:Str->Option Jo):Prop where
 len:mg "len" = none
 range:mg "range" = none
 tuple:mg "tuple" = none
 enum:mg "enumerate" = none
 abs:mg "abs" = none
 zip:mg "zip" = none
 isi:mg "isinstance" = none
 all:mg "all" = none
 sum:mg "sum" = none
 bool:mg "bool" = none
 int:mg "int" = none
 str:mg "str" = none
 max:mg "max" = none
 min:mg "min" = none
 sorted:mg "sorted" = none
 list:mg "list" = none
structure Use (P:Yo) (w:YI) (K:Jl) (mg:Str->Option Jo) (base:YP) (x:Str) (ps:List Str) (k:Nat) (sp:Sp) (f:JI) (fd:Yl):Prop where
 ok:FnOk P w K mg base CX0 k f fd ps sp
 b:Binds K fd ps []
 kp:PySem.W.keepIn K (.ref f)=true
 m:mg x=some (.ref f)
noncomputable def Frs (l:JI)(H:Hp)(x:JI):Prop:=∀ b o,H b=some o->b≠l->b≠x
theorem But.upd {l x:JI}{H a:Hp}{o:HO}(B:But l H a)(f:Frs l H x):But l H (upd a x o):=λb u e n=>by rw[zG (f b u e n)];exact B b u e n
theorem zy (a:List Nat):(zW a).length=a.length:=by simp[zW]
noncomputable def nm (ns:List Nat)(i:Nat):Nat:=ns.getD i 0
section
variable {ns:List Nat}{n:Nat}(pm:ns.Perm (List.range n))
include pm
end
noncomputable def ren (ns:List Nat)(f:Nat × Nat):Nat × Nat:=(nm ns f.1,nm ns f.2)
noncomputable def Nt.ren (N:Nt)(ns:List Nat):Nt:=⟨N.lanes,N.forks.map (Bn.ren ns),N.ends.map (nm ns)⟩
noncomputable def Nt.again (N:Nt)(f:Nat × Nat):Nt:=⟨N.lanes,N.forks++[f],N.ends⟩
end Bn
namespace L2
open PySem PySem.Spec PyProof.Rows Own
section
variable {prog:Yo}{w:YI}{A:YO}{E:Jo->JO->Prop}{s:JO}
theorem nL {t sl:JI}{items:Array Jo}{f e:Jo}{lo hi:Option Int}{Q:Jo->JO->Prop}(a:IsTup s.heap t items)(g:s.heap.IsSliceOf sl f e .none)(i:IsPart f lo)(pu:IsPart e hi)(k:HT.sIx items.size 0 lo=0)(j:HT.sIx items.size items.size hi=items.size)(h:Q (.ref t) s):wpAny (model prog w) A (getItem (.ref t) (.ref sl)) Q E s:=by
 obtain⟨os,b,c,l⟩:=id g;have d:s.TypeIs (.ref sl) "slice":=⟨os,b,c⟩;unfold getItem
 try with_reducible refine Y5 ?_
 first|refine J0 (J7 ?_)|skip
 refine J0 (wpAny_sequenceKey a.typeIs (by decide) (J0 (wpAny_callSpecial?_slot (name:=Str.ofString "__getitem__") a.typeIs ZQ (Y6 ZQ a.typeIs PyProof.Rows.entry_tuple_getitem ?_ (PyProof.Rows.args_tuple_getitem _ _)))));show wpAny _ _ (Builtin.Tuple.tupleItemsOf (.ref t) >>= _) _ _ s;refine J0 (tupleItemsOf_ a (J0 (YN d ?_)));rw[Jm (by decide)];refine J0 (HT.sliceApplied_gen g i pu ?_);rw[k,j];show wpAny _ _ (if (((0:Nat):Int) == 0 && (1:Int) == 1 && (items.size-0) == items.size)=true then _ else _) _ _ s;rw[Jm (by simp)];refine J0 ?_;unfold Builtin.Tuple.tupleIsExact;refine J0 (YN a.typeIs (J7 ?_));rw[Jm (by decide)];exact J0 (YX (J7 ⟨_,rfl,J7 h⟩))
end
end L2
namespace K38
open PySem L2 Own Bn
noncomputable def top (i:Nat):Stmt:=PySem.Challenge.pw_stairlanes_k38_books_taken.main.body.getD i (.Pass ⟨0,0,0,0⟩)
end K38
namespace L2
open PySem PySem.Spec PyProof.Rows Own
section
variable {X:Cx}
theorem um:OpR X (binaryOp .Add) (λx y H Q=>∃ a b xs ys,x=.ref a/\y=.ref b/\H a=some (.tup xs)/\H b=some (.tup ys)/\xs.length+ys.length<=sizeLine/\∀ r H',Same H H'->H' r=some (.tup (xs++ys))->Q (.ref r) H'):=by
 intro pins s σ H x y v u Q I o n h;obtain⟨a,b,xs,ys,rfl,rfl,j,i,F,q⟩:=h;by_cases z:xs=[]
 ·subst z
  cases o;cases n;obtain⟨L,A,C,_⟩:=I.tuple (SqT.of j);obtain⟨m,M,B,_⟩:=I.tuple (SqT.of i);cases A;obtain⟨⟨P,K,N,l⟩,w,g,E,d⟩:=C;obtain⟨⟨O,J,e2,k⟩,t,f,D,c⟩:=B;simp only at g d f c;subst g d f c;refine concat_meets ⟨_,w,rfl⟩ ⟨_,t,rfl⟩ noFill_tuple_add seq_tuple_add PySem.F.slot_tuple_add PySem.F.entry_tuple_add (PySem.F.args_tuple_add_2 _ _) (tuple_addW0 a b #[] m.toArray E D K J l k rfl) ⟨w,t,?_⟩;exact⟨.ref b,H,I,rfl,q b H (Same.refl H) (by rw[List.nil_append];exact i)⟩
 ·exact cT pins s σ H _ _ v u Q I o n ⟨a,b,xs,ys,rfl,rfl,SqT.of j,SqT.of i,z,F,λe=>q a H (Same.refl H) (by rw[e,JZ];exact j),λ_ p G=>q p _ (zD G _) zB⟩
theorem ue:SlR X (λx lo hi H Q=>∃ a xs,x=.ref a/\H a=some (.tup xs)/\∀ p H',Same H H'->H' p=some (.tup (vW xs lo hi))->Q (.ref p) H'):=by
 intro pins s σ H x v k j lo hi l Q I e i f pu h;obtain⟨a,xs,rfl,c,q⟩:=h;by_cases b:HT.sIx xs.length 0 lo=0/\HT.sIx xs.length xs.length hi=xs.length
 ·cases e
  obtain⟨d,r,g,n⟩:=I.tuple (SqT.of c);have hlen:d.toArray.size=xs.length:=by rw[Jg];exact r.length.symm
  refine⟨"tuple",_,PyProof.Rows.slot_tuple_getitem.lookup,g.typeIs,nL g i f pu (by rw[hlen];exact b.1) (by rw[hlen];exact b.2) ⟨.ref a,H,I,rfl,q a H (Same.refl H) ?_⟩⟩;unfold vW;rw[b.1,b.2,We,Nat.sub_zero,Y9];exact c
 ·exact aJ pins s σ H _ v k j lo hi l Q I e i f pu ⟨a,xs,rfl,SqT.of c,b,λp m=>q p _ (zD m _) zB⟩
end
theorem sR (xs:List V)(i:Nat)(h:i<=xs.length):vW xs none (some (i:Int))=xs.take i:=by
 unfold vW;rw[HT.sIx_none,HT.sIx_nat,We,Nat.sub_zero,Nat.min_eq_left h]
theorem sS (xs:List V)(i:Nat)(h:i<=xs.length):vW xs (some (i:Int)) none=xs.drop i:=by
 unfold vW;rw[HT.sIx_none,HT.sIx_nat,Nat.min_eq_left h];exact Y8 (by rw[Zb];exact Jd _)
theorem rS {h:YP}:∀ (vs:List Jo) (ds:List PyData),vs.length=ds.length->(∀ (j:Nat) (v:Jo) (d:PyData),vs[j]?=some v->ds[j]?=some d->∃ as,Reads h v d as)->∃ as,ReadsAll h vs ds as
 | [],[],_,_=>⟨_,.nil⟩
 | v::vs,d::ds,c,q=>by
  obtain⟨as,r⟩:=q 0 v d rfl rfl;obtain⟨bs,b⟩:=rS vs ds (by simpa using c) λj a f e e2=>q (j+1) a f (by simpa using e) (by simpa using e2);exact⟨_,.cons r b⟩
theorem uL (ts:List Str):(tupleText ts).length<=piled ts+3:=by
 unfold tupleText;rw[strLen_append,strLen_append];have a:(("(":String):Str).length=1:=rfl;have c:(((if ts.length == 1 then ",)" else ")":String):Str)).length<=2:=by split<;>decide
 rw[a];by_cases h:ts=[]
 ·subst h
  have:(Str.join ", " ([]:List Str)).length=0:=rfl;lia
 ·have b:=join_length_add ts h
  lia
theorem tQ {m:Nat}:∀ {ts:List Str},(∀ t∈ts,t.length<=m)->piled ts<=ts.length*(m+2)
 | [],_=>Jz _
 | t::ts,h=>by
  have a:=h t JH;have b:=tQ (ts:=ts) λx c=>h x (JD _ c);rw[piled_cons,JM,Nat.add_one_mul];lia
end L2
namespace L2
open PySem PySem.Spec PyProof.Rows Own
noncomputable def AnyT (K:Jl)(H:Hp)(x:V):Prop:=∃ T,TyOf K H x T/\∃ t:String,T=.type t
noncomputable def ny:V->Bool
 | .int _=>true
 | _=>false
noncomputable def xV (b:Int):V->Bool
 | .int i=>decide (0<=i) && decide (i<b)
 | _=>false
noncomputable def yG (H:Hp):V->Option (List V)
 | .ref a=>match H a with
  | some (.tup xs)=>some xs
  | _=>none
 | _=>none
noncomputable def vh (H:Hp)(m:Int)(x:V):Bool:=match yG H x with
 | some a=>decide ((a.length:Int)=m)
 | none=>false
theorem yR {H:Hp}{a:JI}{xs:List V}(h:H a=some (.tup xs)):yG H (.ref a)=some xs:=by
 show (match H a with
  | some (.tup xs)=>some xs
  | _=>none)=_
 rw[h]
theorem yh {H:Hp}{x:V}{xs:List V}(h:yG H x=some xs):∃ a,x=.ref a/\H a=some (.tup xs):=by
 cases x with
 | ref a =>
  refine⟨a,rfl,?_⟩
  cases z:H a with
  | none=>simp[yG,z]at h
  | some o=>cases o<;>simp[yG,z]at h;rw[h]
 | _=>cases h
theorem pH (i j:Int):decide (V.int i=V.int j)=decide (i=j):=by
 by_cases e:i=j
 ·rw[Jt e,Jt (JQ V.int e)]
 ·rw[Jj e,Jj (λz=>e (V.int.inj z))]
theorem AnyT.same {K:Jl}{H H':Hp}{x:V}(s:∀ b o,H b=some o->H' b=some o)(h:AnyT K H x):AnyT K H' x:=by
 obtain⟨T,h,t,a⟩:=h
 cases h with
 | non=>exact⟨_,.non,_,rfl⟩
 | bl b=>exact⟨_,.bl b,_,rfl⟩
 | int i=>exact⟨_,.int i,_,rfl⟩
 | str x=>exact⟨_,.str x,_,rfl⟩
 | flt x=>exact⟨_,.flt x,_,rfl⟩
 | lst e=>exact⟨_,.lst (s _ _ e),_,rfl⟩
 | frz e=>exact⟨_,.frz (s _ _ e),_,rfl⟩
 | tup e=>exact⟨_,.tup (s _ _ e),_,rfl⟩
 | dK e=>exact⟨_,.dK (s _ _ e),_,rfl⟩
 | dT e=>exact⟨_,.dT (s _ _ e),_,rfl⟩
 | ins e _ _ _ _ _=>cases a
structure Isi (K:Jl) (H:Hp) (x:V) (t:Jo):Prop where
 ty:TyOf K H x t
 int:PySem.W.kitOne K t (.type "int")=some (match x with|.int _=>true|.bl _=>true|_=>false)
 bool:PySem.W.kitOne K t (.type "bool")=some (match x with|.bl _=>true|_=>false)
 str:PySem.W.kitOne K t (.type "str")=some (match x with|.str _=>true|_=>false)
 tup:PySem.W.kitOne K t (.type "tuple")=some (yG H x).isSome
theorem zas {K:Jl}{H:Hp}{x:V}{T:Jo}(h:TyOf K H x T)(a:∃ t,T=.type t):Isi K H x T:=by
 cases h with
 | ins e _ _ _ _ _=>obtain⟨t,a⟩:=a;cases a
 | lst e=>exact⟨.lst e,rfl,rfl,rfl,by simp only[yG,e];rfl⟩
 | frz e=>exact⟨.frz e,rfl,rfl,rfl,by simp only[yG,e];rfl⟩
 | tup e=>exact⟨.tup e,rfl,rfl,rfl,by simp only[yG,e];rfl⟩
 | dK e=>exact⟨.dK e,rfl,rfl,rfl,by simp only[yG,e];rfl⟩
 | dT e=>exact⟨.dT e,rfl,rfl,rfl,by simp only[yG,e];rfl⟩
 | non=>exact⟨.non,rfl,rfl,rfl,rfl⟩
 | bl b=>exact⟨.bl b,rfl,rfl,rfl,rfl⟩
 | int i=>exact⟨.int i,rfl,rfl,rfl,rfl⟩
 | str x=>exact⟨.str x,rfl,rfl,rfl,rfl⟩
 | flt x=>exact⟨.flt x,rfl,rfl,rfl,rfl⟩
theorem AnyT.isi {K:Jl}{H:Hp}{x:V}(h:AnyT K H x):∃ t,Isi K H x t :=
 let ⟨T,h,a⟩:=h
 ⟨T,zas h a⟩
end L2
namespace K38
open PySem L2 Own Bn
noncomputable abbrev mN:Stmt:=top 1
noncomputable abbrev mT:Stmt:=top 2
noncomputable abbrev mQ:Stmt:=top 3
noncomputable def qQ (K:Jl):Sp:=λa H Q _=>∃ x,a=[x]/\AnyT K H x/\Q (.bl (ny x)) H
noncomputable def ud (K:Jl):Sp:=λa H Q _=>∃ x b,a=[x,.int b]/\AnyT K H x/\Q (.bl (xV b x)) H
noncomputable def uc (K:Jl):Sp:=λa H Q _=>∃ x m,a=[x,.int m]/\AnyT K H x/\Q (.bl (vh H m x)) H
section
variable {P:Yo}{w:YI}{K:Jl}{mg:Str->Option Jo}{base:YP}
theorem zbF:FnScope ["thing"] ["thing"] (zN mN):=by rfl'
theorem fg {f:JI}{fd:Yl}(F:Fun K "is_whole" "is_whole" mN f fd) (G:Mgs mg):FnOk P w K mg base CX0 1 f fd ["thing"] (qQ K):=by
 refine F.ok zbF (λa H Q E h=>?_) (λd A outer s H a Q E e h=>?_)
 ·obtain⟨x,rfl,_⟩:=h
  rfl
 obtain⟨x,rfl,c,k⟩:=h;refine⟨_,(@zK _ _ _ (@zS _ _ _ _ (@vm _ _ _ _ _ _ _ (@zR _ _ _ _ _ _ _ _ _ vY (by rfl) G.isi (by rfl) (@zA _ _ _ _ _ (@qv _ 0 _ _ (by rfl')) (@zA _ _ _ _ _ (@uj _ _ (.ty "int") (.type "int") _ (by rfl) G.int (by rfl) rfl (by decide) (by decide)) zC (by rfl)) (by rfl)) (by decide) (by decide) (by rfl) (by rfl)) (@tT _ _ _ _ _ (@ag _ _ _ _ (@zR _ _ _ _ _ _ _ _ _ vY (by rfl) G.isi (by rfl) (@zA _ _ _ _ _ (@qv _ 0 _ _ (by rfl')) (@zA _ _ _ _ _ (@uj _ _ (.ty "bool") (.type "bool") _ (by rfl) G.bool (by rfl) rfl (by decide) (by decide)) zC (by rfl)) (by rfl)) (by decide) (by decide) (by rfl) (by rfl))))))),?_⟩;obtain⟨t,I⟩:=c.isi;refine⟨_,rfl,_,"int",_,_,rfl,I.ty,I.int,_,rfl,?_⟩
 cases x with
 | int i=>exact yV ⟨_,rfl,_,"bool",_,_,rfl,I.ty,I.bool,_,rfl,k⟩
 | bl b=>exact yV ⟨_,rfl,_,"bool",_,_,rfl,I.ty,I.bool,_,rfl,k⟩
 | non=>exact zz k
 | str z=>exact zz k
 | flt z=>exact zz k
 | byt z=>exact zz k
 | ref z=>exact zz k
 | ty z=>exact zz k
theorem zbH:FnScope ["thing","bound"] ["thing","bound"] (zN mT):=by rfl'
theorem ft {f g:JI}{fd j:Yl}(F:Fun K "is_below" "is_below" mT f fd) (G:Mgs mg) (a:Use P w K mg base "is_whole" ["thing"] 1 (qQ K) g j):FnOk P w K mg base CX0 2 f fd ["thing","bound"] (ud K):=by
 refine F.ok zbH (λc H Q E h=>?_) (λm A outer s H c Q E d h=>?_)
 ·obtain⟨x,b,rfl,_⟩:=h
  rfl
 obtain⟨x,b,rfl,l,k⟩:=h;refine⟨_,(@zK _ _ _ (@zS _ _ _ _ (@vm _ _ _ _ _ _ _ (@zQ _ _ _ _ _ _ _ _ _ _ _ _ _ _ _ _ a.ok d (by rfl) a.m a.kp a.b .nil zY (@zA _ _ _ _ _ (@qv _ 0 _ _ (by rfl')) zC (by rfl)) (by decide) (by rfl) (by rfl)) (@tT _ _ _ _ _ (@fO _ _ _ _ _ _ _ _ _ _ _ _ br zaZ zJ (@qv _ 0 _ _ (by rfl')) (@qv _ 1 _ _ (by rfl')) (by with_unfolding_all rfl)))))),?_⟩;refine⟨_,rfl,_,rfl,l,_,rfl,?_⟩
 cases x with
 | int i =>
  refine yV ⟨_,rfl,_,_,rfl,rfl,_,rfl,?_⟩;have e:xV b (.int i)=(decide (0<=i) && decide (i<b)):=rfl;rw[e]at k;by_cases z:(0:Int)<=i
  ·rw[Jt z]at k ⊢
   exact yV ⟨_,rfl,_,_,rfl,rfl,k⟩
  ·rw[Jj z]at k ⊢
   exact zz k
 | bl z=>exact zz k
 | non=>exact zz k
 | str z=>exact zz k
 | flt z=>exact zz k
 | byt z=>exact zz k
 | ref z=>exact zz k
 | ty z=>exact zz k
theorem zbG:FnScope ["thing","many"] ["thing","many"] (zN mQ):=by rfl'
theorem fj {f:JI}{fd:Yl}(F:Fun K "is_row" "is_row" mQ f fd) (G:Mgs mg):FnOk P w K mg base CX0 1 f fd ["thing","many"] (uc K):=by
 refine F.ok zbG (λc H Q E h=>?_) (λi A outer s H c Q E j h=>?_)
 ·obtain⟨x,m,rfl,_⟩:=h
  rfl
 obtain⟨x,m,rfl,g,k⟩:=h;refine⟨_,(@zK _ _ _ (@zS _ _ _ _ (@vm _ _ _ _ _ _ _ (@zR _ _ _ _ _ _ _ _ _ vY (by rfl) G.isi (by rfl) (@zA _ _ _ _ _ (@qv _ 0 _ _ (by rfl')) (@zA _ _ _ _ _ (@uj _ _ (.ty "tuple") (.type "tuple") _ (by rfl) G.tuple (by rfl) rfl (by decide) (by decide)) zC (by rfl)) (by rfl)) (by decide) (by decide) (by rfl) (by rfl)) (@tT _ _ _ _ _ (@ui _ _ _ _ _ _ _ _ vR (@zR _ _ _ _ _ _ _ _ _ zT (by rfl) G.len Y1 (@zA _ _ _ _ _ (@qv _ 0 _ _ (by rfl')) zC (by rfl)) (by decide) (by decide) (by rfl) (by rfl)) (@qv _ 1 _ _ (by rfl')) (yK _)))))),?_⟩;obtain⟨t,I⟩:=g.isi;refine⟨_,rfl,_,"tuple",_,_,rfl,I.ty,I.tup,_,rfl,?_⟩
 cases z:yG H x with
 | none =>
  have e:vh H m x=false:=by unfold vh;rw[z]
  rw[e]at k
  exact zz k
 | some b =>
  have e:vh H m x=decide ((b.length:Int)=m):=by unfold vh;rw[z]
  rw[e]at k;obtain⟨a,rfl,d⟩:=yh z;exact yV ⟨_,rfl,a,_,rfl,.inr (SqT.of d),_,rfl,rfl,by rw[pH];exact k⟩
end
end K38
namespace L2
open PySem PySem.Spec PyProof.Rows Own
section
variable {X:Cx}
theorem Inv.big {pins:List (JI × Obj)}{σ:St}{H:Hp}{s:JO}(I:Inv X pins σ H s):sysModules<s.heap.objs.size:=by
 have h:mainGlobals<s.heap.objs.size:=(I.mod.glob.keeps I.bk).lt;exact Nat.lt_trans (by decide) h
end
end L2
namespace Bn
open PySem L2 Own
structure Good (K:Jl) (D:JI->Prop) (H:Hp) (x:V):Prop where
 any:AnyT K H x
 ne:∀ a,x=.ref a->D a
noncomputable def Flat:V->Prop
 | .ref _=>False
 | .ty _=>False
 | .byt _=>False
 | _=>True
theorem Good.flat {K:Jl}{D:JI->Prop}{H:Hp}:∀ {x:V},Flat x->Good K D H x
 | .non,_=>⟨⟨_,.non,_,rfl⟩,λ_ z=>by cases z⟩
 | .bl b,_=>⟨⟨_,.bl b,_,rfl⟩,λ_ z=>by cases z⟩
 | .int i,_=>⟨⟨_,.int i,_,rfl⟩,λ_ z=>by cases z⟩
 | .str s,_=>⟨⟨_,.str s,_,rfl⟩,λ_ z=>by cases z⟩
 | .flt s,_=>⟨⟨_,.flt s,_,rfl⟩,λ_ z=>by cases z⟩
end Bn
namespace L2
open PySem PySem.Spec PyProof.Rows
section
variable [DecidableEq κ]
theorem RelO.isSome_eq {o:Option V}{u:Option Jo}(r:RelO o u):o.isSome=u.isSome:=by
 cases o with
 | none=>cases u with
  | none=>rfl
  | some _=>exact(show False from r).elim
 | some _=>cases u with
  | none=>exact(show False from r).elim
  | some _=>rfl
theorem RelO.getD {o:Option V}{u:Option Jo}{d:V}{d':Jo}(r:RelO o u)(a:RelV d d'):RelV (o.getD d) (u.getD d'):=by
 cases o with
 | none=>cases u with
  | none=>exact a
  | some _=>exact(show False from r).elim
 | some _=>cases u with
  | none=>exact(show False from r).elim
  | some _=>exact r
end
theorem zbd {P:Yo}{w:YI}{k:Key}{u:Jo}(r:RelV (kV k) u):(yZ P w).is k u=true:=by
 cases k with
 | inl i=>obtain⟨t,e⟩:=(show ∃ t,u=Value.int i t from r);subst e;exact o5 P w i t
 | inr x=>obtain⟨t,e⟩:=(show ∃ t,u=Value.str x t from r);subst e;exact o4 P w x t
theorem rq {P:Yo}{w:YI}:∀ {ks:List Key}{us:List Jo},Vals (ks.map kV) us->ItemsAre (yZ P w) ks us
 | [],_,r=>by rw[List.map_nil]at r;cases r;exact .nil
 | k::ks,_,r=>by
  rw[JR]at r
  cases r with
  | cons h t=>exact .cons (zbd h) (rq t)
section
variable {P:Yo}{w:YI}{H:Hp}{h:YP}{a:JI}
theorem bn {u:HO}(ok:HOk P w H h)(e:Rd H a u):ObjOk P w H h a u:=e.ok ok
theorem zao {ks:List Key}(ok:HOk P w H h)(e:H a=some (.tup (ks.map kV))):(tupleKind (yZ P w)).is h ks a:=by
 obtain⟨_,b,r,o,f,d,n,c⟩:=(show ObjOk P w H h a (.tup (ks.map kV)) from ok a _ e);exact⟨o,b.toArray,n,f,d,c.1,by simpa using rq r⟩
end
section
variable {X:Cx}{pins:List (JI × Obj)}{σ:St}{H:Hp}{s:JO}{a:JI}
theorem uq {h':YP}{t':Nat}{ob:HO}(I:Inv X pins σ H s)(c:Mut (H a))(d:Heap.SameBut a s.heap h')(f:∃ q,h'.get? a=some q)(new:ObjOk X.prog X.w (upd H a ob) h' a ob) :
  Inv X pins σ (upd H a ob) { s with heap:=h',toks:=t' } :=
 I.write (x:=a) (e:=a) c (.inl rfl) (λb q g z=>(d.2 b g).trans z) f new
end
noncomputable def NoSl (i:Expr):Prop:=∀ a b,subscripted i false a b=operate [a,b] (getItem a b)
theorem cB {prog:Yo}{w:YI}{A:YO}{E:Jo->JO->Prop}{s:JO}{env:Env}{value slice:Expr}{pos:Pos}{T id:String}{Q:Jo->JO->Prop}
  (k:typeLookup (.type T) "__getitem__" = pure (some (.builtin id))) (j:NoSl slice)
  (h:wpAny (model prog w) A (eval value env) (λo d=>wpAny (model prog w) A (eval slice env) (λi a=>a.TypeIs o T/\wpAny (model prog w) A (getItem o i) Q E a) E d) E s) :
  wpAny (model prog w) A (eval (.Subscript value slice pos) env) Q E s:=by
 refine Subscript_ (JK h (λo d f=>JK f (λi a b=>?_) λ_ _ x=>x) λ_ _ x=>x);obtain⟨g,b⟩:=b;unfold subscriptTail;refine J0 ?_;rw[getitemInPython_of_ne g.not_modules];refine J0 (W9 g k ?_)
 have fin:wpAny (model prog w) A (subscripted slice false o i) (λr c=>wpAny (model prog w) A (letTemporaryGo value o r >>= λ_=>pure r) Q E c) E a:=by
  rw[j o i];exact wpAny_operating (JK b (λr c e=>J0 (wpAny_letTemporaryGo (J7 e))) λ_ _ x=>x)
 first
  | exact J7 (J0 fin)
  | exact J0 (J7 (J0 fin))
  | exact J0 fin
noncomputable def gI:List (TE × TE)->St->Hp->(List (V × V)->Hp->Prop)->Prop
 | [],_,H,Q=>Q [] H
 | (tk,a)::r,σ,H,Q=>tk σ H λx d=>a σ d λy c=>gI r σ c λps b=>Q ((x,y)::ps) b
noncomputable abbrev VV:List (V × V)->List (Jo × Jo)->Prop:=Paired λp q=>RelV p.1 q.1/\RelV p.2 q.2
noncomputable def PPs (X:Cx)(pos:Pos)(keys:List (Option Expr))(values:List Expr)(a:List (TE × TE)):Prop :=
 ∀ (pins:List (JI × Obj)) (s:JO) (σ:St) (H:Hp) (Q:List (V × V)->Hp->Prop),Inv X pins σ H s->gI a σ H Q ->
  wpAny (model X.prog X.w) X.A (evalPairs (pairTrees keys values X.env pos)) (λd e=>∃ b c,Inv X pins σ c e/\VV b d/\Q b c) X.xe s
theorem cO {X:Cx}{pos:Pos}:PPs X pos [] [] []:=λpins s σ H Q I h=>pairTrees_nil_walk ⟨[],H,I,.nil,h⟩
theorem gy {X:Cx}{pos:Pos}{k v:Expr}{ks:List (Option Expr)}{vs:List Expr}{tk b:TE}{a:List (TE × TE)}(o:PE X k tk)(m:PE X v b)(n:PPs X pos ks vs a) :
  PPs X pos (some k::ks) (v::vs) ((tk,b)::a):=λpins s σ H Q I h =>
 pairTrees_cons_walk (thn (o pins s σ H _ I h) λu d ⟨x,z,r,f,j⟩=>thn (m pins d σ z _ r j) λA c ⟨y,w,q,e,i⟩ =>
  thn (n pins c σ w _ q i) λws B ⟨l,t,p,rel,g⟩=>⟨(x,y)::l,t,p,.cons ⟨f,e⟩ rel,g⟩)
structure M1 (X:Cx) (o:Expr) (m:Str) (apos:Pos) (e:Expr) (cpos:Pos):Prop where
 base:attributeBase o m X.env (eval o X.env)=eval o X.env
 few:((backTo cpos (starEach [e] X.env)).all (λx=>!x.1) && (backToKw cpos (keywordEach [] X.env)).all (λx=>x.1.isSome)
  && decide (([e]:List Expr).length+([]:List Keyword).length+(if ([]:List Keyword).isEmpty then 0 else 1)<30))=true
 line:(apos.endLine == cpos.line)=true
 trees:backTo cpos (starEach [e] X.env)=[(false,eval e X.env)]
structure M2 (X:Cx) (o:Expr) (m:Str) (apos:Pos) (e f:Expr) (cpos:Pos):Prop where
 base:attributeBase o m X.env (eval o X.env)=eval o X.env
 few:((backTo cpos (starEach [e,f] X.env)).all (λx=>!x.1) && (backToKw cpos (keywordEach [] X.env)).all (λx=>x.1.isSome)
  && decide (([e,f]:List Expr).length+([]:List Keyword).length+(if ([]:List Keyword).isEmpty then 0 else 1)<30))=true
 line:(apos.endLine == cpos.line)=true
 trees:backTo cpos (starEach [e,f] X.env)=[(false,eval e X.env),(false,eval f X.env)]
end L2
namespace L2
open PySem PySem.Spec PyProof.Rows Own
noncomputable def FlD (x:V)(d:PyData):Prop:=(∃ i,x=.int i/\d=.int i)\/(∃ z,x=.str z/\d=.str z/\(PyData.str z).canLay0=true)\/(∃ b,x=.bl b/\d=.bool b)\/(x=.non/\d=.none)
noncomputable def DD (H:Hp):Nat->V->PyData->Prop
 | 0,x,d=>FlD x d
 | n+1,x,d=>FlD x d\/∃ a xs ds,x=.ref a/\xs.length=ds.length/\((d=.tuple ds/\H a=some (.tup xs))\/(d=.list ds/\H a=some (.lst xs)))/\∀ (j:Nat) (u:V) (e:PyData),xs[j]?=some u->ds[j]?=some e->DD H n u e
theorem DD.same {H H':Hp}(s:Same H H'):∀ {n:Nat}{x:V}{d:PyData},DD H n x d->DD H' n x d
 | 0,_,_,h=>h
 | n+1,_,_,h=>by
  rcases h with h|⟨a,xs,ds,f,e2,c,b⟩
  ·exact .inl h
  ·refine .inr ⟨a,xs,ds,f,e2,?_,λj u e p q=>DD.same s (b j u e p q)⟩
   rcases c with ⟨y,z⟩|⟨y,z⟩
   ·exact .inl ⟨y,s _ _ z⟩
   ·exact .inr ⟨y,s _ _ z⟩
theorem DD.fl {H:Hp}{n:Nat}{x:V}{d:PyData}(h:FlD x d):DD H n x d:=by
 cases n
 ·exact h
 ·exact .inl h
theorem DD.up {H:Hp}:∀ {n m:Nat}{x:V}{d:PyData},n<=m->DD H n x d->DD H m x d
 | 0,m,_,_,_,h=>DD.fl h
 | n+1,0,_,_,l,_=>by lia
 | n+1,m+1,_,_,l,h=>by
  rcases h with h|⟨a,xs,ds,f,e2,c,b⟩
  ·exact .inl h
  ·exact .inr ⟨a,xs,ds,f,e2,c,λj u e p q=>DD.up (by simp_all) (b j u e p q)⟩
theorem DD.i {H:Hp}{n:Nat}(i:Int):DD H n (.int i) (.int i):=DD.fl (.inl ⟨i,rfl,rfl⟩)
theorem DD.tup {H:Hp}{n:Nat}{a:JI}{xs:List V}{ds:List PyData}(h:H a=some (.tup xs))(l:xs.length=ds.length)(f:∀ (j:Nat) (u:V) (e:PyData),xs[j]?=some u->ds[j]?=some e->DD H n u e):DD H (n+1) (.ref a) (.tuple ds):=.inr ⟨a,xs,ds,rfl,l,.inl ⟨rfl,h⟩,f⟩
theorem zax {H:Hp}{n:Nat}{α:Type}{f:α->V}{g:α->PyData}{l:List α}(h:∀ x∈l,DD H n (f x) (g x)):(l.map f).length=(l.map g).length/\∀ (j:Nat) (u:V) (e:PyData),(l.map f)[j]?=some u->(l.map g)[j]?=some e->DD H n u e:=by
 refine⟨by rw[Jc,Jc],λj u e p q=>?_⟩;rw[JV]at p q
 cases z:l[j]? with
 | none=>rw[z]at p;cases p
 | some x =>
  rw[z]at p q;obtain rfl:=Jf p;obtain rfl:=Jf q;exact h x (JF z)
theorem bV {H:Hp}{n:Nat}{a:JI}{xs:List Int}(h:H a=some (.tup (xs.map V.int))):DD H (n+1) (.ref a) (.tuple (xs.map PyData.int)) :=
 let ⟨p,q⟩:=zax (H:=H) (n:=n) (f:=V.int) (g:=PyData.int) (l:=xs) λx _=>DD.i x
 DD.tup h p q
theorem pT:∀ {ds:List PyData}{n:Nat},(∀ e∈ds,e.canLay0=true/\e.depth<=n)->PyData.canLayAll0 ds=true/\PyData.depthAll ds<=n
 | [],_,_=>⟨rfl,Jz _⟩
 | d::ds,n,h=>by
  obtain⟨a1,a2⟩:=h d JH;obtain⟨b,c⟩:=pT (ds:=ds) λe a=>h e (JD _ a);refine⟨?_,?_⟩
  ·show (d.canLay0 && PyData.canLayAll0 ds)=true
   rw[a1,b];rfl
  ·show max d.depth (PyData.depthAll ds)<=n
   lia
theorem FlD.ok {x:V}{d:PyData}(h:FlD x d):d.canLay0=true/\d.depth<=0:=by
 rcases h with ⟨i,_,rfl⟩|⟨z,_,rfl,e⟩|⟨b,_,rfl⟩|⟨_,rfl⟩
 ·exact⟨rfl,Jd _⟩
 ·exact⟨e,Jd _⟩
 ·exact⟨rfl,Jd _⟩
 ·exact⟨rfl,Jd _⟩
theorem DD.ok {H:Hp}:∀ {n:Nat}{x:V}{d:PyData},DD H n x d->d.canLay0=true/\d.depth<=n
 | 0,_,_,h=>FlD.ok h
 | n+1,_,_,h=>by
  rcases h with h|⟨a,xs,ds,k,e2,g,f⟩
  ·have:=FlD.ok h
   exact⟨this.1,by simp_all⟩
  ·obtain⟨p,q⟩:=pT (n:=n) (ds:=ds) λe c=>by
    obtain⟨j,b,i⟩:=List.getElem_of_mem c;exact(f j _ e (J8 (by simp_all)) (by rw[J8 b,i])).ok
   rcases g with ⟨rfl,_⟩|⟨rfl,_⟩
   ·exact⟨p,Nat.succ_le_succ q⟩
   ·exact⟨p,Nat.succ_le_succ q⟩
section
variable {X:Cx}
theorem FlD.reads {h:YP}{x:V}{d:PyData}{v:Jo}(f:FlD x d)(r:RelV x v):∃ as,Reads h v d as:=by
 rcases f with ⟨i,rfl,rfl⟩|⟨z,rfl,rfl,e⟩|⟨b,rfl,rfl⟩|⟨rfl,rfl⟩
 ·obtain⟨t,rfl⟩:=r
  exact⟨_,.int i t⟩
 ·obtain⟨t,rfl⟩:=r
  exact⟨_,.str z t⟩
 ·cases r
  exact⟨_,.bool b⟩
 ·cases r
  exact⟨_,.none⟩
theorem DD.reads {pins:List (JI × Obj)}{σ:St}{H:Hp}{s:JO}(I:Inv X pins σ H s):∀ (n:Nat) (x:V) (d:PyData) (v:Jo),DD H n x d->RelV x v->∃ as,Reads s.heap v d as
 | 0,x,d,v,h,r=>FlD.reads h r
 | n+1,x,d,v,h,r=>by
  rcases h with h|⟨a,xs,ds,rfl,z,q,l⟩
  ·exact FlD.reads h r
  ·cases r
   have key:∀ its:List Jo,Vals xs its->∃ as,ReadsAll s.heap its ds as:=λits g=>by
    have gl:=g.length
    exact rS (h:=s.heap) its ds (by lia) λj y A k e2=>by
     have i:j<xs.length:=by have:=(J9.mp k).1;simp_all
     obtain⟨w,u,t⟩:=g.get (J8 i);obtain rfl:=Jf (k.symm.trans u);exact DD.reads I n _ _ _ (l j _ _ (J8 i) e2) t
   rcases q with ⟨rfl,c⟩|⟨rfl,c⟩
   ·obtain⟨its,g,⟨o,e,co,m,f⟩,_⟩:=I.tuple (SqT.of c)
    obtain⟨as,b⟩:=key its g;exact⟨as,.tuple e co f (by simpa using b)⟩
   ·obtain⟨its,g,p,_⟩:=I.list (SqL.of c)
    obtain⟨as,b⟩:=key its g;obtain⟨o,e,co,m,f⟩:=p.isList;exact⟨_,.list e co f (by simpa using b)⟩
end
noncomputable abbrev KI:=Int ⊕ List Int
noncomputable abbrev KN:=List KI
section
variable (prog:Yo)(w:YI)
noncomputable def NIt (h:YP):KI->Jo->Prop
 | .inl i,v=>∃ t,v=.int i t
 | .inr xs,v=>∃ b,v=.ref b/\IsTupleKey (yZ prog w) h (xs.map Sum.inl) b
noncomputable def NIts (h:YP):KN->List Jo->Prop
 | [],vs=>vs=[]
 | k::ks,vs=>∃ v r,vs=v::r/\NIt prog w h k v/\NIts h ks r
noncomputable def NIs (h:YP)(ks:KN)(a:JI):Prop:=∃ o items n,h.get? a=some o/\o.cls=.type "tuple"/\o.data=.seq items n/\NIts prog w h ks items.toList
noncomputable def nh1:KI->Int
 | .inl i=>hashInt i
 | .inr xs=>tupleKeyHash (yZ prog w) (xs.map Sum.inl)
noncomputable def nd1:KI->Nat
 | .inl _=>1
 | .inr xs=>xs.length+1
noncomputable def nds (ks:KN):Nat:=(ks.map nd1).sum
end
variable {prog:Yo}{w:YI}{A:YO}{E:Jo->JO->Prop}
theorem bK {a b:List Int}(h:a.map (Sum.inl:Int->Key)=b.map Sum.inl):a=b :=
 List.map_inj_right (λx y e=>Sum.inl.inj e) |>.mp h
theorem NIt.inj {h:YP}{x y:KI}{v:Jo}(a:NIt prog w h x v)(b:NIt prog w h y v):x=y:=by
 cases x with
 | inl i =>
  obtain⟨t,rfl⟩:=a
  cases y with
  | inl j=>obtain⟨u,e⟩:=b;cases e;rfl
  | inr f=>obtain⟨b,e,_⟩:=b;cases e
 | inr l =>
  obtain⟨c,rfl,k⟩:=a
  cases y with
  | inl j=>obtain⟨u,e⟩:=b;cases e
  | inr f =>
   obtain⟨d,e,g⟩:=b;cases e;rw[bK (k.inj g)]
theorem NIts.inj {h:YP}:∀ {x y:KN}{vs:List Jo},NIts prog w h x vs->NIts prog w h y vs->x=y
 | [],[],_,_,_=>rfl
 | [],_::_,_,a,b=>by obtain⟨v,r,e,_⟩:=b;rw[show _=[] from a]at e;cases e
 | _::_,[],_,a,b=>by obtain⟨v,r,e,_⟩:=a;rw[show _=[] from b]at e;cases e
 | x::j,y::i,_,a,b=>by
  obtain⟨v,r,rfl,g,f⟩:=a;obtain⟨k,l,e,d,c⟩:=b;cases e;rw[g.inj d,NIts.inj f c]
theorem NIs.inj {h:YP}{x y:KN}{a:JI}(p:NIs prog w h x a)(q:NIs prog w h y a):x=y:=by
 obtain⟨o,j,n,g,_,f,e⟩:=p;obtain⟨k,d,l,c,_,b,i⟩:=q;rw[g]at c;cases c;rw[f]at b;cases b;exact e.inj i
theorem NIt.keeps {h h':YP}{d:JI}{o:Obj}{es ep}(hd:h.get? d=some o)(c:o.data=.dict es ep)(s:Heap.SameBut d h h'){k:KI}{v:Jo}(a:NIt prog w h k v):NIt prog w h' k v:=by
 cases k with
 | inl i=>exact a
 | inr g =>
  obtain⟨b,e,f⟩:=a;exact⟨b,e,f.keeps hd c s⟩
theorem NIts.keeps {h h':YP}{d:JI}{o:Obj}{es ep}(hd:h.get? d=some o)(b:o.data=.dict es ep)(s:Heap.SameBut d h h'):∀ {ks:KN}{vs:List Jo},NIts prog w h ks vs->NIts prog w h' ks vs
 | [],_,a=>a
 | k::ks,_,a=>by
  obtain⟨v,r,e,a1,a2⟩:=a;exact⟨v,r,e,a1.keeps hd b s,NIts.keeps hd b s a2⟩
theorem NIs.keeps {h h':YP}{ks:KN}{a d:JI}{o:Obj}{es ep}(p:NIs prog w h ks a)(hd:h.get? d=some o)(f:o.data=.dict es ep)(s:Heap.SameBut d h h'):NIs prog w h' ks a:=by
 obtain⟨g,e,n,c,j,b,i⟩:=p;refine⟨g,e,n,?_,j,b,i.keeps hd f s⟩;rw[s.2 a (by rintro rfl;rw[hd]at c;cases c;rw[f]at b;cases b)];exact c
theorem sK:∀ (ks:KN) (vs:List Jo) (c:Array Int) (s:JO) (Q:Array Int->JO->Prop),A.units<cLine->NIts prog w s.heap ks vs->Q (c++(ks.map (nh1 prog w)).toArray) { s with toks:=s.toks+nds ks } ->
  wpAny (model prog w) A (forIn vs c λx c=>(do let r <- pyHash x;pure (ForInStep.yield (c.push r)))) Q E s
 | [],vs,c,s,Q,d,a,q=>by
  rw[show vs=[] from a,Zc];refine J7 ?_
  simpa [nds] using q
 | k::ks,vs,c,s,Q,d,a,q=>by
  obtain⟨v,r,rfl,f,j⟩:=a;rw[Z3]
  have h:∀ (m:Nat),m=nd1 k->({ s with toks:=s.toks+m+nds ks }:JO)={ s with toks:=s.toks+nds (k::ks) }:=λm e=>by
   subst e;unfold nds;rw[JR,List.sum_cons,Nat.add_assoc]
  have e2:c.push (nh1 prog w k)++(ks.map (nh1 prog w)).toArray=c++((k::ks).map (nh1 prog w)).toArray:=by simp
  have go:∀ (m:Nat),m=nd1 k->wpAny (model prog w) A (forIn r (c.push (nh1 prog w k)) λx c=>(do let r <- pyHash x;pure (ForInStep.yield (c.push r)))) Q E { s with toks:=s.toks+m }:=λm e =>
   sK ks r (c.push (nh1 prog w k)) { s with toks:=s.toks+m } Q d j (by rw[e2];have:=h m e;simp only at this ⊢;rw[this];exact q)
  cases k with
  | inl i =>
   obtain⟨t,rfl⟩:=f
   exact J0 (J0 (wpAny_pyHash_int (J7 (go 1 rfl))))
  | inr l =>
   obtain⟨b,rfl,g⟩:=f;exact J0 (J0 (wpAny_pyHash_tuple d g (J7 (go _ (by rw[Jc];rfl)))))
theorem iX {s:JO}{a:JI}{ks:KN}{Q:Int->JO->Prop}(c:A.units+1<cLine)(d:NIs prog w s.heap ks a)(q:Q (reduceHash (Builtin.Tuple.tupleHashOf (ks.map (nh1 prog w)))) { s with toks:=s.toks+(nds ks+1) }):wpAny (model prog w) A (pyHash (.ref a)) Q E s:=by
 obtain⟨o,g,n,b,f,e,hi⟩:=d;show wpAny (model prog w) A (pyHashByItsType (.ref a)) Q E s;refine W.pyHash_slot (T:="tuple") (id:="tuple.__hash__") (B:=Builtin.«tuple.__hash__») ⟨o,b,f⟩ F.slot_tuple_hash F.entry_tuple_hash (F.args_tuple_hash_1 _) (by decide) (.inr (by lia)) ?_;unfold Builtin.«tuple.__hash__»;refine J0 ?_;show wpAny _ _ (pure _) _ _ _;refine J7 (J0 (wpAny_tupleItemsOf b e ?_));rw[<- Array.forIn_toList];refine J0 (sK ks _ _ s _ c hi ?_);simp only[Array.empty_append];unfold retInt;exact J0 (wpAny_mkInt (J7 ⟨_,_,rfl,q⟩))
theorem rU {i:Int}{t:Tok}{n:Nat}{s:JO}{Q:Bool->JO->Prop}(q:Q true s):wpAny (model prog w) A (eqIsQuiet n (.int i t)) Q E s:=by
 cases n<;>exact J7 q
theorem uN {n:Nat}{s:JO}:∀ (vs:List Jo) (Q:Option Bool × Unit->JO->Prop),(∀ v∈vs,∀ R:Bool->JO->Prop,R true s->wpAny (model prog w) A (eqIsQuiet n v) R E s)->Q (none,()) s ->
  wpAny (model prog w) A (forIn vs ((none,()):Option Bool × Unit) λy _=>(do
   let b <- eqIsQuiet n y
   if (!b)=true then pure (ForInStep.done (some false,())) else pure (ForInStep.yield (none,())))) Q E s
 | [],Q,_,q=>by rw[Zc];exact J7 q
 | v::vs,Q,h,q=>by
  rw[Z3];exact J0 (J0 (h v JH _ (J7 (uN vs Q (λu a=>h u (JD _ a)) q))))
theorem rT {s:JO}{a:JI}{o:Obj}{its:Array Jo}{m n:Nat}{Q:Bool->JO->Prop}(c:s.heap.get? a=some o) (d:o.cls=.type "tuple") (hd:o.data=.seq its m)
  (h:∀ v∈its.toList,∀ R:Bool->JO->Prop,R true s->wpAny (model prog w) A (eqIsQuiet n v) R E s) (q:Q true s):wpAny (model prog w) A (eqIsQuiet (n+1) (.ref a)) Q E s:=by
 have ty:s.TypeIs (.ref a) "tuple":=⟨o,c,d⟩;unfold eqIsQuiet;refine J0 (W9 (T:="tuple") ty F.slot_tuple_eq.lookup (J0 (Zv (T:="tuple") (b:=true) ty rfl ?_)));show wpAny _ _ (do let _ <- seqItems? _;_) _ _ _;refine J0 (Ye c hd (J0 ?_));rw[ZU,<- Array.forIn_toList];exact uN _ _ h (J7 q)
theorem NIts.mem {h:YP}:∀ {ks:KN}{vs:List Jo},NIts prog w h ks vs->∀ v∈vs,∃ k,NIt prog w h k v
 | [],_,a,v,b=>by rw[show _=[] from a]at b;cases b
 | k::ks,_,a,v,b=>by
  obtain⟨x,r,rfl,a1,a2⟩:=a;rcases Jq.mp b with rfl|z
  ·exact⟨k,a1⟩
  ·exact NIts.mem a2 v z
theorem oo {i:Int}{v:Jo}(h:(yZ prog w).is (.inl i) v=true):∃ t,v=.int i t:=by
 rw[mw]at h;rcases yM h with ⟨j,t,e,rfl⟩|⟨x,t,e,_⟩
 ·cases e;exact⟨t,rfl⟩
 ·cases e
theorem lJ {ks:List Key}{vs:List Jo}(h:ItemsAre (yZ prog w) ks vs):∀ xs:List Int,ks=xs.map Sum.inl->∀ v∈vs,∃ i t,v=.int i t:=by
 induction h with
 | nil=>intro xs _ v a;cases a
 | cons b _ ih =>
  intro xs e v a
  cases xs with
  | nil=>cases e
  | cons x xs =>
   rw[JR]at e;injection e with c e2;subst c;rcases Jq.mp a with rfl|z
   ·obtain⟨t,e⟩:=oo b
    exact⟨x,t,e⟩
   ·exact ih xs e2 v z
theorem items_int {ks:List Int}{vs:List Jo}(h:ItemsAre (yZ prog w) (ks.map Sum.inl) vs):∀ v∈vs,∃ i t,v=.int i t:=lJ h ks rfl
theorem tN {s:JO}{a:JI}{ks:KN}{Q:Bool->JO->Prop}(c:NIs prog w s.heap ks a)(q:Q true s):wpAny (model prog w) A (eqIsQuiet 8 (.ref a)) Q E s:=by
 obtain⟨o,x,n,l,p,m,hi⟩:=c;refine rT l p m (λv h R r=>?_) q;obtain⟨k,c⟩:=hi.mem v h
 cases k with
 | inl i=>obtain⟨t,rfl⟩:=c;exact rU r
 | inr z =>
  obtain⟨b,rfl,B,y,C,d,g,f,e⟩:=c;refine rT d g f (λu j R r=>?_) r;obtain⟨i,t,rfl⟩:=items_int e u j;exact rU r
noncomputable def dI:KI->PyData
 | .inl i=>.int i
 | .inr xs=>.tuple (xs.map PyData.int)
noncomputable def dN (ks:KN):PyData:=.tuple (ks.map dI)
theorem mZ {h:YP}{ks:List Key}{vs:List Jo}(a:ItemsAre (yZ prog w) ks vs):∀ xs:List Int,ks=xs.map Sum.inl->∃ as,ReadsAll h vs (xs.map PyData.int) as:=by
 induction a with
 | nil =>
  intro xs e
  cases xs with
  | nil=>exact⟨_,.nil⟩
  | cons x xs=>cases e
 | cons b _ ih =>
  intro xs e
  cases xs with
  | nil=>cases e
  | cons x xs =>
   rw[JR]at e;injection e with c e2;subst c;obtain⟨t,rfl⟩:=oo b;obtain⟨as,r⟩:=ih xs e2;exact⟨_,.cons (.int x t) r⟩
theorem NIt.reads {h:YP}{k:KI}{v:Jo}(a:NIt prog w h k v):∃ as,Reads h v (dI k) as:=by
 cases k with
 | inl i=>obtain⟨t,rfl⟩:=a;exact⟨_,.int i t⟩
 | inr c =>
  obtain⟨b,rfl,o,j,n,g,f,e,d⟩:=a;obtain⟨as,r⟩:=mZ (h:=h) d c rfl;exact⟨_,.tuple g f e r⟩
theorem NIts.reads {h:YP}:∀ {ks:KN}{vs:List Jo},NIts prog w h ks vs->∃ as,ReadsAll h vs (ks.map dI) as
 | [],_,a=>by rw[show _=[] from a];exact⟨_,.nil⟩
 | k::ks,_,a=>by
  obtain⟨v,r,rfl,a1,a2⟩:=a;obtain⟨as,p⟩:=a1.reads;obtain⟨bs,q⟩:=NIts.reads a2;exact⟨_,.cons p q⟩
theorem NIs.reads {h:YP}{ks:KN}{a:JI}(p:NIs prog w h ks a):∃ as,Reads h (.ref a) (dN ks) as:=by
 obtain⟨o,f,n,e,d,c,b⟩:=p;obtain⟨as,r⟩:=b.reads;exact⟨_,.tuple e d c r⟩
theorem nQ:∀ (x y:List Int),PyData.eqvAll (x.map PyData.int) (y.map PyData.int)=decide (x=y)
 | [],[]=>rfl
 | [],_::_=>rfl
 | _::_,[]=>rfl
 | a::x,b::y=>by
  show (PyData.eqv (.int a) (.int b) && PyData.eqvAll (x.map PyData.int) (y.map PyData.int))=_;rw[nQ x y,show PyData.eqv (.int a) (.int b)=(a == b) from rfl,Yd];simp
theorem zav (x y:KI):PyData.eqv (dI x) (dI y)=decide (x=y):=by
 cases x<;>cases y
 ·rw[show PyData.eqv (dI (.inl _)) (dI (.inl _))=(_ == _) from rfl,Yd];simp
 ·rfl
 ·rfl
 ·show PyData.eqvAll _ _=_
  rw[nQ,Yd];simp
theorem kg:∀ (x y:KN),PyData.eqvAll (x.map dI) (y.map dI)=decide (x=y)
 | [],[]=>rfl
 | [],_::_=>rfl
 | _::_,[]=>rfl
 | a::x,b::y=>by
  show (PyData.eqv (dI a) (dI b) && PyData.eqvAll (x.map dI) (y.map dI))=_;rw[kg x y,zav,Yd];simp
theorem nG:∀ x:List Int,PyData.canLayAll0 (x.map PyData.int)=true/\PyData.depthAll (x.map PyData.int)<=0
 | []=>⟨rfl,Jd _⟩
 | a::x=>by
  obtain⟨p,q⟩:=nG x;refine⟨?_,?_⟩
  ·show (PyData.canLay0 (.int a) && PyData.canLayAll0 (x.map PyData.int))=true
   rw[p];rfl
  ·show max 0 (PyData.depthAll (x.map PyData.int))<=0
   simp_all
theorem lF (ks:KN):(dN ks).canLay0=true/\(dN ks).depth<=2:=by
 have key:∀ e∈ks.map dI,e.canLay0=true/\e.depth<=1:=λe b=>by
  obtain⟨k,_,rfl⟩:=Jw.mp b
  cases k with
  | inl i=>exact⟨rfl,by show 0<=1;lia⟩
  | inr a =>
   obtain⟨p,q⟩:=nG a;refine⟨p,?_⟩;show PyData.depthAll (a.map PyData.int)+1<=1
   simp_all
 obtain⟨p,q⟩:=pT key;refine⟨p,?_⟩;show PyData.depthAll (ks.map dI)+1<=2
 simp_all
theorem bP {s:JO}{x y:KN}{a b:JI}{Q:Bool->JO->Prop}(k:A.units+2<cLine)(h:NIs prog w s.heap x a)(g:NIs prog w s.heap y b)(q:Q (decide (x=y)) s):wpAny (model prog w) A (eqBool (.ref a) (.ref b)) Q E s:=by
 obtain⟨as,d⟩:=h.reads;obtain⟨bs,c⟩:=g.reads;obtain⟨f,j⟩:=lF x;obtain⟨e,i⟩:=lF y;refine PySem.SeqAt.eqBoolOverData prog w A E s _ _ _ _ as bs Q d c f e (by lia) ?_;rw[show PyData.eqv (dN x) (dN y)=PyData.eqvAll (x.map dI) (y.map dI) from rfl,kg];exact q
variable (prog w)
noncomputable def yI:HeapKind prog w KN where
 is:=NIs prog w
 hash:=λa=>reduceHash (Builtin.Tuple.tupleHashOf (a.map (nh1 prog w)))
 draws:=λa=>nds a+1
 room:=λA=>A.units+2<cLine
 inj:=λc b=>NIs.inj c b
 keeps:=λx g i f=>NIs.keeps x g i f
 pyHash:=λe d h=>iX (by lia) d h
 eqBool:=λe c b h=>bP e c b h
 quiet:=λd h=>tN d h
end L2
namespace Own
open PySem PySem.Spec PyProof.Rows
theorem pC:typeLookup (.type "list") "keys" = pure none:=by
 exact(by rw[typeLookup_type,builtinLookup_eq_fast];kernel_rfl)
theorem pD:typeLookup (.type "list") "__getattr__" = pure none:=by
 exact(by rw[typeLookup_type,builtinLookup_eq_fast];kernel_rfl)
section
variable {prog:Yo}{w:YI}{A:YO}{E:Jo->JO->Prop}{s:JO}{l:JI}{its:Array Jo}{n:Nat}
theorem lH {u:Tok}{Q:Fin->JO->Prop}(c:s.heap.get? l=some { cls:=.type "list",data:=.seq its n }) (f:A.handled=none)
  (h:∀ b a e,Heap.NewAttrErr s.heap b e (.ref l) "keys"->E (.ref e) { s with heap:=b,toks:=a }) :
  wpAny (model prog w) A (Builtin.«object.__getattribute__» ⟨[.ref l,.str "keys" u],[]⟩) Q E s:=by
 obtain⟨d,g,i,a,os⟩:=s;have ty:(⟨d,g,i,a,os⟩:JO).TypeIs (.ref l) "list":=⟨_,c,rfl⟩;have j:=pC;unfold Builtin.«object.__getattribute__»
 repeat any_goals (first|assumption|wp_step)
 repeat any_goals (first|assumption|wp_step)
 exact wpAny_raiseAttrError f h (attrMsg_fits (by decide +kernel) (by size_fits))
theorem iN {u:Tok}{R:Result->JO->Prop}(a:s.heap.get? l=some { cls:=.type "list",data:=.seq its n }) (d:A.handled=none)
  (h:∀ b c e,Heap.NewAttrErr s.heap b e (.ref l) "keys"->R (.error (.ref e)) { s with heap:=b,toks:=c }) :
  codeAny (model prog w) A (.call (.builtin "list.__getattribute__") ⟨[.ref l,.str "keys" u],[]⟩) R s :=
 codeAny_call_builtin F.slot_list_getattribute.plain F.entry_list_ga (F.slot_list_getattribute.check _ _ _ _ _ _ _ _ (show s.TypeIs (.ref l) "list" from⟨_,a,rfl⟩) (F.args_list_getattribute_2 _ _) (lH (A:=A.in1) a d h))
theorem iK {Q:Option Jo->JO->Prop}(f:s.heap.get? l=some { cls:=.type "list",data:=.seq its n }) (m:A.handled=none)
  (h:∀ a d,(∀ b o,s.heap.get? b=some o->a.get? b=some o)->Q none { s with heap:=a,toks:=d }) :
  wpAny (model prog w) A (getAttr? (.ref l) "keys") Q E s:=by
 obtain⟨j,g,i,d,os⟩:=s;have ty:(⟨j,g,i,d,os⟩:JO).TypeIs (.ref l) "list":=⟨_,f,rfl⟩;have x:=sub_AttributeError;have t:=F.slot_list_getattribute.lookup;have v:=F.slot_list_getattribute.bind (.ref l);have u:=pD;unfold getAttr? getAttrBy? getAttrBy
 repeat any_goals (first|assumption|wp_step)
 refine iN f m λa c e ne=>?_;obtain⟨r,p,k⟩:=ne.there;have q:({ heap:=a,gens:=g,drawn:=i,toks:=c,os:=os }:JO).TypeIs (.ref e) "AttributeError":=⟨_,k,rfl⟩;dsimp only;unfold getattributeRaised
 repeat any_goals (first|assumption|wp_step)
 exact h a c ne.keeps
end
theorem wO:entryFor table "dict.update.loop" = some Builtin.«dict.update.loop»:=entryFor_of_fast (by kernel_rfl)
theorem yx:plainId "dict.update.loop" = true:=by decide +kernel
end Own
namespace L2
open PySem PySem.Spec PyProof.Rows Own
structure MgD (mg:Str->Option Jo):Prop where
 dict:mg "dict" = none
end L2
namespace Ts
open PySem PyProof.Rows
structure Cmp (prog:Yo) (w:YI) (A:YO) (s:JO) (κ:SortKind) (P:Keyed->Prop) (rk:Keyed->Int):Prop where
 ask:∀ (x y:Keyed),P x->P y->∀ {Q:Bool->JO->Prop}{E:Jo->JO->Prop},Q (decide (rk x<rk y)) s->wpAny (model prog w) A (keyLt' κ x.1 y.1) Q E s
noncomputable def R (rk:Keyed->Int)(xs:Array Keyed)(i:Nat):Int:=match xs[i]? with
 | some p=>rk p
 | none=>0
theorem R_congr {rk:Keyed->Int}{xs ys:Array Keyed}{i j:Nat}(h:xs[i]?=ys[j]?):R rk xs i=R rk ys j:=by unfold R;rw[h]
noncomputable def Up (rk:Keyed->Int)(xs:Array Keyed)(lo n:Nat):Prop:=∀ i j,lo<=i->i<=j->j<lo+n->R rk xs i<=R rk xs j
noncomputable def Dn (rk:Keyed->Int)(xs:Array Keyed)(lo n:Nat):Prop:=∀ i j,lo<=i->i<=j->j<lo+n->R rk xs j<=R rk xs i
structure Bs (κ:SortKind) (P:Keyed->Prop) (a₀:Array Keyed) (st:SortSt):Prop where
 kind:kindOf st=κ
 fail:failedOf st=none
 perm:(arrOf st).Perm a₀
 all:∀ p∈a₀.toList,P p
theorem Bs.size {κ:SortKind}{P:Keyed->Prop}{a₀:Array Keyed}{st:SortSt}(h:Bs κ P a₀ st):(arrOf st).size=a₀.size:=h.perm.size_eq
theorem Bs.at {κ:SortKind}{P:Keyed->Prop}{a₀:Array Keyed}{st:SortSt}(h:Bs κ P a₀ st){i:Nat}(hi:i<a₀.size)(rk:Keyed->Int):∃ p,(arrOf st)[i]?=some p/\P p/\R rk (arrOf st) i=rk p:=by
 have e:(arrOf st)[i]?=some ((arrOf st)[i]'(by rw[h.size];exact hi)):=getElem?_pos (arrOf st) i (by rw[h.size];exact hi);refine⟨_,e,h.all _ ((Array.perm_iff_toList_perm.mp h.perm).mem_iff.mp (by simp)),?_⟩;unfold R;rw[e]
theorem Bs.arr {κ:SortKind}{P:Keyed->Prop}{a₀:Array Keyed}{st:SortSt}(h:Bs κ P a₀ st){xs:Array Keyed}(a:xs.Perm (arrOf st)):Bs κ P a₀ (setArr st xs):=⟨h.kind,h.fail,a.trans h.perm,h.all⟩
section
variable {prog:Yo}{w:YI}{A:YO}{E:Jo->JO->Prop}{s:JO}{κ:SortKind}{P:Keyed->Prop}{rk:Keyed->Int}{a₀:Array Keyed}
theorem o9 (C:Cmp prog w A s κ P rk){st:SortSt}{x y:Keyed}{Q:Option Bool->SortSt->Prop}(b:kindOf st=κ)(a:P x)(py:P y)(h:Q (some (decide (rk x<rk y))) st):wpS (model prog w) A E s (lt' x y) Q st:=by
 rw[lt'_eq];refine Ju (Wd (Ju (wpS_lift (ZX ?_))));rw[b];exact C.ask x y a py ⟨rfl,Jx h⟩
theorem wU {r:String}{st:SortSt}{Q:Unit->SortSt->Prop}(h:Q () st):wpS (model prog w) A E s (liftM (rule r):StateT SortSt Sem Unit) Q st:=wpS_lift (YX ⟨rfl,h⟩)
theorem zx {st:SortSt}{arr:Array Keyed}{i:Nat}{p:Keyed}{Q:Keyed->SortSt->Prop}(e:arr[i]?=some p)(h:Q p st):wpS (model prog w) A E s (elem' arr i) Q st:=by
 rw[elem'_eq,e];exact Jx h
theorem nA (C:Cmp prog w A s κ P rk){st:SortSt}{i j:Nat}{Q:Option Bool->SortSt->Prop}(a:Bs κ P a₀ st)(hi:i<a₀.size)(e:j<a₀.size)(h:Q (some (decide (R rk (arrOf st) i<R rk (arrOf st) j))) st):wpS (model prog w) A E s (ltAt' i j) Q st:=by
 obtain⟨p,f,pp,c⟩:=a.at hi rk;obtain⟨q,e2,d,b⟩:=a.at e rk;rw[c,b]at h;rw[ltAt'_eq];exact Ju (Wd (Ju (zx f (Ju (zx e2 (o9 C a.kind pp d h))))))
structure Keep (κ:SortKind) (P:Keyed->Prop) (rk:Keyed->Int) (a₀:Array Keyed) (lo:Nat) (st st':SortSt):Prop where
 b:Bs κ P a₀ st'
 pend:pendingOf st'=pendingOf st
 low:∀ k,k<lo->R rk (arrOf st') k=R rk (arrOf st) k
theorem Keep.refl {lo:Nat}{st:SortSt}(h:Bs κ P a₀ st):Keep κ P rk a₀ lo st st:=⟨h,rfl,λ_ _=>rfl⟩
theorem Keep.trans {lo:Nat}{st a st2:SortSt}(h:Keep κ P rk a₀ lo st a)(g:Keep κ P rk a₀ lo a st2):Keep κ P rk a₀ lo st st2:=⟨g.b,g.pend.trans h.pend,λk b=>(g.low k b).trans (h.low k b)⟩
theorem R_mirror {xs:Array Keyed}{i j:Nat}(a:j<=xs.size)(k:Nat):R rk (mirror xs i j ((j-i) / 2)) k=if i<=k/\k<j then R rk xs (i+j-1-k) else R rk xs k:=by
 have e:=getElem?_mirror_all (xs:=xs) (i:=i) a k;split at e
 ·next h=>rw[Jm h];exact R_congr e
 ·next h=>rw[Je h];exact R_congr e
theorem qk {lo i j:Nat}{st:SortSt}{Q:Unit->SortSt->Prop}(a:Bs κ P a₀ st)(c:lo<=i)(b:j<=a₀.size)(h:∀ st',Keep κ P rk a₀ lo st st'->(∀ k,R rk (arrOf st') k=if i<=k/\k<j then R rk (arrOf st) (i+j-1-k) else R rk (arrOf st) k)->Q () st'):wpS (model prog w) A E s (reverseSlice' i j) Q st:=by
 rw[reverseSlice'_eq];refine Wf (h _ ⟨a.arr (mirror_perm _ _ _ _),rfl,λk d=>?_⟩ λk=>?_)
 ·show R rk (mirror (arrOf st) i j ((j-i) / 2)) k=_
  rw[R_mirror (by rw[a.size];exact b),Je (by lia)]
 ·exact R_mirror (by rw[a.size];exact b) k
theorem dY (C:Cmp prog w A s κ P rk){st:SortSt}{lo j:Nat}{Q:Option Nat->SortSt->Prop}(B:Bs κ P a₀ st)(h1:1<=j)(hn:lo+j<=a₀.size)(h:∀ st' m,Keep κ P rk a₀ lo st st'->1<=m->m<=j->Up rk (arrOf st') lo m->Q (some m) st'):wpS (model prog w) A E s (countRun' lo j) Q st:=by
 have asc:∀ (st:SortSt) (y:Nat) {Z:Option (Option Nat) × Nat->SortSt->Prop},Bs κ P a₀ st->1<=y->Up rk (arrOf st) lo y ->
   (∀ n,y<=n->n<=max y j->Up rk (arrOf st) lo n->(n<j->R rk (arrOf st) (lo+n)<R rk (arrOf st) (lo+n-1))->Z (none,n) st)->
   ∀ f:Nat->Option (Option Nat) × Nat->StateT SortSt Sem (ForInStep (Option (Option Nat) × Nat)),(∀ i n,f i (none,n)=(do
    let some v <- ltAt' (lo+n) (lo+n-1)|pure (.done (some none,n))
    if v then pure (.done (none,n)) else pure (.yield (none,n+1))))->wpS (model prog w) A E s (forIn [y:j] (none,y) f) Z st:=by
  intro st y Z B h0 F G f hf;refine Yn (I:=λi c st'=>st'=st/\c=(none,i)/\y<=i/\Up rk (arrOf st) lo i) ?_ ?_ ⟨rfl,rfl,Jd _,F⟩
  ·rintro i c st' hi ab ⟨rfl,rfl,O,r⟩
   rw[hf];refine Ju (nA C B (by lia) (by lia) ?_);by_cases z:R rk (arrOf st') (lo+i)<R rk (arrOf st') (lo+i-1)
   ·rw[Jt z]
    exact Jx (G i O (by lia) r λ_=>z)
   ·rw[Jj z]
    refine Jx ⟨rfl,rfl,by lia,λa b p l x=>?_⟩;by_cases q:b<lo+i
    ·exact r a b p l q
    ·obtain rfl:b=lo+i:=by lia
     by_cases L:a=lo+i
     ·rw[L];exact W0 _
     ·have:=r a (lo+i-1) p (by lia) (by lia)
      lia
  ·rintro c st' ⟨rfl,rfl,O,r⟩
   exact G _ O (Jd _) r λq=>by lia
 rw[countRun'_eq];refine Ju (asc st 1 B (Jd _) (λa b h1 h2 O=>by rw[show a=b by lia];exact W0 _) (λn n1 n2 F X=>?_) _ (λi n=>rfl));dsimp only;by_cases z:n=j
 ·subst z
  rw[Jm (ZV _)];exact Jx (h _ _ (Keep.refl B) n1 (Jd _) F)
 rw[Je (by simpa using z)];have nl:n<j:=by lia
 have X:=X nl;generalize hT:(bind (liftM (rule "list.sort.descending-run")) _:StateT SortSt Sem (Option Nat))=T
 have tail:∀ o,Keep κ P rk a₀ lo st o->Dn rk (arrOf o) lo n->R rk (arrOf o) (lo+n)<R rk (arrOf o) (lo+n-1)->wpS (model prog w) A E s T Q o:=by
  intro o K1 d1 l1;rw[<- hT];refine Ju (wU ?_)
  have last:∀ d m,Keep κ P rk a₀ lo st d->1<=m->m<=j->Dn rk (arrOf d) lo m->∀ g,Keep κ P rk a₀ lo d g->(∀ k,R rk (arrOf g) k=if lo<=k/\k<lo+m then R rk (arrOf d) (lo+(lo+m)-1-k) else R rk (arrOf d) k)->Up rk (arrOf g) lo m:=by
   intro d m t U m2 u g D H a b p l x;rw[H,H,Jm ⟨by omega,by lia⟩,Jm ⟨by lia,by omega⟩];exact u _ _ (by lia) (by omega) (by omega)
  refine Ju (Z1 (Yn (I:=λi c d=>∃ m q,c=(none,m,q)/\m=i/\q+1<=m/\Keep κ P rk a₀ lo st d/\(i<=j->Dn rk (arrOf d) lo m/\∀ k,lo+m-(q+1)<=k->k<lo+m->R rk (arrOf d) k=R rk (arrOf d) (lo+m-1)))
   (Q:=λc d=>∃ m q,c=(none,m,q)/\1<=m/\m<=j/\q+1<=m/\Keep κ P rk a₀ lo st d/\Dn rk (arrOf d) lo m/\∀ k,lo+m-(q+1)<=k->k<lo+m->R rk (arrOf d) k=R rk (arrOf d) (lo+m-1)) ?step ?fin ?init) ?post)
  case init =>
   refine⟨n+1,0,rfl,rfl,by lia,K1,λ_=>⟨λa b p l x=>?_,λk W V=>by rw[show k=lo+(n+1)-1 by lia]⟩⟩;by_cases q:b<lo+n
   ·exact d1 a b p l q
   ·obtain rfl:b=lo+n:=by lia
    by_cases L:a=lo+n
    ·rw[L];exact W0 _
    ·have:=d1 a (lo+n-1) p (by lia) (by lia)
     lia
  case fin =>
   rintro c d ⟨m,q,rfl,e,G,t,Y⟩;obtain⟨u,eq2⟩:=Y (by lia);exact⟨m,q,rfl,by lia,by lia,G,t,u,eq2⟩
  case step =>
   rintro i c d hi ab ⟨m,q,rfl,rfl,G,t,Y⟩;obtain⟨u,eq2⟩:=Y (by lia);dsimp only;refine Ju (nA C t.b (by lia) (by lia) ?_)
   have more:∀ g,Dn rk (arrOf g) lo m->R rk (arrOf g) (lo+m)<=R rk (arrOf g) (lo+m-1)->Dn rk (arrOf g) lo (m+1):=by
    intro g S le a b p l x;by_cases q:b<lo+m
    ·exact S a b p l q
    ·obtain rfl:b=lo+m:=by lia
     by_cases L:a=lo+m
     ·rw[L];exact W0 _
     ·have:=S a (lo+m-1) p (by lia) (by lia)
      lia
   by_cases z1:R rk (arrOf d) (lo+m)<R rk (arrOf d) (lo+m-1)
   ·rw[Jt z1]
    dsimp only;rw[Jm rfl];by_cases J:q > 0
    ·rw[Jm J]
     refine Ju (qk (rk:=rk) (lo:=lo) t.b (by lia) (by lia) λg D H=>Jx ?_)
     have same:∀ k,R rk (arrOf g) k=R rk (arrOf d) k:=λk=>by
      rw[H];split
      ·rw[eq2 _ (by lia) (by omega),eq2 k (by simp_all) (by simp_all)]
      ·rfl
     refine⟨m+1,0,rfl,rfl,by lia,t.trans D,λ_=>⟨more g (λa b p l x=>by rw[same,same];exact u a b p l x) (by rw[same,same];lia),λk W V=>by rw[show k=lo+(m+1)-1 by lia]⟩⟩
    ·rw[Je J]
     exact Jx ⟨m+1,0,rfl,rfl,by lia,t,λ_=>⟨more d u (by lia),λk W V=>by rw[show k=lo+(m+1)-1 by lia]⟩⟩
   ·rw[Jj z1]
    dsimp only;rw[Je Jh];refine Ju (nA C t.b (by lia) (by lia) ?_);by_cases K:R rk (arrOf d) (lo+m-1)<R rk (arrOf d) (lo+m)
    ·rw[Jt K]
     dsimp only;rw[Jm rfl];exact Jx ⟨m,q,rfl,by lia,by lia,G,t,u,eq2⟩
    ·rw[Jj K]
     dsimp only;rw[Je Jh];have e:R rk (arrOf d) (lo+m)=R rk (arrOf d) (lo+m-1):=by lia
     refine Jx ⟨m+1,q+1,rfl,rfl,by simp_all,t,λ_=>⟨more d u (by simp_all),λk W V=>?_⟩⟩;rw[show lo+(m+1)-1=lo+m by simp_all];by_cases q3:k=lo+m
     ·rw[q3]
     ·rw[eq2 k (by lia) (by lia),e]
  case post =>
   rintro c d ⟨m,q,rfl,U,m2,G,t,u,eq2⟩;dsimp only;generalize ao:(bind (reverseSlice' lo (lo+m)) _:StateT SortSt Sem (Option Nat))=T2
   have on:∀ g,Keep κ P rk a₀ lo st g->Dn rk (arrOf g) lo m->wpS (model prog w) A E s T2 Q g:=by
    intro g D S;rw[<- ao];refine Ju (qk (rk:=rk) (lo:=lo) D.b (by lia) (by lia) λM K4 r4=>?_);refine Ju (asc M m K4.b U (last g m D U m2 S M K4 r4) (λn' a1 a2 r _=>?_) _ (λi n=>rfl));exact Jx (h _ _ (D.trans K4) (by lia) (by simp_all) r)
   by_cases J:q > 0
   ·rw[Jm J]
    refine Ju (qk (rk:=rk) (lo:=lo) t.b (by lia) (by lia) λg D H=>?_)
    have same:∀ k,R rk (arrOf g) k=R rk (arrOf d) k:=λk=>by
     rw[H];split
     ·rw[eq2 _ (by lia) (by omega),eq2 k (by simp_all) (by simp_all)]
     ·rfl
    exact on g (t.trans D) (λa b p l x=>by rw[same,same];exact u a b p l x)
   ·rw[Je J]
    exact on d t u
 by_cases K:n > 1
 ·rw[Jm K]
  refine Ju (nA C B (by lia) (by lia) ?_);by_cases z3:R rk (arrOf st) lo<R rk (arrOf st) (lo+n-1)
  ·rw[Jt z3]
   exact Jx (h _ _ (Keep.refl B) n1 (by simp_all) F)
  ·rw[Jj z3]
   dsimp only;rw[Je Jh];refine Ju (qk (rk:=rk) (lo:=lo) B (by lia) (by lia) λo K1 N=>tail o K1 (λa b p l x=>?_) ?_)
   ·rw[N,N,Jm ⟨by lia,by omega⟩,Jm ⟨by omega,by lia⟩]
    exact F _ _ (by lia) (by omega) (by omega)
   ·rw[N,N,Je (by lia),Jm ⟨by lia,by lia⟩]
    have:=F (lo+(lo+n)-1-(lo+n-1)) (lo+n-1) (by omega) (by omega) (by lia);have e:lo+(lo+n)-1-(lo+n-1)=lo:=by omega
    rw[e]at this ⊢;have:=F lo (lo+n-1) (by lia) (by omega) (by omega);lia
 ·rw[Je K]
  exact tail st (Keep.refl B) (λa b p l x=>by rw[show a=b by lia];exact W0 _) X
theorem R_bubble {xs:Array Keyed}{src d:Nat}(c:src<xs.size)(hd:d<=src)(k:Nat):R rk (bubble xs src d) k=if k=src-d then R rk xs src else if src-d<k/\k<=src then R rk xs (k-1) else R rk xs k:=by
 have e:=getElem?_bubble (xs:=xs) c d hd k;by_cases b:k=src-d
 ·rw[Jm b]at e ⊢;exact R_congr e
 ·rw[Je b]at e ⊢
  by_cases a:(src-d<k/\k<=src)
  ·rw[Jm a]at e ⊢;exact R_congr e
  ·rw[Je a]at e ⊢;exact R_congr e
theorem zaA (C:Cmp prog w A s κ P rk){st:SortSt}{lo n ok:Nat}{Q:Bool->SortSt->Prop}(J:Bs κ P a₀ st)(S:1<=ok)(hok:ok<=n)(hn:lo+n<=a₀.size)(O:Up rk (arrOf st) lo ok)(h:∀ st',Keep κ P rk a₀ lo st st'->Up rk (arrOf st') lo n->Q true st'):wpS (model prog w) A E s (binarySort' lo n ok) Q st:=by
 rw[binarySort'_eq];rw[show max ok 1=ok by simp_all];refine Ju (Z1 (Yn (I:=λk c a=>c=(none,())/\Keep κ P rk a₀ lo st a/\Up rk (arrOf a) lo (min k n)) (Q:=λc a=>c=(none,())/\Keep κ P rk a₀ lo st a/\Up rk (arrOf a) lo n) ?step ?fin ?init) ?post)
 case init=>exact⟨rfl,Keep.refl J,by rwa [Nat.min_eq_left hok]⟩
 case fin =>
  rintro c a ⟨rfl,f,e⟩;rw[show min (max ok n) n=n by simp_all]at e;exact⟨rfl,f,e⟩
 case post =>
  rintro c a ⟨rfl,f,e⟩;exact Jx (h a f e)
 case step =>
  rintro k c a L K ⟨rfl,f,e⟩;rw[show min k n=k by lia]at e
  refine Ju (Z1 (Yn (I:=λx c b=>b=a/\∃ l r,c=(none,l,r)/\l<=r/\r<=k/\r-l<=k-x/\(∀ i,lo<=i->i<lo+l->R rk (arrOf a) i<=R rk (arrOf a) (lo+k))/\(∀ i,lo+r<=i->i<lo+k->R rk (arrOf a) (lo+k)<=R rk (arrOf a) i))
   (Q:=λc b=>b=a/\∃ l r,c=(none,l,r)/\l<=k/\(∀ i,lo<=i->i<lo+l->R rk (arrOf a) i<=R rk (arrOf a) (lo+k))/\(∀ i,lo+l<=i->i<lo+k->R rk (arrOf a) (lo+k)<=R rk (arrOf a) i)) ?istep ?ifin ?iinit) ?ipost)
  case iinit=>exact⟨rfl,0,k,rfl,by lia,by lia,by simp_all,λi _ _=>by lia,λi _ _=>by lia⟩
  case ifin =>
   rintro c b ⟨rfl,l,r,rfl,G,g,m,p,o⟩;obtain rfl:l=r:=by lia
   exact⟨rfl,l,l,rfl,g,p,o⟩
  case istep =>
   rintro x c b _ N ⟨rfl,l,r,rfl,G,g,m,p,o⟩;dsimp only;by_cases ge:l>=r
   ·rw[Jm ge]
    obtain rfl:l=r:=by lia
    exact Jx ⟨rfl,l,l,rfl,g,p,o⟩
   ·rw[Je ge]
    refine Ju (nA C f.b (by lia) (by lia) ?_);by_cases z:R rk (arrOf b) (lo+k)<R rk (arrOf b) (lo+(l+r) / 2)
    ·rw[Jt z]
     refine Jx ⟨rfl,l,(l+r) / 2,rfl,by lia,by lia,by grind,p,λi u H=>?_⟩;have:=e (lo+(l+r) / 2) i (by simp_all) u (by omega);lia
    ·rw[Jj z]
     refine Jx ⟨rfl,(l+r) / 2+1,r,rfl,by lia,by omega,by grind,λi u H=>?_,o⟩;have:=e i (lo+(l+r) / 2) u (by lia) (by lia);lia
  case ipost =>
   rintro c b ⟨rfl,l,r,rfl,M,p,o⟩;dsimp only;rw[moveDown'_eq];have sz:=f.b.size
   have t:∀ j,R rk (arrOf (setArr b (bubble (arrOf b) (lo+k) (lo+k-(lo+l))))) j=if j=lo+l then R rk (arrOf b) (lo+k) else if lo+l<j/\j<=lo+k then R rk (arrOf b) (j-1) else R rk (arrOf b) j:=λj=>by
    have:=R_bubble (rk:=rk) (xs:=arrOf b) (src:=lo+k) (d:=lo+k-(lo+l)) (by rw[sz];lia) (by simp_all) j;rw[show lo+k-(lo+k-(lo+l))=lo+l by lia]at this;exact this
   refine Ju (Wf (Jx ⟨rfl,f.trans ⟨f.b.arr (bubble_perm _ _ _),rfl,λj y=>?_⟩,λi j hi v y=>?_⟩))
   ·rw[t,Je (by lia),Je (by lia)]
   ·rw[show min (k+1) n=k+1 by lia]at y
    rw[t,t];by_cases F:i=lo+l
    ·rw[Jm F]
     by_cases q:j=lo+l
     ·rw[Jm q];exact W0 _
     ·rw[Je q,Jm ⟨by lia,by lia⟩]
      exact o _ (by lia) (by lia)
    ·rw[Je F]
     by_cases D:lo+l<i/\i<=lo+k
     ·rw[Jm D,Je (by lia),Jm ⟨by lia,by lia⟩]
      exact e _ _ (by lia) (by lia) (by lia)
     ·rw[Je D]
      by_cases q:j=lo+l
      ·rw[Jm q];exact p _ hi (by lia)
      ·rw[Je q]
       by_cases B:lo+l<j/\j<=lo+k
       ·rw[Jm B];exact e _ _ hi (by grind) (by lia)
       ·rw[Je B];exact e _ _ hi v (by lia)
end
noncomputable def bO:Bool->Keyed->Array Keyed->Nat->Nat->Nat->StateT SortSt Sem (Option Nat):=sortPriv% PySem.Builtin.gallop
noncomputable def bd (left:Bool)(k r:Int):Bool:=if left=true then decide (r<k) else !decide (k<r)
theorem bf {left:Bool}{k r a:Int}(h:r<=a)(b:bd left k a=true):bd left k r=true:=by
 unfold bd at *;cases left
 ·simp only[Yi,Zi,Bool.not_eq_true',YW]at *;omega
 ·simp only[Z9,YV]at *;omega
section
variable {prog:Yo}{w:YI}{A:YO}{E:Jo->JO->Prop}{s:JO}{κ:SortKind}{P:Keyed->Prop}{rk:Keyed->Int}
theorem nj (C:Cmp prog w A s κ P rk){st:SortSt}{left:Bool}{key:Keyed}{arr:Array Keyed}{j:Nat}{Q:Option Bool->SortSt->Prop}(d:kindOf st=κ)(c:P key)(a:∃ p,arr[j]?=some p/\P p)(h:Q (some (bd left (rk key) (R rk arr j))) st) :
  wpS (model prog w) A E s (elem' arr j >>= λx=>if left=true then lt' x key else (lt' key x >>= λr=>pure (r.map λb=>!b))) Q st:=by
 obtain⟨p,e,pp⟩:=a;have r:R rk arr j=rk p:=by unfold R;rw[e]
 rw[r]at h;refine Ju (zx e ?_);unfold bd at h;cases left
 ·rw[Je Jh]at h ⊢
  exact Ju (o9 C d c pp (Jx h))
 ·rw[Jm rfl]at h ⊢
  exact o9 C d pp c h
theorem uA (C:Cmp prog w A s κ P rk){st:SortSt}{left:Bool}{key:Keyed}{arr:Array Keyed}{base n hint:Nat}{Q:Option Nat->SortSt->Prop}(D:kindOf st=κ)(y:P key)(g:∀ i,i<n->∃ p,arr[base+i]?=some p/\P p)(hu:Up rk arr base n)(hh:hint<n)(h:∀ k,k<=n->(∀ i,i<k->bd left (rk key) (R rk arr (base+i))=true)->(∀ i,k<=i->i<n->bd left (rk key) (R rk arr (base+i))=false)->Q (some k) st):wpS (model prog w) A E s (bO left key arr base n hint) Q st:=by
 have K:∀ i j,i<=j->j<n->bd left (rk key) (R rk arr (base+j))=true->bd left (rk key) (R rk arr (base+i))=true:=λi j J H b=>bf (hu _ _ (by simp_all) (by simp_all) (by simp_all)) b
 have up:∀ i j,i<=j->j<n->bd left (rk key) (R rk arr (base+i))=false->bd left (rk key) (R rk arr (base+j))=false:=λi j J H b=>by
  cases q:bd left (rk key) (R rk arr (base+j)) with
  | false=>rfl
  | true=>rw[K i j J H q]at b;cases b
 refine Ju (nj C D y (g hint hh) ?_);dsimp only
 have half:∀ (lo hi:Nat) (f:Nat->Option (Option Nat) × Nat × Nat->StateT SortSt Sem (ForInStep (Option (Option Nat) × Nat × Nat))),lo<=hi->hi<=n ->
   (∀ i,i<lo->bd left (rk key) (R rk arr (base+i))=true)->(∀ i,hi<=i->i<n->bd left (rk key) (R rk arr (base+i))=false) ->
   (∀ x l r (u:ForInStep (Option (Option Nat) × Nat × Nat)->SortSt->Prop),(r<=l->u (.done (none,l,r)) st)->(l<r->r<=n->bd left (rk key) (R rk arr (base+(l+(r-l) / 2)))=true->u (.yield (none,l+(r-l) / 2+1,r)) st) ->
    (l<r->r<=n->bd left (rk key) (R rk arr (base+(l+(r-l) / 2)))=false->u (.yield (none,l,l+(r-l) / 2)) st)->r<=n->wpS (model prog w) A E s (f x (none,l,r)) u st) ->
   wpS (model prog w) A E s (forIn [:n] (none,lo,hi) f) (λc a=>a=st/\∃ k,c=(none,k,k)/\Q (some k) st) st:=by
  intro lo hi f J H h3 h4 hf;refine Yn (I:=λx c a=>a=st/\∃ l r,c=(none,l,r)/\l<=r/\r<=n/\r-l<=n-x/\(∀ i,i<l->bd left (rk key) (R rk arr (base+i))=true)/\(∀ i,r<=i->i<n->bd left (rk key) (R rk arr (base+i))=false)) ?_ ?_ ⟨rfl,lo,hi,rfl,J,H,by grind,h3,h4⟩
  ·rintro x c a _ V ⟨rfl,l,r,rfl,Z,e,m,M,L⟩
   refine hf x l r _ (λz=>?_) (λY X b=>?_) (λY X b=>?_) e
   ·obtain rfl:l=r:=by grind
    exact⟨rfl,l,rfl,h l e M L⟩
   ·exact⟨rfl,_,r,rfl,by grind,e,by grind,λi F=>K i _ (by grind) (by grind) b,L⟩
   ·exact⟨rfl,l,_,rfl,by simp_all,by grind,by omega,M,λi G B=>up _ i G B b⟩
  ·rintro c a ⟨rfl,l,r,rfl,Z,e,m,M,L⟩
   obtain rfl:l=r:=by grind
   exact⟨rfl,l,rfl,h l e M L⟩
 cases W:bd left (rk key) (R rk arr (base+hint)) with
 | true =>
  rw[Jm rfl]
  refine Ju (Z1 (Yn (I:=λx c a=>a=st/\∃ l o,c=(none,l,o)/\x+1<=o/\l<o/\hint+l<n/\bd left (rk key) (R rk arr (base+(hint+l)))=true)
   (Q:=λc a=>a=st/\∃ l o,c=(none,l,o)/\l<o/\hint+l<n/\bd left (rk key) (R rk arr (base+(hint+l)))=true/\(o<n-hint->bd left (rk key) (R rk arr (base+(hint+o)))=false)) ?_ ?_ ⟨rfl,0,1,rfl,by simp_all,by simp_all,by omega,W⟩) ?_)
  ·rintro x c a _ V ⟨rfl,l,o,rfl,N,d,ln,b⟩
   dsimp only;by_cases z:o>=n-hint
   ·rw[Jm z]
    exact Jx ⟨rfl,l,o,rfl,d,ln,b,λq=>by omega⟩
   ·rw[Je z]
    refine Ju (nj C D y (g (hint+o) (by grind)) ?_)
    cases q:bd left (rk key) (R rk arr (base+(hint+o))) with
    | true=>exact Jx ⟨rfl,o,2*o+1,rfl,by grind,by grind,by grind,q⟩
    | false=>exact Jx ⟨rfl,l,o,rfl,d,ln,b,λ_=>q⟩
  ·rintro c a ⟨rfl,l,o,rfl,N,d,ln,b⟩
   exact⟨rfl,l,o,rfl,d,ln,b,λq=>by grind⟩
  ·rintro c a ⟨rfl,l,o,rfl,d,ln,b,nb⟩
   dsimp only;refine Ju (Z1 (half _ _ _ (by omega) (by omega) (λi F=>K i _ (by grind) ln b) (λi G B=>?_) ?_) ?_)
   ·have q:o<n-hint:=by omega
    exact up _ i (by grind) B (nb q)
   ·intro x t v u T S O e
    dsimp only;by_cases z:t>=v
    ·rw[Jm z];exact Jx (T z)
    ·rw[Je z]
     refine Ju (nj C D y (g _ (by grind)) ?_)
     cases q:bd left (rk key) (R rk arr (base+(t+(v-t) / 2))) with
     | true=>exact Jx (S (by simp_all) e q)
     | false=>exact Jx (O (by simp_all) e q)
   ·rintro c a ⟨rfl,k,rfl,U⟩
    exact Jx U
 | false =>
  rw[Je Jh]
  refine Ju (Z1 (Yn (I:=λx c a=>a=st/\∃ l o,c=(none,l,o)/\x+1<=o/\l<o/\l<=hint/\bd left (rk key) (R rk arr (base+(hint-l)))=false)
   (Q:=λc a=>a=st/\∃ l o,c=(none,l,o)/\l<o/\l<=hint/\bd left (rk key) (R rk arr (base+(hint-l)))=false/\(o<hint+1->bd left (rk key) (R rk arr (base+(hint-o)))=true)) ?_ ?_ ⟨rfl,0,1,rfl,by simp_all,by simp_all,by simp_all,W⟩) ?_)
  ·rintro x c a _ V ⟨rfl,l,o,rfl,N,d,ln,b⟩
   dsimp only;by_cases z:o>=hint+1
   ·rw[Jm z]
    exact Jx ⟨rfl,l,o,rfl,d,ln,b,λq=>by omega⟩
   ·rw[Je z]
    refine Ju (nj C D y (g (hint-o) (by grind)) ?_)
    cases q:bd left (rk key) (R rk arr (base+(hint-o))) with
    | true=>exact Jx ⟨rfl,l,o,rfl,d,ln,b,λ_=>q⟩
    | false=>exact Jx ⟨rfl,o,2*o+1,rfl,by grind,by grind,by grind,q⟩
  ·rintro c a ⟨rfl,l,o,rfl,N,d,ln,b⟩
   exact⟨rfl,l,o,rfl,d,ln,b,λq=>by grind⟩
  ·rintro c a ⟨rfl,l,o,rfl,d,ln,b,nb⟩
   dsimp only;refine Ju (Z1 (half _ _ _ (by omega) (by grind) (λi F=>?_) (λi G B=>up _ i G B b) ?_) ?_)
   ·have q:o<hint+1:=by omega
    exact K i _ (by grind) (by grind) (nb q)
   ·intro x t v u T S O e
    dsimp only;by_cases z:t>=v
    ·rw[Jm z];exact Jx (T z)
    ·rw[Je z]
     refine Ju (nj C D y (g _ (by grind)) ?_)
     cases q:bd left (rk key) (R rk arr (base+(t+(v-t) / 2))) with
     | true=>exact Jx (S (by simp_all) e q)
     | false=>exact Jx (O (by simp_all) e q)
   ·rintro c a ⟨rfl,k,rfl,U⟩
    exact Jx U
end
noncomputable def Srt (rk:Keyed->Int)(l:List Keyed):Prop:=l.Pairwise λx y=>rk x<=rk y
structure Lo (rk:Keyed->Int) (T out a b:List Keyed):Prop where
 so:Srt rk out
 sa:Srt rk a
 sb:Srt rk b
 oa:∀ x∈out,∀ y∈a,rk x<=rk y
 ob:∀ x∈out,∀ y∈b,rk x<=rk y
 pm:(out++(a++b)).Perm T
section
variable {rk:Keyed->Int}{T out a b c:List Keyed}
theorem Lo.swap (h:Lo rk T out a b):Lo rk T out b a:=⟨h.so,h.sb,h.sa,h.ob,h.oa,((ZS (l₁:=b) (l₂:=a)).append_left out).trans h.pm⟩
theorem Lo.take (h:Lo rk T out (c++a) b)(le:∀ x∈c,∀ y∈b,rk x<=rk y):Lo rk T (out++c) a b:=by
 obtain⟨i,g,f⟩:=Yr.mp h.sa;refine⟨Yr.mpr ⟨h.so,i,λx e y d=>h.oa x e y (JT _ d)⟩,g,h.sb,λx e y d=>?_,λx e y d=>?_,?_⟩
 ·rcases Jr.mp e with q|q
  ·exact h.oa x q y (Js _ d)
  ·exact f x q y d
 ·rcases Jr.mp e with q|q
  ·exact h.ob x q y d
  ·exact le x q y d
 ·have:=h.pm
  rw[JW]at this ⊢;exact this
theorem Lo.end (h:Lo rk T out a []):(out++a).Perm T/\Srt rk (out++a):=by
 have:=h.pm;rw[JZ]at this;exact⟨this,Yr.mpr ⟨h.so,h.sa,h.oa⟩⟩
theorem Lo.lone (h:Lo rk T out a b)(le:∀ x∈b,∀ y∈a,rk x<=rk y):(out++b++a).Perm T/\Srt rk (out++b++a):=by
 refine⟨?_,Yr.mpr ⟨Yr.mpr ⟨h.so,h.sb,h.ob⟩,h.sa,λx d y c=>?_⟩⟩
 ·rw[JW]
  exact((ZS (l₁:=b) (l₂:=a)).append_left out).trans h.pm
 ·rcases Jr.mp d with q|q
  ·exact h.oa x q y c
  ·exact le x q y c
theorem pJ {arr:Array Keyed}{i:Nat}{p:Keyed}(e:arr[i]?=some p):arr.toList.drop i=p::arr.toList.drop (i+1):=by
 obtain⟨hi,e⟩:=Yf.mp e;have a:i<arr.toList.length:=by rw[Jy];exact hi
 rw[Yt a,Array.getElem_toList,e]
theorem sQ (arr:Array Keyed)(i k:Nat):arr.toList.drop i=(arr.extract i (i+k)).toList++arr.toList.drop (i+k):=by
 rw[Zu,Z2,Nat.add_sub_cancel_left,<- List.drop_drop,List.take_append_drop]
theorem uD (arr:Array Keyed)(i:Nat):(arr.extract i).toList=arr.toList.drop i:=by
 rw[Zu,Z2];exact Y8 (by rw[Zb,Jy];exact Jd _)
theorem bX {arr:Array Keyed}{i k:Nat}{x:Keyed}(h:x∈(arr.extract i (i+k)).toList):∃ j,j<k/\arr[i+j]?=some x:=by
 rw[Zu,Z2,Nat.add_sub_cancel_left]at h;obtain⟨j,a⟩:=Zm.mp h
 have b:j<k:=by
  have:=(J9.mp a).1;rw[JC]at this;grind
 rw[Z7 b,List.getElem?_drop]at a;exact⟨j,b,by rw[<- Y3];exact a⟩
theorem sP {arr:Array Keyed}{i:Nat}{x:Keyed}(h:x∈arr.toList.drop i):∃ j,arr[i+j]?=some x:=by
 obtain⟨j,a⟩:=Zm.mp h;rw[List.getElem?_drop]at a;exact⟨j,by rw[<- Y3];exact a⟩
theorem R_at {arr:Array Keyed}{i:Nat}{p:Keyed}(e:arr[i]?=some p):R rk arr i=rk p:=by unfold R;rw[e]
theorem rK {arr:Array Keyed}(h:Srt rk arr.toList){base n:Nat}(hn:base+n<=arr.size):Up rk arr base n:=by
 intro i j hi c d;have b:arr[i]?=some arr[i]:=getElem?_pos arr i (by lia);have a:arr[j]?=some arr[j]:=getElem?_pos arr j (by lia);rw[R_at b,R_at a];by_cases z:i=j
 ·subst z;exact W0 _
 ·have:=List.pairwise_iff_getElem.mp h i j (by rw[Jy];grind) (by rw[Jy];lia) (by lia)
  simpa using this
theorem uf {arr:Array Keyed}{i:Nat}{p:Keyed}(h:Srt rk arr.toList)(e:arr[i]?=some p):∀ y∈arr.toList.drop i,rk p<=rk y:=by
 have a:Srt rk (arr.toList.drop i):=List.Pairwise.drop h;rw[pJ e]at a ⊢;obtain⟨c,_⟩:=List.pairwise_cons.mp a;intro y b;rcases Jq.mp b with rfl|q
 ·exact W0 _
 ·exact c y q
end
section
variable {rk:Keyed->Int}{T:List Keyed}{out a b:Array Keyed}{ia ib k:Nat}{p:Keyed}
noncomputable abbrev At (rk:Keyed->Int)(T:List Keyed)(out a b:Array Keyed)(ia ib:Nat):Prop:=Lo rk T out.toList (a.toList.drop ia) (b.toList.drop ib)
theorem At.pushA (h:At rk T out a b ia ib)(e:a[ia]?=some p)(le:∀ y∈b.toList.drop ib,rk p<=rk y):At rk T (out.push p) a b (ia+1) ib:=by
 have d:=h;unfold At at d ⊢;rw[pJ e]at d;rw[Zp];exact Lo.take (c:=[p]) d λx g y f=>by rw[Ja.mp g];exact le y f
theorem At.pushB (h:At rk T out a b ia ib)(e:b[ib]?=some p)(le:∀ y∈a.toList.drop ia,rk p<=rk y):At rk T (out.push p) a b ia (ib+1):=(At.pushA (a:=b) (b:=a) h.swap e le).swap
theorem At.cutA (h:At rk T out a b ia ib)(le:∀ j x,j<k->a[ia+j]?=some x->∀ y∈b.toList.drop ib,rk x<=rk y):At rk T (out++a.extract ia (ia+k)) a b (ia+k) ib:=by
 have c:=h;unfold At at c ⊢;rw[sQ a ia k]at c;rw[Y7]
 exact Lo.take c λx g y f=>by
  obtain⟨j,d,e⟩:=bX g;exact le j x d e y f
theorem At.cutB (h:At rk T out a b ia ib)(le:∀ j x,j<k->b[ib+j]?=some x->∀ y∈a.toList.drop ia,rk x<=rk y):At rk T (out++b.extract ib (ib+k)) a b ia (ib+k):=(At.cutA (a:=b) (b:=a) h.swap le).swap
theorem At.endB (h:At rk T out a b ia ib)(z:b.size<=ib):(out++a.extract ia++b.extract ib).toList.Perm T/\Srt rk (out++a.extract ia++b.extract ib).toList:=by
 have c:=h;unfold At at c;have e:b.toList.drop ib=[]:=List.drop_eq_nil_iff.mpr (by rw[Jy];exact z);rw[e]at c;rw[Y7,Y7,uD,uD,e,JZ];exact c.end
theorem At.endA (h:At rk T out a b ia ib)(z:a.size<=ia):(out++a.extract ia++b.extract ib).toList.Perm T/\Srt rk (out++a.extract ia++b.extract ib).toList:=by
 have c:=h.swap;have e:a.toList.drop ia=[]:=List.drop_eq_nil_iff.mpr (by rw[Jy];exact z);rw[e]at c;rw[Y7,Y7,uD,uD,e,JZ];exact c.end
theorem At.lastA (h:At rk T out a b ia ib)(le:∀ x∈b.toList.drop ib,∀ y∈a.toList.drop ia,rk x<=rk y):(out++b.extract ib++a.extract ia).toList.Perm T/\Srt rk (out++b.extract ib++a.extract ia).toList:=by
 rw[Y7,Y7,uD,uD];exact Lo.lone h le
end
noncomputable def eG:Array Keyed->Array Keyed->StateT SortSt Sem (Array Keyed):=sortPriv% PySem.Builtin.mergeLo
noncomputable def cK:Nat->StateT SortSt Sem Unit:=sortPriv% PySem.Builtin.setMinGallop
structure Sm (st st':SortSt):Prop where
 kind:kindOf st'=kindOf st
 arr:arrOf st'=arrOf st
 pend:pendingOf st'=pendingOf st
 fail:failedOf st'=failedOf st
theorem Sm.refl (st:SortSt):Sm st st:=⟨rfl,rfl,rfl,rfl⟩
theorem Sm.trans {a b c:SortSt}(h:Sm a b)(g:Sm b c):Sm a c:=⟨g.kind.trans h.kind,g.arr.trans h.arr,g.pend.trans h.pend,g.fail.trans h.fail⟩
theorem lX {c:Prop}{_:Decidable c}{β α σ:Type}{M:Model}{A:YO}{E:Jo->JO->Prop}{s:JO}{x y:β}{p q:StateT σ Sem α}{f:β->StateT σ Sem α}{Q:α->σ->Prop}{st:σ}(e:∀ z,z=x->p=f z)(e2:q=f y)(h:∀ z,wpS M A E s (f z) Q st):wpS M A E s (if c then p else q) Q st:=by
 rw[e x rfl,e2];split
 ·exact h x
 ·exact h y
theorem pW {c:Prop}{_:Decidable c}{β a α σ:Type}{M:Model}{A:YO}{E:Jo->JO->Prop}{s:JO}{n:β}{o:a}{x y:StateT σ Sem α}{f:β->a->StateT σ Sem α}(R:β->a->Prop){Q:α->σ->Prop}{st:σ}(e:∀ b o',b=n->o'=o->y=f b o')(g:c->(∀ k o,R k o->wpS M A E s (f k o) Q st)->wpS M A E s x Q st)(d:¬ c->R n o)(h:∀ k o,R k o->wpS M A E s (f k o) Q st):wpS M A E s (if c then x else y) Q st:=by
 rw[e n o rfl rfl];split
 ·next z=>exact g z h
 ·next z=>exact h n o (d z)
section
variable {prog:Yo}{w:YI}{A:YO}{E:Jo->JO->Prop}{s:JO}{κ:SortKind}{P:Keyed->Prop}{rk:Keyed->Int}
theorem qz {st:SortSt}{g:Nat}{Q:Unit->SortSt->Prop}(h:∀ st',Sm st st'->Q () st'):wpS (model prog w) A E s (cK g) Q st :=
 Wf (h _ ⟨rfl,rfl,rfl,rfl⟩)
theorem za7 (C:Cmp prog w A s κ P rk){st:SortSt}{a b:Array Keyed}{Q:Array Keyed->SortSt->Prop}(hk:kindOf st=κ)(pa:∀ x∈a.toList,P x)(pb:∀ x∈b.toList,P x)(sa:Srt rk a.toList)(sb:Srt rk b.toList)(a1:1<=a.size)(b1:1<=b.size)(first:∀ x,b[0]?=some x->∀ y∈a.toList,rk x<=rk y)(last:∀ x,a[a.size-1]?=some x->∀ y∈b.toList,rk y<=rk x)(h:∀ r st',Sm st st'->r.toList.Perm (a.toList++b.toList)->Srt rk r.toList->Q r st'):wpS (model prog w) A E s (eG a b) Q st:=by
 have ab:∀ i,i<a.size->∃ x,a[i]?=some x/\P x:=λi hi=>⟨_,getElem?_pos a i hi,pa _ (by simp)⟩;have U:∀ i,i<b.size->∃ x,b[i]?=some x/\P x:=λi hi=>⟨_,getElem?_pos b i hi,pb _ (by simp)⟩;obtain⟨b0,e0,_⟩:=U 0 b1
 have lone:∀ {out:Array Keyed}{d f:Nat},At rk (a.toList++b.toList) out a b d f->d+1=a.size->(out++b.extract f++a.extract d).toList.Perm (a.toList++b.toList)/\Srt rk (out++b.extract f++a.extract d).toList:=λ{out d f} L z=>L.lastA λx hx y hy=>by
  obtain⟨j,ej⟩:=sP hy;have:=(Yf.mp ej).1;exact last y (by rw[show a.size-1=d+j by lia];exact ej) x (List.mem_of_mem_drop hx)
 have L0:At rk (a.toList++b.toList) #[b0] a b 0 1:=by
  have e:=pJ e0;rw[We]at e;have hb:=sb;unfold Srt at hb;rw[e]at hb;obtain⟨h1,h2⟩:=List.pairwise_cons.mp hb;refine⟨List.pairwise_singleton _ _,by rw[We];exact sa,h2,λx hx y hy=>?_,λx hx y hy=>?_,?_⟩
  ·rw[Ja.mp hx];exact first b0 e0 y (List.mem_of_mem_drop hy)
  ·rw[Ja.mp hx];exact h1 y hy
  ·rw[We]
   conv=>rhs;rw[e]
   show (b0::(a.toList++b.toList.drop 1)).Perm (a.toList++b0::b.toList.drop 1);exact List.perm_middle.symm
 have size:∀ {out:Array Keyed}{d f:Nat},At rk (a.toList++b.toList) out a b d f->out.size<=a.size+b.size:=λ{out d f} L=>by
  have:=L.pm.length_eq;simp only[Jb,Jy]at this;lia
 refine Ju (wU ?_);refine Ju (zx e0 ?_);dsimp -zeta only;by_cases z1:1=b.size
 ·rw[Jm (by simpa using z1)]
  obtain⟨m,l⟩:=L0.endB (by simp_all);exact Jx (h _ _ (Sm.refl _) m l)
 rw[Je (by simpa using z1)];by_cases z2:0+1=a.size
 ·rw[Jm (by simpa using z2)]
  obtain⟨m,l⟩:=lone L0 z2;exact Jx (h _ _ (Sm.refl _) m l)
 rw[Je (by simpa using z2)];refine Ju (Wd ?_)
 refine Ju (Z1 (Yn (I:=λi c p=>Sm st p/\∃ out d f g,c=(none,out,d,f,g)/\At rk (a.toList++b.toList) out a b d f/\d+1<a.size/\f<b.size/\i+1<=out.size)
  (Q:=λc p=>Sm st p/\∃ r x,c=(some r,x)/\r.toList.Perm (a.toList++b.toList)/\Srt rk r.toList) ?step ?fin ⟨Sm.refl _,_,_,_,_,rfl,L0,by lia,by lia,by simp⟩) ?post)
 case post =>
  rintro c p ⟨S1,r,x,rfl,m,l⟩;exact Jx (h _ _ S1 m l)
 case fin =>
  rintro c p ⟨S1,out,d,f,g,rfl,L,_,_,sz⟩;have:=size L;lia
 case step =>
  rintro i c p _ hi ⟨S1,out,d,f,g,rfl,L,F,B,sz⟩;dsimp -zeta only
  refine Ju (Z1 (Yn (I:=λj c H=>H=p/\∃ out d f ca D,c=(none,out,d,f,ca,D)/\At rk (a.toList++b.toList) out a b d f/\d+1<a.size/\f<b.size/\i+1+j<=out.size)
   (Q:=λc H=>H=p/\((∃ r x,c=(some r,x)/\r.toList.Perm (a.toList++b.toList)/\Srt rk r.toList)\/∃ out d f ca D,c=(none,out,d,f,ca,D)/\At rk (a.toList++b.toList) out a b d f/\d+1<a.size/\f<b.size/\i+2<=out.size)) ?_ ?_ ⟨rfl,_,_,_,_,_,rfl,L,F,B,by omega⟩) ?_)
  ·rintro j c H _ hj ⟨rfl,out,d,f,ca,D,rfl,L,F,B,sz⟩
   dsimp only;obtain⟨x,ex,px⟩:=ab d (by lia);obtain⟨y,S,py⟩:=U f B;refine Ju (zx S (Ju (zx ex (Ju (o9 C (S1.kind.trans hk) py px ?_)))));by_cases z:rk y<rk x
   ·rw[Jt z]
    dsimp -zeta only;rw[Jm rfl];have Z:=L.pushB S λu X=>Zx (Int.le_of_lt z) (uf sa ex u X);refine Ju (zx S ?_);by_cases R:f+1=b.size
    ·rw[Jm (by simpa using R)]
     obtain⟨m,l⟩:=Z.endB (by simp_all);exact Jx ⟨rfl,.inl ⟨_,_,rfl,m,l⟩⟩
    ·rw[Je (by simpa using R)]
     by_cases zg:D+1>=g
     ·rw[Jm zg]
      exact Jx ⟨rfl,.inr ⟨_,_,_,_,_,rfl,Z,F,by lia,by rw[Yc];lia⟩⟩
     ·rw[Je zg]
      exact Jx ⟨rfl,_,_,_,_,_,rfl,Z,F,by lia,by rw[Yc];lia⟩
   ·rw[Jj z]
    dsimp only;rw[Je Jh];have Z:=L.pushA ex λu X=>Zx (by simp_all) (uf sb S u X);refine Ju (zx ex ?_);by_cases R:d+1+1=a.size
    ·rw[Jm (by simpa using R)]
     obtain⟨m,l⟩:=lone Z R;exact Jx ⟨rfl,.inl ⟨_,_,rfl,m,l⟩⟩
    ·rw[Je (by simpa using R)]
     by_cases zg:ca+1>=g
     ·rw[Jm zg]
      exact Jx ⟨rfl,.inr ⟨_,_,_,_,_,rfl,Z,by lia,B,by rw[Yc];lia⟩⟩
     ·rw[Je zg]
      exact Jx ⟨rfl,_,_,_,_,_,rfl,Z,by lia,B,by rw[Yc];lia⟩
  ·rintro c H ⟨rfl,out,d,f,ca,D,rfl,L,F,B,sz⟩
   have:=size L;omega
  ·rintro c H ⟨rfl,⟨r,x,rfl,m,l⟩|⟨out,d,f,ca,D,rfl,L,F,B,sz⟩⟩
   ·exact Jx ⟨S1,r,_,rfl,m,l⟩
   dsimp -zeta only;refine Ju (wU ?_)
   refine Ju (Z1 (Yn (I:=λj c G=>Sm st G/\∃ out d f g ca D,c=(none,out,d,f,g,ca,D)/\At rk (a.toList++b.toList) out a b d f/\d+1<a.size/\f<b.size/\i+2<=out.size)
    (Q:=λc G=>Sm st G/\((∃ r x,c=(some r,x)/\r.toList.Perm (a.toList++b.toList)/\Srt rk r.toList)\/∃ out d f g ca D,c=(none,out,d,f,g,ca,D)/\At rk (a.toList++b.toList) out a b d f/\d+1<a.size/\f<b.size/\i+2<=out.size)) ?_ ?_ ⟨S1,_,_,_,_,_,_,rfl,L,F,B,sz⟩) ?_)
   ·rintro j c G _ hj ⟨S3,out,d,f,g,ca,D,rfl,L,F,B,sz⟩
    dsimp -zeta only;obtain⟨y,S,py⟩:=U f B;refine lX (x:=g-1) (y:=g) (λz hz=>by rw[<- hz]) (by rfl) λg'=>?_;refine Ju (qz λaT q=>?_);have q:=S3.trans q;refine Ju (zx S (Ju (uA C (q.kind.trans hk) py (λt ht=>ab (d+t) (by lia)) (rK sa (by lia)) (by lia) λk a3 g1 g2=>?_)));dsimp -zeta only
    have L1:=L.cutA (k:=k) λt u tk eu v hv=>by
     have:=g1 t tk;rw[R_at eu]at this;unfold bd at this;simp only[Yi,Zi,Bool.not_eq_true',YW]at this;have:=uf sb S v hv;lia
    have hle:∀ u∈a.toList.drop (d+k),rk y<=rk u:=λu X=>by
     obtain⟨t,et⟩:=sP X;have tl:=(Yf.mp et).1;have:=g2 (k+t) (by lia) (by lia);rw[<- Nat.add_assoc,R_at et]at this;unfold bd at this;simp only[Yi,Zi,Bool.not_eq_false',YV]at this;lia
    have T:i+2<=(out++a.extract d (d+k)).size:=by rw[Yp];lia
    refine pW (n:=d) (o:=out) (λK N=>At rk (a.toList++b.toList) N a b K f/\K+1<a.size/\i+2<=N.size/\∀ u∈a.toList.drop K,rk y<=rk u) (λn' o' h1 h2=>by rw[<- h1,<- h2]) (λ_ J=>?_) (λzk=>?_) ?_
    ·by_cases za:d+k+1=a.size
     ·rw[Jm (by simpa using za)]
      obtain⟨m,l⟩:=lone L1 za;exact Jx ⟨q,.inl ⟨_,_,rfl,m,l⟩⟩
     rw[Je (by simpa using za)];by_cases zc:d+k=a.size
     ·rw[Jm (by simpa using zc)]
      obtain⟨m,l⟩:=L1.endA (by simp_all);exact Jx ⟨q,.inl ⟨_,_,rfl,m,l⟩⟩
     rw[Je (by simpa using zc)];exact J _ _ ⟨L1,by lia,T,hle⟩
    ·obtain rfl:k=0:=by lia
     exact⟨L,F,sz,hle⟩
    clear g1 g2 hle L1 T a3;rintro K N ⟨L1,la1,T,hle⟩;refine Ju (zx S ?_);have L2:=L1.pushB S hle;by_cases R:f+1=b.size
    ·rw[Jm (by simpa using R)]
     obtain⟨m,l⟩:=L2.endB (by simp_all);exact Jx ⟨q,.inl ⟨_,_,rfl,m,l⟩⟩
    rw[Je (by simpa using R)];obtain⟨x1,M,a0⟩:=ab _ (Nat.lt_of_succ_lt la1);refine Ju (zx M (Ju (uA C (q.kind.trans hk) a0 (λt ht=>U (f+1+t) (by lia)) (rK sb (by lia)) (by lia) λW a5 c1 c2=>?_)));dsimp only
    have L3:=L2.cutB (k:=W) λt u tk eu v hv=>by
     have:=c1 t tk;rw[R_at eu]at this;unfold bd at this;simp only[Z9,YV]at this;have:=uf sa M v hv;lia
    have O:∀ u∈b.toList.drop (f+1+W),rk x1<=rk u:=λu X=>by
     obtain⟨t,et⟩:=sP X;have tl:=(Yf.mp et).1;have:=c2 (W+t) (by lia) (by lia);rw[<- Nat.add_assoc,R_at et]at this;unfold bd at this;simp only[Z9,YW]at this
     simp_all
    have a4:=T;by_cases ao:W > 0
    ·rw[Jm ao]
     by_cases zd:f+1+W=b.size
     ·rw[Jm (by simpa using zd)]
      obtain⟨m,l⟩:=L3.endB (by simp_all);exact Jx ⟨q,.inl ⟨_,_,rfl,m,l⟩⟩
     rw[Je (by simpa using zd)];have ax:f+1+W<b.size:=by lia
     refine Ju (zx M ?_);have Y:=L3.pushA M O;by_cases V:K+1+1=a.size
     ·rw[Jm (by simpa using V)]
      obtain⟨m,l⟩:=lone Y V;exact Jx ⟨q,.inl ⟨_,_,rfl,m,l⟩⟩
     rw[Je (by simpa using V)];split
     ·exact Jx ⟨q,.inr ⟨_,_,_,_,_,_,rfl,Y,by lia,ax,by simp only[Yc,Yp];lia⟩⟩
     ·exact Jx ⟨q,_,_,_,_,_,_,rfl,Y,by lia,ax,by simp only[Yc,Yp];lia⟩
    ·rw[Je ao]
     obtain rfl:W=0:=by simp_all
     rw[Nat.add_zero]at O;refine Ju (zx M ?_);have Y:=L2.pushA M O;by_cases V:K+1+1=a.size
     ·rw[Jm (by simpa using V)]
      obtain⟨m,l⟩:=lone Y V;exact Jx ⟨q,.inl ⟨_,_,rfl,m,l⟩⟩
     rw[Je (by simpa using V)];split
     ·exact Jx ⟨q,.inr ⟨_,_,_,_,_,_,rfl,Y,by lia,by lia,by simp only[Yc,Yp];lia⟩⟩
     ·exact Jx ⟨q,_,_,_,_,_,_,rfl,Y,by lia,by lia,by simp only[Yc,Yp];lia⟩
   ·rintro c G ⟨S3,out,d,f,g,ca,D,rfl,L,F,B,sz⟩
    exact⟨S3,.inr ⟨_,_,_,_,_,_,rfl,L,F,B,sz⟩⟩
   ·rintro c G ⟨S3,⟨r,x,rfl,m,l⟩|⟨out,d,f,g,ca,D,rfl,L,F,B,sz⟩⟩
    ·exact Jx ⟨S3,r,_,rfl,m,l⟩
    dsimp only;refine Ju (qz λaT q=>?_);exact Jx ⟨S3.trans q,_,_,_,_,rfl,L,F,B,by omega⟩
end
noncomputable def eH:Array Keyed->Array Keyed->StateT SortSt Sem (Array Keyed):=sortPriv% PySem.Builtin.mergeHi
structure Hi (rk:Keyed->Int) (T a b out:List Keyed):Prop where
 sa:Srt rk a
 sb:Srt rk b
 so:Srt rk out
 ao:∀ x∈a,∀ y∈out,rk x<=rk y
 bo:∀ x∈b,∀ y∈out,rk x<=rk y
 pm:(a++b++out).Perm T
section
variable {rk:Keyed->Int}{T out a b c:List Keyed}
theorem Hi.swap (h:Hi rk T a b out):Hi rk T b a out:=⟨h.sb,h.sa,h.so,h.bo,h.ao,((ZS (l₁:=b) (l₂:=a)).append_right out).trans h.pm⟩
theorem Hi.take (h:Hi rk T (a++c) b out)(le:∀ x∈b,∀ y∈c,rk x<=rk y):Hi rk T a b (c++out):=by
 obtain⟨i,g,f⟩:=Yr.mp h.sa;refine⟨i,h.sb,Yr.mpr ⟨g,h.so,λx d y e=>h.ao x (Js _ d) y e⟩,λx d y e=>?_,λx d y e=>?_,?_⟩
 ·rcases Jr.mp e with q|q
  ·exact f x d y q
  ·exact h.ao x (JT _ d) y q
 ·rcases Jr.mp e with q|q
  ·exact le x d y q
  ·exact h.bo x d y q
 ·refine List.Perm.trans ?_ h.pm
  rw[<- JW];refine List.Perm.append_right out ?_;rw[JW,JW];exact List.Perm.append_left a ZS
theorem Hi.end (h:Hi rk T [] b out):(b++out).Perm T/\Srt rk (b++out):=⟨h.pm,Yr.mpr ⟨h.sb,h.so,h.bo⟩⟩
theorem Hi.lone (h:Hi rk T a b out)(le:∀ x∈b,∀ y∈a,rk x<=rk y):(b++a++out).Perm T/\Srt rk (b++a++out):=by
 refine⟨((ZS (l₁:=b) (l₂:=a)).append_right out).trans h.pm,Yr.mpr ⟨Yr.mpr ⟨h.sb,h.sa,le⟩,h.so,λx d y c=>?_⟩⟩;rcases Jr.mp d with q|q
 ·exact h.bo x q y c
 ·exact h.ao x q y c
theorem dw {arr:Array Keyed}{n:Nat}{p:Keyed}(b:1<=n)(e:arr[n-1]?=some p):arr.toList.take n=arr.toList.take (n-1)++[p]:=by
 obtain⟨hi,e⟩:=Yf.mp e;have a:n-1<arr.toList.length:=by rw[Jy];exact hi
 have:=Z5 a;rw[Nat.sub_add_cancel b,Array.getElem_toList,e]at this;exact this
theorem gE (arr:Array Keyed){i n:Nat}(h:i<=n):arr.toList.take n=arr.toList.take i++(arr.extract i n).toList:=by
 rw[Zu,Z2];have:=List.take_add (l:=arr.toList) (i:=i) (j:=n-i);rw[show i+(n-i)=n by simp_all]at this;exact this
theorem w5 (arr:Array Keyed)(n:Nat):(arr.extract 0 n).toList=arr.toList.take n:=by
 rw[Zu,Z2,We,Nat.sub_zero]
theorem w6 {arr:Array Keyed}{i n:Nat}{x:Keyed}(h:x∈(arr.extract i n).toList):∃ j,i<=j/\j<n/\arr[j]?=some x:=by
 rw[Zu,Z2]at h;obtain⟨j,a⟩:=Zm.mp h
 have b:j<n-i:=by
  have:=(J9.mp a).1;rw[JC]at this;grind
 rw[Z7 b,List.getElem?_drop]at a;exact⟨i+j,by lia,by omega,by rw[<- Y3];exact a⟩
theorem vF {arr:Array Keyed}{n:Nat}{x:Keyed}(h:x∈arr.toList.take n):∃ j,j<n/\arr[j]?=some x:=by
 obtain⟨j,a⟩:=Zm.mp h
 have b:j<n:=by
  have:=(J9.mp a).1;rw[JC]at this;grind
 rw[Z7 b]at a;exact⟨j,b,by rw[<- Y3];exact a⟩
theorem vc {arr:Array Keyed}{n:Nat}{p:Keyed}(h:Srt rk arr.toList)(f:1<=n)(e:arr[n-1]?=some p):∀ y∈arr.toList.take n,rk y<=rk p:=by
 intro y a;obtain⟨j,c,b⟩:=vF a;have d:=(Yf.mp e).1;have:=rK h (base:=0) (n:=n) (by lia) j (n-1) (Jz _) (by lia) (by lia);rw[R_at b,R_at e]at this;exact this
end
section
variable {rk:Keyed->Int}{T:List Keyed}{out a b:Array Keyed}{na nb i:Nat}{p:Keyed}
noncomputable abbrev Bt (rk:Keyed->Int)(T:List Keyed)(a b out:Array Keyed)(na nb:Nat):Prop:=Hi rk T (a.toList.take na) (b.toList.take nb) out.toList.reverse
theorem Bt.pushA (h:Bt rk T a b out na nb)(i:1<=na)(e:a[na-1]?=some p)(le:∀ x∈b.toList.take nb,rk x<=rk p):Bt rk T a b (out.push p) (na-1) nb:=by
 have d:=h;unfold Bt at d ⊢;rw[dw i e]at d;rw[Zp,List.reverse_append];exact Hi.take (c:=[p]) d λx g y f=>by rw[Ja.mp f];exact le x g
theorem Bt.pushB (h:Bt rk T a b out na nb)(c:1<=nb)(e:b[nb-1]?=some p)(le:∀ x∈a.toList.take na,rk x<=rk p):Bt rk T a b (out.push p) na (nb-1):=(Bt.pushA (a:=b) (b:=a) h.swap c e le).swap
theorem Bt.cutA (h:Bt rk T a b out na nb)(hi:i<=na)(le:∀ j x,i<=j->j<na->a[j]?=some x->∀ y∈b.toList.take nb,rk y<=rk x):Bt rk T a b (out++(a.extract i na).reverse) i nb:=by
 have c:=h;unfold Bt at c ⊢;rw[gE a hi]at c;rw[Y7,List.reverse_append,Array.toList_reverse,List.reverse_reverse]
 exact Hi.take c λy g x k=>by
  obtain⟨j,f,d,e⟩:=w6 k;exact le j x f d e y g
theorem Bt.cutB (h:Bt rk T a b out na nb)(hi:i<=nb)(le:∀ j x,i<=j->j<nb->b[j]?=some x->∀ y∈a.toList.take na,rk y<=rk x):Bt rk T a b (out++(b.extract i nb).reverse) na i:=(Bt.cutA (a:=b) (b:=a) h.swap hi le).swap
theorem Bt.endA (h:Bt rk T a b out 0 nb):(a.extract 0 0++b.extract 0 nb++out.reverse).toList.Perm T/\Srt rk (a.extract 0 0++b.extract 0 nb++out.reverse).toList:=by
 rw[Y7,Y7,w5,w5,ZN,List.nil_append,Array.toList_reverse];exact Hi.end h
theorem Bt.endB (h:Bt rk T a b out na 0):(a.extract 0 na++b.extract 0 0++out.reverse).toList.Perm T/\Srt rk (a.extract 0 na++b.extract 0 0++out.reverse).toList:=by
 rw[Y7,Y7,w5,w5,ZN,JZ,Array.toList_reverse];exact Hi.end h.swap
theorem Bt.lone (h:Bt rk T a b out na nb)(le:∀ x∈b.toList.take nb,∀ y∈a.toList.take na,rk x<=rk y):(b.extract 0 nb++a.extract 0 na++out.reverse).toList.Perm T/\Srt rk (b.extract 0 nb++a.extract 0 na++out.reverse).toList:=by
 rw[Y7,Y7,w5,w5,Array.toList_reverse];exact Hi.lone h le
end
section
variable {prog:Yo}{w:YI}{A:YO}{E:Jo->JO->Prop}{s:JO}{κ:SortKind}{P:Keyed->Prop}{rk:Keyed->Int}
theorem zbh (C:Cmp prog w A s κ P rk){st:SortSt}{a b:Array Keyed}{Q:Array Keyed->SortSt->Prop}(hk:kindOf st=κ)(pa:∀ x∈a.toList,P x)(pb:∀ x∈b.toList,P x)(sa:Srt rk a.toList)(sb:Srt rk b.toList)(a1:1<=a.size)(b1:1<=b.size)(first:∀ x,b[0]?=some x->∀ y∈a.toList,rk x<=rk y)(last:∀ x,a[a.size-1]?=some x->∀ y∈b.toList,rk y<=rk x)(h:∀ r st',Sm st st'->r.toList.Perm (a.toList++b.toList)->Srt rk r.toList->Q r st'):wpS (model prog w) A E s (eH a b) Q st:=by
 have S:∀ i,i<a.size->∃ x,a[i]?=some x/\P x:=λi hi=>⟨_,getElem?_pos a i hi,pa _ (by simp)⟩;have Y:∀ i,i<b.size->∃ x,b[i]?=some x/\P x:=λi hi=>⟨_,getElem?_pos b i hi,pb _ (by simp)⟩;obtain⟨z0,e0,_⟩:=S (a.size-1) (by lia)
 have lone:∀ {out:Array Keyed}{na:Nat},Bt rk (a.toList++b.toList) a b out na 1->(b.extract 0 1++a.extract 0 na++out.reverse).toList.Perm (a.toList++b.toList)/\Srt rk (b.extract 0 1++a.extract 0 na++out.reverse).toList:=λ{out na} L=>L.lone λx hx y hy=>by
  obtain⟨j,j1,ej⟩:=vF hx;exact first x (by rw[show 0=j by simp_all];exact ej) y (List.mem_of_mem_take hy)
 have L0:Bt rk (a.toList++b.toList) a b #[z0] (a.size-1) b.size:=by
  have w0:Bt rk (a.toList++b.toList) a b #[] a.size b.size:=by
   have e1:a.toList.take a.size=a.toList:=Y8 (by rw[Jy];exact Jd _);have e2:b.toList.take b.size=b.toList:=Y8 (by rw[Jy];exact Jd _);unfold Bt;rw[e1,e2];exact⟨sa,sb,List.Pairwise.nil,λx hx y hy=>by simp at hy,λx hx y hy=>by simp at hy,by simp⟩
  exact w0.pushA a1 e0 λx hx=>last z0 e0 x (List.mem_of_mem_take hx)
 have size:∀ {out:Array Keyed}{na nb:Nat},Bt rk (a.toList++b.toList) a b out na nb->out.size<=a.size+b.size:=λ{out na nb} L=>by
  have:=L.pm.length_eq;simp only[Jb,List.length_reverse,Jy]at this;lia
 refine Ju (wU ?_);refine Ju (zx e0 ?_);dsimp -zeta only;by_cases z1:a.size-1=0
 ·rw[Jm (by simpa using z1)]
  rw[z1]at L0 ⊢;obtain⟨f,e⟩:=L0.endA;exact Jx (h _ _ (Sm.refl _) f e)
 rw[Je (by simpa using z1)];by_cases z2:b.size=1
 ·rw[Jm (by simpa using z2)]
  rw[z2]at L0 ⊢;obtain⟨f,e⟩:=lone L0;exact Jx (h _ _ (Sm.refl _) f e)
 rw[Je (by simpa using z2)];refine Ju (Wd ?_)
 refine Ju (Z1 (Yn (I:=λi c m=>Sm st m/\∃ na nb out g,c=(none,na,nb,out,g)/\Bt rk (a.toList++b.toList) a b out na nb/\1<=na/\na<=a.size/\2<=nb/\nb<=b.size/\i+1<=out.size)
  (Q:=λc m=>Sm st m/\∃ r x,c=(some r,x)/\r.toList.Perm (a.toList++b.toList)/\Srt rk r.toList) ?step ?fin ⟨Sm.refl _,_,_,_,_,rfl,L0,by lia,by simp_all,by lia,by lia,by simp⟩) ?post)
 case post =>
  rintro c m ⟨S1,r,x,rfl,f,e⟩;exact Jx (h _ _ S1 f e)
 case fin =>
  rintro c m ⟨S1,na,nb,out,g,rfl,L,_,_,_,_,sz⟩;have:=size L;lia
 case step =>
  rintro i c m _ hi ⟨S1,na,nb,out,g,rfl,L,q,d,H,l,sz⟩;dsimp -zeta only
  refine Ju (Z1 (Yn (I:=λj c F=>F=m/\∃ na nb out ca B,c=(none,na,nb,out,ca,B)/\Bt rk (a.toList++b.toList) a b out na nb/\1<=na/\na<=a.size/\2<=nb/\nb<=b.size/\i+1+j<=out.size)
   (Q:=λc F=>F=m/\((∃ r x,c=(some r,x)/\r.toList.Perm (a.toList++b.toList)/\Srt rk r.toList)\/∃ na nb out ca B,c=(none,na,nb,out,ca,B)/\Bt rk (a.toList++b.toList) a b out na nb/\1<=na/\na<=a.size/\2<=nb/\nb<=b.size/\i+2<=out.size)) ?_ ?_ ⟨rfl,_,_,_,_,_,rfl,L,q,d,H,l,by omega⟩) ?_)
  ·rintro j c F _ hj ⟨rfl,na,nb,out,ca,B,rfl,L,q,d,H,l,sz⟩
   dsimp only;obtain⟨x,ex,px⟩:=S (na-1) (by lia);obtain⟨y,N,py⟩:=Y (nb-1) (by lia);refine Ju (zx N (Ju (zx ex (Ju (o9 C (S1.kind.trans hk) py px ?_)))));by_cases z:rk y<rk x
   ·rw[Jt z]
    dsimp -zeta only;rw[Jm rfl];have R:=L.pushA q ex λu W=>Zx (vc sb (by lia) N u W) (Int.le_of_lt z);refine Ju (zx ex ?_);by_cases K:na-1=0
    ·rw[Jm (by simpa using K)]
     rw[K]at R ⊢;obtain⟨f,e⟩:=R.endA;exact Jx ⟨rfl,.inl ⟨_,_,rfl,f,e⟩⟩
    ·rw[Je (by simpa using K)]
     by_cases zg:ca+1>=g
     ·rw[Jm zg]
      exact Jx ⟨rfl,.inr ⟨_,_,_,_,_,rfl,R,by lia,by lia,H,l,by rw[Yc];lia⟩⟩
     ·rw[Je zg]
      exact Jx ⟨rfl,_,_,_,_,_,rfl,R,by lia,by grind,H,l,by rw[Yc];lia⟩
   ·rw[Jj z]
    dsimp only;rw[Je Jh];have R:=L.pushB (by lia) N λu W=>Zx (vc sa q ex u W) (by simp_all);refine Ju (zx N ?_);by_cases K:nb-1=1
    ·rw[Jm (by simpa using K)]
     rw[K]at R ⊢;obtain⟨f,e⟩:=lone R;exact Jx ⟨rfl,.inl ⟨_,_,rfl,f,e⟩⟩
    ·rw[Je (by simpa using K)]
     by_cases zg:B+1>=g
     ·rw[Jm zg]
      exact Jx ⟨rfl,.inr ⟨_,_,_,_,_,rfl,R,q,d,by lia,by lia,by rw[Yc];lia⟩⟩
     ·rw[Je zg]
      exact Jx ⟨rfl,_,_,_,_,_,rfl,R,q,d,by lia,by grind,by rw[Yc];lia⟩
  ·rintro c F ⟨rfl,na,nb,out,ca,B,rfl,L,q,d,H,l,sz⟩
   have:=size L;omega
  ·rintro c F ⟨rfl,⟨r,x,rfl,f,e⟩|⟨na,nb,out,ca,B,rfl,L,q,d,H,l,sz⟩⟩
   ·exact Jx ⟨S1,r,_,rfl,f,e⟩
   dsimp -zeta only;refine Ju (wU ?_)
   refine Ju (Z1 (Yn (I:=λj c D=>Sm st D/\∃ na nb out g ca B,c=(none,na,nb,out,g,ca,B)/\Bt rk (a.toList++b.toList) a b out na nb/\1<=na/\na<=a.size/\2<=nb/\nb<=b.size/\i+2<=out.size)
    (Q:=λc D=>Sm st D/\((∃ r x,c=(some r,x)/\r.toList.Perm (a.toList++b.toList)/\Srt rk r.toList)\/∃ na nb out g ca B,c=(none,na,nb,out,g,ca,B)/\Bt rk (a.toList++b.toList) a b out na nb/\1<=na/\na<=a.size/\2<=nb/\nb<=b.size/\i+2<=out.size)) ?_ ?_ ⟨S1,_,_,_,_,_,_,rfl,L,q,d,H,l,sz⟩) ?_)
   ·rintro j c D _ hj ⟨S3,na,nb,out,g,ca,B,rfl,L,q,d,H,l,sz⟩
    dsimp -zeta only;obtain⟨y,N,py⟩:=Y (nb-1) (by lia);refine lX (x:=g-1) (y:=g) (λz hz=>by rw[<- hz]) (by rfl) λg'=>?_;refine Ju (qz λax p=>?_);have p:=S3.trans p;refine Ju (zx N (Ju (uA C (p.kind.trans hk) py (λt ht=>S (0+t) (by lia)) (rK sa (by simp_all)) (by lia) λk ao g1 g2=>?_)));dsimp -zeta only
    have L1:=L.cutA (i:=k) ao λt u V tn eu v hv=>by
     have:=g2 t V tn;rw[ZM,R_at eu]at this;unfold bd at this;simp only[Yi,Zi,Bool.not_eq_false',YV]at this;have:=vc sb (by lia) N v hv;lia
    have hle:∀ u∈a.toList.take k,rk u<=rk y:=λu W=>by
     obtain⟨t,V,et⟩:=vF W;have:=g1 t V;rw[ZM,R_at et]at this;unfold bd at this;simp only[Yi,Zi,Bool.not_eq_true',YW]at this
     simp_all
    have X:i+2<=(out++(a.extract k na).reverse).size:=by rw[Yp];lia
    generalize ek:na-k=kk;refine pW (n:=na) (o:=out) (λk M=>Bt rk (a.toList++b.toList) a b M k nb/\1<=k/\k<=a.size/\i+2<=M.size/\∀ u∈a.toList.take k,rk u<=rk y) (λn' o' h1 h2=>by rw[<- h1,<- h2]) (λ_ J=>?_) (λzk=>?_) ?_
    ·by_cases zc:k=0
     ·rw[Jm (by simpa using zc)]
      subst zc;obtain⟨f,e⟩:=L1.endA;exact Jx ⟨p,.inl ⟨_,_,rfl,f,e⟩⟩
     rw[Je (by simpa using zc)];exact J _ _ ⟨L1,by lia,by lia,X,hle⟩
    ·obtain rfl:k=na:=by lia
     exact⟨L,q,d,sz,hle⟩
    clear g1 g2 hle L1 X ek ao;rintro k M ⟨L1,ka,a3,X,hle⟩;refine Ju (zx N ?_);have L2:=L1.pushB (by lia) N hle;by_cases K:nb-1=1
    ·rw[Jm (by simpa using K)]
     rw[K]at L2 ⊢;obtain⟨f,e⟩:=lone L2;exact Jx ⟨p,.inl ⟨_,_,rfl,f,e⟩⟩
    rw[Je (by simpa using K)];obtain⟨x1,G,aT⟩:=S (k-1) (by lia);refine Ju (zx G (Ju (uA C (p.kind.trans hk) aT (λt ht=>Y (0+t) (by lia)) (rK sb (by lia)) (by lia) λZ a0 c1 c2=>?_)));dsimp only
    have L3:=L2.cutB (i:=Z) a0 λt u V tn eu v hv=>by
     have:=c2 t V tn;rw[ZM,R_at eu]at this;unfold bd at this;simp only[Z9,YW]at this;have:=vc sa ka G v hv;lia
    have T:∀ u∈b.toList.take Z,rk u<=rk x1:=λu W=>by
     obtain⟨t,V,et⟩:=vF W;have:=c1 t V;rw[ZM,R_at et]at this;unfold bd at this;simp only[Z9,YV]at this;lia
    by_cases ab:nb-1-Z > 0
    ·rw[Jm ab]
     by_cases zd:Z=1
     ·rw[Jm (by simpa using zd)]
      subst zd;obtain⟨f,e⟩:=lone L3;exact Jx ⟨p,.inl ⟨_,_,rfl,f,e⟩⟩
     rw[Je (by simpa using zd)];by_cases zf:Z=0
     ·rw[Jm (by simpa using zf)]
      subst zf;obtain⟨f,e⟩:=L3.endB;exact Jx ⟨p,.inl ⟨_,_,rfl,f,e⟩⟩
     rw[Je (by simpa using zf)];refine Ju (zx G ?_);have O:=L3.pushA ka G T;by_cases U:k-1=0
     ·rw[Jm (by simpa using U)]
      rw[U]at O ⊢;obtain⟨f,e⟩:=O.endA;exact Jx ⟨p,.inl ⟨_,_,rfl,f,e⟩⟩
     rw[Je (by simpa using U)];split
     ·exact Jx ⟨p,.inr ⟨_,_,_,_,_,_,rfl,O,by lia,by lia,by lia,by lia,by simp only[Yc,Yp];lia⟩⟩
     ·exact Jx ⟨p,_,_,_,_,_,_,rfl,O,by lia,by lia,by lia,by lia,by simp only[Yc,Yp];lia⟩
    ·rw[Je ab]
     obtain rfl:Z=nb-1:=by lia
     refine Ju (zx G ?_);have O:=L2.pushA ka G T;by_cases U:k-1=0
     ·rw[Jm (by simpa using U)]
      rw[U]at O ⊢;obtain⟨f,e⟩:=O.endA;exact Jx ⟨p,.inl ⟨_,_,rfl,f,e⟩⟩
     rw[Je (by simpa using U)];split
     ·exact Jx ⟨p,.inr ⟨_,_,_,_,_,_,rfl,O,by lia,by lia,by lia,by lia,by simp only[Yc,Yp];lia⟩⟩
     ·exact Jx ⟨p,_,_,_,_,_,_,rfl,O,by lia,by lia,by lia,by lia,by simp only[Yc,Yp];lia⟩
   ·rintro c D ⟨S3,na,nb,out,g,ca,B,rfl,L,q,d,H,l,sz⟩
    exact⟨S3,.inr ⟨_,_,_,_,_,_,rfl,L,q,d,H,l,sz⟩⟩
   ·rintro c D ⟨S3,⟨r,x,rfl,f,e⟩|⟨na,nb,out,g,ca,B,rfl,L,q,d,H,l,sz⟩⟩
    ·exact Jx ⟨S3,r,_,rfl,f,e⟩
    dsimp only;refine Ju (qz λax p=>?_);exact Jx ⟨S3.trans p,_,_,_,_,rfl,L,q,d,H,l,by omega⟩
end
section
variable {rk:Keyed->Int}
theorem ur (b:Nat):∀ (l:List Keyed) (o:Nat) (arr:Array Keyed),b+o+l.length<=arr.size->(List.foldl (λ(a:Array Keyed) (x:Keyed × Nat)=>a.setIfInBounds (b+x.2) x.1) arr (l.zipIdx o)).toList=arr.toList.take (b+o)++l++arr.toList.drop (b+o+l.length)
 | [],o,arr,_=>by
  show arr.toList=_
  rw[JZ,Zj,Nat.add_zero,List.take_append_drop]
 | x::l,o,arr,h=>by
  rw[JM]at h;rw[List.zipIdx_cons,List.foldl_cons,ur b l (o+1) _ (by rw[Array.size_setIfInBounds];lia)];have c:b+o<arr.toList.length:=by rw[Jy];lia
  rw[Array.toList_setIfInBounds,<- Nat.add_assoc,List.drop_set_of_lt (by lia),JM,show b+o+1+l.length=b+o+(l.length+1) by lia]
  have e:(arr.toList.set (b+o) x).take (b+o+1)=arr.toList.take (b+o)++[x]:=by
   rw[Z5 (by rw[List.length_set];exact c),List.getElem_set_self,List.take_set_of_le (Jd _)]
  rw[e,JW (arr.toList.take (b+o)) [x] l];rfl
theorem jA {arr:Array Keyed}{i n j:Nat}(h:i+j<n)(hn:n<=arr.size):(arr.extract i n)[j]?=arr[i+j]?:=by
 rw[Array.getElem?_extract_of_lt (by lia)];exact(getElem?_pos arr (i+j) (by lia)).symm
theorem mH {arr:Array Keyed}{lo n:Nat}(h:Up rk arr lo n)(hn:lo+n<=arr.size):Srt rk (arr.extract lo (lo+n)).toList:=by
 refine List.pairwise_iff_getElem.mpr λi j hi b c=>?_;have a:(arr.extract lo (lo+n)).size=n:=by rw[Array.size_extract];simp_all
 rw[Jy,a]at hi b;have:=h (lo+i) (lo+j) (by lia) (by lia) (by simp_all);rw[R_at (getElem?_pos arr (lo+i) (by lia)),R_at (getElem?_pos arr (lo+j) (by lia))]at this;simpa using this
end
section
variable {prog:Yo}{w:YI}{A:YO}{E:Jo->JO->Prop}{s:JO}{κ:SortKind}{P:Keyed->Prop}{rk:Keyed->Int}{a₀:Array Keyed}
theorem zbl (C:Cmp prog w A s κ P rk){st:SortSt}{Q:Bool->SortSt->Prop}{i sa na p sb nb q:Nat}(D:Bs κ P a₀ st)(e1:(pendingOf st)[i]?=some (sa,na,p))(e2:(pendingOf st)[i+1]?=some (sb,nb,q))(hs:sb=sa+na)(n1:1<=na)(n2:1<=nb)(hz:sb+nb<=a₀.size)(K:Up rk (arrOf st) sa na)(J:Up rk (arrOf st) sb nb)(h:∀ st',Bs κ P a₀ st'->pendingOf st'=((pendingOf st).setIfInBounds i (sa,na+nb,p)).eraseIdxIfInBounds (i+1)->(∀ k,k<sa\/sb+nb<=k->R rk (arrOf st') k=R rk (arrOf st) k)->Up rk (arrOf st') sa (na+nb)->Q true st'):wpS (model prog w) A E s (mergeAt' i) Q st:=by
 refine Ju (Wd ?_);dsimp only;rw[e1,e2];dsimp only;obtain⟨b0,X,a0,ax⟩:=D.at (i:=sb) (by lia) rk;have sz:=D.size
 have Z:∀ {c st2:SortSt}{Q':PUnit->SortSt->Prop},Q' ⟨⟩ st2->wpS (model prog w) A E s (set st2:StateT SortSt Sem PUnit) Q' c:=λ{c st2 Q'} hq=>by
  unfold wpS;rw[StateT.run_set];exact J7 ⟨rfl,hq⟩
 refine Ju (Z (st2:=SortSt.mk' (kindOf st) (arrOf st) (((pendingOf st).setIfInBounds i (sa,na+nb,p)).eraseIdxIfInBounds (i+1)) (gallopOf st) (failedOf st)) ?_);generalize M:SortSt.mk' (kindOf st) (arrOf st) (((pendingOf st).setIfInBounds i (sa,na+nb,p)).eraseIdxIfInBounds (i+1)) (gallopOf st) (failedOf st)=c;have d:Bs κ P a₀ c:=by rw[<- M];exact⟨D.kind,D.fail,D.perm,D.all⟩
 have U:arrOf c=arrOf st:=by rw[<- M]
 have ep:pendingOf c=((pendingOf st).setIfInBounds i (sa,na+nb,p)).eraseIdxIfInBounds (i+1):=by rw[<- M]
 have pat:∀ j,j<a₀.size->∃ x,(arrOf st)[j]?=some x/\P x:=λj B=>by
  obtain⟨x,ex,px,_⟩:=D.at B rk;exact⟨x,ex,px⟩
 refine Ju (zx X (Ju (uA (arr:=arrOf st) C d.kind a0 (λt S=>pat (sa+t) (by lia)) K (by lia) λk a5 g1 g2=>?_)));dsimp only
 have f1:∀ j,sa<=j->j<sa+k->R rk (arrOf st) j<=rk b0:=λj l o=>by
  have:=g1 (j-sa) (by lia);rw[show sa+(j-sa)=j by simp_all]at this;unfold bd at this;simp only[Yi,Zi,Bool.not_eq_true',YW]at this
  simp_all
 have f2:∀ j,sa+k<=j->j<sb->rk b0<=R rk (arrOf st) j:=λj l o=>by
  have:=g2 (j-sa) (by lia) (by lia);rw[show sa+(j-sa)=j by lia]at this;unfold bd at this;simp only[Yi,Zi,Bool.not_eq_false',YV]at this;lia
 have f0:∀ j,sb<=j->j<sb+nb->rk b0<=R rk (arrOf st) j:=λj l o=>by rw[<- ax];exact J _ _ (Jd _) l o
 by_cases zk:na-k=0
 ·rw[Jm (by simpa using zk)]
  refine Jx (h c d ep (λj _=>by rw[U]) λx y g b I=>?_);rw[U];by_cases q1:y<sb
  ·exact K _ _ g b (by simp_all)
  ·by_cases q2:sb<=x
   ·exact J _ _ q2 b (by lia)
   ·exact Zx (f1 x g (by lia)) (f0 y (by simp_all) (by lia))
 rw[Je (by simpa using zk)];have ka:sa+k+(na-k)-1=sb-1:=by lia
 rw[ka];obtain⟨l0,V,aT,ao⟩:=D.at (i:=sb-1) (by lia) rk;refine Ju (zx V (Ju (uA (arr:=arrOf st) C d.kind aT (λt S=>pat (sb+t) (by lia)) J (by lia) λn a4 c1 c2=>?_)));dsimp only
 have f3:∀ j,sb<=j->j<sb+n->R rk (arrOf st) j<=rk l0:=λj l o=>by
  have:=c1 (j-sb) (by grind);rw[show sb+(j-sb)=j by simp_all]at this;unfold bd at this;simp only[Z9,YV]at this;lia
 have f4:∀ j,sb+n<=j->j<sb+nb->rk l0<=R rk (arrOf st) j:=λj l o=>by
  have:=c2 (j-sb) (by lia) (by lia);rw[show sb+(j-sb)=j by lia]at this;unfold bd at this;simp only[Z9,YW]at this
  simp_all
 have f5:∀ j,sa<=j->j<sb->R rk (arrOf st) j<=rk l0:=λj l o=>by rw[<- ao];exact K _ _ l (by lia) (by lia)
 by_cases zn:n=0
 ·rw[Jm (by simpa using zn)]
  refine Jx (h c d ep (λj _=>by rw[U]) λx y g b I=>?_);rw[U];by_cases q1:y<sb
  ·exact K _ _ g b (by simp_all)
  ·by_cases q2:sb<=x
   ·exact J _ _ q2 b (by lia)
   ·exact Zx (f5 x g (by simp_all)) (f4 y (by simp_all) (by lia))
 rw[Je (by simpa using zn)];have sx:((arrOf st).extract (sa+k) sb).size=na-k:=by rw[Array.size_extract];lia
 have sy:((arrOf st).extract sb (sb+n)).size=n:=by rw[Array.size_extract];lia
 have px:∀ x∈((arrOf st).extract (sa+k) sb).toList,P x:=λx g=>by
  obtain⟨j,l,o,L⟩:=w6 g;obtain⟨y,T,py⟩:=pat j (by lia);rw[L]at T;cases T;exact py
 have py:∀ x∈((arrOf st).extract sb (sb+n)).toList,P x:=λx g=>by
  obtain⟨j,l,o,L⟩:=w6 g;obtain⟨y,T,py⟩:=pat j (by lia);rw[L]at T;cases T;exact py
 have ox:Srt rk ((arrOf st).extract (sa+k) sb).toList:=by
  have:=mH (rk:=rk) (arr:=arrOf st) (lo:=sa+k) (n:=na-k) (λx y g b I=>K x y (by lia) b (by grind)) (by lia)
  rwa [show sa+k+(na-k)=sb by grind]at this
 have oy:Srt rk ((arrOf st).extract sb (sb+n)).toList:=mH (λx y g b I=>J x y (by omega) b (by lia)) (by lia)
 have first:∀ x,((arrOf st).extract sb (sb+n))[0]?=some x->∀ y∈((arrOf st).extract (sa+k) sb).toList,rk x<=rk y:=λx ex y I=>by
  rw[jA (by lia) (by lia),Nat.add_zero,X]at ex;obtain⟨j,l,o,L⟩:=w6 I;have:=f2 j l o;rw[R_at L]at this;cases ex;exact this
 have last:∀ x,((arrOf st).extract (sa+k) sb)[((arrOf st).extract (sa+k) sb).size-1]?=some x->∀ y∈((arrOf st).extract sb (sb+n)).toList,rk y<=rk x:=λx ex y I=>by
  rw[sx,jA (by grind) (by lia),show sa+k+(na-k-1)=sb-1 by lia,V]at ex;obtain⟨j,l,o,L⟩:=w6 I;have:=f3 j l (by omega);rw[R_at L]at this;cases ex;exact this
 have fin:∀ (m:Array Keyed) (st2:SortSt),Sm c st2->m.toList.Perm (((arrOf st).extract (sa+k) sb).toList++((arrOf st).extract sb (sb+n)).toList)->Srt rk m.toList ->
   wpS (model prog w) A E s (do
    modify λs=>setArr s (m.toList.zipIdx.foldl (λ(a:Array Keyed) (x:Keyed × Nat)=>a.setIfInBounds (sa+k+x.2) x.1) (arrOf s))
    let s' <- get
    pure (failedOf s').isNone) Q st2:=by
  intro m st2 G pm O;have Y:arrOf st2=arrOf st:=G.arr.trans U;have N:m.toList.length=na-k+n:=by rw[pm.length_eq,Jb,Jy,Jy,sx,sy]
  have wl:=ur (sa+k) m.toList 0 (arrOf st2) (by rw[Y,sz,N];grind);generalize hW:List.foldl (λ(a:Array Keyed) (x:Keyed × Nat)=>a.setIfInBounds (sa+k+x.2) x.1) (arrOf st2) m.toList.zipIdx=W at wl;rw[Nat.add_zero,N,Y,show sa+k+(na-k+n)=sb+n by grind]at wl
  have ab:(arrOf st).toList=(arrOf st).toList.take (sa+k)++(((arrOf st).extract (sa+k) sb).toList++((arrOf st).extract sb (sb+n)).toList)++(arrOf st).toList.drop (sb+n):=by
   have d1:=sQ (arrOf st) (sa+k) (na-k);rw[show sa+k+(na-k)=sb by lia]at d1;have d2:=sQ (arrOf st) sb n;rw[JW,JW,<- d2,<- d1,List.take_append_drop]
  have pw:W.Perm (arrOf st):=by
   rw[Array.perm_iff_toList_perm,wl]
   conv=>rhs;rw[ab]
   exact((pm.append_left _).append_right _)
  have r:((arrOf st).toList.take (sa+k)).length=sa+k:=by rw[JC,Jy,sz];lia
  have a3:W.size=a₀.size:=by rw[pw.size_eq,sz]
  have z:∀ j,j<sa+k->R rk W j=R rk (arrOf st) j:=λj B=>R_congr (by
   rw[<- Y3,<- Y3,wl,JW,Zy (by rw[r];exact B),Z7 B])
  have f:∀ j,sb+n<=j->R rk W j=R rk (arrOf st) j:=λj B=>R_congr (by
   rw[<- Y3,<- Y3,wl,Zs (by rw[Jb,r,N];lia),Jb,r,N,List.getElem?_drop]
   congr 1;lia)
  have mid:∀ j,sa+k<=j->j<sb+n->∃ x,m[j-(sa+k)]?=some x/\R rk W j=rk x:=λj l o=>by
   have jl:j-(sa+k)<m.size:=by rw[<- Jy,N];lia
   refine⟨_,getElem?_pos m _ jl,R_at ?_⟩;rw[<- Y3,wl,JW,Zs (by rw[r];exact l),r,Zy (by rw[N];lia),Y3];exact getElem?_pos m _ jl
  have kids:∀ j x,m[j]?=some x->∃ t,((sa+k<=t/\t<sb)\/(sb<=t/\t<sb+n))/\R rk (arrOf st) t=rk x:=λj x ex=>by
   have hm:x∈m.toList:=by
    obtain⟨B,e⟩:=Yf.mp ex;rw[<- e];simp
   rcases Jr.mp (pm.mem_iff.mp hm) with u|u
   ·obtain⟨t,F,H,et⟩:=w6 u
    exact⟨t,.inl ⟨F,H⟩,R_at et⟩
   ·obtain⟨t,F,H,et⟩:=w6 u
    exact⟨t,.inr ⟨F,H⟩,R_at et⟩
  refine Ju (Wf (Ju (Wd (Jx ?_))));rw[hW]
  have ff:(failedOf (setArr st2 W)).isNone=true:=by
   show (failedOf st2).isNone=true;rw[G.fail,d.fail];rfl
  rw[ff];refine h _ ⟨G.kind.trans d.kind,G.fail.trans d.fail,pw.trans D.perm,D.all⟩ (G.pend.trans ep) (λj B=>?_) λx y g b I=>?_
  ·rcases B with B|B
   ·exact z j (by lia)
   ·exact f j (by lia)
  ·show R rk W x<=R rk W y
   by_cases x1:x<sa+k
   ·rw[z x x1]
    by_cases y1:y<sa+k
    ·rw[z y y1];exact K _ _ g b (by lia)
    ·by_cases y2:y<sb+n
     ·obtain⟨v,ev,rv⟩:=mid y (by lia) y2
      obtain⟨t,S,rt⟩:=kids _ v ev;rw[rv,<- rt];rcases S with ⟨F,H⟩|⟨F,H⟩
      ·exact K _ _ g (by lia) (by lia)
      ·exact Zx (f1 x g x1) (f0 t F (by lia))
     ·rw[f y (by lia)]
      exact Zx (f1 x g x1) (f0 y (by lia) (by lia))
   ·by_cases x2:x<sb+n
    ·obtain⟨u,eu,ru⟩:=mid x (by lia) x2
     rw[ru];by_cases y2:y<sb+n
     ·obtain⟨v,ev,rv⟩:=mid y (by lia) y2
      rw[rv]
      have:=rK O (base:=0) (n:=m.size) (by lia) (x-(sa+k)) (y-(sa+k)) (Jz _) (by lia) (by
       have:=(Yf.mp ev).1
       lia)
      rwa [R_at eu,R_at ev]at this
     ·rw[f y (by lia)]
      obtain⟨t,S,rt⟩:=kids _ u eu;rw[<- rt];rcases S with ⟨F,H⟩|⟨F,H⟩
      ·exact Zx (f5 t (by lia) H) (f4 y (by lia) (by lia))
      ·exact J _ _ F (by lia) (by lia)
    ·rw[f x (by lia),f y (by lia)]
     exact J _ _ (by lia) b (by lia)
 split
 ·exact Ju (za7 C d.kind px py ox oy (by rw[sx];lia) (by rw[sy];lia) first last λm st2 G pm O=>fin m st2 G pm O)
 ·exact Ju (zbh C d.kind px py ox oy (by rw[sx];lia) (by rw[sy];lia) first last λm st2 G pm O=>fin m st2 G pm O)
noncomputable abbrev Run:=Nat × Nat × Nat
noncomputable def Runs:List Run->Nat->Nat->Prop
 | [],u,v=>u=v
 | x::r,u,v=>x.1=u/\1<=x.2.1/\Runs r (u+x.2.1) v
theorem Runs.cut:∀ {l r:List Run}{u v:Nat},Runs (l++r) u v->∃ m,Runs l u m/\Runs r m v
 | [],_,u,_,h=>⟨u,rfl,h⟩
 | x::l,r,u,v,⟨e,d,c⟩=>by
  obtain⟨m,a,b⟩:=Runs.cut (l:=l) (r:=r) c;exact⟨m,⟨e,d,a⟩,b⟩
theorem Runs.app:∀ {l r:List Run}{u m v:Nat},Runs l u m->Runs r m v->Runs (l++r) u v
 | [],_,_,_,_,h,g=>by cases h;exact g
 | x::l,r,u,m,v,⟨c,b,a⟩,g=>⟨c,b,Runs.app a g⟩
theorem Runs.len:∀ {l:List Run}{u v:Nat},Runs l u v->u+l.length<=v
 | [],_,_,h=>by cases h;exact Jd _
 | x::l,u,v,⟨c,b,a⟩=>by
  have:=Runs.len a;rw[JM];lia
theorem Runs.mem:∀ {l:List Run}{u v:Nat}{x:Run},Runs l u v->x∈l->u<=x.1/\1<=x.2.1/\x.1+x.2.1<=v
 | y::l,u,v,x,⟨e,d,b⟩,c=>by
  rcases Jq.mp c with rfl|a
  ·have:=Runs.len b;lia
  ·have:=Runs.mem b a;lia
theorem Runs.modify {f:Run->Run}(a:∀ x,(f x).1=x.1/\(f x).2.1=x.2.1):∀ {l:List Run}{i u v:Nat},Runs l u v->Runs (l.modify i f) u v
 | [],i,_,_,h=>by cases i<;>exact h
 | x::l,0,u,v,⟨d,c,b⟩=>by
  rw[List.modify_zero_cons]
  refine⟨(a x).1.trans d,by rw[(a x).2];exact c,by rw[(a x).2];exact b⟩
 | x::l,i+1,u,v,⟨d,c,b⟩=>by
  rw[List.modify_succ_cons];exact⟨d,c,Runs.modify a b⟩
theorem wz {f:Run->Run}(a:∀ x,(f x).1=x.1/\(f x).2.1=x.2.1):∀ {l:List Run}{i:Nat}{x:Run},x∈l.modify i f->∃ y∈l,x.1=y.1/\x.2.1=y.2.1
 | [],i,x,h=>by cases i<;>simp at h
 | y::l,0,x,h=>by
  rw[List.modify_zero_cons]at h;rcases Jq.mp h with rfl|b
  ·exact⟨y,JH,(a y).1,(a y).2⟩
  ·exact⟨x,JD _ b,rfl,rfl⟩
 | y::l,i+1,x,h=>by
  rw[List.modify_succ_cons]at h;rcases Jq.mp h with rfl|b
  ·exact⟨x,JH,rfl,rfl⟩
  ·obtain⟨z,c,e⟩:=wz a b
   exact⟨z,JD _ c,e⟩
structure Ji (κ:SortKind) (P:Keyed->Prop) (rk:Keyed->Int) (a₀:Array Keyed) (lo:Nat) (st:SortSt):Prop where
 b:Bs κ P a₀ st
 runs:Runs (pendingOf st).toList 0 lo
 up:∀ x∈(pendingOf st).toList,Up rk (arrOf st) x.1 x.2.1
theorem eF (C:Cmp prog w A s κ P rk){st:SortSt}{lo i:Nat}{Q:Bool->SortSt->Prop}(J:Ji κ P rk a₀ lo st)(X:lo<=a₀.size)(hi:i+1<(pendingOf st).size)(h:∀ st',Ji κ P rk a₀ lo st'->(∀ k,lo<=k->R rk (arrOf st') k=R rk (arrOf st) k)->(pendingOf st').size+1=(pendingOf st).size->Q true st'):wpS (model prog w) A E s (mergeAt' i) Q st:=by
 obtain⟨x,ex⟩:∃ x,(pendingOf st)[i]?=some x:=⟨_,getElem?_pos _ i (by lia)⟩;obtain⟨y,I⟩:∃ y,(pendingOf st)[i+1]?=some y:=⟨_,getElem?_pos _ (i+1) hi⟩;have t:(pendingOf st).toList[i]?=some x:=by rw[Y3];exact ex
 have r:(pendingOf st).toList[i+1]?=some y:=by rw[Y3];exact I
 obtain⟨o,T⟩:=J9.mp t;obtain⟨n,S⟩:=J9.mp r
 have sp:(pendingOf st).toList=(pendingOf st).toList.take i++x::y::(pendingOf st).toList.drop (i+1+1):=by
  rw[<- T,<- S,<- Yt n,<- Yt o,List.take_append_drop]
 have D:=J.runs;have up:=J.up;generalize e:(pendingOf st).toList.take i=pre at sp;generalize u:(pendingOf st).toList.drop (i+1+1)=post at sp;have O:pre.length=i:=by rw[<- e,JC];lia
 rw[sp]at D up;obtain⟨m,F,N⟩:=D.cut;obtain⟨B,H,M,G,f⟩:=N;obtain⟨v,na,p⟩:=x;obtain⟨L,nb,q⟩:=y;simp only at B H M G f;have Y:=f.len;refine zbl C J.b ex I (by simp_all) H G (by lia) (up (v,na,p) (by simp)) (up (L,nb,q) (by simp)) λst' W U low K=>?_
 have l:(pendingOf st').toList=pre++(v,na+nb,p)::post:=by
  rw[U,Array.toList_eraseIdxIfInBounds,Array.toList_setIfInBounds,sp,List.set_append_right _ _ (by simp_all),List.eraseIdx_append_of_length_le (by simp_all),O,Nat.sub_self,Nat.add_sub_cancel_left];rfl
 refine h st' ⟨W,?_,?_⟩ (λk Z=>low k (.inr (by lia))) ?_
 ·rw[l]
  refine F.app ⟨B,by show 1<=na+nb;lia,?_⟩;show Runs post (m+(na+nb)) lo;rw[<- Nat.add_assoc];exact f
 ·rw[l]
  intro z a;rcases Jr.mp a with a|a
  ·have V:=F.mem a
   intro c d j b g;rw[low c (.inl (by lia)),low d (.inl (by lia))];exact up z (JT _ a) c d j b g
  ·rcases Jq.mp a with rfl|a
   ·exact K
   ·have V:=f.mem a
    intro c d j b g;rw[low c (.inr (by lia)),low d (.inr (by lia))];exact up z (Js _ (by simp[a])) c d j b g
 ·rw[<- Jy,<- Jy,l,sp]
  simp only[Jb,JM];lia
theorem cL (C:Cmp prog w A s κ P rk){st:SortSt}{Q:Unit->SortSt->Prop}(hB:Bs κ P a₀ st)(hp:pendingOf st = #[])(h:∀ st',Bs κ P a₀ st'->Up rk (arrOf st') 0 a₀.size->Q () st'):wpS (model prog w) A E s sortRuns' Q st:=by
 rw[sortRuns'_eq];refine Ju (Wd ?_);dsimp only;rw[hB.size];generalize minRun' a₀.size a₀.size 0=S
 refine Ju (Z1 (Yn (I:=λi c o=>∃ lo,c=(none,lo)/\i<=lo/\lo<=a₀.size/\Ji κ P rk a₀ lo o)
  (Q:=λc o=>∃ lo,c=(none,lo)/\lo=a₀.size/\Ji κ P rk a₀ lo o) ?step ?fin ?init) ?post)
 case init=>exact⟨0,rfl,Jd _,Jz _,hB,by rw[hp];rfl,λx u=>by rw[hp]at u;simp at u⟩
 case fin =>
  rintro c o ⟨lo,rfl,h1,V,J⟩;exact⟨lo,rfl,by lia,J⟩
 case step =>
  rintro i c o _ hi ⟨lo,rfl,h1,V,J⟩;dsimp only;by_cases z:lo>=a₀.size
  ·rw[Jm z]
   exact Jx ⟨lo,rfl,by lia,J⟩
  rw[Je z];refine Ju (dY C J.b (by lia) (by simp_all) λf n X M n2 u2=>?_);dsimp only
  have Jk:∀ g,Keep κ P rk a₀ lo o g->Ji κ P rk a₀ lo g:=λg H=>⟨H.b,by rw[H.pend];exact J.runs,λx u=>by
   rw[H.pend]at u;have:=J.runs.mem u;intro c d D v L;rw[H.low c (by lia),H.low d (by lia)]
   exact J.up x u c d D v L⟩
  by_cases Z:n<S
  ·rw[Jm Z]
   refine Ju (wU ?_);refine Ju (zaA C X.b M (by grind) (by lia) u2 λg H u3=>?_);have M:1<=min (a₀.size-lo) S:=by lia
   have n2:min (a₀.size-lo) S<=a₀.size-lo:=by omega
   have B:=Jk g (X.trans H);generalize min (a₀.size-lo) S=n at M n2 u3 ⊢;rw[Je (show ¬(!true)=true by decide)];refine Ju (Wd ?_)
   have last:∀ a,Ji κ P rk a₀ lo a->Up rk (arrOf a) lo n->wpS (model prog w) A E s (do
     modify λm=>setPending m ((pendingOf m).push (lo,n,0))
     pure (ForInStep.yield ((none:Option Unit),lo+n))) (λr st'=>match r with|.done G=>∃ lo,G=(none,lo)/\lo=a₀.size/\Ji κ P rk a₀ lo st'|.yield G=>∃ lo,G=(none,lo)/\i+1<=lo/\lo<=a₀.size/\Ji κ P rk a₀ lo st') a:=by
    intro a e l;refine Ju (Wf (Jx ⟨lo+n,rfl,by lia,by lia,⟨e.b.kind,e.b.fail,e.b.perm,e.b.all⟩,?_,?_⟩))
    ·show Runs ((pendingOf a).push (lo,n,0)).toList 0 (lo+n)
     rw[Zp];exact e.runs.app ⟨rfl,M,rfl⟩
    ·show ∀ x∈((pendingOf a).push (lo,n,0)).toList,Up rk (arrOf a) x.1 x.2.1
     rw[Zp];intro x u;rcases Jr.mp u with p|p
     ·exact e.up x p
     ·rw[Ja.mp p];exact l
   split
   ·rename_i s1 m1 w1 hb
    refine Ju (Z1 (Yn (I:=λj c a=>c=(none,())/\Ji κ P rk a₀ lo a/\Up rk (arrOf a) lo n) (Q:=λc a=>c=(none,())/\Ji κ P rk a₀ lo a/\Up rk (arrOf a) lo n) ?_ (λc a U=>U) ⟨rfl,B,u3⟩) ?_)
    ·rintro j c a _ hj ⟨rfl,e,l⟩
     refine Ju (Wd ?_);split
     ·rename_i a1 a2 K N
      split
      ·exact Jx ⟨rfl,e,l⟩
      ·have sz:(pendingOf a).size > 1:=by
        by_cases q:(pendingOf a).size > 1
        ·exact q
        ·rw[Je q]at N;cases N
       refine Ju (eF C e V (by grind) λm Y k _=>?_);rw[Je (show ¬(!true)=true by decide)];exact Jx ⟨rfl,Y,λc d D v L=>by rw[k c D,k d (by lia)];exact l c d D v L⟩
     ·exact Jx ⟨rfl,e,l⟩
    ·rintro c a ⟨rfl,e,l⟩
     dsimp only;refine Ju (Wf ?_);refine last _ ⟨⟨e.b.kind,e.b.fail,e.b.perm,e.b.all⟩,?_,?_⟩ l
     ·show Runs ((pendingOf a).modify _ _).toList 0 lo
      rw[Wc];refine Runs.modify ?_ e.runs;exact λx=>⟨rfl,rfl⟩
     ·show ∀ x∈((pendingOf a).modify _ _).toList,Up rk (arrOf a) x.1 x.2.1
      rw[Wc];intro x u;obtain⟨y,T,W,e2⟩:=wz (by exact λx=>⟨rfl,rfl⟩) u;rw[W,e2];exact e.up y T
   ·exact last _ B u3
  ·rw[Je Z]
   have B:=Jk f X;have u3:=u2;generalize f=g at B u3 ⊢;refine Ju (Wd ?_)
   have last:∀ a,Ji κ P rk a₀ lo a->Up rk (arrOf a) lo n->wpS (model prog w) A E s (do
     modify λm=>setPending m ((pendingOf m).push (lo,n,0))
     pure (ForInStep.yield ((none:Option Unit),lo+n))) (λr st'=>match r with|.done G=>∃ lo,G=(none,lo)/\lo=a₀.size/\Ji κ P rk a₀ lo st'|.yield G=>∃ lo,G=(none,lo)/\i+1<=lo/\lo<=a₀.size/\Ji κ P rk a₀ lo st') a:=by
    intro a e l;refine Ju (Wf (Jx ⟨lo+n,rfl,by lia,by grind,⟨e.b.kind,e.b.fail,e.b.perm,e.b.all⟩,?_,?_⟩))
    ·show Runs ((pendingOf a).push (lo,n,0)).toList 0 (lo+n)
     rw[Zp];exact e.runs.app ⟨rfl,M,rfl⟩
    ·show ∀ x∈((pendingOf a).push (lo,n,0)).toList,Up rk (arrOf a) x.1 x.2.1
     rw[Zp];intro x u;rcases Jr.mp u with p|p
     ·exact e.up x p
     ·rw[Ja.mp p];exact l
   split
   ·rename_i s1 m1 w1 hb
    refine Ju (Z1 (Yn (I:=λj c a=>c=(none,())/\Ji κ P rk a₀ lo a/\Up rk (arrOf a) lo n) (Q:=λc a=>c=(none,())/\Ji κ P rk a₀ lo a/\Up rk (arrOf a) lo n) ?_ (λc a U=>U) ⟨rfl,B,u3⟩) ?_)
    ·rintro j c a _ hj ⟨rfl,e,l⟩
     refine Ju (Wd ?_);split
     ·rename_i a1 a2 K N
      split
      ·exact Jx ⟨rfl,e,l⟩
      ·have sz:(pendingOf a).size > 1:=by
        by_cases q:(pendingOf a).size > 1
        ·exact q
        ·rw[Je q]at N;cases N
       refine Ju (eF C e V (by lia) λm Y k _=>?_);rw[Je (show ¬(!true)=true by decide)];exact Jx ⟨rfl,Y,λc d D v L=>by rw[k c D,k d (by lia)];exact l c d D v L⟩
     ·exact Jx ⟨rfl,e,l⟩
    ·rintro c a ⟨rfl,e,l⟩
     dsimp only;refine Ju (Wf ?_);refine last _ ⟨⟨e.b.kind,e.b.fail,e.b.perm,e.b.all⟩,?_,?_⟩ l
     ·show Runs ((pendingOf a).modify _ _).toList 0 lo
      rw[Wc];refine Runs.modify ?_ e.runs;exact λx=>⟨rfl,rfl⟩
     ·show ∀ x∈((pendingOf a).modify _ _).toList,Up rk (arrOf a) x.1 x.2.1
      rw[Wc];intro x u;obtain⟨y,T,W,e2⟩:=wz (by exact λx=>⟨rfl,rfl⟩) u;rw[W,e2];exact e.up y T
   ·exact last _ B u3
 case post =>
  rintro c o ⟨lo,rfl,rfl,J⟩;dsimp only
  refine Ju (Z1 (Yn (I:=λi c f=>c=(none,())/\Ji κ P rk a₀ a₀.size f/\(pendingOf f).size<=a₀.size-i+1)
   (Q:=λc f=>c=(none,())/\Ji κ P rk a₀ a₀.size f/\(pendingOf f).size<=1) ?_ ?_ ⟨rfl,J,?_⟩) ?_)
  ·rintro i c f _ hi ⟨rfl,F,sz⟩
   refine Ju (Wd ?_);by_cases z:(pendingOf f).size<=1
   ·rw[Jm z]
    exact Jx ⟨rfl,F,z⟩
   rw[Je z]
   have go:∀ t,t+1<(pendingOf f).size->wpS (model prog w) A E s (mergeAt' t) (λb g=>b=true/\Ji κ P rk a₀ a₀.size g/\(pendingOf g).size<=a₀.size-(i+1)+1) f:=λt ht =>
    eF C F (Jd _) ht λg B _ O=>⟨rfl,B,by grind⟩
   refine Ju (Z1 (go _ ?_) ?_)
   ·repeat' split
    all_goals omega
   ·rintro b g ⟨rfl,B,O⟩
    exact Jx ⟨rfl,B,O⟩
  ·rintro c f ⟨rfl,F,sz⟩
   exact⟨rfl,F,by simp_all⟩
  ·have:=J.runs.len
   rw[Jy]at this;lia
  ·rintro c f ⟨rfl,F,sz⟩
   refine Jx (h f F.b ?_);have R:=F.runs;have up:=F.up;have ln:(pendingOf f).toList.length<=1:=by rw[Jy];exact sz
   match hq:(pendingOf f).toList,ln with
   | [],_ =>
    rw[hq]at R;intro c d D v L;have:0=a₀.size:=R
    lia
   | [x],_ =>
    rw[hq]at R up;obtain⟨r1,r2,r3⟩:=R;have:0+x.2.1=a₀.size:=r3;have:=up x (by simp);rw[r1,show x.2.1=a₀.size by simp_all]at this;exact this
end
end Ts
namespace L2
open PySem PySem.Spec PyProof.Rows Own
noncomputable def LtAt (A:YO)(s:JO)(y x:Jo)(b:Bool):Prop:=∀ (prog:Yo) (w:YI) (E:Jo->JO->Prop) (Q:Jo->JO->Prop),Q (.bool b) s->wpAny (model prog w) A (richCompare .Lt y x) Q E s
theorem LtAt.ints {A:YO}{s:JO}(a b:Int)(t u:Tok):LtAt A s (.int a t) (.int b u) (decide (a<b)):=λ_ _ _ _ h=>lt_int h
theorem nB (l b:JI)(xs ys:Array Jo)(n m:Nat)(L K:Option JI)(p o:Array (Option Jo))(k:Nat)(N:k<xs.size)(M:k<ys.size)(c:Bool) :
  Meets (Builtin.«tuple.__lt__» ⟨[.ref l,.ref b],[]⟩)
   (λA R s=>s.heap.get? l=some { cls:=.type "tuple",dict:=L,data:=.seq xs n,slots:=p }/\s.heap.get? b=some { cls:=.type "tuple",dict:=K,data:=.seq ys m,slots:=o } /\
    (∀ j (P:j<xs.size) (O:j<ys.size),j<k->SeqAt.EqAt A.in1 s xs[j] ys[j] true)/\SeqAt.EqAt A.in1 s xs[k] ys[k] false/\LtAt A.in1 s xs[k] ys[k] c/\R (.ok (.ret (.bool c))) s) :=
 .of_wp λprog w A R s h=>by
  obtain⟨D,g,d,u,os⟩:=s;obtain⟨E,I,G,F,H,h⟩:=h;have kinds:=AutoSeq1.sub_tuple_tuple;have r:(xs.toList.zip ys.toList).length=min xs.size ys.size:=by simp
  wp_walk using wpAny_loadPart' E,wpAny_loadPart' I,wpAny_forIn_list _ (λrest b e=>b.1=none/\e=⟨D,g,d,u,os⟩/\∃ i,i<=k/\rest=(xs.toList.zip ys.toList).drop i) _
  case turn =>
   rintro⟨y,x⟩ rest b e ⟨q,rfl,i,v,a⟩;have C:i<xs.size:=by lia
   have B:i<ys.size:=by lia
   have f:i<(xs.toList.zip ys.toList).length:=by rw[r];lia
   rw[Yt f]at a;obtain⟨t,e2⟩:=List.cons.inj a;have J:y=xs[i]:=by simpa using JQ Prod.fst t
   have ex:x=ys[i]:=by simpa using JQ Prod.snd t
   subst J ex;by_cases z:i=k
   ·subst z
    refine J0 (F prog w _ _ ?_);simp only[Z9,Bool.not_false];refine J0 (YX (J0 (H prog w _ _ ?_)))
    wp_walk
    exact⟨_,rfl,h⟩
   ·refine J0 (G i C B (by lia) prog w _ _ ?_)
    wp_walk
    exact⟨rfl,rfl,i+1,by lia,e2⟩
  case fin =>
   rintro⟨S,Q⟩ e ⟨q,rfl,i,v,a⟩;have f:i<(xs.toList.zip ys.toList).length:=by rw[r];lia
   rw[Yt f]at a;cases a
  case h =>
   exact⟨rfl,rfl,0,Jz _,rfl⟩
theorem LtAt.tuples {A:YO}{s:JO}{l b:JI}{xs ys:Array Jo}{k:Nat}{c:Bool}(v:IsTup s.heap l xs)(hb:IsTup s.heap b ys)(u:A.units<cLine)(t:k<xs.size)(r:k<ys.size)(z:∀ j (J:j<xs.size) (I:j<ys.size),j<k->SeqAt.EqAt A.in1 s xs[j] ys[j] true)(y:SeqAt.EqAt A.in1 s xs[k] ys[k] false)(B:LtAt A.in1 s xs[k] ys[k] c):LtAt A s (.ref l) (.ref b) c:=λprog w E Q h=>by
 obtain⟨⟨H,f,D,d⟩,i,q,n,o⟩:=v;obtain⟨⟨G,e,C,a⟩,g,p,m,e2⟩:=hb;simp only at q o p e2;subst q o p e2;exact richCompare_meets_room (op:=.Lt) ⟨_,i,rfl⟩ ⟨_,g,rfl⟩ F.slot_tuple_lt F.entry_tuple_lt (F.args_tuple_lt_2 _ _) (nB l b xs ys n m f e d a k t r c) ⟨i,g,z,y,B,show Value.bool c≠Value.notImplemented/\Q (.bool c) s from⟨(λx=>nomatch x),h⟩⟩ u
end L2
namespace Ts
open PySem PyProof.Rows
section
variable {prog:Yo}{w:YI}{A:YO}{E:Jo->JO->Prop}{s:JO}
theorem jT {a:JI}{vs:List Jo}{n:Nat}{B:Fin->JO->Prop}(t:s.heap.get? a=some (seqObj "list" vs.toArray n)) (K:vs.length<=10000) (κ:SortKind) (g:Jo->Int)
  (j:∀ h',(∀ c o,c≠a->s.heap.get? c=some o->h'.get? c=some o)->2<=vs.length->∀ {Q:SortKind->JO->Prop}{E:Jo->JO->Prop},Q κ { s with heap:=h' }->wpAny (model prog w) A (keyKind' vs.toArray) Q E { s with heap:=h' })
  (m:∀ h',(∀ c o,c≠a->s.heap.get? c=some o->h'.get? c=some o)->Cmp prog w A { s with heap:=h' } κ (λp=>p.1∈vs) (λp=>g p.1))
  (h:∀ out:List Jo,out.Perm vs->out.Pairwise (λx y=>g x<=g y)->B (.done (.ret .none)) { s with heap:=sortedHeap s.heap a vs out.toArray }) :
  wpAny (model prog w) A (Builtin.«list.sort» ⟨[.ref a],[]⟩) B E s:=by
 have al:a<s.heap.objs.size:=Jn t;have ln:vs.toArray.size=vs.length:=Jg ..;have H:vs.length<=sizeLine:=JS K (by decide);rw[list_sort_plain];refine J0 (listItems_at t rfl (J0 (listUpdate_at t rfl ?_ (hsz:=by rw[ln];exact H))));obtain⟨v,F⟩:∃ v,(s.heap.update a (Obj.mapSeq λ_=>#[])).get? a=some (seqObj "list" #[] v):=⟨_,get?_update_seq t λ_=>#[]⟩;refine J0 (seqEpoch_at F rfl (J0 (wpAny_newTuple (J0 (wpAny_newList (Y5 ?_))))))
 have l:(((s.heap.update a (Obj.mapSeq λ_=>#[])).push (seqObj "tuple" vs.toArray 0)).push (seqObj "list" #[] 0)).get? a=some (seqObj "list" #[] v) :=
  J6 _ (J6 _ F)
 have old:∀ c o,c≠a->s.heap.get? c=some o->(((s.heap.update a (Obj.mapSeq λ_=>#[])).push (seqObj "tuple" vs.toArray 0)).push (seqObj "list" #[] 0)).get? c=some o:=λc o J q =>
  J6 _ (J6 _ ((Yh _ _ (Ne.symm J)).trans q))
 show wpAny (model prog w) A _ B E { s with heap:=((s.heap.update a (Obj.mapSeq λ_=>#[])).push (seqObj "tuple" vs.toArray 0)).push (seqObj "list" #[] 0) };have lo:∀ out:List Jo,out.Perm vs->out.toArray.size<=sizeLine+1:=λout I=>by rw[Jg,I.length_eq];lia
 generalize N:((s.heap.update a (Obj.mapSeq λ_=>#[])).push (seqObj "tuple" vs.toArray 0)).push (seqObj "list" #[] 0)=h6 at l old ⊢;have back:∀ out:Array Jo,sortedHeap s.heap a vs out=h6.update a (Obj.mapSeq λ_=>out):=λout=>by rw[<- N];rfl
 by_cases f:vs.toArray.size<2
 ·rw[Jm f,Jm f]
  refine J0 (J7 (?_:wpAny _ _ _ _ _ _));refine J0 (J7 ?_)
  have em:(vs.toArray.zip vs.toArray).map (·.2)=vs.toArray:=by
   apply Array.ext';rw[Array.toList_map,Array.toList_zip];exact List.map_snd_zip (Jd _)
  have one:vs.Pairwise (λx y=>g x<=g y):=by
   match vs,f with
   | [],_=>exact List.Pairwise.nil
   | [x],_=>exact List.pairwise_singleton _ _
   | _::_::_,z=>simp at z;lia
  have k:=h vs (List.Perm.refl _) one;rw[back]at k;dsimp only;rw[em];refine J0 (seqEpoch_at l rfl (J0 (listUpdate_at l rfl ?_ (hsz:=Jz _) (hsz2:=lo vs (List.Perm.refl _)))));simp only[Zi,bne_self_eq_false,Yi];exact J7 k
 rw[Je f,Je f];refine J0 (j h6 old (by simp_all) ?_);have C:=m h6 old
 refine J0 (JK (cL C (a₀:=vs.toArray.zip vs.toArray) (st:=SortSt.mk' κ (vs.toArray.zip vs.toArray) #[] 7 none)
  (Q:=λ_ d=>Bs κ (λp=>p.1∈vs) (vs.toArray.zip vs.toArray) d/\Up (λp=>g p.1) (arrOf d) 0 (vs.toArray.zip vs.toArray).size) ⟨rfl,rfl,Array.Perm.refl _,λp r=>?_⟩ rfl λd b u=>⟨b,u⟩) ?_ λ_ _ e=>e)
 ·have:(vs.toArray.zip vs.toArray).toList=vs.zip vs:=by simp
  rw[this]at r;exact(List.of_mem_zip r).1
 rintro⟨⟨⟩,d⟩ P ⟨rfl,b,u⟩
 have D:(arrOf d).toList.Perm (vs.zip vs):=by
  have:=Array.perm_iff_toList_perm.mp b.perm;simpa using this
 have same:∀ p∈(arrOf d).toList,p.1=p.2:=λp r=>by
  have O:=D.mem_iff.mp r;obtain⟨i,hi⟩:=Zm.mp O;rw[Zz]at hi;have:=hi.1.symm.trans hi.2;exact Jf this
 have G:Srt (λp=>g p.1) (arrOf d).toList:=by
  have:=mH (arr:=arrOf d) (lo:=0) (n:=(arrOf d).size) (by rw[b.size];exact u) (by lia);rw[ZM,w5,<- Jy,Y9]at this;exact this
 have pm:((arrOf d).toList.map (·.2)).Perm vs:=by
  have:=D.map (·.2)
  rwa [List.map_snd_zip (Jd _)]at this
 have em:(arrOf d).map (·.2)=((arrOf d).toList.map (·.2)).toArray:=by
  apply Array.ext';simp
 have k:=h _ pm (by
  refine List.pairwise_map.mpr (List.Pairwise.imp_of_mem ?_ G);intro x y M L le
  rw[<- same x M,<- same y L];exact le)
 rw[back]at k;dsimp only;rw[em,b.fail];refine J0 (seqEpoch_at l rfl (J0 (listUpdate_at l rfl ?_ (hsz:=Jz _) (hsz2:=lo _ pm))));simp only[Zi,bne_self_eq_false,Yi];exact J7 k
end
end Ts
namespace Own
open PySem PySem.Spec PyProof.Rows Ts
section
variable {prog:Yo}{w:YI}{A:YO}{E:Jo->JO->Prop}{s:JO}
theorem cF {x:Jo}{Q:Jo->JO->Prop}
  (h:wpAny (model prog w) A.in1 (collect x) (λvs s1=>∃ (κ:SortKind) (a:Jo->Int),vs.length<=10000 /\
   (∀ h':YP,(∀ c o,s1.heap.get? c=some o->h'.get? c=some o)->2<=vs.length->∀ (b:YO) {Q:SortKind->JO->Prop}{E:Jo->JO->Prop},Q κ { s1 with heap:=h' }->wpAny (model prog w) b (keyKind' vs.toArray) Q E { s1 with heap:=h' }) /\
   (∀ h':YP,(∀ c o,s1.heap.get? c=some o->h'.get? c=some o)->∀ (b:YO),b.units<=A.units+8->Cmp prog w b { s1 with heap:=h' } κ (λp=>p.1∈vs) (λp=>a p.1)) /\
   ∀ (h':YP) (l:JI) (e:Nat) (out:List Jo),s1.heap.objs.size<=l->h'.get? l=some (seqObj "list" out.toArray e)->out.Perm vs->out.Pairwise (λx y=>a x<=a y)->(∀ c o,s1.heap.get? c=some o->h'.get? c=some o)->Q (.ref l) { s1 with heap:=h' }) E s) :
  wpAny (model prog w) A (call (.builtin "sorted") [x]) Q E s:=by
 refine Calls.call_function_entry kind_sorted plain_sorted entry_sorted (args_sorted1 _) ?_;unfold Builtin.«sorted»;refine J0 (m:=checkCount "sorted" 1 1 _) (J7 (J0 (JK h (λvs s1 z=>?_) λ_ _ e=>e)));obtain⟨κ,a,d,n,t,fin⟩:=z;have f:vs.length<=sizeLine:=JS d (by decide);refine J0 (wpAny_newList ?_ (hsz:=f));have new:(s1.heap.push (seqObj "list" vs.toArray 0)).get? s1.heap.objs.size=some (seqObj "list" vs.toArray 0):=Jp _ rfl;have up:∀ h':YP,(∀ c o,c≠s1.heap.objs.size->(s1.heap.push (seqObj "list" vs.toArray 0)).get? c=some o->h'.get? c=some o)->∀ c o,s1.heap.get? c=some o->h'.get? c=some o:=λh' k c o e=>k c o (JB (Jn e)) (J6 _ e);refine J0 (Y5 (Y6 slot_list_sort ⟨_,new,rfl⟩ entry_list_sort (jT new d κ a (λh' k j=>n h' (up h' k) j _) (λh' k=>t h' (up h' k) _ ?_) λout i g=>⟨_,rfl,?_⟩) (args_list_sort _)))
 ·show A.units+1+1<=A.units+8
  lia
 obtain⟨e,r⟩:=sortedHeap_at (out:=out.toArray) new;refine J7 ⟨_,rfl,fin _ _ e out (Jd _) r i g λc o q=>?_⟩;have lt:=Jn q;rw[sortedHeap_old (JB lt) (by rw[size_push'];exact ZL lt)];exact J6 _ q
end
end Own
namespace L2
open PySem PySem.Spec PyProof.Rows Own Ts
inductive Lx (H:Hp):Nat->V->V->Ordering->Prop where
 | int (n:Nat) (i j:Int):Lx H n (.int i) (.int j) (compare i j)
 | row {n:Nat}{a b:JI}{xs ys:List V}{cs:List Ordering}(ha:H a=some (.tup xs)) (hb:H b=some (.tup ys)) (l1:xs.length=cs.length) (l2:ys.length=cs.length) (h:∀ (i:Nat) u v c,xs[i]?=some u->ys[i]?=some v->cs[i]?=some c->Lx H n u v c) :
   Lx H (n+1) (.ref a) (.ref b) (cs.foldr Ordering.then .eq)
theorem vE:∀ {cs:List Ordering},cs.foldr Ordering.then .eq=.eq↔∀ c∈cs,c=.eq
 | []=>by simp
 | c::cs=>by
  rw[List.foldr_cons];constructor
  ·intro h
   cases c<;>simp[Ordering.then]at h;intro d hd;rcases Jq.mp hd with rfl|a
   ·rfl
   ·exact vE.mp h d a
  ·intro h
   rw[h c JH];exact vE.mpr λd hd=>h d (JD _ hd)
theorem qO:∀ {cs:List Ordering},cs.foldr Ordering.then .eq≠.eq->∃ (k:Nat) (c:Ordering),cs[k]?=some c/\c≠.eq/\cs.foldr Ordering.then .eq=c/\∀ j:Nat,j<k->cs[j]?=some Ordering.eq
 | [],h=>absurd rfl h
 | c::cs,h=>by
  by_cases z:c=.eq
  ·subst z
   have e:(Ordering.eq::cs).foldr Ordering.then .eq=cs.foldr Ordering.then .eq:=rfl;rw[e]at h ⊢;obtain⟨k,d,i,g,f,b⟩:=qO h;refine⟨k+1,d,by simpa using i,g,f,λj a=>?_⟩
   cases j with
   | zero=>rfl
   | succ j=>simpa using b j (by simp_all)
  ·refine⟨0,c,rfl,z,?_,λj a=>by simp_all⟩
   rw[List.foldr_cons];cases c<;>first|rfl|exact absurd rfl z
section
variable {X:Cx}
theorem vP (i j:Int):(compare i j == .eq)=decide (i=j)/\(compare i j == .lt)=decide (i<j):=by
 rw[show compare i j=compareOfLessAndEq i j from rfl];unfold compareOfLessAndEq;by_cases b:i<j
 ·rw[Jm b,Jt b,Jj (by lia)];exact⟨rfl,rfl⟩
 ·rw[Je b,Jj b]
  by_cases a:i=j
  ·rw[Jm a,Jt a];exact⟨rfl,rfl⟩
  ·rw[Je a,Jj a];exact⟨rfl,rfl⟩
theorem Lx.refl {H:Hp}{n:Nat}{x y:V}{c:Ordering}(h:Lx H n x y c):x=y->c=.eq:=by
 induction h with
 | int n i j =>
  intro e;cases e;have:=(vP i i).1;rw[Jt rfl]at this
  simpa using this
 | @row n a b l k cs g d o m h ih =>
  intro e;cases e;rw[g]at d;cases d;refine vE.mpr λc f=>?_;obtain⟨i,hi⟩:=Zm.mp f;have p:=(J9.mp hi).1;exact ih i _ _ c (J8 (by simp_all)) (J8 (by simp_all)) hi rfl
theorem kS {pins:List (JI × Obj)}{σ:St}{H:Hp}{s:JO}(I:Inv X pins σ H s){n:Nat}{x y:V}{c:Ordering}(h:Lx H n x y c):∀ (A:YO) (u v:Jo),A.units+n<cLine->RelV x u->RelV y v->SeqAt.EqAt A s u v (c == .eq):=by
 induction h with
 | int n i j =>
  intro A u v _ p o;have:=e7 (A:=A) (s:=s) (x:=.int j) (y:=.int i) p o rfl rfl;rw[(vP i j).1]
  have e:eqV (.int i) (.int j)=decide (i=j):=by
   show (i == j)=decide (i=j);by_cases z:i=j<;>simp[z]
  rwa [e]at this
 | @row n a b Q P cs F E B w h ih =>
  intro A u v hu p o;cases p;cases o;by_cases M:a=b
  ·subst M
   have:cs.foldr Ordering.then .eq=.eq:=Lx.refl (.row F E B w h) rfl;rw[this];exact SeqAt.EqAt.same _
  ·obtain⟨g,K,Y,_⟩:=I.tuple (SqT.of F)
   obtain⟨f,J,W,_⟩:=I.tuple (SqT.of E);have r:=K.length;have q:=J.length;refine SeqAt.EqAt.of_refs M ?_
   have e:((List.range (min g.toArray.size f.toArray.size)).all (λj=>(cs.getD j .eq) == .eq) && g.toArray.size == f.toArray.size)=(cs.foldr Ordering.then .eq == .eq):=by
    rw[Jg,Jg,<- r,<- q,B,w,ZV,Bool.and_true,Nat.min_self];by_cases z:cs.foldr Ordering.then .eq=.eq
    ·rw[z]
     refine(YC.mpr λj hj=>?_).trans rfl;have D:=YQ.mp hj;rw[JA,J8 D,ZU,vE.mp z _ (Zw D)];rfl
    ·obtain⟨k,d,G,h2,h3,_⟩:=qO z
     have Z:=(J9.mp G).1;rw[h3];have L:(d == Ordering.eq)=false:=by simpa using h2
     rw[L];refine Bool.eq_false_iff.mpr λt=>?_;have:=YC.mp t k (YQ.mpr Z);rw[JA,G,ZU,L]at this;cases this
   have:=SeqAt.RcAt.tuples (e:=λj=>(cs.getD j .eq) == .eq) Y W (A:=A) (s:=s) (by lia) (λj k1 k2=>?_)
   ·rwa [e]at this
   ·have m:j<Q.length:=by simpa [r] using k1
    have l:j<P.length:=by simpa [q] using k2
    obtain⟨S,e1,U⟩:=K.get (J8 m);obtain⟨R,e2,T⟩:=J.get (J8 l);have O:g.toArray[j]=S:=by simpa using (J9.mp e1).2
    have N:f.toArray[j]=R:=by simpa using (J9.mp e2).2
    have C:j<cs.length:=by lia
    rw[O,N,JA,J8 C,ZU];exact ih j _ _ _ (J8 m) (J8 l) (J8 C) A.in1 _ _ (by show A.units+1+n<cLine;lia) U T
theorem bx {pins:List (JI × Obj)}{σ:St}{H:Hp}{s:JO}(I:Inv X pins σ H s){n:Nat}{x y:V}{c:Ordering}(h:Lx H n x y c):c≠.eq->∀ (A:YO) (u v:Jo),A.units+n<cLine->RelV x u->RelV y v->LtAt A s u v (c == .lt):=by
 induction h with
 | int n i j =>
  intro _ A u v _ ⟨P,C⟩ ⟨O,e2⟩;subst C e2;rw[(vP i j).2]
  exact LtAt.ints i j P O
 | @row n a b z w cs ha Z l1 l2 h ih =>
  intro ne A u v hu l g;cases l;cases g;obtain⟨f,F,T,_⟩:=I.tuple (SqT.of ha);obtain⟨e,E,S,_⟩:=I.tuple (SqT.of Z);have W:=F.length;have U:=E.length;obtain⟨k,d,B,D,h3,h4⟩:=qO ne;have kl:=(J9.mp B).1
  have at_:∀ j (t:j<f.toArray.size) (r:j<e.toArray.size),∃ (o:j<z.length) (m:j<w.length),RelV z[j] f.toArray[j]/\RelV w[j] e.toArray[j]:=λj t r=>by
   have q:j<z.length:=by simpa [W] using t
   have p:j<w.length:=by simpa [U] using r
   obtain⟨N,C,R⟩:=F.get (J8 q);obtain⟨M,e2,Q⟩:=E.get (J8 p);have L:f.toArray[j]=N:=by simpa using (J9.mp C).2
   have K:e.toArray[j]=M:=by simpa using (J9.mp e2).2
   rw[L,K];exact⟨q,p,R,Q⟩
  rw[h3];have J:k<f.toArray.size:=by rw[Jg];simp_all
  have G:k<e.toArray.size:=by rw[Jg];simp_all
  obtain⟨o,m,l,g⟩:=at_ k J G;refine LtAt.tuples (k:=k) T S (by lia) J G (λj t r Y=>?_) ?_ ?_
  ·obtain⟨o,m,l,g⟩:=at_ j t r
   exact kS I (h j _ _ _ (J8 o) (J8 m) (h4 j Y)) A.in1 _ _ (by show A.units+1+n<cLine;lia) l g
  ·have:=kS I (h k _ _ _ (J8 o) (J8 m) B) A.in1 _ _ (by show A.units+1+n<cLine;lia) l g
   rwa [show (d == Ordering.eq)=false from by simpa using D]at this
  ·exact ih k _ _ _ (J8 o) (J8 m) B D A.in1 _ _ (by show A.units+1+n<cLine;lia) l g
end
noncomputable def vOf:Jo->V
 | .int i _=>.int i
 | .ref a=>.ref a
 | _=>.non
theorem qN:∀ {xs:List V}{us:List Jo},Vals xs us->(∀ x∈xs,(∃ i,x=.int i)\/∃ a,x=.ref a)->xs=us.map vOf/\∀ u∈us,RelV (vOf u) u
 | _,_,.nil,_=>⟨rfl,λu g=>by simp at g⟩
 | x::xs,u::us,.cons r rs,h=>by
  obtain⟨e,f⟩:=qN rs λy c=>h y (JD _ c)
  have one:vOf u=x/\RelV (vOf u) u:=by
   rcases h x JH with ⟨i,rfl⟩|⟨a,rfl⟩
   ·obtain⟨t,rfl⟩:=r;exact⟨rfl,t,rfl⟩
   ·cases r;exact⟨rfl,rfl⟩
  refine⟨by rw[JR,one.1,<- e],λv d=>?_⟩;rcases Jq.mp d with rfl|b
  ·exact one.2
  ·exact f v b
theorem rH:∀ {us:List Jo},(∀ u∈us,RelV (vOf u) u)->Vals (us.map vOf) us
 | [],_=>.nil
 | u::us,h=>.cons (h u JH) (rH λv a=>h v (JD _ a))
section
variable {prog:Yo}{w:YI}{A:YO}{E:Jo->JO->Prop}{s:JO}
theorem fb {u v:Jo}{b:Bool}{Q:Bool->JO->Prop}(l:LtAt A s u v b)(h:Q b s):wpAny (model prog w) A (oneLt' false u v) Q E s:=by
 rw[oneLt'_eq,Je Jh];exact J0 (l prog w _ _ (Yu h))
end
section
variable {X:Cx}{pins:List (JI × Obj)}{σ:St}{H:Hp}{s:JO}
theorem Inv.adopt {T:JI}{o:HO}(I:Inv X pins σ H s)(d:FpOk X pins H T)(new:ObjOk X.prog X.w (upd H T o) s.heap T o):Inv X pins σ (upd H T o) s:=by
 have a:=d.1
 have J:Inv X pins σ (upd H T o) { s with heap:=s.heap,gens:=s.gens,drawn:=s.drawn,toks:=s.toks }:=by
  refine I.step (ch:=[T]) (λb f=>?_) (λb u _ _ _ e _=>e) (λb u _ _ _ e _=>⟨u.slots,e⟩) (λb u i _ n=>by rw[zG λq=>i (Ja.mpr q)];exact n)
   (λb u _ e=>⟨u,e⟩) (λb g e=>by rw[zG (zE e a)];exact e) (λb u x e=>by rw[zG (zE e a)];exact e) (λb j e=>⟨#[],by rw[zG (zE e a),e];simp⟩) (λm h=>h) (λb u e=>?_) I.bare
  ·have only:=Ja.mp f
   subst only;exact⟨d.2.2.2.1,d.2.1,d.2.2.2.2.1,d.2.2.2.2.2⟩
  ·by_cases f:b=T
   ·subst f;rw[zB]at e;cases e;exact new
   ·rw[zG f]at e
    exact(I.hok b u e).stay (λc v _ q=>q) (λc q=>by rw[zG (zE q a)];exact q) λc g q=>by rw[zG (zE q a)];exact q
 exact J
end
end L2
namespace L2
open PySem PySem.Spec PyProof.Rows Own
section
variable {X:Cx}{pins:List (JI × Obj)}{σ:St}{H:Hp}{s:JO}{d:JI}
theorem Inv.reword {u v:HO}(I:Inv X pins σ H s)(hd:H d=some u)(h:∀ xs,u≠.tup xs)(nb:∀ ps,u≠.tbl ps)(no:∀ a,u≠.own a)(l:∀ o' i,X.H₀ d≠some (.frz o' i))(new:ObjOk X.prog X.w (upd H d v) s.heap d v):Inv X pins σ (upd H d v) s:=by
 have ne:∀ {b},H b=none->b≠d:=λe z=>by rw[z,hd]at e;cases e
 have f:∀ {b} {q:HO},H b=some q->q≠u->upd H d v b=some q:=λ{b q} e n=>by
  rw[zG];· exact e
  ·intro z
   rw[z,hd]at e;exact n (Jf e).symm
 refine⟨I.ok,I.os,I.bare,⟨I.base.keep,I.base.slot,λb q e n m=>?_,I.base.there,λb xs e=>f (I.base.tups b xs e) λz=>h xs z.symm,λb q w e=>?_,λb ps e=>?_⟩,I.loc,I.cell,?_,λx c e=>?_,λp o=>?_,λb q e=>?_,I.len⟩
 ·have z:=I.base.free b q e n m
  rw[zG (ne z)];exact z
 ·rw[zG]
  ·exact I.base.frzs b q w e
  ·rintro rfl;exact l q w e
 ·obtain⟨more,z⟩:=I.base.tbls b ps e
  exact⟨more,f z λq=>nb _ q.symm⟩
 ·rw[zG (ne I.free)];exact I.free
 ·have z:=I.freeC x c e
  rw[zG (ne z)];exact z
 ·obtain⟨k,g,j⟩:=I.pin p o
  exact⟨k,by rw[zG (ne g)];exact g,j⟩
 ·by_cases z:b=d
  ·subst z
   rw[zB]at e;cases e;exact new
  ·rw[zG z]at e
   exact(I.hok b q e).stay (λc w _ r=>r) (λc r=>f r λz=>no _ z.symm) λc xs r=>f r λz=>h _ z.symm
end
noncomputable def NIv (H:Hp):KI->V->Prop
 | .inl i,v=>v=.int i
 | .inr xs,v=>∃ b,v=.ref b/\H b=some (.tup (xs.map V.int))
noncomputable def NIvs (H:Hp):KN->List V->Prop
 | [],vs=>vs=[]
 | k::ks,vs=>∃ v r,vs=v::r/\NIv H k v/\NIvs H ks r
noncomputable def NKey (H:Hp)(k:KN)(b:JI):Prop:=∃ a,H b=some (.tup a)/\NIvs H k a
theorem NIvs.tups {H H':Hp}(t:∀ b ys,H b=some (.tup ys)->H' b=some (.tup ys)):∀ {k:KN}{ys:List V},NIvs H k ys->NIvs H' k ys
 | [],_,h=>h
 | .inl i::k,_,h=>by
  obtain⟨v,r,e,c,a⟩:=h
  exact⟨v,r,e,c,NIvs.tups t a⟩
 | .inr f::k,_,h=>by
  obtain⟨v,r,e,⟨b,c,d⟩,a⟩:=h;exact⟨v,r,e,⟨b,c,t _ _ d⟩,NIvs.tups t a⟩
theorem NKey.tups {H H':Hp}(t:∀ b ys,H b=some (.tup ys)->H' b=some (.tup ys)){k:KN}{b:JI}(h:NKey H k b):NKey H' k b:=by
 obtain⟨ys,c,a⟩:=h;exact⟨ys,t _ _ c,a.tups t⟩
section
variable {P:Yo}{w:YI}{H:Hp}{h:YP}
theorem om (ok:HOk P w H h):∀ {k:KN}{ys:List V}{its:List Jo},NIvs H k ys->Vals ys its->NIts P w h k its
 | [],_,its,a,r=>by
  rw[show _=[] from a]at r
  cases r;rfl
 | k::ks,_,its,a,r=>by
  obtain⟨v,q,rfl,a1,a2⟩:=a
  cases r with
  | @cons _ u _ g c r =>
   refine⟨u,g,rfl,?_,om ok a2 r⟩
   cases k with
   | inl i=>rw[show v=.int i from a1]at c;exact c
   | inr d =>
    obtain⟨b,rfl,f⟩:=a1;refine⟨b,c,?_⟩;have e:d.map V.int=(d.map (Sum.inl:Int->Key)).map kV:=by rw[YA];rfl
    rw[e]at f;exact zao ok f
theorem xH (ok:HOk P w H h){k:KN}{b:JI}(a:NKey H k b):NIs P w h k b:=by
 obtain⟨d,e,a⟩:=a;obtain⟨_,c,r,o,i,g,n,f⟩:=(show ObjOk P w H h b (.tup d) from ok b _ e);exact⟨o,c.toArray,n,i,g,f.1,by simpa using om ok a r⟩
end
noncomputable abbrev KVN:=List (KN × JI × V)
noncomputable def PrN:KN × JI × V->KN × JI × Jo->Prop:=λp q=>p.1=q.1/\p.2.1=q.2.1/\RelV p.2.2 q.2.2
noncomputable def yg (xs:KVN)(k:KN):Option V:=(xs.find? λx=>decide (x.1=k)).map (·.2.2)
noncomputable def yu (xs:KVN)(k:KN)(b:JI)(v:V):KVN:=if (yg xs k).isSome then xs.map λx=>if x.1=k then (x.1,x.2.1,v) else x else xs++[(k,b,v)]
theorem wD {xs:KVN}{vs:List (KN × JI × Jo)}(r:Paired PrN xs vs)(k:KN):RelO (yg xs k) ((atKey vs k).map (·.2)):=by
 induction r with
 | nil=>exact True.intro
 | @cons p q b a h t ih =>
  unfold yg atKey at ih ⊢;rw[YB,YB,h.1];by_cases c:q.1=k
  ·rw[Jt c];exact h.2.2
  ·rw[Jj c];exact ih
theorem gr {xs:KVN}{vs:List (KN × JI × Jo)}(r:Paired PrN xs vs)(k:KN){v:V}{u:Jo}(a:RelV v u):Paired PrN (xs.map λx=>if x.1=k then (x.1,x.2.1,v) else x) (vs.map (putAt k u)):=by
 induction r with
 | nil=>exact .nil
 | @cons p q d b h t ih =>
  refine .cons ?_ ih;unfold putAt;dsimp only;by_cases c:q.1=k
  ·rw[Jm (h.1.trans c),Jm c];exact⟨h.1,h.2.1,a⟩
  ·rw[Je (λz=>c (h.1.symm.trans z)),Je c];exact h
theorem putN_rel {xs:KVN}{vs:List (KN × JI × Jo)}(r:Paired PrN xs vs)(k:KN)(b:JI){v:V}{u:Jo}(a:RelV v u):Paired PrN (yu xs k b v) (storedH vs k b u):=by
 have e:=(wD r k).isSome_eq;rw[Option.isSome_map]at e;unfold yu storedH;rw[<- e];by_cases c:(yg xs k).isSome=true
 ·rw[Jm c,Jm c];exact gr r k a
 ·rw[Je c,Je c];exact Ze r ⟨rfl,rfl,a⟩
theorem vM (xs:KVN)(k:KN)(b:JI)(v:V):(yu xs k b v).length<=xs.length+1:=by
 unfold yu;split
 ·rw[Jc];lia
 ·rw[Jb];exact Jd _
noncomputable def PhN (P:Yo)(w:YI)(a:JI)(xs:KVN):YP->Prop:=λh=>xs.length<=sizeLine/\(a == sysModules)=false/\∃ b,Paired PrN xs b /\
 ∃ o c d,h.get? a=some o/\o.ExactDict/\o.data=.dict c d/\c.toList=b.map (entryOfKey (yI P w))/\(b.map (·.1)).Nodup
noncomputable def DN (P:Yo)(w:YI)(a:JI)(xs:KVN):HO:=.ext (PhN P w a xs)
noncomputable def KsIn (H:Hp)(xs:KVN):Prop:=∀ x∈xs,NKey H x.1 x.2.1
theorem KsIn.tups {H H':Hp}{xs:KVN}(t:∀ b ys,H b=some (.tup ys)->H' b=some (.tup ys))(h:KsIn H xs):KsIn H' xs:=λx a=>(h x a).tups t
section
variable {P:Yo}{w:YI}{H H':Hp}{h h':YP}{a:JI}{xs:KVN}
theorem dn_new (z:xs.length<=sizeLine)(hd:(a == sysModules)=false){vs:List (KN × JI × Jo)}(r:Paired PrN xs vs)(d:h'.DictOfH (yI P w) a vs):ObjOk P w H' h' a (DN P w a xs):=by
 obtain⟨o,h,i,b,g,f,e,_,c⟩:=d;refine⟨⟨z,hd,vs,r,o,h,i,b,g,f,e,c⟩,⟨o,b⟩,λk j ⟨z,hd,vs,r,o,h,i,b,g,f,e,c⟩ s=>⟨z,hd,vs,r,o,h,i,s o b,g,f,e,c⟩⟩
theorem wk (ok:HOk P w H h)(e:Rd H a (DN P w a xs))(ks:KsIn H xs):xs.length<=sizeLine/\(a == sysModules)=false/\∃ vs,Paired PrN xs vs/\h.DictOfH (yI P w) a vs:=by
 obtain⟨⟨z,i,vs,r,o,m,n,l,k,j,f,d⟩,u,s⟩:=(show ObjOk P w H h a (DN P w a xs) from bn ok e);refine⟨z,i,vs,r,o,m,n,l,k,j,f,?_,d⟩;clear f d e z u s
 induction r with
 | nil=>intro x b;exact nomatch b
 | @cons p q A v c t ih =>
  intro x b;rcases Jq.mp b with here|there
  ·have:=xH ok (ks p JH)
   rw[c.1,c.2.1,<- here]at this;exact this
  ·exact ih (λy g=>ks y (JD _ g)) x there
end
section
variable {X:Cx}{pins:List (JI × Obj)}{σ:St}{H:Hp}{s:JO}{a b:JI}{xs:KVN}{k:KN}{v d:V}{r:Jo}{A:YO}{E:Jo->JO->Prop}
theorem rY (a:A.units+3<cLine):(yI X.prog X.w).room A.in1:=by show A.in1.units+2<cLine;rw[Around.in1_units];omega
theorem zbX {Q:Jo->JO->Prop}(f:A.units+3<cLine)(I:Inv X pins σ H s)(e:Rd H a (DN X.prog X.w a xs))(ks:KsIn H xs)(d:NKey H k b)(h:∀ c,Inv X pins σ H c->Q (.bool (yg xs k).isSome) c) :
  wpAny (model X.prog X.w) A (compareOp .In (.ref b) (.ref a)) Q E s:=by
 obtain⟨z,g,j,rel,i⟩:=wk I.hok e ks;refine wpAny_in_heap (rY f) (xH I.hok d) g i ?_;have q:=(wD rel k).isSome_eq;rw[Option.isSome_map]at q;rw[<- q];exact h _ (I.tok _)
theorem cw {Q:Jo->JO->Prop}(f:A.units+3<cLine)(I:Inv X pins σ H s)(e:Rd H a (DN X.prog X.w a xs))(ks:KsIn H xs)(d:NKey H k b)(h:∀ c,Inv X pins σ H c->Q (.bool (!(yg xs k).isSome)) c) :
  wpAny (model X.prog X.w) A (compareOp .NotIn (.ref b) (.ref a)) Q E s:=by
 obtain⟨z,g,j,rel,i⟩:=wk I.hok e ks;refine wpAny_notIn_heap (rY f) (xH I.hok d) g i ?_;have q:=(wD rel k).isSome_eq;rw[Option.isSome_map]at q;rw[<- q];exact h _ (I.tok _)
theorem zac {Q:Jo->JO->Prop}(m:A.units+3<cLine)(I:Inv X pins σ H s)(e:Rd H a (DN X.prog X.w a xs))(ks:KsIn H xs)(l:NKey H k b)(j:RelV d r)(h:∀ c f,Inv X pins σ H f->RelV ((yg xs k).getD d) c->Q c f) :
  wpAny (model X.prog X.w) A (call (.builtin "dict.get") [.ref a,.ref b,r]) Q E s:=by
 obtain⟨z,n,i,rel,g⟩:=wk I.hok e ks;exact call_meetsIn PySem.F.slot_dict_get g.typeIs PySem.F.entry_dict_get (PySem.F.args_dict_get_3 _ _ _) (meetsH_dict_get_default (yI X.prog X.w) a b n r) ⟨rY m,k,i,xH I.hok l,g,h _ _ (I.tok _) ((wD rel k).getD j)⟩
theorem iC {Q:Jo->JO->Prop}(m:A.units+3<cLine)(I:Inv X pins σ H s)(e:Rd H a (DN X.prog X.w a xs))(ks:KsIn H xs)(i:NKey H k b)(l:yg xs k=some v)(h:∀ c f,Inv X pins σ H f->RelV v c->Q c f) :
  wpAny (model X.prog X.w) A (getItem (.ref a) (.ref b)) Q E s:=by
 obtain⟨z,r,g,rel,q⟩:=wk I.hok e ks;obtain⟨c,j,d⟩:=RelO.some_of (v:=v) (o:=(atKey g k).map (·.2)) (by rw[<- l];exact wD rel k);obtain⟨p,n,rfl⟩:=JX.mp j;exact wpAny_getItem_heap (rY m) (xH I.hok i) q n (h _ _ (I.tok _) d)
theorem iB {Q:Unit->JO->Prop}(m:A.units+3<cLine)(I:Inv X pins σ H s)(e:H a=some (DN X.prog X.w a xs))(ks:KsIn H xs)(i:NKey H k b)(g:RelV v r)(l:xs.length<sizeLine)(h:∀ d,Inv X pins σ (upd H a (DN X.prog X.w a (yu xs k b v))) d->Q () d) :
  wpAny (model X.prog X.w) A (setItem (.ref a) (.ref b) r) Q E s:=by
 obtain⟨z,u,f,rel,x⟩:=wk I.hok (.inl e) ks;have j:f.length<=sizeLine:=by rw[<- JU rel];exact z
 have p:(yu xs k b v).length<=sizeLine:=by have:=vM xs k b v;lia
 refine wpAny_setItem_heap (hsz:=j) (rY m) (xH I.hok i) x λw c n=>h _ ?_;have t:∃ q,w.get? a=some q:=let ⟨q,_,_,o,_⟩:=c;⟨q,o⟩;exact uq I (by rw[e];exact True.intro) n t (dn_new p u (putN_rel rel k b g) c)
end
section
variable {prog:Yo}{w:YI}{A:YO}{E:Jo->JO->Prop}{s:JO}{d:JI}
theorem ic {o:Obj}{a:Array DictEntry}{i:Nat}{Q:Jo->JO->Prop}(b:s.heap.get? d=some o)(e:o.ExactDict)(hd:o.data=.dict a i)(f:(d == sysModules)=false)(h:Q (.int a.size s.toks) { s with toks:=s.toks+1 }) :
  wpAny (model prog w) A (Builtin.«dict.__len__» ⟨[.ref d],[]⟩) (λfin c=>∃ r,fin=.done (.ret r)/\Q r c) E s:=by
 have ty:s.TypeIs (.ref d) "dict":=⟨o,b,e.1⟩;unfold Builtin.«dict.__len__» Builtin.Dict.dictSlotNone;refine J0 (J0 (Zn ty ?_));refine J0 ?_;show wpAny _ _ (pure ((.ref d,[]):Jo × List Jo)) _ _ _;refine J7 (J7 (J0 ?_));show wpAny _ _ (pure d) _ _ _;unfold dictSize;refine J7 (J0 (J0 (Y4 b hd (J7 (J0 (wpAny_pendingCount_other f ?_))))));unfold retInt
 have g:Q (.int ((a.size:Int)+((0:Nat):Int)) s.toks) { s with toks:=s.toks+1 }:=by
  rw[show ((a.size:Int)+((0:Nat):Int))=a.size from Int.add_zero _];exact h
 exact J0 (wpAny_mkInt (J7 ⟨_,rfl,g⟩))
theorem nE {o:Obj}{a:Array DictEntry}{g:Nat}{Q:Jo->JO->Prop}(c:s.heap.get? d=some o)(b:o.ExactDict)(hd:o.data=.dict a g)(f:(d == sysModules)=false)(i:(a.size:Int)<2 ^ 63)(h:∀ t,Q (.int a.size t) { s with toks:=s.toks+1+1 }) :
  wpAny (model prog w) A (Builtin.«len» ⟨[.ref d],[]⟩) (λfin e=>∃ r,fin=.done (.ret r)/\Q r e) E s:=by
 have ty:s.TypeIs (.ref d) "dict":=⟨o,c,b.1⟩;unfold Builtin.«len»;refine J0 ?_;show wpAny _ _ (pure (Value.ref d)) _ _ _;refine J7 (J0 (wpAny_callSpecial?_slot ty PySem.F.slot_dict_len (Y6 PySem.F.slot_dict_len ty PySem.F.entry_dict_len (ic c b hd f ?_) (PySem.F.args_dict_len_1 _))));show wpAny _ _ (holding [Value.int (a.size:Int) s.toks] (asIndex (.int (a.size:Int) s.toks)) >>= _) _ _ _;refine J0 (Y5 (show wpAny _ _ (pure (a.size:Int)) _ _ _ from J7 (J0 (ZZ ?_))));dsimp only;rw[Je (by simp_all),Je (by simp_all)];unfold retInt;exact J0 (wpAny_mkInt (J7 ⟨_,rfl,h _⟩))
end
section
variable {X:Cx}{pins:List (JI × Obj)}{σ:St}{H:Hp}{s:JO}{a:JI}{xs:KVN}{A:YO}{E:Jo->JO->Prop}
theorem kM {P:Yo}{w:YI}{h:YP}(ok:HOk P w H h)(e:Rd H a (DN P w a xs)):(a == sysModules)=false/\∃ o b c,h.get? a=some o/\o.ExactDict/\o.data=.dict b c/\b.size=xs.length/\(b.size:Int)<2 ^ 63:=by
 obtain⟨⟨z,d,k,r,o,b,c,j,i,g,f,m⟩,_,_⟩:=(show ObjOk P w H h a (DN P w a xs) from bn ok e);have l:b.size=xs.length:=by rw[YY f,<- JU r]
 refine⟨d,o,b,c,j,i,g,l,?_⟩;rw[JE]at z;lia
theorem za3 {Q:Jo->JO->Prop}(I:Inv X pins σ H s)(e:Rd H a (DN X.prog X.w a xs))(h:∀ t b,Inv X pins σ H b->Q (.int xs.length t) b):wpAny (model X.prog X.w) A (call (.builtin "len") [.ref a]) Q E s:=by
 obtain⟨c,o,j,k,i,g,d,l,f⟩:=kM I.hok e;refine Calls.call_function_entry kind_len plain_len entry_len (args_len1 _) (nE i g d c f λt=>?_);rw[l];exact h _ _ (I.tok _)
theorem cu {Q:Bool->JO->Prop}(I:Inv X pins σ H s)(e:Rd H a (DN X.prog X.w a xs))(h:∀ c,Inv X pins σ H c->Q (!xs.isEmpty) c):wpAny (model X.prog X.w) A (truthy (.ref a)) Q E s:=by
 obtain⟨j,o,i,u,g,d,k,l,f⟩:=kM I.hok e;have ty:s.TypeIs (.ref a) "dict":=⟨o,g,d.1⟩
 have q:∀ (n:Nat) (b:Bool),n=xs.length->b=((n:Int) != 0)->b = !xs.isEmpty:=λn b m e2=>by
  subst m e2
  cases xs with
  | nil=>rfl
  | cons x r=>rw[Yd];simp;lia
 unfold truthy;show wpAny _ _ (callSpecial? (Value.ref a) (Str.ofString "__bool__") >>= _) _ _ _;refine J0 (wpAny_callSpecial?_none (T:="dict") ty noBool_dict ?_);show wpAny _ _ (specialOf (Value.ref a) (Str.ofString "__len__") >>= _) _ _ _;refine J0 (W9 (T:="dict") ty PySem.F.slot_dict_len.lookup ?_);show wpAny _ _ (runValue (Code.builtin "len" { pos:=[Value.ref a] }) >>= _) _ _ _;refine J0 (wpAny_runValue (Z4 entry_len ?_));refine JK (nE (Q:=λr c=>(∃ t,r=.int i.size t)/\Inv X pins σ H c) g d k j f λt=>⟨⟨t,rfl⟩,I.tok _⟩) ?_ λ_ _ z=>z;rintro fin c ⟨r,rfl,⟨t,rfl⟩,p⟩;refine J7 ?_;rw[q i.size _ l rfl];exact h c p
end
noncomputable def NAt (P:Yo)(w:YI)(H:Hp)(a:JI)(xs:KVN):Prop:=Rd H a (DN P w a xs)/\KsIn H xs
noncomputable def dz (P:Yo)(w:YI)(ty e:TE):TE:=λσ H Q=>ty σ H λy f=>e σ f λx c=>∃ a b d k,x=.ref a/\y=.ref b/\NAt P w c a d/\NKey c k b/\Q (.bl (!(yg d k).isSome)) c
noncomputable def aF (P:Yo)(w:YI)(g ty f:TE):TE:=λσ H Q=>g σ H λx e=>∃ a,x=.ref a/\(∃ c,Rd e a (DN P w a c))/\ty σ e λy h=>f σ h λz d=>∃ b c k,y=.ref b/\NAt P w d a c/\NKey d k b/\Q ((yg c k).getD z) d
noncomputable def zaM (P:Yo)(w:YI)(e ty:TE):TE:=λσ H Q=>e σ H λx f=>ty σ f λy c=>∃ a b d k v,x=.ref a/\y=.ref b/\NAt P w c a d/\NKey c k b/\yg d k=some v/\Q v c
noncomputable def zaV (P:Yo)(w:YI)(f ty e:TE):TS:=λD σ H=>e σ H λv h=>f σ h λx g=>ty σ g λy d=>∃ a b c k,x=.ref a/\y=.ref b/\d a=some (DN P w a c)/\KsIn d c/\NKey d k b/\c.length<sizeLine/\D.nx σ (upd d a (DN P w a (yu c k b v)))
section
variable {X:Cx}{o i e f value:Expr}{pos pos' apos cpos:Pos}{td ty tv tx:TE}
theorem qy {pins:List (JI × Obj)}{σ:St}{H:Hp}{s:JO}{a:JI}{xs:KVN}(I:Inv X pins σ H s)(d:Rd H a (DN X.prog X.w a xs)) :
  s.TypeIs (.ref a) "dict"/\∀ b,Value.ref a=.ref b->∃ ob,s.heap.get? b=some ob/\ob.dict=none:=by
 obtain⟨_,q,f,g,e,c,_⟩:=kM I.hok d;refine⟨⟨q,e,c.1⟩,λb z=>?_⟩;cases z;exact⟨q,e,c.2.1⟩
theorem vn (p:X.A.units+3<cLine)(hi:PE X i ty)(q:PE X o td):PC X .NotIn i o (dz X.prog X.w ty td):=by
 intro pins s σ H Q I h;refine thn (hi pins s σ H _ I h) λm d ⟨y,A,w,e,j⟩=>thn (q pins d σ A _ w j) λu C ⟨x,z,v,f,a,b,c,k,ex,r,n,l,g⟩=>?_;subst ex r;cases (show u=Value.ref a from f);cases (show m=Value.ref b from e);exact cw p v n.1 n.2 l λB t=>⟨.bl (!(yg c k).isSome),z,t,rfl,g⟩
theorem cQ (r:X.A.units+3<cLine)(w:PE X o td)(hi:PE X i ty)(t:NoSl i):PE X (.Subscript o i pos) (zaM X.prog X.w td ty):=by
 intro pins s σ H Q I h;refine cB PySem.F.slot_dict_getitem.lookup t (thn (w pins s σ H _ I h) λu e ⟨x,D,B,g,l⟩=>thn (hi pins e σ D _ B l) λp J ⟨y,C,d,f,a,b,E,k,v,ex,z,n,m,q,j⟩=>?_);subst ex z;cases (show u=Value.ref a from g);cases (show p=Value.ref b from f);exact⟨(qy d n.1).1,iC r d n.1 n.2 m q λF G A c=>⟨v,C,A,c,j⟩⟩
theorem oQ (D:X.A.units+3<cLine) (E:PE X o td) (G:PE X e ty) (F:PE X f tx) (m:M2 X o "get" apos e f cpos):PE X (.Call (.Attribute o "get" apos) [e,f] [] cpos) (aF X.prog X.w td ty tx):=by
 intro pins s σ H Q I h;refine wpAny_Call_method m.base m.few m.line PySem.F.plainAttrs_dict PySem.F.slot_dict_get PySem.F.type_dict_get (thn (E pins s σ H _ I h) λu p ⟨x,P,g,t,a,ex,⟨R,d⟩,A⟩=>?_);subst ex;cases (show u=Value.ref a from t);obtain⟨j,i⟩:=qy g d;refine⟨j,i,?_⟩;rw[m.trees]
 refine Zg rfl (Calls.evalArgs_plain (ZH (thn (G pins p σ P _ g A) λC l ⟨y,O,M,r,w⟩ =>
  ZH (thn (F pins l σ O _ M w) λW V ⟨z,N,L,q,b,S,k,J,n,B,v⟩=>Wk ?_))))
 subst J;cases (show C=Value.ref b from r);exact zac D L n.1 n.2 B q λT U K c=>⟨_,N,K,c,v⟩
theorem qm (z:X.A.units+3<cLine)(B:PE X o td)(hi:PE X i ty)(w:PE X value tv)(A:swapsWith value (some (.Subscript o i pos')) pos.line X.env=pure false) :
  PS X (.Assign [.Subscript o i pos'] value pos) (zaV X.prog X.w td ty tv):=by
 intro pins s σ H D I h;refine wpAny_Assign_Subscript (thn (w pins s σ H _ I h) λr d ⟨v,M,K,g,n⟩=>thn (B pins d σ M _ K n) λu c ⟨x,L,J,f,m⟩=>thn (hi pins c σ L _ J m) λt P ⟨y,Q,G,e,a,b,N,k,ex,E,C,p,q,l,j⟩=>?_) A;subst ex E;cases (show u=Value.ref a from f);cases (show t=Value.ref b from e);exact iB z G C p q g l λO F=>⟨σ,_,F,j⟩
theorem wa:CallR X (.builtin "len") (λvs H Q=>∃ a xs,vs=[.ref a]/\Rd H a (DN X.prog X.w a xs)/\Q (.int xs.length) H):=by
 intro pins s σ H vs g Q I b ⟨a,xs,e,d,q⟩;subst e;obtain⟨u,rfl,c⟩:=b.one;cases (show u=Value.ref a from c);exact za3 I d λt h f=>⟨.int xs.length,H,f,⟨t,rfl⟩,q⟩
theorem zaE:TruR X (λx H Q=>∃ a xs,x=.ref a/\Rd H a (DN X.prog X.w a xs)/\Q (!xs.isEmpty) H):=by
 intro pins s σ H x v Q I b ⟨a,xs,e,d,q⟩;subst e;cases (show v=Value.ref a from b);exact cu I d λf c=>⟨H,c,q⟩
theorem zbW (ha:PE X o td)(e:∀ whole,isTrue o X.env whole=(do let v <- whole;standAt o.pos;holding [v] (truthy v))) :
  PT X o (λσ H Q=>td σ H λx H'=>∃ a xs,x=.ref a/\Rd H' a (DN X.prog X.w a xs)/\Q (!xs.isEmpty) H'):=by
 intro pins s σ H Q I h;exact isTrue_plain (thn (ha pins s σ H _ I h) λv b ⟨x,g,f,c,d⟩=>zaE pins b σ g x v Q f c d) (e _)
noncomputable def zaL (P:Yo)(w:YI):TE:=λ_ H Q=>∀ p,H p=none->Q (.ref p) (upd H p (DN P w p []))
theorem uh:PE X (.Dict [] [] pos) (zaL X.prog X.w):=λpins s σ H Q I h =>
 wpAny_Dict_empty ⟨.ref s.heap.objs.size,_,I.laid (a:=s.heap.objs.size) (o:=DN X.prog X.w s.heap.objs.size []) (t':=s.toks) (λ_ _ q=>J6 _ q) (Jd _)
  (dn_new (vs:=[]) (Jz _) (YZ.mpr (YM I.big)) .nil (Heap.DictOfH.new _)),rfl,h _ (I.hok.fresh (Jd _))⟩
end
noncomputable def zbT (P:Yo)(w:YI)(p:JI)(Q:VK):List (V × V)->Hp->Prop
 | [(y,v)],a=>∃ b k,y=.ref b/\a p=some (DN P w p [])/\NKey a k b/\Q (.ref p) (upd a p (DN P w p [(k,b,v)]))
 | _,_=>False
noncomputable def zaK (P:Yo)(w:YI)(ty c:TE):TE:=λσ H Q=>∀ p,H p=none->ty σ (upd H p (DN P w p [])) λy d=>c σ d λv a=>∃ b k,y=.ref b/\a p=some (DN P w p [])/\NKey a k b/\Q (.ref p) (upd a p (DN P w p [(k,b,v)]))
section
variable {X:Cx}{e f:Expr}{pos:Pos}{ty tv:TE}
theorem tU (N:X.A.units+3<cLine)(D:PE X e ty)(w:PE X f tv):PE X (.Dict [some e] [f] pos) (zaK X.prog X.w ty tv):=by
 intro pins s σ H Q I q;have C:=I.hok.fresh (Jd s.heap.objs.size)
 have J:=I.laid (a:=s.heap.objs.size) (o:=DN X.prog X.w s.heap.objs.size []) (h':=s.heap.push { cls:=.type "dict",data:=.dict #[] }) (t':=s.toks) (λ_ _ q=>J6 _ q) (Jd _)
  (dn_new (vs:=[]) (Jz _) (YZ.mpr (YM I.big)) .nil (Heap.DictOfH.new _))
 refine wpAny_Dict_any rfl rfl (by simp) (by show 1<=15;lia) (thn ((gy D w cO) pins _ σ _ (zbT X.prog X.w s.heap.objs.size Q) J (q _ C)) ?_);rintro vs M ⟨n,O,d,rel,r⟩
 match n,rel,r with
 | [(y,v)],rel,r =>
  obtain⟨b,k,rfl,g,p,m⟩:=r
  cases rel with
  | @cons _ i _ K h t =>
   cases t;obtain⟨j,L⟩:=i;cases (show j=Value.ref b from h.1);obtain⟨z,F,vs,l,G⟩:=wk d.hok (.inl g) (λx u=>nomatch u);cases l;unfold storeAll;rw[Z3];refine J0 (J0 (wpAny_dictSet_heap (knd:=yI X.prog X.w) (k:=k) (hsz:=Jz _) (show X.A.units+2<cLine by lia) (xH d.hok p) G λh' c A=>J7 ?_));dsimp only;rw[Zc];refine J7 ⟨.ref s.heap.objs.size,_,?_,rfl,m⟩;have E:∃ q,h'.get? s.heap.objs.size=some q:=let ⟨q,_,_,B,_⟩:=c;⟨q,B⟩
   exact uq d (by rw[g];exact True.intro) A E (dn_new (by show 1<=sizeLine;decide) F (.cons ⟨rfl,rfl,h.2⟩ .nil) c)
 | [],_,r=>exact r.elim
 | _::_::_,_,r=>exact r.elim
end
noncomputable def DCW (P:Yo)(w:YI)(J:It)(g:TG)(tk n:TE)(d:JI)(Q:VK)(W:Nat->Nat->KVN->St->Hp->Prop):Prop :=
 ∀ i m c f e,W i m c f e->(J.stop i e/\Q (.ref d) e)\/(J.go i e/\∀ x l,J.yld i e x l->g x f l λa p=>tk a p λy o=>n a o λv h=>∃ b k,y=.ref b/\h d=some (DN P w d c)/\KsIn h c/\NKey h k b/\c.length<sizeLine /\
  ∃ j,j<m/\W (i+1) j (yu c k b v) a (upd h d (DN P w d (yu c k b v))))
noncomputable def tDC (P:Yo)(w:YI)(cap:List (Option Nat))(b:TI)(g:TG)(tk c:TE):TE:=λσ H Q=>b σ H λJ a=>∀ d,a d=none ->
 ∃ W:Nat->Nat->KVN->St->Hp->Prop,(∃ m,W 0 m [] (pM cap σ) (upd a d (DN P w d [])))/\DCW P w J g tk c d Q W
theorem iD {X:Cx}{pins:List (JI × Obj)}{σ:St}{H:Hp}{s:JO}{a b:JI}{xs:KVN}{k:KN}{v:V}{r:Jo}{E:Jo->JO->Prop}{Q:Unit->JO->Prop}(u:X.A.units+3<cLine)(I:Inv X pins σ H s)(e:H a=some (DN X.prog X.w a xs))(ks:KsIn H xs)(i:NKey H k b)(g:RelV v r)(l:xs.length<sizeLine)(h:∀ d,Inv X pins σ (upd H a (DN X.prog X.w a (yu xs k b v))) d->Q () d) :
  wpAny (model X.prog X.w) X.A (dictSet a (.ref b) r) Q E s:=by
 obtain⟨z,p,f,rel,t⟩:=wk I.hok (.inl e) ks;have j:f.length<=sizeLine:=by rw[<- JU rel];exact z
 have o:(yu xs k b v).length<=sizeLine:=by have:=vM xs k b v;lia
 refine wpAny_dictSet_heap (knd:=yI X.prog X.w) (k:=k) (hsz:=j) (show X.A.units+2<cLine by lia) (xH I.hok i) t λw c m=>h _ ?_;exact uq I (by rw[e];exact True.intro) m (let ⟨q,_,_,n,_⟩:=c;⟨q,n⟩) (dn_new o p (putN_rel rel k b g) c)
theorem bW {prog:Yo}{w:YI}{A:YO}{R:Result->JO->Prop}{s:JO}{i g tg iter:Expr}{scope:Scope}{pos:Pos}{it:Jo}{D:JI}{env:Env}(J:Nat->JO->Prop)(turn:∀ n s,J n s->wpAny (model prog w) A (pyNext it) (λr a=>match r with
   | none=>R (.ok .next) a
   | some v=>wpAny (model prog w) A (letOwnedTupleGo tg it v) (λ_ b=>wpAny (model prog w) A (assign tg env v) (λ_ c=>wpAny (model prog w) A (eval i env) (λx d=>wpAny (model prog w) A (eval g env) (λy e=>wpAny (model prog w) A (dictSet D x y) (λ_ z=>∃ m,m<n/\J m z) NoX e) NoX d) NoX c) NoX b) NoX a) NoX s)(n:Nat)(h:J n s) :
  codeAny (model prog w) A (.compLoop (.DictComp i g [⟨tg,iter,[],0⟩] scope pos) 0 it (.ref D) env) R s:=by
 refine codeAny_loop rfl J (λn s k=>?_) n h;show wpAny _ A ((compTurn (.DictComp i g [⟨tg,iter,[],0⟩] scope pos) 0 it (.ref D) env).onRaise (λx=>do noteFrame x env;theTreesLotGoes x)) _ _ s;refine wpAny_noted ?_;rw[compTurn_dict];refine J0 (Z0 (J0 (JK (turn n s k) (λr a j=>?_) λ_ _ z=>z.elim)))
 cases r with
 | none=>exact J7 j
 | some v =>
  refine J0 (JK j (λ_ b t=>?_) λ_ _ z=>z.elim);refine J0 (JK t (λ_ c q=>?_) λ_ _ z=>z.elim);dsimp only;rw[Zc];refine J0 (J7 ?_);rw[Jm rfl];refine J0 (J0 (JK q (λx d p=>J0 (Y5 (JK p (λy e o=>J0 (Z0 (Y5 (JK o (λ_ f l=>?_) λ_ _ z=>z.elim)))) λ_ _ z=>z.elim))) λ_ _ z=>z.elim));exact J7 ⟨rfl,l⟩
theorem fJ {X:Cx}{kx vx tg iter:Expr}{scope:Scope}{pos:Pos}{wi:TI}{g:TG}{tk tv:TE}{N':List Str}{cap:List (Option Nat)}(hu:X.A.units+3<cLine)(hc:X.calm=true)(hi:PI X tg iter wi)(R:CapOk X.N N' X.env.scope scope cap)(hg:∀ C s₀ H₀ fp pins,PG (yH X N' scope C s₀ H₀ fp pins) tg g)(hk:∀ C s₀ H₀ fp pins,PE (yH X N' scope C s₀ H₀ fp pins) kx tk)(hv:∀ C s₀ H₀ fp pins,PE (yH X N' scope C s₀ H₀ fp pins) vx tv)(hs:∀ x,foldedSetIterable iter X.env x=pure x:=by intro _;rfl):PE X (.DictComp kx vx [⟨tg,iter,[],0⟩] scope pos) (tDC X.prog X.w cap wi g tk tv):=by
 intro pins s σ H Q I h;rw[arm_eval_DictComp];have K:∀ y∈scope.names,y.2=.free->∃ c,X.env.cells.lookup y.1=some c:=λy hy hf=>I.ok.has y.1 (R.free y hy hf);refine wpAny_comprehension_free (use:=none) rfl hs (vA K) R.kind R.names (thn (hi pins s σ H _ I h) λv s1 h1=>thn h1 λb9 D h2=>?_);obtain⟨it,fp,tn,J,H2,e,I2,T,a4,P,body⟩:=h2;subst e;have aT:H2 D.heap.objs.size=none:=I2.hok.fresh (Jd _);obtain⟨W,⟨m0,w0⟩,turn⟩:=body D.heap.objs.size aT
 have w:=I2.laid (a:=D.heap.objs.size) (o:=DN X.prog X.w D.heap.objs.size []) (h':=D.heap.push { cls:=.type "dict",data:=.dict #[] }) (t':=D.toks) (λ_ _ q=>J6 _ q) (Jd _)
  (dn_new (vs:=[]) (Jz _) (YZ.mpr (YM I2.big)) .nil (Heap.DictOfH.new _))
 refine JN (wpAny_newFunctionEnv R.nocell (by intro y hy;simp at hy) (λB G F=>?_) R.kind);dsimp only at G F ⊢;generalize hl:D.heap.objs.size=l at *;generalize hP:D.heap.push { cls:=.type "dict",dict:=none,data:=.dict #[] }=P2 at *;generalize b1:upd H2 l (DN X.prog X.w l [])=H3 at *;have old:∀ b o,P2.get? b=some o->B.get? b=some o:=λb o e=>F.extBut b o (JB (Jn e)) (J6 _ e);have ax:∀ b o,D.heap.get? b=some o->P2.get? b=some o:=λb o e=>hP ▸ J6 _ e
 have a9:∀ b∈fp,b<l:=λb f=>by
  obtain⟨o,e,_⟩:=T.obj _ _ a4 b f;rw[<- hl];exact Jn e
 have b3:∀ b∈fp,H3 b=none:=λb f=>by
  rw[<- b1,zG (JB (a9 b f))];exact(P b f).1
 have b0:P2.objs.size=l+1:=by rw[<- hP,YR,hl]
 have A:∀ x c,(wc X.env.cells scope.names []).lookup x=some c->X.env.cells.lookup x=some c:=λx c e=>wQ _ _ x c K (λ_ _ z=>by simp at z) e;generalize a6:({ D with heap:=P2,toks:=D.toks }:JO)=s3 at *;have t:s3.heap=P2:=by rw[<- a6]
 let Y:=yH X N' scope P2.objs.size s3 H3 fp pins
 have E:Y.Ok:=by
  refine⟨w.ok.mod,R.kind,w.ok.glob,w.ok.blt,by show s3.heap.objs.size<=P2.objs.size;rw[t];exact Jd _,λx y c e1 e2=>w.ok.inj x y c (A x c e1) (A y c e2),λx V=>?_,λx c V=>absurd (show false=true from V) Jh,w.ok.hd,w.ok.frames,.inl rfl,λb f=>⟨?_,λx c e=>?_⟩,w.bs,
   JS w.ok.bsz w.sz,λb o e f=>?_,λb f hz=>?_,w.stack,w.stkFree⟩
  ·have bo:scope.names.lookup x=some .free:=by
    rcases V with V|V
    ·rcases yi V with z|z
     ·exact absurd rfl (R.nocell _ (wA z))
     ·exact z.2
    ·rcases yi V with z|z
     ·exact z
     ·exact z.2
   exact xC _ _ x bo
  ·exact JB (by show b<P2.objs.size;rw[b0];exact ZL (a9 b f))
  ·exact(P b f).2.2.2.2.1 x c (A x c e)
  ·rcases (P b f).2.2.2.1 with z|z
   ·exact w.ok.noex b o e z
   ·exact absurd (JJ (Jn e) (JS w.ok.bsz z)) (YE _)
  ·rcases Jq.mp (w.stkSub b hz) with z|z
   ·exact(P b f).2.1 z
   ·exact(P b f).2.2.1 z
 have bS:Inv Y [] (pM cap σ) H3 { D with heap:=B,toks:=D.toks }:=by
  refine⟨E,by show D.os=s3.os;rw[<- a6],I2.bare,by show Un _ _ _ _ s3.heap B;rw[t];exact Un.kept old,⟨_,G,λj x v e1 e2 e3=>?_⟩,λx c e=>?_,?_,λx c e=>w.freeC x c (A x c e),λp hp=>?_,λb o e=>?_,?_⟩
  ·have b5:N'[j]?=some x:=e1
   unfold pM at e2;rw[JV]at e2
   cases ec:cap[j]? with
   | none=>rw[ec]at e2;cases e2
   | some oc =>
    rw[ec]at e2
    cases oc with
    | none=>cases e2
    | some i =>
     have b4:σ[i]?=some (some v):=by
      cases ei:σ[i]? with
      | none=>simp[ei]at e2
      | some v' =>
       simp[ei]at e2;rw[e2]
     have hz:(x,some i)∈N'.zip cap:=by
      refine JF (i:=j) ?_;rw[Zz];exact⟨b5,ec⟩
     obtain⟨hN,hf,hk⟩:=R.cap _ hz i rfl;obtain⟨m,hn,bt⟩:=w.loc;obtain⟨u,r,lk⟩:=bt i x v hN b4 (by rcases hk with z|z;exact .inr (.inl z);exact .inr (.inr z));refine⟨u,r,.inr ⟨?_,?_⟩⟩
     ·exact x8 hf
     ·rcases lk with ⟨z,_⟩|⟨_,c,bB,ab⟩
      ·have z':X.env.scope.names.lookup x=some .local:=z
       rcases hk with q|q
       ·rw[q]at z';cases z'
       ·rw[q]at z';cases z'
      ·obtain⟨c',a7⟩:=xC (cells:=X.env.cells) scope.names [] x hf
       have:=A x c' a7;rw[bB]at this;cases this;obtain⟨ob,e,d⟩:=ab;rw[t]at e;exact⟨c,a7,ob,old c ob e,d⟩
  ·obtain⟨v,ob,e',d⟩:=w.cell x c (A x c e)
   rw[t]at e';exact⟨v,ob,old c ob e',d⟩
  ·refine w.hok.fresh ?_
   rw[t];exact Jd _
  ·have ao:p∈X.pn++pins:=(Jr.mp hp).elim (λz=>z) (λz=>nomatch z)
   obtain⟨e,n,ne,nf,d⟩:=w.pin p ao;rw[t]at e;refine⟨old _ _ e,n,JB (Jn e),λz=>?_,d⟩;rcases Jq.mp (w.stkSub _ z) with q|q
   ·exact ne q
   ·exact nf q
  ·have:=w.hok.kept (h':=B) (λb u q=>old b u (by rw[<- t];exact q))
   exact this b o e
  ·show (cap.map _).length=N'.length
   rw[Jc,R.len]
 have N:∀ {L:Hp},(∀ b∈fp,L b=none)->∀ b∈fp,FpOk Y [] L b:=λ{L} hn b f=>by
  refine⟨hn b f,(E.exf b f).1,E.exfs b f,.inl f,(E.exf b f).2,λp hp=>?_⟩;have ao:p∈X.pn++pins:=(Jr.mp hp).elim (λz=>z) (λz=>nomatch z);exact(P b f).2.2.2.2.2 p ao
 have a5:tn 0 B:=T.keep 0 _ _ a4 λb f o e=>old b o (ax b o e)
 have loop:codeAny (model X.prog X.w) X.A (.compLoop (.DictComp kx vx [⟨tg,iter,[],0⟩] scope pos) 0 (.ref it) (.ref l) Y.env) (compPost (model X.prog X.w) X.A X.xe none (EP X pins σ Q) (.ref l) P2.objs.size) { D with heap:=B,toks:=D.toks }:=by
  refine bW (λn s'=>∃ i acc M L,Inv Y [] M L s'/\tn i s'.heap/\(∀ b∈fp,L b=none)/\W i n acc M L) ?_ m0 ⟨0,[],_,H3,bS,a5,b3,w0⟩;rintro n s4 ⟨i,acc,U,H4,I4,a3,a8,w4⟩;have q4:=turn i n acc U H4 w4;rcases q4 with ⟨stop,qn⟩|⟨go,step⟩
  ·refine thn (T.done Y rfl rfl rfl hc i [] s4 U H4 Y.xe I4 (N a8) a3 stop) λr s5 ⟨hr,I5⟩=>?_
   subst hr;obtain⟨m,hn,_⟩:=id I5.loc;have un:Un (frs X.stack) fp H3 H4 s3.heap s5.heap:=I5.base;have ba:s3.heap.objs.size<=P2.objs.size:=by rw[t];exact Jd _
   have IX:Inv X pins σ H4 s5:=w.call' (ch:=fp) I5.os un I5.hok I5.bare λb f=>⟨(P b f).2.2.2.1,(P b f).2.1,(P b f).2.2.2.2.1,(P b f).2.2.2.2.2⟩;exact⟨m,hn,λh' sb=>⟨.ref l,H4,IX.gone (w.fpOk ba I5.free) sb,rfl,qn⟩⟩
  ·refine thn (T.item Y rfl rfl rfl hc i [] s4 U H4 Y.xe I4 (N a8) a3 go) λr s5 ⟨u,hr,h5⟩=>?_
   subst hr;refine thn h5 λ_ s6 ⟨x,H6,I6,r6,y6,Z,b2⟩=>?_;have b6:=I6.pinned (N b2) (T.obj _ _ Z);refine thn (hg _ _ _ _ _ _ s6 U H6 x u _ b6 r6 (step x H6 y6)) λ_ s7 ⟨a0,H7,I7,q7⟩=>?_
   have again:∀ {S:St}{H9:Hp}{s9:JO}{O:KVN},Inv Y ([]++x9 fp s6.heap) S H9 s9->(∃ m',m'<n/\W (i+1) m' O S H9)->∃ m,m<n/\∃ i acc M L,Inv Y [] M L s9/\tn i s9.heap/\(∀ b∈fp,L b=none)/\W i m acc M L:=λ{S H9 s9 O} I9 ⟨m',hm,w9⟩=>by
    refine⟨m',hm,i+1,O,S,H9,I9.unpinned,T.keep _ _ _ Z λb f o e=>(I9.pin (b,o) (Js _ (Js _ (yU f e)))).1,λb f=>?_,w9⟩;obtain⟨o,e,d⟩:=T.obj _ _ Z b f;exact(I9.pin (b,o) (Js _ (Js _ (yU f e)))).2.1
   refine thn (hk _ _ _ _ _ _ s7 a0 H7 _ I7 q7) λu1 s8 ⟨y,H8,I8,r8,q8⟩=>thn (hv _ _ _ _ _ _ s8 a0 H8 _ I8 q8) λu2 s9 ⟨v,H9,I9,r9,b,k,ey,bu,bc,bl,l9,q9⟩=>?_;subst ey;cases (show u1=Value.ref b from r8);exact iD (X:=Y) hu I9 bu bc bl r9 l9 λb8 b7=>again b7 q9
 exact codeAny_compStart_dict loop (T.self X.A 0 _ _ _ a5 loop)
end L2
namespace Bn
open PySem L2 Own
structure Grp where
 many:Int
 lane:Nat
 fork:Nat
noncomputable def yF (back:Bool)(st:List Int × Nat)(k:Nat)(f:Nat × Nat):List Int × Nat :=
 if st.2=f.1\/st.2=f.2 then (st.1.set k (1-st.1.getD k 0),if (if back then 1-st.1.getD k 0 else st.1.getD k 0)=0 then f.1 else f.2) else st
noncomputable def yP (back:Bool)(fs:List (Nat × Nat))(ts:List Int)(lane:Nat):Nat->List Int × Nat
 | 0=>(ts,lane)
 | i+1=>yF back (yP back fs ts lane i) i (fs.getD i (0,0))
noncomputable def df (xs:List Int)(i:Nat)(d:Int):List Int:=xs.set i (xs.getD i 0+d)
theorem gT {ts:List Int}{k:Nat}(h:∀ t∈ts,t=0\/t=1):∀ t∈ts.set k (1-ts.getD k 0),t=0\/t=1:=λt a=>by
 rcases List.mem_or_eq_of_mem_set a with z|z
 ·exact h t z
 ·by_cases b:k<ts.length
  ·have:=h _ (L2.sM b);lia
  ·rw[List.set_eq_of_length_le (by simp_all)]at a;exact h t a
theorem x6 {back:Bool}{fs:List (Nat × Nat)}{ts:List Int}{lane:Nat}(h:∀ t∈ts,t=0\/t=1):∀ i,∀ t∈(yP back fs ts lane i).1,t=0\/t=1
 | 0=>h
 | i+1=>by
  have ih:=x6 (back:=back) (fs:=fs) (lane:=lane) h i;show ∀ t∈(yF back (yP back fs ts lane i) i (fs.getD i (0,0))).1,t=0\/t=1;unfold yF;split
  ·exact gT ih
  ·exact ih
theorem wT {back:Bool}{fs:List (Nat × Nat)}{ts:List Int}{lane:Nat}:∀ i,(yP back fs ts lane i).1.length=ts.length
 | 0=>rfl
 | i+1=>by
  have ih:=wT (back:=back) (fs:=fs) (ts:=ts) (lane:=lane) i;show (yF back (yP back fs ts lane i) i (fs.getD i (0,0))).1.length=_;unfold yF;split
  ·simp only;rw[List.length_set];exact ih
  ·exact ih
theorem wq {back:Bool}{fs:List (Nat × Nat)}{ts:List Int}{lane n:Nat}(ok:∀ f∈fs,f.1<n/\f.2<n/\f.1≠f.2)(b:lane<n):∀ i,i<=fs.length->(yP back fs ts lane i).2<n
 | 0,_=>b
 | i+1,hi=>by
  have ih:=wq (back:=back) (ts:=ts) ok b i (by lia);have a:=ok _ (Zw (show i<fs.length by lia));have c:fs.getD i (0,0)=fs[i]:=by rw[JA,J8 (show i<fs.length by lia)];rfl
  show (yF back (yP back fs ts lane i) i (fs.getD i (0,0))).2<n;rw[c];generalize fs[i]=f at *;unfold yF;split
  ·simp only
   by_cases z:(if back=true then 1-(yP back fs ts lane i).1.getD i 0 else (yP back fs ts lane i).1.getD i 0)=0
   ·rw[Jm z];exact a.1
   ·rw[Je z];exact a.2.1
  ·exact ih
theorem sI (k:Nat):∀ a:List Nat,(a.map λ(e:Nat)=>(e:Int)).idxOf (k:Int)=a.idxOf k
 | []=>rfl
 | e::a=>by
  rw[JR,List.idxOf_cons,List.idxOf_cons,sI k a]
  have:((e:Int) == (k:Int))=(e == k):=by
   rw[Yd,beq_iff_eq];rw[beq_iff_eq];lia
  rw[this]
theorem oe (a:List Nat):zW a=(a.map λ(e:Nat)=>(e:Int)).map V.int:=by unfold zW;rw[YA];rfl
noncomputable def gR:Sp:=λb H Q _=>∃ r fr d c N,∃ a:Nat,b=[.ref r,.int a]/\Nt.Ok N/\NetAt H r fr d c N/\a<N.lanes/\Q (.int (N.ends.idxOf a:Nat)) H
noncomputable def RunQ (back:Bool)(vs:List V)(H:Hp)(Q:VK):Prop:=∃ r fr g f N e b,∃ a:Nat,vs=[.ref r,.ref e,.int a]/\Nt.Ok N/\NetAt H r fr g f N/\H e=some (.tup (List.map V.int b))/\b.length=N.forks.length/\(∀ t∈b,t=0\/t=1)/\a<N.lanes /\
 ∀ p c d,Same H d->d p=some (.tup [.ref c,.int (N.ends.idxOf (yP back N.forks b a N.forks.length).2:Nat)])->d c=some (.tup ((yP back N.forks b a N.forks.length).1.map V.int))->Q (.ref p) d
noncomputable def wp (back:Bool):Sp:=λa H Q _=>RunQ back a H Q
noncomputable def gN:Sp:=λb H Q _=>∃ (a:List V) (back:Bool),b=a++[.bl back]/\RunQ back a H Q
theorem kA (xs:List Int)(i:Nat)(v:Int)(h:i<xs.length):(xs.map V.int).take i++[V.int v]++(xs.map V.int).drop (i+1)=(xs.set i v).map V.int:=by
 rw[List.set_eq_take_append_cons_drop,Jm h,JG,JR,List.map_take,List.map_drop,JW];rfl
noncomputable def part (m:Int)(lane k:Nat):List Grp:=if m=0 then [] else [⟨m,lane,k⟩]
end Bn
namespace Bn
open PySem L2 Own
noncomputable def big (x y:Int):Int:=if y > x then y else x
noncomputable def bF (st:List Int × List Int)(f:Nat × Nat):List Int × List Int :=
 ((st.1.set f.1 (1+big (st.1.getD f.1 0) (st.1.getD f.2 0))).set f.2 (1+big (st.1.getD f.1 0) (st.1.getD f.2 0)),st.2++[1+big (st.1.getD f.1 0) (st.1.getD f.2 0)])
noncomputable def lay (n:Nat)(fs:List (Nat × Nat)):List Int × List Int:=fs.foldl bF (List.replicate n 0,[])
noncomputable def za4 (g f:Nat × Nat):Bool:=decide (g.1=f.1\/g.1=f.2) || decide (g.2=f.1\/g.2=f.2)
noncomputable def zb5 (fs:List (Nat × Nat))(a:List Int)(f:Nat × Nat)(i:Nat):List Int:=((List.range i).filter λj=>za4 (fs.getD j (0,0)) f).map λj=>a.getD j 0
noncomputable def zbZ (N:Nt):List Int:=(lay N.lanes N.forks).2
noncomputable abbrev Fk:=Nat × Nat
noncomputable def run {σ α:Type}(step:σ->Fk->σ × α):σ->List Fk->σ × List (α × Fk)
 | s,[]=>(s,[])
 | s,f::fs=>((run step (step s f).1 fs).1,((step s f).2,f)::(run step (step s f).1 fs).2)
noncomputable def rnk (x:Int × Fk):Int:=x.1*1024+x.2.1*32+x.2.2
noncomputable def ins (x:Int × Fk):List (Int × Fk)->List (Int × Fk)
 | []=>[x]
 | y::l=>if rnk x<=rnk y then x::y::l else y::ins x l
noncomputable def nmq (p:List Nat)(i:Nat):Nat:=p.getD i 0
noncomputable def aB (p:List Nat)(f:Fk):Fk:=(nmq p f.1,nmq p f.2)
noncomputable def gk (N:Nt)(p:List Nat):Nt:=⟨N.lanes,N.forks.map (aB p),N.ends.map (nmq p)⟩
noncomputable def be (a b:Nt):Nt:=⟨a.lanes,a.forks++b.forks.map (aB a.ends),b.ends.map (nmq a.ends)⟩
noncomputable def shF (n:Nat)(f:Fk):Fk:=(n+f.1,n+f.2)
noncomputable def bb (a b:Nt):Nt:=⟨a.lanes+b.lanes,a.forks++b.forks.map (shF a.lanes),a.ends++b.ends.map (a.lanes + ·)⟩
theorem zr {H:Hp}{a:JI}(_:H a=none)(o:HO):L2.upd H a o a=some o:=zB
theorem Prs.app {H:Hp}:∀ {ps a:List V}{fs b:List Fk},Prs H ps fs->Prs H a b->Prs H (ps++a) (fs++b)
 | [],_,[],_,_,h=>h
 | _::_,_,_::_,_,⟨x,r⟩,h=>⟨x,Prs.app r h⟩
end Bn
namespace L2
open PySem PySem.Spec PyProof.Rows Own
section
variable {prog:Yo}{w:YI}{A:YO}{E:Jo->JO->Prop}{s:JO}{d:JI}
theorem iW {Q:Int->JO->Prop}(q:Q (reduceHash 0xFCA86420) { s with toks:=s.toks+1 }):wpAny (model prog w) A (pyHash .none) Q E s:=by
 show wpAny (model prog w) A (pyHashByItsType .none) Q E s;refine W.pyHash_slot (T:="NoneType") (id:="NoneType.__hash__") (B:=Builtin.«NoneType.__hash__») rfl F.slot_NoneType_hash F.entry_NoneType_hash (F.args_NoneType_hash_1 _) (by decide) (.inl rfl) ?_;unfold Builtin.«NoneType.__hash__»;refine J0 ?_;show wpAny _ _ (pure _) _ _ _;unfold retInt;exact J7 (J0 (wpAny_mkInt (J7 ⟨_,_,rfl,q⟩)))
theorem uB {a:JI}{k:KN}{Q:Bool->JO->Prop}(d:A.units<cLine)(c:NIs prog w s.heap k a)(q:Q false s):wpAny (model prog w) A (eqBool (.ref a) .none) Q E s:=by
 obtain⟨as,b⟩:=c.reads;exact PySem.SeqAt.eqBoolOverData prog w A E s _ _ _ .none as [] Q b .none (lF k).1 rfl (by show A.units+min _ 0<cLine;simp_all) q
theorem ma {n:Nat}{Q:Bool->JO->Prop}(q:Q true s):wpAny (model prog w) A (eqIsQuiet n .none) Q E s:=by
 cases n<;>exact J7 q
theorem rQ {α β:Type}{f:α->β->Sem (ForInStep β)}{b:β}:∀ (l:List α) {Q:β->JO->Prop},(∀ i∈l,∀ R:ForInStep β->JO->Prop,R (.yield b) s->wpAny (model prog w) A (f i b) R E s)->Q b s->wpAny (model prog w) A (forIn l b f) Q E s
 | [],Q,_,q=>by rw[Zc];exact J7 q
 | i::l,Q,h,q=>by
  rw[Z3];exact J0 (h i JH _ (rQ l (λj a=>h j (JD _ a)) q))
theorem jQ {stored:List Jo}{Q:Bool->JO->Prop}(h:∀ v∈stored,∃ a k,v=.ref a/\NIs prog w s.heap k a)(q:Q false s):wpAny (model prog w) A (tableMayTell .none stored) Q E s:=by
 unfold tableMayTell;by_cases c:stored.isEmpty=true
 ·rw[Jm c];exact J7 q
 rw[Je c];refine J0 (ma (J0 (rQ stored (λv b R r=>?_) (J7 q))));obtain⟨a,k,rfl,d⟩:=h v b;exact J0 (tN d (J7 r))
theorem iZ {o:Obj}{b:Array DictEntry}{j:Nat}{h:Int}{Q:Option Nat->JO->Prop}(u:A.units<cLine)(g:s.heap.get? d=some o)(hd:o.data=.dict b j)(D:∀ e∈b.toList,∃ a k,e.key=.ref a/\NIs prog w s.heap k a)(q:Q none s) :
  wpAny (model prog w) A (dictFind d .none h) Q E s:=by
 have key:∀ (i:Nat) (e:DictEntry),b[i]?=some e->∃ a k,e.key=.ref a/\NIs prog w s.heap k a:=λi e f=>D e (by
  obtain⟨l,z⟩:=Yf.mp f
  rw[<- z];exact Array.getElem_mem_toList l)
 unfold dictFind;refine Y5 (J0 (Y4 g hd ?_));by_cases c:(Value.none::List.filterMap (λi=>Option.map (λx=>x.key) b[i]?) (placesWithHash b.size (λi=>Option.map (λx=>x.hash) b[i]?) h)).all carriedByValue=true
 ·refine(JQ (λm=>wpAny (model prog w) A m Q E s) (Jm c)).mpr ?_
  unfold dictWalkPlain;refine J0 (rQ _ (λi hi R r=>?_) (J7 q))
  cases f:b[i]? with
  | none=>exact J7 r
  | some e =>
   obtain⟨a,k,t,n⟩:=key i e f;by_cases ch:(e.hash == h)=true
   ·refine(JQ (λm=>wpAny (model prog w) A m R E s) (Jm ch)).mpr (J0 (Ya g hd (J0 ?_)))
    rw[t];refine uB u n (J0 (Ya g hd ?_));dsimp only;rw[Je (c:=(j != j)=true) (by simp),Je Jh];exact J0 (YX (J7 r))
   ·exact(JQ (λm=>wpAny (model prog w) A m R E s) (Je ch)).mpr (J7 r)
 ·refine(JQ (λm=>wpAny (model prog w) A m Q E s) (Je c)).mpr ?_
  have y:∀ v∈List.filterMap (λi=>Option.map (λx=>x.key) b[i]?) (placesWithHash b.size (λi=>Option.map (λx=>x.hash) b[i]?) h),∃ a k,v=.ref a/\NIs prog w s.heap k a:=λv C=>by
   obtain⟨i,-,e,f,rfl⟩:∃ i:Nat,True/\∃ e:DictEntry,b[i]?=some e/\e.key=v:=by
    obtain⟨i,p⟩:=List.mem_filterMap.mp C;exact⟨i,True.intro,JX.mp p.2⟩
   exact key i e f
  by_cases B:(List.filterMap (λi=>Option.map (λx=>x.key) b[i]?) (placesWithHash b.size (λi=>Option.map (λx=>x.hash) b[i]?) h) == [Value.none])=true
  ·refine(JQ (λm=>wpAny (model prog w) A m Q E s) (Jm B)).mpr (J0 (J7 ?_))
   dsimp only;rw[Je (by simp)];refine J0 (rQ _ (λi hi R r=>?_) (J7 q))
   cases f:b[i]? with
   | none=>exact J7 r
   | some e =>
    obtain⟨a,k,t,n⟩:=key i e f;by_cases ch:(e.hash == h)=true
    ·refine(JQ (λm=>wpAny (model prog w) A m R E s) (Jm ch)).mpr (J0 (Ya g hd (J0 ?_)))
     rw[t];refine uB u n (J0 (Ya g hd ?_));rw[Je (c:=(j != j)=true) (by simp),Je Jh];refine J0 (YX ?_);rw[Je (by simp)];exact J7 r
    ·exact(JQ (λm=>wpAny (model prog w) A m R E s) (Je ch)).mpr (J7 r)
  ·refine(JQ (λm=>wpAny (model prog w) A m Q E s) (Je B)).mpr (J0 (jQ y ?_))
   dsimp only;rw[Je (by simp)];refine J0 (rQ _ (λi hi R r=>?_) (J7 q))
   cases f:b[i]? with
   | none=>exact J7 r
   | some e =>
    obtain⟨a,k,t,n⟩:=key i e f;by_cases ch:(e.hash == h)=true
    ·refine(JQ (λm=>wpAny (model prog w) A m R E s) (Jm ch)).mpr (J0 (Ya g hd (J0 ?_)))
     rw[t];refine uB u n (J0 (Ya g hd ?_));rw[Je (c:=(j != j)=true) (by simp),Je Jh];refine J0 (YX ?_);rw[Je (by simp)];exact J7 r
    ·exact(JQ (λm=>wpAny (model prog w) A m R E s) (Je ch)).mpr (J7 r)
theorem eY {o:Obj}{b:Array DictEntry}{h:Nat}{Q:Option Jo->JO->Prop}(c:A.units<cLine)(f:s.heap.get? d=some o)(hd:o.data=.dict b h)(g:∀ e∈b.toList,∃ a k,e.key=.ref a/\NIs prog w s.heap k a)(q:Q none { s with toks:=s.toks+1 }) :
  wpAny (model prog w) A (dictGet d .none) Q E s:=by
 unfold dictGet;exact Y5 (J0 (iW (J0 (iZ (s:={ s with toks:=s.toks+1 }) c f hd g (J7 q)))))
theorem rF {o:Obj}{b:Array DictEntry}{j:Nat}{Q:Jo->JO->Prop}(f:A.units<cLine)(h:s.heap.get? d=some o)(l:o.ExactDict)(hd:o.data=.dict b j)(g:(d == sysModules)=false)(i:∀ e∈b.toList,∃ a k,e.key=.ref a/\NIs prog w s.heap k a)(q:Q (.bool false) { s with toks:=s.toks+1 }) :
  wpAny (model prog w) A (Builtin.«dict.__contains__» ⟨[.ref d,.none],[]⟩) (λfin c=>∃ r,fin=.done (.ret r)/\Q r c) E s:=by
 unfold Builtin.«dict.__contains__»;refine J0 ?_;show wpAny _ _ (pure (d,Value.none)) _ _ _;refine J7 (J0 (eY f h hd i ?_));show wpAny _ _ (Builtin.Dict.pendingKey? d .none >>= _) _ _ _;exact J0 (wpAny_pendingKey_other g (J7 ⟨_,rfl,q⟩))
section
variable {X:Cx}{pins:List (JI × Obj)}{σ:St}{H:Hp}{a:JI}{xs:KVN}
theorem eB {Q:Jo->JO->Prop}(r:A.units+3<cLine)(I:Inv X pins σ H s)(e:Rd H a (DN X.prog X.w a xs))(ks:KsIn H xs)(h:∀ b,Inv X pins σ H b->Q (.bool false) b) :
  wpAny (model X.prog X.w) A (compareOp .In .none (.ref a)) Q E s:=by
 obtain⟨z,j,q,rel,o,p,u,f,d,n,m,l,t⟩:=wk I.hok e ks
 have i:∀ e∈p.toList,∃ a k,e.key=.ref a/\NIs X.prog X.w s.heap k a:=λe c=>by
  rw[m]at c;obtain⟨x,g,rfl⟩:=Jw.mp c;exact⟨x.2.1,x.1,rfl,l x g⟩
 have ty:s.TypeIs (.ref a) "dict":=⟨o,f,d.1⟩;show wpAny _ _ (contains (.ref a) .none >>= _) _ _ _
 exact J0 (wpAny_contains_slot ty slot_dict_contains (Y6 slot_dict_contains ty entry_dict_contains
  (rF (by rw[Around.in1_units];lia) f d n j i (Yu (J7 (h _ (I.tok _))))) (args_dict_contains _ _)))
end
noncomputable def zaX (P:Yo)(w:YI):V->V->Hp->VK->Prop:=λx y H Q=>∃ a c,y=.ref a/\NAt P w H a c/\((∃ b k,x=.ref b/\NKey H k b/\Q (.bl (yg c k).isSome) H)\/(x=.non/\Q (.bl false) H))
theorem fY {X:Cx}(e:X.A.units+3<cLine):OpR X (compareOp .In) (zaX X.prog X.w):=by
 intro pins s σ H x y v u Q I d h ⟨a,f,j,n,q⟩;subst j;cases (show u=Value.ref a from h);rcases q with ⟨b,k,ex,i,q⟩|⟨ex,q⟩
 ·subst ex
  cases (show v=Value.ref b from d);exact zbX e I n.1 n.2 i λg c=>⟨.bl (yg f k).isSome,H,c,rfl,q⟩
 ·subst ex
  cases (show v=Value.none from d);exact eB e I n.1 n.2 λg c=>⟨.bl false,H,c,rfl,q⟩
end
section
variable {prog:Yo}{w:YI}{A:YO}{E:Jo->JO->Prop}{s:JO}{d b:JI}{K:Type}[DecidableEq K]{knd:HeapKind prog w K}{xs:List (K × JI × Jo)}{k:K}{v:Jo}
theorem tL {Q:Unit->JO->Prop}(I:knd.room A)(u:knd.is s.heap k b)(hm:s.heap.DictOfH knd d xs)(G:xs.length<=sizeLine)(q:∀ h',h'.DictOfH knd d (storedH xs k b v)->Heap.SameBut d s.heap h'->Q () { s with heap:=h' }):wpAny (model prog w) A (dictSetHashed d (.ref b) (knd.hash k) v) Q E s:=by
 obtain⟨o,J,K,g,t,f,r,l,h⟩:=hm;unfold dictSetHashed;refine Y5 (J0 (wpAny_dictFind_heap I u g f r l h (λno=>?_) (λj p n=>?_)))
 ·refine J0 (YX (wpAny_updateDictKeys g f (q _ ?_ (YG _ _ _)) (by rw[YY r];exact G) (by simp)))
  have m:=YG s.heap d (Obj.mapDictKeys λx=>x.push ⟨knd.hash k,.ref b,v⟩);refine⟨_,_,_,YJ _ g (Obj.isFreed_of_dict (Obj.data_mapDictKeys f _)),t.mapDictKeys _,Obj.data_mapDictKeys f _,?_,?_,?_⟩
  ·rw[storedH_new (atKey_none_of_get no),JG,Zp,r];rfl
  ·rw[storedH_new (atKey_none_of_get no)]
   intro x i;rcases Jr.mp i with z|z
   ·exact knd.keeps (l x z) g f m
   ·rw[Ja.mp z];exact knd.keeps u g f m
  ·rw[storedH_new (atKey_none_of_get no),JG,ZP]
   refine⟨h,by simp,λa C c B=>?_⟩;rw[List.map_singleton,Ja]at B;rintro rfl;rw[B]at C;exact not_mem_keys_of_get no C
 ·refine J0 (YX (J0 (wpAny_updateDict g f (wpAny_point (q _ ?_ (YG _ _ _))) (by simp))))
  have m:=YG s.heap d (Obj.mapDict λx=>x.modify j λe=>{ e with val:=v });refine⟨_,_,_,YJ _ g (Obj.isFreed_of_dict (Obj.data_mapDict f _)),t.mapDict _,Obj.data_mapDict f _,?_,?_,?_⟩
  ·rw[storedH_old (atKey_of_get h n),Wc,r]
   exact modify_map_putAt _ _ k v (λa D=>rfl) h n
  ·have F:=storedH_old (atKey_of_get h n) b v
   rw[F];intro x i;obtain⟨y,H,rfl⟩:=Jw.mp i;have:=knd.keeps (l y H) g f m;unfold putAt;split
   ·exact this
   ·exact this
  ·rw[storedH_old (atKey_of_get h n),keys_map_putAt];exact h
noncomputable def mergeN (xs ys:List (K × JI × Jo)):List (K × JI × Jo):=ys.foldl (λacc y=>storedH acc y.1 y.2.1 y.2.2) xs
theorem rO (acc:List (K × JI × Jo))(y:K × JI × Jo):(storedH acc y.1 y.2.1 y.2.2).length<=acc.length+1:=by
 unfold storedH;split
 ·rw[Jc];simp_all
 ·rw[Jb];exact Jd _
theorem wx {o:JI}{ob:Obj}{ys:List (K × JI × Jo)}{Q:PUnit->JO->Prop}{f:Nat->PUnit->Sem (ForInStep PUnit)}(ne:d≠o)(step:∀ (i:Nat) (a:i<ys.length) (s:JO) (acc:List (K × JI × Jo)) (R:ForInStep PUnit->JO->Prop),s.heap.get? o=some ob->s.heap.DictOfH knd d acc->knd.is s.heap ys[i].1 ys[i].2.1->acc.length<=sizeLine ->
   (∀ h',h'.DictOfH knd d (storedH acc ys[i].1 ys[i].2.1 ys[i].2.2)->Heap.SameBut d s.heap h'->R (.yield PUnit.unit) { s with heap:=h' })->wpAny (model prog w) A (f i PUnit.unit) R E s) :
  ∀ (m i:Nat) (s:JO) (acc:List (K × JI × Jo)),i+m=ys.length->s.heap.get? o=some ob->s.heap.DictOfH knd d acc->(∀ x∈ys,knd.is s.heap x.1 x.2.1)->acc.length+m<=sizeLine ->
  (∀ h',h'.DictOfH knd d (mergeN acc (ys.drop i))->Heap.SameBut d s.heap h'->Q PUnit.unit { s with heap:=h' })->wpAny (model prog w) A (forIn (List.range' i m) PUnit.unit f) Q E s
 | 0,i,s,acc,hi,g,b,e,n,q=>by
  rw[List.range'_zero,Zc];refine J7 (q s.heap ?_ (Heap.SameBut.refl _ _));rw[List.drop_eq_nil_of_le (by simp_all)]
  exact b
 | m+1,i,s,acc,hi,g,b,e,n,q=>by
  have a:i<ys.length:=by lia
  rw[show List.range' i (m+1)=i::List.range' (i+1) m from rfl,Z3];refine J0 (step i a s acc _ g b (e _ (Zw a)) (by lia) λh' k c=>?_);obtain⟨B,v,y,u,G,t,F,D,C⟩:=b;have l:h'.get? o=some ob:=by rw[c.2 o (λz=>ne z.symm)];exact g
  refine wx ne step m (i+1) { s with heap:=h' } _ (by lia) l k (λx p=>knd.keeps (e x p) u t c) ?_ λr j h=>q r ?_ (c.trans h)
  ·have:=rO acc ys[i]
   lia
  ·rw[Yt a]
   exact j
end
section
variable {prog:Yo}{w:YI}{A:YO}{E:Jo->JO->Prop}{s:JO}{d:JI}{K:Type}[DecidableEq K]{knd:HeapKind prog w K}{xs ys:List (K × JI × Jo)}
theorem fZ {o:JI}{ob:Obj}{a:Array DictEntry}{k:Nat}{nm:String}{Q:Array DictEntry->JO->Prop}(j:s.heap.get? o=some ob)(i:ob.data=.dict a k)(f:a.toList=ys.map (entryOfKey knd))(l:ys.length<=1)(h:∀ x∈ys,∀ R:Bool->JO->Prop,R false s->wpAny (model prog w) A (Builtin.Dict.quietEq (.ref x.2.1)) R E s)(q:Q a s):wpAny (model prog w) A (Builtin.Dict.entriesForEmpty nm o) Q E s:=by
 show wpAny _ _ (dictEntries o >>= _) _ _ _;refine J0 (Y4 j i (J0 ?_));rw[<- Array.forIn_toList];refine rQ _ (λe d R r=>?_) (J7 q);rw[f]at d;obtain⟨x,g,rfl⟩:=Jw.mp d;refine J0 (h x g _ ?_)
 have b:¬(Array.filter (λz=>z.hash == (entryOfKey knd x).hash) a).size > 1:=by
  have n:=Array.size_filter_le (p:=λz:DictEntry=>z.hash == (entryOfKey knd x).hash) (xs:=a);have m:=YY f;lia
 rw[Jm (c:=(!false)=true) rfl,Je b];exact J7 r
theorem ap {o2:Obj}{b c:Array DictEntry}{e:Nat}{y:K × JI × Jo}(f:s.heap.get? d=some o2)(k:o2.ExactDict)(a:o2.data=.dict c e)(j:b.toList=[y].map (entryOfKey knd))(i:knd.is s.heap y.1 y.2.1) :
  (s.heap.update d (Obj.mapDictKeys λ_=>b)).DictOfH knd d [y]:=by
 have g:=YG s.heap d (Obj.mapDictKeys λ_=>b);refine⟨_,_,_,YJ _ f (Obj.isFreed_of_dict (Obj.data_mapDictKeys a _)),k.mapDictKeys _,Obj.data_mapDictKeys a _,j,?_,by simp⟩;intro x h;rw[Ja.mp h];exact knd.keeps i f a g
theorem mx {o:JI}{nm:String}{Q:Unit->JO->Prop}(N:knd.room A)(ne:d≠o)(S:(o == sysModules)=false)(hm:s.heap.DictOfH knd d xs)(hn:s.heap.DictOfH knd o ys)(M:xs.length+ys.length<=sizeLine)(P:xs≠[]\/ys.length=1)(O:∀ x∈ys,∀ R:Bool->JO->Prop,R false s->wpAny (model prog w) A (Builtin.Dict.quietEq (.ref x.2.1)) R E s)(q:∀ h',h'.DictOfH knd d (mergeN xs ys)->Heap.SameBut d s.heap h'->Q () { s with heap:=h' }):wpAny (model prog w) A (Builtin.Dict.mergeDict nm d o) Q E s:=by
 obtain⟨ob,h,t,g,Y,b,l,G,X⟩:=id hn;obtain⟨W,r,V,I,U,H,T,g5,Z⟩:=id hm
 have sz:([:h.size]:Std.Legacy.Range).size=ys.length:=by
  rw[<- YY l];simp[Std.Legacy.Range.size]
 unfold Builtin.Dict.mergeDict;rw[Je (by simpa using ne)];refine J0 ?_;unfold Builtin.Dict.showsAll;rw[Je (by rw[S];simp)];refine J7 (J0 (Y4 g b ?_));dsimp only;by_cases p:(!(decide (h.size<=8) && h.all λe=>(keyPart e.key).isSome))=true
 ·rw[Jm p]
  refine J0 (Y4 I H ?_);by_cases em:r.isEmpty=true
  ·rw[Jm em]
   have e2:r.size=0:=by simpa using em
   have L:xs=[]:=by
    rw[YY T]at e2;exact List.eq_nil_of_length_eq_zero e2
   have K:ys.length=1:=P.resolve_left λz=>z L;have u:h.size=1:=(YY l).trans K;refine J0 (fZ g b l (by simp_all) O ?_);rw[Jm (c:=(!h.isEmpty)=true) (by simp;intro z;rw[z]at u;cases u)];refine J0 (wpAny_updateDictKeys I H (J7 (q _ ?_ (YG _ _ _))) (by rw[e2];exact Jz _) (by rw[u];lia));obtain⟨y,rfl⟩:=List.length_eq_one_iff.mp K;subst L;exact ap I U H l (G y JH)
  ·rw[Je em]
   refine J0 (Ya g b (J0 (Y4 g b (J0 ?_))));refine(JQ (λm=>wpAny (model prog w) A m _ E s) (Zt _ _ _)).mpr ?_;rw[sz];refine wx (ob:=ob) (ys:=ys) ne (λi F s acc R n C D v B=>?_) ys.length 0 s xs (by lia) g hm G M λh' a f=>J7 (q h' a f);have J:h[i]?=some (entryOfKey knd ys[i]):=by rw[entry_at l,J8 F];rfl
   refine J0 (Y4 n b ?_);rw[J];refine J0 (Y5 (tL (k:=ys[i].1) N D C v λh' a f=>?_));have j:h'.get? o=some ob:=by rw[f.2 o (λz=>ne z.symm)];exact n
   refine J0 (Ya (s:={ s with heap:=h' }) j b ?_);rw[Je (c:=(t != t)=true) (by simp)];exact J7 (B h' a f)
 ·rw[Je p]
  refine J0 (Ya g b (J0 (Y4 g b (J0 ?_))));refine(JQ (λm=>wpAny (model prog w) A m _ E s) (Zt _ _ _)).mpr ?_;rw[sz];refine wx (ob:=ob) (ys:=ys) ne (λi F s acc R n C D v B=>?_) ys.length 0 s xs (by lia) g hm G M λh' a f=>J7 (q h' a f);have J:h[i]?=some (entryOfKey knd ys[i]):=by rw[entry_at l,J8 F];rfl
  refine J0 (Y4 n b ?_);rw[J];refine J0 (Y5 (tL (k:=ys[i].1) N D C v λh' a f=>?_));have j:h'.get? o=some ob:=by rw[f.2 o (λz=>ne z.symm)];exact n
  refine J0 (Ya (s:={ s with heap:=h' }) j b ?_);rw[Je (c:=(t != t)=true) (by simp)];exact J7 (B h' a f)
theorem gp {a:JI}{k:KN}{R:Bool->JO->Prop}(h:NIs prog w s.heap k a)(r:R false s):wpAny (model prog w) A (Builtin.Dict.quietEq (.ref a)) R E s:=by
 obtain⟨o,d,n,c,b,f,e⟩:=h;exact J0 (W9 (T:="tuple") ⟨o,c,b⟩ F.slot_tuple_eq.lookup (J7 r))
theorem pY {o:JI}{Q:Jo->JO->Prop}(g:knd.room A)(ne:d≠o)(j:(o == sysModules)=false)(hm:s.heap.DictOfH knd d xs)(hn:s.heap.DictOfH knd o ys)(f:xs.length+ys.length<=sizeLine)(i:xs≠[]\/ys.length=1)(h:∀ x∈ys,∀ R:Bool->JO->Prop,R false s->wpAny (model prog w) A (Builtin.Dict.quietEq (.ref x.2.1)) R E s)(q:∀ h',h'.DictOfH knd d (mergeN xs ys)->Heap.SameBut d s.heap h'->Q .none { s with heap:=h' }):wpAny (model prog w) A (Builtin.«dict.update» ⟨[.ref d,.ref o],[]⟩) (λfin e=>∃ r,fin=.done (.ret r)/\Q r e) E s:=by
 have ty:=hn.typeIs;unfold Builtin.«dict.update»;refine J0 ?_;show wpAny _ _ (Builtin.Dict.notOrdered "update" ⟨[Value.ref d,Value.ref o],[]⟩ >>= _) _ _ _;refine J0 (Zn (s:=s) hm.typeIs ?_);show wpAny _ _ (pure (d,[Value.ref o])) _ _ _;refine J7 ?_;show wpAny _ _ (Builtin.Dict.updateFrom "dict.update" d (.ref o) [] .none) _ _ _;show wpAny _ _ (typeOf (Value.ref o) >>= _) _ _ _;refine J0 (YN ty ?_);rw[Je (by simp)];refine J0 ?_;unfold Builtin.Dict.merge Builtin.Dict.readDirectly;refine J0 (J0 (Zv (T:="dict") (b:=true) ty rfl ?_));rw[Je (by simp)];refine J0 (W9 (T:="dict") ty F.slot_dict_iter.lookup (J7 ?_));rw[Jm (by decide)];refine J0 ?_;show wpAny _ _ (pure o) _ _ _;refine J7 (mx g ne j hm hn f i h λh' a c=>?_);refine J0 ?_;show wpAny _ _ (pure ()) _ _ _;exact J7 (J7 ⟨_,rfl,q h' a c⟩)
end
noncomputable def yz (xs ys:KVN):KVN:=ys.foldl (λacc y=>yu acc y.1 y.2.1 y.2.2) xs
theorem mergeV_rel:∀ {ys:KVN}{us:List (KN × JI × Jo)}{xs:KVN}{vs:List (KN × JI × Jo)},Paired PrN ys us->Paired PrN xs vs->Paired PrN (yz xs ys) (mergeN vs us):=by
 intro ys us xs vs r
 induction r generalizing xs vs with
 | nil=>intro q;exact q
 | @cons p u a us h t ih =>
  intro q;have e:=putN_rel q p.1 p.2.1 h.2.2;rw[show storedH vs p.1 p.2.1 u.2.2=storedH vs u.1 u.2.1 u.2.2 by rw[h.1,h.2.1]]at e;exact ih e
theorem mergeV_len:∀ (ys xs:KVN),(yz xs ys).length<=xs.length+ys.length
 | [],xs=>Jd _
 | y::ys,xs=>by
  have b:=mergeV_len ys (yu xs y.1 y.2.1 y.2.2);have a:=vM xs y.1 y.2.1 y.2.2;show (yz (yu xs y.1 y.2.1 y.2.2) ys).length<=_;rw[JM];lia
section
variable {X:Cx}{pins:List (JI × Obj)}{σ:St}{H:Hp}{s:JO}{a b:JI}{xs ys:KVN}{A:YO}{E:Jo->JO->Prop}
theorem eA {Q:Jo->JO->Prop}(t:A.units+3<cLine)(ne:a≠b)(I:Inv X pins σ H s)(k:H a=some (DN X.prog X.w a xs))(n:KsIn H xs)(F:Rd H b (DN X.prog X.w b ys))(m:KsIn H ys)(j:xs.length+ys.length<=sizeLine)(w:xs≠[]\/ys.length=1)(h:∀ i,Inv X pins σ (upd H a (DN X.prog X.w a (yz xs ys))) i->Q .none i):wpAny (model X.prog X.w) A (call (.builtin "dict.update") [.ref a,.ref b]) Q E s:=by
 obtain⟨z,B,J,rel,l⟩:=wk I.hok (.inl k) n;obtain⟨G,g,K,c,d⟩:=wk I.hok F m;refine Y6 PySem.F.slot_dict_update l.typeIs PySem.F.entry_dict_update (pY (rY t) ne g l d (by rw[<- JU rel,<- JU c];exact j) ?_ ?_ λD f u=>h _ ?_) (PySem.F.args_dict_update_2 _ _)
 ·rcases w with z|z
  ·refine .inl λe=>z ?_
   subst e;cases rel;rfl
  ·exact .inr (by rw[<- JU c];exact z)
 ·intro x p R r
  obtain⟨o,S,T,P,O,N,M,C,L⟩:=d;exact gp (C x p) r
 ·have y:∃ q,D.get? a=some q:=let ⟨q,_,_,v,_⟩:=f;⟨q,v⟩
  exact uq I (by rw[k];exact True.intro) u y (dn_new (JS (mergeV_len _ _) j) B (mergeV_rel c rel) f)
end
noncomputable def zaJ (P:Yo)(w:YI)(g ty:TE):TE:=λσ H Q=>g σ H λx f=>∃ a,x=.ref a/\(∃ c,Rd f a (DN P w a c))/\ty σ f λy e=>∃ b c d,y=.ref b/\a≠b/\e a=some (DN P w a c)/\KsIn e c/\NAt P w e b d/\c.length+d.length<=sizeLine/\(c≠[]\/d.length=1)/\Q .non (upd e a (DN P w a (yz c d)))
theorem kE {X:Cx}{o e:Expr}{apos cpos:Pos}{c ty:TE}(w:X.A.units+3<cLine) (z:PE X o c) (B:PE X e ty) (m:M1 X o "update" apos e cpos):PE X (.Call (.Attribute o "update" apos) [e] [] cpos) (zaJ X.prog X.w c ty):=by
 intro pins s σ H Q I h;refine wpAny_Call_method m.base m.few m.line PySem.F.plainAttrs_dict PySem.F.slot_dict_update PySem.F.type_dict_update (thn (z pins s σ H _ I h) λu j ⟨x,G,f,l,a,ex,⟨J,d⟩,q⟩=>?_);subst ex;cases (show u=Value.ref a from l);obtain⟨i,g⟩:=qy f d;refine⟨i,g,?_⟩;rw[m.trees];refine Zg rfl (Calls.evalArgs_plain (ZH (thn (B pins j σ G _ f q) λt N ⟨y,O,F,k,b,L,K,C,ne,D,r,n,v,A,p⟩=>Wk ?_)));subst C;cases (show t=Value.ref b from k);exact eA w ne F D r n.1 n.2 v A λM E=>⟨.non,_,E,rfl,p⟩
section
variable {prog:Yo}{w:YI}{A:YO}{E:Jo->JO->Prop}{s:JO}{d:JI}{o:Obj}{es:Array DictEntry}{ep:Nat}
theorem rp {Q:Jo->JO->Prop}(a:s.heap.get? d=some o) (e:o.ExactDict) (hd:o.data=.dict es ep) (f:(d == sysModules)=false)
  (q:Q (.ref s.heap.objs.size) { s with heap:=s.heap.push { cls:=.type "dict_keyiterator",data:=.fields #[.ref d,.int 0 0,.int es.size 0,.int ep 0] } }):wpAny (model prog w) A (pyIter (.ref d)) Q E s:=by
 have ty:s.TypeIs (.ref d) "dict":=⟨o,a,e.1⟩;have nx:=F.slot_dict_keyiterator_next.lookup
 have body:wpAny (model prog w) A.in1 (Builtin.«dict.__iter__» ⟨[.ref d],[]⟩) (λfin b=>∃ v,fin=.done (.ret v)/\∃ c r,b.TypeIs v c/\typeLookup (Value.type c) (Str.ofString "__next__")=pure (some r)/\Q v b) E s:=by
  unfold Builtin.«dict.__iter__» Builtin.Dict.dictSlotNone;refine J0 (J0 (Zn ty (J0 ?_)));show wpAny _ _ (pure ((.ref d,[]):Jo × List Jo)) _ _ _;refine J7 (J7 (J0 ?_));refine(show wpAny _ _ (pure d) _ _ _ from J7 (J0 ?_));unfold Builtin.Dict.showsAll;rw[Je (by rw[f];simp)];refine J7 (J0 (Y4 a hd (J0 (Ya a hd (J0 ?_)))));exact JN (J7 ⟨_,rfl,_,_,⟨_,Jp _ rfl,rfl⟩,nx,q⟩)
 exact wpAny_pyIter_slot ty F.slot_dict_iter (Y6 F.slot_dict_iter ty F.entry_dict_iter body (F.args_dict_iter_1 _))
end
section
variable {prog:Yo}{w:YI}{A:YO}{E:Jo->JO->Prop}{s:JO}{d it:JI}{o:Obj}{es:Array DictEntry}{ep i:Nat}{e:DictEntry}
theorem iA {Q:Jo->JO->Prop}(m:s.heap.get? d=some o)(hd:o.data=.dict es ep)(hi:s.heap.IsKeyIter it d i es.size ep)(r:es[i]?=some e)(q:∀ h',h'.IsKeyIter it d (i+1) es.size ep->(∀ b u,b≠it->s.heap.get? b=some u->h'.get? b=some u)->Q e.key { s with heap:=h' }) :
  wpAny (model prog w) A (Builtin.«dict_keyiterator.__next__» ⟨[.ref it],[]⟩) (λfin p=>∃ v,fin=.done (.ret v)/\Q v p) E s:=by
 obtain⟨k,f,h,g⟩:=id hi;have ty:s.TypeIs (.ref it) "dict_keyiterator":=⟨k,f,h⟩;unfold Builtin.«dict_keyiterator.__next__»;refine J0 ?_;show wpAny _ _ (pure (Value.ref it)) _ _ _;refine J7 (J0 (J0 (J0 (W5 ty (J7 (J0 (wpAny_fieldsOf f g ?_)))))));show wpAny _ _ (Builtin.Dict_items.addrOf (Value.ref d) >>= _) _ _ _;refine J0 (show wpAny _ _ (pure d) _ _ _ from J7 (J0 (Y4 m hd ?_)));dsimp only;rw[Je (c:=((es.size:Int) != (es.size:Int))=true) (by simp)];refine J0 (show wpAny _ _ (pure d) _ _ _ from J7 (J0 (Ya m hd ?_)));rw[Je (c:=((ep:Int) != (ep:Int))=true) (by simp)];refine J7 ?_;dsimp only;rw[Je (c:=(i:Int)<0) (by simp_all),Yg,r];refine J0 (J0 (W5 ty (J7 (J0 (wpAny_isOneOf_keyiter ty ?_)))));show wpAny _ _ (setField (.ref it) 1 (rawInt ((i:Int)+1)) >>= _) _ _ _;refine J0 (wpAny_setField f g (by show 1<4;lia) ?_);have l:(k.mapFields (·.setIfInBounds 1 (rawInt ((i:Int)+1)))).data=.fields #[.ref d,.int ((i+1:Nat):Int) 0,.int es.size 0,.int ep 0]:=Obj.data_mapFields g _;have n:=YG s.heap it (Obj.mapFields (·.setIfInBounds 1 (rawInt ((i:Int)+1))));have a:=YJ (Obj.mapFields (·.setIfInBounds 1 (rawInt ((i:Int)+1)))) f (Obj.isFreed_of_fields l);have j:(s.heap.update it (Obj.mapFields (·.setIfInBounds 1 (rawInt ((i:Int)+1))))).IsKeyIter it d (i+1) es.size ep:=⟨_,a,(Obj.cls_mapFields ..).trans h,l⟩;refine J0 (Y5 (J0 (wpAny_isOneOf_keyiter ⟨_,a,(Obj.cls_mapFields ..).trans h⟩ ?_)));exact J7 (J7 ⟨_,rfl,q _ j λb u nb t=>(n.2 b nb).trans t⟩)
theorem ou {Q:Option Jo->JO->Prop}(f:s.heap.get? d=some o)(hd:o.data=.dict es ep)(hi:s.heap.IsKeyIter it d i es.size ep)(g:es[i]?=some e)(q:∀ h',h'.IsKeyIter it d (i+1) es.size ep->(∀ b u,b≠it->s.heap.get? b=some u->h'.get? b=some u)->Q (some e.key) { s with heap:=h' }):wpAny (model prog w) A (pyNext (.ref it)) Q E s:=by
 obtain⟨c,j,h,l⟩:=id hi;have ty:s.TypeIs (.ref it) "dict_keyiterator":=⟨c,j,h⟩;unfold pyNext;exact J0 (ZX (wpAny_callSpecial?_slot ty Wa (Y6 Wa ty F.entry_dict_keyiterator_next (iA f hd hi g λh' a k=>J7 (q h' a k)) (F.args_dict_keyiterator_next_1 _))))
theorem iM {Q:Fin->JO->Prop}(h:A.handled=none) (e:s.heap.get? d=some o) (hd:o.data=.dict es ep) (hi:s.heap.IsKeyIter it d i es.size ep) (j:es[i]?=none)
  (q:∀ h' ev,Heap.ExtBut it s.heap h'->({ s with heap:=h' }:JO).TypeIs ev "StopIteration"->E ev { s with heap:=h' }) :
  wpAny (model prog w) A (Builtin.«dict_keyiterator.__next__» ⟨[.ref it],[]⟩) Q E s:=by
 obtain⟨g,a,l,f⟩:=id hi;have ty:s.TypeIs (.ref it) "dict_keyiterator":=⟨g,a,l⟩;unfold Builtin.«dict_keyiterator.__next__»;refine J0 ?_;show wpAny _ _ (pure (Value.ref it)) _ _ _;refine J7 (J0 (J0 (J0 (W5 ty (J7 (J0 (wpAny_fieldsOf a f ?_)))))));show wpAny _ _ (Builtin.Dict_items.addrOf (Value.ref d) >>= _) _ _ _;refine J0 (show wpAny _ _ (pure d) _ _ _ from J7 (J0 (Y4 e hd ?_)));dsimp only;rw[Je (c:=((es.size:Int) != (es.size:Int))=true) (by simp)];refine J0 (show wpAny _ _ (pure d) _ _ _ from J7 (J0 (Ya e hd ?_)));rw[Je (c:=((ep:Int) != (ep:Int))=true) (by simp)];refine J7 ?_;dsimp only;rw[Je (c:=(i:Int)<0) (by lia),Yg,j];refine J0 (J0 (W5 ty (J7 (J0 ?_))));show wpAny _ _ (setField (.ref it) 0 .none) _ _ _;refine wpAny_setField a f (by show 0<4;lia) (J0 ?_);unfold newExc newTuple;refine J0 (JN ?_ (by show 0<=sizeLine;exact Jz _));unfold firstArgMember;refine J0 (J0 (J7 (J7 (JN (wpAny_raiseNew_none h ?_) ?_))))
 rotate_left
 ·show (_++_:Array Jo).size<=sizeLine+2
  rw[Yp];show 6+0<=sizeLine+2;rw[JE];lia
 refine q _ _ (λb u nb k=>?_) ⟨_,Jp _ rfl,rfl⟩;exact J6 _ (J6 _ (((YG s.heap it _).2 b nb).trans k))
theorem oz {Q:Option Jo->JO->Prop}(e:A.handled=none)(c:s.heap.get? d=some o)(hd:o.data=.dict es ep)(hi:s.heap.IsKeyIter it d i es.size ep)(f:es[i]?=none)(q:∀ h',Heap.ExtBut it s.heap h'->Q none { s with heap:=h' }):wpAny (model prog w) A (pyNext (.ref it)) Q E s:=by
 obtain⟨b,h,g,j⟩:=id hi;have ty:s.TypeIs (.ref it) "dict_keyiterator":=⟨b,h,g⟩;unfold pyNext;refine J0 (ZX (wpAny_callSpecial?_slot ty Wa (Y6 Wa ty F.entry_dict_keyiterator_next (iM e c hd hi f λh' ev k a=>?_) (F.args_dict_keyiterator_next_1 _))));exact J0 (Zv a isSubtype_stop (J7 (q h' k)))
end
section
variable {X:Cx}{pins:List (JI × Obj)}{σ:St}{H:Hp}{s:JO}{d:JI}{o:Obj}{xs:KVN}
theorem Inv.freezeN (I:Inv X pins σ H s)(hd:H d=some (DN X.prog X.w d xs)):∃ o a b,s.heap.get? d=some o/\o.ExactDict/\o.data=.dict a b/\a.size=xs.length/\(d == sysModules)=false/\Inv X pins σ (upd H d (.frz o (DN X.prog X.w d xs))) s:=by
 obtain⟨g,o,a,b,c,i,h,l,_⟩:=kM I.hok (.inl hd);refine⟨o,a,b,c,i,h,l,g,I.reword hd (λxs q=>by cases q) (λxs q=>by cases q) (λxs q=>by cases q) (λf e q=>?_) ⟨c,(show ObjOk X.prog X.w H s.heap d (DN X.prog X.w d xs) from I.hok d _ hd)⟩⟩;have:=I.base.frzs d f e q;rw[hd]at this;cases this
theorem Inv.thawN (I:Inv X pins σ H s)(hd:H d=some (.frz o (DN X.prog X.w d xs)))(b:∀ o' a,X.H₀ d≠some (.frz o' a)):Inv X pins σ (upd H d (DN X.prog X.w d xs)) s:=by
 obtain⟨_,r⟩:=(show ObjOk X.prog X.w H s.heap d (.frz o (DN X.prog X.w d xs)) from I.hok d _ hd);exact I.reword hd (λxs q=>by cases q) (λxs q=>by cases q) (λxs q=>by cases q) b r
theorem Inv.meltedN (I:Inv X pins σ H s){ys:KVN}(hd:H d=some (DN X.prog X.w d ys)):∀ o' a,X.H₀ d≠some (.frz o' a):=λo' a q=>by
 have:=I.base.frzs d o' a q;rw[hd]at this;cases this
theorem Inv.walkedN {c:Array DictEntry}{h:Nat}(I:Inv X pins σ H s)(hd:H d=some (.frz o (DN X.prog X.w d xs)))(e:o.data=.dict c h):s.heap.get? d=some o/\∃ vs,Paired PrN xs vs/\c.toList=vs.map (entryOfKey (yI X.prog X.w)):=by
 obtain⟨g,⟨z,l,vs,r,k,i,j,b,n,a,f,m⟩,_,_⟩:=(show ObjOk X.prog X.w H s.heap d (.frz o (DN X.prog X.w d xs)) from I.hok d _ hd);rw[g]at b;obtain rfl:=Jf b;rw[e]at a;cases a;exact⟨g,vs,r,f⟩
end
theorem bq {xs:KVN}{vs:List (KN × JI × Jo)}(r:Paired PrN xs vs):∀ {i:Nat}{p:KN × JI × V},xs[i]?=some p->∃ q,vs[i]?=some q/\PrN p q:=by
 induction r with
 | nil=>intro i p h;cases h
 | cons q t ih =>
  intro i p h
  cases i with
  | zero=>cases Jf h;exact⟨_,rfl,q⟩
  | succ i=>exact ih h
noncomputable def Itn (P:Yo)(w:YI)(d:JI)(o:Obj)(xs:KVN):It:=⟨λi H=>H d=some (.frz o (DN P w d xs))/\i<xs.length,λi H x a=>a=H/\∃ p,xs[i]?=some p/\x=.ref p.2.1,λi H=>H d=some (.frz o (DN P w d xs))/\i=xs.length⟩
theorem mB {P:Yo}{w:YI}{K:Jl}{tg:Expr}(d it:JI)(o:Obj)(xs:KVN){t:Array DictEntry}{S:Nat}(l:o.data=.dict t S)(hl:t.size=xs.length):Turn P w K tg (Itn P w d o xs) [it] it (λi h=>h.IsKeyIter it d i t.size S) where
 mem:=Ja.mpr rfl
 obj:=λi h st b a=>by
  cases Ja.mp a;obtain⟨q,e,c,N⟩:=st;exact⟨q,e,λv z=>by rw[N]at z;cases z⟩
 keep:=λi h n st k=>st.at (k it (Ja.mpr rfl))
 item:=by
  intro X C y D R i pins s σ H E I m st A;subst C y D;obtain⟨B,O⟩:=A;obtain⟨g,U,r,T⟩:=I.walkedN B l;have f:=m it (Ja.mpr rfl);obtain⟨M,L,Y,J,G,F⟩:=id f;obtain⟨p,Q⟩:∃ p,xs[i]?=some p:=⟨_,J8 O⟩;obtain⟨q,W,V⟩:=bq r Q;have Z:t[i]?=some (entryOfKey (yI X.prog X.w) q):=by rw[entry_at T,W];rfl
  refine ou g l st Z λn j x=>?_;have I1:Inv X pins σ H { s with heap:=n,toks:=s.toks }:=I.turned (λb u a e=>x b u a e) M L J G F;obtain⟨q',e,c,N⟩:=id j;refine⟨_,rfl,kY (s:={ s with heap:=n,toks:=s.toks }) e c N (by decide) ⟨.ref p.2.1,H,I1,?_,⟨rfl,p,Q,rfl⟩,j,λb a=>(m b a).1⟩⟩;show Value.ref q.2.1=Value.ref p.2.1;rw[V.2.1]
 done:=by
  intro X C y D R i pins s σ H E I m st A;subst C y D;obtain⟨B,O⟩:=A;obtain⟨g,U,r,T⟩:=I.walkedN B l;have f:=m it (Ja.mpr rfl);obtain⟨M,L,Y,J,G,F⟩:=id f;exact oz (I.ok.hd R) g l st (Array.getElem?_eq_none (by simp_all)) λn x=>⟨rfl,I.turned (t':=s.toks) (λb u a e=>x b u a e) M L J G F⟩
 self:=λ_ _ _ _ _ st h=>wpAny_pyIter_keyiter st h
section
variable {X:Cx}{tg:Expr}
noncomputable def zat (P:Yo)(w:YI)(c:TE):TI:=λσ H R=>c σ H λx b=>∃ d a,x=.ref d/\b d=some (DN P w d a)/\∀ o,R (Itn P w d o a) (upd b d (.frz o (DN P w d a)))
theorem oP {l:Expr}{f:TE}(p:PE X l f):PI X tg l (zat X.prog X.w f):=by
 intro pins s σ H R I h;refine thn (p pins s σ H _ I h) λv a ⟨x,A,w,k,d,j,ex,r,q⟩=>?_;subst ex;cases k;obtain⟨o,y,z,g,m,i,le,n,c⟩:=w.freezeN r;refine rp g m i n ?_;refine⟨a.heap.objs.size,[a.heap.objs.size],_,_,_,rfl,c.kept (t':=a.toks) λb u e=>J6 _ e,mB d _ o j i le,⟨_,Jp _ rfl,rfl,rfl⟩,λb t=>?_,q o⟩;cases Ja.mp t;exact c.fpOk (Jd _) (c.hok.fresh (Jd _))
end
section
variable {prog:Yo}{w:YI}{A:YO}{E:Jo->JO->Prop}{s:JO}{d it:JI}{o:Obj}{es:Array DictEntry}{ep i:Nat}{e:DictEntry}{k0 v0:Jo}
theorem mt {Q:Jo->JO->Prop}(y:s.heap.get? d=some o) (hd:o.data=.dict es ep) (hi:IsItemIter s.heap it d i es.size ep k0 v0) (C:es[i]?=some e)
  (q:∀ h',IsItemIterOut h' it d (i+1) es.size ep e.key e.val s.heap.objs.size->h'.get? s.heap.objs.size=some { cls:=.type "tuple",data:=.seq #[e.key,e.val] }->(∀ b u,b≠it->s.heap.get? b=some u->h'.get? b=some u)->Q (.ref s.heap.objs.size) { s with heap:=h' }) :
  wpAny (model prog w) A (Builtin.«dict_itemiterator.__next__» ⟨[.ref it],[]⟩) (λfin B=>∃ v,fin=.done (.ret v)/\Q v B) E s:=by
 have ty:s.TypeIs (.ref it) "dict_itemiterator":=⟨_,hi,rfl⟩;unfold Builtin.«dict_itemiterator.__next__»;refine J0 ?_;show wpAny _ _ (pure (Value.ref it)) _ _ _;refine J7 (J0 (J0 (J0 (ZW ty (J7 (J0 (wpAny_fieldsOf hi rfl ?_)))))));show wpAny _ _ (Builtin.Dict_items.addrOf (Value.ref d) >>= _) _ _ _;refine J0 (show wpAny _ _ (pure d) _ _ _ from J7 (J0 (Y4 y hd ?_)));dsimp only;rw[Je (c:=((es.size:Int) != (es.size:Int))=true) (by simp)];refine J0 (show wpAny _ _ (pure d) _ _ _ from J7 (J0 (Ya y hd ?_)));rw[Je (c:=((ep:Int) != (ep:Int))=true) (by simp)];refine J7 ?_;dsimp only;rw[Je (c:=(i:Int)<0) (by lia),Yg,C];refine J0 (J0 (ZW ty (J7 (J0 (wpAny_isOneOf_itemiter ty ?_)))));show wpAny _ _ (setField (.ref it) 3 (rawInt ((i:Int)+1)) >>= _) _ _ _;refine J0 (Yj hi (by show 3<8;lia) λa h g=>J0 (Y5 (J0 (wpAny_isOneOf_itemiter ⟨_,h,rfl⟩ ?_))));show wpAny _ _ (Builtin.Dict_items.isOneOf _ _ >>= _) _ _ _;refine J0 (wpAny_isOneOf_itemiter ⟨_,h,rfl⟩ ?_);show wpAny _ _ (Builtin.Dict_items.pairFromOwner (.ref it) 6 e.key e.val) _ _ _;unfold Builtin.Dict_items.pairFromOwner newTuple;refine J0 (JN ?_ (by show 2<=sizeLine;decide));have f:=J6 { cls:=Value.type "tuple",data:=Data.seq #[e.key,e.val] } h;have k:=Jp a (o:={ cls:=Value.type "tuple",data:=Data.seq #[e.key,e.val] }) rfl;have t:a.objs.size≠it:=YM (Jn h);have sz:a.objs.size=s.heap.objs.size:=g.1;have x:∀ b u,b≠it->s.heap.get? b=some u->(a.push { cls:=Value.type "tuple",data:=Data.seq #[e.key,e.val] }).get? b=some u:=λb u nb j=>J6 _ ((g.2 b nb).trans j);show wpAny (model prog w) A _ _ E { s with heap:=a.push { cls:=Value.type "tuple",data:=Data.seq #[e.key,e.val] } };generalize a.push { cls:=Value.type "tuple",data:=Data.seq #[e.key,e.val] }=h2 at f k x;show wpAny _ _ ((field (.ref it) 0 >>= _) >>= _) _ _ _;refine J0 (J0 (ZY f rfl rfl ?_));show wpAny _ _ (pure true) _ _ _;refine J7 ?_;show wpAny _ _ (field (.ref it) 6 >>= _) _ _ _;refine J0 (ZY f rfl rfl (J0 (ZY f rfl rfl ?_)));refine J0 (Yj f (by show 6<8;lia) λK H p=>J0 (Yj H (by show 7<8;lia) λJ G n=>J0 (Yj G (by show 0<8;lia) λI F m=>J0 (Yj F (by show 1<8;lia) λD z l=>J0 (ZZ ?_)))));have r:=((p.trans n).trans m).trans l;refine J7 (J7 ⟨_,rfl,?_⟩);show Q (.ref a.objs.size) _;rw[sz]at k z t ⊢;exact q D z ((r.2 _ t).trans k) λb u nb j=>(r.2 b nb).trans (x b u nb j)
theorem j7 {Q:Option Jo->JO->Prop}(a:s.heap.get? d=some o) (hd:o.data=.dict es ep) (hi:IsItemIter s.heap it d i es.size ep k0 v0) (c:es[i]?=some e)
  (q:∀ h',IsItemIterOut h' it d (i+1) es.size ep e.key e.val s.heap.objs.size->h'.get? s.heap.objs.size=some { cls:=.type "tuple",data:=.seq #[e.key,e.val] }->(∀ b u,b≠it->s.heap.get? b=some u->h'.get? b=some u)->Q (some (.ref s.heap.objs.size)) { s with heap:=h' }):wpAny (model prog w) A (pyNext (.ref it)) Q E s:=by
 have ty:s.TypeIs (.ref it) "dict_itemiterator":=⟨_,hi,rfl⟩;unfold pyNext;exact J0 (ZX (wpAny_callSpecial?_slot ty W6 (Y6 W6 ty F.entry_dict_itemiterator_next (mt a hd hi c λh' h g f=>J7 (q h' h g f)) (F.args_dict_itemiterator_next_1 _))))
theorem lG {Q:Fin->JO->Prop}(e:A.handled=none) (a:s.heap.get? d=some o) (hd:o.data=.dict es ep) (hi:IsItemIter s.heap it d i es.size ep k0 v0) (f:es[i]?=none)
  (q:∀ h' ev,Heap.ExtBut it s.heap h'->({ s with heap:=h' }:JO).TypeIs ev "StopIteration"->E ev { s with heap:=h' }) :
  wpAny (model prog w) A (Builtin.«dict_itemiterator.__next__» ⟨[.ref it],[]⟩) Q E s:=by
 have ty:s.TypeIs (.ref it) "dict_itemiterator":=⟨_,hi,rfl⟩;unfold Builtin.«dict_itemiterator.__next__»;refine J0 ?_;show wpAny _ _ (pure (Value.ref it)) _ _ _;refine J7 (J0 (J0 (J0 (ZW ty (J7 (J0 (wpAny_fieldsOf hi rfl ?_)))))));show wpAny _ _ (Builtin.Dict_items.addrOf (Value.ref d) >>= _) _ _ _;refine J0 (show wpAny _ _ (pure d) _ _ _ from J7 (J0 (Y4 a hd ?_)));dsimp only;rw[Je (c:=((es.size:Int) != (es.size:Int))=true) (by simp)];refine J0 (show wpAny _ _ (pure d) _ _ _ from J7 (J0 (Ya a hd ?_)));rw[Je (c:=((ep:Int) != (ep:Int))=true) (by simp)];refine J7 ?_;dsimp only;rw[Je (c:=(i:Int)<0) (by lia),Yg,f];refine J0 (J0 (ZW ty (J7 (J0 ?_))));show wpAny _ _ (setField (.ref it) 2 .none) _ _ _;refine wpAny_setField hi rfl (by show 2<8;lia) (J0 ?_);unfold newExc newTuple;refine J0 (JN ?_ (by show 0<=sizeLine;exact Jz _));unfold firstArgMember;refine J0 (J0 (J7 (J7 (JN (wpAny_raiseNew_none e ?_) ?_))))
 rotate_left
 ·show (_++_:Array Jo).size<=sizeLine+2
  rw[Yp];show 6+0<=sizeLine+2;rw[JE];lia
 refine q _ _ (λb u nb g=>?_) ⟨_,Jp _ rfl,rfl⟩;exact J6 _ (J6 _ (((YG s.heap it _).2 b nb).trans g))
theorem j8 {Q:Option Jo->JO->Prop}(c:A.handled=none)(b:s.heap.get? d=some o)(hd:o.data=.dict es ep)(hi:IsItemIter s.heap it d i es.size ep k0 v0)(e:es[i]?=none)(q:∀ h',Heap.ExtBut it s.heap h'->Q none { s with heap:=h' }):wpAny (model prog w) A (pyNext (.ref it)) Q E s:=by
 have ty:s.TypeIs (.ref it) "dict_itemiterator":=⟨_,hi,rfl⟩;unfold pyNext;refine J0 (ZX (wpAny_callSpecial?_slot ty W6 (Y6 W6 ty F.entry_dict_itemiterator_next (lG c b hd hi e λh' ev k a=>?_) (F.args_dict_itemiterator_next_1 _))));exact J0 (Zv a isSubtype_stop (J7 (q h' k)))
theorem lI {v:JI}{Q:Jo->JO->Prop}(b:s.heap.IsItemsView v d) (c:s.heap.get? d=some o) (hd:o.data=.dict es ep)
  (q:Q (.ref s.heap.objs.size) { s with heap:=s.heap.push { cls:=.type "dict_itemiterator",data:=.fields #[.none,.bool false,.ref d,.int 0 0,.int es.size 0,.int ep 0,.none,.none] } }):wpAny (model prog w) A (pyIter (.ref v)) Q E s:=by
 obtain⟨i,g,h,f⟩:=id b;have ty:=b.typeIs;have nx:=F.slot_dict_itemiterator_next.lookup
 have body:wpAny (model prog w) A.in1 (Builtin.«dict_items.__iter__» ⟨[.ref v],[]⟩) (λfin a=>∃ v,fin=.done (.ret v)/\∃ e r,a.TypeIs v e/\typeLookup (Value.type e) (Str.ofString "__next__")=pure (some r)/\Q v a) E s:=by
  unfold Builtin.«dict_items.__iter__» Builtin.Dict_items.newIterator;refine J0 (show wpAny _ _ (pure (Value.ref v)) _ _ _ from J7 (J0 (J0 (ZY g f rfl ?_))));refine(show wpAny _ _ (pure d) _ _ _ from J7 (J0 ?_));refine J0 (Y4 c hd (J0 (Ya c hd ?_)));refine JN (J7 ⟨_,rfl,_,_,⟨_,Jp _ rfl,rfl⟩,nx,q⟩) ?_;show 8<=sizeLine+2;rw[JE];lia
 exact wpAny_pyIter_slot ty F.slot_dict_items_iter (Y6 F.slot_dict_items_iter ty F.entry_dict_items_iter body (F.args_dict_items_iter_1 _))
end
noncomputable def Itni (P:Yo)(w:YI)(d:JI)(o:Obj)(xs:KVN):It:=⟨λi H=>H d=some (.frz o (DN P w d xs))/\i<xs.length,λi H x a=>∃ p T,xs[i]?=some p/\H T=none/\x=.ref T/\a=upd H T (.tup [.ref p.2.1,p.2.2]),λi H=>H d=some (.frz o (DN P w d xs))/\i=xs.length⟩
theorem pd {P:Yo}{w:YI}{K:Jl}{F:List Expr}{k1}{T:Pos}(d it:JI)(o:Obj)(xs:KVN){n:Array DictEntry}{O:Nat}(j:o.data=.dict n O)(hl:n.size=xs.length):Turn P w K (.Tuple F k1 T) (Itni P w d o xs) [it] it (λi h=>∃ a b,IsItemIter h it d i n.size O a b) where
 mem:=Ja.mpr rfl
 obj:=λi h ⟨a,b,st⟩ c m=>by
  cases Ja.mp m;exact⟨_,st,λv z=>by cases z⟩
 keep:=λi h Z ⟨a,b,st⟩ k=>⟨a,b,k it (Ja.mpr rfl) _ st⟩
 item:=by
  intro X B x C m i pins s σ H E I l ⟨a,b,st⟩ ⟨A,M⟩;subst B x C;obtain⟨g,R,r,Q⟩:=I.walkedN A j;have f:=l it (Ja.mpr rfl);obtain⟨p,N⟩:∃ p,xs[i]?=some p:=⟨_,J8 M⟩;obtain⟨q,V,J⟩:=bq r N;have ei:n[i]?=some (entryOfKey (yI X.prog X.w) q):=by rw[entry_at Q,V];rfl
  have L:s.heap.objs.size≠it:=YM (Jn st);refine j7 g j st ei λh1 U Y t=>⟨_,rfl,wpAny_letOwnedTupleGo_items U λh2 D G=>?_⟩;have S:RelV (.ref p.2.1) (Value.ref q.2.1):=by show Value.ref q.2.1=Value.ref p.2.1;rw[J.2.1]
  refine⟨.ref s.heap.objs.size,upd H s.heap.objs.size (.tup [.ref p.2.1,p.2.2]),I.spunN (t':=s.toks) (fp:=[it]) (λc u y e=>?_) l (Jd _) (qu ((G.2 _ L).trans Y) S J.2.2),rfl,⟨p,_,N,I.fresh,rfl,rfl⟩,⟨_,_,D⟩,λc y=>?_⟩
  ·have ne:c≠it:=λz=>y (Ja.mpr z)
   exact(G.2 c ne).trans (t c u ne e)
  ·cases Ja.mp y
   rw[zG L.symm];exact f.1
 done:=by
  intro X B x C m i pins s σ H E I l ⟨a,b,st⟩ ⟨A,M⟩;subst B x C;obtain⟨g,R,r,Q⟩:=I.walkedN A j;obtain⟨f0,f1,f2,f3,f4,f5⟩:=l it (Ja.mpr rfl);exact j8 (I.ok.hd m) g j st (Array.getElem?_eq_none (by simp_all)) λZ t=>⟨rfl,I.turned (t':=s.toks) (λc u W e=>t c u W e) f0 f1 f3 f4 f5⟩
 self:=λ_ _ _ _ _ ⟨_,_,st⟩ h=>PySem.W.kcp_self st h
section
variable {X:Cx}
noncomputable def bL (P:Yo)(w:YI)(c:TE):TI:=λσ H R=>c σ H λx b=>∃ d a,x=.ref d/\b d=some (DN P w d a)/\∀ o,R (Itni P w d o a) (upd b d (.frz o (DN P w d a)))
theorem lK {prog:Yo}{w:YI}{A:YO}{E:Jo->JO->Prop}{s:JO}{d:JI}{o:Obj}{Q:Jo->JO->Prop}(c:s.heap.get? d=some o) (a:o.ExactDict) (b:(d == sysModules)=false)
  (q:Q (.ref s.heap.objs.size) { s with heap:=s.heap.push { cls:=.type "dict_items",data:=.fields #[.ref d] } }):wpAny (model prog w) A (call (.builtin "dict.items") [.ref d]) Q E s:=by
 have ty:s.TypeIs (.ref d) "dict":=⟨o,c,a.1⟩;refine Y6 F.slot_dict_items ty F.entry_dict_items ?_ (F.args_dict_items_1 _);unfold Builtin.«dict.items» Builtin.Dict.showsAll;refine J0 ?_;show wpAny _ _ (Builtin.Dict.notOrdered "items" ⟨[Value.ref d],[]⟩ >>= _) _ _ _;refine J0 (Zn (s:=s) ty ?_);refine(show wpAny _ _ (pure d) _ _ _ from J7 ?_);rw[Je (by rw[b];simp)];refine J0 (J7 (J0 (JN (J7 ⟨_,rfl,q⟩) ?_)));show 1<=sizeLine+2;rw[JE];lia
theorem jg {l:Expr}{k:TE}{apos cpos z:Pos}{j:List Expr}{k1} (C:PE X l k) (c:attributeBase l "items" X.env (eval l X.env)=eval l X.env:=by rfl) (a:(apos.endLine == cpos.line)=true:=by rfl):PI X (.Tuple j k1 z) (.Call (.Attribute l "items" apos) [] [] cpos) (bL X.prog X.w k):=by
 intro pins s σ H R I h;refine wpAny_Call_method0_late c a (thn (C pins s σ H _ I h) λv f ⟨x,K,p,y,d,r,ex,n,q⟩=>?_);subst ex;cases y;obtain⟨w,t⟩:=qy p (.inl n);obtain⟨o,G,J,g,A,m,le,B,F⟩:=p.freezeN n;refine⟨"dict","dict.items",PySem.F.plainAttrs_dict,PySem.F.slot_dict_items,PySem.F.type_dict_items,w,t,Zg rfl (PySem.evalArgs_none ?_)⟩;refine lK g A B ?_;have i:=F.kept (t':=f.toks) (h':=f.heap.push { cls:=.type "dict_items",data:=.fields #[.ref d] }) λb u e=>J6 _ e;have E:=J6 { cls:=.type "dict_items",data:=.fields #[.ref d] } g;refine lI (s:={ f with heap:=f.heap.push { cls:=.type "dict_items",data:=.fields #[.ref d] } }) ⟨_,Jp _ rfl,rfl,rfl⟩ E m ?_;refine⟨_,[_],_,_,_,rfl,i.kept (t':=f.toks) λb u e=>J6 _ e,pd d _ o r m le,⟨_,_,Jp _ rfl⟩,λb D=>?_,q o⟩;cases Ja.mp D;exact i.fpOk (Jd _) (i.hok.fresh (Jd _))
end
end L2
namespace L2
open PySem PySem.Spec PyProof.Rows Own PySem.W
section
variable {prog:Yo}{w:YI}{d:JI}{o:Obj}{es:Array DictEntry}{ep:Nat}
theorem oA (j:o.ExactDict)(hd:o.data=.dict es ep)(r:(d == sysModules)=false):KdlSrc prog w "dict" d d es.size (λi v=>∃ e,es[i]?=some e/\v=e.key) (λh=>h.get? d=some o) where
 type:=λs a=>⟨o,a,j.1⟩
 there:=λh a=>⟨Jn a,Jn a⟩
 keep:=λh f a k=>k d (.inl rfl) _ a
 notList:=by decide
 notTuple:=by decide
 hint:=λA E s Q a q=>by
  have ty:s.TypeIs (.ref d) "dict":=⟨o,a,j.1⟩;show wpAny _ _ (specialOf (.ref d) _ >>= _) _ _ _;refine J0 (W9 (T:="dict") ty F.slot_dict_len.lookup ?_);show wpAny _ _ (isInstance (.ref d) (.type "dict") >>= _) _ _ _;refine J0 (Zv (T:="dict") (b:=true) ty rfl ?_);show wpAny _ _ (typeOf (.ref d) >>= _) _ _ _;exact J0 (YN ty (J7 q))
 iter:=λA s t a=>by
  refine⟨{ cls:=.type "dict_keyiterator",data:=.fields #[.ref d,.int 0 0,.int es.size 0,.int ep 0] },λi h=>h.IsKeyIter s.heap.objs.size d i es.size ep/\h.get? d=some o,λE Q q=>rp a j hd r q,?_,⟨_,Jp _ rfl,rfl,rfl⟩,J6 _ a⟩;have n:d≠s.heap.objs.size:=JB (Jn a);refine⟨λb c=>Jq.mpr (.inl (Ja.mp c)),λi h f st k=>⟨st.1.at (k _ JH),k d (JD _ JH) _ st.2⟩,λi g Q E p st q=>?_,λg Q E st q=>?_,λi g Q E st q=>wpAny_pyIter_keyiter st.1 q⟩
  ·have m:es[i]?=some es[i]:=ZA p
   exact ou st.2 hd st.1 m λf l k=>q _ f g.toks ⟨_,m,rfl⟩ ⟨l,k d o n st.2⟩ λb u nb c=>k b u (λz=>nb (Ja.mpr z)) c
  ·exact oz t st.2 hd st.1 (Array.getElem?_eq_none (Jd _)) λf k=>q f g.toks λb u nb c=>k b u (λz=>nb (Ja.mpr z)) c
end
end L2
namespace L2
open PySem PySem.Spec PyProof.Rows Own Ts PySem.W
section
variable {prog:Yo}{w:YI}{A:YO}{s:JO}
theorem eR {Q:Bool->JO->Prop}(cs:List Ordering):∀ (us vs:List Jo) (i:Nat),us.length=cs.length->vs.length=cs.length->(∀ (j:Nat) u v c,us[j]?=some u->vs[j]?=some v->cs[j]?=some c->SeqAt.EqAt A s u v (c == .eq)/\(c≠.eq->LtAt A s u v (c == .lt))) ->
  Q (cs.foldr Ordering.then .eq == .lt) s->PySem.W.KatLex prog w A false false Q (us.zip vs) i s:=by
 induction cs with
 | nil =>
  intro us vs i a b _ q;rw[Zd.mp a]
  exact PySem.W.kat_nil q
 | cons c cs ih =>
  intro us vs i a b h q
  obtain⟨u,us,rfl⟩:∃ u e,us=u::e:=by
   cases us with
   | nil=>simp at a
   | cons u us=>exact⟨u,us,rfl⟩
  obtain⟨v,vs,rfl⟩:∃ v d,vs=v::d:=by
   cases vs with
   | nil=>simp at b
   | cons v vs=>exact⟨v,vs,rfl⟩
  have f:=h 0 u v c rfl rfl rfl;refine PySem.W.kat_cons (f.1 prog w _ _ ?_);by_cases z:c=.eq
  ·subst z
   refine PySem.W.kat_yes (ih us vs (i+1) (by simpa using a) (by simpa using b) (λj u v c m l k=>h (j+1) u v c (by simpa using m) (by simpa using l) (by simpa using k)) q)
  ·have g:(c == Ordering.eq)=false:=by simpa using z
   have e2:(c::cs).foldr Ordering.then .eq=c:=by
    rw[List.foldr_cons];cases c<;>first|rfl|exact absurd rfl z
   rw[e2]at q;rw[g];refine PySem.W.kat_no ?_;rw[Bool.false_and];exact fb (f.2 z) q
end
noncomputable def RkN (H:Hp)(xs:List V)(rk:V->Int):Prop:=∃ n,n<=20/\∀ x∈xs,(∃ a b r c,x=.ref a/\H a=some (.tup (.ref b::r))/\H b=some (.tup c))/\∀ y∈xs,Lx H n x y (compare (rk x) (rk y))
section
variable {X:Cx}
theorem zbm {pins:List (JI × Obj)}{σ:St}{H:Hp}{s1:JO}(I:Inv X pins σ H s1)(C:X.A.units+64<cLine){xs:List V}{vs:List Jo}{rk:V->Int}(r:Vals xs vs)(R:RkN H xs rk) :
  ∃ κ:SortKind,(∀ h':YP,(∀ c o,s1.heap.get? c=some o->h'.get? c=some o)->2<=vs.length->∀ (l:YO) {Q:SortKind->JO->Prop}{E:Jo->JO->Prop},Q κ { s1 with heap:=h' }->wpAny (model X.prog X.w) l (keyKind' vs.toArray) Q E { s1 with heap:=h' }) /\
   (∀ h':YP,(∀ c o,s1.heap.get? c=some o->h'.get? c=some o)->∀ (l:YO),l.units<=X.A.units+8->Cmp X.prog X.w l { s1 with heap:=h' } κ (λp=>p.1∈vs) (λp=>rk (vOf p.1))):=by
 obtain⟨n,hn,R⟩:=R
 obtain⟨ex,rel⟩:=qN r λx M=>by
  obtain⟨⟨a,b,r,B,e,_⟩,_⟩:=R x M;exact .inr ⟨a,e⟩
 have mem:∀ u∈vs,vOf u∈xs:=λu C=>by rw[ex];exact Jw.mpr ⟨u,C,rfl⟩
 refine⟨tuples' (Value.type "tuple" != Value.type "tuple"),λh' k l2 l Q E q=>?_,λh' k l hA=>⟨λx y M U Q E q=>?_⟩⟩
 ·have m:Inv X pins σ H { s1 with heap:=h',toks:=s1.toks }:=I.kept k
  have kt:∀ t:List Jo,(∀ u∈t,vOf u∈xs/\RelV (vOf u) u)->∃ fs,PySem.W.KatTups h' t fs/\fs.length=t.length/\∀ f∈fs,∃ b B,f=Value.ref b/\H b=some (.tup B):=by
   intro t
   induction t with
   | nil=>intro _;exact⟨[],PySem.W.KatTups.nil,rfl,λf D=>by simp at D⟩
   | cons u t ih =>
    intro h;obtain⟨fs,S,k2,P⟩:=ih λv w=>h v (JD _ w);obtain⟨m1,r1⟩:=h u JH;obtain⟨⟨a,b,rr,B,e,N,z⟩,_⟩:=R _ m1;rw[e]at r1;cases r1;obtain⟨d,g,⟨o,W,co,no,dt⟩,_⟩:=m.tuple (SqT.of N);obtain⟨f0,ef,rf⟩:=g.get (i:=0) (x:=.ref b) rfl;cases rf
    exact⟨_,PySem.W.KatTups.cons W co dt (by simpa using ef) S,by rw[JM,JM,k2],λf' D=>by
     rcases Jq.mp D with here|D
     ·exact⟨b,B,here,z⟩
     ·exact P f' D⟩
  obtain⟨fs,S,k2,P⟩:=kt vs λu C=>⟨mem u C,rel u C⟩;refine PySem.W.kat_kind (T:=.type "tuple") S (by lia) (λv w=>?_) (by decide) q;obtain⟨b,B,rfl,z⟩:=P v w;obtain⟨d,g,⟨o,W,co,no,dt⟩,_⟩:=m.tuple (SqT.of z);exact λA Q E s ks q=>YN ⟨o,ks _ _ W,co⟩ q
 ·have m:Inv X pins σ H { s1 with heap:=h',toks:=s1.toks }:=I.kept k
  obtain⟨x1,x2⟩:=x;obtain⟨O,y2⟩:=y;have rx:=rel x1 M;have ry:=rel O U;obtain⟨⟨a,a2,xr,_,ea,N,_⟩,lx⟩:=R _ (mem x1 M);obtain⟨⟨b,b2,yr,_,eb,z,_⟩,_⟩:=R _ (mem O U);have L:=lx _ (mem O U);simp only at q;rw[ea]at rx L q;rw[eb]at ry L q;cases rx;cases ry;generalize hc:compare (rk (V.ref a)) (rk (V.ref b))=c at L;rw[<- (vP (rk (V.ref a)) (rk (V.ref b))).2,hc]at q
  cases L with
  | @row n _ _ a0 aT cs K J l1 l2 hL =>
   rw[N]at K;cases K;rw[z]at J;cases J;obtain⟨d,g1,⟨o1,ab,a6,a4,ax⟩,_⟩:=m.tuple (SqT.of N);obtain⟨F,g2,⟨o2,Z,a5,a3,ao⟩,_⟩:=m.tuple (SqT.of z);have m1:=g1.length;have m2:=g2.length;show wpAny _ _ (keyLt' (tuples' false) (.ref a) (.ref b)) _ _ _;refine PySem.W.kat_lt ab ax Z ao ?_;have ds:decide (d.toArray.size<F.toArray.size)=false:=Jj (by rw[Jg,Jg];simp_all);rw[ds];refine eR cs d F 0 (by simp_all) (by simp_all) (λj u v c G w Y=>?_) q;have j1:j<(V.ref a2::xr).length:=by have:=(J9.mp G).1;simp_all
   have j2:j<(V.ref b2::yr).length:=by have:=(J9.mp w).1;simp_all
   obtain⟨u',e1,q1⟩:=g1.get (J8 j1);obtain⟨v',e2,q2⟩:=g2.get (J8 j2);rw[G]at e1;obtain rfl:=Jf e1;rw[w]at e2;obtain rfl:=Jf e2;have LL:=hL j _ _ c (J8 j1) (J8 j2) Y;exact⟨kS m LL l _ _ (by lia) q1 q2,λne=>bx m LL ne l _ _ (by lia) q1 q2⟩
theorem lY {xs:KVN}{ws:List (KN × JI × Jo)}(r:Paired PrN xs ws):Vals (xs.map λp=>V.ref p.2.1) (ws.map λq=>Value.ref q.2.1):=by
 induction r with
 | nil=>exact .nil
 | @cons p q b a h t ih=>exact .cons (by show Value.ref q.2.1=Value.ref p.2.1;rw[h.2.1]) ih
theorem nu {a:Array DictEntry}{acc:Array Jo}(a1:acc.size=a.size)(a2:∀ (j:Nat) (v:Jo),acc[j]?=some v->∃ e,a[j]?=some e/\v=e.key):acc.toList=a.toList.map (·.key):=by
 refine List.ext_getElem (by rw[Jc,Jy,Jy,a1]) λj c f=>?_;obtain⟨e,b,d⟩:=a2 j acc[j] (ZA _);rw[List.getElem_map,Array.getElem_toList,Array.getElem_toList,d];rw[ZA (by rw[<- a1];exact c)]at b;rw[Jf b]
theorem pO (J:X.calm=true)(d:X.A.units+64<cLine):CallR X (.builtin "sorted") (λvs H Q=>∃ a xs rk,vs=[.ref a]/\H a=some (DN X.prog X.w a xs)/\xs.length<=10000/\RkN H (xs.map λp=>.ref p.2.1) rk/\∀ (l:JI) (ys:List V),H l=none->ys.Perm (xs.map λp=>.ref p.2.1)->ys.Pairwise (λx y=>rk x<=rk y)->Q (.ref l) (upd H l (.lst ys))):=by
 intro pins s σ H vs S Q I A h;obtain⟨a,xs,rk,rfl,G,T,R,q⟩:=h;obtain⟨u,rfl,B⟩:=A.one;cases B;obtain⟨⟨z,K,ws,r,o,N,Y,f,M,L,m,U⟩,_,_⟩:=(show ObjOk X.prog X.w H s.heap a (DN X.prog X.w a xs) from I.hok a _ G);have wl:N.size=xs.length:=by rw[YY m,<- JU r]
 refine cF (kdu_collect (oA M L K) (I.ok.hd J) f (by rw[wl];exact z) λf k acc E b=>?_);obtain⟨n,P⟩:=b
 have al:acc.toList=ws.map λq=>Value.ref q.2.1:=by
  rw[nu n P,m,YA];rfl
 have vs:Vals (xs.map λp=>V.ref p.2.1) acc.toList:=by rw[al];exact lY r
 have C:acc.toList.length=xs.length:=by rw[Jy,n,wl]
 have g:Inv X pins σ H { s with heap:=f,toks:=k }:=I.kept E;obtain⟨t,i,j⟩:=zbm g d vs R
 obtain⟨ex,rel⟩:=qN vs λx F=>by
  obtain⟨p,_,rfl⟩:=Jw.mp F;exact .inr ⟨_,rfl⟩
 refine⟨t,λu=>rk (vOf u),by simp_all,i,j,λW l e out lo O pm w D=>?_⟩;have v:Vals (out.map vOf) out:=rH λu d=>rel u (pm.mem_iff.mp d);have pv:(out.map vOf).Perm (xs.map λp=>V.ref p.2.1):=by rw[ex];exact pm.map vOf
 refine⟨.ref l,_,g.laid (t':=k) (o:=.lst (out.map vOf)) (λc o q=>D c o q) lo ⟨?_,out,e,v,O⟩,rfl,?_⟩
 ·rw[Jc,pm.length_eq,C];exact z
 ·exact q l _ (g.hok.fresh lo) pv (List.pairwise_map.mpr w)
end
end L2
namespace L2
open PySem PySem.Spec PyProof.Rows Own
section
noncomputable def le2 (p q a b:Int):Prop:=p<a\/p=a/\q<=b
end
theorem lD (l b:JI)(xs ys:Array Jo)(n m:Nat)(H G:Option JI)(k f:Array (Option Jo))(sz:xs.size=ys.size) :
  Meets (Builtin.«tuple.__lt__» ⟨[.ref l,.ref b],[]⟩)
   (λA R s=>s.heap.get? l=some { cls:=.type "tuple",dict:=H,data:=.seq xs n,slots:=k }/\s.heap.get? b=some { cls:=.type "tuple",dict:=G,data:=.seq ys m,slots:=f } /\
    (∀ j (L:j<xs.size) (K:j<ys.size),SeqAt.EqAt A.in1 s xs[j] ys[j] true)/\R (.ok (.ret (.bool false))) s) :=
 .of_wp λprog w A R s h=>by
  rcases h with ⟨C,E,D,h⟩;rcases s with ⟨B,g,d,q,os⟩;have kinds:=AutoSeq1.sub_tuple_tuple;have J:(xs.toList.zip ys.toList).length=min xs.size ys.size:=by simp
  wp_walk using wpAny_loadPart' C,wpAny_loadPart' E,wpAny_forIn_list _ (λrest b e=>b.1=none/\e=⟨B,g,d,q,os⟩/\∃ i,i<=(xs.toList.zip ys.toList).length/\rest=(xs.toList.zip ys.toList).drop i) _
  case turn =>
   rintro⟨y,x⟩ rest b e ⟨c,rfl,i,t,a⟩
   have r:i<(xs.toList.zip ys.toList).length:=by
    rcases Nat.lt_or_ge i (xs.toList.zip ys.toList).length with z|z
    ·exact z
    ·rw[List.drop_eq_nil_of_le z]at a;cases a
   have v:i<xs.size:=by simp_all
   have u:i<ys.size:=by simp_all
   rw[Yt r]at a;obtain⟨p,e2⟩:=List.cons.inj a;have F:y=xs[i]:=by simpa using JQ Prod.fst p
   have ex:x=ys[i]:=by simpa using JQ Prod.snd p
   subst F ex;refine J0 (D i v u prog w _ _ ?_)
   wp_walk
   exact⟨rfl,rfl,i+1,by lia,e2⟩
  case fin =>
   rintro⟨I,M⟩ e ⟨c,rfl,i,t,a⟩;have o:I=none:=c;subst o;have fl:Builtin.Tuple.tupleCompareSizes CmpOp.Lt xs.size ys.size=.bool false:=by rw[sz];simp[Builtin.Tuple.tupleCompareSizes]
   show wpAny _ _ (ret (Builtin.Tuple.tupleCompareSizes CmpOp.Lt xs.size ys.size)) _ _ _;rw[fl];exact J7 ⟨_,rfl,h⟩
  case h =>
   exact⟨rfl,rfl,0,Jz _,rfl⟩
theorem LtAt.tuplesS {A:YO}{s:JO}{l b:JI}{xs ys:Array Jo}(q:IsTup s.heap l xs)(hb:IsTup s.heap b ys)(p:A.units<cLine)(sz:xs.size=ys.size)(r:∀ j (B:j<xs.size) (z:j<ys.size),SeqAt.EqAt A.in1 s xs[j] ys[j] true):LtAt A s (.ref l) (.ref b) false:=λprog w E Q h=>by
 obtain⟨⟨y,e,u,c⟩,g,o,n,i⟩:=q;obtain⟨⟨v,d,t,a⟩,f,k,m,e2⟩:=hb;simp only at o i k e2;subst o i k e2;exact richCompare_meets_room (op:=.Lt) ⟨_,g,rfl⟩ ⟨_,f,rfl⟩ F.slot_tuple_lt F.entry_tuple_lt (F.args_tuple_lt_2 _ _) (lD l b xs ys n m e d c a sz) ⟨g,f,r,show Value.bool false≠Value.notImplemented/\Q (.bool false) s from⟨(λx=>nomatch x),h⟩⟩ p
section
variable {X:Cx}
theorem bA {pins:List (JI × Obj)}{σ:St}{H:Hp}{s:JO}(I:Inv X pins σ H s){n:Nat}{x y:V}{c:Ordering}(h:Lx H n x y c)(A:YO)(u v:Jo)(P:A.units+n<cLine)(g:RelV x u)(f:RelV y v):LtAt A s u v (c == .lt):=by
 by_cases z:c=.eq
 ·cases h with
  | int n i j =>
   obtain⟨E,rfl⟩:=g;obtain⟨D,rfl⟩:=f;rw[(vP i j).2]
   exact LtAt.ints i j E D
  | @row n a b w t cs R Q U T h =>
   cases g;cases f;obtain⟨l,p,K,_⟩:=I.tuple (SqT.of R);obtain⟨k,o,J,_⟩:=I.tuple (SqT.of Q);have M:=p.length;have L:=o.length;rw[z];refine LtAt.tuplesS K J (by lia) (by rw[Jg,Jg];simp_all) λj O N=>?_;have e:j<w.length:=by simpa [M] using O
   have d:j<t.length:=by simpa [L] using N
   have m:j<cs.length:=by simp_all
   obtain⟨C,S,G⟩:=p.get (J8 e);obtain⟨B,e2,F⟩:=o.get (J8 d);have r:l.toArray[j]=C:=by simpa using (J9.mp S).2
   have q:k.toArray[j]=B:=by simpa using (J9.mp e2).2
   have ce:cs[j]=.eq:=vE.mp z _ (Zw m);have:=kS I (h j _ _ _ (J8 e) (J8 d) (J8 m)) A.in1 _ _ (by show A.units+1+n<cLine;lia) G F;rw[ce]at this;rw[r,q];exact this
 ·exact bx I h z A u v P g f
end
section
variable {prog:Yo}{w:YI}{A:YO}{R:Result->JO->Prop}{I S:JI}{fp wr:List JI}{n:Nat}{P:Nat->Jo->Prop}{St:Nat->YP->Prop}
noncomputable def AskM (prog:Yo)(w:YI)(A:YO)(a:JO)(wr:List JI)(S:JI)(v e:Jo)(c:Bool):Prop :=
 ∀ (h:YP) (d:Nat) (Q:Jo->JO->Prop) (E:Jo->JO->Prop),(∀ b o,b∉wr->b≠S->a.heap.get? b=some o->h.get? b=some o)->Q (.bool c) { a with heap:=h,toks:=d }->wpAny (model prog w) A.in1 (richCompare .Lt v e) Q E { a with heap:=h,toks:=d }
theorem rZ (W:Walks prog w A.in1 I fp wr n P St)(away:S∉fp)(p:JO)(l:Nat->Jo->Prop)(more:∀ j v a,0<j->P j v->l j a->∃ c:Bool,l (j+1) (if c=true then v else a)/\AskM prog w A p wr S v a c) :
  ∀ (m j:Nat) (h:YP) (tk:Nat) (c:Nat) (a:Jo),j+m=n->0<j->l j a->St j h->h.get? S=some { cls:=.type "list",dict:=none,data:=.seq #[a,a] c,slots:=#[] }->(∀ b o,b∉wr->b≠S->p.heap.get? b=some o->h.get? b=some o) ->
   (∀ u B y,l n u->(∀ b o,b∉wr->b≠S->p.heap.get? b=some o->B.get? b=some o)->R (.ok (.ret u)) { p with heap:=B,toks:=y })->codeAny (model prog w) A (.builtin "min.loop" ⟨[.ref I,.none,.ref S],[]⟩) R { p with heap:=h,toks:=tk }:=by
 have out:S∉wr:=λz=>away (W.sub _ z);have nm:(toString "min"++toString ".loop":String) = "min.loop":=by decide
 intro m
 induction m with
 | zero =>
  intro j h tk c a C jp bs st s old k;have D:j=n:=by omega
  subst D
  refine Z4 F.entry_min_loop (by
   refine YS YL _ ▸ (show wpAny _ A.in1 (seqItems? (.ref S) >>= _) _ _ _ from ?_);refine J0 (Ye s rfl (show wpAny _ A.in1 (tryCatch (pyNext (.ref I)) _ >>= _) _ _ _ from J0 (Wg (W.done { p with heap:=h,toks:=tk } _ _ st λx r keep=>?_))));have d:=keep S _ out s
   show wpAny _ A.in1 (updateSeq S (λ_=>#[]) >>= _) _ _ _;exact J0 (wpAny_updateSeq d rfl (J0 (ZZ (J7 (k _ _ r bs λb o g q e=>(Yh _ _ (Ne.symm q)).trans (keep b o g (old b o g q e))))))))
 | succ m ih =>
  intro j h tk c a C jp bs st s old k
  refine Z4 F.entry_min_loop (by
   refine YS YL _ ▸ (show wpAny _ A.in1 (seqItems? (.ref S) >>= _) _ _ _ from ?_);refine J0 (Ye s rfl (show wpAny _ A.in1 (tryCatch (pyNext (.ref I)) _ >>= _) _ _ _ from J0 (Wg (W.item j { p with heap:=h,toks:=tk } _ _ (by lia) st λv x r pv t keep=>?_))));have d:=keep S _ out s;have f:∀ b o,b∉wr->b≠S->p.heap.get? b=some o->x.get? b=some o:=λb o g q e=>keep b o g (old b o g q e);obtain⟨E,i,ask⟩:=more j v a jp pv bs;show wpAny _ A.in1 (tryCatch (holding [v,v] (richCompare .Lt v a >>= _)) _ >>= _) _ _ _;refine J0 (Wg (Y5 (J0 (ask x r _ _ f (J0 (Y5 (Yu (J0 (ZZ (J7 ?_))))))))))
   cases E with
   | false =>
    rw[Je Jh]at i;rw[Je Jh];refine J0 (ZZ ?_);rw[nm]
    exact J7 ⟨Zk YL _,ih (j+1) _ _ _ a (by lia) (by lia) i t d f k⟩
   | true =>
    rw[Jm rfl]at i;rw[Jm rfl];refine J0 (wpAny_updateSeq d rfl (J0 (ZZ ?_)));rw[nm]
    exact J7 ⟨Zk YL _,ih (j+1) _ _ _ v (by lia) (by lia) i (W.frame _ _ _ t λb g o e=>(Yh _ _ (λz=>away (by rw[z];exact g))).trans e) (YJ _ d rfl) (λb o g q e=>(Yh _ _ (Ne.symm q)).trans (f b o g q e)) k⟩)
end
section
variable {prog:Yo}{w:YI}{A:YO}{E:Jo->JO->Prop}{s:JO}
noncomputable def WalkM (prog:Yo)(w:YI)(A:YO)(Q:Jo->JO->Prop)(it:Jo)(s2:JO):Prop :=
 ∃ (I:JI) (f wr:List JI) (n:Nat) (P:Nat->Jo->Prop) (St:Nat->YP->Prop),it=.ref I/\Walks prog w A.in1 I f wr n P St/\St 0 s2.heap/\(∀ b∈f,b<s2.heap.objs.size)/\0<n /\
   ∃ a:Nat->Jo->Prop,(∀ v,P 0 v->a 1 v)/\(∀ j v d,0<j->P j v->a j d->∃ c:Bool,a (j+1) (if c=true then v else d)/\AskM prog w A s2 wr s2.heap.objs.size v d c) /\
   ∀ u e g,a n u->(∀ b o,b∉wr->s2.heap.get? b=some o->e.get? b=some o)->Q u { s2 with heap:=e,toks:=g }
theorem iE {x:Jo}{Q:Jo->JO->Prop}(h:wpAny (model prog w) A.in1 (pyIter x) (WalkM prog w A Q) E s):wpAny (model prog w) A (call (.builtin "min") [x]) Q E s:=by
 have nm:(toString "min"++toString ".loop":String) = "min.loop":=by decide
 refine call_function_tree F.kind_min F.plain_min F.entry_min (F.args_min1 _) ?_;show wpAny _ A.in1 (Builtin.Builtins.bindParams "min" ["key","default"] 0 ⟨[],[]⟩ >>= _) _ _ s;refine J0 (wpAny_of_eq (show Builtin.Builtins.bindParams "min" ["key","default"] 0 ⟨[],[]⟩=pure [none,none] from rfl) (J0 (J7 (J0 (JK h (λit a z=>?_) λ_ _ e=>e)))));obtain⟨I,q,wr,n,P,St,rfl,W,st,low,pos,l,first,more,k⟩:=z;have away:a.heap.objs.size∉q:=λz=>YE _ (low _ z);have out:a.heap.objs.size∉wr:=λz=>away (W.sub _ z);refine J0 (JN ?_);rw[nm];refine J7 ⟨Zk YL _,Z4 F.entry_min_loop ?_⟩;have new:(a.heap.push { cls:=.type "list",data:=.seq #[] }).get? a.heap.objs.size=some { cls:=.type "list",dict:=none,data:=.seq #[] 0,slots:=#[] }:=Jp _ rfl;have j:St 0 (a.heap.push { cls:=.type "list",data:=.seq #[] }):=W.frame _ _ _ st λb _ o e=>J6 _ e;refine YS YL _ ▸ (show wpAny _ A.in1 (seqItems? (.ref a.heap.objs.size) >>= _) _ _ _ from ?_);refine J0 (Ye new rfl (show wpAny _ A.in1 (tryCatch (pyNext (.ref I)) _ >>= _) _ _ _ from J0 (Wg (W.item 0 _ _ _ pos j λv p B pv i keep=>?_))));have y:=first v pv
 have c:=keep _ _ out new;show wpAny _ A.in1 (updateSeq a.heap.objs.size (λ_=>#[v,v]) >>= _) _ _ _;refine J0 (wpAny_updateSeq c rfl ?_);rw[nm];have up:∀ b o,b∉wr->b≠a.heap.objs.size->a.heap.get? b=some o->(p.update a.heap.objs.size (Obj.mapSeq λ_=>#[v,v])).get? b=some o:=λb o f t e=>(Yh _ _ (Ne.symm t)).trans (keep b o f (J6 _ e));exact J7 ⟨Zk YL _,rZ W away a l more (n-1) 1 _ _ _ v (by lia) (by lia) y (W.frame _ _ _ i λb f o e=>(Yh _ _ (λz=>away (by rw[z];exact f))).trans e) (YJ _ c rfl) up λu m g r d=>k u m g r λb o f e=>d b o f (JB (Jn e)) e⟩
theorem eD {x y:Jo}{Q:Jo->JO->Prop}(h:wpAny (model prog w) A.in1 (pyIter (.ref s.heap.objs.size)) (WalkM prog w A Q) E { s with heap:=s.heap.push { cls:=.type "tuple",data:=.seq #[x,y] } }):wpAny (model prog w) A (call (.builtin "min") [x,y]) Q E s:=by
 have nm:(toString "min"++toString ".loop":String) = "min.loop":=by decide
 refine call_function_tree F.kind_min F.plain_min F.entry_min (F.args_min2 _ _) ?_;show wpAny _ A.in1 (Builtin.Builtins.bindParams "min" ["key","default"] 0 ⟨[],[]⟩ >>= _) _ _ s;refine J0 (wpAny_of_eq (show Builtin.Builtins.bindParams "min" ["key","default"] 0 ⟨[],[]⟩=pure [none,none] from rfl) (J0 ?_));refine wpAny_newTuple (J0 (JK h (λit a z=>?_) λ_ _ e=>e));obtain⟨I,q,wr,n,P,St,rfl,W,st,low,pos,l,first,more,k⟩:=z;have away:a.heap.objs.size∉q:=λz=>YE _ (low _ z);have out:a.heap.objs.size∉wr:=λz=>away (W.sub _ z);refine J0 (JN ?_);rw[nm];refine J7 ⟨Zk YL _,Z4 F.entry_min_loop ?_⟩;have new:(a.heap.push { cls:=.type "list",data:=.seq #[] }).get? a.heap.objs.size=some { cls:=.type "list",dict:=none,data:=.seq #[] 0,slots:=#[] }:=Jp _ rfl;have j:St 0 (a.heap.push { cls:=.type "list",data:=.seq #[] }):=W.frame _ _ _ st λb _ o e=>J6 _ e;refine YS YL _ ▸ (show wpAny _ A.in1 (seqItems? (.ref a.heap.objs.size) >>= _) _ _ _ from ?_);refine J0 (Ye new rfl (show wpAny _ A.in1 (tryCatch (pyNext (.ref I)) _ >>= _) _ _ _ from J0 (Wg (W.item 0 _ _ _ pos j λv p C pv i keep=>?_))));have B:=first v pv
 have c:=keep _ _ out new;show wpAny _ A.in1 (updateSeq a.heap.objs.size (λ_=>#[v,v]) >>= _) _ _ _;refine J0 (wpAny_updateSeq c rfl ?_);rw[nm];have up:∀ b o,b∉wr->b≠a.heap.objs.size->a.heap.get? b=some o->(p.update a.heap.objs.size (Obj.mapSeq λ_=>#[v,v])).get? b=some o:=λb o f t e=>(Yh _ _ (Ne.symm t)).trans (keep b o f (J6 _ e));exact J7 ⟨Zk YL _,rZ W away a l more (n-1) 1 _ _ _ v (by lia) (by lia) B (W.frame _ _ _ i λb f o e=>(Yh _ _ (λz=>away (by rw[z];exact f))).trans e) (YJ _ c rfl) up λu m g r d=>k u m g r λb o f e=>d b o f (JB (Jn e)) e⟩
end
noncomputable def xZ (cmp:V->V->Ordering)(b y:V):V:=if cmp y b=.lt then y else b
noncomputable def xU (cmp:V->V->Ordering):List V->V
 | []=>.non
 | x::r=>r.foldl (xZ cmp) x
theorem iz (cmp:V->V->Ordering){l:List V}(h:l≠[])(y:V):xU cmp (l++[y])=xZ cmp (xU cmp l) y:=by
 cases l with
 | nil=>exact absurd rfl h
 | cons x r=>show List.foldl _ _ (r++[y])=_;rw[Zq];rfl
theorem nP (cmp:V->V->Ordering):∀ (r:List V) (x:V),r.foldl (xZ cmp) x∈x::r
 | [],x=>.head _
 | y::r,x=>by
  have:=nP cmp r (xZ cmp x y);show List.foldl (xZ cmp) (xZ cmp x y) r∈x::y::r;rcases Jq.mp this with z|z
  ·rw[z]
   unfold xZ;split
   ·exact .tail _ (.head _)
   ·exact .head _
  ·exact .tail _ (.tail _ z)
theorem dc (cmp:V->V->Ordering){l:List V}(h:l≠[]):xU cmp l∈l:=by
 cases l with
 | nil=>exact absurd rfl h
 | cons x r=>exact nP cmp r x
section
variable {X:Cx}{pins:List (JI × Obj)}{σ:St}{H:Hp}{s:JO}
theorem pX {b:Bool}{a:JI}{xs:List V}{its:List Jo}{n:Nat}{cmp:V->V->Ordering}{Q:VK}(J:X.calm=true)(T:X.A.units+64<cLine)(I:Inv X pins σ H s)(m:Vals xs its)(pp:SqO b s.heap a its.toArray)(al:a<s.heap.objs.size)(k:0<xs.length)(R:n<=20)(K:∀ x∈xs,∀ y∈xs,Lx H n x y (cmp x y))(q:Q (xU cmp xs) H) :
  wpAny (model X.prog X.w) X.A.in1 (pyIter (.ref a)) (WalkM X.prog X.w X.A (EP X pins σ Q)) X.xe s:=by
 have U:its.length=xs.length:=m.length.symm;refine wX pp ⟨s.heap.objs.size,[s.heap.objs.size,a],[s.heap.objs.size],its.toArray.size,(λi v=>its.toArray[i]?=some v),_,rfl,bh (show X.A.in1.handled=none from I.ok.hd J) b _ a (JB al) its.toArray,⟨?_,pp.mv λo e=>J6 _ e⟩,λc F=>?_,by rw[Jg];simp_all,(λj v=>0<j/\j<=xs.length/\RelV (xU cmp (xs.take j)) v),λv t=>?_,λj v B jp t ⟨_,S,w⟩=>?_,λu W l ⟨_,_,f⟩ G=>?_⟩
 ·cases b<;>exact⟨_,Jp _ rfl,rfl,rfl⟩
 ·show c<(s.heap.push _).objs.size
  rw[YR];rcases Jq.mp F with z|z
  ·exact z ▸ Nat.lt_succ_self _
  ·exact Ja.mp z ▸ ZL al
 ·have E:xs[0]?=some xs[0]:=J8 k
  obtain⟨C,g,f⟩:=m.get E;have d:its[0]?=some v:=by simpa using t
  rw[d]at g;cases g;refine⟨by lia,k,?_⟩
  cases xs with
  | nil=>cases k
  | cons x r=>exact f
 ·have d:its[j]?=some v:=by simpa using t
  have p:j<xs.length:=by
   have:=(J9.mp d).1
   simp_all
  obtain⟨C,g,f⟩:=m.get (J8 p);rw[d]at g;cases g
  have ne:xs.take j≠[]:=λz=>by
   have:=JQ List.length z;rw[JC,Zj]at this
   simp_all
  have bm:xU cmp (xs.take j)∈xs:=List.mem_of_mem_take (dc cmp ne);have L:=K _ (Zw p) _ bm;refine⟨cmp xs[j] (xU cmp (xs.take j)) == .lt,⟨by lia,by lia,?_⟩,λh l N P old D=>?_⟩
  ·rw[<- Y0 p,iz cmp ne]
   unfold xZ;by_cases z:cmp xs[j] (xU cmp (xs.take j))=.lt
   ·rw[Jm z,Jm (by rw[z];rfl)];exact f
   ·rw[Je z,Je (λy=>z (by simpa using y))];exact w
  ·have O:Inv X pins σ H { s with heap:=h,toks:=l }:=I.kept λc o e=>old c o (λz=>JB (Jn e) (Ja.mp z)) (λz=>by
    have M:=Jn e;have A:c=(s.heap.push { cls:=.type (cN b),data:=.fields #[.ref a,.int 0 0] }).objs.size:=z;rw[YR]at A
    exact absurd A (JB (ZL M))) (J6 _ e)
   exact bA O L X.A.in1 v B (by show X.A.units+1+n<cLine;lia) f w X.prog X.w P N D
 ·refine⟨xU cmp xs,H,I.kept (t':=l) λc o e=>G c o (λz=>JB (Jn e) (Ja.mp z)) (J6 _ e),?_,q⟩
  have:xs.take its.toArray.size=xs:=Y8 (by rw[Jg];simp_all);rw[this]at f;exact f
theorem qH (j:X.calm=true)(b:Bool)(h:X.A.units+64<cLine):CallR X (.builtin "min") (λvs H Q=>∃ a xs n cmp,vs=[.ref a]/\SqB b X.K H a xs/\0<xs.length/\n<=20/\(∀ x∈xs,∀ y∈xs,Lx H n x y (cmp x y))/\Q (xU cmp xs) H):=by
 rintro pins s σ H vs r Q I e ⟨a,xs,n,cmp,rfl,i,d,c,k,q⟩;obtain⟨u,rfl,f⟩:=e.one;cases f;obtain⟨p,g,pp⟩:=I.sq (b:=b) i;obtain⟨o,m,l,_⟩:=pp.ob;exact iE (pX j h I g pp (Jn l) d c k q)
theorem si (i:X.calm=true)(h:X.A.units+64<cLine):CallR X (.builtin "min") (λvs H Q=>∃ x y n cmp,vs=[x,y]/\n<=20/\(∀ u∈[x,y],∀ v∈[x,y],Lx H n u v (cmp u v))/\Q (xZ cmp x y) H):=by
 rintro pins s σ H vs l Q I d ⟨x,y,n,cmp,rfl,c,j,q⟩;obtain⟨u,a,rfl,g,f⟩:=lZ d;refine eD ?_;have k:=I.kept (t':=s.toks) (h':=s.heap.push { cls:=.type "tuple",data:=.seq #[u,a] }) λb u e=>J6 _ e;refine pX (s:={ s with heap:=s.heap.push { cls:=.type "tuple",data:=.seq #[u,a] } }) (b:=false) (xs:=[x,y]) (its:=[u,a]) i h k (.cons g (.cons f .nil)) ⟨_,Jp _ rfl,rfl,_,rfl⟩ ?_ (by show 0<2;lia) c j q;show s.heap.objs.size<(s.heap.push _).objs.size;rw[YR];simp_all
end
noncomputable def cmpR:List Int->List Int->Ordering
 | [],[]=>.eq
 | [],_::_=>.lt
 | _::_,[]=>.gt
 | a::x,b::y=>(compare a b).then (cmpR x y)
theorem uG:∀ {x y:List Int},x.length=y.length->(List.zipWith compare x y).foldr Ordering.then .eq=cmpR x y
 | [],[],_=>rfl
 | a::x,b::y,h=>by
  show (compare a b).then _=(compare a b).then _;rw[uG (x:=x) (y:=y) (by simpa using h)]
theorem kR {H:Hp}{a b:JI}{x y:List Int}(ha:H a=some (.tup (x.map V.int)))(hb:H b=some (.tup (y.map V.int)))(l:x.length=y.length):Lx H 1 (.ref a) (.ref b) (cmpR x y):=by
 rw[<- uG l];refine .row ha hb (by rw[Jc,List.length_zipWith];simp_all) (by rw[Jc,List.length_zipWith];simp_all) λi u v c e d f=>?_;rw[JV]at e d;obtain⟨p,h,rfl⟩:=JX.mp e;obtain⟨q,g,rfl⟩:=JX.mp d;rw[List.getElem?_zipWith,h,g]at f;cases f;exact .int 0 p q
noncomputable def yn (x y:List Int):List Int:=if cmpR y x=.lt then y else x
noncomputable def iG:List (List Int)->List Int
 | []=>[]
 | x::r=>r.foldl yn x
noncomputable def aN (P:Yo)(w:YI)(t:TS):TS:=λD σ H=>t { D with nx:=λa e=>∃ d o c b,H d=some (DN P w d b)/\e d=some (.frz o (DN P w d c))/\D.nx a (upd e d (DN P w d c)) } σ H
section
variable {X:Cx}
theorem oN {st:Stmt}{t:TS}(h:PS X st t):PS X st (aN X.prog X.w t):=by
 intro pins s σ H D I c;refine thn (h pins s σ H _ I c) λf k q=>?_
 cases f with
 | next =>
  obtain⟨a,l,g,d,o,j,i,e,b,q⟩:=q
  exact⟨a,_,g.thawN b (I.meltedN e),q⟩
 | brk=>exact q
 | cont=>exact q
 | ret u=>exact q
end
theorem lO {P:Yo}{w:YI}{d:JI}{o:Obj}{xs:KVN}{g:TG}{j:TS}{D:Ends}{σ:St}{H:Hp}(a:Nat->St->Hp->Prop)(u:a 0 σ H)(r:∀ i σ H,i<=xs.length->a i σ H->H d=some (.frz o (DN P w d xs)))(n:∀ i p σ H T,xs[i]?=some p->H T=none->a i σ H->g (.ref T) σ (upd H T (.tup [.ref p.2.1,p.2.2])) λc h=>j { D with nx:=a (i+1),ct:=a (i+1),bk:=D.nx } c h)(s:∀ σ H,a xs.length σ H->D.nx σ H) :
  ∃ W:Nat->Nat->St->Hp->Prop,(∃ m,W 0 m σ H)/\∀ i m σ H,W i m σ H ->
   ((Itni P w d o xs).stop i H/\D.nx σ H)\/((Itni P w d o xs).go i H/\∃ N:St->Hp->Prop,(∀ f b,N f b->∃ k,k<m/\W (i+1) k f b)/\∀ x b,(Itni P w d o xs).yld i H x b->g x σ b λc h=>j { D with nx:=N,ct:=N,bk:=D.nx } c h):=by
 refine⟨λi m σ H=>m=xs.length-i/\i<=xs.length/\a i σ H,⟨xs.length,by simp,Jz _,u⟩,λi m σ H ⟨em,hi,p⟩=>?_⟩;subst em;have q:=r i σ H hi p;by_cases lt:i<xs.length
 ·refine .inr ⟨⟨q,lt⟩,a (i+1),λf b l=>⟨xs.length-(i+1),by lia,rfl,lt,l⟩,λx b ⟨y,T,v,t,z,e2⟩=>?_⟩
  subst z e2;exact n i y σ H T v t p
 ·have e:i=xs.length:=by lia
  subst e;exact .inl ⟨⟨q,rfl⟩,s σ H p⟩
end L2
namespace L2
open PySem
theorem jF {i:Nat}{x:V}{t:TS}{D:Ends}{σ:St}{H:Hp}(h:∀ b:Ends,(∀ σ H,D.nx σ H->b.nx σ H)->t b (σ.set i (some x)) H):qC i x σ H λa c=>t D a c:=h D λ_ _ x=>x
theorem zaD {i:Nat}{x:V}{t:TS}{D:Ends}{σ:St}{H:Hp}(h:∀ a:Ends,(∀ σ H,D.nx σ H->a.nx σ H)->(∀ σ H,D.ct σ H->a.ct σ H)->t a (σ.set i (some x)) H):qC i x σ H λb c=>t D b c:=h D (λ_ _ x=>x) λ_ _ x=>x
theorem zi {t u:TS}{D:Ends}{σ:St}{H:Hp}(h:∀ a:Ends,(∀ σ H,u D σ H->a.nx σ H)->t a σ H):wC t u D σ H:=h { D with nx:=u D } λ_ _ x=>x
theorem jU {t u:TS}{D:Ends}{σ:St}{H:Hp}(h:∀ a:Ends,(∀ σ H,u D σ H->a.nx σ H)->(∀ v H,D.rt v H->a.rt v H)->t a σ H):wC t u D σ H:=h { D with nx:=u D } (λ_ _ x=>x) λ_ _ x=>x
end L2
namespace Bn
open PySem L2 Own
noncomputable abbrev Sn:=List Int × List Grp × List Int
noncomputable abbrev Sn.none (N:Nt):Sn:=(List.replicate N.forks.length 0,[],List.replicate N.lanes 0)
end Bn
namespace L2
open PySem PySem.Spec PyProof.Rows Own
noncomputable abbrev FZ (o:Obj):HO:=.frz o (.ext λ_=>True)
theorem nM {P:Yo}{w:YI}{H:Hp}{h:YP}{a:JI}{o:Obj}(e:h.get? a=some o):ObjOk P w H h a (FZ o):=⟨e,trivial,⟨o,e⟩,λ_ _ _ _=>trivial⟩
structure Lam where
 params:Arguments
 body:Expr
 scope:Scope
 qual:Str
noncomputable def nH (L:Lam)(cl:List (Str × JI))(pm:Jo)(c:JI)(ct:Jo):Obj:=PySem.W.kla_obj "<lambda>" L.qual L.params L.body L.scope cl pm c ct
structure LamAt (H:Hp) (f:JI) (L:Lam) (cl:List (Str × JI)) (vs:List V):Prop where
 ex:∃ (pm:Jo) (c:JI) (ct:Jo) (oc:Obj) (fs:Array Jo) (t:Tok),H f=some (FZ (nH L cl pm c ct))/\H c=some (FZ oc)/\oc.data=.fields fs/\fs[1]?=some (.str L.qual t)
 len:cl.length=vs.length
 cell:∀ (i:Nat) x c v,cl[i]?=some (x,c)->vs[i]?=some v->∃ o u,H c=some (FZ o)/\o.data=.cell (some u)/\RelV v u
 nd1:(cl.map (·.1)).Nodup
 nd2:(cl.map (·.2)).Nodup
theorem LamAt.frz {H H':Hp}{f:JI}{L:Lam}{cl:List (Str × JI)}{vs:List V}(h:LamAt H f L cl vs)(z:∀ b o u,H b=some (.frz o u)->H' b=some (.frz o u)):LamAt H' f L cl vs:=by
 obtain⟨pm,c,p,j,fs,t,n,m,l,k⟩:=h.ex;refine⟨⟨pm,c,p,j,fs,t,z _ _ _ n,z _ _ _ m,l,k⟩,h.len,λi x c v a b=>?_,h.nd1,h.nd2⟩;obtain⟨o,u,g,e,d⟩:=h.cell i x c v a b;exact⟨o,u,z _ _ _ g,e,d⟩
noncomputable def strip (cl:List (Str × JI))(H:Hp):Hp:=λb=>if b∈cl.map (·.2) then none else H b
noncomputable def back (cl:List (Str × JI))(H H':Hp):Hp:=λb=>if b∈cl.map (·.2) then H b else H' b
theorem wE {cl:List (Str × JI)}{H:Hp}{b:JI}(h:b∈cl.map (·.2)):strip cl H b=none:=Jm h
theorem zv {cl:List (Str × JI)}{H:Hp}{b:JI}(h:b∉cl.map (·.2)):strip cl H b=H b:=Je h
theorem pR {cl:List (Str × JI)}{H H':Hp}{b:JI}(h:b∈cl.map (·.2)):back cl H H' b=H b:=Jm h
theorem xD {cl:List (Str × JI)}{H H':Hp}{b:JI}(h:b∉cl.map (·.2)):back cl H H' b=H' b:=Je h
theorem mF {cl:List (Str × JI)}{H:Hp}{b:JI}{o:HO}(h:strip cl H b=some o):b∉cl.map (·.2)/\H b=some o:=by
 by_cases c:b∈cl.map (·.2)
 ·rw[wE c]at h;cases h
 ·rw[zv c]at h;exact⟨c,h⟩
noncomputable def CellsFz (cl:List (Str × JI))(H:Hp):Prop:=∀ b∈cl.map (·.2),∃ o,H b=some (FZ o)
theorem LamAt.fz {H:Hp}{f:JI}{L:Lam}{cl:List (Str × JI)}{vs:List V}(h:LamAt H f L cl vs):CellsFz cl H:=λb k=>by
 obtain⟨⟨x,c⟩,j,rfl⟩:=Jw.mp k;obtain⟨i,a,e⟩:=YT.mp j;have g:i<vs.length:=by rw[<- h.len];exact a
 obtain⟨o,u,d,_⟩:=h.cell i x c vs[i] (by rw[J8 a,e]) (J8 g);exact⟨o,d⟩
section
variable {P:Yo}{w:YI}{H H':Hp}{h h':YP}{cl:List (Str × JI)}
theorem qA (x:HOk P w H h)(fz:CellsFz cl H):HOk P w (strip cl H) h:=λb u e=>by
 obtain⟨nb,f⟩:=mF e
 have keep:∀ {c:JI}{o:HO},H c=some o->(∀ q,o≠FZ q)->strip cl H c=some o:=λ{c o} z n=>by
  rw[zv];· exact z
  ·intro d
   obtain⟨q,a⟩:=fz c d;rw[z]at a;exact n q (Jf a)
 exact(x b u f).stay (λc v _ q=>q) (λc q=>keep q λz y=>by cases y) λc g q=>keep q λz y=>by cases y
theorem di {fs:List JI}(un:Un fs [] (strip cl H) H' h h')(fz:CellsFz cl H)(k:∀ b∈fs,H b=none)(there:∀ b o,H b=some (FZ o)->h.get? b=some o)(low:∀ b∈cl.map (·.2),H' b=none)(ok:HOk P w H' h'):Un fs [] H (back cl H H') h h'/\HOk P w (back cl H H') h':=by
 have d:∀ {b:JI},H b=none->b∉cl.map (·.2):=λe a=>by
  obtain⟨o,q⟩:=fz _ a;rw[e]at q;cases q
 have kept:∀ b∈cl.map (·.2),∀ o,h.get? b=some o->h'.get? b=some o:=λb a o e=>un.keep b o e (wE a) (λz=>d (k b z) a) (by simp)
 have f:∀ {b:JI}{o:HO},H b=some o->(∀ q,o≠FZ q)->b∉cl.map (·.2):=λz n a=>by
  obtain⟨q,i⟩:=fz _ a;rw[z]at i;exact n q (Jf i)
 refine⟨⟨λb o e n x y=>un.keep b o e (by rw[zv (d n)];exact n) x y,λb o e n x y=>un.slot b o e (by rw[zv (d n)];exact n) x y,λb o e n y=>?_,un.there,λb g e=>?_,λb o u e=>?_,λb j e=>?_⟩,λb u e=>?_⟩
 ·rw[xD (d n)]
  exact un.free b o e (by rw[zv (d n)];exact n) y
 ·have nb:=f e λq z=>by cases z
  rw[xD nb];exact un.tups b g (by rw[zv nb];exact e)
 ·by_cases c:b∈cl.map (·.2)
  ·rw[pR c];exact e
  ·rw[xD c];exact un.frzs b o u (by rw[zv c];exact e)
 ·have nb:=f e λq z=>by cases z
  rw[xD nb];exact un.tbls b j (by rw[zv nb];exact e)
 ·by_cases c:b∈cl.map (·.2)
  ·rw[pR c]at e
   obtain⟨o,q⟩:=fz b c;rw[q]at e;cases e;exact nM (kept b c o (there b o q))
  ·rw[xD c]at e
   have old:∀ {x:JI}{o:HO},H' x=some o->back cl H H' x=some o:=λ{x o} z=>by
    rw[xD];· exact z
    ·intro l
     rw[low x l]at z;cases z
   exact(ok b u e).stay (λx v _ q=>q) (λx q=>old q) λx g q=>old q
end
noncomputable def lR (L:Lam)(cl:List (Str × JI))(a f c:JI):Env:={ scope:=L.scope,locals:=a,globals:=mainGlobals,cells:=cl,qual:=L.qual++".<locals>.",func:=some f,code:=.ref c,frame:=some a,builtins:=builtinsNs }
noncomputable def dU (CX:CXT)(P:Yo)(w:YI)(K:Jl)(mg:Str->Option Jo)(base:YP)(N:List Str)(L:Lam)(cl:List (Str × JI))(f c:JI)(A:YO)(outer:List Env)(s:JO)(H:Hp)(E:XK):Cx where
 prog:=P
 w:=w
 K:=K
 mg:=mg
 base:=base
 A:=A.deeper (lR L cl s.heap.objs.size f c)
 N:=N
 s₀:=s
 H₀:=strip cl H
 env:=lR L cl s.heap.objs.size f c
 outer:=outer
 stack:=lR L cl s.heap.objs.size f c::outer
 ex:=[]
 calm:=true
 fn:=λ_=>false
 pn:=[]
 xe:=λe b=>wpAny (model P w) (A.deeper (lR L cl s.heap.objs.size f c)) (leaving (lR L cl s.heap.objs.size f c) e) (λ_ a=>CX outer H s E e a) (λd a=>CX outer H s E d a) b
structure LamScope (ps fr:List Str) (sc:Scope):Prop where
 kind:sc.kind=.function
 co:sc.isCoroutine=false
 gen:sc.isGenerator=false
 nd:(ps++fr).Nodup
 par:∀ x∈ps,sc.names.lookup x=some .local
 fre:∀ x∈fr,sc.names.lookup x=some .free
 noc:∀ y∈sc.names,y.2≠.cell
 all:∀ x,sc.names.lookup x=some .free->x∈fr
section
variable {CX:CXT}{P:Yo}{w:YI}{K:Jl}{mg:Str->Option Jo}{base:YP}{L:Lam}{cl:List (Str × JI)}{vals vs:List V}{ps:List Str}{f c:JI}{A:YO}{outer:List Env}{s:JO}{H:Hp}{us:List Jo}{E:XK}
theorem kT {cl:List (Str × JI)}(nd:(cl.map (·.1)).Nodup):∀ {i:Nat}{x:Str}{c:JI},cl[i]?=some (x,c)->cl.lookup x=some c:=by
 induction cl with
 | nil=>intro i x c h;cases h
 | cons p r ih =>
  intro i x c h;rw[JR,JP]at nd
  cases i with
  | zero =>
   cases Jf h
   rw[Ys,ZV]
  | succ i =>
   have m:=JF (show r[i]?=some (x,c) from h);rw[Ys,show (x == p.1)=false from YZ.mpr λz=>nd.1 (Jw.mpr ⟨_,m,z⟩)];exact ih nd.2 (show r[i]?=some (x,c) from h)
theorem mX {ps:List Str}{us:List Jo}(nd:ps.Nodup)(d:us.length=ps.length){i:Nat}{x:Str}{u:Jo}(b:ps[i]?=some x)(c:us[i]?=some u):(ps.zip us).reverse.lookup x=some u:=by
 have a:((ps.zip us).reverse.map (·.1)).Nodup:=by
  rw[List.map_reverse,List.map_fst_zip (by simp_all)];exact List.pairwise_reverse.mpr (nd.imp λh=>h.symm)
 have m:(x,u)∈(ps.zip us).reverse:=List.mem_reverse.mpr (JF (i:=i) (by rw[Zz];exact⟨b,c⟩));generalize (ps.zip us).reverse=l at a m
 induction l with
 | nil=>cases m
 | cons p r ih =>
  rw[JR,JP]at a;rcases Jq.mp m with e|z
  ·rw[<- e,Ys,ZV]
  ·rw[Ys,show (x == p.1)=false from YZ.mpr λy=>a.1 (Jw.mpr ⟨_,z,y⟩)]
   exact ih a.2 z
theorem bI {h':YP}{tk:Nat}(S:LamScope ps (cl.map (·.1)) L.scope)(hd:A.handled=none)(g:Env0 P w K mg base A outer s H)(la:LamAt H f L cl vals)(r:Vals vs us)(J:vs.length=ps.length)(ns:h'.Ns s.heap.objs.size (λx=>(ps.zip us).reverse.lookup x))(kp:∀ b o,s.heap.get? b=some o->h'.get? b=some o) :
  Inv (dU CX P w K mg base (ps++cl.map (·.1)) L cl f c A outer s H E) [] ((vs++vals).map some) (strip cl H) { s with heap:=h',toks:=tk }:=by
 have fz:=la.fz;have O:=ZP.mp S.nd;have ul:us.length=ps.length:=by rw[<- r.length];exact J
 have d:∀ {x:Str}{a:JI},cl.lookup x=some a->(x,a)∈cl:=λh=>Z8 h
 have cellOf:∀ {x:Str}{a:JI},(x,a)∈cl->∃ (i:Nat) (v:V) (o:Obj) (u:Jo),cl[i]?=some (x,a)/\vals[i]?=some v/\H a=some (FZ o)/\o.data=.cell (some u)/\RelV v u/\s.heap.get? a=some o:=λ{x a} m=>by
  obtain⟨i,t,e⟩:=YT.mp m;have R:cl[i]?=some (x,a):=by rw[J8 t,e]
  have Q:i<vals.length:=by rw[<- la.len];exact t
  obtain⟨o,u,C,B,F⟩:=la.cell i x a vals[i] R (J8 Q);exact⟨i,_,o,u,R,J8 Q,C,B,F,(g.hok a _ C).1⟩
 refine⟨⟨g.mod,S.kind,rfl,rfl,Jd _,λy z a k n=>?_,λy G=>?_,λy a q=>(by cases q),λ_=>hd,Around.frames_deeper g.frames,.inr ⟨rfl,rfl⟩,λb z=>(Jv z).elim,λb o e=>⟨(g.bs b o e).1,?_⟩,g.bsz,λb _ _=>Jv,λb z=>(Jv z).elim,g.funs,λb hb=>?_⟩,
  rfl,g.bare,Un.kept kp,⟨_,ns,λi y v k n h3=>?_⟩,λy a h=>?_,?_,λy a h=>wE (Jw.mpr ⟨_,d h,rfl⟩),λp I=>(Jv I).elim,(qA g.hok fz).kept kp,?_⟩
 ·-- one cell,one name
  have X:=d k;have W:=d n;obtain⟨i,t,D⟩:=YT.mp X;obtain⟨j,Y,M⟩:=YT.mp W;have:i=j:=(List.getElem_inj (h₀:=by rw[Jc];exact t) (h₁:=by rw[Jc];exact Y) la.nd2).mp (by rw[List.getElem_map,List.getElem_map,D,M]);subst this;rw[D]at M;exact JQ Prod.fst M
 ·have G:L.scope.names.lookup y=some .cell\/L.scope.names.lookup y=some .free:=G
  rcases G with q|q
  ·exact absurd rfl (S.noc _ (Z8 q))
  ·obtain⟨p,I,e⟩:=Jw.mp (S.all y q)
   obtain⟨i,t,D⟩:=YT.mp I;exact⟨p.2,kT la.nd1 (i:=i) (by rw[J8 t,D,<- e])⟩
 ·show strip cl H b=none
  unfold strip;split
  ·rfl
  ·exact(g.bs b o e).2
 ·show strip cl H b=none
  unfold strip;split
  ·rfl
  ·exact g.frf b hb
 ·have l:(vs++vals)[i]?=some v:=by
   rw[JV]at n
   cases e:(vs++vals)[i]? with
   | none=>rw[e]at n;cases n
   | some z=>rw[e]at n;cases n;rfl
  replace k:(ps++cl.map (·.1))[i]?=some y:=k;by_cases ci:i<vs.length
  ·rw[Zy ci]at l
   rw[Zy (by simp_all)]at k;obtain⟨u,Z,T⟩:=r.get l;exact⟨u,T,.inl ⟨S.par y (JF k),mX O.1 ul k Z⟩⟩
  ·rw[Zs (by simp_all)]at l
   rw[Zs (by simp_all),JV,<- J]at k;obtain⟨⟨x,a⟩,N,rfl⟩:=JX.mp k;obtain⟨o,u,C,B,F⟩:=la.cell _ x a v N l;exact⟨u,F,.inr ⟨.inr (S.fre x (Jw.mpr ⟨_,JF N,rfl⟩)),a,kT la.nd1 N,o,kp _ _ (g.hok a _ C).1,B⟩⟩
 ·obtain⟨i,v,o,u,_,_,_,B,_,U⟩:=cellOf (d h)
  exact⟨some u,o,kp _ _ U,B⟩
 ·show strip cl H s.heap.objs.size=none
  unfold strip;split
  ·rfl
  ·exact g.hok.fresh (Jd _)
 ·show ((vs++vals).map some).length=(ps++cl.map (·.1)).length
  rw[Jc,Jb,Jb,Jc,J,la.len]
end
theorem nY {sc:Scope}{env:Env}(h:∀ x,(x,NameKind.free)∈sc.names->∃ c,env.cells.lookup x=some c) :
  ∃ cl,closureFor sc env=pure cl/\cl.map (·.1)=((sc.names.filter λy=>y.2 == .free).map (·.1)).reverse/\∀ p∈cl,env.cells.lookup p.1=some p.2:=by
 unfold closureFor
 have key:∀ (l:List (Str × NameKind)) (acc:List (Str × JI)),(∀ x,(x,NameKind.free)∈l->∃ c,env.cells.lookup x=some c)->(∀ p∈acc,env.cells.lookup p.1=some p.2) ->
   ∃ cl,(forIn l acc λ(y:Str × NameKind) (r:List (Str × JI))=>(match y with|(name,kind)=>if (kind == NameKind.free)=true then do let a <- cellOf env name;pure (ForInStep.yield ((name,a)::r)) else pure (ForInStep.yield r):Sem (ForInStep (List (Str × JI)))))=pure cl/\cl.map (·.1)=((l.filter λy=>y.2 == .free).map (·.1)).reverse++acc.map (·.1)/\∀ p∈cl,env.cells.lookup p.1=some p.2:=by
  intro l
  induction l with
  | nil=>intro acc _ e;exact⟨acc,rfl,rfl,e⟩
  | cons y l ih =>
   intro acc j e;obtain⟨x,f⟩:=y;rw[Z3];by_cases c:(f == NameKind.free)=true
   ·have n:f=.free:=by
     cases f<;>first|rfl|cases c
    subst n;obtain⟨a,k⟩:=j x (.head _)
    obtain⟨cl,d,e2,b⟩:=ih ((x,a)::acc) (λz g=>j z (.tail _ g)) (λp i=>by
     rcases Jq.mp i with rfl|q
     ·exact k
     ·exact e p q)
    refine⟨cl,?_,?_,b⟩
    ·have o:cellOf env x=pure a:=by unfold cellOf;rw[k]
     simp only[o,pure_bind];exact d
    ·rw[e2,List.filter_cons,Jm (show ((x,NameKind.free).2 == NameKind.free)=true from rfl),JR (l:=List.filter _ l),List.reverse_cons,JW];rfl
   ·obtain⟨cl,d,e2,b⟩:=ih acc (λz g=>j z (.tail _ g)) e
    refine⟨cl,?_,?_,b⟩
    ·simp only[c,pure_bind]
     exact d
    ·rw[e2,List.filter_cons,Je c]
 obtain⟨cl,d,e2,b⟩:=key sc.names [] h (λp i=>(Jv i).elim);refine⟨cl,?_,by rw[e2,List.map_nil,JZ],b⟩;have s:=JQ (λ(m:Sem (List (Str × JI)))=>m >>= λr=>pure r) d;exact s.trans (pure_bind _ _)
noncomputable def TabOk (H:Hp)(qual:Str)(l:List (Pos × JI)):Prop:=∀ p∈l,∃ (a:Obj) (fs:Array Jo) (t:Tok),H p.2=some (FZ a)/\a.data=.fields fs/\fs[1]?=some (.str qual t)
theorem TabOk.frz {H H':Hp}{qual:Str}{l:List (Pos × JI)}(h:TabOk H qual l)(z:∀ b o u,H b=some (.frz o u)->H' b=some (.frz o u)):TabOk H' qual l:=λp c=>by
 obtain⟨a,fs,t,e,d⟩:=h p c;exact⟨a,fs,t,z _ _ _ e,d⟩
theorem sv (pos:Pos):∀ l:List (Pos × JI),codeAmong pos (triples l)=none\/∃ p∈l,codeAmong pos (triples l)=some (.ref p.2)
 | []=>.inl rfl
 | (q,a)::l=>by
  show (if (((q.line:Int) == pos.line && (q.col:Int) == pos.col)=true) then some (Value.ref a) else codeAmong pos (triples l))=none\/∃ p∈(q,a)::l,(if (((q.line:Int) == pos.line && (q.col:Int) == pos.col)=true) then some (Value.ref a) else codeAmong pos (triples l))=some (.ref p.2);split
  ·exact .inr ⟨_,.head _,rfl⟩
  ·rcases sv pos l with h|⟨p,b,h⟩
   ·exact .inl h
   ·exact .inr ⟨p,.tail _ b,h⟩
theorem wo:∀ l:List (Pos × JI),TriplesOk (triples l)
 | []=>trivial
 | (q,a)::l=>wo l
structure CodeK (K:Jl) (mg:Str->Option Jo) (base:YP) (c P:JI):Prop where
 hd:PySem.W.codeHdIn K c P=true
 blt:base.BuiltinsAt mg P
 gP:mainGlobals≠P
structure LamRaw (H:Hp) (f:JI) (L:Lam) (cl:List (Str × JI)):Prop where
 ex:∃ (pm:Jo) (c:JI) (ct:Jo) (oc:Obj) (fs:Array Jo) (t:Tok),H f=some (FZ (nH L cl pm c ct))/\H c=some (FZ oc)/\oc.data=.fields fs/\fs[1]?=some (.str L.qual t)
noncomputable def CellsOf (env:Env)(cl:List (Str × JI)):Prop:=∀ p∈cl,env.cells.lookup p.1=some p.2
noncomputable def zbv (env:Env)(P:JI)(L:Lam)(fr:List Str):TE:=λ_ H Q=>∃ l,H P=some (.tbl (triples l).toArray)/\TabOk H L.qual l /\
 ∀ f cl c a,cl.map (·.1)=fr->CellsOf env cl->H f=none->LamRaw a f L cl->a P=some (.tbl (triples c).toArray)->TabOk a L.qual c->(∀ b o,H b=some o->b≠P->a b=some o)->Q (.ref f) a
section
variable {X:Cx}{pins:List (JI × Obj)}{σ:St}{H:Hp}{s:JO}{h':YP}
theorem Inv.tab {P:JI}{ps more:Array Jo}{tk:Nat}(I:Inv X pins σ H s)(d:H P=some (.tbl ps))(k:Heap.ExtBut P s.heap h')(new:h'.get? P=some (PySem.W.tabObj (ps++more))):Inv X pins σ (upd H P (.tbl (ps++more))) { s with heap:=h',toks:=tk }:=by
 have ne:∀ {b:JI},H b=none->b≠P:=λe z=>by rw[z,d]at e;cases e
 have a:∀ {b:JI}{o:HO},H b=some o->(∀ q,o≠.tbl q)->upd H P (.tbl (ps++more)) b=some o:=λ{b o} e n=>by
  rw[zG];· exact e
  ·intro z
   rw[z,d]at e;exact n ps (Jf e).symm
 refine I.step (g':=s.gens) (d':=s.drawn) (ch:=[]) (λb j=>(Jv j).elim) (λb o _ _ _ e n=>k b o (ne n) e) (λb o _ _ _ e n=>⟨o.slots,k b o (ne n) e⟩) (λb o _ e n=>by rw[zG (ne n)];exact n) (λb o _ e=>?_) (λb f e=>a e λq z=>by cases z) (λb o u e=>a e λq z=>by cases z) (λb t e=>?_) (λm i=>?_) (λb u e=>?_) I.bare
 ·by_cases c:b=P
  ·subst c;exact⟨_,new⟩
  ·exact⟨o,k b o c e⟩
 ·by_cases c:b=P
  ·subst c
   rw[d]at e;cases e;exact⟨more,zB⟩
  ·exact⟨#[],by rw[zG c,e];simp⟩
 ·obtain⟨o,l,p,h,r⟩:=i
  exact⟨o,l,p,k _ o (ne I.free) h,r⟩
 ·by_cases c:b=P
  ·subst c
   rw[zB]at e;cases e;exact new
  ·rw[zG c]at e
   refine(I.hok b u e).stay (λx v g q=>k x v ?_ q) (λx q=>a q λz y=>by cases y) λx f q=>a q λz y=>by cases y
   rcases g with z|z
   ·rw[z];exact c
   ·rintro rfl
    rw[d]at z;cases z
theorem mi {params:Arguments}{body:Expr}{scope:Scope}{pos:Pos}{c P:JI}{fr:List Str}(N:CodeK X.K X.mg X.base c P)(i:X.env.code=.ref c)(B:defaultsOf params X.env=([],[]))(r:∀ x,(x,NameKind.free)∈scope.names->X.env.kindOf x=some .cell\/X.env.kindOf x=some .free)(S:((scope.names.filter λy=>y.2 == .free).map (·.1)).reverse=fr) :
  PE X (.Lambda params body scope pos) (zbv X.env P ⟨params,body,scope,X.env.qual++"<lambda>"⟩ fr):=by
 intro pins s σ H Q I h;obtain⟨l,w,tok,q⟩:=h;obtain⟨cl,A,m,z⟩:=nY (sc:=scope) (env:=X.env) λx hx=>I.ok.has x (r x hx);rw[S]at m;have Y:s.heap.Ns mainGlobals X.mg:=I.mod.glob.keeps I.bk;have Z:s.heap.BuiltinsAt X.mg P:=N.blt.keeps I.bk;have C:=PySem.W.codeHd_of_K I.kIn N.hd;have E:s.heap.get? P=some (PySem.W.tabObj (triples l).toArray):=I.hok P _ w;refine PySem.W.kla_eval B ?_;rcases sv pos l with hn|⟨p,K,hy⟩
 ·refine PySem.W.kla_makeFunction A I.ok.glob Y i C E (by rw[List.toList_toArray];exact wo l) (by rw[List.toList_toArray];exact hn) N.gP Z λd f h' tk ex lo hi cr U=>?_
  obtain⟨c2,j,fs,t,ec,g1,g2,g3⟩:=cr;cases ec;have V:P<s.heap.objs.size:=Jn E;have sz:s.heap.objs.size<=h'.objs.size:=JS lo (Nat.le_of_lt hi);have cP:d≠P:=YM (JJ V lo);have fP:h'.objs.size≠P:=YM (JJ V sz);have M:d≠h'.objs.size:=JB hi
  have L:(triples l).toArray++#[rawInt pos.line,rawInt pos.col,.ref d]=(triples (l++[(pos,d)])).toArray:=by
   rw[triples_append];simp
  rw[L]at U;have D:=I.tab (tk:=tk) (h':=h'.push (nH ⟨params,body,scope,X.env.qual++"<lambda>"⟩ cl ((X.mg "__name__").getD .none) d f)) (more:=#[rawInt pos.line,rawInt pos.col,.ref d]) w (λb o n e=>J6 _ (ex b o n e)) (by rw[L];exact J6 _ U);rw[L]at D;have W:H d=none:=I.hok.fresh lo;have J:H h'.objs.size=none:=I.hok.fresh sz;have m1:upd H P (.tbl (triples (l++[(pos,d)])).toArray) d=none:=by rw[zG cP];exact W
  have I2:=D.adopt (o:=FZ j) (I.fpOk lo m1) (nM (J6 _ g1));have m2:upd (upd H P (.tbl (triples (l++[(pos,d)])).toArray)) d (FZ j) h'.objs.size=none:=by rw[zG M.symm,zG fP];exact J
  have I3:=I2.adopt (o:=FZ (nH ⟨params,body,scope,X.env.qual++"<lambda>"⟩ cl ((X.mg "__name__").getD .none) d f)) (I.fpOk sz m2) (nM (Jp _ rfl))
  have keep:∀ b o,H b=some o->b≠P->upd (upd (upd H P (.tbl (triples (l++[(pos,d)])).toArray)) d (FZ j)) h'.objs.size (FZ (nH ⟨params,body,scope,X.env.qual++"<lambda>"⟩ cl ((X.mg "__name__").getD .none) d f)) b=some o:=λb o e n=>by
   rw[zG (zE e J),zG (zE e W),zG n];exact e
  refine⟨.ref h'.objs.size,_,I3,rfl,q _ cl (l++[(pos,d)]) _ m z J ⟨_,d,f,j,fs,t,zB,by rw[zG M];exact zB,g2,g3⟩ (by rw[zG fP.symm,zG cP.symm];exact zB) (λp K=>?_) keep⟩;rcases Jr.mp K with O|is
  ·obtain⟨R,T,t',v,G,F⟩:=tok p O
   exact⟨R,T,t',keep _ _ v (yD v w (λy=>by cases y)),G,F⟩
  ·rw[Ja.mp is]
   exact⟨j,fs,t,by rw[zG M];exact zB,g2,g3⟩
 ·obtain⟨j,fs,t,v,G,F⟩:=tok p K
  refine PySem.W.kla_makeFunctionHit A I.ok.glob Y i C E (by rw[List.toList_toArray];exact wo l) (by rw[List.toList_toArray];exact hy) Z λf h' tk k sz=>?_;have kk:∀ b o,s.heap.get? b=some o->(h'.push (nH ⟨params,body,scope,X.env.qual++"<lambda>"⟩ cl ((X.mg "__name__").getD .none) p.2 f)).get? b=some o:=λb o e=>J6 _ (k b o e);have g:=I.hok.fresh (a:=h'.objs.size) sz;have D:=I.laid (a:=h'.objs.size) (o:=FZ (nH ⟨params,body,scope,X.env.qual++"<lambda>"⟩ cl ((X.mg "__name__").getD .none) p.2 f)) (t':=tk) kk sz (nM (Jp _ rfl));refine⟨.ref h'.objs.size,_,D,rfl,q _ cl l _ m z g ⟨_,p.2,f,j,fs,t,zB,by rw[zG (zE v g)];exact v,G,F⟩ (by rw[zG (zE w g)];exact w) (tok.frz λb o u e=>by rw[zG (zE e g)];exact e) λb o e _=>by rw[zG (zE e g)];exact e⟩
end
noncomputable def CellsAt (H:Hp)(cs:List (Str × JI))(vals:List V):Prop:=cs.length=vals.length/\∀ (i:Nat) x c v,cs[i]?=some (x,c)->vals[i]?=some v->∃ o u,H c=some (FZ o)/\o.data=.cell (some u)/\RelV v u
theorem CellsAt.fz {H:Hp}{cs:List (Str × JI)}{vals:List V}(h:CellsAt H cs vals):CellsFz cs H:=λb j=>by
 obtain⟨⟨x,c⟩,g,rfl⟩:=Jw.mp j;obtain⟨i,a,e⟩:=YT.mp g;have f:i<vals.length:=by rw[<- h.1];exact a
 obtain⟨o,u,d,_⟩:=h.2 i x c vals[i] (by rw[J8 a,e]) (J8 f);exact⟨o,d⟩
theorem LamRaw.at_ {H:Hp}{f:JI}{L:Lam}{cl cs:List (Str × JI)}{vals ws:List V}(r:LamRaw H f L cl)(h:CellsAt H cs vals)(n1:(cl.map (·.1)).Nodup)(d:(cl.map (·.2)).Nodup)(len:cl.length=ws.length)(sub:∀ (i:Nat) x c v,cl[i]?=some (x,c)->ws[i]?=some v->∃ j:Nat,cs[j]?=some (x,c)/\vals[j]?=some v):LamAt H f L cl ws:=by
 refine⟨r.ex,len,λi x c v a b=>?_,n1,d⟩;obtain⟨j,e,e2⟩:=sub i x c v a b;exact h.2 j x c v e e2
noncomputable def aI (env:Env)(xs:List (Str × Nat))(sp:Sp)(E:XK)(t:TA):TE:=λσ H Q=>t σ H λd c=>∃ vals:List V,vals.length=xs.length/\(∀ (j:Nat) x i v,xs[j]?=some (x,i)->vals[j]?=some v->σ[i]?=some (some v)) /\
 ∀ cs a,cs.map (·.1)=xs.map (·.1)->CellsOf env cs->(cs.map (·.2)).Nodup->CellsAt a cs vals->(∀ b,b∉cs.map (·.2)->a b=c b)->(∀ b∈cs.map (·.2),c b=none)->sp d a (λv e=>Q v (strip cs e)) E
section
variable {X:Cx}{pins:List (JI × Obj)}{σ:St}{H:Hp}{s:JO}
theorem Inv.cells {xs:List (Str × Nat)}{vals:List V}(I:Inv X pins σ H s)(nd:(xs.map (·.1)).Nodup)(y:∀ p∈xs,X.N[p.2]?=some p.1/\X.env.scope.names.lookup p.1=some .cell/\X.fn p.1=true)(n:vals.length=xs.length)(k:∀ (j:Nat) x i v,xs[j]?=some (x,i)->vals[j]?=some v->σ[i]?=some (some v)):∃ cs:List (Str × JI),cs.map (·.1)=xs.map (·.1)/\CellsOf X.env cs/\(cs.map (·.2)).Nodup/\cs.length=vals.length /\
   ∀ (j:Nat) x c v,cs[j]?=some (x,c)->vals[j]?=some v->∃ o u,s.heap.get? c=some o/\o.data=.cell (some u)/\RelV v u/\X.s₀.heap.objs.size<=c:=by
 induction xs generalizing vals with
 | nil =>
  cases vals with
  | nil=>exact⟨[],rfl,λp K=>(Jv K).elim,Yx,rfl,λj x c v h=>by cases h⟩
  | cons a b=>cases n
 | cons p xs ih =>
  cases vals with
  | nil=>cases n
  | cons t vals =>
   rw[JR,JP]at nd;obtain⟨cs,B,A,Q,P,O⟩:=ih (vals:=vals) nd.2 (λq f=>y q (.tail _ f)) (by simpa using n) (λj x i v a b=>k (j+1) x i v a b);obtain⟨d,l⟩:=p;obtain⟨G,w,F⟩:=y (d,l) (.head _);have J:=k 0 d l t rfl rfl;obtain⟨m,S,lo⟩:=I.loc;obtain⟨u,C,D⟩:=lo l d t G J (.inr (.inl w));rcases D with ⟨E,_⟩|⟨_,c,r,o,L,N⟩
   ·have g:X.env.scope.names.lookup d=some .local:=E
    rw[w]at g;cases g
   refine⟨(d,c)::cs,by rw[JR,JR,B],λq f=>?_,?_,by rw[JM,JM,P],λj x R v a b=>?_⟩
   ·rcases Jq.mp f with rfl|z
    ·exact r
    ·exact A q z
   ·rw[JR,JP]
    refine⟨λM=>?_,Q⟩;obtain⟨q,f,e⟩:=Jw.mp M;have:=I.ok.inj q.1 d c (by rw[A q f];exact JQ some e) r;exact nd.1 (by rw[<- B,<- this];exact Jw.mpr ⟨q,f,rfl⟩)
   ·cases j with
    | zero =>
     cases Jf a;cases Jf b
     exact⟨o,u,L,N,C,I.ok.cab d c F r⟩
    | succ j=>exact O j x R v a b
variable {k:Nat}{f:JI}{fd:Yl}{ps:List Str}{sp:Sp}{x:Str}{p pos:Pos}{e:Expr}{es:List Expr}{t:TA}{E:XK}
theorem oS (F:FnOk X.prog X.w X.K X.mg X.base CX0 k f fd ps sp) (hr:Room k X.A) (hg:Gl X x) (hm:X.mg x=some (.ref f)) (T:PySem.W.keepIn X.K (.ref f)=true) (hb:Binds X.K fd ps []) (xs:List (Str × Nat)) (nd:(xs.map (·.1)).Nodup)
  (hk:∀ p∈xs,X.N[p.2]?=some p.1/\X.env.scope.names.lookup p.1=some .cell/\X.fn p.1=true) (ha:PA X (e::es) t) (U:(x == ("__debug__":Str))=false:=by decide) (he:starEach (e::es) X.env=(false,eval e X.env)::starEach es X.env:=by rfl) (S:(backTo pos (starEach es X.env)).any (·.1)=false:=by rfl) :
  PE X (.Call (.Name x p) (e::es) [] pos) (aI X.env xs sp E t):=by
 intro pins s σ H Q I h;refine Zf (kW I hg hm ?_ U);refine PySem.W.callWith_K (h₀:=X.base) I.ok.mod.kin T (thn (ha pos pins s σ H _ I h) λM m ⟨vs,K,l,r,vals,vl,R,q⟩=>⟨l.kIn,?_⟩) he S;obtain⟨cs,c1,c2,c3,Z,Y⟩:=l.cells nd hk vl R
 have cell:∀ b∈cs.map (·.2),∃ y o u,X.env.cells.lookup y=some b/\m.heap.get? b=some o/\o.data=.cell (some u)/\X.s₀.heap.objs.size<=b:=λb hb=>by
  obtain⟨⟨y,c⟩,D,rfl⟩:=Jw.mp hb;obtain⟨j,W,ej⟩:=YT.mp D;have jv:j<vals.length:=by rw[<- Z];exact W
  obtain⟨o,u,G,N,_,g4⟩:=Y j y c vals[j] (by rw[J8 W,ej]) (J8 jv);exact⟨y,o,u,c2 (y,c) D,G,N,g4⟩
 have free:∀ b∈cs.map (·.2),K b=none:=λb hb=>by
  obtain⟨y,o,u,O,_⟩:=cell b hb;exact l.freeC y b O
 have nofr:∀ b∈cs.map (·.2),b∉frs X.stack:=λb hb hf=>by
  obtain⟨y,o,u,O,_,_,lo⟩:=cell b hb;rcases Jq.mp (l.stkSub b hf) with z|z
  ·exact l.cne y b O z
  ·obtain⟨_,o',ho,_⟩:=l.ok.funs.mem z
   exact absurd (JJ (Jn ho) lo) (YE _)
 let B:Hp:=λb=>if b∈cs.map (·.2) then (m.heap.get? b).map FZ else K b
 have C:∀ {b:JI}{o:Obj},b∈cs.map (·.2)->m.heap.get? b=some o->B b=some (FZ o):=λ{b o} hb e=>by
  show (if b∈cs.map (·.2) then (m.heap.get? b).map FZ else K b)=_;rw[Jm hb,e];rfl
 have d:∀ b,b∉cs.map (·.2)->B b=K b:=λb hb=>Je hb
 have g:∀ {b:JI}{o:HO},K b=some o->B b=some o:=λ{b o} e=>by
  rw[d b λhb=>by rw[free b hb]at e;cases e];exact e
 have ca:CellsAt B cs vals:=⟨Z,λi y c v a b=>by
  obtain⟨o,u,G,N,g3,_⟩:=Y i y c v a b
  exact⟨o,u,C (Jw.mpr ⟨_,JF a,rfl⟩) G,N,g3⟩⟩
 have P:HOk X.prog X.w B m.heap:=λb u e2=>by
  by_cases hb:b∈cs.map (·.2)
  ·obtain⟨y,o,u',_,G,_⟩:=cell b hb
   rw[C hb G]at e2;cases e2;exact nM G
  ·rw[d b hb]at e2
   exact(l.hok b u e2).stay (λ_ _ _ z=>z) (λ_ z=>g z) λ_ _ z=>g z
 have A:=l.env0;have e2:Env0 X.prog X.w X.K X.mg X.base X.A X.stack m B:=⟨A.frames,A.mod,λb o z=>⟨(A.bs b o z).1,?_⟩,A.bsz,A.funs,λb hb=>?_,P,A.bare⟩
 rotate_left
 ·rw[d b λD=>?_];· exact(A.bs b o z).2
  ·obtain⟨y,o',u,_,_,_,lo⟩:=cell b D
   exact absurd (JJ (Jn z) (JS l.ok.bsz lo)) (YE _)
 ·rw[d b λD=>nofr b D hb];exact A.frf b hb
 have z:=q cs B c1 c2 c3 ca d free;have ul:M.length=ps.length:=by rw[<- r.length];exact F.len _ _ _ _ z
 refine wpAny_call (codeAny_mono (F.run X.A X.stack m B ⟨M,[]⟩ M vs _ E hr e2 (by have:=hb m M l.kIn (by rw[JZ];exact ul);rwa [JZ]at this) r z) λrs s' J=>?_)
 cases rs with
 | error e=>exact J.elim
 | ok fl =>
  cases fl with
  | next=>exact False.elim J
  | brk=>exact False.elim J
  | cont=>exact False.elim J
  | ret u =>
   obtain⟨v,H3,os,bare,un,L,rv,qq⟩:=J
   have V:CellsFz cs H3:=λb hb=>by
    obtain⟨o,w⟩:=ca.fz b hb;exact⟨o,un.frzs b o _ w⟩
   have same:∀ b∈cs.map (·.2),∀ o,m.heap.get? b=some o->s'.heap.get? b=some o:=λb hb o e=>by
    have:=un.frzs b o _ (C hb e);exact(L b _ this).1
   refine l.after ⟨v,strip cs H3,os,bare,⟨λb o e n x y=>?_,λb o e n x y=>?_,λb o e n y=>?_,un.there,λb ys e=>?_,λb o w e=>?_,λb qs e=>?_⟩,qA L V,rv,qq⟩
   ·by_cases hb:b∈cs.map (·.2)
    ·exact same b hb o e
    ·exact un.keep b o e (by rw[d b hb];exact n) x y
   ·by_cases hb:b∈cs.map (·.2)
    ·exact⟨o.slots,same b hb o e⟩
    ·exact un.slot b o e (by rw[d b hb];exact n) x y
   ·by_cases hb:b∈cs.map (·.2)
    ·exact wE hb
    ·rw[zv hb];exact un.free b o e (by rw[d b hb];exact n) y
   ·have hb:b∉cs.map (·.2):=λhb=>by rw[free b hb]at e;cases e
    rw[zv hb];exact un.tups b ys (g e)
   ·have hb:b∉cs.map (·.2):=λhb=>by rw[free b hb]at e;cases e
    rw[zv hb];exact un.frzs b o w (g e)
   ·have hb:b∉cs.map (·.2):=λhb=>by rw[free b hb]at e;cases e
    rw[zv hb];exact un.tbls b qs (g e)
end
noncomputable def za6 (cl:List (Str × JI))(H:Hp)(Q:VK):VK:=λv a=>(∀ b∈cl.map (·.2),a b=none)->Q v (back cl H a)
section
variable {CX:CXT}{P:Yo}{w:YI}{K:Jl}{mg:Str->Option Jo}{base:YP}{L:Lam}{cl:List (Str × JI)}{vals vs:List V}{ps:List Str}{f c:JI}{A:YO}{outer:List Env}{s:JO}{H:Hp}{us:List Jo}{Q:VK}{E:XK}
theorem eO {k:Nat}(S:LamScope ps (cl.map (·.1)) L.scope) (i:Room (k+1) A) (a:Env0 P w K mg base A outer s H) (la:LamAt H f L cl vals) (r:Vals vs us) (j:vs.length=ps.length)
  (hb:∀ pm cdv ct,bindArgs (PySem.W.kla_fn "<lambda>" L.qual L.params L.body L.scope cl pm cdv ct) ⟨us,[]⟩=pure (ps.zip us))
  (d:∀ c,Room k (A.deeper (lR L cl s.heap.objs.size f c))->∃ t,PE (dU CX P w K mg base (ps++cl.map (·.1)) L cl f c A outer s H E) L.body t/\t ((vs++vals).map some) (strip cl H) (za6 cl H Q)) :
  codeAny (model P w) A (.call (.ref f) ⟨us,[]⟩) (CR CX outer P w H s Q E) s:=by
 obtain⟨pm,c,ct,B,fs,m,O,N,M,G⟩:=la.ex;have lim:s.heap.NoLimit:=a.mod.nolimit.keeps λb o e=>(a.bs b o e).1;have ul:us.length=ps.length:=by rw[<- r.length];exact j
 refine PySem.W.kla_callFunE i.depth (a.hok f _ O).1 rfl S.co S.gen rfl ⟨c,B,fs,m,rfl,(a.hok c _ N).1,M,G⟩ ?_;rw[show bindArgs _ _=_ from hb pm (.ref c) ct];refine J7 (wpAny_newFunctionEnv S.noc (λy C=>S.par y.1 (List.of_mem_zip C).1) (λR ns n=>?_) S.kind);have kp:∀ b o,s.heap.get? b=some o->R.get? b=some o:=λb o e=>(n.2 b (JB (Jn e))).trans (J6 _ e);refine⟨lim.keeps kp,PySem.W.kla_codeExpr ?_⟩;obtain⟨t,D,F⟩:=d c (i.deeper _);have I:=bI (CX:=CX) (E:=E) (c:=c) (tk:=s.toks+(ps.zip us).length) S i.hd a la r j ns kp;refine JK (D [] _ _ _ _ I F) (λu p h=>?_) λe p h=>h;obtain⟨v,l,J,x,q⟩:=h;have g:=la.fz
 have low:∀ b∈cl.map (·.2),l b=none:=λb hb=>by
  obtain⟨o,z⟩:=g b hb;exact J.base.free b o (a.hok b _ z).1 (wE hb) Jv
 obtain⟨un,ok⟩:=di (H':=l) J.base g a.frf (λb o z=>(a.hok b _ z).1) low J.hok;exact⟨v,_,J.os,J.bare,un,ok,x,q low⟩
end
noncomputable abbrev LSpc:=List V->List V->Hp->VK->XK->Prop
structure LamQ (CX:CXT) (P:Yo) (w:YI) (K:Jl) (mg:Str->Option Jo) (base:YP) (k:Nat) (L:Lam) (fr ps:List Str) (sp:LSpc):Prop where
 S:LamScope ps fr L.scope
 len:∀ vals vs H Q E,sp vals vs H Q E->vs.length=ps.length
 bind:∀ (cl:List (Str × JI)) (us:List Jo),us.length=ps.length->∀ pm cdv ct,bindArgs (PySem.W.kla_fn "<lambda>" L.qual L.params L.body L.scope cl pm cdv ct) ⟨us,[]⟩=pure (ps.zip us)
 body:∀ (cl:List (Str × JI)) (f c:JI) (A:YO) (outer:List Env) (s:JO) (H:Hp) (vals vs:List V) (Q:VK) (E:XK),cl.map (·.1)=fr->Room k (A.deeper (lR L cl s.heap.objs.size f c))->CellsFz cl H->sp vals vs (strip cl H) Q E ->
  ∃ t,PE (dU CX P w K mg base (ps++fr) L cl f c A outer s H E) L.body t/\t ((vs++vals).map some) (strip cl H) Q
noncomputable def zaN (L:Lam)(fr:List Str)(sp:LSpc)(E:XK)(i:Nat)(t:TA):TE:=λσ H Q=>∃ f,σ[i]?=some (some (.ref f))/\(∃ cl pm c d,H f=some (FZ (nH L cl pm c d)))/\t σ H λb a=>∃ cl vals,cl.map (·.1)=fr/\LamAt a f L cl vals/\sp vals b (strip cl a) (za6 cl a Q) E
section
variable {X:Cx}{CX:CXT}{k:Nat}{L:Lam}{fr ps:List Str}{sp:LSpc}{E:XK}{x:Str}{i:Nat}{p pos:Pos}{e:Expr}{es:List Expr}{t:TA}
theorem qr (F:LamQ CX X.prog X.w X.K X.mg X.base k L fr ps sp)(O:Room (k+1) X.A)(S:PE X (.Name x p) (gG i))(M:Passes CX X E)(ha:PA X (e::es) t)(R:starEach (e::es) X.env=(false,eval e X.env)::starEach es X.env:=by rfl)(m:(backTo pos (starEach es X.env)).any (·.1)=false:=by rfl) :
  PE X (.Call (.Name x p) (e::es) [] pos) (zaN L fr sp E i t):=by
 intro pins s σ H Q I h;obtain⟨f,P,⟨ax,ab,c0,ao,n⟩,q⟩:=h;refine Zf (thn (S pins s σ H (λv Z=>v=.ref f/\Z=H) I ⟨_,P,rfl,rfl⟩) λg G ⟨v,Y,A,K,ev,U⟩=>?_);subst ev U;obtain rfl:g=.ref f:=K;refine PySem.W.callWith_F ⟨_,_,_,_,(A.hok f _ n).1⟩ ?_ R m;refine thn (ha pos pins G σ Y _ A q) λo w ⟨C,B,b,r,cl,vals,j,d,z⟩=>?_;obtain⟨pm,c,ct,oc,fs,tc,T,h2,h3,h4⟩:=d.ex;have y:=F.len _ _ _ _ _ z;have ul:o.length=ps.length:=by rw[<- r.length];exact y
 have W:LamScope ps (cl.map (·.1)) L.scope:=by rw[j];exact F.S
 refine⟨⟨_,_,_,_,(b.hok f _ T).1⟩,?_⟩;refine wpAny_call (codeAny_mono (eO (CX:=CX) (E:=E) (Q:=Q) W O b.env0 d r y (F.bind cl o ul) λV l=>?_) λrs J a=>?_)
 ·obtain⟨D,N,a⟩:=F.body cl f V X.A X.stack w B vals C _ E j l d.fz z
  exact⟨D,by rw[j];exact N,a⟩
 ·cases rs with
  | error e=>exact M pins σ B w e J b a
  | ok fl =>
   cases fl with
   | ret u=>exact b.after a
   | next=>exact False.elim a
   | brk=>exact False.elim a
   | cont=>exact False.elim a
end
noncomputable abbrev LvL:=List (KN × List Int)
noncomputable def zU (ps:LvL)(k:KN):Option (List Int):=(ps.find? λx=>decide (x.1=k)).map (·.2)
noncomputable def xW (ps:LvL)(k:KN)(c:List Int):LvL:=if (zU ps k).isSome then ps.map λx=>if x.1=k then (x.1,c) else x else ps++[(k,c)]
noncomputable def zp (c:List Int)(m:Nat):List Int:=Bn.df c m 1
structure LAcc where
 on:LvL
 fl:List (List Int)
section
variable (step:KN->Nat->Option KN)(seen:LvL)
noncomputable def go1 (s:KN)(c:List Int)(a:LAcc)(m:Nat):LAcc :=
 match step s m with
 | none=>⟨a.on,a.fl++[zp c m]⟩
 | some t=>if (zU seen t).isSome then a else ⟨xW a.on t (yn (zp c m) ((zU a.on t).getD (zp c m))),a.fl⟩
noncomputable def goS (moves:List Nat)(a:LAcc)(p:KN × List Int):LAcc:=moves.foldl (go1 step seen p.1 p.2) a
noncomputable def yL (moves:List Nat)(level:LvL):LAcc:=level.foldl (goS step seen moves) ⟨[],[]⟩
end
inductive LRes
 | opn
 | brk (c:List Int)
 | whl (ls:List LvL)
noncomputable def ya (step:KN->Nat->Option KN)(moves:List Nat)(most:Nat):Nat->LvL->LvL->List LvL->LRes
 | 0,_,_,_=>.opn
 | n+1,level,seen,ls =>
  if level=[] then .whl ls else
  if most<seen.length+level.length then .opn else
  if (yL step (seen++level) moves level).fl≠[] then .brk (iG (yL step (seen++level) moves level).fl) else
  ya step moves most n (yL step (seen++level) moves level).on (seen++level) (ls++[level])
noncomputable def LvX (H:Hp)(x:KN × JI × V)(p:KN × List Int):Prop:=x.1=p.1/\∃ c,x.2.2=.ref c/\H c=some (.tup (p.2.map V.int))
structure LvE (H:Hp) (xs:KVN) (ps:LvL):Prop where
 ks:KsIn H xs
 pr:Paired (LvX H) xs ps
theorem yw {α β:Type}{F G:α->β->Prop}(h:∀ a b,F a b->G a b){l1:List α}{l2:List β}(p:Paired F l1 l2):Paired G l1 l2:=by
 induction p with
 | nil=>exact .nil
 | cons a _ ih=>exact .cons (h _ _ a) ih
theorem LvX.tups {H H':Hp}(t:∀ b ys,H b=some (.tup ys)->H' b=some (.tup ys)){x:KN × JI × V}{p:KN × List Int}(h:LvX H x p):LvX H' x p:=by
 obtain⟨e,c,e2,a⟩:=h;exact⟨e,c,e2,t _ _ a⟩
theorem LvE.tups {H H':Hp}(t:∀ b ys,H b=some (.tup ys)->H' b=some (.tup ys)){xs:KVN}{ps:LvL}(h:LvE H xs ps):LvE H' xs ps:=⟨h.ks.tups t,yw (λ_ _ z=>z.tups t) h.pr⟩
theorem LvE.keep {H H':Hp}(s:Same H H'){xs:KVN}{ps:LvL}(h:LvE H xs ps):LvE H' xs ps:=h.tups λb a e=>s _ _ e
theorem LvE.nil {H:Hp}:LvE H [] []:=⟨λx a=>(nomatch a),.nil⟩
theorem LvE.len {H:Hp}{xs:KVN}{ps:LvL}(h:LvE H xs ps):xs.length=ps.length:=JU h.pr
theorem pA {H:Hp}{xs:KVN}{ps:LvL}(h:Paired (LvX H) xs ps)(k:KN):(yg xs k=none/\zU ps k=none)\/∃ c r,yg xs k=some (.ref c)/\zU ps k=some r/\H c=some (.tup (r.map V.int)):=by
 induction h with
 | nil=>exact Or.inl (And.intro rfl rfl)
 | @cons x p xs ps a t ih =>
  obtain⟨e,c,e2,b⟩:=a;unfold yg zU at ih ⊢;rw[YB,YB,e];by_cases z:p.1=k
  ·rw[Jt z]
   exact .inr ⟨c,p.2,JQ some e2,rfl,b⟩
  ·rw[Jj z]
   exact ih
theorem re {H:Hp}{xs:KVN}{ps:LvL}(h:Paired (LvX H) xs ps)(k:KN):(yg xs k).isSome=(zU ps k).isSome:=by
 rcases pA h k with ⟨a,b⟩|⟨c,r,a,b,_⟩<;>rw[a,b]<;>rfl
theorem zag {H:Hp}{xs:KVN}{ps:LvL}(h:Paired (LvX H) xs ps)(k:KN){c:JI}{r:List Int}(b:H c=some (.tup (r.map V.int))):Paired (LvX H) (xs.map λx=>if x.1=k then (x.1,x.2.1,.ref c) else x) (ps.map λx=>if x.1=k then (x.1,r) else x):=by
 induction h with
 | nil=>exact .nil
 | @cons x p xs ps a t ih =>
  refine .cons ?_ ih;dsimp only;by_cases z:p.1=k
  ·rw[Jm (a.1.trans z),Jm z];exact⟨a.1,c,rfl,b⟩
  ·rw[Je (λy=>z (a.1.symm.trans y)),Je z];exact a
theorem LvE.put {H:Hp}{xs:KVN}{ps:LvL}(h:LvE H xs ps){k:KN}{b c:JI}{r:List Int}(f:NKey H k b)(d:H c=some (.tup (r.map V.int))):LvE H (yu xs k b (.ref c)) (xW ps k r):=by
 unfold yu xW;rw[re h.pr k];by_cases z:(zU ps k).isSome=true
 ·rw[Jm z,Jm z]
  refine⟨λx a=>?_,zag h.pr k d⟩;obtain⟨y,e,rfl⟩:=Jw.mp a;have:=h.ks y e;split<;>exact this
 ·rw[Je z,Je z]
  refine⟨λx a=>?_,Ze h.pr ⟨rfl,c,rfl,d⟩⟩;rcases Jr.mp a with y|y
  ·exact h.ks x y
  ·rw[Ja.mp y];exact f
theorem wv {α β:Type}{F:α->β->Prop}{a1:List α}{b1:List β}(p:Paired F a1 b1){a2:List α}{b2:List β}(q:Paired F a2 b2):Paired F (a1++a2) (b1++b2):=by
 induction p with
 | nil=>exact q
 | cons a _ ih=>exact .cons a ih
theorem LvE.app {H:Hp}{xs ys:KVN}{ps a:LvL}(h:LvE H xs ps)(g:LvE H ys a):LvE H (xs++ys) (ps++a):=⟨λx b=>by
 rcases Jr.mp b with y|y
 ·exact h.ks x y
 ·exact g.ks x y,wv h.pr g.pr⟩
theorem LvE.at_ {H:Hp}{xs:KVN}{ps:LvL}(h:LvE H xs ps){i:Nat}{p:KN × JI × V}(e:xs[i]?=some p):∃ r c,ps[i]?=some (p.1,r)/\NKey H p.1 p.2.1/\p.2.2=.ref c/\H c=some (.tup (r.map V.int)):=by
 have key:∀ {xs:KVN}{ps:LvL},Paired (LvX H) xs ps->∀ {i:Nat}{p:KN × JI × V},xs[i]?=some p->∃ q,ps[i]?=some q/\LvX H p q:=by
  intro xs ps r
  induction r with
  | nil=>intro i p h;cases h
  | cons q t ih =>
   intro i p h
   cases i with
   | zero=>cases Jf h;exact⟨_,rfl,q⟩
   | succ i=>exact ih h
 obtain⟨q,e2,d,c,b,a⟩:=key h.pr e;refine⟨q.2,c,?_,h.ks p (JF e),b,a⟩;rw[e2,d]
theorem qB {ps:LvL}{k:KN}:zU ps k=none↔∀ p∈ps,p.1≠k:=by
 unfold zU;rw[Option.map_eq_none_iff,List.find?_eq_none];constructor
 ·intro h p a e;exact h p a (Jt e)
 ·intro h p a e;exact h p a (Yq e)
theorem yp {ps:LvL}{k:KN}{r:List Int}(h:zU ps k=some r):(k,r)∈ps:=by
 unfold zU at h;obtain⟨p,a,e⟩:=JX.mp h;have d:=List.mem_of_find?_eq_some a;have b:=List.find?_some (p:=λx:KN × List Int=>decide (x.1=k)) a;have c:=Yq b;rw[<- c,<- e];exact d
theorem xq {ps:LvL}{k:KN}(h:(zU ps k).isSome=true):∃ r,(k,r)∈ps:=by
 obtain⟨r,e⟩:=ZD.mp h;exact⟨r,yp e⟩
theorem xt {ps:LvL}{k:KN}{r:List Int}(h:(k,r)∈ps):(zU ps k).isSome=true:=by
 cases e:zU ps k with
 | some r=>rfl
 | none=>exact absurd rfl (qB.mp e _ h)
theorem xT (a b:LvL)(k:KN):(zU (a++b) k).isSome=((zU a k).isSome || (zU b k).isSome):=by
 rw[Yd,W8];constructor
 ·intro h
  obtain⟨r,c⟩:=xq h;rcases Jr.mp c with y|y
  ·exact .inl (xt y)
  ·exact .inr (xt y)
 ·rintro (h|h)
  ·obtain⟨r,c⟩:=xq h;exact xt (JT _ c)
  ·obtain⟨r,c⟩:=xq h;exact xt (Js _ c)
noncomputable def LvNd (ps:LvL):Prop:=(ps.map (·.1)).Nodup
theorem jc (ps:LvL)(k:KN)(r:List Int):(xW ps k r).map (·.1)=if (zU ps k).isSome then ps.map (·.1) else ps.map (·.1)++[k]:=by
 unfold xW;split
 ·rw[YA]
  refine ZB λx a=>?_;show (if x.1=k then (x.1,r) else x).1=x.1;split<;>rfl
 ·rw[JG];rfl
theorem LvNd.put {ps:LvL}(h:LvNd ps)(k:KN)(r:List Int):LvNd (xW ps k r):=by
 unfold LvNd;rw[jc];split
 ·exact h
 ·rename_i z
  refine ZP.mpr ⟨h,JP.mpr ⟨Jv,Yx⟩,λa f b d e=>?_⟩;rw[Ja.mp d]at e;obtain⟨p,c,rfl⟩:=Jw.mp f;exact z (xt (k:=k) (r:=p.2) (by rw[<- e];exact c))
theorem vN {ps:LvL}{k:KN}{r:List Int}{p:KN × List Int}(h:p∈xW ps k r):p∈ps\/p=(k,r):=by
 unfold xW at h;split at h
 ·obtain⟨x,a,rfl⟩:=Jw.mp h
  by_cases z:x.1=k
  ·rw[Jm z,z];exact .inr rfl
  ·rw[Je z];exact .inl a
 ·rcases Jr.mp h with y|y
  ·exact .inl y
  ·exact .inr (Ja.mp y)
theorem tO (ps:LvL)(k:KN)(r:List Int):(xW ps k r).length<=ps.length+1:=by
 unfold xW;split
 ·rw[Jc];lia
 ·rw[Jb];exact Jd _
theorem vw:∀ (ys xs:KVN),(ys.map (·.1)).Nodup->(∀ y∈ys,∀ x∈xs,x.1≠y.1)->yz xs ys=xs++ys
 | [],xs,_,_=>by rw[JZ];rfl
 | y::ys,xs,nd,ds=>by
  rw[JR,JP]at nd
  have e:yu xs y.1 y.2.1 y.2.2=xs++[y]:=by
   unfold yu
   have:yg xs y.1=none:=by
    unfold yg;rw[Option.map_eq_none_iff,List.find?_eq_none];exact λx a z=>ds y (.head _) x a (Yq z)
   rw[this];rfl
  show List.foldl _ (yu xs y.1 y.2.1 y.2.2) ys=_;rw[e]
  have:=vw ys (xs++[y]) nd.2 λz b x a=>by
   rcases Jr.mp a with q|q
   ·exact ds z (.tail _ b) x q
   ·rw[Ja.mp q]
    exact λe=>nd.1 (Jw.mpr ⟨z,b,e.symm⟩)
  rw[show List.foldl (λacc y=>yu acc y.1 y.2.1 y.2.2) (xs++[y]) ys=yz (xs++[y]) ys from rfl,this,JW];rfl
theorem vU {H:Hp}{xs:KVN}{ps:LvL}(h:Paired (LvX H) xs ps):xs.map (·.1)=ps.map (·.1):=by
 induction h with
 | nil=>rfl
 | cons a _ ih=>rw[JR,JR,ih,a.1]
theorem LvE.merge {H:Hp}{xs ys:KVN}{ps a:LvL}(h:LvE H xs ps)(g:LvE H ys a)(nd:LvNd a)(ds:∀ q∈a,zU ps q.1=none):yz xs ys=xs++ys:=by
 refine vw ys xs (by rw[vU g.pr];exact nd) λy d x f e=>?_;have c:y.1∈a.map (·.1):=by rw[<- vU g.pr];exact Jw.mpr ⟨y,d,rfl⟩
 obtain⟨q,i,eq⟩:=Jw.mp c;have b:x.1∈ps.map (·.1):=by rw[<- vU h.pr];exact Jw.mpr ⟨x,f,rfl⟩
 obtain⟨p,j,k⟩:=Jw.mp b;exact qB.mp (ds q i) p j (k.trans (e.trans eq.symm))
end L2
namespace L2
open PySem PySem.Spec PyProof.Rows Own Bn
theorem Room.u3 {k:Nat}{A:YO}(r:Room k A):A.units+3<cLine:=by have:=r.un;lia
noncomputable def RowsAt (H:Hp)(as:List JI)(rs:List (List Int)):Prop:=Paired (λa r=>H a=some (.tup (r.map V.int))) as rs
theorem RowsAt.tups {H H':Hp}(t:Tups H H'){as:List JI}{rs:List (List Int)}(h:RowsAt H as rs):RowsAt H' as rs:=yw (λ_ _ e=>t _ _ e) h
structure AccOk (n m:Nat) (a:LAcc):Prop where
 on:∀ p∈a.on,p.2.length=n
 fl:∀ r∈a.fl,r.length=n
 few:a.on.length+a.fl.length<=m
theorem xk (c:List Int)(m:Nat):(zp c m).length=c.length:=by unfold zp df;rw[List.length_set]
theorem uo (x y:List Int):yn x y=x\/yn x y=y:=by unfold yn;split<;>simp
theorem AccOk.go {step:KN->Nat->Option KN}{seen:LvL}{s:KN}{c:List Int}{a:LAcc}{n m k:Nat}(h:AccOk n m a)(i:c.length=n):AccOk n (m+1) (go1 step seen s c a k):=by
 have b:(zp c k).length=n:=by rw[xk,i]
 have l:=h.few;unfold go1;split
 ·refine⟨h.on,λr d=>?_,by show a.on.length+(a.fl++[zp c k]).length<=_;rw[Jb];show _+(_+1)<=_;lia⟩
  rcases Jr.mp d with z|z
  ·exact h.fl r z
  ·rw[Ja.mp z];exact b
 ·rename_i t j
  split
  ·exact⟨h.on,h.fl,by lia⟩
  ·refine⟨λp f=>?_,h.fl,by have:=tO a.on t (yn (zp c k) ((zU a.on t).getD (zp c k)));show (xW a.on t _).length+a.fl.length<=_;lia⟩
   rcases vN f with z|z
   ·exact h.on p z
   ·rw[z]
    show (yn _ _).length=n;rcases uo (zp c k) ((zU a.on t).getD (zp c k)) with e|e
    ·rw[e];exact b
    ·rw[e]
     cases g:zU a.on t with
     | none=>exact b
     | some r=>exact h.on _ (yp g)
theorem AccOk.row {step:KN->Nat->Option KN}{seen:LvL}{s:KN}{c:List Int}{n:Nat}(b:c.length=n):∀ (moves:List Nat) {a:LAcc}{m:Nat},AccOk n m a->AccOk n (m+moves.length) (moves.foldl (go1 step seen s c) a)
 | [],a,m,h=>h
 | k::r,a,m,h=>by
  have:=AccOk.row (step:=step) (seen:=seen) (s:=s) (c:=c) b r (h.go (step:=step) (seen:=seen) (s:=s) (k:=k) b);rw[JM,show m+(r.length+1)=m+1+r.length by lia];exact this
theorem AccOk.lev {step:KN->Nat->Option KN}{seen:LvL}{n:Nat}{moves:List Nat}:∀ (level:LvL) {a:LAcc}{m:Nat},(∀ p∈level,p.2.length=n)->AccOk n m a->AccOk n (m+level.length*moves.length) (level.foldl (goS step seen moves) a)
 | [],a,m,_,h=>by rw[Zj,Nat.zero_mul];exact h
 | p::r,a,m,b,h=>by
  have:=AccOk.lev (step:=step) (seen:=seen) (moves:=moves) r (λq c=>b q (.tail _ c)) (AccOk.row (step:=step) (seen:=seen) (s:=p.1) (b p (.head _)) moves h);rw[JM,W7,Nat.one_mul,show m+(r.length*moves.length+moves.length)=m+moves.length+r.length*moves.length by lia];exact this
noncomputable def Led (lsp:LSpc)(vals:List V)(step:KN->Nat->Option KN)(Ok:KN->Prop)(moves:List Nat)(H:Hp):Prop :=
 ∀ (c:Hp) (s:KN) (b:JI) (m:Nat) (Q:VK),Tups H c->Ok s->m∈moves->NKey c s b->(∀ a,Same c a->step s m=none->Q .non a)->(∀ a d t,Same c a->step s m=some t->NKey a t d->Q (.ref d) a)->lsp vals [.ref b,.int (m:Nat)] c Q E0
theorem Led.tups {lsp:LSpc}{vals:List V}{step:KN->Nat->Option KN}{Ok:KN->Prop}{moves:List Nat}{H H':Hp}(h:Led lsp vals step Ok moves H)(t:Tups H H'):Led lsp vals step Ok moves H':=λc s b m Q a=>h c s b m Q (t.trans a)
theorem x4 {H:Hp}{cl:List (Str × JI)}(fz:CellsFz cl H):Tups H (strip cl H):=λa c e=>by
 rw[zv]
 ·exact e
 ·intro b
  obtain⟨o,q⟩:=fz a b;rw[e]at q;cases q
theorem xj {H a:Hp}{cl:List (Str × JI)}(s:Same (strip cl H) a):Same H (back cl H a):=λb o e=>by
 by_cases c:b∈cl.map (·.2)
 ·rw[pR c];exact e
 ·rw[xD c];exact s b o (by rw[zv c];exact e)
theorem rL {H a:Hp}{cl:List (Str × JI)}(low:∀ b∈cl.map (·.2),a b=none):Tups a (back cl H a):=λb d e=>by
 rw[xD]
 ·exact e
 ·intro c
  rw[low b c]at e;cases e
noncomputable def MvAt (K:Jl)(H:Hp)(a:JI)(xs:List V):Prop:=H a=some (.tup xs)\/∀ b,SqT K b a xs
theorem MvAt.tups {K:Jl}{H H':Hp}(t:Tups H H'){a:JI}{xs:List V}(h:MvAt K H a xs):MvAt K H' a xs:=h.imp (t _ _) id
theorem MvAt.sq {K:Jl}{H:Hp}{a:JI}{xs:List V}(h:MvAt K H a xs):SqT K H a xs:=h.elim SqT.of λz=>z H
structure Way (K:Jl) (H:Hp) (mv f:JI) (L:Lam) (fr:List Str) (lsp:LSpc) (cl:List (Str × JI)) (vals:List V) (step:KN->Nat->Option KN) (Ok:KN->Prop) (moves:List Nat) (n:Nat):Prop where
 mv:MvAt K H mv (moves.map λm=>V.int (m:Nat))
 fr:cl.map (·.1)=fr
 la:LamAt H f L cl vals
 ld:Led lsp vals step Ok moves H
 lt:∀ m∈moves,m<n
 ok:∀ s m t,Ok s->m∈moves->step s m=some t->Ok t
 n1:n<=1000
theorem Way.keep {K:Jl}{H H':Hp}{mv f:JI}{L:Lam}{fr:List Str}{lsp:LSpc}{cl:List (Str × JI)}{vals:List V}{step:KN->Nat->Option KN}{Ok:KN->Prop}{moves:List Nat}{n:Nat}(h:Way K H mv f L fr lsp cl vals step Ok moves n)(t:Tups H H')(z:∀ b o u,H b=some (.frz o u)->H' b=some (.frz o u)):Way K H' mv f L fr lsp cl vals step Ok moves n :=
 ⟨h.mv.tups t,h.fr,h.la.frz z,h.ld.tups t,h.lt,h.ok,h.n1⟩
noncomputable def mI (P:Yo)(w:YI)(K:Jl)(L:Lam)(fr:List Str)(lsp:LSpc):Sp:=λe H Q _=>∃ dl ds mv f d c level seen moves cl vals step Ok n,e=[.ref dl,.ref ds,.ref mv,.ref f]/\H dl=some (DN P w dl d)/\LvE H d level/\H ds=some (DN P w ds c)/\LvE H c seen/\dl≠ds /\
 Way K H mv f L fr lsp cl vals step Ok moves n/\(∀ p∈level,Ok p.1/\p.2.length=n)/\level.length*moves.length<=10000000 /\
 ∀ p o l b fs a,Same H a->H o=none->a p=some (.tup [.ref o,.ref l])->a o=some (DN P w o b)->LvE a b (yL step seen moves level).on->a l=some (.lst (fs.map V.ref))->RowsAt a fs (yL step seen moves level).fl->Q (.ref p) a
noncomputable def r0:V->Int
 | .int i=>i
 | _=>0
noncomputable def jZ (H:Hp):V->List Int
 | .ref a=>match H a with
  | some (.tup xs)=>xs.map r0
  | _=>[]
 | _=>[]
theorem vL {H:Hp}{a:JI}{r:List Int}(h:H a=some (.tup (r.map V.int))):jZ H (.ref a)=r:=by
 show (match H a with
  | some (.tup b)=>b.map r0
  | _=>[])=r
 rw[h];show (r.map V.int).map r0=r;rw[YA];exact List.map_id r
noncomputable def vX (H:Hp):V->V->Ordering:=λu v=>cmpR (jZ H u) (jZ H v)
theorem nq {H:Hp}:∀ {fs:List JI}{rs:List (List Int)}{a:JI}{r:List Int},RowsAt H fs rs->H a=some (.tup (r.map V.int))->∃ h,(fs.map V.ref).foldl (xZ (vX H)) (.ref a)=.ref h/\H h=some (.tup ((rs.foldl yn r).map V.int)):=by
 intro fs rs a r h
 induction h generalizing a r with
 | nil=>intro c;exact⟨a,rfl,c⟩
 | @cons b q fs rs d _ ih =>
  intro c;show ∃ h,(fs.map V.ref).foldl (xZ (vX H)) (xZ (vX H) (.ref a) (.ref b))=.ref h/\H h=some (.tup ((rs.foldl yn (yn r q)).map V.int));have e:vX H (.ref b) (.ref a)=cmpR q r:=by unfold vX;rw[vL c,vL d]
  unfold xZ yn;by_cases z:cmpR q r=.lt
  ·rw[Jm (e.trans z),Jm z];exact ih d
  ·rw[Je (λy=>z (e.symm.trans y)),Je z];exact ih c
theorem nr {H:Hp}{fs:List JI}{rs:List (List Int)}(h:RowsAt H fs rs)(ne:rs≠[]):∃ g,xU (vX H) (fs.map V.ref)=.ref g/\H g=some (.tup ((iG rs).map V.int)):=by
 cases h with
 | nil=>exact absurd rfl ne
 | cons a t=>exact nq t a
theorem qh {H:Hp}{n:Nat}{fs:List JI}{rs:List (List Int)}(h:RowsAt H fs rs)(f:∀ r∈rs,r.length=n):∀ x∈fs.map V.ref,∀ y∈fs.map V.ref,Lx H 1 x y (vX H x y):=by
 have at_:∀ {fs:List JI}{rs:List (List Int)},RowsAt H fs rs->∀ a∈fs,∃ r∈rs,H a=some (.tup (r.map V.int)):=by
  intro fs rs h
  induction h with
  | nil=>intro a c;cases c
  | cons p _ ih =>
   intro a c;rcases Jq.mp c with rfl|z
   ·exact⟨_,.head _,p⟩
   ·obtain⟨r,d,e⟩:=ih a z
    exact⟨r,.tail _ d,e⟩
 intro x j y i;obtain⟨a,c,rfl⟩:=Jw.mp j;obtain⟨b,bm,rfl⟩:=Jw.mp i;obtain⟨r,d,g⟩:=at_ h a c;obtain⟨q,k,e2⟩:=at_ h b bm;unfold vX;rw[vL g,vL e2];exact kR g e2 (by rw[f r d,f q k])
structure NewOk (seen:LvL) (Ok:KN->Prop) (a:LAcc):Prop where
 nd:LvNd a.on
 new:∀ p∈a.on,zU seen p.1=none
 ok:∀ p∈a.on,Ok p.1
section
variable {step:KN->Nat->Option KN}{seen:LvL}{Ok:KN->Prop}{moves:List Nat}
theorem NewOk.go {s:KN}{c:List Int}{a:LAcc}{k:Nat}(h:NewOk seen Ok a)(f:∀ t,step s k=some t->Ok t):NewOk seen Ok (go1 step seen s c a k):=by
 unfold go1;split
 ·exact⟨h.nd,h.new,h.ok⟩
 ·rename_i t d
  split
  ·exact h
  ·rename_i z
   refine⟨h.nd.put _ _,λp b=>?_,λp b=>?_⟩
   ·rcases vN b with y|y
    ·exact h.new p y
    ·rw[y]
     cases e:zU seen t with
     | none=>rfl
     | some r=>rw[e]at z;exact absurd rfl z
   ·rcases vN b with y|y
    ·exact h.ok p y
    ·rw[y];exact f t d
theorem NewOk.row {s:KN}{c:List Int}:∀ (ms:List Nat) {a:LAcc},NewOk seen Ok a->(∀ m∈ms,∀ t,step s m=some t->Ok t)->NewOk seen Ok (ms.foldl (go1 step seen s c) a)
 | [],a,h,_=>h
 | k::r,a,h,q=>NewOk.row r (h.go (q k (.head _))) λm hm=>q m (.tail _ hm)
theorem NewOk.lev:∀ (level:LvL) {a:LAcc},NewOk seen Ok a->(∀ p∈level,∀ m∈moves,∀ t,step p.1 m=some t->Ok t)->NewOk seen Ok (level.foldl (goS step seen moves) a)
 | [],a,h,_=>h
 | p::r,a,h,q=>NewOk.lev r (NewOk.row moves h (q p (.head _))) λm hm=>q m (.tail _ hm)
theorem vT (level:LvL)(q:∀ p∈level,∀ m∈moves,∀ t,step p.1 m=some t->Ok t):NewOk seen Ok (yL step seen moves level) :=
 NewOk.lev level ⟨Yx,λp a=>(nomatch a),λp a=>(nomatch a)⟩ q
theorem o0 {n:Nat}(level:LvL)(h:∀ p∈level,p.2.length=n):AccOk n (level.length*moves.length) (yL step seen moves level):=by
 have:=AccOk.lev (step:=step) (seen:=seen) (moves:=moves) level (a:=⟨[],[]⟩) (m:=0) h ⟨λp b=>(nomatch b),λp b=>(nomatch b),Jd _⟩
 rwa [ZM]at this
end
section
variable {step:KN->Nat->Option KN}{moves:List Nat}{most m:Nat}{level seen:LvL}{ls:List LvL}
theorem xv:ya step moves most (m+1) [] seen ls=.whl ls:=Jm rfl
theorem xw (ne:level≠[])(h:most<seen.length+level.length):ya step moves most (m+1) level seen ls=.opn:=by
 unfold ya;rw[Je ne,Jm h]
theorem xx (ne:level≠[])(h:¬ most<seen.length+level.length)(f:(yL step (seen++level) moves level).fl≠[]):ya step moves most (m+1) level seen ls=.brk (iG (yL step (seen++level) moves level).fl):=by
 unfold ya;rw[Je ne,Je h,Jm f]
theorem wP (ne:level≠[])(h:¬ most<seen.length+level.length)(f:(yL step (seen++level) moves level).fl=[]):ya step moves most (m+1) level seen ls=ya step moves most m (yL step (seen++level) moves level).on (seen++level) (ls++[level]):=by
 rw[ya,Je ne,Je h,Je (not_not_intro f)]
end
theorem bN (step:KN->Nat->Option KN)(seen:LvL)(s:KN)(c:List Int)(a:LAcc)(k:Nat):(go1 step seen s c a k).on.length<=a.on.length+1:=by
 unfold go1;split
 ·exact Nat.le_succ _
 ·split
  ·exact Nat.le_succ _
  ·exact tO _ _ _
theorem kB (step:KN->Nat->Option KN)(seen:LvL)(s:KN)(c:List Int):∀ (ms:List Nat) (a:LAcc),(ms.foldl (go1 step seen s c) a).on.length<=a.on.length+ms.length
 | [],a=>Jd _
 | k::r,a=>by
  have d:=kB step seen s c r (go1 step seen s c a k);have b:=bN step seen s c a k;show (r.foldl (go1 step seen s c) (go1 step seen s c a k)).on.length<=a.on.length+(r.length+1);lia
theorem ow (step:KN->Nat->Option KN)(seen:LvL)(moves:List Nat)(level:LvL):(yL step seen moves level).on.length<=level.length*moves.length:=by
 have key:∀ (level:LvL) (a:LAcc),(level.foldl (goS step seen moves) a).on.length<=a.on.length+level.length*moves.length:=by
  intro level
  induction level with
  | nil=>intro a;exact Nat.le_add_right _ _
  | cons p r ih =>
   intro a;have d:=ih (goS step seen moves a p);have b:=kB step seen p.1 p.2 moves a;show (r.foldl (goS step seen moves) (goS step seen moves a p)).on.length<=_;rw[JM,W7,Nat.one_mul];have c:(goS step seen moves a p).on.length<=a.on.length+moves.length:=b;lia
 have:=key level ⟨[],[]⟩;unfold yL;have e:(⟨[],[]⟩:LAcc).on.length=0:=rfl
 simp_all
noncomputable def LvsAt (P:Yo)(w:YI)(H:Hp)(as:List JI)(ls:List LvL):Prop:=Paired (λa lv=>∃ b,H a=some (DN P w a b)/\LvE H b lv) as ls
theorem LvsAt.but {P:Yo}{w:YI}{H H':Hp}{as:List JI}{ls:List LvL}(h:LvsAt P w H as ls)(t:Tups H H')(k:∀ a∈as,∀ o,H a=some o->H' a=some o):LvsAt P w H' as ls:=by
 induction h with
 | nil=>exact .nil
 | @cons a lv as ls q _ ih =>
  obtain⟨c,e,le⟩:=q;exact .cons ⟨c,k a (.head _) _ e,le.tups t⟩ (ih λb d=>k b (.tail _ d))
theorem LvsAt.keep {P:Yo}{w:YI}{H H':Hp}{as:List JI}{ls:List LvL}(h:LvsAt P w H as ls)(s:Same H H'):LvsAt P w H' as ls:=h.but (Tups.of s) λa _ o e=>s a o e
noncomputable def TellR (P:Yo)(w:YI)(H:Hp)(p:JI):LRes->Prop
 | .opn=>H p=some (.tup [.str "open",.non])
 | .brk c=>∃ b,H p=some (.tup [.str "breaks",.ref b])/\H b=some (.tup (c.map V.int))
 | .whl ls=>∃ l as,H p=some (.tup [.str "whole",.ref l])/\H l=some (.lst (as.map V.ref))/\LvsAt P w H as ls
noncomputable def qU (P:Yo)(w:YI)(K:Jl)(L:Lam)(fr:List Str)(lsp:LSpc):Sp:=λg H Q _=>∃ e d mv f a c moves cl vals step Ok n,∃ most:Nat,g=[.ref e,.ref d,.ref mv,.ref f,.int (most:Nat)]/\NKey H a e/\H d=some (.tup (List.map V.int c))/\c.length=n/\Ok a/\Way K H mv f L fr lsp cl vals step Ok moves n/\most<=500000/\moves.length<=16/\0<most /\
 ∀ p b,Same H b->TellR P w b p (ya step moves most (most+1) [(a,c)] [] [])->Q (.ref p) b
end L2
namespace L2
open PySem PySem.Spec PyProof.Rows
noncomputable abbrev e2 (elt tg iter b a:Expr)(ifs:List Expr)(scope:Scope)(pos:Pos):Expr:=.ListComp elt [⟨tg,iter,[],0⟩,⟨b,a,ifs,0⟩] scope pos
theorem jM (elt tg iter b a:Expr)(ifs:List Expr)(scope:Scope)(pos:Pos)(it acc:Jo)(env:Env) :
  compTurn (e2 elt tg iter b a ifs scope pos) 0 it acc env=(standAt iter.pos >>= λ_=>pyNext it >>= λr=>match r with
   | none=>pure (.done .next)
   | some v=>letOwnedTupleGo tg it v >>= λ_=>assign tg env v >>= λ_ =>
    (eval a env >>= λx=>standAt a.pos >>= λ_=>foldedSetIterable a env x >>= λx=>holding [x] (pyIter x) >>= λi1=>runOwn (.compStart (e2 elt tg iter b a ifs scope pos) 1 i1 acc env) env >>= λ_ =>
     again (.compLoop (e2 elt tg iter b a ifs scope pos) 0 it acc env))):=by rfl
theorem jL (elt tg iter b a:Expr)(scope:Scope)(pos:Pos)(it acc:Jo)(env:Env) :
  compTurn (e2 elt tg iter b a [] scope pos) 1 it acc env=(standAt a.pos >>= λ_=>pyNext it >>= λr=>match r with
   | none=>pure (.done .next)
   | some v=>letOwnedTupleGo b it v >>= λ_=>assign b env v >>= λ_ =>
    ((eval elt env >>= λx=>call (.builtin "list.append") [acc,x] >>= λ_=>pure ()) >>= λ_ =>
     again (.compLoop (e2 elt tg iter b a [] scope pos) 1 it acc env))):=by rfl
theorem n4 (elt tg iter b a c:Expr)(scope:Scope)(pos:Pos)(it acc:Jo)(env:Env) :
  compTurn (e2 elt tg iter b a [c] scope pos) 1 it acc env=(standAt a.pos >>= λ_=>pyNext it >>= λr=>match r with
   | none=>pure (.done .next)
   | some v=>letOwnedTupleGo b it v >>= λ_=>assign b env v >>= λ_=>(forIn [c] true λc r=>if r=true then (isTrue c env (eval c env) >>= λok=>pure (ForInStep.yield ok)) else pure (ForInStep.yield r)) >>= λok =>
    if ok=true then
    ((eval elt env >>= λx=>call (.builtin "list.append") [acc,x] >>= λ_=>pure ()) >>= λ_ =>
     again (.compLoop (e2 elt tg iter b a [c] scope pos) 1 it acc env)) else again (.compLoop (e2 elt tg iter b a [c] scope pos) 1 it acc env)):=by rfl
section
variable {prog:Yo}{w:YI}{A:YO}{R:Result->JO->Prop}{s:JO}{elt tg iter tg1 iter1:Expr}{scope:Scope}{pos:Pos}{it acc:Jo}{env:Env}
theorem nV {ifs:List Expr}(c:codeAny (model prog w) A (.compLoop (e2 elt tg iter tg1 iter1 ifs scope pos) 1 it acc env) R s)(h:wpAny (model prog w) A (pyIter it) (λi2 z=>codeAny (model prog w) A (.compLoop (e2 elt tg iter tg1 iter1 ifs scope pos) 1 i2 acc env) R z) NoX s) :
  codeAny (model prog w) A (.compStart (e2 elt tg iter tg1 iter1 ifs scope pos) 1 it acc env) R s:=by
 refine codeAny_of_tree ?_;show wpAny _ A ((compStart (e2 elt tg iter tg1 iter1 ifs scope pos) 1 it acc env).onRaise (λx=>do noteFrame x env;standAt theWindowsPlace)) _ _ s;refine wpAny_notedAt ?_;unfold compStart;refine(show wpAny _ _ (ask >>= _) _ _ s from J0 (wpAny_askSetting (wpAny_ite ?_)));split
 ·first
   | exact J0 (J7 (J7 ⟨rfl,c⟩))
   | exact J7 ⟨rfl,c⟩
 ·apply J0;refine YX ?_
  first
   | exact J0 (Z0 (J0 (JK h (λb d a=>J7 ⟨rfl,a⟩) λ_ _ z=>z.elim)))
   | (show wpAny _ _ (standAt iter1.pos >>= _) _ _ s;exact J0 (Z0 (J0 (JK h (λb d a=>J7 ⟨rfl,a⟩) λ_ _ z=>z.elim))))
theorem jJ {o:Option Expr}(J:Nat->JO->Prop)(turn:∀ n s,J n s->Go (model prog w) A tg1 elt o it acc env R (λz=>∃ m,m<n/\J m z) s)(n:Nat)(h:J n s) :
  codeAny (model prog w) A (.compLoop (.ListComp elt [⟨tg,iter,[],0⟩,⟨tg1,iter1,o.toList,0⟩] scope pos) 1 it acc env) R s:=by
 cases o with
 | none =>
  refine codeAny_loop rfl J (λn s k=>?_) n h;show wpAny _ A ((compTurn (e2 elt tg iter tg1 iter1 [] scope pos) 1 it acc env).onRaise (λx=>do noteFrame x env;theTreesLotGoes x)) _ _ s;refine wpAny_noted ?_;rw[jL];refine J0 (Z0 (J0 (JK (turn n s k) (λr a i=>?_) λ_ _ z=>z.elim)))
  cases r with
  | none=>exact J7 i
  | some v =>
   refine J0 (JK i (λ_ b q=>?_) λ_ _ z=>z.elim);refine J0 (JK q (λ_ c p=>?_) λ_ _ z=>z.elim);have g:wpAny (model prog w) A (eval elt env) (λx e=>wpAny (model prog w) A (call (.builtin "list.append") [acc,x]) (λ_ f=>∃ m,m<n/\J m f) NoX e) NoX c:=p
   exact J0 (J0 (JK g (λx d j=>J0 (JK j (λ_ e l=>J7 (J7 ⟨rfl,l⟩)) λ_ _ z=>z.elim)) λ_ _ z=>z.elim))
 | some t =>
  refine codeAny_loop rfl J (λn s k=>?_) n h;show wpAny _ A ((compTurn (e2 elt tg iter tg1 iter1 [t] scope pos) 1 it acc env).onRaise (λx=>do noteFrame x env;theTreesLotGoes x)) _ _ s;refine wpAny_noted ?_;rw[n4];refine J0 (Z0 (J0 (JK (turn n s k) (λr a i=>?_) λ_ _ z=>z.elim)))
  cases r with
  | none=>exact J7 i
  | some v =>
   refine J0 (JK i (λ_ b q=>?_) λ_ _ z=>z.elim);refine J0 (JK q (λ_ c p=>?_) λ_ _ z=>z.elim);have g:wpAny (model prog w) A (isTrue t env (eval t env)) (λyes d=>if yes=true then wpAny (model prog w) A (eval elt env) (λx e=>wpAny (model prog w) A (call (.builtin "list.append") [acc,x]) (λ_ f=>∃ m,m<n/\J m f) NoX e) NoX d else ∃ m,m<n/\J m d) NoX c:=p;refine J0 (wpAny_tests_one (JK g (λyes d j=>?_) λ_ _ z=>z.elim))
   cases yes with
   | false=>exact J7 ⟨rfl,j⟩
   | true=>exact J0 (J0 (JK j (λx e l=>J0 (JK l (λ_ f u=>J7 (J7 ⟨rfl,u⟩)) λ_ _ z=>z.elim)) λ_ _ z=>z.elim))
theorem jK {ifs:List Expr}(J:Nat->JO->Prop)(turn:∀ n s,J n s->wpAny (model prog w) A (pyNext it) (λr a=>match r with
   | none=>R (.ok .next) a
   | some v=>wpAny (model prog w) A (letOwnedTupleGo tg it v) (λ_ b=>wpAny (model prog w) A (assign tg env v) (λ_ c=>wpAny (model prog w) A (eval iter1 env) (λx d=>wpAny (model prog w) A (pyIter x) (λi1 e =>
     codeAny (model prog w) A (.compStart (e2 elt tg iter tg1 iter1 ifs scope pos) 1 i1 acc env) (λr f=>match r with|.ok _=>∃ m,m<n/\J m f|.error _=>False) e) NoX d) NoX c) NoX b) NoX a) NoX s)(n:Nat)(h:J n s)(j:∀ x,foldedSetIterable iter1 env x=pure x) :
  codeAny (model prog w) A (.compLoop (e2 elt tg iter tg1 iter1 ifs scope pos) 0 it acc env) R s:=by
 refine codeAny_loop rfl J (λn s k=>?_) n h;show wpAny _ A ((compTurn (e2 elt tg iter tg1 iter1 ifs scope pos) 0 it acc env).onRaise (λx=>do noteFrame x env;theTreesLotGoes x)) _ _ s;refine wpAny_noted ?_;rw[jM];refine J0 (Z0 (J0 (JK (turn n s k) (λr a i=>?_) λ_ _ z=>z.elim)))
 cases r with
 | none=>exact J7 i
 | some v =>
  refine J0 (JK i (λ_ b q=>?_) λ_ _ z=>z.elim);refine J0 (JK q (λ_ c p=>?_) λ_ _ z=>z.elim);refine J0 (JK p (λx d o=>?_) λ_ _ z=>z.elim);refine J0 (Z0 (J0 (wpAny_of_eq (j x) (J0 (Y5 (JK o (λi1 e l=>?_) λ_ _ z=>z.elim))))));refine J0 (wpAny_runOwn (codeAny_mono l (λr f g=>?_)))
  cases r with
  | ok fl=>exact J7 ⟨rfl,g⟩
  | error x=>exact g.elim
end
noncomputable def LCW1 (J:It)(g:TG)(tt:TT)(k:TE)(l:JI)(Q:List V->St->Hp->Prop)(W:Nat->Nat->List V->St->Hp->Prop):Prop :=
 ∀ i m acc c d,W i m acc c d->d l=some (.lst acc) /\
  ((J.stop i d/\Q acc c d)\/(J.go i d/\∀ x j,J.yld i d x j->g x c j λa n=>tt a n λb h =>
   if b=true then k a h λy f=>f l=some (.lst acc)/\acc.length<sizeLine/\∃ e,e<m/\W (i+1) e (acc++[y]) a (upd f l (.lst (acc++[y])))
   else ∃ e,e<m/\W (i+1) e acc a h))
noncomputable def zaO (cap:List (Option Nat))(n:TI)(g:TG)(d:TI)(q:TG)(tt:TT)(o:TE):TE:=λσ H Q=>n σ H λJ j=>∀ l,j l=none ->
 ∃ W:Nat->Nat->List V->St->Hp->Prop,(∃ m,W 0 m [] (pM cap σ) (upd j l (.lst []))) /\
  ∀ i m acc c a,W i m acc c a->a l=some (.lst acc)/\((J.stop i a/\Q (.ref l) a)\/(J.go i a/\∀ x h,J.yld i a x h->g x c h λb t=>d b t λr s =>
   ∃ f:Nat->Nat->List V->St->Hp->Prop,(∃ p,f 0 p acc b s)/\LCW1 r q tt o l (λac k G=>∃ e,e<m/\W (i+1) e ac k G) f))
theorem eK {X:Cx}{elt tg iter P B:Expr}{o:Option Expr}{scope:Scope}{pos ba:Pos}{wi bt:TI}{g g1:TG}{tt:TT}{te:TE}{N':List Str}{cap:List (Option Nat)}{use:Option (Jo->Sem Unit)}{Q0:Jo->JO->Prop}(hc:X.calm=true)(hi:PI X tg iter wi)(ck:CapOk X.N N' X.env.scope scope cap)(hg:∀ C s₀ H₀ fp pins,PG (yH X N' scope C s₀ H₀ fp pins) tg g)(cm:∀ C s₀ H₀ fp pins,PI (yH X N' scope C s₀ H₀ fp pins) P B bt)(cn:∀ C s₀ H₀ fp pins,PG (yH X N' scope C s₀ H₀ fp pins) P g1)(ht:∀ C s₀ H₀ fp pins,PTo (yH X N' scope C s₀ H₀ fp pins) o tt)(he:∀ C s₀ H₀ fp pins,PE (yH X N' scope C s₀ H₀ fp pins) elt te)(hs:∀ x,foldedSetIterable iter X.env x=pure x)(cb:∀ C x,foldedSetIterable B (compEnvC scope (wc X.env.cells scope.names []) C X.env) x=pure x){pins:List (JI × Obj)}{s:JO}{σ:St}{H:Hp}{Q:VK}(I:Inv X pins σ H s)(h:zaO cap wi g bt g1 tt te σ H Q)(fin:∀ (l C:JI) (H4:Hp) (s5:JO) (m:Str->Option Jo),Inv X pins σ H4 s5->Q (.ref l) H4->s5.heap.Ns C m->FpOk X pins H4 C->compPost (model X.prog X.w) X.A X.xe use Q0 (.ref l) C (.ok .next) s5) :
  wpAny (model X.prog X.w) X.A (comprehension (.ListComp elt [⟨tg,iter,[],0⟩,⟨P,B,o.toList,0⟩] scope pos) scope X.env ba (newList []) false (eval iter X.env) use) Q0 X.xe s:=by
 have N:∀ y∈scope.names,y.2=.free->∃ c,X.env.cells.lookup y.1=some c:=λy hy hf=>I.ok.has y.1 (ck.free y hy hf);refine wpAny_comprehension_free (use:=use) rfl hs (vA N) ck.kind ck.names (thn (hi pins s σ H _ I h) λv s1 h1=>thn h1 λdd F h2=>?_);obtain⟨it,fp,tn,J,H2,e,I2,T,b0,f2,body⟩:=h2;subst e;have bl:H2 F.heap.objs.size=none:=I2.hok.fresh (Jd _);obtain⟨W,⟨m0,w0⟩,turn⟩:=body F.heap.objs.size bl;have A:Inv X pins σ (upd H2 F.heap.objs.size (.lst [])) { F with heap:=F.heap.push { cls:=.type "list",data:=.seq ([]:List Jo).toArray },toks:=F.toks }:=I2.lnew (its:=[]) (t':=F.toks) .nil (Jz _);refine JN (wpAny_newFunctionEnv ck.nocell (by intro y hy;simp at hy) (λE M L=>?_) ck.kind);dsimp only at M L ⊢;generalize hl:F.heap.objs.size=l at *;generalize hP:F.heap.push { cls:=.type "list",dict:=none,data:=.seq ([]:List Jo).toArray }=P2 at *;generalize cJ:upd H2 l (.lst [])=H3 at *;have old:∀ b o,P2.get? b=some o->E.get? b=some o:=λb o e=>L.extBut b o (JB (Jn e)) (J6 _ e);have bc:∀ b o,F.heap.get? b=some o->P2.get? b=some o:=λb o e=>hP ▸ J6 _ e
 have b5:∀ b∈fp,b<l:=λb a=>by
  obtain⟨o,e,_⟩:=T.obj _ _ b0 b a;rw[<- hl];exact Jn e
 have cX:∀ b∈fp,H3 b=none:=λb a=>by
  rw[<- cJ,zG (JB (b5 b a))];exact(f2 b a).1
 have cH:P2.objs.size=l+1:=by rw[<- hP,YR,hl]
 have D:∀ x c,(wc X.env.cells scope.names []).lookup x=some c->X.env.cells.lookup x=some c:=λx c e=>wQ _ _ x c N (λ_ _ z=>by simp at z) e;generalize b2:({ F with heap:=P2,toks:=F.toks }:JO)=s3 at *;have w:s3.heap=P2:=by rw[<- b2]
 let Y:=yH X N' scope P2.objs.size s3 H3 fp pins
 have K:Y.Ok:=by
  refine⟨A.ok.mod,ck.kind,A.ok.glob,A.ok.blt,by show s3.heap.objs.size<=P2.objs.size;rw[w];exact Jd _,λx y c e1 e2=>A.ok.inj x y c (D x c e1) (D y c e2),λx hx=>?_,λx c hx=>absurd (show false=true from hx) Jh,A.ok.hd,A.ok.frames,.inl rfl,λb a=>⟨?_,λx c e=>?_⟩,A.bs,
   JS A.ok.bsz A.sz,λb o e a=>?_,λb a hz=>?_,A.stack,A.stkFree⟩
  ·have b9:scope.names.lookup x=some .free:=by
    rcases hx with hx|hx
    ·rcases yi hx with z|z
     ·exact absurd rfl (ck.nocell _ (wA z))
     ·exact z.2
    ·rcases yi hx with z|z
     ·exact z
     ·exact z.2
   exact xC _ _ x b9
  ·exact JB (by show b<P2.objs.size;rw[cH];exact ZL (b5 b a))
  ·exact(f2 b a).2.2.2.2.1 x c (D x c e)
  ·rcases (f2 b a).2.2.2.1 with z|z
   ·exact A.ok.noex b o e z
   ·exact absurd (JJ (Jn e) (JS A.ok.bsz z)) (YE _)
  ·rcases Jq.mp (A.stkSub b hz) with z|z
   ·exact(f2 b a).2.1 z
   ·exact(f2 b a).2.2.1 z
 have cx:Inv Y [] (pM cap σ) H3 { F with heap:=E,toks:=F.toks }:=by
  refine⟨K,by show F.os=s3.os;rw[<- b2],I2.bare,by show Un _ _ _ _ s3.heap E;rw[w];exact Un.kept old,⟨_,M,λj x v e1 e2 e3=>?_⟩,λx c e=>?_,?_,λx c e=>A.freeC x c (D x c e),λp hp=>?_,λb o e=>?_,?_⟩
  ·have c2:N'[j]?=some x:=e1
   unfold pM at e2;rw[JV]at e2
   cases ec:cap[j]? with
   | none=>rw[ec]at e2;cases e2
   | some oc =>
    rw[ec]at e2
    cases oc with
    | none=>cases e2
    | some i =>
     have c0:σ[i]?=some (some v):=by
      cases ei:σ[i]? with
      | none=>simp[ei]at e2
      | some v' =>
       simp[ei]at e2;rw[e2]
     have hz:(x,some i)∈N'.zip cap:=by
      refine JF (i:=j) ?_;rw[Zz];exact⟨c2,ec⟩
     obtain⟨hN,hf,hk⟩:=ck.cap _ hz i rfl;obtain⟨m,hn,cc⟩:=A.loc;obtain⟨u,r,lk⟩:=cc i x v hN c0 (by rcases hk with z|z;exact .inr (.inl z);exact .inr (.inr z));refine⟨u,r,.inr ⟨?_,?_⟩⟩
     ·exact x8 hf
     ·rcases lk with ⟨z,_⟩|⟨_,c,ct,aT⟩
      ·have z':X.env.scope.names.lookup x=some .local:=z
       rcases hk with q|q
       ·rw[q]at z';cases z'
       ·rw[q]at z';cases z'
      ·obtain⟨c',b3⟩:=xC (cells:=X.env.cells) scope.names [] x hf
       have:=D x c' b3;rw[ct]at this;cases this;obtain⟨ob,e,d⟩:=aT;rw[w]at e;exact⟨c,b3,ob,old c ob e,d⟩
  ·obtain⟨v,ob,e',d⟩:=A.cell x c (D x c e)
   rw[w]at e';exact⟨v,ob,old c ob e',d⟩
  ·refine A.hok.fresh ?_
   rw[w];exact Jd _
  ·have a8:p∈X.pn++pins:=(Jr.mp hp).elim (λz=>z) (λz=>nomatch z)
   obtain⟨e,n,ne,nf,d⟩:=A.pin p a8;rw[w]at e;refine⟨old _ _ e,n,JB (Jn e),λz=>?_,d⟩;rcases Jq.mp (A.stkSub _ z) with q|q
   ·exact ne q
   ·exact nf q
  ·have:=A.hok.kept (h':=E) (λb u q=>old b u (by rw[<- w];exact q))
   exact this b o e
  ·show (cap.map _).length=N'.length
   rw[Jc,ck.len]
 have S:∀ {t:Hp},(∀ b∈fp,t b=none)->∀ b∈fp,FpOk Y [] t b:=λ{t} hn b a=>by
  refine⟨hn b a,(K.exf b a).1,K.exfs b a,.inl a,(K.exf b a).2,λp hp=>?_⟩;have a8:p∈X.pn++pins:=(Jr.mp hp).elim (λz=>z) (λz=>nomatch z);exact(f2 b a).2.2.2.2.2 p a8
 have b1:tn 0 E:=T.keep 0 _ _ b0 λb a o e=>old b o (bc b o e)
 have loop:codeAny (model X.prog X.w) X.A (.compLoop (.ListComp elt [⟨tg,iter,[],0⟩,⟨P,B,o.toList,0⟩] scope pos) 0 (.ref it) (.ref l) Y.env) (compPost (model X.prog X.w) X.A X.xe use Q0 (.ref l) P2.objs.size) { F with heap:=E,toks:=F.toks }:=by
  refine jK (λn s'=>∃ i acc f t,Inv Y [] f t s'/\tn i s'.heap/\(∀ b∈fp,t b=none)/\W i n acc f t) ?_ m0 ⟨0,[],_,H3,cx,b1,cX,w0⟩ (cb _);rintro n s4 ⟨i,acc,a5,H4,I4,bS,b4,w4⟩;obtain⟨c7,q4⟩:=turn i n acc a5 H4 w4;rcases q4 with ⟨stop,qn⟩|⟨go,step⟩
  ·refine thn (T.done Y rfl rfl rfl hc i [] s4 a5 H4 Y.xe I4 (S b4) bS stop) λr s5 ⟨hr,I5⟩=>?_
   subst hr;obtain⟨m,hn,_⟩:=id I5.loc;have un:Un (frs X.stack) fp H3 H4 s3.heap s5.heap:=I5.base;have b6:s3.heap.objs.size<=P2.objs.size:=by rw[w];exact Jd _
   have IX:Inv X pins σ H4 s5:=A.call' (ch:=fp) I5.os un I5.hok I5.bare λb a=>⟨(f2 b a).2.2.2.1,(f2 b a).2.1,(f2 b a).2.2.2.2.1,(f2 b a).2.2.2.2.2⟩;exact fin l P2.objs.size H4 s5 m IX qn hn (A.fpOk b6 I5.free)
  ·refine thn (T.item Y rfl rfl rfl hc i [] s4 a5 H4 Y.xe I4 (S b4) bS go) λr s5 ⟨u,hr,h5⟩=>?_
   subst hr;refine thn h5 λ_ s6 ⟨x,H6,I6,r6,y6,a7,cP⟩=>?_;have c5:=I6.pinned (S cP) (T.obj _ _ a7);refine thn (hg _ _ _ _ _ _ s6 a5 H6 x u _ c5 r6 (step x H6 y6)) λ_ s7 ⟨bo,H7,I7,q7⟩=>?_
   have again:∀ {a4:St}{H9:Hp}{s9:JO}{U:List V},Inv Y ([]++x9 fp s6.heap) a4 H9 s9->(∃ m',m'<n/\W (i+1) m' U a4 H9)->∃ m,m<n/\∃ i acc f t,Inv Y [] f t s9/\tn i s9.heap/\(∀ b∈fp,t b=none)/\W i m acc f t:=λ{a4 H9 s9 U} I9 ⟨m',hm,w9⟩=>by
    refine⟨m',hm,i+1,U,a4,H9,I9.unpinned,T.keep _ _ _ a7 λb a o e=>(I9.pin (b,o) (Js _ (Js _ (yU a e)))).1,λb a=>?_,w9⟩;obtain⟨o,e,d⟩:=T.obj _ _ a7 b a;exact(I9.pin (b,o) (Js _ (Js _ (yU a e)))).2.1
   generalize ([]++x9 fp s6.heap:List (JI × Obj))=pz at again I7;refine thn (cm _ _ _ _ _ _ s7 bo H7 _ I7 q7) λv1 s8 h8=>thn h8 λc6 s9 h9=>?_;obtain⟨b7,R,bu,J1,H9,e1,I9,T1,bB,f9,W1,⟨m1,w1⟩,ab⟩:=h9;subst e1;have G:∀ {t:Hp},(∀ b∈R,t b=none)->∀ b∈R,FpOk Y pz t b:=λhn b a=>⟨hn b a,(f9 b a).2⟩
   have Z:codeAny (model X.prog X.w) X.A (.compLoop (.ListComp elt [⟨tg,iter,[],0⟩,⟨P,B,o.toList,0⟩] scope pos) 1 (.ref b7) (.ref l) Y.env) (λr z=>match r with|.ok _=>∃ m,m<n/\∃ i acc f t,Inv Y [] f t z/\tn i z.heap/\(∀ b∈fp,t b=none)/\W i m acc f t|.error _=>False) s9:=by
    refine jJ (λn s'=>∃ i acc f t,Inv Y pz f t s'/\bu i s'.heap/\(∀ b∈R,t b=none)/\W1 i n acc f t) ?_ m1 ⟨0,acc,bo,H9,I9,bB,λb a=>(f9 b a).1,w1⟩;rintro k t4 ⟨j,ac,a3,G4,K4,u4,v4,z4⟩;obtain⟨c8,p4⟩:=ab j k ac a3 G4 z4;rcases p4 with ⟨ao,pn⟩|⟨go1,ax⟩
    ·refine thn (T1.done Y rfl rfl rfl hc j pz t4 a3 G4 Y.xe K4 (G v4) u4 ao) λr t5 ⟨hr,K5⟩=>?_
     subst hr;exact again K5 pn
    ·refine thn (T1.item Y rfl rfl rfl hc j pz t4 a3 G4 Y.xe K4 (G v4) u4 go1) λr t5 ⟨u,hr,h5⟩=>?_
     subst hr;refine thn h5 λ_ t6 ⟨y,G6,K6,e6,d6,u6,v6⟩=>?_;have c3:=K6.pinned (G v6) (T1.obj _ _ u6);refine thn (cn _ _ _ _ _ _ t6 a3 G6 y u _ c3 e6 (ax y G6 d6)) λ_ t7 ⟨a6,G7,K7,p7⟩=>?_;refine pf (ht _ _ _ _ _ _ t7 a6 G7 _ K7 p7) λb t8 ⟨G8,K8,p8⟩=>?_
     have O:∀ {a0:St}{G9:Hp}{t9:JO}{a9:List V},Inv Y (pz++x9 R t6.heap) a0 G9 t9->(∃ m',m'<k/\W1 (j+1) m' a9 a0 G9)->∃ m,m<k/\∃ i acc f t,Inv Y pz f t t9/\bu i t9.heap/\(∀ b∈R,t b=none)/\W1 i m acc f t:=λ{a0 G9 t9 a9} K9 ⟨m',hm,z9⟩=>by
      refine⟨m',hm,j+1,a9,a0,G9,K9.unpinned,T1.keep _ _ _ u6 λb a o e=>(K9.pin (b,o) (Js _ (Js _ (yU a e)))).1,λb a=>?_,z9⟩;obtain⟨o,e,d⟩:=T1.obj _ _ u6 b a;exact(K9.pin (b,o) (Js _ (Js _ (yU a e)))).2.1
     cases b with
     | false =>
      rw[Je Jh]at p8 ⊢
      exact O K8 p8
     | true =>
      rw[Jm rfl]at p8 ⊢;refine thn (he _ _ _ _ _ _ t8 a6 G8 _ K8 p8) λyv t9 ⟨yy,G9,K9,e9,cf,b8,p9⟩=>?_;refine thn (yc (X:=Y) _ t9 a6 G9 (.ref l) [yy] (.ref l) [yv] (λ_ t=>t=upd G9 l (.lst (ac++[yy]))) K9 rfl (.cons e9 .nil) ⟨l,ac,yy,rfl,rfl,cf,b8,rfl⟩) λ_ c9 ⟨_,dm,c4,_,c1⟩=>?_;subst c1;exact O c4 p9
   exact nV Z (T1.self X.A 0 _ _ _ bB Z)
 exact codeAny_compStart_list loop (T.self X.A 0 _ _ _ b1 loop)
theorem fH {X:Cx}{elt tg iter b a:Expr}{o:Option Expr}{scope:Scope}{pos:Pos}{j c:TI}{g n:TG}{tt:TT}{k:TE}{N':List Str}{cap:List (Option Nat)}(y:X.calm=true)(hi:PI X tg iter j)(z:CapOk X.N N' X.env.scope scope cap)(v:∀ C s₀ H₀ fp pins,PG (yH X N' scope C s₀ H₀ fp pins) tg g)(e:∀ C s₀ H₀ fp pins,PI (yH X N' scope C s₀ H₀ fp pins) b a c)(i:∀ C s₀ H₀ fp pins,PG (yH X N' scope C s₀ H₀ fp pins) b n)(r:∀ C s₀ H₀ fp pins,PTo (yH X N' scope C s₀ H₀ fp pins) o tt)(w:∀ C s₀ H₀ fp pins,PE (yH X N' scope C s₀ H₀ fp pins) elt k)(t:∀ x,foldedSetIterable iter X.env x=pure x:=by intro _;rfl)(d:∀ C x,foldedSetIterable a (compEnvC scope (wc X.env.cells scope.names []) C X.env) x=pure x:=by intro _ _;rfl) :
  PE X (.ListComp elt [⟨tg,iter,[],0⟩,⟨b,a,o.toList,0⟩] scope pos) (zaO cap j g c n tt k):=by
 intro pins s σ H Q I h;rw[eval_ListComp];exact eK (use:=none) y hi z v e i r w t d I h λl C B D m A q u f=>⟨m,u,λE p=>⟨.ref l,B,A.gone f p,rfl,q⟩⟩
end L2
namespace Bn
open PySem L2 Own
noncomputable def pw (e:Nat):Int:=((2 ^ e:Nat):Int)
noncomputable def more (cs xs:List Int)(k:Int):List Int:=(List.range cs.length).map λi=>cs.getD i 0+k*xs.getD i 0
noncomputable def xh:Nat->List Nat->List Fk
 | 0,_=>[]
 | m+1,row=>if row.length<2 then [] else (row.take (row.length / 2)).zip row.reverse++xh m (row.take (row.length / 2))++xh m (row.drop (row.length / 2))
noncomputable def xX (k:Nat):Nt:=⟨2 ^ k,(List.replicate k (xh k (List.range (2 ^ k)))).flatten,List.range (2 ^ k)⟩
theorem mW:∀ k,k<5->(xX k).forks.length<=128/\∀ f∈(xX k).forks,f.1<2 ^ k/\f.2<2 ^ k/\f.1≠f.2:=by decide +kernel
theorem ja {k:Nat}(h:k<5):(xX k).Ok:=by
 obtain⟨a,b⟩:=mW k h;refine⟨ZK,?_,a,b,.refl _⟩;show 2 ^ k<=2 ^ 4;exact YD (show 0<2 by decide) (show k<=4 by lia)
theorem xy:∀ (m:Nat) (row:List Nat),(xh m row).length<=m*row.length
 | 0,_=>Jz _
 | m+1,row=>by
  unfold xh;split
  ·exact Jz _
  ·rw[Jb,Jb,ZG,JC]
   have a:=xy m (row.take (row.length / 2));have b:=xy m (row.drop (row.length / 2));rw[JC]at a;rw[Zb]at b
   have c:m*min (row.length / 2) row.length+m*(row.length-row.length / 2)=m*row.length:=by
    rw[<- Nat.mul_add];congr 1;lia
   rw[Nat.succ_mul]
   grind
end Bn
namespace L2
open PySem PySem.Spec PyProof.Rows Own
theorem bE {K:Jl}{a:JI}{zs:List V}{g:TG}{h:TE}{l:JI}{ac:List V}{σ:St}{H:Hp}{Q:List V->St->Hp->Prop}(b:Nat->List V->St->Hp->Prop)(q:b 0 ac σ H)(o:∀ i acc σ H,b i acc σ H->H l=some (.lst acc)/\SqT K H a zs)(n:∀ i x acc σ H,zs[i]?=some x->b i acc σ H->g x σ H λc r=>h c r λy j=>j l=some (.lst acc)/\acc.length<sizeLine/\Nx zs.length i (b (i+1) (acc++[y]) c (upd j l (.lst (acc++[y])))))(hd:∀ acc σ H,b zs.length acc σ H->Q acc σ H):∃ W:Nat->Nat->List V->St->Hp->Prop,(∃ m,W 0 m ac σ H)/\LCW1 (Itt K a) g gF h l Q W:=by
 refine⟨λi m acc σ H=>m=zs.length-i/\i<=zs.length/\b i acc σ H,⟨_,rfl,Jz _,q⟩,?_⟩;rintro i m acc σ H ⟨rfl,hi,p⟩;obtain⟨k,d⟩:=o i acc σ H p;refine⟨k,?_⟩;by_cases f:i<zs.length
 ·refine .inr ⟨⟨zs,zs[i],d,J8 f⟩,λx s ⟨e,y⟩=>?_⟩
  subst e;exact n i x acc σ _ (y zs d) p
 ·obtain rfl:i=zs.length:=by lia
  exact .inl ⟨⟨zs,d,Jd _⟩,hd acc σ H p⟩
noncomputable def yX {α:Type}(xs ys:List α):List α:=(xs.zip ys).flatMap λp=>[p.1,p.2]
theorem xN {α:Type}:∀ (xs ys:List α),xs.length=ys.length->(yX xs ys).length=2*xs.length
 | [],[],_=>rfl
 | x::xs,y::ys,h=>by
  have h':xs.length=ys.length:=by simpa using h
  have:=xN xs ys h';show (yX xs ys).length+2=2*(xs.length+1);rw[this];lia
theorem wN {α β:Type}{f g:α->Option β}:∀ (l:List α),(∀ x∈l,f x=g x)->l.filterMap f=l.filterMap g
 | [],_=>rfl
 | x::l,h=>by
  have e:=wN l λy a=>h y (JD _ a);simp only[List.filterMap_cons,h x JH,e]
noncomputable def by2 {α:Type}(off:Nat)(xs:List α):List α:=(List.range ((xs.length+1-off) / 2)).filterMap λk=>xs[off+2*k]?
theorem pP {α:Type}(off:Nat)(a:off<=1)(xs:List α):(by2 off xs).length=(xs.length+1-off) / 2:=by
 unfold by2
 have e:(List.range ((xs.length+1-off) / 2)).filterMap (λk=>xs[off+2*k]?)=(List.range ((xs.length+1-off) / 2)).pmap (λk (h:k<(xs.length+1-off) / 2)=>xs[off+2*k]'(by omega)) (λk h=>YQ.mp h):=by
  rw[List.pmap_eq_map_attach,<- List.filterMap_eq_map]
  conv=>lhs;rw[<- List.attach_map_subtype_val (List.range ((xs.length+1-off) / 2)),ZJ]
  refine wN _ λk b=>?_;have:=YQ.mp k.2;show xs[off+2*k.1]?=some _;rw[J8 (by omega)]
 rw[e,List.length_pmap,Z6]
theorem bY {α β:Type}(f:α->β)(off:Nat)(xs:List α):by2 off (xs.map f)=(by2 off xs).map f:=by
 unfold by2;rw[Jc,List.map_filterMap];refine wN _ λk _=>?_;rw[JV]
theorem jH {xs:List V}{us:List Jo}(r:Vals xs us)(a:List Nat):Vals (a.filterMap λk=>xs[k]?) (a.filterMap λk=>us[k]?):=by
 induction a with
 | nil=>exact .nil
 | cons i a ih =>
  cases e:xs[i]? with
  | none =>
   have e2:us[i]?=none:=List.getElem?_eq_none_iff.mpr (by rw[<- r.length];exact List.getElem?_eq_none_iff.mp e)
   rw[List.filterMap_cons_none e,List.filterMap_cons_none e2];exact ih
  | some x =>
   obtain⟨u,e2,b⟩:=r.get e;rw[List.filterMap_cons_some e,List.filterMap_cons_some e2];exact .cons b ih
theorem gz (items:Array Jo):slicePick items none none (some 2)=((List.range ((items.size+1) / 2)).filterMap λk=>items.toList[2*k]?).toArray:=by
 have b:sliceBounds none none (some 2) items.size=(0,(items.size:Int),2):=rfl
 have c:sliceRange 0 (items.size:Int) 2=(List.range ((items.size+1) / 2)).map λk=>2*k:=by
  unfold sliceRange;have a:(2:Int) > 0:=by decide
  by_cases h:(0:Int)<items.size
  ·have e:(((items.size:Int)-0+2-1) / 2).toNat=(items.size+1) / 2:=by lia
   simp only[a,Z9,h,e];apply ZB;intro k _;lia
  ·have e:items.size=0:=by simp_all
   rw[e];rfl
 unfold slicePick;rw[b];show ((sliceRange 0 (items.size:Int) 2).filterMap (items[·]?)).toArray=_;rw[c,ZJ];refine JQ List.toArray (wN _ λk _=>?_);simp
theorem jf (items:Array Jo):slicePick items (some 1) none (some 2)=((List.range (items.size / 2)).filterMap λk=>items.toList[1+2*k]?).toArray:=by
 have b:sliceBounds (some 1) none (some 2) items.size=(max 0 (min 1 (items.size:Int)),(items.size:Int),2):=rfl
 have c:sliceRange (max 0 (min 1 (items.size:Int))) (items.size:Int) 2=(List.range (items.size / 2)).map λk=>1+2*k:=by
  unfold sliceRange;have a:(2:Int) > 0:=by decide
  by_cases h:(1:Int)<items.size
  ·have m:max 0 (min 1 (items.size:Int))=1:=by lia
   rw[m];have e:(((items.size:Int)-1+2-1) / 2).toNat=items.size / 2:=by lia
   simp only[a,Z9,h,e];apply ZB;intro k _;lia
  ·have e:items.size=0\/items.size=1:=by lia
   rcases e with e|e<;>rw[e]<;>rfl
 unfold slicePick;rw[b];show ((sliceRange (max 0 (min 1 (items.size:Int))) (items.size:Int) 2).filterMap (items[·]?)).toArray=_;rw[c,ZJ];refine JQ List.toArray (wN _ λk _=>?_);simp
noncomputable def zbx (K:Jl)(e:TE)(d ts:TO):TE:=λσ H Q=>e σ H λx g=>d σ g λlo f=>ts σ f λo b=>o=some 2/\∃ off a c,((lo=none/\off=0)\/(lo=some 1/\off=1))/\x=.ref a/\SqL K b a c/\∀ p,b p=none->Q (.ref p) (upd b p (.lst (by2 off c)))
theorem qt {X:Cx}{e st:Expr}{lo:Option Expr}{p:TE}{n ts:TO}{t pos:Pos}(L:PE X e p)(K:PO X lo n)(G:PO X (some st) ts):PE X (.Subscript e (.Slice lo none (some st) t) pos) (zbx X.K p n ts):=by
 intro pins s σ H Q I h;refine Subscript_ (thn (L pins s σ H _ I h) λv y ⟨x,R,N,A,C⟩=>wpAny_Slice (thn (K pins y σ R _ N C) λm z ⟨ol,S,O,E,D⟩=>?_));rw[evalPart_none];refine J7 (thn (G pins z σ S _ O D) λg d ⟨o,P,M,po,B⟩=>?_);obtain⟨rfl,off,a,l,f,rfl,J,k⟩:=B;cases A;have i:Inv X pins σ P { d with heap:=d.heap.push { cls:=.type "slice",data:=.fields #[m,.none,g] } }:=M.kept (t':=d.toks) λb ob q=>J6 _ q;obtain⟨c,r,u,T⟩:=i.list J;have hlen:=r.length;show wpAny (model X.prog X.w) X.A (subscriptTail e (.Slice lo none (some st) t) (.ref a) (.ref d.heap.objs.size)) (EP X pins σ Q) X.xe { d with heap:=d.heap.push { cls:=.type "slice",data:=.fields #[m,.none,g] } };refine tail_any (ops:=[.ref a,.ref d.heap.objs.size]) u.isList.typeIs slot_list_getitem.lookup (wpAny_getItem_list_slice u.isList (Heap.IsSliceOf.new ..) E .none po (by simp) ?_ (by rw[Jg]<;>simp_all)) (by with_unfolding_all rfl)
 have F:slicePick c.toArray ol none (some 2)=((List.range ((c.length+1-off) / 2)).filterMap λk=>c[off+2*k]?).toArray:=by
  rcases f with ⟨rfl,rfl⟩|⟨rfl,rfl⟩
  ·rw[gz];simp only[Jg,Nat.sub_zero,ZM]
  ·rw[jf];simp only[Jg,Nat.add_sub_cancel]
 rw[F];have j:off<=1:=by rcases f with ⟨_,rfl⟩|⟨_,rfl⟩<;>decide
 have w:Vals (by2 off l) ((List.range ((c.length+1-off) / 2)).filterMap λk=>c[off+2*k]?):=by
  have:=jH r ((List.range ((c.length+1-off) / 2)).map λk=>off+2*k);rw[ZJ,ZJ]at this;unfold by2;rw[hlen];exact this
 refine⟨.ref _,_,i.laid (t':=d.toks) (o:=.lst (by2 off l)) (λb ob q=>J6 _ q) (Jd _) ⟨by rw[pP off j];omega,_,0,w,?_⟩,rfl,k _ (i.hok.fresh (Jd _))⟩;exact Jp _ rfl
theorem eL {K:Jl}{a:JI}{xs:List V}{g w:TG}{h:TI}{tt:TT}{u:TE}{l:JI}{σ:St}{H:Hp}{Q:VK}(c:Nat->List V->St->Hp->Prop)(C:c 0 [] σ H)(B:∀ i acc σ H,c i acc σ H->H l=some (.lst acc)/\SqL K H a xs)(A:∀ i acc σ H x,xs[i]?=some x->c i acc σ H->g x σ H λb r=>h b r λo q =>
   ∃ d:Nat->Nat->List V->St->Hp->Prop,(∃ n,d 0 n acc b q)/\LCW1 o w tt u l (λac j G=>Nx xs.length i (c (i+1) ac j G)) d)(hd:∀ acc σ H,c xs.length acc σ H->Q (.ref l) H):∃ W:Nat->Nat->List V->St->Hp->Prop,(∃ m,W 0 m [] σ H) /\
   ∀ i m acc f H',W i m acc f H'->H' l=some (.lst acc)/\(((Itl K a).stop i H'/\Q (.ref l) H')\/((Itl K a).go i H'/\∀ x s,(Itl K a).yld i H' x s->g x f s λb r=>h b r λo q =>
    ∃ d:Nat->Nat->List V->St->Hp->Prop,(∃ n,d 0 n acc b q)/\LCW1 o w tt u l (λac j G=>∃ v,v<m/\W (i+1) v ac j G) d)):=by
 refine⟨λi m acc σ H=>m=xs.length-i/\i<=xs.length/\c i acc σ H,⟨xs.length,by simp,Jz _,C⟩,?_⟩;rintro i m acc σ H ⟨rfl,hi,p⟩;obtain⟨z,k⟩:=B i acc σ H p;refine⟨z,?_⟩;by_cases t:i<xs.length
 ·refine .inr ⟨⟨xs,xs[i],k,J8 t⟩,λx s ⟨e,y⟩=>?_⟩
  subst e;exact A i acc σ _ x (y xs k) p
 ·obtain rfl:i=xs.length:=by lia
  exact .inl ⟨⟨xs,k,Jd _⟩,hd acc σ H p⟩
end L2
namespace L2
open PySem PySem.Spec PyProof.Rows Own Bn
noncomputable def uV (ts:List Int):Int:=ts.foldl (λa t=>2*a+t) 0
noncomputable def uO (a:Int)(xs:List Int):Int:=xs.foldl (λa x=>1000*a+x) a
noncomputable def Bits (ts:List Int):Prop:=∀ t∈ts,t=0\/t=1
noncomputable def Small (xs:List Int):Prop:=∀ x∈xs,0<=x/\x<1000
theorem ig {a b c d m:Int}(e:0<m)(c0:0<=c)(i:c<m)(g:0<=d)(f:d<m):compare (m*a+c) (m*b+d)=(compare a b).then (compare c d):=by
 rcases Zr a b with h|h|h
 ·have:m*a+c<m*b+d:=by
   have:=Int.mul_le_mul_of_nonneg_left (show a+1<=b by lia) (Int.le_of_lt e);rw[Int.mul_add,Int.mul_one]at this;lia
  rw[Yv.mpr this,Yv.mpr h];rfl
 ·subst h
  rw[YF.mpr (rfl:a=a)];show _=compare c d;rcases Zr c d with z|z|z
  ·rw[Yv.mpr z,Yv.mpr (by simp_all)]
  ·rw[z]
   rw[YF.mpr (rfl:d=d),YF.mpr rfl]
  ·rw[Yw.mpr z,Yw.mpr (by simp_all)]
 ·have:m*b+d<m*a+c:=by
   have:=Int.mul_le_mul_of_nonneg_left (show b+1<=a by lia) (Int.le_of_lt e);rw[Int.mul_add,Int.mul_one]at this;lia
  rw[Yw.mpr this,Yw.mpr h];rfl
theorem sU {m:Int}(d:0<m):∀ {x y:List Int}{a b:Int},x.length=y.length->(∀ t∈x,0<=t/\t<m)->(∀ t∈y,0<=t/\t<m)->compare (x.foldl (λa t=>m*a+t) a) (y.foldl (λa t=>m*a+t) b)=(compare a b).then (cmpR x y)
 | [],[],a,b,_,_,_=>by
  show compare a b=(compare a b).then .eq
  cases compare a b<;>rfl
 | s::x,t::y,a,b,l,f,e=>by
  have h:=f s (.head _);have g:=e t (.head _);show compare (x.foldl _ (m*a+s)) (y.foldl _ (m*b+t))=(compare a b).then ((compare s t).then (cmpR x y));rw[sU d (by simpa using l) (λu c=>f u (.tail _ c)) λu c=>e u (.tail _ c),ig d h.1 h.2 g.1 g.2];cases compare a b<;>rfl
theorem jD {x:List Int}(h:Bits x):∀ t∈x,0<=t/\t<2:=λt a=>by rcases h t a with e|e<;>simp_all
theorem da {x y:List Int}(l:x.length=y.length)(b:Bits x)(a:Bits y):compare (uV x) (uV y)=cmpR x y:=by
 unfold uV;rw[sU (by decide) l (jD b) (jD a)];rfl
theorem dZ {a b:Int}{x y:List Int}(l:x.length=y.length)(d:Small x)(c:Small y):compare (uO a x) (uO b y)=(compare a b).then (cmpR x y):=sU (by decide) l d c
noncomputable def stK (ts is:List Int):KN:=.inr ts::is.map Sum.inl
structure StOk (F c:Nat) (k:KN):Prop where
 ex:∃ ts is,k=stK ts is/\ts.length=F/\Bits ts/\is.length=c/\Small is
noncomputable def xu:KN->Int
 | .inr ts::r=>uO (uV ts) (r.map λx=>match x with|.inl i=>i|.inr _=>0)
 | _=>0
theorem pK (ts is:List Int):xu (stK ts is)=uO (uV ts) is:=by
 unfold stK xu;show uO _ ((is.map Sum.inl).map _)=_;rw[YA]
 congr 1
 exact List.map_id is
noncomputable def rkH (H:Hp):V->Int
 | .ref a=>match H a with
  | some (.tup (b::r))=>uO (uV (jZ H b)) (r.map r0)
  | _=>0
 | _=>0
theorem we {H:Hp}{ts is:List Int}{b:JI}(h:NKey H (stK ts is) b):∃ t,H b=some (.tup (.ref t::is.map V.int))/\H t=some (.tup (ts.map V.int)):=by
 obtain⟨d,j,a⟩:=h;obtain⟨v,r,e,⟨t,c,f⟩,g⟩:=(show ∃ v r,d=v::r/\(∃ t,v=.ref t/\H t=some (.tup (ts.map V.int)))/\NIvs H (is.map Sum.inl) r from a)
 have key:∀ {is:List Int}{r:List V},NIvs H (is.map Sum.inl) r->r=is.map V.int:=by
  intro is
  induction is with
  | nil=>intro r h;exact h
  | cons i is ih =>
   intro r h;obtain⟨v,q,e,c,a⟩:=(show ∃ v q,r=v::q/\v=.int i/\NIvs H (is.map Sum.inl) q from h);rw[e,c,ih a];rfl
 exact⟨t,by rw[j,e,c,key g],f⟩
theorem uW {H:Hp}{ts is:List Int}{b t:JI}(c:H b=some (.tup (.ref t::is.map V.int)))(a:H t=some (.tup (ts.map V.int))):NKey H (stK ts is) b:=by
 have key:∀ is:List Int,NIvs H (is.map Sum.inl) (is.map V.int):=by
  intro is
  induction is with
  | nil=>exact rfl
  | cons i is ih=>exact⟨_,_,rfl,rfl,ih⟩
 exact⟨_,c,⟨_,_,rfl,⟨t,rfl,a⟩,key is⟩⟩
theorem qi {H:Hp}{ts is:List Int}{b:JI}(h:NKey H (stK ts is) b):rkH H (.ref b)=xu (stK ts is):=by
 obtain⟨t,c,a⟩:=we h
 show (match H b with
  | some (.tup (b::r))=>uO (uV (jZ H b)) (r.map r0)
  | _=>0)=_
 rw[c];show uO (uV (jZ H (.ref t))) ((is.map V.int).map r0)=_;rw[vL a,pK,YA]
 congr 1
 exact List.map_id is
theorem za5 {H:Hp}{F c:Nat}{x y:KN}{a b:JI}(r:StOk F c x)(o:StOk F c y)(ha:NKey H x a)(hb:NKey H y b):Lx H 2 (.ref a) (.ref b) (compare (rkH H (.ref a)) (rkH H (.ref b))):=by
 obtain⟨k,is,rfl,E,v,D,s⟩:=r.ex;obtain⟨j,h,rfl,I,z,G,w⟩:=o.ex;rw[qi ha,qi hb,pK,pK,dZ (by lia) s w,da (by lia) v z];obtain⟨t,C,e2⟩:=we ha;obtain⟨u,B,A⟩:=we hb;have l:is.length=h.length:=by lia
 rw[show (cmpR k j).then (cmpR is h)=(cmpR k j::List.zipWith compare is h).foldr Ordering.then .eq by rw[List.foldr_cons,uG l]];refine .row C B (by rw[JM,JM,Jc,List.length_zipWith];simp_all) (by rw[JM,JM,Jc,List.length_zipWith];simp_all) λi p q d f e g=>?_
 cases i with
 | zero=>cases f;cases e;cases g;exact kR e2 A (by lia)
 | succ i =>
  rw[List.getElem?_cons_succ]at f e g;rw[JV]at f e;obtain⟨p,n,rfl⟩:=JX.mp f;obtain⟨q,m,rfl⟩:=JX.mp e;rw[List.getElem?_zipWith,n,m]at g;cases g;exact .int 1 p q
noncomputable def KeysAt (H:Hp)(bs:List JI)(ks:List KN):Prop:=Paired (λb k=>NKey H k b) bs ks
theorem KeysAt.tups {H H':Hp}(t:Tups H H'){bs:List JI}{ks:List KN}(h:KeysAt H bs ks):KeysAt H' bs ks:=yw (λ_ _ z=>z.tups t) h
theorem KeysAt.mem {H:Hp}{bs:List JI}{ks:List KN}(h:KeysAt H bs ks):∀ b∈bs,∃ k∈ks,NKey H k b:=by
 induction h with
 | nil=>intro b a;cases a
 | cons q _ ih =>
  intro b a;rcases Jq.mp a with rfl|z
  ·exact⟨_,.head _,q⟩
  ·obtain⟨k,c,e⟩:=ih b z
   exact⟨k,.tail _ c,e⟩
theorem LvE.keys {H:Hp}{xs:KVN}{ps:LvL}(h:LvE H xs ps):KeysAt H (xs.map λp=>p.2.1) (ps.map (·.1)):=by
 obtain⟨b,pr⟩:=h
 induction pr with
 | nil=>exact .nil
 | @cons x p xs ps a t ih =>
  refine .cons ?_ (ih λy c=>b y (.tail _ c));show NKey H p.1 x.2.1;rw[<- a.1];exact b x (.head _)
theorem vz {H:Hp}{bs cs:List JI}(p:cs.Perm bs):∀ {ks:List KN},KeysAt H bs ks->∃ a,KeysAt H cs a/\a.Perm ks:=by
 induction p with
 | nil=>intro ks h;exact⟨ks,h,.refl _⟩
 | cons b _ ih =>
  intro ks h
  cases h with
  | cons q t =>
   obtain⟨a,e,d⟩:=ih t
   exact⟨_,.cons q e,d.cons _⟩
 | swap b c l =>
  intro ks h
  cases h with
  | cons q t=>cases t with
   | cons i t=>exact⟨_,.cons i (.cons q t),.swap _ _ _⟩
 | trans _ _ g f =>
  intro ks h;obtain⟨a,e,d⟩:=f h;obtain⟨is,k,j⟩:=g e;exact⟨is,k,j.trans d⟩
theorem uP {H:Hp}{F c:Nat}{bs:List JI}{ks:List KN}(h:KeysAt H bs ks)(ok:∀ k∈ks,StOk F c k)(s:(bs.map V.ref).Pairwise λx y=>rkH H x<=rkH H y):ks.Pairwise λx y=>xu x<=xu y:=by
 induction h with
 | nil=>exact .nil
 | @cons b k bs ks q t ih =>
  rw[JR,List.pairwise_cons]at s;refine List.pairwise_cons.mpr ⟨λj a=>?_,ih (λj a=>ok j (.tail _ a)) s.2⟩
  have back:∀ {bs:List JI}{ks:List KN},KeysAt H bs ks->∀ j∈ks,∃ b∈bs,NKey H j b:=by
   intro bs ks h
   induction h with
   | nil=>intro j a;cases a
   | cons q _ ih =>
    intro j a;rcases Jq.mp a with rfl|z
    ·exact⟨_,.head _,q⟩
    ·obtain⟨b,g,e⟩:=ih j z
     exact⟨b,.tail _ g,e⟩
  obtain⟨d,f,e⟩:=back t j a;have:=s.1 (.ref d) (Jw.mpr ⟨d,f,rfl⟩);obtain⟨l,is,rfl,_⟩:=(ok k (.head _)).ex;obtain⟨i,m,rfl,_⟩:=(ok j (.tail _ a)).ex
  rwa [qi q,qi e]at this
noncomputable def BookOf (ks:List KN)(ls:List LvL):Prop:=∃ a:List (List KN),ks=a.flatten/\Paired (λb lv=>b.Perm (lv.map (·.1))/\b.Pairwise λx y=>xu x<=xu y) a ls
noncomputable def gn (P:Yo)(w:YI):List V->Hp->VK->Prop:=λe H Q=>∃ a b d,e=[.ref a]/\H a=some (DN P w a b)/\b.length<=10000/\RkN H (b.map λp=>.ref p.2.1) d/\∀ (l:JI) (c:List V),H l=none->c.Perm (b.map λp=>.ref p.2.1)->c.Pairwise (λx y=>d x<=d y)->Q (.ref l) (upd H l (.lst c))
theorem wm {X:Cx}(b:X.calm=true)(a:X.A.units+64<cLine):CallR X (.builtin "sorted") (gn X.prog X.w):=pO b a
theorem oM {H:Hp}{F c:Nat}{xs:KVN}{lv:LvL}(h:LvE H xs lv)(ok:∀ p∈lv,StOk F c p.1):RkN H (xs.map λp=>.ref p.2.1) (rkH H):=by
 refine⟨2,by decide,λx a=>?_⟩
 have at_:∀ x∈xs.map λp=>V.ref p.2.1,∃ b k,x=.ref b/\NKey H k b/\StOk F c k:=λx a=>by
  obtain⟨p,o,rfl⟩:=Jw.mp a;obtain⟨k,r,e⟩:=h.keys.mem p.2.1 (Jw.mpr ⟨p,o,rfl⟩);obtain⟨q,n,rfl⟩:=Jw.mp r;exact⟨_,_,rfl,e,ok q n⟩
 obtain⟨b,k,rfl,g,f⟩:=at_ x a;refine⟨?_,λy m=>?_⟩
 ·obtain⟨v,is,rfl,_⟩:=f.ex
  obtain⟨t,u,s⟩:=we g;exact⟨b,t,_,_,rfl,u,s⟩
 ·obtain⟨d,j,rfl,l,i⟩:=at_ y m
  exact za5 f i g l
theorem eM {K:Jl}{a:JI}{zs:List V}{g:TG}{h:TE}{l:JI}{ac:List V}{σ:St}{H:Hp}{Q:List V->St->Hp->Prop}(b:Nat->List V->St->Hp->Prop)(q:b 0 ac σ H)(o:∀ i acc σ H,b i acc σ H->H l=some (.lst acc)/\SqL K H a zs)(n:∀ i x acc σ H,zs[i]?=some x->b i acc σ H->g x σ H λc r=>h c r λy j=>j l=some (.lst acc)/\acc.length<sizeLine/\Nx zs.length i (b (i+1) (acc++[y]) c (upd j l (.lst (acc++[y])))))(hd:∀ acc σ H,b zs.length acc σ H->Q acc σ H):∃ W:Nat->Nat->List V->St->Hp->Prop,(∃ m,W 0 m ac σ H)/\LCW1 (Itl K a) g gF h l Q W:=by
 refine⟨λi m acc σ H=>m=zs.length-i/\i<=zs.length/\b i acc σ H,⟨_,rfl,Jz _,q⟩,λi m acc σ H ⟨em,hi,p⟩=>?_⟩;subst em;obtain⟨k,d⟩:=o i acc σ H p;refine⟨k,?_⟩;by_cases f:i<zs.length
 ·refine .inr ⟨⟨zs,zs[i],d,J8 f⟩,λx s ⟨e,y⟩=>?_⟩
  subst e;exact n i x acc σ _ (y zs d) p
 ·obtain rfl:i=zs.length:=by lia
  exact .inl ⟨⟨zs,d,Jd _⟩,hd acc σ H p⟩
theorem LvE.len_le {H:Hp}{xs:KVN}{ps:LvL}(h:LvE H xs ps){n:Nat}(l:ps.length<=n):xs.length<=n:=by rw[h.len];exact l
theorem wu {α β:Type}{f:α->β}{ys l:List β}(p:ys.Perm l):∀ {zs:List α},l=zs.map f->∃ cs:List α,ys=cs.map f/\cs.Perm zs:=by
 induction p with
 | nil=>intro zs e;cases zs with
  | nil=>exact⟨[],rfl,.refl _⟩
  | cons a b=>cases e
 | cons b _ ih =>
  intro zs e
  cases zs with
  | nil=>cases e
  | cons a zs =>
   injection e with i e2;obtain⟨cs,h,g⟩:=ih e2
   exact⟨a::cs,by rw[h,i];rfl,g.cons _⟩
 | swap b c l =>
  intro zs e
  cases zs with
  | nil=>cases e
  | cons a zs=>cases zs with
   | nil=>cases e
   | cons d zs =>
    injection e with i e2;injection e2 with e2 o
    exact⟨d::a::zs,by rw[i,e2,o];rfl,.swap _ _ _⟩
 | trans _ _ k j =>
  intro zs e;obtain⟨cs,h,g⟩:=j e;obtain⟨ds,n,m⟩:=k h;exact⟨ds,n,m.trans g⟩
noncomputable def gS (P:Yo)(w:YI)(F c:Nat):Sp:=λd H Q _=>∃ l as ls,d=[.ref l]/\H l=some (.lst (List.map V.ref as))/\LvsAt P w H as ls/\(∀ lv∈ls,lv.length<=10000/\∀ p∈lv,StOk F c p.1)/\(ls.map List.length).sum<=1000000 /\
 ∀ p bs b a,Same H a->a p=some (.tup (bs.map V.ref))->KeysAt a bs b->BookOf b ls->Q (.ref p) a
end L2
namespace L2
open PySem PySem.Spec PyProof.Rows Own
theorem zba {P:Yo}{w:YI}{d:JI}{o:Obj}{xs:KVN}{g:TG}{tt:TT}{e:TE}{l:JI}{σ:St}{H:Hp}{Q:VK}(c:Nat->List V->St->Hp->Prop)(s:c 0 [] σ H)(r:∀ i acc σ H,c i acc σ H->H l=some (.lst acc)/\H d=some (.frz o (DN P w d xs)))(n:∀ (i:Nat) acc σ H p,xs[i]?=some p->c i acc σ H->g (.ref p.2.1) σ H λa u=>tt a u λb j=>if b=true then e a j λz h=>h l=some (.lst acc)/\acc.length<sizeLine/\Nx xs.length i (c (i+1) (acc++[z]) a (upd h l (.lst (acc++[z])))) else Nx xs.length i (c (i+1) acc a j))(hd:∀ acc σ H,c xs.length acc σ H->Q (.ref l) H):∃ W:Nat->Nat->List V->St->Hp->Prop,(∃ m,W 0 m [] σ H)/\LCW (Itn P w d o xs) g tt e l Q W:=by
 refine⟨λi m acc σ H=>m=xs.length-i/\i<=xs.length/\c i acc σ H,⟨_,rfl,Jz _,s⟩,λi m acc σ H ⟨em,hi,pv⟩=>?_⟩;subst em;obtain⟨k,f⟩:=r i acc σ H pv;refine⟨k,?_⟩;by_cases lt:i<xs.length
 ·refine .inr ⟨⟨f,lt⟩,λx v ⟨t,p,q,e2⟩=>?_⟩
  subst t e2;exact n i acc σ _ p q pv
 ·obtain rfl:i=xs.length:=by lia
  exact .inl ⟨⟨f,rfl⟩,hd acc σ H pv⟩
theorem rJ (p:KN × JI × V)(xs:KVN)(k:KN):yg (p::xs) k=if p.1=k then some p.2.2 else yg xs k:=by
 unfold yg;rw[YB];by_cases z:p.1=k
 ·rw[Jt z,Jm z];rfl
 ·rw[Jj z,Je z]
theorem jb (xs:KVN)(k:KN)(b:JI)(v:V):(yu xs k b v).map (·.1)=if (yg xs k).isSome then xs.map (·.1) else xs.map (·.1)++[k]:=by
 unfold yu;by_cases z:(yg xs k).isSome=true
 ·rw[Jm z,Jm z,YA]
  refine ZB λy _=>?_;show (if y.1=k then (y.1,y.2.1,v) else y).1=y.1;split<;>rfl
 ·rw[Je z,Je z,JG];rfl
theorem xM {xs:KVN}{k:KN}:(yg xs k).isSome=true↔k∈xs.map (·.1):=by
 induction xs with
 | nil=>exact⟨λh=>(nomatch h),λh=>(nomatch h)⟩
 | cons p xs ih =>
  rw[rJ,JR,Jq];by_cases z:p.1=k
  ·rw[Jm z];exact⟨λ_=>.inl z.symm,λ_=>rfl⟩
  ·rw[Je z,ih]
   exact⟨.inr,λh=>h.elim (λq=>absurd q.symm z) id⟩
theorem KsIn.put {H:Hp}{xs:KVN}{k:KN}{b:JI}{v:V}(h:KsIn H xs)(hb:NKey H k b):KsIn H (yu xs k b v):=by
 intro x a;unfold yu at a;split at a
 ·obtain⟨y,c,rfl⟩:=Jw.mp a
  split
  ·exact h y c
  ·exact h y c
 ·rcases Jr.mp a with z|z
  ·exact h x z
  ·rw[Ja.mp z];exact hb
end L2
namespace Bn
open PySem PySem.Spec PyProof.Rows L2 Own
noncomputable abbrev Ent:=(Nat × Nat) × Int
noncomputable def rkK (k:Nat × Nat):Int:=(k.1:Int)*1000+(k.2:Int)
noncomputable def EntAt (H:Hp)(x:V)(e:Ent):Prop:=∃ a b,x=.ref a/\H a=some (.tup [.ref b,.int e.2])/\H b=some (.tup [.int (e.1.1:Nat),.int (e.1.2:Nat)])
open Classical in
noncomputable def rkE (H:Hp)(x:V):Int:=if h:∃ e,EntAt H x e then rkK h.choose.1 else 0
end Bn
namespace L2
open PySem PySem.Spec PyProof.Rows Own Bn
inductive PlO:HO->Prop
 | tup (xs:List V):PlO (.tup xs)
 | lst (xs:List V):PlO (.lst xs)
 | dK:PlO (.dK [])
noncomputable def KpN (H H':Hp):Prop:=∀ b o,H b=some o->PlO o->H' b=some o
theorem KpN.same {H H':Hp}(s:Same H H'):KpN H H':=λb o e _=>s b o e
theorem KpN.trans {H c a:Hp}(x:KpN H c)(y:KpN c a):KpN H a:=λb o e n=>y b o (x b o e n) n
theorem KpN.but {P:JI}{q:Array Jo}{H H':Hp}(b:But P H H')(a:H P=some (.tbl q)):KpN H H':=λc o e n=>b c o e (yD e a λz=>by subst z;cases n)
theorem KpN.strip {H:Hp}{cl:List (Str × JI)}(fz:CellsFz cl H):KpN H (strip cl H):=λb o e n=>by
 rw[zv]
 ·exact e
 ·intro a
  obtain⟨u,q⟩:=fz b a;rw[e]at q;cases q;cases n
theorem KpN.tups {H H':Hp}(k:KpN H H'):Tups H H':=λb a e=>k b _ e (.tup a)
noncomputable instance memN (k:KN) (ks:List KN):Decidable (k∈ks):=decidable_of_iff (ks.any (λx=>decide (x=k))=true) (by simp)
noncomputable def ddN (ks:List KN)(k:KN):List KN:=if k∈ks then ks else ks++[k]
noncomputable def ddL (ss:List KN):List KN:=ss.foldl ddN []
theorem nU (ss:List KN)(s:KN):ddL (ss++[s])=ddN (ddL ss) s:=by unfold ddL;rw[Zq];rfl
theorem ky (ss:List KN):(∀ x,x∈ddL ss↔x∈ss)/\(ddL ss).length<=ss.length/\((ddL ss).length=ss.length↔ss.Nodup):=by
 rcases List.eq_nil_or_concat ss with rfl|⟨ss,s,rfl⟩
 ·exact⟨λx=>Iff.rfl,Jd _,⟨λ_=>Yx,λ_=>rfl⟩⟩
 ·rw[List.concat_eq_append]
  obtain⟨b,k,j⟩:=ky ss;rw[nU]
  have f:(ss++[s]).Nodup↔ss.Nodup/\s∉ss:=by
   rw[ZP];constructor
   ·rintro⟨a,_,c⟩
    exact⟨a,λz=>c s z s (.head _) rfl⟩
   ·rintro⟨a,c⟩
    exact⟨a,JP.mpr ⟨Jv,Yx⟩,λx i y g e=>c (by rw[<- Ja.mp g,<- e];exact i)⟩
  unfold ddN;by_cases c:s∈ddL ss
  ·rw[Jm c]
   have d:=(b s).mp c;refine⟨λx=>?_,by rw[Jb];show _<=_+1;lia,?_⟩
   ·rw[b,Jr,Ja]
    exact⟨.inl,λz=>z.elim id λy=>y ▸ d⟩
   ·rw[f,Jb]
    exact⟨λz=>by have:(ddL ss).length=ss.length+1:=z;lia,λz=>absurd d z.2⟩
  ·rw[Je c]
   have d:s∉ss:=λz=>c ((b s).mpr z);refine⟨λx=>?_,by rw[Jb,Jb];show _+1<=_+1;lia,?_⟩
   ·rw[Jr,Jr,b]
   ·rw[f,Jb,Jb,<- j]
    exact⟨λz=>⟨by have:(ddL ss).length+1=ss.length+1:=z;lia,d⟩,λz=>by rw[z.1]⟩
termination_by ss.length
decreasing_by rename_i h;rw[h,List.length_concat];exact Nat.lt_succ_self _
noncomputable def va (a:V->Option KN)(xs:List V)(k0:KN)(moves:List Nat)(step:KN->Nat->Option KN):Bool:=match xs.mapM a with
 | none=>false
 | some ss=>(decide ss.Nodup && decide (k0∈ss)) && ss.all λs=>moves.all λm=>match step s m with|none=>false|some t=>decide (t∈ss)
theorem lV {a:V->Option KN}{xs:List V}{k0:KN}{moves:List Nat}{step:KN->Nat->Option KN}(h:xs.mapM a=none):va a xs k0 moves step=false:=by
 unfold va;rw[h]
theorem su {a:V->Option KN}{xs:List V}{ss:List KN}{k0:KN}{moves:List Nat}{step:KN->Nat->Option KN}(h:xs.mapM a=some ss):va a xs k0 moves step=((decide ss.Nodup && decide (k0∈ss)) && ss.all λs=>moves.all λm=>match step s m with|none=>false|some t=>decide (t∈ss)):=by
 unfold va;rw[h]
theorem iH {α β:Type}{f:α->Option β}{xs:List α}:xs.mapM f=none↔∃ x∈xs,f x=none:=by
 induction xs with
 | nil=>simp
 | cons x xs ih =>
  rw[List.mapM_cons]
  cases e:f x with
  | none=>exact⟨λ_=>⟨x,.head _,e⟩,λ_=>rfl⟩
  | some y =>
   cases g:xs.mapM f with
   | none =>
    obtain⟨z,a,q⟩:=ih.mp g
    exact⟨λ_=>⟨z,.tail _ a,q⟩,λ_=>rfl⟩
   | some b =>
    refine⟨λz=>(by cases z),λ⟨z,a,q⟩=>?_⟩;rcases Jq.mp a with rfl|w
    ·rw[e]at q;cases q
    ·rw[ih.mpr ⟨z,w,q⟩]at g;cases g
theorem rc {α β:Type}{f:α->Option β}:∀ {xs:List α}{ys:List β},xs.mapM f=some ys->xs.length=ys.length/\∀ (i:Nat) x,xs[i]?=some x->∃ y,ys[i]?=some y/\f x=some y
 | [],ys,h=>by
  rw[List.mapM_nil]at h;cases h
  exact⟨rfl,λi x e=>by cases e⟩
 | x::xs,ys,h=>by
  rw[List.mapM_cons]at h
  cases e:f x with
  | none=>rw[e]at h;cases h
  | some y =>
   rw[e]at h
   cases g:xs.mapM f with
   | none=>rw[g]at h;cases h
   | some zs =>
    rw[g]at h;cases h;obtain⟨c,b⟩:=rc g;refine⟨JQ (· + 1) c,λi u a=>?_⟩
    cases i with
    | zero=>cases a;exact⟨y,rfl,e⟩
    | succ i=>exact b i u a
section
variable {K:Jl}{a:JI}{xs:List V}{g g1:TG}{wi1:TI}{tt:TT}{te tk tv:TE}{l:JI}{σ:St}{H:Hp}{Q:VK}
theorem bD (c:Nat->List V->St->Hp->Prop)(z:c 0 [] σ H)(w:∀ i acc σ H,c i acc σ H->H l=some (.lst acc)/\SqT K H a xs)(v:∀ i acc σ H x,xs[i]?=some x->c i acc σ H->g x σ H λb q=>wi1 b q λn o =>
   ∃ d:Nat->Nat->List V->St->Hp->Prop,(∃ k,d 0 k acc b o)/\LCW1 n g1 tt te l (λac h G=>Nx xs.length i (c (i+1) ac h G)) d)(hd:∀ acc σ H,c xs.length acc σ H->Q (.ref l) H):∃ W:Nat->Nat->List V->St->Hp->Prop,(∃ m,W 0 m [] σ H) /\
   ∀ i m acc f H',W i m acc f H'->H' l=some (.lst acc)/\(((Itt K a).stop i H'/\Q (.ref l) H')\/((Itt K a).go i H'/\∀ x r,(Itt K a).yld i H' x r->g x f r λb q=>wi1 b q λn o =>
    ∃ d:Nat->Nat->List V->St->Hp->Prop,(∃ k,d 0 k acc b o)/\LCW1 n g1 tt te l (λac h G=>∃ t,t<m/\W (i+1) t ac h G) d)):=by
 refine⟨λi m acc σ H=>m=xs.length-i/\i<=xs.length/\c i acc σ H,⟨xs.length,by simp,Jz _,z⟩,?_⟩;rintro i m acc σ H ⟨rfl,hi,p⟩;obtain⟨u,j⟩:=w i acc σ H p;refine⟨u,?_⟩;by_cases s:i<xs.length
 ·refine .inr ⟨⟨xs,xs[i],j,J8 s⟩,λx r ⟨e,y⟩=>?_⟩
  subst e;exact v i acc σ _ x (y xs j) p
 ·obtain rfl:i=xs.length:=by lia
  exact .inl ⟨⟨xs,j,Jd _⟩,hd acc σ H p⟩
theorem zaz {P:Yo}{w:YI}(d:Nat->KVN->St->Hp->Prop)(q:d 0 [] σ H)(o:∀ i acc σ H,d i acc σ H->SqT K H a xs)(n:∀ i x acc σ H,xs[i]?=some x->d i acc σ H->g x σ H λc s=>tk c s λy r=>tv c r λv f=>∃ b k,y=.ref b/\f l=some (DN P w l acc)/\KsIn f acc/\NKey f k b/\acc.length<sizeLine/\Nx xs.length i (d (i+1) (yu acc k b v) c (upd f l (DN P w l (yu acc k b v)))))(hd:∀ acc σ H,d xs.length acc σ H->Q (.ref l) H):∃ W:Nat->Nat->KVN->St->Hp->Prop,(∃ m,W 0 m [] σ H)/\DCW P w (Itt K a) g tk tv l Q W:=by
 refine⟨λi m acc σ H=>m=xs.length-i/\i<=xs.length/\d i acc σ H,⟨_,rfl,Jz _,q⟩,?_⟩;rintro i m acc σ H ⟨rfl,hi,p⟩;have h:=o i acc σ H p;by_cases j:i<xs.length
 ·refine .inr ⟨⟨xs,xs[i],h,J8 j⟩,λx t ⟨e,y⟩=>?_⟩
  subst e;exact n i x acc σ _ (y xs h) p
 ·obtain rfl:i=xs.length:=by lia
  exact .inl ⟨⟨xs,h,Jd _⟩,hd acc σ H p⟩
end
noncomputable def tG (P:Yo)(w:YI)(K:Jl)(q:Lam)(i:List Str)(g:LSpc)(L:Lam)(fr:List Str)(lsp:LSpc):Sp:=λp H Q _=>∃ x fs k mv f e a j moves cl vals step Ok n c,
 p=[x,.ref fs,.ref k,.ref mv,.ref f]/\e.map (·.1)=i/\LamAt H fs q e a/\NKey H j k/\Way K H mv f L fr lsp cl vals step Ok moves n/\moves.length<=16/\AnyT K H x /\
 (∀ d,yG H x=some d->d.length<=500000/\∀ y∈d,(∀ h (l:VK),KpN H h->(∀ m,Same h m->l (.bl (c y).isSome) m)->g a [y] h l E0)/\∀ s,c y=some s->Ok s/\∃ b,y=.ref b/\NKey H s b) /\
 ∀ o,Same H o->Q (.bl (match yG H x with|none=>false|some d=>va c d j moves step)) o
end L2
namespace Bn
open PySem L2 Own
noncomputable def Deep (K:Jl)(H:Hp):Nat->V->Prop
 | 0,x=>AnyT K H x
 | n+1,x=>AnyT K H x/\∀ xs,yG H x=some xs->xs.length<=1000/\∀ y∈xs,Deep K H n y
theorem Deep.any {K:Jl}{H:Hp}:∀ {n:Nat}{x:V},Deep K H n x->AnyT K H x
 | 0,_,h=>h
 | _+1,_,h=>h.1
theorem gf {K:Jl}{H H':Hp}{x:V}(s:Same H H')(a:AnyT K H x):yG H' x=yG H x:=by
 cases z:yG H x with
 | some e =>
  obtain⟨b,rfl,c⟩:=yh z
  exact yR (s _ _ c)
 | none =>
  cases y:yG H' x with
  | none=>rfl
  | some d =>
   obtain⟨b,rfl,c⟩:=yh y;obtain⟨T,ty,_⟩:=a
   cases ty with
   | tup h=>rw[yR h]at z;cases z
   | lst h=>rw[s _ _ h]at c;cases c
   | frz h=>rw[s _ _ h]at c;cases c
   | dK h=>rw[s _ _ h]at c;cases c
   | dT h=>rw[s _ _ h]at c;cases c
   | ins h=>rw[s _ _ h]at c;cases c
noncomputable def yt (H:Hp)(many b:Int)(x:V):Bool:=match yG H x with
 | some a=>decide ((a.length:Int)=many) && a.all (xV b)
 | none=>false
end Bn
namespace L2
open PySem PySem.Spec PyProof.Rows Own
theorem iL {P:Yo}{w:YI}{K:Jl}{mg mb:Str->Option Jo}{CX:CXT}{k:Nat}{U a:JI}{fd:Yl}{x:Str}{sp:Sp}{f:JO}{vs:List Jo}{ns:List Int}(ts:List JI)
  (W:K.In f.heap) (J:f.heap.Ns mainGlobals mg) (hb:f.heap.Ns builtinsNs mb) (ab:∀ x:Str,x≠"__name__"->mb x=bootBuiltins x) (Q:f.heap.NoLimit) (hg:f.gens = #[])
  (ha:f.heap.get? a=some { cls:=.type "list",data:=.seq vs.toArray }) (hi:IntsAre vs ns) (hl:ns.length<=sizeLine) (hr:Room k callerA)
  (B:∀ p∈ts,f.heap.get? p=some (PySem.W.tabObj #[])/\K.lookup p=none/\∃ c,PySem.W.codeHdIn K c p=true)
  (Z:∃ bm ob,mg "__builtins__" = some (.ref bm)/\bm≠builtinsNs/\f.heap.get? bm=some ob/\ob.cls=.type "module"/\ob.dict=some builtinsNs/\ob.data=.plain)
  (F:∀ base:YP,K.In base->base.Ns mainGlobals mg->(∀ p∈ts,base.BuiltinsAt mg p)->FnOk P w K mg base CX k U fd [x] sp) (L:∀ (s:JO) (u:Jo),BindsTo s fd ⟨[u],[]⟩ [(x,u)])
  (Y:∀ H:Hp,SqL K H a (ns.map V.int)->(∀ p∈ts,H p=some (.tbl #[]))->sp [.ref a] H (λv _=>v=.bl true) λ_ _ _=>False)
  (ao:∀ H e i,CX [] H f (λ_ _ _=>False) e i->False) :
  codeAny (model P w) callerA (.call (.ref U) ⟨[.ref a],[]⟩) (λr i=>r=.ok (.ret (.bool true))/\OldK f.heap i.heap/\i.os=f.os/\AllBare i.gens) f:=by
 have rv:=rG hi;have O:=hi.length
 have aT:a∉ts:=λh=>by
  have:=(B a h).1;rw[ha]at this;cases this
 have core:∀ H:Hp,(∀ b,H b=none\/(b=a/\∃ o S,H b=some (.frz o (.lst S)))\/(b∈ts/\H b=some (.tbl #[])))->(∀ p∈ts,H p=some (.tbl #[]))->SqL K H a (ns.map V.int)->HOk P w H f.heap->(H a≠none->K.lookup a=none) ->
   codeAny (model P w) callerA (.call (.ref U) ⟨[.ref a],[]⟩) (λr i=>r=.ok (.ret (.bool true))/\OldK f.heap i.heap/\i.os=f.os/\AllBare i.gens) f:=by
  intro H R hT hS M hK;have g:∀ {b:JI}{o:Obj},f.heap.get? b=some o->H b=none->(rE f.heap H).get? b=some o:=λe n=>eX e n
  have X:∀ {b:JI}{o:Obj}{D:Array DictEntry}{E:Nat},f.heap.get? b=some o->o.data=.dict D E->H b=none:=λ{b o D E} e d=>by
   rcases R b with z|⟨z,_⟩|⟨z,_⟩
   ·exact z
   ·rw[z,ha]at e
    cases e;cases (show Data.seq vs.toArray _=Data.dict D E from d)
   ·rw[(B b z).1]at e
    cases e;cases (show Data.fields #[]=Data.dict D E from d)
  have l:∀ {b:JI}{m:Str->Option Jo},f.heap.Ns b m->(rE f.heap H).Ns b m:=λ{b m} ⟨o,D,E,e,d,r⟩=>⟨o,D,E,g e (X e d),d,r⟩
  have N:K.In (rE f.heap H):=λb o e=>g (W b o e) (by
   rcases R b with z|⟨z,y⟩|⟨z,_⟩
   ·exact z
   ·obtain⟨o',S,q⟩:=y
    rw[z]at e q;rw[hK (by rw[q];simp)]at e;cases e
   ·rw[(B b z).2.1]at e;cases e)
  have hM:Mod K mg (rE f.heap H):=⟨N,l J,⟨mb,l hb,ab⟩,let ⟨mc,h1,h2⟩:=Q;⟨mc,l h1,h2⟩⟩;have e0:Env0 P w K mg (rE f.heap H) callerA [] f H:=⟨rfl,hM,λb o e=>cj e,Nat.le_of_eq (iV _ _),trivial,λb hb=>absurd (show b∈([]:List JI) from hb) (by simp),M,.of_eq hg⟩
  have hB:∀ p∈ts,(rE f.heap H).BuiltinsAt mg p:=λp C=>by
   obtain⟨bm,ob,b1,b2,I,b4,b5,t⟩:=Z;refine⟨bm,ob,b1,b2,λz=>?_,λz=>?_,g I ?_,b4,b5,t⟩
   ·obtain⟨og,D,E,e,d,_⟩:=J
    rw[<- z,I]at e;rw[<- Jf e,t]at d;cases d
   ·have e:=(B p C).1
    rw[<- z,I]at e;rw[Jf e]at t;cases t
   ·rcases R bm with z|⟨z,_⟩|⟨z,_⟩
    ·exact z
    ·rw[z,ha]at I
     rw[<- Jf I]at t;cases t
    ·rw[(B bm z).1]at I
     rw[<- Jf I]at t;cases t
  refine codeAny_mono ((F _ N (l J) hB).run callerA [] f H ⟨[.ref a],[]⟩ [.ref a] [.ref a] _ _ hr e0 (L f (.ref a)) (.cons rfl .nil) (Y H hS hT)) λr i h=>?_
  cases r with
  | error e=>exact(ao H e i h).elim
  | ok fl =>
   cases fl with
   | next=>exact False.elim h
   | brk=>exact False.elim h
   | cont=>exact False.elim h
   | ret u =>
    obtain⟨v,H',os,bare,un,A,r',q⟩:=h;have q':v=.bl true:=q;subst q';obtain rfl:u=Value.bool true:=r'
    have kept:∀ b o,f.heap.get? b=some o->b∉ts->i.heap.get? b=some o:=λb o e nb=>by
     rcases R b with z|⟨_,ob,S,z⟩|⟨z,_⟩
     ·exact un.keep b o e z (λy=>absurd (show b∈([]:List JI) from y) (by simp)) (by simp)
     ·have z2:=un.frzs b ob _ z
      obtain⟨e1,_⟩:=M b _ z;obtain⟨e2,_⟩:=A b _ z2;rw[e]at e1;cases e1;exact e2
     ·exact absurd z nb
    have tabs:∀ b∈ts,∃ more,i.heap.get? b=some (PySem.W.tabObj (#[]++more)):=λb hb=>by
     obtain⟨more,z⟩:=un.tbls b _ (hT b hb);exact⟨more,A b _ z⟩
    refine⟨rfl,⟨λb o e=>?_,λb o e=>un.there b o e (by simp)⟩,os,bare⟩;by_cases hb:b∈ts
    ·obtain⟨t1,_,c,t3⟩:=B b hb
     rw[t1]at e;cases e;obtain⟨o2,ws,_,_,_,_,_,_,_,g1,g2,g3,g4,_⟩:=PySem.W.codeHd_of_K W t3;obtain⟨more,z⟩:=tabs b hb;exact .inr (.inl ⟨⟨c,o2,ws,g1,g2,g3,g4⟩,rfl,#[],more,rfl,z⟩)
    ·exact .inl (kept b o e hb)
 have tab:∀ {H:Hp}{p:JI},p∈ts->ObjOk P w H f.heap p (.tbl #[]):=λC=>(B _ C).1
 cases T:K.lookup a with
 | some o =>
  have e:=W a o T;rw[ha]at e;cases e;refine core (λb=>if b∈ts then some (.tbl #[]) else none) (λb=>?_) (λp C=>Jm C) (.inr ⟨_,vs.toArray,_,T,rfl,rfl,rfl,by rw[Jg,O];exact hl,by simpa using rv⟩) (λb u z=>?_) λz=>absurd (Je aT) z
  ·by_cases hb:b∈ts
   ·exact .inr (.inr ⟨hb,Jm hb⟩)
   ·exact .inl (Je hb)
  ·by_cases hb:b∈ts
   ·have j:=(Jm hb).symm.trans z
    cases j;exact tab hb
   ·have j:=(Je hb).symm.trans z
    cases j
 | none =>
  refine core (λb=>if b∈ts then some (.tbl #[]) else if b=a then some (.frz { cls:=.type "list",data:=.seq vs.toArray } (.lst (ns.map V.int))) else none) (λb=>?_) (λp C=>Jm C) (.inl (.inr ⟨{ cls:=.type "list",data:=.seq vs.toArray },(Je aT).trans (Jm rfl)⟩)) (λb u z=>?_) λ_=>T
  ·by_cases hb:b∈ts
   ·exact .inr (.inr ⟨hb,Jm hb⟩)
   ·by_cases G:b=a
    ·exact .inr (.inl ⟨G,_,_,(Je hb).trans (Jm G)⟩)
    ·exact .inl ((Je hb).trans (Je G))
  ·by_cases hb:b∈ts
   ·have j:=(Jm hb).symm.trans z
    cases j;exact tab hb
   ·by_cases G:b=a
    ·have j:=((Je hb).trans (Jm G)).symm.trans z
     cases j;subst G;exact⟨ha,by rw[Jc];exact hl,vs,_,rv,ha⟩
    ·have j:=((Je hb).trans (Je G)).symm.trans z
     cases j
theorem i7 {l:PySem.W.OpenLaw}{n k:Nat}{q:Yo}{loose:List Str}{R:(Str->Option Jo)->YP->Prop}{C:YI->YP->Prop}{d:DefRec}{K:Params->Jl}{CX:CXT}{sp:Jl->Sp}{x:Str}(ts:List JI)(hn:l.most=some n)(t:n<=sizeLine)(z:d.params.defaults=[])(J:Room k callerA)(N:∀ (w:YI) (h:YP),C w h->(K w.params).In h/\∀ p∈ts,h.get? p=some (PySem.W.tabObj #[]))(F:∀ (w:YI) (mg:Str->Option Jo) (i:JI) (h:YP),(K w.params).In h->h.Ns mainGlobals mg->mg d.name=some (.ref i)->(∀ p∈ts,(K w.params).lookup p=none/\∃ c,PySem.W.codeHdIn (K w.params) c p=true) /\
   ∃ fd:Yl,(∀ (s:JO) (u:Jo),BindsTo s fd ⟨[u],[]⟩ [(x,u)]) /\
    ∀ base:YP,(K w.params).In base->base.Ns mainGlobals mg->(∀ p∈ts,base.BuiltinsAt mg p)->FnOk l.prog w (K w.params) mg base CX k i fd [x] (sp (K w.params)))(r:∀ (K:Jl) (H:Hp) (a:JI) (ns:List Int),ns.length<=n->SqL K H a (ns.map V.int)->(∀ p∈ts,H p=some (.tbl #[]))->sp K [.ref a] H (λv _=>v=.bl true) λ_ _ _=>False)(A:∀ (H:Hp) (s:JO) (e:Jo) (j:JO),CX [] H s (λ_ _ _=>False) e j->False) :
  PySem.W.WalkO q loose R C l.row.toRowW d [] (λf vs=>PySem.call f vs):=by
 refine Att.attach_call hn z λw E b mg T i o pm cd doc a vs ns G Y U W S y g hints hlen L=>?_;obtain⟨D,I⟩:=N w _ Y;obtain⟨B,fd,M,Q⟩:=F w mg i _ D G.T.g y;exact iL ts D G.T.g G.T.b G.T.builtins G.T.nolimit L g hints (JS hlen t) J (λp m=>⟨I p m,(B p m).1,(B p m).2⟩) G.T.bmain Q M (λH P O=>r (K w.params) H a ns hlen P O) λH e j=>A H b e j
structure FunC (K:Jl) (x qual:Str) (st:Stmt) (f:JI) (fd:Yl) (c:JI):Prop where
 ex:∃ (oc:Jo) (od:Option JI) (kV doc pm:Jo) (an:Option JI) (ct:Jo) (osl:Array (Option Jo)),
  fd=PySem.W.fnOf x qual (xI st) (yd st) (zN st) .none kV doc pm an (.ref c) ct/\K.lookup f=some ⟨oc,od,.func fd,osl⟩/\PySem.W.codeIn K (.ref c) qual=true
 kp:PySem.W.keepIn K (.ref f)=true
theorem FunC.ok {P:Yo}{w:YI}{K:Jl}{mg:Str->Option Jo}{base:YP}{x qual:Str}{st:Stmt}{f c:JI}{fd:Yl}{N ps:List Str}{k:Nat}{sp:Sp}(F:FunC K x qual st f fd c)(S:FnScope N ps (zN st))(len:∀ vs H Q E,sp vs H Q E->vs.length=ps.length)(a:∀ (A:YO) (outer:List Env) (s:JO) (H:Hp) (vs:List V) (Q:VK) (E:XK),Room k (A.deeper (envOfC qual (zN st) s.heap.objs.size f (.ref c)))->sp vs H Q E ->
   ∃ t,PSs (lS CX0 P w K mg base N qual (zN st) f (.ref c) A outer s H E).nox (yd st) t/\t { nx:=λ_ i=>Q .non i,rt:=Q } (start N vs) H):FnOk P w K mg base CX0 (k+1) f fd ps sp:=by
 obtain⟨m,l,kV,doc,pm,an,n,j,rfl,e,d⟩:=F.ex;refine aA e d S len λA outer s H vs Q E g b=>?_;obtain⟨t,h,q⟩:=a A outer s H vs Q E g b;exact⟨t,h.nox,q⟩
end L2
namespace L2
open PySem PySem.Spec PyProof.Rows Own Bn
noncomputable def xa (N:Nt)(ts:List Int)(lane:Nat):List Int:=(yP false N.forks ts lane N.forks.length).1
noncomputable def passE (N:Nt)(ts:List Int)(lane:Nat):Nat:=N.ends.idxOf (yP false N.forks ts lane N.forks.length).2
noncomputable def yC (N:Nt):KN->Nat->Option KN
 | [.inr ts,.inl r],m=>if ((passE N ts m:Nat):Int)=r then some (stK (xa N ts m) [(r+1)%(N.lanes:Nat)]) else none
 | _,_=>none
noncomputable def OkP (N:Nt)(k:KN):Prop:=∃ (a:List Int) (r:Nat),k=stK a [(r:Nat)]/\a.length=N.forks.length/\Bits a/\r<N.lanes
theorem OkP.st {N:Nt}(ok:Nt.Ok N){k:KN}(h:OkP N k):StOk N.forks.length 1 k:=by
 obtain⟨a,r,rfl,d,c,e⟩:=h;refine⟨a,[(r:Nat)],rfl,d,c,rfl,λx b=>?_⟩;rw[Ja.mp b];have:=ok.l16;lia
theorem rV (N:Nt)(ts:List Int)(lane:Nat):(xa N ts lane).length=ts.length:=wT _
theorem tV {N:Nt}{ts:List Int}{lane:Nat}(h:Bits ts):Bits (xa N ts lane):=x6 h _
theorem xP {N:Nt}(ok:Nt.Ok N){s t:KN}{m:Nat}(h:OkP N s)(e:yC N s m=some t):OkP N t:=by
 obtain⟨a,r,rfl,d,c,f⟩:=h;have b:(if ((passE N a m:Nat):Int)=(r:Nat) then some (stK (xa N a m) [((r:Nat)+1)%(N.lanes:Nat)]) else none)=some t:=e;split at b
 ·cases b
  refine⟨xa N a m,(r+1)%N.lanes,?_,(rV _ _ _).trans d,tV c,Nat.mod_lt _ (by have:=ok.l1;lia)⟩;rw[Int.natCast_emod];rfl
 ·cases b
noncomputable def vI:Sp:=λe H Q _=>∃ r fr g f N b k,∃ a:Nat,e=[.ref r,.ref b,.int (a:Nat)]/\Nt.Ok N/\NetAt H r fr g f N/\NKey H k b/\OkP N k/\a<N.lanes /\
 (∀ c,Same H c->yC N k a=none->Q .non c)/\(∀ c d t,Same H c->yC N k a=some t->NKey c t d->Q (.ref d) c)
noncomputable def y9:LSpc:=λvals c H Q E=>∃ r b,∃ a:Nat,vals=[.ref r]/\c=[.ref b,.int (a:Nat)]/\vI [.ref r,.ref b,.int (a:Nat)] H Q E
theorem nF {H:Hp}{r fr er:JI}{ps:List V}{N:Nt}{moves:List Nat}(ok:Nt.Ok N)(na:NetAt H r fr er ps N)(lt:∀ m∈moves,m<N.lanes):Led y9 [.ref r] (yC N) (OkP N) moves H:=λf s b m Q t os d e c a =>
 ⟨r,b,m,rfl,rfl,r,fr,er,ps,N,b,s,m,rfl,ok,na.tups t,e,os,lt m d,c,a⟩
noncomputable def TabQ (q:Str)(Pt:JI)(H:Hp):Prop:=∃ l,H Pt=some (.tbl (triples l).toArray)/\TabOk H q l
theorem TabQ.keep {q:Str}{Pt:JI}{H H':Hp}(t:TabQ q Pt H)(k:∀ b o,H b=some o->(∃ ps,o=.tbl ps)\/(∃ u v,o=.frz u v)->H' b=some o):TabQ q Pt H':=by
 obtain⟨l,c,a⟩:=t;exact⟨l,k _ _ c (.inl ⟨_,rfl⟩),a.frz λb o u e=>k _ _ e (.inr ⟨_,_,rfl⟩)⟩
theorem TabQ.same {q:Str}{Pt:JI}{H H':Hp}(t:TabQ q Pt H)(s:Same H H'):TabQ q Pt H':=t.keep λb o e _=>s b o e
theorem TabQ.but {q:Str}{Pt l:JI}{H H':Hp}{xs:List V}(t:TabQ q Pt H)(b:But l H H')(h:H l=some (.lst xs)):TabQ q Pt H':=t.keep λc o e z=>b c o e λy=>by
 rw[y,h]at e;cases e;rcases z with ⟨_,z⟩|⟨_,_,z⟩<;>cases z
noncomputable def yS (N:Nt)(moves:List Nat)(most:Nat):LRes:=ya (yC N) moves most (most+1) [(stK (List.replicate N.forks.length 0) [0],List.replicate N.lanes 0)] [] []
noncomputable def TellV (H:Hp)(p:JI):LRes->Prop
 | .opn=>H p=some (.tup [.str "open",.non])
 | .brk c=>∃ b,H p=some (.tup [.str "breaks",.ref b])/\H b=some (.tup (c.map V.int))
 | .whl ls=>∃ b bs ks,H p=some (.tup [.str "stair",.ref b])/\H b=some (.tup (List.map V.ref bs))/\KeysAt H bs ks/\BookOf ks ls
noncomputable def tH:Sp:=λb H Q _=>∃ r fr d c N,b=[.ref r]/\Nt.Ok N/\NetAt H r fr d c N/\∀ p a,Same H a->a p=some (.tup ((List.replicate N.forks.length (0:Int)).map V.int))->Q (.ref p) a
noncomputable def xA:Sp:=λb H Q _=>∃ r fr d c N,b=[.ref r]/\Nt.Ok N/\NetAt H r fr d c N/\∀ p a,Same H a->NKey a (stK (List.replicate N.forks.length 0) [0]) p->Q (.ref p) a
noncomputable def ve (q:Str)(Pt:JI):Sp:=λc H Q _=>∃ r fr e d N b,∃ (moves:List Nat) (most:Nat),c=[.ref r,.ref b,.int (most:Nat)]/\Nt.Ok N/\NetAt H r fr e d N/\H b=some (.tup (moves.map λm=>V.int (m:Nat)))/\(∀ m∈moves,m<N.lanes)/\moves.length<=16/\0<most/\(most<=10000\/moves.length<=1/\most<=100000)/\TabQ q Pt H /\
 ∀ p a,But Pt H a->TabQ q Pt a->TellV a p (yS N moves most)->Q (.ref p) a
structure Whole (Ok:KN->Prop) (most:Nat) (ls:List LvL):Prop where
 ok:∀ lv∈ls,∀ p∈lv,Ok p.1
 few:(ls.map List.length).sum<=most
theorem xb {step:KN->Nat->Option KN}{Ok:KN->Prop}{moves:List Nat}{most:Nat}(g:∀ s m t,Ok s->m∈moves->step s m=some t->Ok t):∀ (m:Nat) (level seen:LvL) (ls a:List LvL),Whole Ok most ls->(ls.map List.length).sum=seen.length->seen.length<=most->(∀ p∈level,Ok p.1)->ya step moves most m level seen ls=.whl a->Whole Ok most a
 | 0,_,_,_,_,_,_,_,_,e=>by cases e
 | m+1,level,seen,ls,a,d,i,le,lo,e=>by
  by_cases c:level=[]
  ·subst c;rw[xv]at e;cases e;exact d
  by_cases h:most<seen.length+level.length
  ·rw[xw c h]at e;cases e
  by_cases f:(yL step (seen++level) moves level).fl=[]
  ·rw[wP c h f]at e
   have e2:((ls++[level]).map List.length).sum=(seen++level).length:=by rw[JG,List.sum_append,i,Jb];rfl
   refine xb g m _ (seen++level) _ a ⟨λlv j p b=>?_,?_⟩ e2 (by rw[Jb];simp_all) (λp b=>?_) e
   ·rcases Jr.mp j with z|z
    ·exact d.ok lv z p b
    ·rw[Ja.mp z]at b;exact lo p b
   ·rw[e2,Jb];simp_all
   ·exact(vT (step:=step) (seen:=seen++level) (moves:=moves) (Ok:=Ok) level λp b k l t e=>g _ _ _ (lo p b) l e).ok p b
  ·rw[xx c h f]at e;cases e
theorem sV {step:KN->Nat->Option KN}{moves:List Nat}{most:Nat}(d:moves.length<=1):∀ (m:Nat) (level seen:LvL) (ls a:List LvL),(∀ lv∈ls,lv.length<=1)->level.length<=1->ya step moves most m level seen ls=.whl a->∀ lv∈a,lv.length<=1
 | 0,_,_,_,_,_,_,e=>by cases e
 | m+1,level,seen,ls,a,c,l1,e=>by
  by_cases b:level=[]
  ·subst b;rw[xv]at e;cases e;exact c
  by_cases h:most<seen.length+level.length
  ·rw[xw b h]at e;cases e
  by_cases f:(yL step (seen++level) moves level).fl=[]
  ·rw[wP b h f]at e
   refine sV d m _ (seen++level) _ a (λlv g=>?_) ?_ e
   ·rcases Jr.mp g with z|z
    ·exact c lv z
    ·rw[Ja.mp z];exact l1
   ·have:=ow step (seen++level) moves level
    have:level.length*moves.length<=1*1:=Wh l1 d;lia
  ·rw[xx b h f]at e;cases e
theorem TellR.kept {P:Yo}{w:YI}{H H':Hp}{p:JI}{R:LRes}(h:TellR P w H p R)(k:∀ b o,H b=some o->(∀ q,o≠FZ q)->H' b=some o):TellR P w H' p R:=by
 have t:Tups H H':=λb f e=>k b _ e λq z=>by cases z
 cases R with
 | opn=>exact t _ _ h
 | brk c=>obtain⟨b,d,a⟩:=h;exact⟨b,t _ _ d,t _ _ a⟩
 | whl ls =>
  obtain⟨l,as,d,a,g⟩:=h;refine⟨l,as,t _ _ d,k _ _ a (λq z=>by cases z),?_⟩;clear d a
  induction g with
  | nil=>exact .nil
  | cons q _ ih =>
   obtain⟨f,e,le⟩:=q;exact .cons ⟨f,k _ _ e (λq z=>by cases z),le.tups t⟩ ih
theorem mG {cs:List (Str × JI)}{H:Hp}(fz:CellsFz cs H):∀ b o,H b=some o->(∀ q,o≠FZ q)->strip cs H b=some o:=λb o e n=>by
 rw[zv];· exact e
 ·intro a
  obtain⟨q,z⟩:=fz b a;rw[e]at z;exact n q (Jf z)
theorem xn {N:Nt}(ok:Nt.Ok N):OkP N (stK (List.replicate N.forks.length 0) [0]):=⟨_,0,rfl,ZR,λt a=>.inl (List.eq_of_mem_replicate a),ok.l1⟩
noncomputable def An (H:Hp)(x:V):Prop:=Flat x\/∃ a,x=.ref a/\((∃ b,H a=some (.tup b))\/(∃ b,H a=some (.lst b))\/H a=some (.dK []))
theorem An.any {K:Jl}{H:Hp}{x:V}(h:An H x):AnyT K H x:=by
 rcases h with h|⟨a,rfl,⟨b,h⟩|⟨b,h⟩|h⟩
 ·exact(Good.flat (D:=λ_=>True) h).any
 ·exact⟨_,.tup h,_,rfl⟩
 ·exact⟨_,.lst h,_,rfl⟩
 ·exact⟨_,.dK h,_,rfl⟩
theorem An.kp {H H':Hp}{x:V}(k:KpN H H')(h:An H x):An H' x:=by
 rcases h with h|⟨a,e,⟨b,h⟩|⟨b,h⟩|h⟩
 ·exact .inl h
 ·exact .inr ⟨a,e,.inl ⟨b,k _ _ h (.tup _)⟩⟩
 ·exact .inr ⟨a,e,.inr (.inl ⟨b,k _ _ h (.lst _)⟩)⟩
 ·exact .inr ⟨a,e,.inr (.inr (k _ _ h .dK))⟩
theorem An.row {H H':Hp}{x:V}(k:KpN H H')(h:An H x):yG H' x=yG H x:=by
 rcases h with h|⟨a,e,⟨c,h⟩|⟨c,h⟩|h⟩
 ·cases x<;>first|rfl|exact h.elim
 ·subst e;rw[yR h,yR (k _ _ h (.tup _))]
 ·subst e
  have b:=k _ _ h (.lst _);simp only[yG,h,b]
 ·subst e
  have b:=k _ _ h .dK;simp only[yG,h,b]
noncomputable def Dp (H:Hp):Nat->V->Prop
 | 0,x=>An H x
 | n+1,x=>An H x/\∀ xs,yG H x=some xs->xs.length<=1000/\∀ y∈xs,Dp H n y
theorem Dp.an {H:Hp}:∀ {n:Nat}{x:V},Dp H n x->An H x
 | 0,_,h=>h
 | _+1,_,h=>h.1
theorem Dp.deep {K:Jl}{H:Hp}:∀ {n:Nat}{x:V},Dp H n x->Deep K H n x
 | 0,_,h=>h.any
 | _+1,_,h=>⟨h.1.any,λxs e=>⟨(h.2 xs e).1,λy a=>((h.2 xs e).2 y a).deep⟩⟩
theorem Dp.kp {H H':Hp}(k:KpN H H'):∀ {n:Nat}{x:V},Dp H n x->Dp H' n x
 | 0,_,h=>An.kp k h
 | _+1,_,h=>⟨h.1.kp k,λxs e=>by
  rw[h.1.row k]at e
  exact⟨(h.2 xs e).1,λy a=>((h.2 xs e).2 y a).kp k⟩⟩
theorem Dp.flat {H:Hp}{n:Nat}{x:V}(h:Flat x):Dp H n x:=by
 cases n with
 | zero=>exact .inl h
 | succ n=>exact⟨.inl h,λa e=>by cases x<;>first|cases e|exact h.elim⟩
noncomputable def sH (xs:List V):List Int:=xs.filterMap λx=>match x with|.int i=>some i|_=>none
theorem iU (is:List Int):sH (is.map V.int)=is:=by
 induction is with
 | nil=>rfl
 | cons i is ih=>show i::sH (is.map V.int)=_;rw[ih]
theorem eU {xs:List V}(h:∀ x∈xs,ny x=true):xs=(sH xs).map V.int:=by
 induction xs with
 | nil=>rfl
 | cons x xs ih =>
  have e:=h x (.head _)
  cases x with
  | int i=>show V.int i::xs=V.int i::(sH xs).map V.int;rw[<- ih λy a=>h y (.tail _ a)]
  | _=>cases e
noncomputable def gj (H:Hp)(x:V):List Int:=sH ((yG H x).getD [])
theorem pQ {x:V}{b:Int}(h:xV b x=true):ny x=true:=by
 cases x with
 | int i=>rfl
 | _=>cases h
theorem gh {H H':Hp}{x:V}{n:Nat}(k:KpN H H')(d:Dp H n x):yG H' x=yG H x:=d.an.row k
end L2
namespace K38
open PySem L2 Own Bn
noncomputable abbrev vg:Stmt:=top 4
noncomputable def qW (K:Jl):Sp:=λc H Q _=>∃ x,∃ many b:Int,c=[x,.int many,.int b]/\Deep K H 1 x/\∀ a,Same H a->Q (.bl (yt H many b x)) a
theorem dJ {K:Jl}{H H':Hp}(s:Same H H'):∀ {n:Nat}{x:V},Deep K H n x->Deep K H' n x
 | 0,_,h=>AnyT.same s h
 | n+1,x,h=>⟨AnyT.same s h.1,λxs e=>by
  rw[gf s h.1]at e
  exact⟨(h.2 xs e).1,λy a=>dJ s ((h.2 xs e).2 y a)⟩⟩
section
variable {P:Yo}{w:YI}{K:Jl}{mg:Str->Option Jo}{base:YP}
theorem zbP:FnScope ["thing","many","bound"] ["thing","many","bound"] (zN vg):=by rfl'
theorem oZ {f L M:JI}{fd N O:Yl}(F:Fun K "are_below" "are_below" vg f fd) (G:Mgs mg) (m:Use P w K mg base "is_row" ["thing","many"] 1 (uc K) L N) (n:Use P w K mg base "is_below" ["thing","bound"] 2 (ud K) M O):FnOk P w K mg base CX0 3 f fd ["thing","many","bound"] (qW K):=by
 refine F.ok zbP (λJ H Q E h=>?_) (λR A outer s H J Q E B h=>?_)
 ·obtain⟨x,many,b,rfl,_⟩:=h
  rfl
 obtain⟨x,many,b,rfl,r,k⟩:=h;have t:Room 1 _:=B.mono (by decide);refine⟨_,(@zK _ _ _ (@zS _ _ _ _ (@vm _ _ _ _ _ _ _ (@zQ _ _ _ _ _ _ _ _ _ _ _ _ _ _ _ _ m.ok t (by rfl) m.m m.kp m.b .nil zY (@zA _ _ _ _ _ (@qv _ 0 _ _ (by rfl')) (@zA _ _ _ _ _ (@qv _ 1 _ _ (by rfl')) zC (by rfl)) (by rfl)) (by decide) (by rfl) (by rfl)) (@tT _ _ _ _ _ (@zR _ _ _ _ _ _ _ _ _ (uI rfl true) (by rfl) G.all (by rfl) (@zA _ _ _ _ _ (@oR _ _ _ _ none _ _ _ _ _ _ ["number","bound"] [none,some 2] rfl (@xc _ _ _ _ (@qv _ 0 _ _ (by rfl'))) (CapOk.of (by kernel_rfl)) (λ_ _ _ _ _=>(@zM _ _ 0 _ (show (["number","bound"]:List Str).Nodup from by decide +kernel) rfl (.inl rfl) (.inr rfl))) (λ_ _ _ _ _=>xY) (λ_ _ _ _ _=>(@zQ _ _ _ _ _ _ _ _ _ _ _ _ _ _ _ _ n.ok B (by rfl) n.m n.kp n.b .nil zY (@zA _ _ _ _ _ (@qv _ 0 _ _ (by rfl')) (@zA _ _ _ _ _ (@qv _ 1 _ _ (by rfl')) zC (by rfl)) (by rfl)) (by decide) (by rfl) (by rfl))) (by intro _;rfl)) zC (by rfl)) (by decide) (by decide) (by rfl) (by rfl)))))),?_⟩;refine⟨_,rfl,_,rfl,x,many,rfl,r.any,_,rfl,?_⟩
 cases z:yG H x with
 | none =>
  have e:vh H many x=false:=by unfold vh;rw[z]
  have e2:yt H many b x=false:=by unfold yt;rw[z]
  rw[e];rw[e2]at k
  exact zz (k H (Same.refl H))
 | some xs =>
  have e:vh H many x=decide ((xs.length:Int)=many):=by unfold vh;rw[z]
  have e2:yt H many b x=(decide ((xs.length:Int)=many) && xs.all (xV b)):=by unfold yt;rw[z]
  rw[e];rw[e2]at k;obtain⟨a,rfl,D⟩:=yh z;by_cases lm:(xs.length:Int)=many
  ·rw[Jt lm]at k ⊢
   refine yV ⟨_,rfl,a,rfl,⟨_,SqT.of D⟩,λl C=>?_⟩;refine pE (K:=K) (a:=a) (xs:=xs) (λi acc σ d=>(∃ v,σ=[v,some (.int b)])/\Same H d/\d l=some (.lst acc)/\acc=((xs.take i).map (xV b)).map V.bl) ⟨⟨_,rfl⟩,zD C _,zB,rfl⟩ (λi acc σ d q=>⟨q.2.2.1,SqT.of (q.2.1 _ _ D)⟩) ?_ ?_
   ·rintro i y acc σ d p ⟨⟨v,rfl⟩,g,j,rfl⟩
    have u:=(J9.mp p).1;refine⟨_,rfl,_,rfl,y,b,rfl,AnyT.same g (((r.2 xs z).2 y (JF p))),?_⟩;refine⟨j,?_,nx u ⟨⟨_,rfl⟩,λc o e=>?_,zB,?_⟩⟩
    ·rw[Jc,Jc,JC];exact Wi (Nat.min_le_left _ _) (JJ (show i<1000 by have:=(r.2 xs z).1;lia) (by decide))
    ·rw[zG (zE e C)];exact g c o e
    ·have I:xs[i]=y:=(J9.mp p).2
     rw[Z5 u,JG,JG,I];rfl
   ·rintro acc σ d ⟨⟨v,rfl⟩,g,j,rfl⟩
    rw[Y9]at j;refine⟨l,xs.map (xV b),rfl,SqL.of j,?_⟩;rw[List.all_map];exact k d g
  ·rw[Jj lm]at k ⊢
   exact zz (k H (Same.refl H))
noncomputable abbrev mR:Stmt:=top 8
noncomputable abbrev mU:Stmt:=top 9
noncomputable def qT:Sp:=λd H Q _=>∃ a b,∃ (place:Nat) (v:Int),d=[.ref a,.int place,.int v]/\H a=some (.tup (List.map V.int b))/\place<b.length/\b.length<=1000/\∀ p c,Same H c->c p=some (.tup ((b.set place v).map V.int))->Q (.ref p) c
noncomputable def qX:Sp:=λd H Q _=>∃ a b,∃ (place:Nat) (v:Int),d=[.ref a,.int place,.int v]/\H a=some (.tup (List.map V.int b))/\place<b.length/\b.length<=1000/\∀ p c,Same H c->c p=some (.tup ((b.set place (b.getD place 0+v)).map V.int))->Q (.ref p) c
theorem zbJ:FnScope ["row","place","value"] ["row","place","value"] (zN mR):=by rfl'
theorem fq {f:JI}{fd:Yl}(F:Fun K "given_at" "given_at" mR f fd) (G:Mgs mg):FnOk P w K mg base CX0 1 f fd ["row","place","value"] qT:=by
 refine F.ok zbJ (λl H Q E h=>?_) (λC A outer s H l Q E J h=>?_)
 ·obtain⟨a,b,place,v,rfl,_⟩:=h
  rfl
 obtain⟨a,b,place,v,rfl,g,p,D,k⟩:=h;refine⟨_,(@zK _ _ _ (@zS _ _ _ _ (@zV _ _ _ _ _ _ _ _ um (@zV _ _ _ _ _ _ _ _ um (@yo _ _ _ _ _ _ _ _ _ _ ue (@qv _ 0 _ _ (by rfl')) yq (@yW _ _ _ (@qv _ 1 _ _ (by rfl')))) (@zX _ _ _ _ _ (@zA _ _ _ _ _ (@qv _ 2 _ _ (by rfl')) zC (by rfl)))) (@yo _ _ _ _ _ _ _ _ _ _ ue (@qv _ 0 _ _ (by rfl')) (@yW _ _ _ (@zV _ _ _ _ _ _ _ _ xF (@qv _ 1 _ _ (by rfl')) zJ)) yq)))),?_⟩;have I:(b.map V.int).length=b.length:=Jc _;refine⟨_,rfl,_,rfl,_,rfl,a,_,rfl,g,λx N o j=>?_⟩;rw[sR _ place (by lia)]at j;refine⟨_,rfl,(by show 1<=sizeLine;decide),λu c=>?_⟩;have e:=zD c (.tup [.int v]);refine⟨x,u,_,_,rfl,rfl,e _ _ j,zB,?_,λt M n z=>?_⟩
 ·rw[JC,JE];show _+1<=_;grind
 have u3:=(o.trans e).trans n;refine⟨_,rfl,_,rfl,_,_,rfl,rfl,_,rfl,a,_,rfl,u3 _ _ g,λr L d i=>?_⟩;rw[show ((place:Int)+1)=((place+1:Nat):Int) from rfl,sS _ (place+1) (by lia)]at i;refine⟨t,r,_,_,rfl,rfl,d _ _ z,i,?_,λq B m y=>?_⟩
 ·rw[Jb,JC,Zb,JE];show _+1+_<=_;grind
 exact k q B ((u3.trans d).trans m) (by rw[y,kA b place v p])
theorem zbO:FnScope ["counts","place","many"] ["counts","place","many"] (zN mU):=by rfl'
theorem fu {f l:JI}{fd m:Yl}(F:Fun K "added" "added" mU f fd) (G:Mgs mg) (b:Use P w K mg base "given_at" ["row","place","value"] 1 qT l m):FnOk P w K mg base CX0 2 f fd ["counts","place","many"] qX:=by
 refine F.ok zbO (λi H Q E h=>?_) (λn A outer s H i Q E j h=>?_)
 ·obtain⟨a,c,place,v,rfl,_⟩:=h
  rfl
 obtain⟨a,c,place,v,rfl,e,d,g,k⟩:=h;refine⟨_,(@zK _ _ _ (@zS _ _ _ _ (@zQ _ _ _ _ _ _ _ _ _ _ _ _ _ _ _ _ b.ok j (by rfl) b.m b.kp b.b .nil zY (@zA _ _ _ _ _ (@qv _ 0 _ _ (by rfl')) (@zA _ _ _ _ _ (@qv _ 1 _ _ (by rfl')) (@zA _ _ _ _ _ (@zV _ _ _ _ _ _ _ _ xF (@zj _ _ _ _ _ _ _ yE (@qv _ 0 _ _ (by rfl')) (@qv _ 1 _ _ (by rfl')) (λ_ _=>rfl)) (@qv _ 2 _ _ (by rfl'))) zC (by rfl)) (by rfl)) (by rfl)) (by decide) (by rfl) (by rfl)))),?_⟩;exact⟨_,rfl,_,rfl,_,rfl,_,rfl,a,_,_,_,rfl,rfl,SqT.of e,uJ d,_,rfl,_,_,rfl,rfl,a,c,place,_,rfl,e,d,g,k⟩
end
end K38
namespace L2
open PySem PySem.Spec PyProof.Rows Own Bn
theorem qG:∀ x:List Int,cmpR x x=.eq
 | []=>rfl
 | a::x=>by show (compare a a).then (cmpR x x)=.eq;rw[YF.mpr rfl,qG x];rfl
theorem jB:∀ {x y:List Int},cmpR x y=.eq->x=y
 | [],[],_=>rfl
 | [],_::_,h=>by cases h
 | _::_,[],h=>by cases h
 | a::x,b::y,h=>by
  have h':(compare a b).then (cmpR x y)=.eq:=h
  cases z:compare a b with
  | lt=>rw[z]at h';cases h'
  | gt=>rw[z]at h';cases h'
  | eq=>rw[z]at h';rw[YF.mp z,jB h']
theorem uF:∀ x y:List Int,cmpR y x=(cmpR x y).swap
 | [],[]=>rfl
 | [],_::_=>rfl
 | _::_,[]=>rfl
 | a::x,b::y=>by
  show (compare b a).then (cmpR y x)=((compare a b).then (cmpR x y)).swap;rw[uF x y];rcases Zr a b with h|h|h
  ·rw[Yv.mpr h,Yw.mpr h];rfl
  ·subst h
   rw[YF.mpr (rfl:a=a)];rfl
  ·rw[Yw.mpr h,Yv.mpr h];rfl
noncomputable def leR (x y:List Int):Prop:=cmpR x y≠.gt
theorem vV (x:List Int):leR x x:=by unfold leR;rw[qG];exact λh=>by cases h
theorem xL:∀ {x y z:List Int},leR x y->leR y z->leR x z
 | [],[],[],_,_=>λh=>by cases h
 | [],_,_::_,_,_=>λh=>by cases h
 | [],_::_,[],_,h=>absurd rfl h
 | _::_,[],_,h,_=>absurd rfl h
 | _::_,_::_,[],_,h=>absurd rfl h
 | a::x,b::y,c::z,g,f=>by
  have e:(compare a b).then (cmpR x y)≠.gt:=g;have d:(compare b c).then (cmpR y z)≠.gt:=f;show (compare a c).then (cmpR x z)≠.gt;rcases Zr a b with p|p|p
  ·rcases Zr b c with q|q|q
   ·rw[Yv.mpr (show a<c by lia)];exact λh=>by cases h
   ·rw[Yv.mpr (show a<c by simp_all)];exact λh=>by cases h
   ·rw[Yw.mpr q]at d;exact absurd rfl d
  ·subst p
   rw[YF.mpr (rfl:a=a)]at e;rcases Zr a c with q|q|q
   ·rw[Yv.mpr q];exact λh=>by cases h
   ·subst q
    rw[YF.mpr (rfl:a=a)]at d ⊢;exact xL (x:=x) (y:=y) (z:=z) e d
   ·rw[Yw.mpr q]at d;exact absurd rfl d
  ·rw[Yw.mpr p]at e;exact absurd rfl e
theorem kN (x y:List Int):leR (yn x y) x/\leR (yn x y) y:=by
 unfold yn;by_cases h:cmpR y x=.lt
 ·rw[Jm h];exact⟨(by unfold leR;rw[h];exact λz=>by cases z),vV y⟩
 ·rw[Je h]
  refine⟨vV x,λz=>h ?_⟩;rw[uF x y,z];rfl
theorem eE:∀ {l:List (List Int)},l≠[]->iG l∈l
 | [],h=>absurd rfl h
 | x::r,_=>by
  have key:∀ (r:List (List Int)) (x:List Int),r.foldl yn x∈x::r:=by
   intro r
   induction r with
   | nil=>intro x;exact .head _
   | cons y r ih =>
    intro x;show r.foldl yn (yn x y)∈x::y::r;rcases Jq.mp (ih (yn x y)) with z|z
    ·rw[z]
     rcases uo x y with e|e
     ·rw[e];exact .head _
     ·rw[e];exact .tail _ (.head _)
    ·exact .tail _ (.tail _ z)
  exact key r x
theorem cy:∀ {l:List (List Int)}{x:List Int},x∈l->leR (iG l) x
 | [],x,h=>by cases h
 | a::r,x,h=>by
  have key:∀ (r:List (List Int)) (a:List Int),leR (r.foldl yn a) a/\∀ x∈r,leR (r.foldl yn a) x:=by
   intro r
   induction r with
   | nil=>intro a;exact⟨vV a,λx b=>(nomatch b)⟩
   | cons y r ih =>
    intro a;obtain⟨c,f⟩:=ih (yn a y);obtain⟨e,d⟩:=kN a y;refine⟨xL c e,λx b=>?_⟩;rcases Jq.mp b with rfl|z
    ·exact xL c d
    ·exact f x z
  rcases Jq.mp h with rfl|z
  ·exact(key r _).1
  ·exact(key r a).2 x z
theorem qw:∀ {c d:List Int}{m:Nat},c.length=d.length->leR c d->leR (zp c m) (zp d m)
 | [],[],m,_,h=>by unfold zp df;exact h
 | a::c,b::d,0,_,h=>by
  have h':(compare a b).then (cmpR c d)≠.gt:=h;show (compare (a+1) (b+1)).then (cmpR c d)≠.gt
  have e:compare (a+1) (b+1)=compare a b:=by
   rcases Zr a b with p|p|p
   ·rw[Yv.mpr p,Yv.mpr (by simp_all)]
   ·subst p;rw[YF.mpr (rfl:a=a),YF.mpr rfl]
   ·rw[Yw.mpr p,Yw.mpr (by simp_all)]
  rw[e];exact h'
 | a::c,b::d,m+1,l,h=>by
  have h':(compare a b).then (cmpR c d)≠.gt:=h;show (compare a b).then (cmpR (zp c m) (zp d m))≠.gt
  cases z:compare a b with
  | lt=>exact λh=>by cases h
  | gt=>rw[z]at h';exact absurd rfl h'
  | eq=>rw[z]at h';exact qw (c:=c) (d:=d) (by simpa using l) h'
theorem wj (ps:LvL)(k:KN)(r:List Int):zU (xW ps k r) k=some r:=by
 unfold xW;split
 ·rename_i h
  have key:∀ ps:LvL,(zU ps k).isSome=true->zU (ps.map λx=>if x.1=k then (x.1,r) else x) k=some r:=by
   intro ps
   induction ps with
   | nil=>intro h;cases h
   | cons p ps ih =>
    intro h;unfold zU at ih h ⊢;rw[JR,YB];rw[YB]at h;by_cases z:p.1=k
    ·rw[Jm z]
     show (match decide (p.1=k) with|true=>some (p.1,r)|false=>_).map _=_;rw[Jt z];rfl
    ·rw[Je z,Jj z]
     rw[Jj z]at h;exact ih h
  exact key ps h
 ·rename_i h
  have e:zU ps k=none:=by
   cases g:zU ps k with
   | none=>rfl
   | some x=>rw[g]at h;exact absurd rfl h
  unfold zU at e ⊢;rw[Option.map_eq_none_iff]at e;rw[List.find?_append,e];show Option.map _ ((none:Option (KN × List Int)).or (List.find? _ [(k,r)]))=_;rw[YB];show Option.map _ ((none:Option (KN × List Int)).or (match decide (k=k) with|true=>some (k,r)|false=>_))=_;rw[Jt rfl];rfl
theorem nK {k j:KN}(r:List Int)(h:j≠k):∀ ps:LvL,zU (ps.map λx=>if x.1=k then (x.1,r) else x) j=zU ps j:=by
 intro ps
 induction ps with
 | nil=>rfl
 | cons p ps ih =>
  unfold zU at ih ⊢;rw[JR,YB,YB];by_cases z:p.1=k
  ·rw[Jm z]
   have n:¬ p.1=j:=λy=>h (y.symm.trans z);show (match decide (p.1=j) with|true=>_|false=>_:Option (KN × List Int)).map _=_;rw[Jj n];exact ih
  ·rw[Je z]
   by_cases y:p.1=j
   ·rw[Jt y]
   ·rw[Jj y];exact ih
theorem uS (ps:LvL){k j:KN}(r:List Int)(h:j≠k):zU (xW ps k r) j=zU ps j:=by
 unfold xW;split
 ·exact nK r h ps
 ·unfold zU
  rw[List.find?_append]
  cases e:List.find? (λx=>decide (x.1=j)) ps with
  | some x=>rfl
  | none =>
   show Option.map _ ((none:Option (KN × List Int)).or (List.find? _ [(k,r)]))=_;rw[YB];show Option.map _ ((none:Option (KN × List Int)).or (match decide (k=j) with|true=>some (k,r)|false=>_))=_;rw[Jj (λz=>h z.symm)];rfl
noncomputable abbrev Tri:=KN × List Int × Nat
structure Met (step:KN->Nat->Option KN) (seen:LvL) (T:List Tri) (a:LAcc):Prop where
 on:∀ t c,zU a.on t=some c->∃ x∈T,step x.1 x.2.2=some t/\c=zp x.2.1 x.2.2
 has:∀ x∈T,∀ t,step x.1 x.2.2=some t->zU seen t=none->∃ c,zU a.on t=some c/\leR c (zp x.2.1 x.2.2)
 fl1:∀ r∈a.fl,∃ x∈T,step x.1 x.2.2=none/\r=zp x.2.1 x.2.2
 fl2:∀ x∈T,step x.1 x.2.2=none->zp x.2.1 x.2.2∈a.fl
theorem nJ {α:Type}{o:Option α}(h:¬ o.isSome=true):o=none:=by
 cases o with
 | none=>rfl
 | some x=>exact absurd rfl h
section
variable {step:KN->Nat->Option KN}{seen:LvL}
theorem Met.go {T:List Tri}{a:LAcc}(h:Met step seen T a)(s:KN)(c:List Int)(m:Nat):Met step seen (T++[(s,c,m)]) (go1 step seen s c a m):=by
 have last:∀ {p:Tri->Prop}{x:Tri},x∈T++[(s,c,m)]->(x∈T->p x)->p (s,c,m)->p x:=λb F E=>by
  rcases Jr.mp b with z|z
  ·exact F z
  ·rw[Ja.mp z];exact E
 have d:∀ {x:Tri},x∈T->x∈T++[(s,c,m)]:=λz=>JT _ z;have l:((s,c,m):Tri)∈T++[(s,c,m)]:=Js _ (Ja.mpr rfl);unfold go1
 cases e:step s m with
 | none =>
  refine⟨λt j g=>?_,λx b t f sn=>?_,λr n=>?_,λx b ex=>?_⟩
  ·obtain⟨x,b,q⟩:=h.on t j g;exact⟨x,d b,q⟩
  ·refine last (p:=λx=>step x.1 x.2.2=some t->∃ j,zU a.on t=some j/\leR j (zp x.2.1 x.2.2)) b (λz f=>h.has x z t f sn) (λf=>?_) f
   have i:step s m=some t:=f;rw[e]at i;cases i
  ·rcases Jr.mp n with z|z
   ·obtain⟨x,b,q⟩:=h.fl1 r z;exact⟨x,d b,q⟩
   ·exact⟨_,l,e,Ja.mp z⟩
  ·exact last (p:=λx=>step x.1 x.2.2=none->zp x.2.1 x.2.2∈a.fl++[zp c m]) b (λz ex=>JT _ (h.fl2 x z ex)) (λ_=>Js _ (Ja.mpr rfl)) ex
 | some u =>
  dsimp only;by_cases o:(zU seen u).isSome=true
  ·rw[Jm o]
   refine⟨λt j g=>?_,λx b t f sn=>?_,λr n=>?_,λx b ex=>?_⟩
   ·obtain⟨x,b,q⟩:=h.on t j g;exact⟨x,d b,q⟩
   ·refine last (p:=λx=>step x.1 x.2.2=some t->∃ j,zU a.on t=some j/\leR j (zp x.2.1 x.2.2)) b (λz f=>h.has x z t f sn) (λf=>?_) f
    have i:step s m=some t:=f;rw[e]at i;cases i;rw[sn]at o;cases o
   ·obtain⟨x,b,q⟩:=h.fl1 r n;exact⟨x,d b,q⟩
   ·refine last (p:=λx=>step x.1 x.2.2=none->zp x.2.1 x.2.2∈a.fl) b (λz ex=>h.fl2 x z ex) (λex=>?_) ex
    have k:step s m=none:=ex;rw[e]at k;cases k
  ·rw[Je o]
   obtain⟨C,w⟩:=kN (zp c m) ((zU a.on u).getD (zp c m));refine⟨λt j g=>?_,λx b t f sn=>?_,λr n=>?_,λx b ex=>?_⟩
   ·by_cases tt:t=u
    ·subst tt
     rw[wj]at g;cases g;rcases uo (zp c m) ((zU a.on t).getD (zp c m)) with q|q
     ·exact⟨_,l,e,q⟩
     ·cases v:zU a.on t with
      | none=>rw[v]at q;exact⟨_,l,e,by rw[Option.getD_none]at q ⊢;exact q⟩
      | some y =>
       rw[v]at q;obtain⟨x,b,B,A⟩:=h.on t y v;exact⟨x,d b,B,by rw[ZU]at q ⊢;rw[q];exact A⟩
    ·rw[uS _ _ tt]at g
     obtain⟨x,b,q⟩:=h.on t j g;exact⟨x,d b,q⟩
   ·by_cases tt:t=u
    ·subst tt
     rw[wj];refine⟨_,rfl,?_⟩;refine last (p:=λx=>step x.1 x.2.2=some t->leR (yn (zp c m) ((zU a.on t).getD (zp c m))) (zp x.2.1 x.2.2)) b (λz f=>?_) (λ_=>C) f;obtain⟨y,G,D⟩:=h.has x z t f sn;rw[G,ZU]at w ⊢;exact xL w D
    ·rw[uS _ _ tt]
     refine last (p:=λx=>step x.1 x.2.2=some t->∃ j,zU a.on t=some j/\leR j (zp x.2.1 x.2.2)) b (λz f=>h.has x z t f sn) (λf=>?_) f;have i:step s m=some t:=f;rw[e]at i;exact absurd (Jf i).symm tt
   ·obtain⟨x,b,q⟩:=h.fl1 r n;exact⟨x,d b,q⟩
   ·refine last (p:=λx=>step x.1 x.2.2=none->zp x.2.1 x.2.2∈a.fl) b (λz ex=>h.fl2 x z ex) (λex=>?_) ex
    have k:step s m=none:=ex;rw[e]at k;cases k
theorem Met.row (s:KN)(c:List Int):∀ (ms:List Nat) {T:List Tri}{a:LAcc},Met step seen T a->Met step seen (T++ms.map λm=>(s,c,m)) (ms.foldl (go1 step seen s c) a)
 | [],T,a,h=>by rw[List.map_nil,JZ];exact h
 | m::r,T,a,h=>by
  have:=Met.row s c r (h.go s c m)
  rwa [JW]at this
noncomputable def jP (moves:List Nat)(level:LvL):List Tri:=level.flatMap λp=>moves.map λm=>(p.1,p.2,m)
theorem Met.lev (moves:List Nat):∀ (level:LvL) {T:List Tri}{a:LAcc},Met step seen T a->Met step seen (T++jP moves level) (level.foldl (goS step seen moves) a)
 | [],T,a,h=>by show Met step seen (T++[]) a;rw[JZ];exact h
 | p::r,T,a,h=>by
  have:=Met.lev moves r (Met.row p.1 p.2 moves h)
  rwa [JW]at this
theorem ot (moves:List Nat)(level:LvL):Met step seen (jP moves level) (yL step seen moves level) :=
 Met.lev moves level (T:=[]) (a:=⟨[],[]⟩) ⟨λt c g=>(by cases g),λx b=>absurd b Jv,λr d=>absurd d Jv,λx b=>absurd b Jv⟩
end
theorem vC {moves:List Nat}{level:LvL}{x:Tri}:x∈jP moves level↔(x.1,x.2.1)∈level/\x.2.2∈moves:=by
 unfold jP;rw[List.mem_flatMap];constructor
 ·rintro⟨p,b,a⟩
  obtain⟨m,c,rfl⟩:=Jw.mp a;exact⟨b,c⟩
 ·rintro⟨e,d⟩
  exact⟨_,e,Jw.mpr ⟨_,d,rfl⟩⟩
noncomputable def wt (step:KN->Nat->Option KN):KN->List Nat->Option KN
 | s,[]=>some s
 | s,m::r=>(step s m).bind λt=>wt step t r
noncomputable def pL (c:List Int)(row:List Nat):List Int:=row.foldl zp c
theorem xJ (step:KN->Nat->Option KN):∀ (r:List Nat) (s:KN) (m:Nat),wt step s (r++[m])=(wt step s r).bind λt=>step t m
 | [],s,m=>by
  show (step s m).bind (λt=>some t)=step s m
  cases step s m<;>rfl
 | a::r,s,m=>by
  show (step s a).bind (λt=>wt step t (r++[m]))=((step s a).bind λt=>wt step t r).bind λt=>step t m
  cases step s a with
  | none=>rfl
  | some t=>exact xJ step r t m
theorem wZ (c:List Int)(r:List Nat)(m:Nat):pL c (r++[m])=zp (pL c r) m:=by unfold pL;rw[Zq];rfl
theorem nX (c:List Int)(r:List Nat):(pL c r).length=c.length:=by
 unfold pL
 induction r generalizing c with
 | nil=>rfl
 | cons m r ih=>show (r.foldl zp (zp c m)).length=_;rw[ih,xk]
theorem tM {r:List Nat}{n:Nat}(h:r.length=n+1):∃ q m,r=q++[m]/\q.length=n:=by
 have ne:r≠[]:=λz=>by rw[z]at h;cases h
 refine⟨r.dropLast,r.getLast ne,(List.dropLast_concat_getLast ne).symm,?_⟩;rw[List.length_dropLast];simp_all
noncomputable def Over (moves row:List Nat):Prop:=∀ m∈row,m∈moves
structure Clm (step:KN->Nat->Option KN) (moves:List Nat) (k0:KN) (c0:List Int) (n:Nat) (level seen:LvL):Prop where
 fst:(zU (seen++level) k0).isSome=true
 way:∀ t c,zU level t=some c->∃ row,row.length=n/\Over moves row/\wt step k0 row=some t/\pL c0 row=c
 all:∀ row,row.length<=n->Over moves row->∃ s,wt step k0 row=some s/\(zU (seen++level) s).isSome=true
 cls:∀ s,(zU seen s).isSome=true->∀ m∈moves,∃ t,step s m=some t/\(zU (seen++level) t).isSome=true
 new:∀ s,(zU level s).isSome=true->zU seen s=none
 lst:∀ row s c,row.length=n->Over moves row->wt step k0 row=some s->zU level s=some c->leR c (pL c0 row)
 nd:LvNd level
 num:n<=seen.length
 rch:∀ s,(zU seen s).isSome=true->∃ row,Over moves row/\wt step k0 row=some s
section
variable {step:KN->Nat->Option KN}{moves:List Nat}{k0:KN}{c0:List Int}{n:Nat}{level seen:LvL}
theorem xS:∀ {ps:LvL},LvNd ps->∀ {s:KN}{c:List Int},(s,c)∈ps->zU ps s=some c
 | [],_,s,c,h=>by cases h
 | p::ps,nd,s,c,h=>by
  unfold LvNd at nd;rw[JR,JP]at nd;unfold zU;rw[YB];rcases Jq.mp h with z|z
  ·rw[<- z]
   show (match decide (s=s) with|true=>some (s,c)|false=>_:Option (KN × List Int)).map _=_;rw[Jt rfl];rfl
  ·have n:¬ p.1=s:=λy=>nd.1 (Jw.mpr ⟨_,z,y.symm⟩)
   rw[Jj n];exact xS nd.2 z
theorem Clm.step_of (h:Clm step moves k0 c0 n level seen){row:List Nat}(e:row.length=n)(b:Over moves row):∃ s,wt step k0 row=some s/\((zU seen s).isSome=true\/∃ c,zU level s=some c):=by
 obtain⟨s,d,a⟩:=h.all row (by simp_all) b;refine⟨s,d,?_⟩;rw[xT,W8]at a;rcases a with z|z
 ·exact .inl z
 ·exact .inr (ZD.mp z)
theorem Clm.next (h:Clm step moves k0 c0 n level seen)(ne:level≠[])(cl:∀ p∈level,p.2.length=c0.length)(fl:(yL step (seen++level) moves level).fl=[]):Clm step moves k0 c0 (n+1) (yL step (seen++level) moves level).on (seen++level):=by
 have M:=ot (step:=step) (seen:=seen++level) moves level;have W:=vT (step:=step) (seen:=seen++level) (moves:=moves) (Ok:=λ_=>True) level λ_ _ _ _ _ _=>trivial
 have f:∀ s,(zU (yL step (seen++level) moves level).on s).isSome=true->zU (seen++level) s=none:=λs a=>by
  obtain⟨r,G⟩:=xq a;exact W.new _ G
 have o:∀ s c,zU level s=some c->∀ m∈moves,∃ t,step s m=some t/\((zU (seen++level) t).isSome=true\/∃ v,zU (yL step (seen++level) moves level).on t=some v/\leR v (zp c m)):=λs c g m b=>by
  have D:((s,c,m):Tri)∈jP moves level:=vC.mpr ⟨yp g,b⟩
  cases e:step s m with
  | none =>
   have:=M.fl2 _ D e
   rw[fl]at this;cases this
  | some t =>
   refine⟨t,rfl,?_⟩;by_cases z:(zU (seen++level) t).isSome=true
   ·exact .inl z
   ·exact .inr (M.has _ D t e (nJ z))
 have lead:∀ s,(zU (seen++level) s).isSome=true->∀ m∈moves,∃ t,step s m=some t/\(zU ((seen++level)++(yL step (seen++level) moves level).on) t).isSome=true:=λs a m b=>by
  rw[xT,W8]at a;rcases a with z|z
  ·obtain⟨t,e,q⟩:=h.cls s z m b
   exact⟨t,e,by rw[xT,q];rfl⟩
  ·obtain⟨c,g⟩:=ZD.mp z
   obtain⟨t,e,q⟩:=o s c g m b;refine⟨t,e,?_⟩;rw[xT];rcases q with q|⟨v,q,_⟩
   ·rw[q];rfl
   ·rw[q];exact Bool.or_true _
 refine⟨by rw[xT,h.fst];rfl,λt c g=>?_,λrow G j=>?_,lead,f,λrow s c P j a g=>?_,W.nd,?_,λs a=>?_⟩
 ·obtain⟨x,O,e,Q⟩:=M.on t c g
  obtain⟨J,I⟩:=vC.mp O;obtain⟨row,N,A,w,L⟩:=h.way x.1 x.2.1 (xS h.nd J);refine⟨row++[x.2.2],by rw[Jb,N];rfl,λm b=>?_,by rw[xJ,w];exact e,by rw[wZ,L,Q]⟩;rcases Jr.mp b with z|z
  ·exact A m z
  ·rw[Ja.mp z];exact I
 ·rcases Nat.lt_or_ge n row.length with z|z
  ·obtain⟨q,m,rfl,B⟩:=tM (show row.length=n+1 by lia)
   obtain⟨s,k,l⟩:=h.all q (by simp_all) λm b=>j m (JT _ b);obtain⟨t,e,i⟩:=lead s l m (j m (Js _ (Ja.mpr rfl)));exact⟨t,by rw[xJ,k];exact e,i⟩
  ·obtain⟨s,k,l⟩:=h.all row z j
   exact⟨s,k,by rw[xT,l];rfl⟩
 ·obtain⟨q,m,rfl,B⟩:=tM P
  have F:m∈moves:=j m (Js _ (Ja.mpr rfl));have E:Over moves q:=λm b=>j m (JT _ b);obtain⟨t,k,l⟩:=h.step_of B E;rw[xJ,k]at a;have u:step t m=some s:=a;have sn:=f s (by rw[g];rfl);rcases l with z|⟨d,C⟩
  ·obtain⟨K,e,i⟩:=h.cls t z m F
   rw[u]at e;rw[<- Jf e,sn]at i;cases i
  ·obtain⟨K,e,i⟩:=o t d C m F
   rw[u]at e;rw[<- Jf e]at i;rcases i with y|⟨v,H,lc⟩
   ·rw[sn]at y;cases y
   ·rw[g]at H
    rw[Jf H,wZ];refine xL lc (qw ?_ (h.lst q t d B E k C));rw[nX];exact cl _ (yp C)
 ·rw[Jb]
  have:=h.num;have:0<level.length:=ZC.mpr ne;lia
 ·rw[xT,W8]at a
  rcases a with z|z
  ·exact h.rch s z
  ·obtain⟨c,g⟩:=ZD.mp z
   obtain⟨row,_,A,w,_⟩:=h.way s c g;exact⟨row,A,w⟩
structure Broke (step:KN->Nat->Option KN) (moves:List Nat) (k0:KN) (c0:List Int) (n:Nat) (c:List Int):Prop where
 ex:∃ row m,row.length=n/\Over moves (row++[m])/\pL c0 (row++[m])=c/\wt step k0 (row++[m])=none
 few:∀ row,row.length<=n->Over moves row->∃ s,wt step k0 row=some s
 lst:∀ row,row.length=n+1->Over moves row->wt step k0 row=none->leR c (pL c0 row)
theorem Clm.brk (h:Clm step moves k0 c0 n level seen)(cl:∀ p∈level,p.2.length=c0.length)(fl:(yL step (seen++level) moves level).fl≠[]):Broke step moves k0 c0 n (iG (yL step (seen++level) moves level).fl):=by
 have M:=ot (step:=step) (seen:=seen++level) moves level;obtain⟨x,B,e,F⟩:=M.fl1 _ (eE fl);obtain⟨r,o⟩:=vC.mp B;obtain⟨row,A,y,w,v⟩:=h.way x.1 x.2.1 (xS h.nd r);refine⟨⟨row,x.2.2,A,λm f=>?_,by rw[wZ,v,F],by rw[xJ,w];exact e⟩,λrow C b=>?_,λrow D b l=>?_⟩
 ·rcases Jr.mp f with z|z
  ·exact y m z
  ·rw[Ja.mp z];exact o
 ·obtain⟨s,c,_⟩:=h.all row C b
  exact⟨s,c⟩
 ·obtain⟨q,m,rfl,i⟩:=tM D
  have k:m∈moves:=b m (Js _ (Ja.mpr rfl));have j:Over moves q:=λm f=>b m (JT _ f);obtain⟨t,c,E⟩:=h.step_of i j;rw[xJ,c]at l;have a:step t m=none:=l;rcases E with z|⟨d,g⟩
  ·obtain⟨G,e,_⟩:=h.cls t z m k
   rw[a]at e;cases e
  ·have u:((t,d,m):Tri)∈jP moves level:=vC.mpr ⟨yp g,k⟩
   rw[wZ];refine xL (cy (M.fl2 _ u a)) (qw ?_ (h.lst q t d i j c g));rw[nX];exact cl _ (yp g)
end
structure Shut (step:KN->Nat->Option KN) (moves:List Nat) (k0:KN) (ks:List KN):Prop where
 fst:k0∈ks
 cls:∀ s∈ks,∀ m∈moves,∃ t∈ks,step s m=some t
noncomputable def xG (ls:List LvL):List KN:=ls.flatMap λlv=>lv.map (·.1)
theorem iO (a b:List LvL):xG (a++b)=xG a++xG b:=by unfold xG;rw[List.flatMap_append]
theorem xB {ps:LvL}{s:KN}:(zU ps s).isSome=true↔s∈ps.map (·.1):=by
 constructor
 ·intro h
  obtain⟨r,a⟩:=xq h;exact Jw.mpr ⟨_,a,rfl⟩
 ·intro h
  obtain⟨p,b,rfl⟩:=Jw.mp h;exact xt b
section
variable {step:KN->Nat->Option KN}{moves:List Nat}{k0:KN}{c0:List Int}{most:Nat}
theorem nZ:∀ (m n:Nat) (level seen:LvL) (ls:List LvL),Clm step moves k0 c0 n level seen->(∀ p∈level,p.2.length=c0.length)->xG ls=seen.map (·.1)->LvNd (seen++level)->seen.length<=most ->
  match ya step moves most m level seen ls with
  | .opn=>True
  | .brk c=>∃ l,l<=most/\Broke step moves k0 c0 l c
  | .whl d=>Shut step moves k0 (xG d)/\(xG d).Nodup/\(xG d).length<=most/\∀ s∈xG d,∃ row,Over moves row/\wt step k0 row=some s
 | 0,_,_,_,_,_,_,_,_,_=>trivial
 | m+1,n,level,seen,ls,h,cl,k,nd,le=>by
  by_cases g:level=[]
  ·subst g
   rw[xv];have e:xG ls=(seen++([]:LvL)).map (λp:KN × List Int=>p.1):=by rw[JZ];exact k
   refine⟨⟨by rw[e];exact xB.mp h.fst,λs i m j=>?_⟩,by rw[e];exact nd,by rw[k,Jc];exact le,λs i=>?_⟩
   ·rw[k]at i
    obtain⟨t,q,o⟩:=h.cls s (xB.mpr i) m j;exact⟨t,by rw[e];exact xB.mp o,q⟩
   ·rw[k]at i
    exact h.rch s (xB.mpr i)
  by_cases j:most<seen.length+level.length
  ·rw[xw g j];trivial
  by_cases f:(yL step (seen++level) moves level).fl=[]
  ·rw[wP g j f]
   have na:=o0 (step:=step) (seen:=seen++level) (moves:=moves) (n:=c0.length) level cl;have W:=vT (step:=step) (seen:=seen++level) (moves:=moves) (Ok:=λ_=>True) level λ_ _ _ _ _ _=>trivial;refine nZ m (n+1) _ _ _ (h.next g cl f) na.on ?_ ?_ (by rw[Jb];simp_all)
   ·rw[iO,k,JG]
    congr 1
    show level.map (λp:KN × List Int=>p.1)++[]=level.map (λp:KN × List Int=>p.1);rw[JZ]
   ·unfold LvNd
    rw[JG];refine ZP.mpr ⟨nd,W.nd,λa v b u e=>?_⟩;subst e;obtain⟨p,r,rfl⟩:=Jw.mp u;have:=W.new p r;have z:=xB.mpr v;rw[this]at z;cases z
  ·rw[xx g j f]
   exact⟨n,by have:=h.num;lia,h.brk cl f⟩
theorem ii:Clm step moves k0 c0 0 [(k0,c0)] []:=by
 have b:zU [(k0,c0)] k0=some c0:=xS (show LvNd [(k0,c0)] from JP.mpr ⟨Jv,Yx⟩) (.head _)
 have only:∀ {t:KN}{c:List Int},zU [(k0,c0)] t=some c->t=k0/\c=c0:=λg=>by
  have e:=Ja.mp (yp g);injection e with j e2;exact⟨j,e2⟩
 have nil:∀ {row:List Nat},row.length<=0->row=[]:=λh=>Zd.mp (by lia);refine⟨by rw[List.nil_append,b];rfl,λt c g=>?_,λrow d _=>?_,λs a=>(by cases a),λs _=>rfl,λrow s c i _ a g=>?_,JP.mpr ⟨Jv,Yx⟩,Jd _,λs a=>(by cases a)⟩
 ·obtain⟨rfl,rfl⟩:=only g
  exact⟨[],rfl,λm f=>absurd f Jv,rfl,rfl⟩
 ·rw[nil d]
  exact⟨k0,rfl,by rw[List.nil_append,b];rfl⟩
 ·obtain⟨_,rfl⟩:=only g
  rw[nil (Nat.le_of_eq i)];exact vV _
theorem io:match ya step moves most (most+1) [(k0,c0)] [] [] with
  | .opn=>True
  | .brk c=>∃ b,b<=most/\Broke step moves k0 c0 b c
  | .whl a=>Shut step moves k0 (xG a)/\(xG a).Nodup/\(xG a).length<=most/\∀ s∈xG a,∃ row,Over moves row/\wt step k0 row=some s :=
 nZ (most+1) 0 _ _ _ ii (λp d=>by rw[Ja.mp d]) rfl (JP.mpr ⟨Jv,Yx⟩) (Jz _)
theorem kU {α:Type}[DecidableEq α]:∀ {l ks:List α},l.Nodup->(∀ x∈l,x∈ks)->l.length<=ks.length
 | [],_,_,_=>Jz _
 | a::l,ks,nd,h=>by
  rw[JP]at nd;have ha:=h a (.head _);have:=kU (l:=l) (ks:=ks.erase a) nd.2 λx b=>(List.mem_erase_of_ne λ(z:x=a)=>nd.1 (z ▸ b)).mpr (h x (.tail _ b));rw[List.length_erase_of_mem ha]at this;have:0<ks.length:=List.length_pos_of_mem ha;rw[JM];lia
end
noncomputable def zF (N:Nt):List Int:=List.replicate N.forks.length 0
noncomputable def zL (N:Nt):List Int:=List.replicate N.lanes 0
noncomputable def k0P (N:Nt):KN:=stK (zF N) [0]
noncomputable def y8 (N:Nt):KN->Nat->KN
 | [.inr ts,.inl r],m=>stK (xa N ts m) [(r+1)%(N.lanes:Nat)]
 | k,_=>k
theorem gK {N:Nt}{s t:KN}{m:Nat}(h:yC N s m=some t):t=y8 N s m:=by
 unfold yC at h;split at h
 ·split at h
  ·exact(Jf h).symm
  ·cases h
 ·cases h
theorem zab {N:Nt}(ok:Nt.Ok N){s:KN}{m:Nat}(h:OkP N s):OkP N (y8 N s m):=by
 obtain⟨a,r,rfl,c,b,d⟩:=h;refine⟨xa N a m,(r+1)%N.lanes,?_,(rV _ _ _).trans c,tV b,Nat.mod_lt _ (by have:=ok.l1;lia)⟩;rw[Int.natCast_emod];rfl
theorem iF (x y:List Int):yn x y=yn y x:=by
 unfold yn;have sw:=uF x y
 cases e:cmpR x y with
 | lt=>rw[sw,e,Je (by decide),Jm rfl]
 | gt=>rw[sw,e,Jm (by rfl),Je (by decide)]
 | eq=>rw[sw,e,Je (by decide),Je (by decide),jB e]
noncomputable def lN (ks:List KN)(k:KN):Bool:=ks.any λx=>decide (x=k)
theorem sL {ks:List KN}{k:KN}:lN ks k=true↔k∈ks:=by
 unfold lN;rw[List.any_eq_true];exact⟨λ⟨x,a,e⟩=>Yq e ▸ a,λh=>⟨k,h,Jt rfl⟩⟩
section
variable (N:Nt)(ks:List KN)
noncomputable def la1 (s:KN)(c:List Int)(a:LAcc)(m:Nat):LAcc :=
 ⟨if lN ks (y8 N s m)=true then a.on else xW a.on (y8 N s m) (yn ((zU a.on (y8 N s m)).getD (zp c m)) (zp c m)),if yC N s m=none then a.fl++[zp c m] else a.fl⟩
noncomputable def laS (moves:List Nat)(a:LAcc)(p:KN × List Int):LAcc:=moves.foldl (la1 N ks p.1 p.2) a
noncomputable def laL (moves:List Nat)(level:LvL):LAcc:=level.foldl (laS N ks moves) ⟨[],[]⟩
end
section
variable {N:Nt}{seen:LvL}
noncomputable def Lik (A B:LAcc):Prop:=A.fl=B.fl/\(A.fl=[]->A.on=B.on)
theorem zah {A B:LAcc}(h:Lik A B)(s:KN)(c:List Int)(m:Nat):Lik (la1 N (seen.map (·.1)) s c A m) (go1 (yC N) seen s c B m):=by
 obtain⟨a,d⟩:=h;unfold la1 go1
 cases e:yC N s m with
 | none =>
  refine⟨?_,λz=>?_⟩
  ·show (if (none:Option KN)=none then A.fl++[zp c m] else A.fl)=B.fl++[zp c m]
   rw[Jm rfl,a]
  ·have b:(if (none:Option KN)=none then A.fl++[zp c m] else A.fl)=[]:=z
   rw[Jm rfl]at b
   exact absurd (JQ List.length b) (by rw[Jb];show _+1≠0;lia)
 | some t =>
  have f:=gK e;subst f;have nn:¬((some (y8 N s m):Option KN)=none):=λz=>by cases z
  dsimp only;rw[Je nn];by_cases g:(zU seen (y8 N s m)).isSome=true
  ·rw[Jm g,Jm (sL.mpr (xB.mp g))]
   exact⟨a,d⟩
  ·rw[Je g,Je (λz=>g (xB.mpr (sL.mp z)))]
   exact⟨a,λz=>by show xW _ _ _=xW _ _ _;rw[d z,iF]⟩
theorem za8 {A B:LAcc}(h:Lik A B)(moves:List Nat)(p:KN × List Int):Lik (laS N (seen.map (·.1)) moves A p) (goS (yC N) seen moves B p):=by
 unfold laS goS
 induction moves generalizing A B with
 | nil=>exact h
 | cons m r ih=>exact ih (zah h p.1 p.2 m)
theorem za9 (moves:List Nat)(level:LvL):Lik (laL N (seen.map (·.1)) moves level) (yL (yC N) seen moves level):=by
 unfold laL yL
 have key:∀ (level:LvL) {A B:LAcc},Lik A B->Lik (level.foldl (laS N (seen.map (·.1)) moves) A) (level.foldl (goS (yC N) seen moves) B):=by
  intro level
  induction level with
  | nil=>exact λh=>h
  | cons p r ih=>exact λh=>ih (za8 h moves p)
 exact key level ⟨rfl,λ_=>rfl⟩
end
structure AccL (N:Nt) (n m:Nat) (a:LAcc):Prop where
 on:∀ p∈a.on,OkP N p.1/\p.2.length=n
 fl:∀ r∈a.fl,r.length=n
 onl:a.on.length<=m
 fll:a.fl.length<=m
theorem AccL.go {N:Nt}(ok:Nt.Ok N){ks:List KN}{s:KN}{c:List Int}{a:LAcc}{n m k:Nat}(h:AccL N n m a)(i:OkP N s)(o:c.length=n):AccL N n (m+1) (la1 N ks s c a k):=by
 have f:(zp c k).length=n:=by rw[xk,o]
 refine⟨λp l=>?_,λr j=>?_,?_,?_⟩
 ·have d:p∈(if lN ks (y8 N s k)=true then a.on else xW a.on (y8 N s k) (yn ((zU a.on (y8 N s k)).getD (zp c k)) (zp c k))):=l
  split at d
  ·exact h.on p d
  ·rcases vN d with z|z
   ·exact h.on p z
   ·rw[z]
    refine⟨zab ok i,?_⟩;show (yn _ _).length=n;rcases uo ((zU a.on (y8 N s k)).getD (zp c k)) (zp c k) with e|e
    ·rw[e]
     cases g:zU a.on (y8 N s k) with
     | none=>exact f
     | some r=>exact(h.on _ (yp g)).2
    ·rw[e];exact f
 ·have b:r∈(if yC N s k=none then a.fl++[zp c k] else a.fl):=j
  split at b
  ·rcases Jr.mp b with z|z
   ·exact h.fl r z
   ·rw[Ja.mp z];exact f
  ·exact h.fl r b
 ·show (if lN ks (y8 N s k)=true then a.on else xW a.on (y8 N s k) (yn ((zU a.on (y8 N s k)).getD (zp c k)) (zp c k))).length<=m+1
  have:=h.onl;split
  ·lia
  ·have:=tO a.on (y8 N s k) (yn ((zU a.on (y8 N s k)).getD (zp c k)) (zp c k));lia
 ·show (if yC N s k=none then a.fl++[zp c k] else a.fl).length<=m+1
  have:=h.fll;split
  ·rw[Jb];show _+1<=_;simp_all
  ·lia
end L2
namespace L2
open PySem PySem.Spec PyProof.Rows Own
section
variable {prog:Yo}{w:YI}{A:YO}{E:Jo->JO->Prop}
theorem NIs.same {h h':YP}(t:∀ b o,o.cls=.type "tuple"->h.get? b=some o->h'.get? b=some o) {ks:KN}{a:JI}(p:NIs prog w h ks a):NIs prog w h' ks a:=by
 have one:∀ {k:KI}{v:Jo},NIt prog w h k v->NIt prog w h' k v:=λ{k v} q=>by
  cases k with
  | inl i=>exact q
  | inr u =>
   obtain⟨b,e,o,c,n,j,d,g⟩:=q;exact⟨b,e,o,c,n,t b o d j,d,g⟩
 have all:∀ {ks:KN}{f:List Jo},NIts prog w h ks f->NIts prog w h' ks f:=λ{ks}=>by
  induction ks with
  | nil=>exact λq=>q
  | cons k ks ih =>
   intro f q;obtain⟨v,r,e,m,l⟩:=q;exact⟨v,r,e,one m,ih l⟩
 obtain⟨o,c,n,j,d,g,s⟩:=p;exact⟨o,c,n,t a o d j,d,g,all s⟩
variable {d it l:JI}{its:Array Jo}{ps:List (KN × JI × Jo)}{res:Jo}
noncomputable def PairsH (P:Yo)(w:YI)(h:YP)(its:Array Jo)(ps:List (KN × JI × Jo)):Prop :=
 its.size=ps.length/\∀ (i:Nat) (x:Jo),its[i]?=some x->∃ t v k b ob m,x=.ref t/\h.get? t=some ob/\ob.cls=.type "tuple"/\ob.data=.seq #[.ref b,v] m/\NIs P w h k b/\ps[i]?=some (k,b,v)
theorem PairsH.same {h h':YP}(p:PairsH prog w h its ps) (f:∀ b o,o.cls=.type "tuple"->h.get? b=some o->h'.get? b=some o):PairsH prog w h' its ps :=
 ⟨p.1,λi x e=>let ⟨t,v,k,b,ob,m,j,e2,a,g,d,c⟩:=p.2 i x e;⟨t,v,k,b,ob,m,j,f t ob a e2,a,g,d.same f,c⟩⟩
theorem oT {R:Result->JO->Prop}(hh:A.handled=none)(hu:A.units+3<cLine):∀ (m i:Nat) (s:JO) (xs:List (KN × JI × Jo)),i+m=its.size->s.heap.IsListIter it l i->s.heap.IsList l its->s.heap.DictOfH (yI prog w) d xs->PairsH prog w s.heap its ps->it≠d->xs.length+m<=sizeLine ->
  (∀ h' tk,h'.DictOfH (yI prog w) d (mergeN xs (ps.drop i))->(∀ b o,b≠d->b≠it->s.heap.get? b=some o->h'.get? b=some o)->R (.ok (.ret res)) { s with heap:=h',toks:=tk }) ->
  codeAny (model prog w) A (.builtin "dict.update.loop" ⟨[.ref d,.ref it,rawInt (i:Int),res],[]⟩) R s:=by
 intro m
 induction m with
 | zero =>
  intro i s xs im hit G p n ne hz fin;refine Z4 wO ?_;rw[YS yx];show wpAny _ A.in1 (pyNext (Value.ref it) >>= _) _ _ _;refine J0 (wpAny_pyNext_list_end (A:=A.in1) hh hit G (Array.getElem?_eq_none (by simp_all)) λh' j=>?_);refine J0 (J7 (J7 (fin h' s.toks ?_ λb o _ nb e=>j b o nb e)));rw[List.drop_eq_nil_of_le (by rw[<- n.1];simp_all)];obtain⟨o,u,y,e,c,H,O,h,N⟩:=p;refine⟨o,u,y,j d o (Ne.symm ne) e,c,H,O,λx M=>(h x M).same λb o' I X=>j b o' ?_ X,N⟩;rintro rfl;obtain⟨F,e2,a,_⟩:=hit;rw[X]at e2;obtain rfl:=Jf e2
  rw[I]at a;exact absurd (Value.type.inj a) (by decide)
 | succ m ih =>
  intro i s xs im hit G p n ne hz fin;obtain⟨x,ex⟩:∃ x,its[i]?=some x:=⟨_,getElem?_pos its i (by lia)⟩;obtain⟨t,v,k,b,ob,mm,rfl,et,I,dt,hk,V⟩:=n.2 i x ex;refine Z4 wO ?_;rw[YS yx];show wpAny _ A.in1 (pyNext (Value.ref it) >>= _) _ _ _;refine J0 (wpAny_pyNext_list_item (A:=A.in1) hit G ex λQ E f=>?_)
  have W:∀ {b:JI}{o:Obj},o.cls=.type "tuple"->s.heap.get? b=some o->b≠it:=λ{b o} c e z=>by
   obtain⟨F,e2,a,_⟩:=hit;rw[z]at e;rw[e]at e2;obtain rfl:=Jf e2;rw[c]at a;exact absurd (Value.type.inj a) (by decide)
  have Y:∀ {b:JI}{o:Obj},o.cls=.type "tuple"->s.heap.get? b=some o->b≠d:=λ{b o} c e z=>by
   obtain⟨F,u,y,e2,a,H,_⟩:=p;rw[z]at e;rw[e]at e2;obtain rfl:=Jf e2;have q:=a.1;rw[c]at q;exact absurd (Value.type.inj q) (by decide)
  have L:∀ b o,o.cls=.type "tuple"->s.heap.get? b=some o->Q.get? b=some o:=λb o c e=>(f.2 b (W c e)).trans e;have C:=L t ob I et;have ty:({ s with heap:=Q }:JO).TypeIs (.ref t) "tuple":=⟨ob,C,I⟩
  have U:Q.DictOfH (yI prog w) d xs:=by
   obtain⟨o,u,y,e,c,H,O,h,N⟩:=p;exact⟨o,u,y,(f.2 d (Ne.symm ne)).trans e,c,H,O,λx M=>(h x M).same L,N⟩
  refine J0 (Y5 (J0 (Wg ?_)));unfold Builtin.Dict.pairItems;refine J0 (YN ty ?_);rw[Jm (by decide)];refine J0 (Ye C dt (J7 ?_));refine Y5 (wpAny_dictSet_heap (knd:=yI prog w) (show A.in1.units+2<cLine by rw[Around.in1_units];omega) (hk.same L) U (λP T B=>?_) (by lia));refine J7 ⟨Zk yx _,?_⟩;have g:∀ b o,b≠d->b≠it->s.heap.get? b=some o->P.get? b=some o:=λb o K J e=>(B.2 b K).trans ((f.2 b J).trans e);have Z:=rO xs (k,b,v)
  have D:P.IsListIter it l (i+1):=by
   obtain⟨o,e,r⟩:=E;exact⟨o,(B.2 it ne).trans e,r⟩
  have S:P.IsList l its:=by
   obtain⟨o,e,c,r⟩:=G;refine⟨o,g l o (λz=>?_) (λz=>?_) e,c,r⟩
   ·obtain⟨F,u,y,e2,a,_⟩:=p
    rw[<- z,e]at e2;obtain rfl:=Jf e2;have q:=a.1;rw[c]at q;exact absurd (Value.type.inj q) (by decide)
   ·obtain⟨F,e2,a,_⟩:=hit
    rw[<- z,e]at e2;obtain rfl:=Jf e2;rw[c]at a;exact absurd (Value.type.inj a) (by decide)
  refine ih (i+1) _ (storedH xs k b v) (by lia) D S T (n.same λb o c e=>g b o (Y c e) (W c e) e) ne (by have:(storedH xs k b v).length<=xs.length+1:=Z;lia) λh' tk d' j=>fin h' tk ?_ λb o K J e=>j b o K J (g b o K J e);have il:i<ps.length:=by rw[<- n.1];lia
  rw[Yt il,show ps[i]=(k,b,v) from (J9.mp V).2];exact d'
theorem nS {s:JO}{n:Nat}{Q:Jo->JO->Prop}(y:A.handled=none) (N:A.units+4<cLine) (I:s.heap.get? l=some { cls:=.type "list",data:=.seq its n }) (H:PairsH prog w s.heap its ps) (M:its.size<=sizeLine)
  (h:∀ f k,f.DictOfH (yI prog w) s.heap.objs.size (mergeN [] ps)->(∀ b o,s.heap.get? b=some o->f.get? b=some o)->Q (.ref s.heap.objs.size) { s with heap:=f,toks:=k }) :
  wpAny (model prog w) A (call (.type "dict") [.ref l]) Q E s:=by
 refine callType_codes (Q₁:=λob v=>ob=.ref s.heap.objs.size/\v={ s with heap:=s.heap.push { cls:=.type "dict",data:=.dict #[] } }) F.kt_called_dict (F.kt_typeCall_dict_1 _) F.entry_dict_init (kt_code_dict_new _ ⟨rfl,rfl⟩) ?_;rintro ob v ⟨rfl,rfl⟩;have nw:(s.heap.push { cls:=.type "dict",data:=.dict #[] }).DictOfH (yI prog w) s.heap.objs.size []:=Heap.DictOfH.new s.heap;have d:=J6 ({ cls:=.type "dict",data:=.dict #[] }:Obj) I;have B:({ s with heap:=s.heap.push { cls:=.type "dict",data:=.dict #[] } }:JO).TypeIs (.ref l) "list":=⟨_,d,rfl⟩;refine⟨nw.typeIs,F.args_dict_init_2 _ _,?_⟩;unfold Builtin.«dict.__init__» Builtin.Dict.selfAndRest;refine J0 (J0 (Zn nw.typeIs (J7 ?_)));show wpAny _ _ (Builtin.Dict.updateFrom "dict.__init__" s.heap.objs.size (Value.ref l) [] Value.none) _ _ _;unfold Builtin.Dict.updateFrom;refine J0 (YN B ?_);rw[Jm (by decide)];refine J0 (iK d y λj m c=>?_);rw[Jm (by rfl)];refine J0 (YX ?_);have g:=c _ _ d;refine J0 (wpAny_pyIter_list ⟨_,g,rfl,_,rfl⟩ ?_);refine J7 ⟨Zk yx _,?_⟩;have a:∀ b o,(s.heap.push { cls:=.type "dict",data:=.dict #[] }).get? b=some o->(j.push ({ cls:=.type "list_iterator",data:=.fields #[.ref l,.int 0 0] }:Obj)).get? b=some o:=λb o e=>J6 _ (c b o e);obtain⟨C,t,u,z,cd,J,q,L,p⟩:=nw;have dl:s.heap.objs.size<j.objs.size:=Jn (c _ _ z);refine oT (A:=A.in1) (R:=wants (λr i=>r=Value.none/\Q (.ref s.heap.objs.size) i) E) (it:=j.objs.size) (ps:=ps) (l:=l) (its:=its) y (by rw[Around.in1_units];omega) its.size 0 { s with heap:=j.push { cls:=.type "list_iterator",data:=.fields #[.ref l,.int 0 0] },toks:=m } [] (by lia) ⟨_,Jp _ rfl,rfl,rfl⟩ ⟨_,J6 _ g,rfl,_,rfl⟩ ⟨C,t,u,a _ _ z,cd,J,q,λx G=>absurd G Jv,p⟩ (H.same λb o _ e=>a b o (J6 _ e)) (YM dl) (by rw[Zj];simp_all) λf k K D=>⟨rfl,h f k K λb o e=>?_⟩;have bl:=Jn e;exact D b o (JB bl) (JB (Nat.lt_trans bl dl)) (a b o (J6 _ e))
end
noncomputable def PrH (H:Hp)(t:V)(p:KN × JI × V):Prop:=∃ a,t=.ref a/\H a=some (.tup [.ref p.2.1,p.2.2])/\NKey H p.1 p.2.1
section
variable {X:Cx}{pins:List (JI × Obj)}{σ:St}{H:Hp}{s:JO}{A:YO}{E:Jo->JO->Prop}
theorem gx (I:Inv X pins σ H s){ts:List V}{xs:KVN}(p:Paired (PrH H) ts xs):∀ {its:List Jo},Vals ts its->∃ ps,Paired PrN xs ps/\its.length=ps.length/\∀ (i:Nat) (x:Jo),its[i]?=some x->∃ t v k b ob m,x=.ref t/\s.heap.get? t=some ob/\ob.cls=.type "tuple"/\ob.data=.seq #[.ref b,v] m/\NIs X.prog X.w s.heap k b/\ps[i]?=some (k,b,v):=by
 induction p with
 | nil =>
  intro its r;cases r
  exact⟨[],.nil,rfl,λi x e=>by simp at e⟩
 | @cons t q ts xs h _ ih =>
  intro its r
  cases r with
  | cons r rs =>
   obtain⟨ps,rel,len,j⟩:=ih rs;obtain⟨a,rfl,n,l⟩:=h;cases r;obtain⟨c,g,⟨o,u,co,m,w⟩,_⟩:=I.tuple (SqT.of (K:=X.K) n);obtain⟨x,y,rfl,f,d⟩:=lZ g;cases f;refine⟨(q.1,q.2.1,y)::ps,.cons ⟨rfl,rfl,d⟩ rel,by simp[len],λi z e=>?_⟩
   cases i with
   | zero =>
    obtain rfl:Value.ref a=z:=by simpa using e
    exact⟨a,y,q.1,q.2.1,o,m,rfl,u,co,w,xH I.hok l,rfl⟩
   | succ i=>exact j i z (by simpa using e)
theorem cv {l:JI}{ts:List V}{xs:KVN}{Q:Jo->JO->Prop}(k:A.handled=none)(g:A.units+4<cLine)(I:Inv X pins σ H s)(e:H l=some (.lst ts))(p:Paired (PrH H) ts xs)(h:∀ q b,H q=none->Inv X pins σ (upd H q (DN X.prog X.w q (yz [] xs))) b->Q (.ref q) b):wpAny (model X.prog X.w) A (call (.type "dict") [.ref l]) Q E s:=by
 obtain⟨z,t,n,r,m⟩:=I.hok _ _ e;obtain⟨ps,rel,len,j⟩:=gx I p r;have u:=JU p;refine nS (ps:=ps) k g m ⟨by simpa using len,λi x ex=>j i x (by simpa using ex)⟩ (by rw[Jg,<- r.length];exact z) λv c o f=>?_;have d:=mergeV_len xs [];rw[Zj]at d;exact h _ _ (I.hok.fresh (Jd _)) (I.laid (a:=s.heap.objs.size) (t':=c) f (Jd _) (dn_new (by lia) (YZ.mpr (Ne.symm (JB I.big))) (mergeV_rel rel .nil) o))
end
section
variable {X:Cx}
theorem sk (d:X.calm=true)(c:X.A.units+4<cLine):CallR X (.type "dict") (λvs H Q=>∃ l ts xs,vs=[.ref l]/\H l=some (.lst ts)/\Paired (PrH H) ts xs/\∀ q,H q=none->Q (.ref q) (upd H q (DN X.prog X.w q (yz [] xs)))):=by
 intro pins s σ H vs g Q I r h;obtain⟨l,ts,xs,rfl,e,p,q⟩:=h;obtain⟨u,rfl,a⟩:=uK r;obtain rfl:u=Value.ref l:=a;exact cv (I.ok.hd d) c I e p λx i b f=>⟨.ref x,_,f,rfl,q x b⟩
end
end L2
namespace L2
open PySem PySem.Spec PyProof.Rows Own Bn
theorem iY {P:Yo}{w:YI}{d:JI}{o:Obj}{xs:KVN}{g:TG}{h:TS}{D:Ends}{σ:St}{H:Hp}(a:Nat->St->Hp->Prop)(s:a 0 σ H)(n:∀ i σ H,a i σ H->H d=some (.frz o (DN P w d xs)))(l:∀ i p σ H,xs[i]?=some p->a i σ H->g (.ref p.2.1) σ H λc f=>h { D with nx:=a (i+1),ct:=a (i+1),bk:=D.nx } c f)(r:∀ σ H,a xs.length σ H->D.nx σ H) :
  ∃ W:Nat->Nat->St->Hp->Prop,(∃ m,W 0 m σ H)/\∀ i m σ H,W i m σ H ->
   ((Itn P w d o xs).stop i H/\D.nx σ H)\/((Itn P w d o xs).go i H/\∃ N:St->Hp->Prop,(∀ e b,N e b->∃ j,j<m/\W (i+1) j e b)/\∀ x b,(Itn P w d o xs).yld i H x b->g x σ b λc f=>h { D with nx:=N,ct:=N,bk:=D.nx } c f):=by
 refine⟨λi m σ H=>m=xs.length-i/\i<=xs.length/\a i σ H,⟨xs.length,rfl,Jz _,s⟩,?_⟩;rintro i m σ H ⟨rfl,hi,pv⟩;have k:=n i σ H pv;rcases Nat.lt_or_ge i xs.length with lt|ge
 ·exact .inr ⟨⟨k,lt⟩,a (i+1),λe b q=>⟨xs.length-(i+1),by lia,rfl,lt,q⟩,λx b ⟨u,p,t,e2⟩=>by rw[u,e2];exact l i p σ H t pv⟩
 ·obtain rfl:i=xs.length:=by lia
  exact .inl ⟨⟨k,rfl⟩,r σ H pv⟩
theorem mV {H:Hp}{F c:Nat}{xs:KVN}{lv:LvL}{ys:List V}(le:LvE H xs lv)(ok:∀ p∈lv,StOk F c p.1)(pm:ys.Perm (xs.map λp=>.ref p.2.1))(so:ys.Pairwise λx y=>rkH H x<=rkH H y):∃ cs a,ys=cs.map V.ref/\KeysAt H cs a/\a.Perm (lv.map (·.1))/\a.Pairwise λx y=>xu x<=xu y:=by
 obtain⟨cs,rfl,pc⟩:=wu (f:=V.ref) (zs:=xs.map λp=>p.2.1) pm (by rw[YA];rfl);obtain⟨a,d,b⟩:=vz pc le.keys;refine⟨cs,a,rfl,d,b,uP (F:=F) (c:=c) d (λk g=>?_) so⟩;obtain⟨p,e,rfl⟩:=Jw.mp (b.mem_iff.mp g);exact ok p e
theorem bM (ys:KVN)(k:KN):(yg ys k).isSome=lN (ys.map (·.1)) k:=by
 rw[Yd,xM,sL]
theorem lh:∀ {xs:KVN},(xs.map (·.1)).Nodup->∀ {p:KN × JI × V},p∈xs->yg xs p.1=some p.2.2
 | [],_,_,h=>by cases h
 | x::xs,nd,p,h=>by
  rw[JR,JP]at nd;rw[rJ];rcases Jq.mp h with rfl|z
  ·exact Jm rfl
  ·rw[Je (λ(e:x.1=p.1)=>nd.1 (by rw[e];exact Jw.mpr ⟨p,z,rfl⟩))]
   exact lh nd.2 z
theorem nD {H:Hp}{g q:JI}{x y:List Int}{n:Nat}(b:H g=some (.tup (x.map V.int)))(a:H q=some (.tup (y.map V.int)))(d:x.length=n)(c:y.length=n):(∀ u∈[V.ref g,V.ref q],∀ v∈[V.ref g,V.ref q],Lx H 1 u v (vX H u v))/\∃ h,xZ (vX H) (.ref g) (.ref q)=.ref h/\H h=some (.tup ((yn x y).map V.int)) :=
 ⟨qh (fs:=[g,q]) (rs:=[x,y]) (.cons b (.cons a .nil)) λr e=>by
  rcases Jq.mp e with rfl|z
  ·exact d
  ·rw[Ja.mp z];exact c,nq (fs:=[q]) (rs:=[y]) (.cons a .nil) b⟩
theorem cR {H:Hp}{N:Nt}{ts:List Int}{r lane:Nat}{T t:JI}(b:H T=some (.tup [.ref t,.int (((r:Nat)+1)%(N.lanes:Nat))]))(a:H t=some (.tup ((xa N ts lane).map V.int))):NKey H (y8 N (stK ts [(r:Nat)]) lane) T:=uW (is:=[((r:Nat)+1)%(N.lanes:Nat)]) b a
theorem uM {N:Nt}{ts:List Int}{r lane:Nat}:yC N (stK ts [(r:Nat)]) lane=none↔passE N ts lane≠r:=by
 show (if ((passE N ts lane:Nat):Int)=(r:Nat) then some (stK (xa N ts lane) [((r:Nat)+1)%(N.lanes:Nat)]) else none)=none↔_;by_cases z:passE N ts lane=r
 ·rw[Jm (by simp_all)]
  exact⟨λy=>(nomatch y),λy=>absurd z y⟩
 ·rw[Je (by lia)]
  exact⟨λ_=>z,λ_=>rfl⟩
noncomputable def yb (xs:KVN):KVN:=xs.map λp=>(p.1,p.2.1,V.bl true)
theorem mC (xs:KVN):(yb xs).map (·.1)=xs.map (·.1):=by unfold yb;rw[YA];rfl
theorem gB {H:Hp}{xs:KVN}(h:KsIn H xs):KsIn H (yb xs):=λx a=>by
 obtain⟨p,b,rfl⟩:=Jw.mp a;exact h p b
theorem vt {xs ys:KVN}(nd:(ys.map (·.1)).Nodup)(ds:∀ k∈ys.map (·.1),k∉xs.map (·.1)):yz xs ys=xs++ys :=
 vw ys xs nd λy a x b e=>ds y.1 (Jw.mpr ⟨y,a,rfl⟩) (e ▸ Jw.mpr ⟨x,b,rfl⟩)
noncomputable def RowsK (H:Hp)(as:List JI)(b:List (List KN)):Prop:=Paired (λa c=>∃ bs,H a=some (.lst (bs.map V.ref))/\KeysAt H bs c) as b
theorem RowsK.keep {H H':Hp}{as:List JI}{b:List (List KN)}(h:RowsK H as b)(t:Tups H H')(k:∀ a∈as,∀ xs,H a=some (.lst xs)->H' a=some (.lst xs)):RowsK H' as b:=by
 unfold RowsK at h ⊢
 induction h with
 | nil=>exact .nil
 | cons q _ ih =>
  obtain⟨bs,e,c⟩:=q;exact .cons ⟨bs,k _ (.head _) _ e,c.tups t⟩ (ih λa d=>k a (.tail _ d))
theorem RowsK.same {H H':Hp}{as:List JI}{a:List (List KN)}(h:RowsK H as a)(s:Same H H'):RowsK H' as a:=h.keep (Tups.of s) λ_ _ _ e=>s _ _ e
noncomputable def LvRow (a:List KN)(lv:LvL):Prop:=a.Perm (lv.map (·.1))/\a.Pairwise λx y=>xu x<=xu y
end L2
namespace K38
open PySem L2 Own Bn
noncomputable abbrev aQ:Stmt:=top 13
theorem kZ {d:JI}{H H':Hp}{P:Yo}{w:YI}{xs:KVN}(b:But d H H')(hd:H d=some (DN P w d xs)):∀ c o u,H c=some (.frz o u)->H' c=some (.frz o u):=λc o u e=>b c _ e λz=>by
 rw[z,hd]at e;cases e
theorem xi {d:JI}{H H':Hp}{P:Yo}{w:YI}{xs:KVN}(b:But d H H')(hd:H d=some (DN P w d xs)):Tups H H':=λc a e=>b c _ e λz=>by
 rw[z,hd]at e;cases e
section
variable {P:Yo}{w:YI}{K:Jl}{mg:Str->Option Jo}{base:YP}
theorem oE:FnScope ["level","seen","moves","led","onward","faults","state","counts","move","there","more"] ["level","seen","moves","led"] (zN aQ):=by rfl'
theorem cW {f fA:JI}{fd dA:Yl}{L:Lam}{fr cx:List Str}{lsp:LSpc}(F:Fun K "next_level" "next_level" aQ f fd) (G:Mgs mg) (UA:Use P w K mg base "added" ["counts","place","many"] 2 qX fA dA) (LQ:LamQ CX0 P w K mg base 4 L fr cx lsp):FnOk P w K mg base CX0 6 f fd ["level","seen","moves","led"] (mI P w K L fr lsp):=by
 refine F.ok oE (λvs H Q E h=>?_) (λc6 A outer s H vs Q E hr h=>?_)
 ·obtain⟨dl,ds,mv,f,xs,ys,level,seen,moves,cl,vals,step,Ok,n,rfl,_⟩:=h
  rfl
 obtain⟨dl,ds,mv,f,xs,ys,level,seen,moves,cl,vals,step,Ok,n,rfl,B,lvl,b3,a8,cb,W,cH,c5,k⟩:=h;refine⟨_,(@zH _ _ _ _ _ (@zZ _ _ 4 _ _ _ _ oE.nd rfl (.inl rfl) uh (by rfl) (by rfl')) (@zH _ _ _ _ _ (@zZ _ _ 5 _ _ _ _ oE.nd rfl (.inl rfl) (@yJ _ _ _ _ zC) (by rfl) (by rfl')) (@zH _ _ _ _ _ (oN (@y7 _ _ _ _ _ _ _ _ Yb rfl (jg (@qv _ 0 _ _ (by rfl'))) (@yQ _ _ _ _ _ _ rfl (@zP _ _ _ _ _ (@zM _ _ 6 _ oE.nd rfl (.inl rfl) (by rfl')) (@zP _ _ _ _ _ (@zM _ _ 7 _ oE.nd rfl (.inl rfl) (by rfl')) yA (by rfl)) (by rfl)) (by rfl) (by rfl)) (@zK _ _ _ (@y7 _ _ _ _ _ _ _ _ Yb rfl (@xc _ _ _ _ (@qv _ 2 _ _ (by rfl'))) (@zM _ _ 8 _ oE.nd rfl (.inl rfl) (by rfl')) (@zH _ _ _ _ _ (@zZ _ _ 9 _ _ _ _ oE.nd rfl (.inl rfl) (qr LQ hr (@qv _ 3 _ _ (by rfl')) zY (@zA _ _ _ _ _ (@qv _ 6 _ _ (by rfl')) (@zA _ _ _ _ _ (@qv _ 8 _ _ (by rfl')) zC (by rfl)) (by rfl))) (by rfl) (by rfl')) (@zH _ _ _ _ _ (@yY _ _ _ _ _ _ _ _ (@zo _ _ _ _ _ _ _ _ (fY hr.u3) (@qv _ 9 _ _ (by rfl')) (@qv _ 1 _ _ (by rfl')) (by rfl)) (@zK _ _ _ oO) zu) (@zH _ _ _ _ _ (@zZ _ _ 10 _ _ _ _ oE.nd rfl (.inl rfl) (@zQ _ _ _ _ _ _ _ _ _ _ _ _ _ _ _ _ UA.ok (hr.mono (by decide)) (by rfl) UA.m UA.kp UA.b .nil zY (@zA _ _ _ _ _ (@qv _ 7 _ _ (by rfl')) (@zA _ _ _ _ _ (@qv _ 8 _ _ (by rfl')) (@zA _ _ _ _ _ zJ zC (by rfl)) (by rfl)) (by rfl)) (by decide) (by rfl) (by rfl)) (by rfl) (by rfl')) (@zK _ _ _ (@yY _ _ _ _ _ _ _ _ (@zo _ _ _ _ _ _ _ _ ak (@qv _ 9 _ _ (by rfl')) wJ (by rfl)) (@zK _ _ _ (@yj _ _ _ _ (@wB _ _ _ _ _ _ _ _ _ _ _ _ Y2 Yy Yz yc (@qv _ 5 _ _ (by rfl')) (@zA _ _ _ _ _ (@qv _ 10 _ _ (by rfl')) zC (by rfl)) (by rfl) (by rfl) (by rfl) (by rfl) (by rfl)) (by rfl))) (@zK _ _ _ (qm hr.u3 (@qv _ 4 _ _ (by rfl')) (@qv _ 9 _ _ (by rfl')) (@zR _ _ _ _ _ _ _ _ _ (si rfl hr.units) (by rfl) G.min (by rfl) (@zA _ _ _ _ _ (@qv _ 10 _ _ (by rfl')) (@zA _ _ _ _ _ (oQ hr.u3 (@qv _ 4 _ _ (by rfl')) (@qv _ 9 _ _ (by rfl')) (@qv _ 10 _ _ (by rfl')) ⟨rfl,rfl,rfl,rfl⟩) zC (by rfl)) (by rfl)) (by decide) (by decide) (by rfl) (by rfl)) (by rfl)))))))) (by intro _;rfl))) (by intro _;rfl))) (@zK _ _ _ (@zS _ _ _ _ (@zX _ _ _ _ _ (@zA _ _ _ _ _ (@qv _ 4 _ _ (by rfl')) (@zA _ _ _ _ _ (@qv _ 5 _ _ (by rfl')) zC (by rfl)) (by rfl)))))))),?_⟩;refine λo ho=>⟨by show 0<=sizeLine;decide,λl hl=>?_⟩;have s1:=zD ho (DN P w o []);have s2:=zD (show L2.upd H o (DN P w o []) l=none from hl) (.lst []);have u2:=s1.trans s2
 have ol:o≠l:=λz=>by
  have a6:L2.upd H o (DN P w o []) l=none:=hl;rw[<- z,zB]at a6;cases a6
 have b2:H l=none:=by
  have a6:L2.upd H o (DN P w o []) l=none:=hl
  rwa [zG ol.symm]at a6
 have bB:dl≠o:=zE B ho;have bS:dl≠l:=zE B b2;have c1:L2.upd (L2.upd H o (DN P w o [])) l (.lst []) o=some (DN P w o []):=by rw[zG ol];exact zB
 have c2:L2.upd (L2.upd H o (DN P w o [])) l (.lst []) l=some (.lst []):=zB;refine⟨_,rfl,dl,xs,rfl,u2 _ _ B,λob=>?_⟩
 let y:Nat->LAcc:=λi=>(level.take i).foldl (goS step seen moves) ⟨[],[]⟩
 have ll:xs.length=level.length:=lvl.len;refine lO (P:=P) (w:=w) (d:=dl) (o:=ob) (xs:=xs) (λi σ S=>(∃ v6 v7 v8 v9 v10,σ=[some (.ref dl),some (.ref ds),some (.ref mv),some (.ref f),some (.ref o),some (.ref l),v6,v7,v8,v9,v10])/\But dl H S/\S dl=some (.frz ob (DN P w dl xs))/\∃ zs fs,S o=some (DN P w o zs)/\LvE S zs (y i).on/\S l=some (.lst (fs.map V.ref))/\RowsAt S fs (y i).fl/\AccOk n (i*moves.length) (y i)) ?_ (λi σ S _ q=>q.2.2.1) ?_ ?_
 ·refine⟨⟨_,_,_,_,_,rfl⟩,λb u e ne=>?_,zB,[],[],?_,LvE.nil,?_,.nil,⟨λp hp=>(nomatch hp),λr hr=>(nomatch hr),by show 0+0<=_;simp_all⟩⟩
  ·rw[zG ne];exact u2 b u e
  ·rw[zG bB.symm];exact c1
  ·rw[zG bS.symm];exact c2
 ·rintro i p σ S T hp hT ⟨⟨v6,v7,v8,v9,v10,rfl⟩,bt,a7,zs,fs,ba,a4,bl,rws,cf⟩
  have il:i<level.length:=by rw[<- ll];exact(J9.mp hp).1
  obtain⟨r,c,ep,kb,ec,hc⟩:=(lvl.tups (xi bt B)).at_ hp;have pin:(p.1,r)∈level:=JF ep;obtain⟨ck,rl⟩:=cH _ pin;rw[ec];have sT:=zD hT (.tup [.ref p.2.1,.ref c]);refine⟨T,_,rfl,SqT.of zB,rfl,_,_,rfl,_,_,rfl,rfl,?_⟩;have W2:=W.keep (xi bt B) (kZ bt B);refine⟨_,rfl,mv,rfl,⟨_,(W2.mv.tups (Tups.of sT)).sq⟩,?_⟩
  have cm:y (i+1)=goS step seen moves (y i) (p.1,r):=by
   show List.foldl _ _ (level.take (i+1))=_;rw[<- Y0 il,Zq,show level[i]=(p.1,r) from (J9.mp ep).2];rfl
  generalize hA:y i=a0 at *
  let v:Nat->LAcc:=λj=>(moves.take j).foldl (go1 step seen p.1 r) a0
  have fin:v moves.length=y (i+1):=by rw[cm];show List.foldl _ _ (moves.take moves.length)=_;rw[Y9];rfl
  have ml:(moves.map λm=>V.int (m:Nat)).length=moves.length:=Jc _;refine pI (K:=K) (a:=mv) (xs:=moves.map λm=>V.int (m:Nat)) (λj σ Y=>(∃ v8 v9 v10,σ=[some (.ref dl),some (.ref ds),some (.ref mv),some (.ref f),some (.ref o),some (.ref l),some (.ref p.2.1),some (.ref c),v8,v9,v10])/\But dl H Y/\Y dl=some (.frz ob (DN P w dl xs))/\∃ zs fs,Y o=some (DN P w o zs)/\LvE Y zs (v j).on/\Y l=some (.lst (fs.map V.ref))/\RowsAt Y fs (v j).fl/\AccOk n (i*moves.length+j) (v j)) ?_ (λj σ Y _ q=>(W.mv.tups (xi q.2.1 B)).sq) ?_ ?_
  ·exact⟨⟨_,_,_,rfl⟩,bt.trans (But.of sT),sT _ _ a7,zs,fs,sT _ _ ba,a4.keep sT,sT _ _ bl,rws.tups (Tups.of sT),cf⟩
  ·rintro j x σ Y hx ⟨⟨v8,v9,v10,rfl⟩,X,ax,J,R,ab,U,ao,O,C⟩
   rw[JV]at hx;obtain⟨m,em,rfl⟩:=JX.mp hx;have jl:j<moves.length:=(J9.mp em).1;have mm:m∈moves:=JF em
   have aT:v (j+1)=go1 step seen p.1 r (v j) m:=by
    show List.foldl _ _ (moves.take (j+1))=_;rw[<- Y0 jl,Zq,show moves[j]=m from (J9.mp em).2];rfl
   have N:=C.go (step:=step) (seen:=seen) (s:=p.1) (k:=m) rl;rw[<- aT]at N;have t3:=xi X B;have W3:=W.keep t3 (kZ X B);obtain⟨pm,cc,ct,oc,fz,tk,cX,_⟩:=W3.la.ex;have cJ:=lvl.tups t3;obtain⟨r',c',b8,cP,b9,b5⟩:=cJ.at_ hp;have er:r'=r:=by rw[ep]at b8;cases b8;rfl
   have c3:c'=c:=by rw[ec]at b9;cases b9;rfl
   subst er c3;have tS:=t3.trans (x4 W3.la.fz)
   have c4:(v j).on.length+(v j).fl.length<=10000000:=by
    have:=C.few;have:(i+1)*moves.length<=level.length*moves.length:=Nat.mul_le_mul_right _ il;rw[W7,Nat.one_mul]at this;lia
   refine zaD (λG0 b7 c0=>?_);refine zi (λG1 b6=>?_);refine⟨f,rfl,⟨_,_,_,_,cX⟩,_,rfl,_,rfl,cl,vals,W3.fr,W3.la,W.ld _ _ _ m _ tS ck mm (cP.tups (x4 W3.la.fz)) (λH4 s4 e4 low=>?_) λH4 b4 t s4 e4 k4 low=>?_⟩
   ·-- elsewhere
    have D:=xj s4;generalize back cl Y H4=H5 at D ⊢;have M:=X.trans (But.of (l:=dl) D);have a9:=a8.tups (xi M B);have bo:H5 ds=some (DN P w ds ys):=M _ _ b3 cb.symm;have bu:=D _ _ b5;have e1:v (j+1)=⟨(v j).on,(v j).fl++[zp r' m]⟩:=by rw[aT];unfold go1;rw[e4]
    refine b6 _ _ ?_;refine⟨_,rfl,_,rfl,ds,ys,rfl,⟨.inl bo,a9.ks⟩,.inr ⟨rfl,false,rfl,zz ?_⟩⟩;refine⟨_,rfl,_,rfl,c',r',m,1,rfl,bu,by rw[rl];exact W.lt m mm,by rw[rl];exact W.n1,λq H6 I h6=>?_⟩;have bc:=I _ _ (D _ _ ao);refine⟨_,rfl,rfl,true,JQ V.bl (Jt rfl),yV ?_⟩;refine⟨_,rfl,.inl ⟨rfl,_,SqL.of bc⟩,_,rfl,l,_,_,rfl,rfl,bc,?_,?_⟩
    ·rw[Jc,JU O,JE];lia
    have lq:∀ {b:JI}{u:HO},H6 b=some u->b≠l->L2.upd H6 l (.lst (R.map V.ref++[.ref q])) b=some u:=λe ne=>by rw[zG ne];exact e
    have tq:Tups H6 (L2.upd H6 l (.lst (R.map V.ref++[.ref q]))):=λb xs e=>lq e (yD e bc (λz=>by cases z));have b0:=M.trans (But.of (l:=dl) I);refine b7 _ _ ⟨⟨_,_,_,rfl⟩,λb u e ne=>lq (b0 b u e ne) (zE e b2),lq (I _ _ (D _ _ ax)) bS,J,R++[q],lq (I _ _ (D _ _ ab)) ol,?_,?_,?_,N⟩
    ·rw[e1];exact((U.keep D).keep I).tups tq
    ·rw[JG];exact zB
    ·rw[e1];exact Ze ((O.tups (Tups.of D)).tups ((Tups.of I).trans tq)) (tq _ _ h6)
   ·have D:=xj s4
    have k5:=k4.tups (rL (H:=Y) low);generalize back cl Y H4=H5 at D k5 ⊢;have M:=X.trans (But.of (l:=dl) D);have a9:=a8.tups (xi M B);have bo:H5 ds=some (DN P w ds ys):=M _ _ b3 cb.symm;have bu:=D _ _ b5;refine b6 _ _ ?_;refine⟨_,rfl,_,rfl,ds,ys,rfl,⟨.inl bo,a9.ks⟩,.inl ⟨b4,t,rfl,k5,_,rfl,?_⟩⟩;rw[re a8.pr t];by_cases sn:(zU seen t).isSome=true
    ·have e1:v (j+1)=v j:=by rw[aT];unfold go1;rw[e4];exact Jm sn
     rw[sn];refine yV ?_;refine c0 _ _ ?_;rw[e1];rw[e1]at N;exact⟨⟨_,_,_,rfl⟩,M,D _ _ ax,J,R,D _ _ ab,U.keep D,D _ _ ao,O.tups (Tups.of D),N⟩
    ·have e1:v (j+1)=⟨xW (v j).on t (yn (zp r' m) ((zU (v j).on t).getD (zp r' m))),(v j).fl⟩:=by rw[aT];unfold go1;rw[e4];exact Je sn
     rw[show (zU seen t).isSome=false by simpa using sn];refine zz ?_;refine⟨_,rfl,_,rfl,c',r',m,1,rfl,bu,by rw[rl];exact W.lt m mm,by rw[rl];exact W.n1,λq H6 I h6=>?_⟩;have a5:=I _ _ (D _ _ ab);have Z:=(U.keep D).keep I;have k6:=k5.tups (Tups.of I);have b0:=M.trans (But.of (l:=dl) I);refine⟨_,rfl,rfl,false,JQ V.bl (Jj (λz=>by cases z)),zz ?_⟩;refine⟨_,rfl,_,rfl,o,rfl,⟨_,.inl a5⟩,_,rfl,_,rfl,b4,J,t,rfl,⟨.inl a5,Z.ks⟩,k6,?_⟩
     have le:∃ g s,(yg J t).getD (.ref q)=.ref g/\(zU (v j).on t).getD (zp r' m)=s/\H6 g=some (.tup (s.map V.int))/\s.length=n:=by
      rcases pA Z.pr t with ⟨a1,a2⟩|⟨g,s,a1,a2,a3⟩
      ·exact⟨q,zp r' m,by rw[a1];rfl,by rw[a2];rfl,h6,by rw[xk];exact rl⟩
      ·exact⟨g,s,by rw[a1];rfl,by rw[a2];rfl,a3,C.on _ (yp a2)⟩
     obtain⟨g,sr,g1,g2,g3,g4⟩:=le;rw[g1];rw[g2]at e1;have cn:(zp r' m).length=n:=by rw[xk];exact rl
     obtain⟨lx,h,p1,p2⟩:=nD h6 g3 cn g4;refine⟨_,_,1,vX H6,rfl,by decide,lx,?_⟩;rw[p1];refine⟨_,rfl,_,rfl,o,b4,J,t,rfl,rfl,a5,Z.ks,k6,?_,?_⟩
     ·rw[Z.len,JE];lia
     have tq:Tups H6 (L2.upd H6 o (DN P w o (yu J t b4 (.ref h)))):=λb xs e=>by rw[zG (yD e a5 (λz=>by cases z))];exact e
     refine b7 _ _ ⟨⟨_,_,_,rfl⟩,λb u e ne=>?_,?_,_,R,zB,?_,?_,?_,N⟩
     ·rw[zG (zE e ho)];exact b0 b u e ne
     ·rw[zG bB];exact I _ _ (D _ _ ax)
     ·rw[e1];exact(Z.put k6 p2).tups tq
     ·rw[zG ol.symm];exact I _ _ (D _ _ ao)
     ·rw[e1];exact(O.tups (Tups.of D)).tups ((Tups.of I).trans tq)
  ·rintro σ Y ⟨⟨v8,v9,v10,rfl⟩,X,ax,J,R,ab,U,ao,O,C⟩
   have b1:v (moves.map λm=>V.int (m:Nat)).length=y (i+1):=by rw[ml];exact fin
   rw[b1]at U O C;refine⟨⟨_,_,_,_,_,rfl⟩,X,ax,J,R,ab,U,ao,O,?_⟩;rw[ml]at C;rw[W7,Nat.one_mul];exact C
 ·rintro σ S ⟨⟨v6,v7,v8,v9,v10,rfl⟩,bt,a7,zs,fs,ba,a4,bl,rws,cf⟩
  have e:y xs.length=yL step seen moves level:=by show List.foldl _ _ (level.take xs.length)=_;rw[ll,Y9];rfl
  rw[e]at a4 rws;refine⟨dl,ob,xs,xs,u2 _ _ B,a7,?_⟩
  have sm:Same H (L2.upd S dl (DN P w dl xs)):=λb u e=>by
   by_cases z:b=dl
   ·rw[z]at e ⊢;rw[B]at e;rw[<- e];exact zB
   ·rw[zG z];exact bt b u e z
  have tz:Tups S (L2.upd S dl (DN P w dl xs)):=λb ys e=>by rw[zG (yD e a7 (λz=>by cases z))];exact e
  refine⟨_,rfl,_,rfl,by show 2<=sizeLine;decide,λq hq=>?_⟩;have I:=zD (show L2.upd S dl (DN P w dl xs) q=none from hq) (.tup [.ref o,.ref l]);refine k q o l zs fs _ (sm.trans I) ho zB (I _ _ ?_) ((a4.tups tz).keep I) (I _ _ ?_) ((rws.tups tz).tups (Tups.of I))
  ·rw[zG bB.symm];exact ba
  ·rw[zG bS.symm];exact bl
noncomputable abbrev aY:Stmt:=top 12
theorem kL {H H':Hp}{x:JI}(s:Same H H')(h:H' x=none):H x=none:=by
 cases e:H x with
 | none=>rfl
 | some o=>rw[s _ _ e]at h;cases h
theorem zaf {P:Yo}{w:YI}{H:Hp}{as:List JI}{ls:List LvL}{a:JI}{ys:List V}(h:LvsAt P w H as ls)(e:H a=some (.lst ys)):a∉as:=by
 induction h with
 | nil=>exact Jv
 | cons q _ ih =>
  intro z;rcases Jq.mp z with rfl|y
  ·obtain⟨b,e2,_⟩:=q
   rw[e]at e2;cases e2
  ·exact ih y
theorem jY:FnScope ["first","counts","moves","led","most","level","levels","seen","faults"] ["first","counts","moves","led","most"] (zN aY):=by rfl'
theorem mq {f fN:JI}{fd dN:Yl}{L:Lam}{fr:List Str}{lsp:LSpc}(F:Fun K "climbed" "climbed" aY f fd) (G:Mgs mg) (UN:Use P w K mg base "next_level" ["level","seen","moves","led"] 6 (mI P w K L fr lsp) fN dN):FnOk P w K mg base CX0 7 f fd ["first","counts","moves","led","most"] (qU P w K L fr lsp):=by
 refine F.ok jY (λvs H Q E h=>?_) (λcP A outer s H vs Q E hr h=>?_)
 ·obtain⟨T,S,mv,f,I,c,moves,cl,vals,step,Ok,n,most,rfl,_⟩:=h
  rfl
 obtain⟨T,S,mv,f,I,c,moves,cl,vals,step,Ok,n,most,rfl,bl,cb,cn,b2,W,mb,b3,mp,k⟩:=h;refine⟨_,(@zH _ _ _ _ _ (@zZ _ _ 5 _ _ _ _ jY.nd rfl (.inl rfl) (tU hr.u3 (@qv _ 0 _ _ (by rfl')) (@qv _ 1 _ _ (by rfl'))) (by rfl) (by rfl')) (@zH _ _ _ _ _ (@zZ _ _ 6 _ _ _ _ jY.nd rfl (.inl rfl) (@yJ _ _ _ _ zC) (by rfl) (by rfl')) (@zH _ _ _ _ _ (@zZ _ _ 7 _ _ _ _ jY.nd rfl (.inl rfl) uh (by rfl) (by rfl')) (@zH _ _ _ _ _ (@vO _ _ _ _ _ _ Yb (zbW (@qv _ 5 _ _ (by rfl')) (λ_=>rfl)) (@zH _ _ _ _ _ (@yj _ _ _ _ (kE hr.u3 (@qv _ 7 _ _ (by rfl')) (@qv _ 5 _ _ (by rfl')) ⟨rfl,rfl,rfl,rfl⟩) (by rfl)) (@zH _ _ _ _ _ (@yY _ _ _ _ _ _ _ _ (@zo _ _ _ _ _ _ _ _ kG (@zR _ _ _ _ _ _ _ _ _ wa (by rfl) G.len Y1 (@zA _ _ _ _ _ (@qv _ 7 _ _ (by rfl')) zC (by rfl)) (by decide) (by decide) (by rfl) (by rfl)) (@qv _ 4 _ _ (by rfl')) (yK _)) (@zK _ _ _ (@zS _ _ _ _ (@zX _ _ _ _ _ (@zA _ _ _ _ _ wI (@zA _ _ _ _ _ wJ zC (by rfl)) (by rfl))))) zu) (@zH _ _ _ _ _ (@yj _ _ _ _ (@wB _ _ _ _ _ _ _ _ _ _ _ _ Y2 Yy Yz yc (@qv _ 6 _ _ (by rfl')) (@zA _ _ _ _ _ (@qv _ 5 _ _ (by rfl')) zC (by rfl)) (by rfl) (by rfl) (by rfl) (by rfl) (by rfl)) (by rfl)) (@zH _ _ _ _ _ (@yT _ _ _ _ _ _ (@zQ _ _ _ _ _ _ _ _ _ _ _ _ _ _ _ _ UN.ok hr (by rfl) UN.m UN.kp UN.b .nil zY (@zA _ _ _ _ _ (@qv _ 5 _ _ (by rfl')) (@zA _ _ _ _ _ (@qv _ 7 _ _ (by rfl')) (@zA _ _ _ _ _ (@qv _ 2 _ _ (by rfl')) (@zA _ _ _ _ _ (@qv _ 3 _ _ (by rfl')) zC (by rfl)) (by rfl)) (by rfl)) (by rfl)) (by decide) (by rfl) (by rfl)) (@yQ _ _ _ _ _ _ rfl (@zP _ _ _ _ _ (@zM _ _ 5 _ jY.nd rfl (.inl rfl) (by rfl')) (@zP _ _ _ _ _ (@zM _ _ 8 _ jY.nd rfl (.inl rfl) (by rfl')) yA (by rfl)) (by rfl)) (by rfl) (by rfl)) (by rfl) (by rfl) (by rfl)) (@zK _ _ _ (@yY _ _ _ _ _ _ _ _ (@gu _ _ _ (@qv _ 8 _ _ (by rfl')) (λ_=>rfl)) (@zK _ _ _ (@zS _ _ _ _ (@zX _ _ _ _ _ (@zA _ _ _ _ _ wI (@zA _ _ _ _ _ (@zR _ _ _ _ _ _ _ _ _ (qH rfl true hr.units) (by rfl) G.min (by rfl) (@zA _ _ _ _ _ (@qv _ 8 _ _ (by rfl')) zC (by rfl)) (by decide) (by decide) (by rfl) (by rfl)) zC (by rfl)) (by rfl))))) zu))))))) (@zK _ _ _ (@zS _ _ _ _ (@zX _ _ _ _ _ (@zA _ _ _ _ _ wI (@zA _ _ _ _ _ (@qv _ 6 _ _ (by rfl')) zC (by rfl)) (by rfl))))))))),?_⟩;refine zi (λDz cc=>λdl a5=>⟨_,rfl,_,rfl,T,I,rfl,zB,bl.tups (Tups.of (zD a5 _)),cc _ _ ?_⟩);refine⟨by show 0<=sizeLine;decide,λd N=>λds B=>?_⟩
 have sA:Same H (L2.upd (L2.upd H dl (DN P w dl [])) dl (DN P w dl [(I,T,.ref S)])):=λb u e=>by
  rw[zG (zE e a5),zG (zE e a5)];exact e
 have a6:L2.upd (L2.upd H dl (DN P w dl [])) dl (DN P w dl [(I,T,.ref S)]) dl=some (DN P w dl [(I,T,.ref S)]):=zB;replace N:L2.upd (L2.upd H dl (DN P w dl [])) dl (DN P w dl [(I,T,.ref S)]) d=none:=N;replace B:L2.upd (L2.upd (L2.upd H dl (DN P w dl [])) dl (DN P w dl [(I,T,.ref S)])) d (.lst []) ds=none:=B;show wC _ _ _ _ (L2.upd (L2.upd (L2.upd (L2.upd H dl (DN P w dl [])) dl (DN P w dl [(I,T,.ref S)])) d (.lst [])) ds (DN P w ds []));generalize L2.upd (L2.upd H dl (DN P w dl [])) dl (DN P w dl [(I,T,.ref S)])=HA at *;have sB:=zD N (.lst []);have sC:=zD B (DN P w ds []);have a3:L2.upd HA d (.lst []) d=some (.lst []):=zB;have bt:=sC _ _ a3;have bu:=sC _ _ (sB _ _ a6);have bo:L2.upd (L2.upd HA d (.lst [])) ds (DN P w ds []) ds=some (DN P w ds []):=zB;have b7:d≠ds:=zE a3 B;have bS:dl≠ds:=zE (sB _ _ a6) B;have b6:H d=none:=kL sA N;have ct:H ds=none:=kL (sA.trans sB) B;have sX:Same H (L2.upd (L2.upd HA d (.lst [])) ds (DN P w ds [])):=(sA.trans sB).trans sC;generalize L2.upd (L2.upd HA d (.lst [])) ds (DN P w ds [])=HX at *;clear sA sB sC a3 N B a6
 refine⟨λm σ j=>∃ dl i r level seen as ls v8,σ=[some (.ref T),some (.ref S),some (.ref mv),some (.ref f),some (.int (most:Nat)),some (.ref dl),some (.ref d),some (.ref ds),v8]/\Same H j/\j dl=some (DN P w dl i)/\LvE j i level/\j ds=some (DN P w ds r)/\LvE j r seen/\dl≠ds/\j d=some (.lst (as.map V.ref))/\LvsAt P w j as ls/\ds∉as /\
  as.length<=seen.length/\LvNd level/\(∀ p∈level,zU seen p.1=none)/\(∀ p∈level,Ok p.1/\p.2.length=n)/\seen.length<=most/\(seen≠[]\/level.length=1)/\level.length<=16*most+1/\most+1<=m+seen.length/\ya step moves most (most+1) [(I,c)] [] []=ya step moves most m level seen ls,⟨most+1,?_⟩,?_⟩
 ·exact⟨dl,_,[],[(I,c)],[],[],[],_,rfl,sX,bu,⟨λx hx=>by rw[Ja.mp hx];exact bl.tups (Tups.of sX),.cons ⟨rfl,S,rfl,sX _ _ cb⟩ .nil⟩,bo,LvE.nil,bS,bt,.nil,Jv,Jd _,JP.mpr ⟨Jv,Yx⟩,λp v=>rfl,λp v=>by rw[Ja.mp v];exact⟨b2,cn⟩,Jz _,.inr rfl,by show 1<=_;lia,Jd _,rfl⟩
 clear bt bu bo sX b7 bS;rintro m σ j ⟨dl,i,r,level,seen,as,ls,v8,rfl,s2,Z,C,M,J,ab,Y,R,b1,cX,nd,new,ax,sm,one,cH,em,ec⟩
 have e0:(!i.isEmpty) = !level.isEmpty:=by
  have:=C.len;cases i<;>cases level<;>first|rfl|cases this
 refine⟨_,rfl,dl,i,rfl,.inl Z,?_⟩;rw[e0];obtain⟨m,rfl⟩:∃ m',m=m'+1:=⟨m-1,by lia⟩;by_cases le:level=[]
 ·rw[le]
  refine zz ?_;refine⟨_,rfl,by show 2<=sizeLine;decide,λp v=>?_⟩;have s3:=zD v (.tup [.str "whole",.ref d]);refine k p _ (s2.trans s3) ?_;rw[ec,le,xv];exact⟨d,as,zB,s3 _ _ Y,R.keep s3⟩
 rw[show (!level.isEmpty)=true by cases level;exact absurd rfl le;rfl];refine yV ⟨_,λcx H' hN=>⟨m,Nat.lt_succ_self _,hN⟩,?_⟩;have l2:=C.len;have l3:=J.len;refine zi (λDy cf=>?_);refine⟨_,rfl,ds,rfl,⟨_,.inl M⟩,_,rfl,dl,r,i,rfl,ab.symm,M,J.ks,⟨.inl Z,C.ks⟩,by rw[JE];lia,?_,?_⟩
 ·rcases one with z|z
  ·exact .inl λy=>z (by rw[y]at l3;exact Zd.mp l3.symm)
  ·exact .inr (by rw[l2];exact z)
 rw[J.merge C nd new];have bc:d≠ds:=yD Y M λz=>by cases z
 have a0:L2.upd j ds (DN P w ds (r++i)) ds=some (DN P w ds (r++i)):=zB;have t3:Tups j (L2.upd j ds (DN P w ds (r++i))):=λb zs e=>by rw[zG (yD e M λz=>by cases z)];exact e
 have a7:L2.upd j ds (DN P w ds (r++i)) dl=some (DN P w dl i):=by rw[zG ab];exact Z
 have D:L2.upd j ds (DN P w ds (r++i)) d=some (.lst (as.map V.ref)):=by rw[zG bc];exact Y
 have s3:Same H (L2.upd j ds (DN P w ds (r++i))):=λb u e=>by rw[zG (zE e ct)];exact s2 b u e
 have O:LvsAt P w (L2.upd j ds (DN P w ds (r++i))) as ls:=R.but t3 λa ha o e=>by rw[zG (λ(z:a=ds)=>b1 (z ▸ ha))];exact e
 have X:=C.tups t3;have ba:=(J.tups t3).app X;refine cf _ _ ?_;show wC _ _ _ _ (L2.upd j ds (DN P w ds (r++i)));generalize L2.upd j ds (DN P w ds (r++i))=U at *;clear M Y Z R C J t3 s2;have yl:(r++i).length=seen.length+level.length:=by rw[Jb];simp_all
 refine⟨_,rfl,ds,_,rfl,.inl a0,_,rfl,_,_,rfl,rfl,_,rfl,zar (λz=>?_) (λz=>?_)⟩
 ·have z1:most<seen.length+level.length:=by
   have:=Yq z;rw[yl]at this;lia
  refine⟨by show 2<=sizeLine;decide,λp v=>?_⟩;have s4:=zD v (.tup [.str "open",.non]);refine k p _ (s3.trans s4) ?_;rw[ec,xw le z1];exact zB
 have z1:¬ most<seen.length+level.length:=λy=>z (Jt (by rw[yl];lia));have lp:0<level.length:=ZC.mpr le;dsimp only[bi];refine zi (λDx ck=>?_);refine⟨_,rfl,.inl ⟨rfl,_,SqL.of D⟩,_,rfl,d,_,_,rfl,rfl,D,by rw[Jc,JE];lia,?_⟩;have b9:L2.upd U d (.lst (as.map V.ref++[.ref dl])) d=some (.lst ((as++[dl]).map V.ref)):=by rw[JG];exact zB
 have q4:∀ {b:JI}{u:HO},U b=some u->b≠d->L2.upd U d (.lst (as.map V.ref++[.ref dl])) b=some u:=λe ne=>by rw[zG ne];exact e
 have t4:Tups U (L2.upd U d (.lst (as.map V.ref++[.ref dl]))):=λb zs e=>q4 e (yD e D λz=>by cases z);have bB:=q4 a7 (yD a7 D λz=>by cases z);have aT:=q4 a0 bc.symm;have s4:Same H (L2.upd U d (.lst (as.map V.ref++[.ref dl]))):=λb u e=>q4 (s3 b u e) (zE e b6)
 have a8:LvsAt P w (L2.upd U d (.lst (as.map V.ref++[.ref dl]))) (as++[dl]) (ls++[level]):=Ze (O.but t4 λa ha o e=>by
  by_cases y:a=d
  ·exact absurd (y ▸ ha) (zaf O D)
  ·exact q4 e y) ⟨i,bB,X.tups t4⟩
 have b4:=X.tups t4;have a9:=ba.tups t4;refine ck _ _ ?_;show wC _ _ _ _ (L2.upd U d (.lst (as.map V.ref++[.ref dl])));generalize L2.upd U d (.lst (as.map V.ref++[.ref dl]))=H4 at *;clear a0 D a7 O X ba t4 s3 q4;have W4:=W.keep (Tups.of s4) λb o u e=>s4 b _ e;have nw:=vT (step:=step) (seen:=seen++level) (moves:=moves) (Ok:=Ok) level λp v m hm t e=>W.ok _ _ _ (ax p v).1 hm e;have na:=o0 (step:=step) (seen:=seen++level) (moves:=moves) (n:=n) level λp v=>(ax p v).2;have cJ:level.length*moves.length<=level.length*16:=Nat.mul_le_mul_left _ b3;refine zi (λDw cm=>?_);refine⟨_,rfl,_,rfl,_,rfl,_,rfl,dl,ds,mv,f,i,r++i,level,seen++level,moves,cl,vals,step,Ok,n,rfl,bB,b4,aT,a9,ab,W4,ax,by lia,λp o l zs fs H5 s5 ho v b8 b5 a4 ao=>?_⟩;refine⟨p,_,rfl,SqT.of v,rfl,_,_,rfl,_,_,rfl,rfl,cm _ _ ?_⟩;have fl:=JU ao;by_cases fe:(yL step (seen++level) moves level).fl=[]
 ·have f0:fs=[]:=by rw[fe]at fl;exact Zd.mp fl
  refine⟨_,rfl,false,.inl ⟨_,SqL.of a4,by rw[f0];rfl⟩,zz ?_⟩;refine⟨o,zs,r++i,_,seen++level,as++[dl],ls++[level],_,rfl,s4.trans s5,b8,b5,s5 _ _ aT,a9.keep s5,λz=>?_,s5 _ _ b9,a8.keep s5,?_,?_,nw.nd,nw.new,λp v=>⟨nw.ok p v,na.on p v⟩,by rw[Jb];simp_all,.inl ?_,?_,by rw[Jb];lia,?_⟩
  ·rw[z,aT]at ho;cases ho
  ·intro z
   rcases Jr.mp z with y|y
   ·exact b1 y
   ·exact ab (Ja.mp y).symm
  ·rw[Jb,Jb];show as.length+1<=_;lia
  ·intro y
   have:=JQ List.length y;rw[Jb,Zj]at this
   simp_all
  ·have:=na.few;lia
  ·rw[ec,wP le z1 fe]
 ·have fp:0<(fs.map V.ref).length:=by
   rw[Jc,fl];exact ZC.mpr fe
  refine⟨_,rfl,true,.inl ⟨_,SqL.of a4,?_⟩,yV ?_⟩
  ·cases fs with
   | nil=>exact absurd fp (by simp)
   | cons a b=>rfl
  obtain⟨g,g1,g2⟩:=nr ao fe;refine⟨_,rfl,l,_,1,vX H5,rfl,SqL.of a4,fp,by decide,qh ao na.fl,?_⟩;rw[g1];refine⟨by show 2<=sizeLine;decide,λq hq=>?_⟩;have s6:=zD hq (.tup [.str "breaks",.ref g]);refine k q _ ((s4.trans s5).trans s6) ?_;rw[ec,xx le z1 fe];exact⟨g,zB,s6 _ _ g2⟩
noncomputable abbrev ga:Stmt:=top 14
theorem rW {α β:Type}{F:α->β->Prop}{xs:List α}{ys:List β}(h:Paired F xs ys):∀ {i:Nat}{a:α},xs[i]?=some a->∃ b,ys[i]?=some b/\F a b:=by
 induction h with
 | nil=>intro i a e;cases e
 | cons q _ ih =>
  intro i a e
  cases i with
  | zero=>cases Jf e;exact⟨_,rfl,q⟩
  | succ i=>exact ih e
theorem p6 (ls:List LvL)(i:Nat):((ls.take i).map List.length).sum<=(ls.map List.length).sum:=by
 induction ls generalizing i with
 | nil=>rw[List.take_nil];exact Jd _
 | cons a ls ih =>
  cases i with
  | zero=>exact Jz _
  | succ i=>show a.length+_<=a.length+_;exact Nat.add_le_add_left (ih i) _
theorem cp {H:Hp}{a:JI}{o:HO}(_:Same H (L2.upd H a o))(h:H a=none):H a=none:=h
theorem zbN:FnScope ["levels"] ["levels"] (zN ga):=by rfl'
theorem cg (F0 c0:Nat) {f:JI}{fd:Yl}(F:Fun K "book_of" "book_of" ga f fd) (G:Mgs mg):FnOk P w K mg base CX0 1 f fd ["levels"] (gS P w F0 c0):=by
 refine F.ok zbN (λR H Q E h=>?_) (λab A outer s H R Q E hr h=>?_)
 ·obtain⟨l,as,ls,rfl,_⟩:=h
  rfl
 obtain⟨l,as,ls,rfl,hl,M,t,Y,k⟩:=h;refine⟨_,(@zK _ _ _ (@zS _ _ _ _ (@zw _ _ _ _ _ _ _ _ _ yO (by rfl) G.tuple (by rfl) (@zA _ _ _ _ _ (@fH _ _ _ _ _ _ none _ _ _ (bz K (tCB (gn P w) (li (gG 0) gJ))) _ _ _ _ ["level","state"] [none,none] rfl (@ug _ _ _ _ (@qv _ 0 _ _ (by rfl'))) (CapOk.of (by kernel_rfl)) (λ_ _ _ _ _=>@zM _ _ 0 _ (show (["level","state"]:List Str).Nodup from by decide +kernel) rfl (.inl rfl) (.inr rfl)) (λ_ _ _ _ _=>@ug _ _ _ _ (@zR _ _ _ _ _ _ _ _ _ (wm rfl hr.units) (by rfl) G.sorted (by rfl) (@zA _ _ _ _ _ (@qv _ 0 _ _ (by rfl')) zC (by rfl)) (by decide) (by decide) (by rfl) (by rfl))) (λ_ _ _ _ _=>@zM _ _ 1 _ (show (["level","state"]:List Str).Nodup from by decide +kernel) rfl (.inl rfl) (.inr rfl)) (λ_ _ _ _ _=>xY) (λ_ _ _ _ _=>@qv _ 1 _ _ (by rfl')) (by intro _;rfl) (by intro _ _;rfl)) zC (by rfl)) (by decide) (by decide) (by rfl) (by rfl)))),?_⟩;refine⟨_,rfl,l,rfl,⟨_,SqL.of hl⟩,λD N=>?_⟩;have al:as.length=ls.length:=JU M;have s1:=zD N (.lst []);refine eL (K:=K) (a:=l) (xs:=as.map V.ref) (Q:=λx H1=>gJ (L2.start ["levels"] [V.ref l]) H1 λR c=>(∃ p v,x::R=[V.ref p]/\((SqL K c p v/\∀ (l:JI),c l=none->Q (V.ref l) (L2.upd c l (HO.tup v)))\/SqT K c p v/\Q (V.ref p) c))) (λi acc σ c=>(∃ n m,σ=[n,m])/\Same H c/\c D=some (.lst acc)/\∃ (bs:List JI) (d:List (List KN)),acc=bs.map V.ref/\KeysAt c bs d.flatten/\bs.length=((ls.take i).map List.length).sum/\Paired (λI lv=>I.Perm (lv.map (·.1))/\I.Pairwise λx y=>xu x<=xu y) d (ls.take i)) ⟨⟨_,_,rfl⟩,s1,zB,[],[],rfl,.nil,rfl,.nil⟩ (λi acc σ c z=>⟨z.2.2.1,SqL.of (z.2.1 _ _ hl)⟩) ?_ ?_
 ·rintro i acc σ c x J ⟨⟨n,m,rfl⟩,C,L,bs,d,rfl,u,bl,bk⟩
  rw[JV]at J;obtain⟨a,ea,rfl⟩:=JX.mp J;have ia:i<as.length:=(J9.mp ea).1;have il:i<ls.length:=by simp_all
  obtain⟨lv,el,xs,hd,le⟩:=rW M ea;have r:lv∈ls:=JF el;have Z:ls.take (i+1)=ls.take i++[lv]:=by rw[<- Y0 il,(J9.mp el).2]
  have O:((ls.take (i+1)).map List.length).sum=bs.length+lv.length:=by rw[Z,JG,List.sum_append,<- bl];rfl
  have sum2:((ls.take (i+1)).map List.length).sum<=1000000:=JS (p6 ls (i+1)) Y;have d2:=C _ _ hd;have le2:=le.keep C;refine⟨_,rfl,a,xs,rkH c,rfl,d2,le2.len_le (t lv r).1,oM le2 (t lv r).2,λq v hq pm so=>?_⟩;have B:=zD hq (.lst v);have lq:D≠q:=zE L hq;obtain⟨cs,rfl,pc⟩:=wu (f:=V.ref) (zs:=xs.map λp=>p.2.1) pm (by rw[YA];rfl);obtain⟨I,kj,pj⟩:=vz pc le2.keys
  have sj:=uP kj (λk hk=>by
   obtain⟨p,W,rfl⟩:=Jw.mp (pj.mem_iff.mp hk)
   exact(t lv r).2 p W) so
  have cl:cs.length=lv.length:=by rw[pc.length_eq,Jc];exact le2.len
  refine⟨q,rfl,⟨_,SqL.of zB⟩,?_⟩;refine eM (K:=K) (a:=q) (zs:=cs.map V.ref) (λj acc σ g=>(∃ n m,σ=[n,m])/\Same H g/\(∀ b o,c b=some o->b≠D->g b=some o)/\g q=some (.lst (cs.map V.ref))/\acc=bs.map V.ref++(cs.map V.ref).take j/\g D=some (.lst acc)) ?_ (λj acc σ g z=>⟨z.2.2.2.2.2,SqL.of z.2.2.2.1⟩) ?_ ?_
  ·exact⟨⟨_,_,rfl⟩,C.trans B,λb o e _=>B b o e,zB,by rw[ZN,JZ],B _ _ L⟩
  ·rintro j x acc σ g J ⟨⟨n,m,rfl⟩,S,T,q4,rfl,X⟩
   have U:=(J9.mp J).1;refine⟨_,rfl,X,?_,nx U ⟨⟨_,_,rfl⟩,λb o e=>?_,λb o e ne=>?_,?_,?_,zB⟩⟩
   ·rw[Jb,JC,Jc,Jc,JE]
    rw[Jc]at U;lia
   ·rw[zG (zE e (cp s1 N))];exact S b o e
   ·rw[zG ne];exact T b o e ne
   ·rw[zG lq.symm];exact q4
   ·rw[JW]
    congr 1
    rw[<- Y0 U,(J9.mp J).2]
  ·rintro acc σ g ⟨⟨n,m,rfl⟩,S,T,q4,rfl,X⟩
   have t4:Tups c g:=λb v e=>T b _ e (yD e L λz=>by cases z);refine nx (by rw[Jc];exact ia) ⟨⟨_,_,rfl⟩,S,X,bs++cs,d++[I],?_,?_,?_,?_⟩
   ·rw[Y9,JG]
   ·rw[List.flatten_append]
    refine wv (u.tups t4) ?_;show Paired _ cs (I++[]);rw[JZ];exact kj.tups t4
   ·rw[O,Jb,cl]
   ·rw[Z];exact Ze bk ⟨pj,sj⟩
 ·rintro acc σ c ⟨⟨n,m,rfl⟩,C,L,bs,d,rfl,u,bl,bk⟩
  rw[Jc,al,Y9]at bk;refine⟨D,_,rfl,.inl ⟨SqL.of L,λp W=>?_⟩⟩;have B:=zD W (.tup (bs.map V.ref));exact k p bs _ _ (C.trans B) zB (u.tups (Tups.of B)) ⟨d,rfl,bk⟩
noncomputable abbrev aX:Stmt:=top 6
noncomputable abbrev qb:Stmt:=top 17
noncomputable abbrev aO:Stmt:=top 18
theorem eV (h a b:Nat):inV (V.int h) [V.int a,V.int b]=decide (h=a\/h=b):=by
 rw[Yd,decide_eq_true_iff];simp[inV,eqV];lia
theorem scD:FnScope ["net","lane"] ["net","lane"] (zN aX):=by rfl'
theorem zaa {f:JI}{fd:Yl}(F:Fun K "end_of" "end_of" aX f fd):FnOk P w K mg base CX0 1 f fd ["net","lane"] gR:=by
 refine F.ok scD (λd H Q E h=>?_) (λj A outer s H d Q E g h=>?_)
 ·obtain⟨r,fr,c,e,N,a,rfl,_⟩:=h
  rfl
 obtain⟨r,fr,c,e,N,a,rfl,ok,na,i,k⟩:=h;refine⟨_,(@zK _ _ _ (@zS _ _ _ _ (@kD _ _ _ _ _ _ _ g.units (@zj _ _ _ _ _ _ _ yE (@qv _ 0 _ _ (by rfl')) zJ (λ_ _=>rfl)) (@zA _ _ _ _ _ (@qv _ 1 _ _ (by rfl')) zC (by rfl)) (by rfl) (by rfl) (by rfl) (by rfl)))),?_⟩;have b:=na.ends;rw[oe]at b;refine⟨_,rfl,r,_,_,_,rfl,rfl,SqT.of na.net,rfl,c,_,rfl,b,_,rfl,(a:Int),rfl,b,?_,?_⟩
 ·exact Jw.mpr ⟨a,ok.en.mem_iff.mpr (YQ.mpr i),rfl⟩
 ·rw[sI];exact k
theorem scR:FnScope ["net","turns","lane","back","behind","here","number","fork","turn"] ["net","turns","lane","back"] (zN aO):=by rfl'
theorem ar {f fD:JI}{fd dD:Yl}(F:Fun K "run_through" "run_through" aO f fd) (G:Mgs mg) (M:Use P w K mg base "end_of" ["net","lane"] 1 gR fD dD):FnOk P w K mg base CX0 2 f fd ["net","turns","lane","back"] gN:=by
 refine F.ok scR (λvs H Q E h=>?_) (λab A outer s H vs Q E hr h=>?_)
 ·obtain⟨us,back,rfl,r,fr,er,J,N,D,ts,lane,rfl,_⟩:=h
  rfl
 obtain⟨us,back,rfl,r,fr,er,J,N,D,ts,lane,rfl,ok,na,S,tl,bits,hl,k⟩:=h;refine⟨_,(@zH _ _ _ _ _ (@zZ _ _ 4 _ _ _ _ scR.nd rfl (.inl rfl) (@zw _ _ _ _ _ _ _ _ _ y4 (by rfl) G.list (by rfl) (@zA _ _ _ _ _ (@qv _ 1 _ _ (by rfl')) zC (by rfl)) (by decide) (by decide) (by rfl) (by rfl)) (by rfl) (by rfl')) (@zH _ _ _ _ _ (@zZ _ _ 5 _ _ _ _ scR.nd rfl (.inl rfl) (@qv _ 2 _ _ (by rfl')) (by rfl) (by rfl')) (@zH _ _ _ _ _ (@y7 _ _ _ _ _ _ _ _ Yb rfl (@kC _ _ _ _ _ _ _ _ false rfl G.enum (@zA _ _ _ _ _ (@zj _ _ _ _ _ _ _ yE (@qv _ 0 _ _ (by rfl')) zJ (λ_ _=>rfl)) zC (by rfl)) (by rfl)) (@yQ _ _ _ _ _ _ rfl (@zP _ _ _ _ _ (@zM _ _ 6 _ scR.nd rfl (.inl rfl) (by rfl')) (@zP _ _ _ _ _ (@zM _ _ 7 _ scR.nd rfl (.inl rfl) (by rfl')) yA (by rfl)) (by rfl)) (by rfl) (by rfl)) (@zK _ _ _ (@yY _ _ _ _ _ _ _ _ (@zo _ _ _ _ _ _ _ _ rX (@qv _ 5 _ _ (by rfl')) (@qv _ 7 _ _ (by rfl')) (by rfl)) (@zH _ _ _ _ _ (@zZ _ _ 8 _ _ _ _ scR.nd rfl (.inl rfl) (@zj _ _ _ _ _ _ _ yB (@qv _ 4 _ _ (by rfl')) (@qv _ 6 _ _ (by rfl')) (λ_ _=>rfl)) (by rfl) (by rfl')) (@zH _ _ _ _ _ (@yT _ _ _ _ _ _ (@zV _ _ _ _ _ _ _ _ tW zJ (@qv _ 8 _ _ (by rfl'))) (@tR _ _ _ _ _ _ _ (@qv _ 4 _ _ (by rfl')) (@qv _ 6 _ _ (by rfl')) wH (by intro _;rfl)) (by rfl) (by rfl) (by rfl)) (@zK _ _ _ (@zZ _ _ 5 _ _ _ _ scR.nd rfl (.inl rfl) (@zj _ _ _ _ _ _ _ yE (@qv _ 7 _ _ (by rfl')) (@fI _ _ _ _ _ _ _ _ (@me _ _ _ (@qv _ 3 _ _ (by rfl')) (by intro _;rfl)) (@zV _ _ _ _ _ _ _ _ tW zJ (@qv _ 8 _ _ (by rfl'))) (@qv _ 8 _ _ (by rfl'))) (λ_ _=>rfl)) (by rfl) (by rfl'))))) zu)) (by intro _;rfl)) (@zK _ _ _ (@zS _ _ _ _ (@zX _ _ _ _ _ (@zA _ _ _ _ _ (@zw _ _ _ _ _ _ _ _ _ yO (by rfl) G.tuple (by rfl) (@zA _ _ _ _ _ (@qv _ 4 _ _ (by rfl')) zC (by rfl)) (by decide) (by decide) (by rfl) (by rfl)) (@zA _ _ _ _ _ (@zQ _ _ _ _ _ _ _ _ _ _ _ _ _ _ _ _ M.ok hr (by rfl) M.m M.kp M.b .nil zY (@zA _ _ _ _ _ (@qv _ 0 _ _ (by rfl')) (@zA _ _ _ _ _ (@qv _ 5 _ _ (by rfl')) zC (by rfl)) (by rfl)) (by decide) (by rfl) (by rfl)) zC (by rfl)) (by rfl)))))))),?_⟩;refine⟨_,rfl,D,_,rfl,.inr (SqT.of S),λd I=>⟨_,rfl,?_⟩⟩;have O:=zD I (.lst (ts.map V.int));refine⟨_,rfl,r,_,_,_,rfl,rfl,SqT.of (O _ _ na.net),rfl,fr,J,rfl,SqT.of (O _ _ na.forks),?_⟩
 refine nO (K:=K) (b:=false) (a:=fr) (xs:=J) (λi σ m=>(∃ C B y,σ=[some (.ref r),some (.ref D),some (.int lane),some (.bl back),some (.ref d),some (.int (yP back N.forks ts lane i).2),C,B,y])/\Same H m/\m d=some (.lst ((yP back N.forks ts lane i).1.map V.int)))
  ⟨⟨_,_,_,rfl⟩,O,zB⟩ (λi σ m _ q=>SqT.of (q.2.1 _ _ na.forks)) ?_ ?_
 ·rintro i x σ m T hx hT ⟨⟨C,B,y,rfl⟩,v,n⟩
  obtain⟨a,g,rfl,eg,L⟩:=(na.prs.tups (Tups.of v)).get hx;have gi:i<N.forks.length:=(J9.mp eg).1;have gd:N.forks.getD i (0,0)=g:=by rw[JA,eg];rfl
  have rs:yP back N.forks ts lane (i+1)=yF back (yP back N.forks ts lane i) i g:=by show yF _ _ _ _=_;rw[gd]
  have rl:=wT (back:=back) (fs:=N.forks) (ts:=ts) (lane:=lane) i;have rb:=x6 (back:=back) (fs:=N.forks) (lane:=lane) bits i;generalize yP back N.forks ts lane i=st at *;have u:=zD hT (.tup [.int i,.ref a]);have lT:d≠T:=zE n hT;refine⟨T,_,rfl,SqT.of zB,rfl,_,_,rfl,_,_,rfl,rfl,?_⟩;refine⟨_,rfl,_,rfl,a,_,rfl,.inr (SqT.of (u _ _ L)),rfl,rfl,_,rfl,?_⟩;show if (if false=true then !inV (V.int (st.2:Nat)) [V.int (g.1:Nat),V.int (g.2:Nat)] else inV (V.int (st.2:Nat)) [V.int (g.1:Nat),V.int (g.2:Nat)])=true then _ else _;rw[Je Jh,eV];by_cases on:st.2=g.1\/st.2=g.2
  ·rw[Jt on]
   refine yV ?_;have c:yF back st i g=(st.1.set i (1-st.1.getD i 0),if (if back then 1-st.1.getD i 0 else st.1.getD i 0)=0 then g.1 else g.2):=by unfold yF;rw[Jm on]
   have R:i<st.1.length:=by simp_all
   have U:=rb _ (L2.sM R);have Z:=u _ _ n;refine⟨_,rfl,_,rfl,d,_,_,_,rfl,rfl,SqL.of Z,uJ R,?_⟩;refine⟨_,rfl,_,_,rfl,rfl,_,rfl,_,rfl,d,_,_,i,rfl,rfl,Z,eT (by rw[Jc];exact R),?_⟩
   have l:upd (upd m T (.tup [.int i,.ref a])) d (.lst ((st.1.map V.int).set i (.int (1-st.1.getD i 0)))) a=some (.tup [.int g.1,.int g.2]):=by
    rw[zG (by rintro rfl;rw[n]at L;cases L)];exact u _ _ L
   have fin:∀ nx:Nat,nx=(yF back st i g).2->(∃ C B y,([some (.ref r),some (.ref D),some (.int lane),some (.bl back),some (.ref d),some (.int nx),some (.int i),some (.ref a),some (.int (st.1.getD i 0))]:List (Option V))=[some (.ref r),some (.ref D),some (.int lane),some (.bl back),some (.ref d),some (.int (yP back N.forks ts lane (i+1)).2),C,B,y]) /\
     Same H (upd (upd m T (.tup [.int i,.ref a])) d (.lst ((st.1.map V.int).set i (.int (1-st.1.getD i 0)))))/\upd (upd m T (.tup [.int i,.ref a])) d (.lst ((st.1.map V.int).set i (.int (1-st.1.getD i 0)))) d=some (.lst ((yP back N.forks ts lane (i+1)).1.map V.int)):=λnx en=>by
    refine⟨⟨_,_,_,by rw[rs,en]⟩,λb o e=>?_,?_⟩
    ·rw[zG (zE e I)];exact u _ _ (v b o e)
    ·rw[zB,rs,c,oC]
   cases back with
   | false =>
    rcases U with z|z
    ·exact⟨_,rfl,_,rfl,_,rfl,zz ⟨_,rfl,a,_,_,_,rfl,rfl,SqT.of l,by rw[z];exact yk (j:=0) rfl,fin g.1 (by rw[c,z];rfl)⟩⟩
    ·exact⟨_,rfl,_,rfl,_,rfl,zz ⟨_,rfl,a,_,_,_,rfl,rfl,SqT.of l,by rw[z];exact yk (j:=1) rfl,fin g.2 (by rw[c,z];rfl)⟩⟩
   | true =>
    rcases U with z|z
    ·exact⟨_,rfl,_,rfl,_,rfl,yV ⟨_,rfl,_,_,rfl,rfl,a,_,_,_,rfl,rfl,SqT.of l,by rw[z];exact yk (j:=1) rfl,fin g.2 (by rw[c,z];rfl)⟩⟩
    ·exact⟨_,rfl,_,rfl,_,rfl,yV ⟨_,rfl,_,_,rfl,rfl,a,_,_,_,rfl,rfl,SqT.of l,by rw[z];exact yk (j:=0) rfl,fin g.1 (by rw[c,z];rfl)⟩⟩
  ·rw[Jj on]
   have c:yF back st i g=st:=by unfold yF;rw[Je on]
   exact zz ⟨⟨_,_,_,by rw[rs,c];rfl⟩,v.trans u,by rw[rs,c];exact u _ _ n⟩
 ·rintro σ m ⟨⟨C,B,y,rfl⟩,v,n⟩
  have X:=na.prs.len;rw[X]at n;have hh:=wq (back:=back) (ts:=ts) ok.fk hl N.forks.length (Jd _);refine⟨_,rfl,d,_,rfl,.inl ⟨SqL.of n,λt ht=>?_⟩⟩;have W:=zD ht (.tup ((yP back N.forks ts lane N.forks.length).1.map V.int));refine⟨_,rfl,_,rfl,r,fr,er,J,N,_,by rw[X];rfl,ok,na.tups (Tups.of (v.trans W)),hh,(by show 2<=sizeLine;decide),λp Y=>?_⟩;exact k p t _ ((v.trans W).trans (zD Y _)) zB (zD Y _ _ _ zB)
theorem scP:FnScope ["net","turns","lane"] ["net","turns","lane"] (zN qb):=by rfl'
theorem ju {f k:JI}{fd l:Yl}(F:Fun K "passed" "passed" qb f fd) (b:Use P w K mg base "run_through" ["net","turns","lane","back"] 2 gN k l):FnOk P w K mg base CX0 3 f fd ["net","turns","lane"] (wp false):=by
 refine F.ok scP (λi H Q E h=>?_) (λm A outer s H i Q E j h=>?_)
 ·obtain⟨r,fr,g,e,N,c,d,a,rfl,_⟩:=h
  rfl
 obtain⟨r,fr,g,e,N,c,d,a,rfl,q⟩:=h;refine⟨_,(@zK _ _ _ (@zS _ _ _ _ (@zQ _ _ _ _ _ _ _ _ _ _ _ _ _ _ _ _ b.ok j (by rfl) b.m b.kp b.b .nil zY (@zA _ _ _ _ _ (@qv _ 0 _ _ (by rfl')) (@zA _ _ _ _ _ (@qv _ 1 _ _ (by rfl')) (@zA _ _ _ _ _ (@qv _ 2 _ _ (by rfl')) (@zA _ _ _ _ _ wK zC (by rfl)) (by rfl)) (by rfl)) (by rfl)) (by decide) (by rfl) (by rfl)))),?_⟩;exact⟨_,rfl,_,rfl,_,rfl,[.ref r,.ref c,.int a],false,rfl,r,fr,g,e,N,c,d,a,rfl,q⟩
noncomputable abbrev qf:Stmt:=top 11
noncomputable abbrev qg:Stmt:=top 21
noncomputable abbrev mO:Stmt:=top 22
noncomputable abbrev oG:Stmt:=top 20
theorem o7 (n:Nat):List.replicate n (V.int 0)=(List.replicate n (0:Int)).map V.int:=(List.map_replicate).symm
theorem mE {ls:List LvL}{lv:LvL}(h:lv∈ls):lv.length<=(ls.map List.length).sum:=by
 induction ls with
 | nil=>cases h
 | cons a ls ih =>
  show lv.length<=a.length+(ls.map List.length).sum;rcases Jq.mp h with rfl|z
  ·exact Nat.le_add_right _ _
  ·exact JS (ih z) (Nat.le_add_left _ _)
theorem zbK:FnScope ["net"] ["net"] (zN qf):=by rfl'
theorem j3 {f:JI}{fd:Yl}(F:Fun K "first_turns" "first_turns" qf f fd) (G:Mgs mg):FnOk P w K mg base CX0 1 f fd ["net"] tH:=by
 refine F.ok zbK (λc H Q E h=>?_) (λm A outer s H c Q E n h=>?_)
 ·obtain⟨r,fr,j,b,N,rfl,_⟩:=h
  rfl
 obtain⟨r,fr,j,b,N,rfl,ok,na,k⟩:=h;refine⟨_,(@zK _ _ _ (@zS _ _ _ _ (@zV _ _ _ _ _ _ _ _ uk (@zX _ _ _ _ _ (@zA _ _ _ _ _ zJ zC (by rfl))) (@zR _ _ _ _ _ _ _ _ _ zT (by rfl) G.len Y1 (@zA _ _ _ _ _ (@zj _ _ _ _ _ _ _ yE (@qv _ 0 _ _ (by rfl')) zJ (λ_ _=>rfl)) zC (by rfl)) (by decide) (by decide) (by rfl) (by rfl))))),?_⟩;refine⟨by show 1<=sizeLine;decide,λt g=>?_⟩;have a:=zD g (.tup [.int 0]);have e:=na.prs.len;have o:=ok.fm;refine⟨_,rfl,r,_,_,_,rfl,rfl,SqT.of (a _ _ na.net),rfl,fr,b,rfl,.inr (SqT.of (a _ _ na.forks)),t,_,b.length,rfl,rfl,zB,by lia,λp l d i=>k p l (a.trans d) ?_⟩;rw[i,o7,e]
theorem zbL:FnScope ["net"] ["net"] (zN qg):=by rfl'
theorem j4 {f m:JI}{fd dT:Yl}(F:Fun K "first_pair" "first_pair" qg f fd) (a:Use P w K mg base "first_turns" ["net"] 1 tH m dT):FnOk P w K mg base CX0 2 f fd ["net"] xA:=by
 refine F.ok zbL (λe H Q E h=>?_) (λn A outer s H e Q E i h=>?_)
 ·obtain⟨r,fr,d,c,N,rfl,_⟩:=h
  rfl
 obtain⟨r,fr,d,c,N,rfl,ok,na,k⟩:=h;refine⟨_,(@zK _ _ _ (@zS _ _ _ _ (@zX _ _ _ _ _ (@zA _ _ _ _ _ (@zQ _ _ _ _ _ _ _ _ _ _ _ _ _ _ _ _ a.ok i (by rfl) a.m a.kp a.b .nil zY (@zA _ _ _ _ _ (@qv _ 0 _ _ (by rfl')) zC (by rfl)) (by decide) (by rfl) (by rfl)) (@zA _ _ _ _ _ zJ zC (by rfl)) (by rfl))))),?_⟩;refine⟨_,rfl,r,fr,d,c,N,rfl,ok,na,λt o g l=>⟨by show 2<=sizeLine;decide,λp j=>?_⟩⟩;have b:=zD j (.tup [.ref t,.int 0]);exact k p _ (g.trans b) (uW (is:=[0]) (t:=t) zB (b _ _ l))
theorem gW:FnScope ["net","pair","lane","turns","rest","onward","end"] ["net","pair","lane"] (zN mO):=by rfl'
theorem fh {f L:JI}{fd M:Yl}(F:Fun K "pair_behind" "pair_behind" mO f fd) (g:Use P w K mg base "passed" ["net","turns","lane"] 3 (wp false) L M):FnOk P w K mg base CX0 4 f fd ["net","pair","lane"] vI:=by
 refine F.ok gW (λo H Q E h=>?_) (λR A outer s H o Q E D h=>?_)
 ·obtain⟨r,fr,n,m,N,b,k,a,rfl,_⟩:=h
  rfl
 obtain⟨r,fr,n,m,N,b,k,a,rfl,ok,na,B,⟨d,rest,rfl,u,bits,S⟩,y,x,v⟩:=h;refine⟨_,(@zH _ _ _ _ _ (@yT _ _ _ _ _ _ (@qv _ 1 _ _ (by rfl')) (@yQ _ _ _ _ _ _ rfl (@zP _ _ _ _ _ (@zM _ _ 3 _ gW.nd rfl (.inl rfl) (by rfl')) (@zP _ _ _ _ _ (@zM _ _ 4 _ gW.nd rfl (.inl rfl) (by rfl')) yA (by rfl)) (by rfl)) (by rfl) (by rfl)) (by rfl) (by rfl) (by rfl)) (@zH _ _ _ _ _ (@yT _ _ _ _ _ _ (@zQ _ _ _ _ _ _ _ _ _ _ _ _ _ _ _ _ g.ok D (by rfl) g.m g.kp g.b .nil zY (@zA _ _ _ _ _ (@qv _ 0 _ _ (by rfl')) (@zA _ _ _ _ _ (@qv _ 3 _ _ (by rfl')) (@zA _ _ _ _ _ (@qv _ 2 _ _ (by rfl')) zC (by rfl)) (by rfl)) (by rfl)) (by decide) (by rfl) (by rfl)) (@yQ _ _ _ _ _ _ rfl (@zP _ _ _ _ _ (@zM _ _ 5 _ gW.nd rfl (.inl rfl) (by rfl')) (@zP _ _ _ _ _ (@zM _ _ 6 _ gW.nd rfl (.inl rfl) (by rfl')) yA (by rfl)) (by rfl)) (by rfl) (by rfl)) (by rfl) (by rfl) (by rfl)) (@zH _ _ _ _ _ (@yY _ _ _ _ _ _ _ _ (@zo _ _ _ _ _ _ _ _ oU (@qv _ 6 _ _ (by rfl')) (@qv _ 4 _ _ (by rfl')) (yK _)) (@zK _ _ _ (@zS _ _ _ _ wJ)) zu) (@zK _ _ _ (@zS _ _ _ _ (@zX _ _ _ _ _ (@zA _ _ _ _ _ (@qv _ 5 _ _ (by rfl')) (@zA _ _ _ _ _ (@zV _ _ _ _ _ _ _ _ xR (@zV _ _ _ _ _ _ _ _ xF (@qv _ 4 _ _ (by rfl')) zJ) (@zj _ _ _ _ _ _ _ yE (@qv _ 0 _ _ (by rfl')) zJ (λ_ _=>rfl))) zC (by rfl)) (by rfl)))))))),?_⟩;obtain⟨t,J,C⟩:=we B;refine⟨_,rfl,b,_,rfl,SqT.of J,rfl,_,_,rfl,_,_,rfl,rfl,?_⟩;refine⟨_,rfl,_,rfl,_,rfl,r,fr,n,m,N,t,d,a,rfl,ok,na,C,u,bits,y,λp e T i I j=>?_⟩;refine⟨p,_,rfl,SqT.of I,rfl,_,_,rfl,_,_,rfl,rfl,?_⟩;have st:yC N (stK d [(rest:Nat)]) a=if ((passE N d a:Nat):Int)=(rest:Nat) then some (stK (xa N d a) [((rest:Nat)+1)%(N.lanes:Nat)]) else none:=rfl;refine⟨_,rfl,_,rfl,rfl,_,rfl,?_⟩;by_cases c:((passE N d a:Nat):Int)=(rest:Nat)
 ·rw[Jm c]at st
  have O:((List.idxOf (yP false N.forks d a N.forks.length).snd N.ends:Nat):Int)=(rest:Nat):=c;rw[show (!decide (V.int ↑(List.idxOf (yP false N.forks d a N.forks.length).snd N.ends)=V.int ↑rest))=false from by rw[Jt (JQ V.int O)];rfl];refine zz ⟨_,rfl,_,rfl,_,_,rfl,rfl,_,rfl,r,_,_,_,rfl,rfl,SqT.of (i _ _ na.net),rfl,_,_,rfl,rfl,by have:=ok.l1;lia,by show 2<=sizeLine;decide,λq G=>?_⟩;have l:=zD G (.tup [.ref e,.int (((rest:Nat)+1)%(N.lanes:Nat))]);exact v _ q _ (i.trans l) st (uW (is:=[((rest:Nat)+1)%(N.lanes:Nat)]) (t:=e) zB (l _ _ j))
 ·rw[Je c]at st
  rw[show (!decide (V.int ↑(List.idxOf (yP false N.forks d a N.forks.length).snd N.ends)=V.int ↑rest))=true from by rw[Jj (λz=>c (by injection z))];rfl];exact yV (x _ i st)
noncomputable def zbb (q:Str):Stmt->Lam
 | .Assign _ (.Call _ (_::_::_::.Lambda p b s _::_) _ _) _=>⟨p,b,s,q⟩
 | _=>⟨⟨[],[],none,[],[],none,[]⟩,.Name "" ⟨0,0,0,0⟩,zN oG,q⟩
noncomputable def pF (q:Str):Lam:=zbb q ((yd oG).getD 0 (.Pass ⟨0,0,0,0⟩))
theorem i9 {us:List Jo}(h:us.length=2):∃ u v,us=[u,v]:=by
 match us,h with
 | [u,v],_=>exact⟨u,v,rfl⟩
theorem pB {l:List (Str × NameKind)}{x:Str}{k:NameKind}(h:l.lookup x=some k):(x,k)∈l:=by
 obtain⟨a,c,e,_⟩:=List.lookup_eq_some_iff.mp h;rw[e];exact Jr.mpr (.inr (.head _))
theorem zbE:LamScope ["pair","lane"] ["net"] (pF "").scope:=⟨rfl,rfl,rfl,by decide +kernel,by decide +kernel,by decide +kernel,by decide +kernel,λx a=>(show ∀ y∈(pF "").scope.names,y.2=.free->y.1∈[("net":Str)] from by decide +kernel) _ (pB a) rfl⟩
theorem eP (q:Str) {f:JI}{fd:Yl}(d:Use P w K mg base "pair_behind" ["net","pair","lane"] 4 vI f fd):LamQ CX0 P w K mg base 4 (pF q) ["net"] ["pair","lane"] y9:=by
 refine⟨zbE,λvals e H Q E h=>?_,λcl k i pm j n=>by obtain⟨u,v,rfl⟩:=i9 i;rfl,λcl l c A outer s H vals e Q E m g fz h=>?_⟩
 ·obtain⟨r,b,a,_,rfl,_⟩:=h
  rfl
 obtain⟨r,b,a,rfl,rfl,h⟩:=h;refine⟨_,zQ d.ok g (by rfl) d.m d.kp d.b .nil zY (zA (pv 2) (zA (pv 0) (zA (pv 1) zC))),?_⟩;exact⟨_,rfl,_,rfl,_,rfl,h⟩
theorem sN {sc:Scope}{x0:Str}{env:Env}(h:(sc.names.filter λy=>y.2 == .free)=[(x0,.free)])(k:env.kindOf x0=some .cell):∀ x,(x,NameKind.free)∈sc.names->env.kindOf x=some .cell\/env.kindOf x=some .free:=λx a=>by
 have z:(x,NameKind.free)∈sc.names.filter λy=>y.2 == .free:=List.mem_filter.mpr ⟨a,rfl⟩;rw[h]at z;obtain⟨e,_⟩:=Prod.mk.inj (Ja.mp z);exact .inl (e ▸ k)
theorem eW {X:Cx}{x:Str}{i:Nat}(d:X.N[i]?=some x)(c:X.env.scope.names.lookup x=some .cell)(b:X.fn x=true):∀ p∈[(x,i)],X.N[p.2]?=some p.1/\X.env.scope.names.lookup p.1=some .cell/\X.fn p.1=true:=λp a=>by
 rw[Ja.mp a];exact⟨d,c,b⟩
theorem wL {cs:List (Str × JI)}{x:Str}(h:cs.map (·.1)=[x]):∃ c,cs=[(x,c)]:=by
 match cs,h with
 | [(y,c)],h=>exact⟨c,by rw[show y=x from (List.cons.inj h).1]⟩
noncomputable def qV:Str:=("verdict":Str)++(".<locals>.":Str)++("<lambda>":Str)
theorem aK:FnScope ["net","some","most","word","found"] ["net","some","most"] (zN oG):=by rfl'
theorem mn {f fC fF fB c Pt:JI}{fd dC dF dB:Yl}(F:FunC K "verdict" "verdict" oG f fd c) (CK:CodeK K mg base c Pt) (UC:Use P w K mg base "climbed" ["first","counts","moves","led","most"] 7 (qU P w K (pF qV) ["net"] y9) fC dC) (UF:Use P w K mg base "first_pair" ["net"] 2 xA fF dF)
  (UB:∀ F0,Use P w K mg base "book_of" ["levels"] 1 (gS P w F0 1) fB dB):FnOk P w K mg base CX0 8 f fd ["net","some","most"] (ve qV Pt):=by
 refine F.ok aK (λD H Q E h=>?_) (λA outer s H D Q E hr h=>?_)
 ·obtain⟨r,fr,er,ps,N,sm,moves,most,rfl,_⟩:=h
  rfl
 obtain⟨r,fr,er,ps,N,sm,moves,most,rfl,ok,na,ax,mlt,ml,mp,mb,tab,k⟩:=h;refine⟨_,(@zH _ _ _ _ _ (@yT _ _ _ _ _ _ (oS (E:=E0) UC.ok hr (by rfl) UC.m UC.kp UC.b [("net",0)] (by decide) (eW rfl rfl rfl) (@zA _ _ _ _ _ (@zQ _ _ _ _ _ _ _ _ _ _ _ _ _ _ _ _ UF.ok (hr.mono (by decide)) (by rfl) UF.m UF.kp UF.b .nil zY (@zA _ _ _ _ _ (@qv _ 0 _ _ (by rfl')) zC (by rfl)) (by decide) (by rfl) (by rfl)) (@zA _ _ _ _ _ (@zV _ _ _ _ _ _ _ _ uk (@zX _ _ _ _ _ (@zA _ _ _ _ _ zJ zC (by rfl))) (@zj _ _ _ _ _ _ _ yE (@qv _ 0 _ _ (by rfl')) zJ (λ_ _=>rfl))) (@zA _ _ _ _ _ (@qv _ 1 _ _ (by rfl')) (@zA _ _ _ _ _ (mi (fr:=["net"]) CK rfl rfl (sN (x0:="net") rfl rfl) rfl) (@zA _ _ _ _ _ (@qv _ 2 _ _ (by rfl')) zC (by rfl)) (by rfl)) (by rfl)) (by rfl)) (by rfl))) (@yQ _ _ _ _ _ _ rfl (@zP _ _ _ _ _ (@zM _ _ 3 _ aK.nd rfl (.inl rfl) (by rfl')) (@zP _ _ _ _ _ (@zM _ _ 4 _ aK.nd rfl (.inl rfl) (by rfl')) yA (by rfl)) (by rfl)) (by rfl) (by rfl)) (by rfl) (by rfl) (by rfl)) (@zH _ _ _ _ _ (@yY _ _ _ _ _ _ _ _ (@zo _ _ _ _ _ _ _ _ vR (@qv _ 3 _ _ (by rfl')) wI (yK _)) (@zK _ _ _ (@zS _ _ _ _ (@zX _ _ _ _ _ (@zA _ _ _ _ _ wI (@zA _ _ _ _ _ (@zQ _ _ _ _ _ _ _ _ _ _ _ _ _ _ _ _ (UB N.forks.length).ok (hr.mono (by decide)) (by rfl) (UB 0).m (UB 0).kp (UB 0).b .nil zY (@zA _ _ _ _ _ (@qv _ 4 _ _ (by rfl')) zC (by rfl)) (by decide) (by rfl) (by rfl)) zC (by rfl)) (by rfl))))) zu) (@zK _ _ _ (@zS _ _ _ _ (@zX _ _ _ _ _ (@zA _ _ _ _ _ (@qv _ 3 _ _ (by rfl')) (@zA _ _ _ _ _ (@qv _ 4 _ _ (by rfl')) zC (by rfl)) (by rfl))))))),?_⟩;have a7:=ok.l16;refine⟨_,rfl,r,fr,er,ps,N,rfl,ok,na,λb0 H1 s1 k1=>⟨by show 1<=sizeLine;decide,λt ht=>?_⟩⟩;have s2:=zD ht (.tup [.int 0]);refine⟨_,rfl,r,_,_,_,rfl,rfl,SqT.of (s2 _ _ (s1 _ _ na.net)),rfl,t,_,N.lanes,rfl,rfl,zB,by lia,λc0 H2 s3 h3=>?_⟩;rw[o7]at h3;have Z:=(s1.trans s2).trans s3;obtain⟨l,hP,tok⟩:=tab.same Z;refine⟨_,rfl,l,hP,tok,λfL cl l' H3 a5 a6 hf raw a0 T kp=>?_⟩;refine⟨_,rfl,[.ref r],rfl,λj x i v hx hv=>?_,λcs I a4 Y nd ca out S=>?_⟩
 ·cases j with
  | zero=>cases hx;cases hv;rfl
  | succ j=>cases hx
 obtain⟨a,rfl⟩:=wL a5;obtain⟨c2,rfl⟩:=wL a4;have cc:a=c2:=Jf ((a6 _ (.head _)).symm.trans (Y _ (.head _)));subst cc;have b3:But Pt H H3:=λb o e n=>kp b o (Z b o e) n
 have d:Same H3 I:=λb o e=>by
  rw[out b λL=>by rw[S b L]at e;cases e];exact e
 have ab:NetAt I r fr er ps N:=(na.tups (Tups.of Z)).tups λb xs e=>d _ _ (kp _ _ e (yD e hP λz=>by cases z));have C:Tups H2 I:=λb xs e=>d _ _ (kp _ _ e (yD e hP λz=>by cases z))
 have X:LamRaw I fL (pF qV) [("net",a)]:=by
  obtain⟨pm,cd,ct,oc,fs,tk,r1,r2,r3,r4⟩:=raw.ex;exact⟨pm,cd,ct,oc,fs,tk,d _ _ r1,d _ _ r2,r3,r4⟩
 have la:LamAt I fL (pF qV) [("net",a)] [.ref r]:=X.at_ ca (JP.mpr ⟨Jv,Yx⟩) (JP.mpr ⟨Jv,Yx⟩) rfl λi x c v hx hv=>⟨i,hx,hv⟩;have W:Way K I sm fL (pF qV) ["net"] y9 [("net",a)] [.ref r] (yC N) (OkP N) moves N.lanes:=⟨.inl (C _ _ (Z _ _ ax)),rfl,la,nF ok ab mlt,mlt,λs m t os _ e=>xP ok os e,by lia⟩;refine⟨b0,c0,sm,fL,_,List.replicate N.lanes 0,moves,[("net",a)],[.ref r],yC N,OkP N,N.lanes,most,rfl,(k1.tups (Tups.of (s2.trans s3))).tups C,C _ _ h3,ZR,xn ok,W,by lia,ml,mp,λp G s5 tell=>?_⟩
 have a3:CellsFz [("net",a)] G:=λb L=>by
  obtain⟨o,z⟩:=ca.fz b L;exact⟨o,s5 _ _ z⟩
 replace tell:=TellR.kept tell (mG a3)
 have O:Same H3 (strip [("net",a)] G):=λb o e=>by
  rw[zv λL=>by rw[S b L]at e;cases e];exact s5 _ _ (d _ _ e)
 have b6:But Pt H (strip [("net",a)] G):=b3.trans (But.of O);have y:TabQ qV Pt (strip [("net",a)] G):=TabQ.same ⟨l',a0,T⟩ O;show zbi _ _ _ _ _ (strip [("net",a)] G) _;generalize strip [("net",a)] G=H6 at *
 have fin:∀ (q:JI) (D:List V) (R:LRes),H6 q=none->yS N moves most=R->TellV (L2.upd H6 q (.tup D)) q R->Q (.ref q) (L2.upd H6 q (.tup D)):=λq D R g e z=>by
  have J:=zD g (.tup D);refine k q _ (b6.trans (But.of J)) (y.same J) ?_;rw[e];exact z
 change TellR P w H6 p (yS N moves most) at tell
 cases u:yS N moves most with
 | opn =>
  rw[u]at tell;refine⟨p,_,rfl,SqT.of tell,rfl,_,_,rfl,_,_,rfl,rfl,?_⟩;refine⟨_,rfl,rfl,false,JQ V.bl (Jj λz=>absurd (V.str.inj z) (by decide)),zz ?_⟩
  exact⟨_,rfl,_,rfl,by show 2<=sizeLine;decide,λq g=>fin q _ .opn g u zB⟩
 | brk bc =>
  rw[u]at tell;obtain⟨b,M,h2⟩:=tell;refine⟨p,_,rfl,SqT.of M,rfl,_,_,rfl,_,_,rfl,rfl,?_⟩;refine⟨_,rfl,rfl,false,JQ V.bl (Jj λz=>absurd (V.str.inj z) (by decide)),zz ?_⟩
  exact⟨_,rfl,_,rfl,by show 2<=sizeLine;decide,λq g=>fin q _ (.brk bc) g u ⟨b,zB,zD g _ _ _ h2⟩⟩
 | whl ls =>
  rw[u]at tell;obtain⟨ll,as,M,h2,h3⟩:=tell;refine⟨p,_,rfl,SqT.of M,rfl,_,_,rfl,_,_,rfl,rfl,?_⟩;refine⟨_,rfl,rfl,true,JQ V.bl (Jt rfl),yV ?_⟩;have wh:=xb (Ok:=OkP N) (moves:=moves) (λs m t os _ e=>xP ok os e) _ _ [] [] ls ⟨λlv B=>absurd B Jv,Jz _⟩ rfl (Jz _) (λp hp=>by rw[Ja.mp hp];exact xn ok) u;have U:moves.length<=1->∀ lv∈ls,lv.length<=1:=λM=>sV M _ _ [] [] ls (λlv B=>absurd B Jv) (Jd _) u;have wf:=wh.few;refine⟨_,rfl,ll,as,ls,rfl,h2,h3,λlv B=>⟨?_,λp hp=>(wh.ok lv B p hp).st ok⟩,by lia,λq bs ks H7 J g ao bk=>?_⟩
  ·rcases mb with z|z
   ·have:=mE B
    lia
   ·have:=U z.1 lv B
    lia
  refine⟨by show 2<=sizeLine;decide,λq2 aT=>?_⟩;have s8:=zD aT (.tup [.str "stair",.ref q]);refine k q2 _ ((b6.trans (But.of J)).trans (But.of s8)) ((y.same J).same s8) ?_;rw[u];exact⟨q,bs,ks,zB,s8 _ _ g,ao.tups (Tups.of s8),bk⟩
end
end K38
namespace L2
open PySem PySem.Spec PyProof.Rows Own Bn
noncomputable def pU:Nat->List (List Int)
 | 0=>[[]]
 | n+1=>(pU n).map (0::·)++(pU n).map (1::·)
theorem nv:∀ n,(pU n).length=2 ^ n
 | 0=>rfl
 | n+1=>by
  show ((pU n).map (0::·)++(pU n).map (1::·)).length=_;rw[Jb,Jc,Jc,nv n,Zh];lia
theorem o6:∀ {ts:List Int},Bits ts->ts∈pU ts.length
 | [],_=>.head _
 | t::ts,h=>by
  have ih:=o6 (ts:=ts) λx a=>h x (.tail _ a);show t::ts∈(pU ts.length).map (0::·)++(pU ts.length).map (1::·);rcases h t (.head _) with rfl|rfl
  ·exact JT _ (Jw.mpr ⟨ts,ih,rfl⟩)
  ·exact Js _ (Jw.mpr ⟨ts,ih,rfl⟩)
end L2
namespace L2
open PySem PySem.Spec PyProof.Rows Own Bn
noncomputable def za2:V->Int
 | .int i=>i
 | _=>0
theorem i3 {b:Int}{x:V}(h:xV b x=true):∃ i:Nat,x=.int (i:Nat)/\(i:Int)<b:=by
 cases x with
 | int i =>
  obtain⟨p,q⟩:=(YK _ _).mp (show (decide (0<=i) && decide (i<b))=true from h);have p:=Yq p;have q:=Yq q
  exact⟨i.toNat,by rw[Int.toNat_of_nonneg p],by rw[Int.toNat_of_nonneg p];exact q⟩
 | _=>cases h
noncomputable def xQ (H:Hp)(a lanes:Int)(x:V):Bool:=match yG H x with
 | some [t,m]=>yt H a 2 t && xV lanes m
 | _=>false
noncomputable def rB (H:Hp)(a lanes:Int)(x:V):Option KN:=if xQ H a lanes x=true then match yG H x with
 | some [t,m]=>some (stK (gj H t) [za2 m])
 | _=>none else none
theorem cE (H:Hp)(a lanes:Int)(x:V):(rB H a lanes x).isSome=xQ H a lanes x:=by
 unfold rB;by_cases c:xQ H a lanes x=true
 ·rw[Jm c,c]
  unfold xQ at c;split at c
  ·rfl
  ·cases c
 ·rw[Je c,show xQ H a lanes x=false by simpa using c];rfl
theorem jS {H:Hp}{N:Nt}{x:V}{s:KN}(h:rB H (N.forks.length:Nat) (N.lanes:Nat) x=some s):OkP N s/\∃ b,x=.ref b/\NKey H s b:=by
 unfold rB at h;split at h
 ·rename_i c
  unfold xQ at c;split at c
  ·rename_i t m e
   rw[e]at h;cases h;obtain⟨b,rfl,r⟩:=yh e;obtain⟨a,v⟩:=(YK _ _).mp c;obtain⟨i,rfl,B⟩:=i3 v;unfold yt at a;split at a
   ·rename_i d g
    obtain⟨w,j⟩:=(YK _ _).mp a;have f:=eU λy l=>pQ (YC.mp j y l);obtain⟨t,rfl,o⟩:=yh g;have k:gj H (.ref t)=sH d:=by unfold gj;rw[g];rfl
    rw[k];have A:(sH d).length=d.length:=by have:=JQ List.length f;rw[Jc]at this;exact this.symm
    have z:=Yq w;refine⟨⟨_,i,rfl,by lia,λu n=>?_,by lia⟩,b,rfl,uW r (by rw[<- f];exact o)⟩;have:=YC.mp j (.int u) (by rw[f];exact Jw.mpr ⟨u,n,rfl⟩);obtain⟨p,q⟩:=(YK _ _).mp (show (decide (0<=u) && decide (u<2))=true from this);have p:=Yq p;have q:=Yq q;lia
   ·cases a
  ·cases c
 ·cases h
theorem fQ {H H':Hp}{a lanes:Int}{x:V}(k:KpN H H')(d:Dp H 2 x):xQ H' a lanes x=xQ H a lanes x:=by
 unfold xQ;rw[gh k d];split
 ·rename_i t m e
  have b:=(d.2 _ e).2 t (.head _);unfold yt;rw[gh k b]
 ·rfl
theorem jj {H:Hp}{a lanes:Int}{x:V}(e:vh H 2 x=false):xQ H a lanes x=false:=by
 unfold xQ;split
 ·rename_i t m z
  unfold vh at e;rw[z]at e;cases e
 ·rfl
noncomputable def vJ (K:Jl):Sp:=λb H Q _=>∃ r fr d c N,∃ x,b=[.ref r,x]/\Nt.Ok N/\NetAt H r fr d c N/\Deep K H 2 x/\∀ a,Same H a->Q (.bl (xQ H (N.forks.length:Nat) (N.lanes:Nat) x)) a
noncomputable def tD (K:Jl)(q:Str)(Pt:JI):Sp:=λd H Q _=>∃ r fr f e N c,∃ moves:List Nat,∃ x,d=[.ref r,.ref c,x]/\Nt.Ok N/\NetAt H r fr f e N/\H c=some (.tup (zW moves))/\(∀ m∈moves,m<N.lanes)/\moves.length<=16 /\
 An H x/\(∀ a,yG H x=some a->a.length<=500000/\∀ y∈a,Dp H 2 y)/\TabQ q Pt H /\
 ∀ b,But Pt H b->TabQ q Pt b->Q (.bl (match yG H x with|none=>false|some a=>va (rB H (N.forks.length:Nat) (N.lanes:Nat)) a (k0P N) moves (yC N))) b
end L2
namespace K38
open PySem L2 Own Bn
noncomputable abbrev qc:Stmt:=top 25
section
variable {P:Yo}{w:YI}{K:Jl}{mg:Str->Option Jo}{base:YP}
theorem zbI:FnScope ["net","thing"] ["net","thing"] (zN qc):=by rfl'
theorem jz {f I L J:JI}{fd S T dL:Yl}(F:Fun K "is_pair" "is_pair" qc f fd) (G:Mgs mg) (e:Use P w K mg base "is_row" ["thing","many"] 1 (uc K) I S) (i:Use P w K mg base "are_below" ["thing","many","bound"] 3 (qW K) L T) (g:Use P w K mg base "is_below" ["thing","bound"] 2 (ud K) J dL):FnOk P w K mg base CX0 4 f fd ["net","thing"] (vJ K):=by
 refine F.ok zbI (λD H Q E h=>?_) (λU A outer s H D Q E n h=>?_)
 ·obtain⟨r,fr,M,u,N,x,rfl,_⟩:=h
  rfl
 obtain⟨r,fr,M,u,N,x,rfl,ok,na,o,k⟩:=h;have q:Room 1 _:=n.mono (by decide);have p:Room 2 _:=n.mono (by decide);refine⟨_,(@zK _ _ _ (@zS _ _ _ _ (@vm _ _ _ _ _ _ _ (@zQ _ _ _ _ _ _ _ _ _ _ _ _ _ _ _ _ e.ok q (by rfl) e.m e.kp e.b .nil zY (@zA _ _ _ _ _ (@qv _ 1 _ _ (by rfl')) (@zA _ _ _ _ _ zJ zC (by rfl)) (by rfl)) (by decide) (by rfl) (by rfl)) (@vm _ _ _ _ _ _ _ (@zQ _ _ _ _ _ _ _ _ _ _ _ _ _ _ _ _ i.ok n (by rfl) i.m i.kp i.b .nil zY (@zA _ _ _ _ _ (@zj _ _ _ _ _ _ _ yE (@qv _ 1 _ _ (by rfl')) zJ (λ_ _=>rfl)) (@zA _ _ _ _ _ (@zR _ _ _ _ _ _ _ _ _ zT (by rfl) G.len Y1 (@zA _ _ _ _ _ (@zj _ _ _ _ _ _ _ yE (@qv _ 0 _ _ (by rfl')) zJ (λ_ _=>rfl)) zC (by rfl)) (by decide) (by decide) (by rfl) (by rfl)) (@zA _ _ _ _ _ zJ zC (by rfl)) (by rfl)) (by rfl)) (by decide) (by rfl) (by rfl)) (@tT _ _ _ _ _ (@zQ _ _ _ _ _ _ _ _ _ _ _ _ _ _ _ _ g.ok p (by rfl) g.m g.kp g.b .nil zY (@zA _ _ _ _ _ (@zj _ _ _ _ _ _ _ yE (@qv _ 1 _ _ (by rfl')) zJ (λ_ _=>rfl)) (@zA _ _ _ _ _ (@zj _ _ _ _ _ _ _ yE (@qv _ 0 _ _ (by rfl')) zJ (λ_ _=>rfl)) zC (by rfl)) (by rfl)) (by decide) (by rfl) (by rfl))))))),?_⟩;refine⟨_,rfl,x,2,rfl,o.any,_,rfl,?_⟩
 cases c:vh H 2 x with
 | false =>
  rw[jj c]at k
  exact zz (k H (Same.refl H))
 | true =>
 refine yV ?_
 obtain⟨t,m,a⟩:∃ t m,yG H x=some [t,m]:=by
  unfold vh at c;split at c
  ·rename_i C z
   have l:=Yq c
   match C,l,z with
   | [t,m],_,z=>exact⟨t,m,z⟩
   | [],l,_=>cases l
   | [_],l,_=>cases l
   | _::_::_::_,l,_=>simp at l;lia
  ·cases c
 obtain⟨b,rfl,v⟩:=yh a;have O:=(o.2 _ a).2 t (.head _);have R:=(o.2 _ a).2 m (.tail _ (.head _))
 have ev:∀ j,Same H j->Q (.bl (yt H (N.forks.length:Nat) 2 t && xV (N.lanes:Nat) m)) j:=λj s=>by
  have:=k j s;unfold xQ at this;rw[a]at this;exact this
 refine⟨_,rfl,b,_,_,_,rfl,rfl,SqT.of v,rfl,?_⟩;refine⟨_,rfl,r,_,_,_,rfl,rfl,SqT.of na.net,rfl,fr,u,rfl,.inr (SqT.of na.forks),t,_,2,rfl,O,λB d=>⟨_,rfl,?_⟩⟩;rw[na.prs.len]
 cases y:yt H (N.forks.length:Nat) 2 t with
 | false =>
  rw[y]at ev
  exact zz (ev B d)
 | true =>
 rw[y]at ev;refine yV ⟨_,rfl,b,_,_,_,rfl,rfl,SqT.of (d _ _ v),rfl,?_⟩;refine⟨_,rfl,r,_,_,_,rfl,rfl,SqT.of (d _ _ na.net),rfl,m,(N.lanes:Nat),rfl,(dJ d R).any,?_⟩;exact ev B d
noncomputable abbrev qd:Stmt:=top 15
theorem zaU:FnScope ["thing","is_state","first","moves","led","known"] ["thing","is_state","first","moves","led"] (zN qd):=by rfl'
theorem jy {f:JI}{fd:Yl}{SL L:Lam}{a7 fr a8 bc:List Str}{ab lsp:LSpc}(F:Fun K "is_book" "is_book" qd f fd) (G:Mgs mg) (LS:LamQ CX0 P w K mg base 4 SL a7 a8 ab) (LQ:LamQ CX0 P w K mg base 4 L fr bc lsp):FnOk P w K mg base CX0 6 f fd ["thing","is_state","first","moves","led"] (tG P w K SL a7 ab L fr lsp):=by
 refine F.ok zaU (λvs H Q E h=>?_) (λbS A outer s H vs Q E hr h=>?_)
 ·obtain⟨x,fs,b0,mv,f,a3,M,k0,moves,cl,vals,step,Ok,n,B,rfl,_⟩:=h
  rfl
 obtain⟨x,fs,b0,mv,f,a3,M,k0,moves,cl,vals,step,Ok,n,B,rfl,eS,laS,bl,W,bB,ax,v,k⟩:=h;refine⟨_,(@zH _ _ _ _ _ (@yY _ _ _ _ _ _ _ _ (@gq _ _ _ _ _ _ _ (@gv _ _ _ _ (@me _ _ _ (@zR _ _ _ _ _ _ _ _ _ vY (by rfl) G.isi (by rfl) (@zA _ _ _ _ _ (@qv _ 0 _ _ (by rfl')) (@zA _ _ _ _ _ (@uj _ _ (.ty "tuple") (.type "tuple") _ (by rfl) G.tuple (by rfl) rfl (by decide) (by decide)) zC (by rfl)) (by rfl)) (by decide) (by decide) (by rfl) (by rfl)) (by intro _;rfl))) (@md _ _ _ _ (@gv _ _ _ _ (@me _ _ _ (@zR _ _ _ _ _ _ _ _ _ (uI rfl true) (by rfl) G.all (by rfl) (@zA _ _ _ _ _ (@oR _ _ _ _ none _ _ _ _ _ _ ["state","is_state"] [none,some 1] rfl (@xc _ _ _ _ (@qv _ 0 _ _ (by rfl'))) (CapOk.of (by kernel_rfl)) (λ_ _ _ _ _=>(@zM _ _ 0 _ (show (["state","is_state"]:List Str).Nodup from by decide +kernel) rfl (.inl rfl) (.inr rfl))) (λ_ _ _ _ _=>xY) (λ_ _ _ _ _=>(qr LS hr (@qv _ 1 _ _ (by rfl')) zY (@zA _ _ _ _ _ (@qv _ 0 _ _ (by rfl')) zC (by rfl)))) (by intro _;rfl)) zC (by rfl)) (by decide) (by decide) (by rfl) (by rfl)) (by intro _;rfl))))).pt (@zK _ _ _ (@zS _ _ _ _ wK)) zu) (@zH _ _ _ _ _ (@zZ _ _ 5 _ _ _ _ zaU.nd rfl (.inr rfl) (fJ hr.u3 (N':=["state"]) (cap:=[none]) rfl (@xc _ _ _ _ (@qv _ 0 _ _ (by rfl'))) (CapOk.of (by kernel_rfl)) (λ_ _ _ _ _=>(@zM _ _ 0 _ (show (["state"]:List Str).Nodup from by decide +kernel) rfl (.inl rfl) (.inr rfl))) (λ_ _ _ _ _=>(@qv _ 0 _ _ (by rfl'))) (λ_ _ _ _ _=>wK)) (by rfl) (by rfl')) (@zH _ _ _ _ _ (@yY _ _ _ _ _ _ _ _ (@gq _ _ _ _ _ _ _ (@zo _ _ _ _ _ _ _ _ oU (@zR _ _ _ _ _ _ _ _ _ wa (by rfl) G.len Y1 (@zA _ _ _ _ _ (@qv _ 5 _ _ (by rfl')) zC (by rfl)) (by decide) (by decide) (by rfl) (by rfl)) (@zR _ _ _ _ _ _ _ _ _ zT (by rfl) G.len Y1 (@zA _ _ _ _ _ (@qv _ 0 _ _ (by rfl')) zC (by rfl)) (by decide) (by decide) (by rfl) (by rfl)) (yK _)) (@md _ _ _ _ (@mf _ _ _ _ _ _ (vn hr.u3 (@qv _ 2 _ _ (by rfl')) (@qv _ 5 _ _ (by rfl'))) (by rfl)))).pt (@zK _ _ _ (@zS _ _ _ _ wK)) zu) (@zK _ _ _ (@zS _ _ _ _ (@zR _ _ _ _ _ _ _ _ _ (uI rfl true) (by rfl) G.all (by rfl) (@zA _ _ _ _ _ (@fH _ _ _ _ _ _ none _ _ _ (zbe K (gG 4)) _ _ _ _ ["state","move","known","led","moves"] [none,none,some 5,some 4,some 3] rfl (@xc _ _ _ _ (@qv _ 0 _ _ (by rfl'))) (CapOk.of (by kernel_rfl)) (λ_ _ _ _ _=>(@zM _ _ 0 _ (show (["state","move","known","led","moves"]:List Str).Nodup from by decide +kernel) rfl (.inl rfl) (.inr rfl))) (λ_ _ _ _ _=>(@xc _ _ _ _ (@qv _ 4 _ _ (by rfl')))) (λ_ _ _ _ _=>(@zM _ _ 1 _ (show (["state","move","known","led","moves"]:List Str).Nodup from by decide +kernel) rfl (.inl rfl) (.inr rfl))) (λ_ _ _ _ _=>xY) (λ_ _ _ _ _=>(@ui _ _ _ _ _ _ _ (zaX P w) (fY hr.u3) (qr LQ hr (@qv _ 3 _ _ (by rfl')) zY (@zA _ _ _ _ _ (@qv _ 0 _ _ (by rfl')) (@zA _ _ _ _ _ (@qv _ 1 _ _ (by rfl')) zC (by rfl)) (by rfl))) (@qv _ 2 _ _ (by rfl')) (by rfl))) (by intro _;rfl) (by intro _ _;rfl)) zC (by rfl)) (by decide) (by decide) (by rfl) (by rfl))))))),?_⟩;obtain⟨t,I⟩:=ax.isi;refine⟨_,rfl,_,"tuple",_,_,rfl,I.ty,I.tup,_,rfl,?_⟩
 cases Y:yG H x with
 | none =>
  rw[Y]at k
  exact yV (yV (k _ (Same.refl _)))
 | some xs =>
 obtain⟨a,rfl,ha⟩:=yh Y;rw[Y]at k;change ∀ H',Same H H'->Q (.bl (va B xs k0 moves step)) H' at k;obtain⟨xl,hy⟩:=v xs Y;refine zz ?_;refine⟨_,rfl,a,rfl,⟨_,SqT.of ha⟩,λl hl=>?_⟩;have sl:=zD hl (.lst []);refine pE (K:=K) (a:=a) (xs:=xs) (λj acc σ N=>(∃ J,σ=[J,some (.ref fs)])/\Same H N/\N l=some (.lst acc)/\acc=(xs.take j).map λy=>V.bl (B y).isSome) ⟨⟨_,rfl⟩,sl,zB,rfl⟩ (λj acc σ N z=>⟨z.2.2.1,SqT.of (z.2.1 _ _ ha)⟩) ?_ ?_
 ·rintro j x acc σ N v ⟨⟨J,rfl⟩,s2,h2,rfl⟩
  have jl:j<xs.length:=(J9.mp v).1;have xm:x∈xs:=JF v;have ao:=laS.frz λb o u e=>s2 _ _ e;obtain⟨pm,cc,ct,oc,fz,tk,aT,_⟩:=ao.ex;refine⟨fs,rfl,⟨_,_,_,_,aT⟩,_,rfl,a3,M,eS,ao,(hy x xm).1 _ _ ((KpN.same s2).trans (KpN.strip ao.fz)) λC s3 low=>?_⟩;have s4:=xj s3;generalize back a3 N C=H4 at s4 ⊢;have u4:=s2.trans s4;refine⟨s4 _ _ h2,by rw[Jc,JC,JE];lia,nx jl ⟨⟨_,rfl⟩,λb o e=>?_,zB,?_⟩⟩
  ·rw[zG (zE e hl)];exact u4 b o e
  ·rw[<- Y0 jl,JG,(J9.mp v).2];rfl
 rintro acc σ N ⟨⟨J,rfl⟩,s2,h2,rfl⟩;rw[Y9]at h2;refine⟨l,xs.map λy=>(B y).isSome,rfl,.inl (.inl (by rw[YA];exact h2)),_,rfl,?_⟩
 cases hm:xs.mapM B with
 | none =>
  obtain⟨y,ym,bu⟩:=iH.mp hm;have e:(xs.map λy=>(B y).isSome).all id=false:=List.all_eq_false.mpr ⟨false,Jw.mpr ⟨y,ym,by rw[bu];rfl⟩,by simp⟩;have z:=k _ s2;rw[lV hm]at z;rw[e]
  exact yV z
 | some ss =>
 obtain⟨a4,hs⟩:=rc hm
 have e:(xs.map λy=>(B y).isSome).all id=true:=YC.mpr λb hb=>by
  obtain⟨y,ym,rfl⟩:=Jw.mp hb;obtain⟨i,il,ei⟩:=YT.mp ym;obtain⟨p,_,e0⟩:=hs i y (by rw[J8 il,ei]);rw[e0];rfl
 rw[e];refine zz ?_;have a6:=s2 _ _ ha;refine⟨_,rfl,a,rfl,⟨_,SqT.of a6⟩,λd hd=>?_⟩;refine zaz (K:=K) (a:=a) (xs:=xs) (λj acc σ C=>(∃ J,σ=[J])/\Same N C/\C d=some (DN P w d acc)/\acc.map (·.1)=ddL (ss.take j)/\KsIn C acc/\acc.length<=j) ⟨⟨_,rfl⟩,zD hd _,zB,rfl,λx v=>(nomatch v),Jz _⟩ (λj acc σ C z=>SqT.of (z.2.1 _ _ a6)) ?_ ?_
 ·rintro j x acc σ C v ⟨⟨J,rfl⟩,s3,h3,ek,ks,al⟩
  have jl:j<xs.length:=(J9.mp v).1;obtain⟨p,es,e0⟩:=hs j x v;obtain⟨_,b,rfl,kb⟩:=(hy x (JF v)).2 p e0;have X:=(kb.tups (Tups.of s2)).tups (Tups.of s3);have bo:j<ss.length:=(J9.mp es).1;have tp:Tups C (L2.upd C d (DN P w d (yu acc p b (.bl true)))):=λc ys e=>by rw[zG (yD e h3 λz=>by cases z)];exact e
  refine⟨_,rfl,b,p,rfl,h3,ks,X,by rw[JE];lia,nx jl ⟨⟨_,rfl⟩,λc o e=>?_,zB,?_,(ks.put X).tups tp,?_⟩⟩
  ·rw[zG (zE e hd)];exact s3 c o e
  ·rw[jb,<- Y0 bo,nU,(J9.mp es).2,<- ek]
   unfold ddN;by_cases c:p∈acc.map (·.1)
   ·rw[Jm c,Jm (xM.mpr c)]
   ·rw[Je c,Je λz=>c (xM.mp z)]
  ·have:=vM acc p b (.bl true)
   lia
 rintro acc σ C ⟨⟨J,rfl⟩,s3,h3,ek,ks,al⟩;rw[a4,Y9]at ek;obtain⟨dm,dl,dn⟩:=ky ss;rw[<- ek]at dm dl dn;rw[Jc]at dl dn;have u3:=s2.trans s3;have a0:=u3 _ _ ha;have X:=bl.tups (Tups.of u3);have z:=k;rw[su hm]at z;refine⟨_,rfl,d,acc,rfl,.inl h3,_,rfl,a,xs,rfl,.inr (SqT.of a0),rfl,_,rfl,?_⟩;by_cases nd:ss.Nodup
 rotate_left
 ·rw[show (!decide (V.int (acc.length:Nat)=V.int (xs.length:Nat)))=true from by
   rw[pH,Jj λ(e:((acc.length:Nat):Int)=(xs.length:Nat))=>nd (dn.mp (by lia))];rfl]
  rw[Jj nd]at z;exact yV (yV (z _ u3))
 rw[show (!decide (V.int (acc.length:Nat)=V.int (xs.length:Nat)))=false from by
   rw[pH,Jt (show ((acc.length:Nat):Int)=(xs.length:Nat) by have:=dn.mpr nd;lia)];rfl]
 refine zz ⟨_,rfl,_,rfl,d,b0,acc,k0,rfl,rfl,⟨.inl h3,ks⟩,X,_,rfl,?_⟩
 have vi:∀ t,(yg acc t).isSome=decide (t∈ss):=λt=>by
  rw[Yd,decide_eq_true_iff,xM,dm]
 rw[vi];rw[Jt nd]at z;by_cases c0:k0∈ss
 rotate_left
 ·rw[Jj c0]at z ⊢
  exact yV (z _ u3)
 rw[Jt c0]at z ⊢;refine zz ?_
 let T:KN->Nat->Bool:=λs m=>match step s m with|none=>false|some t=>decide (t∈ss)
 let g:Nat->List Bool:=λi=>(ss.take i).flatMap λs=>moves.map (T s)
 have acl:∀ i,(g i).length<=i*16:=λi=>by
  show ((ss.take i).flatMap λs=>moves.map (T s)).length<=_
  have key:∀ rs:List KN,(rs.flatMap λs=>moves.map (T s)).length<=rs.length*16:=λrs=>by
   induction rs with
   | nil=>exact Jd _
   | cons r rs ih =>
    rw[List.flatMap_cons,Jb,Jc,JM,W7];lia
  have:=key (ss.take i);rw[JC]at this;lia
 refine⟨_,rfl,a,rfl,⟨_,SqT.of a0⟩,λl2 a5=>?_⟩;refine bD (K:=K) (a:=a) (xs:=xs) (Q:=λx H1=>gJ (List.set (L2.start ["thing","is_state","first","moves","led","known"] [V.ref a,V.ref fs,V.ref b0,V.ref mv,V.ref f]) 5 (some (V.ref d))) H1 λvs N=>∃ a bs,x::vs=[V.ref a]/\SqB true K N a (List.map V.bl bs)/\Q (V.bl (bs.all id)) N) (λi ac σ H4=>(∃ J O,σ=[J,O,some (.ref d),some (.ref f),some (.ref mv)])/\Same C H4/\H4 l2=some (.lst ac)/\ac=(g i).map V.bl) ⟨⟨_,_,rfl⟩,zD a5 _,zB,rfl⟩ (λi ac σ H4 z=>⟨z.2.2.1,SqT.of (z.2.1 _ _ a0)⟩) ?_ ?_
 ·rintro i ac σ H4 x v ⟨⟨J,O,rfl⟩,s4,h4,rfl⟩
  have il:i<xs.length:=(J9.mp v).1;obtain⟨p,es,e0⟩:=hs i x v;obtain⟨a9,b,rfl,kb⟩:=(hy x (JF v)).2 p e0;have bt:i<ss.length:=(J9.mp es).1
  have ba:g (i+1)=g i++moves.map (T p):=by
   show (ss.take (i+1)).flatMap _=_;rw[<- Y0 bt,List.flatMap_append,(J9.mp es).2,List.flatMap_singleton]
  have u4:=u3.trans s4;refine⟨_,rfl,mv,rfl,⟨_,(W.mv.tups (Tups.of u4)).sq⟩,?_⟩;refine bE (K:=K) (a:=mv) (zs:=moves.map λm=>V.int (m:Nat)) (λj ac σ S=>(∃ O,σ=[some (.ref b),O,some (.ref d),some (.ref f),some (.ref mv)])/\Same C S/\S l2=some (.lst ac)/\ac=(g i++(moves.take j).map (T p)).map V.bl) ⟨⟨_,rfl⟩,s4,h4,by rw[ZN,List.map_nil,JZ]⟩ (λj ac σ S z=>⟨z.2.2.1,(W.mv.tups (Tups.of (u3.trans z.2.1))).sq⟩) ?_ ?_
  ·rintro j x ac σ S v ⟨⟨O,rfl⟩,Z,h5,rfl⟩
   rw[JV]at v;obtain⟨m,em,rfl⟩:=JX.mp v;have jl:j<moves.length:=(J9.mp em).1;have u5:=u3.trans Z;have U:=W.la.frz λb o u e=>u5 _ _ e;obtain⟨pm,cc,ct,oc,fz,tk,aT,_⟩:=U.ex
   have tj:(moves.take (j+1)).map (T p)=(moves.take j).map (T p)++[T p m]:=by
    rw[<- Y0 jl,JG,(J9.mp em).2];rfl
   have fin:∀ (R:Hp) (q:Bool),Same S R->q=T p m->R l2=some (.lst ((g i++(moves.take j).map (T p)).map V.bl))/\((g i++(moves.take j).map (T p)).map V.bl).length<sizeLine/\Nx (moves.map λm=>V.int (m:Nat)).length j ((∃ O,[some (V.ref b),some (V.int (m:Nat)),some (.ref d),some (.ref f),some (.ref mv)]=[some (.ref b),O,some (.ref d),some (.ref f),some (.ref mv)])/\Same C (L2.upd R l2 (.lst ((g i++(moves.take j).map (T p)).map V.bl++[V.bl q])))/\L2.upd R l2 (.lst ((g i++(moves.take j).map (T p)).map V.bl++[V.bl q])) l2=some (.lst ((g i++(moves.take j).map (T p)).map V.bl++[V.bl q]))/\(g i++(moves.take j).map (T p)).map V.bl++[V.bl q]=(g i++(moves.take (j+1)).map (T p)).map V.bl):=λR q D eq=>by
    subst eq;refine⟨D _ _ h5,?_,nx (by rw[Jc];exact jl) ⟨⟨_,rfl⟩,λb o e=>?_,zB,?_⟩⟩
    ·have:=acl i
     rw[Jc,Jb,Jc,JC,JE];lia
    ·rw[zG (zE e a5)];exact D _ _ (Z b o e)
    ·rw[tj,<- JW,JG (l₂:=[_])];rfl
   refine⟨f,rfl,⟨_,_,_,_,aT⟩,_,rfl,_,rfl,cl,vals,W.fr,U,W.ld _ p b m _ ((Tups.of u5).trans (x4 U.fz)) a9 (JF em) ((kb.tups (Tups.of u5)).tups (x4 U.fz)) (λH6 s6 e low=>?_) (λH6 b' t s6 e kt low=>?_)⟩
   ·have D:=xj s6
    generalize back cl S H6=R at D ⊢;exact⟨_,rfl,d,acc,rfl,⟨.inl (D _ _ (Z _ _ h3)),ks.tups (Tups.of (Z.trans D))⟩,.inr ⟨rfl,fin R _ D (by show false=match step p m with|none=>false|some t=>decide (t∈ss);rw[e])⟩⟩
   ·have D:=xj s6
    have k7:=kt.tups (rL (H:=S) low);generalize back cl S H6=R at D k7 ⊢;exact⟨_,rfl,d,acc,rfl,⟨.inl (D _ _ (Z _ _ h3)),ks.tups (Tups.of (Z.trans D))⟩,.inl ⟨b',t,rfl,k7,fin R _ D (by rw[vi];show _=match step p m with|none=>false|some t=>decide (t∈ss);rw[e])⟩⟩
  ·rintro ac σ S ⟨⟨O,rfl⟩,Z,h5,rfl⟩
   rw[Jc,Y9]at h5 ⊢;rw[<- ba]at h5 ⊢;exact nx il ⟨⟨_,_,rfl⟩,Z,h5,rfl⟩
 ·rintro ac σ H4 ⟨⟨J,O,rfl⟩,s4,h4,rfl⟩
  rw[a4]at h4;refine⟨l2,g ss.length,rfl,.inl (.inl h4),?_⟩
  have e:(g ss.length).all id=ss.all λs=>moves.all λm=>match step s m with|none=>false|some t=>decide (t∈ss):=by
   show ((ss.take ss.length).flatMap λs=>moves.map (T s)).all id=_;rw[Y9,List.all_flatMap]
   congr 1
   funext s
   rw[List.all_map];rfl
  rw[e];exact z _ (u3.trans s4)
noncomputable abbrev x5:Stmt:=top 24
noncomputable def zak (q:Str):Stmt->Lam
 | .Return (some (.Call _ (_::.Lambda p b s _::_) _ _)) _=>⟨p,b,s,q⟩
 | _=>⟨⟨[],[],none,[],[],none,[]⟩,.Name "" ⟨0,0,0,0⟩,zN x5,q⟩
noncomputable def zal (q:Str):Stmt->Lam
 | .Return (some (.Call _ (_::_::_::_::.Lambda p b s _::_) _ _)) _=>⟨p,b,s,q⟩
 | _=>⟨⟨[],[],none,[],[],none,[]⟩,.Name "" ⟨0,0,0,0⟩,zN x5,q⟩
noncomputable def rh (q:Str):Lam:=zak q ((yd x5).getD 0 (.Pass ⟨0,0,0,0⟩))
noncomputable def tw (q:Str):Lam:=zal q ((yd x5).getD 0 (.Pass ⟨0,0,0,0⟩))
noncomputable def lE (K:Jl):LSpc:=λvals a H Q E=>∃ r,∃ x,vals=[.ref r]/\a=[x]/\vJ K [.ref r,x] H Q E
theorem zbC:LamScope ["pair"] ["net"] (rh "").scope:=⟨rfl,rfl,rfl,by decide +kernel,by decide +kernel,by decide +kernel,by decide +kernel,λx a=>(show ∀ y∈(rh "").scope.names,y.2=.free->y.1∈[("net":Str)] from by decide +kernel) _ (pB a) rfl⟩
theorem zbD:LamScope ["pair","lane"] ["net"] (tw "").scope:=⟨rfl,rfl,rfl,by decide +kernel,by decide +kernel,by decide +kernel,by decide +kernel,λx a=>(show ∀ y∈(tw "").scope.names,y.2=.free->y.1∈[("net":Str)] from by decide +kernel) _ (pB a) rfl⟩
theorem am {us:List Jo}(h:us.length=1):∃ u,us=[u]:=by
 match us,h with
 | [u],_=>exact⟨u,rfl⟩
theorem bH (q:Str) {f:JI}{fd:Yl}(a:Use P w K mg base "is_pair" ["net","thing"] 4 (vJ K) f fd):LamQ CX0 P w K mg base 4 (rh q) ["net"] ["pair"] (lE K):=by
 refine⟨zbC,λvals b H Q E h=>?_,λcl i e pm g l=>by obtain⟨u,rfl⟩:=am e;rfl,λcl j c A outer s H vals b Q E k d fz h=>?_⟩
 ·obtain⟨r,x,_,rfl,_⟩:=h
  rfl
 obtain⟨r,x,rfl,rfl,h⟩:=h;refine⟨_,zQ a.ok d (by rfl) a.m a.kp a.b .nil zY (zA (pv 1) (zA (pv 0) zC)),?_⟩;exact⟨_,rfl,_,rfl,h⟩
theorem zaj (q:Str) {f:JI}{fd:Yl}(a:Use P w K mg base "pair_behind" ["net","pair","lane"] 4 vI f fd):LamQ CX0 P w K mg base 4 (tw q) ["net"] ["pair","lane"] y9:=by
 refine⟨zbD,λvals d H Q E h=>?_,λcl j g pm i n=>by obtain⟨u,v,rfl⟩:=i9 g;rfl,λcl l c A outer s H vals d Q E m e fz h=>?_⟩
 ·obtain⟨r,b,h,_,rfl,_⟩:=h
  rfl
 obtain⟨r,b,k,rfl,rfl,h⟩:=h;refine⟨_,zQ a.ok e (by rfl) a.m a.kp a.b .nil zY (zA (pv 2) (zA (pv 0) (zA (pv 1) zC))),?_⟩;exact⟨_,rfl,_,rfl,_,rfl,h⟩
noncomputable def qS:Str:=("shows_stair":Str)++(".<locals>.":Str)++("<lambda>":Str)
theorem zbA:FnScope ["net","some","thing"] ["net","some","thing"] (zN x5):=by rfl'
theorem jt {f fB fF c Pt:JI}{fd dB dF:Yl}(F:FunC K "shows_stair" "shows_stair" x5 f fd c) (CK:CodeK K mg base c Pt) (UB:Use P w K mg base "is_book" ["thing","is_state","first","moves","led"] 6 (tG P w K (rh qS) ["net"] (lE K) (tw qS) ["net"] y9) fB dB) (UF:Use P w K mg base "first_pair" ["net"] 2 xA fF dF):FnOk P w K mg base CX0 7 f fd ["net","some","thing"] (tD K qS Pt):=by
 refine F.ok zbA (λvs H Q E h=>?_) (λA outer s H vs Q E hr h=>?_)
 ·obtain⟨r,fr,er,ps,N,sm,moves,x,rfl,_⟩:=h
  rfl
 obtain⟨r,fr,er,ps,N,sm,moves,x,rfl,ok,na,bc,mlt,ml,ax,g,tab,k⟩:=h;refine⟨_,(@zK _ _ _ (@zS _ _ _ _ (oS (E:=E0) UB.ok hr (by rfl) UB.m UB.kp UB.b [("net",0)] (by decide) (eW rfl rfl rfl) (@zA _ _ _ _ _ (@qv _ 2 _ _ (by rfl')) (@zA _ _ _ _ _ (mi (fr:=["net"]) CK rfl rfl (sN (x0:="net") rfl rfl) rfl) (@zA _ _ _ _ _ (@zQ _ _ _ _ _ _ _ _ _ _ _ _ _ _ _ _ UF.ok (hr.mono (by decide)) (by rfl) UF.m UF.kp UF.b .nil zY (@zA _ _ _ _ _ (@qv _ 0 _ _ (by rfl')) zC (by rfl)) (by decide) (by rfl) (by rfl)) (@zA _ _ _ _ _ (@qv _ 1 _ _ (by rfl')) (@zA _ _ _ _ _ (mi (fr:=["net"]) CK rfl rfl (sN (x0:="net") rfl rfl) rfl) zC (by rfl)) (by rfl)) (by rfl)) (by rfl)) (by rfl))))),?_⟩;have bt:=ok.l16;obtain⟨l,hP,tok⟩:=id tab;refine⟨_,rfl,l,hP,tok,λf1 b4 l1 H1 a4 a6 bB a0 I ao U=>?_⟩;have a8:=na.tups (KpN.tups (KpN.but (λb o e n=>U b o e n) hP));refine⟨_,rfl,r,fr,er,ps,N,rfl,ok,a8,λb0 H2 D k2=>?_⟩;refine⟨_,rfl,l1,D _ _ I,ao.frz (λb o u e=>D _ _ e),λf2 b2 l2 H3 a3 a5 bu aT bl ab T=>?_⟩;refine⟨[.ref r],rfl,λj x i v g p=>?_,λcs G bo C nd ca out X=>?_⟩
 ·match j,g,p with
  | 0,g,p=>cases g;cases p;rfl
  | j+1,g,p=>cases g
 obtain⟨c1,rfl⟩:=wL a4;obtain⟨B,rfl⟩:=wL a3;obtain⟨c3,rfl⟩:=wL bo;have e1:c1=c3:=Jf ((a6 _ (.head _)).symm.trans (C _ (.head _)));have e3:B=c3:=Jf ((a5 _ (.head _)).symm.trans (C _ (.head _)));subst e1 e3;have b1:But Pt H H1:=λb o e n=>U b o e n;have b3:But Pt H2 H3:=λb o e n=>T b o e n;have a7:But Pt H H3:=(b1.trans (But.of D)).trans b3
 have d:Same H3 G:=λb o e=>by
  rw[out b λM=>by rw[X b M]at e;cases e];exact e
 have a:KpN H G:=(KpN.but a7 hP).trans (KpN.same d);have R:=na.tups a.tups;have ba:KpN H2 G:=(KpN.but b3 (D _ _ I)).trans (KpN.same d);have Y:∀ b o u,H1 b=some (.frz o u)->G b=some (.frz o u):=λb o u e=>d _ _ (T _ _ (D _ _ e) (yD (D _ _ e) (D _ _ I) λz=>by cases z))
 have L:LamRaw G f1 (rh qS) [("net",B)]:=by
  obtain⟨pm,cd,ct,oc,fs,tk,L,J,r3,r4⟩:=a0.ex;exact⟨pm,cd,ct,oc,fs,tk,Y _ _ _ L,Y _ _ _ J,r3,r4⟩
 have J:LamRaw G f2 (tw qS) [("net",B)]:=by
  obtain⟨pm,cd,ct,oc,fs,tk,L,J,r3,r4⟩:=aT.ex;exact⟨pm,cd,ct,oc,fs,tk,d _ _ L,d _ _ J,r3,r4⟩
 have nd1:[("net":Str)].Nodup:=by decide
 have la1:=L.at_ (ws:=[.ref r]) ca nd1 nd rfl λi x c v g p=>⟨i,g,p⟩;have a9:=J.at_ (ws:=[.ref r]) ca nd1 nd rfl λi x c v g p=>⟨i,g,p⟩;have W:Way K G sm f2 (tw qS) ["net"] y9 [("net",B)] [.ref r] (yC N) (OkP N) moves N.lanes:=⟨.inl (a.tups _ _ bc),rfl,a9,nF ok R mlt,mlt,λs m t os _ e=>xP ok os e,by lia⟩;have Z:=ax.row a;refine⟨x,f1,b0,sm,f2,[("net",B)],[.ref r],_,moves,[("net",B)],[.ref r],yC N,OkP N,N.lanes,rB H (N.forks.length:Nat) (N.lanes:Nat),rfl,rfl,la1,k2.tups ba.tups,W,ml,(ax.kp a).any,λxs V=>?_,λH5 s5=>?_⟩
 ·rw[Z]at V
  obtain⟨x1,x2⟩:=g xs V;refine⟨x1,λy ym=>⟨λH5 Q1 k5 q=>?_,λs hs=>?_⟩⟩
  ·have S:=a.trans k5
   refine⟨r,y,rfl,rfl,r,fr,er,ps,N,y,rfl,ok,R.tups k5.tups,((x2 y ym).kp S).deep,λH6 s6=>?_⟩;rw[fQ S (x2 y ym),<- cE];exact q H6 s6
  ·obtain⟨o1,b,e,kb⟩:=jS hs
   exact⟨o1,b,e,kb.tups a.tups⟩
 rw[Z]
 have bS:CellsFz [("net",B)] H5:=λb M=>by
  obtain⟨o,z⟩:=ca.fz b M;exact⟨o,s5 _ _ z⟩
 have O:Same H3 (strip [("net",B)] H5):=λb o e=>by
  rw[zv λM=>by rw[X b M]at e;cases e];exact s5 _ _ (d _ _ e)
 exact k _ (a7.trans (But.of O)) (TabQ.same ⟨l2,bl,ab⟩ O)
noncomputable abbrev aP:Stmt:=top 35
noncomputable abbrev aR:Stmt:=top 36
noncomputable abbrev aW:Stmt:=top 37
noncomputable def gO:Sp:=λd H Q _=>∃ a b,∃ (place:Nat),d=[.ref a,.int (place:Nat)]/\H a=some (.tup (List.map V.int b))/\place<b.length/\b.length<=1000/\∀ p c,Same H c->c p=some (.tup ((zp b place).map V.int))->Q (.ref p) c
theorem gU:FnScope ["_law_net","_law_turns","_law_lane","_law_row","_law_k","_law_fork"] ["_law_net","_law_turns","_law_lane"] (zN aP):=by rfl'
theorem au {f:JI}{fd:Yl}(F:Fun K "_law_passed" "_law_passed" aP f fd) (G:Mgs mg):FnOk P w K mg base CX0 1 f fd ["_law_net","_law_turns","_law_lane"] (wp false):=by
 refine F.ok gU (λZ H Q E h=>?_) (λab A outer s H Z Q E hr h=>?_)
 ·obtain⟨r,fr,X,B,N,J,ts,lane,rfl,_⟩:=h
  rfl
 obtain⟨r,fr,X,B,N,J,ts,lane,rfl,ok,na,S,tl,bits,hl,k⟩:=h;refine⟨_,(@zH _ _ _ _ _ (@zZ _ _ 3 _ _ _ _ gU.nd rfl (.inl rfl) (@zw _ _ _ _ _ _ _ _ _ y4 (by rfl) G.list (by rfl) (@zA _ _ _ _ _ (@qv _ 1 _ _ (by rfl')) zC (by rfl)) (by decide) (by decide) (by rfl) (by rfl)) (by rfl) (by rfl')) (@zH _ _ _ _ _ (@y7 _ _ _ _ _ _ _ _ Yb rfl (@kC _ _ _ _ _ _ _ _ false rfl G.enum (@zA _ _ _ _ _ (@zj _ _ _ _ _ _ _ yE (@qv _ 0 _ _ (by rfl')) zJ (λ_ _=>rfl)) zC (by rfl)) (by rfl)) (@yQ _ _ _ _ _ _ rfl (@zP _ _ _ _ _ (@zM _ _ 4 _ gU.nd rfl (.inl rfl) (by rfl')) (@zP _ _ _ _ _ (@zM _ _ 5 _ gU.nd rfl (.inl rfl) (by rfl')) yA (by rfl)) (by rfl)) (by rfl) (by rfl)) (@zK _ _ _ (@yY _ _ _ _ _ _ _ _ (@zo _ _ _ _ _ _ _ _ rX (@qv _ 2 _ _ (by rfl')) (@qv _ 5 _ _ (by rfl')) (by rfl)) (@zH _ _ _ _ _ (@zZ _ _ 2 _ _ _ _ gU.nd rfl (.inl rfl) (@zj _ _ _ _ _ _ _ yE (@qv _ 5 _ _ (by rfl')) (@zj _ _ _ _ _ _ _ yB (@qv _ 3 _ _ (by rfl')) (@qv _ 4 _ _ (by rfl')) (λ_ _=>rfl)) (λ_ _=>rfl)) (by rfl) (by rfl')) (@zK _ _ _ (@yT _ _ _ _ _ _ (@zV _ _ _ _ _ _ _ _ tW zJ (@zj _ _ _ _ _ _ _ yB (@qv _ 3 _ _ (by rfl')) (@qv _ 4 _ _ (by rfl')) (λ_ _=>rfl))) (@tR _ _ _ _ _ _ _ (@qv _ 3 _ _ (by rfl')) (@qv _ 4 _ _ (by rfl')) wH (by intro _;rfl)) (by rfl) (by rfl) (by rfl)))) zu)) (by intro _;rfl)) (@zK _ _ _ (@zS _ _ _ _ (@zX _ _ _ _ _ (@zA _ _ _ _ _ (@zw _ _ _ _ _ _ _ _ _ yO (by rfl) G.tuple (by rfl) (@zA _ _ _ _ _ (@qv _ 3 _ _ (by rfl')) zC (by rfl)) (by decide) (by decide) (by rfl) (by rfl)) (@zA _ _ _ _ _ (@kD _ _ _ _ _ _ _ hr.units (@zj _ _ _ _ _ _ _ yE (@qv _ 0 _ _ (by rfl')) zJ (λ_ _=>rfl)) (@zA _ _ _ _ _ (@qv _ 2 _ _ (by rfl')) zC (by rfl)) (by rfl) (by rfl) (by rfl) (by rfl)) zC (by rfl)) (by rfl))))))),?_⟩;refine⟨_,rfl,J,_,rfl,.inr (SqT.of S),λm y=>?_⟩;have L:=zD y (.lst (ts.map V.int));refine⟨_,rfl,r,_,_,_,rfl,rfl,SqT.of (L _ _ na.net),rfl,fr,B,rfl,SqT.of (L _ _ na.forks),?_⟩
 refine nO (K:=K) (b:=false) (a:=fr) (xs:=B) (λi σ v=>(∃ I D,σ=[some (.ref r),some (.ref J),some (.int (yP false N.forks ts lane i).2),some (.ref m),I,D])/\Same H v/\v m=some (.lst ((yP false N.forks ts lane i).1.map V.int)))
  ⟨⟨_,_,rfl⟩,L,zB⟩ (λi σ v _ q=>SqT.of (q.2.1 _ _ na.forks)) ?_ ?_
 ·rintro i x σ v T hx hT ⟨⟨I,D,rfl⟩,n,u⟩
  obtain⟨a,g,rfl,Y,W⟩:=(na.prs.tups (Tups.of n)).get hx;have gi:i<N.forks.length:=(J9.mp Y).1;have gd:N.forks.getD i (0,0)=g:=by rw[JA,Y];rfl
  have rs:yP false N.forks ts lane (i+1)=yF false (yP false N.forks ts lane i) i g:=by show yF _ _ _ _=_;rw[gd]
  have rl:=wT (back:=false) (fs:=N.forks) (ts:=ts) (lane:=lane) i;have rb:=x6 (back:=false) (fs:=N.forks) (lane:=lane) bits i;generalize yP false N.forks ts lane i=st at *;have l:=zD hT (.tup [.int i,.ref a]);refine⟨T,_,rfl,SqT.of zB,rfl,_,_,rfl,_,_,rfl,rfl,?_⟩;refine⟨_,rfl,_,rfl,a,_,rfl,.inr (SqT.of (l _ _ W)),rfl,rfl,_,rfl,?_⟩;show if (if false=true then !inV (V.int (st.2:Nat)) [V.int (g.1:Nat),V.int (g.2:Nat)] else inV (V.int (st.2:Nat)) [V.int (g.1:Nat),V.int (g.2:Nat)])=true then _ else _;rw[Je Jh,eV];by_cases on:st.2=g.1\/st.2=g.2
  ·rw[Jt on]
   refine yV ?_;have c:yF false st i g=(st.1.set i (1-st.1.getD i 0),if st.1.getD i 0=0 then g.1 else g.2):=by unfold yF;rw[Jm on];rfl
   have C:i<st.1.length:=by simp_all
   have R:=l _ _ u
   obtain⟨d,en,ex⟩:∃ d:Nat,d=(yF false st i g).2/\atI [V.int (g.1:Nat),V.int (g.2:Nat)] (st.1.getD i 0)=some (.int (d:Nat)):=by
    rcases rb _ (L2.sM C) with z|z
    ·exact⟨g.1,by rw[c,z];rfl,by rw[z];exact yk (j:=0) rfl⟩
    ·exact⟨g.2,by rw[c,z];rfl,by rw[z];exact yk (j:=1) rfl⟩
   refine⟨_,rfl,_,rfl,_,rfl,m,_,_,_,rfl,rfl,SqL.of R,uJ C,a,_,_,_,rfl,rfl,SqT.of (l _ _ W),ex,?_⟩;refine⟨_,rfl,_,rfl,m,_,_,_,rfl,rfl,SqL.of R,uJ C,_,_,rfl,rfl,_,rfl,_,rfl,m,_,_,i,rfl,rfl,R,eT (by rw[Jc];exact C),⟨_,_,by rw[rs,<- en];rfl⟩,λb o e=>?_,?_⟩
   ·rw[zG (zE e y)];exact l _ _ (n b o e)
   ·rw[zB,rs,c,oC]
  ·rw[Jj on]
   have c:yF false st i g=st:=by unfold yF;rw[Je on]
   exact zz ⟨⟨_,_,by rw[rs,c];rfl⟩,n.trans l,by rw[rs,c];exact l _ _ u⟩
 ·rintro σ v ⟨⟨I,D,rfl⟩,n,u⟩
  have M:=na.prs.len;rw[M]at u;have hh:=wq (back:=false) (ts:=ts) ok.fk hl N.forks.length (Jd _);refine⟨_,rfl,m,_,rfl,.inl ⟨SqL.of u,λt ht=>?_⟩⟩;have s3:=zD ht (.tup ((yP false N.forks ts lane N.forks.length).1.map V.int));have u3:=n.trans s3;have O:=u3 _ _ na.ends;rw[oe]at O;refine⟨_,rfl,r,_,_,_,rfl,rfl,SqT.of (u3 _ _ na.net),rfl,X,_,rfl,O,_,rfl,(((yP false N.forks ts lane B.length).2:Nat):Int),rfl,O,?_,?_⟩
  ·rw[M];exact Jw.mpr ⟨_,ok.en.mem_iff.mpr (YQ.mpr hh),rfl⟩
  ·rw[sI,M]
   exact⟨by show 2<=sizeLine;decide,λp U=>k p t _ (u3.trans (zD U _)) zB (zD U _ _ _ zB)⟩
theorem zbB:FnScope ["_law_counts","_law_lane"] ["_law_counts","_law_lane"] (zN aR):=by rfl'
theorem av {f:JI}{fd:Yl}(F:Fun K "_law_more" "_law_more" aR f fd):FnOk P w K mg base CX0 1 f fd ["_law_counts","_law_lane"] gO:=by
 refine F.ok zbB (λn H Q E h=>?_) (λC A outer s H n Q E I h=>?_)
 ·obtain⟨a,b,place,rfl,_⟩:=h
  rfl
 obtain⟨a,b,place,rfl,c,j,D,k⟩:=h;refine⟨_,(@zK _ _ _ (@zS _ _ _ _ (@zV _ _ _ _ _ _ _ _ um (@zV _ _ _ _ _ _ _ _ um (@yo _ _ _ _ _ _ _ _ _ _ ue (@qv _ 0 _ _ (by rfl')) yq (@yW _ _ _ (@qv _ 1 _ _ (by rfl')))) (@zX _ _ _ _ _ (@zA _ _ _ _ _ (@zV _ _ _ _ _ _ _ _ xF (@zj _ _ _ _ _ _ _ yE (@qv _ 0 _ _ (by rfl')) (@qv _ 1 _ _ (by rfl')) (λ_ _=>rfl)) zJ) zC (by rfl)))) (@yo _ _ _ _ _ _ _ _ _ _ ue (@qv _ 0 _ _ (by rfl')) (@yW _ _ _ (@zV _ _ _ _ _ _ _ _ xF (@qv _ 1 _ _ (by rfl')) zJ)) yq)))),?_⟩;have G:(b.map V.int).length=b.length:=Jc _;refine⟨_,rfl,_,rfl,_,rfl,a,_,rfl,c,λv M i m=>?_⟩;rw[sR _ place (by lia)]at m;refine⟨_,rfl,_,rfl,a,_,_,_,rfl,rfl,SqT.of (i _ _ c),uJ j,_,_,rfl,rfl,(by show 1<=sizeLine;decide),λu d=>?_⟩;have g:=zD d (.tup [.int (b.getD place 0+1)]);refine⟨v,u,_,_,rfl,rfl,g _ _ m,zB,?_,λt L p y=>?_⟩
 ·rw[JC,JE];show _+1<=_;grind
 have u3:=(i.trans g).trans p;refine⟨_,rfl,_,rfl,_,_,rfl,rfl,_,rfl,a,_,rfl,u3 _ _ c,λr J e l=>?_⟩;rw[show ((place:Int)+1)=((place+1:Nat):Int) from rfl,sS _ (place+1) (by lia)]at l;refine⟨t,r,_,_,rfl,rfl,e _ _ y,l,?_,λq B o x=>?_⟩
 ·rw[Jb,JC,Zb,JE];show _+1+_<=_;grind
 refine k q B ((u3.trans e).trans o) ?_;rw[x];exact JQ (λz=>some (HO.tup z)) (kA b place _ j)
theorem zbM:FnScope ["_law_net"] ["_law_net"] (zN aW):=by rfl'
theorem az {f:JI}{fd:Yl}(F:Fun K "_law_first" "_law_first" aW f fd) (G:Mgs mg):FnOk P w K mg base CX0 1 f fd ["_law_net"] xA:=by
 refine F.ok zbM (λd H Q E h=>?_) (λn A outer s H d Q E o h=>?_)
 ·obtain⟨r,fr,m,b,N,rfl,_⟩:=h
  rfl
 obtain⟨r,fr,m,b,N,rfl,ok,na,k⟩:=h;refine⟨_,(@zK _ _ _ (@zS _ _ _ _ (@zX _ _ _ _ _ (@zA _ _ _ _ _ (@zV _ _ _ _ _ _ _ _ uk (@zX _ _ _ _ _ (@zA _ _ _ _ _ zJ zC (by rfl))) (@zR _ _ _ _ _ _ _ _ _ zT (by rfl) G.len Y1 (@zA _ _ _ _ _ (@zj _ _ _ _ _ _ _ yE (@qv _ 0 _ _ (by rfl')) zJ (λ_ _=>rfl)) zC (by rfl)) (by decide) (by decide) (by rfl) (by rfl))) (@zA _ _ _ _ _ zJ zC (by rfl)) (by rfl))))),?_⟩;refine⟨by show 1<=sizeLine;decide,λt i=>?_⟩;have a:=zD i (.tup [.int 0]);have g:=na.prs.len;have u:=ok.fm;refine⟨_,rfl,r,_,_,_,rfl,rfl,SqT.of (a _ _ na.net),rfl,fr,b,rfl,.inr (SqT.of (a _ _ na.forks)),t,_,b.length,rfl,rfl,zB,by lia,λq v e l=>⟨by show 2<=sizeLine;decide,λp j=>?_⟩⟩;have c:=zD j (.tup [.ref q,.int 0]);refine k p _ ((a.trans e).trans c) (uW (is:=[0]) (t:=q) zB (c _ _ ?_));rw[l,g,<- List.map_replicate]
end
end K38
namespace L2
open PySem PySem.Spec PyProof.Rows Own
section
variable {prog:Yo}{w:YI}{A:YO}{E:Jo->JO->Prop}{s:JO}{a b:JI}{oa ob:Obj}{es:Array DictEntry}{ea eb:Nat}
theorem mL {nm:String}{Q:Bool->JO->Prop}(ha:(a == sysModules)=false)(hb:(b == sysModules)=false)(f:s.heap.get? a=some oa)(g:oa.data=.dict es ea)(k:s.heap.get? b=some ob)(m:ob.data=.dict #[] eb)(h:Q es.isEmpty s):wpAny (model prog w) A (Builtin.Dict.samePairs nm a b) Q E s:=by
 unfold Builtin.Dict.samePairs
 have c:∀ {d:JI}{R:Unit->JO->Prop},(d == sysModules)=false->R () s->wpAny (model prog w) A (Builtin.Dict.showsAll d) R E s:=λ{d R} j q=>by
  unfold Builtin.Dict.showsAll;rw[j];exact J7 q
 refine J0 (c ha (J0 (c hb (J0 (Y4 f g (J0 (Y4 k m ?_)))))));dsimp only;by_cases z:es.size=0
 ·have e:es = #[]:=Array.eq_empty_of_size_eq_zero z
  subst e;rw[Je (by decide)];refine J0 (Ya f g (J0 ?_));have l:List.range' [:(#[]:Array DictEntry).size].start [:(#[]:Array DictEntry).size].size [:(#[]:Array DictEntry).size].step=[]:=rfl;rw[Zt,l,Zc];exact J7 (Q:=_) (J7 (by exact h))
 ·rw[Jm (by simpa using z)]
  have i:es.isEmpty=false:=by simpa [Array.isEmpty] using z
  exact J0 (YX (J7 (i ▸ h)))
end
section
variable {X:Cx}
theorem aj (w:X.A.units<cLine):OpR X (compareOp .NotEq) (λx y H Q=>∃ a b xs,x=.ref a/\y=.ref b/\H a=some (DN X.prog X.w a xs)/\H b=some (DN X.prog X.w b [])/\Q (.bl (!xs.isEmpty)) H):=by
 intro pins s σ H x y v u Q I m l h;obtain⟨a,b,xs,rfl,rfl,B,A,q⟩:=h;cases m;cases l;obtain⟨⟨z,C,ws,r,o,c,S,j,F,E,D,P⟩,_,_⟩:=(show ObjOk X.prog X.w H s.heap a (DN X.prog X.w a xs) from I.hok a _ B);obtain⟨⟨O,e,M,n,t,f,N,k,K,J,G,R⟩,_,_⟩:=(show ObjOk X.prog X.w H s.heap b (DN X.prog X.w b []) from I.hok b _ A);cases n
 have L:f = #[]:=by
  apply Array.eq_empty_of_size_eq_zero;rw[YY G];rfl
 subst L;have d:s.TypeIs (.ref a) "dict":=⟨o,j,F.1⟩;have g:s.TypeIs (.ref b) "dict":=⟨t,k,K.1⟩
 have em:c.isEmpty=xs.isEmpty:=by
  have i:c.size=xs.length:=by rw[YY D,<- JU r]
  cases xs with
  | nil =>
   have:c = #[]:=Array.eq_empty_of_size_eq_zero i
   rw[this];rfl
  | cons p xs =>
   rw[JM]at i;show decide (c.size=0)=false;exact Jj (by simp_all)
 refine wpAny_richCompare_same_room (op:=.NotEq) d g PySem.F.slot_dict_ne (Y6 PySem.F.slot_dict_ne d PySem.F.entry_dict_ne ?_ (PySem.F.args_dict_ne_2 _ _)) w;refine J0 ?_;unfold Builtin.Dict.dictSlotArgs;refine J0 (Zn d ?_);dsimp only;refine J0 (J7 (Q:=_) (J7 (Q:=_) ?_));refine J0 (Zv (b:=true) g (by rfl) ?_);rw[Je (by decide)];refine J0 (J7 (J0 (J7 (J0 (mL C e j E k J ?_)))));rw[em];refine J7 ⟨_,rfl,(λz=>by cases z),.bl _,H,I,rfl,?_⟩;have eq:(List.isEmpty xs == false) = !List.isEmpty xs:=by cases List.isEmpty xs<;>rfl
 rw[eq];exact q
noncomputable def aE (P:Yo)(w:YI)(t:TE):TE:=λσ H Q=>t σ H λx c=>∃ d o b a,H d=some (DN P w d a)/\c d=some (.frz o (DN P w d b))/\Q x (upd c d (DN P w d b))
theorem fE {e:Expr}{t:TE}(h:PE X e t):PE X e (aE X.prog X.w t):=by
 intro pins s σ H Q I c;refine thn (h pins s σ H _ I c) λv k q=>?_;obtain⟨x,l,g,a,d,o,j,i,f,b,q⟩:=q;exact⟨x,_,g.thawN b (I.meltedN f),a,q⟩
end
end L2
namespace K38
open PySem L2 Own Bn
noncomputable abbrev aS:Stmt:=top 38
noncomputable def TellL (P:Yo)(w:YI)(H:Hp)(p:JI)(most:Nat):LRes->Prop
 | .opn=>∃ d a ys v,H p=some (.tup [.ref d,.ref a,v])/\H a=some (DN P w a ys)/\most<ys.length
 | .brk c=>∃ d a ys b,H p=some (.tup [.ref d,.ref a,.ref b])/\H a=some (DN P w a ys)/\ys.length<=most/\H b=some (.tup (c.map V.int))
 | .whl ls=>∃ d a ys as e,H p=some (.tup [.ref d,.ref a,.non])/\H a=some (DN P w a ys)/\ys.length<=most/\H d=some (.lst (as.map V.ref))/\RowsK H as e/\Paired LvRow e ls
noncomputable def gQ (P:Yo)(w:YI):Sp:=λc H Q _=>∃ r fr e d N b,∃ (moves:List Nat) (most:Nat),c=[.ref r,.ref b,.int (most:Nat)]/\Nt.Ok N/\NetAt H r fr e d N/\H b=some (.tup (zW moves))/\(∀ m∈moves,m<N.lanes)/\moves.length<=16/\0<most/\most<=10000 /\
 ∀ p a,Same H a->TellL P w a p most (yS N moves most)->Q (.ref p) a
section
variable {P:Yo}{w:YI}{K:Jl}{mg:Str->Option Jo}{base:YP}
theorem uX:FnScope ["_law_net","_law_some","_law_most","_law_level","_law_met","_law_rows","_law_further","_law_bad","_law_turns","_law_rest","_law_lane","_law_later","_law_end","_law_pair","_law_counts"] ["_law_net","_law_some","_law_most"] (zN aS):=by rfl'
theorem aw {f fF fP fM:JI}{fd dF dP dM:Yl}(F:Fun K "_law_levels" "_law_levels" aS f fd) (G:Mgs mg) (GD:MgD mg) (UF:Use P w K mg base "_law_first" ["_law_net"] 1 xA fF dF) (UP:Use P w K mg base "_law_passed" ["_law_net","_law_turns","_law_lane"] 1 (wp false) fP dP) (UM:Use P w K mg base "_law_more" ["_law_counts","_law_lane"] 1 gO fM dM):FnOk P w K mg base CX0 2 f fd ["_law_net","_law_some","_law_most"] (gQ P w):=by
 refine F.ok uX (λvs H Q E h=>?_) (λhL A outer s H vs Q E hr h=>?_)
 ·obtain⟨r,fr,er,ps,N,sm,moves,most,rfl,_⟩:=h
  rfl
 obtain⟨r,fr,er,ps,N,sm,moves,most,rfl,ok,na,hb,mlt,ml,mp,mb,k⟩:=h;refine⟨_,(@zH _ _ _ _ _ (@vj _ _ 3 4 _ _ _ _ _ _ _ _ _ _ _ rfl uX.nd rfl rfl (by decide) rfl rfl (@zA _ _ _ _ _ (tU hr.u3 (@zQ _ _ _ _ _ _ _ _ _ _ _ _ _ _ _ _ UF.ok hr (by rfl) UF.m UF.kp UF.b .nil zY (@zA _ _ _ _ _ (@qv _ 0 _ _ (by rfl')) zC (by rfl)) (by decide) (by rfl) (by rfl)) (@zV _ _ _ _ _ _ _ _ uk (@zX _ _ _ _ _ (@zA _ _ _ _ _ zJ zC (by rfl))) (@zj _ _ _ _ _ _ _ yE (@qv _ 0 _ _ (by rfl')) zJ (λ_ _=>rfl)))) (@zA _ _ _ _ _ (tU hr.u3 (@zQ _ _ _ _ _ _ _ _ _ _ _ _ _ _ _ _ UF.ok hr (by rfl) UF.m UF.kp UF.b .nil zY (@zA _ _ _ _ _ (@qv _ 0 _ _ (by rfl')) zC (by rfl)) (by decide) (by rfl) (by rfl)) wK) zC (by rfl)) (by rfl)) (by rfl) (by rfl)) (@zH _ _ _ _ _ (@zZ _ _ 5 _ _ _ _ uX.nd rfl (.inl rfl) (@yJ _ _ _ _ zC) (by rfl) (by rfl')) (@zH _ _ _ _ _ (@vO _ _ _ _ _ _ Yb (@ae _ _ _ _ _ _ _ (@zo _ _ _ _ _ _ _ _ (aj hr.units0) (@qv _ 3 _ _ (by rfl')) uh (yK _)) (@cM _ _ _ _ (@zo _ _ _ _ _ _ _ _ br (@zR _ _ _ _ _ _ _ _ _ wa (by rfl) G.len Y1 (@zA _ _ _ _ _ (@qv _ 4 _ _ (by rfl')) zC (by rfl)) (by decide) (by decide) (by rfl) (by rfl)) (@qv _ 2 _ _ (by rfl')) (yK _)))).pt (@zH _ _ _ _ _ (@yj _ _ _ _ (@wB _ _ _ _ _ _ _ _ _ _ _ _ Y2 Yy Yz yc (@qv _ 5 _ _ (by rfl')) (@zA _ _ _ _ _ (@zR _ _ _ _ _ _ _ _ _ (wm rfl hr.units) (by rfl) G.sorted (by rfl) (@zA _ _ _ _ _ (@qv _ 3 _ _ (by rfl')) zC (by rfl)) (by decide) (by decide) (by rfl) (by rfl)) zC (by rfl)) (by rfl) (by rfl) (by rfl) (by rfl) (by rfl)) (by rfl)) (@zH _ _ _ _ _ (@vj _ _ 6 7 _ _ _ _ _ _ _ _ _ _ _ rfl uX.nd rfl rfl (by decide) rfl rfl (@zA _ _ _ _ _ uh (@zA _ _ _ _ _ (@yJ _ _ _ _ zC) zC (by rfl)) (by rfl)) (by rfl) (by rfl)) (@zH _ _ _ _ _ (oN (@y7 _ _ _ _ _ _ _ _ Yb rfl (oP (@qv _ 3 _ _ (by rfl'))) (@yQ _ _ _ _ _ _ rfl (@zP _ _ _ _ _ (@zM _ _ 8 _ uX.nd rfl (.inl rfl) (by rfl')) (@zP _ _ _ _ _ (@zM _ _ 9 _ uX.nd rfl (.inl rfl) (by rfl')) yA (by rfl)) (by rfl)) (by rfl) (by rfl)) (@zK _ _ _ (@y7 _ _ _ _ _ _ _ _ Yb rfl (@xc _ _ _ _ (@qv _ 1 _ _ (by rfl'))) (@zM _ _ 10 _ uX.nd rfl (.inl rfl) (by rfl')) (@zH _ _ _ _ _ (@yT _ _ _ _ _ _ (@zQ _ _ _ _ _ _ _ _ _ _ _ _ _ _ _ _ UP.ok hr (by rfl) UP.m UP.kp UP.b .nil zY (@zA _ _ _ _ _ (@qv _ 0 _ _ (by rfl')) (@zA _ _ _ _ _ (@qv _ 8 _ _ (by rfl')) (@zA _ _ _ _ _ (@qv _ 10 _ _ (by rfl')) zC (by rfl)) (by rfl)) (by rfl)) (by decide) (by rfl) (by rfl)) (@yQ _ _ _ _ _ _ rfl (@zP _ _ _ _ _ (@zM _ _ 11 _ uX.nd rfl (.inl rfl) (by rfl')) (@zP _ _ _ _ _ (@zM _ _ 12 _ uX.nd rfl (.inl rfl) (by rfl')) yA (by rfl)) (by rfl)) (by rfl) (by rfl)) (by rfl) (by rfl) (by rfl)) (@zH _ _ _ _ _ (@zZ _ _ 13 _ _ _ _ uX.nd rfl (.inl rfl) (@zX _ _ _ _ _ (@zA _ _ _ _ _ (@qv _ 11 _ _ (by rfl')) (@zA _ _ _ _ _ (@zV _ _ _ _ _ _ _ _ xR (@zV _ _ _ _ _ _ _ _ xF (@qv _ 9 _ _ (by rfl')) zJ) (@zj _ _ _ _ _ _ _ yE (@qv _ 0 _ _ (by rfl')) zJ (λ_ _=>rfl))) zC (by rfl)) (by rfl))) (by rfl) (by rfl')) (@zH _ _ _ _ _ (@zZ _ _ 14 _ _ _ _ uX.nd rfl (.inl rfl) (@zQ _ _ _ _ _ _ _ _ _ _ _ _ _ _ _ _ UM.ok hr (by rfl) UM.m UM.kp UM.b .nil zY (@zA _ _ _ _ _ (cQ hr.u3 (@qv _ 3 _ _ (by rfl')) (@zX _ _ _ _ _ (@zA _ _ _ _ _ (@qv _ 8 _ _ (by rfl')) (@zA _ _ _ _ _ (@qv _ 9 _ _ (by rfl')) zC (by rfl)) (by rfl))) (λ_ _=>rfl)) (@zA _ _ _ _ _ (@qv _ 10 _ _ (by rfl')) zC (by rfl)) (by rfl)) (by decide) (by rfl) (by rfl)) (by rfl) (by rfl')) (@zH _ _ _ _ _ (@yY _ _ _ _ _ _ _ _ (@zo _ _ _ _ _ _ _ _ oU (@qv _ 12 _ _ (by rfl')) (@qv _ 9 _ _ (by rfl')) (yK _)) (@zK _ _ _ (@yj _ _ _ _ (@wB _ _ _ _ _ _ _ _ _ _ _ _ Y2 Yy Yz yc (@qv _ 7 _ _ (by rfl')) (@zA _ _ _ _ _ (@qv _ 14 _ _ (by rfl')) zC (by rfl)) (by rfl) (by rfl) (by rfl) (by rfl) (by rfl)) (by rfl))) zu) (@zK _ _ _ (@yY _ _ _ _ _ _ _ _ (@mf _ _ _ _ _ _ (vn hr.u3 (@qv _ 13 _ _ (by rfl')) (@qv _ 4 _ _ (by rfl'))) (by rfl)) (@zK _ _ _ (qm hr.u3 (@qv _ 6 _ _ (by rfl')) (@qv _ 13 _ _ (by rfl')) (@zR _ _ _ _ _ _ _ _ _ (si rfl hr.units) (by rfl) G.min (by rfl) (@zA _ _ _ _ _ (oQ hr.u3 (@qv _ 6 _ _ (by rfl')) (@qv _ 13 _ _ (by rfl')) (@qv _ 14 _ _ (by rfl')) ⟨rfl,rfl,rfl,rfl⟩) (@zA _ _ _ _ _ (@qv _ 14 _ _ (by rfl')) zC (by rfl)) (by rfl)) (by decide) (by decide) (by rfl) (by rfl)) (by rfl))) zu)))))) (by intro _;rfl))) (by intro _;rfl))) (@zH _ _ _ _ _ (@yY _ _ _ _ _ _ _ _ (@zo _ _ _ _ _ _ _ _ (mj hr.units0) (@qv _ 7 _ _ (by rfl')) (@yJ _ _ _ _ zC) (yK _)) (@zK _ _ _ (@zS _ _ _ _ (@zX _ _ _ _ _ (@zA _ _ _ _ _ (@qv _ 5 _ _ (by rfl')) (@zA _ _ _ _ _ (@qv _ 4 _ _ (by rfl')) (@zA _ _ _ _ _ (@zR _ _ _ _ _ _ _ _ _ (qH rfl true hr.units) (by rfl) G.min (by rfl) (@zA _ _ _ _ _ (@qv _ 7 _ _ (by rfl')) zC (by rfl)) (by decide) (by decide) (by rfl) (by rfl)) zC (by rfl)) (by rfl)) (by rfl))))) zu) (@zH _ _ _ _ _ (@yj _ _ _ _ (kE hr.u3 (@qv _ 4 _ _ (by rfl')) (@zw _ _ _ _ _ _ _ _ _ (sk rfl (Wi (Nat.add_le_add_left (by decide) _) hr.units)) (by rfl) GD.dict (by rfl) (@zA _ _ _ _ _ (fE (@oR _ _ _ _ none _ _ _ _ _ _ ["_law_pair"] [none] rfl (oP (@qv _ 6 _ _ (by rfl'))) (CapOk.of (by kernel_rfl)) (λ_ _ _ _ _=>(@zM _ _ 0 _ (show (["_law_pair"]:List Str).Nodup from by decide +kernel) rfl (.inl rfl) (.inr rfl))) (λ_ _ _ _ _=>xY) (λ_ _ _ _ _=>(@zX _ _ _ _ _ (@zA _ _ _ _ _ (@qv _ 0 _ _ (by rfl')) (@zA _ _ _ _ _ wK zC (by rfl)) (by rfl)))) (by intro _;rfl))) zC (by rfl)) (by decide) (by decide) (by rfl) (by rfl)) ⟨rfl,rfl,rfl,rfl⟩) (by rfl)) (@zK _ _ _ (@zZ _ _ 3 _ _ _ _ uX.nd rfl (.inl rfl) (@qv _ 6 _ _ (by rfl')) (by rfl) (by rfl'))))))))) (@zK _ _ _ (@zS _ _ _ _ (@zX _ _ _ _ _ (@zA _ _ _ _ _ (@qv _ 5 _ _ (by rfl')) (@zA _ _ _ _ _ (@qv _ 4 _ _ (by rfl')) (@zA _ _ _ _ _ wJ zC (by rfl)) (by rfl)) (by rfl)))))))),?_⟩;have hI:=ok.l16;have l1:=ok.l1
 let k0:KN:=stK (List.replicate N.forks.length 0) [0]
 refine zi (λDz hh=>?_);refine λdl ed=>?_;have s1:=zD ed (DN P w dl []);refine⟨_,rfl,r,fr,er,ps,N,rfl,ok,na.tups (Tups.of s1),λb0 H1 s2 fo=>?_⟩;have u2:=s1.trans s2;refine⟨by show 1<=sizeLine;decide,λt1 fx=>?_⟩;have s3:=zD fx (.tup [.int 0]);have u3:=u2.trans s3;refine⟨_,rfl,r,_,_,_,rfl,rfl,SqT.of (u3 _ _ na.net),rfl,t1,_,N.lanes,rfl,rfl,zB,by lia,λc0 W s4 h4=>?_⟩;rw[<- List.map_replicate]at h4;have u4:=u3.trans s4;have U:=s4 _ _ (s3 _ _ (s2 _ _ (zB (H:=H) (o:=DN P w dl []) (a:=dl))));have k4:=fo.tups (Tups.of (s3.trans s4));refine⟨b0,k0,rfl,U,k4,λn a9=>?_⟩;replace a9:L2.upd W dl (DN P w dl [(k0,b0,.ref c0)]) n=none:=a9;have s5:Same H (L2.upd W dl (DN P w dl [(k0,b0,.ref c0)])):=λb u e=>by rw[zG (zE e ed)];exact u4 b u e
 have t5:Tups W (L2.upd W dl (DN P w dl [(k0,b0,.ref c0)])):=λb xs e=>by rw[zG (yD e U λz=>by cases z)];exact e
 have ee:L2.upd W dl (DN P w dl [(k0,b0,.ref c0)]) dl=some (DN P w dl [(k0,b0,.ref c0)]):=zB;have k5:=k4.tups t5;have c5:=t5 _ _ h4;show bj xA [] E0 _ _ (L2.upd (L2.upd W dl (DN P w dl [(k0,b0,.ref c0)])) n (DN P w n [])) _;generalize L2.upd W dl (DN P w dl [(k0,b0,.ref c0)])=HA at *;have d3:=zD a9 (DN P w n []);refine⟨_,rfl,r,fr,er,ps,N,rfl,ok,na.tups (Tups.of (s5.trans d3)),λb1 H3 s6 kb1=>?_⟩;have ea:=s6 _ _ (zB (H:=HA) (o:=DN P w n []) (a:=n));have u6:=d3.trans s6
 have dH:H n=none:=by
  cases e:H n with
  | none=>rfl
  | some o=>rw[s5 _ _ e]at a9;cases a9
 have f7:dl≠n:=zE ee a9;refine⟨b1,k0,rfl,ea,kb1,_,_,rfl,hh _ _ ⟨by show 0<=sizeLine;decide,λJ b7=>?_⟩⟩;replace b7:L2.upd H3 n (DN P w n [(k0,b1,.bl true)]) J=none:=b7;have q7:∀ {b u},HA b=some u->L2.upd H3 n (DN P w n [(k0,b1,.bl true)]) b=some u:=λ{b u} e=>by rw[zG (zE e a9)];exact u6 b u e
 have t7:Tups H3 (L2.upd H3 n (DN P w n [(k0,b1,.bl true)])):=λb xs e=>by rw[zG (yD e ea λz=>by cases z)];exact e
 have s7:Same HA (L2.upd H3 n (DN P w n [(k0,b1,.bl true)])):=λb u e=>q7 e;have fG:L2.upd H3 n (DN P w n [(k0,b1,.bl true)]) n=some (DN P w n [(k0,b1,.bl true)]):=zB;have fm:=kb1.tups t7;show wC _ _ _ _ (L2.upd (L2.upd H3 n (DN P w n [(k0,b1,.bl true)])) J (.lst []));generalize L2.upd H3 n (DN P w n [(k0,b1,.bl true)])=HB at *;have s8:=zD b7 (.lst []);have sX:=(s5.trans s7).trans s8;have fK:L2.upd HB J (.lst []) J=some (.lst []):=zB;have fT:=s8 _ _ (q7 ee);have fC:=s8 _ _ fG;have fk:=k5.tups (Tups.of (s7.trans s8));have cX:=s8 _ _ (q7 c5);have e6:=fm.tups (Tups.of s8)
 have g5:H J=none:=by
  cases e:H J with
  | none=>rfl
  | some o=>rw[q7 (s5 _ _ e)]at b7;cases b7
 generalize L2.upd HB J (.lst [])=HX at *;clear s8 s7 t7 q7 fG fm u6 s6 ea kb1 d3 c5 k5 ee s5 t5 u4 k4 U h4 s4 u3 s3 fx b7 a9 u2 s2 fo s1 H1 W H3 HA HB t1
 refine⟨λm σ W=>∃ dl xs ys level seen as bc ls v6 v7 v8 v9 v10 v11 T S R,σ=[some (.ref r),some (.ref sm),some (.int (most:Nat)),some (.ref dl),some (.ref n),some (.ref J),v6,v7,v8,v9,v10,v11,T,S,R]/\Same H W/\W dl=some (DN P w dl xs)/\LvE W xs level/\W n=some (DN P w n ys)/\KsIn W ys/\ys.map (·.1)=(seen++level).map (·.1)/\dl≠n/\W J=some (.lst (as.map V.ref))/\RowsK W as bc/\Paired LvRow bc ls/\J∉as /\
  as.length<=seen.length/\LvNd level/\(∀ p∈level,zU seen p.1=none)/\(∀ p∈level,OkP N p.1/\p.2.length=N.lanes)/\seen.length<=most/\(0<seen.length+level.length)/\level.length<=16*most+1/\most+1<=m+seen.length/\yS N moves most=ya (yC N) moves most m level seen ls,⟨most+1,?_⟩,?_⟩
 ·exact⟨dl,_,_,[(k0,List.replicate N.lanes 0)],[],[],[],[],_,_,_,_,_,_,_,_,_,rfl,sX,fT,⟨λx hx=>by rw[Ja.mp hx];exact fk,.cons ⟨rfl,c0,rfl,cX⟩ .nil⟩,fC,λx hx=>by rw[Ja.mp hx];exact e6,rfl,f7,fK,.nil,.nil,Jv,Jd _,JP.mpr ⟨Jv,Yx⟩,λp I=>rfl,λp I=>by rw[Ja.mp I];exact⟨xn ok,ZR⟩,Jz _,Nat.one_pos,by show 1<=_;lia,Jd _,rfl⟩
 clear fK fT fC fk cX e6 sX ed f7 HX b0 b1 c0 dl;rintro m σ W ⟨dl,xs,ys,level,seen,as,bc,ls,v6,v7,v8,v9,v10,v11,T,S,R,rfl,s2,ef,d7,cJ,ff,ek,hE,a4,d5,eN,e3,hM,nd,new,dS,gc,pos,hH,em,ec⟩
 have e0:(!xs.isEmpty) = !level.isEmpty:=by
  have:=d7.len;cases xs<;>cases level<;>first|rfl|cases this
 have yl:ys.length=seen.length+level.length:=by
  have:=JQ List.length ek
  rwa [Jc,Jc,Jb]at this
 obtain⟨m,rfl⟩:∃ m',m=m'+1:=⟨m-1,by lia⟩;refine⟨_,rfl,λe he=>?_⟩;have sE:=zD he (DN P w e []);refine⟨dl,e,xs,rfl,rfl,sE _ _ ef,zB,_,rfl,?_⟩;rw[e0];by_cases le:level=[]
 ·rw[le]
  refine zz (zz ?_);refine⟨_,rfl,_,rfl,by show 3<=sizeLine;decide,λp I=>?_⟩;have s3:=zD I (.tup [.ref J,.ref n,.non]);have u3:=sE.trans s3;refine k p _ (s2.trans u3) ?_;rw[ec,le,xv];rw[le]at yl;exact⟨J,n,ys,as,bc,zB,u3 _ _ cJ,by rw[yl];exact gc,u3 _ _ a4,d5.same u3,eN⟩
 rw[show (!level.isEmpty)=true by cases level;exact absurd rfl le;rfl];refine yV ?_;refine⟨_,rfl,n,ys,rfl,.inl (sE _ _ cJ),_,rfl,_,_,rfl,rfl,_,rfl,?_⟩;by_cases mo:most<seen.length+level.length
 ·rw[Jj (by rw[yl];lia)]
  refine zz ?_;refine⟨_,rfl,_,rfl,by show 3<=sizeLine;decide,λp I=>?_⟩;have s3:=zD I (.tup [.ref J,.ref n,.non]);have u3:=sE.trans s3;refine k p _ (s2.trans u3) ?_;rw[ec,xw le mo];exact⟨J,n,ys,_,zB,u3 _ _ cJ,by rw[yl];exact mo⟩
 rw[Jt (by rw[yl];lia)];refine yV ⟨_,λhF H' hN=>⟨m,Nat.lt_succ_self _,hN⟩,?_⟩;have lp:0<level.length:=ZC.mpr le;have d0:=sE _ _ ef;have ct:=d7.keep sE;have d8:=sE _ _ cJ;have e8:=ff.tups (Tups.of sE);have bu:=sE _ _ a4;have rkE:=d5.same sE;have uE:=s2.trans sE;show wC _ _ _ _ (L2.upd W e (DN P w e []));generalize L2.upd W e (DN P w e [])=HE at *;clear sE s2 ef d7 cJ ff a4 d5 he e W;refine zi (λDy hj=>?_);refine⟨_,rfl,.inl ⟨rfl,_,SqL.of bu⟩,_,rfl,dl,xs,rkH HE,rfl,d0,ct.len_le (by lia),oM ct (λp I=>((dS p I).1).st ok),λq v hq pm so=>?_⟩;obtain⟨cs,js,rfl,kj,pj,sj⟩:=mV ct (λp I=>((dS p I).1).st ok) pm so;have s3:=zD hq (.lst (cs.map V.ref));have fR:=s3 _ _ bu;refine⟨J,_,_,rfl,rfl,fR,by rw[Jc,JE];lia,?_⟩;have lq:q≠J:=λz=>by rw[z,bu]at hq;cases hq
 have q4:∀ {b:JI}{u:HO},HE b=some u->b≠J->L2.upd (L2.upd HE q (.lst (cs.map V.ref))) J (.lst (as.map V.ref++[.ref q])) b=some u:=λh ne=>by rw[zG ne];exact s3 _ _ h
 have t4:Tups HE (L2.upd (L2.upd HE q (.lst (cs.map V.ref))) J (.lst (as.map V.ref++[.ref q]))):=λb ws h=>q4 h (yD h bu λz=>by cases z);have fA:L2.upd (L2.upd HE q (.lst (cs.map V.ref))) J (.lst (as.map V.ref++[.ref q])) q=some (.lst (cs.map V.ref)):=by rw[zG lq];exact zB
 have fL:L2.upd (L2.upd HE q (.lst (cs.map V.ref))) J (.lst (as.map V.ref++[.ref q])) J=some (.lst ((as++[q]).map V.ref)):=by rw[JG];exact zB
 have U:=q4 d0 (yD d0 bu λz=>by cases z);have bo:=q4 d8 (yD d8 bu λz=>by cases z);have s4:Same H (L2.upd (L2.upd HE q (.lst (cs.map V.ref))) J (.lst (as.map V.ref++[.ref q]))):=λb u h=>q4 (uE b u h) (zE h g5);have gd:RowsK (L2.upd (L2.upd HE q (.lst (cs.map V.ref))) J (.lst (as.map V.ref++[.ref q]))) (as++[q]) (bc++[js]):=Ze (rkE.keep t4 λa ha ws h=>q4 h λz=>e3 (z ▸ ha)) ⟨cs,fA,kj.tups t4⟩;have gi:Paired LvRow (bc++[js]) (ls++[level]):=Ze eN ⟨pj,sj⟩
 have eo:J∉as++[q]:=λz=>by
  rcases Jr.mp z with y|y
  ·exact e3 y
  ·exact lq (Ja.mp y).symm
 have cx:=ct.tups t4;have fa:=e8.tups t4;refine hj _ _ ?_;show wC _ _ _ _ (L2.upd (L2.upd HE q (.lst (cs.map V.ref))) J (.lst (as.map V.ref++[.ref q])));generalize L2.upd (L2.upd HE q (.lst (cs.map V.ref))) J (.lst (as.map V.ref++[.ref q]))=H4 at *;clear q4 t4 fA fR s3 d0 ct d8 e8 bu rkE uE hq pm so kj pj sj;refine zi (λDx hs=>?_);refine λo ho=>⟨by show 0<=sizeLine;decide,λl hl=>⟨_,_,rfl,?_⟩⟩;replace ho:H4 o=none:=ho;replace hl:L2.upd H4 o (DN P w o []) l=none:=hl;have s5:=zD ho (DN P w o []);have s6:=zD hl (.lst []);have u6:=s5.trans s6;have ol:o≠l:=λz=>by rw[<- z,zB]at hl;cases hl
 have fS:H4 l=none:=by rwa [zG ol.symm]at hl
 have el:dl≠o:=zE U ho;have en:dl≠l:=zE U fS;have f6:n≠o:=zE bo ho;have f3:L2.upd (L2.upd H4 o (DN P w o [])) l (.lst []) o=some (DN P w o []):=by rw[zG ol];exact zB
 have f5:L2.upd (L2.upd H4 o (DN P w o [])) l (.lst []) l=some (.lst []):=zB;refine hs _ _ ?_;refine zi (λDw hu=>?_);refine⟨_,rfl,dl,xs,rfl,u6 _ _ U,λob=>?_⟩
 let D:Nat->LAcc:=λi=>(level.take i).foldl (laS N ((seen++level).map (·.1)) moves) ⟨[],[]⟩
 have ll:xs.length=level.length:=cx.len;refine iY (P:=P) (w:=w) (d:=dl) (o:=ob) (xs:=xs) (λi σ H6=>(∃ v8 v9 v10 v11 T S R,σ=[some (.ref r),some (.ref sm),some (.int (most:Nat)),some (.ref dl),some (.ref n),some (.ref J),some (.ref o),some (.ref l),v8,v9,v10,v11,T,S,R])/\But dl H4 H6/\H6 dl=some (.frz ob (DN P w dl xs))/\∃ v fs,H6 o=some (DN P w o v)/\LvE H6 v (D i).on/\H6 l=some (.lst (fs.map V.ref))/\RowsAt H6 fs (D i).fl/\AccL N N.lanes (i*moves.length) (D i)) ?_ (λi σ H6 z=>z.2.2.1) ?_ ?_
 ·refine⟨⟨_,_,_,_,_,_,_,rfl⟩,λb u h ne=>?_,zB,[],[],?_,LvE.nil,?_,.nil,⟨λp I=>(nomatch I),λp I=>(nomatch I),Jz _,Jz _⟩⟩
  ·rw[zG ne];exact u6 b u h
  ·rw[zG el.symm];exact f3
  ·rw[zG en.symm];exact f5
 ·rintro i p σ H6 I ⟨⟨v8,v9,v10,v11,T,S,R,rfl⟩,bt,cP,v,fs,dV,cn,dW,rws,c2⟩
  have tb:∀ {H7:Hp},But dl H4 H7->Tups H4 H7:=λB c ws h=>B c _ h λz=>by
   rw[z,U]at h;cases h
  have il:i<level.length:=by rw[<- ll];exact(J9.mp I).1
  obtain⟨c,ca,ep,kb,hD,hc⟩:=cx.at_ I;have pin:(p.1,c)∈level:=JF ep;obtain⟨d6,cl⟩:=dS _ pin;replace cl:c.length=N.lanes:=cl
  have vx:yg xs p.1=some (.ref ca):=by
   rcases pA cx.pr p.1 with ⟨_,z⟩|⟨_,_,z,_,_⟩
   ·rw[xS nd pin]at z;cases z
   ·have hn:(xs.map (·.1)).Nodup:=by rw[vU cx.pr];exact nd
    rw[<- hD];exact lh hn (JF I)
  obtain⟨ts,rest,cc,tl,bits,rl⟩:=d6;have d6:OkP N p.1:=⟨ts,rest,cc,tl,bits,rl⟩;rw[cc]at kb;obtain⟨t0,eg,fy⟩:=we kb;replace eg:H4 p.2.1=some (.tup [.ref t0,.int (rest:Nat)]):=eg;refine⟨p.2.1,_,rfl,SqT.of (tb bt _ _ eg),rfl,_,_,rfl,_,_,rfl,rfl,?_⟩;have dn:=s4 _ _ hb;refine⟨_,rfl,sm,rfl,⟨_,SqT.of (tb bt _ _ dn)⟩,?_⟩
  have gP:D (i+1)=laS N ((seen++level).map (·.1)) moves (D i) (p.1,c):=by
   show List.foldl _ _ (level.take (i+1))=_;rw[<- Y0 il,Zq,show level[i]=(p.1,c) from (J9.mp ep).2];rfl
  generalize hA:D i=a0 at *
  let C:Nat->LAcc:=λj=>(moves.take j).foldl (la1 N ((seen++level).map (·.1)) p.1 c) a0
  have fin:C moves.length=D (i+1):=by rw[gP];show List.foldl _ _ (moves.take moves.length)=_;rw[Y9];rfl
  have eS:(zW moves).length=moves.length:=Jc _;refine pI (K:=K) (a:=sm) (xs:=zW moves) (λj σ H7=>(∃ v10 v11 T S R,σ=[some (.ref r),some (.ref sm),some (.int (most:Nat)),some (.ref dl),some (.ref n),some (.ref J),some (.ref o),some (.ref l),some (.ref t0),some (.int (rest:Nat)),v10,v11,T,S,R])/\But dl H4 H7/\H7 dl=some (.frz ob (DN P w dl xs))/\∃ v fs,H7 o=some (DN P w o v)/\LvE H7 v (C j).on/\H7 l=some (.lst (fs.map V.ref))/\RowsAt H7 fs (C j).fl/\AccL N N.lanes (i*moves.length+j) (C j)) ?_ (λj σ H7 _ z=>SqT.of (tb z.2.1 _ _ dn)) ?_ ?_
  ·exact⟨⟨_,_,_,_,_,rfl⟩,bt,cP,v,fs,dV,cn,dW,rws,c2⟩
  ·rintro j x σ H7 hx ⟨⟨v10,v11,T,S,R,rfl⟩,cf,c1,Z,cb,bl,a8,bB,a3,M⟩
   rw[zW,JV]at hx;obtain⟨lane,ej,rfl⟩:=JX.mp hx;have jl:j<moves.length:=(J9.mp ej).1;have lt:=mlt lane (JF ej)
   have cm:C (j+1)=la1 N ((seen++level).map (·.1)) p.1 c (C j) lane:=by
    show List.foldl _ _ (moves.take (j+1))=_;rw[<- Y0 jl,Zq,show moves[j]=lane from (J9.mp ej).2];rfl
   have b5:=M.go ok (ks:=(seen++level).map (·.1)) (s:=p.1) (k:=lane) d6 cl;rw[<- cm]at b5
   have hK:i*moves.length+j<=160000:=by
    have h1:(i+1)*moves.length<=level.length*moves.length:=Nat.mul_le_mul_right _ il;have h2:level.length*moves.length<=10000*16:=Wh (by lia) ml;rw[W7,Nat.one_mul]at h1;lia
   have hG:=M.onl;have hJ:=M.fll;generalize hB:C j=a1 at *;have t7:=tb cf;refine jF (λD0 fX=>?_);refine zi (λDa hz=>?_);refine⟨_,rfl,_,rfl,_,rfl,r,fr,er,ps,N,t0,ts,lane,rfl,ok,(na.tups (Tups.of s4)).tups t7,t7 _ _ fy,tl,bits,lt,λp1 tr H8 s8 fB fv=>?_⟩;refine⟨p1,_,rfl,SqT.of fB,rfl,_,_,rfl,_,_,rfl,rfl,hz _ _ ?_⟩;refine zi (λDb hy=>?_);have f9:=cf.trans (But.of (l:=dl) s8);refine⟨_,rfl,_,rfl,_,_,rfl,rfl,_,rfl,r,_,_,_,rfl,rfl,SqT.of (tb f9 _ _ (s4 _ _ na.net)),rfl,_,_,rfl,rfl,by lia,by show 2<=sizeLine;decide,λT2 fW=>?_⟩;have s9:=zD fW (.tup [.ref tr,.int (((rest:Nat)+1)%(N.lanes:Nat))]);have c8:=cR (N:=N) (ts:=ts) (r:=rest) (lane:=lane) (t:=tr) (zB (H:=H8) (a:=T2) (o:=.tup [.ref tr,.int (((rest:Nat)+1)%(N.lanes:Nat))])) (s9 _ _ fv);refine hy _ _ ?_;refine zi (λDc hv=>?_);refine⟨_,rfl,_,rfl,_,rfl,by show 2<=sizeLine;decide,λT3 fV=>?_⟩;have O:=zD fV (.tup [.ref t0,.int (rest:Nat)]);have a6:=(s8.trans s9).trans O;have b4:=cf.trans (But.of (l:=dl) a6);have tt:=tb b4;have ba:=c8.tups (Tups.of O)
   have kx:NKey (L2.upd (L2.upd H8 T2 (.tup [.ref tr,.int (((rest:Nat)+1)%(N.lanes:Nat))])) T3 (.tup [.ref t0,.int (rest:Nat)])) p.1 T3:=by
    rw[cc];exact uW (is:=[((rest:Nat):Int)]) zB (tt _ _ fy)
   refine⟨dl,T3,xs,p.1,_,rfl,rfl,⟨.inr ⟨ob,a6 _ _ c1⟩,cx.ks.tups tt⟩,kx,vx,?_⟩;have dB:=a6 _ _ c1;have dd:=a6 _ _ bl;have c7:=a8.keep a6;have dt:=a6 _ _ bB;have c4:=a3.tups (Tups.of a6);have et:=tt _ _ hc;show li _ _ _ (L2.upd (L2.upd H8 T2 (.tup [.ref tr,.int (((rest:Nat)+1)%(N.lanes:Nat))])) T3 (.tup [.ref t0,.int (rest:Nat)])) _;generalize L2.upd (L2.upd H8 T2 (.tup [.ref tr,.int (((rest:Nat)+1)%(N.lanes:Nat))])) T3 (.tup [.ref t0,.int (rest:Nat)])=HC at *;clear a6 O s9 c8 s8 f9 fW fV fB fv kx cf c1 bl a8 bB a3 t7 tt;refine⟨_,rfl,ca,c,lane,rfl,et,by simp_all,by lia,λq ck a7 b3=>?_⟩;have dC:=b4.trans (But.of (l:=dl) a7);have c9:=a7 _ _ dd;have c6:=c7.keep a7;have a5:=a7 _ _ dt;have b2:=c4.tups (Tups.of a7);have dA:=a7 _ _ dB;have dD:=ba.tups (Tups.of a7);clear b4 dd c7 dt c4 dB ba a7;refine hv _ _ ?_;refine zi (λD1 hC=>?_);have ey:(zp c lane).length=N.lanes:=by rw[xk];exact cl
   have tail:∀ L ax,But dl H4 L->L dl=some (.frz ob (DN P w dl xs))->L o=some (DN P w o Z)->LvE L Z a1.on->L l=some (.lst (ax.map V.ref))->RowsAt L ax (C (j+1)).fl->NKey L (y8 N p.1 lane) T2->L q=some (.tup ((zp c lane).map V.int))->D1.nx [some (.ref r),some (.ref sm),some (.int (most:Nat)),some (.ref dl),some (.ref n),some (.ref J),some (.ref o),some (.ref l),some (.ref t0),some (.int (rest:Nat)),some (.int (lane:Nat)),some (.ref tr),some (.int ((passE N ts lane:Nat):Int)),some (.ref T2),some (.ref q)] L:=by
    intro L ax d1 dx ao X dr c3 ab dp;refine hC _ _ ?_;have es:L n=some (DN P w n ys):=d1 _ _ bo hE.symm;refine⟨_,rfl,_,rfl,n,T2,ys,_,rfl,rfl,⟨.inl es,fa.tups (tb d1)⟩,ab,_,rfl,?_⟩;rw[bM,ek]
    cases hk:lN ((seen++level).map (·.1)) (y8 N p.1 lane) with
    | true =>
     refine zz ?_;have e1:(C (j+1)).on=a1.on:=by rw[cm];exact Jm hk
     exact fX _ _ ⟨⟨_,_,_,_,_,rfl⟩,d1,dx,Z,ax,ao,e1 ▸ X,dr,c3,b5⟩
    | false =>
     refine yV ?_
     have e1:(C (j+1)).on=xW a1.on (y8 N p.1 lane) (yn ((zU a1.on (y8 N p.1 lane)).getD (zp c lane)) (zp c lane)):=by
      rw[cm];exact Je (by rw[hk];decide)
     refine⟨_,rfl,o,rfl,⟨_,.inl ao⟩,_,rfl,_,rfl,T2,Z,_,rfl,⟨.inl ao,X.ks⟩,ab,?_⟩
     have le2:∃ g sr,(yg Z (y8 N p.1 lane)).getD (.ref q)=.ref g/\(zU a1.on (y8 N p.1 lane)).getD (zp c lane)=sr/\L g=some (.tup (sr.map V.int))/\sr.length=N.lanes:=by
      rcases pA X.pr (y8 N p.1 lane) with ⟨y1,y2⟩|⟨g,sr,y1,y2,y3⟩
      ·exact⟨q,zp c lane,by rw[y1];rfl,by rw[y2];rfl,dp,ey⟩
      ·exact⟨g,sr,by rw[y1];rfl,by rw[y2];rfl,y3,(M.on _ (yp y2)).2⟩
     obtain⟨g,sr,g1,g2,g3,g4⟩:=le2;obtain⟨lx,h,p1,p2⟩:=nD g3 dp g4 ey;rw[g1];refine⟨_,rfl,_,_,1,vX L,rfl,by decide,lx,?_⟩;rw[p1];refine⟨_,rfl,_,rfl,o,T2,Z,_,rfl,rfl,ao,X.ks,ab,by rw[X.len,JE];grind,?_⟩;have tq:Tups L (L2.upd L o (DN P w o (yu Z (y8 N p.1 lane) T2 (.ref h)))):=λb ws z=>by rw[zG (yD z ao λy=>by cases y)];exact z
     refine fX _ _ ⟨⟨_,_,_,_,_,rfl⟩,λb u z ne=>?_,?_,_,ax,zB,?_,?_,c3.tups tq,b5⟩
     ·rw[zG (zE z ho)];exact d1 b u z ne
     ·rw[zG el];exact dx
     ·rw[e1,g2];exact(X.put ab p2).tups tq
     ·rw[zG ol.symm];exact dr
   refine⟨_,rfl,_,rfl,rfl,_,rfl,?_⟩;show if (!decide (V.int ((passE N ts lane:Nat):Int)=V.int (rest:Nat)))=true then _ else _;have aT:NKey ck (y8 N p.1 lane) T2:=by rw[cc];exact dD
   by_cases z:passE N ts lane=rest
   ·rw[Jt (by rw[z])]
    have e2:(C (j+1)).fl=a1.fl:=by
     rw[cm];exact Je (by rw[cc,uM];exact λy=>y z)
    exact zz (tail ck cb dC dA c9 c6 a5 (e2 ▸ b2) aT b3)
   ·rw[Jj (λy=>z (by injection y with y;lia))]
    have e2:(C (j+1)).fl=a1.fl++[zp c lane]:=by
     rw[cm];exact Jm (by rw[cc,uM];exact z)
    refine yV ?_;refine⟨_,rfl,.inl ⟨rfl,_,SqL.of a5⟩,_,rfl,l,_,_,rfl,rfl,a5,by rw[Jc,JU b2,JE];lia,?_⟩;have lq:∀ {b:JI}{u:HO},ck b=some u->b≠l->L2.upd ck l (.lst (cb.map V.ref++[.ref q])) b=some u:=λh ne=>by rw[zG ne];exact h
    have tq:Tups ck (L2.upd ck l (.lst (cb.map V.ref++[.ref q]))):=λb ws h=>lq h (yD h a5 λy=>by cases y);refine tail _ (cb++[q]) (λb u h ne=>lq (dC b u h ne) (zE h fS)) (lq dA en) (lq c9 ol) (c6.tups tq) ?_ ?_ (aT.tups tq) (tq _ _ b3)
    ·rw[JG];exact zB
    ·rw[e2];exact Ze (b2.tups tq) (tq _ _ b3)
  ·rintro σ H7 ⟨⟨v10,v11,T,S,R,rfl⟩,cf,c1,Z,cb,bl,a8,bB,a3,M⟩
   have eu:C (zW moves).length=D (i+1):=by rw[eS];exact fin
   rw[eu]at a8 a3 M;refine⟨⟨_,_,_,_,_,_,_,rfl⟩,cf,c1,Z,cb,bl,a8,bB,a3,?_⟩;rw[eS]at M;rw[W7,Nat.one_mul];exact M
 ·rintro σ H6 ⟨⟨v8,v9,v10,v11,T,S,R,rfl⟩,bt,cP,v,fs,dV,cn,dW,rws,c2⟩
  have e1:D xs.length=laL N ((seen++level).map (·.1)) moves level:=by show List.foldl _ _ (level.take xs.length)=_;rw[ll,Y9];rfl
  rw[e1]at cn rws c2
  clear_value D
  clear e1 D;refine⟨dl,ob,xs,xs,u6 _ _ U,cP,hu _ _ ?_⟩
  have sT:Same H4 (L2.upd H6 dl (DN P w dl xs)):=λb u h=>by
   by_cases z:b=dl
   ·rw[z]at h ⊢;rw[U]at h;rw[<- h];exact zB
   ·rw[zG z];exact bt b u h z
  have tz:Tups H6 (L2.upd H6 dl (DN P w dl xs)):=λb ws h=>by rw[zG (yD h cP λz=>by cases z)];exact h
  have bl:L2.upd H6 dl (DN P w dl xs) o=some (DN P w o v):=by rw[zG el.symm];exact dV
  have bB:L2.upd H6 dl (DN P w dl xs) l=some (.lst (fs.map V.ref)):=by rw[zG en.symm];exact dW
  have a8:=cn.tups tz;have a3:=rws.tups tz;show wC _ _ _ _ (L2.upd H6 dl (DN P w dl xs));generalize L2.upd H6 dl (DN P w dl xs)=H7 at *;clear tz cn rws dW dV cP bt u6 f5 f3 s5 s6 hl H6;have dT:=za9 (N:=N) (seen:=seen++level) moves level;have ei:=JU a3;refine⟨_,rfl,by show 0<=sizeLine;decide,λe he=>?_⟩;have s8:=zD he (.lst []);have u8:=sT.trans s8;have eb:=s8 _ _ bB;have cH:=s8 _ _ bl;have b6:=a8.keep s8;have d4:=a3.tups (Tups.of s8);refine⟨l,e,_,rfl,rfl,SqL.of eb,SqL.of zB,_,rfl,?_⟩;by_cases fe:(laL N ((seen++level).map (·.1)) moves level).fl=[]
  ·have f0:fs=[]:=by rw[fe]at ei;exact Zd.mp ei
   rw[f0];refine zz ?_;have fN:(yL (yC N) (seen++level) moves level).fl=[]:=dT.1 ▸ fe;have on:=dT.2 fe;have nw:=vT (step:=yC N) (seen:=seen++level) (moves:=moves) (Ok:=OkP N) level λp I m hm t h=>xP ok (dS p I).1 h;have fw:=ow (yC N) (seen++level) moves level;have f2:level.length*moves.length<=level.length*16:=Nat.mul_le_mul_left _ ml;rw[on]at b6;have gs:∀ p∈(yL (yC N) (seen++level) moves level).on,p.2.length=N.lanes:=λp I=>(c2.on p (on ▸ I)).2;show wC _ _ _ _ (L2.upd H7 e (.lst []));have d9:=u8 _ _ bo;have g6:=fa.tups (Tups.of u8);have o8:H4 o=none:=ho;generalize L2.upd H7 e (.lst [])=H8 at *;clear s8 eb d4 he bB bl a8 a3 sT;refine⟨_,rfl,n,rfl,⟨_,.inl d9⟩,_,rfl,o,v,rfl,cH,λdR l2 a4=>?_⟩;have b8:But o H8 (L2.upd H8 o (.frz dR (DN P w o v))):=λb u h ne=>by rw[zG ne];exact h
   have sl:=zD a4 (.lst []);have zl:v.length=(yL (yC N) (seen++level) moves level).on.length:=b6.len;have tz:∀ {Y:Hp},But o H8 Y->Tups H8 Y:=λB b ws h=>B b _ h λz=>by rw[z,cH]at h;cases h
   have e4:H8 l2=none:=by
    have ne:l2≠o:=λz=>by rw[z,zB]at a4;cases a4
    rwa [zG ne]at a4
   refine zba (P:=P) (w:=w) (d:=o) (o:=dR) (xs:=v) (λi acc σ Y=>(∃ v0,σ=[v0])/\But o H8 Y/\Y l2=some (.lst acc)/\Y o=some (.frz dR (DN P w o v))/\Paired (PrH Y) acc (yb (v.take i))) ⟨⟨_,rfl⟩,b8.trans (But.of sl),zB,sl _ _ zB,.nil⟩ (λi acc σ Y z=>⟨z.2.2.1,z.2.2.2.1⟩) ?_ ?_
   ·rintro i acc σ Y p I ⟨⟨v0,rfl⟩,b9,h9,bS,pr⟩
    have il:i<v.length:=(J9.mp I).1;have tk:v.take (i+1)=v.take i++[p]:=by rw[Z5 il,(J9.mp I).2]
    have al:=JU pr;have hO:(yb (v.take i)).length<=i:=by unfold yb;rw[Jc,JC];lia
    refine⟨_,rfl,by show 2<=sizeLine;decide,λt ht=>?_⟩;have O:=zD ht (.tup [.ref p.2.1,.bl true]);have eh:=O _ _ h9;refine⟨eh,by rw[JE];lia,nx il ⟨⟨_,rfl⟩,λb u h ne=>?_,zB,?_,?_⟩⟩
    ·rw[zG (zE h e4)];exact O _ _ (b9 b u h ne)
    ·rw[zG (yD (O _ _ bS) eh λz=>by cases z)];exact O _ _ bS
    ·have dG:Tups _ (L2.upd (L2.upd Y t (.tup [.ref p.2.1,.bl true])) l2 (.lst (acc++[.ref t]))):=Tups.lst eh
     have kz:NKey H8 p.1 p.2.1:=b6.ks p (JF I);rw[tk];unfold yb;rw[JG];refine Ze (yw (λx y ⟨a,h1,h2,h3⟩=>⟨a,h1,dG _ _ (O _ _ h2),(h3.tups (Tups.of O)).tups dG⟩) pr) ⟨t,rfl,dG _ _ zB,((kz.tups (tz b9)).tups (Tups.of O)).tups dG⟩
   ·rintro acc σ Y ⟨⟨v0,rfl⟩,b9,h9,bS,pr⟩
    rw[Y9]at pr;refine⟨o,dR,v,v,cH,bS,?_⟩
    have sB:Same H8 (L2.upd Y o (DN P w o v)):=λb u h=>by
     by_cases z:b=o
     ·rw[z]at h ⊢;rw[cH]at h;rw[<- h];exact zB
     ·rw[zG z];exact b9 b u h z
    have tB:Tups Y (L2.upd Y o (DN P w o v)):=λb ws h=>by rw[zG (yD h bS λz=>by cases z)];exact h
    have hg:L2.upd Y o (DN P w o v) l2=some (.lst acc):=by rw[zG (yD h9 bS λz=>by cases z)];exact h9
    have gg:Paired (PrH (L2.upd Y o (DN P w o v))) acc (yb v):=yw (λx y ⟨a,h1,h2,h3⟩=>⟨a,h1,tB _ _ h2,h3.tups tB⟩) pr;show gJ _ (L2.upd Y o (DN P w o v)) _;generalize L2.upd Y o (DN P w o v)=HB at *;clear tB b9 h9 bS pr Y b8 sl e4 a4 tz;refine⟨l2,acc,yb v,rfl,hg,gg,λdq dX=>?_⟩;replace dX:HB dq=none:=dX;have zk:(yb v).map (·.1)=((yL (yC N) (seen++level) moves level).on).map (·.1):=by rw[mC,vU b6.pr]
    have ew:((yb v).map (·.1)).Nodup:=by rw[zk];exact nw.nd
    have m0:yz [] (yb v)=yb v:=vt ew λk hk z=>(nomatch z)
    have m1:yz ys (yb v)=ys++yb v:=vt ew λk1 hk z=>by
     rw[zk]at hk;obtain⟨p,I,rfl⟩:=Jw.mp hk;rw[ek]at z;have:=xB.mpr z;rw[nw.new p I]at this;cases this
    rw[m0];have sC:=zD dX (DN P w dq (yb v));have uC:=sB.trans sC;have fD:=uC _ _ d9;have e9:=g6.tups (Tups.of uC);have e5:=gB (b6.ks.tups (Tups.of uC));have tl:(yb v).length=v.length:=Jc _;have gV:n≠dq:=zE (sB _ _ d9) dX;refine⟨dq,ys,yb v,rfl,gV,fD,e9,⟨.inl zB,e5⟩,by rw[JE];lia,.inl (λz=>by rw[z]at yl;simp at yl;simp_all),?_⟩;rw[m1];have g7:=uC _ _ cH;have g0:=b6.keep uC;have d2:Tups (L2.upd HB dq (DN P w dq (yb v))) (L2.upd (L2.upd HB dq (DN P w dq (yb v))) n (DN P w n (ys++yb v))):=λb ws h=>by rw[zG (yD h fD λz=>by cases z)];exact h
    have dK:∀ {b:JI}{u:HO},H4 b=some u->b≠n->L2.upd (L2.upd HB dq (DN P w dq (yb v))) n (DN P w n (ys++yb v)) b=some u:=λh ne=>by rw[zG ne];exact uC _ _ (u8 _ _ h)
    refine⟨_,rfl,?_⟩;refine⟨o,v,ys++yb v,_,seen++level,as++[q],bc++[js],ls++[level],_,_,_,_,_,_,_,_,_,rfl,λb u h=>dK (s4 b u h) (zE h dH),?_,g0.tups d2,zB,?_,?_,f6.symm,?_,?_,gi,eo,?_,nw.nd,nw.new,λp I=>⟨nw.ok p I,gs p I⟩,by rw[Jb];simp_all,?_,by lia,by rw[Jb];lia,by rw[ec,wP le mo fN]⟩
    ·show L2.upd _ n (DN P w n (ys++yb v)) o=_
     rw[zG f6.symm];exact g7
    ·exact λx hx=>by
      rcases Jr.mp hx with z|z
      ·exact(e9 x z).tups d2
      ·exact(e5 x z).tups d2
    ·rw[JG,ek,zk];exact JG.symm
    ·exact dK fL (yD fL bo λz=>by cases z)
    ·exact gd.keep (λb ws h=>dK h (yD h bo λz=>by cases z)) λa _ ws h=>dK h (yD h bo λz=>by cases z)
    ·rw[Jb,Jb];show as.length+1<=_;lia
    ·rw[Jb];lia
  ·have fp:0<(fs.map V.ref).length:=by
    rw[Jc,ei];exact ZC.mpr fe
   rw[show (!(fs.map V.ref).isEmpty)=true by
    cases fs with
    | nil=>exact absurd fp (by simp)
    | cons a b=>rfl]
   refine yV ?_;obtain⟨g,g1,g2⟩:=nr d4 fe;refine⟨_,rfl,_,rfl,_,rfl,l,_,1,vX _,rfl,SqL.of eb,fp,by decide,qh d4 c2.fl,?_⟩;rw[g1];refine⟨by show 3<=sizeLine;decide,λp I=>?_⟩;have s9:=zD I (.tup [.ref J,.ref n,.ref g]);refine k p _ ((s4.trans u8).trans s9) ?_;rw[ec,xx le mo (dT.1 ▸ fe),<- dT.1];exact⟨J,n,ys,g,zB,s9 _ _ (u8 _ _ bo),by simp_all,s9 _ _ g2⟩
noncomputable abbrev aM:Stmt:=top 39
noncomputable def gM:Sp:=λc H Q _=>∃ r fr e d N b,∃ (moves:List Nat) (most:Nat),c=[.ref r,.ref b,.int (most:Nat)]/\Nt.Ok N/\NetAt H r fr e d N/\H b=some (.tup (zW moves))/\(∀ m∈moves,m<N.lanes)/\moves.length<=16/\0<most/\most<=10000 /\
 ∀ p a,Same H a->TellV a p (yS N moves most)->Q (.ref p) a
theorem gb:∀ {b:List (List KN)}{ls:List LvL},Paired LvRow b ls->(b.map List.length).sum=(ls.map List.length).sum:=by
 intro b ls h
 induction h with
 | nil=>rfl
 | cons a _ ih=>rw[JR,JR,List.sum_cons,List.sum_cons,ih,a.1.length_eq,Jc]
theorem ph:∀ (ls:List (List KN)) (i:Nat),((ls.take i).map List.length).sum<=(ls.map List.length).sum
 | [],i=>by rw[List.take_nil];exact Jd _
 | x::xs,0=>Jz _
 | x::xs,i+1=>by
  rw[Za,JR,JR,List.sum_cons,List.sum_cons];exact Nat.add_le_add_left (ph xs i) _
theorem jX:FnScope ["_law_net","_law_some","_law_most","_law_rows","_law_met","_law_bad","_law_book","_law_row"] ["_law_net","_law_some","_law_most"] (zN aM):=by rfl'
theorem aq {f fL:JI}{fd dL:Yl}(F:Fun K "_law_verdict" "_law_verdict" aM f fd) (G:Mgs mg) (U:Use P w K mg base "_law_levels" ["_law_net","_law_some","_law_most"] 2 (gQ P w) fL dL):FnOk P w K mg base CX0 3 f fd ["_law_net","_law_some","_law_most"] gM:=by
 refine F.ok jX (λvs H Q E h=>?_) (λaT A outer s H vs Q E hr h=>?_)
 ·obtain⟨r,fr,er,ps,N,X,moves,most,rfl,_⟩:=h
  rfl
 obtain⟨r,fr,er,ps,N,X,moves,most,rfl,ok,na,ab,mlt,ml,mp,mb,k⟩:=h;refine⟨_,(@zH _ _ _ _ _ (@yT _ _ _ _ _ _ (@zQ _ _ _ _ _ _ _ _ _ _ _ _ _ _ _ _ U.ok hr (by rfl) U.m U.kp U.b .nil zY (@zA _ _ _ _ _ (@qv _ 0 _ _ (by rfl')) (@zA _ _ _ _ _ (@qv _ 1 _ _ (by rfl')) (@zA _ _ _ _ _ (@qv _ 2 _ _ (by rfl')) zC (by rfl)) (by rfl)) (by rfl)) (by decide) (by rfl) (by rfl)) (@yQ _ _ _ _ _ _ rfl (@zP _ _ _ _ _ (@zM _ _ 3 _ jX.nd rfl (.inl rfl) (by rfl')) (@zP _ _ _ _ _ (@zM _ _ 4 _ jX.nd rfl (.inl rfl) (by rfl')) (@zP _ _ _ _ _ (@zM _ _ 5 _ jX.nd rfl (.inl rfl) (by rfl')) yA (by rfl)) (by rfl)) (by rfl)) (by rfl) (by rfl)) (by rfl) (by rfl) (by rfl)) (@zH _ _ _ _ _ (@yY _ _ _ _ _ _ _ _ (@zo _ _ _ _ _ _ _ _ kG (@zR _ _ _ _ _ _ _ _ _ wa (by rfl) G.len Y1 (@zA _ _ _ _ _ (@qv _ 4 _ _ (by rfl')) zC (by rfl)) (by decide) (by decide) (by rfl) (by rfl)) (@qv _ 2 _ _ (by rfl')) (yK _)) (@zK _ _ _ (@zS _ _ _ _ (@zX _ _ _ _ _ (@zA _ _ _ _ _ wI (@zA _ _ _ _ _ wJ zC (by rfl)) (by rfl))))) zu) (@zH _ _ _ _ _ (@yY _ _ _ _ _ _ _ _ (@zo _ _ _ _ _ _ _ _ kF (@qv _ 5 _ _ (by rfl')) wJ (by rfl)) (@zK _ _ _ (@zS _ _ _ _ (@zX _ _ _ _ _ (@zA _ _ _ _ _ wI (@zA _ _ _ _ _ (@qv _ 5 _ _ (by rfl')) zC (by rfl)) (by rfl))))) zu) (@zH _ _ _ _ _ (@zZ _ _ 6 _ _ _ _ jX.nd rfl (.inl rfl) (@yJ _ _ _ _ zC) (by rfl) (by rfl')) (@zH _ _ _ _ _ (@y7 _ _ _ _ _ _ _ _ Yb rfl (@ug _ _ _ _ (@qv _ 3 _ _ (by rfl'))) (@zM _ _ 7 _ jX.nd rfl (.inl rfl) (by rfl')) (@zK _ _ _ (@yj _ _ _ _ (@wB _ _ _ _ _ _ _ _ _ _ _ _ Y2 PySem.F.slot_list_extend PySem.F.type_list_extend vq (@qv _ 6 _ _ (by rfl')) (@zA _ _ _ _ _ (@qv _ 7 _ _ (by rfl')) zC (by rfl)) (by rfl) (by rfl) (by rfl) (by rfl) (by rfl)) (by rfl))) (by intro _;rfl)) (@zK _ _ _ (@zS _ _ _ _ (@zX _ _ _ _ _ (@zA _ _ _ _ _ wI (@zA _ _ _ _ _ (@zw _ _ _ _ _ _ _ _ _ yO (by rfl) G.tuple (by rfl) (@zA _ _ _ _ _ (@qv _ 6 _ _ (by rfl')) zC (by rfl)) (by decide) (by decide) (by rfl) (by rfl)) zC (by rfl)) (by rfl)))))))))),?_⟩;refine⟨_,rfl,_,rfl,_,rfl,r,fr,er,ps,N,X,moves,most,rfl,ok,na,ab,mlt,ml,mp,mb,λp H1 Z tell=>?_⟩;have wh:∀ ls,yS N moves most=.whl ls->Whole (OkP N) most ls:=λls e=>xb (Ok:=OkP N) (λs m t h _ e=>xP ok h e) (most+1) _ [] [] ls ⟨λlv hl=>(nomatch hl),Jz _⟩ rfl (Jz _) (λp l=>by rw[Ja.mp l];exact xn ok) e
 cases ev:yS N moves most with
 | opn =>
  rw[ev]at tell k;obtain⟨D,o,y,v,l,L,lt⟩:=tell;refine⟨p,_,rfl,SqT.of l,rfl,_,_,rfl,_,_,rfl,_,_,rfl,rfl,?_⟩;refine⟨_,rfl,o,y,rfl,.inl L,_,rfl,_,_,rfl,rfl,_,rfl,?_⟩;rw[Jt (p:=_) (by simp_all)];refine yV ⟨by show 2<=sizeLine;decide,λq J=>?_⟩
  exact k q _ (Z.trans (zD J _)) zB
 | brk c =>
  rw[ev]at tell k;obtain⟨D,o,y,b,l,L,le,n⟩:=tell;refine⟨p,_,rfl,SqT.of l,rfl,_,_,rfl,_,_,rfl,_,_,rfl,rfl,?_⟩;refine⟨_,rfl,o,y,rfl,.inl L,_,rfl,_,_,rfl,rfl,_,rfl,?_⟩;rw[Jj (p:=_) (by simp_all)];refine zz ⟨_,rfl,rfl,_,rfl,yV ⟨_,rfl,by show 2<=sizeLine;decide,λq J=>?_⟩⟩;have C:=zD J (.tup [.str "breaks",.ref b])
  exact k q _ (Z.trans C) ⟨b,zB,C _ _ n⟩
 | whl ls =>
  have ax:=(wh ls ev).few;rw[ev]at tell k;obtain⟨D,o,y,as,g,l,L,le,M,rk,pl⟩:=tell;have kl:=gb pl;refine⟨p,_,rfl,SqT.of l,rfl,_,_,rfl,_,_,rfl,_,_,rfl,rfl,?_⟩;refine⟨_,rfl,o,y,rfl,.inl L,_,rfl,_,_,rfl,rfl,_,rfl,?_⟩;rw[Jj (p:=_) (by simp_all)];refine zz ⟨_,rfl,rfl,_,rfl,zz ?_⟩;refine⟨by show 0<=sizeLine;decide,λI O=>?_⟩;have C:=zD O (.lst []);have al:as.length=g.length:=JU rk;refine⟨_,rfl,D,rfl,⟨_,SqL.of (C _ _ M)⟩,?_⟩;refine nN (K:=K) (a:=D) (xs:=as.map V.ref) (λi σ j=>(∃ W,σ=[some (.ref r),some (.ref X),some (.int (most:Nat)),some (.ref D),some (.ref o),some .non,some (.ref I),W])/\Same H1 j/\∃ bs,j I=some (.lst (bs.map V.ref))/\KeysAt j bs (g.take i).flatten/\bs.length=((g.take i).map List.length).sum) ⟨⟨_,rfl⟩,C,[],zB,.nil,rfl⟩ (λi σ j _ z=>SqL.of (z.2.1 _ _ M)) ?_ ?_
  ·rintro i x σ j hx ⟨⟨W,rfl⟩,B,bs,n,T,bl⟩
   rw[JV]at hx;obtain⟨a,ea,rfl⟩:=JX.mp hx;obtain⟨ks,R,cs,ha,kc⟩:=rW rk ea;have il:i<g.length:=(J9.mp R).1;have tk:g.take (i+1)=g.take i++[ks]:=by rw[<- Y0 il,(J9.mp R).2]
   have cl:cs.length=ks.length:=JU kc;have S:((g.take (i+1)).map List.length).sum=bs.length+cs.length:=by rw[tk,JG,List.sum_append,<- bl,cl];rfl
   have sum2:=ph g (i+1);have ao:=B _ _ ha;refine⟨_,rfl,.inl ⟨rfl,_,SqL.of n⟩,_,rfl,I,a,_,_,rfl,rfl,n,ao,by rw[Jc,Jc,JE];lia,?_⟩;have t3:Tups j (L2.upd j I (.lst (bs.map V.ref++cs.map V.ref))):=Tups.lst n;refine⟨⟨_,rfl⟩,λb u e=>?_,bs++cs,?_,?_,?_⟩
   ·rw[zG (zE e O)];exact B b u e
   ·rw[JG];exact zB
   ·rw[tk,List.flatten_append]
    refine wv (T.tups t3) ?_;show Paired _ cs (ks++[]);rw[JZ];exact(kc.tups (Tups.of B)).tups t3
   ·rw[S,Jb]
  ·rintro σ j ⟨⟨W,rfl⟩,B,bs,n,T,bl⟩
   rw[Jc,al,Y9]at T;refine⟨_,rfl,I,_,rfl,.inl ⟨SqL.of n,λq J=>⟨by show 2<=sizeLine;decide,λd hd=>?_⟩⟩⟩;have s4:=zD J (.tup (bs.map V.ref));have Y:=zD (show L2.upd j q (.tup (bs.map V.ref)) d=none from hd) (.tup [.str "stair",.ref q]);exact k d _ ((Z.trans B).trans (s4.trans Y)) ⟨q,bs,_,zB,Y _ _ zB,T.tups (Tups.of (s4.trans Y)),g,rfl,pl⟩
end
end K38
namespace L2
open PySem PySem.Spec PyProof.Rows Own PySem.W
section
variable {w:YI}{prog:Yo}{s:JO}{A:YO}{T:String}{r d:JI}{E:Jo->JO->Prop}{n:Nat}{P:Nat->Jo->Prop}{OK:YP->Prop}
theorem rA {Q:PySem.Fin->JO->Prop}(K:KdlSrc prog w T r d n P OK) (f:A.handled=none) (hok:OK s.heap) (hn:n<=sizeLine)
  (h:∀ (h':YP) (tk:Nat) (acc:Array Jo),(∀ b o,s.heap.get? b=some o->h'.get? b=some o)->ItemsOf P acc n->Q (.done (.ret (.ref h'.objs.size))) { s with heap:=h'.push { cls:=.type "tuple",data:=.seq acc },toks:=tk }) :
  wpAny (model prog w) A (Builtin.«tuple.__new__» ⟨[.type "tuple",.ref r],[]⟩) Q E s:=by
 have e:isType (.type "tuple")=pure true:=by kernel_rfl
 have c:((Manifest.find? "tuple").elim false λx=>x.noNew)=false:=by kernel_rfl
 have a:checkCount "tuple" 0 1 [Value.ref r].length=pure ():=rfl;unfold Builtin.«tuple.__new__»;simp only[e,c,a,sub_tuple_self,madeHere_tuple,init_tuple_lookup,noKeywords,List.isEmpty_nil,ZV,pure_bind,Z9,Zi,Bool.not_true,Yi];refine J0 ?_;unfold Builtin.Tuple.tupleIsExact;refine J0 (YN (K.type s hok) (J7 ?_));rw[K.notTuple];simp only[Zi,Yi];refine J0 (kdu_collect K f hok hn λh' tk acc keep items=>?_);rw[Array.toArray_toList];refine J0 (JN (J7 (h h' tk acc keep items)) ?_);rw[<- items.1]at hn;exact hn
theorem sY {Q:Jo->JO->Prop}(K:KdlSrc prog w T r d n P OK) (a:A.handled=none) (hok:OK s.heap) (hn:n<=sizeLine)
  (h:∀ (h':YP) (tk:Nat) (acc:Array Jo),(∀ b o,s.heap.get? b=some o->h'.get? b=some o)->ItemsOf P acc n->Q (.ref h'.objs.size) { s with heap:=h'.push { cls:=.type "tuple",data:=.seq acc },toks:=tk }) :
  wpAny (model prog w) A (call (.type "tuple") [.ref r]) Q E s :=
 callType_newIn (S:=λA R s=>A.handled=none/\OK s.heap/\∀ (h':YP) (tk:Nat) (acc:Array Jo),(∀ b o,s.heap.get? b=some o->h'.get? b=some o)->ItemsOf P acc n->R (.ok (.ret (.ref h'.objs.size))) { s with heap:=h'.push { cls:=.type "tuple",data:=.seq acc },toks:=tk }) PySem.F.called_tuple (by decide) (PySem.F.typeCall_tuple_1 _) (PySem.F.newCall_tuple_1 _) (λ_=>rfl) PySem.F.entry_tuple_new (λA R s h=>rA K h.1 h.2.1 hn h.2.2)
  ⟨a,hok,λh' tk acc keep items=>⟨⟨_,Jp _ rfl,rfl⟩,h h' tk acc keep items⟩⟩
end
theorem nh {X:Cx}(m:X.calm=true):CallR X (.type "tuple") (λvs H Q=>∃ a xs,vs=[.ref a]/\H a=some (DN X.prog X.w a xs)/\∀ l,H l=none->Q (.ref l) (upd H l (.tup (xs.map λp=>.ref p.2.1)))):=by
 intro pins s σ H vs C Q I i h;obtain⟨a,xs,rfl,k,q⟩:=h;obtain⟨u,rfl,j⟩:=i.one;cases j;obtain⟨⟨z,n,ws,r,o,x,E,w,v,t,f,D⟩,_,_⟩:=(show ObjOk X.prog X.w H s.heap a (DN X.prog X.w a xs) from I.hok a _ k);have wl:x.size=xs.length:=by rw[YY f,<- JU r]
 refine sY (oA v t n) (I.ok.hd m) w (by rw[wl];exact z) λd c acc keep items=>?_;obtain⟨A,y⟩:=items
 have al:acc.toList=ws.map λq=>Value.ref q.2.1:=by
  rw[nu A y,f,YA];rfl
 have vs:Vals (xs.map λp=>V.ref p.2.1) acc.toList:=by rw[al];exact lY r
 have g:Inv X pins σ H { s with heap:=d,toks:=c }:=I.kept (t':=c) keep
 have B:Inv X pins σ (upd H d.objs.size (.tup (xs.map λp=>.ref p.2.1))) { s with heap:=d.push { cls:=.type "tuple",data:=.seq acc },toks:=c } :=
  g.laid (t':=c) (λb o e=>J6 _ e) (Jd _) (show ObjOk X.prog X.w _ _ _ (.tup _) from⟨by rw[Jc];exact z,acc.toList,vs,TupX.new _ _⟩)
 exact⟨.ref d.objs.size,_,B,rfl,q _ (g.hok.fresh (Jd _))⟩
end L2
namespace Bn
open PySem L2 Own
theorem sO {α:Type}:∀ (xs:List α) (k:Nat) (h:k<xs.length),(xs[k]::xs.eraseIdx k).Perm xs
 | x::xs,0,_=>.refl _
 | x::xs,k+1,h=>by
  have a:k<xs.length:=by simpa using h
  have ih:=sO xs k a;exact(List.Perm.swap x xs[k] _).trans (ih.cons x)
end Bn
namespace L2
open PySem
theorem lM {c:TT}{d b u:TS}{D:Ends}{σ:St}{H:Hp}(I:St->Hp->Prop)(key:∀ σ H,I σ H->u D σ H)(h:∀ a:Ends,(∀ σ H,I σ H->a.nx σ H)->a.rt=D.rt->aG c d b a σ H):wC (aG c d b) u D σ H:=h { D with nx:=u D } key rfl
theorem zbn {v:V}{i:Nat}{u:TS}{D:Ends}{σ:St}{H:Hp}(h:u D (σ.set i (some v)) H):wC (cA (tC v) (qC i)) u D σ H:=h
theorem vS {H H':Hp}{x:JI}(s:Same H H')(h:H' x=none):H x=none:=by
 cases e:H x with
 | none=>rfl
 | some o=>rw[s _ _ e]at h;cases h
noncomputable def bp (K:Jl):List V->Hp->VK->Prop:=λb H Q=>∃ p a,b=[V.ref p]/\(SqL K H p a\/SqT K H p a)/\Q (V.int a.length) H
theorem ir {X:Cx}:CallR X (.builtin "len") (bp X.K):=zT
end L2
namespace Bn
open PySem L2 Own
structure Pk3 (H:Hp) (l:JI):Prop where
 ex:∃ a b c:Int,H l=some (.lst [.int a,.int b,.int c])/\0<=a/\0<=b/\b<2 ^ 31
theorem Pk3.keep {H H':Hp}{l:JI}(S:Pk3 H l)(s:Same H H'):Pk3 H' l:=by
 obtain⟨a,b,c,h,r⟩:=S.ex;exact⟨a,b,c,s _ _ h,r⟩
theorem Pk3.lst {H:Hp}{l:JI}(S:Pk3 H l):∃ xs,H l=some (.lst xs):=by
 obtain⟨a,b,c,h,_⟩:=S.ex;exact⟨_,h⟩
theorem Pk3.ne {H:Hp}{l p:JI}(S:Pk3 H l)(h:H p=none):l≠p:=by
 obtain⟨a,e⟩:=S.lst;exact zE e h
theorem Pk3.upd {H:Hp}{l p:JI}{o:HO}(S:Pk3 H l)(h:l≠p):Pk3 (upd H p o) l:=by
 obtain⟨a,b,c,e,r⟩:=S.ex;exact⟨a,b,c,by rw[zG h];exact e,r⟩
theorem But.tups3 {H H':Hp}{l:JI}(x:But l H H')(S:Pk3 H l):Tups H H':=λa b e=>x a _ e (by
 rintro rfl;obtain⟨_,z⟩:=S.lst
 rw[z]at e;cases e)
noncomputable def qR (K:Jl):Sp:=λc H Q _=>∃ (a:JI) (ns:List Int) (k:Int),c=[.ref a,.int k]/\SqL K H a (ns.map V.int)/\ns.length<=63/\0<=k/\k<=1000/\∀ l b,H l=none->Same H b->Pk3 b l->Q (.ref l) b
noncomputable def uZ:Sp:=λa H Q _=>∃ (l:JI) (m:Int),a=[.ref l,.int m]/\0<m/\m<1073741824/\Pk3 H l/\∀ (v:Nat) H',(v:Int)<m->Pk3 H' l->But l H H'->Q (.int v) H'
end Bn
namespace Bn
open PySem PySem.Spec PyProof.Rows PySem.NumText
noncomputable def txt (n:Int):Str:=Str.ofString (toString n)
noncomputable def nR (m:Nat):List Nat:=(Nat.toDigits 10 m).map Char.toNat
theorem bU (m:Nat):1<=(nR m).length:=by
 unfold nR;rw[Jc];exact toDigits_len_ge 10 m
theorem bT {m k:Nat}(a:1<=k)(h:m<10 ^ k):(nR m).length<=k:=by
 unfold nR;rw[Jc];exact toDigits_len_pow (by decide) a h
theorem dj (m:Nat):(txt (m:Nat)).cps.toList=nR m:=PySem.W.KIN.signs_num m
theorem dk (m:Nat)(h:1<=m):(txt (-(m:Nat))).cps.toList=45::nR m:=by
 obtain⟨k,rfl⟩:∃ k,m=k+1:=⟨m-1,by simp_all⟩;have a:toString (-((k+1:Nat):Int)) = "-"++toString (((k+1:Nat):Int)):=rfl;unfold txt;rw[a];generalize k+1=m
 have:(Str.ofString ("-"++toString ((m:Nat):Int))).cps.toList=(Str.ofString "-").cps.toList++(Str.ofString (toString ((m:Nat):Int))).cps.toList:=by
  rw[signs_ofString,signs_ofString,signs_ofString,String.toList_append,JG]
 rw[this,PySem.W.KIN.signs_num];rfl
open Builtin Builtin.Str
theorem jI (n:Int):(0<=n/\(txt n).cps.toList=nR n.natAbs)\/(n<0/\(txt n).cps.toList=45::nR n.natAbs):=by
 by_cases h:0<=n
 ·obtain⟨m,rfl⟩:=Int.eq_ofNat_of_zero_le h
  exact .inl ⟨h,dj m⟩
 ·obtain⟨m,rfl⟩:∃ m:Nat,n = -(m:Nat):=⟨n.natAbs,by grind⟩
  refine .inr ⟨by lia,?_⟩;rw[dk m (by lia),show (-(m:Nat):Int).natAbs=m by simp_all]
theorem cC (z:Str):z.cps.toList.length=z.length:=by simp[Str.length]
theorem du {n:Int}(h:n.natAbs<10 ^ 30):1<=(txt n).length/\(txt n).length<=31:=by
 have g:=bU n.natAbs;have l:=bT (k:=30) (by decide) h;rw[<- cC];rcases jI n with ⟨_,e⟩|⟨_,e⟩
 ·rw[e];lia
 ·rw[e,JM];simp_all
end Bn
namespace L2
open PySem PySem.Spec PyProof.Rows Own Bn
structure ShB (m:Nat) (d:PyData):Prop where
 sh:d.showable=true
 nd:d.hasDict=false
 le:d.shown.length<=m
theorem ShB.up {m n:Nat}{d:PyData}(h:ShB m d)(l:m<=n):ShB n d:=⟨h.sh,h.nd,JS h.le l⟩
theorem lz {m:Nat}:∀ {ds:List PyData},(∀ e∈ds,ShB m e)->PyData.showableAll ds=true/\PyData.hasDictAll ds=false/\∀ t∈PyData.shownAll ds,t.length<=m
 | [],_=>⟨rfl,rfl,λt b=>by cases b⟩
 | d::ds,h=>by
  have a:=h d JH;obtain⟨i,g,f⟩:=lz (ds:=ds) λe c=>h e (JD _ c);refine⟨?_,?_,λt b=>?_⟩
  ·show (d.showable && PyData.showableAll ds)=true
   rw[a.sh,i];rfl
  ·show (d.hasDict || PyData.hasDictAll ds)=false
   rw[a.nd,g];rfl
  ·change t∈d.shown::PyData.shownAll ds at b
   rcases (Jq.1 b) with rfl|b
   ·exact a.le
   ·exact f t b
theorem vK:∀ ds:List PyData,(PyData.shownAll ds).length=ds.length
 | []=>rfl
 | d::ds=>by show (d.shown::PyData.shownAll ds).length=_;rw[JM,vK ds];rfl
end L2
namespace L2
open PySem PySem.Spec PyProof.Rows Own Bn
section
variable {X:Cx}
theorem sZ (h:X.A.guards=some [])(l:X.A.units+64<cLine):CallR X (.builtin "repr") (λxs H Q=>∃ a d,xs=[.ref a]/\DD H 4 (.ref a) d/\ShB 1000000 d/\Q (.str d.shown) H):=by
 rintro pins s σ H xs i Q I r ⟨a,d,rfl,f,b,q⟩;obtain⟨u,rfl,c⟩:=uK r;have big:d.shown.length<=sizeLine:=by have:=b.le;rw[JE];lia
 obtain⟨as,g⟩:=DD.reads I 4 _ d _ f c;have n:=f.ok.2;obtain rfl:u=Value.ref a:=c;exact repr_of_reads' g b.sh (λz=>by rw[b.nd]at z;cases z) h (by lia) (λ_ _ e=>e) (λm u j k=>⟨.str d.shown,H,I.kept k,⟨_,rfl⟩,q⟩) big
end
theorem ShB.long {m k:Nat}{ds:List PyData}(h:∀ e∈ds,ShB m e)(l:ds.length<=k):ShB (k*(m+2)+3) (.tuple ds):=by
 obtain⟨a,b,c⟩:=lz h;refine⟨a,b,?_⟩;have t:=uL (PyData.shownAll ds);have p:=tQ c;rw[vK]at p;have q:=Nat.mul_le_mul_right (m+2) l;exact JS t (by lia)
structure MgR (mg:Str->Option Jo):Prop where
 repr:mg "repr" = none
end L2
namespace L2
open PySem PySem.Spec PyProof.Rows Own
theorem FnOk.any {P:Yo}{w:YI}{K:Jl}{mg:Str->Option Jo}{base:YP}{CX:CXT}{k:Nat}{f:JI}{fd:Yl}{ps:List Str}{sp:Nat->Sp}(M:Nat)(F:∀ m,m<=M->FnOk P w K mg base CX k f fd ps (sp m)) :
  FnOk P w K mg base CX k f fd ps (λvs H Q E=>∃ m,m<=M/\sp m vs H Q E) :=
 ⟨λvs H Q E ⟨m,a,q⟩=>(F m a).len vs H Q E q,λA outer s H args b vs Q E d e g c ⟨m,a,q⟩=>(F m a).run A outer s H args b vs Q E d e g c q⟩
end L2
namespace Bn
open PySem L2 Own
noncomputable def xO:Nat->List Nat->List Fk × List Nat
 | 0,row=>([],row)
 | m+1,row=>((row.getD 0 0,row.getD (row.length / 2) 0)::((xO m (row.take (row.length / 2))).1++(xO m (row.drop (row.length / 2))).1),yX (xO m (row.take (row.length / 2))).2 (xO m (row.drop (row.length / 2))).2)
noncomputable def mergeN:Nat->List Nat->List Nat->List Fk × List Nat
 | 0,a,b=>(a.zip b,a++b)
 | m+1,a,b=>((mergeN m (by2 0 a) (by2 1 b)).1++(mergeN m (by2 1 a) (by2 0 b)).1++(mergeN m (by2 0 a) (by2 1 b)).2.zip (mergeN m (by2 1 a) (by2 0 b)).2,yX (mergeN m (by2 0 a) (by2 1 b)).2 (mergeN m (by2 1 a) (by2 0 b)).2)
noncomputable def xE:Nat->List Nat->List Fk × List Nat
 | 0,row=>([],row)
 | m+1,row=>((xE m (row.take (row.length / 2))).1++(xE m (row.drop (row.length / 2))).1++(mergeN m (xE m (row.take (row.length / 2))).2 (xE m (row.drop (row.length / 2))).2).1,(mergeN m (xE m (row.take (row.length / 2))).2 (xE m (row.drop (row.length / 2))).2).2)
theorem vB {m n:Nat}(h:n=2 ^ (m+1)):n / 2=2 ^ m/\n-n / 2=2 ^ m/\n / 2<=n:=by
 rw[Zh]at h;lia
theorem wM {m:Nat}{row:List Nat}(h:row.length=2 ^ (m+1)):(row.take (row.length / 2)).length=2 ^ m/\(row.drop (row.length / 2)).length=2 ^ m:=by
 obtain⟨a,b,c⟩:=vB h;rw[JC,Zb];exact⟨by rw[Nat.min_eq_left c];exact a,b⟩
theorem vZ {α:Type}{m:Nat}{a:List α}(h:a.length=2 ^ (m+1)):(by2 0 a).length=2 ^ m/\(by2 1 a).length=2 ^ m:=by
 rw[pP 0 (by decide),pP 1 (by decide),h,Zh];lia
theorem vD:∀ (m:Nat) (row:List Nat),row.length=2 ^ m->(xO m row).2.length=2 ^ m/\(xO m row).1.length+1=2 ^ m
 | 0,row,h=>⟨h,rfl⟩
 | m+1,row,h=>by
  obtain⟨a,b⟩:=wM h;obtain⟨c,f⟩:=vD m _ a;obtain⟨d,e⟩:=vD m _ b;show (yX _ _).length=_/\(_::(_++_)).length+1=_;rw[xN _ _ (c.trans d.symm),JM,Jb,c,Zh];exact⟨by lia,by grind⟩
theorem xK:∀ (m:Nat) (a b:List Nat),a.length=2 ^ m->b.length=2 ^ m->(mergeN m a b).2.length=2 ^ (m+1)/\(mergeN m a b).1.length=(m+1)*2 ^ m
 | 0,a,b,ha,hb=>by
  show (a++b).length=_/\(a.zip b).length=_
  rw[Jb,ZG,ha,hb];exact⟨rfl,rfl⟩
 | m+1,a,b,ha,hb=>by
  obtain⟨j,a1⟩:=vZ ha;obtain⟨i,h⟩:=vZ hb;obtain⟨d,g⟩:=xK m _ _ j h;obtain⟨c,f⟩:=xK m _ _ a1 i;show (yX _ _).length=_/\(_++_++List.zip _ _).length=_;rw[xN _ _ (d.trans c.symm),Jb,Jb,ZG,d,c,g,f,Nat.min_self];have e:(m+1)*2 ^ m+(m+1)*2 ^ m=(m+1)*2 ^ (m+1):=by rw[<- Nat.two_mul,Zh,Nat.mul_left_comm,Nat.mul_comm 2 (2 ^ m)]
  refine⟨by rw[Zh 2 (m+1),Nat.mul_comm],?_⟩;rw[e,<- Nat.succ_mul]
noncomputable def vd:Nat->Nat
 | 0=>0
 | m+1=>vd m+vd m+(m+1)*2 ^ m
theorem vH:∀ m,m<=10->vd m<=100000/\(m+1)*2 ^ m<=20000:=by decide +kernel
theorem wR:∀ (m:Nat) (row:List Nat),row.length=2 ^ m->(xE m row).2.length=2 ^ m/\(xE m row).1.length=vd m
 | 0,row,h=>⟨h,rfl⟩
 | m+1,row,h=>by
  obtain⟨a,b⟩:=wM h;obtain⟨i,g⟩:=wR m _ a;obtain⟨f,e⟩:=wR m _ b;obtain⟨d,c⟩:=xK m _ _ i f;refine⟨d,?_⟩;show (List.append (List.append _ _) _).length=vd m+vd m+(m+1)*2 ^ m;rw[List.append_eq,List.append_eq,Jb,Jb,c,g,e]
noncomputable def uu (k:Nat):Nt:=⟨2 ^ k,(xO k (List.range (2 ^ k))).1,(xO k (List.range (2 ^ k))).2⟩
noncomputable def wF (k:Nat):Nt:=⟨2 ^ k,(xE k (List.range (2 ^ k))).1,(xE k (List.range (2 ^ k))).2⟩
noncomputable def zae (m:Nat):Nt:=⟨2 ^ (m+1),(mergeN m ((List.range (2 ^ (m+1))).take (2 ^ m)) ((List.range (2 ^ (m+1))).drop (2 ^ m))).1,(mergeN m ((List.range (2 ^ (m+1))).take (2 ^ m)) ((List.range (2 ^ (m+1))).drop (2 ^ m))).2⟩
theorem gC:∀ k,k<5->(uu k).forks.length<=128/\(∀ f∈(uu k).forks,f.1<2 ^ k/\f.2<2 ^ k/\f.1≠f.2)/\(uu k).ends.Perm (List.range (2 ^ k)):=by decide +kernel
theorem jR:∀ k,k<5->(wF k).forks.length<=128/\(∀ f∈(wF k).forks,f.1<2 ^ k/\f.2<2 ^ k/\f.1≠f.2)/\(wF k).ends.Perm (List.range (2 ^ k)):=by decide +kernel
theorem wW {k:Nat}(h:k<5):1<=2 ^ k/\2 ^ k<=16:=⟨ZK,YD (show 0<2 by decide) (show k<=4 by lia)⟩
theorem dv {k:Nat}(h:k<5):(uu k).Ok:=let ⟨a,b,c⟩:=gC k h;⟨(wW h).1,(wW h).2,a,b,c⟩
theorem gL {k:Nat}(h:k<5):(wF k).Ok:=let ⟨a,b,c⟩:=jR k h;⟨(wW h).1,(wW h).2,a,b,c⟩
end Bn
namespace L2
open PySem PySem.Spec PyProof.Rows Own
theorem ke {K:Jl}{b1 b2:Bool}{a1 a2:JI}{xs ys:List V}(w:xs.length=ys.length){g:TG}{h:TS}{D:Ends}{σ:St}{H:Hp}(a:Nat->St->Hp->Prop)(s:a 0 σ H)(o:∀ i σ H,i<=xs.length->a i σ H->SqB b1 K H a1 xs/\SqB b2 K H a2 ys)(n:∀ i x y T σ H,xs[i]?=some x->ys[i]?=some y->H T=none->a i σ H->g (.ref T) σ (upd H T (.tup [x,y])) λc f=>h { D with nx:=a (i+1),ct:=a (i+1),bk:=D.nx } c f)(q:∀ σ H,a xs.length σ H->D.nx σ H) :
  ∃ W:Nat->Nat->St->Hp->Prop,(∃ m,W 0 m σ H)/\∀ i m σ H,W i m σ H ->
   ((Itz K b1 b2 a1 a2).stop i H/\D.nx σ H)\/((Itz K b1 b2 a1 a2).go i H/\∃ N:St->Hp->Prop,(∀ d b,N d b->∃ k,k<m/\W (i+1) k d b)/\∀ x b,(Itz K b1 b2 a1 a2).yld i H x b->g x σ b λc f=>h { D with nx:=N,ct:=N,bk:=D.nx } c f):=by
 refine⟨λi m σ H=>m=xs.length-i/\i<=xs.length/\a i σ H,⟨_,rfl,Jz _,s⟩,?_⟩;rintro i m σ H ⟨rfl,hi,p⟩;obtain⟨e,j⟩:=o i σ H hi p;by_cases more:i<xs.length
 ·refine .inr ⟨⟨xs,ys,_,_,e,j,J8 more,J8 (by simp_all)⟩,a (i+1),λd b l=>⟨xs.length-(i+1),by lia,rfl,more,l⟩,λv b ⟨x,y,ex,t,T,r,u,e2⟩=>?_⟩
  subst u e2;exact n i x y T σ H (ex xs e) (t ys j) r p
 ·obtain rfl:i=xs.length:=by lia
  exact .inl ⟨⟨xs,e,rfl⟩,q σ H p⟩
end L2
namespace Bn
open PySem L2 Own
noncomputable def bR (k:Nat)(A:Nt):Nt:=⟨A.lanes+A.lanes,(A.forks++A.forks.map (shF A.lanes))++(mergeN k A.ends (A.ends.map (A.lanes + ·))).1,(mergeN k A.ends (A.ends.map (A.lanes + ·))).2⟩
inductive Pln where
 | net (N:Nt)|way (w k:Nat)|dbl (p:Pln)|ren (p:Pln) (ns:List Nat)|bes (p q:Pln)|beh (p q:Pln)
noncomputable def pwr (n:Nat):Nat:=if n=2 then 1 else if n=4 then 2 else if n=8 then 3 else if n=16 then 4 else 0
noncomputable def zbo (w k:Nat):Nat:=if w=0 then 2 ^ k*k*(k+1) / 4 else if w=1 then 2 ^ k*k*k / 2 else 2 ^ k*k / 2
namespace Pln
noncomputable def lanes:Pln->Nat
 | .net N=>N.lanes
 | .way _ k=>2 ^ k
 | .dbl p=>2*p.lanes
 | .ren p _=>p.lanes
 | .bes p q=>p.lanes+q.lanes
 | .beh p _=>p.lanes
noncomputable def many:Pln->Nat
 | .net N=>N.forks.length
 | .way w k=>zbo w k
 | .dbl p=>2*p.many+p.lanes*pwr (2*p.lanes)
 | .ren p _=>p.many
 | .bes p q=>p.many+q.many
 | .beh p q=>p.many+q.many
noncomputable def hi:Pln->Nat
 | .net _=>1
 | .way _ _=>1
 | .dbl p=>p.hi+1
 | .ren p _=>p.hi+1
 | .bes p q=>max p.hi q.hi+1
 | .beh p q=>max p.hi q.hi+1
end Pln
inductive Kn where
 | no|stair|merges|halves
 deriving DecidableEq
noncomputable def Kn.v:Kn->V
 | .no=>.non
 | .stair=>.str "stair"
 | .merges=>.str "merges"
 | .halves=>.str "halves"
noncomputable def Pln.known:Pln->Kn
 | .net N=>if N.lanes=1 then .stair else .no
 | .way w k=>if w<2 then .stair else if k=1 then .stair else .merges
 | .dbl p=>if p.known=.stair then .stair else .no
 | .ren p _=>if p.known=.merges then .no else p.known
 | .bes p q=>if p.known=.stair/\q.known=.stair/\p.lanes=q.lanes then .halves else .no
 | .beh p q=>if q.known=.stair\/p.known=.halves/\q.known=.merges then .stair else .no
end Bn
namespace Bn
open PySem L2 Own
noncomputable def Pln.raw:Pln->Nt
 | .net N=>N
 | .way w k=>if w=0 then wF k else if w=1 then xX k else zae (k-1)
 | .dbl p=>bR (pwr (2*p.lanes)-1) p.raw
 | .ren p ns=>gk p.raw ns
 | .bes p q=>bb p.raw q.raw
 | .beh p q=>be p.raw q.raw
end Bn
namespace L2
open PySem PySem.Spec PyProof.Rows Own Bn
theorem ShB.two {m n:Nat}{a b:PyData}(ha:ShB m a)(hb:ShB n b):ShB (m+n+7) (.tuple [a,b]):=by
 refine⟨?_,?_,?_⟩
 ·show (a.showable && (b.showable && true))=true
  rw[ha.sh,hb.sh];rfl
 ·show (a.hasDict || (b.hasDict || false))=false
  rw[ha.nd,hb.nd];rfl
 ·have t:=uL [a.shown,b.shown]
  have p:piled [a.shown,b.shown]=a.shown.length+2+(b.shown.length+2+0):=rfl;have:=ha.le;have:=hb.le;exact JS t (by rw[p];lia)
theorem ly {i:Int}(h:i.natAbs<=100000):ShB 40 (.int i):=by
 have a:i.natAbs.log2<1920:=by
  by_cases z:i.natAbs=0
  ·rw[z];decide
  ·exact(Nat.log2_lt z).mpr (Wi h (JJ (show 100000<2 ^ 20 by decide) (YD (by decide) (by decide))))
 refine⟨Jt a,rfl,?_⟩;have:=(du (n:=i) (Wi h (by decide))).2;show (txt i).length<=40;lia
theorem cI {i:Int}(h:i=0\/i=1):ShB 1 (.int i):=by
 refine⟨(ly (by omega)).sh,rfl,?_⟩;rcases h with rfl|rfl<;>decide
noncomputable def iR:KN->PyData
 | [.inr ts,.inl r]=>.tuple [.tuple (ts.map PyData.int),.int r]
 | _=>.none
theorem zaw {H:Hp}{n:Nat}{b:JI}{x y:V}{d e:PyData}(h:H b=some (.tup [x,y]))(c:DD H n x d)(a:DD H n y e):DD H (n+1) (.ref b) (.tuple [d,e]):=by
 refine DD.tup h rfl λj u f p q=>?_
 match j,p,q with
 | 0,p,q=>obtain rfl:=Jf p;obtain rfl:=Jf q;exact c
 | 1,p,q=>obtain rfl:=Jf p;obtain rfl:=Jf q;exact a
 | j+2,p,q=>cases p
section
variable {N:Nt}{H:Hp}
theorem zay {k:KN}{b:JI}(h:NKey H k b)(ok:OkP N k):DD H 2 (.ref b) (iR k):=by
 obtain⟨d,r,rfl,_⟩:=ok;obtain⟨t,c,a⟩:=we h;exact zaw c (bV a) (DD.i _)
theorem cG {k:KN}(c:Nt.Ok N)(ok:OkP N k)(f:N.forks.length<=60):ShB 230 (iR k):=by
 obtain⟨b,r,rfl,j,bits,l⟩:=ok;have h:=c.l16
 have a:ShB (60*(1+2)+3) (.tuple (b.map PyData.int)):=ShB.long (λe g=>by
  obtain⟨t,d,rfl⟩:=Jw.mp g
  exact cI (bits t d)) (by rw[Jc];simp_all)
 exact(a.two (ly (i:=(r:Nat)) (by lia))).up (by decide)
theorem kw {b:JI}{bs:List JI}{ks:List KN}(h:H b=some (.tup (bs.map V.ref)))(a:KeysAt H bs ks)(ok:∀ k∈ks,OkP N k):DD H 3 (.ref b) (.tuple (ks.map iR)):=by
 have l:bs.length=ks.length:=JU a;refine DD.tup h (by rw[Jc,Jc,l]) ?_;clear h l b;unfold KeysAt at a
 induction a with
 | nil=>intro j u e p;cases p
 | @cons b k bs ks q _ ih =>
  intro j u e p r
  cases j with
  | zero=>cases Jf p;cases Jf r;exact zay q (ok k (.head _))
  | succ j=>exact ih (λk c=>ok k (.tail _ c)) j u e p r
end
theorem bZ {Ok:KN->Prop}{ks:List KN}{ls:List LvL}(h:BookOf ks ls)(ok:∀ lv∈ls,∀ p∈lv,Ok p.1):(∀ k∈ks,Ok k)/\ks.length=(ls.map List.length).sum:=by
 obtain⟨c,rfl,a⟩:=h
 induction a with
 | nil=>exact⟨λk b=>(nomatch b),rfl⟩
 | @cons i lv c ls q _ ih =>
  obtain⟨e,d⟩:=ih λlv g=>ok lv (.tail _ g);refine⟨λk b=>?_,?_⟩
  ·rw[YU]at b
   rcases Jr.mp b with z|z
   ·obtain⟨p,f,rfl⟩:=Jw.mp (q.1.mem_iff.mp z)
    exact ok lv (.head _) p f
   ·exact e k z
  ·rw[YU,Jb,d,q.1.length_eq,Jc];rfl
section
variable {k:KN}{c:Int}{ks:List KN}
variable {H:Hp}{b:JI}
theorem zbc {xs:KVN}(h:KsIn H xs):KeysAt H (xs.map λp=>p.2.1) (xs.map (·.1)):=by
 unfold KeysAt
 induction xs with
 | nil=>exact .nil
 | cons x xs ih=>exact .cons (h x (.head _)) (ih λy a=>h y (.tail _ a))
theorem rm {u:JI}:∀ {vs:List JI}{ks:List KN},KeysAt H (vs++[u]) ks->∃ k f,ks=f++[k]/\KeysAt H vs f/\NKey H k u
 | [],_,.cons a .nil=>⟨_,[],rfl,.nil,a⟩
 | _::_,_,.cons a b=>by
  obtain⟨k,f,e,c,d⟩:=rm b;exact⟨k,_::f,by rw[e];rfl,.cons a c,d⟩
theorem eQ {bs:List JI}(h:KeysAt H bs ks){i:Nat}{b:JI}(e:bs[i]?=some b):∃ k,ks[i]?=some k/\NKey H k b:=by
 unfold KeysAt at h
 induction h generalizing i b with
 | nil=>cases e
 | cons a _ ih =>
  cases i with
  | zero=>cases e;exact⟨_,rfl,a⟩
  | succ i=>exact ih e
end
section
variable {stO:V->Option KN}{xs:List V}{k0:KN}{moves:List Nat}{step:KN->Nat->Option KN}{ss:List KN}
theorem iw (em:xs.mapM stO=some ss)(nd:ss.Nodup)(cl:∀ k∈ss,∀ m∈moves,∃ t,step k m=some t/\t∈ss):va stO xs k0 moves step=decide (k0∈ss):=by
 rw[su em,Jt nd,Bool.true_and];have good:∀ F:KN->Bool,(∀ k∈ss,F k=true)->(decide (k0∈ss) && ss.all F)=decide (k0∈ss):=λF h=>by rw[YC.mpr h,Bool.and_true]
 refine good _ λk c=>YC.mpr λm b=>?_;obtain⟨t,g,a⟩:=cl k c m b;rw[g];exact Jt a
end
structure BkP (N:Nt) (moves:List Nat) (ks:List KN):Prop where
 nd:ks.Nodup
 ok:∀ k∈ks,OkP N k
 k0:k0P N∈ks
 cl:∀ k∈ks,∀ m∈moves,∃ t,yC N k m=some t/\t∈ks
theorem wV {N:Nt}(d:N.lanes<=4)(n:N.forks.length<=8){ks:List KN}(nd:ks.Nodup)(h:∀ k∈ks,OkP N k):ks.length<=1024:=by
 have e:=kU (l:=ks) (ks:=(pU N.forks.length).flatMap λb=>(List.range N.lanes).map λm=>stK b [((m:Nat):Int)]) (List.nodup_iff_pairwise_ne.mp nd) λk f=>by
  obtain⟨b,m,rfl,j,i,g⟩:=h k f;exact List.mem_flatMap.mpr ⟨b,j ▸ o6 i,Jw.mpr ⟨m,YQ.mpr g,rfl⟩⟩
 have c:∀ (a:List (List Int)),(a.flatMap λb=>(List.range N.lanes).map λm=>stK b [((m:Nat):Int)]).length=a.length*N.lanes:=λa=>by
  induction a with
  | nil=>rw[List.flatMap_nil];show 0=0*N.lanes;lia
  | cons x a ih=>rw[List.flatMap_cons,Jb,Jc,Z6,ih,JM,W7];lia
 rw[c,nv]at e;exact JS e (JS (Wh (YD (by decide) n) d) (by decide))
theorem cD {N:Nt}{H:Hp}{b:JI}{k:KN}(ok:OkP N k)(h:NKey H k b):rB H (N.forks.length:Nat) (N.lanes:Nat) (.ref b)=some k:=by
 obtain⟨d,r,rfl,m,f,l⟩:=ok;obtain⟨t,a,e2⟩:=we h;replace a:H b=some (.tup [.ref t,.int (r:Nat)]):=a
 have j:yt H (N.forks.length:Nat) 2 (.ref t)=true:=by
  unfold yt;rw[yR e2];dsimp only;rw[Jt (by rw[Jc];lia),Bool.true_and];refine YC.mpr λx e=>?_;obtain⟨i,hi,rfl⟩:=Jw.mp e;rcases f i hi with q|q<;>rw[q]<;>rfl
 have g:xV (N.lanes:Nat) (.int (r:Nat))=true:=by
  show (decide (0<=((r:Nat):Int)) && decide (((r:Nat):Int)<(N.lanes:Nat)))=true;rw[Jt (by lia),Jt (by lia)];rfl
 have c:xQ H (N.forks.length:Nat) (N.lanes:Nat) (.ref b)=true:=by
  unfold xQ;rw[yR a];dsimp only;rw[j,g];rfl
 unfold rB;rw[Jm c,yR a];dsimp only;have:gj H (.ref t)=d:=by unfold gj;rw[yR e2];exact iU d
 rw[this];rfl
theorem iI {N:Nt}{H:Hp}{bs:List JI}{ks:List KN}(h:KeysAt H bs ks)(ok:∀ k∈ks,OkP N k):(bs.map V.ref).mapM (rB H (N.forks.length:Nat) (N.lanes:Nat))=some ks:=by
 unfold KeysAt at h
 induction h with
 | nil=>rfl
 | cons q _ ih =>
  rw[JR,List.mapM_cons,cD (ok _ (.head _)) q,ih λk a=>ok k (.tail _ a)];rfl
theorem lU {N:Nt}{moves:List Nat}{H:Hp}{bs:List JI}{ks:List KN}(h:KeysAt H bs ks)(B:BkP N moves ks):va (rB H (N.forks.length:Nat) (N.lanes:Nat)) (bs.map V.ref) (k0P N) moves (yC N)=true:=by
 rw[iw (iI h B.ok) B.nd B.cl];exact Jt B.k0
theorem KeysAt.perm {H:Hp}{bs:List JI}{ks:List KN}(h:KeysAt H bs ks){vs:List V}(p:vs.Perm (bs.map V.ref)):∃ cs a,vs=cs.map V.ref/\KeysAt H cs a/\a.Perm ks:=by
 obtain⟨cs,rfl,pc⟩:=wu (f:=V.ref) p rfl;obtain⟨a,c,b⟩:=vz pc h;exact⟨cs,a,rfl,c,b⟩
theorem BkP.perm {N:Nt}{moves:List Nat}{ks b:List KN}(B:BkP N moves ks)(p:b.Perm ks):BkP N moves b :=
 ⟨p.nodup_iff.mpr B.nd,λk a=>B.ok k (p.mem_iff.mp a),p.mem_iff.mpr B.k0,λk a m d=>by
  obtain⟨t,e,c⟩:=B.cl k (p.mem_iff.mp a) m d
  exact⟨t,e,p.mem_iff.mpr c⟩⟩
end L2
namespace K38
open PySem L2 Own Bn
noncomputable abbrev mM:Stmt:=top 40
noncomputable def qP:Sp:=λg H Q _=>∃ r fr i h N d,∃ moves:List Nat,∃ e kp bk bs f,g=[.ref r,.ref d,.ref e,.ref bk]/\Nt.Ok N/\NetAt H r fr i h N/\N.lanes<=4/\N.forks.length<=8/\H d=some (.tup (zW moves))/\(∀ m∈moves,m<N.lanes)/\moves.length<=16/\NKey H kp e/\OkP N kp/\H bk=some (.tup (List.map V.ref bs))/\KeysAt H bs f/\BkP N moves f /\
 (∀ a,Same H a->Q .non a)/\∀ p c b a,Same H a->a p=some (.tup (List.map V.ref c))->KeysAt a c b->BkP N moves b->Q (.ref p) a
theorem bG {α:Type}{l:List α}(h:l≠[]):∃ x,l=l.dropLast++[x]:=⟨l.getLast h,(List.dropLast_concat_getLast h).symm⟩
theorem dh {xs:KVN}{k:KN}{b:JI}{v:V}(h:k∉xs.map (·.1)):yu xs k b v=xs++[(k,b,v)]:=by
 unfold yu;rw[Je λz=>h (xM.mp z)]
noncomputable def trK (bs:List JI)(ks:List KN):KVN:=List.zipWith (λb k=>(k,b,V.bl true)) bs ks
theorem gD {H:Hp}:∀ {bs:List JI}{ks:List KN},KeysAt H bs ks->(trK bs ks).map (·.1)=ks/\(trK bs ks).length=ks.length/\KsIn H (trK bs ks):=by
 intro bs ks h;unfold KeysAt at h
 induction h with
 | nil=>exact⟨rfl,rfl,λx a=>(nomatch a)⟩
 | cons q _ ih =>
  obtain⟨d,c,b⟩:=ih;refine⟨JQ (_::·) d,JQ (· + 1) c,λx a=>?_⟩;rcases Jq.mp a with rfl|z
  ·exact q
  ·exact b x z
section
variable {P:Yo}{w:YI}{K:Jl}{mg:Str->Option Jo}{base:YP}
theorem jW:FnScope ["_law_net","_law_some","_law_pair","_law_book","_law_met","_law_waits","_law_here","_law_lane","_law_later","_law_end"] ["_law_net","_law_some","_law_pair","_law_book"] (zN mM):=by rfl'
theorem fc {f fP:JI}{fd dP:Yl}(F:Fun K "_law_wider" "_law_wider" mM f fd) (G:Mgs mg) (GD:MgD mg) (UP:Use P w K mg base "_law_passed" ["_law_net","_law_turns","_law_lane"] 1 (wp false) fP dP):FnOk P w K mg base CX0 2 f fd ["_law_net","_law_some","_law_pair","_law_book"] qP:=by
 refine F.ok jW (λI H Q E h=>?_) (λdx A outer s H I Q E hr h=>?_)
 ·obtain⟨r,fr,er,ps,N,sm,moves,pb,kp,bk,bs,L,rfl,_⟩:=h
  rfl
 obtain⟨r,fr,er,ps,N,sm,moves,pb,kp,bk,bs,L,rfl,ok,na,l4,f8,cc,mlt,ml,cX,cJ,cn,ka,B,qn,qp⟩:=h;have c6:Room 1 _:=hr.mono (by decide);refine⟨_,(@zH _ _ _ _ _ (@vj _ _ 4 5 _ _ _ _ _ _ _ _ _ _ _ rfl jW.nd rfl rfl (by decide) rfl rfl (@zA _ _ _ _ _ (@zw _ _ _ _ _ _ _ _ _ (sk rfl (Wi (Nat.add_le_add_left (by decide) _) hr.units)) (by rfl) GD.dict (by rfl) (@zA _ _ _ _ _ (@oR _ _ _ _ none _ _ _ _ _ _ ["_law_one"] [none] rfl (@xc _ _ _ _ (@qv _ 3 _ _ (by rfl'))) (CapOk.of (by kernel_rfl)) (λ_ _ _ _ _=>(@zM _ _ 0 _ (show (["_law_one"]:List Str).Nodup from by decide +kernel) rfl (.inl rfl) (.inr rfl))) (λ_ _ _ _ _=>xY) (λ_ _ _ _ _=>(@zX _ _ _ _ _ (@zA _ _ _ _ _ (@qv _ 0 _ _ (by rfl')) (@zA _ _ _ _ _ wK zC (by rfl)) (by rfl)))) (by intro _;rfl)) zC (by rfl)) (by decide) (by decide) (by rfl) (by rfl)) (@zA _ _ _ _ _ (@yJ _ _ _ _ (@zA _ _ _ _ _ (@qv _ 2 _ _ (by rfl')) zC (by rfl))) zC (by rfl)) (by rfl)) (by rfl) (by rfl)) (@zH _ _ _ _ _ (@vO _ _ _ _ _ _ Yb (@zo _ _ _ _ _ _ _ _ (mj hr.units0) (@qv _ 5 _ _ (by rfl')) (@yJ _ _ _ _ zC) (yK _)) (@zH _ _ _ _ _ (@zZ _ _ 6 _ _ _ _ jW.nd rfl (.inl rfl) (@ah _ _ _ _ _ _ _ _ _ Y2 PySem.F.slot_list_pop PySem.F.type_list_pop zad (@qv _ 5 _ _ (by rfl')) (by rfl) (by rfl)) (by rfl) (by rfl')) (@zK _ _ _ (@yY _ _ _ _ _ _ _ _ (@mf _ _ _ _ _ _ (vn hr.u3 (@qv _ 6 _ _ (by rfl')) (@qv _ 4 _ _ (by rfl'))) (by rfl)) (@zH _ _ _ _ _ (qm hr.u3 (@qv _ 4 _ _ (by rfl')) (@qv _ 6 _ _ (by rfl')) wK (by rfl)) (@zK _ _ _ (@y7 _ _ _ _ _ _ _ _ Yb rfl (@xc _ _ _ _ (@qv _ 1 _ _ (by rfl'))) (@zM _ _ 7 _ jW.nd rfl (.inl rfl) (by rfl')) (@zH _ _ _ _ _ (@yT _ _ _ _ _ _ (@zQ _ _ _ _ _ _ _ _ _ _ _ _ _ _ _ _ UP.ok c6 (by rfl) UP.m UP.kp UP.b .nil zY (@zA _ _ _ _ _ (@qv _ 0 _ _ (by rfl')) (@zA _ _ _ _ _ (@zj _ _ _ _ _ _ _ yE (@qv _ 6 _ _ (by rfl')) zJ (λ_ _=>rfl)) (@zA _ _ _ _ _ (@qv _ 7 _ _ (by rfl')) zC (by rfl)) (by rfl)) (by rfl)) (by decide) (by rfl) (by rfl)) (@yQ _ _ _ _ _ _ rfl (@zP _ _ _ _ _ (@zM _ _ 8 _ jW.nd rfl (.inl rfl) (by rfl')) (@zP _ _ _ _ _ (@zM _ _ 9 _ jW.nd rfl (.inl rfl) (by rfl')) yA (by rfl)) (by rfl)) (by rfl) (by rfl)) (by rfl) (by rfl) (by rfl)) (@zH _ _ _ _ _ (@yY _ _ _ _ _ _ _ _ (@zo _ _ _ _ _ _ _ _ oU (@qv _ 9 _ _ (by rfl')) (@zj _ _ _ _ _ _ _ yE (@qv _ 6 _ _ (by rfl')) zJ (λ_ _=>rfl)) (yK _)) (@zK _ _ _ (@zS _ _ _ _ wJ)) zu) (@zK _ _ _ (@yj _ _ _ _ (@wB _ _ _ _ _ _ _ _ _ _ _ _ Y2 Yy Yz yc (@qv _ 5 _ _ (by rfl')) (@zA _ _ _ _ _ (@zX _ _ _ _ _ (@zA _ _ _ _ _ (@qv _ 8 _ _ (by rfl')) (@zA _ _ _ _ _ (@zV _ _ _ _ _ _ _ _ xR (@zV _ _ _ _ _ _ _ _ xF (@zj _ _ _ _ _ _ _ yE (@qv _ 6 _ _ (by rfl')) zJ (λ_ _=>rfl)) zJ) (@zj _ _ _ _ _ _ _ yE (@qv _ 0 _ _ (by rfl')) zJ (λ_ _=>rfl))) zC (by rfl)) (by rfl))) zC (by rfl)) (by rfl) (by rfl) (by rfl) (by rfl) (by rfl)) (by rfl))))) (by intro _;rfl)))) zu)))) (@zK _ _ _ (@zS _ _ _ _ (@zw _ _ _ _ _ _ _ _ _ (nh rfl) (by rfl) G.tuple (by rfl) (@zA _ _ _ _ _ (@qv _ 4 _ _ (by rfl')) zC (by rfl)) (by decide) (by decide) (by rfl) (by rfl)))))),?_⟩;have l1:=ok.l1;have kf:=wV l4 f8 B.nd B.ok;have kl:=JU ka;obtain⟨U,cH,b1⟩:=gD ka;refine zi (λD1 dp=>?_);refine⟨_,rfl,bk,rfl,⟨_,SqT.of cn⟩,λlc bc=>?_⟩;have s1:=zD bc (.lst []);refine pE (K:=K) (a:=bk) (xs:=bs.map V.ref) (λi acc σ u=>(∃ v,σ=[v])/\Same H u/\u lc=some (.lst acc)/\Paired (PrH u) acc ((trK bs L).take i)) ⟨⟨_,rfl⟩,s1,zB,.nil⟩ (λi acc σ u q=>⟨q.2.2.1,SqT.of (q.2.1 _ _ cn)⟩) ?_ ?_
 ·rintro i y acc σ u hy ⟨⟨v,rfl⟩,s2,h2,pr⟩
  rw[JV]at hy;obtain⟨b,eb,rfl⟩:=JX.mp hy;have il:i<bs.length:=(J9.mp eb).1;obtain⟨n,ek,nk⟩:=eQ ka eb
  have tk:(trK bs L).take (i+1)=(trK bs L).take i++[(n,b,.bl true)]:=by
   have e:(trK bs L)[i]?=some (n,b,.bl true):=by
    unfold trK;rw[List.getElem?_zipWith,eb,ek]
   rw[List.take_succ,e];rfl
  refine⟨_,rfl,by show 2<=sizeLine;decide,λt ht=>?_⟩;have J:=zD ht (.tup [.ref b,.bl true]);have h3:=J _ _ h2;have al:=JU pr;rw[JC]at al;refine⟨h3,by rw[JE];lia,nx (by rw[Jc];exact il) ⟨⟨_,rfl⟩,λc o e=>by rw[zG (zE e bc)];exact J _ _ (s2 c o e),zB,?_⟩⟩;have tt:Tups _ (L2.upd (L2.upd u t (.tup [.ref b,.bl true])) lc (.lst (acc++[.ref t]))):=Tups.lst h3;rw[tk];exact Ze (yw (λx y ⟨a,h1,h2,h3⟩=>⟨a,h1,tt _ _ (J _ _ h2),(h3.tups (Tups.of J)).tups tt⟩) pr) ⟨t,rfl,tt _ _ zB,((nk.tups (Tups.of s2)).tups (Tups.of J)).tups tt⟩
 rintro acc σ u ⟨⟨v,rfl⟩,s2,h2,pr⟩;rw[Jc,Y8 (by lia)]at pr;refine⟨lc,acc,trK bs L,rfl,h2,pr,λd bo=>?_⟩;have m0:yz [] (trK bs L)=trK bs L:=vt (by rw[U];exact B.nd) λk l z=>(nomatch z);rw[m0];have J:=zD bo (DN P w d (trK bs L));refine⟨_,rfl,by show 1<=sizeLine;decide,λlw X=>⟨_,_,rfl,dp _ _ ?_⟩⟩;replace X:L2.upd u d (DN P w d (trK bs L)) lw=none:=X;have s4:=zD X (.lst [.ref pb]);have u4:=(s2.trans J).trans s4;have a7:d≠lw:=zE zB X;have b6:H lw=none:=(s2.trans J).free X;have dq:H d=none:=s2.free bo;have R:=s4 _ _ (zB (H:=u) (a:=d) (o:=DN P w d (trK bs L)));have Y:L2.upd (L2.upd u d (DN P w d (trK bs L))) lw (.lst [.ref pb]) lw=some (.lst ([pb].map V.ref)):=zB;have M:KsIn (L2.upd (L2.upd u d (DN P w d (trK bs L))) lw (.lst [.ref pb])) (trK bs L):=b1.tups (Tups.of u4);have b9:=cX.tups (Tups.of u4);show wC _ _ _ _ (L2.upd (L2.upd u d (DN P w d (trK bs L))) lw (.lst [.ref pb]));generalize L2.upd (L2.upd u d (DN P w d (trK bs L))) lw (.lst [.ref pb])=H4 at *;clear s4 J X bo pr h2 s2 s1 bc
 let Iv:Nat->St->Hp->Prop:=λm σ u=>∃ xs us js v6 v7 v8 v9,σ=[some (.ref r),some (.ref sm),some (.ref pb),some (.ref bk),some (.ref d),some (.ref lw),v6,v7,v8,v9]/\Same H u/\u d=some (DN P w d xs)/\KsIn u xs/\(xs.map (·.1)).Nodup/\(∀ k∈xs.map (·.1),OkP N k)/\k0P N∈xs.map (·.1)/\u lw=some (.lst (us.map V.ref))/\KeysAt u us js/\(∀ k∈js,OkP N k)/\(∀ k∈xs.map (·.1),∀ m∈moves,∃ t,yC N k m=some t/\(t∈xs.map (·.1)\/t∈js))/\m=(1024-xs.length)*17+us.length/\us.length<=17*xs.length+1
 refine⟨Iv,⟨_,trK bs L,[pb],[kp],none,none,none,none,rfl,u4,R,M,by rw[U];exact B.nd,by rw[U];exact B.ok,by rw[U];exact B.k0,Y,.cons b9 .nil,λk l=>by rw[Ja.mp l];exact cJ,λk l m S=>by
  rw[U]at l ⊢;obtain⟨t,e,ht⟩:=B.cl k l m S
  exact⟨t,e,.inl ht⟩,rfl,by show 1<=_;lia⟩,?_⟩
 clear R Y M b9 u4 H4 U cH b1 kl;rintro m σ u ⟨xs,us,js,v6,v7,v8,v9,rfl,s2,hd,kx,nd,aT,x0,hl,ku,a5,cl,em,ux⟩;have xl:=wV l4 f8 nd aT;rw[Jc]at xl;have a3:=JU ku;refine⟨_,rfl,(by show 0<=sizeLine;decide),λe he=>?_⟩;have J:=zD he (.lst []);refine⟨lw,e,us.map V.ref,rfl,rfl,SqL.of (J _ _ hl),SqL.of zB,_,rfl,?_⟩;have bu:=J _ _ hd;have ao:=J _ _ hl;have a8:=kx.tups (Tups.of J);have b7:=ku.tups (Tups.of J);have u3:=s2.trans J;generalize L2.upd u e (.lst [])=H3 at *;clear J he hd hl kx ku s2 u;by_cases un:us=[]
 ·rw[show (!(us.map V.ref).isEmpty)=false by rw[un];rfl]
  have j0:js=[]:=by rw[un]at a3;exact Zd.mp a3.symm
  refine zz ⟨_,rfl,d,xs,rfl,bu,λp hp=>?_⟩;have s8:=zD hp (.tup (xs.map λp=>.ref p.2.1));have dr:(xs.map λp=>V.ref p.2.1)=(xs.map λp=>p.2.1).map V.ref:=by rw[YA];rfl
  refine qp p _ _ _ (u3.trans s8) (by rw[<- dr];exact zB) ((zbc a8).tups (Tups.of s8)) ⟨nd,aT,x0,λk l m S=>?_⟩;obtain⟨t,e,q⟩:=cl k l m S;rw[j0]at q;exact⟨t,e,q.elim id λz=>(nomatch z)⟩
 rw[show (!(us.map V.ref).isEmpty)=true by cases us with
  | nil=>exact absurd rfl un
  | cons a b=>rfl]
 refine yV ⟨λbS H'=>∃ m',m'<m/\Iv m' bS H',λbS H' hN=>hN,?_⟩;obtain⟨C,eu⟩:=bG un;generalize us.dropLast=I at eu;subst eu;rw[Jb]at ux em a3;change I.length+1<=_ at ux;change m=_+(I.length+1) at em;obtain⟨n,js,rfl,kv,b8⟩:=rm b7;have cP:=a5 n (Js _ (.head _));rw[JG]at ao;refine jU (λD2 dn dt=>?_);refine⟨_,rfl,.inl ⟨rfl,_,SqL.of ao⟩,lw,_,.ref C,rfl,rfl,ao,?_,dn _ _ ?_⟩
 ·rw[Jb];exact List.getElem?_concat_length
 rw[show (I.map V.ref++[C].map V.ref).dropLast=I.map V.ref from List.dropLast_concat];have tq:∀ o,Tups H3 (L2.upd H3 lw (.lst o)):=λo b ys e=>by rw[zG (yD e ao λz=>by cases z)];exact e
 have R:L2.upd H3 lw (.lst (I.map V.ref)) d=some (DN P w d xs):=by rw[zG a7];exact bu
 have Y:L2.upd H3 lw (.lst (I.map V.ref)) lw=some (.lst (I.map V.ref)):=zB;have u4:Same H (L2.upd H3 lw (.lst (I.map V.ref))):=λb o e=>by rw[zG (zE e b6)];exact u3 b o e
 have M:=a8.tups (tq (I.map V.ref));have ba:=kv.tups (tq (I.map V.ref));have W:=b8.tups (tq (I.map V.ref));generalize L2.upd H3 lw (.lst (I.map V.ref))=H4 at *;clear tq ao bu a8 kv b7 u3 b8;refine⟨_,rfl,_,rfl,d,C,xs,_,rfl,rfl,⟨.inl R,M⟩,W,_,rfl,?_⟩;by_cases cm:n∈xs.map (·.1)
 ·rw[show (yg xs n).isSome=true from xM.mpr cm]
  refine zz ⟨_,?_,xs,I,js,_,_,_,_,rfl,u4,R,M,nd,aT,x0,Y,ba,λk l=>a5 k (JT _ l),λk l m S=>?_,rfl,by lia⟩
  ·lia
  ·obtain⟨t,e,q⟩:=cl k l m S
   refine⟨t,e,q.elim .inl λz=>?_⟩;rcases Jr.mp z with y|y
   ·exact .inr y
   ·rw[Ja.mp y];exact .inl cm
 rw[show (yg xs n).isSome=false by
  cases z:(yg xs n).isSome with
  | false=>rfl
  | true=>exact absurd (xM.mp z) cm]
 refine yV ⟨_,rfl,_,rfl,d,C,xs,_,rfl,rfl,R,M,W,by rw[JE];lia,?_⟩;rw[dh cm];obtain⟨Z,rest,ek,tl,bits,rl⟩:=cP;have b3:OkP N n:=⟨Z,rest,ek,tl,bits,rl⟩;rw[ek]at W;obtain⟨t0,a0,cb⟩:=we W;replace a0:H4 C=some (.tup [.ref t0,.int (rest:Nat)]):=a0;have tX:Tups H4 (L2.upd H4 d (DN P w d (xs++[(n,C,.bl true)]))):=λb ys e=>by rw[zG (yD e R λz=>by cases z)];exact e
 have c9:L2.upd H4 d (DN P w d (xs++[(n,C,.bl true)])) d=some (DN P w d (xs++[(n,C,.bl true)])):=zB;have c8:L2.upd H4 d (DN P w d (xs++[(n,C,.bl true)])) lw=some (.lst (I.map V.ref)):=by rw[zG a7.symm];exact Y
 have u5:Same H (L2.upd H4 d (DN P w d (xs++[(n,C,.bl true)]))):=λb o e=>by rw[zG (zE e dq)];exact u4 b o e
 have c1:KsIn (L2.upd H4 d (DN P w d (xs++[(n,C,.bl true)]))) (xs++[(n,C,.bl true)]):=λx hx=>by
  rcases Jr.mp hx with z|z
  ·exact(M x z).tups tX
  ·rw[Ja.mp z];exact(ek ▸ W).tups tX
 have c2:=ba.tups tX;have dd:=tX _ _ a0;have c5:=tX _ _ cb
 have b5:((xs++[(n,C,V.bl true)]).map (·.1)).Nodup:=by
  rw[JG];exact ZP.mpr ⟨nd,JP.mpr ⟨Jv,Yx⟩,λa ha b hb e=>cm ((show b=n from Ja.mp hb) ▸ e ▸ ha)⟩
 have b4:∀ k∈(xs++[(n,C,V.bl true)]).map (·.1),OkP N k:=λk l=>by
  rw[JG]at l;rcases Jr.mp l with z|z
  ·exact aT k z
  ·rw[Ja.mp z];exact b3
 have b0:=wV l4 f8 b5 b4;rw[Jc,Jb]at b0;change xs.length+1<=_ at b0;show Ends.nx _ _ (L2.upd H4 d (DN P w d (xs++[(n,C,.bl true)])));generalize L2.upd H4 d (DN P w d (xs++[(n,C,.bl true)]))=H5 at *;clear tX R Y u4 M ba W a0 cb H4;refine⟨_,rfl,sm,rfl,⟨_,SqT.of (u5 _ _ cc)⟩,?_⟩;have c0:(zW moves).length=moves.length:=Jc _
 refine pI (K:=K) (a:=sm) (xs:=zW moves) (λj σ H6=>∃ D O v7 v8 v9,σ=[some (.ref r),some (.ref sm),some (.ref pb),some (.ref bk),some (.ref d),some (.ref lw),some (.ref C),v7,v8,v9]/\Same H H6/\Tups H5 H6/\H6 d=some (DN P w d (xs++[(n,C,.bl true)]))/\H6 lw=some (.lst (D.map V.ref))/\KeysAt H6 D O/\(∀ k∈O,OkP N k)/\D.length=I.length+j/\(∀ k∈js,k∈O)/\∀ m∈moves.take j,∃ t,yC N n m=some t/\t∈O) ⟨I,js,_,_,_,rfl,u5,Tups.of (Same.refl _),c9,c8,c2,λk l=>a5 k (JT _ l),rfl,λk l=>l,λm S=>(nomatch S)⟩ (λj σ H6 _ z=>by
  obtain⟨_,_,_,_,_,_,z,_⟩:=z
  exact SqT.of (z _ _ cc)) ?_ ?_
 rotate_left
 ·rintro σ H6 ⟨D,O,v7,v8,v9,rfl,u6,t6,bt,bl,a9,a6,a4,ab,ax⟩
  rw[c0]at a4 ax;rw[Y9]at ax;refine⟨_,?_,_,D,O,_,_,_,_,rfl,u6,bt,c1.tups t6,b5,b4,by rw[JG];exact JT _ x0,bl,a9,a6,λk l m S=>?_,rfl,?_⟩
  ·rw[Jb]
   show (1024-(xs.length+1))*17+D.length<m;lia
  ·rw[JG]at l ⊢
   rcases Jr.mp l with z|z
   ·obtain⟨t,e,q⟩:=cl k z m S
    refine⟨t,e,q.elim (λy=>.inl (JT _ y)) λy=>?_⟩;rcases Jr.mp y with y|y
    ·exact .inr (ab _ y)
    ·rw[Ja.mp y];exact .inl (Js _ (.head _))
   ·rw[Ja.mp z]
    obtain⟨t,e,q⟩:=ax m S;exact⟨t,e,.inr q⟩
  ·rw[Jb]
   show D.length<=17*(xs.length+1)+1;lia
 rintro j x σ H6 hx ⟨D,O,v7,v8,v9,rfl,u6,t6,bt,bl,a9,a6,a4,ab,ax⟩;rw[zW,JV]at hx;obtain⟨g,bB,rfl⟩:=JX.mp hx;have jl:j<moves.length:=(J9.mp bB).1;have lt:=mlt g (JF bB);have cx:=t6 _ _ dd;refine⟨_,rfl,_,rfl,C,_,_,_,rfl,rfl,SqT.of cx,rfl,_,rfl,r,fr,er,ps,N,t0,Z,g,rfl,ok,na.tups (Tups.of u6),t6 _ _ c5,tl,bits,lt,λp1 tr H8 s8 c7 c4=>?_⟩;refine⟨p1,_,rfl,SqT.of c7,rfl,_,_,rfl,_,_,rfl,rfl,?_⟩;have u8:=u6.trans s8;have ct:=s8 _ _ cx;have st:yC N (stK Z [((rest:Nat):Int)]) g=if ((passE N Z g:Nat):Int)=(rest:Nat) then some (stK (xa N Z g) [((rest:Nat)+1)%(N.lanes:Nat)]) else none:=rfl;refine⟨_,rfl,_,rfl,C,_,_,_,rfl,rfl,SqT.of ct,rfl,rfl,_,rfl,?_⟩;show if (!decide (V.int ((passE N Z g:Nat):Int)=V.int ((rest:Nat):Int)))=true then _ else _;by_cases c:((passE N Z g:Nat):Int)=(rest:Nat)
 rotate_left
 ·rw[show (!decide (V.int ((passE N Z g:Nat):Int)=V.int ((rest:Nat):Int)))=true by rw[Jj λe=>c (by injection e)];rfl]
  exact yV (qn _ u8)
 rw[Jm c]at st;rw[show (!decide (V.int ((passE N Z g:Nat):Int)=V.int ((rest:Nat):Int)))=false by rw[Jt (JQ V.int c)];rfl];have ck:=s8 _ _ bl;refine zz ⟨_,rfl,.inl ⟨rfl,_,SqL.of ck⟩,?_⟩;refine⟨_,rfl,_,rfl,C,_,_,_,rfl,rfl,SqT.of ct,rfl,_,_,rfl,rfl,_,rfl,r,_,_,_,rfl,rfl,SqT.of (u8 _ _ na.net),rfl,_,_,rfl,rfl,by show (0:Int)<((N.lanes:Nat):Int);lia,by show 2<=sizeLine;decide,λT hT=>?_⟩;have s9:=zD hT (.tup [.ref tr,.int (((rest:Nat)+1)%(N.lanes:Nat))]);have cf:=s9 _ _ ck;have c3:NKey (L2.upd H8 T (.tup [.ref tr,.int (((rest:Nat)+1)%(N.lanes:Nat))])) (stK (xa N Z g) [((rest:Nat)+1)%(N.lanes:Nat)]) T:=uW (is:=[((rest:Nat)+1)%(N.lanes:Nat)]) (t:=tr) zB (s9 _ _ c4);have u9:=s8.trans s9;have w9:=u6.trans u9;refine⟨lw,_,_,rfl,rfl,cf,by rw[Jc,JE];lia,?_⟩;have tq:∀ o,Tups (L2.upd H8 T (.tup [.ref tr,.int (((rest:Nat)+1)%(N.lanes:Nat))])) (L2.upd (L2.upd H8 T (.tup [.ref tr,.int (((rest:Nat)+1)%(N.lanes:Nat))])) lw (.lst o)):=λo b ys e=>by rw[zG (yD e cf λz=>by cases z)];exact e
 have b2:yC N n g=some (stK (xa N Z g) [((rest:Nat)+1)%(N.lanes:Nat)]):=by rw[ek];exact st
 refine⟨D++[T],O++[stK (xa N Z g) [((rest:Nat)+1)%(N.lanes:Nat)]],_,_,_,rfl,λb o e=>?_,λb ys e=>tq _ _ _ (u9 _ _ (t6 b ys e)),?_,?_,Ze ((a9.tups (Tups.of u9)).tups (tq _)) (c3.tups (tq _)),λk l=>?_,by rw[Jb,a4];show _+1=_;lia,λk l=>JT _ (ab k l),λm' S=>?_⟩
 ·rw[zG (zE e b6)];exact w9 b o e
 ·rw[zG a7];exact u9 _ _ bt
 ·rw[JG];exact zB
 ·rcases Jr.mp l with z|z
  ·exact a6 k z
  ·rw[Ja.mp z];exact xP ok b3 b2
 ·rw[<- Y0 jl,(J9.mp bB).2]at S
  rcases Jr.mp S with z|z
  ·obtain⟨t,e,q⟩:=ax m' z
   exact⟨t,e,JT _ q⟩
  ·rw[Ja.mp z]
   exact⟨_,b2,Js _ (.head _)⟩
noncomputable abbrev gZ:Stmt:=top 27
noncomputable abbrev gX:Stmt:=top 28
theorem scK:FnScope ["_law_left_here","_law_many","_law_digit"] ["_law_left_here","_law_many"] (zN gX):=by rfl'
theorem cV {f:JI}{fd:Yl}(F:Fun K "_law_pick" "_law_pick" gX f fd):FnOk P w K mg base CX0 1 f fd ["_law_left_here","_law_many"] uZ:=by
 refine F.ok scK (λy H Q E h=>?_) (λL A outer s H y Q E M h=>?_)
 ·obtain⟨l,m,rfl,_⟩:=h
  rfl
 obtain⟨l,m,rfl,g,z,S,k⟩:=h;obtain⟨a,b,c,d,r,D,C⟩:=S.ex;refine⟨_,(@zH _ _ _ _ _ (@yY _ _ _ _ _ _ _ _ (@zo _ _ _ _ _ _ _ _ kG (@zj _ _ _ _ _ _ _ yB (@qv _ 0 _ _ (by rfl')) zJ (λ_ _=>rfl)) zJ (yK _)) (@zH _ _ _ _ _ (@zZ _ _ 2 _ _ _ _ scK.nd rfl (.inl rfl) (@zV _ _ _ _ _ _ _ _ xR (@zj _ _ _ _ _ _ _ yB (@qv _ 0 _ _ (by rfl')) zJ (λ_ _=>rfl)) (@qv _ 1 _ _ (by rfl'))) (by rfl) (by rfl')) (@zH _ _ _ _ _ (@yT _ _ _ _ _ _ (@zV _ _ _ _ _ _ _ _ vQ (@zj _ _ _ _ _ _ _ yB (@qv _ 0 _ _ (by rfl')) zJ (λ_ _=>rfl)) (@qv _ 1 _ _ (by rfl'))) (@tR _ _ _ _ _ _ _ (@qv _ 0 _ _ (by rfl')) zJ wH (by intro _;rfl)) (by rfl) (by rfl) (by rfl)) (@zK _ _ _ (@zS _ _ _ _ (@qv _ 2 _ _ (by rfl')))))) zu) (@zH _ _ _ _ _ (@yT _ _ _ _ _ _ (@zV _ _ _ _ _ _ _ _ xF (@zj _ _ _ _ _ _ _ yB (@qv _ 0 _ _ (by rfl')) zJ (λ_ _=>rfl)) zJ) (@tR _ _ _ _ _ _ _ (@qv _ 0 _ _ (by rfl')) zJ wH (by intro _;rfl)) (by rfl) (by rfl) (by rfl)) (@zH _ _ _ _ _ (@yT _ _ _ _ _ _ (@zV _ _ _ _ _ _ _ _ xR (@zV _ _ _ _ _ _ _ _ xF (@zV _ _ _ _ _ _ _ _ xF (@zV _ _ _ _ _ _ _ _ vp (@zj _ _ _ _ _ _ _ yB (@qv _ 0 _ _ (by rfl')) zJ (λ_ _=>rfl)) zJ) zJ) (@zj _ _ _ _ _ _ _ yB (@qv _ 0 _ _ (by rfl')) zJ (λ_ _=>rfl))) zJ) (@tR _ _ _ _ _ _ _ (@qv _ 0 _ _ (by rfl')) zJ wH (by intro _;rfl)) (by rfl) (by rfl) (by rfl)) (@zK _ _ _ (@zS _ _ _ _ (@zV _ _ _ _ _ _ _ _ xR (@zV _ _ _ _ _ _ _ _ vQ (@zV _ _ _ _ _ _ _ _ xR (@zV _ _ _ _ _ _ _ _ vp (@zj _ _ _ _ _ _ _ yB (@qv _ 0 _ _ (by rfl')) zJ (λ_ _=>rfl)) (@zj _ _ _ _ _ _ _ yB (@qv _ 0 _ _ (by rfl')) zJ (λ_ _=>rfl))) zJ) zJ) (@qv _ 1 _ _ (by rfl')))))))),?_⟩
 have fin:∀ (x:Int) (i:Hp),0<=x->x<m->Pk3 i l->But l H i->Q (.int x) i:=λx i u t G J=>by
  obtain⟨v,rfl⟩:=Int.eq_ofNat_of_zero_le u;exact k v i t G J
 refine⟨_,rfl,l,_,_,_,rfl,rfl,SqL.of d,rfl,_,_,rfl,rfl,_,rfl,zar (λq=>?_) (λq=>?_)⟩
 ·refine⟨_,rfl,l,_,_,_,rfl,rfl,SqL.of d,rfl,_,rfl,_,_,rfl,rfl,g,?_⟩
  refine⟨_,rfl,l,_,_,_,rfl,rfl,SqL.of d,rfl,_,rfl,_,_,rfl,rfl,⟨g,z⟩,_,rfl,l,_,_,0,rfl,rfl,d,rfl,_,rfl,?_⟩;exact fin _ _ (Wb _ (by lia)) (Wj _ g) ⟨a / m,b,c,zB,Int.ediv_nonneg r (by lia),D,C⟩ λx o e ne=>by rw[zG ne];exact e
 ·refine⟨_,rfl,l,_,_,_,rfl,rfl,SqL.of d,rfl,_,_,rfl,rfl,_,rfl,l,_,_,2,rfl,rfl,d,rfl,?_⟩
  have n:L2.upd H l (.lst ([V.int a,V.int b,V.int c].set 2 (V.int (c+1)))) l=some (.lst [.int a,.int b,.int (c+1)]):=zB;have I:But l H (L2.upd H l (.lst ([V.int a,V.int b,V.int c].set 2 (V.int (c+1))))):=λx o e ne=>by rw[zG ne];exact e
  show wC _ _ _ _ (L2.upd H l (.lst ([V.int a,V.int b,V.int c].set 2 (V.int (c+1)))));generalize L2.upd H l (.lst ([V.int a,V.int b,V.int c].set 2 (V.int (c+1))))=H1 at *;refine⟨_,rfl,l,_,_,_,rfl,rfl,SqL.of n,rfl,_,_,rfl,rfl,.inr ⟨by decide,by decide⟩,_,_,rfl,rfl,_,rfl,l,_,_,_,rfl,rfl,SqL.of n,rfl,_,_,rfl,rfl,_,_,rfl,rfl,(by show (0:Int)<2147483647;decide),_,rfl,l,_,_,1,rfl,rfl,n,rfl,?_⟩;have B:0<=(b*48271+12345+(c+1))%2147483647:=Wb _ (by decide);have N:(b*48271+12345+(c+1))%2147483647<2147483647:=Wj _ (by decide);generalize p:L2.upd H1 l (HO.lst ([V.int a,V.int b,V.int (c+1)].set 1 (V.int ((b*48271+12345+(c+1))%2147483647))))=H2;have j:H2 l=some (.lst [.int a,.int ((b*48271+12345+(c+1))%2147483647),.int (c+1)]):=by rw[<- p];exact zB
  refine⟨_,rfl,l,_,_,_,rfl,rfl,SqL.of j,rfl,_,rfl,l,_,_,_,rfl,rfl,SqL.of j,rfl,_,_,rfl,rfl,.inl ⟨by grind,by grind⟩,_,_,rfl,rfl,(by show (0:Int)<1999999973;decide),_,_,rfl,rfl,⟨by decide,by decide⟩,_,rfl,_,_,rfl,rfl,g,?_⟩;exact fin _ _ (Wb _ (by lia)) (Wj _ g) ⟨a,_,_,j,r,B,by grind⟩ λx o e ne=>by rw[<- p,zG ne];exact I x o e ne
theorem scL:FnScope ["_law_script","_law_k","_law_cell","_law_digits"] ["_law_script","_law_k"] (zN gZ):=by rfl'
theorem cZ {f:JI}{fd:Yl}(F:Fun K "_law_left" "_law_left" gZ f fd) (G:Mgs mg):FnOk P w K mg base CX0 1 f fd ["_law_script","_law_k"] (qR K):=by
 refine F.ok scL (λn H Q E h=>?_) (λy A outer s H n Q E I h=>?_)
 ·obtain⟨a,ns,k,rfl,_⟩:=h
  rfl
 obtain⟨a,ns,k,rfl,e,v,C,B,q⟩:=h;refine⟨_,(@zH _ _ _ _ _ (@zZ _ _ 2 _ _ _ _ scL.nd rfl (.inl rfl) zJ (by rfl) (by rfl')) (@zH _ _ _ _ _ (@yY _ _ _ _ _ _ _ _ (@zo _ _ _ _ _ _ _ _ kG (@zR _ _ _ _ _ _ _ _ _ zT (by rfl) G.len Y1 (@zA _ _ _ _ _ (@qv _ 0 _ _ (by rfl')) zC (by rfl)) (by decide) (by decide) (by rfl) (by rfl)) zJ (yK _)) (@zK _ _ _ (@zZ _ _ 2 _ _ _ _ scL.nd rfl (.inl rfl) (@zj _ _ _ _ _ _ _ yB (@qv _ 0 _ _ (by rfl')) (@zV _ _ _ _ _ _ _ _ xR (@qv _ 1 _ _ (by rfl')) (@zR _ _ _ _ _ _ _ _ _ zT (by rfl) G.len Y1 (@zA _ _ _ _ _ (@qv _ 0 _ _ (by rfl')) zC (by rfl)) (by decide) (by decide) (by rfl) (by rfl))) (λ_ _=>rfl)) (by rfl) (by rfl'))) zu) (@zH _ _ _ _ _ (@zZ _ _ 3 _ _ _ _ scL.nd rfl (.inl rfl) (@zV _ _ _ _ _ _ _ _ vp (@zV _ _ _ _ _ _ _ _ xR (@zR _ _ _ _ _ _ _ _ _ ni (by rfl) G.abs (by rfl) (@zA _ _ _ _ _ (@qv _ 2 _ _ (by rfl')) zC (by rfl)) (by decide) (by decide) (by rfl) (by rfl)) (@zV _ _ _ _ _ _ _ _ fU zJ zJ)) (@zw _ _ _ _ _ _ _ _ _ qI (by rfl) G.int (by rfl) (@zA _ _ _ _ _ (@ui _ _ _ _ _ _ _ _ za0 (@zR _ _ _ _ _ _ _ _ _ ni (by rfl) G.abs (by rfl) (@zA _ _ _ _ _ (@qv _ 2 _ _ (by rfl')) zC (by rfl)) (by decide) (by decide) (by rfl) (by rfl)) (@zV _ _ _ _ _ _ _ _ fU zJ zJ) (yK _)) zC (by rfl)) (by decide) (by decide) (by rfl) (by rfl))) (by rfl) (by rfl')) (@zK _ _ _ (@zS _ _ _ _ (@yJ _ _ _ _ (@zA _ _ _ _ _ (@qv _ 3 _ _ (by rfl')) (@zA _ _ _ _ _ (@zV _ _ _ _ _ _ _ _ xR (@zV _ _ _ _ _ _ _ _ vp (@zV _ _ _ _ _ _ _ _ xF (@zV _ _ _ _ _ _ _ _ xF (@zV _ _ _ _ _ _ _ _ xR (@qv _ 2 _ _ (by rfl')) zJ) (@zV _ _ _ _ _ _ _ _ vp (@zV _ _ _ _ _ _ _ _ vp zJ (@qv _ 1 _ _ (by rfl'))) (@qv _ 1 _ _ (by rfl')))) zJ) zJ) zJ) (@zA _ _ _ _ _ zJ zC (by rfl)) (by rfl)) (by rfl)))))))),?_⟩;have d:(ns.map V.int).length=ns.length:=Jc _;refine zbn ?_;refine lM (λσ m=>m=H/\∃ x:Int,σ=[some (.ref a),some (.int k),some (.int x),none]) ?_ λD c _=>?_
 ·rintro σ m ⟨rfl,x,rfl⟩
  have o:=Wb ((x%2305843009213693951+7919*k*k+11)*48271) (show (2147483647:Int)≠0 by decide);have J:=Wj ((x%2305843009213693951+7919*k*k+11)*48271) (show (0:Int)<2147483647 by decide);have u:∀ b:Bool,(0:Int)<=(if b=true then (1:Int) else 0):=by decide
  have t:∀ b:Bool,-(2 ^ 64)<(if b=true then (1:Int) else 0)/\(if b=true then (1:Int) else 0)<2 ^ 64:=by decide
  refine⟨_,rfl,_,rfl,_,_,rfl,rfl,⟨by decide,by decide,by decide⟩,_,_,rfl,rfl,(by show (0:Int)<10 ^ 60;decide),?_⟩;refine⟨_,rfl,_,rfl,_,_,rfl,rfl,⟨by decide,by decide,by decide⟩,_,_,rfl,rfl,.inr ⟨_,rfl,_,_,rfl,rfl,.inr (t _),?_⟩⟩;refine⟨_,rfl,_,rfl,_,_,rfl,rfl,(by show (0:Int)<2305843009213693951;decide),_,rfl,_,_,rfl,rfl,.inl ⟨by decide,by decide⟩,_,rfl,_,_,rfl,rfl,.inr ⟨by lia,by lia⟩,_,_,rfl,rfl,_,_,rfl,rfl,_,_,rfl,rfl,.inr ⟨by decide,by decide⟩,_,_,rfl,rfl,(by show (0:Int)<2147483647;decide),(by show 3<=sizeLine;decide),λl g=>?_⟩;refine q l _ g (zD g _) ⟨_,_,_,zB,Int.mul_nonneg (Wb _ (by decide)) (u _),o,by grind⟩
 refine⟨_,rfl,a,_,rfl,.inl e,_,_,rfl,rfl,_,rfl,zar (λz=>?_) (λz=>?_)⟩
 ·have np:0<ns.length:=by
   have:=Yq z;rw[d]at this;simp_all
  refine⟨_,rfl,_,rfl,_,rfl,a,_,rfl,.inl e,_,_,rfl,rfl,by rw[d];simp_all,?_⟩;have r:=Wb k (show ((ns.length:Nat):Int)≠0 by lia);have p:=Wj k (show (0:Int)<(ns.length:Nat) by simp_all);rw[d];obtain⟨j,i⟩:=Int.eq_ofNat_of_zero_le r;rw[i]at p;exact⟨a,_,k%(ns.length:Nat),_,rfl,rfl,e,(by rw[i];exact uJ (by simp_all)),c _ _ ⟨rfl,_,rfl⟩⟩
 ·exact c _ _ ⟨rfl,0,rfl⟩
noncomputable abbrev mP:Stmt:=top 29
noncomputable def tF:Sp:=λd H Q _=>∃ (l p:JI) (b:List V),d=[.ref l,.ref p]/\H p=some (.tup b)/\b.length<=100000/\Pk3 H l/\∀ t c a,c.Perm b->a t=some (.tup c)->Pk3 a l->But l H a->Q (.ref t) a
theorem zaT:FnScope ["_law_left_here","_law_row","_law_some","_law_found"] ["_law_left_here","_law_row"] (zN mP):=by rfl'
theorem fi {f fK:JI}{fd dK:Yl}(F:Fun K "_law_mixed" "_law_mixed" mP f fd) (G:Mgs mg) (C:Use P w K mg base "_law_pick" ["_law_left_here","_law_many"] 1 uZ fK dK):FnOk P w K mg base CX0 2 f fd ["_law_left_here","_law_row"] tF:=by
 refine F.ok zaT (λW H Q E h=>?_) (λax A outer s H W Q E T h=>?_)
 ·obtain⟨l,p,xs,rfl,_⟩:=h
  rfl
 obtain⟨l,p,xs,rfl,Y,xl,S,k⟩:=h;refine⟨_,(@zH _ _ _ _ _ (@vj _ _ 2 3 _ _ _ _ _ _ _ _ _ _ _ rfl zaT.nd rfl rfl (by decide) rfl rfl (@zA _ _ _ _ _ (@zw _ _ _ _ _ _ _ _ _ y4 (by rfl) G.list (by rfl) (@zA _ _ _ _ _ (@qv _ 1 _ _ (by rfl')) zC (by rfl)) (by decide) (by decide) (by rfl) (by rfl)) (@zA _ _ _ _ _ (@yJ _ _ _ _ zC) zC (by rfl)) (by rfl)) (by rfl) (by rfl)) (@zH _ _ _ _ _ (@vO _ _ _ _ _ _ Yb (@zo _ _ _ _ _ _ _ _ (mj T.units0) (@qv _ 2 _ _ (by rfl')) (@yJ _ _ _ _ zC) (yK _)) (@zK _ _ _ (@yj _ _ _ _ (@wB _ _ _ _ _ _ _ _ _ _ _ _ Y2 Yy Yz yc (@qv _ 3 _ _ (by rfl')) (@zA _ _ _ _ _ (@wB _ _ _ _ _ _ _ _ _ _ _ _ Y2 PySem.F.slot_list_pop PySem.F.type_list_pop eC (@qv _ 2 _ _ (by rfl')) (@zA _ _ _ _ _ (@zQ _ _ _ _ _ _ _ _ _ _ _ _ _ _ _ _ C.ok T (by rfl) C.m C.kp C.b .nil zY (@zA _ _ _ _ _ (@qv _ 0 _ _ (by rfl')) (@zA _ _ _ _ _ (@zR _ _ _ _ _ _ _ _ _ zT (by rfl) G.len Y1 (@zA _ _ _ _ _ (@qv _ 2 _ _ (by rfl')) zC (by rfl)) (by decide) (by decide) (by rfl) (by rfl)) zC (by rfl)) (by rfl)) (by decide) (by rfl) (by rfl)) zC (by rfl)) (by rfl) (by rfl) (by rfl) (by rfl) (by rfl)) zC (by rfl)) (by rfl) (by rfl) (by rfl) (by rfl) (by rfl)) (by rfl)))) (@zK _ _ _ (@zS _ _ _ _ (@zw _ _ _ _ _ _ _ _ _ yO (by rfl) G.tuple (by rfl) (@zA _ _ _ _ _ (@qv _ 3 _ _ (by rfl')) zC (by rfl)) (by decide) (by decide) (by rfl) (by rfl)))))),?_⟩;refine⟨_,rfl,p,_,rfl,.inr (SqT.of Y),λlo u=>?_⟩;have z:=zD u (.lst xs);have y:=S.ne u;refine⟨(by show 0<=sizeLine;decide),λlt d=>?_⟩;have N:=zD d (.lst []);have x:=(S.keep z).ne d;have not:lo≠lt:=zE zB d;have M:Frs l H lo:=λb o e _=>zE e u;have flt:Frs l H lt:=λb o e _=>zE (z _ _ e) d;refine⟨_,_,rfl,?_⟩
 refine⟨λm σ n=>σ=[some (.ref l),some (.ref p),some (.ref lo),some (.ref lt)]/\Pk3 n l/\But l H n/\∃ c g,n lo=some (.lst c)/\c.length=m/\n lt=some (.lst g)/\(g++c).Perm xs,
  ⟨_,rfl,(S.keep z).keep N,(But.of z).trans (But.of N),xs,[],by rw[zG not];exact zB,rfl,zB,.refl _⟩,?_⟩
 rintro m σ n ⟨rfl,S3,B3,c,g,O,ul,X,pm⟩;refine⟨_,rfl,(by show 0<=sizeLine;decide),λe Z=>?_⟩;have v:=zD Z (.lst []);refine⟨lo,e,c,rfl,rfl,SqL.of (v _ _ O),SqL.of zB,_,rfl,?_⟩;have U:=S3.keep v;have V:But l H (L2.upd n e (.lst [])):=B3.trans (But.of v);have r:=v _ _ O;have q:=v _ _ X;generalize L2.upd n e (.lst [])=H4 at *;have ao:g.length+c.length=xs.length:=by rw[<- Jb];exact pm.length_eq
 by_cases un:c=[]
 ·rw[show (!c.isEmpty)=false by rw[un];rfl]
  rw[un,JZ]at pm;refine zz ⟨_,rfl,lt,_,rfl,.inl ⟨SqL.of q,λt R=>k t g _ pm zB (U.keep (zD R _)) (V.trans (But.of (zD R _)))⟩⟩
 have up:0<c.length:=ZC.mpr un
 rw[show (!c.isEmpty)=true by cases c with
  | nil=>exact absurd rfl un
  | cons a b=>rfl]
 refine yV ⟨_,λab H' hN=>⟨m-1,by lia,hN⟩,?_⟩;refine⟨_,rfl,.inl ⟨rfl,_,SqL.of q⟩,_,rfl,.inl ⟨rfl,_,SqL.of r⟩,_,rfl,_,rfl,lo,_,rfl,.inl (SqL.of r),l,_,rfl,by lia,by lia,U,λj H5 hk S5 D=>?_⟩;have B:j<c.length:=by lia
 have L:=D lo _ r y.symm;have J:=D lt _ q x.symm;refine⟨lo,_,_,j,c[j],rfl,rfl,L,by lia,by lia,(pG (eT (xs:=c) (i:=j) B)).1,J8 B,?_⟩;have I:L2.upd H5 lo (.lst (c.eraseIdx j)) lt=some (.lst g):=by rw[zG not.symm];exact J
 refine⟨lt,_,_,rfl,rfl,I,by rw[JE];lia,rfl,(S5.upd y).upd x,((V.trans D).upd M).upd flt,c.eraseIdx j,g++[c[j]],by rw[zG not];exact zB,by rw[List.length_eraseIdx,Jm B];lia,zB,?_⟩;refine List.Perm.trans ?_ pm;rw[JW];refine List.Perm.append_left g ?_;exact sO c j B
noncomputable abbrev oJ:Stmt:=top 30
noncomputable def tE (m:Nat):Sp:=λh H Q _=>∃ g f a b,h=[.ref g,.ref f]/\H g=some (.lst (zW a))/\H f=some (.lst (zW b))/\a.length=2 ^ m/\b.length=2 ^ m/\m<=8/\∀ c lf le e d,Same H d->H lf=none->d c=some (.tup [.ref lf,.ref le])->d lf=some (.lst e)->Prs d e (Bn.mergeN m a b).1->d le=some (.lst (zW (Bn.mergeN m a b).2))->Q (.ref c) d
theorem lB (row:List Nat)(i:Nat)(h:i<=row.length):vW (zW row) none (some (i:Int))=zW (row.take i):=by
 rw[sR _ _ (by rw[zy];exact h)];unfold zW;rw[List.map_take]
theorem lC (row:List Nat)(i:Nat)(h:i<=row.length):vW (zW row) (some (i:Int)) none=zW (row.drop i):=by
 rw[sS _ _ (by rw[zy];exact h)];unfold zW;rw[List.map_drop]
theorem kO (off:Nat)(a:List Nat):by2 off (zW a)=zW (by2 off a):=by unfold zW;exact bY _ off a
theorem bw (a b:List Nat):zW a++zW b=zW (a++b):=by unfold zW;exact(JG ..).symm
theorem eI (row:List Nat)(i:Nat)(h:i<row.length):(zW row)[i]?=some (.int ((row.getD i 0:Nat):Int)):=by
 unfold zW;rw[JV,J8 h,JA,J8 h];rfl
theorem wn:∀ (a b:List Nat) (j:Nat),j<a.length->j<b.length->yX (a.take (j+1)) (b.take (j+1))=yX (a.take j) (b.take j)++[a.getD j 0,b.getD j 0]
 | x::a,y::b,0,_,_=>by rw[Za,Za,ZN,ZN];rfl
 | x::a,y::b,j+1,ha,hb=>by
  rw[Za,Za,Za,Za];show x::y::yX (a.take (j+1)) (b.take (j+1))=x::y::(yX (a.take j) (b.take j)++[a.getD j 0,b.getD j 0]);rw[wn a b j (by simpa using ha) (by simpa using hb)]
theorem pV {a b:List Nat}{j:Nat}(ha:j<a.length)(hb:j<b.length):(a.zip b).take (j+1)=(a.zip b).take j++[(a.getD j 0,b.getD j 0)]:=by
 rw[Z5 (by rw[ZG];lia),List.getElem_zip,JA,J8 ha,JA,J8 hb];rfl
theorem qx {a:List Nat}{j:Nat}{x:V}(h:(zW a)[j]?=some x):j<a.length/\x=.int ((a.getD j 0:Nat):Int):=by
 have b:j<a.length:=by rw[<- zy a];exact(J9.mp h).1
 rw[eI a j b]at h;exact⟨b,(Jf h).symm⟩
theorem oF:FnScope ["_law_one","_law_other","_law_forks","_law_first_here","_law_more_here","_law_second","_law_ends","_law_x","_law_y"] ["_law_one","_law_other"] (zN oJ):=by rfl'
theorem oX {f:JI}{fd:Yl}(F:Fun K "_law_merger" "_law_merger" oJ f fd) (G:Mgs mg) (bS:Binds K fd ["_law_one","_law_other"] []) (mS:mg "_law_merger" = some (.ref f)) (n:Nat)
  (GS:FnOk P w K mg base CX0 n f fd ["_law_one","_law_other"] (λvs H Q E=>∃ m,n=m+1/\tE m vs H Q E)):FnOk P w K mg base CX0 (n+1) f fd ["_law_one","_law_other"] (tE n):=by
 have D:Use P w K mg base "_law_merger" ["_law_one","_law_other"] n (λvs H Q E=>∃ m,n=m+1/\tE m vs H Q E) f fd:=⟨GS,bS,F.kp,mS⟩;refine F.ok oF (λvs H Q E h=>?_) (λcx A outer s H vs Q E hr h=>?_)
 ·obtain⟨L,U,a,b,rfl,_⟩:=h
  rfl
 obtain⟨L,U,a,b,rfl,h1,h2,al,bl,bu,k⟩:=h;refine⟨_,(@zH _ _ _ _ _ (@yY _ _ _ _ _ _ _ _ (@zo _ _ _ _ _ _ _ _ vR (@zR _ _ _ _ _ _ _ _ _ zT (by rfl) G.len Y1 (@zA _ _ _ _ _ (@qv _ 0 _ _ (by rfl')) zC (by rfl)) (by decide) (by decide) (by rfl) (by rfl)) zJ (yK _)) (@zK _ _ _ (@zS _ _ _ _ (@zX _ _ _ _ _ (@zA _ _ _ _ _ (@yJ _ _ _ _ (@zA _ _ _ _ _ (@zX _ _ _ _ _ (@zA _ _ _ _ _ (@zj _ _ _ _ _ _ _ yB (@qv _ 0 _ _ (by rfl')) zJ (λ_ _=>rfl)) (@zA _ _ _ _ _ (@zj _ _ _ _ _ _ _ yB (@qv _ 1 _ _ (by rfl')) zJ (λ_ _=>rfl)) zC (by rfl)) (by rfl))) zC (by rfl))) (@zA _ _ _ _ _ (@yJ _ _ _ _ (@zA _ _ _ _ _ (@zj _ _ _ _ _ _ _ yB (@qv _ 0 _ _ (by rfl')) zJ (λ_ _=>rfl)) (@zA _ _ _ _ _ (@zj _ _ _ _ _ _ _ yB (@qv _ 1 _ _ (by rfl')) zJ (λ_ _=>rfl)) zC (by rfl)) (by rfl))) zC (by rfl)) (by rfl))))) zu) (@zH _ _ _ _ _ (@yT _ _ _ _ _ _ (@zQ _ _ _ _ _ _ _ _ _ _ _ _ _ _ _ _ D.ok hr (by rfl) D.m D.kp D.b .nil zY (@zA _ _ _ _ _ (@qt _ _ _ _ _ _ _ _ _ (@qv _ 0 _ _ (by rfl')) yq (@yW _ _ _ zJ)) (@zA _ _ _ _ _ (@qt _ _ _ _ _ _ _ _ _ (@qv _ 1 _ _ (by rfl')) (@yW _ _ _ zJ) (@yW _ _ _ zJ)) zC (by rfl)) (by rfl)) (by decide) (by rfl) (by rfl)) (@yQ _ _ _ _ _ _ rfl (@zP _ _ _ _ _ (@zM _ _ 2 _ oF.nd rfl (.inl rfl) (by rfl')) (@zP _ _ _ _ _ (@zM _ _ 3 _ oF.nd rfl (.inl rfl) (by rfl')) yA (by rfl)) (by rfl)) (by rfl) (by rfl)) (by rfl) (by rfl) (by rfl)) (@zH _ _ _ _ _ (@yT _ _ _ _ _ _ (@zQ _ _ _ _ _ _ _ _ _ _ _ _ _ _ _ _ D.ok hr (by rfl) D.m D.kp D.b .nil zY (@zA _ _ _ _ _ (@qt _ _ _ _ _ _ _ _ _ (@qv _ 0 _ _ (by rfl')) (@yW _ _ _ zJ) (@yW _ _ _ zJ)) (@zA _ _ _ _ _ (@qt _ _ _ _ _ _ _ _ _ (@qv _ 1 _ _ (by rfl')) yq (@yW _ _ _ zJ)) zC (by rfl)) (by rfl)) (by decide) (by rfl) (by rfl)) (@yQ _ _ _ _ _ _ rfl (@zP _ _ _ _ _ (@zM _ _ 4 _ oF.nd rfl (.inl rfl) (by rfl')) (@zP _ _ _ _ _ (@zM _ _ 5 _ oF.nd rfl (.inl rfl) (by rfl')) yA (by rfl)) (by rfl)) (by rfl) (by rfl)) (by rfl) (by rfl) (by rfl)) (@zH _ _ _ _ _ (@vj _ _ 2 6 _ _ _ _ _ _ _ _ _ _ _ rfl oF.nd rfl rfl (by decide) rfl rfl (@zA _ _ _ _ _ (@zV _ _ _ _ _ _ _ _ ww (@qv _ 2 _ _ (by rfl')) (@qv _ 4 _ _ (by rfl'))) (@zA _ _ _ _ _ (@yJ _ _ _ _ zC) zC (by rfl)) (by rfl)) (by rfl) (by rfl)) (@zH _ _ _ _ _ (@y7 _ _ _ _ _ _ _ _ Yb rfl (@g9 _ _ _ _ _ _ _ _ _ true true rfl G.zip (@zA _ _ _ _ _ (@qv _ 3 _ _ (by rfl')) (@zA _ _ _ _ _ (@qv _ 5 _ _ (by rfl')) zC (by rfl)) (by rfl)) (by rfl) (by rfl)) (@yQ _ _ _ _ _ _ rfl (@zP _ _ _ _ _ (@zM _ _ 7 _ oF.nd rfl (.inl rfl) (by rfl')) (@zP _ _ _ _ _ (@zM _ _ 8 _ oF.nd rfl (.inl rfl) (by rfl')) yA (by rfl)) (by rfl)) (by rfl) (by rfl)) (@zH _ _ _ _ _ (@yj _ _ _ _ (@wB _ _ _ _ _ _ _ _ _ _ _ _ Y2 Yy Yz yc (@qv _ 2 _ _ (by rfl')) (@zA _ _ _ _ _ (@zX _ _ _ _ _ (@zA _ _ _ _ _ (@qv _ 7 _ _ (by rfl')) (@zA _ _ _ _ _ (@qv _ 8 _ _ (by rfl')) zC (by rfl)) (by rfl))) zC (by rfl)) (by rfl) (by rfl) (by rfl) (by rfl) (by rfl)) (by rfl)) (@zK _ _ _ (@yj _ _ _ _ (@wB _ _ _ _ _ _ _ _ _ _ _ _ Y2 PySem.F.slot_list_extend PySem.F.type_list_extend vq (@qv _ 6 _ _ (by rfl')) (@zA _ _ _ _ _ (@yJ _ _ _ _ (@zA _ _ _ _ _ (@qv _ 7 _ _ (by rfl')) (@zA _ _ _ _ _ (@qv _ 8 _ _ (by rfl')) zC (by rfl)) (by rfl))) zC (by rfl)) (by rfl) (by rfl) (by rfl) (by rfl) (by rfl)) (by rfl)))) (by intro _;rfl)) (@zK _ _ _ (@zS _ _ _ _ (@zX _ _ _ _ _ (@zA _ _ _ _ _ (@qv _ 2 _ _ (by rfl')) (@zA _ _ _ _ _ (@qv _ 6 _ _ (by rfl')) zC (by rfl)) (by rfl)))))))))),?_⟩;have na:=zy a;have nb:=zy b;have p8:2 ^ n<=2 ^ 8:=YD (by decide) bu;have e8:2 ^ 8=256:=rfl;refine⟨_,rfl,L,_,rfl,.inl (SqL.of h1),rfl,_,rfl,?_⟩
 cases n with
 | zero =>
  have a9:a.length=1:=al;have cm:b.length=1:=bl;rw[Jt (show V.int (((zW a).length:Nat):Int)=V.int 1 by rw[na,a9];rfl)];obtain⟨x,rfl⟩:=List.length_eq_one_iff.mp a9;obtain⟨y,rfl⟩:=List.length_eq_one_iff.mp cm;refine yV ⟨_,rfl,L,_,0,_,rfl,rfl,SqL.of h1,rfl,_,rfl,U,_,0,_,rfl,rfl,SqL.of h2,rfl,(by show 2<=sizeLine;decide),λt ht=>⟨(by show 1<=sizeLine;decide),λlf hf=>?_⟩⟩;have Z:=zD ht (.tup [.int x,.int y]);have Y:=zD hf (.lst [.ref t]);have u2:=Z.trans Y;refine⟨_,rfl,L,_,0,_,rfl,rfl,SqL.of (u2 _ _ h1),rfl,_,rfl,U,_,0,_,rfl,rfl,SqL.of (u2 _ _ h2),rfl,(by show 2<=sizeLine;decide),λle he=>⟨(by show 2<=sizeLine;decide),λc hc=>?_⟩⟩;have X:=zD he (.lst [.int x,.int y]);have J:=zD hc (.tup [.ref lf,.ref le])
  exact k c lf le [.ref t] _ ((u2.trans X).trans J) (vS Z hf) (zr hc _) (J _ _ (X _ _ (zr hf _))) ⟨⟨t,rfl,J _ _ (X _ _ (Y _ _ (zr ht _)))⟩,trivial⟩ (J _ _ (zr he _))
 | succ m =>
  obtain⟨a0,a1⟩:=vZ al;obtain⟨b0,b1⟩:=vZ bl;have pw:2 ^ (m+1)=2 ^ m*2:=Zh ..;have p0:=ZK (n:=m);rw[Jj (show ¬ V.int (((zW a).length:Nat):Int)=V.int 1 by intro z;injection z with z;lia)];refine zz ⟨_,rfl,2,rfl,rfl,0,L,_,.inl ⟨rfl,rfl⟩,rfl,SqL.of h1,λq1 a6=>?_⟩;rw[kO];have Z:=zD a6 (.lst (zW (by2 0 a)));refine⟨_,rfl,1,rfl,2,rfl,rfl,1,U,_,.inr ⟨rfl,rfl⟩,rfl,SqL.of (Z _ _ h2),λq2 a5=>?_⟩;rw[kO];have Y:=zD a5 (.lst (zW (by2 1 b)));refine⟨m,rfl,q1,q2,by2 0 a,by2 1 b,rfl,Y _ _ (zr a6 _),zr a5 _,a0,b1,by lia,λc3 bB i N H3 X _ b9 b6 ax b7=>?_⟩;have u3:=(Z.trans Y).trans X;refine⟨c3,_,rfl,SqT.of b9,rfl,_,_,rfl,_,_,rfl,rfl,?_⟩;refine⟨_,rfl,1,rfl,2,rfl,rfl,1,L,_,.inr ⟨rfl,rfl⟩,rfl,SqL.of (u3 _ _ h1),λq4 a4=>?_⟩;rw[kO];have J:=zD a4 (.lst (zW (by2 1 a)));refine⟨_,rfl,2,rfl,rfl,0,U,_,.inl ⟨rfl,rfl⟩,rfl,SqL.of (J _ _ (u3 _ _ h2)),λq5 a3=>?_⟩;rw[kO];have s5:=zD a3 (.lst (zW (by2 0 b)));refine⟨m,rfl,q4,q5,by2 1 a,by2 0 b,rfl,s5 _ _ (zr a4 _),zr a3 _,a1,b0,by lia,λc6 aT g M H6 s6 _ b8 b5 ao R=>?_⟩;have u6:=(J.trans s5).trans s6;refine⟨c6,_,rfl,SqT.of b8,rfl,_,_,rfl,_,_,rfl,rfl,?_⟩;obtain⟨xl,xf⟩:=xK m _ _ a0 b1;obtain⟨yl,yf⟩:=xK m _ _ a1 b0;have bd:=(vH m (by lia)).2;have ct:=ax.len;have cn:=ao.len;have O:=u3.trans u6;have B:=u6 _ _ b7;refine⟨_,rfl,_,rfl,bB,aT,_,_,rfl,rfl,u6 _ _ b6,b5,by rw[JE];lia,λd p=>⟨(by show 0<=sizeLine;decide),λu l=>⟨_,_,rfl,?_⟩⟩⟩;have I:=zD p (.lst (N++M));have W:=zD l (.lst []);have a8:d≠u:=zE (zr p (.lst (N++M))) l;have bc:=(Prs.app (ax.tups (Tups.of u6)) ao).tups (Tups.of (I.trans W));have a7:H d=none:=vS O p;have b4:H u=none:=vS (O.trans I) l;generalize hF:(Bn.mergeN m (by2 0 a) (by2 1 b)).2=fst at *;generalize hS:(Bn.mergeN m (by2 1 a) (by2 0 b)).2=snd at *;have e3:=W _ _ (I _ _ B);have e6:=W _ _ (I _ _ R);have n3:i≠d:=zE B p;have n6:g≠d:=zE R p;have bt:i≠u:=zE (I _ _ B) l;have bo:g≠u:=zE (I _ _ R) l;refine⟨_,rfl,_,rfl,i,g,_,_,rfl,SqL.of e3,SqL.of e6,?_⟩;refine ke (K:=K) (b1:=true) (b2:=true) (a1:=i) (a2:=g) (xs:=zW fst) (ys:=zW snd) (by rw[zy,zy,xl,yl]) (λj σ C=>(∃ v7 v8,σ=[some (.ref L),some (.ref U),some (.ref d),some (.ref i),some (.ref aT),some (.ref g),some (.ref u),v7,v8])/\Same H C/\C i=some (.lst (zW fst))/\C g=some (.lst (zW snd))/\(∃ r,C d=some (.lst r)/\Prs C r ((Bn.mergeN m (by2 0 a) (by2 1 b)).1++(Bn.mergeN m (by2 1 a) (by2 0 b)).1++(fst.zip snd).take j))/\C u=some (.lst (zW (yX (fst.take j) (snd.take j))))) ?_ (λj σ C _ z=>⟨SqL.of z.2.2.1,SqL.of z.2.2.2.1⟩) ?_ ?_
  ·refine⟨⟨_,_,rfl⟩,(O.trans I).trans W,e3,e6,⟨N++M,W _ _ (zr p _),?_⟩,zr l _⟩
   rw[ZN,JZ];exact bc
  ·rintro j x y T σ C hx hy hT ⟨⟨v7,v8,rfl⟩,s9,e3,e6,⟨r,h7,v⟩,h8⟩
   obtain⟨j1,rfl⟩:=qx hx;obtain⟨j2,rfl⟩:=qx hy;have pl:=v.len;rw[Jb,Jb,JC,ZG]at pl;have sT:=zD hT (.tup [.int ((fst.getD j 0:Nat):Int),.int ((snd.getD j 0:Nat):Int)]);refine⟨T,_,rfl,SqT.of zB,rfl,_,_,rfl,_,_,rfl,rfl,?_⟩;refine⟨_,rfl,.inl ⟨rfl,_,SqL.of (sT _ _ h7)⟩,_,rfl,_,rfl,(by show 2<=sizeLine;decide),λt ht=>?_⟩;have st:=zD ht (.tup [.int ((fst.getD j 0:Nat):Int),.int ((snd.getD j 0:Nat):Int)]);have ut:=sT.trans st;refine⟨d,r,_,rfl,rfl,ut _ _ h7,by rw[JE];lia,?_⟩;have b3:=zr ht (.tup [.int ((fst.getD j 0:Nat):Int),.int ((snd.getD j 0:Nat):Int)]);have cc:=ut _ _ h7;have cb:=ut _ _ h8;have ck:=ut _ _ e3;have cf:=ut _ _ e6;have ba:=s9.trans ut;have ab:=v.tups (Tups.of ut);generalize L2.upd (L2.upd C T (.tup [.int ((fst.getD j 0:Nat):Int),.int ((snd.getD j 0:Nat):Int)])) t (.tup [.int ((fst.getD j 0:Nat):Int),.int ((snd.getD j 0:Nat):Int)])=H9 at *;have tq:=Tups.lst (ys:=r++[.ref t]) cc;have S:L2.upd H9 d (.lst (r++[.ref t])) u=some (.lst (zW (yX (fst.take j) (snd.take j)))):=by rw[zG a8.symm];exact cb
   refine⟨_,rfl,.inl ⟨rfl,_,SqL.of S⟩,_,rfl,_,rfl,(by show 2<=sizeLine;decide),λq hq=>?_⟩;have sq:=zD hq (.lst [.int ((fst.getD j 0:Nat):Int),.int ((snd.getD j 0:Nat):Int)]);have tl:=xN (fst.take j) (snd.take j) (by rw[JC,JC];lia);rw[JC]at tl;refine⟨u,q,_,_,rfl,rfl,sq _ _ S,zr hq _,by rw[zy,JE,tl];show _+2<=_;lia,?_⟩;have n8:∀ {c:JI}{o:HO},L2.upd H9 d (.lst (r++[.ref t])) c=some o->c≠u->L2.upd (L2.upd (L2.upd H9 d (.lst (r++[.ref t]))) q (.lst [.int ((fst.getD j 0:Nat):Int),.int ((snd.getD j 0:Nat):Int)])) u (.lst (zW (yX (fst.take j) (snd.take j))++[.int ((fst.getD j 0:Nat):Int),.int ((snd.getD j 0:Nat):Int)])) c=some o:=λe ne=>by rw[zG ne];exact sq _ _ e
   refine⟨⟨_,_,rfl⟩,λc o e=>n8 (by rw[zG (zE e a7)];exact ba c o e) (zE e b4),n8 (by rw[zG n3];exact ck) bt,n8 (by rw[zG n6];exact cf) bo,⟨r++[.ref t],n8 zB a8,?_⟩,?_⟩
   ·rw[pV j1 j2,<- JW]
    have tz:Tups (L2.upd H9 d (.lst (r++[.ref t]))) _:=λc xs e=>n8 e (yD e S (λz=>by cases z));exact(Prs.add (f:=(fst.getD j 0,snd.getD j 0)) (tq _ _ b3) (ab.tups tq)).tups tz
   ·rw[wn fst snd j j1 j2]
    have e:zW (yX (fst.take j) (snd.take j)++[fst.getD j 0,snd.getD j 0])=zW (yX (fst.take j) (snd.take j))++[.int ((fst.getD j 0:Nat):Int),.int ((snd.getD j 0:Nat):Int)]:=by rw[<- bw];rfl
    rw[e];exact zB
  ·rintro σ C ⟨⟨v7,v8,rfl⟩,s9,e3,e6,⟨r,h7,v⟩,h8⟩
   refine⟨_,rfl,_,rfl,(by show 2<=sizeLine;decide),λc hc=>?_⟩;have sc:=zD hc (.tup [.ref d,.ref u]);have eN:Bn.mergeN (m+1) a b=((Bn.mergeN m (by2 0 a) (by2 1 b)).1++(Bn.mergeN m (by2 1 a) (by2 0 b)).1++fst.zip snd,yX fst snd):=by rw[<- hF,<- hS];rfl
   refine k c d u r _ (s9.trans sc) a7 (zr hc _) (sc _ _ h7) ?_ ?_
   ·rw[eN]
    rw[Y8 (by rw[zy,ZG];simp_all)]at v;exact v.tups (Tups.of sc)
   ·rw[eN]
    rw[Y8 (by rw[zy];exact Jd _),Y8 (by rw[zy];simp_all)]at h8;exact sc _ _ h8
theorem kJ {f:JI}{fd:Yl}(F:Fun K "_law_merger" "_law_merger" oJ f fd) (G:Mgs mg) (b:Binds K fd ["_law_one","_law_other"] []) (a:mg "_law_merger" = some (.ref f)):∀ n:Nat,FnOk P w K mg base CX0 (n+1) f fd ["_law_one","_law_other"] (tE n)
 | 0=>oX F G b a 0 ⟨λvs H Q E ⟨m,h,_⟩=>by simp_all,λA outer s H args us vs Q E _ _ _ _ ⟨m,h,_⟩=>by simp_all⟩
 | m+1=>oX F G b a (m+1) ((kJ F G b a m).imp λvs H Q E ⟨c,h,q⟩=>by cases h;exact q)
noncomputable abbrev wG:Sp:=λa H Q E=>∃ m,m<=4/\tE m a H Q E
theorem jw {f:JI}{fd:Yl}(F:Fun K "_law_merger" "_law_merger" oJ f fd) (G:Mgs mg) (b:Binds K fd ["_law_one","_law_other"] []) (a:mg "_law_merger" = some (.ref f)):FnOk P w K mg base CX0 5 f fd ["_law_one","_law_other"] wG :=
 FnOk.any 4 λm c=>(kJ F G b a m).mono (by simp_all)
noncomputable abbrev oI:Stmt:=top 31
noncomputable def uz (m:Nat):Sp:=λd H Q _=>∃ p row,d=[.ref p]/\H p=some (.lst (zW row))/\row.length=2 ^ m/\m<=4/\∀ c lf le b a,Same H a->a c=some (.tup [.ref lf,.ref le])->a lf=some (.lst b)->Prs a b (xE m row).1->a le=some (.lst (zW (xE m row).2))->Q (.ref c) a
theorem oD:FnScope ["_law_row","_law_half","_law_forks","_law_one","_law_more_here","_law_other","_law_last","_law_ends"] ["_law_row"] (zN oI):=by rfl'
theorem oW {f fB:JI}{fd dB:Yl}(F:Fun K "_law_stairway" "_law_stairway" oI f fd) (G:Mgs mg) (D:Use P w K mg base "_law_merger" ["_law_one","_law_other"] 5 wG fB dB) (bS:Binds K fd ["_law_row"] []) (mS:mg "_law_stairway" = some (.ref f)) (n:Nat)
  (GS:FnOk P w K mg base CX0 (n+5) f fd ["_law_row"] (λvs H Q E=>∃ m,n=m+1/\uz m vs H Q E)):FnOk P w K mg base CX0 (n+6) f fd ["_law_row"] (uz n):=by
 have a:Use P w K mg base "_law_stairway" ["_law_row"] (n+5) (λvs H Q E=>∃ m,n=m+1/\uz m vs H Q E) f fd:=⟨GS,bS,F.kp,mS⟩;refine F.ok oD (λvs H Q E h=>?_) (λa9 A outer s H vs Q E M h=>?_)
 ·obtain⟨p,row,rfl,_⟩:=h
  rfl
 obtain⟨p,row,rfl,e,L,S,k⟩:=h;have Y:Room 5 _:=M.mono (by lia);refine⟨_,(@zH _ _ _ _ _ (@yY _ _ _ _ _ _ _ _ (@zo _ _ _ _ _ _ _ _ vR (@zR _ _ _ _ _ _ _ _ _ zT (by rfl) G.len Y1 (@zA _ _ _ _ _ (@qv _ 0 _ _ (by rfl')) zC (by rfl)) (by decide) (by decide) (by rfl) (by rfl)) zJ (yK _)) (@zK _ _ _ (@zS _ _ _ _ (@zX _ _ _ _ _ (@zA _ _ _ _ _ (@yJ _ _ _ _ zC) (@zA _ _ _ _ _ (@zw _ _ _ _ _ _ _ _ _ y4 (by rfl) G.list (by rfl) (@zA _ _ _ _ _ (@qv _ 0 _ _ (by rfl')) zC (by rfl)) (by decide) (by decide) (by rfl) (by rfl)) zC (by rfl)) (by rfl))))) zu) (@zH _ _ _ _ _ (@zZ _ _ 1 _ _ _ _ oD.nd rfl (.inl rfl) (@zV _ _ _ _ _ _ _ _ vQ (@zR _ _ _ _ _ _ _ _ _ zT (by rfl) G.len Y1 (@zA _ _ _ _ _ (@qv _ 0 _ _ (by rfl')) zC (by rfl)) (by decide) (by decide) (by rfl) (by rfl)) zJ) (by rfl) (by rfl')) (@zH _ _ _ _ _ (@yT _ _ _ _ _ _ (@zQ _ _ _ _ _ _ _ _ _ _ _ _ _ _ _ _ a.ok M (by rfl) a.m a.kp a.b .nil zY (@zA _ _ _ _ _ (@yo _ _ _ _ _ _ _ _ _ _ wS (@qv _ 0 _ _ (by rfl')) yq (@yW _ _ _ (@qv _ 1 _ _ (by rfl')))) zC (by rfl)) (by decide) (by rfl) (by rfl)) (@yQ _ _ _ _ _ _ rfl (@zP _ _ _ _ _ (@zM _ _ 2 _ oD.nd rfl (.inl rfl) (by rfl')) (@zP _ _ _ _ _ (@zM _ _ 3 _ oD.nd rfl (.inl rfl) (by rfl')) yA (by rfl)) (by rfl)) (by rfl) (by rfl)) (by rfl) (by rfl) (by rfl)) (@zH _ _ _ _ _ (@yT _ _ _ _ _ _ (@zQ _ _ _ _ _ _ _ _ _ _ _ _ _ _ _ _ a.ok M (by rfl) a.m a.kp a.b .nil zY (@zA _ _ _ _ _ (@yo _ _ _ _ _ _ _ _ _ _ wS (@qv _ 0 _ _ (by rfl')) (@yW _ _ _ (@qv _ 1 _ _ (by rfl'))) yq) zC (by rfl)) (by decide) (by rfl) (by rfl)) (@yQ _ _ _ _ _ _ rfl (@zP _ _ _ _ _ (@zM _ _ 4 _ oD.nd rfl (.inl rfl) (by rfl')) (@zP _ _ _ _ _ (@zM _ _ 5 _ oD.nd rfl (.inl rfl) (by rfl')) yA (by rfl)) (by rfl)) (by rfl) (by rfl)) (by rfl) (by rfl) (by rfl)) (@zH _ _ _ _ _ (@yT _ _ _ _ _ _ (@zQ _ _ _ _ _ _ _ _ _ _ _ _ _ _ _ _ D.ok Y (by rfl) D.m D.kp D.b .nil zY (@zA _ _ _ _ _ (@qv _ 3 _ _ (by rfl')) (@zA _ _ _ _ _ (@qv _ 5 _ _ (by rfl')) zC (by rfl)) (by rfl)) (by decide) (by rfl) (by rfl)) (@yQ _ _ _ _ _ _ rfl (@zP _ _ _ _ _ (@zM _ _ 6 _ oD.nd rfl (.inl rfl) (by rfl')) (@zP _ _ _ _ _ (@zM _ _ 7 _ oD.nd rfl (.inl rfl) (by rfl')) yA (by rfl)) (by rfl)) (by rfl) (by rfl)) (by rfl) (by rfl) (by rfl)) (@zK _ _ _ (@zS _ _ _ _ (@zX _ _ _ _ _ (@zA _ _ _ _ _ (@zV _ _ _ _ _ _ _ _ ww (@zV _ _ _ _ _ _ _ _ ww (@qv _ 2 _ _ (by rfl')) (@qv _ 4 _ _ (by rfl'))) (@qv _ 6 _ _ (by rfl'))) (@zA _ _ _ _ _ (@qv _ 7 _ _ (by rfl')) zC (by rfl)) (by rfl)))))))))),?_⟩;have nl:=zy row;have p8:2 ^ n<=2 ^ 4:=YD (by decide) S;have e8:2 ^ 4=16:=rfl;refine⟨_,rfl,p,_,rfl,.inl (SqL.of e),rfl,_,rfl,?_⟩
 cases n with
 | zero =>
  have O:row.length=1:=L;rw[Jt (show V.int (((zW row).length:Nat):Int)=V.int 1 by rw[nl,O];rfl)];refine yV ⟨(by show 0<=sizeLine;decide),λl N=>⟨_,rfl,p,_,rfl,.inl (SqL.of (zD N _ _ _ e)),λle hle=>⟨(by show 2<=sizeLine;decide),λc g=>?_⟩⟩⟩;have J:=zD N (.lst []);have C:=zD hle (.lst (zW row));have d:=zD g (.tup [.ref l,.ref le])
  exact k c l le [] _ ((J.trans C).trans d) (zr g _) (d _ _ (C _ _ (zr N _))) trivial (d _ _ (zr hle _))
 | succ m =>
  obtain⟨t1,t2,t3⟩:=vB L;obtain⟨la,lb⟩:=wM L;have pw:2 ^ (m+1)=2 ^ m*2:=Zh ..;have p0:=ZK (n:=m);rw[Jj (show ¬ V.int (((zW row).length:Nat):Int)=V.int 1 by intro z;injection z with z;lia)];refine zz ⟨_,rfl,p,_,rfl,.inl (SqL.of e),_,_,rfl,rfl,⟨by decide,by decide⟩,?_⟩;have eh:(((zW row).length:Nat):Int) / 2=((row.length / 2:Nat):Int):=by rw[nl];lia
  simp only[eh];refine⟨_,rfl,_,rfl,_,rfl,p,_,rfl,SqL.of e,λp1 v=>?_⟩;rw[lB row _ t3];have J:=zD v (.lst (zW (row.take (row.length / 2))));refine⟨m,rfl,p1,row.take (row.length / 2),rfl,zr v _,la,by lia,λc2 W le2 j H2 C a5 ao r a0=>?_⟩;have u2:=J.trans C;refine⟨c2,_,rfl,SqT.of a5,rfl,_,_,rfl,_,_,rfl,rfl,?_⟩;refine⟨_,rfl,_,rfl,_,rfl,p,_,rfl,SqL.of (u2 _ _ e),λp3 u=>?_⟩;rw[lC row _ t3];have d:=zD u (.lst (zW (row.drop (row.length / 2))));refine⟨m,rfl,p3,row.drop (row.length / 2),rfl,zr u _,lb,by lia,λc4 U X i H4 s4 a4 ab q aT=>?_⟩;have B:=d.trans s4;refine⟨c4,_,rfl,SqT.of a4,rfl,_,_,rfl,_,_,rfl,rfl,?_⟩;obtain⟨xl,xf⟩:=wR m _ la;obtain⟨yl,yf⟩:=wR m _ lb;obtain⟨zl,zf⟩:=xK m _ _ xl yl;have a8:=r.len;have a7:=q.len;obtain⟨bc,ba⟩:=vH m (by lia);refine⟨_,rfl,_,rfl,m,by lia,le2,X,_,_,rfl,B _ _ a0,aT,xl,yl,by lia,λc6 T t R H6 b _ a3 Z o ax=>?_⟩;refine⟨c6,_,rfl,SqT.of a3,rfl,_,_,rfl,_,_,rfl,rfl,?_⟩;have a6:=o.len;refine⟨_,rfl,_,rfl,W,U,_,_,rfl,rfl,b _ _ (B _ _ ao),b _ _ ab,by rw[JE];lia,λl7 y=>?_⟩;have s7:=zD y (.lst (j++i));refine⟨_,rfl,l7,T,_,_,rfl,rfl,zr y _,s7 _ _ Z,by rw[JE,Jb];lia,λl8 x=>?_⟩;have s8:=zD x (.lst ((j++i)++R));refine⟨_,rfl,(by show 2<=sizeLine;decide),λc g=>?_⟩;have s9:=zD g (.tup [.ref l8,.ref t]);have I:=(s7.trans s8).trans s9;refine k c l8 t _ _ ((u2.trans B).trans (b.trans I)) (zr g _) (s9 _ _ (zr x _)) ?_ (I _ _ ax);refine Prs.tups (Tups.of I) ?_;exact Prs.app (Prs.app ((r.tups (Tups.of B)).tups (Tups.of b)) (q.tups (Tups.of b))) o
theorem kI {f d:JI}{fd e:Yl}(F:Fun K "_law_stairway" "_law_stairway" oI f fd) (G:Mgs mg) (c:Use P w K mg base "_law_merger" ["_law_one","_law_other"] 5 wG d e) (b:Binds K fd ["_law_row"] []) (a:mg "_law_stairway" = some (.ref f)):∀ n:Nat,FnOk P w K mg base CX0 (n+6) f fd ["_law_row"] (uz n)
 | 0=>oW F G c b a 0 ⟨λvs H Q E ⟨m,h,_⟩=>by simp_all,λA outer s H args us vs Q E _ _ _ _ ⟨m,h,_⟩=>by simp_all⟩
 | m+1=>oW F G c b a (m+1) ((kI F G c b a m).imp λvs H Q E ⟨g,h,q⟩=>by cases h;exact q)
noncomputable abbrev u7:Sp:=λa H Q E=>∃ m,m<=4/\uz m a H Q E
theorem jr {f b:JI}{fd c:Yl}(F:Fun K "_law_stairway" "_law_stairway" oI f fd) (G:Mgs mg) (e:Use P w K mg base "_law_merger" ["_law_one","_law_other"] 5 wG b c) (d:Binds K fd ["_law_row"] []) (a:mg "_law_stairway" = some (.ref f)):FnOk P w K mg base CX0 10 f fd ["_law_row"] u7 :=
 FnOk.any 4 λm g=>(kI F G e d a m).mono (by simp_all)
noncomputable abbrev oH:Stmt:=top 33
noncomputable def uw (m:Nat):Sp:=λd H Q _=>∃ p row,d=[.ref p]/\H p=some (.lst (zW row))/\row.length=2 ^ m/\m<=4/\∀ c lf le b a,Same H a->a c=some (.tup [.ref lf,.ref le])->a lf=some (.lst b)->Prs a b (xO m row).1->a le=some (.lst (zW (xO m row).2))->Q (.ref c) a
theorem qZ:FnScope ["_law_row","_law_half","_law_forks","_law_one","_law_more_here","_law_other","_law_ends","_law_x","_law_y"] ["_law_row"] (zN oH):=by rfl'
theorem oV {f:JI}{fd:Yl}(F:Fun K "_law_tree" "_law_tree" oH f fd) (G:Mgs mg) (bS:Binds K fd ["_law_row"] []) (mS:mg "_law_tree" = some (.ref f)) (n:Nat)
  (GS:FnOk P w K mg base CX0 n f fd ["_law_row"] (λvs H Q E=>∃ m,n=m+1/\uw m vs H Q E)):FnOk P w K mg base CX0 (n+1) f fd ["_law_row"] (uw n):=by
 have u:Use P w K mg base "_law_tree" ["_law_row"] n (λvs H Q E=>∃ m,n=m+1/\uw m vs H Q E) f fd:=⟨GS,bS,F.kp,mS⟩;refine F.ok qZ (λvs H Q E h=>?_) (λb0 A outer s H vs Q E hr h=>?_)
 ·obtain⟨p,row,rfl,_⟩:=h
  rfl
 obtain⟨p,row,rfl,D,rl,a5,k⟩:=h;refine⟨_,(@zH _ _ _ _ _ (@yY _ _ _ _ _ _ _ _ (@zo _ _ _ _ _ _ _ _ vR (@zR _ _ _ _ _ _ _ _ _ zT (by rfl) G.len Y1 (@zA _ _ _ _ _ (@qv _ 0 _ _ (by rfl')) zC (by rfl)) (by decide) (by decide) (by rfl) (by rfl)) zJ (yK _)) (@zK _ _ _ (@zS _ _ _ _ (@zX _ _ _ _ _ (@zA _ _ _ _ _ (@yJ _ _ _ _ zC) (@zA _ _ _ _ _ (@zw _ _ _ _ _ _ _ _ _ y4 (by rfl) G.list (by rfl) (@zA _ _ _ _ _ (@qv _ 0 _ _ (by rfl')) zC (by rfl)) (by decide) (by decide) (by rfl) (by rfl)) zC (by rfl)) (by rfl))))) zu) (@zH _ _ _ _ _ (@zZ _ _ 1 _ _ _ _ qZ.nd rfl (.inl rfl) (@zV _ _ _ _ _ _ _ _ vQ (@zR _ _ _ _ _ _ _ _ _ zT (by rfl) G.len Y1 (@zA _ _ _ _ _ (@qv _ 0 _ _ (by rfl')) zC (by rfl)) (by decide) (by decide) (by rfl) (by rfl)) zJ) (by rfl) (by rfl')) (@zH _ _ _ _ _ (@yT _ _ _ _ _ _ (@zQ _ _ _ _ _ _ _ _ _ _ _ _ _ _ _ _ u.ok hr (by rfl) u.m u.kp u.b .nil zY (@zA _ _ _ _ _ (@yo _ _ _ _ _ _ _ _ _ _ wS (@qv _ 0 _ _ (by rfl')) yq (@yW _ _ _ (@qv _ 1 _ _ (by rfl')))) zC (by rfl)) (by decide) (by rfl) (by rfl)) (@yQ _ _ _ _ _ _ rfl (@zP _ _ _ _ _ (@zM _ _ 2 _ qZ.nd rfl (.inl rfl) (by rfl')) (@zP _ _ _ _ _ (@zM _ _ 3 _ qZ.nd rfl (.inl rfl) (by rfl')) yA (by rfl)) (by rfl)) (by rfl) (by rfl)) (by rfl) (by rfl) (by rfl)) (@zH _ _ _ _ _ (@yT _ _ _ _ _ _ (@zQ _ _ _ _ _ _ _ _ _ _ _ _ _ _ _ _ u.ok hr (by rfl) u.m u.kp u.b .nil zY (@zA _ _ _ _ _ (@yo _ _ _ _ _ _ _ _ _ _ wS (@qv _ 0 _ _ (by rfl')) (@yW _ _ _ (@qv _ 1 _ _ (by rfl'))) yq) zC (by rfl)) (by decide) (by rfl) (by rfl)) (@yQ _ _ _ _ _ _ rfl (@zP _ _ _ _ _ (@zM _ _ 4 _ qZ.nd rfl (.inl rfl) (by rfl')) (@zP _ _ _ _ _ (@zM _ _ 5 _ qZ.nd rfl (.inl rfl) (by rfl')) yA (by rfl)) (by rfl)) (by rfl) (by rfl)) (by rfl) (by rfl) (by rfl)) (@zH _ _ _ _ _ (@zZ _ _ 6 _ _ _ _ qZ.nd rfl (.inl rfl) (@yJ _ _ _ _ zC) (by rfl) (by rfl')) (@zH _ _ _ _ _ (@y7 _ _ _ _ _ _ _ _ Yb rfl (@g9 _ _ _ _ _ _ _ _ _ true true rfl G.zip (@zA _ _ _ _ _ (@qv _ 3 _ _ (by rfl')) (@zA _ _ _ _ _ (@qv _ 5 _ _ (by rfl')) zC (by rfl)) (by rfl)) (by rfl) (by rfl)) (@yQ _ _ _ _ _ _ rfl (@zP _ _ _ _ _ (@zM _ _ 7 _ qZ.nd rfl (.inl rfl) (by rfl')) (@zP _ _ _ _ _ (@zM _ _ 8 _ qZ.nd rfl (.inl rfl) (by rfl')) yA (by rfl)) (by rfl)) (by rfl) (by rfl)) (@zK _ _ _ (@yj _ _ _ _ (@wB _ _ _ _ _ _ _ _ _ _ _ _ Y2 PySem.F.slot_list_extend PySem.F.type_list_extend vq (@qv _ 6 _ _ (by rfl')) (@zA _ _ _ _ _ (@yJ _ _ _ _ (@zA _ _ _ _ _ (@qv _ 7 _ _ (by rfl')) (@zA _ _ _ _ _ (@qv _ 8 _ _ (by rfl')) zC (by rfl)) (by rfl))) zC (by rfl)) (by rfl) (by rfl) (by rfl) (by rfl) (by rfl)) (by rfl))) (by intro _;rfl)) (@zK _ _ _ (@zS _ _ _ _ (@zX _ _ _ _ _ (@zA _ _ _ _ _ (@zV _ _ _ _ _ _ _ _ ww (@zV _ _ _ _ _ _ _ _ ww (@yJ _ _ _ _ (@zA _ _ _ _ _ (@zX _ _ _ _ _ (@zA _ _ _ _ _ (@zj _ _ _ _ _ _ _ yB (@qv _ 0 _ _ (by rfl')) zJ (λ_ _=>rfl)) (@zA _ _ _ _ _ (@zj _ _ _ _ _ _ _ yB (@qv _ 0 _ _ (by rfl')) (@qv _ 1 _ _ (by rfl')) (λ_ _=>rfl)) zC (by rfl)) (by rfl))) zC (by rfl))) (@qv _ 2 _ _ (by rfl'))) (@qv _ 4 _ _ (by rfl'))) (@zA _ _ _ _ _ (@qv _ 6 _ _ (by rfl')) zC (by rfl)) (by rfl))))))))))),?_⟩;have nl:=zy row;have p8:2 ^ n<=2 ^ 4:=YD (by decide) a5;have e8:2 ^ 4=16:=rfl;refine⟨_,rfl,p,_,rfl,.inl (SqL.of D),rfl,_,rfl,?_⟩
 cases n with
 | zero =>
  have a3:row.length=1:=rl;rw[Jt (show V.int (((zW row).length:Nat):Int)=V.int 1 by rw[nl,a3];rfl)];refine yV ⟨(by show 0<=sizeLine;decide),λl hl=>⟨_,rfl,p,_,rfl,.inl (SqL.of (zD hl _ _ _ D)),λle hle=>⟨(by show 2<=sizeLine;decide),λc J=>?_⟩⟩⟩;have s1:=zD hl (.lst []);have s2:=zD hle (.lst (zW row));have I:=zD J (.tup [.ref l,.ref le])
  exact k c l le [] _ ((s1.trans s2).trans I) (zr J _) (I _ _ (s2 _ _ (zr hl _))) trivial (I _ _ (zr hle _))
 | succ m =>
  obtain⟨t1,t2,t3⟩:=vB rl;obtain⟨la,lb⟩:=wM rl;have pw:2 ^ (m+1)=2 ^ m*2:=Zh ..;have p0:=ZK (n:=m);rw[Jj (show ¬ V.int (((zW row).length:Nat):Int)=V.int 1 by intro z;injection z with z;lia)];refine zz ⟨_,rfl,p,_,rfl,.inl (SqL.of D),_,_,rfl,rfl,⟨by decide,by decide⟩,?_⟩;have eh:(((zW row).length:Nat):Int) / 2=((row.length / 2:Nat):Int):=by rw[nl];lia
  simp only[eh];refine⟨_,rfl,_,rfl,_,rfl,p,_,rfl,SqL.of D,λp1 ax=>?_⟩;rw[lB row _ t3];have s1:=zD ax (.lst (zW (row.take (row.length / 2))));refine⟨m,rfl,p1,row.take (row.length / 2),rfl,zr ax _,la,by lia,λc2 W le2 O H2 s2 bc a8 S a9=>?_⟩;have u2:=s1.trans s2;refine⟨c2,_,rfl,SqT.of bc,rfl,_,_,rfl,_,_,rfl,rfl,?_⟩;refine⟨_,rfl,_,rfl,_,rfl,p,_,rfl,SqL.of (u2 _ _ D),λp3 Z=>?_⟩;rw[lC row _ t3];have I:=zD Z (.lst (zW (row.drop (row.length / 2))));refine⟨m,rfl,p3,row.drop (row.length / 2),rfl,zr Z _,lb,by lia,λc4 U g a4 H4 s4 ba a7 R C=>?_⟩;have u4:=I.trans s4;refine⟨c4,_,rfl,SqT.of ba,rfl,_,_,rfl,_,_,rfl,rfl,?_⟩;have B:=u2.trans u4;obtain⟨xl,xf⟩:=vD m _ la;obtain⟨yl,yf⟩:=vD m _ lb;have bo:=S.len;have bl:=R.len;have b:=u4 _ _ a9;have ao:=u4 _ _ a8;have ab:=S.tups (Tups.of u4);have a6:=B _ _ D;generalize hF:(xO m (row.take (row.length / 2))).2=fst at *;generalize hS:(xO m (row.drop (row.length / 2))).2=snd at *;refine⟨(by show 0<=sizeLine;decide),λr a=>?_⟩;have s8:=zD a (.lst []);have bB:H r=none:=vS B a;have bu:le2≠r:=zE b a;have bt:g≠r:=zE C a;refine⟨_,rfl,_,rfl,le2,g,_,_,rfl,SqL.of (s8 _ _ b),SqL.of (s8 _ _ C),?_⟩;refine ke (K:=K) (b1:=true) (b2:=true) (a1:=le2) (a2:=g) (xs:=zW fst) (ys:=zW snd) (by rw[zy,zy,xl,yl]) (λj σ M=>(∃ v7 v8,σ=[some (.ref p),some (.int ((row.length / 2:Nat):Int)),some (.ref W),some (.ref le2),some (.ref U),some (.ref g),some (.ref r),v7,v8])/\Same H4 M/\M r=some (.lst (zW (yX (fst.take j) (snd.take j))))) ⟨⟨_,_,rfl⟩,s8,zr a _⟩ (λj σ M _ z=>⟨SqL.of (z.2.1 _ _ b),SqL.of (z.2.1 _ _ C)⟩) ?_ ?_
  ·rintro j x y T σ M hx hy hT ⟨⟨v7,v8,rfl⟩,i,L⟩
   obtain⟨j1,rfl⟩:=qx hx;obtain⟨j2,rfl⟩:=qx hy;have sT:=zD hT (.tup [.int ((fst.getD j 0:Nat):Int),.int ((snd.getD j 0:Nat):Int)]);refine⟨T,_,rfl,SqT.of zB,rfl,_,_,rfl,_,_,rfl,rfl,?_⟩;refine⟨_,rfl,.inl ⟨rfl,_,SqL.of (sT _ _ L)⟩,_,rfl,_,rfl,(by show 2<=sizeLine;decide),λq hq=>?_⟩;have sq:=zD hq (.lst [.int ((fst.getD j 0:Nat):Int),.int ((snd.getD j 0:Nat):Int)]);have tl:=xN (fst.take j) (snd.take j) (by rw[JC,JC];lia);rw[JC]at tl;refine⟨r,q,_,_,rfl,rfl,sq _ _ (sT _ _ L),zr hq _,by rw[zy,JE,tl];show _+2<=_;grind,?_⟩;refine⟨⟨_,_,rfl⟩,λc o e=>?_,?_⟩
   ·rw[zG (zE e a)];exact sq _ _ (sT _ _ (i c o e))
   ·rw[wn fst snd j j1 j2]
    have e:zW (yX (fst.take j) (snd.take j)++[fst.getD j 0,snd.getD j 0])=zW (yX (fst.take j) (snd.take j))++[.int ((fst.getD j 0:Nat):Int),.int ((snd.getD j 0:Nat):Int)]:=by rw[<- bw];rfl
    rw[e];exact zB
  ·rintro σ M ⟨⟨v7,v8,rfl⟩,i,L⟩
   rw[Y8 (by rw[zy];exact Jd _),Y8 (by rw[zy];simp_all)]at L;have Y:=i _ _ a6;refine⟨_,rfl,p,_,0,_,rfl,rfl,SqL.of Y,yk (j:=0) (eI row 0 (by lia)),?_⟩;refine⟨_,rfl,_,rfl,p,_,_,_,rfl,rfl,SqL.of Y,yk (eI row (row.length / 2) (by lia)),(by show 2<=sizeLine;decide),λt ht=>?_⟩;have s5:=zD ht (.tup [.int ((row.getD 0 0:Nat):Int),.int ((row.getD (row.length / 2) 0:Nat):Int)]);refine⟨(by show 1<=sizeLine;decide),λl6 a0=>?_⟩;have s6:=zD a0 (.lst [.ref t]);refine⟨_,rfl,l6,W,_,_,rfl,rfl,zr a0 _,s6 _ _ (s5 _ _ (i _ _ ao)),by rw[JE];simp only[JM,Zj];lia,λl7 aT=>?_⟩;have s7:=zD aT (.lst ([.ref t]++O));refine⟨_,rfl,l7,U,_,_,rfl,rfl,zr aT _,s7 _ _ (s6 _ _ (s5 _ _ (i _ _ a7))),by rw[JE,Jb];simp only[JM,Zj];lia,λX v=>?_⟩;have N:=zD v (.lst (([.ref t]++O)++a4));have u8:=((s5.trans s6).trans s7).trans N;refine⟨_,rfl,(by show 2<=sizeLine;decide),λc J=>?_⟩;have d:=zD J (.tup [.ref X,.ref r]);have t8:=N _ _ (s7 _ _ (s6 _ _ (zr ht (.tup [.int ((row.getD 0 0:Nat):Int),.int ((row.getD (row.length / 2) 0:Nat):Int)]))));have eN:xO (m+1) row=((row.getD 0 0,row.getD (row.length / 2) 0)::((xO m (row.take (row.length / 2))).1++(xO m (row.drop (row.length / 2))).1),yX fst snd):=by rw[<- hF,<- hS];rfl
   refine k c X r _ _ (B.trans (i.trans (u8.trans d))) (zr J _) (d _ _ (zr v _)) ?_ (by rw[eN];exact d _ _ (u8 _ _ L));refine Prs.tups (Tups.of d) ?_;rw[JW,eN];exact Prs.app (ps:=[.ref t]) (fs:=[(row.getD 0 0,row.getD (row.length / 2) 0)]) (show Prs _ [.ref t] [(row.getD 0 0,row.getD (row.length / 2) 0)] from⟨⟨t,rfl,t8⟩,trivial⟩) (Prs.app ((ab.tups (Tups.of i)).tups (Tups.of u8)) ((R.tups (Tups.of i)).tups (Tups.of u8)))
theorem kH {f:JI}{fd:Yl}(F:Fun K "_law_tree" "_law_tree" oH f fd) (G:Mgs mg) (b:Binds K fd ["_law_row"] []) (a:mg "_law_tree" = some (.ref f)):∀ n:Nat,FnOk P w K mg base CX0 (n+1) f fd ["_law_row"] (uw n)
 | 0=>oV F G b a 0 ⟨λvs H Q E ⟨m,h,_⟩=>by simp_all,λA outer s H args us vs Q E _ _ _ _ ⟨m,h,_⟩=>by simp_all⟩
 | m+1=>oV F G b a (m+1) ((kH F G b a m).imp λvs H Q E ⟨c,h,q⟩=>by cases h;exact q)
noncomputable abbrev uy:Sp:=λa H Q E=>∃ m,m<=4/\uw m a H Q E
theorem jq {f:JI}{fd:Yl}(F:Fun K "_law_tree" "_law_tree" oH f fd) (G:Mgs mg) (b:Binds K fd ["_law_row"] []) (a:mg "_law_tree" = some (.ref f)):FnOk P w K mg base CX0 5 f fd ["_law_row"] uy :=
 FnOk.any 4 λm c=>(kH F G b a m).mono (by simp_all)
end
end K38
namespace K38
open PySem L2 Own Bn
noncomputable abbrev oK:Stmt:=top 32
noncomputable def tI (m:Nat):Sp:=λc H Q _=>∃ p row,c=[.ref p]/\H p=some (.lst (zW row))/\row.length=2 ^ m/\m<=4/\∀ l b a,Same H a->a l=some (.lst b)->Prs a b (xh m row)->Q (.ref l) a
theorem aa (row:List Nat)(j:Nat)(h:j<row.length):row.reverse.getD j 0=row.getD (row.length-1-j) 0:=by
 rw[JA,List.getElem?_reverse h,JA]
section
variable {P:Yo}{w:YI}{K:Jl}{mg:Str->Option Jo}{base:YP}
theorem aL:FnScope ["_law_row","_law_half","_law_forks"] ["_law_row"] (zN oK):=by rfl'
theorem oY {f:JI}{fd:Yl}(F:Fun K "_law_block" "_law_block" oK f fd) (G:Mgs mg) (bS:Binds K fd ["_law_row"] []) (mS:mg "_law_block" = some (.ref f)) (n:Nat)
  (GS:FnOk P w K mg base CX0 n f fd ["_law_row"] (λvs H Q E=>∃ m,n=m+1/\tI m vs H Q E)):FnOk P w K mg base CX0 (n+1) f fd ["_law_row"] (tI n):=by
 have d:Use P w K mg base "_law_block" ["_law_row"] n (λvs H Q E=>∃ m,n=m+1/\tI m vs H Q E) f fd:=⟨GS,bS,F.kp,mS⟩;refine F.ok aL (λvs H Q E h=>?_) (λa6 A outer s H vs Q E hr h=>?_)
 ·obtain⟨p,row,rfl,_⟩:=h
  rfl
 obtain⟨p,row,rfl,v,W,aT,k⟩:=h;refine⟨_,(@zH _ _ _ _ _ (@yY _ _ _ _ _ _ _ _ (@zo _ _ _ _ _ _ _ _ vR (@zR _ _ _ _ _ _ _ _ _ zT (by rfl) G.len Y1 (@zA _ _ _ _ _ (@qv _ 0 _ _ (by rfl')) zC (by rfl)) (by decide) (by decide) (by rfl) (by rfl)) zJ (yK _)) (@zK _ _ _ (@zS _ _ _ _ (@yJ _ _ _ _ zC))) zu) (@zH _ _ _ _ _ (@zZ _ _ 1 _ _ _ _ aL.nd rfl (.inl rfl) (@zV _ _ _ _ _ _ _ _ vQ (@zR _ _ _ _ _ _ _ _ _ zT (by rfl) G.len Y1 (@zA _ _ _ _ _ (@qv _ 0 _ _ (by rfl')) zC (by rfl)) (by decide) (by decide) (by rfl) (by rfl)) zJ) (by rfl) (by rfl')) (@zH _ _ _ _ _ (@gw _ 2 _ _ _ _ none _ _ _ _ _ _ _ _ ["_law_i","_law_row"] [none,some 0] aL.nd rfl rfl rfl (@vk _ _ _ _ _ _ rfl G.range (@zA _ _ _ _ _ (@qv _ 1 _ _ (by rfl')) zC (by rfl)) (by rfl)) (CapOk.of (by kernel_rfl)) (λ_ _ _ _ _=>(@zM _ _ 0 _ (show (["_law_i","_law_row"]:List Str).Nodup from by decide +kernel) rfl (.inl rfl) (.inr rfl))) (λ_ _ _ _ _=>xY) (λ_ _ _ _ _=>(@zX _ _ _ _ _ (@zA _ _ _ _ _ (@zj _ _ _ _ _ _ (ad K) yB (@qv _ 1 _ _ (by rfl')) (@qv _ 0 _ _ (by rfl')) (λ_ _=>rfl)) (@zA _ _ _ _ _ (@zj _ _ _ _ _ _ (ad K) yB (@qv _ 1 _ _ (by rfl')) (@zV _ _ _ _ _ _ _ _ tW (@zV _ _ _ _ _ _ _ _ tW (@zR _ _ _ _ _ _ _ _ (bp K) ir (by rfl) G.len Y1 (@zA _ _ _ _ _ (@qv _ 1 _ _ (by rfl')) zC (by rfl)) (by decide) (by decide) (by rfl) (by rfl)) zJ) (@qv _ 0 _ _ (by rfl'))) (λ_ _=>rfl)) zC (by rfl)) (by rfl)))) (by intro _;rfl) (by with_unfolding_all rfl)) (@zK _ _ _ (@zS _ _ _ _ (@zV _ _ _ _ _ _ _ _ ww (@zV _ _ _ _ _ _ _ _ ww (@qv _ 2 _ _ (by rfl')) (@zQ _ _ _ _ _ _ _ _ _ _ _ _ _ _ _ _ d.ok hr (by rfl) d.m d.kp d.b .nil zY (@zA _ _ _ _ _ (@yo _ _ _ _ _ _ _ _ _ _ wS (@qv _ 0 _ _ (by rfl')) yq (@yW _ _ _ (@qv _ 1 _ _ (by rfl')))) zC (by rfl)) (by decide) (by rfl) (by rfl))) (@zQ _ _ _ _ _ _ _ _ _ _ _ _ _ _ _ _ d.ok hr (by rfl) d.m d.kp d.b .nil zY (@zA _ _ _ _ _ (@yo _ _ _ _ _ _ _ _ _ _ wS (@qv _ 0 _ _ (by rfl')) (@yW _ _ _ (@qv _ 1 _ _ (by rfl'))) yq) zC (by rfl)) (by decide) (by rfl) (by rfl)))))))),?_⟩;have nl:=zy row;have p8:2 ^ n<=2 ^ 4:=YD (by decide) aT;have e8:2 ^ 4=16:=rfl;refine⟨_,rfl,p,_,rfl,.inl (SqL.of v),rfl,_,rfl,?_⟩
 cases n with
 | zero =>
  have ao:row.length=1:=W;rw[Jt (show V.int (((zW row).length:Nat):Int)=V.int 1 by rw[nl,ao];rfl)]
  exact yV ⟨(by show 0<=sizeLine;decide),λl hl=>k l [] _ (zD hl _) (zr hl _) trivial⟩
 | succ m =>
  obtain⟨t1,t2,t3⟩:=vB W;obtain⟨la,lb⟩:=wM W;have pw:2 ^ (m+1)=2 ^ m*2:=Zh ..;have p0:=ZK (n:=m);rw[Jj (show ¬ V.int (((zW row).length:Nat):Int)=V.int 1 by intro z;injection z with z;lia)];refine zz ⟨_,rfl,p,_,rfl,.inl (SqL.of v),_,_,rfl,rfl,⟨by decide,by decide⟩,?_⟩;have eh:(((zW row).length:Nat):Int) / 2=((row.length / 2:Nat):Int):=by rw[nl];lia
  simp only[eh];refine⟨_,rfl,((row.length / 2:Nat):Int),rfl,by lia,by lia,λlc J=>?_⟩;refine eJ (lo:=0) (n:=((row.length / 2:Nat):Int).toNat) (λj acc σ r=>(∃ N,σ=[N,some (.ref p)])/\Same H r/\r lc=some (.lst acc)/\acc.length=j/\Prs r acc (((row.take (row.length / 2)).zip row.reverse).take j)) ⟨⟨_,rfl⟩,zD J _,zB,rfl,trivial⟩ (λj acc σ r z=>z.2.2.1) ?_ ?_
  ·rintro j acc σ r hj ⟨⟨N,rfl⟩,u,Y,al,a⟩
   have jl:j<row.length / 2:=by lia
   have b:=u _ _ v;have e0:(0:Int)+((j:Nat):Int)=((j:Nat):Int):=Int.zero_add _;refine⟨_,rfl,_,rfl,p,_,_,_,rfl,rfl,SqL.of b,(by rw[e0];exact yk (eI row j (by grind))),?_⟩;refine⟨_,rfl,_,rfl,p,_,rfl,.inl (SqL.of b),_,_,rfl,rfl,_,rfl,_,_,rfl,rfl,?_⟩;have ei:(((zW row).length:Nat):Int)-1-(0+((j:Nat):Int))=((row.length-1-j:Nat):Int):=by rw[nl];grind
   refine⟨p,_,_,_,rfl,rfl,SqL.of b,(by rw[ei];exact yk (eI row (row.length-1-j) (by lia))),?_⟩;rw[<- aa row j (by grind)];refine⟨(by show 2<=sizeLine;decide),λt ht=>?_⟩;have U:=zD ht (.tup [.int ((row.getD j 0:Nat):Int),.int ((row.reverse.getD j 0:Nat):Int)]);have X:=U _ _ Y;refine⟨X,by rw[JE];lia,nx hj ⟨⟨_,rfl⟩,λc o e=>?_,zB,by rw[Jb,al];rfl,?_⟩⟩
   ·rw[zG (zE e J)];exact U _ _ (u c o e)
   ·rw[pV (by rw[JC];simp_all) (by rw[List.length_reverse];grind)]
    refine Prs.add (f:=((row.take (row.length / 2)).getD j 0,row.reverse.getD j 0)) ?_ ((a.tups (Tups.of U)).tups (Tups.lst X));rw[Tups.lst X _ _ (zr ht _),JA (l:=row.take _),Z7 jl,<- JA]
  rintro acc σ r ⟨⟨N,rfl⟩,u,Y,al,a⟩;rw[Yg]at al a;rw[Y8 (by rw[ZG,JC,List.length_reverse];simp_all)]at a;have b:=u _ _ v;refine⟨_,rfl,_,rfl,_,rfl,_,rfl,p,_,rfl,SqL.of b,λp5 I=>?_⟩;rw[lB row _ t3];have s5:=zD I (.lst (zW (row.take (row.length / 2))));refine⟨m,rfl,p5,row.take (row.length / 2),rfl,zr I _,la,by lia,λl6 q H7 ab a3 g=>?_⟩;have S:=s5.trans ab;have b6:=xy m (row.take (row.length / 2));rw[la]at b6;have a7:m*2 ^ m<=4*16:=Wh (by lia) (by lia);have a5:=g.len;refine⟨lc,l6,_,_,rfl,rfl,S _ _ Y,a3,by rw[JE];lia,λl7 L=>?_⟩;have T:=zD L (.lst (acc++q));have B:=(Prs.app (a.tups (Tups.of S)) g).tups (Tups.of T);have R:=u.trans (S.trans T);have D:=R _ _ v;have h8:=zr L (.lst (acc++q));generalize L2.upd H7 l7 _=H8 at T B R D h8 ⊢;refine⟨_,rfl,_,rfl,_,rfl,p,_,rfl,SqL.of D,λp9 C=>?_⟩;rw[lC row _ t3];have s9:=zD C (.lst (zW (row.drop (row.length / 2))));refine⟨m,rfl,p9,row.drop (row.length / 2),rfl,zr C _,lb,by lia,λl9 ax H9 Z h9 y=>?_⟩;have O:=s9.trans Z;have b9:=xy m (row.drop (row.length / 2));rw[lb]at b9;have a4:=y.len;refine⟨l7,l9,_,_,rfl,rfl,O _ _ h8,h9,by rw[Jb,JE];lia,λa0 i=>?_⟩;have x:=zD i (.lst ((acc++q)++ax));have M:=(Prs.app (B.tups (Tups.of O)) y).tups (Tups.of x);refine k a0 _ _ (R.trans (O.trans x)) (zr i _) ?_
  have e:xh (m+1) row=(row.take (row.length / 2)).zip row.reverse++xh m (row.take (row.length / 2))++xh m (row.drop (row.length / 2)):=by
   conv=>lhs;unfold xh
   rw[Je (by lia)]
  rw[e];exact M
theorem kK {f:JI}{fd:Yl}(F:Fun K "_law_block" "_law_block" oK f fd) (G:Mgs mg) (b:Binds K fd ["_law_row"] []) (a:mg "_law_block" = some (.ref f)):∀ n:Nat,FnOk P w K mg base CX0 (n+1) f fd ["_law_row"] (tI n)
 | 0=>oY F G b a 0 ⟨λvs H Q E ⟨m,h,_⟩=>by simp_all,λA outer s H args us vs Q E _ _ _ _ ⟨m,h,_⟩=>by simp_all⟩
 | m+1=>oY F G b a (m+1) ((kK F G b a m).imp λvs H Q E ⟨c,h,q⟩=>by cases h;exact q)
noncomputable abbrev tJ:Sp:=λa H Q E=>∃ m,m<=4/\tI m a H Q E
theorem j5 {f:JI}{fd:Yl}(F:Fun K "_law_block" "_law_block" oK f fd) (G:Mgs mg) (b:Binds K fd ["_law_row"] []) (a:mg "_law_block" = some (.ref f)):FnOk P w K mg base CX0 5 f fd ["_law_row"] tJ :=
 FnOk.any 4 λm c=>(kK F G b a m).mono (by simp_all)
noncomputable abbrev gY:Stmt:=top 34
noncomputable def y0 (way k:Nat):Nt:=if way=0 then wF k else if way=1 then uu k else xX k
theorem cz {way k:Nat}(h:k<5):(y0 way k).Ok:=by
 unfold y0;split
 ·exact gL h
 ·split
  ·exact dv h
  ·exact ja h
theorem tZ (way k:Nat):(y0 way k).lanes=2 ^ k:=by
 unfold y0;split
 ·rfl
 ·split<;>rfl
noncomputable def mJ:Sp:=λb H Q _=>∃ way k:Nat,b=[.int (way:Nat),.int (k:Nat)]/\k<5/\∀ r fr d c a,Same H a->NetAt a r fr d c (y0 way k)->Q (.ref r) a
theorem qo {H:Hp}{ps:List V}{fs:List Fk}(h:Prs H ps fs):∀ n:Nat,Prs H (List.replicate n ps).flatten (List.replicate n fs).flatten
 | 0=>trivial
 | n+1=>by
  rw[Yk,Yk,YU,YU];exact Prs.app h (qo h n)
theorem mK:FnScope ["_law_way","_law_k","_law_row","_law_forks","_law_ends"] ["_law_way","_law_k"] (zN gY):=by rfl'
theorem cY {f fB fS fT:JI}{fd dB dS dT:Yl}(F:Fun K "_law_made" "_law_made" gY f fd) (G:Mgs mg) (UB:Use P w K mg base "_law_block" ["_law_row"] 5 tJ fB dB) (US:Use P w K mg base "_law_stairway" ["_law_row"] 10 u7 fS dS) (Z:Use P w K mg base "_law_tree" ["_law_row"] 5 uy fT dT):FnOk P w K mg base CX0 11 f fd ["_law_way","_law_k"] mJ:=by
 refine F.ok mK (λvs H Q E h=>?_) (λax A outer s H vs Q E hr h=>?_)
 ·obtain⟨way,k,rfl,_⟩:=h
  rfl
 obtain⟨way,k,rfl,k5,q⟩:=h;have L:Room 5 _:=hr.mono (by decide);refine⟨_,(@zH _ _ _ _ _ (@zZ _ _ 2 _ _ _ _ mK.nd rfl (.inl rfl) (@ji _ _ _ _ _ _ _ rfl (by rfl) G.list (by rfl) G.range (@zA _ _ _ _ _ (@zj _ _ _ _ _ _ _ yB (@yJ _ _ _ _ (@zA _ _ _ _ _ zJ (@zA _ _ _ _ _ zJ (@zA _ _ _ _ _ zJ (@zA _ _ _ _ _ zJ (@zA _ _ _ _ _ zJ zC (by rfl)) (by rfl)) (by rfl)) (by rfl)) (by rfl))) (@qv _ 1 _ _ (by rfl')) (λ_ _=>rfl)) zC (by rfl)) (by rfl) (by rfl)) (by rfl) (by rfl')) (@zH _ _ _ _ _ (@vj _ _ 3 4 _ _ _ _ _ _ _ _ _ _ _ rfl mK.nd rfl rfl (by decide) rfl rfl (@zA _ _ _ _ _ (@zV _ _ _ _ _ _ _ _ ai (@zQ _ _ _ _ _ _ _ _ _ _ _ _ _ _ _ _ UB.ok L (by rfl) UB.m UB.kp UB.b .nil zY (@zA _ _ _ _ _ (@qv _ 2 _ _ (by rfl')) zC (by rfl)) (by decide) (by rfl) (by rfl)) (@qv _ 1 _ _ (by rfl'))) (@zA _ _ _ _ _ (@qv _ 2 _ _ (by rfl')) zC (by rfl)) (by rfl)) (by rfl) (by rfl)) (@zH _ _ _ _ _ (@yY _ _ _ _ _ _ _ _ (@zo _ _ _ _ _ _ _ _ vR (@qv _ 0 _ _ (by rfl')) zJ (yK _)) (@zK _ _ _ (@yT _ _ _ _ _ _ (@zQ _ _ _ _ _ _ _ _ _ _ _ _ _ _ _ _ US.ok hr (by rfl) US.m US.kp US.b .nil zY (@zA _ _ _ _ _ (@qv _ 2 _ _ (by rfl')) zC (by rfl)) (by decide) (by rfl) (by rfl)) (@yQ _ _ _ _ _ _ rfl (@zP _ _ _ _ _ (@zM _ _ 3 _ mK.nd rfl (.inl rfl) (by rfl')) (@zP _ _ _ _ _ (@zM _ _ 4 _ mK.nd rfl (.inl rfl) (by rfl')) yA (by rfl)) (by rfl)) (by rfl) (by rfl)) (by rfl) (by rfl) (by rfl))) zu) (@zH _ _ _ _ _ (@yY _ _ _ _ _ _ _ _ (@zo _ _ _ _ _ _ _ _ vR (@qv _ 0 _ _ (by rfl')) zJ (yK _)) (@zK _ _ _ (@yT _ _ _ _ _ _ (@zQ _ _ _ _ _ _ _ _ _ _ _ _ _ _ _ _ Z.ok L (by rfl) Z.m Z.kp Z.b .nil zY (@zA _ _ _ _ _ (@qv _ 2 _ _ (by rfl')) zC (by rfl)) (by decide) (by rfl) (by rfl)) (@yQ _ _ _ _ _ _ rfl (@zP _ _ _ _ _ (@zM _ _ 3 _ mK.nd rfl (.inl rfl) (by rfl')) (@zP _ _ _ _ _ (@zM _ _ 4 _ mK.nd rfl (.inl rfl) (by rfl')) yA (by rfl)) (by rfl)) (by rfl) (by rfl)) (by rfl) (by rfl) (by rfl))) zu) (@zK _ _ _ (@zS _ _ _ _ (@zX _ _ _ _ _ (@zA _ _ _ _ _ (@zR _ _ _ _ _ _ _ _ _ zT (by rfl) G.len Y1 (@zA _ _ _ _ _ (@qv _ 2 _ _ (by rfl')) zC (by rfl)) (by decide) (by decide) (by rfl) (by rfl)) (@zA _ _ _ _ _ (@zw _ _ _ _ _ _ _ _ _ yO (by rfl) G.tuple (by rfl) (@zA _ _ _ _ _ (@qv _ 3 _ _ (by rfl')) zC (by rfl)) (by decide) (by decide) (by rfl) (by rfl)) (@zA _ _ _ _ _ (@zw _ _ _ _ _ _ _ _ _ yO (by rfl) G.tuple (by rfl) (@zA _ _ _ _ _ (@qv _ 4 _ _ (by rfl')) zC (by rfl)) (by decide) (by decide) (by rfl) (by rfl)) zC (by rfl)) (by rfl)) (by rfl))))))))),?_⟩;have ab:2 ^ k<=2 ^ 4:=YD (by decide) (by lia);have ao:2 ^ 4=16:=rfl
 have O:atI [V.int 1,V.int 2,V.int 4,V.int 8,V.int 16] ((k:Nat):Int)=some (.int ((2 ^ k:Nat):Int)):=by
  have:∀ k,k<5->atI [V.int 1,V.int 2,V.int 4,V.int 8,V.int 16] ((k:Nat):Int)=some (.int ((2 ^ k:Nat):Int)):=by decide
  exact this k k5
 refine⟨(by show 5<=sizeLine;decide),λt ht=>?_⟩;have s0:=zD ht (.lst [.int 1,.int 2,.int 4,.int 8,.int 16]);refine⟨_,rfl,t,_,_,_,rfl,rfl,SqL.of zB,O,?_⟩;refine⟨2 ^ k,rfl,by lia,λp hp=>?_⟩;have s1:=zD hp (.lst (zW (List.range (2 ^ k))));have u1:=s0.trans s1;have g:=zr hp (.lst (zW (List.range (2 ^ k))));show wC _ _ _ _ (L2.upd _ p (.lst (zW (List.range (2 ^ k)))));generalize L2.upd _ p (.lst (zW (List.range (2 ^ k))))=H1 at u1 g ⊢;clear s0 s1 hp;refine⟨_,rfl,k,by lia,p,List.range (2 ^ k),rfl,g,Z6,by lia,λl T H2 i hl pr=>?_⟩;have pl:=pr.len;have bl:=xy k (List.range (2 ^ k));rw[Z6]at bl;have b2:k*2 ^ k<=4*2 ^ 4:=Wh (by lia) ab;have b3:T.length*k<=(4*2 ^ 4)*4:=Wh (by lia) (by lia);refine⟨_,rfl,l,k,T,rfl,rfl,hl,by simp_all,by lia,by rw[Yg,JE];lia,λW x=>?_⟩;rw[Yg];have m:=zD x (.lst (List.replicate k T).flatten);refine⟨_,rfl,_,_,rfl,?_⟩
 let I:Nt->St->Hp->Prop:=λN σ G=>∃ lf le n,σ=[some (.int (way:Nat)),some (.int (k:Nat)),some (.ref p),some (.ref lf),some (.ref le)]/\Same H G/\G p=some (.lst (zW (List.range (2 ^ k))))/\G lf=some (.lst n)/\Prs G n N.forks/\G le=some (.lst (zW N.ends))
 have i0:I (xX k) [some (.int (way:Nat)),some (.int (k:Nat)),some (.ref p),some (.ref W),some (.ref p)] (L2.upd H2 W (.lst (List.replicate k T).flatten)):=⟨W,p,_,rfl,(u1.trans i).trans m,m _ _ (i _ _ g),zr x _,(qo pr k).tups (Tups.of m),m _ _ (i _ _ g)⟩;dsimp only;refine lM (I (if way=0 then wF k else xX k)) ?_ λD j _=>?_
 ·rintro σ G ⟨lf,le,n,rfl,C,d,X,U,Y⟩
  refine lM (I (y0 way k)) ?_ λD j _=>?_
  ·rintro σ G ⟨lf,le,n,rfl,C,d,X,U,Y⟩
   refine⟨_,rfl,p,_,rfl,.inl (SqL.of d),_,rfl,lf,_,rfl,.inl ⟨SqL.of X,λa ha=>?_⟩⟩;have s4:=zD ha (.tup n);refine⟨_,rfl,le,_,rfl,.inl ⟨SqL.of (s4 _ _ Y),λb hb=>?_⟩⟩;have s5:=zD hb (.tup (zW (y0 way k).ends));refine⟨(by show 3<=sizeLine;decide),λr M=>?_⟩;rw[zy,Z6];have S:=zD M (.tup [.int ((2 ^ k:Nat):Int),.ref a,.ref b]);refine q r a b n _ (((C.trans s4).trans s5).trans S) ⟨?_,S _ _ (s5 _ _ (zr ha _)),U.tups (Tups.of ((s4.trans s5).trans S)),S _ _ (zr hb _)⟩;rw[tZ];exact zr M _
  ·refine⟨_,rfl,rfl,_,rfl,?_⟩
   by_cases R:way=1
   ·rw[Jt (show V.int ((way:Nat):Int)=V.int 1 by rw[R];rfl)]
    refine yV ⟨_,rfl,k,by lia,p,List.range (2 ^ k),rfl,d,Z6,by lia,λc v le2 o G2 i hc y u B=>?_⟩;refine⟨c,_,rfl,SqT.of hc,rfl,_,_,rfl,_,_,rfl,rfl,?_⟩;refine j _ _ ⟨v,le2,o,rfl,C.trans i,i _ _ d,y,?_,?_⟩
    ·rw[show y0 way k=uu k from by unfold y0;rw[Je (by lia),Jm R]];exact u
    ·rw[show y0 way k=uu k from by unfold y0;rw[Je (by lia),Jm R]];exact B
   ·rw[Jj (show ¬ V.int ((way:Nat):Int)=V.int 1 by intro z;injection z with z;lia)]
    have e:y0 way k=if way=0 then wF k else xX k:=by unfold y0;rw[Je R]
    refine zz (j _ _ ⟨lf,le,n,rfl,C,d,X,?_,?_⟩)
    ·rw[e];exact U
    ·rw[e];exact Y
 ·obtain⟨lf,le,n,e,C,d,X,U,Y⟩:=i0
  refine⟨_,rfl,rfl,_,rfl,?_⟩;by_cases J:way=0
  ·rw[Jt (show V.int ((way:Nat):Int)=V.int 0 by rw[J];rfl)]
   refine yV ⟨_,rfl,k,by lia,p,List.range (2 ^ k),rfl,d,Z6,by lia,λc v le2 o G2 i hc y u B=>?_⟩;refine⟨c,_,rfl,SqT.of hc,rfl,_,_,rfl,_,_,rfl,rfl,?_⟩;refine j _ _ ⟨v,le2,o,rfl,C.trans i,i _ _ d,y,?_,?_⟩
   ·rw[Jm J];exact u
   ·rw[Jm J];exact B
  ·rw[Jj (show ¬ V.int ((way:Nat):Int)=V.int 0 by intro z;injection z with z;simp_all)]
   refine zz (j _ _ ⟨W,p,_,rfl,(u1.trans i).trans m,m _ _ (i _ _ g),zr x _,?_,?_⟩)
   ·rw[Je J];exact(qo pr k).tups (Tups.of m)
   ·rw[Je J];exact m _ _ (i _ _ g)
end
end K38
namespace L2
open PySem PySem.Spec PyProof.Rows Own Bn
noncomputable def isW:LRes->Bool
 | .whl _=>true
 | _=>false
end L2
namespace K38
open PySem L2 Own Bn
noncomputable abbrev aU:Stmt:=top 41
noncomputable def lj (K:Jl)(Pt Pu:JI):Sp:=λb H Q _=>∃ (a:JI) (ns:List Int),b=[.ref a]/\SqL K H a (ns.map V.int)/\ns.length<=63/\H Pt=some (.tbl #[])/\H Pu=some (.tbl #[])/\Pt≠Pu/\∀ c,Q (.bl true) c
noncomputable def Scr (K:Jl)(a:JI)(xs:List V)(H:Hp):Prop:=H a=some (.lst xs)\/(∃ o,H a=some (.frz o (.lst xs)))\/∀ b,SqL K b a xs
theorem Scr.of {K:Jl}{a:JI}{xs:List V}{H:Hp}(h:SqL K H a xs):Scr K a xs H:=by
 rcases h with (h|h)|h
 ·exact .inl h
 ·exact .inr (.inl h)
 ·exact .inr (.inr λb=>.inr h)
theorem Scr.sq {K:Jl}{a:JI}{xs:List V}{H:Hp}(h:Scr K a xs H):SqL K H a xs:=by
 rcases h with h|h|h
 ·exact .inl (.inl h)
 ·exact .inl (.inr h)
 ·exact h H
theorem Scr.keep {K:Jl}{a:JI}{xs:List V}{H H':Hp}(h:Scr K a xs H)(k:∀ o,H a=some o->(o=.lst xs\/∃ u,o=.frz u (.lst xs))->(∀ H',SqL K H' a xs)\/H' a=some o):Scr K a xs H':=by
 rcases h with h|⟨o,h⟩|h
 ·rcases k _ h (.inl rfl) with z|z
  ·exact .inr (.inr z)
  ·exact .inl z
 ·rcases k _ h (.inr ⟨o,rfl⟩) with z|z
  ·exact .inr (.inr z)
  ·exact .inr (.inl ⟨o,z⟩)
 ·exact .inr (.inr h)
theorem rN {q:Str}{Pt Pu:JI}{H H':Hp}(t:TabQ q Pt H)(b:But Pu H H')(ne:Pt≠Pu)(h:∃ ps,H Pu=some (.tbl ps)):TabQ q Pt H':=by
 obtain⟨l,d,a⟩:=t;obtain⟨ps,h⟩:=h;exact⟨l,b _ _ d ne,a.frz λc o u e=>b _ _ e (yD e h λz=>by cases z)⟩
theorem mD {q:Str}{Pt:JI}{H:Hp}(t:TabQ q Pt H):∃ ps,H Pt=some (.tbl ps):=by
 obtain⟨l,a,_⟩:=t;exact⟨_,a⟩
structure LE (K:Jl) (a l Pt Pu:JI) (xs:List V) (H:Hp):Prop where
 S:Pk3 H l
 tab:TabQ qV Pt H
 tbu:TabQ qS Pu H
 pn:Pt≠Pu
 scr:Scr K a xs H
 al:a≠l\/∀ H',SqL K H' a xs
section
variable {K:Jl}{a l Pt Pu:JI}{xs:List V}{H H':Hp}
theorem LE.same (h:LE K a l Pt Pu xs H)(s:Same H H'):LE K a l Pt Pu xs H':=⟨h.S.keep s,h.tab.same s,h.tbu.same s,h.pn,h.scr.keep λo e _=>.inr (s _ _ e),h.al⟩
theorem LE.pick (h:LE K a l Pt Pu xs H)(d:Pk3 H' l)(b:But l H H'):LE K a l Pt Pu xs H':=by
 obtain⟨f,c⟩:=h.S.lst;refine⟨d,h.tab.but b c,h.tbu.but b c,h.pn,h.scr.keep λo e _=>?_,h.al⟩;rcases h.al with z|z
 ·exact .inr (b _ _ e z)
 ·exact .inl z
theorem LE.ver (h:LE K a l Pt Pu xs H)(t:TabQ qV Pt H')(b:But Pt H H'):LE K a l Pt Pu xs H':=by
 obtain⟨g,d⟩:=mD h.tab;obtain⟨x,y,z,f,r⟩:=h.S.ex;refine⟨⟨x,y,z,b _ _ f (yD f d λq=>by cases q),r⟩,t,rN h.tbu b h.pn.symm ⟨g,d⟩,h.pn,h.scr.keep λo e c=>.inr (b _ _ e λq=>?_),h.al⟩;rw[q,d]at e;cases e;rcases c with c|⟨u,c⟩<;>cases c
theorem LE.show_ (h:LE K a l Pt Pu xs H)(t:TabQ qS Pu H')(b:But Pu H H'):LE K a l Pt Pu xs H':=by
 obtain⟨g,d⟩:=mD h.tbu;obtain⟨x,y,z,f,r⟩:=h.S.ex;refine⟨⟨x,y,z,b _ _ f (yD f d λq=>by cases q),r⟩,rN h.tab b h.pn ⟨g,d⟩,t,h.pn,h.scr.keep λo e c=>.inr (b _ _ e λq=>?_),h.al⟩;rw[q,d]at e;cases e;rcases c with c|⟨u,c⟩<;>cases c
theorem zai {lc:JI}(h:LE K a l Pt Pu xs H)(n:H lc=none):a≠lc\/∀ H',SqL K H' a xs:=by
 rcases h.scr with z|⟨o,z⟩|z
 ·exact .inl (zE z n)
 ·exact .inl (zE z n)
 ·exact .inr z
theorem LE.list {lc:JI}{ys zs:List V}(h:LE K a l Pt Pu xs H)(e:H lc=some (.lst ys))(n:lc≠l)(ac:a≠lc\/∀ H',SqL K H' a xs):LE K a l Pt Pu xs (L2.upd H lc (.lst zs)):=by
 have kp:∀ b o,H b=some o->((∃ c,o=.tbl c)\/∃ u v,o=.frz u v)->L2.upd H lc (.lst zs) b=some o:=λb o q z=>by
  rw[zG];· exact q
  ·intro y
   rw[y,e]at q;cases q;rcases z with ⟨_,z⟩|⟨_,_,z⟩<;>cases z
 refine⟨h.S.upd n.symm,h.tab.keep kp,h.tbu.keep kp,h.pn,h.scr.keep λo q _=>?_,h.al⟩;rcases ac with z|z
 ·exact .inr (by rw[zG z];exact q)
 ·exact .inl z
end
theorem pi {q:Str}{Pt:JI}{H H':Hp}(t:TabQ q Pt H)(b:But Pt H H'):Tups H H':=λc d e=>by
 obtain⟨ls,a,_⟩:=t;exact b _ _ e (yD e a λq=>by cases q)
noncomputable def mvN (way lanes:Nat):List Nat:=if way=1 then [0] else List.range lanes
theorem jG:∀ way,way<3->∀ k,k<3->isW (yS (y0 way k) (mvN way (y0 way k).lanes) 4000)=true/\(y0 way k).lanes<=4/\(y0 way k).forks.length<=8:=by decide +kernel
noncomputable def BkAt (N:Nt)(moves:List Nat)(H:Hp)(x:V):Prop:=∃ b bs a,x=.ref b/\H b=some (.tup (List.map V.ref bs))/\KeysAt H bs a/\BkP N moves a
theorem BkAt.tups {N:Nt}{moves:List Nat}{H H':Hp}{x:V}(t:Tups H H')(h:BkAt N moves H x):BkAt N moves H' x:=by
 obtain⟨b,bs,a,e,f,d,c⟩:=h;exact⟨b,bs,a,e,t _ _ f,d.tups t,c⟩
theorem iy {ks:List KN}{ls:List LvL}(h:BookOf ks ls):ks.Perm (xG ls):=by
 obtain⟨b,rfl,a⟩:=h;unfold xG
 induction a with
 | nil=>exact .refl _
 | cons q _ ih=>rw[YU,List.flatMap_cons];exact q.1.append ih
theorem rM {N:Nt}{moves:List Nat}{H:Hp}{p:JI}(d:Nt.Ok N)(w:isW (yS N moves 4000)=true)(t:TellV H p (yS N moves 4000)):∃ b,H p=some (.tup [.str "stair",.ref b])/\BkAt N moves H (.ref b):=by
 have ca:=io (step:=yC N) (moves:=moves) (k0:=k0P N) (c0:=zL N) (most:=4000);have g:∀ ls,yS N moves 4000=.whl ls->Whole (OkP N) 4000 ls:=λls e=>xb (Ok:=OkP N) (λs m t h _ e=>xP d h e) (4000+1) _ [] [] ls ⟨λlv o=>(nomatch o),Jz _⟩ rfl (Jz _) (λp l=>by rw[Ja.mp l];exact xn d) e
 cases a:yS N moves 4000 with
 | opn=>rw[a]at w;cases w
 | brk c=>rw[a]at w;cases w
 | whl ls =>
  rw[a]at t;rw[show ya (yC N) moves 4000 (4000+1) [(k0P N,zL N)] [] []=.whl ls from a]at ca;obtain⟨b,bs,i,v,u,r,f⟩:=t;have pm:=iy f;refine⟨b,v,b,bs,i,rfl,u,r,⟨pm.nodup_iff.mpr ca.2.1,(bZ f (g ls a).ok).1,pm.mem_iff.mpr ca.1.fst,λk q m n=>?_⟩⟩;obtain⟨t,j,e⟩:=ca.1.cls k (pm.mem_iff.mp q) m n;exact⟨t,e,pm.mem_iff.mpr j⟩
theorem bQ {N:Nt}{H:Hp}{b:JI}{k:KN}(f:Nt.Ok N)(ok:OkP N k)(h:NKey H k b):Dp H 2 (.ref b):=by
 obtain⟨g,r,rfl,m,l,j⟩:=ok;obtain⟨t,a,e2⟩:=we h;replace a:H b=some (.tup [.ref t,.int (r:Nat)]):=a;have n:=f.fm
 have row:Dp H 1 (.ref t):=⟨.inr ⟨t,rfl,.inl ⟨_,e2⟩⟩,λd e=>by
  rw[yR e2]at e;obtain rfl:=Jf e
  exact⟨by rw[Jc];lia,λy c=>by
   obtain⟨i,_,rfl⟩:=Jw.mp c
   exact Dp.flat trivial⟩⟩
 exact⟨.inr ⟨b,rfl,.inl ⟨_,a⟩⟩,λd e=>by
  rw[yR a]at e;obtain rfl:=Jf e
  exact⟨by show 2<=1000;decide,λy c=>by
   rcases Jq.mp c with rfl|z
   ·exact row
   ·rw[Ja.mp z];exact Dp.flat trivial⟩⟩
section
variable {P:Yo}{w:YI}{K:Jl}{mg:Str->Option Jo}{base:YP}
theorem vf:FnScope ["_law_script","_law_k","_law_left_here","_law_way","_law_net","_law_some","_law_book","_law_books","_law_turn","_law_turns","_law_wider_here","_law_thing","_law_before"] ["_law_script"] (zN aU):=by rfl'
theorem ay {f fL fK fM fW fV fX fD fR Pt Pu:JI}{fd dL dK dM dW dV dX dD dR:Yl}(F:Fun K "law" "law" aU f fd) (G:Mgs mg) (GR:MgR mg) (UL:Use P w K mg base "_law_left" ["_law_script","_law_k"] 1 (qR K) fL dL) (J:Use P w K mg base "_law_pick" ["_law_left_here","_law_many"] 1 uZ fK dK) (UM:Use P w K mg base "_law_made" ["_law_way","_law_k"] 11 mJ fM dM) (UW:Use P w K mg base "_law_verdict" ["_law_net","_law_some","_law_most"] 3 gM fW dW) (UV:Use P w K mg base "verdict" ["net","some","most"] 8 (ve qV Pt) fV dV)
  (UX:Use P w K mg base "_law_mixed" ["_law_left_here","_law_row"] 2 tF fX dX) (UD:Use P w K mg base "_law_wider" ["_law_net","_law_some","_law_pair","_law_book"] 2 qP fD dD) (UR:Use P w K mg base "shows_stair" ["net","some","thing"] 7 (tD K qS Pu) fR dR):FnOk P w K mg base CX0 12 f fd ["_law_script"] (lj K Pt Pu):=by
 refine F.ok vf (λvs H Q E h=>?_) (λfa A outer s H vs Q E hr h=>?_)
 ·obtain⟨a,ns,rfl,_⟩:=h
  rfl
 obtain⟨a,ns,rfl,hS,e0,ek,ej,pn,k⟩:=h;have tab:TabQ qV Pt H:=⟨[],ek,λp hp=>absurd hp Jv⟩;have a5:TabQ qS Pu H:=⟨[],ej,λp hp=>absurd hp Jv⟩;have ba:Room 1 _:=hr.mono (by decide);have cx:Room 2 _:=hr.mono (by decide);have eh:Room 3 _:=hr.mono (by decide);have eg:Room 7 _:=hr.mono (by decide);have ef:Room 8 _:=hr.mono (by decide);have c3:Room 11 _:=hr.mono (by decide);refine⟨_,(@zH _ _ _ _ _ (@y7 _ _ _ _ _ _ _ _ Yb rfl (@vk _ _ _ _ _ _ rfl G.range (@zA _ _ _ _ _ (@zR _ _ _ _ _ _ _ _ _ (iq rfl) (by rfl) G.max (by rfl) (@zA _ _ _ _ _ zJ (@zA _ _ _ _ _ (@zR _ _ _ _ _ _ _ _ _ (ip rfl) (by rfl) G.min (by rfl) (@zA _ _ _ _ _ (@zR _ _ _ _ _ _ _ _ _ zT (by rfl) G.len Y1 (@zA _ _ _ _ _ (@qv _ 0 _ _ (by rfl')) zC (by rfl)) (by decide) (by decide) (by rfl) (by rfl)) (@zA _ _ _ _ _ zJ zC (by rfl)) (by rfl)) (by decide) (by decide) (by rfl) (by rfl)) zC (by rfl)) (by rfl)) (by decide) (by decide) (by rfl) (by rfl)) zC (by rfl)) (by rfl)) (@zM _ _ 1 _ vf.nd rfl (.inl rfl) (by rfl')) (@zH _ _ _ _ _ (@zZ _ _ 2 _ _ _ _ vf.nd rfl (.inr rfl) (@zQ _ _ _ _ _ _ _ _ _ _ _ _ _ _ _ _ UL.ok ba (by rfl) UL.m UL.kp UL.b .nil zY (@zA _ _ _ _ _ (@qv _ 0 _ _ (by rfl')) (@zA _ _ _ _ _ (@qv _ 1 _ _ (by rfl')) zC (by rfl)) (by rfl)) (by decide) (by rfl) (by rfl)) (by rfl) (by rfl')) (@zH _ _ _ _ _ (@zZ _ _ 3 _ _ _ _ vf.nd rfl (.inl rfl) (@zQ _ _ _ _ _ _ _ _ _ _ _ _ _ _ _ _ J.ok ba (by rfl) J.m J.kp J.b .nil zY (@zA _ _ _ _ _ (@qv _ 2 _ _ (by rfl')) (@zA _ _ _ _ _ zJ zC (by rfl)) (by rfl)) (by decide) (by rfl) (by rfl)) (by rfl) (by rfl')) (@zH _ _ _ _ _ (@zZ _ _ 4 _ _ _ _ vf.nd rfl (.inl rfl) (@zQ _ _ _ _ _ _ _ _ _ _ _ _ _ _ _ _ UM.ok c3 (by rfl) UM.m UM.kp UM.b .nil zY (@zA _ _ _ _ _ (@qv _ 3 _ _ (by rfl')) (@zA _ _ _ _ _ (@zQ _ _ _ _ _ _ _ _ _ _ _ _ _ _ _ _ J.ok ba (by rfl) J.m J.kp J.b .nil zY (@zA _ _ _ _ _ (@qv _ 2 _ _ (by rfl')) (@zA _ _ _ _ _ zJ zC (by rfl)) (by rfl)) (by decide) (by rfl) (by rfl)) zC (by rfl)) (by rfl)) (by decide) (by rfl) (by rfl)) (by rfl) (by rfl')) (@zH _ _ _ _ _ (@zZ _ _ 5 _ _ _ _ vf.nd rfl (.inl rfl) (@zj _ _ _ _ _ _ _ yB (@yJ _ _ _ _ (@zA _ _ _ _ _ (@jh _ _ _ _ _ _ _ rfl (by rfl) G.tuple (by rfl) G.range (@zA _ _ _ _ _ (@zj _ _ _ _ _ _ _ yE (@qv _ 4 _ _ (by rfl')) zJ (λ_ _=>rfl)) zC (by rfl)) (by rfl) (by rfl)) (@zA _ _ _ _ _ (@zX _ _ _ _ _ (@zA _ _ _ _ _ zJ zC (by rfl))) zC (by rfl)) (by rfl))) (@zw _ _ _ _ _ _ _ _ _ qI (by rfl) G.int (by rfl) (@zA _ _ _ _ _ (@ui _ _ _ _ _ _ _ _ vR (@qv _ 3 _ _ (by rfl')) zJ (yK _)) zC (by rfl)) (by decide) (by decide) (by rfl) (by rfl)) (λ_ _=>rfl)) (by rfl) (by rfl')) (@zH _ _ _ _ _ (@zZ _ _ 6 _ _ _ _ vf.nd rfl (.inl rfl) (@zj _ _ _ _ _ _ _ yE (@zQ _ _ _ _ _ _ _ _ _ _ _ _ _ _ _ _ UW.ok eh (by rfl) UW.m UW.kp UW.b .nil zY (@zA _ _ _ _ _ (@qv _ 4 _ _ (by rfl')) (@zA _ _ _ _ _ (@qv _ 5 _ _ (by rfl')) (@zA _ _ _ _ _ zJ zC (by rfl)) (by rfl)) (by rfl)) (by decide) (by rfl) (by rfl)) zJ (λ_ _=>rfl)) (by rfl) (by rfl')) (@zH _ _ _ _ _ (@zZ _ _ 7 _ _ _ _ vf.nd rfl (.inl rfl) (@yJ _ _ _ _ (@zA _ _ _ _ _ (@qv _ 6 _ _ (by rfl')) (@zA _ _ _ _ _ (@zj _ _ _ _ _ _ _ yE (@zQ _ _ _ _ _ _ _ _ _ _ _ _ _ _ _ _ UV.ok ef (by rfl) UV.m UV.kp UV.b .nil zY (@zA _ _ _ _ _ (@qv _ 4 _ _ (by rfl')) (@zA _ _ _ _ _ (@qv _ 5 _ _ (by rfl')) (@zA _ _ _ _ _ zJ zC (by rfl)) (by rfl)) (by rfl)) (by decide) (by rfl) (by rfl)) zJ (λ_ _=>rfl)) (@zA _ _ _ _ _ (@zQ _ _ _ _ _ _ _ _ _ _ _ _ _ _ _ _ UX.ok cx (by rfl) UX.m UX.kp UX.b .nil zY (@zA _ _ _ _ _ (@qv _ 2 _ _ (by rfl')) (@zA _ _ _ _ _ (@qv _ 6 _ _ (by rfl')) zC (by rfl)) (by rfl)) (by decide) (by rfl) (by rfl)) zC (by rfl)) (by rfl)) (by rfl))) (by rfl) (by rfl')) (@zH _ _ _ _ _ (@y7 _ _ _ _ _ _ _ _ Yb rfl (@vk _ _ _ _ _ _ rfl G.range (@zA _ _ _ _ _ zJ zC (by rfl)) (by rfl)) (@zM _ _ 8 _ vf.nd rfl (.inl rfl) (by rfl')) (@zH _ _ _ _ _ (@zZ _ _ 9 _ _ _ _ vf.nd rfl (.inl rfl) (@zw _ _ _ _ _ _ _ _ _ yO (by rfl) G.tuple (by rfl) (@zA _ _ _ _ _ (@oR _ _ _ _ none _ _ _ _ _ _ ["_law_fork","_law_left_here"] [none,some 2] rfl (@xc _ _ _ _ (@zj _ _ _ _ _ _ _ yE (@qv _ 4 _ _ (by rfl')) zJ (λ_ _=>rfl))) (CapOk.of (by kernel_rfl)) (λ_ _ _ _ _=>(@zM _ _ 0 _ (show (["_law_fork","_law_left_here"]:List Str).Nodup from by decide +kernel) rfl (.inl rfl) (.inr rfl))) (λ_ _ _ _ _=>xY) (λ_ _ _ _ _=>(@zQ _ _ _ _ _ _ _ _ _ _ _ _ _ _ _ _ J.ok ba (by rfl) J.m J.kp J.b .nil zY (@zA _ _ _ _ _ (@qv _ 1 _ _ (by rfl')) (@zA _ _ _ _ _ zJ zC (by rfl)) (by rfl)) (by decide) (by rfl) (by rfl))) (by intro _;rfl)) zC (by rfl)) (by decide) (by decide) (by rfl) (by rfl)) (by rfl) (by rfl')) (@zH _ _ _ _ _ (@zZ _ _ 10 _ _ _ _ vf.nd rfl (.inl rfl) (@zQ _ _ _ _ _ _ _ _ _ _ _ _ _ _ _ _ UD.ok cx (by rfl) UD.m UD.kp UD.b .nil zY (@zA _ _ _ _ _ (@qv _ 4 _ _ (by rfl')) (@zA _ _ _ _ _ (@qv _ 5 _ _ (by rfl')) (@zA _ _ _ _ _ (@zX _ _ _ _ _ (@zA _ _ _ _ _ (@qv _ 9 _ _ (by rfl')) (@zA _ _ _ _ _ (@zQ _ _ _ _ _ _ _ _ _ _ _ _ _ _ _ _ J.ok ba (by rfl) J.m J.kp J.b .nil zY (@zA _ _ _ _ _ (@qv _ 2 _ _ (by rfl')) (@zA _ _ _ _ _ (@zj _ _ _ _ _ _ _ yE (@qv _ 4 _ _ (by rfl')) zJ (λ_ _=>rfl)) zC (by rfl)) (by rfl)) (by decide) (by rfl) (by rfl)) zC (by rfl)) (by rfl))) (@zA _ _ _ _ _ (@qv _ 6 _ _ (by rfl')) zC (by rfl)) (by rfl)) (by rfl)) (by rfl)) (by decide) (by rfl) (by rfl)) (by rfl) (by rfl')) (@zK _ _ _ (@yY _ _ _ _ _ _ _ _ (@zo _ _ _ _ _ _ _ _ kF (@qv _ 10 _ _ (by rfl')) wJ (by rfl)) (@zK _ _ _ (@yj _ _ _ _ (@wB _ _ _ _ _ _ _ _ _ _ _ _ Y2 Yy Yz yc (@qv _ 7 _ _ (by rfl')) (@zA _ _ _ _ _ (@zQ _ _ _ _ _ _ _ _ _ _ _ _ _ _ _ _ UX.ok cx (by rfl) UX.m UX.kp UX.b .nil zY (@zA _ _ _ _ _ (@qv _ 2 _ _ (by rfl')) (@zA _ _ _ _ _ (@qv _ 10 _ _ (by rfl')) zC (by rfl)) (by rfl)) (by decide) (by rfl) (by rfl)) zC (by rfl)) (by rfl) (by rfl) (by rfl) (by rfl) (by rfl)) (by rfl))) zu)))) (by intro _;rfl)) (@zK _ _ _ (@y7 _ _ _ _ _ _ _ _ Yb rfl (@ug _ _ _ _ (@qv _ 7 _ _ (by rfl'))) (@zM _ _ 11 _ vf.nd rfl (.inl rfl) (by rfl')) (@zH _ _ _ _ _ (@zZ _ _ 12 _ _ _ _ vf.nd rfl (.inl rfl) (@zR _ _ _ _ _ _ _ _ _ (sZ hr.gd hr.units) (by rfl) GR.repr (by rfl) (@zA _ _ _ _ _ (@qv _ 11 _ _ (by rfl')) zC (by rfl)) (by decide) (by decide) (by rfl) (by rfl)) (by rfl) (by rfl')) (@zK _ _ _ (@yY _ _ _ _ _ _ _ _ (@gq _ _ _ _ _ _ _ (@zo _ _ _ _ _ _ _ _ cS (@zQ _ _ _ _ _ _ _ _ _ _ _ _ _ _ _ _ UR.ok eg (by rfl) UR.m UR.kp UR.b .nil zY (@zA _ _ _ _ _ (@qv _ 4 _ _ (by rfl')) (@zA _ _ _ _ _ (@qv _ 5 _ _ (by rfl')) (@zA _ _ _ _ _ (@qv _ 11 _ _ (by rfl')) zC (by rfl)) (by rfl)) (by rfl)) (by decide) (by rfl) (by rfl)) wK (by rfl)) (@md _ _ _ _ (@zo _ _ _ _ _ _ _ _ oU (@zR _ _ _ _ _ _ _ _ _ (sZ hr.gd hr.units) (by rfl) GR.repr (by rfl) (@zA _ _ _ _ _ (@qv _ 11 _ _ (by rfl')) zC (by rfl)) (by decide) (by decide) (by rfl) (by rfl)) (@qv _ 12 _ _ (by rfl')) (yK _)))).pt (@zK _ _ _ (@zS _ _ _ _ wK)) zu))) (by intro _;rfl)))))))))) (by intro _;rfl)) (@zK _ _ _ (@zS _ _ _ _ wK))),?_⟩;have ml:(ns.map V.int).length=ns.length:=Jc _;refine⟨_,rfl,a,_,rfl,.inl hS,_,_,rfl,_,_,rfl,?_⟩;rw[ml]
 have e6:(if (if (5:Int)<(ns.length:Nat) then (5:Int) else (ns.length:Nat)) > 1 then (if (5:Int)<(ns.length:Nat) then (5:Int) else (ns.length:Nat)) else 1)<=5/\(1:Int)<=(if (if (5:Int)<(ns.length:Nat) then (5:Int) else (ns.length:Nat)) > 1 then (if (5:Int)<(ns.length:Nat) then (5:Int) else (ns.length:Nat)) else 1):=by
  split<;>split at *<;>lia
 refine⟨_,rfl,by lia,by lia,?_⟩;generalize (if (if (5:Int)<(ns.length:Nat) then (5:Int) else (ns.length:Nat)) > 1 then (if (5:Int)<(ns.length:Nat) then (5:Int) else (ns.length:Nat)) else 1)=cnt at e6;refine qD (lo:=0) (n:=cnt.toNat) (λi σ L=>(∃ v1 v2 v3 v4 v5 v6 v7 v8 v9 v10 v11 cc,σ=[some (.ref a),v1,v2,v3,v4,v5,v6,v7,v8,v9,v10,v11,cc])/\Scr K a (ns.map V.int) L/\TabQ qV Pt L/\TabQ qS Pu L) ⟨⟨_,_,_,_,_,_,_,_,_,_,_,_,rfl⟩,Scr.of hS,tab,a5⟩ ?_ ?_
 rotate_left
 ·rintro σ L ⟨⟨v1,v2,v3,v4,v5,v6,v7,v8,v9,v10,v11,cc,rfl⟩,a7,tab,a5⟩
  exact k _
 rintro i σ L hi ⟨⟨v1,v2,v3,v4,v5,v6,v7,v8,v9,v10,v11,cc,rfl⟩,a7,tab,a5⟩;have i6:i<5:=by lia
 refine jF (λD0 eS=>?_);refine zi (λD1 eN=>?_);refine⟨_,rfl,_,rfl,a,ns,_,rfl,a7.sq,e0,by lia,by lia,λl H3 hl R S3=>?_⟩
 have u:LE K a l Pt Pu (ns.map V.int) H3:=⟨S3,tab.same R,a5.same R,pn,a7.keep λo e _=>.inr (R _ _ e),by
  rcases a7 with z|⟨o,z⟩|z
  ·exact .inl (zE z hl)
  ·exact .inl (zE z hl)
  ·exact .inr z⟩
 clear a7 tab a5 R hl;refine eN _ _ ?_;refine zi (λD2 ey=>?_);refine⟨_,rfl,l,3,rfl,by decide,by decide,u.S,λwy H4 c4 S4 B4=>ey _ _ ?_⟩;replace c4:wy<3:=by lia
 refine zi (λD3 ew=>?_);refine⟨_,rfl,_,rfl,l,3,rfl,by decide,by decide,S4,λkk H5 k3 S5 B5=>⟨wy,kk,rfl,by lia,λr fr er ps H6 s6 na=>ew _ _ ?_⟩⟩;have aT:=((u.pick S4 B4).pick S5 B5).same s6;have ok:=cz (way:=wy) (k:=kk) (by lia);obtain⟨wall,l4,f8⟩:=jG wy c4 kk (by lia);have d8:=tZ wy kk;clear S4 B4 S5 B5 s6 S3 u;obtain⟨moves,a3⟩:∃ moves,moves=mvN wy (y0 wy kk).lanes:=⟨_,rfl⟩;rw[<- a3]at wall;generalize y0 wy kk=N at *;have l1:=ok.l1;refine zi (λD4 eu=>?_);refine⟨_,rfl,r,_,_,_,rfl,rfl,SqT.of na.net,rfl,N.lanes,rfl,by lia,λZ dq=>⟨by show 1<=sizeLine;decide,λD b5=>⟨by show 2<=sizeLine;decide,λl2 b8=>?_⟩⟩⟩;replace b5:L2.upd H6 Z (.tup (wb N.lanes)) D=none:=b5;replace b8:L2.upd (L2.upd H6 Z (.tup (wb N.lanes))) D (.tup [.int 0]) l2=none:=b8;have s1:=zD dq (.tup (wb N.lanes));have s2:=zD b5 (.tup [.int 0]);have R:=zD b8 (.lst [.ref Z,.ref D]);have u3:=(s1.trans s2).trans R;have dS:=R _ _ (s2 _ _ (zB (H:=H6) (a:=Z) (o:=.tup (wb N.lanes))));have dP:=R _ _ (zB (H:=L2.upd H6 Z (.tup (wb N.lanes))) (a:=D) (o:=.tup [.int 0]));have b4:=aT.same u3;have cm:=na.tups (Tups.of u3)
 have mlt:∀ m∈moves,m<N.lanes:=λm hm=>by
  rw[a3]at hm;unfold mvN at hm;split at hm
  ·rw[Ja.mp hm];lia
  ·exact YQ.mp hm
 have W:moves.length<=16:=by
  rw[a3];unfold mvN;split
  ·show 1<=16;decide
  ·rw[Z6];lia
 obtain⟨sm,dT,cn⟩:∃ sm,atI [V.ref Z,V.ref D] (if decide (V.int ((wy:Nat):Int)=V.int 1)=true then 1 else 0)=some (.ref sm)/\L2.upd (L2.upd (L2.upd H6 Z (.tup (wb N.lanes))) D (.tup [.int 0])) l2 (.lst [.ref Z,.ref D]) sm=some (.tup (zW moves)):=by
  by_cases w1:wy=1
  ·refine⟨D,?_,?_⟩
   ·rw[Jm (Jt (by rw[w1];rfl))];exact yk (j:=1) rfl
   ·rw[dP,a3,w1];rfl
  ·refine⟨Z,?_,?_⟩
   ·rw[Je (by rw[Jj λe=>w1 (by injection e with e;lia)];decide)];exact yk (j:=0) rfl
   ·rw[dS,a3]
    unfold mvN;rw[Je w1];rfl
 refine⟨_,rfl,rfl,.inr ⟨_,rfl,l2,_,_,_,rfl,rfl,SqL.of zB,dT,eu _ _ ?_⟩⟩;show wC _ _ _ _ (L2.upd (L2.upd (L2.upd H6 Z (.tup (wb N.lanes))) D (.tup [.int 0])) l2 (.lst [.ref Z,.ref D]));generalize L2.upd (L2.upd (L2.upd H6 Z (.tup (wb N.lanes))) D (.tup [.int 0])) l2 (.lst [.ref Z,.ref D])=H7 at *;clear dT dS dP u3 R s2 s1 b8 b5 dq aT na a3 d8;refine zi (λD5 ep=>?_);refine⟨_,rfl,_,rfl,r,fr,er,ps,N,sm,moves,4000,rfl,ok,cm,cn,mlt,W,by decide,by decide,λq1 H8 s8 ao=>?_⟩;obtain⟨bk,dx,d2⟩:=rM ok wall ao;have b3:=b4.same s8;have ck:=cm.tups (Tups.of s8);have ct:=s8 _ _ cn;refine⟨q1,_,_,_,rfl,rfl,SqT.of dx,rfl,ep _ _ ?_⟩;clear ao dx s8 b4 cm cn;refine zi (λD6 eo=>?_);refine⟨_,rfl,_,rfl,_,rfl,r,fr,er,ps,N,sm,moves,4000,rfl,ok,ck,ct,mlt,W,by decide,.inl (by decide),b3.tab,λq2 H9 B9 bt ab=>?_⟩;obtain⟨bv,dt,d0⟩:=rM ok wall ab;have b2:=b3.ver bt B9;have t9:=pi b3.tab B9;have c8:=ck.tups t9;have dr:=t9 _ _ ct;have cX:=d2.tups t9;refine⟨q2,_,_,_,rfl,rfl,SqT.of dt,rfl,?_⟩;clear ab dt B9 bt t9 b3 ck ct d2;obtain⟨_,d1,dm,e1,b9,a9,B1⟩:=id cX;cases e1;have ea:=wV l4 f8 B1.nd B1.ok;have d9:=JU a9;refine⟨_,rfl,_,rfl,l,bk,_,rfl,b9,by rw[Jc];lia,b2.S,λpm ys c0 py b6 d4 c1=>⟨by show 3<=sizeLine;decide,λI b7=>?_⟩⟩;have X:=b2.pick d4 c1;have cf:=c1.tups3 b2.S;obtain⟨cs,js,rfl,kj,pj⟩:=(a9.tups cf).perm py;have sl:=zD b7 (.lst [.ref bk,.ref bv,.ref pm]);have a8:I≠l:=(X.S.ne b7).symm;have d3:=zai X b7;have bu:=X.same sl;have a6:=cf.trans (Tups.of sl);have C:=c8.tups a6;have Y:=a6 _ _ dr;have ax:=cX.tups a6
 have bl:∀ y∈[V.ref bk,.ref bv,.ref pm],BkAt N moves (L2.upd c0 I (.lst [.ref bk,.ref bv,.ref pm])) y:=λy S=>by
  simp only[Jq,Jv,ZE]at S;rcases S with rfl|rfl|rfl
  ·exact ax
  ·exact d0.tups a6
  ·exact⟨pm,cs,js,rfl,sl _ _ b6,kj.tups (Tups.of sl),B1.perm pj⟩
 have bB:L2.upd c0 I (.lst [.ref bk,.ref bv,.ref pm]) I=some (.lst [.ref bk,.ref bv,.ref pm]):=zB;have bo:[V.ref bk,.ref bv,.ref pm].length<=3:=Jd _;refine eo _ _ ?_;generalize L2.upd c0 I (.lst [.ref bk,.ref bv,.ref pm])=HB at *;generalize [V.ref bk,.ref bv,.ref pm]=ts0 at *;clear sl b7 cf a6 d4 c1 b6 kj pj py X b2 c8 dr cX d0 b9 a9 B1 ea d9;refine zi (λD7 en=>?_);refine⟨_,rfl,by decide,by decide,?_⟩;refine qD (lo:=0) (n:=(6:Int).toNat) (λj σ HZ=>∃ ts w8 w9 bS O M,σ=[some (.ref a),some (.int (0+(i:Nat))),some (.ref l),some (.int (wy:Nat)),some (.ref r),some (.ref sm),some (.ref bk),some (.ref I),w8,w9,bS,O,M]/\LE K a l Pt Pu (ns.map V.int) HZ/\Tups HB HZ/\HZ I=some (.lst ts)/\ts.length<=3+j/\∀ y∈ts,BkAt N moves HZ y) ⟨_,_,_,_,_,_,rfl,bu,Tups.of (Same.refl _),bB,bo,bl⟩ ?_ ?_
 ·rintro j σ HZ hj ⟨ts,w8,w9,bS,O,M,rfl,leZ,tz,a0,tl,tm⟩
  replace hj:j<6:=hj;have d:=C.tups tz;refine jF (λG0 cb=>?_);refine zi (λG1 cP=>?_);refine⟨_,rfl,r,_,_,_,rfl,rfl,SqT.of d.net,rfl,fr,rfl,⟨_,SqT.of d.forks⟩,λlc bc=>?_⟩;have b1:=leZ.S.ne bc;have dH:Frs l HZ lc:=λb o e _=>zE e bc;have e4:I≠lc:=zE a0 bc;refine pE (K:=K) (a:=fr) (xs:=ps) (λi acc σ L=>(∃ v0,σ=[v0,some (.ref l)])/\Pk3 L l/\But l HZ L/\L lc=some (.lst acc)/\∃ T:List Int,acc=T.map V.int/\T.length=i/\Bits T) ⟨⟨_,rfl⟩,leZ.S.upd b1,But.of (zD bc _),zB,[],rfl,rfl,λt ht=>(nomatch ht)⟩ (λi acc σ L q=>⟨q.2.2.2.1,SqT.of (q.2.2.1.tups3 leZ.S _ _ d.forks)⟩) ?_ ?_
  ·rintro i y acc σ L S ⟨⟨v0,rfl⟩,S2,U,h2,T,rfl,el,eb⟩
   have il:=(J9.mp S).1;have fm:=ok.fm;have pl:=d.prs.len;refine⟨_,rfl,l,2,rfl,by decide,by decide,S2,λv H3 hv S3 B3=>?_⟩;have h3:=B3 lc _ h2 b1.symm;refine⟨h3,by rw[Jc,JE];lia,nx il ⟨⟨_,rfl⟩,S3.upd b1,(U.trans B3).upd dH,zB,T++[(v:Int)],by rw[JG];rfl,by rw[Jb,el];rfl,λt ht=>?_⟩⟩;rcases Jr.mp ht with z|z
   ·exact eb t z
   ·rw[Ja.mp z];lia
  rintro acc σ L ⟨⟨v0,rfl⟩,S2,U,h2,T,rfl,el,eb⟩;refine⟨lc,_,rfl,.inl ⟨SqL.of h2,λtt dp=>cP _ _ ?_⟩⟩;have R:=zD dp (.tup (T.map V.int));have et:=zB (H:=L) (a:=tt) (o:=.tup (T.map V.int));have u:=(leZ.pick S2 U).same R;have t3:=(U.tups3 leZ.S).trans (Tups.of R);have dF:=R _ _ (U _ _ a0 a8);have c6:∀ y∈ts,BkAt N moves _ y:=λy S=>(tm y S).tups t3;have b0:=tz.trans t3;have e3:T.length=N.forks.length:=by rw[el];exact d.prs.len
  show wC _ _ _ _ (L2.upd L tt (.tup (T.map V.int)));generalize L2.upd L tt (.tup (T.map V.int))=H3 at *;clear t3 R dp h2 U S2 e4 dH b1 bc d tm tz a0 leZ el;have c9:=C.tups b0;have ee:=b0 _ _ Y;refine zi (λG2 dG=>?_);refine⟨_,rfl,_,rfl,_,rfl,_,rfl,_,rfl,r,_,_,_,rfl,rfl,SqT.of c9.net,rfl,l,N.lanes,rfl,by lia,by lia,u.S,λv H4 hv S4 B4=>⟨by show 2<=sizeLine;decide,λpb dA=>?_⟩⟩;have s5:=zD dA (.tup [.ref tt,.int (v:Nat)]);have t5:=(B4.tups3 u.S).trans (Tups.of s5);have dd:=(u.pick S4 B4).same s5;have dC:=s5 _ _ (B4 _ _ dF a8);have c5:∀ y∈ts,BkAt N moves _ y:=λy S=>(c6 y S).tups t5;have a4:=b0.trans t5;have d6:NKey (L2.upd H4 pb (.tup [.ref tt,.int (v:Nat)])) (stK T [(v:Nat)]) pb:=uW (is:=[(v:Nat)]) (t:=tt) zB (t5 _ _ et);show li _ _ _ (L2.upd H4 pb (.tup [.ref tt,.int (v:Nat)])) _;generalize L2.upd H4 pb (.tup [.ref tt,.int (v:Nat)])=H5 at *;clear t5 s5 dA B4 S4 et c6 dF u c9 ee b0;obtain⟨_,d1,dm,e1,b9,a9,B1⟩:=ax.tups a4;cases e1;have d5:OkP N (stK T [((v:Nat):Int)]):=⟨T,v,rfl,e3,eb,by lia⟩;refine⟨_,rfl,r,fr,er,ps,N,sm,moves,pb,_,bk,d1,dm,rfl,ok,C.tups a4,l4,f8,a4 _ _ Y,mlt,W,d6,d5,b9,a9,B1,λH6 s6=>dG _ _ ?_,λpw fe e5 H6 s6 ei dn U=>dG _ _ ?_⟩
  ·exact⟨_,rfl,rfl,false,JQ V.bl (by rw[Jt rfl];rfl),zz (cb _ _ ⟨_,_,_,_,_,_,rfl,dd.same s6,a4.trans (Tups.of s6),s6 _ _ dC,by lia,λy S=>(c5 y S).tups (Tups.of s6)⟩)⟩
  have aT:=dd.same s6;have dB:=s6 _ _ dC;have e9:=wV l4 f8 U.nd U.ok;have e8:=JU dn;refine⟨_,rfl,rfl,true,JQ V.bl (by rw[Jj λe=>by cases e];rfl),yV ⟨_,rfl,.inl ⟨rfl,_,SqL.of dB⟩,_,rfl,_,rfl,l,pw,_,rfl,ei,by rw[Jc];lia,aT.S,λpm ys H7 py b6 S7 B7=>?_⟩⟩;have t7:=B7.tups3 aT.S;have c7:=(Tups.of s6).trans t7;have b4:=aT.pick S7 B7;have cJ:=B7 _ _ dB a8;obtain⟨cs,js,rfl,kj,pj⟩:=(dn.tups t7).perm py;have tq:Tups H7 (L2.upd H7 I (.lst (ts++[.ref pm]))):=Tups.lst cJ;refine⟨I,ts,.ref pm,rfl,rfl,cJ,by rw[JE];lia,cb _ _ ⟨_,_,_,_,_,_,rfl,b4.list cJ a8 d3,(a4.trans c7).trans tq,zB,by rw[Jb];show _+1<=_;lia,λy S=>?_⟩⟩;rcases Jr.mp S with z|z
  ·exact(c5 y z).tups (c7.trans tq)
  ·rw[Ja.mp z];exact⟨pm,cs,js,rfl,tq _ _ b6,kj.tups tq,U.perm pj⟩
 rintro σ HZ ⟨ts,w8,w9,bS,O,M,rfl,leZ,tz,a0,tl,tm⟩;have d:=C.tups tz;have ec:=tz _ _ Y;clear d3 a8 tz bu C Y ax bl bB bo;refine en _ _ ?_;refine⟨_,rfl,I,rfl,⟨_,SqL.of a0⟩,?_⟩
 have lP:∀ {HA:Hp},LE K a l Pt Pu (ns.map V.int) HA->HA I=some (.lst ts)->I≠Pu:=λle h e=>by
  obtain⟨ps,q⟩:=mD le.tbu;rw[<- e,h]at q;cases q
 refine nN (K:=K) (a:=I) (xs:=ts) (λj σ HA=>∃ O M,σ=[some (.ref a),some (.int (0+(i:Nat))),some (.ref l),some (.int (wy:Nat)),some (.ref r),some (.ref sm),some (.ref bk),some (.ref I),w8,w9,bS,O,M]/\LE K a l Pt Pu (ns.map V.int) HA/\Tups HZ HA/\HA I=some (.lst ts)) ⟨_,_,rfl,leZ,Tups.of (Same.refl _),a0⟩ (λj σ HA _ z=>by
  obtain⟨_,_,_,_,_,z⟩:=z
  exact SqL.of z) ?_ ?_
 rotate_left
 ·rintro σ HA ⟨O,M,rfl,g,tA,cH⟩
  exact eS _ _ ⟨⟨_,_,_,_,_,_,_,_,_,_,_,_,rfl⟩,g.scr,g.tab,g.tbu⟩
 rintro j x σ HA hx ⟨O,M,rfl,g,tA,cH⟩;obtain⟨b,bs,ks,rfl,hb,ka,B⟩:=(tm x (JF hx)).tups tA;have d7:=d.tups tA;have ed:=tA _ _ ec;have kf:=wV l4 f8 B.nd B.ok;have kl:=JU ka;refine jF (λG0 cb=>?_);refine zi (λG1 cP=>?_)
 have sh:ShB 1000000 (.tuple (ks.map iR)):=(ShB.long (m:=230) (k:=1024) (λe he=>by
  obtain⟨k,hk,rfl⟩:=Jw.mp he
  exact cG ok (B.ok k hk) (by lia)) (by rw[Jc];lia)).up (by decide)
 refine⟨_,rfl,b,_,rfl,DD.up (by decide) (kw hb ka B.ok),sh,cP _ _ ?_⟩;refine⟨_,rfl,_,rfl,_,rfl,r,fr,er,ps,N,sm,moves,.ref b,rfl,ok,d7,ed,mlt,W,.inr ⟨b,rfl,.inl ⟨_,hb⟩⟩,λxs e=>?_,g.tbu,λL U c2=>?_⟩
 ·rw[yR hb]at e
  obtain rfl:=Jf e;refine⟨by rw[Jc];lia,λy S=>?_⟩;obtain⟨c,hc,rfl⟩:=Jw.mp S;obtain⟨k,hk,nk⟩:=ka.mem c hc;exact bQ ok (B.ok k hk) nk
 rw[yR hb];dsimp only;rw[lU ka B];have D:=pi g.tbu U;refine⟨true,true,rfl,rfl,_,rfl,zz ⟨_,rfl,b,_,rfl,DD.up (by decide) (kw (D _ _ hb) (ka.tups D) B.ok),sh,_,rfl,rfl,_,rfl,?_⟩⟩;rw[show (!decide (V.str (PyData.tuple (ks.map iR)).shown=V.str (PyData.tuple (ks.map iR)).shown))=false by rw[Jt rfl];rfl];exact zz (cb _ _ ⟨_,_,rfl,g.show_ c2 U,tA.trans D,U _ _ cH (lP g cH)⟩)
end
structure FnAt (K:Jl) (x:Str) (st:Stmt) (f:JI) (fd:Yl):Prop where
 ns:PySem.W.nsIn K mainGlobals x=some (some (.ref f))
 fn:Fun K x x st f fd
theorem yN {K:Jl}{x:Str}{st:Stmt}{f:JI}{oc:Jo}{od an:Option JI}{osl:Array (Option Jo)}{kV doc pm cdv ct:Jo}(a:PySem.W.nsIn K mainGlobals x=some (some (.ref f)))(l:K.lookup f=some ⟨oc,od,.func (PySem.W.fnOf x x (xI st) (yd st) (zN st) .none kV doc pm an cdv ct),osl⟩)(c:PySem.W.codeIn K cdv x=true)(k:PySem.W.keepIn K (.ref f)=true):FnAt K x st f (PySem.W.fnOf x x (xI st) (yd st) (zN st) .none kV doc pm an cdv ct):=⟨a,zau l c k⟩
structure FnAtC (K:Jl) (x:Str) (st:Stmt) (f:JI) (fd:Yl) (c:JI):Prop where
 ns:PySem.W.nsIn K mainGlobals x=some (some (.ref f))
 fn:FunC K x x st f fd c
theorem eZ {K:Jl}{x:Str}{st:Stmt}{f c:JI}{oc:Jo}{od an:Option JI}{osl:Array (Option Jo)}{kV doc pm ct:Jo}(a:PySem.W.nsIn K mainGlobals x=some (some (.ref f)))(l:K.lookup f=some ⟨oc,od,.func (PySem.W.fnOf x x (xI st) (yd st) (zN st) .none kV doc pm an (.ref c) ct),osl⟩)(cd:PySem.W.codeIn K (.ref c) x=true)(k:PySem.W.keepIn K (.ref f)=true):FnAtC K x st f (PySem.W.fnOf x x (xI st) (yd st) (zN st) .none kV doc pm an (.ref c) ct) c:=⟨a,⟨⟨_,_,_,_,_,_,_,_,rfl,l,cd⟩,k⟩⟩
theorem _root_.L2.FunC.fun {K:Jl}{x qual:Str}{st:Stmt}{f:JI}{fd:Yl}{c:JI}(F:FunC K x qual st f fd c):Fun K x qual st f fd:=by
 obtain⟨d,b,kV,doc,pm,an,g,a,e,l,q⟩:=F.ex;exact⟨⟨d,b,kV,doc,pm,an,.ref c,g,a,e,l,q⟩,F.kp⟩
theorem qF {K:Jl}{c P:JI}{od:Option JI}{vs:Array Jo}{osl:Array (Option Jo)}(l:K.lookup c=some ⟨.type "code",od,.fields vs,osl⟩) (e:PySem.W.codeHdIn [(c,⟨.type "code",od,.fields vs,osl⟩)] c P=true):PySem.W.codeHdIn K c P=true:=by
 have q:List.lookup c [(c,(⟨.type "code",od,.fields vs,osl⟩:Obj))]=some ⟨.type "code",od,.fields vs,osl⟩:=by rw[Ys,ZV]
 unfold PySem.W.codeHdIn at e ⊢;rw[q]at e;rw[l];exact e
theorem us1 {us:List Jo}(h:us.length=1):∃ a,us=[a]:=by
 match us,h with
 | [a],_=>exact⟨a,rfl⟩
theorem us2 {us:List Jo}(h:us.length=2):∃ b a,us=[b,a]:=by
 match us,h with
 | [b,a],_=>exact⟨b,a,rfl⟩
theorem us3 {us:List Jo}(h:us.length=3):∃ c b a,us=[c,b,a]:=by
 match us,h with
 | [c,b,a],_=>exact⟨c,b,a,rfl⟩
theorem us4 {us:List Jo}(h:us.length=4):∃ c b a u3,us=[c,b,a,u3]:=by
 match us,h with
 | [c,b,a,u3],_=>exact⟨c,b,a,u3,rfl⟩
theorem us5 {us:List Jo}(h:us.length=5):∃ d c b u3 a,us=[d,c,b,u3,a]:=by
 match us,h with
 | [d,c,b,u3,a],_=>exact⟨d,c,b,u3,a,rfl⟩
set_option maxHeartbeats 4000001 in
theorem zaC {l:PySem.W.OpenLaw}{w:YI}{K:Jl}{h:YP}{mg:Str->Option Jo}{fa f1 f2 f3 f4 f5 f6 f7 f8 f9 bS bu bt bo bl eN bc ba a9 a8 a7 a6 a5 a4 a3 a0 aT ax ao ab Z Y W V ey:JI}{d1 d2 d3 d4 d5 d6 d7 d8 d9 dp dn dm dd c9 eS c8 c7 c6 c5 c4 c3 c2 c1 c0 cX cP cx cn cm ck cf cc cb b0:Yl}(X:K.In h) (G:h.Ns mainGlobals mg) (ew:mg "law" = some (.ref fa))
  {i Pt j Pu:JI}
  (A1:FnAt K "is_whole" mN f1 d1)
  (A2:FnAt K "is_below" mT f2 d2)
  (A3:FnAt K "is_row" mQ f3 d3)
  (A4:FnAt K "are_below" vg f4 d4)
  (A5:FnAt K "end_of" aX f5 d5)
  (A6:FnAt K "run_through" aO f6 d6)
  (A7:FnAt K "passed" qb f7 d7)
  (A8:FnAt K "given_at" mR f8 d8)
  (A9:FnAt K "added" mU f9 d9)
  (P:FnAt K "first_turns" qf bS dp)
  (O:FnAt K "first_pair" qg bu dn)
  (N:FnAt K "pair_behind" mO bt dm)
  (L:FnAt K "next_level" aQ bo dd)
  (J:FnAt K "climbed" aY bl c9)
  (I:FnAt K "book_of" ga eN eS)
  (H:FnAtC K "verdict" oG bc c8 i)
  (F:FnAt K "is_book" qd ba c7)
  (E:FnAt K "is_pair" qc a9 c6)
  (D:FnAtC K "shows_stair" x5 a8 c5 j)
  (C:FnAt K "_law_left" gZ a7 c4)
  (B:FnAt K "_law_pick" gX a6 c3)
  (A:FnAt K "_law_merger" oJ a5 c2)
  (z:FnAt K "_law_stairway" oI a4 c1)
  (y:FnAt K "_law_block" oK a3 c0)
  (x:FnAt K "_law_tree" oH a0 cX)
  (u:FnAt K "_law_made" gY aT cP)
  (t:FnAt K "_law_mixed" mP ax cx)
  (r:FnAt K "_law_passed" aP ao cn)
  (q:FnAt K "_law_more" aR ab cm)
  (o:FnAt K "_law_first" aW Z ck)
  (n:FnAt K "_law_levels" aS Y cf)
  (m:FnAt K "_law_verdict" aM W cc)
  (k:FnAt K "_law_wider" mM V cb)
  (Q:FnAt K "law" aU ey b0)
  (z1:PySem.W.nsIn K mainGlobals "len" = some none)
  (z2:PySem.W.nsIn K mainGlobals "range" = some none)
  (z3:PySem.W.nsIn K mainGlobals "tuple" = some none)
  (z4:PySem.W.nsIn K mainGlobals "enumerate" = some none)
  (z5:PySem.W.nsIn K mainGlobals "abs" = some none)
  (z6:PySem.W.nsIn K mainGlobals "zip" = some none)
  (z7:PySem.W.nsIn K mainGlobals "isinstance" = some none)
  (z8:PySem.W.nsIn K mainGlobals "all" = some none)
  (z9:PySem.W.nsIn K mainGlobals "sum" = some none)
  (dT:PySem.W.nsIn K mainGlobals "bool" = some none)
  (dS:PySem.W.nsIn K mainGlobals "int" = some none)
  (dR:PySem.W.nsIn K mainGlobals "str" = some none)
  (dP:PySem.W.nsIn K mainGlobals "max" = some none)
  (dM:PySem.W.nsIn K mainGlobals "min" = some none)
  (dK:PySem.W.nsIn K mainGlobals "sorted" = some none)
  (dH:PySem.W.nsIn K mainGlobals "list" = some none)
  (dG:PySem.W.nsIn K mainGlobals "repr" = some none)
  (dF:PySem.W.nsIn K mainGlobals "dict" = some none)
  (cH:PySem.W.codeHdIn K i Pt=true) (dW:mainGlobals≠Pt) (kP:K.lookup Pt=none) (cJ:PySem.W.codeHdIn K j Pu=true) (dV:mainGlobals≠Pu) (kQ:K.lookup Pu=none)
  : ((K.lookup Pt=none/\∃ c,PySem.W.codeHdIn K c Pt=true)/\(K.lookup Pu=none/\∃ c,PySem.W.codeHdIn K c Pu=true))/\∃ fd:Yl,(∀ (s:JO) (v:Jo),BindsTo s fd ⟨[v],[]⟩ [("_law_script",v)])/\∀ base:YP,K.In base->base.Ns mainGlobals mg->(∀ p∈[Pu,Pt],base.BuiltinsAt mg p)->FnOk l.prog w K mg base CX0 12 fa fd ["_law_script"] (lj K Pt Pu):=by
 have e:=ew.symm.trans (JL X G Q.ns);cases e;have M:Mgs mg:=⟨JY X G z1,JY X G z2,JY X G z3,JY X G z4,JY X G z5,JY X G z6,JY X G z7,JY X G z8,JY X G z9,JY X G dT,JY X G dS,JY X G dR,JY X G dP,JY X G dM,JY X G dK,JY X G dH⟩;have M2:MgR mg:=⟨JY X G dG⟩;have M3:MgD mg:=⟨JY X G dF⟩;have b1:=A1.fn.binds (ps:=["thing"]) λ_ _ _ _ _ _ b a=>by obtain⟨d,rfl⟩:=us1 a;rfl
 have m1:=JL X G A1.ns;have b2:=A2.fn.binds (ps:=["thing","bound"]) λ_ _ _ _ _ _ b a=>by obtain⟨d,f,rfl⟩:=us2 a;rfl
 have m2:=JL X G A2.ns;have b3:=A3.fn.binds (ps:=["thing","many"]) λ_ _ _ _ _ _ b a=>by obtain⟨d,f,rfl⟩:=us2 a;rfl
 have m3:=JL X G A3.ns;have b4:=A4.fn.binds (ps:=["thing","many","bound"]) λ_ _ _ _ _ _ b a=>by obtain⟨d,f,g,rfl⟩:=us3 a;rfl
 have m4:=JL X G A4.ns;have b5:=A5.fn.binds (ps:=["net","lane"]) λ_ _ _ _ _ _ b a=>by obtain⟨d,f,rfl⟩:=us2 a;rfl
 have m5:=JL X G A5.ns;have b6:=A6.fn.binds (ps:=["net","turns","lane","back"]) λ_ _ _ _ _ _ b a=>by obtain⟨d,f,g,u3,rfl⟩:=us4 a;rfl
 have m6:=JL X G A6.ns;have b7:=A7.fn.binds (ps:=["net","turns","lane"]) λ_ _ _ _ _ _ b a=>by obtain⟨d,f,g,rfl⟩:=us3 a;rfl
 have m7:=JL X G A7.ns;have b8:=A8.fn.binds (ps:=["row","place","value"]) λ_ _ _ _ _ _ b a=>by obtain⟨d,f,g,rfl⟩:=us3 a;rfl
 have m8:=JL X G A8.ns;have b9:=A9.fn.binds (ps:=["counts","place","many"]) λ_ _ _ _ _ _ b a=>by obtain⟨d,f,g,rfl⟩:=us3 a;rfl
 have m9:=JL X G A9.ns;have fB:=P.fn.binds (ps:=["net"]) λ_ _ _ _ _ _ b a=>by obtain⟨d,rfl⟩:=us1 a;rfl
 have eu:=JL X G P.ns;have fA:=O.fn.binds (ps:=["net"]) λ_ _ _ _ _ _ b a=>by obtain⟨d,rfl⟩:=us1 a;rfl
 have et:=JL X G O.ns;have fy:=N.fn.binds (ps:=["net","pair","lane"]) λ_ _ _ _ _ _ b a=>by obtain⟨d,f,g,rfl⟩:=us3 a;rfl
 have es:=JL X G N.ns;have fx:=L.fn.binds (ps:=["level","seen","moves","led"]) λ_ _ _ _ _ _ b a=>by obtain⟨d,f,g,u3,rfl⟩:=us4 a;rfl
 have er:=JL X G L.ns;have fw:=J.fn.binds (ps:=["first","counts","moves","led","most"]) λ_ _ _ _ _ _ b a=>by obtain⟨d,f,g,u3,u4,rfl⟩:=us5 a;rfl
 have ep:=JL X G J.ns;have fv:=I.fn.binds (ps:=["levels"]) λ_ _ _ _ _ _ b a=>by obtain⟨d,rfl⟩:=us1 a;rfl
 have eo:=JL X G I.ns;have fp:=H.fn.fun.binds (ps:=["net","some","most"]) λ_ _ _ _ _ _ b a=>by obtain⟨d,f,g,rfl⟩:=us3 a;rfl
 have en:=JL X G H.ns;have fo:=F.fn.binds (ps:=["thing","is_state","first","moves","led"]) λ_ _ _ _ _ _ b a=>by obtain⟨d,f,g,u3,u4,rfl⟩:=us5 a;rfl
 have el:=JL X G F.ns;have fm:=E.fn.binds (ps:=["net","thing"]) λ_ _ _ _ _ _ b a=>by obtain⟨d,f,rfl⟩:=us2 a;rfl
 have ek:=JL X G E.ns;have fk:=D.fn.fun.binds (ps:=["net","some","thing"]) λ_ _ _ _ _ _ b a=>by obtain⟨d,f,g,rfl⟩:=us3 a;rfl
 have ej:=JL X G D.ns;have ff:=C.fn.binds (ps:=["_law_script","_law_k"]) λ_ _ _ _ _ _ b a=>by obtain⟨d,f,rfl⟩:=us2 a;rfl
 have ei:=JL X G C.ns;have fe:=B.fn.binds (ps:=["_law_left_here","_law_many"]) λ_ _ _ _ _ _ b a=>by obtain⟨d,f,rfl⟩:=us2 a;rfl
 have eh:=JL X G B.ns;have dx:=A.fn.binds (ps:=["_law_one","_law_other"]) λ_ _ _ _ _ _ b a=>by obtain⟨d,f,rfl⟩:=us2 a;rfl
 have U:=JL X G A.ns;have dt:=z.fn.binds (ps:=["_law_row"]) λ_ _ _ _ _ _ b a=>by obtain⟨d,rfl⟩:=us1 a;rfl
 have T:=JL X G z.ns;have dr:=y.fn.binds (ps:=["_law_row"]) λ_ _ _ _ _ _ b a=>by obtain⟨d,rfl⟩:=us1 a;rfl
 have S:=JL X G y.ns;have dq:=x.fn.binds (ps:=["_law_row"]) λ_ _ _ _ _ _ b a=>by obtain⟨d,rfl⟩:=us1 a;rfl
 have R:=JL X G x.ns;have e9:=u.fn.binds (ps:=["_law_way","_law_k"]) λ_ _ _ _ _ _ b a=>by obtain⟨d,f,rfl⟩:=us2 a;rfl
 have eg:=JL X G u.ns;have e8:=t.fn.binds (ps:=["_law_left_here","_law_row"]) λ_ _ _ _ _ _ b a=>by obtain⟨d,f,rfl⟩:=us2 a;rfl
 have ef:=JL X G t.ns;have e6:=r.fn.binds (ps:=["_law_net","_law_turns","_law_lane"]) λ_ _ _ _ _ _ b a=>by obtain⟨d,f,g,rfl⟩:=us3 a;rfl
 have ee:=JL X G r.ns;have e5:=q.fn.binds (ps:=["_law_counts","_law_lane"]) λ_ _ _ _ _ _ b a=>by obtain⟨d,f,rfl⟩:=us2 a;rfl
 have ec:=JL X G q.ns;have e4:=o.fn.binds (ps:=["_law_net"]) λ_ _ _ _ _ _ b a=>by obtain⟨d,rfl⟩:=us1 a;rfl
 have eb:=JL X G o.ns;have e3:=n.fn.binds (ps:=["_law_net","_law_some","_law_most"]) λ_ _ _ _ _ _ b a=>by obtain⟨d,f,g,rfl⟩:=us3 a;rfl
 have ea:=JL X G n.ns;have e1:=m.fn.binds (ps:=["_law_net","_law_some","_law_most"]) λ_ _ _ _ _ _ b a=>by obtain⟨d,f,g,rfl⟩:=us3 a;rfl
 have d0:=JL X G m.ns;have e0:=k.fn.binds (ps:=["_law_net","_law_some","_law_pair","_law_book"]) λ_ _ _ _ _ _ b a=>by obtain⟨d,f,g,u3,rfl⟩:=us4 a;rfl
 have dX:=JL X G k.ns;obtain⟨oc,od,kV,doc,pm,an,gP,ct,gs,ed,_,_⟩:=id Q.fn.ex;refine⟨⟨⟨kP,i,cH⟩,kQ,j,cJ⟩,b0,λs v=>by rw[ed];exact .of_eq rfl,λbase _ _ bB=>?_⟩;have CK:CodeK K mg base i Pt:=⟨cH,bB Pt (.tail _ (.head _)),dW⟩;have CJ:CodeK K mg base j Pu:=⟨cJ,bB Pu (.head _),dV⟩;have U1:Use l.prog w K mg base "is_whole" ["thing"] 1 (qQ K) f1 d1:=⟨fg A1.fn M,b1,A1.fn.kp,m1⟩;have U2:Use l.prog w K mg base "is_below" ["thing","bound"] 2 (ud K) f2 d2:=⟨ft A2.fn M U1,b2,A2.fn.kp,m2⟩;have U3:Use l.prog w K mg base "is_row" ["thing","many"] 1 (uc K) f3 d3:=⟨fj A3.fn M,b3,A3.fn.kp,m3⟩;have U4:Use l.prog w K mg base "are_below" ["thing","many","bound"] 3 (qW K) f4 d4:=⟨oZ A4.fn M U3 U2,b4,A4.fn.kp,m4⟩;have U5:Use l.prog w K mg base "end_of" ["net","lane"] 1 gR f5 d5:=⟨zaa A5.fn,b5,A5.fn.kp,m5⟩;have U6:Use l.prog w K mg base "run_through" ["net","turns","lane","back"] 2 gN f6 d6:=⟨ar A6.fn M U5,b6,A6.fn.kp,m6⟩;have U7:Use l.prog w K mg base "passed" ["net","turns","lane"] 3 (wp false) f7 d7:=⟨ju A7.fn U6,b7,A7.fn.kp,m7⟩;have U8:Use l.prog w K mg base "given_at" ["row","place","value"] 1 qT f8 d8:=⟨fq A8.fn M,b8,A8.fn.kp,m8⟩;have U9:Use l.prog w K mg base "added" ["counts","place","many"] 2 qX f9 d9:=⟨fu A9.fn M U8,b9,A9.fn.kp,m9⟩;have gi:Use l.prog w K mg base "first_turns" ["net"] 1 tH bS dp:=⟨j3 P.fn M,fB,P.fn.kp,eu⟩;have dD:Use l.prog w K mg base "first_pair" ["net"] 2 xA bu dn:=⟨j4 O.fn gi,fA,O.fn.kp,et⟩;have dC:Use l.prog w K mg base "pair_behind" ["net","pair","lane"] 4 vI bt dm:=⟨fh N.fn U7,fy,N.fn.kp,es⟩;have gg:Use l.prog w K mg base "next_level" ["level","seen","moves","led"] 6 (mI l.prog w K (pF qV) ["net"] y9) bo dd:=⟨cW L.fn M U9 (eP qV dC),fx,L.fn.kp,er⟩;have gd:Use l.prog w K mg base "climbed" ["first","counts","moves","led","most"] 7 (qU l.prog w K (pF qV) ["net"] y9) bl c9:=⟨mq J.fn M gg,fw,J.fn.kp,ep⟩;have gc:Use l.prog w K mg base "verdict" ["net","some","most"] 8 (ve qV Pt) bc c8:=⟨mn H.fn CK gd dD (λF0=>⟨cg F0 1 I.fn M,fv,I.fn.kp,eo⟩),fp,H.fn.kp,en⟩;have fW:Use l.prog w K mg base "is_pair" ["net","thing"] 4 (vJ K) a9 c6:=⟨jz E.fn M U3 U4 U2,fm,E.fn.kp,ek⟩;have fX:Use l.prog w K mg base "is_book" ["thing","is_state","first","moves","led"] 6 (tG l.prog w K (rh qS) ["net"] (lE K) (tw qS) ["net"] y9) ba c7:=⟨jy F.fn M (bH qS fW) (zaj qS dC),fo,F.fn.kp,el⟩;have fV:Use l.prog w K mg base "shows_stair" ["net","some","thing"] 7 (tD K qS Pu) a8 c5:=⟨jt D.fn CJ fX dD,fk,D.fn.kp,ej⟩;have fT:Use l.prog w K mg base "_law_left" ["_law_script","_law_k"] 1 (qR K) a7 c4:=⟨cZ C.fn M,ff,C.fn.kp,ei⟩;have dB:Use l.prog w K mg base "_law_pick" ["_law_left_here","_law_many"] 1 uZ a6 c3:=⟨cV B.fn,fe,B.fn.kp,eh⟩;have fS:Use l.prog w K mg base "_law_merger" ["_law_one","_law_other"] 5 wG a5 c2:=⟨jw A.fn M dx U,dx,A.fn.kp,U⟩;have fR:Use l.prog w K mg base "_law_stairway" ["_law_row"] 10 u7 a4 c1:=⟨jr z.fn M fS dt T,dt,z.fn.kp,T⟩;have fP:Use l.prog w K mg base "_law_block" ["_law_row"] 5 tJ a3 c0:=⟨j5 y.fn M dr S,dr,y.fn.kp,S⟩;have fN:Use l.prog w K mg base "_law_tree" ["_law_row"] 5 uy a0 cX:=⟨jq x.fn M dq R,dq,x.fn.kp,R⟩;have fM:Use l.prog w K mg base "_law_made" ["_law_way","_law_k"] 11 mJ aT cP:=⟨cY u.fn M fP fR fN,e9,u.fn.kp,eg⟩;have fL:Use l.prog w K mg base "_law_mixed" ["_law_left_here","_law_row"] 2 tF ax cx:=⟨fi t.fn M dB,e8,t.fn.kp,ef⟩;have dA:Use l.prog w K mg base "_law_passed" ["_law_net","_law_turns","_law_lane"] 1 (wp false) ao cn:=⟨au r.fn M,e6,r.fn.kp,ee⟩;have fK:Use l.prog w K mg base "_law_more" ["_law_counts","_law_lane"] 1 gO ab cm:=⟨av q.fn,e5,q.fn.kp,ec⟩;have fG:Use l.prog w K mg base "_law_first" ["_law_net"] 1 xA Z ck:=⟨az o.fn M,e4,o.fn.kp,eb⟩;have fF:Use l.prog w K mg base "_law_levels" ["_law_net","_law_some","_law_most"] 2 (gQ l.prog w) Y cf:=⟨aw n.fn M M3 fG dA fK,e3,n.fn.kp,ea⟩;have fD:Use l.prog w K mg base "_law_verdict" ["_law_net","_law_some","_law_most"] 3 gM W cc:=⟨aq m.fn M fF,e1,m.fn.kp,d0⟩;have fC:Use l.prog w K mg base "_law_wider" ["_law_net","_law_some","_law_pair","_law_book"] 2 qP V cb:=⟨fc k.fn M M3 dA,e0,k.fn.kp,dX⟩;exact ay Q.fn M M2 fT dB fM fD gc fL fC fV
theorem zbp {l:PySem.W.OpenLaw}{q:Yo}{loose:List Str}{y:(Str->Option Jo)->YP->Prop}{m:YI->YP->Prop}{d:DefRec}{K:Params->Jl}{Pt Pu:JI}(hn:l.most=some 63) (i:d.params.defaults=[])
  (t:∀ (w:YI) (h:YP),m w h->(K w.params).In h/\∀ p∈[Pu,Pt],h.get? p=some (PySem.W.tabObj #[]))
  (F:∀ (w:YI) (mg:Str->Option Jo) (g:JI) (h:YP),(K w.params).In h->h.Ns mainGlobals mg->mg d.name=some (.ref g)->(((K w.params).lookup Pt=none/\∃ c,PySem.W.codeHdIn (K w.params) c Pt=true)/\((K w.params).lookup Pu=none/\∃ c,PySem.W.codeHdIn (K w.params) c Pu=true)) /\
   ∃ fd:Yl,(∀ (s:JO) (u:Jo),BindsTo s fd ⟨[u],[]⟩ [("_law_script",u)])/\∀ base:YP,(K w.params).In base->base.Ns mainGlobals mg->(∀ p∈[Pu,Pt],base.BuiltinsAt mg p)->FnOk l.prog w (K w.params) mg base CX0 12 g fd ["_law_script"] (lj (K w.params) Pt Pu)) (pn:Pt≠Pu) :
  PySem.W.WalkO q loose y m l.row.toRowW d [] (λf vs=>PySem.call f vs) :=
 L2.i7 (n:=63) (k:=12) (x:="_law_script") (CX:=CX0) (sp:=λK=>lj K Pt Pu) [Pu,Pt] hn (by decide) i ⟨rfl,by decide,by decide,rfl⟩ t (λw mg g h a b c=>⟨λp o=>(Jq.mp o).elim (λe=>e ▸ (F w mg g h a b c).1.2) λe=>Ja.mp e ▸ (F w mg g h a b c).1.1,(F w mg g h a b c).2⟩) (λ_ _ a ns r v j=>⟨a,ns,rfl,v,r,j Pt (.tail _ (.head _)),j Pu (.head _),pn,λ_=>rfl⟩) λ_ _ _ _ z=>z
end K38
theorem PySem.W.Fast.tw17151611504868427576:True:=trivial
theorem PySem.W.Fast.tw11906836163423895885:True:=trivial
theorem PySem.W.Fast.tw851032722634527149:True:=trivial
theorem PySem.W.Fast.tw1413203748489368861:True:=trivial
theorem PySem.W.Fast.tw18374293220988563757:True:=trivial
theorem PySem.W.Fast.tw5817745840322353822:True:=trivial
theorem PySem.W.Fast.tw5431624712498195902:True:=trivial
theorem PySem.W.Fast.tw17818633161443468358:True:=trivial
theorem PySem.W.Fast.tw6469267246834282529:True:=trivial
theorem PySem.W.Fast.tw404284141609546802:True:=trivial
theorem PySem.W.Fast.tw602346592076187223:True:=trivial
theorem PySem.W.Fast.tw7428837759427069359:True:=trivial
theorem PySem.W.Fast.tw17002767546358609027:True:=trivial
theorem PySem.W.Fast.tw16474045305649014253:True:=trivial
theorem PySem.W.Fast.tw14138411208607979162:True:=trivial
theorem PySem.W.Fast.tw14113952375337700854:True:=trivial
theorem PySem.W.Fast.tw14471343440970266855:True:=trivial
theorem PySem.W.Fast.tw5136197361775007940:True:=trivial
theorem PySem.W.Fast.tw10194160035075554392:True:=trivial
theorem PySem.W.Fast.tw16264892506713960380:True:=trivial
theorem PySem.W.Fast.tw4259683688559000526:True:=trivial
theorem PySem.W.Fast.tw6144122775212355542:True:=trivial
theorem PySem.W.Fast.tw14961615124212415514:True:=trivial
theorem PySem.W.Fast.tw4561071097652566239:True:=trivial
theorem PySem.W.Fast.tw13045019965316564048:True:=trivial
theorem PySem.W.Fast.tw603818104634321151:True:=trivial
theorem PySem.W.Fast.tw12164856093192978363:True:=trivial
theorem PySem.W.Fast.tw15233962873527806399:True:=trivial
theorem PySem.W.Fast.tw11606054383171195606:True:=trivial
theorem PySem.W.Fast.tw18030789030230103265:True:=trivial
theorem PySem.W.Fast.tw9549519600737036566:True:=trivial
theorem PySem.W.Fast.tw5008186541262830943:True:=trivial
theorem PySem.W.Fast.tw906572360111404434:True:=trivial
theorem PySem.W.Fast.tw1361796451650382720:True:=trivial
theorem PySem.W.Fast.tw10339564227054598544:True:=trivial
theorem PySem.W.Fast.tw1173141479265558919:True:=trivial
theorem PySem.W.Fast.tw1861957745217547682:True:=trivial
theorem PySem.W.Fast.tw13596837934482143517:True:=trivial
open PySem PySem.W PyProof.Rows
set_option maxRecDepth 100000 in
set_option maxHeartbeats 0 in
theorem PySem.Challenge.cw_stairlanes_k38_books_taken_holds : PySem.Challenge.rw_stairlanes_k38_books_taken.Holds := by
 w_on;o_law;k_head;(case hw=>w_witness2)
 k_fill
 refine K38.zbp (l:=PySem.Challenge.rw_stairlanes_k38_books_taken) rfl rfl (fun w h Y=>⟨PySem.W.km_in_of Y,PySem.W.km_tabs_of Y⟩) ?F ?pn
 case pn=>decide
 case F =>
  intro w mg fa h KX G hmg
  refine' K38.zaC KX G hmg (K38.yN ?a1 ?l1 ?c1 ?k1) (K38.yN ?a2 ?l2 ?c2 ?k2) (K38.yN ?a3 ?l3 ?c3 ?k3) (K38.yN ?a4 ?l4 ?c4 ?k4) (K38.yN ?a5 ?l5 ?c5 ?k5) (K38.yN ?a6 ?l6 ?c6 ?k6) (K38.yN ?a7 ?l7 ?c7 ?k7) (K38.yN ?a8 ?l8 ?c8 ?k8) (K38.yN ?a9 ?l9 ?c9 ?k9) (K38.yN ?a10 ?l10 ?c10 ?k10) (K38.yN ?a11 ?l11 ?c11 ?k11) (K38.yN ?a12 ?l12 ?c12 ?k12) (K38.yN ?a13 ?l13 ?c13 ?k13) (K38.yN ?a14 ?l14 ?c14 ?k14) (K38.yN ?a15 ?l15 ?c15 ?k15) (K38.eZ ?a16 ?l16 ?c16 ?k16) (K38.yN ?a17 ?l17 ?c17 ?k17) (K38.yN ?a18 ?l18 ?c18 ?k18) (K38.eZ ?a19 ?l19 ?c19 ?k19) (K38.yN ?a20 ?l20 ?c20 ?k20) (K38.yN ?a21 ?l21 ?c21 ?k21) (K38.yN ?a22 ?l22 ?c22 ?k22) (K38.yN ?a23 ?l23 ?c23 ?k23) (K38.yN ?a24 ?l24 ?c24 ?k24) (K38.yN ?a25 ?l25 ?c25 ?k25) (K38.yN ?a26 ?l26 ?c26 ?k26) (K38.yN ?a27 ?l27 ?c27 ?k27) (K38.yN ?a28 ?l28 ?c28 ?k28) (K38.yN ?a29 ?l29 ?c29 ?k29) (K38.yN ?a30 ?l30 ?c30 ?k30) (K38.yN ?a31 ?l31 ?c31 ?k31) (K38.yN ?a32 ?l32 ?c32 ?k32) (K38.yN ?a33 ?l33 ?c33 ?k33) (K38.yN ?a34 ?l34 ?c34 ?k34) ?z1 ?z2 ?z3 ?z4 ?z5 ?z6 ?z7 ?z8 ?z9 ?z10 ?z11 ?z12 ?z13 ?z14 ?z15 ?z16 ?z17 ?z18 (K38.qF ?lH2 ?eH2) ?nB4 ?kP (K38.qF ?lH3 ?eH3) ?nB5 ?kQ
  (case a1|l1|c1|k1|a2|l2|c2|k2|a3|l3|c3|k3|a4|l4|c4|k4|a5|l5|c5|k5|a6|l6|c6|k6|a7|l7|c7|k7|a8|l8|c8|k8|a9|l9|c9|k9|a10|l10|c10|k10|a11|l11|c11|k11|a12|l12|c12|k12|a13|l13|c13|k13|a14|l14|c14|k14|a15|l15|c15|k15|a16|l16|c16|k16|a17|l17|c17|k17|a18|l18|c18|k18|a19|l19|c19|k19|a20|l20|c20|k20|a21|l21|c21|k21|a22|l22|c22|k22|a23|l23|c23|k23|a24|l24|c24|k24|a25|l25|c25|k25|a26|l26|c26|k26|a27|l27|c27|k27|a28|l28|c28|k28|a29|l29|c29|k29|a30|l30|c30|k30|a31|l31|c31|k31|a32|l32|c32|k32|a33|l33|c33|k33|a34|l34|c34|k34|z1|z2|z3|z4|z5|z6|z7|z8|z9|z10|z11|z12|z13|z14|z15|z16|z17|z18=>k_is)
  (case lH2=>k_is);(case eH2=>rfl);(case nB4=>decide);(case kP=>rfl);(case lH3=>k_is);(case eH3=>rfl);(case nB5=>decide);(case kQ=>rfl)
