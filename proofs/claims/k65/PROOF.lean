import PyProof.Rows.All
import Wide.All
import OpenK.AllK
import Wide.FinOn
import Lean
import PyProof.EqAt
import PyProof.EqKinds
import PyProof.TupleCall
import PyProof.NeKinds
import KE.KIntText
import PyProof.TupleOfStr
import PyProof.ReprRoads
import PyProof.NeData
import PyProof.DictKinds
import PyProof.AttrMiss
import PyProof.IsiH_list
import KE.KDictOf
import KE.KSortTup
import KE.KItemsList
import KE.KDictSum
import PyProof.DictWalks
import PyProof.DictItems
import KE.KDictList
import KE.KEqDict
import KE.KPairComp
import PyProof.DictTruth
import PyProof.MeetsDict
import KE.KLam
import KE.KNestM
import PyProof.Defs
import PyProof.P3In
import PyProof.Rows.SortRev
import PyProof.Rows.Range3
import PyProof.DictCompW
import PyProof.EvalArms
import PyProof.StrBlockL
import PyProof.StrLawsTight
import PyProof.StrWalks
import PyProof.SliceStr2
import PyProof.StrLawsIdx
import PyProof.Rows.ReprOcc
import PyProof.Rows.StrBin
import PyProof.CollectIter
import PyProof.Rows.FStr
import PyProof.AutoIntG2
import PySem.Challenge.RW_stairlanes_k65_whole_mergers_in_one_anot
set_option Elab.async false
set_option linter.all false
local macro_rules|`(tactic| lia)=>`(tactic| first|with_reducible(first|assumption|exact Nat.le_of_lt ‹_›|exact Nat.lt_succ_of_le ‹_›|exact Nat.le_succ_of_le ‹_›|exact Nat.le_of_not_lt ‹_›|exact Nat.le_trans ‹_› ‹_›|exact Nat.lt_of_lt_of_le ‹_› ‹_›|exact Nat.sub_one_lt_of_le ‹_› ‹_›)|lia -verbose)
set_option maxRecDepth 100000
local macro_rules|`(tactic|trivial)=>`(tactic|first|exact⟨by rfl,by first|exact Or.inl rfl|exact Or.inr (.inl rfl)|exact Or.inr (.inr rfl),by decide,by decide⟩|exact⟨rfl,rfl,rfl,by decide +kernel,rfl,by decide +kernel,by decide +kernel⟩|exact True.intro|rfl|assumption|exact .inl rfl|exact .inr rfl)
section
open PySem PySem.Spec PyProof.Rows
def J0:=@wpAny_bind
def J6:=@List.getElem?_eq_getElem
def J7:=@Heap.get?_push_of_some
def J8:=@List.getD_eq_getElem?_getD
def J9:=@wpAny_pure
def Ja:=@List.getElem?_eq_some_iff
def Jb:=@List.length_map
def Jc:=@if_neg
def Jd:=@Heap.lt_size
def Je:=@Nat.le_refl
def Jf:=@List.mem_cons
def Jg:=@List.not_mem_nil
def Jh:=@if_pos
def Jj:=@List.size_toArray
def Jm:=@List.mem_singleton
def Jn:=@List.length_append
def Jp:=@Bool.false_ne_true
def Jq:=@Option.some.inj
def Jr:=@decide_eq_false
def Js:=@List.mem_append
def Jt:=@Heap.get?_push_size
def Ju:=@Array.length_toList
def Jv:=@wpS_bind
def Jw:=@List.mem_cons_of_mem
def Jx:=@List.mem_map
def Jy:=@decide_eq_true
def Jz:=@List.mem_cons_self
def JA:=@List.mem_append_right
def JB:=@wpS_pure
def JC:=@List.getElem?_map
def JD:=@Nat.ne_of_lt
def JE:=@List.map_append
def JF:=@List.length_take
def JG:=@Nat.lt_of_lt_of_le
def JH:=@PySem.W.mg_of
def JJ:=@List.nodup_cons
def JK:=@List.append_assoc
def JL:=@List.length_cons
def JM:=@List.mem_of_getElem?
def JN:=@Nat.zero_le
def JP:=@congrArg
def JQ:=@wpAny_mono
def JR:=@List.map_cons
def JS:=@Nat.le_trans
def JT:=@Nat.ne_of_gt
def JU:=@List.take_succ_eq_append_getElem
def JV:=@Heap.get?_update_other
def JW:=@sizeLine_eq
def JX:=@wpAny_holding
def JY:=@List.append_nil
def JZ:=@wpAny_newObj_type
def Y0:=@List.length_range
def Y1:=@wpAny_call_entry
def Y2:=@List.mem_range
def Y3:=@List.getElem?_append_right
def Y4:=@wpAny_seqItems
def Y5:=@or_false
def Y6:=@Array.getElem?_eq_some_iff
def Y7:=@Option.map_eq_some_iff
def Y8:=@wpAny_setField_rec
def Y9:=@List.replicate_succ
def Ya:=@List.take_length
def Yb:=@List.length_replicate
def Yc:=@List.all_eq_true
def Yd:=@List.getElem?_append_left
def Ye:=@Heap.get?_update_self
def Yf:=@List.getElem_mem
def Yg:=@PySem.W.mg_none_of
def Yh:=@Array.toList_append
def Yi:=@Array.size_push
def Yj:=@List.drop_eq_getElem_cons
def Yk:=@List.take_append_getElem
def Ym:=@Bool.and_eq_true
def Yn:=@of_decide_eq_true
def Yp:=@wpAny_dictEntries
def Yq:=@Array.getElem?_toList
def Yr:=@wpAny_dictEpoch
def Ys:=@PySem.boot_len
def Yt:=@PyProof.Rows.callWith_type1
def Yu:=@List.map_congr_left
def Yv:=@Nat.lt_irrefl
def Yw:=@Int.toNat_natCast
def Yx:=@Bool.false_eq_true
def Yy:=@Bool.eq_iff_iff
def Yz:=@List.forIn_cons
def YA:=@Int.natCast_emod
def YB:=@wpS_forRange
def YC:=@Array.size_append
def YD:=@decide_eq_false_iff_not
def YE:=@List.mem_append_left
def YF:=@List.pairwise_append
def YG:=@List.length_set
def YH:=@List.lookup_cons
def YJ:=@List.take_of_length_le
def YK:=@List.getElem?_zip_eq_some
def YL:=@List.getElem?_eq_none_iff
def YM:=@wpAny_truthy_bool
def YN:=@decide_eq_true_eq
def YQ:=@List.foldl_append
def YR:=@Paired.length
def YS:=@List.forIn_nil
def YT:=@PySem.W.kia_one
def YU:=@F.slot_zip_next
def YV:=@List.find?_cons
def YW:=@Heap.size_push
def YX:=@List.map_map
def YY:=@Heap.SameBut.update
def YZ:=@PassesOwn.never
def Z0:=@List.take_append_drop
def Z2:=@List.mem_iff_getElem?
def Z3:=@wpAny_rule
def Z4:=@List.pairwise_cons
def Z5:=@F.plain_min_loop
def Z6:=@if_true
def Z7:=@Around.under_plainId
def Z8:=@List.mem_iff_getElem
def Z9:=@Array.toList_push
def Za:=@Int.compare_eq_lt
def Zb:=@Int.compare_eq_gt
def Zc:=@wpAny_updateSeq
def Zd:=@Nat.pow_succ
def Ze:=@wpAny_attempt
def Zf:=@wpAny_Call_Name_kw
def Zg:=@List.filterMap_map
def Zh:=@wpS_mono
def Zi:=@List.nodup_nil
def Zj:=@List.extract_eq_take_drop
def Zk:=@List.nil_append
def Zm:=@wpAny_specialOf
def Zn:=@codeAny_builtin
def Zp:=@wpAny_typeOf
def Zq:=@Nat.lt_succ_of_lt
def Zr:=@Nat.zero_add
def Zs:=@not_or
def Zt:=@beq_eq_false_iff_ne
def Zu:=@PySem.mem_of_lookup
def Zv:=@List.length_drop
def Zw:=@List.ext_getElem
def Zx:=@wpAny_isInstance
def Zy:=@wpAny_letGo
def Zz:=@Calls.spliced_cons
def ZA:=@Nat.lt_trans
def ZB:=@Int.le_trans
def ZC:=@Nat.add_zero
def ZD:=@if_false
def ZE:=@List.foldl_cons
def ZF:=@Int.emod_nonneg
def ZG:=@wpAny_standAt
def ZH:=@plainId_quiet
def ZJ:=@List.perm_append_comm
def ZK:=@List.nodup_append
def ZL:=@Int.compare_eq_eq
def ZM:=@Array.toList_extract
def ZN:=@Option.getD_some
def ZP:=@Array.getElem?_eq_getElem
def ZQ:=@List.filterMap_cons
def ZR:=@List.getElem?_take_of_lt
def ZS:=@List.eq_of_mem_replicate
def ZT:=@PySem.F.slot_list_append
def ZU:=@PySem.F.type_list_append
def ZV:=@wpAny_passesOwn
def ZW:=@size_of_entries
def ZX:=@Int.emod_lt_of_pos
def ZY:=@Int.le_refl
def ZZ:=@Nat.add_sub_cancel_left
def W0:=@PySem.F.plainAttrs_list
def W5:=@Calls.spliced_nil
def W6:=@Calls.callWith_builtin
def W7:=@List.flatten_cons
def W8:=@Bool.not_eq_true'
def W9:=@List.take_zero
def Wa:=@F.args_zip_next_1
def Wb:=@Int.lt_trichotomy
def Wc:=@PyProof.Rows.slot_tuple_getitem
def Wd:=@Nat.lt_succ_self
def We:=@List.getElem_map
def Wf:=@beq_self_eq_true
def Wg:=@F.entry_zip_next
def Wh:=@wpAny_typeNameOfWhole_itemiter
def Wi:=@Nat.mod_lt
def Wj:=@List.getElem?_set_ne
def Wk:=@wpAny_field
def Wm:=@wpAny_typeNameOfWhole_keyiter
def Wn:=@F.slot_dict_itemiterator_next
def Wp:=@List.of_mem_zip
def Wq:=@F.slot_dict_keyiterator_next
def Wr:=@List.length_zip
def Ws:=@Array.toList_modify
def Wt:=@F.plain_extend_loop
def Wu:=@wpS_get
def Wv:=@wpAny_newTuple
def Ww:=@List.getElem_range
def Wx:=@List.drop_zero
def Wy:=@wpS_modify
def Wz:=@Nat.lt_of_le_of_lt
def WA:=@Nat.one_le_two_pow
def WB:=@AutoSeq1.wpAny_loadPart'
def WC:=@wpAny_onRaise
def WD:=@List.cons.inj
end
abbrev Jl:=PySem.W.Frag
abbrev Jo:=PySem.Value
abbrev JI:=PySem.Addr
abbrev JO:=PySem.Shared
abbrev Yl:=PySem.FuncData
abbrev Yo:=PySem.Program
abbrev YI:=PySem.World
abbrev YO:=PySem.Around
abbrev YP:=PySem.Heap
namespace L2
open PySem PySem.Spec PyProof.Rows
abbrev Key:=Sum Int Str
def rV:Key->Jo->Bool
  | .inl k,v=>Value.isInt k v
  | .inr x,v=>Value.isStrOf x v
def zeC (w:YI):Key->Int
  | .inl k=>hashInt k
  | .inr x=>hashStr w x
theorem yP:∀ {k:Key}{v:Jo},rV k v=true->(∃ i t,k=Sum.inl i/\v=Value.int i t)\/(∃ x t,k=Sum.inr x/\v=Value.str x t)
  | .inl i,v,h=>by
    obtain⟨t,e⟩:=Value.isInt_shape (k:=i) (v:=v) h
    exact .inl ⟨i,t,rfl,e⟩
  | .inr x,v,h=>by
    obtain⟨t,e⟩:=Value.isStrOf_shape (x:=x) (v:=v) h;exact .inr ⟨x,t,rfl,e⟩
theorem eO (i:Int)(t:Tok):rV (.inl i) (.int i t)=true:=by simp[rV,Value.isInt]
theorem eL (x:Str)(t:Tok):rV (.inr x) (.str x t)=true:=by simp[rV,Value.isStrOf]
theorem zcX (a b:Int):decide ((Sum.inl a:Key)=Sum.inl b)=(a == b):=by
  by_cases e:a=b
  · subst e;simp
  · have h:¬(Sum.inl a:Key)=Sum.inl b:=λq=>e (Sum.inl.inj q)
    rw[Jr h];exact(Zt.mpr e).symm
theorem zcT (a b:Str):decide ((Sum.inr a:Key)=Sum.inr b)=decide (a=b):=by
  by_cases e:a=b
  · subst e;simp
  · have h:¬(Sum.inr a:Key)=Sum.inr b:=λq=>e (Sum.inr.inj q)
    rw[Jr h,Jr e]
theorem zcW (a:Int)(b:Str):decide ((Sum.inl a:Key)=Sum.inr b)=false:=Jr (λq=>nomatch q)
theorem zcU (a:Str)(b:Int):decide ((Sum.inr a:Key)=Sum.inl b)=false:=Jr (λq=>nomatch q)
def yi (prog:Yo)(w:YI):PySem.KeyKind prog w Key where
  is:=rV
  hash:=zeC w
  inj:=λv a b l f=>by
    rcases yP l with ⟨i,t,rfl,rfl⟩|⟨x,t,rfl,rfl⟩
    · rcases yP f with ⟨j,u,rfl,e⟩|⟨y,u,rfl,e⟩
      · injection e with c _;rw[c]
      · exact nomatch e
    · rcases yP f with ⟨j,u,rfl,e⟩|⟨y,u,rfl,e⟩
      · exact nomatch e
      · injection e with c _;rw[c]
  byValue:=λk v h=>by
    rcases yP h with ⟨i,t,rfl,rfl⟩|⟨x,t,rfl,rfl⟩<;>rfl
  pyHash:=λd h=>by
    rcases yP d with ⟨i,t,rfl,rfl⟩|⟨x,t,rfl,rfl⟩
    · exact wpAny_pyHash_int h
    · exact wpAny_pyHash_str h
  eqBool:=λg d h=>by
    rcases yP g with ⟨i,t,rfl,rfl⟩|⟨x,t,rfl,rfl⟩
    · rcases yP d with ⟨j,u,rfl,rfl⟩|⟨y,u,rfl,rfl⟩
      · rw[zcX]at h;exact wpAny_eqBool_int h
      · rw[zcW]at h;exact SeqAt.EqAt.int_str i t y u _ _ _ _ h
    · rcases yP d with ⟨j,u,rfl,rfl⟩|⟨y,u,rfl,rfl⟩
      · rw[zcU]at h;exact SeqAt.EqAt.str_int x t j u _ _ _ _ h
      · rw[zcT]at h;exact wpAny_eqBool_str h
  «strs»:=λk x t v h=>by
    rcases yP h with ⟨i,u,rfl,e⟩|⟨y,u,rfl,e⟩
    · exact nomatch e
    · injection e with c _
      subst c;cases v<;>rfl
theorem jH (prog:Yo)(w:YI)(k:Key)(v:Jo):(yi prog w).is k v=rV k v:=rfl
theorem mR (prog:Yo)(w:YI)(i:Int)(t:Tok):(yi prog w).is (.inl i) (.int i t)=true:=eO i t
theorem mQ (prog:Yo)(w:YI)(x:Str)(t:Tok):(yi prog w).is (.inr x) (.str x t)=true:=eL x t
inductive V where
  | non|bl (b:Bool)|int (i:Int)|str (x:Str)|byt (b:Array UInt8)|flt (b:UInt64)|ref (a:JI)|ty (n:String)
  deriving DecidableEq
def RelV:V->Jo->Prop
  | .non,u=>u=Value.none
  | .bl b,u=>u=Value.bool b
  | .int i,u=>∃ t,u=Value.int i t
  | .str x,u=>∃ t,u=Value.str x t
  | .byt b,u=>∃ t,u=Value.bytes b t
  | .flt b,u=>∃ t,u=Value.float b t
  | .ref a,u=>u=Value.ref a
  | .ty n,u=>u=Value.type n
abbrev Vals:List V->List Jo->Prop:=Paired RelV
theorem Vals.length {xs:List V}{us:List Jo}(r:Vals xs us):xs.length=us.length:=YR r
theorem Vals.get:∀ {xs:List V}{us:List Jo}{i:Nat}{x:V},Vals xs us->xs[i]?=some x->∃ u,us[i]?=some u/\RelV x u
  | _,_,_,_,.nil,e=>by simp at e
  | _,_,0,_,.cons r _,e=>by simp at e;subst e;exact⟨_,rfl,r⟩
  | _,_,i+1,x,.cons _ t,e=>by
    obtain⟨u,b,a⟩:=Vals.get (i:=i) (x:=x) t (by simpa using e);exact⟨u,by simpa using b,a⟩
theorem Vals.set {x:V}{u:Jo}(r:RelV x u):∀ {xs:List V}{us:List Jo}(i:Nat),Vals xs us->Vals (xs.set i x) (us.set i u)
  | _,_,_,.nil=>.nil
  | _,_,0,.cons _ t=>.cons r t
  | _,_,i+1,.cons q t=>.cons q (Vals.set r i t)
theorem Vals.append:∀ {xs ys:List V}{us ws:List Jo},Vals xs us->Vals ys ws->Vals (xs++ys) (us++ws)
  | _,_,_,_,.nil,s=>s
  | _,_,_,_,.cons r t,s=>.cons r (Vals.append t s)
theorem Vals.take:∀ {xs:List V}{us:List Jo}(n:Nat),Vals xs us->Vals (xs.take n) (us.take n)
  | _,_,0,_=>.nil
  | _,_,_+1,.nil=>.nil
  | _,_,n+1,.cons r t=>.cons r (Vals.take n t)
theorem Vals.drop:∀ {xs:List V}{us:List Jo}(n:Nat),Vals xs us->Vals (xs.drop n) (us.drop n)
  | _,_,0,r=>r
  | _,_,_+1,.nil=>.nil
  | _,_,n+1,.cons _ t=>Vals.drop n t
def RelO:Option V->Option Jo->Prop
  | some v,some u=>RelV v u
  | none,none=>True
  | _,_=>False
def KV {κ:Type}:List (κ × V)->List (κ × Jo)->Prop:=Paired λ(p:κ × V) (q:κ × Jo)=>p.1=q.1/\RelV p.2 q.2
def kV:Key->V
  | .inl i=>.int i
  | .inr x=>.str x
inductive HO where
  | lst (xs:List V)
  | tup (xs:List V)
  | dK (kvs:List (Key × V))|dT (kvs:List (List Key × V))
  | set (S:Int->Bool) (n:Nat)
  | ins (C dx:JI) (fs:List (Str × V))
  | own (x:JI)
  | xd (fs:List (Str × V))
  | met (f x:JI)
  | rng (lo hi:Int)
  | frz (o:Obj) (u:HO)
  | tbl (ps:Array Jo)
  | ext (φ:YP->Prop)
abbrev Hp:=JI->Option HO
def upd (H:Hp)(a:JI)(o:HO):Hp:=λb=>if b=a then some o else H b
theorem zD {H:Hp}{a:JI}{o:HO}:upd H a o a=some o:=by unfold upd;rw[Jh rfl]
theorem zG {H:Hp}{a b:JI}{o:HO}(h:b≠a):upd H a o b=H b:=by unfold upd;rw[Jc h]
theorem xG {H:Hp}{a b:JI}{o u:HO}(h:H a=some o)(h':H b=some u)(d:o≠u):a≠b:=by
  intro e;subst e;rw[h]at h';exact d (Jq h')
theorem zH {H:Hp}{a b:JI}{o:HO}(h:H a=some o)(h':H b=none):a≠b:=by
  intro e;subst e;rw[h]at h';cases h'
def TupX (h:YP)(a:JI)(items:Array Jo):Prop:=∃ o,h.get? a=some o/\o.cls=.type "tuple"/\∃ n,o.data=.seq items n/\o.dict=none
theorem TupX.tup {h:YP}{a:JI}{items:Array Jo}(x:TupX h a items):IsTup h a items:=let ⟨o,e,c,n,d,_⟩:=x;⟨o,e,c,n,d⟩
theorem TupX.new (h:YP)(items:Array Jo):TupX (h.push { cls:=.type "tuple",data:=.seq items }) h.objs.size items:=⟨_,Jt _ rfl,rfl,0,rfl,rfl⟩
section
variable (P:Yo)(w:YI)
def ObjOk (H:Hp)(h:YP)(a:JI):HO->Prop
  | .lst xs=>xs.length<=sizeLine/\∃ (its:List Jo) (n:Nat),Vals xs its/\h.get? a=some { cls:=.type "list",data:=.seq its.toArray n }
  | .tup xs=>xs.length<=sizeLine/\∃ its:List Jo,Vals xs its/\TupX h a its.toArray
  | .dK b=>b.length<=sizeLine/\(a == sysModules)=false/\∃ g,KV b g/\h.DictOf (yi P w) a g
  | .dT b=>b.length<=sizeLine/\(a == sysModules)=false/\∃ xs:List (List Key × JI × Jo),
      Paired (λ(p:List Key × V) (q:List Key × JI × Jo)=>p.1=q.1/\H q.2.1=some (.tup (p.1.map kV))/\RelV p.2 q.2.2) b xs /\
      ∃ o k m,h.get? a=some o/\o.ExactDict/\o.data=.dict k m/\k.toList=xs.map (entryOfKey (tupleKind (yi P w)))/\(xs.map (·.1)).Nodup
  | .set S n=>h.SetOf (intKind P w) a S n
  | .ins C d fs=>H d=some (.own a)/\fs.length<=1000/\d≠a/\h.get? a=some (PySem.W.instObj C d) /\
      ∃ c,h.Ns1 d c/\(∀ f,RelO (fs.lookup f) (c f))/\PySem.Within c (fs.map (·.1))
  | .own _=>∃ o,h.get? a=some o
  | .xd fs=>∃ c,h.Ns1 a c/\∀ f,RelO (fs.lookup f) (c f)
  | .rng lo hi=>∃ t u v,h.get? a=some { cls:=.type "range",data:=.fields #[.int lo t,.int hi u,.int 1 v] }
  | .frz o u=>h.get? a=some o/\ObjOk H h a u
  | .tbl l=>h.get? a=some { cls:=.none,data:=.fields l }
  | .met f x=>h.get? a=some (PySem.W.methodObj (.ref f) (.ref x))
  | .ext e=>e h/\(∃ o,h.get? a=some o)/\∀ j i:YP,e j->(∀ o,j.get? a=some o->i.get? a=some o)->e i
def HOk (H:Hp)(h:YP):Prop:=∀ a o,H a=some o->ObjOk P w H h a o
end
section
variable {P:Yo}{w:YI}{H H':Hp}{h h':YP}{a:JI}{o:HO}
theorem ObjOk.lt (x:ObjOk P w H h a o):a<h.objs.size:=by
  cases o with
  | lst c=>obtain⟨_,_,_,_,e⟩:=x;exact Jd e
  | tup c=>obtain⟨_,_,_,p⟩:=x;exact p.tup.lt
  | dK b=>obtain⟨_,_,_,_,o,_,_,e,_⟩:=x;exact Jd e
  | dT b=>obtain⟨_,_,_,_,o,_,_,e,_⟩:=x;exact Jd e
  | set S n=>obtain⟨o,_,_,_,e,_⟩:=x;exact Jd e
  | ins C i fs=>obtain⟨_,_,_,e,_⟩:=x;exact Jd e
  | own y=>obtain⟨_,e⟩:=x;exact Jd e
  | xd fs=>obtain⟨_,⟨_,_,_,e,_⟩,_⟩:=x;exact Jd e
  | rng lo hi=>obtain⟨_,_,_,e⟩:=x;exact Jd e
  | frz ob u=>obtain⟨e,_⟩:=x;exact Jd e
  | tbl g=>exact Jd (show h.get? a=some _ from x)
  | met f y=>exact Jd (show h.get? a=some _ from x)
  | ext d=>obtain⟨_,⟨_,e⟩,_⟩:=x;exact Jd e
theorem Paired.mapP {α β:Type}{F G:α->β->Prop}:∀ {l₁:List α}{l₂:List β},Paired F l₁ l₂->(∀ a b,F a b->G a b)->Paired G l₁ l₂
  | _,_,.nil,_=>.nil
  | _,_,.cons r t,f=>.cons (f _ _ r) (Paired.mapP t f)
theorem ObjOk.stay (x:ObjOk P w H h a o)(k:∀ b u,(b=a\/H b=some (.own a))->h.get? b=some u->h'.get? b=some u)(E:∀ b,H b=some (.own a)->H' b=some (.own a))(D:∀ b xs,H b=some (.tup xs)->H' b=some (.tup xs)):ObjOk P w H' h' a o:=by
  induction o with
  | lst xs=>obtain⟨z,j,n,r,e⟩:=x;exact⟨z,j,n,r,k _ _ (.inl rfl) e⟩
  | tup xs=>obtain⟨z,j,r,ob,e,c⟩:=x;exact⟨z,j,r,ob,k _ _ (.inl rfl) e,c⟩
  | dK s=>obtain⟨z,y,B,r,ob,g,i,e,c⟩:=x;exact⟨z,y,B,r,ob,g,i,k _ _ (.inl rfl) e,c⟩
  | dT s =>
    obtain⟨z,y,xs,r,ob,g,i,e,c⟩:=x
    exact⟨z,y,xs,Paired.mapP r λp q z=>⟨z.1,D _ _ z.2.1,z.2.2⟩,ob,g,i,k _ _ (.inl rfl) e,c⟩
  | set S n=>obtain⟨ob,g,i,t,e,c⟩:=x;exact⟨ob,g,i,t,k _ _ (.inl rfl) e,c⟩
  | ins C G fs =>
    obtain⟨d,z,ne,e,m,⟨l,g,i,e2,c⟩,r⟩:=x
    exact⟨E _ d,z,ne,k _ _ (.inl rfl) e,m,⟨l,g,i,k _ _ (.inr d) e2,c⟩,r⟩
  | own y=>obtain⟨ob,e⟩:=x;exact⟨ob,k _ _ (.inl rfl) e⟩
  | xd fs=>obtain⟨m,⟨l,g,i,e,c⟩,r⟩:=x;exact⟨m,⟨l,g,i,k _ _ (.inl rfl) e,c⟩,r⟩
  | rng lo hi=>obtain⟨t,u,v,e⟩:=x;exact⟨t,u,v,k _ _ (.inl rfl) e⟩
  | frz ob u ih=>obtain⟨e,q⟩:=x;exact⟨k _ _ (.inl rfl) e,ih q⟩
  | tbl A =>
    have e:h.get? a=some { cls:=.none,data:=.fields A }:=x;show h'.get? a=some { cls:=.none,data:=.fields A }
    exact k a _ (.inl rfl) e
  | met f y =>
    have e:h.get? a=some (PySem.W.methodObj (.ref f) (.ref y)):=x;show h'.get? a=some (PySem.W.methodObj (.ref f) (.ref y))
    exact k a _ (.inl rfl) e
  | ext F=>obtain⟨p,⟨o,e⟩,st⟩:=x;exact⟨st _ _ p λo q=>k _ _ (.inl rfl) q,⟨o,k _ _ (.inl rfl) e⟩,st⟩
theorem HOk.lt (x:HOk P w H h)(e:H a=some o):a<h.objs.size:=(x a o e).lt
theorem HOk.fresh (x:HOk P w H h)(e:h.objs.size<=a):H a=none:=by
  cases q:H a with
  | none=>rfl
  | some u=>exact absurd (JG (x.lt q) e) (Yv _)
theorem HOk.kept (x:HOk P w H h)(k:∀ b u,h.get? b=some u->h'.get? b=some u):HOk P w H h':=λa o e =>
  (x a o e).stay (λb u _ q=>k b u q) (λ_ q=>q) λ_ _ q=>q
theorem HOk.laid (x:HOk P w H h)(k:∀ b u,h.get? b=some u->h'.get? b=some u)(g:h.objs.size<=a)(new:ObjOk P w (upd H a o) h' a o):HOk P w (upd H a o) h':=λb u e=>by
  have d:=x.fresh g;by_cases f:b=a
  · subst f;rw[zD]at e;cases e;exact new
  · rw[zG f]at e
    exact(x b u e).stay (λc v _ q=>k c v q) (λc q=>by rw[zG (zH q d)];exact q) λc i q=>by rw[zG (zH q d)];exact q
end
def Rd (H:Hp)(a:JI)(u:HO):Prop:=H a=some u\/∃ o,H a=some (.frz o u)
theorem Rd.ok {P:Yo}{w:YI}{H:Hp}{h:YP}{a:JI}{u:HO}(r:Rd H a u)(x:HOk P w H h):ObjOk P w H h a u:=by
  rcases r with r|⟨o,r⟩
  · exact x a u r
  · obtain⟨_,q⟩:=x a _ r
    exact q
def Mut:Option HO->Prop
  | some (.lst _)=>True
  | some (.dK _)=>True
  | some (.dT _)=>True
  | some (.set _ _)=>True
  | some (.ins _ _ _)=>True
  | some (.ext _)=>True
  | _=>False
section
variable {P:Yo}{w:YI}{H:Hp}{h h':YP}{x e:JI}{o':HO}
theorem HOk.write (ok:HOk P w H h)(i:Mut (H x))(o:e=x\/H e=some (.own x))(k:∀ b u,b≠e->h.get? b=some u->h'.get? b=some u)(m:∃ u,h'.get? e=some u)(new:ObjOk P w (upd H x o') h' x o'):HOk P w (upd H x o') h':=λb u q=>by
  have d:∀ c y,H c=some (.own y)->c≠x:=λc y r z=>by subst z;rw[r]at i;exact i
  have f:∀ c g,H c=some (.tup g)->c≠x:=λc g r z=>by subst z;rw[r]at i;exact i
  by_cases l:b=x
  · subst l;rw[zD]at q;cases q;exact new
  · rw[zG l]at q
    by_cases a:b=e
    · have n:H b=some (.own x):=by
        rcases o with z|z
        · exact absurd (a.trans z) l
        · rw[a];exact z
      rw[q]at n;cases n;obtain⟨v,p⟩:=m;exact⟨v,by rw[a];exact p⟩
    · refine(ok b u q).stay (λc v j r=>k c v ?_ r) (λc r=>by rw[zG (d c b r)];exact r) λc g r=>by rw[zG (f c g r)];exact r
      rcases j with rfl|j
      · exact a
      · rintro rfl
        rcases o with z|z
        · exact d c b j z
        · rw[j]at z;cases z;exact l rfl
end
structure Un (fs ex:List JI) (H H':Hp) (h h':YP):Prop where
  keep:∀ b o,h.get? b=some o->H b=none->b∉fs->b∉ex->h'.get? b=some o
  slot:∀ b o,h.get? b=some o->H b=none->b∈fs->b∉ex->∃ sl,h'.get? b=some { o with slots:=sl }
  free:∀ b o,h.get? b=some o->H b=none->b∉ex->H' b=none
  there:∀ b o,h.get? b=some o->b∉ex->∃ o',h'.get? b=some o'
  tups:∀ b xs,H b=some (.tup xs)->H' b=some (.tup xs)
  frzs:∀ b o u,H b=some (.frz o u)->H' b=some (.frz o u)
  tbls:∀ b ps,H b=some (.tbl ps)->∃ more,H' b=some (.tbl (ps++more))
section
variable {fs ex:List JI}{H H1:Hp}{h h1 h':YP}{a x e:JI}{o:HO}
theorem Un.any (u:Un fs ex H H1 h h1){b:JI}{ob:Obj}(q:h.get? b=some ob)(n:H b=none)(a:b∉ex):∃ sl,h1.get? b=some { ob with slots:=sl }:=by
  by_cases c:b∈fs
  · exact u.slot b ob q n c a
  · exact⟨ob.slots,u.keep b ob q n c a⟩
theorem Un.kept (k:∀ b u,h.get? b=some u->h'.get? b=some u):Un fs ex H H h h' :=
  ⟨λb ob q _ _ _=>k b ob q,λb ob q _ _ _=>⟨ob.slots,k b ob q⟩,λ_ _ _ n _=>n,λb ob q _=>⟨ob,k b ob q⟩,λ_ _ q=>q,λ_ _ _ q=>q,λ_ a q=>⟨#[],by rw[q];simp⟩⟩
theorem Un.refl:Un fs ex H H h h:=Un.kept λ_ _ q=>q
theorem Un.laid (k:∀ b u,h.get? b=some u->h'.get? b=some u)(d:h.objs.size<=a)(hn:H a=none):Un fs ex H (upd H a o) h h' where
  keep:=λb u q _ _ _=>k b u q
  slot:=λb u q _ _ _=>⟨u.slots,k b u q⟩
  free:=λb u q n _=>by rw[zG (JD (JG (Jd q) d))];exact n
  there:=λb u q _=>⟨u,k b u q⟩
  tups:=λb c q=>by rw[zG (zH q hn)];exact q
  frzs:=λb u c q=>by rw[zG (zH q hn)];exact q
  tbls:=λb e q=>⟨#[],by rw[zG (zH q hn),q];simp⟩
theorem Un.write (c:Mut (H x))(l:e=x\/H e=some (.own x))(k:∀ b u,b≠e->h.get? b=some u->h'.get? b=some u)(f:∃ u,h'.get? e=some u):Un fs ex H (upd H x o) h h':=by
  have g:∀ b,H b=none->b≠x:=λb n z=>by subst z;rw[n]at c;exact c
  have i:∀ b,H b=none->b≠e:=λb n z=>by
    subst z;rcases l with r|r
    · exact g b n r
    · rw[n]at r;cases r
  have d:∀ b u,H b=some u->¬ Mut (some u)->b≠x:=λb u q nm z=>by subst z;rw[q]at c;exact nm c
  refine⟨λb u q n _ _=>k b u (i b n) q,λb u q n _ _=>⟨u.slots,k b u (i b n) q⟩,λb u q n _=>by rw[zG (g b n)];exact n,λb u q _=>?_,
    λb j q=>by rw[zG (d b _ q λz=>z)];exact q,λb u j q=>by rw[zG (d b _ q λz=>z)];exact q,λb m q=>⟨#[],by rw[zG (d b _ q λz=>z),q];simp⟩⟩
  by_cases a:b=e
  · subst a;exact f
  · exact⟨u,k b u a q⟩
end
def trk (h:YP)(H:Hp):List JI:=(List.range h.objs.size).filter λa=>(H a).isSome
def qV (h:YP)(H:Hp):YP:=PySem.W.hideAll h (trk h H)
theorem eX (h:YP)(H:Hp):(qV h H).objs.size=h.objs.size:=PySem.W.hideAll_size _ _
theorem ay {h:YP}{H:Hp}{b:JI}{o:Obj}(e:h.get? b=some o)(n:H b=none):(qV h H).get? b=some o :=
  PySem.W.hideAll_get _ e λa=>by
    have q:(H b).isSome=true:=(List.mem_filter.mp a).2;rw[n]at q;simp at q
theorem zbj {h:YP}{H:Hp}{b:JI}{o:Obj}(e:(qV h H).get? b=some o):h.get? b=some o/\H b=none:=by
  have a:h.get? b=some o:=PySem.W.of_hideAll (trk h H) e;refine⟨a,?_⟩
  cases q:H b with
  | none=>rfl
  | some x =>
    have c:b∈trk h H:=List.mem_filter.mpr ⟨Y2.mpr (Jd a),by simp[q]⟩;have z:(qV h H).get? b=none:=PySem.W.hideAll_none (trk h H) c;rw[z]at e;cases e
def zbS (g h:YP)(L:JI):List (JI × Obj):=(List.range h.objs.size).filterMap λa=>if a=L\/(g.get? a).isSome=true then none else (h.get? a).map λo=>(a,o)
def rest (g h:YP)(L d:JI):List (JI × Obj):=(zbS g h L).filter λp=>decide (p.1≠d)
structure Mod (K:Jl) (mg:Str->Option Jo) (base:YP):Prop where
  kin:K.In base
  glob:base.Ns mainGlobals mg
  blt:∃ mb,base.Ns builtinsNs mb/\∀ x:Str,x≠"__name__"->mb x=bootBuiltins x
  nolimit:base.NoLimit
structure Cx where
  prog:Yo
  w:YI
  K:Jl
  mg:Str->Option Jo
  base:YP
  A:YO
  N:List Str
  s₀:JO
  H₀:Hp
  env:Env
  outer:List Env
  stack:List Env
  ex:List JI
  fn:Str->Bool
  calm:Bool
  pn:List (JI × Obj)
  xe:Jo->JO->Prop
def frs (l:List Env):List JI:=l.filterMap (·.frame)
abbrev Cx.fs (X:Cx):List JI:=frs X.outer
def Vis (sc:Scope)(x:Str):Prop:=sc.names.lookup x=some .local \/ sc.names.lookup x=some .cell\/sc.names.lookup x=some .free
def Loc (sc:Scope)(x:Str):Prop:=sc.names.lookup x=some .local \/ sc.names.lookup x=some .cell
def Look (env:Env)(h:YP)(m:Str->Option Jo)(x:Str)(u:Jo):Prop :=
  (env.kindOf x=some .local /\ m x=some u)\/((env.kindOf x=some .cell\/env.kindOf x=some .free)/\∃ c,env.cells.lookup x=some c/\h.IsCell c (some u))
structure Cx.Ok (X:Cx):Prop where
  mod:Mod X.K X.mg X.base
  kind:X.env.scope.kind=.function
  glob:X.env.globals=mainGlobals
  blt:X.env.builtins=builtinsNs
  above:X.s₀.heap.objs.size<=X.env.locals
  inj:∀ x y c,X.env.cells.lookup x=some c->X.env.cells.lookup y=some c->x=y
  has:∀ x,(X.env.kindOf x=some .cell\/X.env.kindOf x=some .free)->∃ c,X.env.cells.lookup x=some c
  cab:∀ x c,X.fn x=true->X.env.cells.lookup x=some c->X.s₀.heap.objs.size<=c
  hd:X.calm=true->X.A.handled=none
  frames:X.A.frames=some X.stack
  stk:X.stack=X.outer\/(X.stack=X.env::X.outer/\X.env.frame=some X.env.locals)
  exf:∀ b∈X.ex,b≠X.env.locals/\∀ x c,X.env.cells.lookup x=some c->c≠b
  bs:∀ b o,X.base.get? b=some o->X.s₀.heap.get? b=some o/\X.H₀ b=none
  bsz:X.base.objs.size<=X.s₀.heap.objs.size
  noex:∀ b o,X.base.get? b=some o->b∉X.ex
  exfs:∀ b∈X.ex,b∉X.fs
  funs:X.s₀.heap.FunFrames X.base X.outer
  frf:∀ b∈X.fs,X.H₀ b=none
structure Inv (X:Cx) (pins:List (JI × Obj)) (σ:List (Option V)) (H:Hp) (s:JO):Prop where
  ok:X.Ok
  os:s.os=X.s₀.os
  bare:AllBare s.gens
  base:Un X.fs X.ex X.H₀ H X.s₀.heap s.heap
  loc:∃ m,s.heap.Ns X.env.locals m/\∀ (i:Nat) (x:Str) (v:V),X.N[i]?=some x->σ[i]?=some (some v)->Vis X.env.scope x->∃ u,RelV v u/\Look X.env s.heap m x u
  cell:∀ x c,X.env.cells.lookup x=some c->∃ v,s.heap.IsCell c v
  free:H X.env.locals=none
  freeC:∀ x c,X.env.cells.lookup x=some c->H c=none
  pin:∀ p∈X.pn++pins,s.heap.get? p.1=some p.2/\H p.1=none/\p.1≠X.env.locals/\p.1∉X.fs/\∀ v,p.2.data≠.cell v
  hok:HOk X.prog X.w H s.heap
  len:σ.length=X.N.length
section
variable {X:Cx}{pins:List (JI × Obj)}{σ:List (Option V)}{H H':Hp}{s:JO}{h':YP}
theorem Cx.Ok.nofr (ok:X.Ok){b:JI}{o:Obj}(e:X.base.get? b=some o):b∉X.fs:=λa=>by
  have:=(ok.funs.mem a).1;rw[e]at this;cases this
theorem Inv.bs (I:Inv X pins σ H s):∀ b o,X.base.get? b=some o->s.heap.get? b=some o/\H b=none:=λb o e =>
  ⟨I.base.keep b o (I.ok.bs b o e).1 (I.ok.bs b o e).2 (I.ok.nofr e) (I.ok.noex b o e),I.base.free b o (I.ok.bs b o e).1 (I.ok.bs b o e).2 (I.ok.noex b o e)⟩
theorem Inv.bk (I:Inv X pins σ H s):∀ b o,X.base.get? b=some o->s.heap.get? b=some o:=λb o e=>(I.bs b o e).1
theorem Inv.mod (I:Inv X pins σ H s):Mod X.K X.mg X.base:=I.ok.mod
theorem Inv.kIn (I:Inv X pins σ H s):X.K.In s.heap:=I.ok.mod.kin.keeps I.bk
theorem Inv.lt (I:Inv X pins σ H s):X.env.locals<s.heap.objs.size:=let ⟨_,a,_⟩:=I.loc;a.lt
theorem Inv.sz (I:Inv X pins σ H s):X.s₀.heap.objs.size<=s.heap.objs.size:=JS I.ok.above (Nat.le_of_lt I.lt)
theorem Inv.nofs (I:Inv X pins σ H s){a:JI}(h:s.heap.objs.size<=a):a∉X.fs:=λc=>by
  obtain⟨_,o,b,_⟩:=I.ok.funs.mem c;exact absurd (JG (Jd b) (JS I.sz h)) (Yv _)
theorem Inv.cne (I:Inv X pins σ H s):∀ x c,X.env.cells.lookup x=some c->c≠X.env.locals:=λx c e z=>by
  obtain⟨v,o,d,f⟩:=I.cell x c e;obtain⟨m,⟨g,h,i,a,b,_⟩,_⟩:=I.loc;rw[z,a]at d;cases d;rw[b]at f;cases f
theorem Inv.funs (I:Inv X pins σ H s):s.heap.FunFrames X.base X.outer:=by
  have all:∀ (l:List Env),(∀ b∈frs l,b∈X.fs)->X.s₀.heap.FunFrames X.base l->s.heap.FunFrames X.base l:=by
    intro l
    induction l with
    | nil=>intro _ _;trivial
    | cons env r ih =>
      intro f j;obtain⟨k,⟨L,o,a,i,h,m⟩,g⟩:=j;have d:L∈X.fs:=f L (by unfold frs;rw[ZQ,a];exact Jz);obtain⟨n,e⟩:=I.base.slot L o h (I.ok.frf L d) d λz=>I.ok.exfs L z d;exact⟨k,⟨L,_,a,i,e,m⟩,ih (λb c=>f b (by unfold frs;rw[ZQ,a];exact Jw _ c)) g⟩
  exact all X.outer (λ_ c=>c) I.ok.funs
theorem Inv.stack (I:Inv X pins σ H s):s.heap.FunFrames X.base X.stack:=by
  rcases I.ok.stk with e|⟨e,b⟩
  · rw[e];exact I.funs
  · rw[e]
    obtain⟨m,a,_⟩:=I.loc;refine .cons (by rw[I.ok.kind];decide) b a ?_ I.funs;exact Heap.get?_none_of_le (JS I.ok.bsz I.ok.above)
theorem Inv.stkSub (I:Inv X pins σ H s):∀ b∈frs X.stack,b∈X.env.locals::X.fs:=λb a=>by
  rcases I.ok.stk with e|⟨e,c⟩
  · rw[e]at a;exact Jw _ a
  · rw[e]at a
    unfold frs at a;rw[ZQ,c]at a;exact a
theorem Inv.stkFree (I:Inv X pins σ H s):∀ b∈frs X.stack,H b=none:=λb a=>by
  rcases Jf.mp (I.stkSub b a) with e|a
  · rw[e];exact I.free
  · obtain⟨_,o,c,_⟩:=I.ok.funs.mem a
    exact I.base.free b o c (I.ok.frf b a) λz=>I.ok.exfs b z a
theorem Inv.step {g':Array GenState}{t':Nat}{d':Drawn}{ch:List JI}(I:Inv X pins σ H s)(g:∀ b∈ch,(b∈X.ex\/X.s₀.heap.objs.size<=b)/\b≠X.env.locals/\(∀ x c,X.env.cells.lookup x=some c->c≠b)/\∀ p∈X.pn++pins,p.1≠b)(keep:∀ b o,b≠X.env.locals->b∉X.fs->b∉ch->s.heap.get? b=some o->H b=none->h'.get? b=some o)(slot:∀ b o,b≠X.env.locals->b∈X.fs->b∉ch->s.heap.get? b=some o->H b=none->∃ sl,h'.get? b=some { o with slots:=sl })(free:∀ b o,b∉ch->s.heap.get? b=some o->H b=none->H' b=none)(there:∀ b o,b∉ch->s.heap.get? b=some o->∃ A,h'.get? b=some A)(tups:∀ b t,H b=some (.tup t)->H' b=some (.tup t))(D:∀ b o u,H b=some (.frz o u)->H' b=some (.frz o u))(C:∀ b E,H b=some (.tbl E)->∃ more,H' b=some (.tbl (E++more)))(ns:∀ m,s.heap.Ns X.env.locals m->h'.Ns X.env.locals m)(J:HOk X.prog X.w H' h')(R:AllBare g') :
    Inv X pins σ H' { s with heap:=h',gens:=g',drawn:=d',toks:=t' }:=by
  have B:∀ b o,X.s₀.heap.get? b=some o->b≠X.env.locals:=λb o e=>JD (JG (Jd e) I.ok.above)
  have j:∀ b o,X.s₀.heap.get? b=some o->b∉X.ex->b∉ch:=λb o e a w=>by
    rcases (g b w).1 with z|z
    · exact a z
    · exact absurd (JG (Jd e) z) (Yv _)
  have cellK:∀ x c,X.env.cells.lookup x=some c->∀ v,s.heap.IsCell c v->h'.IsCell c v:=λx c e v ⟨o,y,F⟩=>by
    have f:c∉ch:=λz=>(g c z).2.2.1 x c e rfl;by_cases M:c∈X.fs
    · obtain⟨sl,q⟩:=slot c o (I.cne x c e) M f y (I.freeC x c e)
      exact⟨_,q,F⟩
    · exact⟨o,keep c o (I.cne x c e) M f y (I.freeC x c e),F⟩
  refine⟨I.ok,I.os,R,⟨λb o e n w a=>?_,λb o e n w a=>?_,λb o e n a=>?_,λb o e a=>?_,λb t e=>tups b t (I.base.tups b t e),λb o t e=>D b o t (I.base.frzs b o t e),λb E e=>?_⟩,?_,λx c e=>?_,?_,λx c e=>?_,λp L=>?_,J,I.len⟩
  · exact keep b o (B b o e) w (j b o e a) (I.base.keep b o e n w a) (I.base.free b o e n a)
  · obtain⟨sl,h⟩:=I.base.slot b o e n w a
    obtain⟨G,e2⟩:=slot b _ (B b o e) w (j b o e a) h (I.base.free b o e n a);exact⟨G,e2⟩
  · obtain⟨A,h⟩:=I.base.there b o e a
    exact free b A (j b o e a) h (I.base.free b o e n a)
  · obtain⟨A,h⟩:=I.base.there b o e a
    exact there b A (j b o e a) h
  · obtain⟨O,h⟩:=I.base.tbls b E e
    obtain⟨N,e2⟩:=C b _ h;exact⟨O++N,by rw[e2,Array.append_assoc]⟩
  · obtain⟨m,P,Q⟩:=I.loc
    refine⟨m,ns m P,λi x v h e2 S=>?_⟩;obtain⟨u,r,l⟩:=Q i x v h e2 S;refine⟨u,r,?_⟩;rcases l with l|⟨k,c,e,z⟩
    · exact .inl l
    · exact .inr ⟨k,c,e,cellK x c e _ z⟩
  · obtain⟨v,z⟩:=I.cell x c e
    exact⟨v,cellK x c e v z⟩
  · obtain⟨m,⟨o,_,_,y,_⟩,_⟩:=I.loc
    exact free _ o (λz=>(g _ z).2.1 rfl) y I.free
  · obtain⟨v,o,y,F⟩:=I.cell x c e
    exact free c o (λz=>(g c z).2.2.1 x c e rfl) y (I.freeC x c e)
  · obtain⟨e,n,ne,K,d⟩:=I.pin p L
    have f:p.1∉ch:=λz=>(g p.1 z).2.2.2 p L rfl;exact⟨keep p.1 p.2 ne K f e n,free p.1 p.2 f e n,ne,K,d⟩
theorem Inv.un {t':Nat}(I:Inv X pins σ H s)(u:Un X.fs [] H H' s.heap h')(hok:HOk X.prog X.w H' h'):Inv X pins σ H' { s with heap:=h',toks:=t' }:=by
  obtain⟨m,⟨o,q,t,g,r⟩,_⟩:=id I.loc;obtain⟨k,j⟩:=u.any g I.free (by simp)
  exact I.step (g':=s.gens) (d':=s.drawn) (ch:=[]) (λ_ z=>nomatch z) (λb o _ c _ e n=>u.keep b o e n c (by simp)) (λb o _ c _ e n=>u.slot b o e n c (by simp)) (λb o _ e n=>u.free b o e n (by simp)) (λb o _ e=>u.there b o e (by simp)) u.tups u.frzs u.tbls (λp i=>by
    obtain⟨l,d,f,a,h⟩:=i;rw[g]at a;cases a
    exact⟨_,d,f,j,h⟩) hok I.bare
theorem Inv.call {g':Array GenState}{t':Nat}{d':Drawn}{ch:List JI}(I:Inv X pins σ H s)(u:Un (frs X.stack) ch H H' s.heap h')(hok:HOk X.prog X.w H' h')(q:AllBare g')(f:∀ b∈ch,(b∈X.ex\/X.s₀.heap.objs.size<=b)/\b≠X.env.locals/\(∀ x c,X.env.cells.lookup x=some c->c≠b)/\∀ p∈X.pn++pins,p.1≠b) :
    Inv X pins σ H' { s with heap:=h',gens:=g',drawn:=d',toks:=t' }:=by
  obtain⟨m,⟨o,A,B,j,r⟩,_⟩:=id I.loc;obtain⟨v,g⟩:=u.any j I.free λz=>(f _ z).2.1 rfl
  exact I.step (ch:=ch) f (λb o g t a e n=>u.keep b o e n (λz=>(Jf.mp (I.stkSub b z)).elim g t) a) (λb o _ _ a e n=>u.any e n a) (λb o a e n=>u.free b o e n a) (λb o a e=>u.there b o e a) u.tups u.frzs u.tbls (λy l=>by
    obtain⟨w,h,i,d,k⟩:=l;rw[j]at d;cases d
    exact⟨_,h,i,g,k⟩) hok q
theorem Inv.turned {t':Nat}{it:JI}(I:Inv X pins σ H s)(k:∀ b o,b≠it->s.heap.get? b=some o->h'.get? b=some o)(hn:H it=none)(f:it≠X.env.locals)(t:it∈X.ex\/X.s₀.heap.objs.size<=it)(l:∀ x c,X.env.cells.lookup x=some c->c≠it)(j:∀ p∈X.pn++pins,p.1≠it):Inv X pins σ H { s with heap:=h',toks:=t' }:=by
  have d:∀ b u,H b=some u->b≠it:=λb u e z=>by rw[z,hn]at e;cases e
  refine I.step (g':=s.gens) (d':=s.drawn) (ch:=[it]) (λb i=>?_) (λb o _ _ a e _=>k b o (λz=>a (by simp[z])) e) (λb o _ _ a e _=>⟨o.slots,k b o (λz=>a (by simp[z])) e⟩) (λ_ _ _ _ n=>n)
    (λb o a e=>⟨o,k b o (λz=>a (by simp[z])) e⟩) (λ_ _ e=>e) (λ_ _ _ e=>e) (λb A e=>⟨#[],by rw[e];simp⟩) (λm h=>?_) (λb u e=>?_) I.bare
  · have e:b=it:=by simpa using i
    subst e;exact⟨t,f,l,j⟩
  · obtain⟨o,w,y,g,r⟩:=h
    exact⟨o,w,y,k _ o (Ne.symm f) g,r⟩
  · refine(I.hok b u e).stay (λc v a q=>k c v ?_ q) (λ_ q=>q) λ_ _ q=>q
    rcases a with z|z
    · rw[z];exact d b u e
    · exact d c _ z
theorem Inv.tok (I:Inv X pins σ H s)(t:Nat):Inv X pins σ H { s with toks:=t }:=I.un (h':=s.heap) (t':=t) Un.refl I.hok
theorem Inv.kept {t':Nat}(I:Inv X pins σ H s)(k:∀ b u,s.heap.get? b=some u->h'.get? b=some u):Inv X pins σ H { s with heap:=h',toks:=t' }:=I.un (Un.kept k) (I.hok.kept k)
theorem Inv.laid {a:JI}{o:HO}{t':Nat}(I:Inv X pins σ H s)(k:∀ b u,s.heap.get? b=some u->h'.get? b=some u)(c:s.heap.objs.size<=a)(new:ObjOk X.prog X.w (upd H a o) h' a o) :
    Inv X pins σ (upd H a o) { s with heap:=h',toks:=t' }:=I.un (Un.laid k c (I.hok.fresh c)) (I.hok.laid k c new)
theorem Inv.write {x e:JI}{o:HO}{t':Nat}(I:Inv X pins σ H s)(c:Mut (H x))(d:e=x\/H e=some (.own x))(k:∀ b u,b≠e->s.heap.get? b=some u->h'.get? b=some u)(a:∃ u,h'.get? e=some u)(new:ObjOk X.prog X.w (upd H x o) h' x o):Inv X pins σ (upd H x o) { s with heap:=h',toks:=t' }:=I.un (Un.write c d k a) (I.hok.write c d k a new)
theorem Inv.pins_of {a:List (JI × Obj)}(I:Inv X pins σ H s)(h:∀ p∈a,s.heap.get? p.1=some p.2/\H p.1=none/\p.1≠X.env.locals/\p.1∉X.fs/\∀ v,p.2.data≠.cell v):Inv X a σ H s :=
  ⟨I.ok,I.os,I.bare,I.base,I.loc,I.cell,I.free,I.freeC,λp b=>(Js.mp b).elim (λz=>I.pin p (YE _ z)) (h p),I.hok,I.len⟩
theorem mK {N:List Str}(c:N.Nodup){i j:Nat}{x:Str}(a:N[i]?=some x)(b:N[j]?=some x):i=j:=by
  obtain⟨f,d⟩:=Ja.mp a;obtain⟨e,e2⟩:=Ja.mp b;exact(List.getElem_inj c).mp (d.trans e2.symm)
theorem gI {M:Model}{A:YO}{E:Jo->JO->Prop}{i:Nat}{x:Str}{v:V}{u:Jo}{Q:Unit->JO->Prop}(I:Inv X pins σ H s)(hN:X.N.Nodup)(hi:X.N[i]?=some x)(t:Loc X.env.scope x)(r:RelV v u)(h:∀ W,Inv X pins (σ.set i (some v)) H W->(∃ a,Heap.SameBut a s.heap W.heap/\(a=X.env.locals\/X.env.cells.lookup x=some a))->Q () W)(hf:X.fn x=true\/X.env.scope.names.lookup x=some .local:=by first|exact .inl rfl|exact .inr rfl|assumption):wpAny M A (storeName X.env x u) Q E s:=by
  obtain⟨m,hn,hl⟩:=id I.loc;have O:(X.env.scope.kind == .class || (X.env.scope.kind == .module && X.env.locals != X.env.globals))=false:=by rw[I.ok.kind];rfl
  have C:i<σ.length:=by rw[I.len];exact(Ja.mp hi).1
  have cne:=I.cne
  have tracked:∀ {a:JI}{h':YP},(∃ o,s.heap.get? a=some o/\H a=none)->Heap.SameBut a s.heap h'->HOk X.prog X.w H h':=λ{a h'} ha f b ob e=>by
    obtain⟨_,_,w⟩:=ha;refine(I.hok b ob e).stay (λc P l q=>(f.2 c ?_).trans q) (λ_ q=>q) λ_ _ q=>q;rintro rfl;rcases l with rfl|l
    · rw[w]at e;cases e
    · rw[w]at l;cases l
  rcases t with B|B
  · refine wpAny_storeName_local B hn (λh' ak f=>?_) O
    obtain⟨oL,_,_,ab,_⟩:=id hn;refine h _ ⟨I.ok,I.os,I.bare,⟨λb o e n F t=>?_,λb o e n F t=>?_,I.base.free,λb o e t=>?_,I.base.tups,I.base.frzs,I.base.tbls⟩,⟨_,ak,λj y S g e2 e3=>?_⟩,λy c e=>?_,I.free,I.freeC,λp hp=>?_,tracked ⟨oL,ab,I.free⟩ f,by simpa using I.len⟩ ⟨_,f,.inl rfl⟩
    · exact(f.2 b (JD (JG (Jd e) I.ok.above))).trans (I.base.keep b o e n F t)
    · obtain⟨U,g⟩:=I.base.slot b o e n F t
      exact⟨U,(f.2 b (JD (JG (Jd e) I.ok.above))).trans g⟩
    · obtain⟨Z,g⟩:=I.base.there b o e t
      exact⟨Z,(f.2 b (JD (JG (Jd e) I.ok.above))).trans g⟩
    · by_cases D:j=i
      · subst D
        rw[hi]at g;cases g;rw[List.getElem?_set_self C]at e2;cases e2;exact⟨u,r,.inl ⟨B,by simp⟩⟩
      · rw[Wj (Ne.symm D)]at e2
        obtain⟨T,Y,q⟩:=hl j y S g e2 e3;refine⟨T,Y,?_⟩;rcases q with ⟨k,e⟩|⟨k,c,e,z⟩
        · refine .inl ⟨k,?_⟩
          have:y≠x:=λe=>D (mK hN g (e ▸ hi));simp[this,e]
        · exact .inr ⟨k,c,e,z.sameBut f (cne y c e)⟩
    · obtain⟨P,z⟩:=I.cell y c e
      exact⟨P,z.sameBut f (cne y c e)⟩
    · obtain⟨e,n,ne,nf,d⟩:=I.pin p hp
      exact⟨(f.2 p.1 ne).trans e,n,ne,nf,d⟩
  · have G:X.fn x=true:=by
      rcases hf with z|z
      · exact z
      · rw[z]at B;cases B
    obtain⟨c,l⟩:=I.ok.has x (.inl B);obtain⟨P,z⟩:=I.cell x c l;refine wpAny_storeName_cell I.ok.kind B l z (λh' L f=>?_);obtain⟨oc,J,N⟩:=id z;refine h { s with heap:=h' } ⟨I.ok,I.os,I.bare,⟨λb o e n F t=>?_,λb o e n F t=>?_,I.base.free,λb o e t=>?_,I.base.tups,I.base.frzs,I.base.tbls⟩,⟨m,hn.sameBut f (Ne.symm (cne x c l)),λj y S g e2 e3=>?_⟩,λy R e=>?_,I.free,I.freeC,λp hp=>?_,tracked ⟨oc,J,I.freeC x c l⟩ f,by simpa using I.len⟩ ⟨c,f,.inr l⟩
    · exact(f.2 b (JD (JG (Jd e) (I.ok.cab x c G l)))).trans (I.base.keep b o e n F t)
    · obtain⟨U,g⟩:=I.base.slot b o e n F t
      exact⟨U,(f.2 b (JD (JG (Jd e) (I.ok.cab x c G l)))).trans g⟩
    · obtain⟨Z,g⟩:=I.base.there b o e t
      exact⟨Z,(f.2 b (JD (JG (Jd e) (I.ok.cab x c G l)))).trans g⟩
    · by_cases D:j=i
      · subst D
        rw[hi]at g;cases g;rw[List.getElem?_set_self C]at e2;cases e2;exact⟨u,r,.inr ⟨.inl B,c,l,L⟩⟩
      · rw[Wj (Ne.symm D)]at e2
        obtain⟨T,Y,q⟩:=hl j y S g e2 e3;refine⟨T,Y,?_⟩;rcases q with q|⟨k,R,e,z'⟩
        · exact .inl q
        · refine .inr ⟨k,R,e,z'.sameBut f ?_⟩
          rintro rfl;exact D (mK hN g (I.ok.inj _ _ _ e l ▸ hi))
    · by_cases K:R=c
      · subst K;exact⟨_,L⟩
      · obtain⟨w2,z2⟩:=I.cell y R e
        exact⟨w2,z2.sameBut f K⟩
    · obtain⟨e,n,ne,nf,d⟩:=I.pin p hp
      refine⟨(f.2 p.1 ?_).trans e,n,ne,nf,d⟩;intro q;rw[q,J]at e;have q':oc=p.2:=Jq e;exact d P (by rw[<- q'];exact N)
theorem sL {M:Model}{A:YO}{E:Jo->JO->Prop}{i:Nat}{x:Str}{v:V}{u:Jo}{Q:Unit->JO->Prop}(I:Inv X pins σ H s)(d:X.N.Nodup)(hi:X.N[i]?=some x)(b:Loc X.env.scope x)(r:RelV v u)(h:∀ a,Inv X pins (σ.set i (some v)) H a->Q () a)(c:X.fn x=true\/X.env.scope.names.lookup x=some .local:=by first|exact .inl rfl|exact .inr rfl|assumption):wpAny M A (storeName X.env x u) Q E s :=
  gI I d hi b r (λa e _=>h a e) c
theorem Inv.call' {a:JO}{ch:List JI}(I:Inv X pins σ H s)(g:a.os=s.os)(u:Un (frs X.stack) ch H H' s.heap a.heap)(hok:HOk X.prog X.w H' a.heap)(h:AllBare a.gens)(d:∀ b∈ch,(b∈X.ex\/X.s₀.heap.objs.size<=b)/\b≠X.env.locals/\(∀ x c,X.env.cells.lookup x=some c->c≠b)/\∀ p∈X.pn++pins,p.1≠b):Inv X pins σ H' a:=by
  obtain⟨h',g',d',t',f⟩:=a;have e:f=s.os:=g;subst e;exact I.call (g':=g') (t':=t') (d':=d') u hok h d
end
abbrev XK:=Jo->Option JI->Hp->Prop
abbrev St:=List (Option V)
abbrev VK:=V->Hp->Prop
abbrev TE:=St->Hp->VK->Prop
abbrev TT:=St->Hp->(Bool->Hp->Prop)->Prop
abbrev TA:=St->Hp->(List V->Hp->Prop)->Prop
structure Ends where
  nx:St->Hp->Prop
  rt:VK
  bk:St->Hp->Prop:=λ_ _=>False
  ct:St->Hp->Prop:=λ_ _=>False
abbrev TS:=Ends->St->Hp->Prop
def EP (X:Cx)(pins:List (JI × Obj))(σ:St)(Q:VK)(u:Jo)(b:JO):Prop:=∃ v a,Inv X pins σ a b/\RelV v u/\Q v a
def TP (X:Cx)(pins:List (JI × Obj))(σ:St)(Q:Bool->Hp->Prop)(b:Bool)(c:JO):Prop:=∃ a,Inv X pins σ a c/\Q b a
def AP (X:Cx)(pins:List (JI × Obj))(σ:St)(Q:List V->Hp->Prop)(us:List Jo)(c:JO):Prop:=∃ a b,Inv X pins σ b c/\Vals a us/\Q a b
def SP (X:Cx)(pins:List (JI × Obj))(D:Ends)(f:Flow)(c:JO):Prop :=
  match f with
  | .next=>∃ a b,Inv X pins a b c/\D.nx a b
  | .brk=>∃ a b,Inv X pins a b c/\D.bk a b
  | .cont=>∃ a b,Inv X pins a b c/\D.ct a b
  | .ret u=>∃ v a b,Inv X pins a b c/\RelV v u/\D.rt v b
def PE (X:Cx)(e:Expr)(t:TE):Prop :=
  ∀ (pins:List (JI × Obj)) (s:JO) (σ:St) (H:Hp) (Q:VK),Inv X pins σ H s->t σ H Q->wpAny (model X.prog X.w) X.A (eval e X.env) (EP X pins σ Q) X.xe s
def PT (X:Cx)(e:Expr)(t:TT):Prop :=
  ∀ (pins:List (JI × Obj)) (s:JO) (σ:St) (H:Hp) (Q:Bool->Hp->Prop),Inv X pins σ H s->t σ H Q->wpAny (model X.prog X.w) X.A (isTrue e X.env (eval e X.env)) (TP X pins σ Q) X.xe s
def PW (X:Cx)(e:Expr)(t:TT):Prop :=
  ∀ (whole:Sem Jo) (pins:List (JI × Obj)) (s:JO) (σ:St) (H:Hp) (Q:Bool->Hp->Prop),Inv X pins σ H s->t σ H Q->wpAny (model X.prog X.w) X.A (isTrue e X.env whole) (TP X pins σ Q) X.xe s
theorem PW.pt {X:Cx}{e:Expr}{t:TT}(h:PW X e t):PT X e t:=h _
def PA (X:Cx)(a:List Expr)(t:TA):Prop :=
  ∀ (pos:Pos) (pins:List (JI × Obj)) (s:JO) (σ:St) (H:Hp) (Q:List V->Hp->Prop),Inv X pins σ H s->t σ H Q->wpAny (model X.prog X.w) X.A (spliced (backTo pos (starEach a X.env))) (AP X pins σ Q) X.xe s
def PS (X:Cx)(st:Stmt)(t:TS):Prop :=
  ∀ (pins:List (JI × Obj)) (s:JO) (σ:St) (H:Hp) (D:Ends),Inv X pins σ H s->t D σ H->wpAny (model X.prog X.w) X.A (exec st X.env) (SP X pins D) X.xe s
def PSs (X:Cx)(st:List Stmt)(t:TS):Prop :=
  ∀ (pins:List (JI × Obj)) (s:JO) (σ:St) (H:Hp) (D:Ends),Inv X pins σ H s->t D σ H->wpAny (model X.prog X.w) X.A (execs st X.env) (SP X pins D) X.xe s
theorem thn {α:Type}{t:Sem α}{Q b:α->JO->Prop}{M:Model}{A:YO}{E:Jo->JO->Prop}{s:JO}(h:wpAny M A t Q E s)(c:∀ a s,Q a s->b a s):wpAny M A t b E s:=JQ h c λ_ _ x=>x
section
variable {X:Cx}
def lh (i:Nat):TE:=λσ H Q=>∃ v,σ[i]?=some (some v)/\Q v H
def tC (v:V):TE:=λ_ H Q=>Q v H
theorem bf {i:Nat}{x:Str}{pos:Pos}(o:X.N[i]?=some x) (g:Vis X.env.scope x) (hd:(x == ("__debug__":Str))=false:=by decide) (d:(x == ("__classdict__":Str))=false:=by decide):PE X (.Name x pos) (lh i):=by
  intro pins s σ H Q I h;obtain⟨v,e,h⟩:=h;obtain⟨m,j,n⟩:=I.loc;obtain⟨u,r,l⟩:=n i x v o e g;have fin:EP X pins σ Q u s:=⟨v,H,I,r,h⟩;rcases l with ⟨b,k⟩|⟨b,c,f,a⟩
  · exact wpAny_Name (wpAny_loadName_local I.ok.kind b j k fin) hd
  · rcases b with b|b
    · exact wpAny_Name (wpAny_loadName_cell I.ok.kind b f a fin) hd
    · exact wpAny_Name (wpAny_loadName_free I.ok.kind b f a fin d) hd
theorem zK {i j pos}:PE X (.Constant (.int i) j pos) (tC (.int i)):=λ_ _ _ H _ I h=>wpAny_Constant_int ⟨.int i,H,I.tok _,⟨_,rfl⟩,h⟩
theorem uA {b j pos}:PE X (.Constant (.bool b) j pos) (tC (.bl b)):=λ_ _ _ H _ I h=>Constant_bool ⟨.bl b,H,I,rfl,h⟩
theorem kw {j pos}:PE X (.Constant .none j pos) (tC .non):=λ_ _ _ H _ I h=>Constant_none ⟨.non,H,I,rfl,h⟩
theorem xh {x j pos}:PE X (.Constant (.str x) j pos) (tC (.str x)):=λ_ _ _ H _ I h=>Calls.Constant_str ⟨.str x,H,I.tok _,⟨_,rfl⟩,h⟩
def Gl (X:Cx)(x:Str):Prop:=X.env.kindOf x=some .globalImplicit
theorem nD {E:Jo->JO->Prop}{pins:List (JI × Obj)}{s:JO}{σ:St}{H:Hp}{x:Str}{u:Jo}{pos:Pos}{Q:Jo->JO->Prop}(I:Inv X pins σ H s) (a:Gl X x) (hm:X.mg x=some u) (h:Q u s)
    (hd:(x == ("__debug__":Str))=false:=by decide):wpAny (model X.prog X.w) X.A (eval (.Name x pos) X.env) Q E s :=
  Calls.Name_function_global I.ok.kind a (Calls.loadGlobal_global (by rw[I.ok.glob];exact I.mod.glob.keeps I.bk) hm h) hd
theorem xW {E:Jo->JO->Prop}{pins:List (JI × Obj)}{s:JO}{σ:St}{H:Hp}{x:Str}{u:Jo}{pos:Pos}{Q:Jo->JO->Prop}(I:Inv X pins σ H s) (b:Gl X x) (hm:X.mg x=none) (a:bootBuiltins x=some u) (h:Q u s)
    (hn:x≠"__name__":=by decide) (c:(x == ("__debug__":Str))=false:=by decide):wpAny (model X.prog X.w) X.A (eval (.Name x pos) X.env) Q E s:=by
  obtain⟨f,e,d⟩:=I.mod.blt;exact Calls.Name_function_global I.ok.kind b (Calls.loadGlobal_builtin (by rw[I.ok.glob];exact I.mod.glob.keeps I.bk) hm (by rw[I.ok.blt];exact e.keeps I.bk) ((d x hn).trans a) h) c
theorem iA {x:Str}{v:V}{u:Jo}{pos:Pos}(a:Gl X x) (hm:X.mg x=some u) (r:RelV v u) (hd:(x == ("__debug__":Str))=false:=by decide):PE X (.Name x pos) (tC v) :=
  λ_ _ _ H _ I h=>nD I a hm ⟨v,H,I,r,h⟩ hd
theorem tU {x:Str}{v:V}{u:Jo}{pos:Pos}(b:Gl X x) (hm:X.mg x=none) (a:bootBuiltins x=some u) (r:RelV v u) (hn:x≠"__name__":=by decide) (c:(x == ("__debug__":Str))=false:=by decide):PE X (.Name x pos) (tC v) :=
  λ_ _ _ H _ I h=>xW I b hm a ⟨v,H,I,r,h⟩ hn c
variable {a b:Expr}{ta tb:TE}{pos:Pos}
def PC (X:Cx)(op:CmpOp)(a b:Expr)(t:TE):Prop :=
  ∀ (pins:List (JI × Obj)) (s:JO) (σ:St) (H:Hp) (Q:VK),Inv X pins σ H s->t σ H Q ->
    wpAny (model X.prog X.w) X.A (eval a X.env) (λv d=>wpAny (model X.prog X.w) X.A (eval b X.env) (λu c=>wpAny (model X.prog X.w) X.A (compareOp op v u) (EP X pins σ Q) X.xe c) X.xe d) X.xe s
def tB (t:TE):TT:=λσ H Q=>t σ H λx a=>∃ c,x=.bl c/\Q c a
theorem zcw {op:CmpOp}{t:TE}(h:PC X op a b t)(e:behindInMarks op b=false:=by first|exact nobehind _ (by decide) (by decide)|rfl):PT X (.Compare a [op] [b] pos) (tB t):=by
  intro pins s σ H Q I i;refine wpAny_isTrue_Compare1 (thn (h pins s σ H _ I i) λv o e=>thn e λu n j=>thn j λc m ⟨x,l,k,f,g⟩=>?_) e;obtain⟨d,rfl,q⟩:=g;cases f;exact YM ⟨l,k,q⟩
theorem uc {e:Expr}{t:TE}(h:PE X e t)(f:∀ whole,isTrue e X.env whole=(do let v <- whole;standAt e.pos;holding [v] (truthy v)):=by intro _;rfl):PT X e (tB t):=by
  intro pins s σ H Q I c;refine isTrue_plain (thn (h pins s σ H _ I c) λv j ⟨x,i,g,a,b⟩=>?_) (f _);obtain⟨d,rfl,q⟩:=b;cases a;exact YM ⟨i,g,q⟩
variable {tA tB':TT}{rest:List Expr}
def zd7 (t u:TT):TT:=λσ H Q=>t σ H λc a=>if c=true then u σ a Q else Q false a
def tOr (t u:TT):TT:=λσ H Q=>t σ H λc a=>if c=true then Q true a else u σ a Q
def zd0 (t:TT):TT:=λσ H Q=>t σ H λc a=>Q (!c) a
theorem zaX (ha:PT X a tA):PW X (.BoolOp .And [a] pos) tA:=by
  intro b pins s σ H Q I h;refine isTrue_and (thn (ha pins s σ H Q I h) λc d e=>?_)
  cases c with
  | true=>exact isTrue_and_nil e
  | false=>exact e
theorem o6 (ha:PT X a tA):PW X (.BoolOp .Or [a] pos) tA:=by
  intro b pins s σ H Q I h;refine isTrue_or (thn (ha pins s σ H Q I h) λc d e=>?_)
  cases c with
  | false=>exact isTrue_or_nil e
  | true=>exact e
theorem zcv (ha:PT X a tA)(hb:PW X (.BoolOp .And (b::rest) pos) tB'):PW X (.BoolOp .And (a::b::rest) pos) (zd7 tA tB'):=by
  intro g pins s σ H Q I h;refine isTrue_and (thn (ha pins s σ H _ I h) λc i ⟨f,e,d⟩=>?_)
  cases c with
  | true=>exact hb g pins i σ f Q e d
  | false=>exact⟨f,e,d⟩
theorem n8 (ha:PT X a tA)(hb:PW X (.BoolOp .Or (b::rest) pos) tB'):PW X (.BoolOp .Or (a::b::rest) pos) (tOr tA tB'):=by
  intro g pins s σ H Q I h;refine isTrue_or (thn (ha pins s σ H _ I h) λc i ⟨f,e,d⟩=>?_)
  cases c with
  | true=>exact⟨f,e,d⟩
  | false=>exact hb g pins i σ f Q e d
theorem kg (ha:PT X a tA):PT X (.UnaryOp .Not a pos) (zd0 tA):=by
  intro pins s σ H Q I h;exact isTrue_not (ha pins s σ H (λc b=>Q (!c) b) I h)
def zdr (ta tb:TE):TE:=λσ H Q=>ta σ H λx a=>∃ c,x=.bl c/\if c=true then tb σ a Q else Q (.bl false) a
def zdi (ta:TE):TE:=λσ H Q=>ta σ H λx a=>∃ c,x=.bl c/\Q (.bl (!c)) a
theorem rE {op}{t:TE}(h:PE X a t):PE X (.BoolOp op [a] pos) t:=λpins s σ H Q I b=>BoolOp_one (h pins s σ H Q I b)
theorem ud (ha:PE X a ta)(hb:PE X (.BoolOp .And (b::rest) pos) tb):PE X (.BoolOp .And (a::b::rest) pos) (zdr ta tb):=by
  intro pins s σ H Q I h;refine BoolOp_and (thn (ha pins s σ H _ I h) λv g ⟨x,f,e,i,d⟩=>?_);obtain⟨c,rfl,d⟩:=d;cases i;refine YM ?_
  cases c with
  | true=>exact hb pins g σ f Q e d
  | false=>exact⟨.bl false,f,e,rfl,d⟩
theorem zcy (ha:PE X a ta):PE X (.UnaryOp .Not a pos) (zdi ta):=by
  intro pins s σ H Q I h;refine UnaryOp_ (thn (ha pins s σ H _ I h) λv g ⟨x,f,e,d,b⟩=>?_);obtain⟨c,rfl,b⟩:=b;cases d;exact not_of (YM ⟨.bl (!c),f,e,rfl,b⟩)
def tIf (t:TT)(ta tb:TE):TE:=λσ H Q=>t σ H λc a=>if c=true then ta σ a Q else tb σ a Q
theorem mB {c:Expr}(j:PT X c tA)(ha:PE X a ta)(hb:PE X b tb):PE X (.IfExp c a b pos) (tIf tA ta tb):=by
  intro pins s σ H Q I h;refine wpAny_IfExp (thn (j pins s σ H _ I h) λd e ⟨i,g,f⟩=>?_)
  cases d with
  | true=>exact ha pins e σ i Q g f
  | false=>exact hb pins e σ i Q g f
end
def SqL (K:Jl)(H:Hp)(a:JI)(xs:List V):Prop :=
  Rd H a (.lst xs) \/
    ∃ (o:Obj) (b:Array Jo) (n:Nat),K.lookup a=some o/\o.cls=.type "list"/\o.dict=none/\o.data=.seq b n/\b.size<=sizeLine/\Vals xs b.toList
def SqT (K:Jl)(H:Hp)(a:JI)(xs:List V):Prop :=
  Rd H a (.tup xs) \/
    ∃ (o:Obj) (b:Array Jo) (n:Nat),K.lookup a=some o/\o.cls=.type "tuple"/\o.data=.seq b n/\b.size<=sizeLine/\Vals xs b.toList
def zeJ:Jo->Option V
  | .none=>some .non
  | .bool b=>some (.bl b)
  | .int i _=>some (.int i)
  | .str x _=>some (.str x)
  | .bytes b _=>some (.byt b)
  | .float b _=>some (.flt b)
  | .ref a=>some (.ref a)
  | .type n=>some (.ty n)
  | _=>none
theorem RelV.abs {x:V}{u:Jo}(r:RelV x u):zeJ u=some x:=by
  cases x with
  | non=>cases r;rfl
  | bl _=>cases r;rfl
  | int _=>obtain⟨t,rfl⟩:=r;rfl
  | str _=>obtain⟨t,rfl⟩:=r;rfl
  | byt _=>obtain⟨t,rfl⟩:=r;rfl
  | flt _=>obtain⟨t,rfl⟩:=r;rfl
  | ref _=>cases r;rfl
  | ty _=>cases r;rfl
theorem RelV.inj {x y:V}{u:Jo}(r:RelV x u)(q:RelV y u):x=y:=Jq (r.abs.symm.trans q.abs)
theorem Vals.inj:∀ {xs ys:List V}{us:List Jo},Vals xs us->Vals ys us->xs=ys
  | _,_,_,.nil,.nil=>rfl
  | _,_,_,.cons r t,.cons a t'=>by rw[r.inj a,Vals.inj t t']
section
variable {X:Cx}{pins:List (JI × Obj)}{σ:St}{H:Hp}{s:JO}{a:JI}{xs ys:List V}
theorem SqL.of {K:Jl}(h:H a=some (.lst xs)):SqL K H a xs:=.inl (.inl h)
theorem SqT.of {K:Jl}(h:H a=some (.tup xs)):SqT K H a xs:=.inl (.inl h)
theorem Inv.list (I:Inv X pins σ H s)(h:SqL X.K H a xs):∃ its:List Jo,Vals xs its/\PlainL s.heap a its.toArray/\xs.length<=sizeLine:=by
  rcases h with h|⟨o,its,n,c,f,d,b,g,r⟩
  · obtain⟨z,its,n,r,e⟩:=h.ok I.hok
    exact⟨its,r,⟨_,n,e,rfl,rfl,rfl⟩,z⟩
  · refine⟨its.toList,r,⟨o,n,I.kIn a o c,f,d,by simpa using b⟩,?_⟩
    have e:=r.length;simp only[Ju]at e
    simp_all
theorem Inv.tuple (I:Inv X pins σ H s)(h:SqT X.K H a xs):∃ its:List Jo,Vals xs its/\IsTup s.heap a its.toArray/\xs.length<=sizeLine:=by
  rcases h with h|⟨o,its,n,c,d,b,f,r⟩
  · obtain⟨z,its,r,p⟩:=h.ok I.hok
    exact⟨its,r,p.tup,z⟩
  · refine⟨its.toList,r,⟨o,I.kIn a o c,d,n,by simpa using b⟩,?_⟩
    have e:=r.length;simp only[Ju]at e
    simp_all
theorem Inv.list_inj (I:Inv X pins σ H s)(h:SqL X.K H a xs)(h':SqL X.K H a ys):xs=ys:=by
  obtain⟨c,r,⟨o,n,e,_,_,d⟩,_⟩:=I.list h;obtain⟨b,i,⟨k,l,f,_,_,g⟩,_⟩:=I.list h';rw[e]at f;cases f;rw[d]at g;injection g with j _;have:c=b:=by simpa using JP Array.toList j
  subst this;exact r.inj i
theorem Inv.tuple_inj (I:Inv X pins σ H s)(h:SqT X.K H a xs)(h':SqT X.K H a ys):xs=ys:=by
  obtain⟨c,r,⟨o,e,_,n,d⟩,_⟩:=I.tuple h;obtain⟨b,i,⟨k,f,_,l,g⟩,_⟩:=I.tuple h';rw[e]at f;cases f;rw[d]at g;injection g with j _;have:c=b:=by simpa using JP Array.toList j
  subst this;exact r.inj i
end
abbrev Cx.wish (X:Cx)(E:Jo->JO->Prop):Cx:={ X with xe:=E }
abbrev Cx.nox (X:Cx):Cx:=X.wish λ_ _=>False
theorem Cx.Ok.wish {X:Cx}(ok:X.Ok)(E:Jo->JO->Prop):(X.wish E).Ok :=
  ⟨ok.mod,ok.kind,ok.glob,ok.blt,ok.above,ok.inj,ok.has,ok.cab,ok.hd,ok.frames,ok.stk,ok.exf,ok.bs,ok.bsz,ok.noex,ok.exfs,ok.funs,ok.frf⟩
theorem Cx.Ok.unwish {X:Cx}{E:Jo->JO->Prop}(ok:(X.wish E).Ok):X.Ok :=
  ⟨ok.mod,ok.kind,ok.glob,ok.blt,ok.above,ok.inj,ok.has,ok.cab,ok.hd,ok.frames,ok.stk,ok.exf,ok.bs,ok.bsz,ok.noex,ok.exfs,ok.funs,ok.frf⟩
section
variable {X:Cx}{pins:List (JI × Obj)}{σ:St}{H:Hp}{s:JO}{E:Jo->JO->Prop}
theorem Inv.wish (I:Inv X pins σ H s)(E:Jo->JO->Prop):Inv (X.wish E) pins σ H s:=⟨I.ok.wish E,I.os,I.bare,I.base,I.loc,I.cell,I.free,I.freeC,I.pin,I.hok,I.len⟩
theorem Inv.unwish (I:Inv (X.wish E) pins σ H s):Inv X pins σ H s:=⟨I.ok.unwish,I.os,I.bare,I.base,I.loc,I.cell,I.free,I.freeC,I.pin,I.hok,I.len⟩
theorem SP.unwish {D:Ends}{f:Flow}{c:JO}(h:SP (X.wish E) pins D f c):SP X pins D f c:=by
  cases f with
  | next=>obtain⟨a,b,I,q⟩:=h;exact⟨a,b,I.unwish,q⟩
  | brk=>obtain⟨a,b,I,q⟩:=h;exact⟨a,b,I.unwish,q⟩
  | cont=>obtain⟨a,b,I,q⟩:=h;exact⟨a,b,I.unwish,q⟩
  | ret u=>obtain⟨v,a,b,I,r,q⟩:=h;exact⟨v,a,b,I.unwish,r,q⟩
theorem PSs.nox {st:List Stmt}{t:TS}(h:PSs X.nox st t):PSs X st t:=λpins s σ H D I a =>
  JQ (h pins s σ H D (I.wish _) a) (λ_ _ q=>q.unwish) λ_ _ z=>False.elim z
end
section
variable {X:Cx}{st:Stmt}{rest:List Stmt}{t u:TS}{e:Expr}{te:TE}{pos:Pos}
def zbT:TS:=λD σ H=>D.nx σ H
def nu (t u:TS):TS:=λD σ H=>t { D with nx:=u D } σ H
theorem yZ:PSs X [] zbT:=λ_ _ σ H _ I h=>wpAny_execs_nil ⟨σ,H,I,h⟩
theorem zJ (d:PS X st t)(c:PSs X rest u):PSs X (st::rest) (nu t u):=by
  intro pins s σ H D I h;refine wpAny_execs_cons (thn (d pins s σ H { D with nx:=u D } I h) λf b q=>?_)
  cases f with
  | next =>
    obtain⟨a,g,e,q⟩:=q
    exact c pins b a g D e q
  | ret v=>exact q
  | brk=>exact q
  | cont=>exact q
theorem zM (a:PS X st t):PSs X [st] t:=by
  intro pins s σ H D I h;refine wpAny_execs_cons (thn (a pins s σ H D I h) λf b q=>?_)
  cases f with
  | next=>exact wpAny_execs_nil q
  | ret v=>exact q
  | brk=>exact q
  | cont=>exact q
def zdp:TS:=λD σ H=>D.ct σ H
theorem n9:PS X (.Continue pos) zdp:=λ_ _ σ H _ I h=>wpAny_Continue ⟨σ,H,I,h⟩
theorem Inv.quiet {pins:List (JI × Obj)}{σ:St}{H:Hp}{s:JO}(I:Inv X pins σ H s):interactive X.env=false:=by simp[interactive,I.ok.kind]
def zdo (te:TE):TS:=λD σ H=>te σ H λ_ a=>D.nx σ a
theorem w6 (c:PE X e te)(b:swapsWith e none pos.line X.env=pure false:=by rfl):PS X (.Expr e pos) (zdo te):=by
  intro pins s σ H D I h;exact wpAny_Expr_any (thn (c pins s σ H _ I h) λv g ⟨x,f,d,i,a⟩=>⟨σ,f,d,a⟩) I.quiet b
def zdZ (te:TE):TS:=λD σ H=>te σ H D.rt
theorem zT (c:PE X e te):PS X (.Return (some e) pos) (zdZ te):=by
  intro pins s σ H D I h;exact wpAny_Return_some (thn (c pins s σ H _ I h) λv g ⟨x,f,d,a,b⟩=>⟨x,σ,f,d,a,b⟩)
def zd3 (c:TT)(t u:TS):TS:=λD σ H=>c σ H λb a=>if b=true then t D σ a else u D σ a
theorem xK {c:Expr}{a b:List Stmt}{e:TT}(k:PT X c e)(ha:PSs X a t)(hb:PSs X b u):PS X (.If c a b pos) (zd3 e t u):=by
  intro pins s σ H D I h;refine wpAny_If (thn (k pins s σ H _ I h) λd f ⟨j,i,g⟩=>?_)
  cases d with
  | true=>exact ha pins f σ j D i g
  | false=>exact hb pins f σ j D i g
end
abbrev TG:=V->St->Hp->(St->Hp->Prop)->Prop
abbrev TGs:=List V->St->Hp->(St->Hp->Prop)->Prop
def PG (X:Cx)(target:Expr)(t:TG):Prop :=
  ∀ (pins:List (JI × Obj)) (s:JO) (σ:St) (H:Hp) (v:V) (u:Jo) (Q:St->Hp->Prop),Inv X pins σ H s->RelV v u->t v σ H Q ->
    wpAny (model X.prog X.w) X.A (assign target X.env u) (λ_ c=>∃ a b,Inv X pins a b c/\Q a b) X.xe s
def PGs (X:Cx)(ts:List Expr)(t:TGs):Prop :=
  ∀ (pins:List (JI × Obj)) (s:JO) (σ:St) (H:Hp) (b:List V) (c:List Jo) (Q:St->Hp->Prop),Inv X pins σ H s->Vals b c->t b σ H Q ->
    wpAny (model X.prog X.w) X.A (assignInOrder ((assignEach ts X.env).map (·.2)) c) (λ_ e=>∃ a d,Inv X pins a d e/\Q a d) X.xe s
abbrev TSet:=V->V->V->Hp->(Hp->Prop)->Prop
def PSet (X:Cx)(t:TSet):Prop :=
  ∀ (pins:List (JI × Obj)) (s:JO) (σ:St) (H:Hp) (o i v:V) (a b u:Jo) (Q:Hp->Prop),Inv X pins σ H s->RelV o a->RelV i b->RelV v u->t o i v H Q ->
    wpAny (model X.prog X.w) X.A (setItem a b u) (λ_ d=>∃ c,Inv X pins σ c d/\Q c) X.xe s
abbrev TIp:=V->V->Hp->VK->Prop
def PIp (X:Cx)(op:Operator)(t:TIp):Prop :=
  ∀ (pins:List (JI × Obj)) (s:JO) (σ:St) (H:Hp) (x y:V) (v u:Jo) (Q:VK),Inv X pins σ H s->RelV x v->RelV y u->t x y H Q ->
    wpAny (model X.prog X.w) X.A (inplaceOp op v u) (EP X pins σ Q) X.xe s
section
variable {X:Cx}{pos:Pos}
def tE (i:Nat):TG:=λv σ H Q=>Q (σ.set i (some v)) H
theorem zQ {i:Nat}{x:Str}(c:X.N.Nodup)(hi:X.N[i]?=some x)(a:Loc X.env.scope x)(b:X.fn x=true\/X.env.scope.names.lookup x=some .local:=by first|exact .inl rfl|exact .inr rfl|assumption):PG X (.Name x pos) (tE i):=by
  intro pins s σ H v u Q I r h;exact wpAny_assign_Name (sL I c hi a r (λe d=>⟨_,H,d,h⟩) b)
def zc3:TGs:=λa σ H Q=>a=[]/\Q σ H
def lA (t:TG)(u:TGs):TGs:=λb σ H Q=>∃ v r,b=v::r/\t v σ H λa c=>u r a c Q
theorem yS:PGs X [] zc3:=by
  intro pins s σ H a b Q I r h;obtain⟨e,h⟩:=h;subst e;cases r;exact assignInOrder_nil ⟨σ,H,I,h⟩
theorem zR {e:Expr}{a:List Expr}{t:TG}{u:TGs}(j:PG X e t)(i:PGs X a u)(g:(assignEach (e::a) X.env).map (·.2)=assign e X.env::(assignEach a X.env).map (·.2):=by rfl):PGs X (e::a) (lA t u):=by
  intro pins s σ H n p Q I r h;obtain⟨v,o,k,h⟩:=h;subst k
  cases r with
  | cons r d =>
    rw[g];refine assignInOrder_cons (thn (j pins s σ H _ _ _ I r h) λ_ c ⟨b,m,l,f⟩=>?_);exact i pins c b m _ _ Q l d f
def zbH (K:Jl)(n:Nat)(t:TGs):TG:=λv σ H Q=>∃ a b,v=.ref a/\SqT K H a b/\b.length=n/\t b σ H Q
theorem yn {c:List Expr}{k:Nat}{t:TGs}{n:Nat}(q:X.calm=true)(h:PGs X c t)(hn:(assignEach c X.env).length=n:=by rfl)(f:(assignEach c X.env).findIdx? (·.1)=none:=by rfl):PG X (.Tuple c k pos) (zbH X.K n t):=by
  intro pins s σ H v u Q I r d;obtain⟨a,i,x,m,p,d⟩:=d;subst x;cases r;obtain⟨z,g,l,A⟩:=I.tuple m;refine assign_Tuple_tuple (I.ok.hd q) l (by simp[hn,<- p,g.length]) f λw j=>?_;have y:Inv X pins σ H { s with heap:=w }:=I.kept (t':=s.toks) λb o e=>j b o (JD (Jd e)) e;exact h pins _ σ H i _ Q y (by simpa using g) d
def zeG (to a:TE)(t:TSet):TG:=λv σ H Q=>to σ H λo d=>a σ d λi c=>t o i v c λb=>Q σ b
theorem wL {o i:Expr}{to c:TE}{t:TSet}(n:PE X o to)(hi:PE X i c)(m:PSet X t)(ha:∀ v,assign (.Subscript o i pos) X.env v=(do
      let a <- holding [v] (eval o X.env)
      let b <- holding [v,a] (eval i X.env)
      standAt pos
      holding [v,a,b] (setItem a b v)
      release [v,a,b] []):=by intro _;rfl):PG X (.Subscript o i pos) (zeG to c t):=by
  intro pins s σ H v u Q I r h;rw[ha];refine J0 (JX (thn (n pins s σ H _ I h) λa e ⟨x,B,w,g,l⟩=>?_));refine J0 (JX (thn (hi pins e σ B _ w l) λb d ⟨y,A,q,f,k⟩=>?_));refine J0 (ZG (J0 (JX (thn (m pins d σ A x y v a b u _ q g f r k) λ_ C ⟨z,p,j⟩=>?_))));exact wpAny_release ⟨σ,z,p,j⟩
def zdq (a:TE)(g:TG):TS:=λD σ H=>a σ H λx b=>g x σ b D.nx
theorem yh {tg e:Expr}{a:TE}{g:TG}(k:PE X e a)(j:PG X tg g)(i:swapsWithSole [tg] e pos.line X.env=pure false:=by rfl)(f:swappedStores [tg] e X.env=pure none:=by rfl)(l:(assignEach [tg] X.env).map (·.2)=[assign tg X.env]:=by rfl):PS X (.Assign [tg] e pos) (zdq a g):=by
  intro pins s σ H D I h;refine wpAny_Assign_stores (thn (k pins s σ H _ I h) λv b ⟨x,n,m,c,d⟩=>?_) i f;rw[l];exact thn (j pins b σ n x v _ m c d) λ_ o q=>q
theorem zY {i:Nat}{x:Str}{e:Expr}{a:TE}{pos':Pos}(k:X.N.Nodup)(hi:X.N[i]?=some x)(d:Loc X.env.scope x)(j:PE X e a)(f:swapsWith e (some (.Name x pos')) pos.line X.env=pure false:=by rfl)(g:X.fn x=true\/X.env.scope.names.lookup x=some .local:=by first|exact .inl rfl|exact .inr rfl|assumption) :
    PS X (.Assign [.Name x pos'] e pos) (zdq a (tE i)):=by
  intro pins s σ H D I h;refine wpAny_Assign_Name (thn (j pins s σ H _ I h) λv p ⟨y,n,m,b,c⟩=>?_) f;exact sL m k hi d b (λo l=>⟨_,n,l,c⟩) g
def zd6 (i:Nat)(b:TE)(a:TIp):TS:=λD σ H=>∃ x,σ[i]?=some (some x)/\b σ H λy d=>a x y d λz c=>D.nx (σ.set i (some z)) c
theorem zcx {i:Nat}{x:Str}{e:Expr}{o:TE}{op:Operator}{n:TIp}{pos':Pos}(M:X.N.Nodup)(hi:X.N[i]?=some x)(g:Loc X.env.scope x)(K:PE X e o)(C:PIp X op n)(J:X.fn x=true\/X.env.scope.names.lookup x=some .local:=by first|exact .inl rfl|exact .inr rfl|assumption) :
    PS X (.AugAssign (.Name x pos') op e pos) (zd6 i o n):=by
  intro pins s σ H D I h;obtain⟨v,N,h⟩:=h;obtain⟨m,E,G⟩:=I.loc;have j:Vis X.env.scope x:=by rcases g with k|k;exact .inl k;exact .inr (.inl k)
  obtain⟨u,r,l⟩:=G i x v hi N j;refine wpAny_AugAssign_Name ?_
  have go:wpAny (model X.prog X.w) X.A (eval e X.env) (λw f=>wpAny (model X.prog X.w) X.A (inplaceOp op u w) (λr d=>wpAny (model X.prog X.w) X.A (storeName X.env x r) (λ_=>SP X pins D .next) X.xe d) X.xe f) X.xe s:=by
    refine thn (K pins s σ H _ I h) λw p ⟨y,S,Q,t,B⟩=>?_;refine thn (C pins p σ S v y u w _ Q r t B) λz V ⟨T,R,P,q,A⟩=>?_;exact sL P M hi g q (λU O=>⟨_,R,O,A⟩) J
  rcases l with ⟨a,F⟩|⟨a,c,L,b⟩
  · exact wpAny_loadName_local I.ok.kind a E F go
  · rcases a with a|a
    · exact wpAny_loadName_cell I.ok.kind a L b go
    · rcases g with k|k
      · have:X.env.scope.names.lookup x=some .free:=a
        rw[k]at this;cases this
      · have:X.env.scope.names.lookup x=some .free:=a
        rw[k]at this;cases this
def zb6 (c:TT)(g:TS):TS:=λD σ H=>∃ W:Nat->St->Hp->Prop,(∃ m,W m σ H)/\∀ m σ H,W m σ H ->
  c σ H λb e=>if b=true then ∃ N:St->Hp->Prop,(∀ a f,N a f->∃ d,d<m/\W d a f)/\g { D with nx:=N,ct:=N,bk:=D.nx } σ e else D.nx σ e
theorem bU {c:Expr}{body:List Stmt}{q:TT}{r:TS}(t:PassesOwn (model X.prog X.w) X.A X.env X.xe)(J:PT X c q)(hb:PSs X body r):PS X (.While c body [] pos) (zb6 q r):=by
  intro pins s σ H D I h;obtain⟨W,⟨G,B⟩,turn⟩:=h;refine wpAny_While (codeAny_whileLoop (λn F=>∃ g z,Inv X pins g z F/\W n g z) ?_ G ⟨σ,H,I,B⟩);rintro n E ⟨d,y,K,A⟩;refine ZV t (thn (J pins E d y _ K (turn n d y A)) λb C ⟨x,w,j⟩=>?_)
  cases b with
  | true =>
    obtain⟨N,u,j⟩:=j;rw[Jh rfl];refine ZV t (thn (hb pins C d x _ w j) λf L i=>?_)
    cases f with
    | next =>
      obtain⟨a,e,p,l⟩:=i;obtain⟨m,o,k⟩:=u a e l
      exact⟨m,o,a,e,p,k⟩
    | cont =>
      obtain⟨a,e,p,l⟩:=i;obtain⟨m,o,k⟩:=u a e l
      exact⟨m,o,a,e,p,k⟩
    | brk=>exact i
    | ret v=>exact i
  | false =>
    rw[Jc Jp];exact wpAny_execs_nil ⟨d,x,w,j⟩
end
structure It where
  go:Nat->Hp->Prop
  yld:Nat->Hp->V->Hp->Prop
  stop:Nat->Hp->Prop
def FpOk (X:Cx)(pins:List (JI × Obj))(H:Hp)(b:JI):Prop :=
  H b=none/\b≠X.env.locals/\b∉X.fs/\(b∈X.ex\/X.s₀.heap.objs.size<=b)/\(∀ x c,X.env.cells.lookup x=some c->c≠b)/\∀ p∈X.pn++pins,p.1≠b
theorem Inv.fpOk {X:Cx}{pins:List (JI × Obj)}{σ:St}{H H':Hp}{s:JO}{b:JI}(I:Inv X pins σ H s)(hb:s.heap.objs.size<=b)(hn:H' b=none):FpOk X pins H' b:=by
  refine⟨hn,JT (JG I.lt hb),I.nofs hb,.inr (JS I.sz hb),λx c e z=>?_,λp a z=>?_⟩
  · obtain⟨v,q⟩:=I.cell x c e
    exact absurd (JG q.lt (by rw[z];exact hb)) (Yv _)
  · exact absurd (JG (Jd (I.pin p a).1) (by rw[z];exact hb)) (Yv _)
structure Turn (P:Yo) (w:YI) (K:Jl) (tg:Expr) (J:It) (fp:List JI) (it:JI) (tn:Nat->YP->Prop):Prop where
  mem:it∈fp
  obj:∀ i h,tn i h->∀ b∈fp,∃ o,h.get? b=some o/\∀ v,o.data≠.cell v
  keep:∀ i h h',tn i h->(∀ b∈fp,∀ o,h.get? b=some o->h'.get? b=some o)->tn i h'
  item:∀ (X:Cx),X.prog=P->X.w=w->X.K=K->X.calm=true->∀ (i:Nat) (pins:List (JI × Obj)) (s:JO) (σ:St) (H:Hp) (E:Jo->JO->Prop),Inv X pins σ H s->(∀ b∈fp,FpOk X pins H b)->tn i s.heap->J.go i H ->
    wpAny (model P w) X.A (pyNext (.ref it)) (λr s1=>∃ u,r=some u /\
      wpAny (model P w) X.A (letOwnedTupleGo tg (.ref it) u) (λ_ s2=>∃ x H',Inv X pins σ H' s2/\RelV x u/\J.yld i H x H'/\tn (i+1) s2.heap/\∀ b∈fp,H' b=none) E s1) E s
  done:∀ (X:Cx),X.prog=P->X.w=w->X.K=K->X.calm=true->∀ (i:Nat) (pins:List (JI × Obj)) (s:JO) (σ:St) (H:Hp) (E:Jo->JO->Prop),Inv X pins σ H s->(∀ b∈fp,FpOk X pins H b)->tn i s.heap->J.stop i H ->
    wpAny (model P w) X.A (pyNext (.ref it)) (λr s1=>r=none/\Inv X pins σ H s1) E s
  self:∀ (A:YO) (i:Nat) (s:JO) (Q:Jo->JO->Prop) (E:Jo->JO->Prop),tn i s.heap->Q (.ref it) s->wpAny (model P w) A (pyIter (.ref it)) Q E s
abbrev TI:=St->Hp->(It->Hp->Prop)->Prop
def PIE (X:Cx)(pins:List (JI × Obj))(σ:St)(tg:Expr)(R:It->Hp->Prop)(c:Jo)(s2:JO):Prop :=
  ∃ (it:JI) (e:List JI) (d:Nat->YP->Prop) (J:It) (a:Hp),c=.ref it/\Inv X pins σ a s2/\Turn X.prog X.w X.K tg J e it d/\d 0 s2.heap/\(∀ b∈e,FpOk X pins a b)/\R J a
def PI (X:Cx)(tg iter:Expr)(a:TI):Prop :=
  ∀ (pins:List (JI × Obj)) (s:JO) (σ:St) (H:Hp) (R:It->Hp->Prop),Inv X pins σ H s->a σ H R ->
    wpAny (model X.prog X.w) X.A (eval iter X.env) (λv b=>wpAny (model X.prog X.w) X.A (pyIter v) (PIE X pins σ tg R) X.xe b) X.xe s
theorem zab {M:Model}{A:YO}{E:Jo->JO->Prop}{s:JO}{tg:Expr}{it:JI}{u:Jo}{o:Obj}{n:String}{vs:Array Jo}{Q:Unit->JO->Prop}(b:s.heap.get? it=some o) (c:o.cls=.type n) (hd:o.data=.fields vs)
    (hn:["enumerate","zip","dict_itemiterator","dict_reverseitemiterator","odict_iterator","itertools.zip_longest","itertools.pairwise"].contains n=false) (a:Q () s):wpAny M A (letOwnedTupleGo tg (.ref it) u) Q E s:=by
  unfold letOwnedTupleGo
  cases tg<;>first
    | exact J9 a
    | (cases u<;>first
        | exact J9 a
        | (refine J0 (wpAny_load b ?_)
           rw[c,hd];show wpAny M A (if (["enumerate","zip","dict_itemiterator","dict_reverseitemiterator","odict_iterator","itertools.zip_longest","itertools.pairwise"].contains n && vs[0]? == some (rawInt _))=true then _ else _) Q E s;rw[Jc (by intro h;rw[hn,Bool.false_and]at h;cases h)]
           exact J9 a))
def Itl (K:Jl)(a:JI):It :=
  ⟨λi H=>∃ b x,SqL K H a b/\b[i]?=some x,λi H x c=>c=H/\∀ b,SqL K H a b->b[i]?=some x,λi H=>∃ b,SqL K H a b/\b.length<=i⟩
def Itt (K:Jl)(a:JI):It :=
  ⟨λi H=>∃ b x,SqT K H a b/\b[i]?=some x,λi H x c=>c=H/\∀ b,SqT K H a b->b[i]?=some x,λi H=>∃ b,SqT K H a b/\b.length<=i⟩
def Itr (lo:Int)(n:Nat):It:=⟨λi _=>i<n,λi H x a=>a=H/\x=.int (lo+i),λi _=>n<=i⟩
theorem gC {P:Yo}{w:YI}{K:Jl}{tg:Expr}(a it:JI):Turn P w K tg (Itl K a) [it] it (λi h=>h.IsListIter it a i) where
  mem:=by simp
  obj:=λi h st b f=>by
    have e:b=it:=by simpa using f
    subst e;obtain⟨o,e,c,d⟩:=st;exact⟨o,e,λv z=>by rw[d]at z;cases z⟩
  keep:=λi h m st k=>st.at λo e=>k it (by simp) o e
  item:=by
    intro X y r A L i pins s σ H E I l st t;subst y r A;obtain⟨M,x,j,q⟩:=t;obtain⟨J,n,p,Q⟩:=I.list j;obtain⟨u,S,O⟩:=n.get q;obtain⟨G,F,T,D,C,B⟩:=l it (by simp);refine wpAny_pyNext_list_item st p.isList (x:=u) (by simpa using S) λm g N=>?_;have V:Inv X pins σ H { s with heap:=m }:=I.turned (t':=s.toks) (λb o f e=>(N.2 b f).trans e) G F D C B;obtain⟨o,e,c,d⟩:=id g;exact⟨u,rfl,zab (s:={ s with heap:=m }) e c d (by decide) ⟨x,H,V,O,⟨rfl,λW R=>by rw[I.list_inj R j];exact q⟩,g,λb f=>(l b f).1⟩⟩
  done:=by
    intro X y r A L i pins s σ H E I l st t;subst y r A;obtain⟨M,j,q⟩:=t;obtain⟨J,n,p,Q⟩:=I.list j;obtain⟨G,F,T,D,C,B⟩:=l it (by simp);have Y:=n.length;exact wpAny_pyNext_list_end (I.ok.hd L) st p.isList (by simp;simp_all) λm U=>⟨rfl,I.turned (t':=s.toks) (λb o f e=>U b o f e) G F D C B⟩
  self:=λ_ _ _ _ _ st h=>wpAny_pyIter_listiter st h
theorem lW {P:Yo}{w:YI}{K:Jl}{tg:Expr}(a it:JI):Turn P w K tg (Itt K a) [it] it (λi h=>h.IsTupleIter it a i) where
  mem:=by simp
  obj:=λi h st b f=>by
    have e:b=it:=by simpa using f
    subst e;obtain⟨o,e,c,d⟩:=st;exact⟨o,e,λv z=>by rw[d]at z;cases z⟩
  keep:=λi h n st k=>st.at λo e=>k it (by simp) o e
  item:=by
    intro X A t B L i pins s σ H E I m st y;subst A t B;obtain⟨M,x,l,r⟩:=y;obtain⟨g,q,p,Q⟩:=I.tuple l;obtain⟨u,S,O⟩:=q.get r;obtain⟨J,G,T,F,D,C⟩:=m it (by simp);refine wpAny_pyNext_tuple_item st (show s.heap.IsTuple a g.toArray from p) (x:=u) (by simpa using S) λn j N=>?_;have V:Inv X pins σ H { s with heap:=n }:=I.turned (t':=s.toks) (λb o f e=>(N.2 b f).trans e) J G F D C;obtain⟨o,e,c,d⟩:=id j;exact⟨u,rfl,zab (s:={ s with heap:=n }) e c d (by decide) ⟨x,H,V,O,⟨rfl,λW R=>by rw[I.tuple_inj R l];exact r⟩,j,λb f=>(m b f).1⟩⟩
  done:=by
    intro X A t B L i pins s σ H E I m st y;subst A t B;obtain⟨M,l,r⟩:=y;obtain⟨g,q,p,Q⟩:=I.tuple l;obtain⟨J,G,T,F,D,C⟩:=m it (by simp);have Y:=q.length;exact wpAny_pyNext_tuple_end (I.ok.hd L) st (show s.heap.IsTuple a g.toArray from p) (by simp;simp_all) λn U=>⟨rfl,I.turned (t':=s.toks) (λb o f e=>U b o f e) J G F D C⟩
  self:=λ_ _ _ _ _ st h=>wpAny_pyIter_tupleiter st h
theorem lX {P:Yo}{w:YI}{K:Jl}{tg:Expr}(it:JI)(lo:Int)(n:Nat):Turn P w K tg (Itr lo n) [it] it (λi h=>IsRangeIter h it (lo+(i:Nat)*1) ((n:Int)-(i:Nat)) 1) where
  mem:=by simp
  obj:=λi h st b a=>by
    have e:b=it:=by simpa using a
    subst e
    exact⟨_,st,λv z=>by
      have B:Data.fields _=Data.cell v:=z
      cases B⟩
  keep:=λi h f st k=>k it (by simp) _ st
  item:=by
    intro X m g p l i pins s σ H E I d st j;subst m g p;obtain⟨y,x,F,u,r,q⟩:=d it (by simp);have W:=Walks.range (prog:=X.prog) (w:=X.w) (I.ok.hd l) it lo 1 n;refine W.item i s _ _ j st λv f A D c C=>?_;obtain⟨t,rfl⟩:=D;have J:Inv X pins σ H { s with heap:=f,toks:=A }:=I.turned (λb o a e=>C b o (by simpa using a) e) y x u r q;refine⟨_,rfl,zab (s:={ s with heap:=f,toks:=A }) (n:="range_iterator") c rfl rfl (by decide) ⟨.int (lo+i),H,J,⟨t,?_⟩,⟨rfl,rfl⟩,c,λb a=>(d b a).1⟩⟩;rw[Int.mul_one]
  done:=by
    intro X m g p l i pins s σ H E I d st j;subst m g p;obtain⟨y,x,F,u,r,q⟩:=d it (by simp);exact wpAny_pyNext_range_end (I.ok.hd l) st (by have:n<=i:=j;lia) λf G=>⟨rfl,I.turned (t':=s.toks) (λb o a e=>G b o a e) y x u r q⟩
  self:=λ_ _ _ _ _ st h=>wpAny_pyIter_rangeiter st h
section
variable {X:Cx}{tg:Expr}
def zbZ (K:Jl)(d:TE):TI:=λσ H R=>d σ H λx b=>∃ a,x=.ref a/\(∃ c,SqL K b a c)/\R (Itl K a) b
def zc2 (K:Jl)(d:TE):TI:=λσ H R=>d σ H λx b=>∃ a,x=.ref a/\(∃ c,SqT K b a c)/\R (Itt K a) b
theorem tR {l:Expr}{f:TE}(k:PE X l f):PI X tg l (zbZ X.K f):=by
  intro pins s σ H R I h;refine thn (k pins s σ H _ I h) λv c ⟨x,n,d,g,i⟩=>?_;obtain⟨a,e,⟨t,j⟩,q⟩:=i;subst e;cases g;obtain⟨r,u,p,w⟩:=d.list j;refine wpAny_pyIter_list p.isList ?_;refine⟨c.heap.objs.size,[c.heap.objs.size],_,_,n,rfl,d.kept (t':=c.toks) λb o e=>J7 _ e,gC a _,⟨_,Jt _ rfl,rfl,rfl⟩,λb m=>?_,q⟩;have e:b=c.heap.objs.size:=by simpa using m
  subst e;exact d.fpOk (Je _) (d.hok.fresh (Je _))
theorem xV {l:Expr}{g:TE}(m:PE X l g):PI X tg l (zc2 X.K g):=by
  intro pins s σ H R I h;refine thn (m pins s σ H _ I h) λv c ⟨x,r,d,i,j⟩=>?_;obtain⟨a,e,⟨t,k⟩,q⟩:=j;subst e;cases i;obtain⟨f,u,p,w⟩:=d.tuple k;refine wpAny_pyIter_tuple (show c.heap.IsTuple a f.toArray from p) ?_;refine⟨c.heap.objs.size,[c.heap.objs.size],_,_,r,rfl,d.kept (t':=c.toks) λb o e=>J7 _ e,lW a _,⟨_,Jt _ rfl,rfl,rfl⟩,λb n=>?_,q⟩;have e:b=c.heap.objs.size:=by simpa using n
  subst e;exact d.fpOk (Je _) (d.hok.fresh (Je _))
theorem bN {pins:List (JI × Obj)}{σ:St}{H:Hp}{s:JO}{R:It->Hp->Prop}{E:Jo->JO->Prop}{lo hi:Int}{t u v:Tok}{tk:Nat}(I:Inv X pins σ H s)(h:-(2 ^ 62)<=lo)(g:lo<2 ^ 62)(f:-(2 ^ 62)<=hi)(d:hi<2 ^ 62)(q:R (Itr lo (hi-lo).toNat) H):wpAny (model X.prog X.w) X.A (pyIter (.ref s.heap.objs.size)) (PIE X pins σ tg R) E { s with heap:=s.heap.push { cls:=.type "range",data:=.fields #[.int lo t,.int hi u,.int 1 v] },toks:=tk }:=by
  refine wpAny_pyIter_range (IsRange.new ..) (small_one h g f d) ?_;have a:Inv X pins σ H { s with heap:=s.heap.push { cls:=.type "range",data:=.fields #[.int lo t,.int hi u,.int 1 v] },toks:=tk }:=I.kept λb o e=>J7 _ e
  refine⟨(s.heap.push { cls:=.type "range",data:=.fields #[.int lo t,.int hi u,.int 1 v] }).objs.size,[(s.heap.push { cls:=.type "range",data:=.fields #[.int lo t,.int hi u,.int 1 v] }).objs.size],_,_,H,rfl,
    a.kept (t':=tk) λb o e=>J7 _ e,lX _ lo (hi-lo).toNat,?_,λb c=>?_,q⟩
  · have i:lo+((0:Nat):Int)*1=lo:=by simp
    have e2:(((hi-lo).toNat:Nat):Int)-((0:Nat):Int)=Builtin.Range.rangeSize lo hi 1:=by rw[rangeSize_one];split<;>grind
    show IsRangeIter _ _ (lo+((0:Nat):Int)*1) ((((hi-lo).toNat:Nat):Int)-((0:Nat):Int)) 1;rw[i,e2];exact Jt _ rfl
  · have e:b=(s.heap.push { cls:=.type "range",data:=.fields #[.int lo t,.int hi u,.int 1 v] }).objs.size:=by simpa using c
    subst e;exact a.fpOk (Je _) (a.hok.fresh (Je _))
def zdO (b:TA):TI:=λσ H R=>b σ H λa c=>∃ j:Int,a=[.int j]/\-(2 ^ 62)<=j/\j<2 ^ 62/\R (Itr 0 j.toNat) c
theorem wB {a:Expr}{c:TA}{p pos:Pos}(k:Gl X "range") (hm:X.mg "range" = none) (ha:PA X [a] c) (i:starEach [a] X.env=[(false,eval a X.env)]:=by rfl):PI X tg (.Call (.Name "range" p) [a] [] pos) (zdO c):=by
  intro pins s σ H R I h;refine Call_ (xW I k hm boot_range (Yt (thn (ha pos pins s σ H _ I h) λn o ⟨m,u,l,f,b⟩=>?_) i rfl));obtain⟨j,e,b,g,q⟩:=b;subst e
  cases f with
  | cons r d =>
    cases d;obtain⟨t,rfl⟩:=r;exact call_range_1 (bN l (by simp_all) (by simp_all) b g (by simpa using q))
def zd4 (e:TI)(g:TG)(f:TS):TS:=λD σ H=>e σ H λJ j=>∃ W:Nat->Nat->St->Hp->Prop,(∃ m,W 0 m σ j)/\∀ i m σ H,W i m σ H ->
  (J.stop i H/\D.nx σ H)\/(J.go i H/\∃ N:St->Hp->Prop,(∀ b a,N b a->∃ d,d<m/\W (i+1) d b a)/\∀ x a,J.yld i H x a->g x σ a λc h=>f { D with nx:=N,ct:=N,bk:=D.nx } c h)
def wK (fp:List JI)(h:YP):List (JI × Obj):=fp.filterMap λb=>(h.get? b).map λo=>(b,o)
theorem yb {fp:List JI}{h:YP}{b:JI}{o:Obj}(hb:b∈fp)(e:h.get? b=some o):(b,o)∈wK fp h:=List.mem_filterMap.mpr ⟨b,hb,by rw[e];rfl⟩
theorem g9 {fp:List JI}{h:YP}{p:JI × Obj}(a:p∈wK fp h):p.1∈fp/\h.get? p.1=some p.2:=by
  obtain⟨b,c,e⟩:=List.mem_filterMap.mp a
  cases q:h.get? b with
  | none=>rw[q]at e;cases e
  | some o =>
    rw[q]at e;have d:(b,o)=p:=Jq e;subst d;exact⟨c,q⟩
theorem Inv.pinned {pins:List (JI × Obj)}{σ:St}{H:Hp}{s:JO}{fp:List JI}(I:Inv X pins σ H s)(h:∀ b∈fp,FpOk X pins H b)(g:∀ b∈fp,∃ o,s.heap.get? b=some o/\∀ v,o.data≠.cell v):Inv X (pins++wK fp s.heap) σ H s :=
  I.pins_of λp f=>(Js.mp f).elim (λz=>I.pin p (JA _ z)) λz=>by
    obtain⟨a,e⟩:=g9 z;obtain⟨k,j,i,_⟩:=h p.1 a;obtain⟨o,c,d⟩:=g p.1 a;rw[e]at c;cases c;exact⟨e,k,j,i,d⟩
theorem Inv.unpinned {pins pl:List (JI × Obj)}{σ:St}{H:Hp}{s:JO}(I:Inv X (pins++pl) σ H s):Inv X pins σ H s:=I.pins_of λp a=>I.pin p (JA _ (YE _ a))
theorem x4 {iter:Expr}{body:List Stmt}{P:TI}{g:TG}{R:TS}{pos:Pos}(z:PassesOwn (model X.prog X.w) X.A X.env X.xe)(Y:X.calm=true)(hi:PI X tg iter P)(hg:PG X tg g)(hb:PSs X body R)(hs:∀ x,foldedSetIterable iter X.env x=pure x:=by intro _;rfl):PS X (.For tg iter body [] pos) (zd4 P g R):=by
  intro pins s σ H D I h;refine wpAny_For (thn (hi pins s σ H _ I h) λv s1 h1=>thn h1 λab s2 h2=>?_) hs;obtain⟨it,A,Q,J,H2,e,I2,T,L,Z,W,⟨m0,w0⟩,turn⟩:=h2;subst e;have p:∀ {q:Hp},(∀ b∈A,q b=none)->∀ b∈A,FpOk X pins q b:=λhn b hb=>⟨hn b hb,(Z b hb).2⟩;refine codeAny_forLoop_any (λn V=>∃ i l q,Inv X pins l q V/\Q i V.heap/\(∀ b∈A,q b=none)/\W i n l q) ?_ m0 ⟨0,σ,H2,I2,L,λb hb=>(Z b hb).1,w0⟩;rintro n U ⟨i,k,E,I3,B,C,w3⟩;rcases turn i n k E w3 with ⟨stop,qn⟩|⟨go,N,hN,step⟩
  · refine ZV z (thn (T.done X rfl rfl rfl Y i pins U k E X.xe I3 (p C) B stop) λr s4 ⟨G,I4⟩=>?_)
    subst G;exact wpAny_execs_nil ⟨k,E,I4,qn⟩
  · refine ZV z (thn (T.item X rfl rfl rfl Y i pins U k E X.xe I3 (p C) B go) λr s4 ⟨u,G,h4⟩=>?_)
    subst G;refine ZV z (thn h4 λ_ S ⟨x,H5,I5,r5,y5,w,M⟩=>?_);have O:=I5.pinned (p M) (T.obj _ _ w);refine ZV z (thn (hg _ S k H5 x u _ O r5 (step x H5 y5)) λ_ s6 ⟨K,H6,I6,q6⟩=>?_);refine ZV z (thn (hb _ s6 K H6 _ I6 q6) λf F t=>?_)
    have again:∀ {a:St}{j:Hp},Inv X (pins++wK A S.heap) a j F->N a j->∃ m,m<n/\∃ i l q,Inv X pins l q F/\Q i F.heap/\(∀ b∈A,q b=none)/\W i m l q:=λ{a j} c y=>by
      obtain⟨m',hm,w7⟩:=hN a j y;refine⟨m',hm,i+1,a,j,c.unpinned,T.keep _ _ _ w λb hb o e=>(c.pin (b,o) (JA _ (JA _ (yb hb e)))).1,λb hb=>?_,w7⟩;obtain⟨o,e,d⟩:=T.obj _ _ w b hb;exact(c.pin (b,o) (JA _ (JA _ (yb hb e)))).2.1
    cases f with
    | next=>obtain⟨a,j,c,y⟩:=t;exact again c y
    | cont=>obtain⟨a,j,c,y⟩:=t;exact again c y
    | brk=>obtain⟨a,j,c,t⟩:=t;exact⟨a,j,c.unpinned,t⟩
    | ret v=>obtain⟨x7,a,j,c,r7,t⟩:=t;exact⟨x7,a,j,c.unpinned,r7,t⟩
end
theorem tX {K:Jl}{a:JI}{xs:List V}{g:TG}{k:TS}{D:Ends}{σ:St}{H:Hp}(b:Nat->St->Hp->Prop)(t:b 0 σ H)(r:∀ i σ H,i<=xs.length->b i σ H->SqT K H a xs)(o:∀ i x σ H,xs[i]?=some x->b i σ H->g x σ H λd j=>k { D with nx:=b (i+1),ct:=b (i+1),bk:=D.nx } d j)(s:∀ σ H,b xs.length σ H->D.nx σ H) :
    ∃ W:Nat->Nat->St->Hp->Prop,(∃ m,W 0 m σ H)/\∀ i m σ H,W i m σ H ->
      ((Itt K a).stop i H/\D.nx σ H)\/((Itt K a).go i H/\∃ N:St->Hp->Prop,(∀ f c,N f c->∃ l,l<m/\W (i+1) l f c)/\∀ x c,(Itt K a).yld i H x c->g x σ c λd j=>k { D with nx:=N,ct:=N,bk:=D.nx } d j):=by
  refine⟨λi m σ H=>m=xs.length-i/\i<=xs.length/\b i σ H,⟨xs.length,by simp,JN _,t⟩,?_⟩;rintro i m σ H ⟨rfl,hi,p⟩;have q:=r i σ H hi p;by_cases h:i<xs.length
  · refine .inr ⟨⟨xs,xs[i],q,by simp[h]⟩,b (i+1),λf c n=>⟨xs.length-(i+1),by grind,rfl,h,n⟩,λx c y=>?_⟩
    obtain⟨e,y⟩:=y;subst e;exact o i x σ _ (y xs q) p
  · have e:i=xs.length:=by grind
    subst e;exact .inl ⟨⟨xs,q,Je _⟩,s σ H p⟩
theorem vD {lo:Int}{n:Nat}{g:TG}{j:TS}{D:Ends}{σ:St}{H:Hp}(a:Nat->St->Hp->Prop)(r:a 0 σ H)(o:∀ i σ H,i<n->a i σ H->g (.int (lo+i)) σ H λc h=>j { D with nx:=a (i+1),ct:=a (i+1),bk:=D.nx } c h)(q:∀ σ H,a n σ H->D.nx σ H) :
    ∃ W:Nat->Nat->St->Hp->Prop,(∃ m,W 0 m σ H)/\∀ i m σ H,W i m σ H ->
      ((Itr lo n).stop i H/\D.nx σ H)\/((Itr lo n).go i H/\∃ N:St->Hp->Prop,(∀ d b,N d b->∃ k,k<m/\W (i+1) k d b)/\∀ x b,(Itr lo n).yld i H x b->g x σ b λc h=>j { D with nx:=N,ct:=N,bk:=D.nx } c h):=by
  refine⟨λi m σ H=>m=n-i/\i<=n/\a i σ H,⟨n,by simp,JN _,r⟩,?_⟩;rintro i m σ H ⟨rfl,hi,p⟩;by_cases f:i<n
  · refine .inr ⟨f,a (i+1),λd b l=>⟨n-(i+1),by grind,rfl,f,l⟩,λx b y=>?_⟩
    obtain⟨e,y⟩:=y;subst e y;exact o i σ _ f p
  · have e:i=n:=by lia
    subst e;exact .inl ⟨Je _,q σ H p⟩
abbrev R2:=V->V->Hp->VK->Prop
def OpR (X:Cx)(f:Jo->Jo->Sem Jo)(r:R2):Prop :=
  ∀ (pins:List (JI × Obj)) (s:JO) (σ:St) (H:Hp) (x y:V) (v u:Jo) (Q:VK),Inv X pins σ H s->RelV x v->RelV y u->r x y H Q ->
    wpAny (model X.prog X.w) X.A (f v u) (EP X pins σ Q) X.xe s
def CallR (X:Cx)(f:Jo)(r:List V->Hp->VK->Prop):Prop :=
  ∀ (pins:List (JI × Obj)) (s:JO) (σ:St) (H:Hp) (a:List V) (b:List Jo) (Q:VK),Inv X pins σ H s->Vals a b->r a H Q ->
    wpAny (model X.prog X.w) X.A (call f b) (EP X pins σ Q) X.xe s
def TruR (X:Cx)(r:V->Hp->(Bool->Hp->Prop)->Prop):Prop :=
  ∀ (pins:List (JI × Obj)) (s:JO) (σ:St) (H:Hp) (x:V) (v:Jo) (Q:Bool->Hp->Prop),Inv X pins σ H s->RelV x v->r x H Q ->
    wpAny (model X.prog X.w) X.A (truthy v) (TP X pins σ Q) X.xe s
def tOp (r:R2)(b a:TE):TE:=λσ H Q=>b σ H λx d=>a σ d λy c=>r x y c Q
def rI (C:Int->Int->Prop)(g:Int->Int->V):R2:=λx y H Q=>∃ i j,x=.int i/\y=.int j/\C i j/\Q (g i j) H
def rI0 (g:Int->Int->V):R2:=λx y H Q=>∃ i j,x=.int i/\y=.int j/\Q (g i j) H
section
variable {X:Cx}{a b:Expr}{ta tb:TE}{pos:Pos}
theorem zc9 (ha:PE X a ta)(hb:PE X b tb){pins:List (JI × Obj)}{s:JO}{σ:St}{H:Hp}{R:V->V->Hp->Prop}(I:Inv X pins σ H s)(h:ta σ H λx g=>tb σ g λy c=>R x y c){Q:Jo->JO->Prop}{f:Jo->Jo->Sem Jo}(n:∀ v u s2 x y c,Inv X pins σ c s2->RelV x v->RelV y u->R x y c->wpAny (model X.prog X.w) X.A (f v u) Q X.xe s2) :
    wpAny (model X.prog X.w) X.A (eval a X.env) (λv e=>wpAny (model X.prog X.w) X.A (eval b X.env) (λu d=>wpAny (model X.prog X.w) X.A (f v u) Q X.xe d) X.xe e) X.xe s:=by
  refine thn (ha pins s σ H _ I h) λv i ⟨x,g,p,k,m⟩=>?_;refine thn (hb pins i σ g _ p m) λu s2 ⟨y,c,o,j,l⟩=>?_;exact n v u s2 x y c o k j l
theorem zS {op:Operator}{r:R2}(f:OpR X (binaryOp op) r)(ha:PE X a ta)(hb:PE X b tb):PE X (.BinOp a op b pos) (tOp r ta tb):=by
  intro pins s σ H Q I h;exact wpAny_BinOp (zc9 ha hb I h λv u c x y i g e d q=>f pins c σ i x y v u Q g e d q)
theorem opI {f:Jo->Jo->Sem Jo}{C:Int->Int->Prop}{g:Int->Int->Int}(rule:∀ (i j:Int) (t u:Tok) (s:JO) (Q:Jo->JO->Prop) (E:Jo->JO->Prop),C i j->Q (.int (g i j) s.toks) { s with toks:=s.toks+1 }->wpAny (model X.prog X.w) X.A (f (.int i t) (.int j u)) Q E s) :
    OpR X f (rI C λi j=>.int (g i j)):=by
  intro pins s σ H x y v u Q I c b h;obtain⟨i,j,rfl,rfl,d,q⟩:=h;obtain⟨t,rfl⟩:=c;obtain⟨a,rfl⟩:=b;exact rule i j t a s _ _ d ⟨.int (g i j),H,I.tok _,⟨_,rfl⟩,q⟩
theorem zdD {f:Jo->Jo->Sem Jo}{g:Int->Int->Int}(rule:∀ (i j:Int) (t u:Tok) (s:JO) (Q:Jo->JO->Prop) (E:Jo->JO->Prop),Q (.int (g i j) s.toks) { s with toks:=s.toks+1 }->wpAny (model X.prog X.w) X.A (f (.int i t) (.int j u)) Q E s) :
    OpR X f (rI0 λi j=>.int (g i j)):=by
  intro pins s σ H x y v u Q I c b h;obtain⟨i,j,rfl,rfl,q⟩:=h;obtain⟨t,rfl⟩:=c;obtain⟨a,rfl⟩:=b;exact rule i j t a s _ _ ⟨.int (g i j),H,I.tok _,⟨_,rfl⟩,q⟩
theorem za9 {f:Jo->Jo->Sem Jo}{g:Int->Int->Bool}(rule:∀ (i j:Int) (t u:Tok) (s:JO) (Q:Jo->JO->Prop) (E:Jo->JO->Prop),Q (.bool (g i j)) s->wpAny (model X.prog X.w) X.A (f (.int i t) (.int j u)) Q E s) :
    OpR X f (rI0 λi j=>.bl (g i j)):=by
  intro pins s σ H x y v u Q I c b h;obtain⟨i,j,rfl,rfl,q⟩:=h;obtain⟨t,rfl⟩:=c;obtain⟨a,rfl⟩:=b;exact rule i j t a s _ _ ⟨.bl (g i j),H,I,rfl,q⟩
def CDiv (i j:Int):Prop:=0<j/\j<1073741824
def CPow (i j:Int):Prop:=0<=j/\j<=1000000/\i.natAbs<2 ^ 64
def CMul (i j:Int):Prop:=(-(2 ^ 64)<i/\i<2 ^ 64)\/(-(2 ^ 64)<j/\j<2 ^ 64)
theorem CMul.ok {i j:Int}(h:CMul i j):IntMulOk i j:=by
  rcases h with ⟨b,a⟩|⟨b,a⟩
  · exact .of_left (intBits_le_64 b a)
  · exact .of_right (intBits_le_64 b a)
theorem yO:OpR X (binaryOp .Add) (rI0 λi j=>.int (i+j)):=zdD λ_ _ _ _ _ _ _ q=>add_int q
theorem rJ:OpR X (binaryOp .Sub) (rI0 λi j=>.int (i-j)):=zdD λ_ _ _ _ _ _ _ q=>sub_int q
theorem vV:OpR X (binaryOp .Mult) (rI CMul λi j=>.int (i*j)):=opI λ_ _ _ _ _ _ _ a q=>mul_int q a.ok
theorem wN:OpR X (binaryOp .FloorDiv) (rI CDiv λi j=>.int (i / j)):=opI λi j _ _ _ _ _ a q=>by
  have c:(0:Int)<j:=a.1;have b:j<1073741824:=a.2;exact floordiv_int (by grind) (by rw[Int.fdiv_eq_ediv_of_nonneg i (by lia)];exact q) (.inl (PyProof.noPylong_small (by omega)))
theorem xD:OpR X (binaryOp .Mod) (rI (λ_ j=>0<j) λi j=>.int (i%j)):=opI λi j _ _ _ _ _ a q=>by
  have b:(0:Int)<j:=a;exact mod_int' (by grind) (by rw[Int.fmod_eq_emod_of_nonneg i (by grind)];exact q)
theorem zcA:OpR X (binaryOp .Pow) (rI CPow λi j=>.int (i ^ j.toNat)):=opI λ_ _ _ _ _ _ _ a q=>pow_int_small a.1 a.2.1 a.2.2 q
theorem zbB:OpR X (inplaceOp .Mult) (rI CMul λi j=>.int (i*j)):=opI λ_ _ _ _ _ _ _ a q=>imul_int q a.ok
end
def zds:V->V->Bool
  | .non,.non=>true|.non,.int _=>true|.int _,.non=>true|.non,.bl _=>true|.bl _,.non=>true|.non,.str _=>true|.str _,.non=>true
  | .int _,.int _=>true|.bl _,.bl _=>true|.str _,.str _=>true|.byt _,.byt _=>true
  | .int _,.str _=>true|.str _,.int _=>true|.bl _,.str _=>true|.str _,.bl _=>true
  | _,_=>false
def rEq:R2:=λx y H Q=>zds x y=true/\Q (.bl (decide (x=y))) H
def rNe:R2:=λx y H Q=>zds x y=true/\Q (.bl (!decide (x=y))) H
theorem iU {i j:Int}:decide (V.int i=V.int j)=(i == j):=by
  rw[Yy];simp
theorem zam {i j:Bool}:decide (V.bl i=V.bl j)=(i == j):=by
  rw[Yy];simp
theorem iT {i j:Str}:decide (V.str i=V.str j)=(i == j):=by
  rw[Yy];simp
theorem iV {i j:Array UInt8}:decide (V.byt i=V.byt j)=(i.toList == j.toList):=by
  rw[Yy];cases i;cases j;simp
section
variable {X:Cx}{a b c:Expr}{ta tb tc:TE}{pos:Pos}
theorem yA {pins:List (JI × Obj)}{σ:St}{H:Hp}{s:JO}{Q:VK}{k a:Bool}(I:Inv X pins σ H s)(q:Q (.bl k) H)(e:k=a):EP X pins σ Q (.bool a) s:=by
  subst e;exact⟨.bl k,H,I,rfl,q⟩
theorem mF:OpR X (compareOp .Eq) rEq:=by
  intro pins s σ H x y v u Q I d a h;obtain⟨c,q⟩:=h
  cases x with
  | non =>
    cases d
    cases y with
    | non=>cases a;exact PySem.EqNone.eq_none_none (yA I q (by simp))
    | bl j=>cases a;exact PySem.EqNone.eq_none_bool (yA I q (by simp))
    | int j=>obtain⟨b,rfl⟩:=a;exact PySem.EqNone.eq_none_int (yA I q (by simp))
    | str j=>obtain⟨b,rfl⟩:=a;exact PySem.EqNone.eq_none_str (yA I q (by simp))
    | _=>exact absurd (show false=true from c) Jp
  | bl i =>
    cases d
    cases y with
    | non=>cases a;exact PySem.EqNone.eq_bool_none (yA I q (by simp))
    | bl j=>cases a;exact eq_bool (yA I q zam)
    | str j=>obtain⟨b,rfl⟩:=a;exact PySem.EqMixed.eq_bool_str (yA I q (by simp))
    | _=>exact absurd (show false=true from c) Jp
  | int i =>
    obtain⟨t,rfl⟩:=d
    cases y with
    | non=>cases a;exact PySem.EqNone.eq_int_none (yA I q (by simp))
    | int j=>obtain⟨b,rfl⟩:=a;exact eq_int (yA I q iU)
    | str j=>obtain⟨b,rfl⟩:=a;exact PySem.EqMixed.eq_int_str (yA I q (by simp))
    | _=>exact absurd (show false=true from c) Jp
  | str i =>
    obtain⟨t,rfl⟩:=d
    cases y with
    | non=>cases a;exact PySem.EqNone.eq_str_none (yA I q (by simp))
    | bl j=>cases a;exact PySem.EqMixed.eq_str_bool (yA I q (by simp))
    | int j=>obtain⟨b,rfl⟩:=a;exact PySem.EqMixed.eq_str_int (yA I q (by simp))
    | str j=>obtain⟨b,rfl⟩:=a;exact eq_str (yA I q iT)
    | _=>exact absurd (show false=true from c) Jp
  | byt i =>
    obtain⟨t,rfl⟩:=d
    cases y with
    | byt j=>obtain⟨b,rfl⟩:=a;exact PySem.W.eq_bytes (yA I q iV)
    | _=>exact absurd (show false=true from c) Jp
  | _=>cases y<;>exact absurd (show false=true from c) Jp
theorem bn:OpR X (compareOp .NotEq) rNe:=by
  intro pins s σ H x y v u Q I d a h;obtain⟨c,q⟩:=h
  cases x with
  | non =>
    cases d
    cases y with
    | non=>cases a;exact PySem.EqNone.ne_none_none (yA I q (by simp))
    | bl j=>cases a;exact PySem.EqNone.ne_none_bool (yA I q (by simp))
    | int j=>obtain⟨b,rfl⟩:=a;exact PySem.EqNone.ne_none_int (yA I q (by simp))
    | str j=>obtain⟨b,rfl⟩:=a;exact PySem.EqNone.ne_none_str (yA I q (by simp))
    | _=>exact absurd (show false=true from c) Jp
  | bl i =>
    cases d
    cases y with
    | non=>cases a;exact PySem.EqNone.ne_bool_none (yA I q (by simp))
    | bl j=>cases a;exact ne_bool (yA I q (JP not zam))
    | str j=>obtain⟨b,rfl⟩:=a;exact PySem.EqMixed.ne_bool_str (yA I q (by simp))
    | _=>exact absurd (show false=true from c) Jp
  | int i =>
    obtain⟨t,rfl⟩:=d
    cases y with
    | non=>cases a;exact PySem.EqNone.ne_int_none (yA I q (by simp))
    | int j=>obtain⟨b,rfl⟩:=a;exact ne_int (yA I q (JP not iU))
    | str j=>obtain⟨b,rfl⟩:=a;exact PySem.EqMixed.ne_int_str (yA I q (by simp))
    | _=>exact absurd (show false=true from c) Jp
  | str i =>
    obtain⟨t,rfl⟩:=d
    cases y with
    | non=>cases a;exact PySem.EqNone.ne_str_none (yA I q (by simp))
    | bl j=>cases a;exact PySem.EqMixed.ne_str_bool (yA I q (by simp))
    | int j=>obtain⟨b,rfl⟩:=a;exact PySem.EqMixed.ne_str_int (yA I q (by simp))
    | str j=>obtain⟨b,rfl⟩:=a;exact ne_str (yA I q (JP not iT))
    | _=>exact absurd (show false=true from c) Jp
  | byt i =>
    obtain⟨t,rfl⟩:=d
    cases y with
    | byt j=>obtain⟨b,rfl⟩:=a;exact PySem.W.ne_bytes (yA I q (JP not iV))
    | _=>exact absurd (show false=true from c) Jp
  | _=>cases y<;>exact absurd (show false=true from c) Jp
theorem mE:OpR X (compareOp .Lt) (rI0 λi j=>.bl (decide (i<j))):=za9 λ_ _ _ _ _ _ _ q=>lt_int q
theorem zdB:OpR X (compareOp .LtE) (rI0 λi j=>.bl (decide (i<=j))):=za9 λ_ _ _ _ _ _ _ q=>le_int q
theorem zbX:OpR X (compareOp .Gt) (rI0 λi j=>.bl (decide (j<i))):=za9 λ_ _ _ _ _ _ _ q=>gt_int q
theorem zdC:OpR X (compareOp .GtE) (rI0 λi j=>.bl (decide (j<=i))):=za9 λ_ _ _ _ _ _ _ q=>ge_int q
theorem zcB:OpR X (compareOp .Is) (λx y H Q=>y=.non/\Q (.bl (decide (x=.non))) H):=by
  intro pins s σ H x y v u Q I a b h;obtain⟨rfl,q⟩:=h;cases b;refine is_none_gen (yA I q ?_)
  cases x<;>first
    | (cases a;rfl)
    | (obtain⟨t,rfl⟩:=a;rfl)
theorem yu (b:Expr){op:CmpOp}(h:op≠.In:=by decide)(a:op≠.NotIn:=by decide):behindInMarks op b=false:=by
  have c:(op == CmpOp.In)=false:=by cases op<;>first|rfl|exact absurd rfl h
  have e2:(op == CmpOp.NotIn)=false:=by cases op<;>first|rfl|exact absurd rfl a
  cases b<;>simp[behindInMarks,c,e2]
theorem tT {op:CmpOp}{r:R2}(f:OpR X (compareOp op) r)(ha:PE X a ta)(hb:PE X b tb)(hm:behindInMarks op b=false):PE X (.Compare a [op] [b] pos) (tOp r ta tb):=by
  intro pins s σ H Q I h;exact wpAny_Compare1 (zc9 ha hb I h λv u c x y i g e d q=>f pins c σ i x y v u Q g e d q) hm
def zdg (t:TE):TT:=λσ H Q=>t σ H λx a=>∃ k,x=.bl k/\Q k a
theorem yN {op:CmpOp}{r:R2}(o:OpR X (compareOp op) r)(ha:PE X a ta)(hb:PE X b tb)(hm:behindInMarks op b=false):PT X (.Compare a [op] [b] pos) (zdg (tOp r ta tb)):=by
  intro pins s σ H Q I h
  refine wpAny_isTrue_Compare1 (thn (ha pins s σ H _ I h) λv f ⟨x,B,t,j,n⟩=>thn (hb pins f σ B _ t n) λu d ⟨y,A,q,i,m⟩ =>
    thn (o pins d σ A x y v u _ q j i m) λc C ⟨z,w,p,g,k,e,l⟩=>?_) hm
  subst e;cases g;exact YM ⟨w,p,l⟩
def zb9 (r c:R2)(ta tb tc:TE):TE:=λσ H Q=>ta σ H λx f=>tb σ f λy e=>r x y e λz a=>∃ k,z=.bl k /\
  (if k=true then tc σ a λb d=>c y b d Q else Q (.bl false) a)
theorem bj {op f:CmpOp}{r j:R2}(J:OpR X (compareOp op) r)(g:OpR X (compareOp f) j)(ha:PE X a ta)(hb:PE X b tb)(K:PE X c tc)(hm:lastMarks [op,f] [b,c]=false:=by with_unfolding_all rfl):PE X (.Compare a [op,f] [b,c] pos) (zb9 r j ta tb tc):=by
  intro pins s σ H Q I h
  refine Compare_chain (thn (ha pins s σ H _ I h) λv A ⟨x,R,N,D,G⟩=>chain_link (thn (hb pins A σ R _ N G) λu w ⟨y,P,M,i,F⟩ =>
    thn (J pins w σ P x y v u _ M D i F) λd t ⟨z,n,m,C,k,e,l⟩=>?_)) hm
  subst e;cases C;refine YM ?_
  cases k with
  | false=>exact ite_ff ⟨.bl false,n,m,rfl,l⟩
  | true=>exact ite_tt (chain_last (thn (K pins t σ n _ m l) λp q ⟨o,O,L,B,E⟩=>g pins q σ O y o u p Q L i B E))
def TruV (K:Jl)(x:V)(H:Hp)(k:Bool):Prop :=
  match x with
  | .non=>k=false
  | .bl b=>k=b
  | .int i=>k=(i != 0)
  | .str y=>y.length<=sizeLine/\k=((y.length:Int) != 0)
  | .byt y=>y.size<=sizeLine/\k=((y.size:Int) != 0)
  | .ref p=>(∃ a,SqL K H p a/\k = !a.isEmpty)\/(∃ a,SqT K H p a/\k = !a.isEmpty)\/∃ c,H p=some (.dK c)/\k = !c.isEmpty
  | _=>False
theorem jY {κ:Type}{kvs:List (κ × V)}{vs:List (κ × Jo)}(r:KV kvs vs):(!vs.isEmpty) = !kvs.isEmpty:=by
  cases r<;>rfl
theorem rY {xs:List V}{its:List Jo}(r:Vals xs its):(!its.toArray.isEmpty) = !xs.isEmpty:=by
  cases r<;>simp
theorem rQ:(sizeLine:Nat)<2 ^ 63:=by rw[JW];decide
theorem zb5:TruR X (λx H Q=>∃ k,TruV X.K x H k/\Q k H):=by
  intro pins s σ H x v Q I f h;obtain⟨k,e,q⟩:=h;have A:=rQ;have z:sizeLine=16777216:=JW
  cases x with
  | non =>
    cases f;have a:k=false:=e;subst a
    exact truthy_none ⟨H,I,q⟩
  | bl b =>
    cases f;have a:k=b:=e;subst a
    exact YM ⟨H,I,q⟩
  | int i =>
    obtain⟨t,rfl⟩:=f;have a:k=(i != 0):=e;subst a
    exact PySem.P.truthy_int ⟨H,I,q⟩
  | str y =>
    obtain⟨t,rfl⟩:=f;obtain⟨u,a⟩:y.length<=sizeLine/\k=((y.length:Int) != 0):=e;subst a
    exact PySem.P.truthy_str (by lia) ⟨H,I.tok _,q⟩
  | byt y =>
    obtain⟨t,rfl⟩:=f;obtain⟨u,a⟩:y.size<=sizeLine/\k=((y.size:Int) != 0):=e;subst a
    exact PySem.W.truthy_bytes (by lia) ⟨H,I.tok _,q⟩
  | ref p =>
    cases f;have a:(∃ d,SqL X.K H p d/\k = !d.isEmpty)\/(∃ d,SqT X.K H p d/\k = !d.isEmpty)\/∃ c,H p=some (.dK c)/\k = !c.isEmpty:=e;rcases a with ⟨d,g,a⟩|⟨d,g,a⟩|⟨c,g,a⟩
    · subst a
      obtain⟨n,r,l,o⟩:=I.list g;have hlen:=r.length;exact wpAny_truthy_list l.isList (by simp only[Jj];lia) ⟨H,I.tok _,by rw[rY r];exact q⟩
    · subst a
      obtain⟨n,r,l,o⟩:=I.tuple g;have hlen:=r.length;exact truthy_tuple l (by simp only[Jj];grind) ⟨H,I.tok _,by rw[rY r];exact q⟩
    · subst a
      obtain⟨o,w,j,r,m⟩:c.length<=sizeLine/\(p == sysModules)=false/\∃ j,KV c j/\s.heap.DictOf (yi X.prog X.w) p j:=I.hok p _ g;have hlen:c.length=j.length:=YR r
      exact wpAny_truthy_dict w m (by lia) ⟨H,I.tok _,by rw[jY r];exact q⟩
  | _=>exact(show False from e).elim
theorem bT (ha:PE X a ta)(e:∀ whole,isTrue a X.env whole=(do let v <- whole;standAt a.pos;holding [v] (truthy v))) :
    PT X a (λσ H Q=>ta σ H λx H'=>∃ k,TruV X.K x H' k/\Q k H'):=by
  intro pins s σ H Q I h;exact isTrue_plain (thn (ha pins s σ H _ I h) λv b ⟨x,g,f,c,d⟩=>zb5 pins b σ g x v Q f c d) (e _)
theorem rK:OpR X (binaryOp .Add) (λx y H Q=>∃ i j,x=.str i/\y=.str j/\i.length+j.length<=sizeLine/\Q (.str (i++j)) H):=by
  intro pins s σ H x y v u Q I c b h;obtain⟨i,j,rfl,rfl,d,q⟩:=h;obtain⟨t,rfl⟩:=c;obtain⟨a,rfl⟩:=b;exact add_str (λa e=>⟨.str (i++j),H,I.tok _,⟨_,rfl⟩,q⟩) d
theorem qf {x:V}{us:List Jo}(r:Vals [x] us):∃ u,us=[u]/\RelV x u:=by
  cases r with
  | cons b a=>cases a;exact⟨_,rfl,b⟩
theorem cG {x y:V}{us:List Jo}(r:Vals [x,y] us):∃ u a,us=[u,a]/\RelV x u/\RelV y a:=by
  cases r with
  | cons e d =>
    cases d with
    | cons c b=>cases b;exact⟨_,_,rfl,e,c⟩
theorem lL:CallR X (.builtin "abs") (λxs H Q=>∃ i,xs=[.int i]/\Q (.int (if i<0 then -i else i)) H):=by
  intro pins s σ H xs a Q I r h;obtain⟨i,rfl,q⟩:=h;obtain⟨u,rfl,t,rfl⟩:=qf r;exact call_abs_int λu b=>⟨.int (if i<0 then -i else i),H,I.tok _,⟨_,rfl⟩,q⟩
theorem ur (b:X.calm=true):CallR X (.builtin "max") (λxs H Q=>∃ i j,xs=[.int i,.int j]/\Q (.int (if j > i then j else i)) H):=by
  intro pins s σ H xs d Q I r h;obtain⟨i,j,rfl,q⟩:=h;obtain⟨u,c,rfl,⟨t,rfl⟩,⟨f,rfl⟩⟩:=cG r;refine max_two_ints (I.ok.hd b) λg e k=>⟨_,H,I.kept k,?_,q⟩;by_cases a:j > i
  · rw[Jh a,Jh a];exact⟨_,rfl⟩
  · rw[Jc a,Jc a];exact⟨_,rfl⟩
theorem dk (b:X.calm=true):CallR X (.builtin "min") (λxs H Q=>∃ i j,xs=[.int i,.int j]/\Q (.int (if j<i then j else i)) H):=by
  intro pins s σ H xs d Q I r h;obtain⟨i,j,rfl,q⟩:=h;obtain⟨u,c,rfl,⟨t,rfl⟩,⟨f,rfl⟩⟩:=cG r;refine min_two_ints (I.ok.hd b) λg e k=>⟨_,H,I.kept k,?_,q⟩;by_cases a:j<i
  · rw[Jh a,Jh a];exact⟨_,rfl⟩
  · rw[Jc a,Jc a];exact⟨_,rfl⟩
theorem du:CallR X (.type "int") (λxs H Q=>(∃ i,xs=[.int i]/\Q (.int i) H)\/∃ k,xs=[.bl k]/\Q (.int (if k then 1 else 0)) H):=by
  intro pins s σ H xs b Q I r h;rcases h with ⟨i,rfl,q⟩|⟨k,rfl,q⟩
  · obtain⟨u,rfl,t,rfl⟩:=qf r
    exact call_int_int ⟨.int i,H,I,⟨_,rfl⟩,q⟩
  · obtain⟨u,rfl,a⟩:=qf r
    cases a;exact call_int_bool ⟨.int (if k then 1 else 0),H,I.tok _,⟨_,rfl⟩,q⟩
end
structure ObjM (h:YP) (x dx C:JI) (mA:Str->Option Jo):Prop where
  obj:h.get? x=some (PySem.W.instObj C dx)
  ns:h.Ns1 dx mA
  ne:dx≠x
theorem fw {h:YP}{dx:JI}{mA:Str->Option Jo}(n:h.Ns1 dx mA):∃ od,h.get? dx=some od/\∀ name,PySem.W.lookIn name od=some (mA name):=by
  obtain⟨o,c,l,f,j,i,_,g⟩:=n;refine⟨o,f,λname=>?_⟩;have e:=g name;unfold nsFind findBy at e;rw[<- Array.find?_toList]at e;unfold PySem.W.lookIn;rw[j];dsimp only;split
  · rename_i y q
    rw[q]at e;exact JP some e
  · rename_i q
    rw[q]at e
    have a:c.toList.any (·.refKey)=false:=by
      rw[List.any_eq_false];intro y d;obtain⟨z,t,b⟩:=i y (Array.mem_toList_iff.mp d);simp[DictEntry.refKey,b]
    have k:¬ c.toList.any (·.refKey)=true:=by rw[a];exact Jp
    rw[Jc k];exact JP some e
theorem ObjM.look {h:YP}{x dx C:JI}{mA:Str->Option Jo}(I:ObjM h x dx C mA):∃ od,PySem.W.InstAt h x (PySem.W.instObj C dx) C (some od)/\∀ name,PySem.W.lookIn name od=some (mA name) :=
  let ⟨od,a,b⟩:=fw I.ns
  ⟨od,⟨I.obj,rfl,rfl,a⟩,b⟩
section
variable {P:Yo}{w:YI}{H:Hp}{h:YP}{a C dx:JI}{fs:List (Str × V)}
theorem zbD (hok:HOk P w H h)(e:H a=some (.ins C dx fs)):∃ mA,ObjM h a dx C mA/\(∀ f,RelO (fs.lookup f) (mA f))/\PySem.Within mA (fs.map (·.1))/\fs.length<=1000/\H dx=some (.own a):=by
  obtain⟨d,z,ne,ob,mA,n,r,q⟩:=(show ObjOk P w H h a (.ins C dx fs) from hok a _ e);exact⟨mA,⟨ob,n,ne⟩,r,q,z,d⟩
end
structure Cls (K:Jl) (C:JI):Prop where
  pg:PySem.W.plainGet K C Str.empty=true
  hd:PySem.W.hasDictIn K C=true
  po:PySem.W.plainOver K C=true
  sa:PySem.W.findIn K (.ref C) "__setattr__" = some (some (.builtin "object.__setattr__"))
theorem Cls.get {K:Jl}{C:JI}(c:Cls K C)(f:Str):PySem.W.plainGet K C f=true:=c.pg
section
variable {X:Cx}{pins:List (JI × Obj)}{σ:St}{H:Hp}{s:JO}{A:YO}{E:Jo->JO->Prop}{Q:Jo->JO->Prop}{c:Jo}{b:Bool}
inductive TyOf (K:Jl) (H:Hp):V->Jo->Prop where
  | non:TyOf K H .non (.type "NoneType")
  | bl (x:Bool):TyOf K H (.bl x) (.type "bool")
  | int (i:Int):TyOf K H (.int i) (.type "int")
  | str (x:Str):TyOf K H (.str x) (.type "str")
  | flt (x:UInt64):TyOf K H (.flt x) (.type "float")
  | lst {a:JI}{xs:List V}(e:H a=some (.lst xs)):TyOf K H (.ref a) (.type "list")
  | frz {a:JI}{o:Obj}{xs:List V}(e:H a=some (.frz o (.lst xs))):TyOf K H (.ref a) (.type "list")
  | tup {a:JI}{xs:List V}(e:H a=some (.tup xs)):TyOf K H (.ref a) (.type "tuple")
  | dK {a:JI}{kvs:List (Key × V)}(e:H a=some (.dK kvs)):TyOf K H (.ref a) (.type "dict")
  | dT {a:JI}{kvs:List (List Key × V)}(e:H a=some (.dT kvs)):TyOf K H (.ref a) (.type "dict")
  | ins {a C dx:JI}{fs:List (Str × V)}(e:H a=some (.ins C dx fs)) (cl:Cls K C) (ha:PySem.W.findIn K (.ref C) "__class__" = some (some (.builtin "object.__class__")))
      (hn:PySem.W.specialIn K (.builtin "object.__class__") "__get__" = some (some (.builtin "getset_descriptor.__get__"))) (htk:PySem.W.takesIn K (.builtin "object.__class__")=some true)
      (hm:PySem.W.mroIn K C (.type "object")=some true):TyOf K H (.ref a) (.ref C)
theorem pK {x:V}{u t:Jo}(I:Inv X pins σ H s)(d:RelV x u)(ty:TyOf X.K H x t)(e:PySem.W.kitOne X.K t c=some b)(h:∀ tk,Q (.bool b) { s with toks:=tk }) :
    wpAny (model X.prog X.w) A (call (.builtin "isinstance") [u,c]) Q E s:=by
  cases ty with
  | non=>cases (show u=Value.none from d);exact YT PySem.W.kitx_none I.kIn True.intro e (λz=>nomatch z) h
  | bl y=>cases (show u=Value.bool y from d);exact YT PySem.W.kitx_bool I.kIn True.intro e (λz=>nomatch z) h
  | int i=>obtain⟨t,q⟩:=(show ∃ t,u=Value.int i t from d);cases q;exact YT PySem.W.kitx_int I.kIn True.intro e (λz=>nomatch z) h
  | str y=>obtain⟨t,q⟩:=(show ∃ t,u=Value.str y t from d);cases q;exact YT PySem.W.kitx_str I.kIn True.intro e (λz=>nomatch z) h
  | flt y=>obtain⟨t,q⟩:=(show ∃ t,u=Value.float y t from d);cases q;exact YT PySem.W.kitx_float I.kIn True.intro e (λz=>nomatch z) h
  | @lst a k f =>
    cases (show u=Value.ref a from d);obtain⟨_,_,n,_,g⟩:=(show ObjOk X.prog X.w H s.heap a (.lst k) from I.hok a _ f)
    exact YT PySem.W.kitx_list I.kIn ⟨_,g,rfl⟩ e (λz=>nomatch z) h
  | @frz a ob k f =>
    cases (show u=Value.ref a from d);obtain⟨_,_,_,n,_,g⟩:=(show ObjOk X.prog X.w H s.heap a (.frz ob (.lst k)) from I.hok a _ f)
    exact YT PySem.W.kitx_list I.kIn ⟨_,g,rfl⟩ e (λz=>nomatch z) h
  | @tup a k f =>
    cases (show u=Value.ref a from d);obtain⟨_,_,_,r⟩:=(show ObjOk X.prog X.w H s.heap a (.tup k) from I.hok a _ f);have p:=r.tup;obtain⟨o,g,l,_⟩:=p
    exact YT PySem.W.kitx_tuple I.kIn ⟨o,g,l⟩ e (λz=>nomatch z) h
  | @dK a j f =>
    cases (show u=Value.ref a from d);obtain⟨_,_,G,_,p⟩:=(show ObjOk X.prog X.w H s.heap a (.dK j) from I.hok a _ f);obtain⟨o,D,F,g,l,_⟩:=p
    exact YT PySem.W.kitx_dict I.kIn ⟨o,g,l.1⟩ e (λz=>nomatch z) h
  | @dT a j f =>
    cases (show u=Value.ref a from d);obtain⟨_,_,k,_,o,D,F,g,l,_⟩:=(show ObjOk X.prog X.w H s.heap a (.dT j) from I.hok a _ f)
    exact YT PySem.W.kitx_dict I.kIn ⟨o,g,l.1⟩ e (λz=>nomatch z) h
  | @ins a C M fs f cl B v m w =>
    cases (show u=Value.ref a from d);obtain⟨L,O,_⟩:=zbD I.hok f;obtain⟨K,J,_⟩:=O.look;exact YT (PySem.W.kitx_own (cl.get _) cl.hd B v m w) I.kIn J e (λz=>nomatch z) h
end
structure Room (k:Nat) (A:YO):Prop where
  hd:A.handled=none
  dp:A.depth+3*k+5<recursionLimit
  un:A.units+16*k+200<cLine
  gd:A.guards=some []
theorem Room.mono {j k:Nat}{A:YO}(r:Room k A)(h:j<=k):Room j A:=⟨r.hd,by have:=r.dp;grind,by have:=r.un;grind,r.gd⟩
theorem Room.deeper {k:Nat}{A:YO}(r:Room (k+1) A)(env:Env):Room k (A.deeper env) :=
  ⟨r.hd,by have:=r.dp;show A.depth+1+3*k+5<_;lia,by have:=r.un;show A.units+3+16*k+200<_;lia,r.gd⟩
theorem Room.depth {k:Nat}{A:YO}(r:Room k A):A.depth<recursionLimit:=by have:=r.dp;grind
theorem Room.units {k:Nat}{A:YO}(r:Room k A):A.units+64<cLine:=by have:=r.un;grind
theorem Room.units0 {k:Nat}{A:YO}(r:Room k A):A.units<cLine:=by have:=r.un;grind
def zaJ:TA:=λ_ H Q=>Q [] H
def cT (c:TE)(b:TA):TA:=λσ H Q=>c σ H λx e=>b σ e λa d=>Q (x::a) d
section
variable {X:Cx}{e:Expr}{es:List Expr}{te:TE}{t:TA}{pos:Pos}
theorem zC:PA X [] zaJ:=λ_ _ _ _ H Q I h=>W5 ⟨[],H,I,.nil,h⟩
theorem zB (ha:PE X e te)(j:PA X es t)(i:starEach (e::es) X.env=(false,eval e X.env)::starEach es X.env:=by rfl):PA X (e::es) (cT te t):=by
  intro pos pins s σ H Q I h;rw[i];show wpAny _ _ (spliced ((false,eval e X.env)::backTo pos (starEach es X.env))) _ _ s;refine Zz (thn (ha pins s σ H _ I h) λu b ⟨x,n,l,d,g⟩=>?_);exact thn (j pos pins b σ n _ l g) λo p ⟨a,m,k,c,f⟩=>⟨x::a,m,k,.cons d c,f⟩
def zdY (t:TA):TE:=λσ H Q=>t σ H λa b=>a.length<=sizeLine/\∀ p,b p=none->Q (.ref p) (upd b p (.tup a))
def zd1 (t:TA):TE:=λσ H Q=>t σ H λa b=>a.length<=sizeLine/\∀ p,b p=none->Q (.ref p) (upd b p (.lst a))
theorem yE {x1}(h:PA X es t):PE X (.Tuple es x1 pos) (zdY t):=by
  intro pins s σ H Q I i;refine wpAny_Tuple_spliced (thn (h pos pins s σ H _ I i) λg a ⟨f,d,c,r,z,q⟩=>⟨by rw[<- r.length];exact z,?_⟩);have j:d a.heap.objs.size=none:=c.hok.fresh (Je _);refine⟨.ref a.heap.objs.size,upd d a.heap.objs.size (.tup f),c.laid (t':=a.toks) (λb u e=>J7 _ e) (Je _) ?_,rfl,q _ j⟩;exact⟨z,g,r,TupX.new _ _⟩
theorem x5 (h:PA X es t):PE X (.List es pos) (zd1 t):=by
  intro pins s σ H Q I i;refine wpAny_List_spliced (thn (h pos pins s σ H _ I i) λg a ⟨f,d,c,r,z,q⟩=>⟨by rw[<- r.length];exact z,?_⟩);have j:d a.heap.objs.size=none:=c.hok.fresh (Je _);refine⟨.ref a.heap.objs.size,upd d a.heap.objs.size (.lst f),c.laid (t':=a.toks) (λb u e=>J7 _ e) (Je _) ?_,rfl,q _ j⟩;exact⟨z,g,0,r,Jt _ rfl⟩
end
abbrev Sp:=List V->Hp->VK->XK->Prop
abbrev CXT:=List Env->Hp->JO->XK->Jo->JO->Prop
structure Env0 (P:Yo) (w:YI) (K:Jl) (mg:Str->Option Jo) (base:YP) (A:YO) (outer:List Env) (s:JO) (H:Hp):Prop where
  frames:A.frames=some outer
  mod:Mod K mg base
  bs:∀ b o,base.get? b=some o->s.heap.get? b=some o/\H b=none
  bsz:base.objs.size<=s.heap.objs.size
  funs:s.heap.FunFrames base outer
  frf:∀ b∈frs outer,H b=none
  hok:HOk P w H s.heap
  bare:AllBare s.gens
def CE (outer:List Env)(P:Yo)(w:YI)(H:Hp)(s:JO)(Q:VK)(u:Jo)(a:JO):Prop :=
  ∃ v b,a.os=s.os/\AllBare a.gens/\Un (frs outer) [] H b s.heap a.heap/\HOk P w b a.heap/\RelV v u/\Q v b
def CR (CX:CXT)(outer:List Env)(P:Yo)(w:YI)(H:Hp)(s:JO)(Q:VK)(E:XK)(r:Result)(a:JO):Prop :=
  match r with
  | .ok (.ret u)=>CE outer P w H s Q u a
  | .ok _=>False
  | .error e=>CX outer H s E e a
structure FnOk (P:Yo) (w:YI) (K:Jl) (mg:Str->Option Jo) (base:YP) (CX:CXT) (k:Nat) (f:JI) (fd:Yl) (ps:List Str) (sp:Sp):Prop where
  len:∀ vs H Q E,sp vs H Q E->vs.length=ps.length
  run:∀ (A:YO) (outer:List Env) (s:JO) (H:Hp) (args:Args) (us:List Jo) (vs:List V) (Q:VK) (E:XK),Room k A->Env0 P w K mg base A outer s H->BindsTo s fd args (ps.zip us)->Vals vs us->sp vs H Q E ->
    codeAny (model P w) A (.call (.ref f) args) (CR CX outer P w H s Q E) s
theorem FnOk.mono {P:Yo}{w:YI}{K:Jl}{mg:Str->Option Jo}{base:YP}{CX:CXT}{j k:Nat}{f:JI}{fd:Yl}{ps:List Str}{sp:Sp}(F:FnOk P w K mg base CX j f fd ps sp)(h:j<=k) :
    FnOk P w K mg base CX k f fd ps sp:=⟨F.len,λA outer s H args b a Q E c=>F.run A outer s H args b a Q E (c.mono h)⟩
theorem FnOk.imp {P:Yo}{w:YI}{K:Jl}{mg:Str->Option Jo}{base:YP}{CX:CXT}{k:Nat}{f:JI}{fd:Yl}{ps:List Str}{sp a:Sp}(F:FnOk P w K mg base CX k f fd ps sp)(h:∀ vs H Q E,a vs H Q E->sp vs H Q E):FnOk P w K mg base CX k f fd ps a :=
  ⟨λvs H Q E q=>F.len vs H Q E (h _ _ _ _ q),λA outer s H args b vs Q E e g i c d=>F.run A outer s H args b vs Q E e g i c (h _ _ _ _ d)⟩
section
variable {X:Cx}{pins:List (JI × Obj)}{σ:St}{H:Hp}{s s':JO}
theorem Inv.env0 (I:Inv X pins σ H s):Env0 X.prog X.w X.K X.mg X.base X.A X.stack s H :=
  ⟨I.ok.frames,I.ok.mod,I.bs,JS I.ok.bsz I.sz,I.stack,I.stkFree,I.hok,I.bare⟩
theorem Inv.after {Q:VK}{u:Jo}(I:Inv X pins σ H s)(h:CE X.stack X.prog X.w H s Q u s'):EP X pins σ Q u s':=by
  obtain⟨v,f,os,bare,un,c,r,q⟩:=h;obtain⟨e,g,d,t,a⟩:=s';obtain rfl:a=s.os:=os;exact⟨v,f,I.call (h':=e) (g':=g) (d':=d) (t':=t) (ch:=[]) un c bare (λb z=>absurd z (by simp)),r,q⟩
end
def zbU (sp:Sp)(a:List V)(E:XK)(t:TA):TE:=λσ H Q=>t σ H λb c=>sp (b++a) c Q E
def Binds (K:Jl)(fd:Yl)(ps:List Str)(ds:List Jo):Prop :=
  ∀ (s:JO) (a:List Jo),K.In s.heap->(a++ds).length=ps.length->BindsTo s fd ⟨a,[]⟩ (ps.zip (a++ds))
theorem Binds.all {K:Jl}{fd:Yl}{ps:List Str}(h:∀ us:List Jo,us.length=ps.length->bindArgs fd ⟨us,[]⟩=pure (ps.zip us)):Binds K fd ps []:=λs us _ a=>by
  rw[JY]at a ⊢;exact .of_eq (h us a)
def Passes (CX:CXT)(X:Cx)(E:XK):Prop:=∀ (pins:List (JI × Obj)) (σ:St) (H:Hp) (s:JO) (e:Jo) (a:JO),Inv X pins σ H s->CX X.stack H s E e a->X.xe e a
section
variable {X:Cx}{CX:CXT}{k:Nat}{f:JI}{fd:Yl}{ps:List Str}{sp:Sp}{dvs:List V}{ds:List Jo}{E:XK}{x:Str}{p pos:Pos}{e:Expr}{es:List Expr}{t:TA}
theorem zcq {pins:List (JI × Obj)}{σ:St}{H:Hp}{s:JO}{Q:VK}{us:List Jo}{vs:List V}(F:FnOk X.prog X.w X.K X.mg X.base CX k f fd ps sp)(g:Room k X.A)(hb:Binds X.K fd ps ds)(hd:Vals dvs ds)(d:Passes CX X E)(I:Inv X pins σ H s)(r:Vals vs us)(h:sp (vs++dvs) H Q E):wpAny (model X.prog X.w) X.A (call (.ref f) us) (EP X pins σ Q) X.xe s:=by
  have b:Vals (vs++dvs) (us++ds):=r.append hd;have i:(us++ds).length=ps.length:=by rw[<- b.length];exact F.len _ _ _ _ h
  refine wpAny_call (codeAny_mono (F.run X.A X.stack s H ⟨us,[]⟩ (us++ds) (vs++dvs) Q E g I.env0 (hb s us I.kIn i) b h) λr c a=>?_)
  cases r with
  | error e=>exact d pins σ H s e c I a
  | ok j =>
    cases j with
    | ret u=>exact I.after a
    | next=>exact False.elim a
    | brk=>exact False.elim a
    | cont=>exact False.elim a
theorem vz (F:FnOk X.prog X.w X.K X.mg X.base CX k f fd ps sp) (g:Room k X.A) (j:Gl X x) (hm:X.mg x=some (.ref f)) (i:PySem.W.keepIn X.K (.ref f)=true) (hb:Binds X.K fd ps ds) (hd:Vals dvs ds) (d:Passes CX X E)
    (ha:PA X (e::es) t) (b:(x == ("__debug__":Str))=false:=by decide) (l:starEach (e::es) X.env=(false,eval e X.env)::starEach es X.env:=by rfl) (a:(backTo pos (starEach es X.env)).any (·.1)=false:=by rfl) :
    PE X (.Call (.Name x p) (e::es) [] pos) (zbU sp dvs E t):=by
  intro pins s σ H Q I h;refine Zf (nD I j hm ?_ b);refine PySem.W.callWith_K (h₀:=X.base) I.ok.mod.kin i (thn (ha pos pins s σ H _ I h) λn o ⟨m,u,c,r,q⟩=>⟨c.kIn,?_⟩) l a;exact zcq F g hb hd d c r q
end
structure FnScope (N P:List Str) (sc:Scope):Prop where
  kind:sc.kind=.function
  co:sc.isCoroutine=false
  gen:sc.isGenerator=false
  nd:N.Nodup
  pre:N.take P.length=P
  par:∀ x∈P,sc.names.lookup x=some .local \/ sc.names.lookup x=some .cell
  nofree:∀ y∈sc.names,y.2≠.free
theorem ph {kindOf:Str->Option NameKind}{x:Str}:∀ {binds:List (Str × Jo)}{m:Str->Option Jo},(∀ v,(x,v)∉binds)->bindL kindOf binds m x=m x
  | [],_,_=>rfl
  | (n,v)::r,m,h=>by
    unfold bindL;rw[ph λw a=>h w (Jw _ a)];split
    · have:x≠n:=by rintro rfl;exact h v Jz
      simp[this]
    · rfl
theorem p6 {kindOf:Str->Option NameKind}{x:Str}:∀ {binds:List (Str × Jo)}{m:Str->Option Jo},(∀ v,(x,v)∉binds)->bindC kindOf binds m x=m x
  | [],_,_=>rfl
  | (n,v)::r,m,h=>by
    unfold bindC;rw[p6 λw a=>h w (Jw _ a)];split
    · rfl
    · have:x≠n:=by rintro rfl;exact h v Jz
      simp[this]
theorem pi {kindOf:Str->Option NameKind}{x:Str}{v:Jo}:∀ {P:List Str}{vs:List Jo}{i:Nat}{m:Str->Option Jo},P.Nodup->P[i]?=some x->vs[i]?=some v->kindOf x=some .local ->
    bindL kindOf (P.zip vs) m x=some v
  | [],_,_,_,_,h,_,_=>by simp at h
  | _::_,[],_,_,_,_,h,_=>by simp at h
  | p::P,w::vs,0,m,nd,b,a,c=>by
    simp at b a;subst b;subst a;show bindL kindOf ((p,w)::P.zip vs) m p=_;unfold bindL;rw[ph λv d=>(JJ.mp nd).1 (Wp d).1,Jh c]
    simp
  | p::P,w::vs,i+1,m,nd,b,a,c=>by
    show bindL kindOf ((p,w)::P.zip vs) m x=_;unfold bindL;exact pi (i:=i) (JJ.mp nd).2 (by simpa using b) (by simpa using a) c
theorem oA {kindOf:Str->Option NameKind}{x:Str}{v:Jo}:∀ {P:List Str}{vs:List Jo}{i:Nat}{m:Str->Option Jo},P.Nodup->P[i]?=some x->vs[i]?=some v->kindOf x≠some .local ->
    bindC kindOf (P.zip vs) m x=some v
  | [],_,_,_,_,h,_,_=>by simp at h
  | _::_,[],_,_,_,_,h,_=>by simp at h
  | p::P,w::vs,0,m,nd,b,a,c=>by
    simp at b a;subst b;subst a;show bindC kindOf ((p,w)::P.zip vs) m p=_;unfold bindC;rw[p6 λv d=>(JJ.mp nd).1 (Wp d).1,Jc c]
    simp
  | p::P,w::vs,i+1,m,nd,b,a,c=>by
    show bindC kindOf ((p,w)::P.zip vs) m x=_;unfold bindC;exact oA (i:=i) (JJ.mp nd).2 (by simpa using b) (by simpa using a) c
def wb (N:List Str)(vs:List V):St:=vs.map some++List.replicate (N.length-vs.length) none
def jh (CX:CXT)(P:Yo)(w:YI)(K:Jl)(mg:Str->Option Jo)(base:YP)(N:List Str)(qual:Str)(scope:Scope)(f:JI)(cd:Jo)(A:YO)(outer:List Env)(s:JO)(H:Hp)(E:XK):Cx where
  prog:=P
  w:=w
  K:=K
  mg:=mg
  base:=base
  A:=A.deeper (envOfC qual scope s.heap.objs.size f cd)
  N:=N
  s₀:=s
  H₀:=H
  env:=envOfC qual scope s.heap.objs.size f cd
  outer:=outer
  stack:=envOfC qual scope s.heap.objs.size f cd::outer
  ex:=[]
  calm:=true
  fn:=λ_=>true
  pn:=[]
  xe:=λe b=>wpAny (model P w) (A.deeper (envOfC qual scope s.heap.objs.size f cd)) (leaving (envOfC qual scope s.heap.objs.size f cd) e) (λ_ a=>CX outer H s E e a) (λc a=>CX outer H s E c a) b
theorem lK {sc:Scope}{n:Nat}{x:Str}(h:sc.names.lookup x=some .cell):∃ c,(cellsFrom n sc.names []).lookup x=some c:=by
  have q:=PySem.W.cellsFrom_some sc.names n [] (.inl h);exact Option.isSome_iff_exists.mp q
theorem eU {CX:CXT}{P:Yo}{w:YI}{K:Jl}{mg:Str->Option Jo}{base:YP}{N ps:List Str}{qual:Str}{scope:Scope}{f:JI}{cd:Jo}{A:YO}{outer:List Env}{s s1:JO}{H:Hp}{E:XK}{us:List Jo}{vs:List V}(S:FnScope N ps scope)(hd:A.handled=none)(g:Env0 P w K mg base A outer s H)(J:vs.length=ps.length)(r:Vals vs us)(x:InCallC s s.heap.objs.size (bindL (envOfC qual scope s.heap.objs.size f cd).kindOf (ps.zip us) λ_=>none) (cellsFrom (s.heap.objs.size+1) scope.names []) (bindC (envOfC qual scope s.heap.objs.size f cd).kindOf (ps.zip us) λ_=>none) s1) :
    Inv (jh CX P w K mg base N qual scope f cd A outer s H E) [] (wb N vs) H s1:=by
  have G:ps.length<=N.length:=by have:=JP List.length S.pre;rw[JF]at this;lia
  obtain⟨t,I,rfl,C⟩:=x.done;have l:∀ b:JI,b∉(jh CX P w K mg base N qual scope f cd A outer s H E).ex:=λb z=>absurd (show b∈([]:List JI) from z) (by simp)
  refine⟨⟨g.mod,S.kind,rfl,rfl,Je _,λy z c t d=>?_,λy j=>?_,λy c _ h=>?_,λ_=>hd,Around.frames_deeper g.frames,.inr ⟨rfl,rfl⟩,λb z=>absurd z (l b),g.bs,g.bsz,λb _ _=>l b,λb z=>absurd z (l b),g.funs,g.frf⟩,
    rfl,g.bare,Un.kept C,⟨_,x.toInCall.ns,λi y v t d L=>?_⟩,λy c h=>⟨_,x.cell y c h⟩,g.hok.fresh (Je _),λy c h=>?_,λp m=>absurd (show p∈([]:List (JI × Obj)) from m) (by simp),g.hok.kept C,?_⟩
  · exact name_of_addr x.apart (Zu t) (Zu d)
  · have j:scope.names.lookup y=some .cell\/scope.names.lookup y=some .free:=j
    rcases j with j|j
    · exact lK j
    · exact absurd rfl (S.nofree _ (Zu j))
  · exact Nat.le_of_lt (x.above y c (Zu h))
  · have hi:i<vs.length:=by
      unfold wb at d;by_cases hi:i<vs.length
      · exact hi
      · rw[Y3 (by simpa using hi)]at d
        rw[List.getElem?_replicate]at d;split at d<;>cases d
    have F:vs[i]?=some v:=by
      unfold wb at d;rw[Yd (by simpa using hi),JC]at d
      cases e:vs[i]? with
      | none=>rw[e]at d;cases d
      | some a=>rw[e]at d;cases d;rfl
    obtain⟨u,B,D⟩:=r.get F
    have m:ps[i]?=some y:=by
      rw[<- S.pre,ZR (by simp_all)];exact t
    have o:ps.Nodup:=by rw[<- S.pre];exact S.nd.sublist (List.take_sublist _ _)
    refine⟨u,D,?_⟩;rcases S.par y (JM m) with k|k
    · exact .inl ⟨k,pi o m B k⟩
    · obtain⟨c,e⟩:=lK (n:=s.heap.objs.size+1) k
      refine .inr ⟨.inl k,c,e,?_⟩;have q:=x.cell y c e;rw[oA o m B (by show scope.names.lookup y≠_;rw[k];decide)]at q;exact q
  · exact g.hok.fresh (Nat.le_of_lt (x.above y c (Zu h)))
  · unfold wb
    show _=N.length;rw[Jn,Jb,Yb]
    simp_all
theorem zb0 {CX:CXT}{P:Yo}{w:YI}{K:Jl}{mg:Str->Option Jo}{base:YP}{k:Nat}{f:JI}{name qual:Str}{params:Arguments}{body:List Stmt}{scope:Scope}{C kV doc pm cdv ct oc:Jo}{an od:Option JI}{osl:Array (Option Jo)}{N ps:List Str}{sp:Sp}(G:K.lookup f=some ⟨oc,od,.func (PySem.W.fnOf name qual params body scope C kV doc pm an cdv ct),osl⟩)(z:PySem.W.codeIn K cdv qual=true)(S:FnScope N ps scope)(len:∀ vs H Q E,sp vs H Q E->vs.length=ps.length)(g:∀ (A:YO) (outer:List Env) (s:JO) (H:Hp) (vs:List V) (Q:VK) (E:XK),Room k (A.deeper (envOfC qual scope s.heap.objs.size f cdv))->sp vs H Q E ->
      ∃ t,PSs (jh CX P w K mg base N qual scope f cdv A outer s H E) body t/\t { nx:=λ_ c=>Q .non c,rt:=Q } (wb N vs) H) :
    FnOk P w K mg base CX (k+1) f (PySem.W.fnOf name qual params body scope C kV doc pm an cdv ct) ps sp:=by
  refine⟨len,λA outer s H args F vs Q E p i U r j=>?_⟩;have R:=len _ _ _ _ j;have D:K.In s.heap:=i.mod.kin.keeps λb o e=>(i.bs b o e).1;have lim:s.heap.NoLimit:=i.mod.nolimit.keeps λb o e=>(i.bs b o e).1
  have d:∀ y∈ps.zip F,scope.names.lookup y.1=some .local \/ (scope.names.lookup y.1=some .cell/\((cellsFrom (s.heap.objs.size+1) scope.names []).lookup y.1).isSome=true):=λ⟨n,v⟩ L=>by
    rcases S.par n (Wp L).1 with q|q
    · exact .inl q
    · exact .inr ⟨q,PySem.W.cellsFrom_some _ _ _ (.inl q)⟩
  refine codeAny_call_function p.depth (D _ _ G) rfl S.co S.gen rfl (PySem.W.codeRec_of D z) (U _ _ _ _ ?_);refine wpAny_newFunctionEnv_cells S.kind d λenv T B x=>?_;subst T;refine⟨lim.keeps x.toInCall.keep,codeAny_func ?_⟩;obtain⟨t,M,O⟩:=g A outer s H vs Q E (p.deeper _) j;have I:Inv (jh CX P w K mg base N qual scope f cdv A outer s H E) [] (wb N vs) H B:=eU S p.hd i R r x;refine JQ (M [] B (wb N vs) H _ I O) (λW l h=>?_) λe l h=>h
  have fin:∀ {a:St}{c:Hp}{v:V}{u:Jo},Inv (jh CX P w K mg base N qual scope f cdv A outer s H E) [] a c l->RelV v u->Q v c->CE outer P w H s Q u l :=
    λ{a c v u} J m q=>⟨v,c,J.os,J.bare,J.base,J.hok,m,q⟩
  cases W with
  | ret u =>
    obtain⟨v,a,c,J,m,q⟩:=h
    exact fin J m q
  | next =>
    obtain⟨a,c,J,q⟩:=h
    exact fin (v:=V.non) (u:=Value.none) J rfl q
  | brk =>
    obtain⟨_,_,_,q⟩:=h
    exact False.elim q
  | cont =>
    obtain⟨_,_,_,q⟩:=h;exact False.elim q
section
variable {X:Cx}{x:Str}{p pos:Pos}{e:Expr}{es:List Expr}{t:TA}{id T:String}{r:List V->Hp->VK->Prop}
def tCB (r:List V->Hp->VK->Prop)(t:TA):TE:=λσ H Q=>t σ H λa b=>r a b Q
theorem zV (m:CallR X (.builtin id) r) (k:Gl X x) (hm:X.mg x=none) (j:bootBuiltins x=some (.builtin id)) (ha:PA X (e::es) t) (hn:x≠"__name__":=by decide) (b:(x == ("__debug__":Str))=false:=by decide)
    (l:starEach (e::es) X.env=(false,eval e X.env)::starEach es X.env:=by rfl) (a:(backTo pos (starEach es X.env)).any (·.1)=false:=by rfl):PE X (.Call (.Name x p) (e::es) [] pos) (tCB r t):=by
  intro pins s σ H Q I h;refine Zf (xW I k hm j ?_ hn b);exact PyProof.Rows.callWith_builtin1 (thn (ha pos pins s σ H _ I h) λd f ⟨c,o,n,g,i⟩=>m pins f σ o c d Q n g i) l a
theorem yK (m:CallR X (.type T) r) (k:Gl X x) (hm:X.mg x=none) (j:bootBuiltins x=some (.type T)) (ha:PA X (e::es) t) (hn:x≠"__name__":=by decide) (b:(x == ("__debug__":Str))=false:=by decide)
    (l:starEach (e::es) X.env=(false,eval e X.env)::starEach es X.env:=by rfl) (a:(backTo pos (starEach es X.env)).any (·.1)=false:=by rfl):PE X (.Call (.Name x p) (e::es) [] pos) (tCB r t):=by
  intro pins s σ H Q I h;refine Zf (xW I k hm j ?_ hn b);exact Yt (thn (ha pos pins s σ H _ I h) λd f ⟨c,o,n,g,i⟩=>m pins f σ o c d Q n g i) l a
end
end L2
namespace HT
open PySem PyProof.Rows
section
variable {prog:Yo}{w:YI}{A:YO}{E:Jo->JO->Prop}{s:JO}
theorem cat_tup {t b:JI}{vs ws:List Jo}{Q:Jo->JO->Prop}(u:IsTup s.heap t vs.toArray) (hb:IsTup s.heap b ws.toArray) (m:vs≠[])
    (x:ws=[]->Q (.ref t) s) (v:ws≠[]->Q (.ref s.heap.objs.size) { s with heap:=s.heap.push { cls:=.type "tuple",data:=.seq (vs++ws).toArray } })
    (j:vs.length+ws.length<=sizeLine):wpAny (model prog w) A (binaryOp .Add (.ref t) (.ref b)) Q E s:=by
  obtain⟨⟨cls,q,data,k⟩,i,p,n,o⟩:=id u;obtain⟨⟨r,g,data2,c⟩,a,f,l,d⟩:=id hb;simp only at p o f d;subst p o f d;have e:vs.toArray++ws.toArray=(vs++ws).toArray:=by simp
  by_cases h:ws=[]
  · exact concat_meets ⟨_,i,rfl⟩ ⟨_,a,rfl⟩ noFill_tuple_add seq_tuple_add PySem.F.slot_tuple_add PySem.F.entry_tuple_add (PySem.F.args_tuple_add_2 _ _)
      (tuple_addW1 t b vs.toArray ws.toArray n l q g k c (by simpa using m) (by simp[h])) ⟨i,a,x h⟩
  · refine concat_meets ⟨_,i,rfl⟩ ⟨_,a,rfl⟩ noFill_tuple_add seq_tuple_add PySem.F.slot_tuple_add PySem.F.entry_tuple_add (PySem.F.args_tuple_add_2 _ _)
      (tuple_addW2 t b vs.toArray ws.toArray n l q g k c (by simpa using m) (by simpa using h) (by rw[Jj,Jj];exact j)) ⟨i,a,?_⟩
    rw[e];exact v h
def sIx (n d:Nat):Option Int->Nat
  | none=>d
  | some v=>if v<0 then (v+(n:Int)).toNat else min v.toNat n
theorem sIx_none (n d:Nat):sIx n d none=d:=rfl
theorem sIx_nat (n d k:Nat):sIx n d (some (k:Int))=min k n:=by
  show (if (k:Int)<0 then ((k:Int)+(n:Int)).toNat else min (k:Int).toNat n)=min k n;rw[Jc (by simp_all),Yw]
theorem zcm (n d:Nat)(hd:d<=n)(o:Option Int):sIx n d o<=n:=by
  cases o with
  | none=>exact hd
  | some v =>
    show (if v<0 then (v+(n:Int)).toNat else min v.toNat n)<=n;by_cases a:v<0
    · rw[Jh a];grind
    · rw[Jc a];exact Nat.min_le_right _ _
theorem ic (v:Int)(n d:Nat):(if v<0 then max (v+(n:Int)) 0 else min v (n:Int))=((sIx n d (some v):Nat):Int):=by
  show (if v<0 then max (v+(n:Int)) 0 else min v (n:Int))=(((if v<0 then (v+(n:Int)).toNat else min v.toNat n):Nat):Int);by_cases a:v<0
  · simp only[Jh a];simp_all
  · simp only[Jc a];grind
theorem jr (lo hi:Option Int)(n:Nat):Builtin.Slice.sliceAdjust lo hi 1 (n:Int)=(((sIx n 0 lo:Nat):Int),((sIx n n hi:Nat):Int)):=by
  have a:¬((1:Int)<0):=by simp_all
  unfold Builtin.Slice.sliceAdjust;simp only[a,ZD];refine Prod.ext ?_ ?_
  · cases lo with
    | none=>rfl
    | some v=>exact ic v n 0
  · cases hi with
    | none=>rfl
    | some v=>exact ic v n n
theorem kr (i j:Nat):Builtin.Slice.slicePlaces (i:Int) (j:Int) 1=j-i:=by
  unfold Builtin.Slice.slicePlaces;have a:(1:Int) > 0:=by simp_all
  simp only[a,Z6,Int.ediv_one];split<;>simp_all
theorem sY {v:Jo}{o:Option Int}{Q:Option Int->JO->Prop}(p:IsPart v o)(h:Q o s):wpAny (model prog w) A (Builtin.Slice.slicePartIndex v) Q E s:=by
  cases p with
  | none=>exact slicePart_none h
  | int i t=>exact slicePart_int h
theorem sliceApplied_gen {sl:JI}{d c:Jo}{lo hi:Option Int}{n:Nat}{Q:Int × Int × Nat->JO->Prop}(e:s.heap.IsSliceOf sl d c .none)(pl:IsPart d lo)(pu:IsPart c hi)(h:Q (((sIx n 0 lo:Nat):Int),1,sIx n n hi-sIx n 0 lo) s):wpAny (model prog w) A (Builtin.Slice.sliceApplied (.ref sl) (pure (n:Int))) Q E s:=by
  obtain⟨os,a,f,b⟩:=id e;unfold Builtin.Slice.sliceApplied Builtin.Slice.sliceFields;refine J0 (J0 (Wk a b (x:=d) rfl (J0 (Wk a b (x:=c) rfl (J0 (Wk a b (x:=.none) rfl (J9 ?_)))))));refine J0 (slicePart_none ?_);show wpAny _ _ (if ((1:Int) == 0)=true then _ else _) _ _ s;rw[Jc (by decide)];refine J0 (sY pl (J0 (sY pu (J0 (J9 ?_)))));show wpAny _ _ (match Builtin.Slice.sliceAdjust lo hi 1 (n:Int) with|(lo,hi)=>pure (lo,(1:Int),Builtin.Slice.slicePlaces lo hi 1)) _ _ s;rw[jr lo hi n];show wpAny _ _ (pure (((sIx n 0 lo:Nat):Int),(1:Int),Builtin.Slice.slicePlaces ((sIx n 0 lo:Nat):Int) ((sIx n n hi:Nat):Int) 1)) _ _ s;rw[kr];exact J9 h
theorem be (xs:Array Jo)(i k:Nat):((List.range k).filterMap λ(m:Nat)=>xs[((i:Int)+(m:Int)*1).toNat]?).toArray=((xs.toList.drop i).take k).toArray:=by
  have e:(λ(m:Nat)=>xs[((i:Int)+(m:Int)*1).toNat]?)=λm=>xs[i+m]?:=by
    funext m
    have:((i:Int)+(m:Int)*1).toNat=i+m:=by grind
    rw[this]
  rw[e];have:=pick_run xs i k;rw[Zg]at this;have e2:((λx=>xs[x]?)∘λx=>i+x)=λm=>xs[i+m]?:=rfl;rw[e2]at this;rw[this]
theorem getItem_tuple_cut {t sl:JI}{items:Array Jo}{i g:Jo}{lo hi:Option Int}{Q:Jo->JO->Prop}(b:IsTup s.heap t items) (j:s.heap.IsSliceOf sl i g .none) (pl:IsPart i lo) (pu:IsPart g hi)
    (k:¬(sIx items.size 0 lo=0/\sIx items.size items.size hi=items.size))
    (h:Q (.ref s.heap.objs.size) { s with heap:=s.heap.push { cls:=.type "tuple",data:=.seq ((items.toList.drop (sIx items.size 0 lo)).take (sIx items.size items.size hi-sIx items.size 0 lo)).toArray } })
    (l:items.size<=sizeLine):wpAny (model prog w) A (getItem (.ref t) (.ref sl)) Q E s:=by
  have a:sizeOk (.seq ((items.toList.drop (sIx items.size 0 lo)).take (sIx items.size items.size hi-sIx items.size 0 lo)).toArray):=by
    show ((items.toList.drop (sIx items.size 0 lo)).take (sIx items.size items.size hi-sIx items.size 0 lo)).toArray.size<=sizeLine;rw[Jj,JF,Zv,Ju];omega
  have r:sIx items.size items.size hi<=items.size:=zcm _ _ (Je _) hi;obtain⟨os,c,e,n⟩:=id j;have f:s.TypeIs (.ref sl) "slice":=⟨os,c,e⟩;unfold getItem
  try with_reducible refine JX ?_
  first|refine J0 (J9 ?_)|skip
  refine J0 (wpAny_sequenceKey b.typeIs (by decide) ?_)
  refine J0 (wpAny_callSpecial?_slot (name:=Str.ofString "__getitem__") b.typeIs Wc
    (Y1 Wc b.typeIs entry_tuple_getitem ?_ (args_tuple_getitem _ _)))
  show wpAny _ _ (Builtin.Tuple.tupleItemsOf (.ref t) >>= _) _ _ s;refine J0 (tupleItemsOf_ b ?_);refine J0 (Zp f ?_);rw[Jh (by decide)];refine J0 (sliceApplied_gen j pl pu ?_)
  have d:¬((((sIx items.size 0 lo:Nat):Int) == 0 && (1:Int) == 1 && (sIx items.size items.size hi-sIx items.size 0 lo) == items.size)=true):=by
    intro q;rw[Ym,Ym]at q;have p:((sIx items.size 0 lo:Nat):Int)=0:=eq_of_beq q.1.1;have o:sIx items.size items.size hi-sIx items.size 0 lo=items.size:=eq_of_beq q.2;exact k ⟨by simp_all,by simp_all⟩
  show wpAny _ _ (if (((sIx items.size 0 lo:Nat):Int) == 0 && (1:Int) == 1 && (sIx items.size items.size hi-sIx items.size 0 lo) == items.size)=true then _ else _) _ _ s;rw[Jc d,be]
  first
    | exact J0 (m:=Builtin.Tuple.tupleExact _) (JZ (J9 ⟨_,rfl,J9 h⟩) a)
    | exact J0 (m:=Builtin.Tuple.tupleExact _) (JZ (J0 (J9 (J9 ⟨_,rfl,J9 h⟩))) a)
    | exact J0 (J0 (m:=Builtin.Tuple.tupleExact _) (JZ (J9 (J9 ⟨_,rfl,J9 h⟩)) a))
    | exact J0 (J0 (m:=Builtin.Tuple.tupleExact _) (JZ (J9 ⟨_,rfl,J9 h⟩) a))
end
end HT
namespace L2
open PySem PySem.Spec PyProof.Rows
abbrev TO:=St->Hp->(Option Int->Hp->Prop)->Prop
def PO (X:Cx)(e:Option Expr)(t:TO):Prop :=
  ∀ (pins:List (JI × Obj)) (s:JO) (σ:St) (H:Hp) (Q:Option Int->Hp->Prop),Inv X pins σ H s->t σ H Q ->
    wpAny (model X.prog X.w) X.A (evalPart e X.env) (λu b=>∃ o a,Inv X pins σ a b/\IsPart u o/\Q o a) X.xe s
def zaI:TO:=λ_ H Q=>Q none H
def zdh (t:TE):TO:=λσ H Q=>t σ H λx a=>∃ i,x=.int i/\Q (some i) a
section
variable {X:Cx}{e:Expr}{te:TE}{lo hi:Option Expr}{tl th:TO}{pos p2:Pos}
theorem xY:PO X none zaI:=by
  intro pins s σ H Q I h;rw[evalPart_none];exact J9 ⟨none,H,I,.none,h⟩
theorem y4 (h:PE X e te):PO X (some e) (zdh te):=by
  intro pins s σ H Q I c;rw[evalPart_some];refine thn (h pins s σ H _ I c) λu g ⟨x,f,d,a,b⟩=>?_;obtain⟨i,rfl,q⟩:=b;obtain⟨t,rfl⟩:=a;exact⟨some i,f,d,.int i t,q⟩
def SlR (X:Cx)(r:V->Option Int->Option Int->Hp->VK->Prop):Prop :=
  ∀ (pins:List (JI × Obj)) (s:JO) (σ:St) (H:Hp) (x:V) (v b a:Jo) (lo hi:Option Int) (c:JI) (Q:VK),Inv X pins σ H s->RelV x v->s.heap.IsSliceOf c b a .none->IsPart b lo->IsPart a hi->r x lo hi H Q ->
    ∃ T id,typeLookup (.type T) "__getitem__" = pure (some (.builtin id))/\s.TypeIs v T/\wpAny (model X.prog X.w) X.A (getItem v (.ref c)) (EP X pins σ Q) X.xe s
def tSl (r:V->Option Int->Option Int->Hp->VK->Prop)(te:TE)(tl th:TO):TE:=λσ H Q=>te σ H λx c=>tl σ c λl b=>th σ b λu a=>r x l u a Q
theorem xi {r:V->Option Int->Option Int->Hp->VK->Prop}(w:SlR X r)(A:PE X e te)(y:PO X lo tl)(p:PO X hi th):PE X (.Subscript e (.Slice lo hi none p2) pos) (tSl r te tl th):=by
  intro pins s σ H Q I h;refine Subscript_ (thn (A pins s σ H _ I h) λv i ⟨x,J,F,j,n⟩=>?_);refine wpAny_Slice (thn (y pins i σ J _ F n) λd g ⟨l,G,E,o,m⟩=>thn (p pins g σ G _ E m) λc a ⟨u,f,D,pu,k⟩=>?_);rw[evalPart_none];refine J9 ?_;have C:Inv X pins σ f { a with heap:=a.heap.push { cls:=.type "slice",data:=.fields #[d,c,.none] } }:=D.kept (t':=a.toks) λb ob q=>J7 _ q;obtain⟨T,id,B,t,z⟩:=w pins { a with heap:=a.heap.push { cls:=.type "slice",data:=.fields #[d,c,.none] } } σ f x v d c l u a.heap.objs.size Q C j (Heap.IsSliceOf.new ..) o pu k;show wpAny (model X.prog X.w) X.A (subscriptTail e (.Slice lo hi none p2) v (.ref a.heap.objs.size)) (EP X pins σ Q) X.xe { a with heap:=a.heap.push { cls:=.type "slice",data:=.fields #[d,c,.none] } };exact tail_any (ops:=[.ref a.heap.objs.size,v]) t B z (by with_unfolding_all rfl)
def uJ (xs:List V)(lo hi:Option Int):List V:=(xs.drop (HT.sIx xs.length 0 lo)).take (HT.sIx xs.length xs.length hi-HT.sIx xs.length 0 lo)
theorem tG (xs:List V)(lo hi:Option Int):(uJ xs lo hi).length<=xs.length:=by
  unfold uJ;rw[JF,Zv]
  grind
def zes (K:Jl):V->Option Int->Option Int->Hp->VK->Prop:=λx lo hi H Q=>∃ a b,x=.ref a/\SqT K H a b /\
  ¬(HT.sIx b.length 0 lo=0/\HT.sIx b.length b.length hi=b.length)/\∀ p,H p=none->Q (.ref p) (upd H p (.tup (uJ b lo hi)))
theorem zcd:SlR X (zes X.K):=by
  intro pins s σ H x v n m lo hi p Q I g l i pu h;obtain⟨a,c,rfl,j,k,q⟩:=h;cases g;obtain⟨d,r,f,e⟩:=I.tuple j;have hlen:d.toArray.size=c.length:=by rw[Jj];exact r.length.symm
  refine⟨"tuple",_,PyProof.Rows.slot_tuple_getitem.lookup,f.typeIs,?_⟩;refine HT.getItem_tuple_cut f l i pu (by rw[hlen];exact k) ?_ (by rw[hlen];exact e);rw[hlen];refine⟨.ref s.heap.objs.size,_,I.laid (t':=s.toks) (o:=.tup (uJ c lo hi)) (λb ob q=>J7 _ q) (Je _) ?_,rfl,q _ (I.hok.fresh (Je _))⟩;exact⟨JS (tG c lo hi) e,_,(r.drop (HT.sIx c.length 0 lo)).take (HT.sIx c.length c.length hi-HT.sIx c.length 0 lo),TupX.new _ _⟩
def zdz (K:Jl):R2:=λx y H Q=>∃ a b d c,x=.ref a/\y=.ref b/\SqT K H a d/\SqT K H b c/\d≠[]/\d.length+c.length<=sizeLine /\
  (c=[]->Q (.ref a) H)/\(c≠[]->∀ p,H p=none->Q (.ref p) (upd H p (.tup (d++c))))
theorem Vals.nil_iff {xs:List V}{us:List Jo}(r:Vals xs us):us=[]↔xs=[]:=by
  cases r with
  | nil=>simp
  | cons _ _=>simp
theorem za8:OpR X (binaryOp .Add) (zdz X.K):=by
  intro pins s σ H x y v u Q I k j h;obtain⟨a,b,i,g,rfl,rfl,t,r,p,e,m,l⟩:=h;cases k;cases j;obtain⟨A,d,n,_⟩:=I.tuple t;obtain⟨f,c,p2,_⟩:=I.tuple r;refine HT.cat_tup n p2 (λz=>p (d.nil_iff.mp z)) (λz=>⟨.ref a,H,I,rfl,m (c.nil_iff.mp z)⟩) (λz=>?_) (by rw[<- d.length,<- c.length];exact e);refine⟨.ref s.heap.objs.size,_,I.laid (t':=s.toks) (o:=.tup (i++g)) (λb ob q=>J7 _ q) (Je _) ?_,rfl,l (λw=>z (c.nil_iff.mpr w)) _ (I.hok.fresh (Je _))⟩;exact⟨by rw[Jn];exact e,_,d.append c,TupX.new _ _⟩
end
def ixN (n:Nat)(i:Int):Option Nat:=if 0<=i then (if i<n then some i.toNat else none) else if -(n:Int)<=i then some (i+n).toNat else none
def atI {α:Type}(xs:List α)(i:Int):Option α:=(ixN xs.length i).bind λj=>xs[j]?
theorem iM {n:Nat}{i:Int}{j:Nat}(h:ixN n i=some j):seqIndex? i n=some j/\j<n/\-(n:Int)<=i/\i<n:=by
  unfold ixN at h;by_cases b:0<=i
  · rw[Jh b]at h
    by_cases a:i<n
    · rw[Jh a]at h
      have e:i.toNat=j:=Jq h;exact⟨by rw[seqIndex_of b a,e],by omega,by grind,a⟩
    · rw[Jc a]at h;cases h
  · rw[Jc b]at h
    by_cases a:-(n:Int)<=i
    · rw[Jh a]at h
      have e:(i+n).toNat=j:=Jq h;exact⟨by rw[seqIndex_neg (by simp_all) a,e],by grind,a,by grind⟩
    · rw[Jc a]at h;cases h
theorem ip {α:Type}{xs:List α}{i:Int}{v:α}(h:atI xs i=some v):∃ j,seqIndex? i xs.length=some j/\xs[j]?=some v/\j<xs.length/\-(xs.length:Int)<=i/\i<xs.length:=by
  unfold atI at h
  cases e:ixN xs.length i with
  | none=>rw[e]at h;cases h
  | some j =>
    rw[e]at h;obtain⟨d,c,b,a⟩:=iM e;exact⟨j,d,h,c,b,a⟩
theorem xa {α:Type}{xs:List α}{j:Nat}{v:α}(h:xs[j]?=some v):atI xs (j:Int)=some v:=by
  have a:j<xs.length:=(Ja.mp h).1
  have e:ixN xs.length (j:Int)=some j:=by
    unfold ixN;rw[Jh (by simp_all),Jh (by simp_all)];simp
  unfold atI;rw[e];exact h
def PlainIx (b:Expr):Prop:=∀ o i,subscripted b false o i=operate [o,i] (getItem o i)
def IxR (X:Cx)(r:R2):Prop :=
  ∀ (value slice:Expr) (pins:List (JI × Obj)) (s:JO) (σ:St) (H:Hp) (x y:V) (v u:Jo) (Q:VK),Inv X pins σ H s->RelV x v->RelV y u->r x y H Q ->
    subscripted slice false v u=operate [v,u] (getItem v u)->wpAny (model X.prog X.w) X.A (subscriptTail value slice v u) (EP X pins σ Q) X.xe s
def MtR (X:Cx)(id:String)(r:V->List V->Hp->VK->Prop):Prop :=
  ∀ (pins:List (JI × Obj)) (s:JO) (σ:St) (H:Hp) (x:V) (a:List V) (v:Jo) (b:List Jo) (Q:VK),Inv X pins σ H s->RelV x v->Vals a b->r x a H Q ->
    wpAny (model X.prog X.w) X.A (call (.builtin id) (v::b)) (EP X pins σ Q) X.xe s
section
variable {X:Cx}{a b:Expr}{ta tb:TE}{pos:Pos}
theorem zt {r:R2}(g:IxR X r)(ha:PE X a ta)(hb:PE X b tb)(f:PlainIx b):PE X (.Subscript a b pos) (tOp r ta tb):=by
  intro pins s σ H Q I h;exact Subscript_ (zc9 ha hb I h λv u c x y j i e d q=>g a b pins c σ j x y v u Q i e d q (f _ _))
def zcr (K:Jl):R2:=λx y H Q=>∃ p a i v,x=.ref p/\y=.int i/\SqL K H p a/\atI a i=some v/\Q v H
def zew (K:Jl):R2:=λx y H Q=>∃ p a i v,x=.ref p/\y=.int i/\SqT K H p a/\atI a i=some v/\Q v H
theorem yT:IxR X (zcr X.K):=by
  intro value slice pins s σ H x y v u Q I n m h f;obtain⟨p,F,i,z,rfl,rfl,o,B,q⟩:=h;cases n;obtain⟨t,rfl⟩:=m;obtain⟨e,r,b,G⟩:=I.list o;obtain⟨j,a,E,K,D,C⟩:=ip B;obtain⟨w,k,d⟩:=r.get E;have A:=r.length;have J:=rQ;have fin:EP X pins σ Q w s:=⟨z,H,I,d,q⟩;by_cases g:0<=i
  · have c:i.toNat=j:=by
      rw[seqIndex_of g C]at a;exact Jq a
    exact item_listR b.isList g (by lia) (by rw[c];simpa using k) fin f
  · have c:(i+(e.toArray.size:Int)).toNat=j:=by
      rw[seqIndex_neg (by simp_all) D]at a;rw[Jj,<- A];exact Jq a
    exact subscriptTail_builtinR (x:=w) b.isList.typeIs slot_list_getitem.lookup
      (wpAny_getItem_list_neg (Q:=λr l=>r=w/\EP X pins σ Q r l) b.isList (by simp_all) (by rw[Jj]<;>simp_all) (by grind) (by rw[c];simpa using k) ⟨rfl,fin⟩) f
theorem yF:IxR X (zew X.K):=by
  intro value slice pins s σ H x y v u Q I e d h f;obtain⟨p,B,i,z,rfl,rfl,g,l,q⟩:=h;cases e;obtain⟨t,rfl⟩:=d;obtain⟨A,r,b,C⟩:=I.tuple g;obtain⟨j,n,m,G,F,E⟩:=ip l;obtain⟨w,o,a⟩:=r.get m;have k:=r.length;have D:=rQ;have fin:EP X pins σ Q w s:=⟨z,H,I,a,q⟩
  exact subscriptTail_builtinR (x:=w) b.typeIs slot_tuple_getitem.lookup
    (getItem_tuple (j:=j) (Q:=λr c=>r=w/\EP X pins σ Q r c) b (by grind) (by grind) (by rw[Jj,<- k];exact n) (by simpa using o) ⟨rfl,fin⟩) f
theorem jN (its:List Jo)(n j:Nat)(u:Jo):Obj.mapSeq (·.setIfInBounds j u) { cls:=.type "list",data:=.seq its.toArray n }={ cls:=.type "list",data:=.seq (its.set j u).toArray n }:=by
  simp[Obj.mapSeq]
theorem Inv.lst {pins:List (JI × Obj)}{σ:St}{H:Hp}{s:JO}{p:JI}{xs:List V}(I:Inv X pins σ H s)(h:H p=some (.lst xs)) :
    ∃ (its:List Jo) (n:Nat),Vals xs its/\s.heap.get? p=some { cls:=.type "list",data:=.seq its.toArray n }/\xs.length<=sizeLine:=by
  obtain⟨z,its,n,r,e⟩:=I.hok p _ h;exact⟨its,n,r,e,z⟩
theorem Inv.lstUpd {pins:List (JI × Obj)}{σ:St}{H:Hp}{s:JO}{p:JI}{xs ys:List V}{its its':List Jo}{n a:Nat}{f:Obj->Obj}(I:Inv X pins σ H s) (h:H p=some (.lst xs))
    (g:s.heap.get? p=some { cls:=.type "list",data:=.seq its.toArray n }) (c:f { cls:=.type "list",data:=.seq its.toArray n }={ cls:=.type "list",data:=.seq its'.toArray a }) (r:Vals ys its') (d:ys.length<=sizeLine) (t:Nat) :
    Inv X pins σ (upd H p (.lst ys)) { s with heap:=s.heap.update p f,toks:=t }:=by
  have e:(s.heap.update p f).get? p=some { cls:=.type "list",data:=.seq its'.toArray a }:=by
    rw[Ye f g (by rw[c]<;>rfl),c]
  refine I.write (x:=p) (e:=p) (by rw[h];trivial) (.inl rfl) (λb u i q=>(JV _ _ (Ne.symm i)).trans q) ⟨_,e⟩ ?_;exact⟨d,its',a,r,e⟩
def zdx:V->V->V->Hp->(Hp->Prop)->Prop:=λo i v H Q=>∃ p a k j,o=.ref p/\i=.int k/\H p=some (.lst a)/\ixN a.length k=some j/\Q (upd H p (.lst (a.set j v)))
theorem xC:PSet X zdx:=by
  intro pins s σ H o i v D E u Q I z A y h;obtain⟨p,x,k,j,rfl,rfl,f,C,q⟩:=h;cases z;obtain⟨t,rfl⟩:=A;obtain⟨a,n,r,c,B⟩:=I.lst f;obtain⟨b,G,l,g⟩:=iM C;have d:=r.length;have F:=rQ
  have w:Inv X pins σ (upd H p (.lst (x.set j v))) { s with heap:=s.heap.update p (Obj.mapSeq (·.setIfInBounds j u)) } :=
    I.lstUpd f c (jN a n j u) (r.set y j) (by rw[YG];exact B) s.toks
  by_cases m:0<=k
  · have e:k.toNat=j:=by
      rw[seqIndex_of m g]at b;exact Jq b
    exact PySem.W.ki_setAt c m (by grind) (by rw[Jj,<- d];exact g) (by rw[e];exact⟨_,w,q⟩)
  · have e:(k+(a.toArray.size:Int)).toNat=j:=by
      rw[seqIndex_neg (by simp_all) l]at b;rw[Jj,<- d];exact Jq b
    exact PySem.W.ki_setBack c (by simp_all) (by rw[Jj,<- d];exact l) (by grind) (by rw[e];exact⟨_,w,q⟩)
theorem oU (lo hi:Option Int)(n:Nat):(sliceBounds lo hi none n).1=((HT.sIx n 0 lo:Nat):Int)/\(sliceBounds lo hi none n).2.1=((HT.sIx n n hi:Nat):Int)/\(sliceBounds lo hi none n).2.2=1:=by
  refine⟨?_,?_,rfl⟩
  · cases lo with
    | none=>simp[sliceBounds,HT.sIx]
    | some i =>
      simp only[sliceBounds,HT.sIx,Option.getD_none,show (1:Int) > 0 by decide,Z6];by_cases h:i<0
      · simp only[h,Z6]<;>grind
      · simp only[h,ZD]<;>grind
  · cases hi with
    | none=>simp[sliceBounds,HT.sIx]
    | some i =>
      simp only[sliceBounds,HT.sIx,Option.getD_none,show (1:Int) > 0 by decide,Z6];by_cases h:i<0
      · simp only[h,Z6]<;>grind
      · simp only[h,ZD]<;>grind
theorem qU (its:List Jo)(lo hi:Option Int):slicePick its.toArray lo hi none=((its.drop (HT.sIx its.length 0 lo)).take (HT.sIx its.length its.length hi-HT.sIx its.length 0 lo)).toArray:=by
  obtain⟨c,b,a⟩:=oU lo hi its.toArray.size;unfold slicePick;rw[c,b,a];simp only[sliceRange_one,pick_run,Jj]<;>rfl
def zet (K:Jl):V->Option Int->Option Int->Hp->VK->Prop:=λx lo hi H Q=>∃ a b,x=.ref a/\SqL K H a b/\∀ p,H p=none->Q (.ref p) (upd H p (.lst (uJ b lo hi)))
theorem j3:SlR X (zet X.K):=by
  intro pins s σ H x v m l lo hi n Q I e j f pu h;obtain⟨a,c,rfl,i,q⟩:=h;cases e;obtain⟨k,r,d,g⟩:=I.list i;have hlen:=r.length;refine⟨"list",_,slot_list_getitem.lookup,d.isList.typeIs,?_⟩;refine wpAny_getItem_list_slice d.isList j f pu .none (by simp) ?_ (by rw[Jj]<;>simp_all);rw[qU,<- hlen];refine⟨.ref s.heap.objs.size,_,I.laid (t':=s.toks) (o:=.lst (uJ c lo hi)) (λb ob q=>J7 _ q) (Je _) ?_,rfl,q _ (I.hok.fresh (Je _))⟩;exact⟨JS (tG c lo hi) g,_,0,(r.drop (HT.sIx c.length 0 lo)).take (HT.sIx c.length c.length hi-HT.sIx c.length 0 lo),Jt _ rfl⟩
def wq:V->Bool
  | .non=>true
  | .bl _=>true
  | .int _=>true
  | .str _=>true
  | _=>false
def eqV:V->V->Bool
  | .non,.non=>true
  | .bl a,.bl b=>a == b
  | .bl a,.int b=>(if a then 1 else 0) == b
  | .int a,.bl b=>a == (if b then 1 else 0)
  | .int a,.int b=>a == b
  | .str a,.str b=>a == b
  | _,_=>false
theorem nK {A:YO}{s:JO}{y x:V}{u v:Jo}(e:RelV y u)(c:RelV x v)(g:wq y=true)(f:wq x=true):SeqAt.EqAt A s u v (eqV y x):=by
  cases y with
  | non =>
    cases e
    cases x with
    | non=>cases c;exact SeqAt.EqAt.same _
    | bl b=>cases c;exact SeqAt.EqAt.none_bool b
    | int b=>obtain⟨t,rfl⟩:=c;exact SeqAt.EqAt.none_int b t
    | str b=>obtain⟨t,rfl⟩:=c;exact SeqAt.EqAt.none_str b t
    | _=>exact absurd (show false=true from f) Jp
  | bl a =>
    cases e
    cases x with
    | non=>cases c;exact SeqAt.EqAt.bool_none a
    | bl b=>cases c;exact SeqAt.EqAt.bool_bool a b
    | int b=>obtain⟨t,rfl⟩:=c;exact SeqAt.EqAt.bool_int a b t
    | str b=>obtain⟨t,rfl⟩:=c;exact SeqAt.EqAt.bool_str a b t
    | _=>exact absurd (show false=true from f) Jp
  | int a =>
    obtain⟨d,rfl⟩:=e
    cases x with
    | non=>cases c;exact SeqAt.EqAt.int_none a d
    | bl b=>cases c;exact SeqAt.EqAt.int_bool a d b
    | int b=>obtain⟨t,rfl⟩:=c;exact SeqAt.EqAt.int_int a d b t
    | str b=>obtain⟨t,rfl⟩:=c;exact SeqAt.EqAt.int_str a d b t
    | _=>exact absurd (show false=true from f) Jp
  | str a =>
    obtain⟨d,rfl⟩:=e
    cases x with
    | non=>cases c;exact SeqAt.EqAt.str_none a d
    | bl b=>cases c;exact SeqAt.EqAt.str_bool a d b
    | int b=>obtain⟨t,rfl⟩:=c;exact SeqAt.EqAt.str_int a d b t
    | str b=>obtain⟨t,rfl⟩:=c;exact SeqAt.EqAt.str_str a d b t
    | _=>exact absurd (show false=true from f) Jp
  | _=>exact absurd (show false=true from g) Jp
def eqU (x:V)(u:Jo):Bool:=match u with
  | .none=>eqV .non x
  | .bool b=>eqV (.bl b) x
  | .int i _=>eqV (.int i) x
  | .str z _=>eqV (.str z) x
  | _=>false
theorem zah {x y:V}{u:Jo}(r:RelV y u)(f:wq y=true):eqU x u=eqV y x:=by
  cases y with
  | non=>cases r;rfl
  | bl b=>cases r;rfl
  | int i=>obtain⟨t,rfl⟩:=r;rfl
  | str z=>obtain⟨t,rfl⟩:=r;rfl
  | _=>exact absurd (show false=true from f) Jp
theorem nW {x:V}:∀ {xs:List V}{us:List Jo},Vals xs us->xs.all wq=true->us.any (eqU x)=xs.any λy=>eqV y x
  | _,_,.nil,_=>rfl
  | y::xs,u::us,.cons r t,f=>by
    rw[List.all_cons,Ym]at f;rw[List.any_cons,List.any_cons,zah r f.1,nW t f.2]
theorem rN {A:YO}{s:JO}{x:V}{v:Jo}(b:RelV x v)(c:wq x=true):∀ {xs:List V}{us:List Jo},Vals xs us->xs.all wq=true->∀ u∈us,SeqAt.EqAt A s u v (eqU x u)
  | _,_,.nil,_=>λu a=>by cases a
  | y::xs,u::us,.cons r t,f=>λd a=>by
    rw[List.all_cons,Ym]at f;rcases Jf.mp a with rfl|a
    · rw[zah r f.1];exact nK r b f.1 c
    · exact rN b c t f.2 d a
def inV (x:V)(xs:List V):Bool:=xs.any λy=>eqV y x
def rIn (K:Jl)(neg:Bool):R2:=λx y H Q=>∃ p a,y=.ref p/\(SqL K H p a\/SqT K H p a)/\wq x=true/\a.all wq=true/\Q (.bl (if neg then !inV x a else inV x a)) H
theorem qx:OpR X (compareOp .In) (rIn X.K false):=by
  intro pins s σ H x y v u Q I e g h;obtain⟨p,j,rfl,b,f,fs,q⟩:=h;cases g;rcases b with b|b
  · obtain⟨a,r,c,i⟩:=I.list b
    refine SeqAt.in_listAt (eqU x) c.isList (λw d=>rN e f r fs w (by simpa using d)) ⟨.bl _,H,I,rfl,?_⟩;rw[show a.toArray.any (eqU x)=a.any (eqU x) by simp,nW r fs];exact q
  · obtain⟨a,r,c,i⟩:=I.tuple b
    refine SeqAt.in_tupleAt (eqU x) c (λw d=>rN e f r fs w (by simpa using d)) ⟨.bl _,H,I,rfl,?_⟩;rw[show a.toArray.any (eqU x)=a.any (eqU x) by simp,nW r fs];exact q
theorem zZ:CallR X (.builtin "len") (λxs H Q=>∃ p ys,xs=[.ref p]/\(SqL X.K H p ys\/SqT X.K H p ys)/\Q (.int ys.length) H):=by
  intro pins s σ H xs g Q I r h;obtain⟨p,ys,rfl,a,q⟩:=h;obtain⟨u,rfl,e⟩:=qf r;cases e;have i:=rQ;rcases a with a|a
  · obtain⟨d,b,c,f⟩:=I.list a
    have hlen:=b.length;exact Calls.call_len_list c.isList (by simp only[Jj]<;>lia) ⟨.int ys.length,H,I.tok _,⟨s.toks+1,by rw[Jj,hlen]⟩,q⟩
  · obtain⟨d,b,c,f⟩:=I.tuple a
    have hlen:=b.length;exact len_tuple c (by simp only[Jj]<;>grind) ⟨.int ys.length,H,I.tok _,⟨s.toks+1,by rw[Jj,hlen]⟩,q⟩
theorem wW:CallR X (.type "list") (λxs H Q=>∃ p ys,xs=[.ref p]/\(SqL X.K H p ys\/SqT X.K H p ys)/\∀ l,H l=none->Q (.ref l) (upd H l (.lst ys))):=by
  intro pins s σ H xs x Q I r h;obtain⟨p,ys,rfl,i,q⟩:=h;obtain⟨u,rfl,w⟩:=qf r;cases w
  have fin:∀ (a:List Jo),Vals ys a->ys.length<=sizeLine->∀ (c:YP) (f:Nat),(∀ b v,s.heap.get? b=some v->c.get? b=some v) ->
      c.get? s.heap.objs.size=some { cls:=.type "list",dict:=none,data:=.seq a.toArray f,slots:=#[] }->EP X pins σ Q (.ref s.heap.objs.size) { s with heap:=c }:=λa d g c f kp e =>
    ⟨.ref s.heap.objs.size,_,I.laid (t':=s.toks) kp (Je _) (show ObjOk X.prog X.w _ c _ (.lst ys) from⟨g,a,f,d,e⟩),rfl,q _ (I.hok.fresh (Je _))⟩
  rcases i with i|i
  · obtain⟨a,d,j,g⟩:=I.list i
    have hlen:=d.length;obtain⟨o,k,t,n,m⟩:=j.isList;exact call_list_seq p (.inl rfl) k t m (λc f kp e=>fin a d g c f kp e) (by simp only[Jj]<;>simp_all)
  · obtain⟨a,d,j,g⟩:=I.tuple i
    have hlen:=d.length;obtain⟨o,k,t,n,m⟩:=j;exact call_list_seq p (.inr rfl) k t m (λc f kp e=>fin a d g c f kp e) (by simp only[Jj]<;>simp_all)
theorem yL:CallR X (.type "tuple") (λxs H Q=>∃ p ys,xs=[.ref p]/\((SqL X.K H p ys/\∀ l,H l=none->Q (.ref l) (upd H l (.tup ys)))\/(SqT X.K H p ys/\Q (.ref p) H))):=by
  intro pins s σ H xs n Q I r h;obtain⟨p,ys,rfl,h⟩:=h;obtain⟨u,rfl,k⟩:=qf r;cases k;rcases h with ⟨g,q⟩|⟨g,q⟩
  · obtain⟨a,d,f,i⟩:=I.list g
    have hlen:=d.length;refine call_tuple_list f.isList (λc kp=>?_) (by simp only[Jj]<;>simp_all);have j:Inv X pins σ H { s with heap:=c }:=I.kept (t':=s.toks) kp
    have m:Inv X pins σ (upd H c.objs.size (.tup ys)) { s with heap:=c.push { cls:=.type "tuple",data:=.seq a.toArray } } :=
      j.laid (t':=s.toks) (λb o e=>J7 _ e) (Je _) (show ObjOk X.prog X.w _ _ _ (.tup ys) from⟨i,a,d,TupX.new _ _⟩)
    exact⟨.ref c.objs.size,_,m,rfl,q _ (j.hok.fresh (Je _))⟩
  · obtain⟨a,d,f,i⟩:=I.tuple g
    exact call_tuple_same f ⟨.ref p,H,I,rfl,q⟩
def tyV (K:Jl)(T:String)(x:V)(H:Hp):Prop:=match x with
  | .str _=>T = "str"
  | .int _=>T = "int"
  | .ref p=>(T = "list"/\∃ b,SqL K H p b)\/(T = "tuple"/\∃ o,K.lookup p=some o/\o.cls=.type "tuple"/\o.dict=none) \/
      (T = "dict"/\((∃ a,H p=some (.dK a))\/∃ a,H p=some (.dT a)))\/(T = "set"/\∃ S n,H p=some (.set S n))
  | _=>False
theorem zb4 {pins:List (JI × Obj)}{σ:St}{H:Hp}{s:JO}{T:String}{x:V}{v:Jo}(I:Inv X pins σ H s)(r:RelV x v)(ty:tyV X.K T x H) :
    s.TypeIs v T/\∀ a,v=.ref a->∃ ob,s.heap.get? a=some ob/\ob.dict=none:=by
  cases x with
  | str z =>
    obtain⟨t,rfl⟩:=r;cases (show T = "str" from ty)
    exact⟨typeIs_str s z t,λ_ e=>nomatch e⟩
  | int i =>
    obtain⟨t,rfl⟩:=r;cases (show T = "int" from ty)
    exact⟨typeIs_int s i t,λ_ e=>nomatch e⟩
  | ref p =>
    cases r;rcases ty with ⟨rfl,l,h⟩|⟨rfl,o,b,j,d⟩|⟨rfl,b⟩|⟨rfl,S,n,b⟩
    · obtain⟨k,_,g,_⟩:=I.list h
      refine⟨g.isList.typeIs,λa e=>?_⟩;cases e;obtain⟨o,n,e,c,d,_⟩:=g;exact⟨o,e,d⟩
    · refine⟨⟨o,I.kIn p o b,j⟩,λa e=>?_⟩
      cases e;exact⟨o,I.kIn _ o b,d⟩
    · have z:∃ o,s.heap.get? p=some o/\o.ExactDict:=by
        rcases b with ⟨f,b⟩|⟨f,b⟩
        · obtain⟨_,_,_,_,o,_,_,e,ex,_⟩:=I.hok p _ b
          exact⟨o,e,ex⟩
        · obtain⟨_,_,_,_,o,_,_,e,ex,_⟩:=I.hok p _ b
          exact⟨o,e,ex⟩
      obtain⟨o,e,ex⟩:=z;refine⟨⟨o,e,ex.1⟩,λa e2=>?_⟩;cases e2;exact⟨o,e,ex.2.1⟩
    · obtain⟨o,_,_,_,e,ex,_⟩:=I.hok p _ b
      refine⟨⟨o,e,ex.1⟩,λa e2=>?_⟩;cases e2
      exact⟨o,e,ex.2.1⟩
  | _=>exact False.elim ty
def tBM (K:Jl)(T:String)(r:V->List V->Hp->VK->Prop)(to:TE)(t:TA):TE:=λσ H Q=>to σ H λx a=>tyV K T x a/\t σ a λb c=>r x b c Q
variable {o e:Expr}{es:List Expr}{to:TE}{t:TA}{name:Str}{apos cpos:Pos}{T id:String}{r:V->List V->Hp->VK->Prop}
theorem mD (w:PlainAttrs T) (slot:Slot T name id) (f:typeOf (.builtin id)=pure (.type "method_descriptor")) (hm:MtR X id r) (z:PE X o to) (ha:PA X (e::es) t)
    (c:attributeBase o name X.env (eval o X.env)=eval o X.env:=by rfl)
    (d:((backTo cpos (starEach (e::es) X.env)).all (λx=>!x.1) && (backToKw cpos (keywordEach [] X.env)).all (λx=>x.1.isSome)
      && decide ((e::es).length+([]:List Keyword).length+(if ([]:List Keyword).isEmpty then 0 else 1)<30))=true:=by rfl)
    (b:(apos.endLine == cpos.line)=true:=by rfl) (y:starEach (e::es) X.env=(false,eval e X.env)::starEach es X.env:=by rfl) (a:(backTo cpos (starEach es X.env)).any (·.1)=false:=by rfl) :
    PE X (.Call (.Attribute o name apos) (e::es) [] cpos) (tBM X.K T r to t):=by
  intro pins s σ H Q I h;refine wpAny_Call_method_late c d b rfl (thn (z pins s σ H _ I h) λv n ⟨x,E,j,g,ty,u⟩=>?_);obtain⟨B,A⟩:=zb4 j g ty;refine⟨T,id,w,slot,f,B,A,?_⟩;have i:=ha cpos pins n σ E _ j u;rw[y]at i ⊢;refine W6 (by show (false || (backTo cpos (starEach es X.env)).any (·.1))=false;rw[a]<;>rfl) (Calls.evalArgs_plain ?_);exact thn i λl m ⟨k,D,C,p,q⟩=>hm pins m σ D x k v l Q C g p q
end
def MtM (X:Cx)(id:String)(r:V->List V->Hp->VK->Prop):Prop :=
  ∀ (pins:List (JI × Obj)) (s:JO) (σ:St) (H:Hp) (x:V) (a:List V) (v:Jo) (b:List Jo) (Q:VK),Inv X pins σ H s->RelV x v->Vals a b->r x a H Q ->
    wpAny (model X.prog X.w) X.A (call (.builtin id) (v::b)) (EP X pins σ Q) X.xe s
theorem Vals.one:∀ {x:V}{us:List Jo},Vals [x] us->∃ u,us=[u]/\RelV x u
  | _,_,.cons r .nil=>⟨_,rfl,r⟩
theorem Vals.two:∀ {x y:V}{us:List Jo},Vals [x,y] us->∃ u v,us=[u,v]/\RelV x u/\RelV y v
  | _,_,_,.cons r (.cons q .nil)=>⟨_,_,rfl,r,q⟩
theorem Vals.rep {xs:List V}{us:List Jo}(h:Vals xs us):∀ k:Nat,Vals (List.replicate k xs).flatten (List.replicate k us).flatten
  | 0=>.nil
  | k+1=>by
    rw[Y9,Y9,W7,W7];exact Vals.append h (Vals.rep h k)
theorem pQ (its:List Jo):∀ (k:Nat) (acc:List Jo),
    List.foldl (λb a=>b++a) acc.toArray (List.replicate k its.toArray)=(acc++(List.replicate k its).flatten).toArray
  | 0,acc=>by simp
  | k+1,acc=>by
    have e:acc.toArray++its.toArray=(acc++its).toArray:=by simp
    have e2:(acc++its)++(List.replicate k its).flatten=acc++(List.replicate (k+1) its).flatten:=by
      rw[Y9,W7,JK]
    rw[<- e2,<- pQ its k (acc++its),<- e,Y9,ZE]
section
variable {X:Cx}{pins:List (JI × Obj)}{σ:St}{H:Hp}{s:JO}{l:JI}{xs ys:List V}
theorem Inv.lset {its its':List Jo}{n:Nat}{f:Array Jo->Array Jo}{t':Nat}(I:Inv X pins σ H s) (h:H l=some (.lst xs))
    (e:s.heap.get? l=some { cls:=.type "list",data:=.seq its.toArray n }) (d:f its.toArray=its'.toArray) (b:Vals ys its') (a:ys.length<=sizeLine) :
    Inv X pins σ (upd H l (.lst ys)) { s with heap:=s.heap.update l (Obj.mapSeq f),toks:=t' }:=by
  have q:=PySem.IsL.update e f;rw[d]at q;refine I.write (x:=l) (e:=l) (by rw[h];exact trivial) (.inl rfl) (λi u g c=>(JV s.heap (Obj.mapSeq f) (Ne.symm g)).trans c) ⟨_,q⟩ ?_;exact⟨a,its',_,b,q⟩
theorem Inv.lnew {its:List Jo}{t':Nat}(I:Inv X pins σ H s)(a:Vals ys its)(hz:ys.length<=sizeLine) :
    Inv X pins σ (upd H s.heap.objs.size (.lst ys)) { s with heap:=s.heap.push { cls:=.type "list",data:=.seq its.toArray },toks:=t' } :=
  I.laid (λ_ _ q=>J7 _ q) (Je _) ⟨hz,its,0,a,Jt _ rfl⟩
theorem Inv.fresh (I:Inv X pins σ H s):H s.heap.objs.size=none:=I.hok.fresh (Je _)
theorem Inv.lstM (I:Inv X pins σ H s)(a:H l=some (.lst xs)):xs.length<=sizeLine/\∃ (its:List Jo) (n:Nat),Vals xs its/\xs.length=its.length/\s.heap.get? l=some { cls:=.type "list",data:=.seq its.toArray n }:=by
  obtain⟨z,its,n,r,e⟩:=I.hok l _ a;exact⟨z,its,n,r,r.length,e⟩
theorem aL {n:Nat}(h:n<=sizeLine):Builtin.List.listTooLong n=false:=by
  unfold Builtin.List.listTooLong;exact Jr (by simp_all)
end
section
variable {X:Cx}
def rAppend:V->List V->Hp->VK->Prop:=λx b H Q=>∃ l a y,x=.ref l/\b=[y]/\H l=some (.lst a)/\a.length<sizeLine/\Q .non (upd H l (.lst (a++[y])))
theorem xM:MtM X "list.append" rAppend:=by
  intro pins s σ H x i v j Q I c d h;obtain⟨l,g,y,rfl,rfl,b,k,q⟩:=h;cases c;obtain⟨u,rfl,f⟩:=d.one;obtain⟨z,a,n,r,m,e⟩:=I.lstM b;refine call_meets F.slot_list_append ⟨_,e,rfl⟩ F.entry_list_append (F.args_list_append_2 _ _) (PySem.list_append l a.toArray n u (by rw[Jj];simp_all)) ⟨e,?_⟩;refine⟨.non,_,I.lset (its':=a++[u]) b e (by simp) (r.append (.cons f .nil)) ?_,rfl,q⟩;rw[Jn,List.length_singleton]
  grind
def zey:R2:=λx y H Q=>∃ l b c a,x=.ref l/\y=.ref b/\H l=some (.lst c)/\H b=some (.lst a)/\c.length+a.length<=sizeLine/\∀ p,H p=none->Q (.ref p) (upd H p (.lst (c++a)))
theorem jB:OpR X (binaryOp .Add) zey:=by
  intro pins s σ H x y v u Q I f d h;obtain⟨l,b,t,o,rfl,rfl,i,j,A,q⟩:=h;cases f;cases d;obtain⟨z,c,n,r,B,e⟩:=I.lstM i;obtain⟨p,a,w,g,m,e2⟩:=I.lstM j;refine PySem.P.add_list e e2 ?_ (by rw[Jj,Jj];simp_all);have k:c.toArray++a.toArray=(c++a).toArray:=by simp
  rw[k];exact⟨.ref _,_,I.lnew (t':=s.toks) (r.append g) (by rw[Jn];omega),rfl,q _ I.fresh⟩
def zeu:R2:=λx y H Q=>∃ l k a,x=.ref l/\y=.int k/\H l=some (.lst a)/\-(2 ^ 63)<=k/\k<2 ^ 63/\a.length*k.toNat<=sizeLine /\
  ∀ p,H p=none->Q (.ref p) (upd H p (.lst (List.replicate k.toNat a).flatten))
theorem zbt {α:Type}(xs:List α)(k:Nat):(List.replicate k xs).flatten.length=k*xs.length:=by
  induction k with
  | zero=>simp
  | succ k ih=>rw[Y9,W7,Jn,ih,Nat.succ_mul,Nat.add_comm]
theorem zcz:OpR X (binaryOp .Mult) zeu:=by
  intro pins s σ H x y v u Q I A w h;obtain⟨l,k,J,rfl,rfl,C,E,D,o,q⟩:=h;cases A;obtain⟨t,rfl⟩:=w;obtain⟨z,b,n,r,B,e⟩:=I.lstM C;have hlen:b.toArray.size*k.toNat<=sizeLine:=by rw[Jj,<- B];exact o
  have g:¬ b.toArray.size*k.toNat > (2 ^ 63-1) / 8:=by
    have:(sizeLine:Nat)<=(2 ^ 63-1) / 8:=by decide
    lia
  have f:¬(!Builtin.List.listFitsIndex k)=true:=by
    rw[fitsIndex_both E D];exact Jp
  have c:¬ Builtin.List.listTooLong (b.toArray.size*k.toNat)=true:=by
    rw[aL hlen];exact Jp
  have d:List.foldl (λj i=>j++i) #[] (List.replicate (if b.toArray.isEmpty=true then 0 else k.toNat) b.toArray)=(List.replicate k.toNat b).flatten.toArray:=by
    have G:∀ m:Nat,List.foldl (λj i=>j++i) #[] (List.replicate m b.toArray)=(List.replicate m b).flatten.toArray:=λm=>by
      have:=pQ b m [];rw[Zk]at this;exact this
    rw[G]
    cases b with
    | nil=>simp
    | cons a K=>rw[Jc (by simp)]
  refine wpAny_binaryOp_repeat_ref (T:="list") (U:="int") (by decide) ⟨_,e,rfl⟩ (λp=>typeIs_int p k t) noFill_list_mul F.fills_int_mul F.slot_int_rmul repeat_list F.slot_int_index.lookup
    (call_meets F.slot_int_rmul (typeIs_int s k t) F.entry_int_rmul (F.args_int_rmul_2 _ _) (int___rmul___int_list k t l b.toArray n)
      ⟨e,rfl,⟨_,e,rfl⟩,call_meets F.slot_list_mul ⟨_,e,rfl⟩ F.entry_list_mul (F.args_list_mul_2 _ _) (AutoListH.list___mul___list_int_3 l b.toArray n k t f g c) ⟨e,?_⟩⟩)
  rw[d];exact⟨.ref _,_,I.lnew (t':=s.toks) (r.rep k.toNat) (by rw[zbt,Nat.mul_comm];exact o),rfl,q _ I.fresh⟩
end
end L2
namespace Att
open PySem PySem.W PySem.Calls PyProof.Rows
theorem tL {P:Params}{h:YP}:∀ (ns:List Int) (vs:List Jo),WellAll P h vs (ns.map WData.int)->IntsAre vs ns:=by
  intro ns
  induction ns with
  | nil =>
    intro vs w;rw[List.map_nil]at w;cases w
    exact .nil
  | cons n ns ih =>
    intro vs w;rw[JR]at w
    cases w with
    | cons a b =>
      cases a;exact .cons _ _ (ih _ b)
theorem gN {l:OpenLaw}{n:Nat}(hn:l.most=some n){P:Params}{h:YP}{args:List WData}{vals:List Jo}(b:l.row.toRowW.claim.pre args=true)(g:WellAll P h vals args) :
    ∃ a vs ns,vals=[Value.ref a]/\args=[WData.list (ns.map WData.int)]/\h.get? a=some { cls:=.type "list",data:=.seq vs.toArray }/\IntsAre vs ns/\ns.length<=n:=by
  have i:WShape.hasAll [] args [.list .int]=true:=(pre_splitW b).1;have j:l.pre.holds [] { args:=args }=true:=(pre_splitW b).2;obtain⟨d,r,rfl,u,t⟩:=hasAllW_cons i;obtain rfl:=hasAllW_nil t;obtain⟨v,rfl,s⟩:=hasW_list u;obtain⟨ns,rfl⟩:=items_int s
  have hlen:ns.length<=n:=by
    unfold OpenLaw.pre at j
    have f:(WTm.not (.lt (.lit (.int (n:Int))) (.len (.arg 0)))).holds [] { args:=[.list (ns.map .int)] }=true:=by
      have f:=(holds_andW j).1;rw[hn]at f;exact f
    have e:=condW_of f (w_not (w_lt w_lit (w_len_list (w_arg rfl))));rw[Jb]at e;refine Nat.le_of_not_lt λq=>?_;have o:(n:Int)<((ns.length:Nat):Int):=by simp_all
    first
      | (rw[Jy o]at e;exact absurd e (by decide))
      | (simp at e;omega)
  cases g with
  | cons m k =>
    cases k
    cases m with
    | list p c=>exact⟨_,_,ns,rfl,rfl,p,tL ns _ c,hlen⟩
theorem gZ (l:OpenLaw)(args:List WData):l.row.toRowW.claim.post args (.bool true) args=true :=
  postW_of (r:=l.row.toRowW) (X:=(true == true))
    (show WShape.has [] (.bool true) .bool=true by first|rfl|decide|simp[WShape.has,WShape.arms,WShape.armsAll])
    (show (WTm.eq .res (.lit (.bool true))).value [] { args:=args,res:=some (.bool true),after:=args }=some (.bool (true == true)) from w_eq_bool (w_res rfl) w_lit) rfl
theorem attach_call {l:OpenLaw}{n:Nat}{q:Yo}{loose:List Str}{t:(Str->Option Jo)->YP->Prop}{s:YI->YP->Prop}{d:DefRec}
    (hn:l.most=some n) (k:d.params.defaults=[])
    (call:∀ (w:YI) (s₀ b:JO) (mg mb:Str->Option Jo) (c:JI) (o:Obj) (pm cd doc:Jo) (a:JI) (vs:List Jo) (ns:List Int),
      Ground q loose [] t w s₀ mg mb b.heap->s w b.heap ->
      b.heap.get? c=some o->o.data=.func (docDef d.name d.params d.body d.scope pm cd doc)->b.heap.CodeRec cd d.name->mg d.name=some (.ref c) ->
      b.heap.get? a=some { cls:=.type "list",data:=.seq vs.toArray }->IntsAre vs ns->ns.length<=n->b.gens = #[] ->
      codeAny (model l.prog w) callerA (.call (.ref c) ⟨[.ref a],[]⟩) (λr h=>r=.ok (.ret (.bool true))/\OldK b.heap h.heap/\h.os=b.os/\AllBare h.gens) b) :
    WalkO q loose t s l.row.toRowW d [] (λf vs=>PySem.call f vs):=by
  intro w s₀ b mg mb G Y c o pm cd doc E kV x A m p j z args vals as e u F i H;obtain rfl:E=.none:=Dflts.none p k;obtain rfl:kV=.none:=Dflts.noKw p;obtain⟨a,vs,ns,rfl,rfl,g,hints,hlen⟩:=gN hn e i;refine enter_call (codeAny_mono (call w s₀ b mg mb c o pm cd doc a vs ns G Y x (fd_plain A) m j g hints hlen z) λr h v=>?_);obtain⟨rfl,D,C,B⟩:=v;exact⟨.inl ⟨.bool true,.bool true,[],rfl,λ_=>rfl,.bool true,gZ l _,λ_=>⟨List.Pairwise.nil,λ_ y=>(nomatch y)⟩⟩,D,C,B⟩
section
def zeB (h:YP)(L d:JI):List (JI × Obj):=(List.range h.objs.size).filterMap λa=>if a=L\/a=d then none else (h.get? a).map λo=>(a,o)
end
end Att
namespace L2
open PySem PySem.Spec PyProof.Rows
theorem qd:∀ {vs:List Jo}{ns:List Int},IntsAre vs ns->Vals (ns.map V.int) vs
  | _,_,.nil=>.nil
  | _,_,.cons n t h=>.cons ⟨t,rfl⟩ (qd h)
abbrev KOf {K:Jl}{h:YP}(_:K.In h):Jl:=K
def xZ (s:Stmt):Arguments:=match s with
  | .FunctionDef _ a _ _ _ _ _ _ _ _=>a
  | _=>{ posonlyargs:=[],args:=[],vararg:=none,kwonlyargs:=[],kw_defaults:=[],kwarg:=none,defaults:=[] }
def yo (s:Stmt):List Stmt:=match s with
  | .FunctionDef _ _ b _ _ _ _ _ _ _=>b
  | _=>[]
def zN (s:Stmt):Scope:=match s with
  | .FunctionDef _ _ _ _ _ _ sc _ _ _=>sc
  | _=>{ kind:=.function,names:=[],isGenerator:=false,isCoroutine:=false }
abbrev CX0:CXT:=λ_ _ _ _ _ _=>False
abbrev E0:XK:=λ_ _ _=>False
theorem uw {X:Cx}:Passes CX0 X E0:=λ_ _ _ _ _ _ _ h=>h.elim
structure Fun (K:Jl) (x qual:Str) (st:Stmt) (f:JI) (fd:Yl):Prop where
  ex:∃ (oc:Jo) (od:Option JI) (kV doc pm:Jo) (an:Option JI) (cdv ct:Jo) (osl:Array (Option Jo)),
    fd=PySem.W.fnOf x qual (xZ st) (yo st) (zN st) .none kV doc pm an cdv ct/\K.lookup f=some ⟨oc,od,.func fd,osl⟩/\PySem.W.codeIn K cdv qual=true
  kp:PySem.W.keepIn K (.ref f)=true
section
variable {P:Yo}{w:YI}{K:Jl}{mg:Str->Option Jo}{base:YP}
theorem Fun.ok {x qual:Str}{st:Stmt}{f:JI}{fd:Yl}{N ps:List Str}{k:Nat}{sp:Sp}(F:Fun K x qual st f fd)(S:FnScope N ps (zN st))(len:∀ vs H Q E,sp vs H Q E->vs.length=ps.length)(a:∀ (cdv:Jo) (A:YO) (outer:List Env) (s:JO) (H:Hp) (vs:List V) (Q:VK) (E:XK),Room k (A.deeper (envOfC qual (zN st) s.heap.objs.size f cdv))->sp vs H Q E ->
      ∃ t,PSs (jh CX0 P w K mg base N qual (zN st) f cdv A outer s H E).nox (yo st) t/\t { nx:=λ_ g=>Q .non g,rt:=Q } (wb N vs) H):FnOk P w K mg base CX0 (k+1) f fd ps sp:=by
  obtain⟨l,j,kV,doc,pm,an,cdv,m,i,rfl,d,c⟩:=F.ex;refine zb0 d c S len λA outer s H vs Q E e b=>?_;obtain⟨t,h,q⟩:=a cdv A outer s H vs Q E e b;exact⟨t,h.nox,q⟩
theorem Fun.binds {x qual:Str}{st:Stmt}{f:JI}{fd:Yl}{ps:List Str}(F:Fun K x qual st f fd)(h:∀ (kV doc pm:Jo) (an:Option JI) (cdv ct:Jo) (us:List Jo),us.length=ps.length->bindArgs (PySem.W.fnOf x qual (xZ st) (yo st) (zN st) .none kV doc pm an cdv ct) ⟨us,[]⟩=pure (ps.zip us)):Binds K fd ps []:=by
  obtain⟨d,c,kV,doc,pm,an,cdv,ct,a,rfl,e,b⟩:=F.ex;exact .all (h kV doc pm an cdv ct)
theorem zc4 {x qual:Str}{st:Stmt}{f:JI}{oc:Jo}{od an:Option JI}{osl:Array (Option Jo)}{kV doc pm cdv ct:Jo}(l:K.lookup f=some ⟨oc,od,.func (PySem.W.fnOf x qual (xZ st) (yo st) (zN st) .none kV doc pm an cdv ct),osl⟩)(c:PySem.W.codeIn K cdv qual=true)(k:PySem.W.keepIn K (.ref f)=true):Fun K x qual st f (PySem.W.fnOf x qual (xZ st) (yo st) (zN st) .none kV doc pm an cdv ct):=⟨⟨oc,od,kV,doc,pm,an,cdv,ct,osl,rfl,l,c⟩,k⟩
end
section
variable {X:Cx}
theorem pv (i:Nat) {x:Str}{pos:Pos}(d:X.N[i]?=some x:=by rfl) (b:Vis X.env.scope x:=by first|exact Or.inl rfl|exact Or.inr (.inl rfl)|exact Or.inr (.inr rfl)) (c:(x == ("__debug__":Str))=false:=by decide)
    (a:(x == ("__classdict__":Str))=false:=by decide):PE X (.Name x pos) (lh i):=bf d b c a
theorem qv (i:Nat) {x:Str}{pos:Pos}(h:X.N[i]?=some x/\Vis X.env.scope x/\(x == ("__debug__":Str))=false/\(x == ("__classdict__":Str))=false):PE X (.Name x pos) (lh i):=bf h.1 h.2.1 h.2.2.1 h.2.2.2
end
theorem yR {A B:Prop}(h:B):if false=true then A else B:=by
  rw[Jc Jp];exact h
theorem xH {A B:Prop}(h:A):if true=true then A else B:=by
  rw[Jh rfl];exact h
theorem zbA {c A B:Prop}[Decidable c](b:c->A)(a:¬ c->B):if c then A else B:=by
  by_cases h:c
  · rw[Jh h]
    exact b h
  · rw[Jc h]
    exact a h
def Same (H H':Hp):Prop:=∀ b o,H b=some o->H' b=some o
theorem Same.refl (H:Hp):Same H H:=λ_ _ h=>h
theorem Same.trans {H e d:Hp}(a:Same H e)(b:Same e d):Same H d:=λc o h=>b c o (a c o h)
end L2
set_option maxHeartbeats 4000001
namespace L2
open PySem PySem.Spec PyProof.Rows
def vI (cells:List (Str × JI)):List (Str × NameKind)->List (Str × JI)->List (Str × JI)
 | [],cs=>cs
 | (n,k)::r,cs=>if k == .free then vI cells r ((n,(cells.lookup n).getD 0)::cs) else vI cells r cs
theorem qK {env:Env}:∀ (names:List (Str × NameKind)) (cs:List (Str × JI)),(∀ y∈names,y.2=.free->∃ c,env.cells.lookup y.1=some c) ->
  (forIn names cs λx r=>match x with|(name,kind)=>if (kind == NameKind.free)=true then (do let a <- cellOf env name;pure (ForInStep.yield ((name,a)::r))) else pure (ForInStep.yield r):Sem (List (Str × JI)))=pure (vI env.cells names cs)
 | [],cs,_=>rfl
 | (n,k)::r,cs,h=>by
  rw[Yz];by_cases e:(k == NameKind.free)=true
  ·obtain⟨c,g⟩:=h (n,k) Jz (by simpa using e)
   have d:cellOf env n=pure c:=by
    have b:env.cells.lookup n=some c:=g;unfold cellOf;rw[b]
   simp only[e,Z6,d,pure_bind];rw[qK r _ λy f=>h y (Jw _ f)];have b:env.cells.lookup n=some c:=g;show _=pure (if (k == NameKind.free)=true then _ else _);rw[Jh e,b];rfl
  ·have i:(k == NameKind.free)=false:=by simpa using e
   simp only[i,Yx,ZD,pure_bind];rw[qK r _ λy f=>h y (Jw _ f)];show _=pure (if (k == NameKind.free)=true then _ else _);rw[Jc e]
theorem vc {scope:Scope}{env:Env}(h:∀ y∈scope.names,y.2=.free->∃ c,env.cells.lookup y.1=some c):closureFor scope env=pure (vI env.cells scope.names []):=by
 unfold closureFor;show (forIn scope.names [] _ >>= λr=>pure r)=_;rw[bind_pure];exact qK _ _ h
theorem wu {cells:List (Str × JI)}:∀ (names:List (Str × NameKind)) (cs:List (Str × JI)) (x:Str) (c:JI),(∀ y∈names,y.2=.free->∃ c,cells.lookup y.1=some c) ->
  (∀ x c,cs.lookup x=some c->cells.lookup x=some c)->(vI cells names cs).lookup x=some c->cells.lookup x=some c
 | [],cs,x,c,_,f,e=>f x c e
 | (n,k)::r,cs,x,c,h,f,e=>by
  unfold vI at e;by_cases q:(k == NameKind.free)=true
  ·rw[Jh q]at e
   obtain⟨m,l⟩:=h (n,k) Jz (by simpa using q);refine wu r _ x c (λy g=>h y (Jw _ g)) (λd o a=>?_) e;rw[YH]at a
   cases i:d == n with
   | true =>
    rw[i]at a;have j:d=n:=by simpa using i
    subst j;have b:cells.lookup d=some m:=l;rw[b]at a ⊢
    exact a
   | false =>
    rw[i]at a;exact f d o a
  ·rw[Jc q]at e
   exact wu r _ x c (λy g=>h y (Jw _ g)) f e
theorem uq {cells:List (Str × JI)}:∀ (names:List (Str × NameKind)) (cs:List (Str × JI)) (x:Str),(∃ c,cs.lookup x=some c)->∃ c,(vI cells names cs).lookup x=some c
 | [],cs,x,e=>e
 | (n,k)::r,cs,x,e=>by
  unfold vI;by_cases q:(k == NameKind.free)=true
  ·rw[Jh q]
   refine uq r _ x ?_;rw[YH]
   cases a:x == n with
   | true=>exact⟨_,rfl⟩
   | false=>exact e
  ·rw[Jc q]
   exact uq r _ x e
theorem xT {cells:List (Str × JI)}:∀ (names:List (Str × NameKind)) (cs:List (Str × JI)) (x:Str),names.lookup x=some .free->∃ c,(vI cells names cs).lookup x=some c
 | [],cs,x,e=>by simp at e
 | (n,k)::r,cs,x,e=>by
  rw[YH]at e;unfold vI
  cases a:x == n with
  | true =>
   rw[a]at e;have b:k=.free:=Jq e;subst b;rw[Jh (by decide)];refine uq r _ x ?_;rw[YH,a]
   exact⟨_,rfl⟩
  | false =>
   rw[a]at e;by_cases q:(k == NameKind.free)=true
   ·rw[Jh q];exact xT r _ x e
   ·rw[Jc q];exact xT r _ x e
def zav (env:Env)(p:Str × NameKind):Bool:=p.2 == .free && env.scope.kind == .function && env.kindOf p.1 == some .cell
def vC (env:Env)(p:Str × NameKind):Str × NameKind:=if zav env p=true then (p.1,.cell) else p
theorem u9 (env:Env)(p:Str × NameKind):(vC env p).1=p.1:=by unfold vC;split<;>rfl
theorem u7 (env:Env)(p:Str × NameKind):(vC env p).2=p.2\/((vC env p).2=.cell/\p.2=.free):=by
 unfold vC;split
 ·rename_i h
  refine .inr ⟨rfl,?_⟩;unfold zav at h;cases e:p.2<;>simp[e]at h<;>rfl
 ·exact .inl rfl
theorem vK (scope:Scope)(env:Env):(relabel scope env).names=scope.names.map (vC env):=rfl
theorem rP {f:Str × NameKind->Str × NameKind}(a:∀ p,(f p).1=p.1):∀ (l:List (Str × NameKind)) (x:Str),(l.map f).lookup x=none/\l.lookup x=none\/∃ p∈l,(l.map f).lookup x=some (f p).2/\l.lookup x=some p.2
 | [],_=>.inl ⟨rfl,rfl⟩
 | p::r,x=>by
  have c:((p::r).map f).lookup x=if x == p.1 then some (f p).2 else (r.map f).lookup x:=by
   show List.lookup x (((f p).1,(f p).2)::r.map f)=_;rw[YH,a p];cases x == p.1<;>rfl
  have e2:(p::r).lookup x=if x == p.1 then some p.2 else r.lookup x:=by
   show List.lookup x ((p.1,p.2)::r)=_;rw[YH];cases x == p.1<;>rfl
  rw[c,e2];cases x == p.1
  ·rcases rP a r x with z|⟨q,b,z⟩
   ·exact .inl z
   ·exact .inr ⟨q,Jw _ b,z⟩
  ·exact .inr ⟨p,Jz,rfl,rfl⟩
theorem yz {scope:Scope}{env:Env}{x:Str}{a:NameKind}(h:(relabel scope env).names.lookup x=some a):scope.names.lookup x=some a\/(a=.cell/\scope.names.lookup x=some .free):=by
 rw[vK]at h;rcases rP (u9 env) scope.names x with ⟨z,_⟩|⟨p,_,z,e⟩
 ·rw[z]at h;cases h
 ·rw[z]at h
  obtain rfl:=Jq h;rcases u7 env p with q|⟨q,b⟩
  ·rw[q];exact .inl e
  ·exact .inr ⟨q,by rw[e,b]⟩
theorem wJ {scope:Scope}{env:Env}{x:Str}(h:scope.names.lookup x=some .free):(relabel scope env).names.lookup x=some .cell\/(relabel scope env).names.lookup x=some .free:=by
 rw[vK];rcases rP (u9 env) scope.names x with ⟨_,z⟩|⟨p,_,z,e⟩
 ·rw[z]at h;cases h
 ·rw[e]at h
  rcases u7 env p with q|⟨q,_⟩
  ·rw[z,q,h];exact .inr rfl
  ·rw[z,q];exact .inl rfl
def yW (X:Cx)(N':List Str)(scope:Scope)(C:JI)(s₀:JO)(H₀:Hp)(fp:List JI)(pins:List (JI × Obj)):Cx :=
 { X with N:=N',s₀:=s₀,H₀:=H₀,env:=compEnvC scope (vI X.env.cells scope.names []) C X.env,outer:=X.stack,stack:=X.stack,ex:=fp,fn:=λ_=>false,pn:=X.pn++pins,xe:=λ_ _=>False }
def nP (cap:List (Option Nat))(σ:St):St:=cap.map λo=>match o with|some i=>(match σ[i]? with|some v=>v|none=>none)|none=>none
def tst (M:Model)(A:YO)(env:Env)(E:Jo->JO->Prop)(o:Option Expr)(Q:Bool->JO->Prop)(s:JO):Prop:=match o with
 | none=>Q true s
 | some c=>wpAny M A (isTrue c env (eval c env)) Q E s
theorem nq {M:Model}{A:YO}{env:Env}{E:Jo->JO->Prop}{o:Option Expr}{Q a:Bool->JO->Prop}{s:JO}(h:tst M A env E o Q s)(k:∀ b z,Q b z->a b z):tst M A env E o a s:=by
 cases o with
 | none=>exact k _ _ h
 | some c=>exact thn h k
def PTo (X:Cx)(o:Option Expr)(t:TT):Prop :=
 ∀ (pins:List (JI × Obj)) (s:JO) (σ:St) (H:Hp) (Q:Bool->Hp->Prop),Inv X pins σ H s->t σ H Q->tst (model X.prog X.w) X.A X.env X.xe o (TP X pins σ Q) s
def gG:TT:=λ_ H Q=>Q true H
theorem xX {X:Cx}:PTo X none gG:=λ_ _ _ H _ I h=>⟨H,I,h⟩
theorem zaY {X:Cx}{c:Expr}{t:TT}(h:PT X c t):PTo X (some c) t:=λpins s σ H Q I a=>h pins s σ H Q I a
abbrev NoX:Jo->JO->Prop:=λ_ _=>False
def Go (M:Model)(A:YO)(tg elt:Expr)(o:Option Expr)(it acc:Jo)(env:Env)(R:Result->JO->Prop)(g:JO->Prop)(s:JO):Prop :=
 wpAny M A (pyNext it) (λr a=>match r with
  | none=>R (.ok .next) a
  | some v=>wpAny M A (letOwnedTupleGo tg it v) (λ_ b=>wpAny M A (assign tg env v) (λ_ c=>tst M A env NoX o (λyes d =>
    if yes=true then wpAny M A (eval elt env) (λx e=>wpAny M A (call (.builtin "list.append") [acc,x]) (λ_ f=>g f) NoX e) NoX d else g d) c) NoX b) NoX a) NoX s
theorem df {prog:Yo}{w:YI}{A:YO}{R:Result->JO->Prop}{s:JO}{elt tg iter:Expr}{o:Option Expr}{scope:Scope}{pos:Pos}{it acc:Jo}{env:Env}(J:Nat->JO->Prop)(turn:∀ n s,J n s->Go (model prog w) A tg elt o it acc env R (λz=>∃ m,m<n/\J m z) s)(n:Nat)(h:J n s) :
  codeAny (model prog w) A (.compLoop (.ListComp elt [⟨tg,iter,o.toList,0⟩] scope pos) 0 it acc env) R s:=by
 cases o with
 | none =>
  refine PySem.W.kcp_loop J (λn a l=>JQ (turn n a l) (λr b g=>?_) λ_ _ z=>z.elim) n h
  cases r with
  | none=>exact g
  | some v=>exact JQ g (λ_ c k=>JQ k (λ_ d j=>JQ (show wpAny _ _ _ _ _ d from j) (λx e i=>JQ i (λ_ _ q=>q) λ_ _ z=>z.elim) λ_ _ z=>z.elim) λ_ _ z=>z.elim) λ_ _ z=>z.elim
 | some t =>
  refine PySem.W.kct_loop J (λn a l=>JQ (turn n a l) (λr b g=>?_) λ_ _ z=>z.elim) n h
  cases r with
  | none=>exact g
  | some v =>
   refine JQ g (λ_ c k=>JQ k (λ_ d j=>JQ (show wpAny _ _ _ _ _ d from j) (λyes e i=>?_) λ_ _ z=>z.elim) λ_ _ z=>z.elim) λ_ _ z=>z.elim;cases yes
   ·exact i
   ·exact JQ (show wpAny _ _ _ _ _ e from i) (λx f p=>JQ p (λ_ _ q=>q) λ_ _ z=>z.elim) λ_ _ z=>z.elim
structure CapOk (N N':List Str) (sc scope:Scope) (cap:List (Option Nat)):Prop where
 kind:scope.kind=.function
 nocell:∀ y∈scope.names,y.2≠.cell
 names:∀ y∈scope.names,y.2=.local -> scope.names.lookup y.1=some .local
 free:∀ y∈scope.names,y.2=.free->sc.names.lookup y.1=some .cell\/sc.names.lookup y.1=some .free
 len:cap.length=N'.length
 cap:∀ p∈N'.zip cap,∀ i,p.2=some i->N[i]?=some p.1/\scope.names.lookup p.1=some .free/\(sc.names.lookup p.1=some .cell\/sc.names.lookup p.1=some .free)
theorem wQ {α:Type}:∀ {l:List (Str × α)}{x:Str}{a:α},l.lookup x=some a->(x,a)∈l
 | [],_,_,h=>by simp at h
 | (n,k)::r,x,a,h=>by
  rw[YH]at h
  cases b:x == n with
  | true =>
   rw[b]at h;have e:k=a:=Jq h;have e2:x=n:=by simpa using b
   subst e e2
   exact Jz
  | false=>rw[b]at h;exact Jw _ (wQ h)
def LCW (J:It)(g:TG)(tt:TT)(k:TE)(l:JI)(Q:VK)(W:Nat->Nat->List V->St->Hp->Prop):Prop :=
 ∀ i m acc e c,W i m acc e c->c l=some (.lst acc) /\
  ((J.stop i c/\Q (.ref l) c)\/(J.go i c/\∀ x j,J.yld i c x j->g x e j λa n=>tt a n λb h =>
   if b=true then k a h λy f=>f l=some (.lst acc)/\acc.length<sizeLine/\∃ d,d<m/\W (i+1) d (acc++[y]) a (upd f l (.lst (acc++[y])))
   else ∃ d,d<m/\W (i+1) d acc a h))
def tLC (cap:List (Option Nat))(b:TI)(g:TG)(tt:TT)(c:TE):TE:=λσ H Q=>b σ H λJ a=>∀ l,a l=none ->
 ∃ W:Nat->Nat->List V->St->Hp->Prop,(∃ m,W 0 m [] (nP cap σ) (upd a l (.lst [])))/\LCW J g tt c l Q W
theorem zbv {X:Cx}{elt tg iter:Expr}{o:Option Expr}{scope:Scope}{pos aT:Pos}{wi:TI}{g:TG}{tt:TT}{te:TE}{N':List Str}{cap:List (Option Nat)}{use:Option (Jo->Sem Unit)}{Q0:Jo->JO->Prop}(hc:X.calm=true)(hi:PI X tg iter wi)(P:CapOk X.N N' X.env.scope scope cap)(hg:∀ C s₀ H₀ fp pins,PG (yW X N' scope C s₀ H₀ fp pins) tg g)(ht:∀ C s₀ H₀ fp pins,PTo (yW X N' scope C s₀ H₀ fp pins) o tt)(he:∀ C s₀ H₀ fp pins,PE (yW X N' scope C s₀ H₀ fp pins) elt te)(hs:∀ x,foldedSetIterable iter X.env x=pure x){pins:List (JI × Obj)}{s:JO}{σ:St}{H:Hp}{Q:VK}(I:Inv X pins σ H s)(h:tLC cap wi g tt te σ H Q)(fin:∀ (l C:JI) (O:Hp) (U:JO) (m:Str->Option Jo),Inv X pins σ O U->Q (.ref l) O->U.heap.Ns C m->FpOk X pins O C->compPost (model X.prog X.w) X.A X.xe use Q0 (.ref l) C (.ok .next) U) :
  wpAny (model X.prog X.w) X.A (comprehension (.ListComp elt [⟨tg,iter,o.toList,0⟩] scope pos) scope X.env aT (newList []) false (eval iter X.env) use) Q0 X.xe s:=by
 have F:∀ y∈scope.names,y.2=.free->∃ c,X.env.cells.lookup y.1=some c:=λy hy hf=>I.ok.has y.1 (P.free y hy hf);refine wpAny_comprehension_free (use:=use) rfl hs (vc F) P.kind P.names (thn (hi pins s σ H _ I h) λv s1 h1=>thn h1 λb9 A h2=>?_);obtain⟨it,fp,tn,J,H2,e,I2,T,a5,N,body⟩:=h2;subst e;have a3:H2 A.heap.objs.size=none:=I2.hok.fresh (Je _);obtain⟨W,⟨m0,w0⟩,turn⟩:=body A.heap.objs.size a3;have k:Inv X pins σ (upd H2 A.heap.objs.size (.lst [])) { A with heap:=A.heap.push { cls:=.type "list",data:=.seq ([]:List Jo).toArray },toks:=A.toks }:=I2.lnew (its:=[]) (t':=A.toks) .nil (JN _);refine JZ (wpAny_newFunctionEnv P.nocell (by intro y hy;simp at hy) (λw E D=>?_) P.kind);dsimp only at E D ⊢;generalize hl:A.heap.objs.size=l at *;generalize hP:A.heap.push { cls:=.type "list",dict:=none,data:=.seq ([]:List Jo).toArray }=P2 at *;generalize bS:upd H2 l (.lst [])=H3 at *;have old:∀ b o,P2.get? b=some o->w.get? b=some o:=λb o e=>D.extBut b o (JD (Jd e)) (J7 _ e);have a0:∀ b o,A.heap.get? b=some o->P2.get? b=some o:=λb o e=>hP ▸ J7 _ e
 have ba:∀ b∈fp,b<l:=λb a=>by
  obtain⟨o,e,_⟩:=T.obj _ _ a5 b a;rw[<- hl];exact Jd e
 have b1:∀ b∈fp,H3 b=none:=λb a=>by
  rw[<- bS,zG (JD (ba b a))];exact(N b a).1
 have bB:P2.objs.size=l+1:=by rw[<- hP,YW,hl]
 have t:∀ x c,(vI X.env.cells scope.names []).lookup x=some c->X.env.cells.lookup x=some c:=λx c e=>wu _ _ x c F (λ_ _ z=>by simp at z) e;generalize a7:({ A with heap:=P2,toks:=A.toks }:JO)=s3 at *;have f:s3.heap=P2:=by rw[<- a7]
 let Y:=yW X N' scope P2.objs.size s3 H3 fp pins
 have B:Y.Ok:=by
  refine⟨k.ok.mod,P.kind,k.ok.glob,k.ok.blt,by show s3.heap.objs.size<=P2.objs.size;rw[f];exact Je _,λx y c e1 e2=>k.ok.inj x y c (t x c e1) (t y c e2),λx Z=>?_,λx c Z=>absurd (show false=true from Z) Jp,k.ok.hd,k.ok.frames,.inl rfl,λb a=>⟨?_,λx c e=>?_⟩,k.bs,
   JS k.ok.bsz k.sz,λb o e a=>?_,λb a hz=>?_,k.stack,k.stkFree⟩
  ·have bo:scope.names.lookup x=some .free:=by
    rcases Z with Z|Z
    ·rcases yz Z with z|z
     ·exact absurd rfl (P.nocell _ (wQ z))
     ·exact z.2
    ·rcases yz Z with z|z
     ·exact z
     ·exact z.2
   exact xT _ _ x bo
  ·exact JD (by show b<P2.objs.size;rw[bB];exact Zq (ba b a))
  ·exact(N b a).2.2.2.2.1 x c (t x c e)
  ·rcases (N b a).2.2.2.1 with z|z
   ·exact k.ok.noex b o e z
   ·exact absurd (JG (Jd e) (JS k.ok.bsz z)) (Yv _)
  ·rcases Jf.mp (k.stkSub b hz) with z|z
   ·exact(N b a).2.1 z
   ·exact(N b a).2.2.1 z
 have bx:Inv Y [] (nP cap σ) H3 { A with heap:=w,toks:=A.toks }:=by
  refine⟨B,by show A.os=s3.os;rw[<- a7],I2.bare,by show Un _ _ _ _ s3.heap w;rw[f];exact Un.kept old,⟨_,E,λj x v e1 e2 e3=>?_⟩,λx c e=>?_,?_,λx c e=>k.freeC x c (t x c e),λp hp=>?_,λb o e=>?_,?_⟩
  ·have b4:N'[j]?=some x:=e1
   unfold nP at e2;rw[JC]at e2
   cases ec:cap[j]? with
   | none=>rw[ec]at e2;cases e2
   | some oc =>
    rw[ec]at e2
    cases oc with
    | none=>cases e2
    | some i =>
     have b2:σ[i]?=some (some v):=by
      cases ei:σ[i]? with
      | none=>simp[ei]at e2
      | some v' =>
       simp[ei]at e2;rw[e2]
     have hz:(x,some i)∈N'.zip cap:=by
      refine JM (i:=j) ?_;rw[YK];exact⟨b4,ec⟩
     obtain⟨hN,hf,hk⟩:=P.cap _ hz i rfl;obtain⟨m,hn,bt⟩:=k.loc;obtain⟨u,r,lk⟩:=bt i x v hN b2 (by rcases hk with z|z;exact .inr (.inl z);exact .inr (.inr z));refine⟨u,r,.inr ⟨?_,?_⟩⟩
     ·exact wJ hf
     ·rcases lk with ⟨z,_⟩|⟨_,c,bw,ab⟩
      ·have z':X.env.scope.names.lookup x=some .local:=z
       rcases hk with q|q
       ·rw[q]at z';cases z'
       ·rw[q]at z';cases z'
      ·obtain⟨c',a8⟩:=xT (cells:=X.env.cells) scope.names [] x hf
       have:=t x c' a8;rw[bw]at this;cases this;obtain⟨ob,e,d⟩:=ab;rw[f]at e;exact⟨c,a8,ob,old c ob e,d⟩
  ·obtain⟨v,ob,e',d⟩:=k.cell x c (t x c e)
   rw[f]at e';exact⟨v,ob,old c ob e',d⟩
  ·refine k.hok.fresh ?_
   rw[f];exact Je _
  ·have ax:p∈X.pn++pins:=(Js.mp hp).elim (λz=>z) (λz=>nomatch z)
   obtain⟨e,n,ne,nf,d⟩:=k.pin p ax;rw[f]at e;refine⟨old _ _ e,n,JD (Jd e),λz=>?_,d⟩;rcases Jf.mp (k.stkSub _ z) with q|q
   ·exact ne q
   ·exact nf q
  ·have:=k.hok.kept (h':=w) (λb u q=>old b u (by rw[<- f];exact q))
   exact this b o e
  ·show (cap.map _).length=N'.length
   rw[Jb,P.len]
 have L:∀ {G:Hp},(∀ b∈fp,G b=none)->∀ b∈fp,FpOk Y [] G b:=λ{G} hn b a=>by
  refine⟨hn b a,(B.exf b a).1,B.exfs b a,.inl a,(B.exf b a).2,λp hp=>?_⟩;have ax:p∈X.pn++pins:=(Js.mp hp).elim (λz=>z) (λz=>nomatch z);exact(N b a).2.2.2.2.2 p ax
 have a6:tn 0 w:=T.keep 0 _ _ a5 λb a o e=>old b o (a0 b o e)
 have loop:codeAny (model X.prog X.w) X.A (.compLoop (.ListComp elt [⟨tg,iter,o.toList,0⟩] scope pos) 0 (.ref it) (.ref l) Y.env) (compPost (model X.prog X.w) X.A X.xe use Q0 (.ref l) P2.objs.size) { A with heap:=w,toks:=A.toks }:=by
  refine df (λn s'=>∃ i acc K G,Inv Y [] K G s'/\tn i s'.heap/\(∀ b∈fp,G b=none)/\W i n acc K G) ?_ m0 ⟨0,[],_,H3,bx,a6,b1,w0⟩;rintro n s4 ⟨i,acc,S,O,I4,a4,a9,w4⟩;obtain⟨b7,q4⟩:=turn i n acc S O w4;rcases q4 with ⟨stop,qn⟩|⟨go,step⟩
  ·refine thn (T.done Y rfl rfl rfl hc i [] s4 S O Y.xe I4 (L a9) a4 stop) λr U ⟨hr,I5⟩=>?_
   subst hr;obtain⟨m,hn,_⟩:=id I5.loc;have un:Un (frs X.stack) fp H3 O s3.heap U.heap:=I5.base;have bc:s3.heap.objs.size<=P2.objs.size:=by rw[f];exact Je _
   have IX:Inv X pins σ O U:=k.call' (ch:=fp) I5.os un I5.hok I5.bare λb a=>⟨(N b a).2.2.2.1,(N b a).2.1,(N b a).2.2.2.2.1,(N b a).2.2.2.2.2⟩;exact fin l P2.objs.size O U m IX qn hn (k.fpOk bc I5.free)
  ·refine thn (T.item Y rfl rfl rfl hc i [] s4 S O Y.xe I4 (L a9) a4 go) λr U ⟨u,hr,h5⟩=>?_
   subst hr;refine thn h5 λ_ s6 ⟨x,H6,I6,r6,y6,ao,b0⟩=>?_;have b5:=I6.pinned (L b0) (T.obj _ _ ao);refine thn (hg _ _ _ _ _ _ s6 S H6 x u _ b5 r6 (step x H6 y6)) λ_ s7 ⟨ak,H7,I7,q7⟩=>?_;refine nq (ht _ _ _ _ _ _ s7 ak H7 _ I7 q7) λb s8 ⟨H8,I8,q8⟩=>?_
   have again:∀ {R:St}{H9:Hp}{s9:JO}{M:List V},Inv Y ([]++wK fp s6.heap) R H9 s9->(∃ m',m'<n/\W (i+1) m' M R H9)->∃ m,m<n/\∃ i acc K G,Inv Y [] K G s9/\tn i s9.heap/\(∀ b∈fp,G b=none)/\W i m acc K G:=λ{R H9 s9 M} I9 ⟨m',hm,w9⟩=>by
    refine⟨m',hm,i+1,M,R,H9,I9.unpinned,T.keep _ _ _ ao λb a o e=>(I9.pin (b,o) (JA _ (JA _ (yb a e)))).1,λb a=>?_,w9⟩;obtain⟨o,e,d⟩:=T.obj _ _ ao b a;exact(I9.pin (b,o) (JA _ (JA _ (yb a e)))).2.1
   cases b with
   | false =>
    rw[Jc Jp]at q8 ⊢
    exact again I8 q8
   | true =>
    rw[Jh rfl]at q8 ⊢;refine thn (he _ _ _ _ _ _ s8 ak H8 _ I8 q8) λyv s9 ⟨y,H9,I9,r9,bu,bl,q9⟩=>?_;refine thn (xM (X:=Y) _ s9 ak H9 (.ref l) [y] (.ref l) [yv] (λ_ G=>G=upd H9 l (.lst (acc++[y]))) I9 rfl (.cons r9 .nil) ⟨l,acc,y,rfl,rfl,bu,bl,rfl⟩) λ_ b8 ⟨_,cb,b6,_,b3⟩=>?_;subst b3;exact again b6 q9
 exact codeAny_compStart_list loop (T.self X.A 0 _ _ _ a6 loop)
theorem Inv.gone {X:Cx}{pins:List (JI × Obj)}{σ:St}{H:Hp}{s:JO}{C:JI}{h':YP}(I:Inv X pins σ H s)(f:FpOk X pins H C)(sb:Heap.SameBut C s.heap h'):Inv X pins σ H { s with heap:=h' } :=
 I.turned (t':=s.toks) (λb o a e=>(sb.2 b a).trans e) f.1 f.2.1 f.2.2.2.1 f.2.2.2.2.1 f.2.2.2.2.2
theorem rF {X:Cx}{elt tg iter:Expr}{o:Option Expr}{scope:Scope}{pos:Pos}{a:TI}{g:TG}{tt:TT}{b:TE}{N':List Str}{cap:List (Option Nat)}(n:X.calm=true)(hi:PI X tg iter a)(p:CapOk X.N N' X.env.scope scope cap)(j:∀ C s₀ H₀ fp pins,PG (yW X N' scope C s₀ H₀ fp pins) tg g)(d:∀ C s₀ H₀ fp pins,PTo (yW X N' scope C s₀ H₀ fp pins) o tt)(k:∀ C s₀ H₀ fp pins,PE (yW X N' scope C s₀ H₀ fp pins) elt b)(e:∀ x,foldedSetIterable iter X.env x=pure x:=by intro _;rfl) :
  PE X (.ListComp elt [⟨tg,iter,o.toList,0⟩] scope pos) (tLC cap a g tt b):=by
 intro pins s σ H Q I h;rw[eval_ListComp];exact zbv (use:=none) n hi p j d k e I h λl C t u m r q i f=>⟨m,i,λv c=>⟨.ref l,t,r.gone f c,rfl,q⟩⟩
end L2
namespace Own
open PySem PySem.Spec PyProof.Rows
section
variable {M:Model}{prog:Yo}{w:YI}{A:YO}{E:Jo->JO->Prop}{s:JO}{α:Type}{Q:α->JO->Prop}
theorem rf {a:JI}{o:Obj}{vs:Array Jo}{x:Jo}{f:Jo->Sem α}(k:Nat)(c:s.heap.get? a=some o)(hd:o.data=.fields vs)(b:vs[k]?=some x)(h:wpAny M A (f x) Q E s) :
  wpAny M A (field (.ref a) k >>= f) Q E s:=J0 (Wk c hd b h)
theorem nx {T id:String}{B:Builtin}{it:JI}{P:Jo->JO->Prop}(slot:Slot T "__next__" id) (ty:s.TypeIs (.ref it) T) (en:entryFor table id=some B) (ok:argsOk id ⟨[.ref it],[]⟩)
  (h:wpAny (model prog w) A.in1 (B ⟨[.ref it],[]⟩) (λr a=>∃ v,r=.done (.ret v)/\P v a) E s):wpAny (model prog w) A (Builtin.SmallTypes.nextOf (.ref it)) P E s:=by
 unfold Builtin.SmallTypes.nextOf;refine J0 (wpAny_callSpecial?_slot (name:="__next__") ty slot (Y1 slot ty en (thn2 h) ok))
where
 thn2 {b:Sem Fin}{P:Jo->JO->Prop}{c:YO}(h:wpAny (model prog w) c b (λr a=>∃ v,r=.done (.ret v)/\P v a) E s) :
   wpAny (model prog w) c b (λr a=>∃ v,r=.done (.ret v)/\wpAny (model prog w) A (pure v) P E a) E s :=
  JQ h (λ_ _ ⟨v,e,q⟩=>⟨v,e,J9 q⟩) λ_ _ z=>z
end
theorem ends {A:YO}{E:Jo->JO->Prop}{prog:Yo}{w:YI}{s:JO}{α:Type}{Q:α->JO->Prop}(c:A.handled=none)
  (h:∀ h' x,(∀ b o,s.heap.get? b=some o->h'.get? b=some o)->(∃ o,h'.get? x=some o/\o.cls=.type "StopIteration")->E (.ref x) { s with heap:=h' }) :
  wpAny (model prog w) A (Builtin.SmallTypes.stopIteration:Sem α) Q E s:=by
 unfold Builtin.SmallTypes.stopIteration newExc newTuple;refine J0 (J0 (JZ ?_ (by size_fits)));refine J0 (wpAny_of_eq (a:=Value.none) (by rfl) (JZ (wpAny_raiseNew_none c (h _ _ (λb o e=>?_) ⟨_,Jt _ rfl,rfl⟩)) (by size_fits)));exact J7 _ (J7 _ e)
def cN:Bool->String
 | true=>"list_iterator"
 | false=>"tuple_iterator"
abbrev RIt (b:Bool)(h:YP)(it a:JI)(i:Int):Prop:=h.get? it=some { cls:=.type (cN b),dict:=none,data:=.fields #[.ref a,.int i 0],slots:=#[] }
def SqO:Bool->YP->JI->Array Jo->Prop
 | true,h,a,xs=>h.IsList a xs
 | false,h,a,xs=>h.IsTuple a xs
theorem SqO.ob {b:Bool}{h:YP}{a:JI}{xs:Array Jo}(x:SqO b h a xs):∃ o n,h.get? a=some o/\o.data=.seq xs n:=by
 cases b<;>(obtain⟨o,e,_,n,d⟩:=x;exact⟨o,n,e,d⟩)
theorem SqO.mv {b:Bool}{h h':YP}{a:JI}{xs:Array Jo}(x:SqO b h a xs)(k:∀ o,h.get? a=some o->h'.get? a=some o):SqO b h' a xs:=by
 cases b<;>(obtain⟨o,e,r⟩:=x;exact⟨o,k o e,r⟩)
theorem SqO.ne {b c:Bool}{h:YP}{a it f:JI}{i:Int}{xs:Array Jo}(x:SqO b h a xs)(y:RIt c h it f i):a≠it:=λz=>by
 obtain⟨o,n,e,d⟩:=x.ob;rw[z,y]at e;cases e;cases d
section
variable {prog:Yo}{w:YI}{A:YO}{E:Jo->JO->Prop}{s:JO}
theorem ty {b:Bool}{it a:JI}{i:Int}(y:RIt b s.heap it a i):s.TypeIs (.ref it) (cN b):=⟨_,y,rfl⟩
theorem o0 {b:Bool}{it a:JI}{i:Nat}{xs:Array Jo}{x:Jo}{P:Jo->JO->Prop}{B:Builtin}(m:B=match b with|true=>Builtin.«list_iterator.__next__»|false=>Builtin.«tuple_iterator.__next__»)(y:RIt b s.heap it a i)(sq:SqO b s.heap a xs)(g:xs[i]?=some x)(h:∀ h',RIt b h' it a (i+1)->Heap.SameBut it s.heap h'->P x { s with heap:=h' }) :
  wpAny (model prog w) A (B ⟨[.ref it],[]⟩) (λr f=>∃ v,r=.done (.ret v)/\P v f) E s:=by
 obtain⟨o,n,e,d⟩:=sq.ob
 have fin:wpAny (model prog w) A (match xs[(i:Int).toNat]? with
   | some x=>(do setField (.ref it) 1 (rawInt ((i:Int)+1));ret x:Sem Fin)
   | none=>Builtin.SmallTypes.stopIteration) (λr f=>∃ v,r=.done (.ret v)/\P v f) E s:=by
  rw[Yw,g];exact J0 (Y8 y (show 1<2 by decide) λh' j k=>J9 ⟨x,rfl,h h' j k⟩)
 rw[Yw,g]at fin;subst m;cases b <;>
 ·refine rf 0 y rfl rfl (PyIte (show ¬((Value.ref a == Value.none)=true) from Jp) (rf 1 y rfl rfl (J0 (Y4 e d ?_))))
  simp only[Yw,g];exact fin
where
 PyIte {c:Prop} [Decidable c] {α:Type}{a b:Sem α}{M:Model}{A:YO}{Q:α->JO->Prop}{E:Jo->JO->Prop}{s:JO}(l:¬ c) (h:wpAny M A b Q E s):wpAny M A (if c then a else b) Q E s:=by
  rw[Jc l];exact h
theorem qp {b:Bool}{it a:JI}{i:Nat}{xs:Array Jo}{Q:Fin->JO->Prop}{B:Builtin}(m:B=match b with|true=>Builtin.«list_iterator.__next__»|false=>Builtin.«tuple_iterator.__next__»)
  (j:A.handled=none) (y:RIt b s.heap it a i) (sq:SqO b s.heap a xs) (g:xs[i]?=none)
  (h:∀ h' x,(∀ c o,c≠it->s.heap.get? c=some o->h'.get? c=some o)->(∃ o,h'.get? x=some o/\o.cls=.type "StopIteration")->E (.ref x) { s with heap:=h' }) :
  wpAny (model prog w) A (B ⟨[.ref it],[]⟩) Q E s:=by
 obtain⟨o,n,e,d⟩:=sq.ob;subst m;cases b <;>
 ·refine rf 0 y rfl rfl (o0.PyIte (show ¬((Value.ref a == Value.none)=true) from Jp) (rf 1 y rfl rfl (J0 (Y4 e d ?_))))
  simp only[Yw,g];refine J0 (Z3 (J0 (Y8 y (show 0<2 by decide) λr _ f=>?_)));exact ends j λp x k z=>h p x (λc o l q=>k c o ((f.2 c l).trans q)) z
theorem zbm {b:Bool}{it a:JI}{i:Nat}{xs:Array Jo}{x:Jo}{P:Jo->JO->Prop}(y:RIt b s.heap it a i)(sq:SqO b s.heap a xs)(c:xs[i]?=some x)(h:∀ h',RIt b h' it a (i+1)->Heap.SameBut it s.heap h'->P x { s with heap:=h' }):wpAny (model prog w) A (Builtin.SmallTypes.nextOf (.ref it)) P E s:=by
 cases b
 ·exact nx F.slot_tuple_iterator_next (ty y) F.entry_tuple_iterator_next (F.args_tuple_iterator_next_1 _) (o0 (b:=false) rfl y sq c h)
 ·exact nx slot_listiter_next (ty y) entry_listiter_next (args_listiter_next _) (o0 (b:=true) rfl y sq c h)
theorem fU {b:Bool}{it a:JI}{i:Nat}{xs:Array Jo}{P:Jo->JO->Prop}(e:A.handled=none) (y:RIt b s.heap it a i) (sq:SqO b s.heap a xs) (d:xs[i]?=none)
  (h:∀ h' x,(∀ c o,c≠it->s.heap.get? c=some o->h'.get? c=some o)->(∃ o,h'.get? x=some o/\o.cls=.type "StopIteration")->E (.ref x) { s with heap:=h' }) :
  wpAny (model prog w) A (Builtin.SmallTypes.nextOf (.ref it)) P E s:=by
 have inner:A.in1.handled=none:=e;cases b
 ·exact nx F.slot_tuple_iterator_next (ty y) F.entry_tuple_iterator_next (F.args_tuple_iterator_next_1 _) (qp (b:=false) rfl inner y sq d h)
 ·exact nx slot_listiter_next (ty y) entry_listiter_next (args_listiter_next _) (qp (b:=true) rfl inner y sq d h)
theorem wT {b:Bool}{a:JI}{xs:Array Jo}{P:Jo->JO->Prop}(sq:SqO b s.heap a xs)(h:P (.ref s.heap.objs.size) { s with heap:=s.heap.push { cls:=.type (cN b),data:=.fields #[.ref a,.int 0 0] } }):wpAny (model prog w) A (pyIter (.ref a)) P E s:=by
 cases b
 ·exact wpAny_pyIter_tuple sq h
 ·exact wpAny_pyIter_list sq h
end
theorem draws {prog:Yo}{w:YI}{A:YO}(l:A.handled=none)(b:Bool)(it a:JI)(xs:Array Jo)(f:a≠it) :
  Draws prog w A it [it,a] xs.size (λi v=>xs[i]?=some v) (λi h=>RIt b h it a i/\SqO b h a xs) :=
 ⟨λ_ _ st=>⟨_,st.1⟩,λ_ _ _ st k=>⟨k it Jz _ st.1,st.2.mv λo e=>k a (Jw _ Jz) o e⟩,
  λi s Q E hi st k=>zbm st.1 st.2 (ZP hi) λd y g=>k _ d s.toks (ZP hi) ⟨y,st.2.mv λo e=>(g.2 a f).trans e⟩ g,
  λs Q E st k=>fU l st.1 st.2 (by simp) λd x j z=>k d x (λc o m q=>j c o m q) z⟩
theorem zai (b:Bool)(a:JI)(o:Obj)(xs:Array Jo) :
  Meets (Builtin.«enumerate.__new__» ⟨[.type "enumerate",.ref a],[]⟩) (λ_ R s=>s.heap.get? a=some o/\SqO b s.heap a xs /\
   R (.ok (.ret (.ref (s.heap.push { cls:=.type (cN b),data:=.fields #[.ref a,.int 0 0] }).objs.size)))
    { s with heap:=(s.heap.push { cls:=.type (cN b),data:=.fields #[.ref a,.int 0 0] }).push { cls:=.type "enumerate",data:=.fields #[.none,.bool false,.ref s.heap.objs.size,rawInt 0,.none,.none] } }) :=
 .of_wp λprog w A R s h=>by
  obtain⟨j,g,d,i,os⟩:=s;obtain⟨f,sq,h⟩:=h;have sub:=sub_enumerate;have e:SqO b (Shared.heap ⟨j,g,d,i,os⟩) a xs:=sq
  wp_walk using WB f;refine wpAny_stack_any λst=>J9 ?_
  split
  case h_1 c _ _ _ _ _ =>
   cases (c == Value.type "enumerate")<;>(wp_walk using WB f,wT e;exact⟨_,rfl,h⟩)
  all_goals (wp_walk using WB f,wT e;exact⟨_,rfl,h⟩)
theorem dv {prog:Yo}{w:YI}{A:YO}{E:Jo->JO->Prop}{s:JO}{b:Bool}{a:JI}{xs:Array Jo}{P:Jo->JO->Prop}(sq:SqO b s.heap a xs)(h:∀ h' e it,s.heap.objs.size<=e->s.heap.objs.size<=it->e≠it->IsEnum h' e it 0 .none->RIt b h' it a 0->(∀ c o,s.heap.get? c=some o->h'.get? c=some o)->P (.ref e) { s with heap:=h' }) :
  wpAny (model prog w) A (call (.type "enumerate") [.ref a]) P E s:=by
 obtain⟨o,n,d,_⟩:=sq.ob;refine callType_new F.called_enumerate (by decide) (F.typeCall_enumerate_1 _) (F.newCall_enumerate_1 _) (λobj=>F.args_object_init_2 obj _) F.entry_enumerate_new (zai b a o xs) ⟨d,sq,⟨_,Jt _ rfl,rfl⟩,?_⟩;refine h _ _ _ ?_ (Je _) ?_ (Jt _ rfl) (J7 _ (Jt _ rfl)) λc o e=>J7 _ (J7 _ e)
 ·rw[YW];exact Nat.le_succ _
 ·rw[YW];exact Nat.succ_ne_self _
structure Sep (z TI TO i1 i2:JI) (f1 f2:List JI):Prop where
 all:[z,TI,TO,i1,i2].Nodup
 z1:z∉f1
 t1:TO∉f1
 o1:i2∉f1
 z2:z∉f2
 t2:TO∉f2
 o2:i1∉f2
section
variable {prog:Yo}{w:YI}{A:YO}{E:Jo->JO->Prop}{s:JO}{z TI TO i1 i2:JI}{f1 f2:List JI}{n1 n2 k:Nat}{P1 P2:Nat->Jo->Prop}{S1 S2:Nat->YP->Prop}{a b:Jo}
theorem nY (S:Sep z TI TO i1 i2 f1 f2)(C:Draws prog w A i1 f1 n1 P1 S1)(B:Draws prog w A i2 f2 n2 P2 S2){Q:Jo->JO->Prop}(hz:IsZip s.heap z TI TO .none)(hI:IsPair s.heap TI (.ref i1) (.ref i2))(hO:IsPair s.heap TO a b)(d1:S1 k s.heap)(d2:S2 k s.heap)(l1:k<n1)(l2:k<n2)(h:∀ x y h' tk,P1 k x->P2 k y->IsZip h' z TI TO (rawInt s.heap.objs.size)->IsPair h' TO x y->S1 (k+1) h'->S2 (k+1) h'->IsPair h' s.heap.objs.size x y ->
   (∀ c o,c∉[z,TO,i1,i2]->s.heap.get? c=some o->h'.get? c=some o)->Q (.ref s.heap.objs.size) { s with heap:=h',toks:=tk }) :
  wpAny (model prog w) A (Builtin.«zip.__next__» ⟨[.ref z],[]⟩) (λr X=>∃ v,r=.done (.ret v)/\Q v X) E s:=by
 have K:=S.all;simp only[JJ,Jf,Jg,Y5,Zs]at K;obtain⟨⟨zI,t,V,U⟩,⟨IO,I1,I2⟩,⟨O1,O2⟩,ab,_⟩:=K;refine rf 2 hz rfl rfl (rf 3 hz rfl rfl (J0 (Y4 hI rfl (J0 (rf 0 hz rfl rfl (J9 ?_))))));simp only[Z6];refine J0 (Z3 (rf 4 hz rfl rfl (J0 (Y8 hz (show 0<5 by decide) λha T m=>J0 ?_))));have D:IsZip ha z TI TO .ellipsis:=T;simp only[List.zipIdx_cons,List.zipIdx_nil,Yz,YS];refine J0 (J0 (WC (J0 (C.item k _ _ _ l1 (C.frame _ _ _ d1 λc g o e=>(m.2 c λq=>S.z1 (q ▸ g)).trans e) λx hb tb Y db l=>J9 ?_))));have O:IsPair hb TO a b:=(l.2 TO O1).trans ((m.2 TO (Ne.symm t)).trans hO);refine J0 (Y4 O rfl (J0 (wpAny_updateSeq_pair O λg Oc sc=>J0 (Zy (J9 ?_)))));have G:IsPair g TO x b:=Oc;have F:S2 k g:=B.frame _ _ _ d2 λc d o e=>(sc.2 c λq=>S.t2 (q ▸ d)).trans ((l.2 c λq=>S.o2 (q ▸ d)).trans ((m.2 c λq=>S.z2 (q ▸ d)).trans e));refine J0 (J0 (WC (J0 (B.item k _ _ _ l2 F λy Z W py dd j=>J9 ?_))));have N:IsPair Z TO x b:=(j.2 TO O2).trans G;refine J0 (Y4 N rfl (J0 (wpAny_updateSeq_pair N λf Oe i=>J0 (Zy (J9 (J9 ?_))))));have p:IsPair f TO x y:=Oe;refine J0 (Y4 p rfl (J0 (Wv (J0 ?_))));have sz:f.objs.size=s.heap.objs.size:=by rw[i.1,j.1,sc.1,l.1,m.1]
 have H:IsZip f z TI TO .ellipsis:=(i.2 z t).trans ((j.2 z U).trans ((sc.2 z t).trans ((l.2 z V).trans D)));have zn:f.objs.size≠z:=JT (Jd H);unfold Builtin.SmallTypes.ownedTupleHandOut;refine J0 (Y8 (J7 _ H) (show 0<5 by decide) λhf R J=>Y8 R (show 1<5 by decide) λu P I=>J9 ⟨_,rfl,?_⟩);have up:∀ c o,c≠z->f.get? c=some o->u.get? c=some o:=λc o q e=>(I.2 c q).trans ((J.2 c q).trans (J7 _ e));have new:IsPair u f.objs.size x y:=(I.2 _ zn).trans ((J.2 _ zn).trans (Jt _ rfl));have n:IsZip u z TI TO (rawInt f.objs.size):=P;rw[sz]at new n;show Q (.ref f.objs.size) _;rw[sz];refine h x y u W Y py n (up _ _ (Ne.symm t) p) ?_ ?_ new λc o g e=>?_
 ·exact C.frame _ _ _ db λc d o e=>up c o (λq=>S.z1 (q ▸ d)) ((i.2 c λq=>S.t1 (q ▸ d)).trans ((j.2 c λq=>S.o1 (q ▸ d)).trans ((sc.2 c λq=>S.t1 (q ▸ d)).trans e)))
 ·exact B.frame _ _ _ dd λc d o e=>up c o (λq=>S.z2 (q ▸ d)) ((i.2 c λq=>S.t2 (q ▸ d)).trans e)
 ·simp only[Jf,Jg,Y5,Zs]at g
  obtain⟨M,L,c3,c4⟩:=g;exact up c o M ((i.2 c L).trans ((j.2 c c4).trans ((sc.2 c L).trans ((l.2 c c3).trans ((m.2 c M).trans e)))))
end
section
variable {prog:Yo}{w:YI}{A:YO}{E:Jo->JO->Prop}{s:JO}{z TI TO i1 i2:JI}{f1 f2:List JI}{n1:Nat}{P1:Nat->Jo->Prop}{S1:Nat->YP->Prop}
theorem nX (S:Sep z TI TO i1 i2 f1 f2) (l:Draws prog w A i1 f1 n1 P1 S1) {Q:Fin->JO->Prop}(hz:IsZip s.heap z TI TO .none) (u:IsPair s.heap TI (.ref i1) (.ref i2)) (v:S1 n1 s.heap)
  (h:∀ h' x,(∀ c o,c∉[z,TO,i1,i2]->s.heap.get? c=some o->h'.get? c=some o)->(∃ o,h'.get? x=some o/\o.cls=.type "StopIteration")->E (.ref x) { s with heap:=h' }):wpAny (model prog w) A (Builtin.«zip.__next__» ⟨[.ref z],[]⟩) Q E s:=by
 have i:=S.all;simp only[JJ,Jf,Jg,Y5,Zs]at i;obtain⟨⟨C,B,n,D⟩,⟨IO,I,H⟩,⟨G,F⟩,y,_⟩:=i;refine rf 2 hz rfl rfl (rf 3 hz rfl rfl (J0 (Y4 u rfl (J0 (rf 0 hz rfl rfl (J9 ?_))))));simp only[Z6];refine J0 (Z3 (rf 4 hz rfl rfl (J0 (Y8 hz (show 0<5 by decide) λt m g=>J0 ?_))));have d:IsZip t z TI TO .ellipsis:=m;simp only[List.zipIdx_cons,List.zipIdx_nil,Yz,YS];refine J0 (J0 (WC (J0 (l.done _ _ _ (l.frame _ _ _ v λc b o e=>(g.2 c λq=>S.z1 (q ▸ b)).trans e) λr x j ⟨p,ex,k⟩=>?_))));have f:IsZip r z TI TO .ellipsis:=j z _ n d;have xz:x≠z:=λq=>by rw[q,f]at ex;cases ex;exact absurd (show Value.type "zip" = Value.type "StopIteration" from k) (by decide)
 refine Y8 f (show 0<5 by decide) λb _ sc=>h b x (λc o a e=>?_) ⟨p,(sc.2 x xz).trans ex,k⟩;simp only[Jf,Jg,Y5,Zs]at a;exact(sc.2 c a.1).trans (j c o a.2.2.1 ((g.2 c a.1).trans e))
end
theorem oC (b j:Bool)(a f:JI)(xs ys:Array Jo):Meets (Builtin.«zip.__new__» ⟨[.type "zip",.ref a,.ref f],[]⟩) (λ_ R s=>SqO b s.heap a xs/\SqO j s.heap f ys /\
  ∀ h' z,(∃ TI TO i1 i2,[z,TI,TO,i1,i2].Nodup/\(∀ c∈[z,TI,TO,i1,i2],s.heap.objs.size<=c)/\IsZip h' z TI TO .none/\IsPair h' TI (.ref i1) (.ref i2)/\IsPair h' TO .none .none/\RIt b h' i1 a 0/\RIt j h' i2 f 0) ->
   (∀ c o,s.heap.get? c=some o->h'.get? c=some o)->R (.ok (.ret (.ref z))) { s with heap:=h' }) :=
 .of_wp λprog w A R s h=>by
  obtain⟨i,g,d,k,os⟩:=s;obtain⟨p,n,h⟩:=h;have sub:=sub_zip;have m:SqO b (Shared.heap ⟨i,g,d,k,os⟩) a xs:=p;have l:SqO j (Shared.heap ⟨i.push { cls:=.type (cN b),data:=.fields #[.ref a,.int 0 0] },g,d,k,os⟩) f ys:=n.mv λo e=>J7 _ e
  wp_walk using wT m,wT l
  refine⟨_,rfl,h _ _ ⟨_,_,_,_,?_,?_,Jt _ rfl,J7 _ (J7 _ (Jt _ rfl)),J7 _ (Jt _ rfl),
   J7 _ (J7 _ (J7 _ (J7 _ (Jt _ rfl)))),J7 _ (J7 _ (J7 _ (Jt _ rfl)))⟩ λc o e=>?_⟩
  ·simp only[YW,JJ,Jf,Jg,Y5,Zs]
   simp<;>lia
  ·simp only[YW,Jf,Jg,Y5]
   intro c q;have:i.objs.size<=c:=by lia
   exact this
  ·exact J7 _ (J7 _ (J7 _ (J7 _ (J7 _ e))))
end Own
namespace L2
open PySem PySem.Spec PyProof.Rows Own
section
variable {X:Cx}{pins:List (JI × Obj)}{σ:St}{H:Hp}{s:JO}{h':YP}
theorem Inv.spunN {fp:List JI}{T:JI}{o:HO}{t':Nat}(I:Inv X pins σ H s)(k:∀ b o,b∉fp->s.heap.get? b=some o->h'.get? b=some o)(h:∀ b∈fp,FpOk X pins H b)(i:s.heap.objs.size<=T)(new:ObjOk X.prog X.w (upd H T o) h' T o):Inv X pins σ (upd H T o) { s with heap:=h',toks:=t' }:=by
 have f:H T=none:=I.hok.fresh i;have neT:∀ b u,s.heap.get? b=some u->b≠T:=λb u e=>JD (JG (Jd e) i);have g:∀ b u,H b=some u->b∉fp:=λb u e a=>by rw[(h b a).1]at e;cases e
 refine I.step (g':=s.gens) (d':=s.drawn) (ch:=fp) (λb a=>?_) (λb o _ _ d e _=>k b o d e) (λb o _ _ d e _=>⟨o.slots,k b o d e⟩) (λb o _ e n=>by rw[zG (neT b o e)];exact n)
  (λb o d e=>⟨o,k b o d e⟩) (λb j e=>by rw[zG (zH e f)];exact e) (λb o u e=>by rw[zG (zH e f)];exact e) (λb C e=>⟨#[],by rw[zG (zH e f),e];simp⟩) (λm p=>?_) (λb u e=>?_) I.bare
 ·obtain⟨E,y,D,x,w,t⟩:=h b a
  exact⟨x,y,w,t⟩
 ·obtain⟨o,A,B,l,r⟩:=p
  exact⟨o,A,B,k _ o (λa=>(h _ a).2.1 rfl) l,r⟩
 ·by_cases a:b=T
  ·subst a;rw[zD]at e;cases e;exact new
  ·rw[zG a]at e
   refine(I.hok b u e).stay (λc v d q=>k c v ?_ q) (λc q=>by rw[zG (zH q f)];exact q) λc j q=>by rw[zG (zH q f)];exact q
   rcases d with z|z
   ·rw[z];exact g b u e
   ·exact g c _ z
theorem Inv.spun {fp:List JI}{t':Nat}(I:Inv X pins σ H s)(k:∀ b o,b∉fp->s.heap.get? b=some o->h'.get? b=some o)(g:∀ b∈fp,FpOk X pins H b):Inv X pins σ H { s with heap:=h',toks:=t' }:=by
 have f:∀ b u,H b=some u->b∉fp:=λb u e d=>by rw[(g b d).1]at e;cases e
 refine I.step (g':=s.gens) (d':=s.drawn) (ch:=fp) (λb d=>?_) (λb o _ _ a e _=>k b o a e) (λb o _ _ a e _=>⟨o.slots,k b o a e⟩) (λb o _ e n=>n)
  (λb o a e=>⟨o,k b o a e⟩) (λb h e=>e) (λb o u e=>e) (λb A e=>⟨#[],by rw[e];simp⟩) (λm j=>?_) (λb u e=>?_) I.bare
 ·obtain⟨C,w,B,t,p,l⟩:=g b d
  exact⟨t,w,p,l⟩
 ·obtain⟨o,x,y,i,r⟩:=j
  exact⟨o,x,y,k _ o (λd=>(g _ d).2.1 rfl) i,r⟩
 ·refine(I.hok b u e).stay (λc v a q=>k c v ?_ q) (λc q=>q) λc h q=>q
  rcases a with z|z
  ·rw[z];exact f b u e
  ·exact f c _ z
end
def SqB:Bool->Jl->Hp->JI->List V->Prop
 | true,K,H,a,xs=>SqL K H a xs
 | false,K,H,a,xs=>SqT K H a xs
section
variable {X:Cx}{pins:List (JI × Obj)}{σ:St}{H:Hp}{s:JO}{a c:JI}{xs ys:List V}{b:Bool}
theorem Inv.sq (I:Inv X pins σ H s)(h:SqB b X.K H a xs):∃ its:List Jo,Vals xs its/\SqO b s.heap a its.toArray:=by
 cases b
 ·obtain⟨its,r,p,z⟩:=I.tuple h
  exact⟨its,r,p⟩
 ·obtain⟨its,r,p,z⟩:=I.list h
  exact⟨its,r,p.isList⟩
theorem Inv.sq_inj (I:Inv X pins σ H s)(h:SqB b X.K H a xs)(h':SqB b X.K H a ys):xs=ys:=by
 cases b
 ·exact I.tuple_inj h h'
 ·exact I.list_inj h h'
theorem Inv.sq_ne (I:Inv X pins σ H s)(h:SqB b X.K H a xs)(f:FpOk X pins H c):c≠a:=by
 rintro rfl
 have d:∀ o,X.K.lookup c=some o->False:=λo e=>by
  have g:=I.ok.mod.kin c o e;rcases f.2.2.2.1 with z|z
  ·exact I.ok.noex c o g z
  ·exact absurd (JG (Jd g) (JS I.ok.bsz z)) (Yv _)
 cases b <;>
 ·rcases h with (h|⟨o,h⟩)|⟨o,_,_,e,_⟩
  ·rw[f.1]at h;cases h
  ·rw[f.1]at h;cases h
  ·exact d o e
end
def Pr (v u:V)(H:Hp)(x:V)(H':Hp):Prop:=∃ T,H T=none/\x=.ref T/\H'=upd H T (.tup [v,u])
theorem uB {P:Yo}{w:YI}{H:Hp}{h:YP}{T:JI}{v u:V}{a b:Jo}(e:IsPair h T a b)(c:RelV v a)(d:RelV u b):ObjOk P w (upd H T (.tup [v,u])) h T (.tup [v,u]) :=
 ⟨show 2<=sizeLine by decide,[a,b],.cons c (.cons d .nil),⟨_,e,rfl,_,rfl,rfl⟩⟩
def Ite (K:Jl)(b:Bool)(a:JI):It :=
 ⟨λi H=>∃ c x,SqB b K H a c/\c[i]?=some x,λi H x d=>∃ y,(∀ c,SqB b K H a c->c[i]?=some y)/\Pr (.int i) y H x d,λi H=>∃ c,SqB b K H a c/\c.length=i⟩
theorem gD {P:Yo}{w:YI}{K:Jl}{es:List Expr}{k1}{R:Pos}(b:Bool)(a e it:JI)(j:e≠it):Turn P w K (.Tuple es k1 R) (Ite K b a) [e,it] e (λi h=>(∃ old,IsEnum h e it i old)/\RIt b h it a i) where
 mem:=Jz
 obj:=λi h ⟨⟨old,f⟩,hi⟩ c m=>by
  rcases Jf.mp m with q|q
  ·rw[q];exact⟨_,f,λv z=>by cases z⟩
  ·rw[Jm.mp q];exact⟨_,hi,λv z=>by cases z⟩
 keep:=λi h h' ⟨⟨old,f⟩,hi⟩ J=>⟨⟨old,J e (by simp) _ f⟩,J it (by simp) _ hi⟩
 item:=by
  intro X B y C m i pins s σ H E I l ⟨⟨old,f⟩,hi⟩ ⟨N,x,k,n⟩;subst B y C;obtain⟨d,t,p⟩:=I.sq k;obtain⟨u,L,Q⟩:=t.get n;have D:i<d.toArray.size:=by simpa using (Ja.mp L).1
  refine wpAny_pyNext_enum_itemD (draws (prog:=X.prog) (w:=X.w) (A:=X.A.in1) (I.ok.hd m) b it a d.toArray (p.ne hi)) f ⟨hi,p⟩ D j (by simp[j,I.sq_ne k (l e (by simp))]) λv h1 O V Y W hT _ Z=>?_;obtain rfl:u=v:=Jq (L.symm.trans (by simpa using V));refine⟨_,rfl,wpAny_letOwnedTupleGo_enum Y λh2 F r=>?_⟩;have G:s.heap.objs.size≠e:=JT (Jd f);have S:s.heap.objs.size≠it:=JT (Jd hi);refine⟨.ref s.heap.objs.size,_,I.spunN (fp:=[e,it]) (λc o g q=>?_) l (Je _) (uB (v:=.int i) (u:=x) ((r.2 _ G).trans hT) ⟨O,rfl⟩ Q),rfl,⟨x,λys U=>by rw[I.sq_inj U k];exact n,_,I.fresh,rfl,rfl⟩,⟨⟨_,F⟩,(r.2 it (Ne.symm j)).trans W.1⟩,λc g=>?_⟩
  ·have M:c≠e:=λz=>g (by simp[z])
   exact(r.2 c M).trans (Z c o M (λz=>g (by simp[z])) q)
  ·rw[zG,(l c g).1]
   rintro rfl;rcases Jf.mp g with z|z
   ·exact G z
   ·exact S (Jm.mp z)
 done:=by
  intro X B y C m i pins s σ H E I l ⟨⟨old,f⟩,hi⟩ ⟨N,k,n⟩;subst B y C;obtain⟨d,t,p⟩:=I.sq k;have T:i=d.toArray.size:=by rw[Jj,<- t.length,n]
  refine wpAny_pyNext_enum_endD (draws (prog:=X.prog) (w:=X.w) (A:=X.A.in1) (I.ok.hd m) b it a d.toArray (p.ne hi)) f ⟨by rw[<- T];exact hi,p⟩ λh' eb=>⟨rfl,I.spun (t':=s.toks) (fp:=[e,it]) (λc o g q=>eb c o (λz=>g (by simp[z])) q) l⟩
 self:=λ_ _ _ _ _ ⟨⟨_,f⟩,_⟩ h=>wpAny_pyIter_enum f h
def zdP (K:Jl)(b:Bool)(f:TA):TI:=λσ H R=>f σ H λe c=>∃ a d,e=[.ref a]/\SqB b K c a d/\R (Ite K b a) c
theorem za2 {X:Cx}{a:Expr}{g:TA}{p pos o:Pos}{B:List Expr}{k1} (b:Bool) (y:Gl X "enumerate") (hm:X.mg "enumerate" = none) (ha:PA X [a] g) (v:starEach [a] X.env=[(false,eval a X.env)]:=by rfl) :
  PI X (.Tuple B k1 o) (.Call (.Name "enumerate" p) [a] [] pos) (zdP X.K b g):=by
 intro pins s σ H R I h;refine Call_ (xW I y hm (u:=.type "enumerate") (by rfl) (Yt (thn (ha pos pins s σ H _ I h) λJ i ⟨G,D,f,l,m⟩=>?_) v rfl));obtain⟨C,F,rfl,w,q⟩:=m;obtain⟨u,rfl,k⟩:=l.one;cases k;obtain⟨E,K,n⟩:=f.sq w;refine dv n λL e it t r ne j hi x=>wpAny_pyIter_enum j ⟨_,[e,it],_,_,D,rfl,f.kept (t':=i.toks) x,gD b C e it ne,⟨⟨_,j⟩,hi⟩,λc A=>?_,q⟩
 have d:i.heap.objs.size<=c:=by
  rcases Jf.mp A with z|z
  ·rw[z];exact t
  ·rw[Jm.mp z];exact r
 exact f.fpOk d (f.hok.fresh d)
def Itz (K:Jl)(c e:Bool)(d f:JI):It :=
 ⟨λi H=>∃ a b x y,SqB c K H d a/\SqB e K H f b/\a[i]?=some x/\b[i]?=some y,λi H v g=>∃ x y,(∀ a,SqB c K H d a->a[i]?=some x)/\(∀ b,SqB e K H f b->b[i]?=some y)/\Pr x y H v g,
  λi H=>∃ a,SqB c K H d a/\a.length=i⟩
def zeD (K:Jl)(e d:Bool)(i:TA):TI:=λσ H R=>i σ H λh c=>∃ b a g f,h=[.ref b,.ref a]/\SqB e K c b g/\SqB d K c a f/\R (Itz K e d b a) c
section
variable {X:Cx}
theorem cF {prog:Yo}{w:YI}{A:YO}(d:A.handled=none)(b:Bool)(I a:JI)(c:a≠I)(xs:Array Jo) :
  Walks prog w A I [I,a] [I] xs.size (λi v=>xs[i]?=some v) (λi h=>(match b with|true=>h.IsListIter I a i|false=>h.IsTupleIter I a i)/\SqO b h a xs):=by
 cases b
 ·exact Walks.tuple d I a c xs
 ·exact Walks.list d I a c xs
theorem uu (ns:List Int):∀ n,n<=ns.length->preSum (λi=>ns.getD i 0) n=(ns.take n).sum
 | 0,_=>by simp[preSum]
 | n+1,h=>by
  have e:ns[n]?=some ns[n]:=J6 h;rw[preSum,uu ns n (Nat.le_of_lt h),List.take_add_one,List.sum_append,e,J8,e];simp
theorem dh (C:X.calm=true)(b:Bool):CallR X (.builtin "sum") (λvs H Q=>∃ a ns,vs=[.ref a]/\SqB b X.K H a (List.map V.int ns)/\Q (.int ns.sum) H):=by
 intro pins s σ H vs D Q I l h;obtain⟨a,ns,rfl,x,q⟩:=h;obtain⟨u,rfl,m⟩:=l.one;cases m;obtain⟨d,r,p⟩:=I.sq x
 have g:a≠s.heap.objs.size:=by
  obtain⟨o,n,e,_⟩:=p.ob;exact JD (Jd e)
 have A:d.length=ns.length:=by rw[<- r.length,Jb]
 refine call_sum_walkG (wT p ⟨s.heap.objs.size,[s.heap.objs.size,a],[s.heap.objs.size],_,_,_,λi=>ns.getD i 0,rfl,cF (show X.A.in1.handled=none from I.ok.hd C) b _ a g d.toArray,?_,?_,?_,?_⟩)
 ·refine⟨?_,p.mv λo e=>J7 _ e⟩
  cases b<;>exact⟨_,Jt _ rfl,rfl,rfl⟩
 ·intro c y
  show c<(s.heap.push _).objs.size;rw[YW];rcases Jf.mp y with z|z
  ·rw[z];exact Wd _
  ·rw[Jm.mp z]
   obtain⟨o,n,e,_⟩:=p.ob;exact Zq (Jd e)
 ·intro i v w
  have f:d[i]?=some v:=by simpa using w
  have hi:=(Ja.mp f).1
  have e:(List.map V.int ns)[i]?=some (V.int (ns.getD i 0)):=by
   rw[JC,J8,J6 (by simp_all)];rfl
  obtain⟨E,j,⟨t,rfl⟩⟩:=r.get e;rw[f]at j;exact⟨t,Jq j⟩
 ·intro F k t' B
  refine⟨.int ns.sum,H,I.kept (t':=k) λc o e=>B c o ?_ (J7 _ e),⟨t',?_⟩,q⟩
  ·exact λz=>JD (Jd e) (Jm.mp z)
  ·rw[Jj,A,uu ns _ (Je _),Ya]
theorem vG (F:X.calm=true)(b:Bool):CallR X (.builtin "all") (λvs H Q=>∃ a bs,vs=[.ref a]/\SqB b X.K H a (List.map V.bl bs)/\Q (.bl (bs.all id)) H):=by
 intro pins s σ H vs J Q I y h;obtain⟨a,bs,rfl,C,q⟩:=h;obtain⟨u,rfl,l⟩:=y.one;cases l;obtain⟨f,r,p⟩:=I.sq C
 have m:a≠s.heap.objs.size:=by
  obtain⟨o,n,e,_⟩:=p.ob;exact JD (Jd e)
 have D:f.length=bs.length:=by rw[<- r.length,Jb]
 refine call_all_walk (wT p ⟨s.heap.objs.size,[s.heap.objs.size,a],[s.heap.objs.size],_,_,_,λi=>bs.getD i true,rfl,cF (show X.A.in1.handled=none from I.ok.hd F) b _ a m f.toArray,?_,?_,?_⟩)
 ·refine⟨?_,p.mv λo e=>J7 _ e⟩
  cases b<;>exact⟨_,Jt _ rfl,rfl,rfl⟩
 ·intro i v L N O B G
  have g:f[i]?=some v:=by simpa using B
  have hi:=(Ja.mp g).1
  have e:(List.map V.bl bs)[i]?=some (V.bl (bs.getD i true)):=by
   rw[JC,J8,J6 (by simp_all)];rfl
  obtain⟨K,t,l⟩:=r.get e;rw[g]at t;obtain rfl:=Jq t;obtain rfl:v=Value.bool (bs.getD i true):=l;exact YM G
 ·intro M w E
  refine⟨.bl (bs.all id),H,I.kept (t':=w) λc o e=>E c o ?_ (J7 _ e),?_,q⟩
  ·exact λz=>JD (Jd e) (Jm.mp z)
  ·show Value.bool _=Value.bool _
   congr 1
   rw[Jj,D,Yy,Yc,Yc];constructor
   ·intro h x A
    obtain⟨j,k,e⟩:=List.getElem_of_mem A;have d:=h j (Y2.mpr k);rw[J8,J6 k]at d;rw[<- e];exact d
   ·intro h j k
    rw[J8,J6 (Y2.mp k)];exact h _ (Yf _)
theorem qL:CallR X (.builtin "isinstance") (λvs H Q=>∃ x T t k,vs=[x,.ty T]/\TyOf X.K H x t/\PySem.W.kitOne X.K t (.type T)=some k/\Q (.bl k) H):=by
 intro pins s σ H vs g Q I c h;obtain⟨x,T,t,k,rfl,e,f,q⟩:=h;obtain⟨u,v,rfl,d,a⟩:=c.two;cases (show v=Value.type T from a);exact pK I d e f λb=>⟨.bl k,H,I.tok b,rfl,q⟩
theorem zaz (ns ms:List Int):((List.range (min (ns.map V.int).length (ms.map V.int).length)).all (λj=>eqV ((ns.map V.int).getD j .non) ((ms.map V.int).getD j .non)) && (ns.map V.int).length == (ms.map V.int).length)=decide (ns=ms):=by
 rw[Yy,Ym,Yc,decide_eq_true_iff,beq_iff_eq,Jb,Jb]
 have at':∀ (l:List Int) (j:Nat) (h:j<l.length),(l.map V.int).getD j .non=.int l[j]:=λl j h=>by
  rw[J8,JC,J6 h];rfl
 constructor
 ·rintro⟨h,e⟩
  refine Zw e λj d c=>?_;have:=h j (Y2.mpr (by simp_all));rw[at' ns j d,at' ms j c]at this;simpa [eqV] using this
 ·rintro rfl
  refine⟨λj b=>?_,rfl⟩;have a:j<ns.length:=by have:=Y2.mp b;simp_all
  rw[at' ns j a];simp[eqV]
theorem vE (ns:List Int):(ns.map V.int).all wq=true:=by
 rw[List.all_map,Yc];intro _ _;rfl
theorem zE {H:Hp}{p:JI}(h:H p=none)(o:HO):Same H (upd H p o):=λb u q=>by rw[zG (zH q h)];exact q
def zdR (N N':List Str)(sc scope:Scope)(cap:List (Option Nat)):Bool :=
 decide (scope.kind=.function) && (scope.names.all λy=>decide (y.2≠.cell) && (decide (y.2≠.local) || decide (scope.names.lookup y.1=some .local)) &&
  (decide (y.2≠.free) || (decide (sc.names.lookup y.1=some .cell) || decide (sc.names.lookup y.1=some .free)))) && decide (cap.length=N'.length) &&
 ((N'.zip cap).all λp=>match p.2 with
  | none=>true
  | some i=>decide (N[i]?=some p.1) && (decide (scope.names.lookup p.1=some .free) && (decide (sc.names.lookup p.1=some .cell) || decide (sc.names.lookup p.1=some .free))))
theorem CapOk.of {N N':List Str}{sc scope:Scope}{cap:List (Option Nat)}(h:zdR N N' sc scope cap=true):CapOk N N' sc scope cap:=by
 unfold zdR at h;simp only[Ym,Yc,Bool.or_eq_true,YN]at h;obtain⟨⟨⟨g,b⟩,f⟩,d⟩:=h;refine⟨g,λy a=>(b y a).1.1,λy a e=>?_,λy a e=>?_,f,λp c i e=>?_⟩
 ·rcases (b y a).1.2 with z|z
  ·exact absurd e z
  ·exact z
 ·rcases (b y a).2 with z|z
  ·exact absurd e z
  ·exact z
 ·have q:=d p c
  rw[e]at q;simp only[Ym,Bool.or_eq_true,YN]at q;exact q
def Nx (n i:Nat)(p:Prop):Prop:=∃ a,a<n-i/\a=n-(i+1)/\i+1<=n/\p
theorem nx {n i:Nat}{p:Prop}(h:i<n)(q:p):Nx n i p:=⟨n-(i+1),by lia,rfl,h,q⟩
theorem ag {lo:Int}{n:Nat}{g:TG}{d:TE}{l:JI}{σ:St}{H:Hp}{Q:VK}(a:Nat->List V->St->Hp->Prop)(k:a 0 [] σ H)(j:∀ i acc σ H,a i acc σ H->H l=some (.lst acc))(h:∀ i acc σ H,i<n->a i acc σ H->g (.int (lo+i)) σ H λb o=>d b o λy f=>f l=some (.lst acc)/\acc.length<sizeLine/\Nx n i (a (i+1) (acc++[y]) b (upd f l (.lst (acc++[y])))))(hd:∀ acc σ H,a n acc σ H->Q (.ref l) H):∃ W:Nat->Nat->List V->St->Hp->Prop,(∃ m,W 0 m [] σ H)/\LCW (Itr lo n) g gG d l Q W:=by
 refine⟨λi m acc σ H=>m=n-i/\i<=n/\a i acc σ H,⟨n,by simp,JN _,k⟩,?_⟩;rintro i m acc σ H ⟨rfl,hi,p⟩;refine⟨j i acc σ H p,?_⟩;by_cases c:i<n
 ·refine .inr ⟨c,λx q ⟨e,y⟩=>?_⟩
  subst e y;exact h i acc σ _ c p
 ·have e:i=n:=by lia
  subst e;exact .inl ⟨Je _,hd acc σ H p⟩
theorem zae {K:Jl}{b:Bool}{a:JI}{xs:List V}{g:TG}{l:TS}{D:Ends}{σ:St}{H:Hp}(c:Nat->St->Hp->Prop)(v:c 0 σ H)(s:∀ i σ H,i<=xs.length->c i σ H->SqB b K H a xs)(r:∀ i x σ H T,xs[i]?=some x->H T=none->c i σ H->g (.ref T) σ (upd H T (.tup [.int i,x])) λf k=>l { D with nx:=c (i+1),ct:=c (i+1),bk:=D.nx } f k)(t:∀ σ H,c xs.length σ H->D.nx σ H) :
  ∃ W:Nat->Nat->St->Hp->Prop,(∃ m,W 0 m σ H)/\∀ i m σ H,W i m σ H ->
   ((Ite K b a).stop i H/\D.nx σ H)\/((Ite K b a).go i H/\∃ N:St->Hp->Prop,(∀ h d,N h d->∃ n,n<m/\W (i+1) n h d)/\∀ x d,(Ite K b a).yld i H x d->g x σ d λf k=>l { D with nx:=N,ct:=N,bk:=D.nx } f k):=by
 refine⟨λi m σ H=>m=xs.length-i/\i<=xs.length/\c i σ H,⟨xs.length,by simp,JN _,v⟩,?_⟩;rintro i m σ H ⟨rfl,hi,p⟩;have q:=s i σ H hi p;by_cases j:i<xs.length
 ·refine .inr ⟨⟨xs,xs[i],q,J6 j⟩,c (i+1),λh d o=>⟨xs.length-(i+1),by lia,rfl,j,o⟩,λx d ⟨y,w,T,u,z,e2⟩=>?_⟩
  subst z e2;exact r i y σ H T (w xs q) u p
 ·have e:i=xs.length:=by lia
  subst e;exact .inl ⟨⟨xs,q,rfl⟩,t σ H p⟩
def zex (K:Jl):R2:=λx y H Q=>∃ a b d c,x=.ref a/\y=.ref b/\SqT K H a d/\SqT K H b c/\d.all wq=true/\c.all wq=true/\Q (.bl ((List.range (min d.length c.length)).all (λj=>eqV (d.getD j .non) (c.getD j .non)) && d.length == c.length)) H
theorem zcC (D:X.A.units<cLine):OpR X (compareOp .Eq) (zex X.K):=by
 intro pins s σ H x y v u Q I w t h;obtain⟨a,b,k,i,rfl,rfl,F,E,N,M,q⟩:=h;cases w;cases t;obtain⟨g,m,C,_⟩:=I.tuple F;obtain⟨f,l,B,_⟩:=I.tuple E;have o:=m.length;have n:=l.length;refine SeqAt.RcAt.tuples (e:=λj=>eqV (k.getD j .non) (i.getD j .non)) C B D (λj J G=>?_) X.prog X.w _ _ ?_
 ·have d:j<k.length:=by simpa [o] using J
  have c:j<i.length:=by simpa [n] using G
  obtain⟨r,O,A⟩:=m.get (J6 d);obtain⟨p,e2,z⟩:=l.get (J6 c);have L:g.toArray[j]=r:=by simpa using (Ja.mp O).2
  have K:f.toArray[j]=p:=by simpa using (Ja.mp e2).2
  rw[L,K,J8,J8,J6 d,J6 c];exact nK A z (Yc.mp N _ (Yf d)) (Yc.mp M _ (Yf c))
 ·rw[Jj,Jj,<- o,<- n]
  exact⟨.bl _,H,I,rfl,q⟩
theorem mz {ns:List Int}{i:Nat}(h:i<ns.length):ns.getD i 0∈ns:=by
 rw[J8,J6 h];exact Yf h
end
end L2
namespace L2
open PySem PySem.Spec PyProof.Rows Own
section
variable {X:Cx}
theorem za6:OpR X (compareOp .IsNot) (λx y H Q=>∃ c d:Bool,x=.bl c/\y=.bl d/\Q (.bl (!(c == d))) H):=by
 intro pins s σ H x y v u Q I b a h;obtain⟨c,d,rfl,rfl,q⟩:=h;cases b;cases a;exact wpAny_isNot_plain rfl (yA I q (by cases c<;>cases d<;>rfl))
end
theorem jR {K:Jl}{a:JI}{xs:List V}{g:TG}{h:TE}{l:JI}{σ:St}{H:Hp}{Q:VK}(b:Nat->List V->St->Hp->Prop)(q:b 0 [] σ H)(o:∀ i acc σ H,b i acc σ H->H l=some (.lst acc)/\SqT K H a xs)(n:∀ i x acc σ H,xs[i]?=some x->b i acc σ H->g x σ H λc r=>h c r λy j=>j l=some (.lst acc)/\acc.length<sizeLine/\Nx xs.length i (b (i+1) (acc++[y]) c (upd j l (.lst (acc++[y])))))(hd:∀ acc σ H,b xs.length acc σ H->Q (.ref l) H):∃ W:Nat->Nat->List V->St->Hp->Prop,(∃ m,W 0 m [] σ H)/\LCW (Itt K a) g gG h l Q W:=by
 refine⟨λi m acc σ H=>m=xs.length-i/\i<=xs.length/\b i acc σ H,⟨_,rfl,JN _,q⟩,?_⟩;rintro i m acc σ H ⟨rfl,hi,p⟩;obtain⟨k,d⟩:=o i acc σ H p;refine⟨k,?_⟩;by_cases f:i<xs.length
 ·refine .inr ⟨⟨xs,xs[i],d,J6 f⟩,λx s ⟨e,y⟩=>?_⟩
  subst e;exact n i x acc σ _ (y xs d) p
 ·obtain rfl:i=xs.length:=by lia
  exact .inl ⟨⟨xs,d,Je _⟩,hd acc σ H p⟩
theorem iJ {K:Jl}{a:JI}{xs:List V}{g:TG}{h:TE}{l:JI}{σ:St}{H:Hp}{Q:VK}(b:Nat->List V->St->Hp->Prop)(q:b 0 [] σ H)(o:∀ i acc σ H,b i acc σ H->H l=some (.lst acc)/\SqL K H a xs)(n:∀ i x acc σ H,xs[i]?=some x->b i acc σ H->g x σ H λc r=>h c r λy j=>j l=some (.lst acc)/\acc.length<sizeLine/\Nx xs.length i (b (i+1) (acc++[y]) c (upd j l (.lst (acc++[y])))))(hd:∀ acc σ H,b xs.length acc σ H->Q (.ref l) H):∃ W:Nat->Nat->List V->St->Hp->Prop,(∃ m,W 0 m [] σ H)/\LCW (Itl K a) g gG h l Q W:=by
 refine⟨λi m acc σ H=>m=xs.length-i/\i<=xs.length/\b i acc σ H,⟨_,rfl,JN _,q⟩,?_⟩;rintro i m acc σ H ⟨rfl,hi,p⟩;obtain⟨k,d⟩:=o i acc σ H p;refine⟨k,?_⟩;by_cases f:i<xs.length
 ·refine .inr ⟨⟨xs,xs[i],d,J6 f⟩,λx s ⟨e,y⟩=>?_⟩
  subst e;exact n i x acc σ _ (y xs d) p
 ·obtain rfl:i=xs.length:=by lia
  exact .inl ⟨⟨xs,d,Je _⟩,hd acc σ H p⟩
end L2
namespace L2
open PySem PySem.Spec PyProof.Rows PySem.Calls PySem.NumText Own
theorem mY {M:Model}{K:Jl}{h:YP}(X:K.In h) (e:PySem.W.nsIn K cStatics "sys.int_max_str_digits" = some none):PySem.W.Looks M h Builtin.intMaxStrDigits 4300:=by
 show PySem.W.Looks M h (nsGet cStatics "sys.int_max_str_digits" >>= _) 4300;exact(PySem.W.looks_nsIn X e).andThen .now
theorem zaD {M:Model}{A:YO}{E:Jo->JO->Prop}{s:JO}{Q:Jo->JO->Prop}{v:Jo}{text:List Nat}{n:Int}
  (c:PySem.W.Looks M s.heap Builtin.intMaxStrDigits 4300) (a:¬(text.takeWhile (· != 0)).length<=640) (b:(int_private% "readNumeral") 4300 10 (text.takeWhile (· != 0))=(int_private% "Numeral.value") n)
  (ha:((text.takeWhile (· != 0)).length == text.length)=true) (h:Q (.int n s.toks) { s with toks:=s.toks+1 }):wpAny M A ((int_private% "intFromText") v text 10) Q E s:=by
 cases s
 repeat (any_goals (first|assumption|(with_reducible refine wpAny_ite_false (Jr a) ?_)|((with_reducible show wpAny _ _ Builtin.intMaxStrDigits _ _ _);refine PySem.W.Looks.at c ?_)|wp_step))
 all_goals (try (rw[b];dsimp only))
 repeat (any_goals (first|assumption|(with_reducible refine wpAny_ite_true (by rw[ha];rfl) ?_)|wp_step))
theorem jM {K:Jl}{x:Str}{u:Tok}{n:Int}(e:PySem.W.nsIn K cStatics "sys.int_max_str_digits" = some none) (f:x.length<=4300) (g:¬(numSeenOf x).length<=640) (hn:intText? x=some n) :
  Meets (Builtin.«int.__new__» ⟨[.type "int",.str x u],[]⟩) (λ_ R s=>K.In s.heap/\R (.ok (.ret (.int n s.toks))) { s with toks:=s.toks+1 }) :=
 .of_wp λprog w A R s h=>by
  cases s with
  | mk j y z o os =>
  obtain⟨i,h⟩:=h;have kinds:=And.intro PySem.W.KIN.str_int (And.intro PySem.W.KIN.str_idx PySem.W.KIN.str_trunc);obtain⟨v,t,r⟩:=kinds;have q:=F.conv_sub_int;have p:=F.madeHere_int;have ofText:typeOf (.str x u)=pure (.type "str"):=rfl;have d:PySem.W.Looks (model prog w) j Builtin.intMaxStrDigits 4300:=mY i e
  have c:(int_private% "readNumeral") 4300 10 (numSeenOf x)=(int_private% "Numeral.value") n/\((numSeenOf x).length == (numTextOf x).length)=true:=by
   rcases read4300 x (JS f (by decide)) with ⟨m,b,l,k⟩|⟨b,_⟩
   ·rw[hn]at b;cases b;exact⟨k,l⟩
   ·rw[hn]at b;cases b
  have a:=PySem.W.KIN.Hid.mk (And.intro d (And.intro g c));clear d g c f hn e i
  repeat (any_goals (first|assumption|((with_reducible show wpAny _ _ ((int_private% "intFromText") _ _ _) _ _ _);refine zaD a.out.1 a.out.2.1 a.out.2.2.1 a.out.2.2.2 ?_)|wp_step))
  all_goals (first|exact Exists.intro _ (And.intro rfl h)|skip)
section
variable {X:Cx}
theorem nR (e:PySem.W.nsIn X.K cStatics "sys.int_max_str_digits" = some none):CallR X (.type "int") (λvs H Q=>∃ x:Str,vs=[.str x]/\AllDigits x.cps.toList/\640<x.length/\x.length<=4300/\Q (.int (digitsVal x.cps.toList:Nat)) H):=by
 intro pins s σ H vs o Q I k h;obtain⟨x,rfl,j,p,a,q⟩:=h;obtain⟨u,rfl,t,rfl⟩:=k.one;have d:x.cps.toList.length=x.length:=by simp[Str.length]
 have ne:x.cps.toList≠[]:=λz=>by rw[z]at d;simp at d;lia
 have i:=intText_digits j ne a
 have seen:(numSeenOf x).length=x.length:=by
  rcases read4300 x (JS a (by decide)) with ⟨m,f,n,r⟩|⟨f,_⟩
  ·have b:x.cps.all (· < 128)=true:=by
    rw[<- Array.all_toList];refine Yc.mpr λc l=>?_;have:=(j c l).2;exact Jy (show c<128 by lia)
   have g:=eq_of_beq n;rw[g];show (if x.cps.all (· < 128)=true then x.cps.toList else _).length=_;rw[Jh b,d]
  ·rw[i]at f;cases f
 exact call_int_1 (jM (K:=X.K) e a (by simp_all) i) ⟨I.kIn,(typeIs_int _ _ _),.int _,H,I.tok _,⟨_,rfl⟩,q⟩
theorem iB:OpR X (binaryOp .Mult) (λx y H Q=>∃ (c:Nat) (n:Int),x=.str ⟨#[c]⟩/\y=.int n/\0<=n/\n<=100000/\∀ z:Str,z.cps.toList=List.replicate n.toNat c->Q (.str z) H):=by
 intro pins s σ H x y v u Q I g f h;obtain⟨c,n,rfl,rfl,l,j,q⟩:=h;obtain⟨t,rfl⟩:=g;obtain⟨i,rfl⟩:=f;have one:(⟨#[c]⟩:Str).length=1:=rfl;refine PySem.P.mul_str (by rw[Jr (by lia),Jr (by lia)];rfl) (λa b=>?_) (λa b=>?_) ?_
 ·rw[one]
  have:(1:Int)<=(2 ^ 63-1) / n:=by
   rw[Int.le_ediv_iff_mul_le (by omega)];lia
  simp_all
 ·rw[one]
  exact Jr (by have:=JW;grind)
 ·by_cases a:n<1
  ·rw[Jh a]
   have e:n=0:=by lia
   subst e;exact⟨by decide,.str _,H,I.tok _,⟨_,rfl⟩,q _ rfl⟩
  ·rw[Jc a]
   by_cases b:n=1
   ·subst b
    rw[Jh (show ((1:Int) == 1 || (⟨#[c]⟩:Str).length == 0)=true from rfl)];exact⟨.str _,H,I,⟨_,rfl⟩,q _ rfl⟩
   ·have nb:¬(n == 1 || (⟨#[c]⟩:Str).length == 0)=true:=by simp[b,one]
    rw[Jc nb]
    have lst:∀ (k:Nat) (acc:Array Nat),((List.replicate k #[c]).foldl (·++·) acc).toList=acc.toList++List.replicate k c:=λk=>by
     induction k with
     | zero=>intro acc;simp
     | succ k ih=>intro acc;rw[Y9,ZE,ih,Y9];simp
    have d:=lst n.toNat #[];refine⟨?_,.str _,H,I.tok _,⟨_,rfl⟩,q _ (by rw[d];rfl)⟩;have ln:=JP List.length d;simp only[Ju,Jn,Yb]at ln;show (Array.size _)<=sizeLine;rw[ln];have:=JW;simp;lia
end
end L2
namespace L2
open PySem PySem.Spec PyProof.Rows Own
def lQ (n:Nat):List V:=(List.range n).map λ(i:Nat)=>V.int i
theorem qQ {acc:Array Jo}{n:Nat}(h:ItemsOf (λi v=>∃ t,v=Value.int (0+i*1) t) acc n):Vals (lQ n) acc.toList:=by
 obtain⟨d,c⟩:=h
 have go:∀ (l:List Jo) (k:Nat),(∀ (j:Nat) (v:Jo),l[j]?=some v->∃ t,v=Value.int ((k+j:Nat):Int) t)->Vals ((List.range l.length).map λ(i:Nat)=>V.int ((k+i:Nat):Int)) l:=by
  intro l
  induction l with
  | nil=>intro k _;exact .nil
  | cons x l ih =>
   intro k b;rw[JL,List.range_succ_eq_map,JR,YX];refine .cons (by obtain⟨t,e⟩:=b 0 x rfl;exact⟨t,e⟩) ?_
   have:=ih (k+1) λj v a=>by
    obtain⟨t,e⟩:=b (j+1) v (by simpa using a);exact⟨t,by rw[e];congr 1;lia⟩
   refine cast (JP (λz=>Vals z l) (Yu λi _=>?_)) this;show V.int ((k+1+i:Nat):Int)=V.int ((k+(i+1):Nat):Int)
   congr 2;lia
 have:=go acc.toList 0 λj v a=>by
  obtain⟨t,e⟩:=c j v (by simpa using a);exact⟨t,by rw[e];congr 1;simp_all⟩
 rw[Ju,d]at this;unfold lQ;refine cast (JP (λz=>Vals z acc.toList) (Yu λi _=>?_)) this;show V.int ((0+i:Nat):Int)=V.int (i:Int);rw[Zr]
theorem cJ (n:Nat):(lQ n).length=n:=by simp[lQ]
section
variable {X:Cx}
def zb7 (b:Bool)(d:TA):TE:=λσ H Q=>d σ H λc a=>∃ j:Nat,c=[.int j]/\j<=100000/\∀ l,a l=none->Q (.ref l) (upd a l (if b=true then .lst (lQ j) else .tup (lQ j)))
theorem cq {j:Nat}(h:j<=100000):Builtin.Range.small 0 (j:Int) 1=true:=small_one (by simp_all) (by simp_all) (by simp_all) (by lia)
theorem zaP {j:Nat}:Builtin.Range.rangeSize 0 (j:Int) 1=((j:Nat):Int):=by rw[rangeSize_one];split<;>simp_all
theorem gh {a:Expr}{x:TA}{p i pos c:Pos}(F:X.calm=true) (w:Gl X "list") (r:X.mg "list" = none) (v:Gl X "range") (m:X.mg "range" = none) (ha:PA X [a] x) (E:starEach [a] X.env=[(false,eval a X.env)]:=by rfl)
  (d:starEach [.Call (.Name "range" i) [a] [] c] X.env=[(false,eval (.Call (.Name "range" i) [a] [] c) X.env)]:=by rfl):PE X (.Call (.Name "list" p) [.Call (.Name "range" i) [a] [] c] [] pos) (zb7 true x):=by
 intro pins s σ H Q I h;refine Zf (xW I w r (u:=.type "list") (by rfl) (Yt ?_ d rfl));rw[d];refine Zz (Call_ (xW I v m boot_range (Yt (thn (ha c pins s σ H _ I h) λL g ⟨K,M,l,A,B⟩=>?_) E rfl)));obtain⟨j,rfl,k,q⟩:=B;obtain⟨u,rfl,t,rfl⟩:=A.one;refine call_range_1 (W5 ?_);refine call_list_range (n:=j) (l.ok.hd F) (IsRange.new ..) (cq k) zaP (JS k (by decide)) λG y f J C e it=>?_;have D:∀ b o,g.heap.get? b=some o->G.get? b=some o:=λb o z=>C b o (J7 _ z);refine⟨.ref _,_,l.laid (t':=y) (o:=.lst (lQ j)) D ?_ ⟨by rw[cJ];exact JS k (by decide),f.toList,J,qQ it,by simpa using e⟩,rfl,q _ (l.hok.fresh ?_)⟩
 all_goals (show g.heap.objs.size<=(g.heap.push _).objs.size;rw[YW];exact Nat.le_succ _)
theorem jL (l:JI) (o:Obj) (items:Array Jo) (n:Nat) (x:Jo) (j:Nat) (E:o.cls=.type "tuple") (hd:o.data=.seq items n) (e:Nat->Bool) (y:∀ i,i<j->e i=false) (v:e j=true) (D:j<items.size) :
  Meets (Builtin.«tuple.index» ⟨[.ref l,x],[]⟩) (λA R s=>s.heap.get? l=some o/\(∀ i (h:i<items.size),SeqAt.EqAt A.in1 s items[i] x (e i))/\R (.ok (.ret (.int j s.toks))) { s with toks:=s.toks+1 }) :=
 .of_wp λprog w A R s h=>by
  cases s with
  | mk m z C g os =>
  obtain⟨p,t,h⟩:=h;unfold Builtin.«tuple.index»;simp only[Std.Legacy.Range.forIn_eq_forIn_range']
  wp_walk using Y4 p hd,wpAny_forIn_list _ (λrest b c=>c=⟨m,z,C,g,os⟩/\b.1=none/\∃ i,i<=j/\rest=List.range' i (items.size-i)) _
  case turn =>
   rintro i rest b c ⟨rfl,u,d,hi,a⟩;have k:items.size-d=(items.size-(d+1))+1:=by grind
   rw[k,List.range'_succ]at a;injection a with B e2;subst B;have f:i<items.size:=by lia
   have r:items[i]?=some items[i]:=by simp[f]
   simp only[r];refine J0 (t i f prog w _ _ ?_);by_cases q:i=j
   ·subst q;rw[v];wp_walk;exact⟨_,rfl,h⟩
   ·rw[y i (by lia)];wp_walk;exact⟨rfl,rfl,i+1,by lia,e2⟩
  case fin =>
   rintro b c ⟨rfl,u,d,hi,a⟩;have:=JP List.length a;simp at this;omega
  case h=>exact⟨rfl,rfl,0,JN _,by simp[Std.Legacy.Range.size]⟩
theorem rc:∀ {ns:List Int}{k:Int}{i:Nat},i<ns.idxOf k->(ns.getD i 0 == k)=false
 | [],k,i,h=>by simp at h
 | n::ns,k,i,h=>by
  rw[List.idxOf_cons]at h
  cases e:n == k with
  | true=>rw[e]at h;simp at h
  | false =>
   rw[e]at h;simp only[cond_false]at h
   cases i with
   | zero=>exact e
   | succ i=>exact rc (ns:=ns) (i:=i) (by simp_all)
def zdf (to:TE)(t:TA):TE:=λσ H Q=>to σ H λx c=>∃ a ns,x=.ref a/\c a=some (.tup (List.map V.int ns))/\t σ c λd b=>∃ k:Int,d=[.int k]/\b a=some (.tup (List.map V.int ns))/\k∈ns/\Q (.int (ns.idxOf k:Nat)) b
theorem za3 {o e:Expr}{to:TE}{t:TA}{apos cpos:Pos}(hu:X.A.units+64<cLine) (S:PE X o to) (ha:PA X [e] t)
  (d:attributeBase o "index" X.env (eval o X.env)=eval o X.env:=by rfl)
  (j:((backTo cpos (starEach [e] X.env)).all (λx=>!x.1) && (backToKw cpos (keywordEach [] X.env)).all (λx=>x.1.isSome) && decide ([e].length+([]:List Keyword).length+(if ([]:List Keyword).isEmpty then 0 else 1)<30))=true:=by rfl)
  (c:(apos.endLine == cpos.line)=true:=by rfl) (R:starEach [e] X.env=(false,eval e X.env)::starEach [] X.env:=by rfl):PE X (.Call (.Attribute o "index" apos) [e] [] cpos) (zdf to t):=by
 intro pins s σ H Q I h;refine wpAny_Call_method_late d j c rfl (thn (S pins s σ H _ I h) λv n ⟨x,D,B,K,a,ns,ex,P,L⟩=>?_);subst ex;cases K;obtain⟨_,ak,_,⟨ob,y,Z,n1,d1,M⟩⟩:=(show ObjOk X.prog X.w D n.heap a (.tup (List.map V.int ns)) from B.hok a _ P);refine⟨"tuple","tuple.index",PySem.F.plainAttrs_tuple,PySem.F.slot_tuple_index,PySem.F.type_tuple_index,⟨ob,y,Z⟩,λa' W=>by cases W;exact⟨ob,y,M⟩,?_⟩;have w:=ha cpos pins n σ D _ B L;rw[R]at w ⊢;refine W6 rfl (Calls.evalArgs_plain ?_);refine thn w λus G ⟨vs,C,A,J,k,ev,l,O,q⟩=>?_;subst ev;obtain⟨u,rfl,E,rfl⟩:=J.one;obtain⟨_,b,p,⟨f,g,z,N,Y,ab⟩⟩:=(show ObjOk X.prog X.w C G.heap a (.tup (List.map V.int ns)) from A.hok a _ l);have hlen:b.toArray.size=ns.length:=by rw[Jj,<- p.length,Jb]
 have r:=List.idxOf_lt_length_of_mem O
 refine call_meets PySem.F.slot_tuple_index ⟨f,g,z⟩ PySem.F.entry_tuple_index (PySem.F.args_tuple_index_2 _ _)
  (jL a f b.toArray N (.int k E) (ns.idxOf k) z Y (λi=>ns.getD i 0 == k) (λi hi=>?_) ?_ (by rw[hlen];exact r)) ⟨g,λi hi=>?_,?_⟩
 ·exact rc hi
 ·rw[J8,J6 r]
  simp
 ·have m:i<ns.length:=by rw[<- hlen];exact hi
  obtain⟨w1,U,F,rfl⟩:=p.get (show (List.map V.int ns)[i]?=some (V.int (ns.getD i 0)) by rw[JC,J8,J6 m];rfl);have T:b.toArray[i]=.int (ns.getD i 0) F:=by simpa using (Ja.mp U).2
  rw[T];exact(MeetsSeq.EqGives.int _ _ _ _).at _ _
 ·exact⟨.int _,C,A.tok _,⟨_,rfl⟩,q⟩
theorem mL:fillsNumberSlot (.type "tuple") "mul" = pure false :=
 PySem.fillsNumberSlot_seq (id:="tuple.__mul__") (r:=some (.builtin "tuple.__rmul__")) F.slot_tuple_mul.lookup (by decide +kernel) F.slot_tuple_rmul.lookup (by decide +kernel)
theorem kY:seqRepeat? (.type "tuple")=pure (some (.builtin "tuple.__mul__")):=by
 unfold seqRepeat?;rw[PySem.seqSlot_of (T:="tuple") (name:="__mul__") (id:="tuple.__mul__") F.slot_tuple_mul.lookup (by decide +kernel),PySem.seqSlot_of (T:="tuple") (name:="__rmul__") (id:="tuple.__rmul__") F.slot_tuple_rmul.lookup (by decide +kernel)];rfl
theorem zal (a:Int)(t:Tok)(l:JI)(c:Option JI)(sl:Array (Option Jo))(items:Array Jo)(n:Nat) :
  Meets (Builtin.«int.__rmul__» ⟨[.int a t,.ref l],[]⟩) (λ_ R s=>s.heap.get? l=some { cls:=.type "tuple",dict:=c,data:=.seq items n,slots:=sl }/\R (.ok (.ret Value.notImplemented)) s) :=
 .of_wp λprog w A R s h=>by
  cases s;obtain⟨b,h⟩:=h
  wp_walk using WB b
  exact⟨_,rfl,h⟩
theorem jK (l:JI) (o:Obj) (x:Jo) (n k:Nat) (t:Tok) (r:o.cls=.type "tuple") (hd:o.data=.seq #[x] n) (E:k<=100000) :
  Meets (Builtin.«tuple.__mul__» ⟨[.ref l,.int k t],[]⟩) (λ_ R s=>s.heap.get? l=some o /\
   (k=1->R (.ok (.ret (.ref l))) s)/\(k≠1->R (.ok (.ret (.ref s.heap.objs.size))) { s with heap:=s.heap.push { cls:=.type "tuple",data:=.seq (List.replicate k x).toArray } })) :=
 .of_wp λprog w A R s h=>by
  cases s with
  | mk q u z j os =>
  obtain⟨b,v,f⟩:=h;have ty:Shared.TypeIs ⟨q,u,z,j,os⟩ (.ref l) "tuple":=⟨o,b,r⟩
  wp_walk using Y4 b hd,Zp ty
  have D:¬(decide ((k:Int) < -2 ^ 63) || decide ((k:Int)>=2 ^ 63))=true:=by
   rw[Jr (by simp_all),Jr (by lia)];exact Jp
  rw[Jc D]
  wp_walk using Y4 b hd,Zp ty
  by_cases a:k=1
  ·have d:((#[x]:Array Jo).isEmpty || (k:Int) == 1)=true:=by subst a;rfl
   rw[Jh d]
   wp_walk using Zp ty
   exact⟨_,rfl,v a⟩
  ·have d:¬((#[x]:Array Jo).isEmpty || (k:Int) == 1)=true:=by
    have:((k:Int) == 1)=false:=by rw[Zt];lia
    rw[this];exact Jp
   rw[Jc d]
   have y:∀ (m:Nat) (acc:Array Jo),(List.foldl (λi g=>i++g) acc (List.replicate m #[x]))=acc++(List.replicate m x).toArray:=λm=>by
    induction m with
    | zero=>intro acc;simp
    | succ m ih=>intro acc;rw[Y9,ZE,ih,Y9];apply Array.ext';simp
   by_cases p:k=0
   ·subst p
    have c:(decide (((0:Nat):Int)<=0) || (#[x]:Array Jo).isEmpty)=true:=rfl;rw[Jh c]
    wp_walk
    exact⟨_,rfl,f (by decide)⟩
   ·have c:¬(decide ((k:Int)<=0) || (#[x]:Array Jo).isEmpty)=true:=by
     rw[Jr (by simp_all)];exact Jp
    have C:¬(((#[x]:Array Jo).size:Int)*(k:Int) > (2 ^ 63-1) / 8):=by
     show ¬((1:Int)*(k:Int) > (2 ^ 63-1) / 8);lia
    have B:¬ Builtin.Tuple.tupleTooMany (((#[x]:Array Jo).size:Int)*(k:Int))=true:=by
     unfold Builtin.Tuple.tupleTooMany;show ¬ decide ((1:Int)*(k:Int) > (sizeLine:Int))=true;rw[Jr (by rw[JW];lia)];exact Jp
    rw[Jc c,Jc C,Jc B,Yw,y];refine J0 (m:=Builtin.Tuple.tupleExact _) (JZ (J9 ⟨_,rfl,?_⟩) ?_)
    ·have e:(#[]++(List.replicate k x).toArray:Array Jo)=(List.replicate k x).toArray:=by simp
     rw[e];exact f a
    ·show (#[]++(List.replicate k x).toArray:Array Jo).size<=sizeLine
     rw[JW];simp;lia
theorem Vals.same {v:V}{u:Jo}(r:RelV v u):∀ k:Nat,Vals (List.replicate k v) (List.replicate k u)
 | 0=>.nil
 | k+1=>by rw[Y9,Y9];exact .cons r (Vals.same r k)
theorem za5:OpR X (binaryOp .Mult) (λx y H Q=>∃ a v,∃ k:Nat,x=.ref a/\y=.int k/\H a=some (.tup [v])/\k<=100000/\∀ r H',Same H H'->H' r=some (.tup (List.replicate k v))->Q (.ref r) H'):=by
 intro pins s σ H x y J G Q I A w h;obtain⟨a,v,k,rfl,rfl,j,D,q⟩:=h;cases A;obtain⟨t,rfl⟩:=w;obtain⟨_,E,r,⟨⟨c,K,d,n⟩,f,m,i,l,g⟩⟩:=(show ObjOk X.prog X.w H s.heap a (.tup [v]) from I.hok a _ j);simp only at m l g;subst m l g;obtain⟨u,rfl,B⟩:=r.one
 refine wpAny_binaryOp_repeat_ref (T:="tuple") (U:="int") (by decide) ⟨_,f,rfl⟩ (λp=>typeIs_int p k t) mL F.fills_int_mul F.slot_int_rmul kY F.slot_int_index.lookup
  (call_meets F.slot_int_rmul (typeIs_int s k t) F.entry_int_rmul (F.args_int_rmul_2 _ _) (zal k t a none n _ i)
   ⟨f,rfl,⟨_,f,rfl⟩,call_meets F.slot_tuple_mul ⟨_,f,rfl⟩ F.entry_tuple_mul (F.args_tuple_mul_2 _ _) (jK a _ u i k t rfl rfl D) ⟨f,λe=>?_,λe=>?_⟩⟩)
 ·subst e
  exact⟨.ref a,H,I,rfl,q a H (Same.refl H) j⟩
 ·have C:(List.replicate k v).length<=sizeLine:=by rw[Yb,JW];lia
  exact⟨.ref s.heap.objs.size,_,I.laid (t':=s.toks) (o:=.tup (List.replicate k v)) (λb ob z=>J7 _ z) (Je _) ⟨C,_,Vals.same B k,TupX.new _ _⟩,rfl,q _ _ (zE (I.hok.fresh (Je _)) _) zD⟩
end
end L2
namespace Bn
open PySem L2 Own
def Tups (H H':Hp):Prop:=∀ a b,H a=some (.tup b)->H' a=some (.tup b)
theorem Tups.trans {H d c:Hp}(x:Tups H d)(y:Tups d c):Tups H c:=λa b e=>y a b (x a b e)
theorem Tups.of {H H':Hp}(s:Same H H'):Tups H H':=λa _ e=>s a _ e
theorem Tups.lst {H:Hp}{l:JI}{xs ys:List V}(h:H l=some (.lst xs)):Tups H (upd H l (.lst ys)):=λa b e=>by
 rw[zG (by rintro rfl;rw[h]at e;cases e)];exact e
def But (l:JI)(H H':Hp):Prop:=∀ b o,H b=some o->b≠l->H' b=some o
theorem But.trans {l:JI}{H c a:Hp}(x:But l H c)(y:But l c a):But l H a:=λb o e n=>y b o (x b o e n) n
theorem But.of {l:JI}{H a:Hp}(x:Same H a):But l H a:=λb o e _=>x b o e
structure PkAt (H:Hp) (l:JI):Prop where
 ex:∃ a b:Int,H l=some (.lst [.int a,.int b])/\0<=a/\0<=b/\b<2 ^ 31
theorem PkAt.keep {H H':Hp}{l:JI}(S:PkAt H l)(s:Same H H'):PkAt H' l:=by
 obtain⟨a,b,h,r⟩:=S.ex;exact⟨a,b,s _ _ h,r⟩
theorem PkAt.ne {H:Hp}{l p:JI}(S:PkAt H l)(h:H p=none):l≠p:=by
 obtain⟨a,b,e,_⟩:=S.ex;exact zH e h
theorem PkAt.upd {H:Hp}{l p:JI}{o:HO}(S:PkAt H l)(h:l≠p):PkAt (upd H p o) l:=by
 obtain⟨a,b,e,r⟩:=S.ex;exact⟨a,b,by rw[zG h];exact e,r⟩
theorem But.tups {H H':Hp}{l:JI}(x:But l H H')(S:PkAt H l):Tups H H':=λa b e=>x a _ e (by
 rintro rfl;obtain⟨_,_,z,_⟩:=S.ex
 rw[z]at e;cases e)
def Prs (H:Hp):List V->List (Nat × Nat)->Prop
 | [],[]=>True
 | p::ps,f::fs=>(∃ a,p=.ref a/\H a=some (.tup [.int f.1,.int f.2]))/\Prs H ps fs
 | _,_=>False
theorem Prs.tups {H H':Hp}(t:Tups H H'):∀ {ps:List V}{fs:List (Nat × Nat)},Prs H ps fs->Prs H' ps fs
 | [],[],_=>trivial
 | _::_,_::_,⟨⟨a,e,h⟩,r⟩=>⟨⟨a,e,t _ _ h⟩,r.tups t⟩
theorem Prs.len {H:Hp}:∀ {ps:List V}{fs:List (Nat × Nat)},Prs H ps fs->ps.length=fs.length
 | [],[],_=>rfl
 | _::_,_::_,⟨_,r⟩=>JP (· + 1) r.len
theorem Prs.add {H:Hp}{a:JI}{f:Nat × Nat}(h:H a=some (.tup [.int f.1,.int f.2])):∀ {ps:List V}{fs:List (Nat × Nat)},Prs H ps fs->Prs H (ps++[.ref a]) (fs++[f])
 | [],[],_=>⟨⟨a,rfl,h⟩,trivial⟩
 | _::_,_::_,⟨x,r⟩=>⟨x,r.add h⟩
theorem Prs.get {H:Hp}:∀ {ps:List V}{fs:List (Nat × Nat)}{i:Nat}{p:V},Prs H ps fs->ps[i]?=some p->∃ a f,p=.ref a/\fs[i]?=some f/\H a=some (.tup [.int f.1,.int f.2])
 | [],[],_,_,_,e=>by simp at e
 | _::_,f::_,0,p,⟨⟨a,b,h⟩,_⟩,e=>by
  have:_=p:=Jq e;subst this
  exact⟨a,f,b,rfl,h⟩
 | _::_,_::_,i+1,p,⟨_,r⟩,e=>r.get (i:=i) (by simpa using e)
structure Nt where
 lanes:Nat
 forks:List (Nat × Nat)
 ends:List Nat
structure Nt.Ok (N:Nt):Prop where
 l1:1<=N.lanes
 l16:N.lanes<=16
 fm:N.forks.length<=128
 fk:∀ f∈N.forks,f.1<N.lanes/\f.2<N.lanes/\f.1≠f.2
 en:N.ends.Perm (List.range N.lanes)
def yG (a:List Nat):List V:=a.map λ(e:Nat)=>V.int e
structure NetAt (H:Hp) (r fr er:JI) (ps:List V) (N:Nt):Prop where
 net:H r=some (.tup [.int N.lanes,.ref fr,.ref er])
 forks:H fr=some (.tup ps)
 prs:Prs H ps N.forks
 ends:H er=some (.tup (yG N.ends))
theorem NetAt.tups {H H':Hp}{r fr er:JI}{ps:List V}{N:Nt}(t:Tups H H')(h:NetAt H r fr er ps N):NetAt H' r fr er ps N:=⟨t _ _ h.net,t _ _ h.forks,h.prs.tups t,t _ _ h.ends⟩
def zi (st:List Int × List Int)(f:Nat × Nat):List Int × List Int :=
 ((st.1.set f.1 ((st.1.getD f.1 0+st.1.getD f.2 0+1) / 2)).set f.2 ((st.1.getD f.1 0+st.1.getD f.2 0) / 2),st.2++[(st.1.getD f.1 0+st.1.getD f.2 0)%2])
def zy (st:List Int × List Int)(fs:List (Nat × Nat)):List Int × List Int:=fs.foldl zi st
def zr (fs:List (Nat × Nat))(cs:List Int):List Int × List Int:=zy (cs,[]) fs
def zj (N:Nt)(cs:List Int):List Int:=N.ends.map λe=>(zr N.forks cs).1.getD e 0
def zp (N:Nt)(cs:List Int):List Int:=(zr N.forks cs).2
theorem pS (fs:List (Nat × Nat))(f:Nat × Nat)(cs:List Int):zr (fs++[f]) cs=zi (zr fs cs) f:=by
 unfold zr zy;rw[YQ];rfl
theorem yX (st:List Int × List Int)(f:Nat × Nat):(zi st f).1.length=st.1.length:=by simp[zi]
theorem wU:∀ (fs:List (Nat × Nat)) (st:List Int × List Int),(zy st fs).1.length=st.1.length/\(zy st fs).2.length=st.2.length+fs.length
 | [],st=>⟨rfl,rfl⟩
 | f::fs,st=>by
  have h:=wU fs (zi st f);refine⟨h.1.trans (yX st f),h.2.trans ?_⟩;simp[zi];lia
theorem xt (fs:List (Nat × Nat))(cs:List Int):(zr fs cs).1.length=cs.length:=(wU fs (cs,[])).1
theorem y8 (fs:List (Nat × Nat))(cs:List Int):(zr fs cs).2.length=fs.length:=by
 have:=(wU fs (cs,[])).2;simpa [zr] using this
theorem wE {fs:List (Nat × Nat)}{i:Nat}{f:Nat × Nat}(h:fs[i]?=some f)(cs:List Int):zr (fs.take (i+1)) cs=zi (zr (fs.take i) cs) f:=by
 have w:=Ja.mp h;obtain⟨hi,e⟩:=w;rw[JU hi,pS,e]
theorem oF:∀ (xs:List Int) (i:Nat) (a:Int),i<xs.length->(xs.set i a).sum=xs.sum-xs.getD i 0+a
 | [],i,a,h=>by simp at h
 | x::xs,0,a,_=>by simp;lia
 | x::xs,i+1,a,h=>by
  have:=oF xs i a (by simpa using h);simp only[List.set_cons_succ,List.sum_cons,this,List.getD_cons_succ];lia
theorem yY {xs:List Int}{i p:Nat}{a:Int}(h:p<xs.length):(xs.set i a).getD p 0=if i=p then a else xs.getD p 0:=by
 rw[J8,List.getElem?_set];by_cases e:i=p
 ·subst e;simp[h]
 ·simp[e]
theorem rh (c:Int):(c+1) / 2+c / 2=c:=by lia
theorem gJ {st:List Int × List Int}{f:Nat × Nat}(b:f.1<st.1.length)(a:f.2<st.1.length)(ne:f.1≠f.2):(zi st f).1.sum=st.1.sum:=by
 unfold zi;simp only;rw[oF _ _ _ (by rw[YG];exact a),oF _ _ _ b,yY a,Jc ne];have:=rh (st.1.getD f.1 0+st.1.getD f.2 0);lia
theorem uH:∀ (fs:List (Nat × Nat)) (st:List Int × List Int),(∀ f∈fs,f.1<st.1.length/\f.2<st.1.length/\f.1≠f.2)->(zy st fs).1.sum=st.1.sum
 | [],st,_=>rfl
 | f::fs,st,h=>by
  have a:=h f Jz
  have:=uH fs (zi st f) λg b=>by
   rw[yX];exact h g (Jw _ b)
  exact this.trans (gJ a.1 a.2.1 a.2.2)
theorem cU {xs ys:List Int}(h:xs.Perm ys):xs.sum=ys.sum:=by
 induction h with
 | nil=>rfl
 | cons x _ ih=>simp[ih]
 | swap x y l=>simp;lia
 | trans _ _ a b=>exact a.trans b
theorem rO (xs:List Int):(List.range xs.length).map (λe=>xs.getD e 0)=xs:=by
 refine Zw (by simp) λi b a=>?_;rw[We,Ww,J8,J6 a];rfl
theorem zaj {N:Nt}(ok:N.Ok){cs:List Int}(h:cs.length=N.lanes):(zj N cs).sum=cs.sum:=by
 unfold zj;rw[cU (ok.en.map _)];have e:N.lanes=(zr N.forks cs).1.length:=by rw[xt,h]
 rw[e,rO]
 exact uH N.forks (cs,[]) λf a=>by
  have:=ok.fk f a;simp only[h];exact this
theorem iS {N:Nt}(ok:N.Ok){e:Nat}(h:e∈N.ends):e<N.lanes:=Y2.mp (ok.en.mem_iff.mp h)
theorem lF {N:Nt}(ok:N.Ok):N.ends.length=N.lanes:=by rw[ok.en.length_eq,Y0]
theorem wv {cs:List Int}{i:Nat}(h:i<cs.length):atI (cs.map V.int) ((i:Nat):Int)=some (.int (cs.getD i 0)):=by
 refine xa ?_;rw[JC,J8,J6 h];rfl
theorem rX {α:Type}{xs:List α}{i:Nat}(h:i<xs.length):ixN xs.length ((i:Nat):Int)=some i:=by
 unfold ixN;rw[Jh (by lia),Jh (by simp_all)];simp
theorem wd (cs:List Int)(i:Nat)(a:Int):(cs.map V.int).set i (.int a)=(cs.set i a).map V.int:=by rw[List.map_set]
structure Mgs (mg:Str->Option Jo):Prop where
 len:mg "len" = none
 range:mg "range" = none
 tuple:mg "tuple" = none
 enum:mg "enumerate" = none
 abs:mg "abs" = none
 zip:mg "zip" = none
 isi:mg "isinstance" = none
 all:mg "all" = none
 sum:mg "sum" = none
 bool:mg "bool" = none
 int:mg "int" = none
 str:mg "str" = none
 max:mg "max" = none
 min:mg "min" = none
 sorted:mg "sorted" = none
 list:mg "list" = none
structure Use (P:Yo) (w:YI) (K:Jl) (mg:Str->Option Jo) (base:YP) (x:Str) (ps:List Str) (k:Nat) (sp:Sp) (f:JI) (fd:Yl):Prop where
 ok:FnOk P w K mg base CX0 k f fd ps sp
 b:Binds K fd ps []
 kp:PySem.W.keepIn K (.ref f)=true
 m:mg x=some (.ref f)
def kI (K:Jl):Sp:=λb H Q _=>∃ (a:JI) (ns:List Int) (k:Int),b=[.ref a,.int k]/\SqL K H a (ns.map V.int)/\0<=k/\∀ x:Int,Q (.int x) H
def kG (K:Jl):Sp:=λc H Q _=>∃ (a:JI) (ns:List Int) (k:Int),c=[.ref a,.int k]/\SqL K H a (ns.map V.int)/\ns.length<=63/\0<=k/\k<=1000/\∀ l b,H l=none->Same H b->PkAt b l->Q (.ref l) b
def uR:Sp:=λa H Q _=>∃ (l:JI) (m:Int),a=[.ref l,.int m]/\0<m/\m<1073741824/\PkAt H l/\∀ (v:Nat) H',(v:Int)<m->PkAt H' l->But l H H'->Q (.int v) H'
def sV:Sp:=λb H Q _=>∃ r fr e d N c cs,b=[.ref r,.ref c]/\Nt.Ok N/\NetAt H r fr e d N/\H c=some (.tup (List.map V.int cs))/\cs.length=N.lanes /\
 ∀ p lo lt a,Same H a->a p=some (.tup [.ref lo,.ref lt])->a lo=some (.lst ((zr N.forks cs).1.map V.int))->a lt=some (.lst ((zr N.forks cs).2.map V.int))->Q (.ref p) a
def kH:Sp:=λb H Q _=>∃ r fr e d N c cs,b=[.ref r,.ref c]/\Nt.Ok N/\NetAt H r fr e d N/\H c=some (.tup (List.map V.int cs))/\cs.length=N.lanes /\
 ∀ p a,Same H a->a p=some (.tup ((zj N cs).map V.int))->Q (.ref p) a
theorem zbR {a:List Nat}{i:Nat}(h:i<a.length):atI (yG a) ((i:Nat):Int)=some (.int a[i]):=by
 refine xa ?_;unfold yG;rw[JC,J6 h];rfl
theorem yH (a:List Nat):(yG a).length=a.length:=by simp[yG]
theorem br (k:Nat):0<PySem.NumText.digitsVal (49::List.replicate k 48):=by
 unfold PySem.NumText.digitsVal
 have go:∀ (k acc:Nat),0<acc->0<(List.replicate k 48).foldl (λacc c=>acc*10+(c-48)) acc:=λk=>by
  induction k with
  | zero=>intro acc h;exact h
  | succ k ih=>intro acc h;rw[Y9,ZE];exact ih _ (by simp_all)
 rw[ZE];exact go k _ (by decide)
theorem iI {z:Str}{k:Nat}(hz:z.cps.toList=List.replicate k 48):PySem.NumText.AllDigits ((("1":Str)++z).cps.toList)/\(("1":Str)++z).length=k+1/\0<PySem.NumText.digitsVal ((("1":Str)++z).cps.toList):=by
 have e:(("1":Str)++z).cps.toList=49::List.replicate k 48:=by
  show ((("1":Str).cps++z.cps).toList)=_;rw[Yh,hz];rfl
 refine⟨?_,?_,?_⟩
 ·rw[e]
  intro c a;rcases Jf.mp a with q|q
  ·simp_all
  ·have:=ZS q;simp_all
 ·have:=JP List.length e
  rw[Ju]at this;show (("1":Str)++z).cps.size=k+1;rw[this,JL,Yb]
 ·rw[e];exact br k
end Bn
namespace L2
open PySem
theorem zA {α:Type _}{o:Option (Option α)}{q:α->Prop}(r:match o with|some (some v)=>q v|_=>False):∃ v,o=some (some v)/\q v:=by
 match o,r with
 | some (some v),r=>exact⟨v,rfl,r⟩
theorem yM {α:Sort _}{p q:α->Prop}{a:α}(h:p a)(r:q a):∃ x,p x/\q x:=⟨a,h,r⟩
def okV (N:List Str)(sc:Scope)(i:Nat)(x:Str):Bool:=decide (N[i]?=some x) && (match sc.names.lookup x with|some .local => true|some .cell=>true|some .free=>true|_=>false) && !(x == ("__debug__":Str)) && !(x == ("__classdict__":Str))
theorem pvb {X:Cx}(i:Nat){x:Str}{pos:Pos}(h:okV X.N X.env.scope i x=true):PE X (.Name x pos) (lh i):=by
 unfold okV at h;rw[Ym,Ym,Ym,W8,W8]at h;obtain⟨⟨⟨d,a⟩,c⟩,b⟩:=h;refine bf (Yn d) ?_ c b;unfold Vis;split at a
 ·exact .inl ‹_›
 ·exact .inr (.inl ‹_›)
 ·exact .inr (.inr ‹_›)
 ·cases a
theorem zU {X:Cx}{x:Str}{ps:List Str}{k:Nat}{sp:Sp}{f:JI}{fd:Yl}{e:Expr}{a:List Expr}{t:TA}{p pos:Pos}(U:Bn.Use X.prog X.w X.K X.mg X.base x ps k sp f fd) (d:Room k X.A) (ha:PA X (e::a) t)
  (g:Gl X x) (c:(x == ("__debug__":Str))=false) (h:starEach (e::a) X.env=(false,eval e X.env)::starEach a X.env) (b:(backTo pos (starEach a X.env)).any (·.1)=false):PE X (.Call (.Name x p) (e::a) [] pos) (zbU sp [] E0 t) :=
 vz U.ok d g U.m U.kp U.b .nil uw ha c h b
end L2
namespace L2
open PySem PySem.Spec PyProof.Rows Own
section
variable {prog:Yo}{w:YI}{A:YO}{E:Jo->JO->Prop}{s:JO}
theorem my {t sl:JI}{items:Array Jo}{f e:Jo}{lo hi:Option Int}{Q:Jo->JO->Prop}(a:IsTup s.heap t items)(g:s.heap.IsSliceOf sl f e .none)(pl:IsPart f lo)(pu:IsPart e hi)(j:HT.sIx items.size 0 lo=0)(i:HT.sIx items.size items.size hi=items.size)(h:Q (.ref t) s):wpAny (model prog w) A (getItem (.ref t) (.ref sl)) Q E s:=by
 obtain⟨os,b,c,k⟩:=id g;have d:s.TypeIs (.ref sl) "slice":=⟨os,b,c⟩;unfold getItem
 try with_reducible refine JX ?_
 first|refine J0 (J9 ?_)|skip
 refine J0 (wpAny_sequenceKey a.typeIs (by decide) (J0 (wpAny_callSpecial?_slot (name:=Str.ofString "__getitem__") a.typeIs Wc (Y1 Wc a.typeIs PyProof.Rows.entry_tuple_getitem ?_ (PyProof.Rows.args_tuple_getitem _ _)))));show wpAny _ _ (Builtin.Tuple.tupleItemsOf (.ref t) >>= _) _ _ s;refine J0 (tupleItemsOf_ a (J0 (Zp d ?_)));rw[Jh (by decide)];refine J0 (HT.sliceApplied_gen g pl pu ?_);rw[j,i];show wpAny _ _ (if (((0:Nat):Int) == 0 && (1:Int) == 1 && (items.size-0) == items.size)=true then _ else _) _ _ s;rw[Jh (by simp)];refine J0 ?_;unfold Builtin.Tuple.tupleIsExact;refine J0 (Zp a.typeIs (J9 ?_));rw[Jh (by decide)];exact J0 (Z3 (J9 ⟨_,rfl,J9 h⟩))
end
section
variable {X:Cx}
theorem w8:OpR X (binaryOp .Add) (λx y H Q=>∃ a b xs ys,x=.ref a/\y=.ref b/\H a=some (.tup xs)/\H b=some (.tup ys)/\xs.length+ys.length<=sizeLine/\∀ r H',Same H H'->H' r=some (.tup (xs++ys))->Q (.ref r) H'):=by
 intro pins s σ H x y v u Q I o n h;obtain⟨a,b,xs,ys,rfl,rfl,j,i,F,q⟩:=h;by_cases z:xs=[]
 ·subst z
  cases o;cases n;obtain⟨L,A,C,_⟩:=I.tuple (SqT.of j);obtain⟨m,M,B,_⟩:=I.tuple (SqT.of i);cases A;obtain⟨⟨P,K,N,l⟩,w,g,E,d⟩:=C;obtain⟨⟨O,J,e2,k⟩,t,f,D,c⟩:=B;simp only at g d f c;subst g d f c;refine concat_meets ⟨_,w,rfl⟩ ⟨_,t,rfl⟩ noFill_tuple_add seq_tuple_add PySem.F.slot_tuple_add PySem.F.entry_tuple_add (PySem.F.args_tuple_add_2 _ _) (tuple_addW0 a b #[] m.toArray E D K J l k rfl) ⟨w,t,?_⟩;exact⟨.ref b,H,I,rfl,q b H (Same.refl H) (by rw[Zk];exact i)⟩
 ·exact za8 pins s σ H _ _ v u Q I o n ⟨a,b,xs,ys,rfl,rfl,SqT.of j,SqT.of i,z,F,λe=>q a H (Same.refl H) (by rw[e,JY];exact j),λ_ p G=>q p _ (zE G _) zD⟩
theorem vp:SlR X (λx lo hi H Q=>∃ a xs,x=.ref a/\H a=some (.tup xs)/\∀ p H',Same H H'->H' p=some (.tup (uJ xs lo hi))->Q (.ref p) H'):=by
 intro pins s σ H x v k j lo hi l Q I e i f pu h;obtain⟨a,xs,rfl,c,q⟩:=h;by_cases b:HT.sIx xs.length 0 lo=0/\HT.sIx xs.length xs.length hi=xs.length
 ·cases e
  obtain⟨d,r,g,n⟩:=I.tuple (SqT.of c);have hlen:d.toArray.size=xs.length:=by rw[Jj];exact r.length.symm
  refine⟨"tuple",_,PyProof.Rows.slot_tuple_getitem.lookup,g.typeIs,my g i f pu (by rw[hlen];exact b.1) (by rw[hlen];exact b.2) ⟨.ref a,H,I,rfl,q a H (Same.refl H) ?_⟩⟩;unfold uJ;rw[b.1,b.2,Wx,Nat.sub_zero,Ya];exact c
 ·exact zcd pins s σ H _ v k j lo hi l Q I e i f pu ⟨a,xs,rfl,SqT.of c,b,λp m=>q p _ (zE m _) zD⟩
theorem qG (xs:List V)(i:Nat)(h:i<=xs.length):uJ xs none (some (i:Int))=xs.take i:=by
 unfold uJ;rw[HT.sIx_none,HT.sIx_nat,Wx,Nat.sub_zero,Nat.min_eq_left h]
theorem qH (xs:List V)(i:Nat)(h:i<=xs.length):uJ xs (some (i:Int)) none=xs.drop i:=by
 unfold uJ;rw[HT.sIx_none,HT.sIx_nat,Nat.min_eq_left h];exact YJ (by rw[Zv];exact Je _)
theorem eV {A:YO}{s:JO}{ns ms:List Int}{its c:List Jo}(g:Vals (ns.map V.int) its)(f:Vals (ms.map V.int) c)(j:Nat)(l:j<its.toArray.size)(k:j<c.toArray.size) :
  SeqAt.EqAt A s its.toArray[j] c.toArray[j] (eqV ((ns.map V.int).getD j .non) ((ms.map V.int).getD j .non)):=by
 have e:j<(ns.map V.int).length:=by rw[g.length];simpa using l
 have d:j<(ms.map V.int).length:=by rw[f.length];simpa using k
 obtain⟨a,q,i⟩:=g.get (J6 e);obtain⟨b,p,h⟩:=f.get (J6 d);have ga:its.toArray[j]=a:=by simpa using (Ja.mp q).2
 have m:c.toArray[j]=b:=by simpa using (Ja.mp p).2
 have o:=vE ns;have n:=vE ms;rw[ga,m,J8,J8,J6 e,J6 d];exact nK i h (Yc.mp o _ (Yf e)) (Yc.mp n _ (Yf d))
theorem zaw {ns ms:List Int}(h:ns.length=ms.length):((List.range ns.length).all λj=>eqV ((ns.map V.int).getD j .non) ((ms.map V.int).getD j .non))=decide (ns=ms):=by
 rw[<- zaz ns ms,Jb,Jb,h,Nat.min_self,Wf,Bool.and_true]
theorem za7 (l:X.A.units<cLine):OpR X (compareOp .Eq) (λx y H Q=>∃ a b ns ms,x=.ref a/\y=.ref b/\SqL X.K H a (List.map V.int ns)/\SqL X.K H b (List.map V.int ms)/\Q (.bl (decide (ns=ms))) H):=by
 rintro pins s σ H x y v u Q I n m ⟨a,b,ns,ms,rfl,rfl,p,o,q⟩;cases n;cases m;obtain⟨f,h,j,_⟩:=I.list p;obtain⟨d,g,i,_⟩:=I.list o;have c:f.length=ns.length:=by rw[<- h.length,Jb]
 have k:d.length=ms.length:=by rw[<- g.length,Jb]
 by_cases e:ns.length=ms.length
 ·refine SeqAt.RcAt.lists j.isList i.isList (by simpa [c,k] using e) l (eV h g) X.prog X.w _ _ ?_
  rw[Jj,c,zaw e];exact⟨.bl _,H,I,rfl,q⟩
 ·refine SeqAt.RcAt.lists_lengths j.isList i.isList (by simpa [c,k] using e) l X.prog X.w _ _ ?_
  rw[Jr (λz=>e (JP List.length z))]at q;exact⟨.bl _,H,I,rfl,q⟩
end
end L2
namespace L2
open PySem PySem.Spec PyProof.Rows PySem.Calls PySem.NumText Own
section
variable {X:Cx}
theorem qY:CallR X (.type "int") (λvs H Q=>∃ x:Str,vs=[.str x]/\AllDigits x.cps.toList/\0<x.length/\x.length<=640/\Q (.int (digitsVal x.cps.toList:Nat)) H):=by
 rintro pins s σ H vs e Q I b ⟨x,rfl,c,f,d,q⟩;obtain⟨u,rfl,t,rfl⟩:=b.one;have a:x.cps.toList.length=x.length:=by simp[Str.length]
 have ne:x.cps.toList≠[]:=λz=>by rw[z]at a;simp at a;simp_all
 exact PySem.W.KIN.call_text (intText_digits c ne (by lia)) d ⟨.int _,H,I.tok _,⟨_,rfl⟩,q⟩
end
end L2
namespace K65
open PySem L2 Own Bn
def top (i:Nat):Stmt:=PySem.Challenge.pw_stairlanes_k65_whole_mergers_in_one_anot.main.body.getD i (.Pass ⟨0,0,0,0⟩)
abbrev bD:Stmt:=top 45
abbrev bA:Stmt:=top 46
abbrev cw:Stmt:=top 47
section
variable {P:Yo}{w:YI}{K:Jl}{mg:Str->Option Jo}{base:YP}
theorem scC:FnScope ["_law_script","_law_k"] ["_law_script","_law_k"] (zN bD):=by trivial
theorem zbh {f:JI}{fd:Yl}(F:Fun K "_law_cell_at" "_law_cell_at" bD f fd) (G:Mgs mg):FnOk P w K mg base CX0 1 f fd ["_law_script","_law_k"] (kI K):=by
 refine F.ok scC (λc H Q E h=>?_) (λg A outer s H c Q E i h=>?_)
 ·obtain⟨a,ns,k,rfl,_⟩:=h
  rfl
 obtain⟨a,ns,k,rfl,b,d,q⟩:=h;refine⟨_,(zJ (xK (yN mE (pvb 1 rfl) (zV zZ rfl G.len Ys (zB (pvb 0 rfl) zC rfl) (by decide) (by decide) rfl rfl) (yu _)) (zM (zT (zt yT (pvb 0 rfl) (pvb 1 rfl) (λ_ _=>rfl)))) yZ) (zM (zT zK))),?_⟩;refine zA (zA ⟨a,_,rfl,.inl b,_,_,rfl,rfl,_,rfl,zbA (λz=>?_) (λz=>?_)⟩)
 ·obtain⟨j,rfl⟩:=Int.eq_ofNat_of_zero_le d
  have e:j<ns.length:=by have:=Yn z;rw[Jb]at this;lia
  exact zA (zA ⟨a,_,_,_,rfl,rfl,b,wv e,q _⟩)
 ·exact q 0
theorem scK:FnScope ["_law_left_here","_law_many","_law_digit"] ["_law_left_here","_law_many"] (zN cw):=by trivial
theorem zbc {f:JI}{fd:Yl}(F:Fun K "_law_pick" "_law_pick" cw f fd):FnOk P w K mg base CX0 1 f fd ["_law_left_here","_law_many"] uR:=by
 refine F.ok scK (λt H Q E h=>?_) (λG A outer s H t Q E I h=>?_)
 ·obtain⟨l,m,rfl,_⟩:=h
  rfl
 obtain⟨l,m,rfl,d,u,S,k⟩:=h;obtain⟨a,b,c,n,B,z⟩:=S.ex;refine⟨_,(zJ (xK (yN zbX (zt yT (pvb 0 rfl) zK (λ_ _=>rfl)) zK (yu _)) (zJ (@zY _ _ 2 _ _ _ _ scK.nd rfl (.inl rfl) (zS xD (zt yT (pvb 0 rfl) zK (λ_ _=>rfl)) (pvb 1 rfl)) rfl (by trivial)) (zJ (yh (zS wN (zt yT (pvb 0 rfl) zK (λ_ _=>rfl)) (pvb 1 rfl)) (wL (pvb 0 rfl) zK xC (by intro _;rfl)) rfl rfl rfl) (zM (zT (pvb 2 rfl))))) yZ) (zJ (yh (zS xD (zS yO (zS vV (zt yT (pvb 0 rfl) zK (λ_ _=>rfl)) zK) zK) zK) (wL (pvb 0 rfl) zK xC (by intro _;rfl)) rfl rfl rfl) (zM (zT (zS xD (zS xD (zS vV (zt yT (pvb 0 rfl) zK (λ_ _=>rfl)) (zt yT (pvb 0 rfl) zK (λ_ _=>rfl))) zK) (pvb 1 rfl)))))),?_⟩
 have fin:∀ (x:Int) (g:Hp),0<=x->x<m->PkAt g l->But l H g->Q (.int x) g:=λx g r p C D=>by
  obtain⟨v,rfl⟩:=Int.eq_ofNat_of_zero_le r;exact k v g p C D
 refine zA ⟨l,_,_,_,rfl,rfl,SqL.of c,rfl,_,_,rfl,rfl,_,rfl,zbA (λq=>?_) (λq=>?_)⟩
 ·refine zA ⟨l,_,_,_,rfl,rfl,SqL.of c,rfl,_,rfl,_,_,rfl,rfl,d,?_⟩
  refine zA ⟨l,_,_,_,rfl,rfl,SqL.of c,rfl,_,rfl,_,_,rfl,rfl,⟨d,u⟩,_,rfl,l,_,_,0,rfl,rfl,c,rfl,_,rfl,?_⟩;exact fin _ _ (ZF _ (by lia)) (ZX _ d) ⟨a / m,b,zD,Int.ediv_nonneg n (by lia),B,z⟩ λx o e ne=>by rw[zG ne];exact e
 ·refine zA ⟨l,_,_,_,rfl,rfl,SqL.of c,rfl,_,_,rfl,rfl,.inr ⟨by decide,by decide⟩,_,_,rfl,rfl,_,_,rfl,rfl,(by show (0:Int)<2147483647;decide),_,rfl,l,_,_,1,rfl,rfl,c,rfl,?_⟩
  have y:0<=(b*48271+12345)%2147483647:=ZF _ (by decide);have J:(b*48271+12345)%2147483647<2147483647:=ZX _ (by decide);generalize j:upd H l (HO.lst ([V.int a,V.int b].set 1 (V.int ((b*48271+12345)%2147483647))))=H1;have i:H1 l=some (.lst [.int a,.int ((b*48271+12345)%2147483647)]):=by rw[<- j];exact zD
  refine zA ⟨l,_,_,_,rfl,rfl,SqL.of i,rfl,_,rfl,l,_,_,_,rfl,rfl,SqL.of i,rfl,_,_,rfl,rfl,.inl ⟨by lia,by lia⟩,_,_,rfl,rfl,(by show (0:Int)<1999999973;decide),_,rfl,_,_,rfl,rfl,d,?_⟩;exact fin _ _ (ZF _ (by lia)) (ZX _ d) ⟨a,_,i,n,y,by lia⟩ λx o e ne=>by rw[<- j,zG ne];exact e
theorem scL:FnScope ["_law_script","_law_k","_law_cell","_law_seed"] ["_law_script","_law_k"] (zN bA):=by trivial
theorem zbf {f p:JI}{fd r:Yl}(F:Fun K "_law_left" "_law_left" bA f fd) (G:Mgs mg) (j:PySem.W.nsIn K cStatics "sys.int_max_str_digits" = some none) (u:Use P w K mg base "_law_cell_at" ["_law_script","_law_k"] 1 (kI K) p r):FnOk P w K mg base CX0 2 f fd ["_law_script","_law_k"] (kG K):=by
 refine F.ok scL (λm H Q E h=>?_) (λy A outer s H m Q E n h=>?_)
 ·obtain⟨a,ns,k,rfl,_⟩:=h
  rfl
 obtain⟨a,ns,k,rfl,g,v,C,B,q⟩:=h;refine⟨_,(zJ (@zY _ _ 2 _ _ _ _ scL.nd rfl (.inl rfl) (zU u n (zB (pvb 0 rfl) (zB (zS xD (pvb 1 rfl) (zV (ur rfl) rfl G.max rfl (zB zK (zB (zV zZ rfl G.len Ys (zB (pvb 0 rfl) zC rfl) (by decide) (by decide) rfl rfl) zC rfl) rfl) (by decide) (by decide) rfl rfl)) zC rfl) rfl) rfl rfl rfl rfl) rfl (by trivial)) (zJ (@zY _ _ 3 _ _ _ _ scL.nd rfl (.inl rfl) (zS xD (zS vV (zS yO (zS yO (zS xD (pvb 2 rfl) zK) (zS vV (zS vV zK (pvb 1 rfl)) (pvb 1 rfl))) zK) zK) zK) rfl (by trivial)) (zM (zT (x5 (zB (zS xD (zS vV (zV lL rfl G.abs rfl (zB (pvb 2 rfl) zC rfl) (by decide) (by decide) rfl rfl) (yK du rfl G.int rfl (zB (tT zdC (zV lL rfl G.abs rfl (zB (pvb 2 rfl) zC rfl) (by decide) (by decide) rfl rfl) (zS zcA zK zK) (yu _)) zC rfl) (by decide) (by decide) rfl rfl)) (yK (nR j) rfl G.int rfl (zB (zS rK xh (zS iB xh zK)) zC rfl) (by decide) (by decide) rfl rfl)) (zB (pvb 3 rfl) zC rfl) rfl)))))),?_⟩;refine zA (zA (zA ⟨a,_,rfl,.inl g,_,_,rfl,_,_,rfl,rfl,?_,?_⟩))
 ·split<;>lia
 refine⟨a,ns,_,rfl,g,ZF _ (by split<;>lia),λx=>?_⟩;refine zA ⟨_,_,rfl,rfl,(by show (0:Int)<2147483629;decide),_,rfl,_,_,rfl,rfl,.inl ⟨by decide,by decide⟩,_,rfl,_,_,rfl,rfl,.inr ⟨by lia,by lia⟩,_,_,rfl,rfl,_,_,rfl,rfl,_,_,rfl,rfl,.inr ⟨by decide,by decide⟩,_,_,rfl,rfl,(by show (0:Int)<2147483647;decide),?_⟩;have o:=ZF ((x%2147483629+7919*k*k+11)*48271) (show (2147483647:Int)≠0 by decide);have D:=ZX ((x%2147483629+7919*k*k+11)*48271) (show (0:Int)<2147483647 by decide);refine zA (yM rfl (zA (yM rfl ⟨_,_,rfl,rfl,⟨by decide,by decide,by decide⟩,_,_,rfl,rfl,.inr (yM rfl ⟨_,_,rfl,rfl,.inr ?_,?_⟩)⟩)))
 ·have c:∀ b:Bool,-2 ^ 64<(if b=true then (1:Int) else 0)/\(if b=true then (1:Int) else 0)<2 ^ 64:=by decide
  exact c _
 refine⟨48,2000,rfl,rfl,by decide,by decide,λz d=>?_⟩;obtain⟨t,J,I⟩:=iI d
 have i:z.length=2000:=by
  have:=JP List.length d;rw[Ju,Yb]at this;exact this
 refine⟨_,_,rfl,rfl,by rw[i];decide,_,rfl,t,by lia,by lia,_,_,rfl,rfl,by lia,_,rfl,(by show 2<=sizeLine;decide),λl e=>?_⟩;exact q l _ e (zE e _) ⟨_,_,zD,ZF _ (by lia),o,by lia⟩
end
end K65
namespace L2
open PySem PySem.Spec PyProof.Rows Own
def AnyT (K:Jl)(H:Hp)(x:V):Prop:=∃ T,TyOf K H x T/\∃ t:String,T=.type t
def lP:V->Bool
 | .int _=>true
 | _=>false
def yw (b:Int):V->Bool
 | .int i=>decide (0<=i) && decide (i<b)
 | _=>false
def zx (H:Hp):V->Option (List V)
 | .ref a=>match H a with
  | some (.tup xs)=>some xs
  | _=>none
 | _=>none
def uZ (H:Hp)(m:Int)(x:V):Bool:=match zx H x with
 | some a=>decide ((a.length:Int)=m)
 | none=>false
theorem yQ {H:Hp}{a:JI}{xs:List V}(h:H a=some (.tup xs)):zx H (.ref a)=some xs:=by
 show (match H a with
  | some (.tup xs)=>some xs
  | _=>none)=_
 rw[h]
theorem yq {H:Hp}{x:V}{xs:List V}(h:zx H x=some xs):∃ a,x=.ref a/\H a=some (.tup xs):=by
 cases x with
 | ref a =>
  refine⟨a,rfl,?_⟩
  cases z:H a with
  | none=>simp[zx,z]at h
  | some o=>cases o<;>simp[zx,z]at h;rw[h]
 | _=>cases h
theorem nG (i j:Int):decide (V.int i=V.int j)=decide (i=j):=by
 by_cases e:i=j
 ·rw[Jy e,Jy (JP V.int e)]
 ·rw[Jr e,Jr (λz=>e (V.int.inj z))]
theorem AnyT.same {K:Jl}{H H':Hp}{x:V}(s:∀ b o,H b=some o->H' b=some o)(h:AnyT K H x):AnyT K H' x:=by
 obtain⟨T,h,t,a⟩:=h
 cases h with
 | non=>exact⟨_,.non,_,rfl⟩
 | bl b=>exact⟨_,.bl b,_,rfl⟩
 | int i=>exact⟨_,.int i,_,rfl⟩
 | str x=>exact⟨_,.str x,_,rfl⟩
 | flt x=>exact⟨_,.flt x,_,rfl⟩
 | lst e=>exact⟨_,.lst (s _ _ e),_,rfl⟩
 | frz e=>exact⟨_,.frz (s _ _ e),_,rfl⟩
 | tup e=>exact⟨_,.tup (s _ _ e),_,rfl⟩
 | dK e=>exact⟨_,.dK (s _ _ e),_,rfl⟩
 | dT e=>exact⟨_,.dT (s _ _ e),_,rfl⟩
 | ins e _ _ _ _ _=>cases a
structure Isi (K:Jl) (H:Hp) (x:V) (t:Jo):Prop where
 ty:TyOf K H x t
 int:PySem.W.kitOne K t (.type "int")=some (match x with|.int _=>true|.bl _=>true|_=>false)
 bool:PySem.W.kitOne K t (.type "bool")=some (match x with|.bl _=>true|_=>false)
 str:PySem.W.kitOne K t (.type "str")=some (match x with|.str _=>true|_=>false)
 tup:PySem.W.kitOne K t (.type "tuple")=some (zx H x).isSome
theorem zcZ {K:Jl}{H:Hp}{x:V}{T:Jo}(h:TyOf K H x T)(a:∃ t,T=.type t):Isi K H x T:=by
 cases h with
 | ins e _ _ _ _ _=>obtain⟨t,a⟩:=a;cases a
 | lst e=>exact⟨.lst e,rfl,rfl,rfl,by simp only[zx,e];rfl⟩
 | frz e=>exact⟨.frz e,rfl,rfl,rfl,by simp only[zx,e];rfl⟩
 | tup e=>exact⟨.tup e,rfl,rfl,rfl,by simp only[zx,e];rfl⟩
 | dK e=>exact⟨.dK e,rfl,rfl,rfl,by simp only[zx,e];rfl⟩
 | dT e=>exact⟨.dT e,rfl,rfl,rfl,by simp only[zx,e];rfl⟩
 | non=>exact⟨.non,rfl,rfl,rfl,rfl⟩
 | bl b=>exact⟨.bl b,rfl,rfl,rfl,rfl⟩
 | int i=>exact⟨.int i,rfl,rfl,rfl,rfl⟩
 | str x=>exact⟨.str x,rfl,rfl,rfl,rfl⟩
 | flt x=>exact⟨.flt x,rfl,rfl,rfl,rfl⟩
theorem AnyT.isi {K:Jl}{H:Hp}{x:V}(h:AnyT K H x):∃ t,Isi K H x t :=
 let ⟨T,h,a⟩:=h
 ⟨T,zcZ h a⟩
end L2
namespace Bn
open PySem L2 Own
theorem zdN (h a b:Nat):inV (V.int h) [V.int a,V.int b]=decide (h=a\/h=b):=by
 by_cases c:h=a
 ·subst c;simp[inV,eqV]
 ·by_cases e2:h=b
  ·subst e2;simp[inV,eqV]
  ·have e:¬((h:Int)=a):=by lia
   have d:¬((h:Int)=b):=by lia
   simp[inV,eqV,c,e2];lia
structure Grp where
 many:Int
 lane:Nat
 fork:Nat
def yB (back:Bool)(st:List Int × Nat)(k:Nat)(f:Nat × Nat):List Int × Nat :=
 if st.2=f.1\/st.2=f.2 then (st.1.set k (1-st.1.getD k 0),if (if back then 1-st.1.getD k 0 else st.1.getD k 0)=0 then f.1 else f.2) else st
def yD (back:Bool)(fs:List (Nat × Nat))(ts:List Int)(lane:Nat):Nat->List Int × Nat
 | 0=>(ts,lane)
 | i+1=>yB back (yD back fs ts lane i) i (fs.getD i (0,0))
def zu (xs:List Int)(i:Nat)(d:Int):List Int:=xs.set i (xs.getD i 0+d)
theorem yk (xs:List Int)(i:Nat)(d:Int):(zu xs i d).length=xs.length:=by simp[zu]
theorem yj {xs:List Int}{i p:Nat}{d:Int}(h:p<xs.length):(zu xs i d).getD p 0=xs.getD p 0+if i=p then d else 0:=by
 unfold zu;rw[yY h];by_cases e:i=p
 ·subst e;rw[Jh rfl,Jh rfl]
 ·rw[Jc e,Jc e,Int.add_zero]
theorem xI {xs ys:List Int}(b:xs.length=ys.length)(h:∀ p,p<xs.length->xs.getD p 0=ys.getD p 0):xs=ys:=by
 refine Zw b λp a c=>?_;have:=h p a
 rwa [J8,J8,J6 a,J6 c]at this
theorem wx {L T:List Int}{f:Nat × Nat}{p:Nat}(a:p<L.length):(zi (L,T) f).1.getD p 0=if f.2=p then (L.getD f.1 0+L.getD f.2 0) / 2 else if f.1=p then (L.getD f.1 0+L.getD f.2 0+1) / 2 else L.getD p 0:=by
 unfold zi;simp only;rw[yY (by rw[YG];exact a),yY a]
theorem bv (back:Bool)(L T:List Int)(f:Nat × Nat)(here k:Nat)(ts:List Int)(x:f.1<L.length)(w:f.2<L.length)(ne:f.1≠f.2)(B:here<L.length)(t:ts.getD k 0=(L.getD f.1 0+L.getD f.2 0)%2) :
  let d:Int:=if back then -1 else 1
  let r:=yB back (ts,here) k f
  (zi (zu L here d,T) f).1=zu (zi (L,T) f).1 r.2 d/\r.2<L.length /\
   ((here=f.1\/here=f.2)->((zu L here d).getD f.1 0+(zu L here d).getD f.2 0)%2=1-ts.getD k 0)/\(¬(here=f.1\/here=f.2)->((zu L here d).getD f.1 0+(zu L here d).getD f.2 0)%2=ts.getD k 0):=by
 intro d r;have m:d=if back then -1 else 1:=rfl;have v:=yj (xs:=L) (i:=here) (d:=d) x;have u:=yj (xs:=L) (i:=here) (d:=d) w;generalize o:L.getD f.1 0+L.getD f.2 0=c at *;have j:r=yB back (ts,here) k f:=rfl;unfold yB at j;simp only at j;by_cases on:here=f.1\/here=f.2
 ·rw[Jh on]at j
  have n:(zu L here d).getD f.1 0+(zu L here d).getD f.2 0=c+d:=by
   rw[v,u,<- o];rcases on with e|e
   ·subst e;rw[Jh rfl,Jc ne];lia
   ·subst e;rw[Jc (Ne.symm ne),Jh rfl];lia
  have h:r.2=if (if back then 1-c%2 else c%2)=0 then f.1 else f.2:=by rw[j,t]
  refine⟨xI (by rw[yX,yk,yk,yX]) λp l=>?_,?_,λ_=>?_,λz=>absurd on z⟩
  ·rw[yX,yk]at l
   have a:p<L.length:=l;rw[wx (by rw[yk];exact a),n,yj (xs:=(zi (L,T) f).1) (by rw[yX];exact a),wx a,o,yj (xs:=L) a,h];cases back
   ·simp only[Yx,ZD]at m ⊢
    rw[m];by_cases b:f.2=p
    ·subst b
     simp only[Z6];by_cases z:c%2=0
     ·rw[Jh z,Jc ne];lia
     ·rw[Jc z,Jh rfl];lia
    ·rw[Jc b,Jc b]
     by_cases g:f.1=p
     ·subst g
      simp only[Z6];by_cases z:c%2=0
      ·rw[Jh z,Jh rfl];lia
      ·rw[Jc z,Jc (Ne.symm ne)];lia
     ·rw[Jc g,Jc g]
      have s:¬ here=p:=by rcases on with e|e<;>simp_all
      have q:¬(if c%2=0 then f.1 else f.2)=p:=by split<;>assumption
      rw[Jc s,Jc q]
   ·simp only[Z6]at m ⊢
    rw[m];by_cases b:f.2=p
    ·subst b
     simp only[Z6];by_cases z:1-c%2=0
     ·rw[Jh z,Jc ne];lia
     ·rw[Jc z,Jh rfl];lia
    ·rw[Jc b,Jc b]
     by_cases g:f.1=p
     ·subst g
      simp only[Z6];by_cases z:1-c%2=0
      ·rw[Jh z,Jh rfl];lia
      ·rw[Jc z,Jc (Ne.symm ne)];lia
     ·rw[Jc g,Jc g]
      have s:¬ here=p:=by rcases on with e|e<;>simp_all
      have q:¬(if 1-c%2=0 then f.1 else f.2)=p:=by split<;>assumption
      rw[Jc s,Jc q]
  ·rw[h]
   by_cases z:(if back=true then 1-c%2 else c%2)=0
   ·rw[Jh z];exact x
   ·rw[Jc z];exact w
  ·rw[n,t]
   cases back<;>simp at m<;>lia
 ·rw[Jc on]at j
  have A:¬ here=f.1:=λz=>on (.inl z);have y:¬ here=f.2:=λz=>on (.inr z);rw[Jc A]at v;rw[Jc y]at u;have n:(zu L here d).getD f.1 0+(zu L here d).getD f.2 0=c:=by rw[v,u,<- o];lia
  have h:r.2=here:=by rw[j]
  refine⟨xI (by rw[yX,yk,yk,yX]) λp l=>?_,by rw[h];exact B,λz=>absurd z on,λ_=>by rw[n,t]⟩;rw[yX,yk]at l;have a:p<L.length:=l;rw[wx (by rw[yk];exact a),n,yj (xs:=(zi (L,T) f).1) (by rw[yX];exact a),wx a,o,yj (xs:=L) a,h];by_cases b:f.2=p
  ·rw[Jh b,Jh b,Jc (by simp_all)];lia
  ·rw[Jc b,Jc b]
   by_cases g:f.1=p
   ·rw[Jh g,Jh g,Jc (by simp_all)];lia
   ·rw[Jc g,Jc g]
structure Ran (back:Bool) (fs:List (Nat × Nat)) (cs ts:List Int) (lane i:Nat):Prop where
 flows:(zr (fs.take i) (zu cs lane (if back then -1 else 1))).1=zu (zr (fs.take i) cs).1 (yD back fs ts lane i).2 (if back then -1 else 1)
 turns:∀ k,k<i->(zr (fs.take i) (zu cs lane (if back then -1 else 1))).2.getD k 0=(yD back fs ts lane i).1.getD k 0
 rest:∀ k,i<=k->(yD back fs ts lane i).1.getD k 0=ts.getD k 0
 len:(yD back fs ts lane i).1.length=ts.length
 here:(yD back fs ts lane i).2<cs.length
 bits:∀ t∈(yD back fs ts lane i).1,t=0\/t=1
theorem tF (cs:List Int)(T:List Int):∀ (a:List (Nat × Nat)) (L:List Int) (k:Nat),k<T.length->(zy (L,T) a).2.getD k 0=T.getD k 0
 | [],_,_,_=>rfl
 | g::a,L,k,h=>by
  have:=tF cs (zi (L,T) g).2 a (zi (L,T) g).1 k (by simp[zi];lia);rw[show zy (L,T) (g::a)=zy ((zi (L,T) g).1,(zi (L,T) g).2) a from rfl,this];show (T++[_]).getD k 0=T.getD k 0;rw[J8,Yd h,<- J8]
theorem zaG {fs:List (Nat × Nat)}{i:Nat}{f:Nat × Nat}(h:fs[i]?=some f)(cs:List Int):(zr fs cs).2.getD i 0=((zr (fs.take i) cs).1.getD f.1 0+(zr (fs.take i) cs).1.getD f.2 0)%2:=by
 have sp:fs=fs.take (i+1)++fs.drop (i+1):=(Z0 _ _).symm
 have e:zr fs cs=zy (zr (fs.take (i+1)) cs) (fs.drop (i+1)):=by
  conv=>lhs;rw[sp]
  unfold zr zy;rw[YQ]
 have hi:i<fs.length:=(Ja.mp h).1;have a:(zr (fs.take i) cs).2.length=i:=by rw[y8,JF];lia
 rw[e,wE h];have:=tF cs (zi (zr (fs.take i) cs) f).2 (fs.drop (i+1)) (zi (zr (fs.take i) cs) f).1 i (by simp[zi,a]);rw[this];unfold zi;simp only;rw[J8,Y3 (by lia),a];simp
theorem n5 {ts:List Int}{k:Nat}(h:∀ t∈ts,t=0\/t=1):∀ t∈ts.set k (1-ts.getD k 0),t=0\/t=1:=λt a=>by
 rcases List.mem_or_eq_of_mem_set a with z|z
 ·exact h t z
 ·by_cases b:k<ts.length
  ·have:=h _ (L2.mz b);lia
  ·rw[List.set_eq_of_length_le (by simp_all)]at a;exact h t a
theorem ran {back:Bool}{fs:List (Nat × Nat)}{cs:List Int}{lane:Nat}(ok:∀ f∈fs,f.1<cs.length/\f.2<cs.length/\f.1≠f.2)(h:lane<cs.length)(hb:∀ t∈(zr fs cs).2,t=0\/t=1):∀ i,i<=fs.length->Ran back fs cs (zr fs cs).2 lane i
 | 0,_=>⟨rfl,λk b=>absurd b (Nat.not_lt_zero _),λ_ _=>rfl,rfl,h,hb⟩
 | i+1,hi=>by
  have ih:=ran (back:=back) ok h hb i (by lia);have c:fs[i]?=some fs[i]:=J6 (by lia);have w:fs.getD i (0,0)=fs[i]:=by rw[J8,c];rfl
  have d:=ok _ (Yf (show i<fs.length by lia));have j:=wE c (zu cs lane (if back then -1 else 1));have e2:=wE c cs;have tt:=zaG c cs;generalize fs[i]=f at *;have g:(zr (fs.take i) cs).1.length=cs.length:=xt _ _;have n:(zr (fs.take i) (zu cs lane (if back then -1 else 1))).2.length=i:=by rw[y8,JF];lia
  have o:(zr fs cs).2.length=fs.length:=y8 _ _;have of:=bv back (zr (fs.take i) cs).1 (zr (fs.take i) (zu cs lane (if back then -1 else 1))).2 f (yD back fs (zr fs cs).2 lane i).2 i (yD back fs (zr fs cs).2 lane i).1 (by simp_all) (by simp_all) d.2.2 (by rw[g];exact ih.here) (by rw[ih.rest i (Je _)];exact tt);obtain⟨u,s,q,p⟩:=of;have rs:yD back fs (zr fs cs).2 lane (i+1)=yB back ((yD back fs (zr fs cs).2 lane i).1,(yD back fs (zr fs cs).2 lane i).2) i f:=by show yB _ _ _ _=_;rw[w]
  have st:zr (fs.take i) (zu cs lane (if back then -1 else 1))=(zu (zr (fs.take i) cs).1 (yD back fs (zr fs cs).2 lane i).2 (if back then -1 else 1),(zr (fs.take i) (zu cs lane (if back then -1 else 1))).2):=by rw[<- ih.flows]
  generalize a:yD back fs (zr fs cs).2 lane i=r at *;generalize v:(zr (fs.take i) (zu cs lane (if back then -1 else 1))).2=T at *
  have m:(yB back (r.1,r.2) i f).1.getD i 0=(zi (zu (zr (fs.take i) cs).1 r.2 (if back then -1 else 1),T) f).2.getD i 0:=by
   unfold zi;simp only;rw[J8 (l:=T++_),Y3 (by simp_all),n];simp only[Nat.sub_self,List.getElem?_cons_zero,ZN];unfold yB;by_cases on:r.2=f.1\/r.2=f.2
   ·rw[Jh on,q on]
    simp only;rw[yY (by have z:=ih.len;rw[a,o]at z;lia),Jh rfl]
   ·rw[Jc on,p on]
  have keep:∀ k,k≠i->(yB back (r.1,r.2) i f).1.getD k 0=r.1.getD k 0:=λk b=>by
   unfold yB;split
   ·simp only
    rw[J8,Wj (Ne.symm b),<- J8]
   ·rfl
  refine⟨?_,λk b=>?_,λk b=>?_,?_,?_,?_⟩
  ·rw[j,st,u,rs,e2,show zr (fs.take i) cs=((zr (fs.take i) cs).1,(zr (fs.take i) cs).2) from rfl];rfl
  ·rw[j,st,rs]
   by_cases e:k=i
   ·subst e;exact m.symm
   ·have z:=ih.turns k (by lia)
    rw[a,v]at z;rw[keep k e,<- z];unfold zi;simp only;rw[J8,Yd (by lia),<- J8]
  ·have z:=ih.rest k (by lia)
   rw[a]at z;rw[rs,keep k (by lia),z]
  ·rw[rs]
   unfold yB;split
   ·simp only;rw[YG,<- ih.len,a]
   ·rw[<- ih.len,a]
  ·rw[rs,<- g];exact s
  ·rw[rs]
   unfold yB;split
   ·exact n5 (by have z:=ih.bits;rw[a]at z;exact z)
   ·have z:=ih.bits;rw[a]at z;exact z
theorem vT {back:Bool}{fs:List (Nat × Nat)}{ts:List Int}{lane:Nat}(h:∀ t∈ts,t=0\/t=1):∀ i,∀ t∈(yD back fs ts lane i).1,t=0\/t=1
 | 0=>h
 | i+1=>by
  have ih:=vT (back:=back) (fs:=fs) (lane:=lane) h i;show ∀ t∈(yB back (yD back fs ts lane i) i (fs.getD i (0,0))).1,t=0\/t=1;unfold yB;split
  ·exact n5 ih
  ·exact ih
theorem uX {back:Bool}{fs:List (Nat × Nat)}{ts:List Int}{lane:Nat}:∀ i,(yD back fs ts lane i).1.length=ts.length
 | 0=>rfl
 | i+1=>by
  have ih:=uX (back:=back) (fs:=fs) (ts:=ts) (lane:=lane) i;show (yB back (yD back fs ts lane i) i (fs.getD i (0,0))).1.length=_;unfold yB;split
  ·simp only;rw[YG];exact ih
  ·exact ih
theorem rA {back:Bool}{fs:List (Nat × Nat)}{ts:List Int}{lane n:Nat}(ok:∀ f∈fs,f.1<n/\f.2<n/\f.1≠f.2)(b:lane<n):∀ i,i<=fs.length->(yD back fs ts lane i).2<n
 | 0,_=>b
 | i+1,hi=>by
  have ih:=rA (back:=back) (ts:=ts) ok b i (by lia);have a:=ok _ (Yf (show i<fs.length by lia));have c:fs.getD i (0,0)=fs[i]:=by rw[J8,J6 (show i<fs.length by lia)];rfl
  show (yB back (yD back fs ts lane i) i (fs.getD i (0,0))).2<n;rw[c];generalize fs[i]=f at *;unfold yB;split
  ·simp only
   by_cases z:(if back=true then 1-(yD back fs ts lane i).1.getD i 0 else (yD back fs ts lane i).1.getD i 0)=0
   ·rw[Jh z];exact a.1
   ·rw[Jc z];exact a.2.1
  ·exact ih
theorem mq (k:Nat):∀ a:List Nat,(a.map λ(e:Nat)=>(e:Int)).idxOf (k:Int)=a.idxOf k
 | []=>rfl
 | e::a=>by
  rw[JR,List.idxOf_cons,List.idxOf_cons,mq k a]
  have:((e:Int) == (k:Int))=(e == k):=by
   rw[Yy,beq_iff_eq];rw[beq_iff_eq];lia
  rw[this]
theorem aK (a:List Nat):yG a=(a.map λ(e:Nat)=>(e:Int)).map V.int:=by unfold yG;rw[YX];rfl
def cg:Sp:=λb H Q _=>∃ r fr d c N,∃ a:Nat,b=[.ref r,.int a]/\Nt.Ok N/\NetAt H r fr d c N/\a<N.lanes/\Q (.int (N.ends.idxOf a:Nat)) H
def RunQ (back:Bool)(vs:List V)(H:Hp)(Q:VK):Prop:=∃ r fr g f N e b,∃ a:Nat,vs=[.ref r,.ref e,.int a]/\Nt.Ok N/\NetAt H r fr g f N/\H e=some (.tup (List.map V.int b))/\b.length=N.forks.length/\(∀ t∈b,t=0\/t=1)/\a<N.lanes /\
 ∀ p c d,Same H d->d p=some (.tup [.ref c,.int (N.ends.idxOf (yD back N.forks b a N.forks.length).2:Nat)])->d c=some (.tup ((yD back N.forks b a N.forks.length).1.map V.int))->Q (.ref p) d
def kD (back:Bool):Sp:=λa H Q _=>RunQ back a H Q
def cY:Sp:=λb H Q _=>∃ (a:List V) (back:Bool),b=a++[.bl back]/\RunQ back a H Q
theorem zaQ (xs:List Int)(i:Nat)(v:Int)(h:i<xs.length):(xs.map V.int).take i++[V.int v]++(xs.map V.int).drop (i+1)=(xs.set i v).map V.int:=by
 rw[List.set_eq_take_append_cons_drop,Jh h,JE,JR,List.map_take,List.map_drop,JK];rfl
def part (m:Int)(lane k:Nat):List Grp:=if m=0 then [] else [⟨m,lane,k⟩]
end Bn
namespace L2
open PySem PySem.Spec PyProof.Rows Own
section
variable {X:Cx}
theorem Inv.big {pins:List (JI × Obj)}{σ:St}{H:Hp}{s:JO}(I:Inv X pins σ H s):sysModules<s.heap.objs.size:=by
 have h:mainGlobals<s.heap.objs.size:=(I.mod.glob.keeps I.bk).lt;exact ZA (by decide) h
end
end L2
namespace Bn
open PySem L2 Own
structure Good (K:Jl) (D:JI->Prop) (H:Hp) (x:V):Prop where
 any:AnyT K H x
 ne:∀ a,x=.ref a->D a
def Flat:V->Prop
 | .ref _=>False
 | .ty _=>False
 | .byt _=>False
 | _=>True
theorem Good.flat {K:Jl}{D:JI->Prop}{H:Hp}:∀ {x:V},Flat x->Good K D H x
 | .non,_=>⟨⟨_,.non,_,rfl⟩,λ_ z=>by cases z⟩
 | .bl b,_=>⟨⟨_,.bl b,_,rfl⟩,λ_ z=>by cases z⟩
 | .int i,_=>⟨⟨_,.int i,_,rfl⟩,λ_ z=>by cases z⟩
 | .str s,_=>⟨⟨_,.str s,_,rfl⟩,λ_ z=>by cases z⟩
 | .flt s,_=>⟨⟨_,.flt s,_,rfl⟩,λ_ z=>by cases z⟩
end Bn
namespace L2
open PySem PySem.Spec PyProof.Rows Own
def LtAt (A:YO)(s:JO)(y x:Jo)(b:Bool):Prop:=∀ (prog:Yo) (w:YI) (E:Jo->JO->Prop) (Q:Jo->JO->Prop),Q (.bool b) s->wpAny (model prog w) A (richCompare .Lt y x) Q E s
theorem LtAt.ints {A:YO}{s:JO}(a b:Int)(t u:Tok):LtAt A s (.int a t) (.int b u) (decide (a<b)):=λ_ _ _ _ h=>lt_int h
theorem mX (l b:JI)(xs ys:Array Jo)(n m:Nat)(L K:Option JI)(p o:Array (Option Jo))(k:Nat)(N:k<xs.size)(M:k<ys.size)(c:Bool) :
  Meets (Builtin.«tuple.__lt__» ⟨[.ref l,.ref b],[]⟩)
   (λA R s=>s.heap.get? l=some { cls:=.type "tuple",dict:=L,data:=.seq xs n,slots:=p }/\s.heap.get? b=some { cls:=.type "tuple",dict:=K,data:=.seq ys m,slots:=o } /\
    (∀ j (P:j<xs.size) (O:j<ys.size),j<k->SeqAt.EqAt A.in1 s xs[j] ys[j] true)/\SeqAt.EqAt A.in1 s xs[k] ys[k] false/\LtAt A.in1 s xs[k] ys[k] c/\R (.ok (.ret (.bool c))) s) :=
 .of_wp λprog w A R s h=>by
  obtain⟨D,g,d,u,os⟩:=s;obtain⟨E,I,G,F,H,h⟩:=h;have kinds:=AutoSeq1.sub_tuple_tuple;have r:(xs.toList.zip ys.toList).length=min xs.size ys.size:=by simp
  wp_walk using wpAny_loadPart' E,wpAny_loadPart' I,wpAny_forIn_list _ (λrest b e=>b.1=none/\e=⟨D,g,d,u,os⟩/\∃ i,i<=k/\rest=(xs.toList.zip ys.toList).drop i) _
  case turn =>
   rintro⟨y,x⟩ rest b e ⟨q,rfl,i,v,a⟩;have C:i<xs.size:=by lia
   have B:i<ys.size:=by lia
   have f:i<(xs.toList.zip ys.toList).length:=by rw[r];lia
   rw[Yj f]at a;obtain⟨t,e2⟩:=WD a;have J:y=xs[i]:=by simpa using JP Prod.fst t
   have ex:x=ys[i]:=by simpa using JP Prod.snd t
   subst J ex;by_cases z:i=k
   ·subst z
    refine J0 (F prog w _ _ ?_);simp only[Z6,Bool.not_false];refine J0 (Z3 (J0 (H prog w _ _ ?_)))
    wp_walk
    exact⟨_,rfl,h⟩
   ·refine J0 (G i C B (by lia) prog w _ _ ?_)
    wp_walk
    exact⟨rfl,rfl,i+1,by lia,e2⟩
  case fin =>
   rintro⟨S,Q⟩ e ⟨q,rfl,i,v,a⟩;have f:i<(xs.toList.zip ys.toList).length:=by rw[r];lia
   rw[Yj f]at a;cases a
  case h =>
   exact⟨rfl,rfl,0,JN _,rfl⟩
theorem LtAt.tuples {A:YO}{s:JO}{l b:JI}{xs ys:Array Jo}{k:Nat}{c:Bool}(v:IsTup s.heap l xs)(hb:IsTup s.heap b ys)(u:A.units<cLine)(t:k<xs.size)(r:k<ys.size)(z:∀ j (J:j<xs.size) (I:j<ys.size),j<k->SeqAt.EqAt A.in1 s xs[j] ys[j] true)(y:SeqAt.EqAt A.in1 s xs[k] ys[k] false)(B:LtAt A.in1 s xs[k] ys[k] c):LtAt A s (.ref l) (.ref b) c:=λprog w E Q h=>by
 obtain⟨⟨H,f,D,d⟩,i,q,n,o⟩:=v;obtain⟨⟨G,e,C,a⟩,g,p,m,e2⟩:=hb;simp only at q o p e2;subst q o p e2;exact richCompare_meets_room (op:=.Lt) ⟨_,i,rfl⟩ ⟨_,g,rfl⟩ F.slot_tuple_lt F.entry_tuple_lt (F.args_tuple_lt_2 _ _) (mX l b xs ys n m f e d a k t r c) ⟨i,g,z,y,B,show Value.bool c≠Value.notImplemented/\Q (.bool c) s from⟨(λx=>nomatch x),h⟩⟩ u
theorem zbu {K:Jl}{a:JI}{xs:List V}{g:TG}{tt:TT}{j:TE}{l:JI}{σ:St}{H:Hp}{Q:VK}(d:Nat->List V->St->Hp->Prop)(s:d 0 [] σ H)(r:∀ i acc σ H,d i acc σ H->H l=some (.lst acc)/\SqT K H a xs)(q:∀ i x acc σ H,xs[i]?=some x->d i acc σ H->g x σ H λc t=>tt c t λb n=>if b=true then j c n λy k=>k l=some (.lst acc)/\acc.length<sizeLine/\Nx xs.length i (d (i+1) (acc++[y]) c (upd k l (.lst (acc++[y])))) else Nx xs.length i (d (i+1) acc c n))(hd:∀ acc σ H,d xs.length acc σ H->Q (.ref l) H):∃ W:Nat->Nat->List V->St->Hp->Prop,(∃ m,W 0 m [] σ H)/\LCW (Itt K a) g tt j l Q W:=by
 refine⟨λi m acc σ H=>m=xs.length-i/\i<=xs.length/\d i acc σ H,⟨_,rfl,JN _,s⟩,?_⟩;rintro i m acc σ H ⟨rfl,hi,p⟩;obtain⟨o,f⟩:=r i acc σ H p;refine⟨o,?_⟩;by_cases h:i<xs.length
 ·refine .inr ⟨⟨xs,xs[i],f,J6 h⟩,λx u ⟨e,y⟩=>?_⟩
  subst e;exact q i x acc σ _ (y xs f) p
 ·obtain rfl:i=xs.length:=by lia
  exact .inl ⟨⟨xs,f,Je _⟩,hd acc σ H p⟩
end L2
namespace K65
open PySem L2 Own Bn
abbrev kR:Stmt:=top 16
abbrev kT:Stmt:=top 17
def oP:Sp:=λd H Q _=>∃ a b,∃ (place:Nat) (v:Int),d=[.ref a,.int place,.int v]/\H a=some (.tup (List.map V.int b))/\place<b.length/\b.length<=1000/\∀ p c,Same H c->c p=some (.tup ((b.set place v).map V.int))->Q (.ref p) c
def oT:Sp:=λd H Q _=>∃ a b,∃ (place:Nat) (v:Int),d=[.ref a,.int place,.int v]/\H a=some (.tup (List.map V.int b))/\place<b.length/\b.length<=1000/\∀ p c,Same H c->c p=some (.tup ((b.set place (b.getD place 0+v)).map V.int))->Q (.ref p) c
section
variable {P:Yo}{w:YI}{K:Jl}{mg:Str->Option Jo}{base:YP}
theorem zel:FnScope ["row","place","value"] ["row","place","value"] (zN kR):=by trivial
theorem aG {f:JI}{fd:Yl}(F:Fun K "given_at" "given_at" kR f fd) (G:Mgs mg):FnOk P w K mg base CX0 1 f fd ["row","place","value"] oP:=by
 refine F.ok zel (λl H Q E h=>?_) (λC A outer s H l Q E J h=>?_)
 ·obtain⟨a,b,place,v,rfl,_⟩:=h
  rfl
 obtain⟨a,b,place,v,rfl,g,p,D,k⟩:=h;refine⟨_,(zM (zT (zS w8 (zS w8 (xi vp (pvb 0 rfl) xY (y4 (pvb 1 rfl))) (yE (zB (pvb 2 rfl) zC rfl))) (xi vp (pvb 0 rfl) (y4 (zS yO (pvb 1 rfl) zK)) xY)))),?_⟩;have I:(b.map V.int).length=b.length:=Jb _;refine zA (zA (yM rfl ⟨a,_,rfl,g,λx N o j=>?_⟩));rw[qG _ place (by lia)]at j;refine zA ⟨(by show 1<=sizeLine;decide),λu c=>?_⟩;have e:=zE c (.tup [.int v]);refine⟨x,u,_,_,rfl,rfl,e _ _ j,zD,?_,λt M n z=>?_⟩
 ·rw[JF,JW];show _+1<=_;grind
 have u3:=(o.trans e).trans n;refine zA (zA ⟨_,_,rfl,rfl,_,rfl,a,_,rfl,u3 _ _ g,λr L d i=>?_⟩);rw[show ((place:Int)+1)=((place+1:Nat):Int) from rfl,qH _ (place+1) (by lia)]at i;refine⟨t,r,_,_,rfl,rfl,d _ _ z,i,?_,λq B m y=>?_⟩
 ·rw[Jn,JF,Zv,JW];show _+1+_<=_;grind
 exact k q B ((u3.trans d).trans m) (by rw[y,zaQ b place v p])
theorem zeq:FnScope ["counts","place","many"] ["counts","place","many"] (zN kT):=by trivial
theorem aI {f j:JI}{fd l:Yl}(F:Fun K "added" "added" kT f fd) (G:Mgs mg) (m:Use P w K mg base "given_at" ["row","place","value"] 1 oP j l):FnOk P w K mg base CX0 2 f fd ["counts","place","many"] oT:=by
 refine F.ok zeq (λg H Q E h=>?_) (λn A outer s H g Q E i h=>?_)
 ·obtain⟨a,b,place,v,rfl,_⟩:=h
  rfl
 obtain⟨a,b,place,v,rfl,d,c,e,k⟩:=h;refine⟨_,(zM (zT (zU m i (zB (pvb 0 rfl) (zB (pvb 1 rfl) (zB (zS yO (zt yF (pvb 0 rfl) (pvb 1 rfl) (λ_ _=>rfl)) (pvb 2 rfl)) zC rfl) rfl) rfl) rfl rfl rfl rfl))),?_⟩;exact zA (zA (zA (zA ⟨a,_,_,_,rfl,rfl,SqT.of d,wv c,_,rfl,_,_,rfl,rfl,a,b,place,_,rfl,d,c,e,k⟩)))
end
end K65
namespace L2
open PySem PySem.Spec PyProof.Rows
section
variable [DecidableEq κ]
theorem RelO.isSome_eq {o:Option V}{u:Option Jo}(r:RelO o u):o.isSome=u.isSome:=by
 cases o with
 | none=>cases u with
  | none=>rfl
  | some _=>exact(show False from r).elim
 | some _=>cases u with
  | none=>exact(show False from r).elim
  | some _=>rfl
theorem RelO.getD {o:Option V}{u:Option Jo}{d:V}{d':Jo}(r:RelO o u)(a:RelV d d'):RelV (o.getD d) (u.getD d'):=by
 cases o with
 | none=>cases u with
  | none=>exact a
  | some _=>exact(show False from r).elim
 | some _=>cases u with
  | none=>exact(show False from r).elim
  | some _=>exact r
end
theorem zdM {P:Yo}{w:YI}{k:Key}{u:Jo}(r:RelV (kV k) u):(yi P w).is k u=true:=by
 cases k with
 | inl i=>obtain⟨t,e⟩:=(show ∃ t,u=Value.int i t from r);subst e;exact mR P w i t
 | inr x=>obtain⟨t,e⟩:=(show ∃ t,u=Value.str x t from r);subst e;exact mQ P w x t
theorem pJ {P:Yo}{w:YI}:∀ {ks:List Key}{us:List Jo},Vals (ks.map kV) us->ItemsAre (yi P w) ks us
 | [],_,r=>by rw[List.map_nil]at r;cases r;exact .nil
 | k::ks,_,r=>by
  rw[JR]at r
  cases r with
  | cons h t=>exact .cons (zdM h) (pJ t)
section
variable {P:Yo}{w:YI}{H:Hp}{h:YP}{a:JI}
theorem zbW {u:HO}(ok:HOk P w H h)(e:Rd H a u):ObjOk P w H h a u:=e.ok ok
theorem zcV {ks:List Key}(ok:HOk P w H h)(e:H a=some (.tup (ks.map kV))):(tupleKind (yi P w)).is h ks a:=by
 obtain⟨_,b,r,o,f,d,n,c⟩:=(show ObjOk P w H h a (.tup (ks.map kV)) from ok a _ e);exact⟨o,b.toArray,n,f,d,c.1,by simpa using pJ r⟩
end
section
variable {X:Cx}{pins:List (JI × Obj)}{σ:St}{H:Hp}{s:JO}{a:JI}
theorem tZ {h':YP}{t':Nat}{ob:HO}(I:Inv X pins σ H s)(c:Mut (H a))(d:Heap.SameBut a s.heap h')(f:∃ q,h'.get? a=some q)(new:ObjOk X.prog X.w (upd H a ob) h' a ob) :
  Inv X pins σ (upd H a ob) { s with heap:=h',toks:=t' } :=
 I.write (x:=a) (e:=a) c (.inl rfl) (λb q g z=>(d.2 b g).trans z) f new
end
def cS:List (TE × TE)->St->Hp->(List (V × V)->Hp->Prop)->Prop
 | [],_,H,Q=>Q [] H
 | (tk,a)::r,σ,H,Q=>tk σ H λx d=>a σ d λy c=>cS r σ c λps b=>Q ((x,y)::ps) b
abbrev VV:List (V × V)->List (Jo × Jo)->Prop:=Paired λp q=>RelV p.1 q.1/\RelV p.2 q.2
def PPs (X:Cx)(pos:Pos)(keys:List (Option Expr))(values:List Expr)(a:List (TE × TE)):Prop :=
 ∀ (pins:List (JI × Obj)) (s:JO) (σ:St) (H:Hp) (Q:List (V × V)->Hp->Prop),Inv X pins σ H s->cS a σ H Q ->
  wpAny (model X.prog X.w) X.A (evalPairs (pairTrees keys values X.env pos)) (λd e=>∃ b c,Inv X pins σ c e/\VV b d/\Q b c) X.xe s
theorem za0 {X:Cx}{pos:Pos}:PPs X pos [] [] []:=λpins s σ H Q I h=>pairTrees_nil_walk ⟨[],H,I,.nil,h⟩
theorem bX {X:Cx}{pos:Pos}{k v:Expr}{ks:List (Option Expr)}{vs:List Expr}{tk b:TE}{a:List (TE × TE)}(o:PE X k tk)(m:PE X v b)(n:PPs X pos ks vs a) :
  PPs X pos (some k::ks) (v::vs) ((tk,b)::a):=λpins s σ H Q I h =>
 pairTrees_cons_walk (thn (o pins s σ H _ I h) λu d ⟨x,z,r,f,j⟩=>thn (m pins d σ z _ r j) λA c ⟨y,w,q,e,i⟩ =>
  thn (n pins c σ w _ q i) λws B ⟨l,t,p,rel,g⟩=>⟨(x,y)::l,t,p,.cons ⟨f,e⟩ rel,g⟩)
structure M1 (X:Cx) (o:Expr) (m:Str) (apos:Pos) (e:Expr) (cpos:Pos):Prop where
 base:attributeBase o m X.env (eval o X.env)=eval o X.env
 few:((backTo cpos (starEach [e] X.env)).all (λx=>!x.1) && (backToKw cpos (keywordEach [] X.env)).all (λx=>x.1.isSome)
  && decide (([e]:List Expr).length+([]:List Keyword).length+(if ([]:List Keyword).isEmpty then 0 else 1)<30))=true
 line:(apos.endLine == cpos.line)=true
 trees:backTo cpos (starEach [e] X.env)=[(false,eval e X.env)]
structure M2 (X:Cx) (o:Expr) (m:Str) (apos:Pos) (e f:Expr) (cpos:Pos):Prop where
 base:attributeBase o m X.env (eval o X.env)=eval o X.env
 few:((backTo cpos (starEach [e,f] X.env)).all (λx=>!x.1) && (backToKw cpos (keywordEach [] X.env)).all (λx=>x.1.isSome)
  && decide (([e,f]:List Expr).length+([]:List Keyword).length+(if ([]:List Keyword).isEmpty then 0 else 1)<30))=true
 line:(apos.endLine == cpos.line)=true
 trees:backTo cpos (starEach [e,f] X.env)=[(false,eval e X.env),(false,eval f X.env)]
end L2
namespace L2
open PySem PySem.Spec PyProof.Rows Own
theorem iq:∀ {ds:List PyData}{n:Nat},(∀ e∈ds,e.canLay0=true/\e.depth<=n)->PyData.canLayAll0 ds=true/\PyData.depthAll ds<=n
 | [],_,_=>⟨rfl,JN _⟩
 | d::ds,n,h=>by
  obtain⟨c,g⟩:=h d Jz;obtain⟨b,f⟩:=iq (ds:=ds) λe a=>h e (Jw _ a);refine⟨?_,?_⟩
  ·show (d.canLay0 && PyData.canLayAll0 ds)=true
   rw[c,b];rfl
  ·show max d.depth (PyData.depthAll ds)<=n
   lia
abbrev KI:=Int ⊕ List Int
abbrev KN:=List KI
section
variable (prog:Yo)(w:YI)
def NIt (h:YP):KI->Jo->Prop
 | .inl i,v=>∃ t,v=.int i t
 | .inr xs,v=>∃ b,v=.ref b/\IsTupleKey (yi prog w) h (xs.map Sum.inl) b
def NIts (h:YP):KN->List Jo->Prop
 | [],vs=>vs=[]
 | k::ks,vs=>∃ v r,vs=v::r/\NIt prog w h k v/\NIts h ks r
def NIs (h:YP)(ks:KN)(a:JI):Prop:=∃ o items n,h.get? a=some o/\o.cls=.type "tuple"/\o.data=.seq items n/\NIts prog w h ks items.toList
def nh1:KI->Int
 | .inl i=>hashInt i
 | .inr xs=>tupleKeyHash (yi prog w) (xs.map Sum.inl)
def nd1:KI->Nat
 | .inl _=>1
 | .inr xs=>xs.length+1
def nds (ks:KN):Nat:=(ks.map nd1).sum
end
variable {prog:Yo}{w:YI}{A:YO}{E:Jo->JO->Prop}
theorem zbE {a b:List Int}(h:a.map (Sum.inl:Int->Key)=b.map Sum.inl):a=b :=
 List.map_inj_right (λx y e=>Sum.inl.inj e) |>.mp h
theorem NIt.inj {h:YP}{x y:KI}{v:Jo}(a:NIt prog w h x v)(b:NIt prog w h y v):x=y:=by
 cases x with
 | inl i =>
  obtain⟨t,rfl⟩:=a
  cases y with
  | inl j=>obtain⟨u,e⟩:=b;cases e;rfl
  | inr f=>obtain⟨b,e,_⟩:=b;cases e
 | inr l =>
  obtain⟨c,rfl,k⟩:=a
  cases y with
  | inl j=>obtain⟨u,e⟩:=b;cases e
  | inr f =>
   obtain⟨d,e,g⟩:=b;cases e;rw[zbE (k.inj g)]
theorem NIts.inj {h:YP}:∀ {x y:KN}{vs:List Jo},NIts prog w h x vs->NIts prog w h y vs->x=y
 | [],[],_,_,_=>rfl
 | [],_::_,_,a,b=>by obtain⟨v,r,e,_⟩:=b;rw[show _=[] from a]at e;cases e
 | _::_,[],_,a,b=>by obtain⟨v,r,e,_⟩:=a;rw[show _=[] from b]at e;cases e
 | x::j,y::i,_,a,b=>by
  obtain⟨v,r,rfl,g,f⟩:=a;obtain⟨k,l,e,d,c⟩:=b;cases e;rw[g.inj d,NIts.inj f c]
theorem NIs.inj {h:YP}{x y:KN}{a:JI}(p:NIs prog w h x a)(q:NIs prog w h y a):x=y:=by
 obtain⟨o,j,n,g,_,f,e⟩:=p;obtain⟨k,d,l,c,_,b,i⟩:=q;rw[g]at c;cases c;rw[f]at b;cases b;exact e.inj i
theorem NIt.keeps {h h':YP}{d:JI}{o:Obj}{es ep}(hd:h.get? d=some o)(c:o.data=.dict es ep)(s:Heap.SameBut d h h'){k:KI}{v:Jo}(a:NIt prog w h k v):NIt prog w h' k v:=by
 cases k with
 | inl i=>exact a
 | inr g =>
  obtain⟨b,e,f⟩:=a;exact⟨b,e,f.keeps hd c s⟩
theorem NIts.keeps {h h':YP}{d:JI}{o:Obj}{es ep}(hd:h.get? d=some o)(b:o.data=.dict es ep)(s:Heap.SameBut d h h'):∀ {ks:KN}{vs:List Jo},NIts prog w h ks vs->NIts prog w h' ks vs
 | [],_,a=>a
 | k::ks,_,a=>by
  obtain⟨v,r,e,f,c⟩:=a;exact⟨v,r,e,f.keeps hd b s,NIts.keeps hd b s c⟩
theorem NIs.keeps {h h':YP}{ks:KN}{a d:JI}{o:Obj}{es ep}(p:NIs prog w h ks a)(hd:h.get? d=some o)(f:o.data=.dict es ep)(s:Heap.SameBut d h h'):NIs prog w h' ks a:=by
 obtain⟨g,e,n,c,j,b,i⟩:=p;refine⟨g,e,n,?_,j,b,i.keeps hd f s⟩;rw[s.2 a (by rintro rfl;rw[hd]at c;cases c;rw[f]at b;cases b)];exact c
theorem rg:∀ (ks:KN) (vs:List Jo) (c:Array Int) (s:JO) (Q:Array Int->JO->Prop),A.units<cLine->NIts prog w s.heap ks vs->Q (c++(ks.map (nh1 prog w)).toArray) { s with toks:=s.toks+nds ks } ->
  wpAny (model prog w) A (forIn vs c λx c=>(do let r <- pyHash x;pure (ForInStep.yield (c.push r)))) Q E s
 | [],vs,c,s,Q,d,a,q=>by
  rw[show vs=[] from a,YS];refine J9 ?_
  simpa [nds] using q
 | k::ks,vs,c,s,Q,d,a,q=>by
  obtain⟨v,r,rfl,f,j⟩:=a;rw[Yz]
  have h:∀ (m:Nat),m=nd1 k->({ s with toks:=s.toks+m+nds ks }:JO)={ s with toks:=s.toks+nds (k::ks) }:=λm e=>by
   subst e;unfold nds;rw[JR,List.sum_cons,Nat.add_assoc]
  have e2:c.push (nh1 prog w k)++(ks.map (nh1 prog w)).toArray=c++((k::ks).map (nh1 prog w)).toArray:=by simp
  have go:∀ (m:Nat),m=nd1 k->wpAny (model prog w) A (forIn r (c.push (nh1 prog w k)) λx c=>(do let r <- pyHash x;pure (ForInStep.yield (c.push r)))) Q E { s with toks:=s.toks+m }:=λm e =>
   rg ks r (c.push (nh1 prog w k)) { s with toks:=s.toks+m } Q d j (by rw[e2];have:=h m e;simp only at this ⊢;rw[this];exact q)
  cases k with
  | inl i =>
   obtain⟨t,rfl⟩:=f
   exact J0 (J0 (wpAny_pyHash_int (J9 (go 1 rfl))))
  | inr l =>
   obtain⟨b,rfl,g⟩:=f;exact J0 (J0 (wpAny_pyHash_tuple d g (J9 (go _ (by rw[Jb];rfl)))))
theorem eZ {s:JO}{a:JI}{ks:KN}{Q:Int->JO->Prop}(c:A.units+1<cLine)(d:NIs prog w s.heap ks a)(q:Q (reduceHash (Builtin.Tuple.tupleHashOf (ks.map (nh1 prog w)))) { s with toks:=s.toks+(nds ks+1) }):wpAny (model prog w) A (pyHash (.ref a)) Q E s:=by
 obtain⟨o,g,n,b,f,e,hi⟩:=d;show wpAny (model prog w) A (pyHashByItsType (.ref a)) Q E s;refine W.pyHash_slot (T:="tuple") (id:="tuple.__hash__") (B:=Builtin.«tuple.__hash__») ⟨o,b,f⟩ F.slot_tuple_hash F.entry_tuple_hash (F.args_tuple_hash_1 _) (by decide) (.inr (by lia)) ?_;unfold Builtin.«tuple.__hash__»;refine J0 ?_;show wpAny _ _ (pure _) _ _ _;refine J9 (J0 (wpAny_tupleItemsOf b e ?_));rw[<- Array.forIn_toList];refine J0 (rg ks _ _ s _ c hi ?_);simp only[Array.empty_append];unfold retInt;exact J0 (wpAny_mkInt (J9 ⟨_,_,rfl,q⟩))
theorem qt {i:Int}{t:Tok}{n:Nat}{s:JO}{Q:Bool->JO->Prop}(q:Q true s):wpAny (model prog w) A (eqIsQuiet n (.int i t)) Q E s:=by
 cases n<;>exact J9 q
theorem ut {n:Nat}{s:JO}:∀ (vs:List Jo) (Q:Option Bool × Unit->JO->Prop),(∀ v∈vs,∀ R:Bool->JO->Prop,R true s->wpAny (model prog w) A (eqIsQuiet n v) R E s)->Q (none,()) s ->
  wpAny (model prog w) A (forIn vs ((none,()):Option Bool × Unit) λy _=>(do
   let b <- eqIsQuiet n y
   if (!b)=true then pure (ForInStep.done (some false,())) else pure (ForInStep.yield (none,())))) Q E s
 | [],Q,_,q=>by rw[YS];exact J9 q
 | v::vs,Q,h,q=>by
  rw[Yz];exact J0 (J0 (h v Jz _ (J9 (ut vs Q (λu a=>h u (Jw _ a)) q))))
theorem qr {s:JO}{a:JI}{o:Obj}{its:Array Jo}{m n:Nat}{Q:Bool->JO->Prop}(c:s.heap.get? a=some o) (d:o.cls=.type "tuple") (hd:o.data=.seq its m)
  (h:∀ v∈its.toList,∀ R:Bool->JO->Prop,R true s->wpAny (model prog w) A (eqIsQuiet n v) R E s) (q:Q true s):wpAny (model prog w) A (eqIsQuiet (n+1) (.ref a)) Q E s:=by
 have ty:s.TypeIs (.ref a) "tuple":=⟨o,c,d⟩;unfold eqIsQuiet;refine J0 (Zm (T:="tuple") ty F.slot_tuple_eq.lookup (J0 (Zx (T:="tuple") (b:=true) ty rfl ?_)));show wpAny _ _ (do let _ <- seqItems? _;_) _ _ _;refine J0 (Y4 c hd (J0 ?_));rw[ZN,<- Array.forIn_toList];exact ut _ _ h (J9 q)
theorem NIts.mem {h:YP}:∀ {ks:KN}{vs:List Jo},NIts prog w h ks vs->∀ v∈vs,∃ k,NIt prog w h k v
 | [],_,a,v,b=>by rw[show _=[] from a]at b;cases b
 | k::ks,_,a,v,b=>by
  obtain⟨x,r,rfl,d,c⟩:=a;rcases Jf.mp b with rfl|z
  ·exact⟨k,d⟩
  ·exact NIts.mem c v z
theorem mN {i:Int}{v:Jo}(h:(yi prog w).is (.inl i) v=true):∃ t,v=.int i t:=by
 rw[jH]at h;rcases yP h with ⟨j,t,e,rfl⟩|⟨x,t,e,_⟩
 ·cases e;exact⟨t,rfl⟩
 ·cases e
theorem jW {ks:List Key}{vs:List Jo}(h:ItemsAre (yi prog w) ks vs):∀ xs:List Int,ks=xs.map Sum.inl->∀ v∈vs,∃ i t,v=.int i t:=by
 induction h with
 | nil=>intro xs _ v a;cases a
 | cons b _ ih =>
  intro xs e v a
  cases xs with
  | nil=>cases e
  | cons x xs =>
   rw[JR]at e;injection e with c e2;subst c;rcases Jf.mp a with rfl|z
   ·obtain⟨t,e⟩:=mN b
    exact⟨x,t,e⟩
   ·exact ih xs e2 v z
theorem items_int {ks:List Int}{vs:List Jo}(h:ItemsAre (yi prog w) (ks.map Sum.inl) vs):∀ v∈vs,∃ i t,v=.int i t:=jW h ks rfl
theorem rB {s:JO}{a:JI}{ks:KN}{Q:Bool->JO->Prop}(c:NIs prog w s.heap ks a)(q:Q true s):wpAny (model prog w) A (eqIsQuiet 8 (.ref a)) Q E s:=by
 obtain⟨o,x,n,l,p,m,hi⟩:=c;refine qr l p m (λv h R r=>?_) q;obtain⟨k,c⟩:=hi.mem v h
 cases k with
 | inl i=>obtain⟨t,rfl⟩:=c;exact qt r
 | inr z =>
  obtain⟨b,rfl,B,y,C,d,g,f,e⟩:=c;refine qr d g f (λu j R r=>?_) r;obtain⟨i,t,rfl⟩:=items_int e u j;exact qt r
def dI:KI->PyData
 | .inl i=>.int i
 | .inr xs=>.tuple (xs.map PyData.int)
def dN (ks:KN):PyData:=.tuple (ks.map dI)
theorem kZ {h:YP}{ks:List Key}{vs:List Jo}(a:ItemsAre (yi prog w) ks vs):∀ xs:List Int,ks=xs.map Sum.inl->∃ as,ReadsAll h vs (xs.map PyData.int) as:=by
 induction a with
 | nil =>
  intro xs e
  cases xs with
  | nil=>exact⟨_,.nil⟩
  | cons x xs=>cases e
 | cons b _ ih =>
  intro xs e
  cases xs with
  | nil=>cases e
  | cons x xs =>
   rw[JR]at e;injection e with c e2;subst c;obtain⟨t,rfl⟩:=mN b;obtain⟨as,r⟩:=ih xs e2;exact⟨_,.cons (.int x t) r⟩
theorem NIt.reads {h:YP}{k:KI}{v:Jo}(a:NIt prog w h k v):∃ as,Reads h v (dI k) as:=by
 cases k with
 | inl i=>obtain⟨t,rfl⟩:=a;exact⟨_,.int i t⟩
 | inr c =>
  obtain⟨b,rfl,o,j,n,g,f,e,d⟩:=a;obtain⟨as,r⟩:=kZ (h:=h) d c rfl;exact⟨_,.tuple g f e r⟩
theorem NIts.reads {h:YP}:∀ {ks:KN}{vs:List Jo},NIts prog w h ks vs->∃ as,ReadsAll h vs (ks.map dI) as
 | [],_,a=>by rw[show _=[] from a];exact⟨_,.nil⟩
 | k::ks,_,a=>by
  obtain⟨v,r,rfl,c,b⟩:=a;obtain⟨as,p⟩:=c.reads;obtain⟨bs,q⟩:=NIts.reads b;exact⟨_,.cons p q⟩
theorem NIs.reads {h:YP}{ks:KN}{a:JI}(p:NIs prog w h ks a):∃ as,Reads h (.ref a) (dN ks) as:=by
 obtain⟨o,f,n,e,d,c,b⟩:=p;obtain⟨as,r⟩:=b.reads;exact⟨_,.tuple e d c r⟩
theorem lD:∀ (x y:List Int),PyData.eqvAll (x.map PyData.int) (y.map PyData.int)=decide (x=y)
 | [],[]=>rfl
 | [],_::_=>rfl
 | _::_,[]=>rfl
 | a::x,b::y=>by
  show (PyData.eqv (.int a) (.int b) && PyData.eqvAll (x.map PyData.int) (y.map PyData.int))=_;rw[lD x y,show PyData.eqv (.int a) (.int b)=(a == b) from rfl,Yy];simp
theorem zc5 (x y:KI):PyData.eqv (dI x) (dI y)=decide (x=y):=by
 cases x<;>cases y
 ·rw[show PyData.eqv (dI (.inl _)) (dI (.inl _))=(_ == _) from rfl,Yy];simp
 ·rfl
 ·rfl
 ·show PyData.eqvAll _ _=_
  rw[lD,Yy];simp
theorem iQ:∀ (x y:KN),PyData.eqvAll (x.map dI) (y.map dI)=decide (x=y)
 | [],[]=>rfl
 | [],_::_=>rfl
 | _::_,[]=>rfl
 | a::x,b::y=>by
  show (PyData.eqv (dI a) (dI b) && PyData.eqvAll (x.map dI) (y.map dI))=_;rw[iQ x y,zc5,Yy];simp
theorem mf:∀ x:List Int,PyData.canLayAll0 (x.map PyData.int)=true/\PyData.depthAll (x.map PyData.int)<=0
 | []=>⟨rfl,Je _⟩
 | a::x=>by
  obtain⟨p,q⟩:=mf x;refine⟨?_,?_⟩
  ·show (PyData.canLay0 (.int a) && PyData.canLayAll0 (x.map PyData.int))=true
   rw[p];rfl
  ·show max 0 (PyData.depthAll (x.map PyData.int))<=0
   simp_all
theorem jT (ks:KN):(dN ks).canLay0=true/\(dN ks).depth<=2:=by
 have key:∀ e∈ks.map dI,e.canLay0=true/\e.depth<=1:=λe b=>by
  obtain⟨k,_,rfl⟩:=Jx.mp b
  cases k with
  | inl i=>exact⟨rfl,by show 0<=1;lia⟩
  | inr a =>
   obtain⟨p,q⟩:=mf a;refine⟨p,?_⟩;show PyData.depthAll (a.map PyData.int)+1<=1
   simp_all
 obtain⟨p,q⟩:=iq key;refine⟨p,?_⟩;show PyData.depthAll (ks.map dI)+1<=2
 simp_all
theorem zbJ {s:JO}{x y:KN}{a b:JI}{Q:Bool->JO->Prop}(k:A.units+2<cLine)(h:NIs prog w s.heap x a)(g:NIs prog w s.heap y b)(q:Q (decide (x=y)) s):wpAny (model prog w) A (eqBool (.ref a) (.ref b)) Q E s:=by
 obtain⟨as,d⟩:=h.reads;obtain⟨bs,c⟩:=g.reads;obtain⟨f,j⟩:=jT x;obtain⟨e,i⟩:=jT y;refine PySem.SeqAt.eqBoolOverData prog w A E s _ _ _ _ as bs Q d c f e (by lia) ?_;rw[show PyData.eqv (dN x) (dN y)=PyData.eqvAll (x.map dI) (y.map dI) from rfl,iQ];exact q
variable (prog w)
def xF:HeapKind prog w KN where
 is:=NIs prog w
 hash:=λa=>reduceHash (Builtin.Tuple.tupleHashOf (a.map (nh1 prog w)))
 draws:=λa=>nds a+1
 room:=λA=>A.units+2<cLine
 inj:=λc b=>NIs.inj c b
 keeps:=λx g i f=>NIs.keeps x g i f
 pyHash:=λe d h=>eZ (by lia) d h
 eqBool:=λe c b h=>zbJ e c b h
 quiet:=λd h=>rB d h
end L2
namespace Ts
open PySem PyProof.Rows
structure Cmp (prog:Yo) (w:YI) (A:YO) (s:JO) (κ:SortKind) (P:Keyed->Prop) (rk:Keyed->Int):Prop where
 ask:∀ (x y:Keyed),P x->P y->∀ {Q:Bool->JO->Prop}{E:Jo->JO->Prop},Q (decide (rk x<rk y)) s->wpAny (model prog w) A (keyLt' κ x.1 y.1) Q E s
def R (rk:Keyed->Int)(xs:Array Keyed)(i:Nat):Int:=match xs[i]? with
 | some p=>rk p
 | none=>0
theorem R_congr {rk:Keyed->Int}{xs ys:Array Keyed}{i j:Nat}(h:xs[i]?=ys[j]?):R rk xs i=R rk ys j:=by unfold R;rw[h]
def Up (rk:Keyed->Int)(xs:Array Keyed)(lo n:Nat):Prop:=∀ i j,lo<=i->i<=j->j<lo+n->R rk xs i<=R rk xs j
def Dn (rk:Keyed->Int)(xs:Array Keyed)(lo n:Nat):Prop:=∀ i j,lo<=i->i<=j->j<lo+n->R rk xs j<=R rk xs i
structure Bs (κ:SortKind) (P:Keyed->Prop) (a₀:Array Keyed) (st:SortSt):Prop where
 kind:kindOf st=κ
 fail:failedOf st=none
 perm:(arrOf st).Perm a₀
 all:∀ p∈a₀.toList,P p
theorem Bs.size {κ:SortKind}{P:Keyed->Prop}{a₀:Array Keyed}{st:SortSt}(h:Bs κ P a₀ st):(arrOf st).size=a₀.size:=h.perm.size_eq
theorem Bs.at {κ:SortKind}{P:Keyed->Prop}{a₀:Array Keyed}{st:SortSt}(h:Bs κ P a₀ st){i:Nat}(hi:i<a₀.size)(rk:Keyed->Int):∃ p,(arrOf st)[i]?=some p/\P p/\R rk (arrOf st) i=rk p:=by
 have e:(arrOf st)[i]?=some ((arrOf st)[i]'(by rw[h.size];exact hi)):=getElem?_pos (arrOf st) i (by rw[h.size];exact hi);refine⟨_,e,h.all _ ((Array.perm_iff_toList_perm.mp h.perm).mem_iff.mp (by simp)),?_⟩;unfold R;rw[e]
theorem Bs.arr {κ:SortKind}{P:Keyed->Prop}{a₀:Array Keyed}{st:SortSt}(h:Bs κ P a₀ st){xs:Array Keyed}(a:xs.Perm (arrOf st)):Bs κ P a₀ (setArr st xs):=⟨h.kind,h.fail,a.trans h.perm,h.all⟩
section
variable {prog:Yo}{w:YI}{A:YO}{E:Jo->JO->Prop}{s:JO}{κ:SortKind}{P:Keyed->Prop}{rk:Keyed->Int}{a₀:Array Keyed}
theorem mV (C:Cmp prog w A s κ P rk){st:SortSt}{x y:Keyed}{Q:Option Bool->SortSt->Prop}(b:kindOf st=κ)(a:P x)(py:P y)(h:Q (some (decide (rk x<rk y))) st):wpS (model prog w) A E s (lt' x y) Q st:=by
 rw[lt'_eq];refine Jv (Wu (Jv (wpS_lift (Ze ?_))));rw[b];exact C.ask x y a py ⟨rfl,JB h⟩
theorem w5 {r:String}{st:SortSt}{Q:Unit->SortSt->Prop}(h:Q () st):wpS (model prog w) A E s (liftM (rule r):StateT SortSt Sem Unit) Q st:=wpS_lift (Z3 ⟨rfl,h⟩)
theorem yC {st:SortSt}{arr:Array Keyed}{i:Nat}{p:Keyed}{Q:Keyed->SortSt->Prop}(e:arr[i]?=some p)(h:Q p st):wpS (model prog w) A E s (elem' arr i) Q st:=by
 rw[elem'_eq,e];exact JB h
theorem mW (C:Cmp prog w A s κ P rk){st:SortSt}{i j:Nat}{Q:Option Bool->SortSt->Prop}(a:Bs κ P a₀ st)(hi:i<a₀.size)(e:j<a₀.size)(h:Q (some (decide (R rk (arrOf st) i<R rk (arrOf st) j))) st):wpS (model prog w) A E s (ltAt' i j) Q st:=by
 obtain⟨p,f,pp,c⟩:=a.at hi rk;obtain⟨q,e2,d,b⟩:=a.at e rk;rw[c,b]at h;rw[ltAt'_eq];exact Jv (Wu (Jv (yC f (Jv (yC e2 (mV C a.kind pp d h))))))
structure Keep (κ:SortKind) (P:Keyed->Prop) (rk:Keyed->Int) (a₀:Array Keyed) (lo:Nat) (st st':SortSt):Prop where
 b:Bs κ P a₀ st'
 pend:pendingOf st'=pendingOf st
 low:∀ k,k<lo->R rk (arrOf st') k=R rk (arrOf st) k
theorem Keep.refl {lo:Nat}{st:SortSt}(h:Bs κ P a₀ st):Keep κ P rk a₀ lo st st:=⟨h,rfl,λ_ _=>rfl⟩
theorem Keep.trans {lo:Nat}{st a st2:SortSt}(h:Keep κ P rk a₀ lo st a)(g:Keep κ P rk a₀ lo a st2):Keep κ P rk a₀ lo st st2:=⟨g.b,g.pend.trans h.pend,λk b=>(g.low k b).trans (h.low k b)⟩
theorem R_mirror {xs:Array Keyed}{i j:Nat}(a:j<=xs.size)(k:Nat):R rk (mirror xs i j ((j-i) / 2)) k=if i<=k/\k<j then R rk xs (i+j-1-k) else R rk xs k:=by
 have e:=getElem?_mirror_all (xs:=xs) (i:=i) a k;split at e
 ·next h=>rw[Jh h];exact R_congr e
 ·next h=>rw[Jc h];exact R_congr e
theorem o5 {lo i j:Nat}{st:SortSt}{Q:Unit->SortSt->Prop}(a:Bs κ P a₀ st)(c:lo<=i)(b:j<=a₀.size)(h:∀ st',Keep κ P rk a₀ lo st st'->(∀ k,R rk (arrOf st') k=if i<=k/\k<j then R rk (arrOf st) (i+j-1-k) else R rk (arrOf st) k)->Q () st'):wpS (model prog w) A E s (reverseSlice' i j) Q st:=by
 rw[reverseSlice'_eq];refine Wy (h _ ⟨a.arr (mirror_perm _ _ _ _),rfl,λk d=>?_⟩ λk=>?_)
 ·show R rk (mirror (arrOf st) i j ((j-i) / 2)) k=_
  rw[R_mirror (by rw[a.size];exact b),Jc (by lia)]
 ·exact R_mirror (by rw[a.size];exact b) k
theorem zao (C:Cmp prog w A s κ P rk){st:SortSt}{lo j:Nat}{Q:Option Nat->SortSt->Prop}(B:Bs κ P a₀ st)(h1:1<=j)(hn:lo+j<=a₀.size)(h:∀ st' m,Keep κ P rk a₀ lo st st'->1<=m->m<=j->Up rk (arrOf st') lo m->Q (some m) st'):wpS (model prog w) A E s (countRun' lo j) Q st:=by
 have asc:∀ (st:SortSt) (y:Nat) {Z:Option (Option Nat) × Nat->SortSt->Prop},Bs κ P a₀ st->1<=y->Up rk (arrOf st) lo y ->
   (∀ n,y<=n->n<=max y j->Up rk (arrOf st) lo n->(n<j->R rk (arrOf st) (lo+n)<R rk (arrOf st) (lo+n-1))->Z (none,n) st)->
   ∀ f:Nat->Option (Option Nat) × Nat->StateT SortSt Sem (ForInStep (Option (Option Nat) × Nat)),(∀ i n,f i (none,n)=(do
    let some v <- ltAt' (lo+n) (lo+n-1)|pure (.done (some none,n))
    if v then pure (.done (none,n)) else pure (.yield (none,n+1))))->wpS (model prog w) A E s (forIn [y:j] (none,y) f) Z st:=by
  intro st y Z B h0 F G f hf;refine YB (I:=λi c st'=>st'=st/\c=(none,i)/\y<=i/\Up rk (arrOf st) lo i) ?_ ?_ ⟨rfl,rfl,Je _,F⟩
  ·rintro i c st' hi ab ⟨rfl,rfl,O,r⟩
   rw[hf];refine Jv (mW C B (by lia) (by lia) ?_);by_cases z:R rk (arrOf st') (lo+i)<R rk (arrOf st') (lo+i-1)
   ·rw[Jy z]
    exact JB (G i O (by lia) r λ_=>z)
   ·rw[Jr z]
    refine JB ⟨rfl,rfl,by lia,λa b p l x=>?_⟩;by_cases q:b<lo+i
    ·exact r a b p l q
    ·obtain rfl:b=lo+i:=by lia
     by_cases L:a=lo+i
     ·rw[L];exact ZY _
     ·have:=r a (lo+i-1) p (by lia) (by lia)
      lia
  ·rintro c st' ⟨rfl,rfl,O,r⟩
   exact G _ O (Je _) r λq=>by lia
 rw[countRun'_eq];refine Jv (asc st 1 B (Je _) (λa b h1 h2 O=>by rw[show a=b by lia];exact ZY _) (λn n1 n2 F X=>?_) _ (λi n=>rfl));dsimp only;by_cases z:n=j
 ·subst z
  rw[Jh (Wf _)];exact JB (h _ _ (Keep.refl B) n1 (Je _) F)
 rw[Jc (by simpa using z)];have nl:n<j:=by lia
 have X:=X nl;generalize hT:(bind (liftM (rule "list.sort.descending-run")) _:StateT SortSt Sem (Option Nat))=T
 have tail:∀ o,Keep κ P rk a₀ lo st o->Dn rk (arrOf o) lo n->R rk (arrOf o) (lo+n)<R rk (arrOf o) (lo+n-1)->wpS (model prog w) A E s T Q o:=by
  intro o K1 d1 l1;rw[<- hT];refine Jv (w5 ?_)
  have last:∀ d m,Keep κ P rk a₀ lo st d->1<=m->m<=j->Dn rk (arrOf d) lo m->∀ g,Keep κ P rk a₀ lo d g->(∀ k,R rk (arrOf g) k=if lo<=k/\k<lo+m then R rk (arrOf d) (lo+(lo+m)-1-k) else R rk (arrOf d) k)->Up rk (arrOf g) lo m:=by
   intro d m t U m2 u g D H a b p l x;rw[H,H,Jh ⟨by omega,by lia⟩,Jh ⟨by lia,by omega⟩];exact u _ _ (by lia) (by omega) (by omega)
  refine Jv (Zh (YB (I:=λi c d=>∃ m q,c=(none,m,q)/\m=i/\q+1<=m/\Keep κ P rk a₀ lo st d/\(i<=j->Dn rk (arrOf d) lo m/\∀ k,lo+m-(q+1)<=k->k<lo+m->R rk (arrOf d) k=R rk (arrOf d) (lo+m-1)))
   (Q:=λc d=>∃ m q,c=(none,m,q)/\1<=m/\m<=j/\q+1<=m/\Keep κ P rk a₀ lo st d/\Dn rk (arrOf d) lo m/\∀ k,lo+m-(q+1)<=k->k<lo+m->R rk (arrOf d) k=R rk (arrOf d) (lo+m-1)) ?step ?fin ?init) ?post)
  case init =>
   refine⟨n+1,0,rfl,rfl,by lia,K1,λ_=>⟨λa b p l x=>?_,λk W V=>by rw[show k=lo+(n+1)-1 by lia]⟩⟩;by_cases q:b<lo+n
   ·exact d1 a b p l q
   ·obtain rfl:b=lo+n:=by lia
    by_cases L:a=lo+n
    ·rw[L];exact ZY _
    ·have:=d1 a (lo+n-1) p (by lia) (by lia)
     lia
  case fin =>
   rintro c d ⟨m,q,rfl,e,G,t,Y⟩;obtain⟨u,eq2⟩:=Y (by lia);exact⟨m,q,rfl,by lia,by lia,G,t,u,eq2⟩
  case step =>
   rintro i c d hi ab ⟨m,q,rfl,rfl,G,t,Y⟩;obtain⟨u,eq2⟩:=Y (by lia);dsimp only;refine Jv (mW C t.b (by lia) (by lia) ?_)
   have more:∀ g,Dn rk (arrOf g) lo m->R rk (arrOf g) (lo+m)<=R rk (arrOf g) (lo+m-1)->Dn rk (arrOf g) lo (m+1):=by
    intro g S le a b p l x;by_cases q:b<lo+m
    ·exact S a b p l q
    ·obtain rfl:b=lo+m:=by lia
     by_cases L:a=lo+m
     ·rw[L];exact ZY _
     ·have:=S a (lo+m-1) p (by lia) (by lia)
      lia
   by_cases z1:R rk (arrOf d) (lo+m)<R rk (arrOf d) (lo+m-1)
   ·rw[Jy z1]
    dsimp only;rw[Jh rfl];by_cases J:q > 0
    ·rw[Jh J]
     refine Jv (o5 (rk:=rk) (lo:=lo) t.b (by lia) (by lia) λg D H=>JB ?_)
     have same:∀ k,R rk (arrOf g) k=R rk (arrOf d) k:=λk=>by
      rw[H];split
      ·rw[eq2 _ (by lia) (by omega),eq2 k (by simp_all) (by simp_all)]
      ·rfl
     refine⟨m+1,0,rfl,rfl,by lia,t.trans D,λ_=>⟨more g (λa b p l x=>by rw[same,same];exact u a b p l x) (by rw[same,same];lia),λk W V=>by rw[show k=lo+(m+1)-1 by lia]⟩⟩
    ·rw[Jc J]
     exact JB ⟨m+1,0,rfl,rfl,by lia,t,λ_=>⟨more d u (by lia),λk W V=>by rw[show k=lo+(m+1)-1 by lia]⟩⟩
   ·rw[Jr z1]
    dsimp only;rw[Jc Jp];refine Jv (mW C t.b (by lia) (by lia) ?_);by_cases K:R rk (arrOf d) (lo+m-1)<R rk (arrOf d) (lo+m)
    ·rw[Jy K]
     dsimp only;rw[Jh rfl];exact JB ⟨m,q,rfl,by lia,by lia,G,t,u,eq2⟩
    ·rw[Jr K]
     dsimp only;rw[Jc Jp];have e:R rk (arrOf d) (lo+m)=R rk (arrOf d) (lo+m-1):=by lia
     refine JB ⟨m+1,q+1,rfl,rfl,by simp_all,t,λ_=>⟨more d u (by simp_all),λk W V=>?_⟩⟩;rw[show lo+(m+1)-1=lo+m by simp_all];by_cases q3:k=lo+m
     ·rw[q3]
     ·rw[eq2 k (by lia) (by lia),e]
  case post =>
   rintro c d ⟨m,q,rfl,U,m2,G,t,u,eq2⟩;dsimp only;generalize ak:(bind (reverseSlice' lo (lo+m)) _:StateT SortSt Sem (Option Nat))=T2
   have on:∀ g,Keep κ P rk a₀ lo st g->Dn rk (arrOf g) lo m->wpS (model prog w) A E s T2 Q g:=by
    intro g D S;rw[<- ak];refine Jv (o5 (rk:=rk) (lo:=lo) D.b (by lia) (by lia) λM K4 r4=>?_);refine Jv (asc M m K4.b U (last g m D U m2 S M K4 r4) (λn' a1 a2 r _=>?_) _ (λi n=>rfl));exact JB (h _ _ (D.trans K4) (by lia) (by simp_all) r)
   by_cases J:q > 0
   ·rw[Jh J]
    refine Jv (o5 (rk:=rk) (lo:=lo) t.b (by lia) (by lia) λg D H=>?_)
    have same:∀ k,R rk (arrOf g) k=R rk (arrOf d) k:=λk=>by
     rw[H];split
     ·rw[eq2 _ (by lia) (by omega),eq2 k (by simp_all) (by simp_all)]
     ·rfl
    exact on g (t.trans D) (λa b p l x=>by rw[same,same];exact u a b p l x)
   ·rw[Jc J]
    exact on d t u
 by_cases K:n > 1
 ·rw[Jh K]
  refine Jv (mW C B (by lia) (by lia) ?_);by_cases z3:R rk (arrOf st) lo<R rk (arrOf st) (lo+n-1)
  ·rw[Jy z3]
   exact JB (h _ _ (Keep.refl B) n1 (by simp_all) F)
  ·rw[Jr z3]
   dsimp only;rw[Jc Jp];refine Jv (o5 (rk:=rk) (lo:=lo) B (by lia) (by lia) λo K1 N=>tail o K1 (λa b p l x=>?_) ?_)
   ·rw[N,N,Jh ⟨by lia,by omega⟩,Jh ⟨by omega,by lia⟩]
    exact F _ _ (by lia) (by omega) (by omega)
   ·rw[N,N,Jc (by lia),Jh ⟨by lia,by lia⟩]
    have:=F (lo+(lo+n)-1-(lo+n-1)) (lo+n-1) (by omega) (by omega) (by lia);have e:lo+(lo+n)-1-(lo+n-1)=lo:=by omega
    rw[e]at this ⊢;have:=F lo (lo+n-1) (by lia) (by omega) (by omega);lia
 ·rw[Jc K]
  exact tail st (Keep.refl B) (λa b p l x=>by rw[show a=b by lia];exact ZY _) X
theorem R_bubble {xs:Array Keyed}{src d:Nat}(c:src<xs.size)(hd:d<=src)(k:Nat):R rk (bubble xs src d) k=if k=src-d then R rk xs src else if src-d<k/\k<=src then R rk xs (k-1) else R rk xs k:=by
 have e:=getElem?_bubble (xs:=xs) c d hd k;by_cases b:k=src-d
 ·rw[Jh b]at e ⊢;exact R_congr e
 ·rw[Jc b]at e ⊢
  by_cases a:(src-d<k/\k<=src)
  ·rw[Jh a]at e ⊢;exact R_congr e
  ·rw[Jc a]at e ⊢;exact R_congr e
theorem zc8 (C:Cmp prog w A s κ P rk){st:SortSt}{lo n ok:Nat}{Q:Bool->SortSt->Prop}(J:Bs κ P a₀ st)(S:1<=ok)(hok:ok<=n)(hn:lo+n<=a₀.size)(O:Up rk (arrOf st) lo ok)(h:∀ st',Keep κ P rk a₀ lo st st'->Up rk (arrOf st') lo n->Q true st'):wpS (model prog w) A E s (binarySort' lo n ok) Q st:=by
 rw[binarySort'_eq];rw[show max ok 1=ok by simp_all];refine Jv (Zh (YB (I:=λk c a=>c=(none,())/\Keep κ P rk a₀ lo st a/\Up rk (arrOf a) lo (min k n)) (Q:=λc a=>c=(none,())/\Keep κ P rk a₀ lo st a/\Up rk (arrOf a) lo n) ?step ?fin ?init) ?post)
 case init=>exact⟨rfl,Keep.refl J,by rwa [Nat.min_eq_left hok]⟩
 case fin =>
  rintro c a ⟨rfl,f,e⟩;rw[show min (max ok n) n=n by simp_all]at e;exact⟨rfl,f,e⟩
 case post =>
  rintro c a ⟨rfl,f,e⟩;exact JB (h a f e)
 case step =>
  rintro k c a L K ⟨rfl,f,e⟩;rw[show min k n=k by lia]at e
  refine Jv (Zh (YB (I:=λx c b=>b=a/\∃ l r,c=(none,l,r)/\l<=r/\r<=k/\r-l<=k-x/\(∀ i,lo<=i->i<lo+l->R rk (arrOf a) i<=R rk (arrOf a) (lo+k))/\(∀ i,lo+r<=i->i<lo+k->R rk (arrOf a) (lo+k)<=R rk (arrOf a) i))
   (Q:=λc b=>b=a/\∃ l r,c=(none,l,r)/\l<=k/\(∀ i,lo<=i->i<lo+l->R rk (arrOf a) i<=R rk (arrOf a) (lo+k))/\(∀ i,lo+l<=i->i<lo+k->R rk (arrOf a) (lo+k)<=R rk (arrOf a) i)) ?istep ?ifin ?iinit) ?ipost)
  case iinit=>exact⟨rfl,0,k,rfl,by lia,by lia,by simp_all,λi _ _=>by lia,λi _ _=>by lia⟩
  case ifin =>
   rintro c b ⟨rfl,l,r,rfl,G,g,m,p,o⟩;obtain rfl:l=r:=by lia
   exact⟨rfl,l,l,rfl,g,p,o⟩
  case istep =>
   rintro x c b _ N ⟨rfl,l,r,rfl,G,g,m,p,o⟩;dsimp only;by_cases ge:l>=r
   ·rw[Jh ge]
    obtain rfl:l=r:=by lia
    exact JB ⟨rfl,l,l,rfl,g,p,o⟩
   ·rw[Jc ge]
    refine Jv (mW C f.b (by lia) (by lia) ?_);by_cases z:R rk (arrOf b) (lo+k)<R rk (arrOf b) (lo+(l+r) / 2)
    ·rw[Jy z]
     refine JB ⟨rfl,l,(l+r) / 2,rfl,by lia,by lia,by grind,p,λi u H=>?_⟩;have:=e (lo+(l+r) / 2) i (by simp_all) u (by omega);lia
    ·rw[Jr z]
     refine JB ⟨rfl,(l+r) / 2+1,r,rfl,by lia,by omega,by grind,λi u H=>?_,o⟩;have:=e i (lo+(l+r) / 2) u (by lia) (by lia);lia
  case ipost =>
   rintro c b ⟨rfl,l,r,rfl,M,p,o⟩;dsimp only;rw[moveDown'_eq];have sz:=f.b.size
   have t:∀ j,R rk (arrOf (setArr b (bubble (arrOf b) (lo+k) (lo+k-(lo+l))))) j=if j=lo+l then R rk (arrOf b) (lo+k) else if lo+l<j/\j<=lo+k then R rk (arrOf b) (j-1) else R rk (arrOf b) j:=λj=>by
    have:=R_bubble (rk:=rk) (xs:=arrOf b) (src:=lo+k) (d:=lo+k-(lo+l)) (by rw[sz];lia) (by simp_all) j;rw[show lo+k-(lo+k-(lo+l))=lo+l by lia]at this;exact this
   refine Jv (Wy (JB ⟨rfl,f.trans ⟨f.b.arr (bubble_perm _ _ _),rfl,λj y=>?_⟩,λi j hi v y=>?_⟩))
   ·rw[t,Jc (by lia),Jc (by lia)]
   ·rw[show min (k+1) n=k+1 by lia]at y
    rw[t,t];by_cases F:i=lo+l
    ·rw[Jh F]
     by_cases q:j=lo+l
     ·rw[Jh q];exact ZY _
     ·rw[Jc q,Jh ⟨by lia,by lia⟩]
      exact o _ (by lia) (by lia)
    ·rw[Jc F]
     by_cases D:lo+l<i/\i<=lo+k
     ·rw[Jh D,Jc (by lia),Jh ⟨by lia,by lia⟩]
      exact e _ _ (by lia) (by lia) (by lia)
     ·rw[Jc D]
      by_cases q:j=lo+l
      ·rw[Jh q];exact p _ hi (by lia)
      ·rw[Jc q]
       by_cases B:lo+l<j/\j<=lo+k
       ·rw[Jh B];exact e _ _ hi (by grind) (by lia)
       ·rw[Jc B];exact e _ _ hi v (by lia)
end
def zbG:Bool->Keyed->Array Keyed->Nat->Nat->Nat->StateT SortSt Sem (Option Nat):=sortPriv% PySem.Builtin.gallop
def bd (left:Bool)(k r:Int):Bool:=if left=true then decide (r<k) else !decide (k<r)
theorem zbQ {left:Bool}{k r a:Int}(h:r<=a)(b:bd left k a=true):bd left k r=true:=by
 unfold bd at *;cases left
 ·simp only[Yx,ZD,W8,YD]at *;omega
 ·simp only[Z6,YN]at *;omega
section
variable {prog:Yo}{w:YI}{A:YO}{E:Jo->JO->Prop}{s:JO}{κ:SortKind}{P:Keyed->Prop}{rk:Keyed->Int}
theorem lM (C:Cmp prog w A s κ P rk){st:SortSt}{left:Bool}{key:Keyed}{arr:Array Keyed}{j:Nat}{Q:Option Bool->SortSt->Prop}(d:kindOf st=κ)(c:P key)(a:∃ p,arr[j]?=some p/\P p)(h:Q (some (bd left (rk key) (R rk arr j))) st) :
  wpS (model prog w) A E s (elem' arr j >>= λx=>if left=true then lt' x key else (lt' key x >>= λr=>pure (r.map λb=>!b))) Q st:=by
 obtain⟨p,e,pp⟩:=a;have r:R rk arr j=rk p:=by unfold R;rw[e]
 rw[r]at h;refine Jv (yC e ?_);unfold bd at h;cases left
 ·rw[Jc Jp]at h ⊢
  exact Jv (mV C d c pp (JB h))
 ·rw[Jh rfl]at h ⊢
  exact mV C d pp c h
theorem ug (C:Cmp prog w A s κ P rk){st:SortSt}{left:Bool}{key:Keyed}{arr:Array Keyed}{base n hint:Nat}{Q:Option Nat->SortSt->Prop}(D:kindOf st=κ)(y:P key)(g:∀ i,i<n->∃ p,arr[base+i]?=some p/\P p)(hu:Up rk arr base n)(hh:hint<n)(h:∀ k,k<=n->(∀ i,i<k->bd left (rk key) (R rk arr (base+i))=true)->(∀ i,k<=i->i<n->bd left (rk key) (R rk arr (base+i))=false)->Q (some k) st):wpS (model prog w) A E s (zbG left key arr base n hint) Q st:=by
 have K:∀ i j,i<=j->j<n->bd left (rk key) (R rk arr (base+j))=true->bd left (rk key) (R rk arr (base+i))=true:=λi j J H b=>zbQ (hu _ _ (by simp_all) (by simp_all) (by simp_all)) b
 have up:∀ i j,i<=j->j<n->bd left (rk key) (R rk arr (base+i))=false->bd left (rk key) (R rk arr (base+j))=false:=λi j J H b=>by
  cases q:bd left (rk key) (R rk arr (base+j)) with
  | false=>rfl
  | true=>rw[K i j J H q]at b;cases b
 refine Jv (lM C D y (g hint hh) ?_);dsimp only
 have half:∀ (lo hi:Nat) (f:Nat->Option (Option Nat) × Nat × Nat->StateT SortSt Sem (ForInStep (Option (Option Nat) × Nat × Nat))),lo<=hi->hi<=n ->
   (∀ i,i<lo->bd left (rk key) (R rk arr (base+i))=true)->(∀ i,hi<=i->i<n->bd left (rk key) (R rk arr (base+i))=false) ->
   (∀ x l r (u:ForInStep (Option (Option Nat) × Nat × Nat)->SortSt->Prop),(r<=l->u (.done (none,l,r)) st)->(l<r->r<=n->bd left (rk key) (R rk arr (base+(l+(r-l) / 2)))=true->u (.yield (none,l+(r-l) / 2+1,r)) st) ->
    (l<r->r<=n->bd left (rk key) (R rk arr (base+(l+(r-l) / 2)))=false->u (.yield (none,l,l+(r-l) / 2)) st)->r<=n->wpS (model prog w) A E s (f x (none,l,r)) u st) ->
   wpS (model prog w) A E s (forIn [:n] (none,lo,hi) f) (λc a=>a=st/\∃ k,c=(none,k,k)/\Q (some k) st) st:=by
  intro lo hi f J H h3 h4 hf;refine YB (I:=λx c a=>a=st/\∃ l r,c=(none,l,r)/\l<=r/\r<=n/\r-l<=n-x/\(∀ i,i<l->bd left (rk key) (R rk arr (base+i))=true)/\(∀ i,r<=i->i<n->bd left (rk key) (R rk arr (base+i))=false)) ?_ ?_ ⟨rfl,lo,hi,rfl,J,H,by grind,h3,h4⟩
  ·rintro x c a _ V ⟨rfl,l,r,rfl,Z,e,m,M,L⟩
   refine hf x l r _ (λz=>?_) (λY X b=>?_) (λY X b=>?_) e
   ·obtain rfl:l=r:=by grind
    exact⟨rfl,l,rfl,h l e M L⟩
   ·exact⟨rfl,_,r,rfl,by grind,e,by grind,λi F=>K i _ (by grind) (by grind) b,L⟩
   ·exact⟨rfl,l,_,rfl,by simp_all,by grind,by omega,M,λi G B=>up _ i G B b⟩
  ·rintro c a ⟨rfl,l,r,rfl,Z,e,m,M,L⟩
   obtain rfl:l=r:=by grind
   exact⟨rfl,l,rfl,h l e M L⟩
 cases W:bd left (rk key) (R rk arr (base+hint)) with
 | true =>
  rw[Jh rfl]
  refine Jv (Zh (YB (I:=λx c a=>a=st/\∃ l o,c=(none,l,o)/\x+1<=o/\l<o/\hint+l<n/\bd left (rk key) (R rk arr (base+(hint+l)))=true)
   (Q:=λc a=>a=st/\∃ l o,c=(none,l,o)/\l<o/\hint+l<n/\bd left (rk key) (R rk arr (base+(hint+l)))=true/\(o<n-hint->bd left (rk key) (R rk arr (base+(hint+o)))=false)) ?_ ?_ ⟨rfl,0,1,rfl,by simp_all,by simp_all,by omega,W⟩) ?_)
  ·rintro x c a _ V ⟨rfl,l,o,rfl,N,d,ln,b⟩
   dsimp only;by_cases z:o>=n-hint
   ·rw[Jh z]
    exact JB ⟨rfl,l,o,rfl,d,ln,b,λq=>by omega⟩
   ·rw[Jc z]
    refine Jv (lM C D y (g (hint+o) (by grind)) ?_)
    cases q:bd left (rk key) (R rk arr (base+(hint+o))) with
    | true=>exact JB ⟨rfl,o,2*o+1,rfl,by grind,by grind,by grind,q⟩
    | false=>exact JB ⟨rfl,l,o,rfl,d,ln,b,λ_=>q⟩
  ·rintro c a ⟨rfl,l,o,rfl,N,d,ln,b⟩
   exact⟨rfl,l,o,rfl,d,ln,b,λq=>by grind⟩
  ·rintro c a ⟨rfl,l,o,rfl,d,ln,b,nb⟩
   dsimp only;refine Jv (Zh (half _ _ _ (by omega) (by omega) (λi F=>K i _ (by grind) ln b) (λi G B=>?_) ?_) ?_)
   ·have q:o<n-hint:=by omega
    exact up _ i (by grind) B (nb q)
   ·intro x t v u T S O e
    dsimp only;by_cases z:t>=v
    ·rw[Jh z];exact JB (T z)
    ·rw[Jc z]
     refine Jv (lM C D y (g _ (by grind)) ?_)
     cases q:bd left (rk key) (R rk arr (base+(t+(v-t) / 2))) with
     | true=>exact JB (S (by simp_all) e q)
     | false=>exact JB (O (by simp_all) e q)
   ·rintro c a ⟨rfl,k,rfl,U⟩
    exact JB U
 | false =>
  rw[Jc Jp]
  refine Jv (Zh (YB (I:=λx c a=>a=st/\∃ l o,c=(none,l,o)/\x+1<=o/\l<o/\l<=hint/\bd left (rk key) (R rk arr (base+(hint-l)))=false)
   (Q:=λc a=>a=st/\∃ l o,c=(none,l,o)/\l<o/\l<=hint/\bd left (rk key) (R rk arr (base+(hint-l)))=false/\(o<hint+1->bd left (rk key) (R rk arr (base+(hint-o)))=true)) ?_ ?_ ⟨rfl,0,1,rfl,by simp_all,by simp_all,by simp_all,W⟩) ?_)
  ·rintro x c a _ V ⟨rfl,l,o,rfl,N,d,ln,b⟩
   dsimp only;by_cases z:o>=hint+1
   ·rw[Jh z]
    exact JB ⟨rfl,l,o,rfl,d,ln,b,λq=>by omega⟩
   ·rw[Jc z]
    refine Jv (lM C D y (g (hint-o) (by grind)) ?_)
    cases q:bd left (rk key) (R rk arr (base+(hint-o))) with
    | true=>exact JB ⟨rfl,l,o,rfl,d,ln,b,λ_=>q⟩
    | false=>exact JB ⟨rfl,o,2*o+1,rfl,by grind,by grind,by grind,q⟩
  ·rintro c a ⟨rfl,l,o,rfl,N,d,ln,b⟩
   exact⟨rfl,l,o,rfl,d,ln,b,λq=>by grind⟩
  ·rintro c a ⟨rfl,l,o,rfl,d,ln,b,nb⟩
   dsimp only;refine Jv (Zh (half _ _ _ (by omega) (by grind) (λi F=>?_) (λi G B=>up _ i G B b) ?_) ?_)
   ·have q:o<hint+1:=by omega
    exact K i _ (by grind) (by grind) (nb q)
   ·intro x t v u T S O e
    dsimp only;by_cases z:t>=v
    ·rw[Jh z];exact JB (T z)
    ·rw[Jc z]
     refine Jv (lM C D y (g _ (by grind)) ?_)
     cases q:bd left (rk key) (R rk arr (base+(t+(v-t) / 2))) with
     | true=>exact JB (S (by simp_all) e q)
     | false=>exact JB (O (by simp_all) e q)
   ·rintro c a ⟨rfl,k,rfl,U⟩
    exact JB U
end
def Srt (rk:Keyed->Int)(l:List Keyed):Prop:=l.Pairwise λx y=>rk x<=rk y
structure Lo (rk:Keyed->Int) (T out a b:List Keyed):Prop where
 so:Srt rk out
 sa:Srt rk a
 sb:Srt rk b
 oa:∀ x∈out,∀ y∈a,rk x<=rk y
 ob:∀ x∈out,∀ y∈b,rk x<=rk y
 pm:(out++(a++b)).Perm T
section
variable {rk:Keyed->Int}{T out a b c:List Keyed}
theorem Lo.swap (h:Lo rk T out a b):Lo rk T out b a:=⟨h.so,h.sb,h.sa,h.ob,h.oa,((ZJ (l₁:=b) (l₂:=a)).append_left out).trans h.pm⟩
theorem Lo.take (h:Lo rk T out (c++a) b)(le:∀ x∈c,∀ y∈b,rk x<=rk y):Lo rk T (out++c) a b:=by
 obtain⟨i,g,f⟩:=YF.mp h.sa;refine⟨YF.mpr ⟨h.so,i,λx e y d=>h.oa x e y (YE _ d)⟩,g,h.sb,λx e y d=>?_,λx e y d=>?_,?_⟩
 ·rcases Js.mp e with q|q
  ·exact h.oa x q y (JA _ d)
  ·exact f x q y d
 ·rcases Js.mp e with q|q
  ·exact h.ob x q y d
  ·exact le x q y d
 ·have:=h.pm
  rw[JK]at this ⊢;exact this
theorem Lo.end (h:Lo rk T out a []):(out++a).Perm T/\Srt rk (out++a):=by
 have:=h.pm;rw[JY]at this;exact⟨this,YF.mpr ⟨h.so,h.sa,h.oa⟩⟩
theorem Lo.lone (h:Lo rk T out a b)(le:∀ x∈b,∀ y∈a,rk x<=rk y):(out++b++a).Perm T/\Srt rk (out++b++a):=by
 refine⟨?_,YF.mpr ⟨YF.mpr ⟨h.so,h.sb,h.ob⟩,h.sa,λx d y c=>?_⟩⟩
 ·rw[JK]
  exact((ZJ (l₁:=b) (l₂:=a)).append_left out).trans h.pm
 ·rcases Js.mp d with q|q
  ·exact h.oa x q y c
  ·exact le x q y c
theorem nM {arr:Array Keyed}{i:Nat}{p:Keyed}(e:arr[i]?=some p):arr.toList.drop i=p::arr.toList.drop (i+1):=by
 obtain⟨hi,e⟩:=Y6.mp e;have a:i<arr.toList.length:=by rw[Ju];exact hi
 rw[Yj a,Array.getElem_toList,e]
theorem qF (arr:Array Keyed)(i k:Nat):arr.toList.drop i=(arr.extract i (i+k)).toList++arr.toList.drop (i+k):=by
 rw[ZM,Zj,ZZ,<- List.drop_drop,Z0]
theorem uj (arr:Array Keyed)(i:Nat):(arr.extract i).toList=arr.toList.drop i:=by
 rw[ZM,Zj];exact YJ (by rw[Zv,Ju];exact Je _)
theorem zbN {arr:Array Keyed}{i k:Nat}{x:Keyed}(h:x∈(arr.extract i (i+k)).toList):∃ j,j<k/\arr[i+j]?=some x:=by
 rw[ZM,Zj,ZZ]at h;obtain⟨j,a⟩:=Z2.mp h
 have b:j<k:=by
  have:=(Ja.mp a).1;rw[JF]at this;grind
 rw[ZR b,List.getElem?_drop]at a;exact⟨j,b,by rw[<- Yq];exact a⟩
theorem qE {arr:Array Keyed}{i:Nat}{x:Keyed}(h:x∈arr.toList.drop i):∃ j,arr[i+j]?=some x:=by
 obtain⟨j,a⟩:=Z2.mp h;rw[List.getElem?_drop]at a;exact⟨j,by rw[<- Yq];exact a⟩
theorem R_at {arr:Array Keyed}{i:Nat}{p:Keyed}(e:arr[i]?=some p):R rk arr i=rk p:=by unfold R;rw[e]
theorem qg {arr:Array Keyed}(h:Srt rk arr.toList){base n:Nat}(hn:base+n<=arr.size):Up rk arr base n:=by
 intro i j hi c d;have b:arr[i]?=some arr[i]:=getElem?_pos arr i (by lia);have a:arr[j]?=some arr[j]:=getElem?_pos arr j (by lia);rw[R_at b,R_at a];by_cases z:i=j
 ·subst z;exact ZY _
 ·have:=List.pairwise_iff_getElem.mp h i j (by rw[Ju];grind) (by rw[Ju];lia) (by lia)
  simpa using this
theorem tQ {arr:Array Keyed}{i:Nat}{p:Keyed}(h:Srt rk arr.toList)(e:arr[i]?=some p):∀ y∈arr.toList.drop i,rk p<=rk y:=by
 have a:Srt rk (arr.toList.drop i):=List.Pairwise.drop h;rw[nM e]at a ⊢;obtain⟨c,_⟩:=Z4.mp a;intro y b;rcases Jf.mp b with rfl|q
 ·exact ZY _
 ·exact c y q
end
section
variable {rk:Keyed->Int}{T:List Keyed}{out a b:Array Keyed}{ia ib k:Nat}{p:Keyed}
abbrev At (rk:Keyed->Int)(T:List Keyed)(out a b:Array Keyed)(ia ib:Nat):Prop:=Lo rk T out.toList (a.toList.drop ia) (b.toList.drop ib)
theorem At.pushA (h:At rk T out a b ia ib)(e:a[ia]?=some p)(le:∀ y∈b.toList.drop ib,rk p<=rk y):At rk T (out.push p) a b (ia+1) ib:=by
 have d:=h;unfold At at d ⊢;rw[nM e]at d;rw[Z9];exact Lo.take (c:=[p]) d λx g y f=>by rw[Jm.mp g];exact le y f
theorem At.pushB (h:At rk T out a b ia ib)(e:b[ib]?=some p)(le:∀ y∈a.toList.drop ia,rk p<=rk y):At rk T (out.push p) a b ia (ib+1):=(At.pushA (a:=b) (b:=a) h.swap e le).swap
theorem At.cutA (h:At rk T out a b ia ib)(le:∀ j x,j<k->a[ia+j]?=some x->∀ y∈b.toList.drop ib,rk x<=rk y):At rk T (out++a.extract ia (ia+k)) a b (ia+k) ib:=by
 have c:=h;unfold At at c ⊢;rw[qF a ia k]at c;rw[Yh]
 exact Lo.take c λx g y f=>by
  obtain⟨j,d,e⟩:=zbN g;exact le j x d e y f
theorem At.cutB (h:At rk T out a b ia ib)(le:∀ j x,j<k->b[ib+j]?=some x->∀ y∈a.toList.drop ia,rk x<=rk y):At rk T (out++b.extract ib (ib+k)) a b ia (ib+k):=(At.cutA (a:=b) (b:=a) h.swap le).swap
theorem At.endB (h:At rk T out a b ia ib)(z:b.size<=ib):(out++a.extract ia++b.extract ib).toList.Perm T/\Srt rk (out++a.extract ia++b.extract ib).toList:=by
 have c:=h;unfold At at c;have e:b.toList.drop ib=[]:=List.drop_eq_nil_iff.mpr (by rw[Ju];exact z);rw[e]at c;rw[Yh,Yh,uj,uj,e,JY];exact c.end
theorem At.endA (h:At rk T out a b ia ib)(z:a.size<=ia):(out++a.extract ia++b.extract ib).toList.Perm T/\Srt rk (out++a.extract ia++b.extract ib).toList:=by
 have c:=h.swap;have e:a.toList.drop ia=[]:=List.drop_eq_nil_iff.mpr (by rw[Ju];exact z);rw[e]at c;rw[Yh,Yh,uj,uj,e,JY];exact c.end
theorem At.lastA (h:At rk T out a b ia ib)(le:∀ x∈b.toList.drop ib,∀ y∈a.toList.drop ia,rk x<=rk y):(out++b.extract ib++a.extract ia).toList.Perm T/\Srt rk (out++b.extract ib++a.extract ia).toList:=by
 rw[Yh,Yh,uj,uj];exact Lo.lone h le
end
def aU:Array Keyed->Array Keyed->StateT SortSt Sem (Array Keyed):=sortPriv% PySem.Builtin.mergeLo
def zaR:Nat->StateT SortSt Sem Unit:=sortPriv% PySem.Builtin.setMinGallop
structure Sm (st st':SortSt):Prop where
 kind:kindOf st'=kindOf st
 arr:arrOf st'=arrOf st
 pend:pendingOf st'=pendingOf st
 fail:failedOf st'=failedOf st
theorem Sm.refl (st:SortSt):Sm st st:=⟨rfl,rfl,rfl,rfl⟩
theorem Sm.trans {a b c:SortSt}(h:Sm a b)(g:Sm b c):Sm a c:=⟨g.kind.trans h.kind,g.arr.trans h.arr,g.pend.trans h.pend,g.fail.trans h.fail⟩
theorem jt {c:Prop}{_:Decidable c}{β α σ:Type}{M:Model}{A:YO}{E:Jo->JO->Prop}{s:JO}{x y:β}{p q:StateT σ Sem α}{f:β->StateT σ Sem α}{Q:α->σ->Prop}{st:σ}(e:∀ z,z=x->p=f z)(e2:q=f y)(h:∀ z,wpS M A E s (f z) Q st):wpS M A E s (if c then p else q) Q st:=by
 rw[e x rfl,e2];split
 ·exact h x
 ·exact h y
theorem nh {c:Prop}{_:Decidable c}{β a α σ:Type}{M:Model}{A:YO}{E:Jo->JO->Prop}{s:JO}{n:β}{o:a}{x y:StateT σ Sem α}{f:β->a->StateT σ Sem α}(R:β->a->Prop){Q:α->σ->Prop}{st:σ}(e:∀ b o',b=n->o'=o->y=f b o')(g:c->(∀ k o,R k o->wpS M A E s (f k o) Q st)->wpS M A E s x Q st)(d:¬ c->R n o)(h:∀ k o,R k o->wpS M A E s (f k o) Q st):wpS M A E s (if c then x else y) Q st:=by
 rw[e n o rfl rfl];split
 ·next z=>exact g z h
 ·next z=>exact h n o (d z)
section
variable {prog:Yo}{w:YI}{A:YO}{E:Jo->JO->Prop}{s:JO}{κ:SortKind}{P:Keyed->Prop}{rk:Keyed->Int}
theorem o9 {st:SortSt}{g:Nat}{Q:Unit->SortSt->Prop}(h:∀ st',Sm st st'->Q () st'):wpS (model prog w) A E s (zaR g) Q st :=
 Wy (h _ ⟨rfl,rfl,rfl,rfl⟩)
theorem zdK (C:Cmp prog w A s κ P rk){st:SortSt}{a b:Array Keyed}{Q:Array Keyed->SortSt->Prop}(hk:kindOf st=κ)(pa:∀ x∈a.toList,P x)(pb:∀ x∈b.toList,P x)(sa:Srt rk a.toList)(sb:Srt rk b.toList)(a1:1<=a.size)(b1:1<=b.size)(first:∀ x,b[0]?=some x->∀ y∈a.toList,rk x<=rk y)(last:∀ x,a[a.size-1]?=some x->∀ y∈b.toList,rk y<=rk x)(h:∀ r st',Sm st st'->r.toList.Perm (a.toList++b.toList)->Srt rk r.toList->Q r st'):wpS (model prog w) A E s (aU a b) Q st:=by
 have ab:∀ i,i<a.size->∃ x,a[i]?=some x/\P x:=λi hi=>⟨_,getElem?_pos a i hi,pa _ (by simp)⟩;have U:∀ i,i<b.size->∃ x,b[i]?=some x/\P x:=λi hi=>⟨_,getElem?_pos b i hi,pb _ (by simp)⟩;obtain⟨b0,e0,_⟩:=U 0 b1
 have lone:∀ {out:Array Keyed}{d f:Nat},At rk (a.toList++b.toList) out a b d f->d+1=a.size->(out++b.extract f++a.extract d).toList.Perm (a.toList++b.toList)/\Srt rk (out++b.extract f++a.extract d).toList:=λ{out d f} L z=>L.lastA λx hx y hy=>by
  obtain⟨j,ej⟩:=qE hy;have:=(Y6.mp ej).1;exact last y (by rw[show a.size-1=d+j by lia];exact ej) x (List.mem_of_mem_drop hx)
 have L0:At rk (a.toList++b.toList) #[b0] a b 0 1:=by
  have e:=nM e0;rw[Wx]at e;have hb:=sb;unfold Srt at hb;rw[e]at hb;obtain⟨h1,h2⟩:=Z4.mp hb;refine⟨List.pairwise_singleton _ _,by rw[Wx];exact sa,h2,λx hx y hy=>?_,λx hx y hy=>?_,?_⟩
  ·rw[Jm.mp hx];exact first b0 e0 y (List.mem_of_mem_drop hy)
  ·rw[Jm.mp hx];exact h1 y hy
  ·rw[Wx]
   conv=>rhs;rw[e]
   show (b0::(a.toList++b.toList.drop 1)).Perm (a.toList++b0::b.toList.drop 1);exact List.perm_middle.symm
 have size:∀ {out:Array Keyed}{d f:Nat},At rk (a.toList++b.toList) out a b d f->out.size<=a.size+b.size:=λ{out d f} L=>by
  have:=L.pm.length_eq;simp only[Jn,Ju]at this;lia
 refine Jv (w5 ?_);refine Jv (yC e0 ?_);dsimp -zeta only;by_cases z1:1=b.size
 ·rw[Jh (by simpa using z1)]
  obtain⟨m,l⟩:=L0.endB (by simp_all);exact JB (h _ _ (Sm.refl _) m l)
 rw[Jc (by simpa using z1)];by_cases z2:0+1=a.size
 ·rw[Jh (by simpa using z2)]
  obtain⟨m,l⟩:=lone L0 z2;exact JB (h _ _ (Sm.refl _) m l)
 rw[Jc (by simpa using z2)];refine Jv (Wu ?_)
 refine Jv (Zh (YB (I:=λi c p=>Sm st p/\∃ out d f g,c=(none,out,d,f,g)/\At rk (a.toList++b.toList) out a b d f/\d+1<a.size/\f<b.size/\i+1<=out.size)
  (Q:=λc p=>Sm st p/\∃ r x,c=(some r,x)/\r.toList.Perm (a.toList++b.toList)/\Srt rk r.toList) ?step ?fin ⟨Sm.refl _,_,_,_,_,rfl,L0,by lia,by lia,by simp⟩) ?post)
 case post =>
  rintro c p ⟨S1,r,x,rfl,m,l⟩;exact JB (h _ _ S1 m l)
 case fin =>
  rintro c p ⟨S1,out,d,f,g,rfl,L,_,_,sz⟩;have:=size L;lia
 case step =>
  rintro i c p _ hi ⟨S1,out,d,f,g,rfl,L,F,B,sz⟩;dsimp -zeta only
  refine Jv (Zh (YB (I:=λj c H=>H=p/\∃ out d f ca D,c=(none,out,d,f,ca,D)/\At rk (a.toList++b.toList) out a b d f/\d+1<a.size/\f<b.size/\i+1+j<=out.size)
   (Q:=λc H=>H=p/\((∃ r x,c=(some r,x)/\r.toList.Perm (a.toList++b.toList)/\Srt rk r.toList)\/∃ out d f ca D,c=(none,out,d,f,ca,D)/\At rk (a.toList++b.toList) out a b d f/\d+1<a.size/\f<b.size/\i+2<=out.size)) ?_ ?_ ⟨rfl,_,_,_,_,_,rfl,L,F,B,by omega⟩) ?_)
  ·rintro j c H _ hj ⟨rfl,out,d,f,ca,D,rfl,L,F,B,sz⟩
   dsimp only;obtain⟨x,ex,px⟩:=ab d (by lia);obtain⟨y,S,py⟩:=U f B;refine Jv (yC S (Jv (yC ex (Jv (mV C (S1.kind.trans hk) py px ?_)))));by_cases z:rk y<rk x
   ·rw[Jy z]
    dsimp -zeta only;rw[Jh rfl];have Z:=L.pushB S λu X=>ZB (Int.le_of_lt z) (tQ sa ex u X);refine Jv (yC S ?_);by_cases R:f+1=b.size
    ·rw[Jh (by simpa using R)]
     obtain⟨m,l⟩:=Z.endB (by simp_all);exact JB ⟨rfl,.inl ⟨_,_,rfl,m,l⟩⟩
    ·rw[Jc (by simpa using R)]
     by_cases zg:D+1>=g
     ·rw[Jh zg]
      exact JB ⟨rfl,.inr ⟨_,_,_,_,_,rfl,Z,F,by lia,by rw[Yi];lia⟩⟩
     ·rw[Jc zg]
      exact JB ⟨rfl,_,_,_,_,_,rfl,Z,F,by lia,by rw[Yi];lia⟩
   ·rw[Jr z]
    dsimp only;rw[Jc Jp];have Z:=L.pushA ex λu X=>ZB (by simp_all) (tQ sb S u X);refine Jv (yC ex ?_);by_cases R:d+1+1=a.size
    ·rw[Jh (by simpa using R)]
     obtain⟨m,l⟩:=lone Z R;exact JB ⟨rfl,.inl ⟨_,_,rfl,m,l⟩⟩
    ·rw[Jc (by simpa using R)]
     by_cases zg:ca+1>=g
     ·rw[Jh zg]
      exact JB ⟨rfl,.inr ⟨_,_,_,_,_,rfl,Z,by lia,B,by rw[Yi];lia⟩⟩
     ·rw[Jc zg]
      exact JB ⟨rfl,_,_,_,_,_,rfl,Z,by lia,B,by rw[Yi];lia⟩
  ·rintro c H ⟨rfl,out,d,f,ca,D,rfl,L,F,B,sz⟩
   have:=size L;omega
  ·rintro c H ⟨rfl,⟨r,x,rfl,m,l⟩|⟨out,d,f,ca,D,rfl,L,F,B,sz⟩⟩
   ·exact JB ⟨S1,r,_,rfl,m,l⟩
   dsimp -zeta only;refine Jv (w5 ?_)
   refine Jv (Zh (YB (I:=λj c G=>Sm st G/\∃ out d f g ca D,c=(none,out,d,f,g,ca,D)/\At rk (a.toList++b.toList) out a b d f/\d+1<a.size/\f<b.size/\i+2<=out.size)
    (Q:=λc G=>Sm st G/\((∃ r x,c=(some r,x)/\r.toList.Perm (a.toList++b.toList)/\Srt rk r.toList)\/∃ out d f g ca D,c=(none,out,d,f,g,ca,D)/\At rk (a.toList++b.toList) out a b d f/\d+1<a.size/\f<b.size/\i+2<=out.size)) ?_ ?_ ⟨S1,_,_,_,_,_,_,rfl,L,F,B,sz⟩) ?_)
   ·rintro j c G _ hj ⟨S3,out,d,f,g,ca,D,rfl,L,F,B,sz⟩
    dsimp -zeta only;obtain⟨y,S,py⟩:=U f B;refine jt (x:=g-1) (y:=g) (λz hz=>by rw[<- hz]) (by rfl) λg'=>?_;refine Jv (o9 λax q=>?_);have q:=S3.trans q;refine Jv (yC S (Jv (ug C (q.kind.trans hk) py (λt ht=>ab (d+t) (by lia)) (qg sa (by lia)) (by lia) λk a0 g1 g2=>?_)));dsimp -zeta only
    have L1:=L.cutA (k:=k) λt u tk eu v hv=>by
     have:=g1 t tk;rw[R_at eu]at this;unfold bd at this;simp only[Yx,ZD,W8,YD]at this;have:=tQ sb S v hv;lia
    have hle:∀ u∈a.toList.drop (d+k),rk y<=rk u:=λu X=>by
     obtain⟨t,et⟩:=qE X;have tl:=(Y6.mp et).1;have:=g2 (k+t) (by lia) (by lia);rw[<- Nat.add_assoc,R_at et]at this;unfold bd at this;simp only[Yx,ZD,Bool.not_eq_false',YN]at this;lia
    have T:i+2<=(out++a.extract d (d+k)).size:=by rw[YC];lia
    refine nh (n:=d) (o:=out) (λK N=>At rk (a.toList++b.toList) N a b K f/\K+1<a.size/\i+2<=N.size/\∀ u∈a.toList.drop K,rk y<=rk u) (λn' o' h1 h2=>by rw[<- h1,<- h2]) (λ_ J=>?_) (λzk=>?_) ?_
    ·by_cases za:d+k+1=a.size
     ·rw[Jh (by simpa using za)]
      obtain⟨m,l⟩:=lone L1 za;exact JB ⟨q,.inl ⟨_,_,rfl,m,l⟩⟩
     rw[Jc (by simpa using za)];by_cases zc:d+k=a.size
     ·rw[Jh (by simpa using zc)]
      obtain⟨m,l⟩:=L1.endA (by simp_all);exact JB ⟨q,.inl ⟨_,_,rfl,m,l⟩⟩
     rw[Jc (by simpa using zc)];exact J _ _ ⟨L1,by lia,T,hle⟩
    ·obtain rfl:k=0:=by lia
     exact⟨L,F,sz,hle⟩
    clear g1 g2 hle L1 T a0;rintro K N ⟨L1,la1,T,hle⟩;refine Jv (yC S ?_);have L2:=L1.pushB S hle;by_cases R:f+1=b.size
    ·rw[Jh (by simpa using R)]
     obtain⟨m,l⟩:=L2.endB (by simp_all);exact JB ⟨q,.inl ⟨_,_,rfl,m,l⟩⟩
    rw[Jc (by simpa using R)];obtain⟨x1,M,aT⟩:=ab _ (Nat.lt_of_succ_lt la1);refine Jv (yC M (Jv (ug C (q.kind.trans hk) aT (λt ht=>U (f+1+t) (by lia)) (qg sb (by lia)) (by lia) λW a4 c1 c2=>?_)));dsimp only
    have L3:=L2.cutB (k:=W) λt u tk eu v hv=>by
     have:=c1 t tk;rw[R_at eu]at this;unfold bd at this;simp only[Z6,YN]at this;have:=tQ sa M v hv;lia
    have O:∀ u∈b.toList.drop (f+1+W),rk x1<=rk u:=λu X=>by
     obtain⟨t,et⟩:=qE X;have tl:=(Y6.mp et).1;have:=c2 (W+t) (by lia) (by lia);rw[<- Nat.add_assoc,R_at et]at this;unfold bd at this;simp only[Z6,YD]at this
     simp_all
    have a3:=T;by_cases ak:W > 0
    ·rw[Jh ak]
     by_cases zd:f+1+W=b.size
     ·rw[Jh (by simpa using zd)]
      obtain⟨m,l⟩:=L3.endB (by simp_all);exact JB ⟨q,.inl ⟨_,_,rfl,m,l⟩⟩
     rw[Jc (by simpa using zd)];have ao:f+1+W<b.size:=by lia
     refine Jv (yC M ?_);have Y:=L3.pushA M O;by_cases V:K+1+1=a.size
     ·rw[Jh (by simpa using V)]
      obtain⟨m,l⟩:=lone Y V;exact JB ⟨q,.inl ⟨_,_,rfl,m,l⟩⟩
     rw[Jc (by simpa using V)];split
     ·exact JB ⟨q,.inr ⟨_,_,_,_,_,_,rfl,Y,by lia,ao,by simp only[Yi,YC];lia⟩⟩
     ·exact JB ⟨q,_,_,_,_,_,_,rfl,Y,by lia,ao,by simp only[Yi,YC];lia⟩
    ·rw[Jc ak]
     obtain rfl:W=0:=by simp_all
     rw[ZC]at O;refine Jv (yC M ?_);have Y:=L2.pushA M O;by_cases V:K+1+1=a.size
     ·rw[Jh (by simpa using V)]
      obtain⟨m,l⟩:=lone Y V;exact JB ⟨q,.inl ⟨_,_,rfl,m,l⟩⟩
     rw[Jc (by simpa using V)];split
     ·exact JB ⟨q,.inr ⟨_,_,_,_,_,_,rfl,Y,by lia,by lia,by simp only[Yi,YC];lia⟩⟩
     ·exact JB ⟨q,_,_,_,_,_,_,rfl,Y,by lia,by lia,by simp only[Yi,YC];lia⟩
   ·rintro c G ⟨S3,out,d,f,g,ca,D,rfl,L,F,B,sz⟩
    exact⟨S3,.inr ⟨_,_,_,_,_,_,rfl,L,F,B,sz⟩⟩
   ·rintro c G ⟨S3,⟨r,x,rfl,m,l⟩|⟨out,d,f,g,ca,D,rfl,L,F,B,sz⟩⟩
    ·exact JB ⟨S3,r,_,rfl,m,l⟩
    dsimp only;refine Jv (o9 λax q=>?_);exact JB ⟨S3.trans q,_,_,_,_,rfl,L,F,B,by omega⟩
end
def aV:Array Keyed->Array Keyed->StateT SortSt Sem (Array Keyed):=sortPriv% PySem.Builtin.mergeHi
structure Hi (rk:Keyed->Int) (T a b out:List Keyed):Prop where
 sa:Srt rk a
 sb:Srt rk b
 so:Srt rk out
 ao:∀ x∈a,∀ y∈out,rk x<=rk y
 bo:∀ x∈b,∀ y∈out,rk x<=rk y
 pm:(a++b++out).Perm T
section
variable {rk:Keyed->Int}{T out a b c:List Keyed}
theorem Hi.swap (h:Hi rk T a b out):Hi rk T b a out:=⟨h.sb,h.sa,h.so,h.bo,h.ao,((ZJ (l₁:=b) (l₂:=a)).append_right out).trans h.pm⟩
theorem Hi.take (h:Hi rk T (a++c) b out)(le:∀ x∈b,∀ y∈c,rk x<=rk y):Hi rk T a b (c++out):=by
 obtain⟨i,g,f⟩:=YF.mp h.sa;refine⟨i,h.sb,YF.mpr ⟨g,h.so,λx d y e=>h.ao x (JA _ d) y e⟩,λx d y e=>?_,λx d y e=>?_,?_⟩
 ·rcases Js.mp e with q|q
  ·exact f x d y q
  ·exact h.ao x (YE _ d) y q
 ·rcases Js.mp e with q|q
  ·exact le x d y q
  ·exact h.bo x d y q
 ·refine List.Perm.trans ?_ h.pm
  rw[<- JK];refine List.Perm.append_right out ?_;rw[JK,JK];exact List.Perm.append_left a ZJ
theorem Hi.end (h:Hi rk T [] b out):(b++out).Perm T/\Srt rk (b++out):=⟨h.pm,YF.mpr ⟨h.sb,h.so,h.bo⟩⟩
theorem Hi.lone (h:Hi rk T a b out)(le:∀ x∈b,∀ y∈a,rk x<=rk y):(b++a++out).Perm T/\Srt rk (b++a++out):=by
 refine⟨((ZJ (l₁:=b) (l₂:=a)).append_right out).trans h.pm,YF.mpr ⟨YF.mpr ⟨h.sb,h.sa,le⟩,h.so,λx d y c=>?_⟩⟩;rcases Js.mp d with q|q
 ·exact h.bo x q y c
 ·exact h.ao x q y c
theorem zaH {arr:Array Keyed}{n:Nat}{p:Keyed}(b:1<=n)(e:arr[n-1]?=some p):arr.toList.take n=arr.toList.take (n-1)++[p]:=by
 obtain⟨hi,e⟩:=Y6.mp e;have a:n-1<arr.toList.length:=by rw[Ju];exact hi
 have:=JU a;rw[Nat.sub_add_cancel b,Array.getElem_toList,e]at this;exact this
theorem cQ (arr:Array Keyed){i n:Nat}(h:i<=n):arr.toList.take n=arr.toList.take i++(arr.extract i n).toList:=by
 rw[ZM,Zj];have:=List.take_add (l:=arr.toList) (i:=i) (j:=n-i);rw[show i+(n-i)=n by simp_all]at this;exact this
theorem vZ (arr:Array Keyed)(n:Nat):(arr.extract 0 n).toList=arr.toList.take n:=by
 rw[ZM,Zj,Wx,Nat.sub_zero]
theorem va {arr:Array Keyed}{i n:Nat}{x:Keyed}(h:x∈(arr.extract i n).toList):∃ j,i<=j/\j<n/\arr[j]?=some x:=by
 rw[ZM,Zj]at h;obtain⟨j,a⟩:=Z2.mp h
 have b:j<n-i:=by
  have:=(Ja.mp a).1;rw[JF]at this;grind
 rw[ZR b,List.getElem?_drop]at a;exact⟨i+j,by lia,by omega,by rw[<- Yq];exact a⟩
theorem vh {arr:Array Keyed}{n:Nat}{x:Keyed}(h:x∈arr.toList.take n):∃ j,j<n/\arr[j]?=some x:=by
 obtain⟨j,a⟩:=Z2.mp h
 have b:j<n:=by
  have:=(Ja.mp a).1;rw[JF]at this;grind
 rw[ZR b]at a;exact⟨j,b,by rw[<- Yq];exact a⟩
theorem uO {arr:Array Keyed}{n:Nat}{p:Keyed}(h:Srt rk arr.toList)(f:1<=n)(e:arr[n-1]?=some p):∀ y∈arr.toList.take n,rk y<=rk p:=by
 intro y a;obtain⟨j,c,b⟩:=vh a;have d:=(Y6.mp e).1;have:=qg h (base:=0) (n:=n) (by lia) j (n-1) (JN _) (by lia) (by lia);rw[R_at b,R_at e]at this;exact this
end
section
variable {rk:Keyed->Int}{T:List Keyed}{out a b:Array Keyed}{na nb i:Nat}{p:Keyed}
abbrev Bt (rk:Keyed->Int)(T:List Keyed)(a b out:Array Keyed)(na nb:Nat):Prop:=Hi rk T (a.toList.take na) (b.toList.take nb) out.toList.reverse
theorem Bt.pushA (h:Bt rk T a b out na nb)(i:1<=na)(e:a[na-1]?=some p)(le:∀ x∈b.toList.take nb,rk x<=rk p):Bt rk T a b (out.push p) (na-1) nb:=by
 have d:=h;unfold Bt at d ⊢;rw[zaH i e]at d;rw[Z9,List.reverse_append];exact Hi.take (c:=[p]) d λx g y f=>by rw[Jm.mp f];exact le x g
theorem Bt.pushB (h:Bt rk T a b out na nb)(c:1<=nb)(e:b[nb-1]?=some p)(le:∀ x∈a.toList.take na,rk x<=rk p):Bt rk T a b (out.push p) na (nb-1):=(Bt.pushA (a:=b) (b:=a) h.swap c e le).swap
theorem Bt.cutA (h:Bt rk T a b out na nb)(hi:i<=na)(le:∀ j x,i<=j->j<na->a[j]?=some x->∀ y∈b.toList.take nb,rk y<=rk x):Bt rk T a b (out++(a.extract i na).reverse) i nb:=by
 have c:=h;unfold Bt at c ⊢;rw[cQ a hi]at c;rw[Yh,List.reverse_append,Array.toList_reverse,List.reverse_reverse]
 exact Hi.take c λy g x k=>by
  obtain⟨j,f,d,e⟩:=va k;exact le j x f d e y g
theorem Bt.cutB (h:Bt rk T a b out na nb)(hi:i<=nb)(le:∀ j x,i<=j->j<nb->b[j]?=some x->∀ y∈a.toList.take na,rk y<=rk x):Bt rk T a b (out++(b.extract i nb).reverse) na i:=(Bt.cutA (a:=b) (b:=a) h.swap hi le).swap
theorem Bt.endA (h:Bt rk T a b out 0 nb):(a.extract 0 0++b.extract 0 nb++out.reverse).toList.Perm T/\Srt rk (a.extract 0 0++b.extract 0 nb++out.reverse).toList:=by
 rw[Yh,Yh,vZ,vZ,W9,Zk,Array.toList_reverse];exact Hi.end h
theorem Bt.endB (h:Bt rk T a b out na 0):(a.extract 0 na++b.extract 0 0++out.reverse).toList.Perm T/\Srt rk (a.extract 0 na++b.extract 0 0++out.reverse).toList:=by
 rw[Yh,Yh,vZ,vZ,W9,JY,Array.toList_reverse];exact Hi.end h.swap
theorem Bt.lone (h:Bt rk T a b out na nb)(le:∀ x∈b.toList.take nb,∀ y∈a.toList.take na,rk x<=rk y):(b.extract 0 nb++a.extract 0 na++out.reverse).toList.Perm T/\Srt rk (b.extract 0 nb++a.extract 0 na++out.reverse).toList:=by
 rw[Yh,Yh,vZ,vZ,Array.toList_reverse];exact Hi.lone h le
end
section
variable {prog:Yo}{w:YI}{A:YO}{E:Jo->JO->Prop}{s:JO}{κ:SortKind}{P:Keyed->Prop}{rk:Keyed->Int}
theorem zdQ (C:Cmp prog w A s κ P rk){st:SortSt}{a b:Array Keyed}{Q:Array Keyed->SortSt->Prop}(hk:kindOf st=κ)(pa:∀ x∈a.toList,P x)(pb:∀ x∈b.toList,P x)(sa:Srt rk a.toList)(sb:Srt rk b.toList)(a1:1<=a.size)(b1:1<=b.size)(first:∀ x,b[0]?=some x->∀ y∈a.toList,rk x<=rk y)(last:∀ x,a[a.size-1]?=some x->∀ y∈b.toList,rk y<=rk x)(h:∀ r st',Sm st st'->r.toList.Perm (a.toList++b.toList)->Srt rk r.toList->Q r st'):wpS (model prog w) A E s (aV a b) Q st:=by
 have S:∀ i,i<a.size->∃ x,a[i]?=some x/\P x:=λi hi=>⟨_,getElem?_pos a i hi,pa _ (by simp)⟩;have Y:∀ i,i<b.size->∃ x,b[i]?=some x/\P x:=λi hi=>⟨_,getElem?_pos b i hi,pb _ (by simp)⟩;obtain⟨z0,e0,_⟩:=S (a.size-1) (by lia)
 have lone:∀ {out:Array Keyed}{na:Nat},Bt rk (a.toList++b.toList) a b out na 1->(b.extract 0 1++a.extract 0 na++out.reverse).toList.Perm (a.toList++b.toList)/\Srt rk (b.extract 0 1++a.extract 0 na++out.reverse).toList:=λ{out na} L=>L.lone λx hx y hy=>by
  obtain⟨j,j1,ej⟩:=vh hx;exact first x (by rw[show 0=j by simp_all];exact ej) y (List.mem_of_mem_take hy)
 have L0:Bt rk (a.toList++b.toList) a b #[z0] (a.size-1) b.size:=by
  have w0:Bt rk (a.toList++b.toList) a b #[] a.size b.size:=by
   have e1:a.toList.take a.size=a.toList:=YJ (by rw[Ju];exact Je _);have e2:b.toList.take b.size=b.toList:=YJ (by rw[Ju];exact Je _);unfold Bt;rw[e1,e2];exact⟨sa,sb,List.Pairwise.nil,λx hx y hy=>by simp at hy,λx hx y hy=>by simp at hy,by simp⟩
  exact w0.pushA a1 e0 λx hx=>last z0 e0 x (List.mem_of_mem_take hx)
 have size:∀ {out:Array Keyed}{na nb:Nat},Bt rk (a.toList++b.toList) a b out na nb->out.size<=a.size+b.size:=λ{out na nb} L=>by
  have:=L.pm.length_eq;simp only[Jn,List.length_reverse,Ju]at this;lia
 refine Jv (w5 ?_);refine Jv (yC e0 ?_);dsimp -zeta only;by_cases z1:a.size-1=0
 ·rw[Jh (by simpa using z1)]
  rw[z1]at L0 ⊢;obtain⟨f,e⟩:=L0.endA;exact JB (h _ _ (Sm.refl _) f e)
 rw[Jc (by simpa using z1)];by_cases z2:b.size=1
 ·rw[Jh (by simpa using z2)]
  rw[z2]at L0 ⊢;obtain⟨f,e⟩:=lone L0;exact JB (h _ _ (Sm.refl _) f e)
 rw[Jc (by simpa using z2)];refine Jv (Wu ?_)
 refine Jv (Zh (YB (I:=λi c m=>Sm st m/\∃ na nb out g,c=(none,na,nb,out,g)/\Bt rk (a.toList++b.toList) a b out na nb/\1<=na/\na<=a.size/\2<=nb/\nb<=b.size/\i+1<=out.size)
  (Q:=λc m=>Sm st m/\∃ r x,c=(some r,x)/\r.toList.Perm (a.toList++b.toList)/\Srt rk r.toList) ?step ?fin ⟨Sm.refl _,_,_,_,_,rfl,L0,by lia,by simp_all,by lia,by lia,by simp⟩) ?post)
 case post =>
  rintro c m ⟨S1,r,x,rfl,f,e⟩;exact JB (h _ _ S1 f e)
 case fin =>
  rintro c m ⟨S1,na,nb,out,g,rfl,L,_,_,_,_,sz⟩;have:=size L;lia
 case step =>
  rintro i c m _ hi ⟨S1,na,nb,out,g,rfl,L,q,d,H,l,sz⟩;dsimp -zeta only
  refine Jv (Zh (YB (I:=λj c F=>F=m/\∃ na nb out ca B,c=(none,na,nb,out,ca,B)/\Bt rk (a.toList++b.toList) a b out na nb/\1<=na/\na<=a.size/\2<=nb/\nb<=b.size/\i+1+j<=out.size)
   (Q:=λc F=>F=m/\((∃ r x,c=(some r,x)/\r.toList.Perm (a.toList++b.toList)/\Srt rk r.toList)\/∃ na nb out ca B,c=(none,na,nb,out,ca,B)/\Bt rk (a.toList++b.toList) a b out na nb/\1<=na/\na<=a.size/\2<=nb/\nb<=b.size/\i+2<=out.size)) ?_ ?_ ⟨rfl,_,_,_,_,_,rfl,L,q,d,H,l,by omega⟩) ?_)
  ·rintro j c F _ hj ⟨rfl,na,nb,out,ca,B,rfl,L,q,d,H,l,sz⟩
   dsimp only;obtain⟨x,ex,px⟩:=S (na-1) (by lia);obtain⟨y,N,py⟩:=Y (nb-1) (by lia);refine Jv (yC N (Jv (yC ex (Jv (mV C (S1.kind.trans hk) py px ?_)))));by_cases z:rk y<rk x
   ·rw[Jy z]
    dsimp -zeta only;rw[Jh rfl];have R:=L.pushA q ex λu W=>ZB (uO sb (by lia) N u W) (Int.le_of_lt z);refine Jv (yC ex ?_);by_cases K:na-1=0
    ·rw[Jh (by simpa using K)]
     rw[K]at R ⊢;obtain⟨f,e⟩:=R.endA;exact JB ⟨rfl,.inl ⟨_,_,rfl,f,e⟩⟩
    ·rw[Jc (by simpa using K)]
     by_cases zg:ca+1>=g
     ·rw[Jh zg]
      exact JB ⟨rfl,.inr ⟨_,_,_,_,_,rfl,R,by lia,by lia,H,l,by rw[Yi];lia⟩⟩
     ·rw[Jc zg]
      exact JB ⟨rfl,_,_,_,_,_,rfl,R,by lia,by grind,H,l,by rw[Yi];lia⟩
   ·rw[Jr z]
    dsimp only;rw[Jc Jp];have R:=L.pushB (by lia) N λu W=>ZB (uO sa q ex u W) (by simp_all);refine Jv (yC N ?_);by_cases K:nb-1=1
    ·rw[Jh (by simpa using K)]
     rw[K]at R ⊢;obtain⟨f,e⟩:=lone R;exact JB ⟨rfl,.inl ⟨_,_,rfl,f,e⟩⟩
    ·rw[Jc (by simpa using K)]
     by_cases zg:B+1>=g
     ·rw[Jh zg]
      exact JB ⟨rfl,.inr ⟨_,_,_,_,_,rfl,R,q,d,by lia,by lia,by rw[Yi];lia⟩⟩
     ·rw[Jc zg]
      exact JB ⟨rfl,_,_,_,_,_,rfl,R,q,d,by lia,by grind,by rw[Yi];lia⟩
  ·rintro c F ⟨rfl,na,nb,out,ca,B,rfl,L,q,d,H,l,sz⟩
   have:=size L;omega
  ·rintro c F ⟨rfl,⟨r,x,rfl,f,e⟩|⟨na,nb,out,ca,B,rfl,L,q,d,H,l,sz⟩⟩
   ·exact JB ⟨S1,r,_,rfl,f,e⟩
   dsimp -zeta only;refine Jv (w5 ?_)
   refine Jv (Zh (YB (I:=λj c D=>Sm st D/\∃ na nb out g ca B,c=(none,na,nb,out,g,ca,B)/\Bt rk (a.toList++b.toList) a b out na nb/\1<=na/\na<=a.size/\2<=nb/\nb<=b.size/\i+2<=out.size)
    (Q:=λc D=>Sm st D/\((∃ r x,c=(some r,x)/\r.toList.Perm (a.toList++b.toList)/\Srt rk r.toList)\/∃ na nb out g ca B,c=(none,na,nb,out,g,ca,B)/\Bt rk (a.toList++b.toList) a b out na nb/\1<=na/\na<=a.size/\2<=nb/\nb<=b.size/\i+2<=out.size)) ?_ ?_ ⟨S1,_,_,_,_,_,_,rfl,L,q,d,H,l,sz⟩) ?_)
   ·rintro j c D _ hj ⟨S3,na,nb,out,g,ca,B,rfl,L,q,d,H,l,sz⟩
    dsimp -zeta only;obtain⟨y,N,py⟩:=Y (nb-1) (by lia);refine jt (x:=g-1) (y:=g) (λz hz=>by rw[<- hz]) (by rfl) λg'=>?_;refine Jv (o9 λao p=>?_);have p:=S3.trans p;refine Jv (yC N (Jv (ug C (p.kind.trans hk) py (λt ht=>S (0+t) (by lia)) (qg sa (by simp_all)) (by lia) λk ak g1 g2=>?_)));dsimp -zeta only
    have L1:=L.cutA (i:=k) ak λt u V tn eu v hv=>by
     have:=g2 t V tn;rw[Zr,R_at eu]at this;unfold bd at this;simp only[Yx,ZD,Bool.not_eq_false',YN]at this;have:=uO sb (by lia) N v hv;lia
    have hle:∀ u∈a.toList.take k,rk u<=rk y:=λu W=>by
     obtain⟨t,V,et⟩:=vh W;have:=g1 t V;rw[Zr,R_at et]at this;unfold bd at this;simp only[Yx,ZD,W8,YD]at this
     simp_all
    have X:i+2<=(out++(a.extract k na).reverse).size:=by rw[YC];lia
    generalize ek:na-k=kk;refine nh (n:=na) (o:=out) (λk M=>Bt rk (a.toList++b.toList) a b M k nb/\1<=k/\k<=a.size/\i+2<=M.size/\∀ u∈a.toList.take k,rk u<=rk y) (λn' o' h1 h2=>by rw[<- h1,<- h2]) (λ_ J=>?_) (λzk=>?_) ?_
    ·by_cases zc:k=0
     ·rw[Jh (by simpa using zc)]
      subst zc;obtain⟨f,e⟩:=L1.endA;exact JB ⟨p,.inl ⟨_,_,rfl,f,e⟩⟩
     rw[Jc (by simpa using zc)];exact J _ _ ⟨L1,by lia,by lia,X,hle⟩
    ·obtain rfl:k=na:=by lia
     exact⟨L,q,d,sz,hle⟩
    clear g1 g2 hle L1 X ek ak;rintro k M ⟨L1,ka,a0,X,hle⟩;refine Jv (yC N ?_);have L2:=L1.pushB (by lia) N hle;by_cases K:nb-1=1
    ·rw[Jh (by simpa using K)]
     rw[K]at L2 ⊢;obtain⟨f,e⟩:=lone L2;exact JB ⟨p,.inl ⟨_,_,rfl,f,e⟩⟩
    rw[Jc (by simpa using K)];obtain⟨x1,G,ax⟩:=S (k-1) (by lia);refine Jv (yC G (Jv (ug C (p.kind.trans hk) ax (λt ht=>Y (0+t) (by lia)) (qg sb (by lia)) (by lia) λZ aT c1 c2=>?_)));dsimp only
    have L3:=L2.cutB (i:=Z) aT λt u V tn eu v hv=>by
     have:=c2 t V tn;rw[Zr,R_at eu]at this;unfold bd at this;simp only[Z6,YD]at this;have:=uO sa ka G v hv;lia
    have T:∀ u∈b.toList.take Z,rk u<=rk x1:=λu W=>by
     obtain⟨t,V,et⟩:=vh W;have:=c1 t V;rw[Zr,R_at et]at this;unfold bd at this;simp only[Z6,YN]at this;lia
    by_cases ab:nb-1-Z > 0
    ·rw[Jh ab]
     by_cases zd:Z=1
     ·rw[Jh (by simpa using zd)]
      subst zd;obtain⟨f,e⟩:=lone L3;exact JB ⟨p,.inl ⟨_,_,rfl,f,e⟩⟩
     rw[Jc (by simpa using zd)];by_cases zf:Z=0
     ·rw[Jh (by simpa using zf)]
      subst zf;obtain⟨f,e⟩:=L3.endB;exact JB ⟨p,.inl ⟨_,_,rfl,f,e⟩⟩
     rw[Jc (by simpa using zf)];refine Jv (yC G ?_);have O:=L3.pushA ka G T;by_cases U:k-1=0
     ·rw[Jh (by simpa using U)]
      rw[U]at O ⊢;obtain⟨f,e⟩:=O.endA;exact JB ⟨p,.inl ⟨_,_,rfl,f,e⟩⟩
     rw[Jc (by simpa using U)];split
     ·exact JB ⟨p,.inr ⟨_,_,_,_,_,_,rfl,O,by lia,by lia,by lia,by lia,by simp only[Yi,YC];lia⟩⟩
     ·exact JB ⟨p,_,_,_,_,_,_,rfl,O,by lia,by lia,by lia,by lia,by simp only[Yi,YC];lia⟩
    ·rw[Jc ab]
     obtain rfl:Z=nb-1:=by lia
     refine Jv (yC G ?_);have O:=L2.pushA ka G T;by_cases U:k-1=0
     ·rw[Jh (by simpa using U)]
      rw[U]at O ⊢;obtain⟨f,e⟩:=O.endA;exact JB ⟨p,.inl ⟨_,_,rfl,f,e⟩⟩
     rw[Jc (by simpa using U)];split
     ·exact JB ⟨p,.inr ⟨_,_,_,_,_,_,rfl,O,by lia,by lia,by lia,by lia,by simp only[Yi,YC];lia⟩⟩
     ·exact JB ⟨p,_,_,_,_,_,_,rfl,O,by lia,by lia,by lia,by lia,by simp only[Yi,YC];lia⟩
   ·rintro c D ⟨S3,na,nb,out,g,ca,B,rfl,L,q,d,H,l,sz⟩
    exact⟨S3,.inr ⟨_,_,_,_,_,_,rfl,L,q,d,H,l,sz⟩⟩
   ·rintro c D ⟨S3,⟨r,x,rfl,f,e⟩|⟨na,nb,out,g,ca,B,rfl,L,q,d,H,l,sz⟩⟩
    ·exact JB ⟨S3,r,_,rfl,f,e⟩
    dsimp only;refine Jv (o9 λao p=>?_);exact JB ⟨S3.trans p,_,_,_,_,rfl,L,q,d,H,l,by omega⟩
end
section
variable {rk:Keyed->Int}
theorem sD (b:Nat):∀ (l:List Keyed) (o:Nat) (arr:Array Keyed),b+o+l.length<=arr.size->(List.foldl (λ(a:Array Keyed) (x:Keyed × Nat)=>a.setIfInBounds (b+x.2) x.1) arr (l.zipIdx o)).toList=arr.toList.take (b+o)++l++arr.toList.drop (b+o+l.length)
 | [],o,arr,_=>by
  show arr.toList=_
  rw[JY,List.length_nil,ZC,Z0]
 | x::l,o,arr,h=>by
  rw[JL]at h;rw[List.zipIdx_cons,ZE,sD b l (o+1) _ (by rw[Array.size_setIfInBounds];lia)];have c:b+o<arr.toList.length:=by rw[Ju];lia
  rw[Array.toList_setIfInBounds,<- Nat.add_assoc,List.drop_set_of_lt (by lia),JL,show b+o+1+l.length=b+o+(l.length+1) by lia]
  have e:(arr.toList.set (b+o) x).take (b+o+1)=arr.toList.take (b+o)++[x]:=by
   rw[JU (by rw[YG];exact c),List.getElem_set_self,List.take_set_of_le (Je _)]
  rw[e,JK (arr.toList.take (b+o)) [x] l];rfl
theorem iY {arr:Array Keyed}{i n j:Nat}(h:i+j<n)(hn:n<=arr.size):(arr.extract i n)[j]?=arr[i+j]?:=by
 rw[Array.getElem?_extract_of_lt (by lia)];exact(getElem?_pos arr (i+j) (by lia)).symm
theorem kB {arr:Array Keyed}{lo n:Nat}(h:Up rk arr lo n)(hn:lo+n<=arr.size):Srt rk (arr.extract lo (lo+n)).toList:=by
 refine List.pairwise_iff_getElem.mpr λi j hi b c=>?_;have a:(arr.extract lo (lo+n)).size=n:=by rw[Array.size_extract];simp_all
 rw[Ju,a]at hi b;have:=h (lo+i) (lo+j) (by lia) (by lia) (by simp_all);rw[R_at (getElem?_pos arr (lo+i) (by lia)),R_at (getElem?_pos arr (lo+j) (by lia))]at this;simpa using this
end
section
variable {prog:Yo}{w:YI}{A:YO}{E:Jo->JO->Prop}{s:JO}{κ:SortKind}{P:Keyed->Prop}{rk:Keyed->Int}{a₀:Array Keyed}
theorem zdU (C:Cmp prog w A s κ P rk){st:SortSt}{Q:Bool->SortSt->Prop}{i sa na p sb nb q:Nat}(D:Bs κ P a₀ st)(e1:(pendingOf st)[i]?=some (sa,na,p))(e2:(pendingOf st)[i+1]?=some (sb,nb,q))(hs:sb=sa+na)(n1:1<=na)(n2:1<=nb)(hz:sb+nb<=a₀.size)(K:Up rk (arrOf st) sa na)(J:Up rk (arrOf st) sb nb)(h:∀ st',Bs κ P a₀ st'->pendingOf st'=((pendingOf st).setIfInBounds i (sa,na+nb,p)).eraseIdxIfInBounds (i+1)->(∀ k,k<sa\/sb+nb<=k->R rk (arrOf st') k=R rk (arrOf st) k)->Up rk (arrOf st') sa (na+nb)->Q true st'):wpS (model prog w) A E s (mergeAt' i) Q st:=by
 refine Jv (Wu ?_);dsimp only;rw[e1,e2];dsimp only;obtain⟨b0,X,aT,ao⟩:=D.at (i:=sb) (by lia) rk;have sz:=D.size
 have Z:∀ {c st2:SortSt}{Q':PUnit->SortSt->Prop},Q' ⟨⟩ st2->wpS (model prog w) A E s (set st2:StateT SortSt Sem PUnit) Q' c:=λ{c st2 Q'} hq=>by
  unfold wpS;rw[StateT.run_set];exact J9 ⟨rfl,hq⟩
 refine Jv (Z (st2:=SortSt.mk' (kindOf st) (arrOf st) (((pendingOf st).setIfInBounds i (sa,na+nb,p)).eraseIdxIfInBounds (i+1)) (gallopOf st) (failedOf st)) ?_);generalize M:SortSt.mk' (kindOf st) (arrOf st) (((pendingOf st).setIfInBounds i (sa,na+nb,p)).eraseIdxIfInBounds (i+1)) (gallopOf st) (failedOf st)=c;have d:Bs κ P a₀ c:=by rw[<- M];exact⟨D.kind,D.fail,D.perm,D.all⟩
 have U:arrOf c=arrOf st:=by rw[<- M]
 have ep:pendingOf c=((pendingOf st).setIfInBounds i (sa,na+nb,p)).eraseIdxIfInBounds (i+1):=by rw[<- M]
 have pat:∀ j,j<a₀.size->∃ x,(arrOf st)[j]?=some x/\P x:=λj B=>by
  obtain⟨x,ex,px,_⟩:=D.at B rk;exact⟨x,ex,px⟩
 refine Jv (yC X (Jv (ug (arr:=arrOf st) C d.kind aT (λt S=>pat (sa+t) (by lia)) K (by lia) λk a4 g1 g2=>?_)));dsimp only
 have f1:∀ j,sa<=j->j<sa+k->R rk (arrOf st) j<=rk b0:=λj l o=>by
  have:=g1 (j-sa) (by lia);rw[show sa+(j-sa)=j by simp_all]at this;unfold bd at this;simp only[Yx,ZD,W8,YD]at this
  simp_all
 have f2:∀ j,sa+k<=j->j<sb->rk b0<=R rk (arrOf st) j:=λj l o=>by
  have:=g2 (j-sa) (by lia) (by lia);rw[show sa+(j-sa)=j by lia]at this;unfold bd at this;simp only[Yx,ZD,Bool.not_eq_false',YN]at this;lia
 have f0:∀ j,sb<=j->j<sb+nb->rk b0<=R rk (arrOf st) j:=λj l o=>by rw[<- ao];exact J _ _ (Je _) l o
 by_cases zk:na-k=0
 ·rw[Jh (by simpa using zk)]
  refine JB (h c d ep (λj _=>by rw[U]) λx y g b I=>?_);rw[U];by_cases q1:y<sb
  ·exact K _ _ g b (by simp_all)
  ·by_cases q2:sb<=x
   ·exact J _ _ q2 b (by lia)
   ·exact ZB (f1 x g (by lia)) (f0 y (by simp_all) (by lia))
 rw[Jc (by simpa using zk)];have ka:sa+k+(na-k)-1=sb-1:=by lia
 rw[ka];obtain⟨l0,V,ax,ak⟩:=D.at (i:=sb-1) (by lia) rk;refine Jv (yC V (Jv (ug (arr:=arrOf st) C d.kind ax (λt S=>pat (sb+t) (by lia)) J (by lia) λn a3 c1 c2=>?_)));dsimp only
 have f3:∀ j,sb<=j->j<sb+n->R rk (arrOf st) j<=rk l0:=λj l o=>by
  have:=c1 (j-sb) (by grind);rw[show sb+(j-sb)=j by simp_all]at this;unfold bd at this;simp only[Z6,YN]at this;lia
 have f4:∀ j,sb+n<=j->j<sb+nb->rk l0<=R rk (arrOf st) j:=λj l o=>by
  have:=c2 (j-sb) (by lia) (by lia);rw[show sb+(j-sb)=j by lia]at this;unfold bd at this;simp only[Z6,YD]at this
  simp_all
 have f5:∀ j,sa<=j->j<sb->R rk (arrOf st) j<=rk l0:=λj l o=>by rw[<- ak];exact K _ _ l (by lia) (by lia)
 by_cases zn:n=0
 ·rw[Jh (by simpa using zn)]
  refine JB (h c d ep (λj _=>by rw[U]) λx y g b I=>?_);rw[U];by_cases q1:y<sb
  ·exact K _ _ g b (by simp_all)
  ·by_cases q2:sb<=x
   ·exact J _ _ q2 b (by lia)
   ·exact ZB (f5 x g (by simp_all)) (f4 y (by simp_all) (by lia))
 rw[Jc (by simpa using zn)];have sx:((arrOf st).extract (sa+k) sb).size=na-k:=by rw[Array.size_extract];lia
 have sy:((arrOf st).extract sb (sb+n)).size=n:=by rw[Array.size_extract];lia
 have px:∀ x∈((arrOf st).extract (sa+k) sb).toList,P x:=λx g=>by
  obtain⟨j,l,o,L⟩:=va g;obtain⟨y,T,py⟩:=pat j (by lia);rw[L]at T;cases T;exact py
 have py:∀ x∈((arrOf st).extract sb (sb+n)).toList,P x:=λx g=>by
  obtain⟨j,l,o,L⟩:=va g;obtain⟨y,T,py⟩:=pat j (by lia);rw[L]at T;cases T;exact py
 have ox:Srt rk ((arrOf st).extract (sa+k) sb).toList:=by
  have:=kB (rk:=rk) (arr:=arrOf st) (lo:=sa+k) (n:=na-k) (λx y g b I=>K x y (by lia) b (by grind)) (by lia)
  rwa [show sa+k+(na-k)=sb by grind]at this
 have oy:Srt rk ((arrOf st).extract sb (sb+n)).toList:=kB (λx y g b I=>J x y (by omega) b (by lia)) (by lia)
 have first:∀ x,((arrOf st).extract sb (sb+n))[0]?=some x->∀ y∈((arrOf st).extract (sa+k) sb).toList,rk x<=rk y:=λx ex y I=>by
  rw[iY (by lia) (by lia),ZC,X]at ex;obtain⟨j,l,o,L⟩:=va I;have:=f2 j l o;rw[R_at L]at this;cases ex;exact this
 have last:∀ x,((arrOf st).extract (sa+k) sb)[((arrOf st).extract (sa+k) sb).size-1]?=some x->∀ y∈((arrOf st).extract sb (sb+n)).toList,rk y<=rk x:=λx ex y I=>by
  rw[sx,iY (by grind) (by lia),show sa+k+(na-k-1)=sb-1 by lia,V]at ex;obtain⟨j,l,o,L⟩:=va I;have:=f3 j l (by omega);rw[R_at L]at this;cases ex;exact this
 have fin:∀ (m:Array Keyed) (st2:SortSt),Sm c st2->m.toList.Perm (((arrOf st).extract (sa+k) sb).toList++((arrOf st).extract sb (sb+n)).toList)->Srt rk m.toList ->
   wpS (model prog w) A E s (do
    modify λs=>setArr s (m.toList.zipIdx.foldl (λ(a:Array Keyed) (x:Keyed × Nat)=>a.setIfInBounds (sa+k+x.2) x.1) (arrOf s))
    let s' <- get
    pure (failedOf s').isNone) Q st2:=by
  intro m st2 G pm O;have Y:arrOf st2=arrOf st:=G.arr.trans U;have N:m.toList.length=na-k+n:=by rw[pm.length_eq,Jn,Ju,Ju,sx,sy]
  have wl:=sD (sa+k) m.toList 0 (arrOf st2) (by rw[Y,sz,N];grind);generalize hW:List.foldl (λ(a:Array Keyed) (x:Keyed × Nat)=>a.setIfInBounds (sa+k+x.2) x.1) (arrOf st2) m.toList.zipIdx=W at wl;rw[ZC,N,Y,show sa+k+(na-k+n)=sb+n by grind]at wl
  have ab:(arrOf st).toList=(arrOf st).toList.take (sa+k)++(((arrOf st).extract (sa+k) sb).toList++((arrOf st).extract sb (sb+n)).toList)++(arrOf st).toList.drop (sb+n):=by
   have d1:=qF (arrOf st) (sa+k) (na-k);rw[show sa+k+(na-k)=sb by lia]at d1;have d2:=qF (arrOf st) sb n;rw[JK,JK,<- d2,<- d1,Z0]
  have pw:W.Perm (arrOf st):=by
   rw[Array.perm_iff_toList_perm,wl]
   conv=>rhs;rw[ab]
   exact((pm.append_left _).append_right _)
  have r:((arrOf st).toList.take (sa+k)).length=sa+k:=by rw[JF,Ju,sz];lia
  have a0:W.size=a₀.size:=by rw[pw.size_eq,sz]
  have z:∀ j,j<sa+k->R rk W j=R rk (arrOf st) j:=λj B=>R_congr (by
   rw[<- Yq,<- Yq,wl,JK,Yd (by rw[r];exact B),ZR B])
  have f:∀ j,sb+n<=j->R rk W j=R rk (arrOf st) j:=λj B=>R_congr (by
   rw[<- Yq,<- Yq,wl,Y3 (by rw[Jn,r,N];lia),Jn,r,N,List.getElem?_drop]
   congr 1;lia)
  have mid:∀ j,sa+k<=j->j<sb+n->∃ x,m[j-(sa+k)]?=some x/\R rk W j=rk x:=λj l o=>by
   have jl:j-(sa+k)<m.size:=by rw[<- Ju,N];lia
   refine⟨_,getElem?_pos m _ jl,R_at ?_⟩;rw[<- Yq,wl,JK,Y3 (by rw[r];exact l),r,Yd (by rw[N];lia),Yq];exact getElem?_pos m _ jl
  have kids:∀ j x,m[j]?=some x->∃ t,((sa+k<=t/\t<sb)\/(sb<=t/\t<sb+n))/\R rk (arrOf st) t=rk x:=λj x ex=>by
   have hm:x∈m.toList:=by
    obtain⟨B,e⟩:=Y6.mp ex;rw[<- e];simp
   rcases Js.mp (pm.mem_iff.mp hm) with u|u
   ·obtain⟨t,F,H,et⟩:=va u
    exact⟨t,.inl ⟨F,H⟩,R_at et⟩
   ·obtain⟨t,F,H,et⟩:=va u
    exact⟨t,.inr ⟨F,H⟩,R_at et⟩
  refine Jv (Wy (Jv (Wu (JB ?_))));rw[hW]
  have ff:(failedOf (setArr st2 W)).isNone=true:=by
   show (failedOf st2).isNone=true;rw[G.fail,d.fail];rfl
  rw[ff];refine h _ ⟨G.kind.trans d.kind,G.fail.trans d.fail,pw.trans D.perm,D.all⟩ (G.pend.trans ep) (λj B=>?_) λx y g b I=>?_
  ·rcases B with B|B
   ·exact z j (by lia)
   ·exact f j (by lia)
  ·show R rk W x<=R rk W y
   by_cases x1:x<sa+k
   ·rw[z x x1]
    by_cases y1:y<sa+k
    ·rw[z y y1];exact K _ _ g b (by lia)
    ·by_cases y2:y<sb+n
     ·obtain⟨v,ev,rv⟩:=mid y (by lia) y2
      obtain⟨t,S,rt⟩:=kids _ v ev;rw[rv,<- rt];rcases S with ⟨F,H⟩|⟨F,H⟩
      ·exact K _ _ g (by lia) (by lia)
      ·exact ZB (f1 x g x1) (f0 t F (by lia))
     ·rw[f y (by lia)]
      exact ZB (f1 x g x1) (f0 y (by lia) (by lia))
   ·by_cases x2:x<sb+n
    ·obtain⟨u,eu,ru⟩:=mid x (by lia) x2
     rw[ru];by_cases y2:y<sb+n
     ·obtain⟨v,ev,rv⟩:=mid y (by lia) y2
      rw[rv]
      have:=qg O (base:=0) (n:=m.size) (by lia) (x-(sa+k)) (y-(sa+k)) (JN _) (by lia) (by
       have:=(Y6.mp ev).1
       lia)
      rwa [R_at eu,R_at ev]at this
     ·rw[f y (by lia)]
      obtain⟨t,S,rt⟩:=kids _ u eu;rw[<- rt];rcases S with ⟨F,H⟩|⟨F,H⟩
      ·exact ZB (f5 t (by lia) H) (f4 y (by lia) (by lia))
      ·exact J _ _ F (by lia) (by lia)
    ·rw[f x (by lia),f y (by lia)]
     exact J _ _ (by lia) b (by lia)
 split
 ·exact Jv (zdK C d.kind px py ox oy (by rw[sx];lia) (by rw[sy];lia) first last λm st2 G pm O=>fin m st2 G pm O)
 ·exact Jv (zdQ C d.kind px py ox oy (by rw[sx];lia) (by rw[sy];lia) first last λm st2 G pm O=>fin m st2 G pm O)
abbrev Run:=Nat × Nat × Nat
def Runs:List Run->Nat->Nat->Prop
 | [],u,v=>u=v
 | x::r,u,v=>x.1=u/\1<=x.2.1/\Runs r (u+x.2.1) v
theorem Runs.cut:∀ {l r:List Run}{u v:Nat},Runs (l++r) u v->∃ m,Runs l u m/\Runs r m v
 | [],_,u,_,h=>⟨u,rfl,h⟩
 | x::l,r,u,v,⟨e,d,c⟩=>by
  obtain⟨m,a,b⟩:=Runs.cut (l:=l) (r:=r) c;exact⟨m,⟨e,d,a⟩,b⟩
theorem Runs.app:∀ {l r:List Run}{u m v:Nat},Runs l u m->Runs r m v->Runs (l++r) u v
 | [],_,_,_,_,h,g=>by cases h;exact g
 | x::l,r,u,m,v,⟨c,b,a⟩,g=>⟨c,b,Runs.app a g⟩
theorem Runs.len:∀ {l:List Run}{u v:Nat},Runs l u v->u+l.length<=v
 | [],_,_,h=>by cases h;exact Je _
 | x::l,u,v,⟨c,b,a⟩=>by
  have:=Runs.len a;rw[JL];lia
theorem Runs.mem:∀ {l:List Run}{u v:Nat}{x:Run},Runs l u v->x∈l->u<=x.1/\1<=x.2.1/\x.1+x.2.1<=v
 | y::l,u,v,x,⟨e,d,b⟩,c=>by
  rcases Jf.mp c with rfl|a
  ·have:=Runs.len b;lia
  ·have:=Runs.mem b a;lia
theorem Runs.modify {f:Run->Run}(a:∀ x,(f x).1=x.1/\(f x).2.1=x.2.1):∀ {l:List Run}{i u v:Nat},Runs l u v->Runs (l.modify i f) u v
 | [],i,_,_,h=>by cases i<;>exact h
 | x::l,0,u,v,⟨d,c,b⟩=>by
  rw[List.modify_zero_cons]
  refine⟨(a x).1.trans d,by rw[(a x).2];exact c,by rw[(a x).2];exact b⟩
 | x::l,i+1,u,v,⟨d,c,b⟩=>by
  rw[List.modify_succ_cons];exact⟨d,c,Runs.modify a b⟩
theorem vY {f:Run->Run}(a:∀ x,(f x).1=x.1/\(f x).2.1=x.2.1):∀ {l:List Run}{i:Nat}{x:Run},x∈l.modify i f->∃ y∈l,x.1=y.1/\x.2.1=y.2.1
 | [],i,x,h=>by cases i<;>simp at h
 | y::l,0,x,h=>by
  rw[List.modify_zero_cons]at h;rcases Jf.mp h with rfl|b
  ·exact⟨y,Jz,(a y).1,(a y).2⟩
  ·exact⟨x,Jw _ b,rfl,rfl⟩
 | y::l,i+1,x,h=>by
  rw[List.modify_succ_cons]at h;rcases Jf.mp h with rfl|b
  ·exact⟨x,Jz,rfl,rfl⟩
  ·obtain⟨z,hz,e⟩:=vY a b
   exact⟨z,Jw _ hz,e⟩
structure Ji (κ:SortKind) (P:Keyed->Prop) (rk:Keyed->Int) (a₀:Array Keyed) (lo:Nat) (st:SortSt):Prop where
 b:Bs κ P a₀ st
 runs:Runs (pendingOf st).toList 0 lo
 up:∀ x∈(pendingOf st).toList,Up rk (arrOf st) x.1 x.2.1
theorem aS (C:Cmp prog w A s κ P rk){st:SortSt}{lo i:Nat}{Q:Bool->SortSt->Prop}(J:Ji κ P rk a₀ lo st)(X:lo<=a₀.size)(hi:i+1<(pendingOf st).size)(h:∀ st',Ji κ P rk a₀ lo st'->(∀ k,lo<=k->R rk (arrOf st') k=R rk (arrOf st) k)->(pendingOf st').size+1=(pendingOf st).size->Q true st'):wpS (model prog w) A E s (mergeAt' i) Q st:=by
 obtain⟨x,ex⟩:∃ x,(pendingOf st)[i]?=some x:=⟨_,getElem?_pos _ i (by lia)⟩;obtain⟨y,I⟩:∃ y,(pendingOf st)[i+1]?=some y:=⟨_,getElem?_pos _ (i+1) hi⟩;have t:(pendingOf st).toList[i]?=some x:=by rw[Yq];exact ex
 have r:(pendingOf st).toList[i+1]?=some y:=by rw[Yq];exact I
 obtain⟨o,T⟩:=Ja.mp t;obtain⟨n,S⟩:=Ja.mp r
 have sp:(pendingOf st).toList=(pendingOf st).toList.take i++x::y::(pendingOf st).toList.drop (i+1+1):=by
  rw[<- T,<- S,<- Yj n,<- Yj o,Z0]
 have D:=J.runs;have up:=J.up;generalize e:(pendingOf st).toList.take i=pre at sp;generalize u:(pendingOf st).toList.drop (i+1+1)=post at sp;have O:pre.length=i:=by rw[<- e,JF];lia
 rw[sp]at D up;obtain⟨m,F,N⟩:=D.cut;obtain⟨B,H,M,G,f⟩:=N;obtain⟨v,na,p⟩:=x;obtain⟨L,nb,q⟩:=y;simp only at B H M G f;have Y:=f.len;refine zdU C J.b ex I (by simp_all) H G (by lia) (up (v,na,p) (by simp)) (up (L,nb,q) (by simp)) λst' W U low K=>?_
 have l:(pendingOf st').toList=pre++(v,na+nb,p)::post:=by
  rw[U,Array.toList_eraseIdxIfInBounds,Array.toList_setIfInBounds,sp,List.set_append_right _ _ (by simp_all),List.eraseIdx_append_of_length_le (by simp_all),O,Nat.sub_self,ZZ];rfl
 refine h st' ⟨W,?_,?_⟩ (λk Z=>low k (.inr (by lia))) ?_
 ·rw[l]
  refine F.app ⟨B,by show 1<=na+nb;lia,?_⟩;show Runs post (m+(na+nb)) lo;rw[<- Nat.add_assoc];exact f
 ·rw[l]
  intro z a;rcases Js.mp a with a|a
  ·have V:=F.mem a
   intro c d j b g;rw[low c (.inl (by lia)),low d (.inl (by lia))];exact up z (YE _ a) c d j b g
  ·rcases Jf.mp a with rfl|a
   ·exact K
   ·have V:=f.mem a
    intro c d j b g;rw[low c (.inr (by lia)),low d (.inr (by lia))];exact up z (JA _ (by simp[a])) c d j b g
 ·rw[<- Ju,<- Ju,l,sp]
  simp only[Jn,JL];lia
theorem zaV (C:Cmp prog w A s κ P rk){st:SortSt}{Q:Unit->SortSt->Prop}(hB:Bs κ P a₀ st)(hp:pendingOf st = #[])(h:∀ st',Bs κ P a₀ st'->Up rk (arrOf st') 0 a₀.size->Q () st'):wpS (model prog w) A E s sortRuns' Q st:=by
 rw[sortRuns'_eq];refine Jv (Wu ?_);dsimp only;rw[hB.size];generalize minRun' a₀.size a₀.size 0=S
 refine Jv (Zh (YB (I:=λi c o=>∃ lo,c=(none,lo)/\i<=lo/\lo<=a₀.size/\Ji κ P rk a₀ lo o)
  (Q:=λc o=>∃ lo,c=(none,lo)/\lo=a₀.size/\Ji κ P rk a₀ lo o) ?step ?fin ?init) ?post)
 case init=>exact⟨0,rfl,Je _,JN _,hB,by rw[hp];rfl,λx u=>by rw[hp]at u;simp at u⟩
 case fin =>
  rintro c o ⟨lo,rfl,h1,V,J⟩;exact⟨lo,rfl,by lia,J⟩
 case step =>
  rintro i c o _ hi ⟨lo,rfl,h1,V,J⟩;dsimp only;by_cases z:lo>=a₀.size
  ·rw[Jh z]
   exact JB ⟨lo,rfl,by lia,J⟩
  rw[Jc z];refine Jv (zao C J.b (by lia) (by simp_all) λf n X M n2 u2=>?_);dsimp only
  have Jk:∀ g,Keep κ P rk a₀ lo o g->Ji κ P rk a₀ lo g:=λg H=>⟨H.b,by rw[H.pend];exact J.runs,λx u=>by
   rw[H.pend]at u;have:=J.runs.mem u;intro c d D v L;rw[H.low c (by lia),H.low d (by lia)]
   exact J.up x u c d D v L⟩
  by_cases Z:n<S
  ·rw[Jh Z]
   refine Jv (w5 ?_);refine Jv (zc8 C X.b M (by grind) (by lia) u2 λg H u3=>?_);have M:1<=min (a₀.size-lo) S:=by lia
   have n2:min (a₀.size-lo) S<=a₀.size-lo:=by omega
   have B:=Jk g (X.trans H);generalize min (a₀.size-lo) S=n at M n2 u3 ⊢;rw[Jc (show ¬(!true)=true by decide)];refine Jv (Wu ?_)
   have last:∀ a,Ji κ P rk a₀ lo a->Up rk (arrOf a) lo n->wpS (model prog w) A E s (do
     modify λm=>setPending m ((pendingOf m).push (lo,n,0))
     pure (ForInStep.yield ((none:Option Unit),lo+n))) (λr st'=>match r with|.done G=>∃ lo,G=(none,lo)/\lo=a₀.size/\Ji κ P rk a₀ lo st'|.yield G=>∃ lo,G=(none,lo)/\i+1<=lo/\lo<=a₀.size/\Ji κ P rk a₀ lo st') a:=by
    intro a e l;refine Jv (Wy (JB ⟨lo+n,rfl,by lia,by lia,⟨e.b.kind,e.b.fail,e.b.perm,e.b.all⟩,?_,?_⟩))
    ·show Runs ((pendingOf a).push (lo,n,0)).toList 0 (lo+n)
     rw[Z9];exact e.runs.app ⟨rfl,M,rfl⟩
    ·show ∀ x∈((pendingOf a).push (lo,n,0)).toList,Up rk (arrOf a) x.1 x.2.1
     rw[Z9];intro x u;rcases Js.mp u with p|p
     ·exact e.up x p
     ·rw[Jm.mp p];exact l
   split
   ·rename_i s1 m1 w1 hb
    refine Jv (Zh (YB (I:=λj c a=>c=(none,())/\Ji κ P rk a₀ lo a/\Up rk (arrOf a) lo n) (Q:=λc a=>c=(none,())/\Ji κ P rk a₀ lo a/\Up rk (arrOf a) lo n) ?_ (λc a U=>U) ⟨rfl,B,u3⟩) ?_)
    ·rintro j c a _ hj ⟨rfl,e,l⟩
     refine Jv (Wu ?_);split
     ·rename_i a1 a2 K N
      split
      ·exact JB ⟨rfl,e,l⟩
      ·have sz:(pendingOf a).size > 1:=by
        by_cases q:(pendingOf a).size > 1
        ·exact q
        ·rw[Jc q]at N;cases N
       refine Jv (aS C e V (by grind) λm Y k _=>?_);rw[Jc (show ¬(!true)=true by decide)];exact JB ⟨rfl,Y,λc d D v L=>by rw[k c D,k d (by lia)];exact l c d D v L⟩
     ·exact JB ⟨rfl,e,l⟩
    ·rintro c a ⟨rfl,e,l⟩
     dsimp only;refine Jv (Wy ?_);refine last _ ⟨⟨e.b.kind,e.b.fail,e.b.perm,e.b.all⟩,?_,?_⟩ l
     ·show Runs ((pendingOf a).modify _ _).toList 0 lo
      rw[Ws];refine Runs.modify ?_ e.runs;exact λx=>⟨rfl,rfl⟩
     ·show ∀ x∈((pendingOf a).modify _ _).toList,Up rk (arrOf a) x.1 x.2.1
      rw[Ws];intro x u;obtain⟨y,T,W,e2⟩:=vY (by exact λx=>⟨rfl,rfl⟩) u;rw[W,e2];exact e.up y T
   ·exact last _ B u3
  ·rw[Jc Z]
   have B:=Jk f X;have u3:=u2;generalize f=g at B u3 ⊢;refine Jv (Wu ?_)
   have last:∀ a,Ji κ P rk a₀ lo a->Up rk (arrOf a) lo n->wpS (model prog w) A E s (do
     modify λm=>setPending m ((pendingOf m).push (lo,n,0))
     pure (ForInStep.yield ((none:Option Unit),lo+n))) (λr st'=>match r with|.done G=>∃ lo,G=(none,lo)/\lo=a₀.size/\Ji κ P rk a₀ lo st'|.yield G=>∃ lo,G=(none,lo)/\i+1<=lo/\lo<=a₀.size/\Ji κ P rk a₀ lo st') a:=by
    intro a e l;refine Jv (Wy (JB ⟨lo+n,rfl,by lia,by grind,⟨e.b.kind,e.b.fail,e.b.perm,e.b.all⟩,?_,?_⟩))
    ·show Runs ((pendingOf a).push (lo,n,0)).toList 0 (lo+n)
     rw[Z9];exact e.runs.app ⟨rfl,M,rfl⟩
    ·show ∀ x∈((pendingOf a).push (lo,n,0)).toList,Up rk (arrOf a) x.1 x.2.1
     rw[Z9];intro x u;rcases Js.mp u with p|p
     ·exact e.up x p
     ·rw[Jm.mp p];exact l
   split
   ·rename_i s1 m1 w1 hb
    refine Jv (Zh (YB (I:=λj c a=>c=(none,())/\Ji κ P rk a₀ lo a/\Up rk (arrOf a) lo n) (Q:=λc a=>c=(none,())/\Ji κ P rk a₀ lo a/\Up rk (arrOf a) lo n) ?_ (λc a U=>U) ⟨rfl,B,u3⟩) ?_)
    ·rintro j c a _ hj ⟨rfl,e,l⟩
     refine Jv (Wu ?_);split
     ·rename_i a1 a2 K N
      split
      ·exact JB ⟨rfl,e,l⟩
      ·have sz:(pendingOf a).size > 1:=by
        by_cases q:(pendingOf a).size > 1
        ·exact q
        ·rw[Jc q]at N;cases N
       refine Jv (aS C e V (by lia) λm Y k _=>?_);rw[Jc (show ¬(!true)=true by decide)];exact JB ⟨rfl,Y,λc d D v L=>by rw[k c D,k d (by lia)];exact l c d D v L⟩
     ·exact JB ⟨rfl,e,l⟩
    ·rintro c a ⟨rfl,e,l⟩
     dsimp only;refine Jv (Wy ?_);refine last _ ⟨⟨e.b.kind,e.b.fail,e.b.perm,e.b.all⟩,?_,?_⟩ l
     ·show Runs ((pendingOf a).modify _ _).toList 0 lo
      rw[Ws];refine Runs.modify ?_ e.runs;exact λx=>⟨rfl,rfl⟩
     ·show ∀ x∈((pendingOf a).modify _ _).toList,Up rk (arrOf a) x.1 x.2.1
      rw[Ws];intro x u;obtain⟨y,T,W,e2⟩:=vY (by exact λx=>⟨rfl,rfl⟩) u;rw[W,e2];exact e.up y T
   ·exact last _ B u3
 case post =>
  rintro c o ⟨lo,rfl,rfl,J⟩;dsimp only
  refine Jv (Zh (YB (I:=λi c f=>c=(none,())/\Ji κ P rk a₀ a₀.size f/\(pendingOf f).size<=a₀.size-i+1)
   (Q:=λc f=>c=(none,())/\Ji κ P rk a₀ a₀.size f/\(pendingOf f).size<=1) ?_ ?_ ⟨rfl,J,?_⟩) ?_)
  ·rintro i c f _ hi ⟨rfl,F,sz⟩
   refine Jv (Wu ?_);by_cases z:(pendingOf f).size<=1
   ·rw[Jh z]
    exact JB ⟨rfl,F,z⟩
   rw[Jc z]
   have go:∀ t,t+1<(pendingOf f).size->wpS (model prog w) A E s (mergeAt' t) (λb g=>b=true/\Ji κ P rk a₀ a₀.size g/\(pendingOf g).size<=a₀.size-(i+1)+1) f:=λt ht =>
    aS C F (Je _) ht λg B _ O=>⟨rfl,B,by grind⟩
   refine Jv (Zh (go _ ?_) ?_)
   ·repeat' split
    all_goals omega
   ·rintro b g ⟨rfl,B,O⟩
    exact JB ⟨rfl,B,O⟩
  ·rintro c f ⟨rfl,F,sz⟩
   exact⟨rfl,F,by simp_all⟩
  ·have:=J.runs.len
   rw[Ju]at this;lia
  ·rintro c f ⟨rfl,F,sz⟩
   refine JB (h f F.b ?_);have R:=F.runs;have up:=F.up;have ln:(pendingOf f).toList.length<=1:=by rw[Ju];exact sz
   match hq:(pendingOf f).toList,ln with
   | [],_ =>
    rw[hq]at R;intro c d D v L;have:0=a₀.size:=R
    lia
   | [x],_ =>
    rw[hq]at R up;obtain⟨r1,r2,r3⟩:=R;have:0+x.2.1=a₀.size:=r3;have:=up x (by simp);rw[r1,show x.2.1=a₀.size by simp_all]at this;exact this
end
section
variable {prog:Yo}{w:YI}{A:YO}{E:Jo->JO->Prop}{s:JO}
theorem gM {a:JI}{vs:List Jo}{n:Nat}{B:Fin->JO->Prop}(t:s.heap.get? a=some (seqObj "list" vs.toArray n)) (hz:vs.length<=10000) (κ:SortKind) (g:Jo->Int)
  (j:∀ h',(∀ c o,c≠a->s.heap.get? c=some o->h'.get? c=some o)->2<=vs.length->∀ {Q:SortKind->JO->Prop}{E:Jo->JO->Prop},Q κ { s with heap:=h' }->wpAny (model prog w) A (keyKind' vs.toArray) Q E { s with heap:=h' })
  (m:∀ h',(∀ c o,c≠a->s.heap.get? c=some o->h'.get? c=some o)->Cmp prog w A { s with heap:=h' } κ (λp=>p.1∈vs) (λp=>g p.1))
  (h:∀ out:List Jo,out.Perm vs->out.Pairwise (λx y=>g x<=g y)->B (.done (.ret .none)) { s with heap:=sortedHeap s.heap a vs out.toArray }) :
  wpAny (model prog w) A (Builtin.«list.sort» ⟨[.ref a],[]⟩) B E s:=by
 have al:a<s.heap.objs.size:=Jd t;have ln:vs.toArray.size=vs.length:=Jj ..;have H:vs.length<=sizeLine:=JS hz (by decide);rw[list_sort_plain];refine J0 (listItems_at t rfl (J0 (listUpdate_at t rfl ?_ (hsz:=by rw[ln];exact H))));obtain⟨v,F⟩:∃ v,(s.heap.update a (Obj.mapSeq λ_=>#[])).get? a=some (seqObj "list" #[] v):=⟨_,get?_update_seq t λ_=>#[]⟩;refine J0 (seqEpoch_at F rfl (J0 (Wv (J0 (wpAny_newList (JX ?_))))))
 have l:(((s.heap.update a (Obj.mapSeq λ_=>#[])).push (seqObj "tuple" vs.toArray 0)).push (seqObj "list" #[] 0)).get? a=some (seqObj "list" #[] v) :=
  J7 _ (J7 _ F)
 have old:∀ c o,c≠a->s.heap.get? c=some o->(((s.heap.update a (Obj.mapSeq λ_=>#[])).push (seqObj "tuple" vs.toArray 0)).push (seqObj "list" #[] 0)).get? c=some o:=λc o J q =>
  J7 _ (J7 _ ((JV _ _ (Ne.symm J)).trans q))
 show wpAny (model prog w) A _ B E { s with heap:=((s.heap.update a (Obj.mapSeq λ_=>#[])).push (seqObj "tuple" vs.toArray 0)).push (seqObj "list" #[] 0) };have lo:∀ out:List Jo,out.Perm vs->out.toArray.size<=sizeLine+1:=λout I=>by rw[Jj,I.length_eq];lia
 generalize M:((s.heap.update a (Obj.mapSeq λ_=>#[])).push (seqObj "tuple" vs.toArray 0)).push (seqObj "list" #[] 0)=h6 at l old ⊢;have back:∀ out:Array Jo,sortedHeap s.heap a vs out=h6.update a (Obj.mapSeq λ_=>out):=λout=>by rw[<- M];rfl
 by_cases f:vs.toArray.size<2
 ·rw[Jh f,Jh f]
  refine J0 (J9 (?_:wpAny _ _ _ _ _ _));refine J0 (J9 ?_)
  have em:(vs.toArray.zip vs.toArray).map (·.2)=vs.toArray:=by
   apply Array.ext';rw[Array.toList_map,Array.toList_zip];exact List.map_snd_zip (Je _)
  have one:vs.Pairwise (λx y=>g x<=g y):=by
   match vs,f with
   | [],_=>exact List.Pairwise.nil
   | [x],_=>exact List.pairwise_singleton _ _
   | _::_::_,z=>simp at z;lia
  have k:=h vs (List.Perm.refl _) one;rw[back]at k;dsimp only;rw[em];refine J0 (seqEpoch_at l rfl (J0 (listUpdate_at l rfl ?_ (hsz:=JN _) (hsz2:=lo vs (List.Perm.refl _)))));simp only[ZD,bne_self_eq_false,Yx];exact J9 k
 rw[Jc f,Jc f];refine J0 (j h6 old (by simp_all) ?_);have C:=m h6 old
 refine J0 (JQ (zaV C (a₀:=vs.toArray.zip vs.toArray) (st:=SortSt.mk' κ (vs.toArray.zip vs.toArray) #[] 7 none)
  (Q:=λ_ d=>Bs κ (λp=>p.1∈vs) (vs.toArray.zip vs.toArray) d/\Up (λp=>g p.1) (arrOf d) 0 (vs.toArray.zip vs.toArray).size) ⟨rfl,rfl,Array.Perm.refl _,λp r=>?_⟩ rfl λd b u=>⟨b,u⟩) ?_ λ_ _ e=>e)
 ·have:(vs.toArray.zip vs.toArray).toList=vs.zip vs:=by simp
  rw[this]at r;exact(Wp r).1
 rintro⟨⟨⟩,d⟩ O ⟨rfl,b,u⟩
 have D:(arrOf d).toList.Perm (vs.zip vs):=by
  have:=Array.perm_iff_toList_perm.mp b.perm;simpa using this
 have same:∀ p∈(arrOf d).toList,p.1=p.2:=λp r=>by
  have N:=D.mem_iff.mp r;obtain⟨i,hi⟩:=Z2.mp N;rw[YK]at hi;have:=hi.1.symm.trans hi.2;exact Jq this
 have G:Srt (λp=>g p.1) (arrOf d).toList:=by
  have:=kB (arr:=arrOf d) (lo:=0) (n:=(arrOf d).size) (by rw[b.size];exact u) (by lia);rw[Zr,vZ,<- Ju,Ya]at this;exact this
 have pm:((arrOf d).toList.map (·.2)).Perm vs:=by
  have:=D.map (·.2)
  rwa [List.map_snd_zip (Je _)]at this
 have em:(arrOf d).map (·.2)=((arrOf d).toList.map (·.2)).toArray:=by
  apply Array.ext';simp
 have k:=h _ pm (by
  refine List.pairwise_map.mpr (List.Pairwise.imp_of_mem ?_ G);intro x y L K le
  rw[<- same x L,<- same y K];exact le)
 rw[back]at k;dsimp only;rw[em,b.fail];refine J0 (seqEpoch_at l rfl (J0 (listUpdate_at l rfl ?_ (hsz:=JN _) (hsz2:=lo _ pm))));simp only[ZD,bne_self_eq_false,Yx];exact J9 k
end
end Ts
namespace Own
open PySem PySem.Spec PyProof.Rows
abbrev IsZipN (h:YP)(z TI TO t:JI)(c:Bool):Prop:=h.get? z=some { cls:=.type "zip",dict:=none,data:=.fields #[rawInt t,.bool c,.bool false,.ref TI,.ref TO],slots:=#[] }
section
variable {prog:Yo}{w:YI}{A:YO}{E:Jo->JO->Prop}{s:JO}{z TI TO i1 i2:JI}{f1 f2:List JI}{n1 n2 k:Nat}{P1 P2:Nat->Jo->Prop}{S1 S2:Nat->YP->Prop}
theorem tw {α:Type}{t:JI}{c:Bool}{o:Obj}{f:Bool->Sem α}{Q:α->JO->Prop}(hz:IsZipN s.heap z TI TO t c)(d:s.heap.get? t=some o)(h:∀ h',IsZipN h' z TI TO t true->Heap.SameBut z s.heap h'->wpAny (model prog w) A (f false) Q E { s with heap:=h' }) :
  wpAny (model prog w) A (Builtin.SmallTypes.ownedTupleIsFree (.ref z) >>= f) Q E s:=by
 refine J0 ?_;unfold Builtin.SmallTypes.ownedTupleIsFree;refine rf 0 hz rfl rfl ?_;show wpAny _ _ (loadIfAlive ((t:Int).toNat) >>= _) _ _ _;rw[Yw];refine J0 (PySem.W.kdx_alive d ?_);simp only[Yx,ZD,Option.isNone_some];refine rf (x:=.bool c) 1 hz rfl rfl ?_;have e:(Value.bool true != Value.bool true)=false:=rfl;have g:(Value.bool false != Value.bool true)=true:=rfl
 cases c with
 | true =>
  rw[e]
  exact J9 (h s.heap hz (Heap.SameBut.refl _ _))
 | false =>
  rw[g];exact J0 (Y8 hz (show 1<5 by decide) λh' a b=>J9 (h h' a b))
theorem iw {t:JI}{c:Bool}{o:Obj}(S:Sep z TI TO i1 i2 f1 f2)(l:Draws prog w A i1 f1 n1 P1 S1)(j:Draws prog w A i2 f2 n2 P2 S2){Q:Jo->JO->Prop}(hz:IsZipN s.heap z TI TO t c)(H:s.heap.get? t=some o)(J:IsPair s.heap TI (.ref i1) (.ref i2))(M:S1 k s.heap)(L:S2 k s.heap)(l1:k<n1)(l2:k<n2)(h:∀ x y h' tk,P1 k x->P2 k y->IsZipN h' z TI TO t true->S1 (k+1) h'->S2 (k+1) h'->IsPair h' s.heap.objs.size x y ->
   (∀ c o,c∉[z,TO,i1,i2]->s.heap.get? c=some o->h'.get? c=some o)->Q (.ref s.heap.objs.size) { s with heap:=h',toks:=tk }) :
  wpAny (model prog w) A (Builtin.«zip.__next__» ⟨[.ref z],[]⟩) (λr F=>∃ v,r=.done (.ret v)/\Q v F) E s:=by
 have n:=S.all;simp only[JJ,Jf,Jg,Y5,Zs]at n;obtain⟨⟨P,O,C,B⟩,⟨IO,X,W⟩,⟨V,U⟩,N,_⟩:=n;refine rf 2 hz rfl rfl (rf 3 hz rfl rfl (J0 (Y4 J rfl (tw hz H λT u g=>?_))));rw[Jc Jp];refine J0 ?_;simp only[List.forIn_toArray,Yz,YS];refine J0 (J0 (JX (J0 (l.item k _ _ _ l1 (l.frame _ _ _ M λc a o e=>(g.2 c λq=>S.z1 (q ▸ a)).trans e) λx I R G db f=>J9 (J9 ?_)))));have m:S2 k I:=j.frame _ _ _ L λc b o e=>(f.2 c λq=>S.o2 (q ▸ b)).trans ((g.2 c λq=>S.z2 (q ▸ b)).trans e);refine J0 (J0 (JX (J0 (j.item k _ _ _ l2 m λy i D py K d=>J9 (J9 (J9 ?_))))));refine J0 (Wv (J9 ⟨_,rfl,?_⟩) (hsz:=by show 2<=sizeLine;decide));have sz:i.objs.size=s.heap.objs.size:=by rw[d.1,f.1,g.1]
 show Q (.ref i.objs.size) _;rw[sz];have p:IsZipN i z TI TO t true:=(d.2 z B).trans ((f.2 z C).trans u);have new:(i.push { cls:=.type "tuple",data:=.seq #[x,y] }).get? s.heap.objs.size=some { cls:=.type "tuple",data:=.seq #[x,y] }:=by rw[<- sz];exact Jt _ rfl
 refine h x y _ D G py (J7 _ p) ?_ ?_ new λc o a e=>?_
 ·exact l.frame _ _ _ db λc b o e=>J7 _ ((d.2 c λq=>S.o1 (q ▸ b)).trans e)
 ·exact j.frame _ _ _ K λc b o e=>J7 _ e
 ·simp only[Jf,Jg,Y5,Zs]at a
  exact J7 _ ((d.2 c a.2.2.2).trans ((f.2 c a.2.2.1).trans ((g.2 c a.1).trans e)))
theorem qZ {t:JI}{c:Bool}{o:Obj}(S:Sep z TI TO i1 i2 f1 f2) (d:Draws prog w A i1 f1 n1 P1 S1) {Q:Fin->JO->Prop}(hz:IsZipN s.heap z TI TO t c) (g:s.heap.get? t=some o) (k:IsPair s.heap TI (.ref i1) (.ref i2)) (l:S1 n1 s.heap)
  (h:∀ h' x,(∀ c o,c∉[z,TO,i1,i2]->s.heap.get? c=some o->h'.get? c=some o)->(∃ o,h'.get? x=some o/\o.cls=.type "StopIteration")->E (.ref x) { s with heap:=h' }):wpAny (model prog w) A (Builtin.«zip.__next__» ⟨[.ref z],[]⟩) Q E s:=by
 refine rf 2 hz rfl rfl (rf 3 hz rfl rfl (J0 (Y4 k rfl (tw hz g λn m b=>?_))));rw[Jc Jp];refine J0 ?_;simp only[List.forIn_toArray,Yz,YS];refine J0 (J0 (JX (J0 (d.done _ _ _ (d.frame _ _ _ l λc i o e=>(b.2 c λq=>S.z1 (q ▸ i)).trans e) λj x f ex=>?_))));refine h j x (λc o a e=>?_) ex;simp only[Jf,Jg,Y5,Zs]at a;exact f c o a.2.2.1 ((b.2 c a.1).trans e)
end
theorem qc:typeLookup (.type "zip") "__len__" = pure none:=by rw[typeLookup_type,builtinLookup_eq_fast];kernel_rfl
theorem tu:typeLookup (.type "zip") "__length_hint__" = pure none:=by rw[typeLookup_type,builtinLookup_eq_fast];kernel_rfl
def ZSt (z TI TO i1 i2:JI)(e d:Nat->YP->Prop)(k:Nat)(acc:Array Jo)(h:YP):Prop :=
 IsPair h TI (.ref i1) (.ref i2)/\e k h/\d k h/\((k=0/\IsZip h z TI TO .none/\∃ a b,IsPair h TO a b)\/(1<=k/\∃ t c,acc[0]?=some (.ref t)/\IsZipN h z TI TO t c))
def Kept (a:List JI)(c b:Nat->Jo->Prop)(acc:Array Jo)(h:YP):Prop:=∀ j v,acc[j]?=some v->∃ t x y,v=.ref t/\t∉a/\IsPair h t x y/\c j x/\b j y
section
variable {prog:Yo}{w:YI}{A:YO}{E:Jo->JO->Prop}{s:JO}{z TI TO i1 i2 L:JI}{f1 f2:List JI}{n n2 k:Nat}{P1 P2:Nat->Jo->Prop}{S1 S2:Nat->YP->Prop}
theorem zb3 {acc:Array Jo}(S:Sep z TI TO i1 i2 f1 f2)(M:Draws prog w A.in1 i1 f1 n P1 S1)(J:Draws prog w A.in1 i2 f2 n2 P2 S2)(hle:n<=n2){Q:Option Jo->JO->Prop}(Z:ZSt z TI TO i1 i2 S1 S2 k acc s.heap)(K:Kept [z,TI,TO,i1,i2,L] P1 P2 acc s.heap)(ha:acc.size=k)(hL:L<s.heap.objs.size)(O:TO<s.heap.objs.size)(U:k<n)(h:∀ h' tk x y,P1 k x->P2 k y->IsPair h' s.heap.objs.size x y->ZSt z TI TO i1 i2 S1 S2 (k+1) (acc.push (.ref s.heap.objs.size)) h'->Kept [z,TI,TO,i1,i2,L] P1 P2 (acc.push (.ref s.heap.objs.size)) h' ->
   (∀ c o,c∉[z,TO,i1,i2]->s.heap.get? c=some o->h'.get? c=some o)->Q (some (.ref s.heap.objs.size)) { s with heap:=h',toks:=tk }):wpAny (model prog w) A (pyNext (.ref z)) Q E s:=by
 obtain⟨r,I,H,st⟩:=Z;have T:=S.all;simp only[JJ,Jf,Jg,Y5,Zs]at T;obtain⟨⟨P,zO,z1,z2⟩,⟨IO,X,W⟩,⟨O1,O2⟩,ab,_⟩:=T;obtain⟨o1,e1⟩:=M.live _ _ I;obtain⟨o2,e2⟩:=J.live _ _ H
 have old:∀ h':YP,(∀ c o,c∉[z,TO,i1,i2]->s.heap.get? c=some o->h'.get? c=some o)->∀ x y,IsPair h' s.heap.objs.size x y->P1 k x->P2 k y->(∃ R,s.heap.get? z=some R)->TO<s.heap.objs.size->Kept [z,TI,TO,i1,i2,L] P1 P2 (acc.push (.ref s.heap.objs.size)) h':=by
  intro h' f x y new px py ⟨R,ez⟩ lt j v p;by_cases q:j<acc.size
  ·rw[Array.getElem?_push_lt q]at p
   obtain⟨t,x',Y,rfl,G,B,i,g⟩:=K j v ((getElem?_pos acc j q).trans p);refine⟨t,x',Y,rfl,G,f t _ (λm=>G ?_) B,i,g⟩;simp only[Jf,Jg,Y5]at m ⊢;rcases m with m|m|m|m<;>simp[m]
  ·have jl:j<(acc.push (.ref s.heap.objs.size)).size:=(Y6.mp p).1
   rw[Yi]at jl;obtain rfl:j=acc.size:=by lia
   rw[Array.getElem?_push_size]at p;obtain rfl:=Jq p;refine⟨_,x,y,rfl,λm=>?_,new,by rw[ha];exact px,by rw[ha];exact py⟩;simp only[Jf,Jg,Y5]at m;have b1:=Jd ez;have b2:=Jd r;have b3:=Jd e1;have b4:=Jd e2;rcases m with m|m|m|m|m|m
   ·exact JT b1 m
   ·exact JT b2 m
   ·exact JT lt m
   ·exact JT b3 m
   ·exact JT b4 m
   ·exact JT hL m
 have first:∀ t,acc[0]?=some (Value.ref t)->(acc.push (.ref s.heap.objs.size))[0]?=some (Value.ref t):=λt e=>by
  have q:=(Y6.mp e).1;rw[Array.getElem?_push_lt q];exact(getElem?_pos acc 0 q).symm.trans e
 rcases st with ⟨rfl,l,a,b,V⟩|⟨k1,t,c,B,l⟩
 ·have d:s.TypeIs (.ref z) "zip":=⟨_,l,rfl⟩
  unfold pyNext
  refine J0 (Ze (wpAny_callSpecial?_slot (name:="__next__") d YU (Y1 YU d Wg (nY S M J l r V I H U (by lia)
   λx y h' tk i g C Oh F D new f=>J9 ?_) (Wa _))))
  have u:acc = #[]:=Array.size_eq_zero_iff.mp ha;subst u;exact h h' tk x y i g new ⟨f TI _ (by simp[Ne.symm P,IO,X,W]) r,F,D,.inr ⟨by lia,s.heap.objs.size,false,rfl,C⟩⟩ (old h' f x y new i g ⟨_,l⟩ (Jd V)) f
 ·have d:s.TypeIs (.ref z) "zip":=⟨_,l,rfl⟩
  obtain⟨t',x0,y0,et,G,N,_,_⟩:=K 0 _ B;cases et;unfold pyNext
  refine J0 (Ze (wpAny_callSpecial?_slot (name:="__next__") d YU (Y1 YU d Wg (iw S M J l N r I H U (by lia)
   λx y h' tk i g C F D new f=>J9 ?_) (Wa _))))
  exact h h' tk x y i g new ⟨f TI _ (by simp[Ne.symm P,IO,X,W]) r,F,D,.inr ⟨by lia,t,true,first t B,C⟩⟩ (old h' f x y new i g ⟨_,l⟩ O) f
theorem zaB {acc:Array Jo}(S:Sep z TI TO i1 i2 f1 f2)(l:Draws prog w A.in1 i1 f1 n P1 S1){Q:Option Jo->JO->Prop}(Z:ZSt z TI TO i1 i2 S1 S2 n acc s.heap)(K:Kept [z,TI,TO,i1,i2,L] P1 P2 acc s.heap)(h:∀ h',(∀ c o,c∉[z,TO,i1,i2]->s.heap.get? c=some o->h'.get? c=some o)->Q none { s with heap:=h' }):wpAny (model prog w) A (pyNext (.ref z)) Q E s:=by
 obtain⟨j,k,C,st⟩:=Z;rcases st with ⟨rfl,e,a,b,B⟩|⟨y,t,c,m,e⟩
 ·have d:s.TypeIs (.ref z) "zip":=⟨_,e,rfl⟩
  unfold pyNext;refine J0 (Ze (wpAny_callSpecial?_slot (name:="__next__") d YU (Y1 YU d Wg (nX S l e j k λh' x f ⟨o,g,co⟩=>?_) (Wa _))));exact J0 (Zx (T:="StopIteration") (b:=true) ⟨o,g,co⟩ isSubtype_stop (J9 (h h' f)))
 ·have d:s.TypeIs (.ref z) "zip":=⟨_,e,rfl⟩
  obtain⟨u,r,q,p,v,i,_,_⟩:=K 0 _ m;cases p;unfold pyNext;refine J0 (Ze (wpAny_callSpecial?_slot (name:="__next__") d YU (Y1 YU d Wg (qZ S l e i j k λh' x f ⟨o,g,co⟩=>?_) (Wa _))));exact J0 (Zx (T:="StopIteration") (b:=true) ⟨o,g,co⟩ isSubtype_stop (J9 (h h' f)))
theorem iP {res:Jo}{R:Result->JO->Prop}{J:Array Jo->JO->Prop}(S:Sep z TI TO i1 i2 f1 f2)(N:Draws prog w A.in1.in1 i1 f1 n P1 S1)(D2:Draws prog w A.in1.in1 i2 f2 n2 P2 S2)(hle:n<=n2)(U:L∉[z,TI,TO,i1,i2]++f1++f2)(hn:n<=sizeLine)(jn:∀ (acc:Array Jo) (s:JO) (h':YP) tk x y,J acc s->L<s.heap.objs.size->P1 acc.size x->P2 acc.size y->IsPair h' s.heap.objs.size x y->(∀ c o,c∉[z,TO,i1,i2]->s.heap.get? c=some o->h'.get? c=some o)->J (acc.push (.ref s.heap.objs.size)) { s with heap:=h',toks:=tk })(V:∀ (acc:Array Jo) (s:JO) (h':YP) tk,J acc s->(∀ c o,c∉[z,TO,i1,i2,L]->s.heap.get? c=some o->h'.get? c=some o)->J acc { s with heap:=h',toks:=tk }) :
  ∀ (m k:Nat) (s:JO) (acc:Array Jo) (c:Nat),k+m=n->acc.size=k->ZSt z TI TO i1 i2 S1 S2 k acc s.heap->Kept [z,TI,TO,i1,i2,L] P1 P2 acc s.heap->s.heap.get? L=some { cls:=.type "list",dict:=none,data:=.seq acc c,slots:=#[] }->TO<s.heap.objs.size->J acc s ->
   (∀ h' tk a r,a.size=n->J a { s with heap:=h',toks:=tk }->Kept [z,TI,TO,i1,i2,L] P1 P2 a h'->h'.get? L=some { cls:=.type "list",dict:=none,data:=.seq a r,slots:=#[] }->(∀ b o,b∉[z,TO,i1,i2,L]->s.heap.get? b=some o->h'.get? b=some o)->R (.ok (.ret res)) { s with heap:=h',toks:=tk }) ->
   codeAny (model prog w) A (.builtin "list.extend.loop" ⟨[.ref L,.ref z,res],[]⟩) R s:=by
 simp only[Js,Jf,Jg,Y5,Zs]at U;obtain⟨⟨⟨M,LI,X,Y,L2⟩,T⟩,Q⟩:=U;intro m
 induction m with
 | zero =>
  intro k s acc c km h Z K B i E fin;obtain rfl:k=n:=by omega
  refine Zn F.entry_extend_loop (by
   refine Z7 Wt _ ▸ (show wpAny _ A.in1 (pyNext (.ref z) >>= _) _ _ _ from J0 (zaB S N Z K λh' g=>?_));refine J9 (fin h' s.toks acc c h (V acc s h' s.toks E λc o H e=>g c o (λm=>H (by simp only[Jf,Jg,Y5]at m ⊢;rcases m with m|m|m|m<;>simp[m])) e) (λj v G=>?_) (g L _ (by simp[M,X,Y,L2]) B) λb o f e=>g b o (λm=>f ?_) e)
   ·obtain⟨t,x,y,rfl,l,p,D,C⟩:=K j v G
    refine⟨t,x,y,rfl,l,g t _ (λm=>l ?_) p,D,C⟩;simp only[Jf,Jg,Y5]at m ⊢;rcases m with m|m|m|m<;>simp[m]
   ·simp only[Jf,Jg,Y5]at m ⊢
    rcases m with m|m|m|m<;>simp[m])
 | succ m ih =>
  intro k s acc c km h Z K B i E fin;have W:=Jd B
  refine Zn F.entry_extend_loop (by
   refine Z7 Wt _ ▸ (show wpAny _ A.in1 (pyNext (.ref z) >>= _) _ _ _ from J0 (zb3 (L:=L) S N D2 hle Z K h W i (by lia) λI tk x y px py new Z1 K1 g=>?_));have u:=g L _ (by simp[M,X,Y,L2]) B;show wpAny _ A.in1 (updateSeq L (·.push (.ref s.heap.objs.size)) >>= _) _ _ _;refine J0 (Zc u rfl ?_ (hz:=by rw[h];lia) (_hz':=by rw[Yi,h];lia));have d:∀ b o,b≠L->I.get? b=some o->(I.update L (Obj.mapSeq (·.push (.ref s.heap.objs.size)))).get? b=some o:=λb o f e=>(JV _ _ (Ne.symm f)).trans e;obtain⟨hI,d1,d2,st⟩:=Z1;have P:=Ye (Obj.mapSeq (·.push (.ref s.heap.objs.size))) u rfl;refine J9 ⟨ZH Wt _,ih (k+1) _ (acc.push (.ref s.heap.objs.size)) _ (by lia) (by rw[Yi,h]) ⟨d _ _ (Ne.symm LI) hI,N.frame _ _ _ d1 λb f o e=>d b o (λq=>T (q ▸ f)) e,D2.frame _ _ _ d2 λb f o e=>d b o (λq=>Q (q ▸ f)) e,?_⟩ (λj v G=>?_) P ?_ (V _ _ _ tk (jn acc s I tk x y E W (by rw[h];exact px) (by rw[h];exact py) new g) λc o H e=>d c o (λq=>H (by simp[q])) e) λh' O a r a1 j1 a2 a3 a4=>fin h' O a r a1 j1 a2 a3 λb o f e=>a4 b o f ?_⟩
   ·rcases st with ⟨q,_⟩|⟨q,t,r,e,hz⟩
    ·simp_all
    ·exact .inr ⟨q,t,r,e,d _ _ (Ne.symm M) hz⟩
   ·obtain⟨t,x,y,rfl,l,p,D,C⟩:=K1 j v G
    exact⟨t,x,y,rfl,l,d t _ (λq=>l (by simp[q])) p,D,C⟩
   ·rw[Heap.size_update]
    obtain⟨t,x,y,e,_,p,_,_⟩:=K1 acc.size _ Array.getElem?_push_size;cases e;exact ZA i (Jd p)
   ·simp only[Jf,Jg,Y5,Zs]at f
    exact d b o f.2.2.2.2 (g b o (by simp[f]) e))
theorem ja {Q:List Jo->JO->Prop}{J:Array Jo->JO->Prop}(S:Sep z TI TO i1 i2 f1 f2)(r:Draws prog w A.in1.in1 i1 f1 n P1 S1)(q:Draws prog w A.in1.in1 i2 f2 n2 P2 S2)(hle:n<=n2)(hz:IsZip s.heap z TI TO .none)(u:IsPair s.heap TI (.ref i1) (.ref i2)){a b:Jo}(p:IsPair s.heap TO a b)(C:S1 0 s.heap)(B:S2 0 s.heap)(low:∀ c∈f1++f2,c<s.heap.objs.size)(hn:n<=sizeLine)(I:∀ (acc:Array Jo) (f:JO) (h':YP) tk x y,J acc f->s.heap.objs.size<f.heap.objs.size->P1 acc.size x->P2 acc.size y->IsPair h' f.heap.objs.size x y->(∀ c o,c∉[z,TO,i1,i2]->f.heap.get? c=some o->h'.get? c=some o)->J (acc.push (.ref f.heap.objs.size)) { f with heap:=h',toks:=tk })(t:∀ (acc:Array Jo) (f:JO) (h':YP) tk,J acc f->(∀ c o,c∉[z,TO,i1,i2,s.heap.objs.size]->f.heap.get? c=some o->h'.get? c=some o)->J acc { f with heap:=h',toks:=tk })(M:J #[] s)(h:∀ h' tk (acc:Array Jo),acc.size=n->J acc { s with heap:=h',toks:=tk }->Kept [z,TI,TO,i1,i2,s.heap.objs.size] P1 P2 acc h'->(∀ b o,b∉[z,TO,i1,i2]->s.heap.get? b=some o->h'.get? b=some o)->s.heap.objs.size<h'.objs.size->Q acc.toList { s with heap:=h',toks:=tk }):wpAny (model prog w) A (collect (.ref z)) Q E s:=by
 obtain⟨V,O⟩:=r.live _ _ C;obtain⟨U,e2⟩:=q.live _ _ B
 have G:s.heap.objs.size∉[z,TI,TO,i1,i2]++f1++f2:=λm=>by
  simp only[Js,Jf,Jg,Y5]at m;rcases m with ((m|m|m|m|m)|m)|m
  ·exact JT (Jd hz) m
  ·exact JT (Jd u) m
  ·exact JT (Jd p) m
  ·exact JT (Jd O) m
  ·exact JT (Jd e2) m
  ·exact Yv _ (low _ (YE _ m))
  ·exact Yv _ (low _ (JA _ m))
 have l:∀ c o,s.heap.get? c=some o->(s.heap.push (seqObj "list" #[] 0)).get? c=some o:=λc o e=>J7 _ e;have i:Shared.TypeIs ({ s with heap:=s.heap.push (seqObj "list" #[] 0) }:JO) (.ref z) "zip":=⟨_,l _ _ hz,rfl⟩;have new:(s.heap.push (seqObj "list" #[] 0)).get? s.heap.objs.size=some (seqObj "list" #[] 0):=Jt _ rfl;unfold collect;refine J0 (wpAny_runValue (Zn entry_proto_collect' (Z7 F.plain_proto_collect _ ▸ (J0 (wpAny_newList (J9 ⟨Code.quiet_builtin _ (by decide +kernel),Zn entry_list_iadd' (Z7 F.plain_list_iadd _ ▸ ?_)⟩))))));show wpAny _ A.in1 (Builtin.List.listExtendWith (.ref s.heap.objs.size) (.ref z) (.ref s.heap.objs.size)) _ _ ({ s with heap:=s.heap.push (seqObj "list" #[] 0) }:JO);unfold Builtin.List.listExtendWith;refine J0 (Zp i ?_)
 have no:(Builtin.List.listSameRef (.ref s.heap.objs.size) (.ref z) || Value.type "zip" == Value.type "list" || Value.type "zip" == Value.type "tuple")=false:=by
  have:Builtin.List.listSameRef (.ref s.heap.objs.size) (.ref z)=false:=by simp[Builtin.List.listSameRef,JT (Jd hz)]
  rw[this];decide
 rw[no,Jc Jp];refine J0 (wpAny_pyIter_zip (l _ _ hz) (J0 (JX ?_)));unfold Builtin.List.listLengthHint;refine J0 (Zm i qc ?_);show wpAny _ A.in1 (specialOf (Value.ref z) (Str.ofString "__length_hint__") >>= _) _ _ _;refine J0 (Zm i tu (J9 ?_));refine J0 (Z3 (J0 ?_));unfold Builtin.List.listTouch Builtin.List.listUpdate;refine J0 (Zc new rfl ?_);have n2:=Ye (Obj.mapSeq (·.push Value.none)) new rfl;refine Zc n2 rfl ?_;have H:=Ye (Obj.mapSeq (·.pop)) n2 rfl
 have d:∀ b o,s.heap.get? b=some o->(((s.heap.push (seqObj "list" #[] 0)).update s.heap.objs.size (Obj.mapSeq (·.push Value.none))).update s.heap.objs.size (Obj.mapSeq (·.pop))).get? b=some o :=
  λb o e=>by
   have g:=JT (Jd e);exact(JV _ _ g).trans ((JV _ _ g).trans (l b o e))
 refine J9 ⟨ZH Wt _,iP (J:=J) (L:=s.heap.objs.size) S r q hle G hn I t n 0 _ #[] _ (by lia) rfl ⟨d _ _ u,r.frame _ _ _ C λb _ o e=>d b o e,q.frame _ _ _ B λb _ o e=>d b o e,.inl ⟨rfl,d _ _ hz,_,_,d _ _ p⟩⟩ (λj v N=>by simp at N) H ?_ (t #[] s _ s.toks M λc o _ e=>d c o e) λh' tk k W T K R D P=>?_⟩
 ·rw[Heap.size_update,Heap.size_update,size_push']
  exact Zq (Jd p)
 ·refine J0 (wpAny_load D (J9 (h h' tk k T K R (λb o g e=>P b o (λm=>?_) (d b o e)) (Jd D))))
  simp only[Jf,Jg,Y5]at m g;rcases m with m|m|m|m|m
  ·exact g (.inl m)
  ·exact g (.inr (.inl m))
  ·exact g (.inr (.inr (.inl m)))
  ·exact g (.inr (.inr (.inr m)))
  ·exact JT (Jd e) m.symm
theorem cD {res:Jo}{R:Result->JO->Prop}{J:Array Jo->JO->Prop}{Q:Nat}(S:Sep z TI TO i1 i2 f1 f2) (F:Draws prog w A.in1.in1 i1 f1 n P1 S1) (E:Draws prog w A.in1.in1 i2 f2 n2 P2 S2) (hle:n<=n2) (hz:IsZip s.heap z TI TO .none) (N:IsPair s.heap TI (.ref i1) (.ref i2)) {a b:Jo}(C:IsPair s.heap TO a b) (P:S1 0 s.heap) (O:S2 0 s.heap)
  (D:s.heap.get? L=some (seqObj "list" #[] Q)) (m:L∉[z,TI,TO,i1,i2]++f1++f2) (hn:n<=sizeLine)
  (H:∀ (acc:Array Jo) (g:JO) (h':YP) tk x y,J acc g->L<g.heap.objs.size->P1 acc.size x->P2 acc.size y->IsPair h' g.heap.objs.size x y->(∀ c o,c∉[z,TO,i1,i2]->g.heap.get? c=some o->h'.get? c=some o)->J (acc.push (.ref g.heap.objs.size)) { g with heap:=h',toks:=tk })
  (B:∀ (acc:Array Jo) (g:JO) (h':YP) tk,J acc g->(∀ c o,c∉[z,TO,i1,i2,L]->g.heap.get? c=some o->h'.get? c=some o)->J acc { g with heap:=h',toks:=tk })
  (K:J #[] s)
  (h:∀ h' tk d l,d.size=n->J d { s with heap:=h',toks:=tk }->Kept [z,TI,TO,i1,i2,L] P1 P2 d h'->h'.get? L=some (seqObj "list" d l)->R (.ok (.ret res)) { s with heap:=h',toks:=tk }) :
  wpAny (model prog w) A.in1 (Builtin.List.listExtendWith (.ref L) (.ref z) res) (λfin g=>match fin with|.done f=>R (.ok f) g|.again l=>l.quiet=true/\codeAny (model prog w) A l R g) (λe g=>R (.error e) g) s:=by
 have W:L≠z:=λq=>m (by simp[q]);have k:s.TypeIs (.ref z) "zip":=⟨_,hz,rfl⟩;unfold Builtin.List.listExtendWith;refine J0 (Zp k ?_)
 have no:(Builtin.List.listSameRef (.ref L) (.ref z) || Value.type "zip" == Value.type "list" || Value.type "zip" == Value.type "tuple")=false:=by
  have:Builtin.List.listSameRef (.ref L) (.ref z)=false:=by simp[Builtin.List.listSameRef,W]
  rw[this];decide
 rw[no,Jc Jp];refine J0 (wpAny_pyIter_zip hz (J0 (JX ?_)));unfold Builtin.List.listLengthHint;refine J0 (Zm k qc ?_);show wpAny _ A.in1 (specialOf (Value.ref z) (Str.ofString "__length_hint__") >>= _) _ _ _;refine J0 (Zm k tu (J9 ?_));refine J0 (Z3 (J0 ?_));unfold Builtin.List.listTouch Builtin.List.listUpdate;refine J0 (Zc D rfl ?_);have u:=Ye (Obj.mapSeq (·.push Value.none)) D rfl;refine Zc u rfl ?_;have G:=Ye (Obj.mapSeq (·.pop)) u rfl
 have i:∀ b o,b≠L->s.heap.get? b=some o->((s.heap.update L (Obj.mapSeq (·.push Value.none))).update L (Obj.mapSeq (·.pop))).get? b=some o :=
  λ_ _ away t=>(JV _ _ (Ne.symm away)).trans ((JV _ _ (Ne.symm away)).trans t)
 have ne:=λc (p:c∈[z,TI,TO,i1,i2]++f1++f2)=>(λq=>m (q ▸ p):c≠L);refine J9 ⟨ZH Wt _,iP (J:=J) (L:=L) S F E hle m hn H B n 0 _ #[] _ (by lia) rfl ⟨i _ _ (ne TI (by simp)) N,F.frame _ _ _ P λb r o e=>i b o (ne b (by simp[r])) e,E.frame _ _ _ O λb r o e=>i b o (ne b (by simp[r])) e,.inl ⟨rfl,i _ _ (ne z (by simp)) hz,_,_,i _ _ (ne TO (by simp)) C⟩⟩ (λj v M=>by simp at M) G ?_ (B #[] s _ s.toks K λc o p e=>i c o (λq=>p (by simp[q])) e) λh' tk d l V I U T X=>h h' tk d l V I U T⟩;rw[Heap.size_update,Heap.size_update];exact Jd C
theorem ae {Q:Jo->JO->Prop}{J:Array Jo->JO->Prop}(S:Sep z TI TO i1 i2 f1 f2) (j:Draws prog w A.in1.in1.in1 i1 f1 n P1 S1) (i:Draws prog w A.in1.in1.in1 i2 f2 n2 P2 S2) (hle:n<=n2) (hz:IsZip s.heap z TI TO .none) (q:IsPair s.heap TI (.ref i1) (.ref i2)) {a b:Jo}(p:IsPair s.heap TO a b) (u:S1 0 s.heap) (r:S2 0 s.heap)
  (low:∀ c∈f1++f2,c<s.heap.objs.size) (hn:n<=sizeLine)
  (C:∀ (acc:Array Jo) (f:JO) (h':YP) tk x y,J acc f->s.heap.objs.size<f.heap.objs.size->P1 acc.size x->P2 acc.size y->IsPair h' f.heap.objs.size x y->(∀ c o,c∉[z,TO,i1,i2]->f.heap.get? c=some o->h'.get? c=some o)->J (acc.push (.ref f.heap.objs.size)) { f with heap:=h',toks:=tk })
  (l:∀ (acc:Array Jo) (f:JO) (h':YP) tk,J acc f->(∀ c o,c∉[z,TO,i1,i2,s.heap.objs.size]->f.heap.get? c=some o->h'.get? c=some o)->J acc { f with heap:=h',toks:=tk })
  (G:J #[] s)
  (h:∀ h' tk d g,d.size=n->J d { s with heap:=h',toks:=tk }->Kept [z,TI,TO,i1,i2,s.heap.objs.size] P1 P2 d h'->h'.get? s.heap.objs.size=some (seqObj "list" d g)->Q (.ref s.heap.objs.size) { s with heap:=h',toks:=tk }):wpAny (model prog w) A (call (.type "list") [.ref z]) Q E s:=by
 obtain⟨P,I⟩:=j.live _ _ u;obtain⟨O,e2⟩:=i.live _ _ r
 have v:s.heap.objs.size∉[z,TI,TO,i1,i2]++f1++f2:=λm=>by
  simp only[Js,Jf,Jg,Y5]at m;rcases m with ((m|m|m|m|m)|m)|m
  ·exact JT (Jd hz) m
  ·exact JT (Jd q) m
  ·exact JT (Jd p) m
  ·exact JT (Jd I) m
  ·exact JT (Jd e2) m
  ·exact Yv _ (low _ (YE _ m))
  ·exact Yv _ (low _ (JA _ m))
 refine callType_codes (Q₁:=λobj t=>obj=.ref s.heap.objs.size/\t={ s with heap:=s.heap.push (seqObj "list" #[] 0) }) F.called_list (F.typeCall_list_1 _) F.entry_list_init (code_list_new _ ⟨rfl,rfl⟩) λobj t H=>?_;obtain⟨rfl,rfl⟩:=H;have new:(s.heap.push (seqObj "list" #[] 0)).get? s.heap.objs.size=some (seqObj "list" #[] 0):=Jt _ rfl;have old:∀ c o,s.heap.get? c=some o->((s.heap.push (seqObj "list" #[] 0)).update s.heap.objs.size (Obj.mapSeq (λ_=>(#[]:Array Jo)))).get? c=some o:=λc o e=>(JV _ _ (JT (Jd e))).trans (J7 _ e);have B:=Ye (Obj.mapSeq (λ_=>(#[]:Array Jo))) new rfl;refine⟨⟨_,new,rfl⟩,F.args_list_init_2 _ _,?_⟩;show wpAny _ _ (do let k <- Builtin.List.listItems (.ref s.heap.objs.size);Builtin.List.listUpdate (.ref s.heap.objs.size) (λ_=>#[]);letGo k.toList.reverse;Builtin.List.listExtendWith (.ref s.heap.objs.size) (.ref z) .none) _ _ _;refine J0 (m:=Builtin.List.listItems _) ?_;unfold Builtin.List.listItems;refine J0 (Y4 new rfl (J9 ?_));refine J0 (m:=updateSeq _ _) (Zc new rfl (J0 (Zy ?_)));refine cD (A:=A.in1) (J:=J) (L:=s.heap.objs.size) S j i hle (old _ _ hz) (old _ _ q) (old _ _ p) (j.frame _ _ _ u λc _ o e=>old c o e) (i.frame _ _ _ r λc _ o e=>old c o e) B v hn C l (l #[] s _ s.toks G λc o _ e=>old c o e) λh' tk d g N D M K=>?_;exact⟨rfl,h h' tk d g N D M K⟩
end
end Own
namespace Own
open PySem PySem.Spec PyProof.Rows Ts
section
variable {prog:Yo}{w:YI}{A:YO}{E:Jo->JO->Prop}{s:JO}
theorem jz {x:Jo}{Q:Jo->JO->Prop}
  (h:wpAny (model prog w) A.in1 (collect x) (λvs s1=>∃ (κ:SortKind) (a:Jo->Int),vs.length<=10000 /\
   (∀ h':YP,(∀ c o,s1.heap.get? c=some o->h'.get? c=some o)->2<=vs.length->∀ (b:YO) {Q:SortKind->JO->Prop}{E:Jo->JO->Prop},Q κ { s1 with heap:=h' }->wpAny (model prog w) b (keyKind' vs.toArray) Q E { s1 with heap:=h' }) /\
   (∀ h':YP,(∀ c o,s1.heap.get? c=some o->h'.get? c=some o)->∀ (b:YO),b.units<=A.units+8->Cmp prog w b { s1 with heap:=h' } κ (λp=>p.1∈vs) (λp=>a p.1)) /\
   ∀ (h':YP) (l:JI) (e:Nat) (out:List Jo),s1.heap.objs.size<=l->h'.get? l=some (seqObj "list" out.toArray e)->out.Perm vs->out.Pairwise (λx y=>a x<=a y)->(∀ c o,s1.heap.get? c=some o->h'.get? c=some o)->Q (.ref l) { s1 with heap:=h' }) E s) :
  wpAny (model prog w) A (call (.builtin "sorted") [x]) Q E s:=by
 refine Calls.call_function_entry kind_sorted plain_sorted entry_sorted (args_sorted1 _) ?_;unfold Builtin.«sorted»;refine J0 (m:=checkCount "sorted" 1 1 _) (J9 (J0 (JQ h (λvs s1 z=>?_) λ_ _ e=>e)));obtain⟨κ,a,d,n,t,fin⟩:=z;have f:vs.length<=sizeLine:=JS d (by decide);refine J0 (wpAny_newList ?_ (hsz:=f));have new:(s1.heap.push (seqObj "list" vs.toArray 0)).get? s1.heap.objs.size=some (seqObj "list" vs.toArray 0):=Jt _ rfl;have up:∀ h':YP,(∀ c o,c≠s1.heap.objs.size->(s1.heap.push (seqObj "list" vs.toArray 0)).get? c=some o->h'.get? c=some o)->∀ c o,s1.heap.get? c=some o->h'.get? c=some o:=λh' k c o e=>k c o (JD (Jd e)) (J7 _ e);refine J0 (JX (Y1 slot_list_sort ⟨_,new,rfl⟩ entry_list_sort (gM new d κ a (λh' k j=>n h' (up h' k) j _) (λh' k=>t h' (up h' k) _ ?_) λout i g=>⟨_,rfl,?_⟩) (args_list_sort _)))
 ·show A.units+1+1<=A.units+8
  lia
 obtain⟨e,r⟩:=sortedHeap_at (out:=out.toArray) new;refine J9 ⟨_,rfl,fin _ _ e out (Je _) r i g λc o q=>?_⟩;have lt:=Jd q;rw[sortedHeap_old (JD lt) (by rw[size_push'];exact Zq lt)];exact J7 _ q
end
end Own
namespace L2
open PySem PySem.Spec PyProof.Rows Own Ts
inductive Lx (H:Hp):Nat->V->V->Ordering->Prop where
 | int (n:Nat) (i j:Int):Lx H n (.int i) (.int j) (compare i j)
 | row {n:Nat}{a b:JI}{xs ys:List V}{cs:List Ordering}(ha:H a=some (.tup xs)) (hb:H b=some (.tup ys)) (l1:xs.length=cs.length) (l2:ys.length=cs.length) (h:∀ (i:Nat) u v c,xs[i]?=some u->ys[i]?=some v->cs[i]?=some c->Lx H n u v c) :
   Lx H (n+1) (.ref a) (.ref b) (cs.foldr Ordering.then .eq)
theorem Lx.pair {H:Hp}{n:Nat}{a b:JI}{l k j h:V}{f d:Ordering}(ha:H a=some (.tup [l,k]))(hb:H b=some (.tup [j,h]))(q:Lx H n l j f)(p:Lx H n k h d):Lx H (n+1) (.ref a) (.ref b) (f.then d):=by
 have e:f.then d=[f,d].foldr Ordering.then .eq:=by cases f<;>cases d<;>rfl
 rw[e];refine .row ha hb rfl rfl λi u v c g m o=>?_;rcases i with _|_|i
 ·cases g;cases m;cases o;exact q
 ·cases g;cases m;cases o;exact p
 ·simp at g
theorem vg:∀ {cs:List Ordering},cs.foldr Ordering.then .eq=.eq↔∀ c∈cs,c=.eq
 | []=>by simp
 | c::cs=>by
  rw[List.foldr_cons];constructor
  ·intro h
   cases c<;>simp[Ordering.then]at h;intro d hd;rcases Jf.mp hd with rfl|a
   ·rfl
   ·exact vg.mp h d a
  ·intro h
   rw[h c Jz];exact vg.mpr λd hd=>h d (Jw _ hd)
theorem oE:∀ {cs:List Ordering},cs.foldr Ordering.then .eq≠.eq->∃ (k:Nat) (c:Ordering),cs[k]?=some c/\c≠.eq/\cs.foldr Ordering.then .eq=c/\∀ j:Nat,j<k->cs[j]?=some Ordering.eq
 | [],h=>absurd rfl h
 | c::cs,h=>by
  by_cases z:c=.eq
  ·subst z
   have e:(Ordering.eq::cs).foldr Ordering.then .eq=cs.foldr Ordering.then .eq:=rfl;rw[e]at h ⊢;obtain⟨k,d,i,g,f,b⟩:=oE h;refine⟨k+1,d,by simpa using i,g,f,λj a=>?_⟩
   cases j with
   | zero=>rfl
   | succ j=>simpa using b j (by simp_all)
  ·refine⟨0,c,rfl,z,?_,λj a=>by simp_all⟩
   rw[List.foldr_cons];cases c<;>first|rfl|exact absurd rfl z
section
variable {X:Cx}
theorem wM (i j:Int):(compare i j == .eq)=decide (i=j)/\(compare i j == .lt)=decide (i<j):=by
 rw[show compare i j=compareOfLessAndEq i j from rfl];unfold compareOfLessAndEq;by_cases b:i<j
 ·rw[Jh b,Jy b,Jr (by lia)];exact⟨rfl,rfl⟩
 ·rw[Jc b,Jr b]
  by_cases a:i=j
  ·rw[Jh a,Jy a];exact⟨rfl,rfl⟩
  ·rw[Jc a,Jr a];exact⟨rfl,rfl⟩
theorem Lx.refl {H:Hp}{n:Nat}{x y:V}{c:Ordering}(h:Lx H n x y c):x=y->c=.eq:=by
 induction h with
 | int n i j =>
  intro e;cases e;have:=(wM i i).1;rw[Jy rfl]at this
  simpa using this
 | @row n a b l k cs g d o m h ih =>
  intro e;cases e;rw[g]at d;cases d;refine vg.mpr λc f=>?_;obtain⟨i,hi⟩:=Z2.mp f;have p:=(Ja.mp hi).1;exact ih i _ _ c (J6 (by simp_all)) (J6 (by simp_all)) hi rfl
theorem mU {pins:List (JI × Obj)}{σ:St}{H:Hp}{s:JO}(I:Inv X pins σ H s){n:Nat}{x y:V}{c:Ordering}(h:Lx H n x y c):∀ (A:YO) (u v:Jo),A.units+n<cLine->RelV x u->RelV y v->SeqAt.EqAt A s u v (c == .eq):=by
 induction h with
 | int n i j =>
  intro A u v _ p o;have:=nK (A:=A) (s:=s) (x:=.int j) (y:=.int i) p o rfl rfl;rw[(wM i j).1]
  have e:eqV (.int i) (.int j)=decide (i=j):=by
   show (i == j)=decide (i=j);by_cases z:i=j<;>simp[z]
  rwa [e]at this
 | @row n a b Q P cs F E B w h ih =>
  intro A u v hu p o;cases p;cases o;by_cases M:a=b
  ·subst M
   have:cs.foldr Ordering.then .eq=.eq:=Lx.refl (.row F E B w h) rfl;rw[this];exact SeqAt.EqAt.same _
  ·obtain⟨g,K,Y,_⟩:=I.tuple (SqT.of F)
   obtain⟨f,J,W,_⟩:=I.tuple (SqT.of E);have r:=K.length;have q:=J.length;refine SeqAt.EqAt.of_refs M ?_
   have e:((List.range (min g.toArray.size f.toArray.size)).all (λj=>(cs.getD j .eq) == .eq) && g.toArray.size == f.toArray.size)=(cs.foldr Ordering.then .eq == .eq):=by
    rw[Jj,Jj,<- r,<- q,B,w,Wf,Bool.and_true,Nat.min_self];by_cases z:cs.foldr Ordering.then .eq=.eq
    ·rw[z]
     refine(Yc.mpr λj hj=>?_).trans rfl;have D:=Y2.mp hj;rw[J8,J6 D,ZN,vg.mp z _ (Yf D)];rfl
    ·obtain⟨k,d,G,h2,h3,_⟩:=oE z
     have Z:=(Ja.mp G).1;rw[h3];have L:(d == Ordering.eq)=false:=by simpa using h2
     rw[L];refine Bool.eq_false_iff.mpr λt=>?_;have:=Yc.mp t k (Y2.mpr Z);rw[J8,G,ZN,L]at this;cases this
   have:=SeqAt.RcAt.tuples (e:=λj=>(cs.getD j .eq) == .eq) Y W (A:=A) (s:=s) (by lia) (λj k1 k2=>?_)
   ·rwa [e]at this
   ·have m:j<Q.length:=by simpa [r] using k1
    have l:j<P.length:=by simpa [q] using k2
    obtain⟨S,e1,U⟩:=K.get (J6 m);obtain⟨R,e2,T⟩:=J.get (J6 l);have O:g.toArray[j]=S:=by simpa using (Ja.mp e1).2
    have N:f.toArray[j]=R:=by simpa using (Ja.mp e2).2
    have C:j<cs.length:=by lia
    rw[O,N,J8,J6 C,ZN];exact ih j _ _ _ (J6 m) (J6 l) (J6 C) A.in1 _ _ (by show A.units+1+n<cLine;lia) U T
theorem aa {pins:List (JI × Obj)}{σ:St}{H:Hp}{s:JO}(I:Inv X pins σ H s){n:Nat}{x y:V}{c:Ordering}(h:Lx H n x y c):c≠.eq->∀ (A:YO) (u v:Jo),A.units+n<cLine->RelV x u->RelV y v->LtAt A s u v (c == .lt):=by
 induction h with
 | int n i j =>
  intro _ A u v _ ⟨P,C⟩ ⟨O,e2⟩;subst C e2;rw[(wM i j).2]
  exact LtAt.ints i j P O
 | @row n a b z w cs ha Z l1 l2 h ih =>
  intro ne A u v hu l g;cases l;cases g;obtain⟨f,F,T,_⟩:=I.tuple (SqT.of ha);obtain⟨e,E,S,_⟩:=I.tuple (SqT.of Z);have W:=F.length;have U:=E.length;obtain⟨k,d,B,D,h3,h4⟩:=oE ne;have kl:=(Ja.mp B).1
  have at_:∀ j (t:j<f.toArray.size) (r:j<e.toArray.size),∃ (o:j<z.length) (m:j<w.length),RelV z[j] f.toArray[j]/\RelV w[j] e.toArray[j]:=λj t r=>by
   have q:j<z.length:=by simpa [W] using t
   have p:j<w.length:=by simpa [U] using r
   obtain⟨N,C,R⟩:=F.get (J6 q);obtain⟨M,e2,Q⟩:=E.get (J6 p);have L:f.toArray[j]=N:=by simpa using (Ja.mp C).2
   have K:e.toArray[j]=M:=by simpa using (Ja.mp e2).2
   rw[L,K];exact⟨q,p,R,Q⟩
  rw[h3];have J:k<f.toArray.size:=by rw[Jj];simp_all
  have G:k<e.toArray.size:=by rw[Jj];simp_all
  obtain⟨o,m,l,g⟩:=at_ k J G;refine LtAt.tuples (k:=k) T S (by lia) J G (λj t r Y=>?_) ?_ ?_
  ·obtain⟨o,m,l,g⟩:=at_ j t r
   exact mU I (h j _ _ _ (J6 o) (J6 m) (h4 j Y)) A.in1 _ _ (by show A.units+1+n<cLine;lia) l g
  ·have:=mU I (h k _ _ _ (J6 o) (J6 m) B) A.in1 _ _ (by show A.units+1+n<cLine;lia) l g
   rwa [show (d == Ordering.eq)=false from by simpa using D]at this
  ·exact ih k _ _ _ (J6 o) (J6 m) B D A.in1 _ _ (by show A.units+1+n<cLine;lia) l g
end
def Rk (H:Hp)(xs:List V)(rk:V->Int):Prop:=(∀ x∈xs,∃ i,x=.int i/\rk x=i)\/∃ n,n<=20/\∀ x∈xs,(∃ a f r,x=.ref a/\H a=some (.tup (.int f::r)))/\∀ y∈xs,Lx H n x y (compare (rk x) (rk y))
def vOf:Jo->V
 | .int i _=>.int i
 | .ref a=>.ref a
 | _=>.non
theorem vd:∀ {xs:List V}{us:List Jo},Vals xs us->(∀ x∈xs,(∃ i,x=.int i)\/∃ a,x=.ref a)->xs=us.map vOf/\∀ u∈us,RelV (vOf u) u
 | _,_,.nil,_=>⟨rfl,λu g=>by simp at g⟩
 | x::xs,u::us,.cons r rs,h=>by
  obtain⟨e,f⟩:=vd rs λy c=>h y (Jw _ c)
  have one:vOf u=x/\RelV (vOf u) u:=by
   rcases h x Jz with ⟨i,rfl⟩|⟨a,rfl⟩
   ·obtain⟨t,rfl⟩:=r;exact⟨rfl,t,rfl⟩
   ·cases r;exact⟨rfl,rfl⟩
  refine⟨by rw[JR,one.1,<- e],λv d=>?_⟩;rcases Jf.mp d with rfl|b
  ·exact one.2
  ·exact f v b
theorem uP:∀ {us:List Jo},(∀ u∈us,RelV (vOf u) u)->Vals (us.map vOf) us
 | [],_=>.nil
 | u::us,h=>.cons (h u Jz) (uP λv a=>h v (Jw _ a))
theorem Rk.kinds {H:Hp}{xs:List V}{rk:V->Int}(h:Rk H xs rk):∀ x∈xs,(∃ i,x=.int i)\/∃ a,x=.ref a:=λx b=>by
 rcases h with h|⟨n,_,h⟩
 ·obtain⟨i,e,_⟩:=h x b;exact .inl ⟨i,e⟩
 ·obtain⟨⟨a,_,_,e,_⟩,_⟩:=h x b;exact .inr ⟨a,e⟩
section
variable {prog:Yo}{w:YI}{A:YO}{E:Jo->JO->Prop}{s:JO}
theorem mG {u v:Jo}{b:Bool}{Q:Bool->JO->Prop}(l:LtAt A s u v b)(h:Q b s):wpAny (model prog w) A (oneLt' false u v) Q E s:=by
 rw[oneLt'_eq,Jc Jp];exact J0 (l prog w _ _ (YM h))
theorem zbz {Q:Bool->JO->Prop}(cs:List Ordering):∀ (us vs:List Jo) (i:Nat),us.length=cs.length->vs.length=cs.length->(∀ (j:Nat) u v c,us[j]?=some u->vs[j]?=some v->cs[j]?=some c->SeqAt.EqAt A s u v (c == .eq)/\(c≠.eq->LtAt A s u v (c == .lt))) ->
  (i=0->∀ u v c,us[0]?=some u->vs[0]?=some v->cs[0]?=some c->∃ a b t t',u=.int a t/\v=.int b t'/\c=compare a b)->Q (cs.foldr Ordering.then .eq == .lt) s->PySem.W.KatLex prog w A true false Q (us.zip vs) i s:=by
 induction cs with
 | nil =>
  intro us vs i d f _ _ q;rw[List.length_eq_zero_iff.mp d]
  exact PySem.W.kat_nil q
 | cons c cs ih =>
  intro us vs i d f h n q
  obtain⟨u,us,rfl⟩:∃ u l,us=u::l:=by
   cases us with
   | nil=>simp at d
   | cons u us=>exact⟨u,us,rfl⟩
  obtain⟨v,vs,rfl⟩:∃ v k,vs=v::k:=by
   cases vs with
   | nil=>simp at f
   | cons v vs=>exact⟨v,vs,rfl⟩
  have m:=h 0 u v c rfl rfl rfl;refine PySem.W.kat_cons (m.1 prog w _ _ ?_);by_cases z:c=.eq
  ·subst z
   refine PySem.W.kat_yes (ih us vs (i+1) (by simpa using d) (by simpa using f) (λj u v c y x r=>h (j+1) u v c (by simpa using y) (by simpa using x) (by simpa using r)) (λe=>by simp_all) q)
  ·have p:(c == Ordering.eq)=false:=by simpa using z
   have e2:(c::cs).foldr Ordering.then .eq=c:=by
    rw[List.foldr_cons];cases c<;>first|rfl|exact absurd rfl z
   rw[e2]at q;rw[p];refine PySem.W.kat_no ?_;by_cases g:i=0
   ·obtain⟨a,b,t,t',rfl,rfl,o⟩:=n g u v c rfl rfl rfl
    subst g;rw[o,(wM a b).2]at q;exact oneLt_int q
   ·have:(true && i == 0)=false:=by simpa using g
    rw[this];exact mG (m.2 z) q
end
section
variable {X:Cx}
theorem zeI {pins:List (JI × Obj)}{σ:St}{H:Hp}{s1:JO}(I:Inv X pins σ H s1)(s:X.A.units+64<cLine){xs:List V}{vs:List Jo}{rk:V->Int}(r:Vals xs vs)(R:Rk H xs rk) :
  ∃ κ:SortKind,(∀ h':YP,(∀ c o,s1.heap.get? c=some o->h'.get? c=some o)->2<=vs.length->∀ (l:YO) {Q:SortKind->JO->Prop}{E:Jo->JO->Prop},Q κ { s1 with heap:=h' }->wpAny (model X.prog X.w) l (keyKind' vs.toArray) Q E { s1 with heap:=h' }) /\
   (∀ h':YP,(∀ c o,s1.heap.get? c=some o->h'.get? c=some o)->∀ (l:YO),l.units<=X.A.units+8->Cmp X.prog X.w l { s1 with heap:=h' } κ (λp=>p.1∈vs) (λp=>rk (vOf p.1))):=by
 obtain⟨ex,rel⟩:=vd r R.kinds;have mem:∀ u∈vs,vOf u∈xs:=λu s=>by rw[ex];exact Jx.mpr ⟨u,s,rfl⟩
 rcases R with R|⟨n,hn,R⟩
 ·have z:∀ u∈vs,∃ i t,u=.int i t/\rk (vOf u)=i:=λu s=>by
   obtain⟨i,e,ei⟩:=R _ (mem u s);have ru:=rel u s;rw[e]at ru;obtain⟨t,rfl⟩:=ru;exact⟨i,t,rfl,ei⟩
  refine⟨oneType',λh' k Z l Q E q=>PySem.W.kas_kind Z (T:=.type "int") (λv d=>?_) (by decide) (by decide) q,λh' k l _=>⟨λx y S J Q E q=>?_⟩⟩
  ·obtain⟨i,t,rfl,_⟩:=z v d
   exact PySem.W.Looks.of_pure rfl
  ·obtain⟨P,x2⟩:=x
   obtain⟨G,y2⟩:=y;obtain⟨i,t,w,D⟩:=z P S;obtain⟨j,t',e2,Y⟩:=z G J;simp only at q;rw[D,Y]at q;subst w e2;show wpAny _ _ (keyLt' oneType' (.int i t) (.int j t')) _ _ _;rw[keyLt'_oneType];exact oneLt_int q
 ·refine⟨tuples' (Value.type "int" != Value.type "tuple"),λh' k Z l Q E q=>?_,λh' k l hA=>⟨λx y S J Q E q=>?_⟩⟩
  ·have F:Inv X pins σ H { s1 with heap:=h',toks:=s1.toks }:=I.kept k
   have kt:∀ C:List Jo,(∀ u∈C,vOf u∈xs/\RelV (vOf u) u)->∃ fs,PySem.W.KatTups h' C fs/\fs.length=C.length/\∀ f∈fs,∃ i t,f=Value.int i t:=by
    intro C
    induction C with
    | nil=>intro _;exact⟨[],PySem.W.KatTups.nil,rfl,λf K=>by simp at K⟩
    | cons u C ih =>
     intro h;obtain⟨fs,k1,k2,k3⟩:=ih λv d=>h v (Jw _ d);obtain⟨m1,D⟩:=h u Jz;obtain⟨⟨a,f,rr,e,U⟩,_⟩:=R _ m1;rw[e]at D;cases D;obtain⟨A,g,⟨o,eo,co,no,dt⟩,_⟩:=F.tuple (SqT.of U);obtain⟨f0,ef,⟨t0,rfl⟩⟩:=g.get (i:=0) (x:=.int f) rfl
     exact⟨_,PySem.W.KatTups.cons eo co dt (by simpa using ef) k1,by rw[JL,JL,k2],λf' K=>by
      rcases Jf.mp K with rfl|K
      ·exact⟨_,_,rfl⟩
      ·exact k3 f' K⟩
   obtain⟨fs,k1,k2,k3⟩:=kt vs λu s=>⟨mem u s,rel u s⟩;refine PySem.W.kat_kind (T:=.type "int") k1 (by lia) (λv d=>?_) (by decide) q;obtain⟨i,t,rfl⟩:=k3 v d;exact PySem.W.Looks.of_pure rfl
  ·have F:Inv X pins σ H { s1 with heap:=h',toks:=s1.toks }:=I.kept k
   obtain⟨P,x2⟩:=x;obtain⟨G,y2⟩:=y;have rx:=rel P S;have ry:=rel G J;obtain⟨⟨a,f,xr,ea,U⟩,lx⟩:=R _ (mem P S);obtain⟨⟨b,g,yr,eb,hb⟩,_⟩:=R _ (mem G J);have L:=lx _ (mem G J);simp only at q;rw[ea]at rx L q;rw[eb]at ry L q;cases rx;cases ry;generalize hc:compare (rk (V.ref a)) (rk (V.ref b))=c at L;rw[<- (wM (rk (V.ref a)) (rk (V.ref b))).2,hc]at q
   cases L with
   | @row n _ _ a0 aT cs O N l1 Z hL =>
    rw[U]at O;cases O;rw[hb]at N;cases N;obtain⟨A,g1,⟨o1,ak,a6,a4,ax⟩,_⟩:=F.tuple (SqT.of U);obtain⟨M,g2,⟨o2,ab,a5,a3,ao⟩,_⟩:=F.tuple (SqT.of hb);have m1:=g1.length;have m2:=g2.length;show wpAny _ _ (keyLt' (tuples' true) (.ref a) (.ref b)) _ _ _;refine PySem.W.kat_lt ak ax ab ao ?_;have ds:decide (A.toArray.size<M.toArray.size)=false:=Jr (by rw[Jj,Jj];simp_all);rw[ds];refine zbz cs A M 0 (by simp_all) (by simp_all) (λj u v c m d B=>?_) (λ_ u v c m d B=>?_) q
    ·have j1:j<(V.int f::xr).length:=by have:=(Ja.mp m).1;simp_all
     have j2:j<(V.int g::yr).length:=by have:=(Ja.mp d).1;simp_all
     obtain⟨u',w,q1⟩:=g1.get (J6 j1);obtain⟨v',e2,q2⟩:=g2.get (J6 j2);rw[m]at w;obtain rfl:=Jq w;rw[d]at e2;obtain rfl:=Jq e2;have W:=hL j _ _ c (J6 j1) (J6 j2) B;exact⟨mU F W l _ _ (by lia) q1 q2,λne=>aa F W ne l _ _ (by lia) q1 q2⟩
    ·obtain⟨u',w,t1,D⟩:=g1.get (i:=0) (x:=.int f) rfl
     obtain⟨v',e2,t2,Y⟩:=g2.get (i:=0) (x:=.int g) rfl;rw[m]at w;obtain rfl:=Jq w;rw[d]at e2;obtain rfl:=Jq e2;have W:=hL 0 (.int f) (.int g) c rfl rfl B;cases W;exact⟨f,g,t1,t2,D,Y,rfl⟩
end
def Zip2 (H:Hp)(ts xs ys:List V):Prop:=ts.length=xs.length/\∀ (i:Nat) t,ts[i]?=some t->∃ a x y,t=.ref a/\xs[i]?=some x/\ys[i]?=some y/\H a=some (.tup [x,y])
def cR (K:Jl)(n m:Bool)(k:TA):TE:=λσ H Q=>k σ H λj g=>∃ i h b d,j=[.ref i,.ref h]/\SqB n K g i b/\SqB m K g h d/\d.length=b.length/\b.length<=10000 /\
 ∀ e a,Same g a->Zip2 a e b d->∃ f,Rk a e f/\∀ l c,a l=none->c.Perm e->c.Pairwise (λx y=>f x<=f y)->Q (.ref l) (upd a l (.lst c))
theorem kv {X:Cx}{a b:Expr}{ta:TA}{p p2 pos g:Pos}(b1 b2:Bool) (hg:Gl X "sorted") (hm:X.mg "sorted" = none) (bo:Gl X "zip") (bl:X.mg "zip" = none) (d:X.calm=true) (hu:X.A.units+64<cLine) (ha:PA X [a,b] ta)
  (he:starEach [Expr.Call (.Name "zip" p2) [a,b] [] g] X.env=[(false,eval (Expr.Call (.Name "zip" p2) [a,b] [] g) X.env)]:=by rfl)
  (hs:starEach [a,b] X.env=[(false,eval a X.env),(false,eval b X.env)]:=by rfl) (a4:starEach [b] X.env=[(false,eval b X.env)]:=by rfl) :
  PE X (.Call (.Name "sorted" p) [.Call (.Name "zip" p2) [a,b] [] g] [] pos) (cR X.K b1 b2 ta):=by
 intro pins s σ H Q I h;refine Zf (xW I hg hm (u:=.builtin "sorted") (by rfl) (PyProof.Rows.callWith_builtin1 ?_ he rfl));rw[he];show wpAny _ _ (spliced ((false,eval (Expr.Call (.Name "zip" p2) [a,b] [] g) X.env)::[])) _ _ s;refine Zz ?_;refine Call_ (xW I bo bl (u:=.type "zip") (by rfl) (Yt (thn (ha g pins s σ H _ I h) λus s1 ⟨vs,H1,K,r1,q1⟩=>?_) (by rw[hs,a4]) (by rw[a4];rfl)));obtain⟨a1,Z,xs,ys,rfl,a6,a5,hl,hz,q⟩:=q1;obtain⟨u,v,rfl,ru,rv⟩:=r1.two;cases ru;cases rv;obtain⟨f,rx,ax⟩:=K.sq a6;obtain⟨B,ry,ao⟩:=K.sq a5;have lx:=rx.length;have ly:=ry.length;refine callType_new F.called_zip (by decide) (F.typeCall_zip_2 _ _) (F.newCall_zip_2 _ _) (λobj=>F.args_object_init_3 obj _ _) F.entry_zip_new (oC b1 b2 a1 Z f.toArray B.toArray) ⟨ax,ao,λC z ⟨TI,TO,n,k,nd,a8,D,hI,hO,h1,h2⟩ hk=>⟨⟨_,D,rfl⟩,?_⟩⟩;refine W5 ?_;have I2:Inv X pins σ H1 { s1 with heap:=C,toks:=s1.toks }:=K.kept hk;have fp:∀ c∈[z,TI,TO,n,k],FpOk X pins H1 c:=λc d=>K.fpOk (a8 c d) (K.hok.fresh (a8 c d));have R:∀ c∈[z,TI,TO,n,k],c≠a1:=λc hm=>K.sq_ne a6 (fp c hm);have P:∀ c∈[z,TI,TO,n,k],c≠Z:=λc hm=>K.sq_ne a5 (fp c hm);have aT:=nd;simp only[JJ,Jf,Jg,Y5,Zs]at aT;obtain⟨⟨zI,zO,z1,z2⟩,⟨IO,bx,bw⟩,⟨O1,O2⟩,a0,_⟩:=aT;have S:Sep z TI TO n k [n,a1] [k,Z]:=⟨nd,by simp[z1,R z (by simp)],by simp[O1,R TO (by simp)],by simp[Ne.symm a0,R k (by simp)],by simp[z2,P z (by simp)],by simp[O2,P TO (by simp)],by simp[a0,P n (by simp)]⟩;have hd:=K.ok.hd d;have O:SqO b1 C a1 f.toArray:=ax.mv λo e=>hk _ _ e;have N:SqO b2 C Z B.toArray:=ao.mv λo e=>hk _ _ e;have ab:f.toArray.size=B.toArray.size:=by rw[Jj,Jj];simp_all
 have D1:=draws (prog:=X.prog) (w:=X.w) (A:=X.A.in1.in1.in1) hd b1 n a1 f.toArray (O.ne h1);have D2:=draws (prog:=X.prog) (w:=X.w) (A:=X.A.in1.in1.in1) hd b2 k Z B.toArray (N.ne h2);rw[<- ab]at D2
 have low:∀ c∈[n,a1]++[k,Z],c<C.objs.size:=λc d=>by
  obtain⟨o1,n1,e1,_⟩:=O.ob;obtain⟨o2,n2,e2,_⟩:=N.ob;simp only[List.cons_append,Zk,Jf,Jg,Y5]at d;rcases d with rfl|rfl|rfl|rfl
  ·exact Jd h1
  ·exact Jd e1
  ·exact Jd h2
  ·exact Jd e2
 have bt:FpOk X pins H1 C.objs.size:=I2.fpOk (Je _) (I2.hok.fresh (Je _))
 have lows:∀ c∈[z,TO,n,k],c<C.objs.size:=λc d=>by
  simp only[Jf,Jg,Y5]at d;rcases d with rfl|rfl|rfl|rfl
  ·exact Jd D
  ·exact Jd hO
  ·exact Jd h1
  ·exact Jd h2
 refine jz (ja (J:=λacc L=>∃ (j:List JI) (r:Hp),Inv X pins σ r L/\Same H1 r/\acc.toList=j.map Value.ref/\(∀ (i:Nat) t,j[i]?=some t->∃ x y,xs[i]?=some x/\ys[i]?=some y/\r t=some (.tup [x,y]))/\(∀ c∈[z,TO,n,k,C.objs.size],FpOk X pins r c)) S D1 D2 (Je _) D hI hO ⟨h1,O⟩ ⟨h2,N⟩ low ?_ ?_ ?_ ?_ ?_)
 ·rw[Jj];exact JS (show _<=10000 by simp_all) (by decide)
 ·rintro acc L a7 tk x y ⟨j,r,G,sm,E,Y,M⟩ lt px py new kk
  have il:acc.size<xs.length:=by
   have b:acc.size<f.toArray.size:=(Y6.mp px).1;have b2:f.toArray.size=f.length:=Jj ..
   simp_all
  obtain⟨u,e1,r1⟩:=rx.get (J6 il);obtain⟨v,e2,r2⟩:=ry.get (J6 (show acc.size<ys.length by lia));have ba:f[acc.size]?=some x:=by simpa using px
  have a9:B[acc.size]?=some y:=by simpa using py
  rw[ba]at e1;obtain rfl:=Jq e1;rw[a9]at e2;obtain rfl:=Jq e2
  have nT:∀ c∈[z,TO,n,k,C.objs.size],c≠L.heap.objs.size:=λc d=>by
   simp only[Jf,Jg,Y5]at d;rcases d with rfl|rfl|rfl|rfl|rfl
   ·exact JD (ZA (Jd D) lt)
   ·exact JD (ZA (Jd hO) lt)
   ·exact JD (ZA (Jd h1) lt)
   ·exact JD (ZA (Jd h2) lt)
   ·exact JD lt
  have bu:∀ c∈[z,TO,n,k],FpOk X pins r c:=λc d=>M c (by simp only[Jf,Jg,Y5]at d ⊢;rcases d with m|m|m|m<;>simp[m]);have fr:r L.heap.objs.size=none:=G.fresh;have al:acc.size=j.length:=by rw[<- Ju,E,Jb]
  refine⟨j++[L.heap.objs.size],_,G.spunN (fp:=[z,TO,n,k]) kk bu (Je _) (uB new r1 r2),sm.trans (zE fr _),by rw[Z9,E,JE];rfl,λi t hi=>?_,λc d=>⟨by rw[zG (nT c d)];exact(M c d).1,(M c d).2⟩⟩;by_cases q:i<j.length
  ·rw[Yd q]at hi
   obtain⟨x',y',W,U,T⟩:=Y i t hi;exact⟨x',y',W,U,zE fr _ _ _ T⟩
  ·have a3:=(Ja.mp hi).1
   rw[Jn]at a3;have bc:i=j.length:=by simp at a3;lia
   subst bc;rw[Y3 (Je _),Nat.sub_self]at hi;obtain rfl:L.heap.objs.size=t:=by simpa using hi
   rw[<- al];exact⟨_,_,J6 il,J6 (show acc.size<ys.length by lia),zD⟩
 ·rintro acc L a7 tk ⟨j,r,G,sm,E,Y,M⟩ kk
  exact⟨j,r,G.spun (fp:=[z,TO,n,k,C.objs.size]) kk M,sm,E,Y,M⟩
 ·refine⟨[],H1,I2,Same.refl _,rfl,λi t hi=>by simp at hi,λc d=>?_⟩
  simp only[Jf,Jg,Y5]at d;rcases d with rfl|rfl|rfl|rfl|rfl
  ·exact fp _ (by simp)
  ·exact fp _ (by simp)
  ·exact fp _ (by simp)
  ·exact fp _ (by simp)
  ·exact bt
 ·rintro a7 tk acc hn ⟨j,r,G,sm,E,Y,M⟩ _ kk lt
  have tl:j.length=xs.length:=by
   have:acc.toList.length=j.length:=by rw[E,Jb]
   rw[Ju,hn,Jj]at this;simp_all
  obtain⟨rk,Rr,fin⟩:=q (j.map V.ref) r sm ⟨by rw[Jb];exact tl,λi t hi=>by
   rw[JC]at hi;obtain⟨t',e',rfl⟩:=Y7.mp hi;obtain⟨x,y,W,U,T⟩:=Y i t' e'
   exact⟨t',x,y,rfl,W,U,T⟩⟩
  have vr:Vals (j.map V.ref) acc.toList:=by
   rw[E];clear Y E tl Rr fin
   induction j with
   | nil=>exact .nil
   | cons t j ih=>exact .cons rfl ih
  obtain⟨κ,ak,ac⟩:=zeI G hu vr Rr;refine⟨κ,λu=>rk (vOf u),by rw[Ju,hn,Jj];simp_all,ak,ac,λh3 l e out lo eo pm so k3=>?_⟩;obtain⟨ex,rel⟩:=vd vr Rr.kinds;have vo:Vals (out.map vOf) out:=uP λu hu=>rel u (pm.mem_iff.mp hu);refine⟨.ref l,_,G.laid (t':=tk) (o:=.lst (out.map vOf)) k3 lo ⟨?_,out,e,vo,eo⟩,rfl,fin l _ (G.hok.fresh lo) ?_ ?_⟩
  ·rw[Jb,pm.length_eq,Ju,hn,Jj];exact JS (show _<=10000 by simp_all) (by decide)
  ·rw[ex];exact pm.map vOf
  ·exact List.pairwise_map.mpr so
section
variable {X:Cx}{pins:List (JI × Obj)}{σ:St}{H:Hp}{s:JO}
theorem Inv.adopt {T:JI}{o:HO}(I:Inv X pins σ H s)(d:FpOk X pins H T)(new:ObjOk X.prog X.w (upd H T o) s.heap T o):Inv X pins σ (upd H T o) s:=by
 have a:=d.1
 have J:Inv X pins σ (upd H T o) { s with heap:=s.heap,gens:=s.gens,drawn:=s.drawn,toks:=s.toks }:=by
  refine I.step (ch:=[T]) (λb f=>?_) (λb u _ _ _ e _=>e) (λb u _ _ _ e _=>⟨u.slots,e⟩) (λb u i _ n=>by rw[zG λq=>i (Jm.mpr q)];exact n)
   (λb u _ e=>⟨u,e⟩) (λb g e=>by rw[zG (zH e a)];exact e) (λb u x e=>by rw[zG (zH e a)];exact e) (λb j e=>⟨#[],by rw[zG (zH e a),e];simp⟩) (λm h=>h) (λb u e=>?_) I.bare
  ·have only:=Jm.mp f
   subst only;exact⟨d.2.2.2.1,d.2.1,d.2.2.2.2.1,d.2.2.2.2.2⟩
  ·by_cases f:b=T
   ·subst f;rw[zD]at e;cases e;exact new
   ·rw[zG f]at e
    exact(I.hok b u e).stay (λc v _ q=>q) (λc q=>by rw[zG (zH q a)];exact q) λc g q=>by rw[zG (zH q a)];exact q
 exact J
end
def zaL (K:Jl)(k j:Bool)(i:TA):TE:=λσ H Q=>i σ H λh c=>∃ g f a d,h=[.ref g,.ref f]/\SqB k K c g a/\SqB j K c f d/\a.length<=d.length/\a.length<=10000 /\
 ∀ l e b,Same c b->c l=none->b l=none->Zip2 b e a d->Q (.ref l) (upd b l (.lst e))
theorem qu {X:Cx}{a b:Expr}{ta:TA}{p p2 pos j:Pos}(b1 W:Bool) (hg:Gl X "list") (hm:X.mg "list" = none) (bl:Gl X "zip") (bc:X.mg "zip" = none) (d:X.calm=true) (ha:PA X [a,b] ta)
  (he:starEach [Expr.Call (.Name "zip" p2) [a,b] [] j] X.env=[(false,eval (Expr.Call (.Name "zip" p2) [a,b] [] j) X.env)]:=by rfl)
  (hs:starEach [a,b] X.env=[(false,eval a X.env),(false,eval b X.env)]:=by rfl) (a0:starEach [b] X.env=[(false,eval b X.env)]:=by rfl) :
  PE X (.Call (.Name "list" p) [.Call (.Name "zip" p2) [a,b] [] j] [] pos) (zaL X.K b1 W ta):=by
 intro pins s σ H Q I h;refine Zf (xW I hg hm (u:=.type "list") (by rfl) (Yt ?_ he rfl));rw[he];refine Zz ?_;refine Call_ (xW I bl bc (u:=.type "zip") (by rfl) (Yt (thn (ha j pins s σ H _ I h) λus s1 ⟨vs,H1,E,r1,q1⟩=>?_) (by rw[hs,a0]) (by rw[a0];rfl)));obtain⟨Z,Y,xs,ys,rfl,a5,a4,hl,hz,q⟩:=q1;obtain⟨u,v,rfl,ru,rv⟩:=r1.two;cases ru;cases rv;obtain⟨f,rx,ak⟩:=E.sq a5;obtain⟨C,ry,ab⟩:=E.sq a4;have lx:=rx.length;have ly:=ry.length;refine callType_new F.called_zip (by decide) (F.typeCall_zip_2 _ _) (F.newCall_zip_2 _ _) (λobj=>F.args_object_init_3 obj _ _) F.entry_zip_new (oC b1 W Z Y f.toArray C.toArray) ⟨ak,ab,λr z ⟨TI,TO,n,k,nd,a7,R,hI,hO,h1,h2⟩ hk=>⟨⟨_,R,rfl⟩,?_⟩⟩;refine W5 ?_;have I2:Inv X pins σ H1 { s1 with heap:=r,toks:=s1.toks }:=E.kept hk;have fp:∀ c∈[z,TI,TO,n,k],FpOk X pins H1 c:=λc d=>E.fpOk (a7 c d) (E.hok.fresh (a7 c d));have P:∀ c∈[z,TI,TO,n,k],c≠Z:=λc hm=>E.sq_ne a5 (fp c hm);have O:∀ c∈[z,TI,TO,n,k],c≠Y:=λc hm=>E.sq_ne a4 (fp c hm);have ao:=nd;simp only[JJ,Jf,Jg,Y5,Zs]at ao;obtain⟨⟨zI,zO,z1,z2⟩,⟨IO,bB,bx⟩,⟨O1,O2⟩,ax,_⟩:=ao;have S:Sep z TI TO n k [n,Z] [k,Y]:=⟨nd,by simp[z1,P z (by simp)],by simp[O1,P TO (by simp)],by simp[Ne.symm ax,P k (by simp)],by simp[z2,O z (by simp)],by simp[O2,O TO (by simp)],by simp[ax,O n (by simp)]⟩;have hd:=E.ok.hd d;have N:SqO b1 r Z f.toArray:=ak.mv λo e=>hk _ _ e;have M:SqO W r Y C.toArray:=ab.mv λo e=>hk _ _ e;have D1:=draws (prog:=X.prog) (w:=X.w) (A:=X.A.in1.in1.in1) hd b1 n Z f.toArray (N.ne h1);have D2:=draws (prog:=X.prog) (w:=X.w) (A:=X.A.in1.in1.in1) hd W k Y C.toArray (M.ne h2)
 have low:∀ c∈[n,Z]++[k,Y],c<r.objs.size:=λc d=>by
  obtain⟨o1,n1,U,_⟩:=N.ob;obtain⟨o2,n2,e2,_⟩:=M.ob;simp only[List.cons_append,Zk,Jf,Jg,Y5]at d;rcases d with rfl|rfl|rfl|rfl
  ·exact Jd h1
  ·exact Jd U
  ·exact Jd h2
  ·exact Jd e2
 have a6:FpOk X pins H1 r.objs.size:=I2.fpOk (Je _) (I2.hok.fresh (Je _));refine ae (J:=λacc G=>∃ (g:List JI) (B:Hp),Inv X pins σ B G/\Same H1 B/\acc.toList=g.map Value.ref/\(∀ (i:Nat) t,g[i]?=some t->∃ x y,xs[i]?=some x/\ys[i]?=some y/\B t=some (.tup [x,y]))/\(∀ c∈[z,TO,n,k,r.objs.size],FpOk X pins B c)) S D1 D2 (by rw[Jj,Jj];simp_all) R hI hO ⟨h1,N⟩ ⟨h2,M⟩ low ?_ ?_ ?_ ?_ ?_
 ·rw[Jj];exact JS (show _<=10000 by simp_all) (by decide)
 ·rintro acc G T tk x y ⟨g,B,Ik,sm,L,ht,D⟩ lt px py new kk
  have il:acc.size<xs.length:=by
   have b:acc.size<f.toArray.size:=(Y6.mp px).1;have W:f.toArray.size=f.length:=Jj ..
   simp_all
  obtain⟨u,U,r1⟩:=rx.get (J6 il);obtain⟨v,e2,r2⟩:=ry.get (J6 (show acc.size<ys.length by lia));have a9:f[acc.size]?=some x:=by simpa using px
  have a8:C[acc.size]?=some y:=by simpa using py
  rw[a9]at U;obtain rfl:=Jq U;rw[a8]at e2;obtain rfl:=Jq e2
  have nT:∀ c∈[z,TO,n,k,r.objs.size],c≠G.heap.objs.size:=λc d=>by
   simp only[Jf,Jg,Y5]at d;rcases d with rfl|rfl|rfl|rfl|rfl
   ·exact JD (ZA (Jd R) lt)
   ·exact JD (ZA (Jd hO) lt)
   ·exact JD (ZA (Jd h1) lt)
   ·exact JD (ZA (Jd h2) lt)
   ·exact JD lt
  have bo:∀ c∈[z,TO,n,k],FpOk X pins B c:=λc d=>D c (by simp only[Jf,Jg,Y5]at d ⊢;rcases d with m|m|m|m<;>simp[m]);have fr:B G.heap.objs.size=none:=Ik.fresh;have al:acc.size=g.length:=by rw[<- Ju,L,Jb]
  refine⟨g++[G.heap.objs.size],_,Ik.spunN (fp:=[z,TO,n,k]) kk bo (Je _) (uB new r1 r2),sm.trans (zE fr _),by rw[Z9,L,JE];rfl,λi t hi=>?_,λc d=>⟨by rw[zG (nT c d)];exact(D c d).1,(D c d).2⟩⟩;by_cases q:i<g.length
  ·rw[Yd q]at hi
   obtain⟨x',y',bw,bu,bt⟩:=ht i t hi;exact⟨x',y',bw,bu,zE fr _ _ _ bt⟩
  ·have aT:=(Ja.mp hi).1
   rw[Jn]at aT;have ba:i=g.length:=by simp at aT;lia
   subst ba;rw[Y3 (Je _),Nat.sub_self]at hi;obtain rfl:G.heap.objs.size=t:=by simpa using hi
   rw[<- al];exact⟨_,_,J6 il,J6 (show acc.size<ys.length by lia),zD⟩
 ·rintro acc G T tk ⟨g,B,Ik,sm,L,ht,D⟩ kk
  exact⟨g,B,Ik.spun (fp:=[z,TO,n,k,r.objs.size]) kk D,sm,L,ht,D⟩
 ·refine⟨[],H1,I2,Same.refl _,rfl,λi t hi=>by simp at hi,λc d=>?_⟩
  simp only[Jf,Jg,Y5]at d;rcases d with rfl|rfl|rfl|rfl|rfl
  ·exact fp _ (by simp)
  ·exact fp _ (by simp)
  ·exact fp _ (by simp)
  ·exact fp _ (by simp)
  ·exact a6
 ·rintro T tk acc c' an ⟨g,B,Ik,sm,L,ht,D⟩ K a3
  have fL:=D r.objs.size (by simp)
  have tl:g.length=xs.length:=by
   have:acc.size=g.length:=by rw[<- Ju,L,Jb]
   have W:f.toArray.size=f.length:=Jj ..
   simp_all
  have vals:∀ l:List JI,Vals (l.map V.ref) (l.map Value.ref):=λl=>by
   induction l with
   | nil=>exact .nil
   | cons x l ih=>exact .cons rfl ih
  have new:ObjOk X.prog X.w (upd B r.objs.size (.lst (g.map V.ref))) T r.objs.size (.lst (g.map V.ref)):=⟨by rw[Jb,tl];exact JS hz (by decide),g.map Value.ref,c',vals g,by rw[a3,<- L]⟩;refine⟨.ref _,_,Ik.adopt fL new,rfl,q r.objs.size (g.map V.ref) B sm a6.1 fL.1 ⟨by rw[Jb];exact tl,λi t hi=>?_⟩⟩;rw[JC]at hi;obtain⟨t',et,rfl⟩:=Y7.mp hi;obtain⟨x,y,U,e2,e3⟩:=ht i t' et;exact⟨t',x,y,rfl,U,e2,e3⟩
end L2
namespace L2
open PySem PySem.Spec PyProof.Rows Own
section
variable {X:Cx}{pins:List (JI × Obj)}{σ:St}{H:Hp}{s:JO}{d:JI}
theorem Inv.reword {u v:HO}(I:Inv X pins σ H s)(hd:H d=some u)(h:∀ xs,u≠.tup xs)(nb:∀ ps,u≠.tbl ps)(no:∀ a,u≠.own a)(l:∀ o' i,X.H₀ d≠some (.frz o' i))(new:ObjOk X.prog X.w (upd H d v) s.heap d v):Inv X pins σ (upd H d v) s:=by
 have ne:∀ {b},H b=none->b≠d:=λe z=>by rw[z,hd]at e;cases e
 have f:∀ {b} {q:HO},H b=some q->q≠u->upd H d v b=some q:=λ{b q} e n=>by
  rw[zG];· exact e
  ·intro z
   rw[z,hd]at e;exact n (Jq e).symm
 refine⟨I.ok,I.os,I.bare,⟨I.base.keep,I.base.slot,λb q e n m=>?_,I.base.there,λb xs e=>f (I.base.tups b xs e) λz=>h xs z.symm,λb q w e=>?_,λb ps e=>?_⟩,I.loc,I.cell,?_,λx c e=>?_,λp o=>?_,λb q e=>?_,I.len⟩
 ·have z:=I.base.free b q e n m
  rw[zG (ne z)];exact z
 ·rw[zG]
  ·exact I.base.frzs b q w e
  ·rintro rfl;exact l q w e
 ·obtain⟨more,z⟩:=I.base.tbls b ps e
  exact⟨more,f z λq=>nb _ q.symm⟩
 ·rw[zG (ne I.free)];exact I.free
 ·have z:=I.freeC x c e
  rw[zG (ne z)];exact z
 ·obtain⟨k,g,j⟩:=I.pin p o
  exact⟨k,by rw[zG (ne g)];exact g,j⟩
 ·by_cases z:b=d
  ·subst z
   rw[zD]at e;cases e;exact new
  ·rw[zG z]at e
   exact(I.hok b q e).stay (λc w _ r=>r) (λc r=>f r λz=>no _ z.symm) λc xs r=>f r λz=>h _ z.symm
end
def NIv (H:Hp):KI->V->Prop
 | .inl i,v=>v=.int i
 | .inr xs,v=>∃ b,v=.ref b/\H b=some (.tup (xs.map V.int))
def NIvs (H:Hp):KN->List V->Prop
 | [],vs=>vs=[]
 | k::ks,vs=>∃ v r,vs=v::r/\NIv H k v/\NIvs H ks r
def NKey (H:Hp)(k:KN)(b:JI):Prop:=∃ a,H b=some (.tup a)/\NIvs H k a
theorem NIvs.tups {H H':Hp}(t:∀ b ys,H b=some (.tup ys)->H' b=some (.tup ys)):∀ {k:KN}{ys:List V},NIvs H k ys->NIvs H' k ys
 | [],_,h=>h
 | .inl i::k,_,h=>by
  obtain⟨v,r,e,c,a⟩:=h
  exact⟨v,r,e,c,NIvs.tups t a⟩
 | .inr f::k,_,h=>by
  obtain⟨v,r,e,⟨b,c,d⟩,a⟩:=h;exact⟨v,r,e,⟨b,c,t _ _ d⟩,NIvs.tups t a⟩
theorem NKey.tups {H H':Hp}(t:∀ b ys,H b=some (.tup ys)->H' b=some (.tup ys)){k:KN}{b:JI}(h:NKey H k b):NKey H' k b:=by
 obtain⟨ys,c,a⟩:=h;exact⟨ys,t _ _ c,a.tups t⟩
section
variable {P:Yo}{w:YI}{H:Hp}{h:YP}
theorem mM (ok:HOk P w H h):∀ {k:KN}{ys:List V}{its:List Jo},NIvs H k ys->Vals ys its->NIts P w h k its
 | [],_,its,a,r=>by
  rw[show _=[] from a]at r
  cases r;rfl
 | k::ks,_,its,a,r=>by
  obtain⟨v,q,rfl,g,l⟩:=a
  cases r with
  | @cons _ u _ j c r =>
   refine⟨u,j,rfl,?_,mM ok l r⟩
   cases k with
   | inl i=>rw[show v=.int i from g]at c;exact c
   | inr d =>
    obtain⟨b,rfl,f⟩:=g;refine⟨b,c,?_⟩;have e:d.map V.int=(d.map (Sum.inl:Int->Key)).map kV:=by rw[YX];rfl
    rw[e]at f;exact zcV ok f
theorem wO (ok:HOk P w H h){k:KN}{b:JI}(a:NKey H k b):NIs P w h k b:=by
 obtain⟨d,e,a⟩:=a;obtain⟨_,c,r,o,i,g,n,f⟩:=(show ObjOk P w H h b (.tup d) from ok b _ e);exact⟨o,c.toArray,n,i,g,f.1,by simpa using mM ok a r⟩
end
abbrev KVN:=List (KN × JI × V)
def PrN:KN × JI × V->KN × JI × Jo->Prop:=λp q=>p.1=q.1/\p.2.1=q.2.1/\RelV p.2.2 q.2.2
def xP (xs:KVN)(k:KN):Option V:=(xs.find? λx=>decide (x.1=k)).map (·.2.2)
def xJ (xs:KVN)(k:KN)(b:JI)(v:V):KVN:=if (xP xs k).isSome then xs.map λx=>if x.1=k then (x.1,x.2.1,v) else x else xs++[(k,b,v)]
theorem ve {xs:KVN}{vs:List (KN × JI × Jo)}(r:Paired PrN xs vs)(k:KN):RelO (xP xs k) ((atKey vs k).map (·.2)):=by
 induction r with
 | nil=>exact True.intro
 | @cons p q b a h t ih =>
  unfold xP atKey at ih ⊢;rw[YV,YV,h.1];by_cases c:q.1=k
  ·rw[Jy c];exact h.2.2
  ·rw[Jr c];exact ih
theorem bQ {xs:KVN}{vs:List (KN × JI × Jo)}(r:Paired PrN xs vs)(k:KN){v:V}{u:Jo}(a:RelV v u):Paired PrN (xs.map λx=>if x.1=k then (x.1,x.2.1,v) else x) (vs.map (putAt k u)):=by
 induction r with
 | nil=>exact .nil
 | @cons p q d b h t ih =>
  refine .cons ?_ ih;unfold putAt;dsimp only;by_cases c:q.1=k
  ·rw[Jh (h.1.trans c),Jh c];exact⟨h.1,h.2.1,a⟩
  ·rw[Jc (λz=>c (h.1.symm.trans z)),Jc c];exact h
theorem putN_rel {xs:KVN}{vs:List (KN × JI × Jo)}(r:Paired PrN xs vs)(k:KN)(b:JI){v:V}{u:Jo}(a:RelV v u):Paired PrN (xJ xs k b v) (storedH vs k b u):=by
 have e:=(ve r k).isSome_eq;rw[Option.isSome_map]at e;unfold xJ storedH;rw[<- e];by_cases c:(xP xs k).isSome=true
 ·rw[Jh c,Jh c];exact bQ r k a
 ·rw[Jc c,Jc c];exact Paired.snoc r ⟨rfl,rfl,a⟩
theorem vw (xs:KVN)(k:KN)(b:JI)(v:V):(xJ xs k b v).length<=xs.length+1:=by
 unfold xJ;split
 ·rw[Jb];lia
 ·rw[Jn];exact Je _
def PhN (P:Yo)(w:YI)(a:JI)(xs:KVN):YP->Prop:=λh=>xs.length<=sizeLine/\(a == sysModules)=false/\∃ b,Paired PrN xs b /\
 ∃ o c d,h.get? a=some o/\o.ExactDict/\o.data=.dict c d/\c.toList=b.map (entryOfKey (xF P w))/\(b.map (·.1)).Nodup
def DN (P:Yo)(w:YI)(a:JI)(xs:KVN):HO:=.ext (PhN P w a xs)
def KsIn (H:Hp)(xs:KVN):Prop:=∀ x∈xs,NKey H x.1 x.2.1
theorem KsIn.tups {H H':Hp}{xs:KVN}(t:∀ b ys,H b=some (.tup ys)->H' b=some (.tup ys))(h:KsIn H xs):KsIn H' xs:=λx a=>(h x a).tups t
section
variable {P:Yo}{w:YI}{H H':Hp}{h h':YP}{a:JI}{xs:KVN}
theorem dn_new (z:xs.length<=sizeLine)(hd:(a == sysModules)=false){vs:List (KN × JI × Jo)}(r:Paired PrN xs vs)(d:h'.DictOfH (xF P w) a vs):ObjOk P w H' h' a (DN P w a xs):=by
 obtain⟨o,h,i,b,g,f,e,_,c⟩:=d;refine⟨⟨z,hd,vs,r,o,h,i,b,g,f,e,c⟩,⟨o,b⟩,λk j ⟨z,hd,vs,r,o,h,i,b,g,f,e,c⟩ s=>⟨z,hd,vs,r,o,h,i,s o b,g,f,e,c⟩⟩
theorem uI (ok:HOk P w H h)(e:Rd H a (DN P w a xs))(ks:KsIn H xs):xs.length<=sizeLine/\(a == sysModules)=false/\∃ vs,Paired PrN xs vs/\h.DictOfH (xF P w) a vs:=by
 obtain⟨⟨z,i,vs,r,o,m,n,l,k,j,f,d⟩,u,s⟩:=(show ObjOk P w H h a (DN P w a xs) from zbW ok e);refine⟨z,i,vs,r,o,m,n,l,k,j,f,?_,d⟩;clear f d e z u s
 induction r with
 | nil=>intro x b;exact nomatch b
 | @cons p q A v c t ih =>
  intro x b;rcases Jf.mp b with here|there
  ·have:=wO ok (ks p Jz)
   rw[c.1,c.2.1,<- here]at this;exact this
  ·exact ih (λy g=>ks y (Jw _ g)) x there
end
section
variable {X:Cx}{pins:List (JI × Obj)}{σ:St}{H:Hp}{s:JO}{a b:JI}{xs:KVN}{k:KN}{v d:V}{r:Jo}{A:YO}{E:Jo->JO->Prop}
theorem mJ (a:A.units+3<cLine):(xF X.prog X.w).room A.in1:=by show A.in1.units+2<cLine;rw[Around.in1_units];omega
theorem zeA {Q:Jo->JO->Prop}(f:A.units+3<cLine)(I:Inv X pins σ H s)(e:Rd H a (DN X.prog X.w a xs))(ks:KsIn H xs)(d:NKey H k b)(h:∀ c,Inv X pins σ H c->Q (.bool (xP xs k).isSome) c) :
  wpAny (model X.prog X.w) A (compareOp .In (.ref b) (.ref a)) Q E s:=by
 obtain⟨z,g,j,rel,i⟩:=uI I.hok e ks;refine wpAny_in_heap (mJ f) (wO I.hok d) g i ?_;have q:=(ve rel k).isSome_eq;rw[Option.isSome_map]at q;rw[<- q];exact h _ (I.tok _)
theorem zbo {Q:Jo->JO->Prop}(f:A.units+3<cLine)(I:Inv X pins σ H s)(e:Rd H a (DN X.prog X.w a xs))(ks:KsIn H xs)(d:NKey H k b)(h:∀ c,Inv X pins σ H c->Q (.bool (!(xP xs k).isSome)) c) :
  wpAny (model X.prog X.w) A (compareOp .NotIn (.ref b) (.ref a)) Q E s:=by
 obtain⟨z,g,j,rel,i⟩:=uI I.hok e ks;refine wpAny_notIn_heap (mJ f) (wO I.hok d) g i ?_;have q:=(ve rel k).isSome_eq;rw[Option.isSome_map]at q;rw[<- q];exact h _ (I.tok _)
theorem zcK {Q:Jo->JO->Prop}(m:A.units+3<cLine)(I:Inv X pins σ H s)(e:Rd H a (DN X.prog X.w a xs))(ks:KsIn H xs)(l:NKey H k b)(j:RelV d r)(h:∀ c f,Inv X pins σ H f->RelV ((xP xs k).getD d) c->Q c f) :
  wpAny (model X.prog X.w) A (call (.builtin "dict.get") [.ref a,.ref b,r]) Q E s:=by
 obtain⟨z,n,i,rel,g⟩:=uI I.hok e ks;exact call_meetsIn PySem.F.slot_dict_get g.typeIs PySem.F.entry_dict_get (PySem.F.args_dict_get_3 _ _ _) (meetsH_dict_get_default (xF X.prog X.w) a b n r) ⟨mJ m,k,i,wO I.hok l,g,h _ _ (I.tok _) ((ve rel k).getD j)⟩
theorem fZ {Q:Unit->JO->Prop}(m:A.units+3<cLine)(I:Inv X pins σ H s)(e:H a=some (DN X.prog X.w a xs))(ks:KsIn H xs)(i:NKey H k b)(g:RelV v r)(l:xs.length<sizeLine)(h:∀ d,Inv X pins σ (upd H a (DN X.prog X.w a (xJ xs k b v))) d->Q () d) :
  wpAny (model X.prog X.w) A (setItem (.ref a) (.ref b) r) Q E s:=by
 obtain⟨z,u,f,rel,x⟩:=uI I.hok (.inl e) ks;have j:f.length<=sizeLine:=by rw[<- YR rel];exact z
 have p:(xJ xs k b v).length<=sizeLine:=by have:=vw xs k b v;lia
 refine wpAny_setItem_heap (hsz:=j) (mJ m) (wO I.hok i) x λw c n=>h _ ?_;have t:∃ q,w.get? a=some q:=let ⟨q,_,_,o,_⟩:=c;⟨q,o⟩;exact tZ I (by rw[e];exact True.intro) n t (dn_new p u (putN_rel rel k b g) c)
end
section
variable {prog:Yo}{w:YI}{A:YO}{E:Jo->JO->Prop}{s:JO}{d:JI}
theorem dc {o:Obj}{a:Array DictEntry}{i:Nat}{Q:Jo->JO->Prop}(b:s.heap.get? d=some o)(e:o.ExactDict)(hd:o.data=.dict a i)(f:(d == sysModules)=false)(h:Q (.int a.size s.toks) { s with toks:=s.toks+1 }) :
  wpAny (model prog w) A (Builtin.«dict.__len__» ⟨[.ref d],[]⟩) (λfin c=>∃ r,fin=.done (.ret r)/\Q r c) E s:=by
 have ty:s.TypeIs (.ref d) "dict":=⟨o,b,e.1⟩;unfold Builtin.«dict.__len__» Builtin.Dict.dictSlotNone;refine J0 (J0 (wpAny_notOrdered_dict ty ?_));refine J0 ?_;show wpAny _ _ (pure ((.ref d,[]):Jo × List Jo)) _ _ _;refine J9 (J9 (J0 ?_));show wpAny _ _ (pure d) _ _ _;unfold dictSize;refine J9 (J0 (J0 (Yp b hd (J9 (J0 (wpAny_pendingCount_other f ?_))))));unfold retInt
 have g:Q (.int ((a.size:Int)+((0:Nat):Int)) s.toks) { s with toks:=s.toks+1 }:=by
  rw[show ((a.size:Int)+((0:Nat):Int))=a.size from Int.add_zero _];exact h
 exact J0 (wpAny_mkInt (J9 ⟨_,rfl,g⟩))
theorem mZ {o:Obj}{a:Array DictEntry}{g:Nat}{Q:Jo->JO->Prop}(c:s.heap.get? d=some o)(b:o.ExactDict)(hd:o.data=.dict a g)(f:(d == sysModules)=false)(i:(a.size:Int)<2 ^ 63)(h:∀ t,Q (.int a.size t) { s with toks:=s.toks+1+1 }) :
  wpAny (model prog w) A (Builtin.«len» ⟨[.ref d],[]⟩) (λfin e=>∃ r,fin=.done (.ret r)/\Q r e) E s:=by
 have ty:s.TypeIs (.ref d) "dict":=⟨o,c,b.1⟩;unfold Builtin.«len»;refine J0 ?_;show wpAny _ _ (pure (Value.ref d)) _ _ _;refine J9 (J0 (wpAny_callSpecial?_slot ty PySem.F.slot_dict_len (Y1 PySem.F.slot_dict_len ty PySem.F.entry_dict_len (dc c b hd f ?_) (PySem.F.args_dict_len_1 _))));show wpAny _ _ (holding [Value.int (a.size:Int) s.toks] (asIndex (.int (a.size:Int) s.toks)) >>= _) _ _ _;refine J0 (JX (show wpAny _ _ (pure (a.size:Int)) _ _ _ from J9 (J0 (Zy ?_))));dsimp only;rw[Jc (by simp_all),Jc (by simp_all)];unfold retInt;exact J0 (wpAny_mkInt (J9 ⟨_,rfl,h _⟩))
end
section
variable {X:Cx}{pins:List (JI × Obj)}{σ:St}{H:Hp}{s:JO}{a:JI}{xs:KVN}{A:YO}{E:Jo->JO->Prop}
theorem iD {P:Yo}{w:YI}{h:YP}(ok:HOk P w H h)(e:Rd H a (DN P w a xs)):(a == sysModules)=false/\∃ o b c,h.get? a=some o/\o.ExactDict/\o.data=.dict b c/\b.size=xs.length/\(b.size:Int)<2 ^ 63:=by
 obtain⟨⟨z,d,k,r,o,b,c,j,i,g,f,m⟩,_,_⟩:=(show ObjOk P w H h a (DN P w a xs) from zbW ok e);have l:b.size=xs.length:=by rw[ZW f,<- YR r]
 refine⟨d,o,b,c,j,i,g,l,?_⟩;rw[JW]at z;lia
theorem zdG {Q:Jo->JO->Prop}(I:Inv X pins σ H s)(e:Rd H a (DN X.prog X.w a xs))(h:∀ t b,Inv X pins σ H b->Q (.int xs.length t) b):wpAny (model X.prog X.w) A (call (.builtin "len") [.ref a]) Q E s:=by
 obtain⟨c,o,j,k,i,g,d,l,f⟩:=iD I.hok e;refine Calls.call_function_entry kind_len plain_len entry_len (args_len1 _) (mZ i g d c f λt=>?_);rw[l];exact h _ _ (I.tok _)
theorem zbn {Q:Bool->JO->Prop}(I:Inv X pins σ H s)(e:Rd H a (DN X.prog X.w a xs))(h:∀ c,Inv X pins σ H c->Q (!xs.isEmpty) c):wpAny (model X.prog X.w) A (truthy (.ref a)) Q E s:=by
 obtain⟨j,o,i,u,g,d,k,l,f⟩:=iD I.hok e;have ty:s.TypeIs (.ref a) "dict":=⟨o,g,d.1⟩
 have q:∀ (n:Nat) (b:Bool),n=xs.length->b=((n:Int) != 0)->b = !xs.isEmpty:=λn b m e2=>by
  subst m e2
  cases xs with
  | nil=>rfl
  | cons x r=>rw[Yy];simp;lia
 unfold truthy;show wpAny _ _ (callSpecial? (Value.ref a) (Str.ofString "__bool__") >>= _) _ _ _;refine J0 (wpAny_callSpecial?_none (T:="dict") ty noBool_dict ?_);show wpAny _ _ (specialOf (Value.ref a) (Str.ofString "__len__") >>= _) _ _ _;refine J0 (Zm (T:="dict") ty PySem.F.slot_dict_len.lookup ?_);show wpAny _ _ (runValue (Code.builtin "len" { pos:=[Value.ref a] }) >>= _) _ _ _;refine J0 (wpAny_runValue (Zn entry_len ?_));refine JQ (mZ (Q:=λr c=>(∃ t,r=.int i.size t)/\Inv X pins σ H c) g d k j f λt=>⟨⟨t,rfl⟩,I.tok _⟩) ?_ λ_ _ z=>z;rintro fin c ⟨r,rfl,⟨t,rfl⟩,p⟩;refine J9 ?_;rw[q i.size _ l rfl];exact h c p
end
def NAt (P:Yo)(w:YI)(H:Hp)(a:JI)(xs:KVN):Prop:=Rd H a (DN P w a xs)/\KsIn H xs
def zaK (P:Yo)(w:YI)(ty e:TE):TE:=λσ H Q=>ty σ H λy f=>e σ f λx c=>∃ a b d k,x=.ref a/\y=.ref b/\NAt P w c a d/\NKey c k b/\Q (.bl (!(xP d k).isSome)) c
def zb8 (P:Yo)(w:YI)(g ty f:TE):TE:=λσ H Q=>g σ H λx e=>∃ a,x=.ref a/\(∃ c,Rd e a (DN P w a c))/\ty σ e λy h=>f σ h λz d=>∃ b c k,y=.ref b/\NAt P w d a c/\NKey d k b/\Q ((xP c k).getD z) d
def zdw (P:Yo)(w:YI)(f ty e:TE):TS:=λD σ H=>e σ H λv h=>f σ h λx g=>ty σ g λy d=>∃ a b c k,x=.ref a/\y=.ref b/\d a=some (DN P w a c)/\KsIn d c/\NKey d k b/\c.length<sizeLine/\D.nx σ (upd d a (DN P w a (xJ c k b v)))
section
variable {X:Cx}{o i e f value:Expr}{pos pos' apos cpos:Pos}{td ty tv tx:TE}
theorem jG {pins:List (JI × Obj)}{σ:St}{H:Hp}{s:JO}{a:JI}{xs:KVN}(I:Inv X pins σ H s)(d:Rd H a (DN X.prog X.w a xs)) :
  s.TypeIs (.ref a) "dict"/\∀ b,Value.ref a=.ref b->∃ ob,s.heap.get? b=some ob/\ob.dict=none:=by
 obtain⟨_,q,f,g,e,c,_⟩:=iD I.hok d;refine⟨⟨q,e,c.1⟩,λb z=>?_⟩;cases z;exact⟨q,e,c.2.1⟩
theorem gj (p:X.A.units+3<cLine)(hi:PE X i ty)(q:PE X o td):PC X .NotIn i o (zaK X.prog X.w ty td):=by
 intro pins s σ H Q I h;refine thn (hi pins s σ H _ I h) λm d ⟨y,A,w,e,j⟩=>thn (q pins d σ A _ w j) λu C ⟨x,z,v,f,a,b,c,k,ex,r,n,l,g⟩=>?_;subst ex r;cases (show u=Value.ref a from f);cases (show m=Value.ref b from e);exact zbo p v n.1 n.2 l λB t=>⟨.bl (!(xP c k).isSome),z,t,rfl,g⟩
theorem bh (D:X.A.units+3<cLine) (E:PE X o td) (G:PE X e ty) (F:PE X f tx) (m:M2 X o "get" apos e f cpos):PE X (.Call (.Attribute o "get" apos) [e,f] [] cpos) (zb8 X.prog X.w td ty tx):=by
 intro pins s σ H Q I h;refine wpAny_Call_method m.base m.few m.line PySem.F.plainAttrs_dict PySem.F.slot_dict_get PySem.F.type_dict_get (thn (E pins s σ H _ I h) λu p ⟨x,P,g,t,a,ex,⟨R,d⟩,A⟩=>?_);subst ex;cases (show u=Value.ref a from t);obtain⟨j,i⟩:=jG g d;refine⟨j,i,?_⟩;rw[m.trees]
 refine W6 rfl (Calls.evalArgs_plain (Zz (thn (G pins p σ P _ g A) λC l ⟨y,O,M,r,w⟩ =>
  Zz (thn (F pins l σ O _ M w) λW V ⟨z,N,L,q,b,S,k,J,n,B,v⟩=>W5 ?_))))
 subst J;cases (show C=Value.ref b from r);exact zcK D L n.1 n.2 B q λT U K c=>⟨_,N,K,c,v⟩
theorem zaZ (z:X.A.units+3<cLine)(B:PE X o td)(hi:PE X i ty)(w:PE X value tv)(A:swapsWith value (some (.Subscript o i pos')) pos.line X.env=pure false) :
  PS X (.Assign [.Subscript o i pos'] value pos) (zdw X.prog X.w td ty tv):=by
 intro pins s σ H D I h;refine wpAny_Assign_Subscript (thn (w pins s σ H _ I h) λr d ⟨v,M,K,g,n⟩=>thn (B pins d σ M _ K n) λu c ⟨x,L,J,f,m⟩=>thn (hi pins c σ L _ J m) λt P ⟨y,Q,G,e,a,b,N,k,ex,E,C,p,q,l,j⟩=>?_) A;subst ex E;cases (show u=Value.ref a from f);cases (show t=Value.ref b from e);exact fZ z G C p q g l λO F=>⟨σ,_,F,j⟩
theorem pf:CallR X (.builtin "len") (λvs H Q=>∃ a xs,vs=[.ref a]/\Rd H a (DN X.prog X.w a xs)/\Q (.int xs.length) H):=by
 intro pins s σ H vs g Q I b ⟨a,xs,e,d,q⟩;subst e;obtain⟨u,rfl,c⟩:=b.one;cases (show u=Value.ref a from c);exact zdG I d λt h f=>⟨.int xs.length,H,f,⟨t,rfl⟩,q⟩
theorem zdd:TruR X (λx H Q=>∃ a xs,x=.ref a/\Rd H a (DN X.prog X.w a xs)/\Q (!xs.isEmpty) H):=by
 intro pins s σ H x v Q I b ⟨a,xs,e,d,q⟩;subst e;cases (show v=Value.ref a from b);exact zbn I d λf c=>⟨H,c,q⟩
theorem zez (ha:PE X o td)(e:∀ whole,isTrue o X.env whole=(do let v <- whole;standAt o.pos;holding [v] (truthy v))) :
  PT X o (λσ H Q=>td σ H λx H'=>∃ a xs,x=.ref a/\Rd H' a (DN X.prog X.w a xs)/\Q (!xs.isEmpty) H'):=by
 intro pins s σ H Q I h;exact isTrue_plain (thn (ha pins s σ H _ I h) λv b ⟨x,g,f,c,d⟩=>zdd pins b σ g x v Q f c d) (e _)
def zdl (P:Yo)(w:YI):TE:=λ_ H Q=>∀ p,H p=none->Q (.ref p) (upd H p (DN P w p []))
theorem j9:PE X (.Dict [] [] pos) (zdl X.prog X.w):=λpins s σ H Q I h =>
 wpAny_Dict_empty ⟨.ref s.heap.objs.size,_,I.laid (a:=s.heap.objs.size) (o:=DN X.prog X.w s.heap.objs.size []) (t':=s.toks) (λ_ _ q=>J7 _ q) (Je _)
  (dn_new (vs:=[]) (JN _) (Zt.mpr (JT I.big)) .nil (Heap.DictOfH.new _)),rfl,h _ (I.hok.fresh (Je _))⟩
end
def zev (P:Yo)(w:YI)(p:JI)(Q:VK):List (V × V)->Hp->Prop
 | [(y,v)],a=>∃ b k,y=.ref b/\a p=some (DN P w p [])/\NKey a k b/\Q (.ref p) (upd a p (DN P w p [(k,b,v)]))
 | _,_=>False
def zdk (P:Yo)(w:YI)(ty c:TE):TE:=λσ H Q=>∀ p,H p=none->ty σ (upd H p (DN P w p [])) λy d=>c σ d λv a=>∃ b k,y=.ref b/\a p=some (DN P w p [])/\NKey a k b/\Q (.ref p) (upd a p (DN P w p [(k,b,v)]))
section
variable {X:Cx}{e f:Expr}{pos:Pos}{ty tv:TE}
theorem bg (N:X.A.units+3<cLine)(D:PE X e ty)(w:PE X f tv):PE X (.Dict [some e] [f] pos) (zdk X.prog X.w ty tv):=by
 intro pins s σ H Q I q;have C:=I.hok.fresh (Je s.heap.objs.size)
 have J:=I.laid (a:=s.heap.objs.size) (o:=DN X.prog X.w s.heap.objs.size []) (h':=s.heap.push { cls:=.type "dict",data:=.dict #[] }) (t':=s.toks) (λ_ _ q=>J7 _ q) (Je _)
  (dn_new (vs:=[]) (JN _) (Zt.mpr (JT I.big)) .nil (Heap.DictOfH.new _))
 refine wpAny_Dict_any rfl rfl (by simp) (by show 1<=15;lia) (thn ((bX D w za0) pins _ σ _ (zev X.prog X.w s.heap.objs.size Q) J (q _ C)) ?_);rintro vs M ⟨n,O,d,rel,r⟩
 match n,rel,r with
 | [(y,v)],rel,r =>
  obtain⟨b,k,rfl,g,p,m⟩:=r
  cases rel with
  | @cons _ i _ K h t =>
   cases t;obtain⟨j,L⟩:=i;cases (show j=Value.ref b from h.1);obtain⟨z,F,vs,l,G⟩:=uI d.hok (.inl g) (λx u=>nomatch u);cases l;unfold storeAll;rw[Yz];refine J0 (J0 (wpAny_dictSet_heap (knd:=xF X.prog X.w) (k:=k) (hsz:=JN _) (show X.A.units+2<cLine by lia) (wO d.hok p) G λh' c A=>J9 ?_));dsimp only;rw[YS];refine J9 ⟨.ref s.heap.objs.size,_,?_,rfl,m⟩;have E:∃ q,h'.get? s.heap.objs.size=some q:=let ⟨q,_,_,B,_⟩:=c;⟨q,B⟩
   exact tZ d (by rw[g];exact True.intro) A E (dn_new (by show 1<=sizeLine;decide) F (.cons ⟨rfl,rfl,h.2⟩ .nil) c)
 | [],_,r=>exact r.elim
 | _::_::_,_,r=>exact r.elim
end
section
variable {prog:Yo}{w:YI}{A:YO}{E:Jo->JO->Prop}{s:JO}{d:JI}
theorem eY {Q:Int->JO->Prop}(q:Q (reduceHash 0xFCA86420) { s with toks:=s.toks+1 }):wpAny (model prog w) A (pyHash .none) Q E s:=by
 show wpAny (model prog w) A (pyHashByItsType .none) Q E s;refine W.pyHash_slot (T:="NoneType") (id:="NoneType.__hash__") (B:=Builtin.«NoneType.__hash__») rfl F.slot_NoneType_hash F.entry_NoneType_hash (F.args_NoneType_hash_1 _) (by decide) (.inl rfl) ?_;unfold Builtin.«NoneType.__hash__»;refine J0 ?_;show wpAny _ _ (pure _) _ _ _;unfold retInt;exact J9 (J0 (wpAny_mkInt (J9 ⟨_,_,rfl,q⟩)))
theorem ui {a:JI}{k:KN}{Q:Bool->JO->Prop}(d:A.units<cLine)(c:NIs prog w s.heap k a)(q:Q false s):wpAny (model prog w) A (eqBool (.ref a) .none) Q E s:=by
 obtain⟨as,b⟩:=c.reads;exact PySem.SeqAt.eqBoolOverData prog w A E s _ _ _ .none as [] Q b .none (jT k).1 rfl (by show A.units+min _ 0<cLine;simp_all) q
theorem ke {n:Nat}{Q:Bool->JO->Prop}(q:Q true s):wpAny (model prog w) A (eqIsQuiet n .none) Q E s:=by
 cases n<;>exact J9 q
theorem qm {α β:Type}{f:α->β->Sem (ForInStep β)}{b:β}:∀ (l:List α) {Q:β->JO->Prop},(∀ i∈l,∀ R:ForInStep β->JO->Prop,R (.yield b) s->wpAny (model prog w) A (f i b) R E s)->Q b s->wpAny (model prog w) A (forIn l b f) Q E s
 | [],Q,_,q=>by rw[YS];exact J9 q
 | i::l,Q,h,q=>by
  rw[Yz];exact J0 (h i Jz _ (qm l (λj a=>h j (Jw _ a)) q))
theorem gE {stored:List Jo}{Q:Bool->JO->Prop}(h:∀ v∈stored,∃ a k,v=.ref a/\NIs prog w s.heap k a)(q:Q false s):wpAny (model prog w) A (tableMayTell .none stored) Q E s:=by
 unfold tableMayTell;by_cases c:stored.isEmpty=true
 ·rw[Jh c];exact J9 q
 rw[Jc c];refine J0 (ke (J0 (qm stored (λv b R r=>?_) (J9 q))));obtain⟨a,k,rfl,d⟩:=h v b;exact J0 (rB d (J9 r))
theorem dQ {o:Obj}{b:Array DictEntry}{j:Nat}{h:Int}{Q:Option Nat->JO->Prop}(u:A.units<cLine)(g:s.heap.get? d=some o)(hd:o.data=.dict b j)(D:∀ e∈b.toList,∃ a k,e.key=.ref a/\NIs prog w s.heap k a)(q:Q none s) :
  wpAny (model prog w) A (dictFind d .none h) Q E s:=by
 have key:∀ (i:Nat) (e:DictEntry),b[i]?=some e->∃ a k,e.key=.ref a/\NIs prog w s.heap k a:=λi e f=>D e (by
  obtain⟨l,z⟩:=Y6.mp f
  rw[<- z];exact Array.getElem_mem_toList l)
 unfold dictFind;refine JX (J0 (Yp g hd ?_));by_cases c:(Value.none::List.filterMap (λi=>Option.map (λx=>x.key) b[i]?) (placesWithHash b.size (λi=>Option.map (λx=>x.hash) b[i]?) h)).all carriedByValue=true
 ·refine(JP (λm=>wpAny (model prog w) A m Q E s) (Jh c)).mpr ?_
  unfold dictWalkPlain;refine J0 (qm _ (λi hi R r=>?_) (J9 q))
  cases f:b[i]? with
  | none=>exact J9 r
  | some e =>
   obtain⟨a,k,t,n⟩:=key i e f;by_cases ch:(e.hash == h)=true
   ·refine(JP (λm=>wpAny (model prog w) A m R E s) (Jh ch)).mpr (J0 (Yr g hd (J0 ?_)))
    rw[t];refine ui u n (J0 (Yr g hd ?_));dsimp only;rw[Jc (c:=(j != j)=true) (by simp),Jc Jp];exact J0 (Z3 (J9 r))
   ·exact(JP (λm=>wpAny (model prog w) A m R E s) (Jc ch)).mpr (J9 r)
 ·refine(JP (λm=>wpAny (model prog w) A m Q E s) (Jc c)).mpr ?_
  have y:∀ v∈List.filterMap (λi=>Option.map (λx=>x.key) b[i]?) (placesWithHash b.size (λi=>Option.map (λx=>x.hash) b[i]?) h),∃ a k,v=.ref a/\NIs prog w s.heap k a:=λv C=>by
   obtain⟨i,-,e,f,rfl⟩:∃ i:Nat,True/\∃ e:DictEntry,b[i]?=some e/\e.key=v:=by
    obtain⟨i,p⟩:=List.mem_filterMap.mp C;exact⟨i,True.intro,Y7.mp p.2⟩
   exact key i e f
  by_cases B:(List.filterMap (λi=>Option.map (λx=>x.key) b[i]?) (placesWithHash b.size (λi=>Option.map (λx=>x.hash) b[i]?) h) == [Value.none])=true
  ·refine(JP (λm=>wpAny (model prog w) A m Q E s) (Jh B)).mpr (J0 (J9 ?_))
   dsimp only;rw[Jc (by simp)];refine J0 (qm _ (λi hi R r=>?_) (J9 q))
   cases f:b[i]? with
   | none=>exact J9 r
   | some e =>
    obtain⟨a,k,t,n⟩:=key i e f;by_cases ch:(e.hash == h)=true
    ·refine(JP (λm=>wpAny (model prog w) A m R E s) (Jh ch)).mpr (J0 (Yr g hd (J0 ?_)))
     rw[t];refine ui u n (J0 (Yr g hd ?_));rw[Jc (c:=(j != j)=true) (by simp),Jc Jp];refine J0 (Z3 ?_);rw[Jc (by simp)];exact J9 r
    ·exact(JP (λm=>wpAny (model prog w) A m R E s) (Jc ch)).mpr (J9 r)
  ·refine(JP (λm=>wpAny (model prog w) A m Q E s) (Jc B)).mpr (J0 (gE y ?_))
   dsimp only;rw[Jc (by simp)];refine J0 (qm _ (λi hi R r=>?_) (J9 q))
   cases f:b[i]? with
   | none=>exact J9 r
   | some e =>
    obtain⟨a,k,t,n⟩:=key i e f;by_cases ch:(e.hash == h)=true
    ·refine(JP (λm=>wpAny (model prog w) A m R E s) (Jh ch)).mpr (J0 (Yr g hd (J0 ?_)))
     rw[t];refine ui u n (J0 (Yr g hd ?_));rw[Jc (c:=(j != j)=true) (by simp),Jc Jp];refine J0 (Z3 ?_);rw[Jc (by simp)];exact J9 r
    ·exact(JP (λm=>wpAny (model prog w) A m R E s) (Jc ch)).mpr (J9 r)
theorem zac {o:Obj}{b:Array DictEntry}{h:Nat}{Q:Option Jo->JO->Prop}(c:A.units<cLine)(f:s.heap.get? d=some o)(hd:o.data=.dict b h)(g:∀ e∈b.toList,∃ a k,e.key=.ref a/\NIs prog w s.heap k a)(q:Q none { s with toks:=s.toks+1 }) :
  wpAny (model prog w) A (dictGet d .none) Q E s:=by
 unfold dictGet;exact JX (J0 (eY (J0 (dQ (s:={ s with toks:=s.toks+1 }) c f hd g (J9 q)))))
theorem qW {o:Obj}{b:Array DictEntry}{j:Nat}{Q:Jo->JO->Prop}(f:A.units<cLine)(h:s.heap.get? d=some o)(l:o.ExactDict)(hd:o.data=.dict b j)(g:(d == sysModules)=false)(i:∀ e∈b.toList,∃ a k,e.key=.ref a/\NIs prog w s.heap k a)(q:Q (.bool false) { s with toks:=s.toks+1 }) :
  wpAny (model prog w) A (Builtin.«dict.__contains__» ⟨[.ref d,.none],[]⟩) (λfin c=>∃ r,fin=.done (.ret r)/\Q r c) E s:=by
 unfold Builtin.«dict.__contains__»;refine J0 ?_;show wpAny _ _ (pure (d,Value.none)) _ _ _;refine J9 (J0 (zac f h hd i ?_));show wpAny _ _ (Builtin.Dict.pendingKey? d .none >>= _) _ _ _;exact J0 (wpAny_pendingKey_other g (J9 ⟨_,rfl,q⟩))
section
variable {X:Cx}{pins:List (JI × Obj)}{σ:St}{H:Hp}{a:JI}{xs:KVN}
theorem aQ {Q:Jo->JO->Prop}(r:A.units+3<cLine)(I:Inv X pins σ H s)(e:Rd H a (DN X.prog X.w a xs))(ks:KsIn H xs)(h:∀ b,Inv X pins σ H b->Q (.bool false) b) :
  wpAny (model X.prog X.w) A (compareOp .In .none (.ref a)) Q E s:=by
 obtain⟨z,j,q,rel,o,p,u,f,d,n,m,l,t⟩:=uI I.hok e ks
 have i:∀ e∈p.toList,∃ a k,e.key=.ref a/\NIs X.prog X.w s.heap k a:=λe c=>by
  rw[m]at c;obtain⟨x,g,rfl⟩:=Jx.mp c;exact⟨x.2.1,x.1,rfl,l x g⟩
 have ty:s.TypeIs (.ref a) "dict":=⟨o,f,d.1⟩;show wpAny _ _ (contains (.ref a) .none >>= _) _ _ _
 exact J0 (wpAny_contains_slot ty slot_dict_contains (Y1 slot_dict_contains ty entry_dict_contains
  (qW (by rw[Around.in1_units];lia) f d n j i (YM (J9 (h _ (I.tok _))))) (args_dict_contains _ _)))
end
def zdy (P:Yo)(w:YI):V->V->Hp->VK->Prop:=λx y H Q=>∃ a c,y=.ref a/\NAt P w H a c/\((∃ b k,x=.ref b/\NKey H k b/\Q (.bl (xP c k).isSome) H)\/(x=.non/\Q (.bl false) H))
theorem bp {X:Cx}(e:X.A.units+3<cLine):OpR X (compareOp .In) (zdy X.prog X.w):=by
 intro pins s σ H x y v u Q I d h ⟨a,f,j,n,q⟩;subst j;cases (show u=Value.ref a from h);rcases q with ⟨b,k,ex,i,q⟩|⟨ex,q⟩
 ·subst ex
  cases (show v=Value.ref b from d);exact zeA e I n.1 n.2 i λg c=>⟨.bl (xP f k).isSome,H,c,rfl,q⟩
 ·subst ex
  cases (show v=Value.none from d);exact aQ e I n.1 n.2 λg c=>⟨.bl false,H,c,rfl,q⟩
end
section
variable {prog:Yo}{w:YI}{A:YO}{E:Jo->JO->Prop}{s:JO}{d b:JI}{K:Type}[DecidableEq K]{knd:HeapKind prog w K}{xs:List (K × JI × Jo)}{k:K}{v:Jo}
theorem si {Q:Unit->JO->Prop}(H:knd.room A)(u:knd.is s.heap k b)(hm:s.heap.DictOfH knd d xs)(hz:xs.length<=sizeLine)(q:∀ h',h'.DictOfH knd d (storedH xs k b v)->Heap.SameBut d s.heap h'->Q () { s with heap:=h' }):wpAny (model prog w) A (dictSetHashed d (.ref b) (knd.hash k) v) Q E s:=by
 obtain⟨o,I,J,g,t,f,r,l,h⟩:=hm;unfold dictSetHashed;refine JX (J0 (wpAny_dictFind_heap H u g f r l h (λno=>?_) (λj p n=>?_)))
 ·refine J0 (Z3 (wpAny_updateDictKeys g f (q _ ?_ (YY _ _ _)) (by rw[ZW r];exact hz) (by simp)))
  have m:=YY s.heap d (Obj.mapDictKeys λx=>x.push ⟨knd.hash k,.ref b,v⟩);refine⟨_,_,_,Ye _ g (Obj.isFreed_of_dict (Obj.data_mapDictKeys f _)),t.mapDictKeys _,Obj.data_mapDictKeys f _,?_,?_,?_⟩
  ·rw[storedH_new (atKey_none_of_get no),JE,Z9,r];rfl
  ·rw[storedH_new (atKey_none_of_get no)]
   intro x i;rcases Js.mp i with z|z
   ·exact knd.keeps (l x z) g f m
   ·rw[Jm.mp z];exact knd.keeps u g f m
  ·rw[storedH_new (atKey_none_of_get no),JE,ZK]
   refine⟨h,by simp,λa C c B=>?_⟩;rw[List.map_singleton,Jm]at B;rintro rfl;rw[B]at C;exact not_mem_keys_of_get no C
 ·refine J0 (Z3 (J0 (wpAny_updateDict g f (wpAny_point (q _ ?_ (YY _ _ _))) (by simp))))
  have m:=YY s.heap d (Obj.mapDict λx=>x.modify j λe=>{ e with val:=v });refine⟨_,_,_,Ye _ g (Obj.isFreed_of_dict (Obj.data_mapDict f _)),t.mapDict _,Obj.data_mapDict f _,?_,?_,?_⟩
  ·rw[storedH_old (atKey_of_get h n),Ws,r]
   exact modify_map_putAt _ _ k v (λa D=>rfl) h n
  ·have F:=storedH_old (atKey_of_get h n) b v
   rw[F];intro x i;obtain⟨y,G,rfl⟩:=Jx.mp i;have:=knd.keeps (l y G) g f m;unfold putAt;split
   ·exact this
   ·exact this
  ·rw[storedH_old (atKey_of_get h n),keys_map_putAt];exact h
def mergeN (xs ys:List (K × JI × Jo)):List (K × JI × Jo):=ys.foldl (λacc y=>storedH acc y.1 y.2.1 y.2.2) xs
theorem gH (acc:List (K × JI × Jo))(y:K × JI × Jo):(storedH acc y.1 y.2.1 y.2.2).length<=acc.length+1:=by
 unfold storedH;split
 ·rw[Jb];simp_all
 ·rw[Jn];exact Je _
theorem vW {o:JI}{ob:Obj}{ys:List (K × JI × Jo)}{Q:PUnit->JO->Prop}{f:Nat->PUnit->Sem (ForInStep PUnit)}(ne:d≠o)(step:∀ (i:Nat) (a:i<ys.length) (s:JO) (acc:List (K × JI × Jo)) (R:ForInStep PUnit->JO->Prop),s.heap.get? o=some ob->s.heap.DictOfH knd d acc->knd.is s.heap ys[i].1 ys[i].2.1->acc.length<=sizeLine ->
   (∀ h',h'.DictOfH knd d (storedH acc ys[i].1 ys[i].2.1 ys[i].2.2)->Heap.SameBut d s.heap h'->R (.yield PUnit.unit) { s with heap:=h' })->wpAny (model prog w) A (f i PUnit.unit) R E s) :
  ∀ (m i:Nat) (s:JO) (acc:List (K × JI × Jo)),i+m=ys.length->s.heap.get? o=some ob->s.heap.DictOfH knd d acc->(∀ x∈ys,knd.is s.heap x.1 x.2.1)->acc.length+m<=sizeLine ->
  (∀ h',h'.DictOfH knd d (mergeN acc (ys.drop i))->Heap.SameBut d s.heap h'->Q PUnit.unit { s with heap:=h' })->wpAny (model prog w) A (forIn (List.range' i m) PUnit.unit f) Q E s
 | 0,i,s,acc,hi,g,b,e,n,q=>by
  rw[List.range'_zero,YS];refine J9 (q s.heap ?_ (Heap.SameBut.refl _ _));rw[List.drop_eq_nil_of_le (by simp_all)]
  exact b
 | m+1,i,s,acc,hi,g,b,e,n,q=>by
  have a:i<ys.length:=by lia
  rw[show List.range' i (m+1)=i::List.range' (i+1) m from rfl,Yz];refine J0 (step i a s acc _ g b (e _ (Yf a)) (by lia) λh' k c=>?_);obtain⟨B,v,y,u,G,t,F,D,C⟩:=b;have l:h'.get? o=some ob:=by rw[c.2 o (λz=>ne z.symm)];exact g
  refine vW ne step m (i+1) { s with heap:=h' } _ (by lia) l k (λx p=>knd.keeps (e x p) u t c) ?_ λr j h=>q r ?_ (c.trans h)
  ·have:=gH acc ys[i]
   lia
  ·rw[Yj a]
   exact j
end
section
variable {prog:Yo}{w:YI}{A:YO}{E:Jo->JO->Prop}{s:JO}{d:JI}{K:Type}[DecidableEq K]{knd:HeapKind prog w K}{xs ys:List (K × JI × Jo)}
theorem bq {o:JI}{ob:Obj}{a:Array DictEntry}{k:Nat}{nm:String}{Q:Array DictEntry->JO->Prop}(j:s.heap.get? o=some ob)(i:ob.data=.dict a k)(f:a.toList=ys.map (entryOfKey knd))(l:ys.length<=1)(h:∀ x∈ys,∀ R:Bool->JO->Prop,R false s->wpAny (model prog w) A (Builtin.Dict.quietEq (.ref x.2.1)) R E s)(q:Q a s):wpAny (model prog w) A (Builtin.Dict.entriesForEmpty nm o) Q E s:=by
 show wpAny _ _ (dictEntries o >>= _) _ _ _;refine J0 (Yp j i (J0 ?_));rw[<- Array.forIn_toList];refine qm _ (λe d R r=>?_) (J9 q);rw[f]at d;obtain⟨x,g,rfl⟩:=Jx.mp d;refine J0 (h x g _ ?_)
 have b:¬(Array.filter (λz=>z.hash == (entryOfKey knd x).hash) a).size > 1:=by
  have n:=Array.size_filter_le (p:=λz:DictEntry=>z.hash == (entryOfKey knd x).hash) (xs:=a);have m:=ZW f;lia
 rw[Jh (c:=(!false)=true) rfl,Jc b];exact J9 r
theorem zcE {o2:Obj}{b c:Array DictEntry}{e:Nat}{y:K × JI × Jo}(f:s.heap.get? d=some o2)(k:o2.ExactDict)(a:o2.data=.dict c e)(j:b.toList=[y].map (entryOfKey knd))(i:knd.is s.heap y.1 y.2.1) :
  (s.heap.update d (Obj.mapDictKeys λ_=>b)).DictOfH knd d [y]:=by
 have g:=YY s.heap d (Obj.mapDictKeys λ_=>b);refine⟨_,_,_,Ye _ f (Obj.isFreed_of_dict (Obj.data_mapDictKeys a _)),k.mapDictKeys _,Obj.data_mapDictKeys a _,j,?_,by simp⟩;intro x h;rw[Jm.mp h];exact knd.keeps i f a g
theorem jJ {o:JI}{nm:String}{Q:Unit->JO->Prop}(M:knd.room A)(ne:d≠o)(P:(o == sysModules)=false)(hm:s.heap.DictOfH knd d xs)(hn:s.heap.DictOfH knd o ys)(hz:xs.length+ys.length<=sizeLine)(O:xs≠[]\/ys.length=1)(N:∀ x∈ys,∀ R:Bool->JO->Prop,R false s->wpAny (model prog w) A (Builtin.Dict.quietEq (.ref x.2.1)) R E s)(q:∀ h',h'.DictOfH knd d (mergeN xs ys)->Heap.SameBut d s.heap h'->Q () { s with heap:=h' }):wpAny (model prog w) A (Builtin.Dict.mergeDict nm d o) Q E s:=by
 obtain⟨ob,h,t,g,X,b,l,G,W⟩:=id hn;obtain⟨V,r,U,I,T,H,S,Z,Y⟩:=id hm
 have sz:([:h.size]:Std.Legacy.Range).size=ys.length:=by
  rw[<- ZW l];simp[Std.Legacy.Range.size]
 unfold Builtin.Dict.mergeDict;rw[Jc (by simpa using ne)];refine J0 ?_;unfold Builtin.Dict.showsAll;rw[Jc (by rw[P];simp)];refine J9 (J0 (Yp g b ?_));dsimp only;by_cases p:(!(decide (h.size<=8) && h.all λe=>(keyPart e.key).isSome))=true
 ·rw[Jh p]
  refine J0 (Yp I H ?_);by_cases em:r.isEmpty=true
  ·rw[Jh em]
   have e2:r.size=0:=by simpa using em
   have L:xs=[]:=by
    rw[ZW S]at e2;exact List.eq_nil_of_length_eq_zero e2
   have K:ys.length=1:=O.resolve_left λz=>z L;have u:h.size=1:=(ZW l).trans K;refine J0 (bq g b l (by simp_all) N ?_);rw[Jh (c:=(!h.isEmpty)=true) (by simp;intro z;rw[z]at u;cases u)];refine J0 (wpAny_updateDictKeys I H (J9 (q _ ?_ (YY _ _ _))) (by rw[e2];exact JN _) (by rw[u];lia));obtain⟨y,rfl⟩:=List.length_eq_one_iff.mp K;subst L;exact zcE I T H l (G y Jz)
  ·rw[Jc em]
   refine J0 (Yr g b (J0 (Yp g b (J0 ?_))));refine(JP (λm=>wpAny (model prog w) A m _ E s) (Std.Legacy.Range.forIn_eq_forIn_range' _ _ _)).mpr ?_;rw[sz];refine vW (ob:=ob) (ys:=ys) ne (λi F s acc R n C D v B=>?_) ys.length 0 s xs (by lia) g hm G hz λh' a f=>J9 (q h' a f);have J:h[i]?=some (entryOfKey knd ys[i]):=by rw[entry_at l,J6 F];rfl
   refine J0 (Yp n b ?_);rw[J];refine J0 (JX (si (k:=ys[i].1) M D C v λh' a f=>?_));have j:h'.get? o=some ob:=by rw[f.2 o (λz=>ne z.symm)];exact n
   refine J0 (Yr (s:={ s with heap:=h' }) j b ?_);rw[Jc (c:=(t != t)=true) (by simp)];exact J9 (B h' a f)
 ·rw[Jc p]
  refine J0 (Yr g b (J0 (Yp g b (J0 ?_))));refine(JP (λm=>wpAny (model prog w) A m _ E s) (Std.Legacy.Range.forIn_eq_forIn_range' _ _ _)).mpr ?_;rw[sz];refine vW (ob:=ob) (ys:=ys) ne (λi F s acc R n C D v B=>?_) ys.length 0 s xs (by lia) g hm G hz λh' a f=>J9 (q h' a f);have J:h[i]?=some (entryOfKey knd ys[i]):=by rw[entry_at l,J6 F];rfl
  refine J0 (Yp n b ?_);rw[J];refine J0 (JX (si (k:=ys[i].1) M D C v λh' a f=>?_));have j:h'.get? o=some ob:=by rw[f.2 o (λz=>ne z.symm)];exact n
  refine J0 (Yr (s:={ s with heap:=h' }) j b ?_);rw[Jc (c:=(t != t)=true) (by simp)];exact J9 (B h' a f)
theorem bP {a:JI}{k:KN}{R:Bool->JO->Prop}(h:NIs prog w s.heap k a)(r:R false s):wpAny (model prog w) A (Builtin.Dict.quietEq (.ref a)) R E s:=by
 obtain⟨o,d,n,c,b,f,e⟩:=h;exact J0 (Zm (T:="tuple") ⟨o,c,b⟩ F.slot_tuple_eq.lookup (J9 r))
theorem nj {o:JI}{Q:Jo->JO->Prop}(f:knd.room A)(ne:d≠o)(i:(o == sysModules)=false)(hm:s.heap.DictOfH knd d xs)(hn:s.heap.DictOfH knd o ys)(hz:xs.length+ys.length<=sizeLine)(h:xs≠[]\/ys.length=1)(g:∀ x∈ys,∀ R:Bool->JO->Prop,R false s->wpAny (model prog w) A (Builtin.Dict.quietEq (.ref x.2.1)) R E s)(q:∀ h',h'.DictOfH knd d (mergeN xs ys)->Heap.SameBut d s.heap h'->Q .none { s with heap:=h' }):wpAny (model prog w) A (Builtin.«dict.update» ⟨[.ref d,.ref o],[]⟩) (λfin e=>∃ r,fin=.done (.ret r)/\Q r e) E s:=by
 have ty:=hn.typeIs;unfold Builtin.«dict.update»;refine J0 ?_;show wpAny _ _ (Builtin.Dict.notOrdered "update" ⟨[Value.ref d,Value.ref o],[]⟩ >>= _) _ _ _;refine J0 (wpAny_notOrdered_dict (s:=s) hm.typeIs ?_);show wpAny _ _ (pure (d,[Value.ref o])) _ _ _;refine J9 ?_;show wpAny _ _ (Builtin.Dict.updateFrom "dict.update" d (.ref o) [] .none) _ _ _;show wpAny _ _ (typeOf (Value.ref o) >>= _) _ _ _;refine J0 (Zp ty ?_);rw[Jc (by simp)];refine J0 ?_;unfold Builtin.Dict.merge Builtin.Dict.readDirectly;refine J0 (J0 (Zx (T:="dict") (b:=true) ty rfl ?_));rw[Jc (by simp)];refine J0 (Zm (T:="dict") ty F.slot_dict_iter.lookup (J9 ?_));rw[Jh (by decide)];refine J0 ?_;show wpAny _ _ (pure o) _ _ _;refine J9 (jJ f ne i hm hn hz h g λh' a c=>?_);refine J0 ?_;show wpAny _ _ (pure ()) _ _ _;exact J9 (J9 ⟨_,rfl,q h' a c⟩)
end
def mergeV (xs ys:KVN):KVN:=ys.foldl (λacc y=>xJ acc y.1 y.2.1 y.2.2) xs
theorem mergeV_rel:∀ {ys:KVN}{us:List (KN × JI × Jo)}{xs:KVN}{vs:List (KN × JI × Jo)},Paired PrN ys us->Paired PrN xs vs->Paired PrN (mergeV xs ys) (mergeN vs us):=by
 intro ys us xs vs r
 induction r generalizing xs vs with
 | nil=>intro q;exact q
 | @cons p u a us h t ih =>
  intro q;have e:=putN_rel q p.1 p.2.1 h.2.2;rw[show storedH vs p.1 p.2.1 u.2.2=storedH vs u.1 u.2.1 u.2.2 by rw[h.1,h.2.1]]at e;exact ih e
theorem mergeV_len:∀ (ys xs:KVN),(mergeV xs ys).length<=xs.length+ys.length
 | [],xs=>Je _
 | y::ys,xs=>by
  have b:=mergeV_len ys (xJ xs y.1 y.2.1 y.2.2);have a:=vw xs y.1 y.2.1 y.2.2;show (mergeV (xJ xs y.1 y.2.1 y.2.2) ys).length<=_;rw[JL];lia
section
variable {X:Cx}{pins:List (JI × Obj)}{σ:St}{H:Hp}{s:JO}{a b:JI}{xs ys:KVN}{A:YO}{E:Jo->JO->Prop}
theorem aP {Q:Jo->JO->Prop}(p:A.units+3<cLine)(ne:a≠b)(I:Inv X pins σ H s)(j:H a=some (DN X.prog X.w a xs))(m:KsIn H xs)(D:Rd H b (DN X.prog X.w b ys))(l:KsIn H ys)(hz:xs.length+ys.length<=sizeLine)(v:xs≠[]\/ys.length=1)(h:∀ i,Inv X pins σ (upd H a (DN X.prog X.w a (mergeV xs ys))) i->Q .none i):wpAny (model X.prog X.w) A (call (.builtin "dict.update") [.ref a,.ref b]) Q E s:=by
 obtain⟨z,y,G,rel,k⟩:=uI I.hok (.inl j) m;obtain⟨F,g,J,c,d⟩:=uI I.hok D l;refine Y1 PySem.F.slot_dict_update k.typeIs PySem.F.entry_dict_update (nj (mJ p) ne g k d (by rw[<- YR rel,<- YR c];exact hz) ?_ ?_ λC f t=>h _ ?_) (PySem.F.args_dict_update_2 _ _)
 ·rcases v with z|z
  ·refine .inl λe=>z ?_
   subst e;cases rel;rfl
  ·exact .inr (by rw[<- YR c];exact z)
 ·intro x n R r
  obtain⟨o,P,S,O,N,M,L,B,K⟩:=d;exact bP (B x n) r
 ·have w:∃ q,C.get? a=some q:=let ⟨q,_,_,u,_⟩:=f;⟨q,u⟩
  exact tZ I (by rw[j];exact True.intro) t w (dn_new (JS (mergeV_len _ _) hz) y (mergeV_rel c rel) f)
end
def zdj (P:Yo)(w:YI)(g ty:TE):TE:=λσ H Q=>g σ H λx f=>∃ a,x=.ref a/\(∃ c,Rd f a (DN P w a c))/\ty σ f λy e=>∃ b c d,y=.ref b/\a≠b/\e a=some (DN P w a c)/\KsIn e c/\NAt P w e b d/\c.length+d.length<=sizeLine/\(c≠[]\/d.length=1)/\Q .non (upd e a (DN P w a (mergeV c d)))
theorem za4 {X:Cx}{o e:Expr}{apos cpos:Pos}{c ty:TE}(w:X.A.units+3<cLine) (z:PE X o c) (B:PE X e ty) (m:M1 X o "update" apos e cpos):PE X (.Call (.Attribute o "update" apos) [e] [] cpos) (zdj X.prog X.w c ty):=by
 intro pins s σ H Q I h;refine wpAny_Call_method m.base m.few m.line PySem.F.plainAttrs_dict PySem.F.slot_dict_update PySem.F.type_dict_update (thn (z pins s σ H _ I h) λu j ⟨x,G,f,l,a,ex,⟨J,d⟩,q⟩=>?_);subst ex;cases (show u=Value.ref a from l);obtain⟨i,g⟩:=jG f d;refine⟨i,g,?_⟩;rw[m.trees];refine W6 rfl (Calls.evalArgs_plain (Zz (thn (B pins j σ G _ f q) λt N ⟨y,O,F,k,b,L,K,C,ne,D,r,n,v,A,p⟩=>W5 ?_)));subst C;cases (show t=Value.ref b from k);exact aP w ne F D r n.1 n.2 v A λM E=>⟨.non,_,E,rfl,p⟩
section
variable {prog:Yo}{w:YI}{A:YO}{E:Jo->JO->Prop}{s:JO}{d:JI}{o:Obj}{es:Array DictEntry}{ep:Nat}
theorem eR {Q:Jo->JO->Prop}(a:s.heap.get? d=some o) (e:o.ExactDict) (hd:o.data=.dict es ep) (f:(d == sysModules)=false)
  (q:Q (.ref s.heap.objs.size) { s with heap:=s.heap.push { cls:=.type "dict_keyiterator",data:=.fields #[.ref d,.int 0 0,.int es.size 0,.int ep 0] } }):wpAny (model prog w) A (pyIter (.ref d)) Q E s:=by
 have ty:s.TypeIs (.ref d) "dict":=⟨o,a,e.1⟩;have nx:=F.slot_dict_keyiterator_next.lookup
 have body:wpAny (model prog w) A.in1 (Builtin.«dict.__iter__» ⟨[.ref d],[]⟩) (λfin b=>∃ v,fin=.done (.ret v)/\∃ c r,b.TypeIs v c/\typeLookup (Value.type c) (Str.ofString "__next__")=pure (some r)/\Q v b) E s:=by
  unfold Builtin.«dict.__iter__» Builtin.Dict.dictSlotNone;refine J0 (J0 (wpAny_notOrdered_dict ty (J0 ?_)));show wpAny _ _ (pure ((.ref d,[]):Jo × List Jo)) _ _ _;refine J9 (J9 (J0 ?_));refine(show wpAny _ _ (pure d) _ _ _ from J9 (J0 ?_));unfold Builtin.Dict.showsAll;rw[Jc (by rw[f];simp)];refine J9 (J0 (Yp a hd (J0 (Yr a hd (J0 ?_)))));exact JZ (J9 ⟨_,rfl,_,_,⟨_,Jt _ rfl,rfl⟩,nx,q⟩)
 exact wpAny_pyIter_slot ty F.slot_dict_iter (Y1 F.slot_dict_iter ty F.entry_dict_iter body (F.args_dict_iter_1 _))
end
section
variable {prog:Yo}{w:YI}{A:YO}{E:Jo->JO->Prop}{s:JO}{d it:JI}{o:Obj}{es:Array DictEntry}{ep i:Nat}{e:DictEntry}
theorem fX {Q:Jo->JO->Prop}(m:s.heap.get? d=some o)(hd:o.data=.dict es ep)(hi:s.heap.IsKeyIter it d i es.size ep)(r:es[i]?=some e)(q:∀ h',h'.IsKeyIter it d (i+1) es.size ep->(∀ b u,b≠it->s.heap.get? b=some u->h'.get? b=some u)->Q e.key { s with heap:=h' }) :
  wpAny (model prog w) A (Builtin.«dict_keyiterator.__next__» ⟨[.ref it],[]⟩) (λfin p=>∃ v,fin=.done (.ret v)/\Q v p) E s:=by
 obtain⟨k,f,h,g⟩:=id hi;have ty:s.TypeIs (.ref it) "dict_keyiterator":=⟨k,f,h⟩;unfold Builtin.«dict_keyiterator.__next__»;refine J0 ?_;show wpAny _ _ (pure (Value.ref it)) _ _ _;refine J9 (J0 (J0 (J0 (Wm ty (J9 (J0 (wpAny_fieldsOf f g ?_)))))));show wpAny _ _ (Builtin.Dict_items.addrOf (Value.ref d) >>= _) _ _ _;refine J0 (show wpAny _ _ (pure d) _ _ _ from J9 (J0 (Yp m hd ?_)));dsimp only;rw[Jc (c:=((es.size:Int) != (es.size:Int))=true) (by simp)];refine J0 (show wpAny _ _ (pure d) _ _ _ from J9 (J0 (Yr m hd ?_)));rw[Jc (c:=((ep:Int) != (ep:Int))=true) (by simp)];refine J9 ?_;dsimp only;rw[Jc (c:=(i:Int)<0) (by simp_all),Yw,r];refine J0 (J0 (Wm ty (J9 (J0 (wpAny_isOneOf_keyiter ty ?_)))));show wpAny _ _ (setField (.ref it) 1 (rawInt ((i:Int)+1)) >>= _) _ _ _;refine J0 (wpAny_setField f g (by show 1<4;lia) ?_);have l:(k.mapFields (·.setIfInBounds 1 (rawInt ((i:Int)+1)))).data=.fields #[.ref d,.int ((i+1:Nat):Int) 0,.int es.size 0,.int ep 0]:=Obj.data_mapFields g _;have n:=YY s.heap it (Obj.mapFields (·.setIfInBounds 1 (rawInt ((i:Int)+1))));have a:=Ye (Obj.mapFields (·.setIfInBounds 1 (rawInt ((i:Int)+1)))) f (Obj.isFreed_of_fields l);have j:(s.heap.update it (Obj.mapFields (·.setIfInBounds 1 (rawInt ((i:Int)+1))))).IsKeyIter it d (i+1) es.size ep:=⟨_,a,(Obj.cls_mapFields ..).trans h,l⟩;refine J0 (JX (J0 (wpAny_isOneOf_keyiter ⟨_,a,(Obj.cls_mapFields ..).trans h⟩ ?_)));exact J9 (J9 ⟨_,rfl,q _ j λb u nb t=>(n.2 b nb).trans t⟩)
theorem aM {Q:Option Jo->JO->Prop}(f:s.heap.get? d=some o)(hd:o.data=.dict es ep)(hi:s.heap.IsKeyIter it d i es.size ep)(g:es[i]?=some e)(q:∀ h',h'.IsKeyIter it d (i+1) es.size ep->(∀ b u,b≠it->s.heap.get? b=some u->h'.get? b=some u)->Q (some e.key) { s with heap:=h' }):wpAny (model prog w) A (pyNext (.ref it)) Q E s:=by
 obtain⟨c,j,h,l⟩:=id hi;have ty:s.TypeIs (.ref it) "dict_keyiterator":=⟨c,j,h⟩;unfold pyNext;exact J0 (Ze (wpAny_callSpecial?_slot ty Wq (Y1 Wq ty F.entry_dict_keyiterator_next (fX f hd hi g λh' a k=>J9 (q h' a k)) (F.args_dict_keyiterator_next_1 _))))
theorem eD {Q:Fin->JO->Prop}(h:A.handled=none) (e:s.heap.get? d=some o) (hd:o.data=.dict es ep) (hi:s.heap.IsKeyIter it d i es.size ep) (j:es[i]?=none)
  (q:∀ h' ev,Heap.ExtBut it s.heap h'->({ s with heap:=h' }:JO).TypeIs ev "StopIteration"->E ev { s with heap:=h' }) :
  wpAny (model prog w) A (Builtin.«dict_keyiterator.__next__» ⟨[.ref it],[]⟩) Q E s:=by
 obtain⟨g,a,l,f⟩:=id hi;have ty:s.TypeIs (.ref it) "dict_keyiterator":=⟨g,a,l⟩;unfold Builtin.«dict_keyiterator.__next__»;refine J0 ?_;show wpAny _ _ (pure (Value.ref it)) _ _ _;refine J9 (J0 (J0 (J0 (Wm ty (J9 (J0 (wpAny_fieldsOf a f ?_)))))));show wpAny _ _ (Builtin.Dict_items.addrOf (Value.ref d) >>= _) _ _ _;refine J0 (show wpAny _ _ (pure d) _ _ _ from J9 (J0 (Yp e hd ?_)));dsimp only;rw[Jc (c:=((es.size:Int) != (es.size:Int))=true) (by simp)];refine J0 (show wpAny _ _ (pure d) _ _ _ from J9 (J0 (Yr e hd ?_)));rw[Jc (c:=((ep:Int) != (ep:Int))=true) (by simp)];refine J9 ?_;dsimp only;rw[Jc (c:=(i:Int)<0) (by lia),Yw,j];refine J0 (J0 (Wm ty (J9 (J0 ?_))));show wpAny _ _ (setField (.ref it) 0 .none) _ _ _;refine wpAny_setField a f (by show 0<4;lia) (J0 ?_);unfold newExc newTuple;refine J0 (JZ ?_ (by show 0<=sizeLine;exact JN _));unfold firstArgMember;refine J0 (J0 (J9 (J9 (JZ (wpAny_raiseNew_none h ?_) ?_))))
 rotate_left
 ·show (_++_:Array Jo).size<=sizeLine+2
  rw[YC];show 6+0<=sizeLine+2;rw[JW];lia
 refine q _ _ (λb u nb k=>?_) ⟨_,Jt _ rfl,rfl⟩;exact J7 _ (J7 _ (((YY s.heap it _).2 b nb).trans k))
theorem aN {Q:Option Jo->JO->Prop}(e:A.handled=none)(c:s.heap.get? d=some o)(hd:o.data=.dict es ep)(hi:s.heap.IsKeyIter it d i es.size ep)(f:es[i]?=none)(q:∀ h',Heap.ExtBut it s.heap h'->Q none { s with heap:=h' }):wpAny (model prog w) A (pyNext (.ref it)) Q E s:=by
 obtain⟨b,h,g,j⟩:=id hi;have ty:s.TypeIs (.ref it) "dict_keyiterator":=⟨b,h,g⟩;unfold pyNext;refine J0 (Ze (wpAny_callSpecial?_slot ty Wq (Y1 Wq ty F.entry_dict_keyiterator_next (eD e c hd hi f λh' ev k a=>?_) (F.args_dict_keyiterator_next_1 _))));exact J0 (Zx a isSubtype_stop (J9 (q h' k)))
end
section
variable {X:Cx}{pins:List (JI × Obj)}{σ:St}{H:Hp}{s:JO}{d:JI}{o:Obj}{xs:KVN}
theorem Inv.freezeN (I:Inv X pins σ H s)(hd:H d=some (DN X.prog X.w d xs)):∃ o a b,s.heap.get? d=some o/\o.ExactDict/\o.data=.dict a b/\a.size=xs.length/\(d == sysModules)=false/\Inv X pins σ (upd H d (.frz o (DN X.prog X.w d xs))) s:=by
 obtain⟨g,o,a,b,c,i,h,l,_⟩:=iD I.hok (.inl hd);refine⟨o,a,b,c,i,h,l,g,I.reword hd (λxs q=>by cases q) (λxs q=>by cases q) (λxs q=>by cases q) (λf e q=>?_) ⟨c,(show ObjOk X.prog X.w H s.heap d (DN X.prog X.w d xs) from I.hok d _ hd)⟩⟩;have:=I.base.frzs d f e q;rw[hd]at this;cases this
theorem Inv.thawN (I:Inv X pins σ H s)(hd:H d=some (.frz o (DN X.prog X.w d xs)))(b:∀ o' a,X.H₀ d≠some (.frz o' a)):Inv X pins σ (upd H d (DN X.prog X.w d xs)) s:=by
 obtain⟨_,r⟩:=(show ObjOk X.prog X.w H s.heap d (.frz o (DN X.prog X.w d xs)) from I.hok d _ hd);exact I.reword hd (λxs q=>by cases q) (λxs q=>by cases q) (λxs q=>by cases q) b r
theorem Inv.meltedN (I:Inv X pins σ H s){ys:KVN}(hd:H d=some (DN X.prog X.w d ys)):∀ o' a,X.H₀ d≠some (.frz o' a):=λo' a q=>by
 have:=I.base.frzs d o' a q;rw[hd]at this;cases this
theorem Inv.walkedN {c:Array DictEntry}{h:Nat}(I:Inv X pins σ H s)(hd:H d=some (.frz o (DN X.prog X.w d xs)))(e:o.data=.dict c h):s.heap.get? d=some o/\∃ vs,Paired PrN xs vs/\c.toList=vs.map (entryOfKey (xF X.prog X.w)):=by
 obtain⟨g,⟨z,l,vs,r,k,i,j,b,n,a,f,m⟩,_,_⟩:=(show ObjOk X.prog X.w H s.heap d (.frz o (DN X.prog X.w d xs)) from I.hok d _ hd);rw[g]at b;obtain rfl:=Jq b;rw[e]at a;cases a;exact⟨g,vs,r,f⟩
end
theorem zdA {xs:KVN}{vs:List (KN × JI × Jo)}(r:Paired PrN xs vs):∀ {i:Nat}{p:KN × JI × V},xs[i]?=some p->∃ q,vs[i]?=some q/\PrN p q:=by
 induction r with
 | nil=>intro i p h;cases h
 | cons q t ih =>
  intro i p h
  cases i with
  | zero=>cases Jq h;exact⟨_,rfl,q⟩
  | succ i=>exact ih h
section
variable {prog:Yo}{w:YI}{A:YO}{E:Jo->JO->Prop}{s:JO}{d it:JI}{o:Obj}{es:Array DictEntry}{ep i:Nat}{e:DictEntry}{k0 v0:Jo}
theorem jF {Q:Jo->JO->Prop}(y:s.heap.get? d=some o) (hd:o.data=.dict es ep) (hi:IsItemIter s.heap it d i es.size ep k0 v0) (C:es[i]?=some e)
  (q:∀ h',IsItemIterOut h' it d (i+1) es.size ep e.key e.val s.heap.objs.size->h'.get? s.heap.objs.size=some { cls:=.type "tuple",data:=.seq #[e.key,e.val] }->(∀ b u,b≠it->s.heap.get? b=some u->h'.get? b=some u)->Q (.ref s.heap.objs.size) { s with heap:=h' }) :
  wpAny (model prog w) A (Builtin.«dict_itemiterator.__next__» ⟨[.ref it],[]⟩) (λfin B=>∃ v,fin=.done (.ret v)/\Q v B) E s:=by
 have ty:s.TypeIs (.ref it) "dict_itemiterator":=⟨_,hi,rfl⟩;unfold Builtin.«dict_itemiterator.__next__»;refine J0 ?_;show wpAny _ _ (pure (Value.ref it)) _ _ _;refine J9 (J0 (J0 (J0 (Wh ty (J9 (J0 (wpAny_fieldsOf hi rfl ?_)))))));show wpAny _ _ (Builtin.Dict_items.addrOf (Value.ref d) >>= _) _ _ _;refine J0 (show wpAny _ _ (pure d) _ _ _ from J9 (J0 (Yp y hd ?_)));dsimp only;rw[Jc (c:=((es.size:Int) != (es.size:Int))=true) (by simp)];refine J0 (show wpAny _ _ (pure d) _ _ _ from J9 (J0 (Yr y hd ?_)));rw[Jc (c:=((ep:Int) != (ep:Int))=true) (by simp)];refine J9 ?_;dsimp only;rw[Jc (c:=(i:Int)<0) (by lia),Yw,C];refine J0 (J0 (Wh ty (J9 (J0 (wpAny_isOneOf_itemiter ty ?_)))));show wpAny _ _ (setField (.ref it) 3 (rawInt ((i:Int)+1)) >>= _) _ _ _;refine J0 (Y8 hi (by show 3<8;lia) λa h g=>J0 (JX (J0 (wpAny_isOneOf_itemiter ⟨_,h,rfl⟩ ?_))));show wpAny _ _ (Builtin.Dict_items.isOneOf _ _ >>= _) _ _ _;refine J0 (wpAny_isOneOf_itemiter ⟨_,h,rfl⟩ ?_);show wpAny _ _ (Builtin.Dict_items.pairFromOwner (.ref it) 6 e.key e.val) _ _ _;unfold Builtin.Dict_items.pairFromOwner newTuple;refine J0 (JZ ?_ (by show 2<=sizeLine;decide));have f:=J7 { cls:=Value.type "tuple",data:=Data.seq #[e.key,e.val] } h;have k:=Jt a (o:={ cls:=Value.type "tuple",data:=Data.seq #[e.key,e.val] }) rfl;have t:a.objs.size≠it:=JT (Jd h);have sz:a.objs.size=s.heap.objs.size:=g.1;have x:∀ b u,b≠it->s.heap.get? b=some u->(a.push { cls:=Value.type "tuple",data:=Data.seq #[e.key,e.val] }).get? b=some u:=λb u nb j=>J7 _ ((g.2 b nb).trans j);show wpAny (model prog w) A _ _ E { s with heap:=a.push { cls:=Value.type "tuple",data:=Data.seq #[e.key,e.val] } };generalize a.push { cls:=Value.type "tuple",data:=Data.seq #[e.key,e.val] }=h2 at f k x;show wpAny _ _ ((field (.ref it) 0 >>= _) >>= _) _ _ _;refine J0 (J0 (Wk f rfl rfl ?_));show wpAny _ _ (pure true) _ _ _;refine J9 ?_;show wpAny _ _ (field (.ref it) 6 >>= _) _ _ _;refine J0 (Wk f rfl rfl (J0 (Wk f rfl rfl ?_)));refine J0 (Y8 f (by show 6<8;lia) λK H p=>J0 (Y8 H (by show 7<8;lia) λJ G n=>J0 (Y8 G (by show 0<8;lia) λI F m=>J0 (Y8 F (by show 1<8;lia) λD z l=>J0 (Zy ?_)))));have r:=((p.trans n).trans m).trans l;refine J9 (J9 ⟨_,rfl,?_⟩);show Q (.ref a.objs.size) _;rw[sz]at k z t ⊢;exact q D z ((r.2 _ t).trans k) λb u nb j=>(r.2 b nb).trans (x b u nb j)
theorem fJ {Q:Option Jo->JO->Prop}(a:s.heap.get? d=some o) (hd:o.data=.dict es ep) (hi:IsItemIter s.heap it d i es.size ep k0 v0) (c:es[i]?=some e)
  (q:∀ h',IsItemIterOut h' it d (i+1) es.size ep e.key e.val s.heap.objs.size->h'.get? s.heap.objs.size=some { cls:=.type "tuple",data:=.seq #[e.key,e.val] }->(∀ b u,b≠it->s.heap.get? b=some u->h'.get? b=some u)->Q (some (.ref s.heap.objs.size)) { s with heap:=h' }):wpAny (model prog w) A (pyNext (.ref it)) Q E s:=by
 have ty:s.TypeIs (.ref it) "dict_itemiterator":=⟨_,hi,rfl⟩;unfold pyNext;exact J0 (Ze (wpAny_callSpecial?_slot ty Wn (Y1 Wn ty F.entry_dict_itemiterator_next (jF a hd hi c λh' h g f=>J9 (q h' h g f)) (F.args_dict_itemiterator_next_1 _))))
theorem jU {Q:Fin->JO->Prop}(e:A.handled=none) (a:s.heap.get? d=some o) (hd:o.data=.dict es ep) (hi:IsItemIter s.heap it d i es.size ep k0 v0) (f:es[i]?=none)
  (q:∀ h' ev,Heap.ExtBut it s.heap h'->({ s with heap:=h' }:JO).TypeIs ev "StopIteration"->E ev { s with heap:=h' }) :
  wpAny (model prog w) A (Builtin.«dict_itemiterator.__next__» ⟨[.ref it],[]⟩) Q E s:=by
 have ty:s.TypeIs (.ref it) "dict_itemiterator":=⟨_,hi,rfl⟩;unfold Builtin.«dict_itemiterator.__next__»;refine J0 ?_;show wpAny _ _ (pure (Value.ref it)) _ _ _;refine J9 (J0 (J0 (J0 (Wh ty (J9 (J0 (wpAny_fieldsOf hi rfl ?_)))))));show wpAny _ _ (Builtin.Dict_items.addrOf (Value.ref d) >>= _) _ _ _;refine J0 (show wpAny _ _ (pure d) _ _ _ from J9 (J0 (Yp a hd ?_)));dsimp only;rw[Jc (c:=((es.size:Int) != (es.size:Int))=true) (by simp)];refine J0 (show wpAny _ _ (pure d) _ _ _ from J9 (J0 (Yr a hd ?_)));rw[Jc (c:=((ep:Int) != (ep:Int))=true) (by simp)];refine J9 ?_;dsimp only;rw[Jc (c:=(i:Int)<0) (by lia),Yw,f];refine J0 (J0 (Wh ty (J9 (J0 ?_))));show wpAny _ _ (setField (.ref it) 2 .none) _ _ _;refine wpAny_setField hi rfl (by show 2<8;lia) (J0 ?_);unfold newExc newTuple;refine J0 (JZ ?_ (by show 0<=sizeLine;exact JN _));unfold firstArgMember;refine J0 (J0 (J9 (J9 (JZ (wpAny_raiseNew_none e ?_) ?_))))
 rotate_left
 ·show (_++_:Array Jo).size<=sizeLine+2
  rw[YC];show 6+0<=sizeLine+2;rw[JW];lia
 refine q _ _ (λb u nb g=>?_) ⟨_,Jt _ rfl,rfl⟩;exact J7 _ (J7 _ (((YY s.heap it _).2 b nb).trans g))
theorem fQ {Q:Option Jo->JO->Prop}(c:A.handled=none)(b:s.heap.get? d=some o)(hd:o.data=.dict es ep)(hi:IsItemIter s.heap it d i es.size ep k0 v0)(e:es[i]?=none)(q:∀ h',Heap.ExtBut it s.heap h'->Q none { s with heap:=h' }):wpAny (model prog w) A (pyNext (.ref it)) Q E s:=by
 have ty:s.TypeIs (.ref it) "dict_itemiterator":=⟨_,hi,rfl⟩;unfold pyNext;refine J0 (Ze (wpAny_callSpecial?_slot ty Wn (Y1 Wn ty F.entry_dict_itemiterator_next (jU c b hd hi e λh' ev k a=>?_) (F.args_dict_itemiterator_next_1 _))));exact J0 (Zx a isSubtype_stop (J9 (q h' k)))
theorem jV {v:JI}{Q:Jo->JO->Prop}(b:s.heap.IsItemsView v d) (c:s.heap.get? d=some o) (hd:o.data=.dict es ep)
  (q:Q (.ref s.heap.objs.size) { s with heap:=s.heap.push { cls:=.type "dict_itemiterator",data:=.fields #[.none,.bool false,.ref d,.int 0 0,.int es.size 0,.int ep 0,.none,.none] } }):wpAny (model prog w) A (pyIter (.ref v)) Q E s:=by
 obtain⟨i,g,h,f⟩:=id b;have ty:=b.typeIs;have nx:=F.slot_dict_itemiterator_next.lookup
 have body:wpAny (model prog w) A.in1 (Builtin.«dict_items.__iter__» ⟨[.ref v],[]⟩) (λfin a=>∃ v,fin=.done (.ret v)/\∃ e r,a.TypeIs v e/\typeLookup (Value.type e) (Str.ofString "__next__")=pure (some r)/\Q v a) E s:=by
  unfold Builtin.«dict_items.__iter__» Builtin.Dict_items.newIterator;refine J0 (show wpAny _ _ (pure (Value.ref v)) _ _ _ from J9 (J0 (J0 (Wk g f rfl ?_))));refine(show wpAny _ _ (pure d) _ _ _ from J9 (J0 ?_));refine J0 (Yp c hd (J0 (Yr c hd ?_)));refine JZ (J9 ⟨_,rfl,_,_,⟨_,Jt _ rfl,rfl⟩,nx,q⟩) ?_;show 8<=sizeLine+2;rw[JW];lia
 exact wpAny_pyIter_slot ty F.slot_dict_items_iter (Y1 F.slot_dict_items_iter ty F.entry_dict_items_iter body (F.args_dict_items_iter_1 _))
end
def Itni (P:Yo)(w:YI)(d:JI)(o:Obj)(xs:KVN):It:=⟨λi H=>H d=some (.frz o (DN P w d xs))/\i<xs.length,λi H x a=>∃ p T,xs[i]?=some p/\H T=none/\x=.ref T/\a=upd H T (.tup [.ref p.2.1,p.2.2]),λi H=>H d=some (.frz o (DN P w d xs))/\i=xs.length⟩
theorem np {P:Yo}{w:YI}{K:Jl}{F:List Expr}{k1}{T:Pos}(d it:JI)(o:Obj)(xs:KVN){n:Array DictEntry}{O:Nat}(j:o.data=.dict n O)(hl:n.size=xs.length):Turn P w K (.Tuple F k1 T) (Itni P w d o xs) [it] it (λi h=>∃ a b,IsItemIter h it d i n.size O a b) where
 mem:=Jm.mpr rfl
 obj:=λi h ⟨a,b,st⟩ c m=>by
  cases Jm.mp m;exact⟨_,st,λv z=>by cases z⟩
 keep:=λi h Z ⟨a,b,st⟩ k=>⟨a,b,k it (Jm.mpr rfl) _ st⟩
 item:=by
  intro X B x C m i pins s σ H E I l ⟨a,b,st⟩ ⟨A,M⟩;subst B x C;obtain⟨g,R,r,Q⟩:=I.walkedN A j;have f:=l it (Jm.mpr rfl);obtain⟨p,N⟩:∃ p,xs[i]?=some p:=⟨_,J6 M⟩;obtain⟨q,V,J⟩:=zdA r N;have ei:n[i]?=some (entryOfKey (xF X.prog X.w) q):=by rw[entry_at Q,V];rfl
  have L:s.heap.objs.size≠it:=JT (Jd st);refine fJ g j st ei λh1 U Y t=>⟨_,rfl,wpAny_letOwnedTupleGo_items U λh2 D G=>?_⟩;have S:RelV (.ref p.2.1) (Value.ref q.2.1):=by show Value.ref q.2.1=Value.ref p.2.1;rw[J.2.1]
  refine⟨.ref s.heap.objs.size,upd H s.heap.objs.size (.tup [.ref p.2.1,p.2.2]),I.spunN (t':=s.toks) (fp:=[it]) (λc u y e=>?_) l (Je _) (uB ((G.2 _ L).trans Y) S J.2.2),rfl,⟨p,_,N,I.fresh,rfl,rfl⟩,⟨_,_,D⟩,λc y=>?_⟩
  ·have ne:c≠it:=λz=>y (Jm.mpr z)
   exact(G.2 c ne).trans (t c u ne e)
  ·cases Jm.mp y
   rw[zG L.symm];exact f.1
 done:=by
  intro X B x C m i pins s σ H E I l ⟨a,b,st⟩ ⟨A,M⟩;subst B x C;obtain⟨g,R,r,Q⟩:=I.walkedN A j;obtain⟨f0,f1,f2,f3,f4,f5⟩:=l it (Jm.mpr rfl);exact fQ (I.ok.hd m) g j st (Array.getElem?_eq_none (by simp_all)) λZ t=>⟨rfl,I.turned (t':=s.toks) (λc u W e=>t c u W e) f0 f1 f3 f4 f5⟩
 self:=λ_ _ _ _ _ ⟨_,_,st⟩ h=>PySem.W.kcp_self st h
section
variable {X:Cx}
def zbF (P:Yo)(w:YI)(c:TE):TI:=λσ H R=>c σ H λx b=>∃ d a,x=.ref d/\b d=some (DN P w d a)/\∀ o,R (Itni P w d o a) (upd b d (.frz o (DN P w d a)))
theorem jX {prog:Yo}{w:YI}{A:YO}{E:Jo->JO->Prop}{s:JO}{d:JI}{o:Obj}{Q:Jo->JO->Prop}(c:s.heap.get? d=some o) (a:o.ExactDict) (b:(d == sysModules)=false)
  (q:Q (.ref s.heap.objs.size) { s with heap:=s.heap.push { cls:=.type "dict_items",data:=.fields #[.ref d] } }):wpAny (model prog w) A (call (.builtin "dict.items") [.ref d]) Q E s:=by
 have ty:s.TypeIs (.ref d) "dict":=⟨o,c,a.1⟩;refine Y1 F.slot_dict_items ty F.entry_dict_items ?_ (F.args_dict_items_1 _);unfold Builtin.«dict.items» Builtin.Dict.showsAll;refine J0 ?_;show wpAny _ _ (Builtin.Dict.notOrdered "items" ⟨[Value.ref d],[]⟩ >>= _) _ _ _;refine J0 (wpAny_notOrdered_dict (s:=s) ty ?_);refine(show wpAny _ _ (pure d) _ _ _ from J9 ?_);rw[Jc (by rw[b];simp)];refine J0 (J9 (J0 (JZ (J9 ⟨_,rfl,q⟩) ?_)));show 1<=sizeLine+2;rw[JW];lia
theorem gf {l:Expr}{k:TE}{apos cpos z:Pos}{j:List Expr}{k1} (C:PE X l k) (c:attributeBase l "items" X.env (eval l X.env)=eval l X.env:=by rfl) (a:(apos.endLine == cpos.line)=true:=by rfl):PI X (.Tuple j k1 z) (.Call (.Attribute l "items" apos) [] [] cpos) (zbF X.prog X.w k):=by
 intro pins s σ H R I h;refine wpAny_Call_method0_late c a (thn (C pins s σ H _ I h) λv f ⟨x,K,p,y,d,r,ex,n,q⟩=>?_);subst ex;cases y;obtain⟨w,t⟩:=jG p (.inl n);obtain⟨o,G,J,g,A,m,le,B,F⟩:=p.freezeN n;refine⟨"dict","dict.items",PySem.F.plainAttrs_dict,PySem.F.slot_dict_items,PySem.F.type_dict_items,w,t,W6 rfl (PySem.evalArgs_none ?_)⟩;refine jX g A B ?_;have i:=F.kept (t':=f.toks) (h':=f.heap.push { cls:=.type "dict_items",data:=.fields #[.ref d] }) λb u e=>J7 _ e;have E:=J7 { cls:=.type "dict_items",data:=.fields #[.ref d] } g;refine jV (s:={ f with heap:=f.heap.push { cls:=.type "dict_items",data:=.fields #[.ref d] } }) ⟨_,Jt _ rfl,rfl,rfl⟩ E m ?_;refine⟨_,[_],_,_,_,rfl,i.kept (t':=f.toks) λb u e=>J7 _ e,np d _ o r m le,⟨_,_,Jt _ rfl⟩,λb D=>?_,q o⟩;cases Jm.mp D;exact i.fpOk (Je _) (i.hok.fresh (Je _))
end
end L2
namespace L2
open PySem PySem.Spec PyProof.Rows Own PySem.W
section
variable {prog:Yo}{w:YI}{d:JI}{o:Obj}{es:Array DictEntry}{ep:Nat}
theorem cX (j:o.ExactDict)(hd:o.data=.dict es ep)(r:(d == sysModules)=false):KdlSrc prog w "dict" d d es.size (λi v=>∃ e,es[i]?=some e/\v=e.key) (λh=>h.get? d=some o) where
 type:=λs a=>⟨o,a,j.1⟩
 there:=λh a=>⟨Jd a,Jd a⟩
 keep:=λh f a k=>k d (.inl rfl) _ a
 notList:=by decide
 notTuple:=by decide
 hint:=λA E s Q a q=>by
  have ty:s.TypeIs (.ref d) "dict":=⟨o,a,j.1⟩;show wpAny _ _ (specialOf (.ref d) _ >>= _) _ _ _;refine J0 (Zm (T:="dict") ty F.slot_dict_len.lookup ?_);show wpAny _ _ (isInstance (.ref d) (.type "dict") >>= _) _ _ _;refine J0 (Zx (T:="dict") (b:=true) ty rfl ?_);show wpAny _ _ (typeOf (.ref d) >>= _) _ _ _;exact J0 (Zp ty (J9 q))
 iter:=λA s t a=>by
  refine⟨{ cls:=.type "dict_keyiterator",data:=.fields #[.ref d,.int 0 0,.int es.size 0,.int ep 0] },λi h=>h.IsKeyIter s.heap.objs.size d i es.size ep/\h.get? d=some o,λE Q q=>eR a j hd r q,?_,⟨_,Jt _ rfl,rfl,rfl⟩,J7 _ a⟩;have n:d≠s.heap.objs.size:=JD (Jd a);refine⟨λb c=>Jf.mpr (.inl (Jm.mp c)),λi h f st k=>⟨st.1.at (k _ Jz),k d (Jw _ Jz) _ st.2⟩,λi g Q E p st q=>?_,λg Q E st q=>?_,λi g Q E st q=>wpAny_pyIter_keyiter st.1 q⟩
  ·have m:es[i]?=some es[i]:=ZP p
   exact aM st.2 hd st.1 m λf l k=>q _ f g.toks ⟨_,m,rfl⟩ ⟨l,k d o n st.2⟩ λb u nb c=>k b u (λz=>nb (Jm.mpr z)) c
  ·exact aN t st.2 hd st.1 (Array.getElem?_eq_none (Je _)) λf k=>q f g.toks λb u nb c=>k b u (λz=>nb (Jm.mpr z)) c
end
end L2
namespace L2
open PySem PySem.Spec PyProof.Rows Own Ts PySem.W
section
variable {prog:Yo}{w:YI}{A:YO}{s:JO}
theorem ar {Q:Bool->JO->Prop}(cs:List Ordering):∀ (us vs:List Jo) (i:Nat),us.length=cs.length->vs.length=cs.length->(∀ (j:Nat) u v c,us[j]?=some u->vs[j]?=some v->cs[j]?=some c->SeqAt.EqAt A s u v (c == .eq)/\(c≠.eq->LtAt A s u v (c == .lt))) ->
  Q (cs.foldr Ordering.then .eq == .lt) s->PySem.W.KatLex prog w A false false Q (us.zip vs) i s:=by
 induction cs with
 | nil =>
  intro us vs i a b _ q;rw[List.length_eq_zero_iff.mp a]
  exact PySem.W.kat_nil q
 | cons c cs ih =>
  intro us vs i a b h q
  obtain⟨u,us,rfl⟩:∃ u e,us=u::e:=by
   cases us with
   | nil=>simp at a
   | cons u us=>exact⟨u,us,rfl⟩
  obtain⟨v,vs,rfl⟩:∃ v d,vs=v::d:=by
   cases vs with
   | nil=>simp at b
   | cons v vs=>exact⟨v,vs,rfl⟩
  have f:=h 0 u v c rfl rfl rfl;refine PySem.W.kat_cons (f.1 prog w _ _ ?_);by_cases z:c=.eq
  ·subst z
   refine PySem.W.kat_yes (ih us vs (i+1) (by simpa using a) (by simpa using b) (λj u v c m l k=>h (j+1) u v c (by simpa using m) (by simpa using l) (by simpa using k)) q)
  ·have g:(c == Ordering.eq)=false:=by simpa using z
   have e2:(c::cs).foldr Ordering.then .eq=c:=by
    rw[List.foldr_cons];cases c<;>first|rfl|exact absurd rfl z
   rw[e2]at q;rw[g];refine PySem.W.kat_no ?_;rw[Bool.false_and];exact mG (f.2 z) q
end
def RkN (H:Hp)(xs:List V)(rk:V->Int):Prop:=∃ n,n<=20/\∀ x∈xs,(∃ a b r c,x=.ref a/\H a=some (.tup (.ref b::r))/\H b=some (.tup c))/\∀ y∈xs,Lx H n x y (compare (rk x) (rk y))
section
variable {X:Cx}
theorem zdV {pins:List (JI × Obj)}{σ:St}{H:Hp}{s1:JO}(I:Inv X pins σ H s1)(C:X.A.units+64<cLine){xs:List V}{vs:List Jo}{rk:V->Int}(r:Vals xs vs)(R:RkN H xs rk) :
  ∃ κ:SortKind,(∀ h':YP,(∀ c o,s1.heap.get? c=some o->h'.get? c=some o)->2<=vs.length->∀ (l:YO) {Q:SortKind->JO->Prop}{E:Jo->JO->Prop},Q κ { s1 with heap:=h' }->wpAny (model X.prog X.w) l (keyKind' vs.toArray) Q E { s1 with heap:=h' }) /\
   (∀ h':YP,(∀ c o,s1.heap.get? c=some o->h'.get? c=some o)->∀ (l:YO),l.units<=X.A.units+8->Cmp X.prog X.w l { s1 with heap:=h' } κ (λp=>p.1∈vs) (λp=>rk (vOf p.1))):=by
 obtain⟨n,hn,R⟩:=R
 obtain⟨ex,rel⟩:=vd r λx M=>by
  obtain⟨⟨a,b,r,B,e,_⟩,_⟩:=R x M;exact .inr ⟨a,e⟩
 have mem:∀ u∈vs,vOf u∈xs:=λu C=>by rw[ex];exact Jx.mpr ⟨u,C,rfl⟩
 refine⟨tuples' (Value.type "tuple" != Value.type "tuple"),λh' k l2 l Q E q=>?_,λh' k l hA=>⟨λx y M U Q E q=>?_⟩⟩
 ·have m:Inv X pins σ H { s1 with heap:=h',toks:=s1.toks }:=I.kept k
  have kt:∀ t:List Jo,(∀ u∈t,vOf u∈xs/\RelV (vOf u) u)->∃ fs,PySem.W.KatTups h' t fs/\fs.length=t.length/\∀ f∈fs,∃ b B,f=Value.ref b/\H b=some (.tup B):=by
   intro t
   induction t with
   | nil=>intro _;exact⟨[],PySem.W.KatTups.nil,rfl,λf D=>by simp at D⟩
   | cons u t ih =>
    intro h;obtain⟨fs,S,k2,P⟩:=ih λv w=>h v (Jw _ w);obtain⟨m1,r1⟩:=h u Jz;obtain⟨⟨a,b,rr,B,e,N,z⟩,_⟩:=R _ m1;rw[e]at r1;cases r1;obtain⟨d,g,⟨o,W,co,no,dt⟩,_⟩:=m.tuple (SqT.of N);obtain⟨f0,ef,rf⟩:=g.get (i:=0) (x:=.ref b) rfl;cases rf
    exact⟨_,PySem.W.KatTups.cons W co dt (by simpa using ef) S,by rw[JL,JL,k2],λf' D=>by
     rcases Jf.mp D with here|D
     ·exact⟨b,B,here,z⟩
     ·exact P f' D⟩
  obtain⟨fs,S,k2,P⟩:=kt vs λu C=>⟨mem u C,rel u C⟩;refine PySem.W.kat_kind (T:=.type "tuple") S (by lia) (λv w=>?_) (by decide) q;obtain⟨b,B,rfl,z⟩:=P v w;obtain⟨d,g,⟨o,W,co,no,dt⟩,_⟩:=m.tuple (SqT.of z);exact λA Q E s ks q=>Zp ⟨o,ks _ _ W,co⟩ q
 ·have m:Inv X pins σ H { s1 with heap:=h',toks:=s1.toks }:=I.kept k
  obtain⟨x1,x2⟩:=x;obtain⟨O,y2⟩:=y;have rx:=rel x1 M;have ry:=rel O U;obtain⟨⟨a,a2,xr,_,ea,N,_⟩,lx⟩:=R _ (mem x1 M);obtain⟨⟨b,b2,yr,_,eb,z,_⟩,_⟩:=R _ (mem O U);have L:=lx _ (mem O U);simp only at q;rw[ea]at rx L q;rw[eb]at ry L q;cases rx;cases ry;generalize hc:compare (rk (V.ref a)) (rk (V.ref b))=c at L;rw[<- (wM (rk (V.ref a)) (rk (V.ref b))).2,hc]at q
  cases L with
  | @row n _ _ aT ax cs K J l1 l2 hL =>
   rw[N]at K;cases K;rw[z]at J;cases J;obtain⟨d,g1,⟨o1,ab,a5,a3,ao⟩,_⟩:=m.tuple (SqT.of N);obtain⟨F,g2,⟨o2,Z,a4,a0,ak⟩,_⟩:=m.tuple (SqT.of z);have m1:=g1.length;have m2:=g2.length;show wpAny _ _ (keyLt' (tuples' false) (.ref a) (.ref b)) _ _ _;refine PySem.W.kat_lt ab ao Z ak ?_;have ds:decide (d.toArray.size<F.toArray.size)=false:=Jr (by rw[Jj,Jj];simp_all);rw[ds];refine ar cs d F 0 (by simp_all) (by simp_all) (λj u v c G w Y=>?_) q;have j1:j<(V.ref a2::xr).length:=by have:=(Ja.mp G).1;simp_all
   have j2:j<(V.ref b2::yr).length:=by have:=(Ja.mp w).1;simp_all
   obtain⟨u',e1,q1⟩:=g1.get (J6 j1);obtain⟨v',e2,q2⟩:=g2.get (J6 j2);rw[G]at e1;obtain rfl:=Jq e1;rw[w]at e2;obtain rfl:=Jq e2;have LL:=hL j _ _ c (J6 j1) (J6 j2) Y;exact⟨mU m LL l _ _ (by lia) q1 q2,λne=>aa m LL ne l _ _ (by lia) q1 q2⟩
theorem zaE {xs:KVN}{ws:List (KN × JI × Jo)}(r:Paired PrN xs ws):Vals (xs.map λp=>V.ref p.2.1) (ws.map λq=>Value.ref q.2.1):=by
 induction r with
 | nil=>exact .nil
 | @cons p q b a h t ih=>exact .cons (by show Value.ref q.2.1=Value.ref p.2.1;rw[h.2.1]) ih
theorem zay {a:Array DictEntry}{acc:Array Jo}(c:acc.size=a.size)(g:∀ (j:Nat) (v:Jo),acc[j]?=some v->∃ e,a[j]?=some e/\v=e.key):acc.toList=a.toList.map (·.key):=by
 refine Zw (by rw[Jb,Ju,Ju,c]) λj d h=>?_;obtain⟨e,b,f⟩:=g j acc[j] (ZP _);rw[We,Array.getElem_toList,Array.getElem_toList,f];rw[ZP (by rw[<- c];exact d)]at b;rw[Jq b]
theorem nQ (J:X.calm=true)(d:X.A.units+64<cLine):CallR X (.builtin "sorted") (λvs H Q=>∃ a xs rk,vs=[.ref a]/\H a=some (DN X.prog X.w a xs)/\xs.length<=10000/\RkN H (xs.map λp=>.ref p.2.1) rk/\∀ (l:JI) (ys:List V),H l=none->ys.Perm (xs.map λp=>.ref p.2.1)->ys.Pairwise (λx y=>rk x<=rk y)->Q (.ref l) (upd H l (.lst ys))):=by
 intro pins s σ H vs S Q I A h;obtain⟨a,xs,rk,rfl,G,T,R,q⟩:=h;obtain⟨u,rfl,B⟩:=A.one;cases B;obtain⟨⟨z,K,ws,r,o,N,Y,f,M,L,m,U⟩,_,_⟩:=(show ObjOk X.prog X.w H s.heap a (DN X.prog X.w a xs) from I.hok a _ G);have wl:N.size=xs.length:=by rw[ZW m,<- YR r]
 refine jz (kdu_collect (cX M L K) (I.ok.hd J) f (by rw[wl];exact z) λf k acc E b=>?_);obtain⟨n,P⟩:=b
 have al:acc.toList=ws.map λq=>Value.ref q.2.1:=by
  rw[zay n P,m,YX];rfl
 have vs:Vals (xs.map λp=>V.ref p.2.1) acc.toList:=by rw[al];exact zaE r
 have C:acc.toList.length=xs.length:=by rw[Ju,n,wl]
 have g:Inv X pins σ H { s with heap:=f,toks:=k }:=I.kept E;obtain⟨t,i,j⟩:=zdV g d vs R
 obtain⟨ex,rel⟩:=vd vs λx F=>by
  obtain⟨p,_,rfl⟩:=Jx.mp F;exact .inr ⟨_,rfl⟩
 refine⟨t,λu=>rk (vOf u),by simp_all,i,j,λW l e out lo O pm w D=>?_⟩;have v:Vals (out.map vOf) out:=uP λu d=>rel u (pm.mem_iff.mp d);have pv:(out.map vOf).Perm (xs.map λp=>V.ref p.2.1):=by rw[ex];exact pm.map vOf
 refine⟨.ref l,_,g.laid (t':=k) (o:=.lst (out.map vOf)) (λc o q=>D c o q) lo ⟨?_,out,e,v,O⟩,rfl,?_⟩
 ·rw[Jb,pm.length_eq,C];exact z
 ·exact q l _ (g.hok.fresh lo) pv (List.pairwise_map.mpr w)
end
end L2
namespace L2
open PySem PySem.Spec PyProof.Rows Own
section
def le2 (p q a b:Int):Prop:=p<a\/p=a/\q<=b
end
theorem jP (l b:JI)(xs ys:Array Jo)(n m:Nat)(I H:Option JI)(k f:Array (Option Jo))(sz:xs.size=ys.size) :
  Meets (Builtin.«tuple.__lt__» ⟨[.ref l,.ref b],[]⟩)
   (λA R s=>s.heap.get? l=some { cls:=.type "tuple",dict:=I,data:=.seq xs n,slots:=k }/\s.heap.get? b=some { cls:=.type "tuple",dict:=H,data:=.seq ys m,slots:=f } /\
    (∀ j (M:j<xs.size) (L:j<ys.size),SeqAt.EqAt A.in1 s xs[j] ys[j] true)/\R (.ok (.ret (.bool false))) s) :=
 .of_wp λprog w A R s h=>by
  rcases h with ⟨C,E,D,h⟩;rcases s with ⟨B,g,d,q,os⟩;have kinds:=AutoSeq1.sub_tuple_tuple;have K:(xs.toList.zip ys.toList).length=min xs.size ys.size:=by simp
  wp_walk using wpAny_loadPart' C,wpAny_loadPart' E,wpAny_forIn_list _ (λrest b e=>b.1=none/\e=⟨B,g,d,q,os⟩/\∃ i,i<=(xs.toList.zip ys.toList).length/\rest=(xs.toList.zip ys.toList).drop i) _
  case turn =>
   rintro⟨y,x⟩ rest b e ⟨c,rfl,i,t,a⟩
   have r:i<(xs.toList.zip ys.toList).length:=by
    rcases Nat.lt_or_ge i (xs.toList.zip ys.toList).length with z|z
    ·exact z
    ·rw[List.drop_eq_nil_of_le z]at a;cases a
   have v:i<xs.size:=by simp_all
   have u:i<ys.size:=by simp_all
   rw[Yj r]at a;obtain⟨p,e2⟩:=WD a;have G:y=xs[i]:=by simpa using JP Prod.fst p
   have ex:x=ys[i]:=by simpa using JP Prod.snd p
   subst G ex;refine J0 (D i v u prog w _ _ ?_)
   wp_walk
   exact⟨rfl,rfl,i+1,by lia,e2⟩
  case fin =>
   rintro⟨J,N⟩ e ⟨c,rfl,i,t,a⟩;have o:J=none:=c;subst o;have F:Builtin.Tuple.tupleCompareSizes CmpOp.Lt xs.size ys.size=.bool false:=by rw[sz];simp[Builtin.Tuple.tupleCompareSizes]
   show wpAny _ _ (ret (Builtin.Tuple.tupleCompareSizes CmpOp.Lt xs.size ys.size)) _ _ _;rw[F];exact J9 ⟨_,rfl,h⟩
  case h =>
   exact⟨rfl,rfl,0,JN _,rfl⟩
theorem LtAt.tuplesS {A:YO}{s:JO}{l b:JI}{xs ys:Array Jo}(q:IsTup s.heap l xs)(hb:IsTup s.heap b ys)(p:A.units<cLine)(sz:xs.size=ys.size)(r:∀ j (B:j<xs.size) (z:j<ys.size),SeqAt.EqAt A.in1 s xs[j] ys[j] true):LtAt A s (.ref l) (.ref b) false:=λprog w E Q h=>by
 obtain⟨⟨y,e,u,c⟩,g,o,n,i⟩:=q;obtain⟨⟨v,d,t,a⟩,f,k,m,e2⟩:=hb;simp only at o i k e2;subst o i k e2;exact richCompare_meets_room (op:=.Lt) ⟨_,g,rfl⟩ ⟨_,f,rfl⟩ F.slot_tuple_lt F.entry_tuple_lt (F.args_tuple_lt_2 _ _) (jP l b xs ys n m e d c a sz) ⟨g,f,r,show Value.bool false≠Value.notImplemented/\Q (.bool false) s from⟨(λx=>nomatch x),h⟩⟩ p
section
variable {X:Cx}
theorem zbr {pins:List (JI × Obj)}{σ:St}{H:Hp}{s:JO}(I:Inv X pins σ H s){n:Nat}{x y:V}{c:Ordering}(h:Lx H n x y c)(A:YO)(u v:Jo)(P:A.units+n<cLine)(g:RelV x u)(f:RelV y v):LtAt A s u v (c == .lt):=by
 by_cases z:c=.eq
 ·cases h with
  | int n i j =>
   obtain⟨E,rfl⟩:=g;obtain⟨D,rfl⟩:=f;rw[(wM i j).2]
   exact LtAt.ints i j E D
  | @row n a b w t cs R Q U T h =>
   cases g;cases f;obtain⟨l,p,K,_⟩:=I.tuple (SqT.of R);obtain⟨k,o,J,_⟩:=I.tuple (SqT.of Q);have M:=p.length;have L:=o.length;rw[z];refine LtAt.tuplesS K J (by lia) (by rw[Jj,Jj];simp_all) λj O N=>?_;have e:j<w.length:=by simpa [M] using O
   have d:j<t.length:=by simpa [L] using N
   have m:j<cs.length:=by simp_all
   obtain⟨C,S,G⟩:=p.get (J6 e);obtain⟨B,e2,F⟩:=o.get (J6 d);have r:l.toArray[j]=C:=by simpa using (Ja.mp S).2
   have q:k.toArray[j]=B:=by simpa using (Ja.mp e2).2
   have ce:cs[j]=.eq:=vg.mp z _ (Yf m);have:=mU I (h j _ _ _ (J6 e) (J6 d) (J6 m)) A.in1 _ _ (by show A.units+1+n<cLine;lia) G F;rw[ce]at this;rw[r,q];exact this
 ·exact aa I h z A u v P g f
end
section
variable {prog:Yo}{w:YI}{A:YO}{R:Result->JO->Prop}{I S:JI}{fp wr:List JI}{n:Nat}{P:Nat->Jo->Prop}{St:Nat->YP->Prop}
def AskM (prog:Yo)(w:YI)(A:YO)(a:JO)(wr:List JI)(S:JI)(v e:Jo)(c:Bool):Prop :=
 ∀ (h:YP) (d:Nat) (Q:Jo->JO->Prop) (E:Jo->JO->Prop),(∀ b o,b∉wr->b≠S->a.heap.get? b=some o->h.get? b=some o)->Q (.bool c) { a with heap:=h,toks:=d }->wpAny (model prog w) A.in1 (richCompare .Lt v e) Q E { a with heap:=h,toks:=d }
theorem qy (W:Walks prog w A.in1 I fp wr n P St)(away:S∉fp)(p:JO)(l:Nat->Jo->Prop)(more:∀ j v a,0<j->P j v->l j a->∃ c:Bool,l (j+1) (if c=true then v else a)/\AskM prog w A p wr S v a c) :
  ∀ (m j:Nat) (h:YP) (tk:Nat) (c:Nat) (a:Jo),j+m=n->0<j->l j a->St j h->h.get? S=some { cls:=.type "list",dict:=none,data:=.seq #[a,a] c,slots:=#[] }->(∀ b o,b∉wr->b≠S->p.heap.get? b=some o->h.get? b=some o) ->
   (∀ u B y,l n u->(∀ b o,b∉wr->b≠S->p.heap.get? b=some o->B.get? b=some o)->R (.ok (.ret u)) { p with heap:=B,toks:=y })->codeAny (model prog w) A (.builtin "min.loop" ⟨[.ref I,.none,.ref S],[]⟩) R { p with heap:=h,toks:=tk }:=by
 have out:S∉wr:=λz=>away (W.sub _ z);have nm:(toString "min"++toString ".loop":String) = "min.loop":=by decide
 intro m
 induction m with
 | zero =>
  intro j h tk c a C jp bs st s old k;have D:j=n:=by omega
  subst D
  refine Zn F.entry_min_loop (by
   refine Z7 Z5 _ ▸ (show wpAny _ A.in1 (seqItems? (.ref S) >>= _) _ _ _ from ?_);refine J0 (Y4 s rfl (show wpAny _ A.in1 (tryCatch (pyNext (.ref I)) _ >>= _) _ _ _ from J0 (wpAny_tryCatch (W.done { p with heap:=h,toks:=tk } _ _ st λx r keep=>?_))));have d:=keep S _ out s
   show wpAny _ A.in1 (updateSeq S (λ_=>#[]) >>= _) _ _ _;exact J0 (Zc d rfl (J0 (Zy (J9 (k _ _ r bs λb o g q e=>(JV _ _ (Ne.symm q)).trans (keep b o g (old b o g q e))))))))
 | succ m ih =>
  intro j h tk c a C jp bs st s old k
  refine Zn F.entry_min_loop (by
   refine Z7 Z5 _ ▸ (show wpAny _ A.in1 (seqItems? (.ref S) >>= _) _ _ _ from ?_);refine J0 (Y4 s rfl (show wpAny _ A.in1 (tryCatch (pyNext (.ref I)) _ >>= _) _ _ _ from J0 (wpAny_tryCatch (W.item j { p with heap:=h,toks:=tk } _ _ (by lia) st λv x r pv t keep=>?_))));have d:=keep S _ out s;have f:∀ b o,b∉wr->b≠S->p.heap.get? b=some o->x.get? b=some o:=λb o g q e=>keep b o g (old b o g q e);obtain⟨E,i,ask⟩:=more j v a jp pv bs;show wpAny _ A.in1 (tryCatch (holding [v,v] (richCompare .Lt v a >>= _)) _ >>= _) _ _ _;refine J0 (wpAny_tryCatch (JX (J0 (ask x r _ _ f (J0 (JX (YM (J0 (Zy (J9 ?_))))))))))
   cases E with
   | false =>
    rw[Jc Jp]at i;rw[Jc Jp];refine J0 (Zy ?_);rw[nm]
    exact J9 ⟨ZH Z5 _,ih (j+1) _ _ _ a (by lia) (by lia) i t d f k⟩
   | true =>
    rw[Jh rfl]at i;rw[Jh rfl];refine J0 (Zc d rfl (J0 (Zy ?_)));rw[nm]
    exact J9 ⟨ZH Z5 _,ih (j+1) _ _ _ v (by lia) (by lia) i (W.frame _ _ _ t λb g o e=>(JV _ _ (λz=>away (by rw[z];exact g))).trans e) (Ye _ d rfl) (λb o g q e=>(JV _ _ (Ne.symm q)).trans (f b o g q e)) k⟩)
end
section
variable {prog:Yo}{w:YI}{A:YO}{E:Jo->JO->Prop}{s:JO}
def WalkM (prog:Yo)(w:YI)(A:YO)(Q:Jo->JO->Prop)(it:Jo)(s2:JO):Prop :=
 ∃ (I:JI) (f wr:List JI) (n:Nat) (P:Nat->Jo->Prop) (St:Nat->YP->Prop),it=.ref I/\Walks prog w A.in1 I f wr n P St/\St 0 s2.heap/\(∀ b∈f,b<s2.heap.objs.size)/\0<n /\
   ∃ a:Nat->Jo->Prop,(∀ v,P 0 v->a 1 v)/\(∀ j v d,0<j->P j v->a j d->∃ c:Bool,a (j+1) (if c=true then v else d)/\AskM prog w A s2 wr s2.heap.objs.size v d c) /\
   ∀ u e g,a n u->(∀ b o,b∉wr->s2.heap.get? b=some o->e.get? b=some o)->Q u { s2 with heap:=e,toks:=g }
theorem fh {x:Jo}{Q:Jo->JO->Prop}(h:wpAny (model prog w) A.in1 (pyIter x) (WalkM prog w A Q) E s):wpAny (model prog w) A (call (.builtin "min") [x]) Q E s:=by
 have nm:(toString "min"++toString ".loop":String) = "min.loop":=by decide
 refine call_function_tree F.kind_min F.plain_min F.entry_min (F.args_min1 _) ?_;show wpAny _ A.in1 (Builtin.Builtins.bindParams "min" ["key","default"] 0 ⟨[],[]⟩ >>= _) _ _ s;refine J0 (wpAny_of_eq (show Builtin.Builtins.bindParams "min" ["key","default"] 0 ⟨[],[]⟩=pure [none,none] from rfl) (J0 (J9 (J0 (JQ h (λit a z=>?_) λ_ _ e=>e)))));obtain⟨I,q,wr,n,P,St,rfl,W,st,low,pos,l,first,more,k⟩:=z;have away:a.heap.objs.size∉q:=λz=>Yv _ (low _ z);have out:a.heap.objs.size∉wr:=λz=>away (W.sub _ z);refine J0 (JZ ?_);rw[nm];refine J9 ⟨ZH Z5 _,Zn F.entry_min_loop ?_⟩;have new:(a.heap.push { cls:=.type "list",data:=.seq #[] }).get? a.heap.objs.size=some { cls:=.type "list",dict:=none,data:=.seq #[] 0,slots:=#[] }:=Jt _ rfl;have j:St 0 (a.heap.push { cls:=.type "list",data:=.seq #[] }):=W.frame _ _ _ st λb _ o e=>J7 _ e;refine Z7 Z5 _ ▸ (show wpAny _ A.in1 (seqItems? (.ref a.heap.objs.size) >>= _) _ _ _ from ?_);refine J0 (Y4 new rfl (show wpAny _ A.in1 (tryCatch (pyNext (.ref I)) _ >>= _) _ _ _ from J0 (wpAny_tryCatch (W.item 0 _ _ _ pos j λv p B pv i keep=>?_))));have y:=first v pv
 have c:=keep _ _ out new;show wpAny _ A.in1 (updateSeq a.heap.objs.size (λ_=>#[v,v]) >>= _) _ _ _;refine J0 (Zc c rfl ?_);rw[nm];have up:∀ b o,b∉wr->b≠a.heap.objs.size->a.heap.get? b=some o->(p.update a.heap.objs.size (Obj.mapSeq λ_=>#[v,v])).get? b=some o:=λb o f t e=>(JV _ _ (Ne.symm t)).trans (keep b o f (J7 _ e));exact J9 ⟨ZH Z5 _,qy W away a l more (n-1) 1 _ _ _ v (by lia) (by lia) y (W.frame _ _ _ i λb f o e=>(JV _ _ (λz=>away (by rw[z];exact f))).trans e) (Ye _ c rfl) up λu m g r d=>k u m g r λb o f e=>d b o f (JD (Jd e)) e⟩
theorem aR {x y:Jo}{Q:Jo->JO->Prop}(h:wpAny (model prog w) A.in1 (pyIter (.ref s.heap.objs.size)) (WalkM prog w A Q) E { s with heap:=s.heap.push { cls:=.type "tuple",data:=.seq #[x,y] } }):wpAny (model prog w) A (call (.builtin "min") [x,y]) Q E s:=by
 have nm:(toString "min"++toString ".loop":String) = "min.loop":=by decide
 refine call_function_tree F.kind_min F.plain_min F.entry_min (F.args_min2 _ _) ?_;show wpAny _ A.in1 (Builtin.Builtins.bindParams "min" ["key","default"] 0 ⟨[],[]⟩ >>= _) _ _ s;refine J0 (wpAny_of_eq (show Builtin.Builtins.bindParams "min" ["key","default"] 0 ⟨[],[]⟩=pure [none,none] from rfl) (J0 ?_));refine Wv (J0 (JQ h (λit a z=>?_) λ_ _ e=>e));obtain⟨I,q,wr,n,P,St,rfl,W,st,low,pos,l,first,more,k⟩:=z;have away:a.heap.objs.size∉q:=λz=>Yv _ (low _ z);have out:a.heap.objs.size∉wr:=λz=>away (W.sub _ z);refine J0 (JZ ?_);rw[nm];refine J9 ⟨ZH Z5 _,Zn F.entry_min_loop ?_⟩;have new:(a.heap.push { cls:=.type "list",data:=.seq #[] }).get? a.heap.objs.size=some { cls:=.type "list",dict:=none,data:=.seq #[] 0,slots:=#[] }:=Jt _ rfl;have j:St 0 (a.heap.push { cls:=.type "list",data:=.seq #[] }):=W.frame _ _ _ st λb _ o e=>J7 _ e;refine Z7 Z5 _ ▸ (show wpAny _ A.in1 (seqItems? (.ref a.heap.objs.size) >>= _) _ _ _ from ?_);refine J0 (Y4 new rfl (show wpAny _ A.in1 (tryCatch (pyNext (.ref I)) _ >>= _) _ _ _ from J0 (wpAny_tryCatch (W.item 0 _ _ _ pos j λv p C pv i keep=>?_))));have B:=first v pv
 have c:=keep _ _ out new;show wpAny _ A.in1 (updateSeq a.heap.objs.size (λ_=>#[v,v]) >>= _) _ _ _;refine J0 (Zc c rfl ?_);rw[nm];have up:∀ b o,b∉wr->b≠a.heap.objs.size->a.heap.get? b=some o->(p.update a.heap.objs.size (Obj.mapSeq λ_=>#[v,v])).get? b=some o:=λb o f t e=>(JV _ _ (Ne.symm t)).trans (keep b o f (J7 _ e));exact J9 ⟨ZH Z5 _,qy W away a l more (n-1) 1 _ _ _ v (by lia) (by lia) B (W.frame _ _ _ i λb f o e=>(JV _ _ (λz=>away (by rw[z];exact f))).trans e) (Ye _ c rfl) up λu m g r d=>k u m g r λb o f e=>d b o f (JD (Jd e)) e⟩
end
def xx (cmp:V->V->Ordering)(b y:V):V:=if cmp y b=.lt then y else b
def xv (cmp:V->V->Ordering):List V->V
 | []=>.non
 | x::r=>r.foldl (xx cmp) x
theorem cB (cmp:V->V->Ordering){l:List V}(h:l≠[])(y:V):xv cmp (l++[y])=xx cmp (xv cmp l) y:=by
 cases l with
 | nil=>exact absurd rfl h
 | cons x r=>show List.foldl _ _ (r++[y])=_;rw[YQ];rfl
theorem lC (cmp:V->V->Ordering):∀ (r:List V) (x:V),r.foldl (xx cmp) x∈x::r
 | [],x=>.head _
 | y::r,x=>by
  have:=lC cmp r (xx cmp x y);show List.foldl (xx cmp) (xx cmp x y) r∈x::y::r;rcases Jf.mp this with z|z
  ·rw[z]
   unfold xx;split
   ·exact .tail _ (.head _)
   ·exact .head _
  ·exact .tail _ (.tail _ z)
theorem zau (cmp:V->V->Ordering){l:List V}(h:l≠[]):xv cmp l∈l:=by
 cases l with
 | nil=>exact absurd rfl h
 | cons x r=>exact lC cmp r x
section
variable {X:Cx}{pins:List (JI × Obj)}{σ:St}{H:Hp}{s:JO}
theorem ni {b:Bool}{a:JI}{xs:List V}{its:List Jo}{n:Nat}{cmp:V->V->Ordering}{Q:VK}(J:X.calm=true)(T:X.A.units+64<cLine)(I:Inv X pins σ H s)(m:Vals xs its)(pp:SqO b s.heap a its.toArray)(al:a<s.heap.objs.size)(k:0<xs.length)(R:n<=20)(K:∀ x∈xs,∀ y∈xs,Lx H n x y (cmp x y))(q:Q (xv cmp xs) H) :
  wpAny (model X.prog X.w) X.A.in1 (pyIter (.ref a)) (WalkM X.prog X.w X.A (EP X pins σ Q)) X.xe s:=by
 have U:its.length=xs.length:=m.length.symm;refine wT pp ⟨s.heap.objs.size,[s.heap.objs.size,a],[s.heap.objs.size],its.toArray.size,(λi v=>its.toArray[i]?=some v),_,rfl,cF (show X.A.in1.handled=none from I.ok.hd J) b _ a (JD al) its.toArray,⟨?_,pp.mv λo e=>J7 _ e⟩,λc F=>?_,by rw[Jj];simp_all,(λj v=>0<j/\j<=xs.length/\RelV (xv cmp (xs.take j)) v),λv t=>?_,λj v B jp t ⟨_,S,w⟩=>?_,λu W l ⟨_,_,f⟩ G=>?_⟩
 ·cases b<;>exact⟨_,Jt _ rfl,rfl,rfl⟩
 ·show c<(s.heap.push _).objs.size
  rw[YW];rcases Jf.mp F with z|z
  ·exact z ▸ Wd _
  ·exact Jm.mp z ▸ Zq al
 ·have E:xs[0]?=some xs[0]:=J6 k
  obtain⟨C,g,f⟩:=m.get E;have d:its[0]?=some v:=by simpa using t
  rw[d]at g;cases g;refine⟨by lia,k,?_⟩
  cases xs with
  | nil=>cases k
  | cons x r=>exact f
 ·have d:its[j]?=some v:=by simpa using t
  have p:j<xs.length:=by
   have:=(Ja.mp d).1
   simp_all
  obtain⟨C,g,f⟩:=m.get (J6 p);rw[d]at g;cases g
  have ne:xs.take j≠[]:=λz=>by
   have:=JP List.length z;rw[JF,List.length_nil]at this
   simp_all
  have bm:xv cmp (xs.take j)∈xs:=List.mem_of_mem_take (zau cmp ne);have L:=K _ (Yf p) _ bm;refine⟨cmp xs[j] (xv cmp (xs.take j)) == .lt,⟨by lia,by lia,?_⟩,λh l N P old D=>?_⟩
  ·rw[<- Yk p,cB cmp ne]
   unfold xx;by_cases z:cmp xs[j] (xv cmp (xs.take j))=.lt
   ·rw[Jh z,Jh (by rw[z];rfl)];exact f
   ·rw[Jc z,Jc (λy=>z (by simpa using y))];exact w
  ·have O:Inv X pins σ H { s with heap:=h,toks:=l }:=I.kept λc o e=>old c o (λz=>JD (Jd e) (Jm.mp z)) (λz=>by
    have M:=Jd e;have A:c=(s.heap.push { cls:=.type (cN b),data:=.fields #[.ref a,.int 0 0] }).objs.size:=z;rw[YW]at A
    exact absurd A (JD (Zq M))) (J7 _ e)
   exact zbr O L X.A.in1 v B (by show X.A.units+1+n<cLine;lia) f w X.prog X.w P N D
 ·refine⟨xv cmp xs,H,I.kept (t':=l) λc o e=>G c o (λz=>JD (Jd e) (Jm.mp z)) (J7 _ e),?_,q⟩
  have:xs.take its.toArray.size=xs:=YJ (by rw[Jj];simp_all);rw[this]at f;exact f
theorem di (j:X.calm=true)(b:Bool)(h:X.A.units+64<cLine):CallR X (.builtin "min") (λvs H Q=>∃ a xs n cmp,vs=[.ref a]/\SqB b X.K H a xs/\0<xs.length/\n<=20/\(∀ x∈xs,∀ y∈xs,Lx H n x y (cmp x y))/\Q (xv cmp xs) H):=by
 rintro pins s σ H vs r Q I e ⟨a,xs,n,cmp,rfl,i,d,c,k,q⟩;obtain⟨u,rfl,f⟩:=e.one;cases f;obtain⟨p,g,pp⟩:=I.sq (b:=b) i;obtain⟨o,m,l,_⟩:=pp.ob;exact fh (ni j h I g pp (Jd l) d c k q)
theorem ji (i:X.calm=true)(h:X.A.units+64<cLine):CallR X (.builtin "min") (λvs H Q=>∃ x y n cmp,vs=[x,y]/\n<=20/\(∀ u∈[x,y],∀ v∈[x,y],Lx H n u v (cmp u v))/\Q (xx cmp x y) H):=by
 rintro pins s σ H vs l Q I d ⟨x,y,n,cmp,rfl,c,j,q⟩;obtain⟨u,a,rfl,g,f⟩:=cG d;refine aR ?_;have k:=I.kept (t':=s.toks) (h':=s.heap.push { cls:=.type "tuple",data:=.seq #[u,a] }) λb u e=>J7 _ e;refine ni (s:={ s with heap:=s.heap.push { cls:=.type "tuple",data:=.seq #[u,a] } }) (b:=false) (xs:=[x,y]) (its:=[u,a]) i h k (.cons g (.cons f .nil)) ⟨_,Jt _ rfl,rfl,_,rfl⟩ ?_ (by show 0<2;lia) c j q;show s.heap.objs.size<(s.heap.push _).objs.size;rw[YW];simp_all
end
def cmpR:List Int->List Int->Ordering
 | [],[]=>.eq
 | [],_::_=>.lt
 | _::_,[]=>.gt
 | a::x,b::y=>(compare a b).then (cmpR x y)
theorem uk:∀ {x y:List Int},x.length=y.length->(List.zipWith compare x y).foldr Ordering.then .eq=cmpR x y
 | [],[],_=>rfl
 | a::x,b::y,h=>by
  show (compare a b).then _=(compare a b).then _;rw[uk (x:=x) (y:=y) (by simpa using h)]
theorem iG {H:Hp}{a b:JI}{x y:List Int}(ha:H a=some (.tup (x.map V.int)))(hb:H b=some (.tup (y.map V.int)))(l:x.length=y.length):Lx H 1 (.ref a) (.ref b) (cmpR x y):=by
 rw[<- uk l];refine .row ha hb (by rw[Jb,List.length_zipWith];simp_all) (by rw[Jb,List.length_zipWith];simp_all) λi u v c e d f=>?_;rw[JC]at e d;obtain⟨p,h,rfl⟩:=Y7.mp e;obtain⟨q,g,rfl⟩:=Y7.mp d;rw[List.getElem?_zipWith,h,g]at f;cases f;exact .int 0 p q
def wZ (x y:List Int):List Int:=if cmpR y x=.lt then y else x
def zcL:List (List Int)->List Int
 | []=>[]
 | x::r=>r.foldl wZ x
def zch (P:Yo)(w:YI)(t:TS):TS:=λD σ H=>t { D with nx:=λa e=>∃ d o c b,H d=some (DN P w d b)/\e d=some (.frz o (DN P w d c))/\D.nx a (upd e d (DN P w d c)) } σ H
section
variable {X:Cx}
theorem bV {st:Stmt}{t:TS}(h:PS X st t):PS X st (zch X.prog X.w t):=by
 intro pins s σ H D I c;refine thn (h pins s σ H _ I c) λf k q=>?_
 cases f with
 | next =>
  obtain⟨a,l,g,d,o,j,i,e,b,q⟩:=q
  exact⟨a,_,g.thawN b (I.meltedN e),q⟩
 | brk=>exact q
 | cont=>exact q
 | ret u=>exact q
end
theorem jb {P:Yo}{w:YI}{d:JI}{o:Obj}{xs:KVN}{g:TG}{j:TS}{D:Ends}{σ:St}{H:Hp}(a:Nat->St->Hp->Prop)(u:a 0 σ H)(r:∀ i σ H,i<=xs.length->a i σ H->H d=some (.frz o (DN P w d xs)))(n:∀ i p σ H T,xs[i]?=some p->H T=none->a i σ H->g (.ref T) σ (upd H T (.tup [.ref p.2.1,p.2.2])) λc h=>j { D with nx:=a (i+1),ct:=a (i+1),bk:=D.nx } c h)(s:∀ σ H,a xs.length σ H->D.nx σ H) :
  ∃ W:Nat->Nat->St->Hp->Prop,(∃ m,W 0 m σ H)/\∀ i m σ H,W i m σ H ->
   ((Itni P w d o xs).stop i H/\D.nx σ H)\/((Itni P w d o xs).go i H/\∃ N:St->Hp->Prop,(∀ f b,N f b->∃ k,k<m/\W (i+1) k f b)/\∀ x b,(Itni P w d o xs).yld i H x b->g x σ b λc h=>j { D with nx:=N,ct:=N,bk:=D.nx } c h):=by
 refine⟨λi m σ H=>m=xs.length-i/\i<=xs.length/\a i σ H,⟨xs.length,by simp,JN _,u⟩,λi m σ H ⟨em,hi,p⟩=>?_⟩;subst em;have q:=r i σ H hi p;by_cases lt:i<xs.length
 ·refine .inr ⟨⟨q,lt⟩,a (i+1),λf b l=>⟨xs.length-(i+1),by lia,rfl,lt,l⟩,λx b ⟨y,T,v,t,z,e2⟩=>?_⟩
  subst z e2;exact n i y σ H T v t p
 ·have e:i=xs.length:=by lia
  subst e;exact .inl ⟨⟨q,rfl⟩,s σ H p⟩
end L2
namespace Bn
open PySem L2 Own
theorem vO:∀ (fs:List (Nat × Nat)) (st:List Int × List Int),(∀ t∈st.2,t=0\/t=1)->∀ t∈(zy st fs).2,t=0\/t=1
 | [],_,h=>h
 | f::fs,st,h=>vO fs (zi st f) λt a=>by
  unfold zi at a;simp only at a;rcases Js.mp a with z|z
  ·exact h t z
  ·rw[Jm.mp z];lia
theorem dJ (fs:List (Nat × Nat))(cs:List Int):∀ t∈(zr fs cs).2,t=0\/t=1:=vO fs (cs,[]) λt a=>by simp at a
theorem ww (n p:Nat):(List.replicate n (0:Int)).getD p 0=0:=by
 rw[J8,List.getElem?_replicate];split<;>rfl
theorem ng (n p:Nat):(List.replicate n (0:Int)).set p 0=List.replicate n 0:=by
 refine Zw (by simp) λi b a=>?_;rw[List.getElem_set];split<;>simp
theorem vN (n:Nat):∀ (fs:List (Nat × Nat)) (T:List Int),zy (List.replicate n 0,T) fs=(List.replicate n 0,T++List.replicate fs.length 0)
 | [],T=>by simp[zy]
 | f::fs,T=>by
  have e:zi (List.replicate n 0,T) f=(List.replicate n 0,T++[0]):=by
   unfold zi;simp only[ww];rw[show ((0:Int)+0+1) / 2=0 by decide,show ((0:Int)+0) / 2=0 by decide,show ((0:Int)+0)%2=0 by decide,ng,ng]
  show zy (zi (List.replicate n 0,T) f) fs=_;rw[e,vN n fs (T++[0]),JL,Y9,JK];rfl
theorem pR (n:Nat)(fs:List (Nat × Nat)):zr fs (List.replicate n 0)=(List.replicate n 0,List.replicate fs.length 0):=by
 unfold zr;rw[vN,Zk]
theorem dX (N:Nt)(ok:N.Ok):zj N (List.replicate N.lanes 0)=List.replicate N.lanes 0:=by
 unfold zj;rw[pR];refine Zw (by rw[Jb,Yb,lF ok]) λi b a=>?_;rw[We,List.getElem_replicate];exact ww _ _
theorem lR (N:Nt):zp N (List.replicate N.lanes 0)=List.replicate N.forks.length 0:=by unfold zp;rw[pR]
theorem zda {N:Nt}(ok:N.Ok)(back:Bool){cs:List Int}(cl:cs.length=N.lanes){lane:Nat}(o:lane<N.lanes) :
  zp N (zu cs lane (if back then -1 else 1))=(yD back N.forks (zp N cs) lane N.forks.length).1 /\
  zj N (zu cs lane (if back then -1 else 1))=zu (zj N cs) (N.ends.idxOf (yD back N.forks (zp N cs) lane N.forks.length).2) (if back then -1 else 1) /\
  (yD back N.forks (zp N cs) lane N.forks.length).2<N.lanes:=by
 have R:=ran (back:=back) (fs:=N.forks) (cs:=cs) (lane:=lane) (λf m=>by rw[cl];exact ok.fk f m) (by simp_all) (dJ _ _) N.forks.length (Je _);have j:N.forks.take N.forks.length=N.forks:=Ya;have i:=R.flows;have h:=R.turns;rw[j]at i h;have d:=R.here;rw[cl]at d;refine⟨?_,?_,d⟩
 ·refine xI ?_ λp b=>?_
  ·unfold zp;rw[y8,R.len,y8]
  ·unfold zp at b;rw[y8]at b;exact h p b
 ·have ne:(yD back N.forks (zp N cs) lane N.forks.length).2∈N.ends:=ok.en.mem_iff.mpr (Y2.mpr d)
  have k:N.ends.Nodup:=ok.en.nodup_iff.mpr List.nodup_range;have n:(zj N cs).length=N.ends.length:=by unfold zj;rw[Jb]
  refine xI (by rw[yk];unfold zj;rw[Jb,Jb]) λp b=>?_;have a:p<N.ends.length:=by unfold zj at b;rwa [Jb]at b
  rw[yj (by rw[n];exact a)]
  have g:∀ c:List Int,(N.ends.map λe=>c.getD e 0).getD p 0=c.getD N.ends[p] 0:=λc=>by
   rw[J8 (l:=List.map _ _),JC,J6 a];rfl
  unfold zj;rw[g,g,i];have lt':N.ends[p]<(zr N.forks cs).1.length:=by rw[xt,cl];exact iS ok (Yf a)
  rw[yj lt']
  congr 1
  show (if (yD back N.forks (zp N cs) lane N.forks.length).2=N.ends[p] then _ else _)=_
  have iff:(yD back N.forks (zp N cs) lane N.forks.length).2=N.ends[p]↔N.ends.idxOf (yD back N.forks (zp N cs) lane N.forks.length).2=p:=by
   constructor
   ·intro e;rw[e];exact k.idxOf_getElem p a
   ·intro e
    have:=List.getElem_idxOf (List.idxOf_lt_length_of_mem ne);subst e;exact this.symm
  by_cases e:(yD back N.forks (zp N cs) lane N.forks.length).2=N.ends[p]
  ·rw[Jh e,Jh (iff.mp e)]
  ·rw[Jc e,Jc λz=>e (iff.mpr z)]
end Bn
namespace Bn
open PySem L2 Own
def nm (ns:List Nat)(i:Nat):Nat:=ns.getD i 0
section
variable {ns:List Nat}{n:Nat}(pm:ns.Perm (List.range n))
include pm
end
def ren (ns:List Nat)(f:Nat × Nat):Nat × Nat:=(nm ns f.1,nm ns f.2)
def Nt.ren (N:Nt)(ns:List Nat):Nt:=⟨N.lanes,N.forks.map (Bn.ren ns),N.ends.map (nm ns)⟩
def Nt.again (N:Nt)(f:Nat × Nat):Nt:=⟨N.lanes,N.forks++[f],N.ends⟩
def big (x y:Int):Int:=if y > x then y else x
theorem zdT (x y:Int):x<=big x y:=by unfold big;split<;>lia
theorem zdS (x y:Int):y<=big x y:=by unfold big;split<;>simp_all
def wR (st:List Int × List Int)(f:Nat × Nat):List Int × List Int :=
 ((st.1.set f.1 (1+big (st.1.getD f.1 0) (st.1.getD f.2 0))).set f.2 (1+big (st.1.getD f.1 0) (st.1.getD f.2 0)),st.2++[1+big (st.1.getD f.1 0) (st.1.getD f.2 0)])
def lay (n:Nat)(fs:List (Nat × Nat)):List Int × List Int:=fs.foldl wR (List.replicate n 0,[])
theorem me {n:Nat}{fs:List (Nat × Nat)}{i:Nat}{f:Nat × Nat}(h:fs[i]?=some f):lay n (fs.take (i+1))=wR (lay n (fs.take i)) f:=by
 have w:=Ja.mp h;rw[JU w.1,w.2];unfold lay;rw[YQ];rfl
theorem rS {n:Nat}:∀ (i:Nat) (fs:List (Nat × Nat)),i<=fs.length->(lay n (fs.take i)).1.length=n/\(lay n (fs.take i)).2.length=i
 | 0,fs,_=>by simp[lay]
 | i+1,fs,h=>by
  have ih:=rS (n:=n) i fs (by lia);rw[me (J6 (by lia))];unfold wR;simp[ih.1,ih.2]
def wC (g f:Nat × Nat):Bool:=decide (g.1=f.1\/g.1=f.2) || decide (g.2=f.1\/g.2=f.2)
def zeK (fs:List (Nat × Nat))(a:List Int)(f:Nat × Nat)(i:Nat):List Int:=((List.range i).filter λj=>wC (fs.getD j (0,0)) f).map λj=>a.getD j 0
def rR (N:Nt):List Int:=(lay N.lanes N.forks).2
theorem jS (N:Nt):(rR N).length=N.forks.length:=by
 have:=(rS (n:=N.lanes) N.forks.length N.forks (Je _)).2
 rwa [Ya]at this
abbrev Fk:=Nat × Nat
inductive Sw {α:Type}:List (α × Fk)->List (α × Fk)->Prop where
 | refl (l:List (α × Fk)):Sw l l
 | swap (pre:List (α × Fk)) (x y:α × Fk) (post:List (α × Fk)) (h:wC x.2 y.2=false):Sw (pre++x::y::post) (pre++y::x::post)
 | trans {a b c:List (α × Fk)}(h:Sw a b) (g:Sw b c):Sw a c
theorem Sw.cons {α:Type}(x:α × Fk){a b:List (α × Fk)}(h:Sw a b):Sw (x::a) (x::b):=by
 induction h with
 | refl l=>exact .refl _
 | swap pre u v post h=>exact .swap (x::pre) u v post h
 | trans _ _ d c=>exact .trans d c
theorem Sw.perm {α:Type}{a b:List (α × Fk)}(h:Sw a b):b.Perm a:=by
 induction h with
 | refl l=>exact .refl _
 | swap pre u v post h=>exact List.Perm.append_left pre (List.Perm.swap u v post)
 | trans _ _ d c=>exact c.trans d
theorem Sw.map {α β:Type}(g:α->β){a b:List (α × Fk)}(h:Sw a b):Sw (a.map λx=>(g x.1,x.2)) (b.map λx=>(g x.1,x.2)):=by
 induction h with
 | refl l=>exact .refl _
 | swap pre u v post h =>
  rw[JE,JE]
  exact .swap _ (g u.1,u.2) (g v.1,v.2) _ h
 | trans _ _ d c=>exact .trans d c
def run {σ α:Type}(step:σ->Fk->σ × α):σ->List Fk->σ × List (α × Fk)
 | s,[]=>(s,[])
 | s,f::fs=>((run step (step s f).1 fs).1,((step s f).2,f)::(run step (step s f).1 fs).2)
theorem wz {σ α:Type}(step:σ->Fk->σ × α):∀ (s:σ) (fs:List Fk),(run step s fs).2.map Prod.snd=fs
 | _,[]=>rfl
 | s,f::fs=>by
  show f::((run step (step s f).1 fs).2.map Prod.snd)=f::fs;rw[wz step]
def Commutes {σ α:Type}(step:σ->Fk->σ × α):Prop:=∀ s f g,wC f g=false->(step (step s f).1 g).1=(step (step s g).1 f).1/\(step (step s f).1 g).2=(step s g).2/\(step (step s g).1 f).2=(step s f).2
theorem zcp {σ α:Type}{step:σ->Fk->σ × α}(C:Commutes step){a b:List (α × Fk)}(h:Sw a b):∀ s,(run step s (a.map Prod.snd)).2=a->(run step s (b.map Prod.snd)).2=b/\(run step s (b.map Prod.snd)).1=(run step s (a.map Prod.snd)).1:=by
 induction h with
 | refl l=>exact λs e=>⟨e,rfl⟩
 | swap pre x y post m =>
  induction pre with
  | nil =>
   intro s e;obtain⟨G,i⟩:=x;obtain⟨F,g⟩:=y;obtain⟨u,t,r⟩:=C s i g m;simp only[Zk,JR,run]at e ⊢;obtain⟨c,e2⟩:=WD e;obtain⟨q,p⟩:=WD e2;have o:=(Prod.mk.inj c).1;have n:=(Prod.mk.inj q).1;rw[<- u,r,o,p,<- t,n]
   exact⟨rfl,rfl⟩
  | cons z pre ih =>
   intro s e;obtain⟨E,D⟩:=z;simp only[List.cons_append,JR,run]at e ⊢;obtain⟨c,e2⟩:=WD e;obtain⟨k,j⟩:=ih _ e2;rw[k,j,c]
   exact⟨rfl,rfl⟩
 | trans _ _ f d =>
  intro s e;obtain⟨B,A⟩:=f s e;obtain⟨w,v⟩:=d s B;exact⟨w,v.trans A⟩
theorem aY {f g:Fk}(h:wC f g=false):f.1≠g.1/\f.1≠g.2/\f.2≠g.1/\f.2≠g.2:=by
 unfold wC at h;rw[Bool.or_eq_false_iff,YD,YD]at h
 simp_all
theorem y7 {l:List Int}{i j:Nat}{x:Int}(h:i≠j):(l.set i x).getD j 0=l.getD j 0:=by
 rw[J8,Wj h,<- J8]
theorem zd8 (l:List Int){a b c d:Nat}{x y z w:Int}(h:a≠c)(g:a≠d)(f:b≠c)(e:b≠d):(((l.set a x).set b y).set c z).set d w=(((l.set c z).set d w).set a x).set b y:=by
 rw[List.set_comm _ _ f,List.set_comm _ _ h,List.set_comm _ _ e,List.set_comm _ _ g]
def x6 (re:List Int)(f:Fk):List Int × Int:=((re.set f.1 (1+big (re.getD f.1 0) (re.getD f.2 0))).set f.2 (1+big (re.getD f.1 0) (re.getD f.2 0)),1+big (re.getD f.1 0) (re.getD f.2 0))
theorem iL:∀ (fs:List Fk) (re a:List Int),fs.foldl wR (re,a)=((run x6 re fs).1,a++(run x6 re fs).2.map Prod.fst)
 | [],re,a=>by
  show (re,a)=(re,a++[])
  rw[JY]
 | f::fs,re,a=>by
  rw[ZE];show fs.foldl wR ((x6 re f).1,a++[(x6 re f).2])=_;rw[iL fs];show (_,a++[(x6 re f).2]++_)=(_,a++((x6 re f).2::_));rw[JK];rfl
def pz (N:Nt):List (Int × Fk):=(run x6 (List.replicate N.lanes 0) N.forks).2
theorem gW (N:Nt):(pz N).map Prod.fst=rR N:=by
 unfold rR lay pz;rw[iL];rfl
theorem vt (N:Nt):(pz N).map Prod.snd=N.forks:=wz _ _ _
theorem j6:∀ (fs:List Fk) (re:List Int),(∀ f∈fs,f.1<re.length/\f.2<re.length)->(∀ y∈(run x6 re fs).2,re.getD y.2.1 0<y.1/\re.getD y.2.2 0<y.1)/\(run x6 re fs).2.Pairwise λx y=>wC x.2 y.2=true->x.1<y.1
 | [],re,_=>⟨λy e=>by simp[run]at e,List.Pairwise.nil⟩
 | f::fs,re,ok=>by
  have p:=ok f Jz
  obtain⟨l,n⟩:=j6 fs (x6 re f).1 λg o=>by
   have:=ok g (Jw _ o);unfold x6;simpa using this
  have gl:=zdT (re.getD f.1 0) (re.getD f.2 0);have s:=zdS (re.getD f.1 0) (re.getD f.2 0)
  have st:∀ c,(x6 re f).1.getD c 0=if f.2=c then (x6 re f).2 else if f.1=c then (x6 re f).2 else re.getD c 0:=λc=>by
   by_cases m:c<re.length
   ·unfold x6
    rw[yY (by simp[m]),yY m]
   ·have k:f.2≠c:=by lia
    have j:f.1≠c:=by lia
    rw[Jc k,Jc j];unfold x6;rw[y7 k,y7 j]
  have r:(x6 re f).2=1+big (re.getD f.1 0) (re.getD f.2 0):=rfl
  have up:∀ c,re.getD c 0<=(x6 re f).1.getD c 0:=λc=>by
   rw[st c];split
   ·next h=>subst h;lia
   ·split
    ·next h=>subst h;lia
    ·exact ZY _
  refine⟨λy e=>?_,Z4.mpr ⟨λy e i=>?_,n⟩⟩
  ·rcases Jf.mp e with rfl|d
   ·show re.getD f.1 0<(x6 re f).2/\re.getD f.2 0<(x6 re f).2
    lia
   ·have:=l y d
    have a:=up y.2.1;have b:=up y.2.2;lia
  ·show (x6 re f).2<y.1
   have d:=l y e;rw[st,st]at d;unfold wC at i;rw[Bool.or_eq_true,YN,YN]at i;have i:(f.1=y.2.1\/f.1=y.2.2)\/(f.2=y.2.1\/f.2=y.2.2):=i;rcases i with (h|h)|(h|h)
   ·have:=d.1
    by_cases q:f.2=y.2.1
    ·rw[Jh q]at this;exact this
    ·rw[Jc q,Jh h]at this;exact this
   ·have:=d.2
    by_cases q:f.2=y.2.2
    ·rw[Jh q]at this;exact this
    ·rw[Jc q,Jh h]at this;exact this
   ·have:=d.1;rw[Jh h]at this;exact this
   ·have:=d.2;rw[Jh h]at this;exact this
def rnk (x:Int × Fk):Int:=x.1*1024+x.2.1*32+x.2.2
def ins (x:Int × Fk):List (Int × Fk)->List (Int × Fk)
 | []=>[x]
 | y::l=>if rnk x<=rnk y then x::y::l else y::ins x l
def uz:List (Int × Fk)->List (Int × Fk)
 | []=>[]
 | x::l=>ins x (uz l)
theorem zc0 (x:Int × Fk):∀ l,(ins x l).Perm (x::l)
 | []=>.refl _
 | y::l=>by
  unfold ins;split
  ·exact .refl _
  ·exact((zc0 x l).cons y).trans (List.Perm.swap x y l)
theorem xN:∀ l,(uz l).Perm l
 | []=>.refl _
 | x::l=>(zc0 x _).trans ((xN l).cons x)
theorem ra (x:Int × Fk):∀ l:List (Int × Fk),l.Pairwise (λa b=>rnk a<=rnk b)->(ins x l).Pairwise (λa b=>rnk a<=rnk b)
 | [],_=>List.pairwise_singleton _ _
 | y::l,h=>by
  obtain⟨e,f⟩:=Z4.mp (id h);unfold ins;split
  ·next le =>
   refine Z4.mpr ⟨λz c=>?_,h⟩;rcases Jf.mp c with rfl|d
   ·exact le
   ·exact ZB le (e z d)
  ·next gt =>
   refine Z4.mpr ⟨λz c=>?_,ra x l f⟩;rcases Jf.mp ((zc0 x l).mem_iff.mp c) with rfl|c
   ·lia
   ·exact e z c
theorem uE:∀ l,(uz l).Pairwise (λa b=>rnk a<=rnk b)
 | []=>List.Pairwise.nil
 | x::l=>ra x _ (uE l)
theorem av (x:Int × Fk):∀ l:List (Int × Fk),(∀ y∈l,y.2.1<32/\y.2.2<32)->x.2.1<32->x.2.2<32->(∀ y∈l,wC x.2 y.2=true->x.1<y.1)->Sw (x::l) (ins x l)
 | [],_,_,_,_=>.refl _
 | y::l,bd,c,b,h=>by
  unfold ins;split
  ·exact .refl _
  ·next gt =>
   have d:=bd y Jz
   have no:wC x.2 y.2=false:=by
    cases q:wC x.2 y.2 with
    | false=>rfl
    | true =>
     have:=h y Jz q;unfold rnk at gt;lia
   exact .trans (.swap [] x y l no) ((av x l (λz a=>bd z (Jw _ a)) c b λz a=>h z (Jw _ a)).cons y)
theorem mn:∀ l:List (Int × Fk),(∀ y∈l,y.2.1<32/\y.2.2<32)->l.Pairwise (λx y=>wC x.2 y.2=true->x.1<y.1)->Sw l (uz l)
 | [],_,_=>.refl _
 | x::l,bd,h=>by
  obtain⟨d,c⟩:=Z4.mp (id h);have b:=bd x Jz;have ih:=mn l (λy a=>bd y (Jw _ a)) c;refine .trans (ih.cons x) (av x _ (λy a=>bd y (Jw _ ((xN l).mem_iff.mp a))) b.1 b.2 λy a=>d y ((xN l).mem_iff.mp a))
theorem qT {a b:List (Int × Fk)}(p:a.Perm b)(bd:∀ y∈b,y.2.1<32/\y.2.2<32)(sa:a.Pairwise (λx y=>rnk x<=rnk y))(sb:b.Pairwise (λx y=>rnk x<=rnk y)):a=b:=by
 refine List.Perm.eq_of_pairwise (le:=λx y=>rnk x<=rnk y) (λx y m l e d=>?_) sa sb p;have q:=bd x (p.mem_iff.mp m);have c:=bd y l;obtain⟨k,j,i⟩:=x;obtain⟨h,g,f⟩:=y;unfold rnk at e d;simp only at e d q c;have o:k=h:=by lia
 have e2:j=g:=by lia
 have n:i=f:=by lia
 rw[o,e2,n]
def rD (N:Nt):List Fk:=(uz (pz N)).map Prod.snd
def yt (N:Nt):Nt:=⟨N.lanes,rD N,N.ends⟩
theorem zct {N:Nt}{y:Int × Fk}(h:y∈pz N):y.2∈N.forks:=by
 rw[<- vt N];exact Jx.mpr ⟨y,h,rfl⟩
theorem kf {N:Nt}(ok:N.Ok):∀ y∈pz N,y.2.1<32/\y.2.2<32:=λy a=>by
 have:=ok.fk y.2 (zct a);have:=ok.l16;lia
theorem zcu {N:Nt}(ok:N.Ok):(pz N).Pairwise λx y=>wC x.2 y.2=true->x.1<y.1 :=
 (j6 N.forks (List.replicate N.lanes 0) λf a=>by
  have:=ok.fk f a
  rw[Yb];simp_all).2
theorem bY {N:Nt}(ok:N.Ok):Sw (pz N) (uz (pz N)):=mn _ (kf ok) (zcu ok)
theorem vU (N:Nt):(rD N).Perm N.forks:=by
 have:=(xN (pz N)).map Prod.snd
 rwa [vt]at this
theorem bZ {N:Nt}(ok:N.Ok):(yt N).Ok:=⟨ok.l1,ok.l16,by
 show (rD N).length<=128
 rw[(vU N).length_eq];exact ok.fm,λf a=>ok.fk f ((vU N).mem_iff.mp a),ok.en⟩
theorem tK {N:Nt}(ok:N.Ok){zs:List (Int × Fk)}(p:zs.Perm (pz N))(so:zs.Pairwise (λa b=>rnk a<=rnk b)):zs=uz (pz N) :=
 qT (p.trans (xN _).symm) (λy c=>kf ok y ((xN _).mem_iff.mp c)) so (uE _)
theorem zaM {α:Type}(l:List α){i:Nat}(h:i+1<l.length):∃ pre x y post,l=pre++x::y::post/\pre.length=i/\l[i]?=some x/\l[i+1]?=some y/\(l.set i y).set (i+1) x=pre++y::x::post:=by
 have e:l=l.take i++l[i]::l[i+1]::l.drop (i+1+1):=by
  rw[<- Yj h,<- Yj (show i<l.length by lia),Z0]
 have a:(l.take i).length=i:=by rw[JF];lia
 refine⟨l.take i,l[i],l[i+1],l.drop (i+1+1),e,a,J6 _,J6 _,?_⟩;generalize l[i]=x at e ⊢;generalize l[i+1]=y at e ⊢;generalize l.take i=pre at e a ⊢;generalize l.drop (i+1+1)=post at e ⊢;subst e a;rw[List.set_append_right _ _ (Je _),Nat.sub_self,List.set_append_right _ _ (by lia),ZZ];rfl
def nmq (p:List Nat)(i:Nat):Nat:=p.getD i 0
def zb2 (p:List Nat)(f:Fk):Fk:=(nmq p f.1,nmq p f.2)
def bM (N:Nt)(p:List Nat):Nt:=⟨N.lanes,N.forks.map (zb2 p),N.ends.map (nmq p)⟩
def zbP (a b:Nt):Nt:=⟨a.lanes,a.forks++b.forks.map (zb2 a.ends),b.ends.map (nmq a.ends)⟩
def shF (n:Nat)(f:Fk):Fk:=(n+f.1,n+f.2)
def zbO (a b:Nt):Nt:=⟨a.lanes+b.lanes,a.forks++b.forks.map (shF a.lanes),a.ends++b.ends.map (a.lanes + ·)⟩
theorem yx {H:Hp}{a:JI}(_:H a=none)(o:HO):L2.upd H a o a=some o:=zD
def nN (H:Hp):V->Fk
 | .ref g=>match H g with
  | some (.tup [.int a,.int b])=>(a.toNat,b.toNat)
  | _=>(0,0)
 | _=>(0,0)
def dec (H:Hp):V->Int × Fk
 | .ref t=>match H t with
  | some (.tup [.int l,x])=>(l,nN H x)
  | _=>(0,(0,0))
 | _=>(0,(0,0))
theorem iW {H:Hp}{g:JI}{f:Fk}(h:H g=some (.tup [.int f.1,.int f.2])):nN H (.ref g)=f:=by
 simp only[nN,h];obtain⟨a,b⟩:=f;simp
theorem zc6 {H:Hp}{t g:JI}{l:Int}{f:Fk}(h:H t=some (.tup [.int l,.ref g]))(a:H g=some (.tup [.int f.1,.int f.2])):dec H (.ref t)=(l,f):=by
 show (match H t with|some (.tup [.int l,x])=>(l,nN H x)|_=>(0,(0,0)))=(l,f);rw[h];show (l,nN H (.ref g))=(l,f);rw[iW a]
def Trp (H:Hp)(x:V)(p:Int × Fk):Prop:=∃ t g,x=.ref t/\H t=some (.tup [.int p.1,.ref g])/\H g=some (.tup [.int p.2.1,.int p.2.2])
theorem Trp.dec {H:Hp}{x:V}{p:Int × Fk}(h:Trp H x p):dec H x=p:=by
 obtain⟨t,g,rfl,b,a⟩:=h;exact zc6 b a
theorem xu {i j:Int}:(compare i j=.lt↔i<j)/\(compare i j=.eq↔i=j)/\(compare i j=.gt↔j<i):=by
 rw[show compare i j=compareOfLessAndEq i j from rfl];unfold compareOfLessAndEq;by_cases b:i<j
 ·rw[Jh b];simp[b];lia
 ·rw[Jc b]
  by_cases a:i=j
  ·rw[Jh a];simp[a]
  ·rw[Jc a];simp[b,a];lia
theorem zar {i j:Int}{c:Ordering}(h:(c=.lt->i<j)/\(c=.eq->i=j)/\(c=.gt->j<i)):compare i j=c:=by
 cases c with
 | lt=>exact xu.1.mpr (h.1 rfl)
 | eq=>exact xu.2.1.mpr (h.2.1 rfl)
 | gt=>exact xu.2.2.mpr (h.2.2 rfl)
theorem zeH {a b d c:Int}(j:0<=b/\b<32)(i:0<=c/\c<32):compare (a*32+b) (d*32+c)=(compare a d).then (compare b c):=by
 apply zar;have h:=@xu a d;have g:=@xu b c;cases e:compare a d<;>rw[e]at h<;>simp at h
 ·refine⟨λ_=>by lia,λz=>?_,λz=>?_⟩<;>cases z
 ·cases f:compare b c<;>rw[f]at g<;>simp at g
  ·refine⟨λ_=>by simp_all,λz=>?_,λz=>?_⟩<;>cases z
  ·refine⟨λz=>?_,λ_=>by simp_all,λz=>?_⟩<;>cases z
  ·refine⟨λz=>?_,λz=>?_,λ_=>by simp_all⟩<;>cases z
 ·refine⟨λz=>?_,λz=>?_,λ_=>by lia⟩<;>cases z
theorem zbs {H:Hp}{n:Nat}{g g':JI}{f a:Fk}(h:H g=some (.tup [.int f.1,.int f.2]))(h':H g'=some (.tup [.int a.1,.int a.2]))(b:f.2<32)(c:a.2<32) :
  Lx H (n+1) (.ref g) (.ref g') (compare ((f.1:Int)*32+f.2) ((a.1:Int)*32+a.2)):=by
 rw[zeH (by lia) (by lia)];exact Lx.pair h h' (.int _ _ _) (.int _ _ _)
theorem zcO {H:Hp}{x y:V}{p q:Int × Fk}(h:Trp H x p)(d:Trp H y q)(b:p.2.1<32/\p.2.2<32)(m:q.2.1<32/\q.2.2<32):Lx H 2 x y (compare (rnk p) (rnk q)):=by
 obtain⟨t,g,rfl,l,k⟩:=h;obtain⟨n,o,rfl,j,i⟩:=d
 have e:compare (rnk p) (rnk q)=(compare p.1 q.1).then (compare ((p.2.1:Int)*32+p.2.2) ((q.2.1:Int)*32+q.2.2)):=by
  apply zar;have c:=@xu p.1 q.1;have a:=@xu ((p.2.1:Int)*32+p.2.2) ((q.2.1:Int)*32+q.2.2);unfold rnk;cases e:compare p.1 q.1<;>rw[e]at c<;>simp at c
  ·refine⟨λ_=>by lia,λz=>?_,λz=>?_⟩<;>cases z
  ·cases f:compare ((p.2.1:Int)*32+p.2.2) ((q.2.1:Int)*32+q.2.2)<;>rw[f]at a<;>simp at a
   ·refine⟨λ_=>by lia,λz=>?_,λz=>?_⟩<;>cases z
   ·refine⟨λz=>?_,λ_=>by lia,λz=>?_⟩<;>cases z
   ·refine⟨λz=>?_,λz=>?_,λ_=>by lia⟩<;>cases z
  ·refine⟨λz=>?_,λz=>?_,λ_=>by lia⟩<;>cases z
 rw[e];exact Lx.pair l j (.int _ _ _) (zbs k i b.2 m.2)
theorem zaA {H:Hp}{ts ps:List V}{ls:List Int}{fs:List Fk}(z:Zip2 H ts (ls.map V.int) ps)(pr:Prs H ps fs):ts.map (dec H)=ls.zip fs/\∀ x∈ts,Trp H x (dec H x):=by
 have p:=pr.len;have j:=z.1;rw[Jb]at j
 have at_:∀ (i:Nat) t,ts[i]?=some t->∃ l f,ls[i]?=some l/\fs[i]?=some f/\Trp H t (l,f):=λi t m=>by
  obtain⟨a,x,y,rfl,c,k,o⟩:=z.2 i t m;rw[JC]at c;obtain⟨l,d,rfl⟩:=Y7.mp c;obtain⟨g,f,rfl,h,n⟩:=pr.get k;exact⟨l,f,d,h,a,g,rfl,o,n⟩
 refine⟨List.ext_getElem? λi=>?_,λx c=>?_⟩
 ·rw[JC]
  cases e:ts[i]? with
  | none =>
   have q:=YL.mp e
   exact(YL.mpr (by rw[Wr];lia)).symm
  | some t =>
   obtain⟨l,f,d,h,b⟩:=at_ i t e;rw[Option.map_some,b.dec];exact(YK.mpr ⟨d,h⟩).symm
 ·obtain⟨i,hi⟩:=Z2.mp c
  obtain⟨l,f,_,_,b⟩:=at_ i x hi;rw[b.dec];exact b
def IsFk (H:Hp)(x:V)(f:Fk):Prop:=∃ g,x=.ref g/\H g=some (.tup [.int f.1,.int f.2])
theorem IsFk.dec {H:Hp}{x:V}{f:Fk}(h:IsFk H x f):nN H x=f:=by
 obtain⟨g,rfl,e⟩:=h;exact iW e
theorem bW {H:Hp}:∀ {ps:List V},(∀ x∈ps,IsFk H x (nN H x))->Prs H ps (ps.map (nN H))
 | [],_=>trivial
 | x::ps,h=>by
  obtain⟨g,e,b⟩:=h x Jz;exact⟨⟨g,e,b⟩,bW λy a=>h y (Jw _ a)⟩
theorem Prs.app {H:Hp}:∀ {ps a:List V}{fs b:List Fk},Prs H ps fs->Prs H a b->Prs H (ps++a) (fs++b)
 | [],_,[],_,_,h=>h
 | _::_,_,_::_,_,⟨x,r⟩,h=>⟨x,Prs.app r h⟩
theorem zcs (N:Nt):pz N=(rR N).zip N.forks:=by
 rw[<- gW,<- vt]
 induction pz N with
 | nil=>rfl
 | cons x l ih=>rw[JR,JR,List.zip_cons_cons,<- ih]
theorem Prs.set {H:Hp}{x:V}{f:Fk}(a:IsFk H x f):∀ {ps:List V}{fs:List Fk}(i:Nat),Prs H ps fs->Prs H (ps.set i x) (fs.set i f)
 | [],[],_,_=>trivial
 | _::_,_::_,0,⟨_,r⟩=>by
  obtain⟨g,e,h⟩:=a
  exact⟨⟨g,e,h⟩,r⟩
 | _::_,_::_,i+1,⟨y,r⟩=>⟨y,Prs.set a i r⟩
end Bn
namespace L2
open PySem
theorem zdc {i:Nat}{x:V}{t:TS}{D:Ends}{σ:St}{H:Hp}(h:∀ a:Ends,(∀ σ H,D.nx σ H->a.nx σ H)->(∀ σ H,D.ct σ H->a.ct σ H)->t a (σ.set i (some x)) H):tE i x σ H λb c=>t D b c:=h D (λ_ _ x=>x) λ_ _ x=>x
theorem we {t u:TS}{D:Ends}{σ:St}{H:Hp}(h:∀ a:Ends,(∀ σ H,u D σ H->a.nx σ H)->t a σ H):nu t u D σ H:=h { D with nx:=u D } λ_ _ x=>x
end L2
namespace Bn
open PySem L2 Own
abbrev Sn:=List Int × List Grp × List Int
abbrev Sn.none (N:Nt):Sn:=(List.replicate N.forks.length 0,[],List.replicate N.lanes 0)
end Bn
namespace L2
open PySem PySem.Spec PyProof.Rows Own
abbrev FZ (o:Obj):HO:=.frz o (.ext λ_=>True)
theorem lB {P:Yo}{w:YI}{H:Hp}{h:YP}{a:JI}{o:Obj}(e:h.get? a=some o):ObjOk P w H h a (FZ o):=⟨e,trivial,⟨o,e⟩,λ_ _ _ _=>trivial⟩
structure Lam where
 params:Arguments
 body:Expr
 scope:Scope
 qual:Str
def mh (L:Lam)(cl:List (Str × JI))(pm:Jo)(c:JI)(ct:Jo):Obj:=PySem.W.kla_obj "<lambda>" L.qual L.params L.body L.scope cl pm c ct
structure LamAt (H:Hp) (f:JI) (L:Lam) (cl:List (Str × JI)) (vs:List V):Prop where
 ex:∃ (pm:Jo) (c:JI) (ct:Jo) (oc:Obj) (fs:Array Jo) (t:Tok),H f=some (FZ (mh L cl pm c ct))/\H c=some (FZ oc)/\oc.data=.fields fs/\fs[1]?=some (.str L.qual t)
 len:cl.length=vs.length
 cell:∀ (i:Nat) x c v,cl[i]?=some (x,c)->vs[i]?=some v->∃ o u,H c=some (FZ o)/\o.data=.cell (some u)/\RelV v u
 nd1:(cl.map (·.1)).Nodup
 nd2:(cl.map (·.2)).Nodup
theorem LamAt.frz {H H':Hp}{f:JI}{L:Lam}{cl:List (Str × JI)}{vs:List V}(h:LamAt H f L cl vs)(z:∀ b o u,H b=some (.frz o u)->H' b=some (.frz o u)):LamAt H' f L cl vs:=by
 obtain⟨pm,c,p,j,fs,t,n,m,l,k⟩:=h.ex;refine⟨⟨pm,c,p,j,fs,t,z _ _ _ n,z _ _ _ m,l,k⟩,h.len,λi x c v a b=>?_,h.nd1,h.nd2⟩;obtain⟨o,u,g,e,d⟩:=h.cell i x c v a b;exact⟨o,u,z _ _ _ g,e,d⟩
def strip (cl:List (Str × JI))(H:Hp):Hp:=λb=>if b∈cl.map (·.2) then none else H b
def back (cl:List (Str × JI))(H H':Hp):Hp:=λb=>if b∈cl.map (·.2) then H b else H' b
theorem wa {cl:List (Str × JI)}{H:Hp}{b:JI}(h:b∈cl.map (·.2)):strip cl H b=none:=Jh h
theorem zw {cl:List (Str × JI)}{H:Hp}{b:JI}(h:b∉cl.map (·.2)):strip cl H b=H b:=Jc h
theorem nV {cl:List (Str × JI)}{H H':Hp}{b:JI}(h:b∈cl.map (·.2)):back cl H H' b=H b:=Jh h
theorem xU {cl:List (Str × JI)}{H H':Hp}{b:JI}(h:b∉cl.map (·.2)):back cl H H' b=H' b:=Jc h
theorem lj {cl:List (Str × JI)}{H:Hp}{b:JI}{o:HO}(h:strip cl H b=some o):b∉cl.map (·.2)/\H b=some o:=by
 by_cases c:b∈cl.map (·.2)
 ·rw[wa c]at h;cases h
 ·rw[zw c]at h;exact⟨c,h⟩
def CellsFz (cl:List (Str × JI))(H:Hp):Prop:=∀ b∈cl.map (·.2),∃ o,H b=some (FZ o)
theorem LamAt.fz {H:Hp}{f:JI}{L:Lam}{cl:List (Str × JI)}{vs:List V}(h:LamAt H f L cl vs):CellsFz cl H:=λb k=>by
 obtain⟨⟨x,c⟩,j,rfl⟩:=Jx.mp k;obtain⟨i,a,e⟩:=Z8.mp j;have g:i<vs.length:=by rw[<- h.len];exact a
 obtain⟨o,u,d,_⟩:=h.cell i x c vs[i] (by rw[J6 a,e]) (J6 g);exact⟨o,d⟩
section
variable {P:Yo}{w:YI}{H H':Hp}{h h':YP}{cl:List (Str × JI)}
theorem pM (x:HOk P w H h)(fz:CellsFz cl H):HOk P w (strip cl H) h:=λb u e=>by
 obtain⟨nb,f⟩:=lj e
 have keep:∀ {c:JI}{o:HO},H c=some o->(∀ q,o≠FZ q)->strip cl H c=some o:=λ{c o} z n=>by
  rw[zw];· exact z
  ·intro d
   obtain⟨q,a⟩:=fz c d;rw[z]at a;exact n q (Jq a)
 exact(x b u f).stay (λc v _ q=>q) (λc q=>keep q λz y=>by cases y) λc g q=>keep q λz y=>by cases y
theorem zaF {fs:List JI}(un:Un fs [] (strip cl H) H' h h')(fz:CellsFz cl H)(k:∀ b∈fs,H b=none)(there:∀ b o,H b=some (FZ o)->h.get? b=some o)(low:∀ b∈cl.map (·.2),H' b=none)(ok:HOk P w H' h'):Un fs [] H (back cl H H') h h'/\HOk P w (back cl H H') h':=by
 have d:∀ {b:JI},H b=none->b∉cl.map (·.2):=λe a=>by
  obtain⟨o,q⟩:=fz _ a;rw[e]at q;cases q
 have kept:∀ b∈cl.map (·.2),∀ o,h.get? b=some o->h'.get? b=some o:=λb a o e=>un.keep b o e (wa a) (λz=>d (k b z) a) (by simp)
 have f:∀ {b:JI}{o:HO},H b=some o->(∀ q,o≠FZ q)->b∉cl.map (·.2):=λz n a=>by
  obtain⟨q,i⟩:=fz _ a;rw[z]at i;exact n q (Jq i)
 refine⟨⟨λb o e n x y=>un.keep b o e (by rw[zw (d n)];exact n) x y,λb o e n x y=>un.slot b o e (by rw[zw (d n)];exact n) x y,λb o e n y=>?_,un.there,λb g e=>?_,λb o u e=>?_,λb j e=>?_⟩,λb u e=>?_⟩
 ·rw[xU (d n)]
  exact un.free b o e (by rw[zw (d n)];exact n) y
 ·have nb:=f e λq z=>by cases z
  rw[xU nb];exact un.tups b g (by rw[zw nb];exact e)
 ·by_cases c:b∈cl.map (·.2)
  ·rw[nV c];exact e
  ·rw[xU c];exact un.frzs b o u (by rw[zw c];exact e)
 ·have nb:=f e λq z=>by cases z
  rw[xU nb];exact un.tbls b j (by rw[zw nb];exact e)
 ·by_cases c:b∈cl.map (·.2)
  ·rw[nV c]at e
   obtain⟨o,q⟩:=fz b c;rw[q]at e;cases e;exact lB (kept b c o (there b o q))
  ·rw[xU c]at e
   have old:∀ {x:JI}{o:HO},H' x=some o->back cl H H' x=some o:=λ{x o} z=>by
    rw[xU];· exact z
    ·intro l
     rw[low x l]at z;cases z
   exact(ok b u e).stay (λx v _ q=>q) (λx q=>old q) λx g q=>old q
end
def jc (L:Lam)(cl:List (Str × JI))(a f c:JI):Env:={ scope:=L.scope,locals:=a,globals:=mainGlobals,cells:=cl,qual:=L.qual++".<locals>.",func:=some f,code:=.ref c,frame:=some a,builtins:=builtinsNs }
def zan (CX:CXT)(P:Yo)(w:YI)(K:Jl)(mg:Str->Option Jo)(base:YP)(N:List Str)(L:Lam)(cl:List (Str × JI))(f c:JI)(A:YO)(outer:List Env)(s:JO)(H:Hp)(E:XK):Cx where
 prog:=P
 w:=w
 K:=K
 mg:=mg
 base:=base
 A:=A.deeper (jc L cl s.heap.objs.size f c)
 N:=N
 s₀:=s
 H₀:=strip cl H
 env:=jc L cl s.heap.objs.size f c
 outer:=outer
 stack:=jc L cl s.heap.objs.size f c::outer
 ex:=[]
 calm:=true
 fn:=λ_=>false
 pn:=[]
 xe:=λe b=>wpAny (model P w) (A.deeper (jc L cl s.heap.objs.size f c)) (leaving (jc L cl s.heap.objs.size f c) e) (λ_ a=>CX outer H s E e a) (λd a=>CX outer H s E d a) b
structure LamScope (ps fr:List Str) (sc:Scope):Prop where
 kind:sc.kind=.function
 co:sc.isCoroutine=false
 gen:sc.isGenerator=false
 nd:(ps++fr).Nodup
 par:∀ x∈ps,sc.names.lookup x=some .local
 fre:∀ x∈fr,sc.names.lookup x=some .free
 noc:∀ y∈sc.names,y.2≠.cell
 all:∀ x,sc.names.lookup x=some .free->x∈fr
section
variable {CX:CXT}{P:Yo}{w:YI}{K:Jl}{mg:Str->Option Jo}{base:YP}{L:Lam}{cl:List (Str × JI)}{vals vs:List V}{ps:List Str}{f c:JI}{A:YO}{outer:List Env}{s:JO}{H:Hp}{us:List Jo}{E:XK}
theorem iH {cl:List (Str × JI)}(nd:(cl.map (·.1)).Nodup):∀ {i:Nat}{x:Str}{c:JI},cl[i]?=some (x,c)->cl.lookup x=some c:=by
 induction cl with
 | nil=>intro i x c h;cases h
 | cons p r ih =>
  intro i x c h;rw[JR,JJ]at nd
  cases i with
  | zero =>
   cases Jq h
   rw[YH,Wf]
  | succ i =>
   have m:=JM (show r[i]?=some (x,c) from h);rw[YH,show (x == p.1)=false from Zt.mpr λz=>nd.1 (Jx.mpr ⟨_,m,z⟩)];exact ih nd.2 (show r[i]?=some (x,c) from h)
theorem kX {ps:List Str}{us:List Jo}(nd:ps.Nodup)(d:us.length=ps.length){i:Nat}{x:Str}{u:Jo}(b:ps[i]?=some x)(c:us[i]?=some u):(ps.zip us).reverse.lookup x=some u:=by
 have a:((ps.zip us).reverse.map (·.1)).Nodup:=by
  rw[List.map_reverse,List.map_fst_zip (by simp_all)];exact List.pairwise_reverse.mpr (nd.imp λh=>h.symm)
 have m:(x,u)∈(ps.zip us).reverse:=List.mem_reverse.mpr (JM (i:=i) (by rw[YK];exact⟨b,c⟩));generalize (ps.zip us).reverse=l at a m
 induction l with
 | nil=>cases m
 | cons p r ih =>
  rw[JR,JJ]at a;rcases Jf.mp m with e|z
  ·rw[<- e,YH,Wf]
  ·rw[YH,show (x == p.1)=false from Zt.mpr λy=>a.1 (Jx.mpr ⟨_,z,y⟩)]
   exact ih a.2 z
theorem zbC {h':YP}{tk:Nat}(S:LamScope ps (cl.map (·.1)) L.scope)(hd:A.handled=none)(g:Env0 P w K mg base A outer s H)(la:LamAt H f L cl vals)(r:Vals vs us)(J:vs.length=ps.length)(ns:h'.Ns s.heap.objs.size (λx=>(ps.zip us).reverse.lookup x))(kp:∀ b o,s.heap.get? b=some o->h'.get? b=some o) :
  Inv (zan CX P w K mg base (ps++cl.map (·.1)) L cl f c A outer s H E) [] ((vs++vals).map some) (strip cl H) { s with heap:=h',toks:=tk }:=by
 have fz:=la.fz;have O:=ZK.mp S.nd;have ul:us.length=ps.length:=by rw[<- r.length];exact J
 have d:∀ {x:Str}{a:JI},cl.lookup x=some a->(x,a)∈cl:=λh=>Zu h
 have cellOf:∀ {x:Str}{a:JI},(x,a)∈cl->∃ (i:Nat) (v:V) (o:Obj) (u:Jo),cl[i]?=some (x,a)/\vals[i]?=some v/\H a=some (FZ o)/\o.data=.cell (some u)/\RelV v u/\s.heap.get? a=some o:=λ{x a} m=>by
  obtain⟨i,t,e⟩:=Z8.mp m;have R:cl[i]?=some (x,a):=by rw[J6 t,e]
  have Q:i<vals.length:=by rw[<- la.len];exact t
  obtain⟨o,u,C,B,F⟩:=la.cell i x a vals[i] R (J6 Q);exact⟨i,_,o,u,R,J6 Q,C,B,F,(g.hok a _ C).1⟩
 refine⟨⟨g.mod,S.kind,rfl,rfl,Je _,λy z a k n=>?_,λy G=>?_,λy a q=>(by cases q),λ_=>hd,Around.frames_deeper g.frames,.inr ⟨rfl,rfl⟩,λb z=>(Jg z).elim,λb o e=>⟨(g.bs b o e).1,?_⟩,g.bsz,λb _ _=>Jg,λb z=>(Jg z).elim,g.funs,λb hb=>?_⟩,
  rfl,g.bare,Un.kept kp,⟨_,ns,λi y v k n h3=>?_⟩,λy a h=>?_,?_,λy a h=>wa (Jx.mpr ⟨_,d h,rfl⟩),λp I=>(Jg I).elim,(pM g.hok fz).kept kp,?_⟩
 ·-- one cell,one name
  have X:=d k;have W:=d n;obtain⟨i,t,D⟩:=Z8.mp X;obtain⟨j,Y,M⟩:=Z8.mp W;have:i=j:=(List.getElem_inj (h₀:=by rw[Jb];exact t) (h₁:=by rw[Jb];exact Y) la.nd2).mp (by rw[We,We,D,M]);subst this;rw[D]at M;exact JP Prod.fst M
 ·have G:L.scope.names.lookup y=some .cell\/L.scope.names.lookup y=some .free:=G
  rcases G with q|q
  ·exact absurd rfl (S.noc _ (Zu q))
  ·obtain⟨p,I,e⟩:=Jx.mp (S.all y q)
   obtain⟨i,t,D⟩:=Z8.mp I;exact⟨p.2,iH la.nd1 (i:=i) (by rw[J6 t,D,<- e])⟩
 ·show strip cl H b=none
  unfold strip;split
  ·rfl
  ·exact(g.bs b o e).2
 ·show strip cl H b=none
  unfold strip;split
  ·rfl
  ·exact g.frf b hb
 ·have l:(vs++vals)[i]?=some v:=by
   rw[JC]at n
   cases e:(vs++vals)[i]? with
   | none=>rw[e]at n;cases n
   | some z=>rw[e]at n;cases n;rfl
  replace k:(ps++cl.map (·.1))[i]?=some y:=k;by_cases ci:i<vs.length
  ·rw[Yd ci]at l
   rw[Yd (by simp_all)]at k;obtain⟨u,Z,T⟩:=r.get l;exact⟨u,T,.inl ⟨S.par y (JM k),kX O.1 ul k Z⟩⟩
  ·rw[Y3 (by simp_all)]at l
   rw[Y3 (by simp_all),JC,<- J]at k;obtain⟨⟨x,a⟩,N,rfl⟩:=Y7.mp k;obtain⟨o,u,C,B,F⟩:=la.cell _ x a v N l;exact⟨u,F,.inr ⟨.inr (S.fre x (Jx.mpr ⟨_,JM N,rfl⟩)),a,iH la.nd1 N,o,kp _ _ (g.hok a _ C).1,B⟩⟩
 ·obtain⟨i,v,o,u,_,_,_,B,_,U⟩:=cellOf (d h)
  exact⟨some u,o,kp _ _ U,B⟩
 ·show strip cl H s.heap.objs.size=none
  unfold strip;split
  ·rfl
  ·exact g.hok.fresh (Je _)
 ·show ((vs++vals).map some).length=(ps++cl.map (·.1)).length
  rw[Jb,Jn,Jn,Jb,J,la.len]
end
theorem lJ {sc:Scope}{env:Env}(h:∀ x,(x,NameKind.free)∈sc.names->∃ c,env.cells.lookup x=some c) :
  ∃ cl,closureFor sc env=pure cl/\cl.map (·.1)=((sc.names.filter λy=>y.2 == .free).map (·.1)).reverse/\∀ p∈cl,env.cells.lookup p.1=some p.2:=by
 unfold closureFor
 have key:∀ (l:List (Str × NameKind)) (acc:List (Str × JI)),(∀ x,(x,NameKind.free)∈l->∃ c,env.cells.lookup x=some c)->(∀ p∈acc,env.cells.lookup p.1=some p.2) ->
   ∃ cl,(forIn l acc λ(y:Str × NameKind) (r:List (Str × JI))=>(match y with|(name,kind)=>if (kind == NameKind.free)=true then do let a <- cellOf env name;pure (ForInStep.yield ((name,a)::r)) else pure (ForInStep.yield r):Sem (ForInStep (List (Str × JI)))))=pure cl/\cl.map (·.1)=((l.filter λy=>y.2 == .free).map (·.1)).reverse++acc.map (·.1)/\∀ p∈cl,env.cells.lookup p.1=some p.2:=by
  intro l
  induction l with
  | nil=>intro acc _ e;exact⟨acc,rfl,rfl,e⟩
  | cons y l ih =>
   intro acc j e;obtain⟨x,f⟩:=y;rw[Yz];by_cases c:(f == NameKind.free)=true
   ·have n:f=.free:=by
     cases f<;>first|rfl|cases c
    subst n;obtain⟨a,k⟩:=j x (.head _)
    obtain⟨cl,d,e2,b⟩:=ih ((x,a)::acc) (λz g=>j z (.tail _ g)) (λp i=>by
     rcases Jf.mp i with rfl|q
     ·exact k
     ·exact e p q)
    refine⟨cl,?_,?_,b⟩
    ·have o:cellOf env x=pure a:=by unfold cellOf;rw[k]
     simp only[o,pure_bind];exact d
    ·rw[e2,List.filter_cons,Jh (show ((x,NameKind.free).2 == NameKind.free)=true from rfl),JR (l:=List.filter _ l),List.reverse_cons,JK];rfl
   ·obtain⟨cl,d,e2,b⟩:=ih acc (λz g=>j z (.tail _ g)) e
    refine⟨cl,?_,?_,b⟩
    ·simp only[c,pure_bind]
     exact d
    ·rw[e2,List.filter_cons,Jc c]
 obtain⟨cl,d,e2,b⟩:=key sc.names [] h (λp i=>(Jg i).elim);refine⟨cl,?_,by rw[e2,List.map_nil,JY],b⟩;have s:=JP (λ(m:Sem (List (Str × JI)))=>m >>= λr=>pure r) d;exact s.trans (pure_bind _ _)
def TabOk (H:Hp)(qual:Str)(l:List (Pos × JI)):Prop:=∀ p∈l,∃ (a:Obj) (fs:Array Jo) (t:Tok),H p.2=some (FZ a)/\a.data=.fields fs/\fs[1]?=some (.str qual t)
theorem TabOk.frz {H H':Hp}{qual:Str}{l:List (Pos × JI)}(h:TabOk H qual l)(z:∀ b o u,H b=some (.frz o u)->H' b=some (.frz o u)):TabOk H' qual l:=λp c=>by
 obtain⟨a,fs,t,e,d⟩:=h p c;exact⟨a,fs,t,z _ _ _ e,d⟩
theorem qP (pos:Pos):∀ l:List (Pos × JI),codeAmong pos (triples l)=none\/∃ p∈l,codeAmong pos (triples l)=some (.ref p.2)
 | []=>.inl rfl
 | (q,a)::l=>by
  show (if (((q.line:Int) == pos.line && (q.col:Int) == pos.col)=true) then some (Value.ref a) else codeAmong pos (triples l))=none\/∃ p∈(q,a)::l,(if (((q.line:Int) == pos.line && (q.col:Int) == pos.col)=true) then some (Value.ref a) else codeAmong pos (triples l))=some (.ref p.2);split
  ·exact .inr ⟨_,.head _,rfl⟩
  ·rcases qP pos l with h|⟨p,b,h⟩
   ·exact .inl h
   ·exact .inr ⟨p,.tail _ b,h⟩
theorem vQ:∀ l:List (Pos × JI),TriplesOk (triples l)
 | []=>trivial
 | (q,a)::l=>vQ l
structure CodeK (K:Jl) (mg:Str->Option Jo) (base:YP) (c P:JI):Prop where
 hd:PySem.W.codeHdIn K c P=true
 blt:base.BuiltinsAt mg P
 gP:mainGlobals≠P
structure LamRaw (H:Hp) (f:JI) (L:Lam) (cl:List (Str × JI)):Prop where
 ex:∃ (pm:Jo) (c:JI) (ct:Jo) (oc:Obj) (fs:Array Jo) (t:Tok),H f=some (FZ (mh L cl pm c ct))/\H c=some (FZ oc)/\oc.data=.fields fs/\fs[1]?=some (.str L.qual t)
def CellsOf (env:Env)(cl:List (Str × JI)):Prop:=∀ p∈cl,env.cells.lookup p.1=some p.2
def zd2 (env:Env)(P:JI)(L:Lam)(fr:List Str):TE:=λ_ H Q=>∃ l,H P=some (.tbl (triples l).toArray)/\TabOk H L.qual l /\
 ∀ f cl c a,cl.map (·.1)=fr->CellsOf env cl->H f=none->LamRaw a f L cl->a P=some (.tbl (triples c).toArray)->TabOk a L.qual c->(∀ b o,H b=some o->b≠P->a b=some o)->Q (.ref f) a
section
variable {X:Cx}{pins:List (JI × Obj)}{σ:St}{H:Hp}{s:JO}{h':YP}
theorem Inv.tab {P:JI}{ps more:Array Jo}{tk:Nat}(I:Inv X pins σ H s)(d:H P=some (.tbl ps))(k:Heap.ExtBut P s.heap h')(new:h'.get? P=some (PySem.W.tabObj (ps++more))):Inv X pins σ (upd H P (.tbl (ps++more))) { s with heap:=h',toks:=tk }:=by
 have ne:∀ {b:JI},H b=none->b≠P:=λe z=>by rw[z,d]at e;cases e
 have a:∀ {b:JI}{o:HO},H b=some o->(∀ q,o≠.tbl q)->upd H P (.tbl (ps++more)) b=some o:=λ{b o} e n=>by
  rw[zG];· exact e
  ·intro z
   rw[z,d]at e;exact n ps (Jq e).symm
 refine I.step (g':=s.gens) (d':=s.drawn) (ch:=[]) (λb j=>(Jg j).elim) (λb o _ _ _ e n=>k b o (ne n) e) (λb o _ _ _ e n=>⟨o.slots,k b o (ne n) e⟩) (λb o _ e n=>by rw[zG (ne n)];exact n) (λb o _ e=>?_) (λb f e=>a e λq z=>by cases z) (λb o u e=>a e λq z=>by cases z) (λb t e=>?_) (λm i=>?_) (λb u e=>?_) I.bare
 ·by_cases c:b=P
  ·subst c;exact⟨_,new⟩
  ·exact⟨o,k b o c e⟩
 ·by_cases c:b=P
  ·subst c
   rw[d]at e;cases e;exact⟨more,zD⟩
  ·exact⟨#[],by rw[zG c,e];simp⟩
 ·obtain⟨o,l,p,h,r⟩:=i
  exact⟨o,l,p,k _ o (ne I.free) h,r⟩
 ·by_cases c:b=P
  ·subst c
   rw[zD]at e;cases e;exact new
  ·rw[zG c]at e
   refine(I.hok b u e).stay (λx v g q=>k x v ?_ q) (λx q=>a q λz y=>by cases y) λx f q=>a q λz y=>by cases y
   rcases g with z|z
   ·rw[z];exact c
   ·rintro rfl
    rw[d]at z;cases z
theorem jA {params:Arguments}{body:Expr}{scope:Scope}{pos:Pos}{c P:JI}{fr:List Str}(N:CodeK X.K X.mg X.base c P)(i:X.env.code=.ref c)(B:defaultsOf params X.env=([],[]))(r:∀ x,(x,NameKind.free)∈scope.names->X.env.kindOf x=some .cell\/X.env.kindOf x=some .free)(S:((scope.names.filter λy=>y.2 == .free).map (·.1)).reverse=fr) :
  PE X (.Lambda params body scope pos) (zd2 X.env P ⟨params,body,scope,X.env.qual++"<lambda>"⟩ fr):=by
 intro pins s σ H Q I h;obtain⟨l,w,tok,q⟩:=h;obtain⟨cl,A,m,z⟩:=lJ (sc:=scope) (env:=X.env) λx hx=>I.ok.has x (r x hx);rw[S]at m;have Y:s.heap.Ns mainGlobals X.mg:=I.mod.glob.keeps I.bk;have Z:s.heap.BuiltinsAt X.mg P:=N.blt.keeps I.bk;have C:=PySem.W.codeHd_of_K I.kIn N.hd;have E:s.heap.get? P=some (PySem.W.tabObj (triples l).toArray):=I.hok P _ w;refine PySem.W.kla_eval B ?_;rcases qP pos l with hn|⟨p,K,hy⟩
 ·refine PySem.W.kla_makeFunction A I.ok.glob Y i C E (by rw[List.toList_toArray];exact vQ l) (by rw[List.toList_toArray];exact hn) N.gP Z λd f h' tk ex lo hi cr U=>?_
  obtain⟨c2,j,fs,t,ec,g1,g2,g3⟩:=cr;cases ec;have V:P<s.heap.objs.size:=Jd E;have sz:s.heap.objs.size<=h'.objs.size:=JS lo (Nat.le_of_lt hi);have cP:d≠P:=JT (JG V lo);have fP:h'.objs.size≠P:=JT (JG V sz);have M:d≠h'.objs.size:=JD hi
  have L:(triples l).toArray++#[rawInt pos.line,rawInt pos.col,.ref d]=(triples (l++[(pos,d)])).toArray:=by
   rw[triples_append];simp
  rw[L]at U;have D:=I.tab (tk:=tk) (h':=h'.push (mh ⟨params,body,scope,X.env.qual++"<lambda>"⟩ cl ((X.mg "__name__").getD .none) d f)) (more:=#[rawInt pos.line,rawInt pos.col,.ref d]) w (λb o n e=>J7 _ (ex b o n e)) (by rw[L];exact J7 _ U);rw[L]at D;have W:H d=none:=I.hok.fresh lo;have J:H h'.objs.size=none:=I.hok.fresh sz;have m1:upd H P (.tbl (triples (l++[(pos,d)])).toArray) d=none:=by rw[zG cP];exact W
  have I2:=D.adopt (o:=FZ j) (I.fpOk lo m1) (lB (J7 _ g1));have m2:upd (upd H P (.tbl (triples (l++[(pos,d)])).toArray)) d (FZ j) h'.objs.size=none:=by rw[zG M.symm,zG fP];exact J
  have I3:=I2.adopt (o:=FZ (mh ⟨params,body,scope,X.env.qual++"<lambda>"⟩ cl ((X.mg "__name__").getD .none) d f)) (I.fpOk sz m2) (lB (Jt _ rfl))
  have keep:∀ b o,H b=some o->b≠P->upd (upd (upd H P (.tbl (triples (l++[(pos,d)])).toArray)) d (FZ j)) h'.objs.size (FZ (mh ⟨params,body,scope,X.env.qual++"<lambda>"⟩ cl ((X.mg "__name__").getD .none) d f)) b=some o:=λb o e n=>by
   rw[zG (zH e J),zG (zH e W),zG n];exact e
  refine⟨.ref h'.objs.size,_,I3,rfl,q _ cl (l++[(pos,d)]) _ m z J ⟨_,d,f,j,fs,t,zD,by rw[zG M];exact zD,g2,g3⟩ (by rw[zG fP.symm,zG cP.symm];exact zD) (λp K=>?_) keep⟩;rcases Js.mp K with O|is
  ·obtain⟨R,T,t',v,G,F⟩:=tok p O
   exact⟨R,T,t',keep _ _ v (xG v w (λy=>by cases y)),G,F⟩
  ·rw[Jm.mp is]
   exact⟨j,fs,t,by rw[zG M];exact zD,g2,g3⟩
 ·obtain⟨j,fs,t,v,G,F⟩:=tok p K
  refine PySem.W.kla_makeFunctionHit A I.ok.glob Y i C E (by rw[List.toList_toArray];exact vQ l) (by rw[List.toList_toArray];exact hy) Z λf h' tk k sz=>?_;have kk:∀ b o,s.heap.get? b=some o->(h'.push (mh ⟨params,body,scope,X.env.qual++"<lambda>"⟩ cl ((X.mg "__name__").getD .none) p.2 f)).get? b=some o:=λb o e=>J7 _ (k b o e);have g:=I.hok.fresh (a:=h'.objs.size) sz;have D:=I.laid (a:=h'.objs.size) (o:=FZ (mh ⟨params,body,scope,X.env.qual++"<lambda>"⟩ cl ((X.mg "__name__").getD .none) p.2 f)) (t':=tk) kk sz (lB (Jt _ rfl));refine⟨.ref h'.objs.size,_,D,rfl,q _ cl l _ m z g ⟨_,p.2,f,j,fs,t,zD,by rw[zG (zH v g)];exact v,G,F⟩ (by rw[zG (zH w g)];exact w) (tok.frz λb o u e=>by rw[zG (zH e g)];exact e) λb o e _=>by rw[zG (zH e g)];exact e⟩
end
def CellsAt (H:Hp)(cs:List (Str × JI))(vals:List V):Prop:=cs.length=vals.length/\∀ (i:Nat) x c v,cs[i]?=some (x,c)->vals[i]?=some v->∃ o u,H c=some (FZ o)/\o.data=.cell (some u)/\RelV v u
theorem CellsAt.fz {H:Hp}{cs:List (Str × JI)}{vals:List V}(h:CellsAt H cs vals):CellsFz cs H:=λb j=>by
 obtain⟨⟨x,c⟩,g,rfl⟩:=Jx.mp j;obtain⟨i,a,e⟩:=Z8.mp g;have f:i<vals.length:=by rw[<- h.1];exact a
 obtain⟨o,u,d,_⟩:=h.2 i x c vals[i] (by rw[J6 a,e]) (J6 f);exact⟨o,d⟩
theorem LamRaw.at_ {H:Hp}{f:JI}{L:Lam}{cl cs:List (Str × JI)}{vals ws:List V}(r:LamRaw H f L cl)(h:CellsAt H cs vals)(n1:(cl.map (·.1)).Nodup)(d:(cl.map (·.2)).Nodup)(len:cl.length=ws.length)(sub:∀ (i:Nat) x c v,cl[i]?=some (x,c)->ws[i]?=some v->∃ j:Nat,cs[j]?=some (x,c)/\vals[j]?=some v):LamAt H f L cl ws:=by
 refine⟨r.ex,len,λi x c v a b=>?_,n1,d⟩;obtain⟨j,e,e2⟩:=sub i x c v a b;exact h.2 j x c v e e2
def zca (env:Env)(xs:List (Str × Nat))(sp:Sp)(E:XK)(t:TA):TE:=λσ H Q=>t σ H λd c=>∃ vals:List V,vals.length=xs.length/\(∀ (j:Nat) x i v,xs[j]?=some (x,i)->vals[j]?=some v->σ[i]?=some (some v)) /\
 ∀ cs a,cs.map (·.1)=xs.map (·.1)->CellsOf env cs->(cs.map (·.2)).Nodup->CellsAt a cs vals->(∀ b,b∉cs.map (·.2)->a b=c b)->(∀ b∈cs.map (·.2),c b=none)->sp d a (λv e=>Q v (strip cs e)) E
section
variable {X:Cx}{pins:List (JI × Obj)}{σ:St}{H:Hp}{s:JO}
theorem Inv.cells {xs:List (Str × Nat)}{vals:List V}(I:Inv X pins σ H s)(nd:(xs.map (·.1)).Nodup)(y:∀ p∈xs,X.N[p.2]?=some p.1/\X.env.scope.names.lookup p.1=some .cell/\X.fn p.1=true)(n:vals.length=xs.length)(k:∀ (j:Nat) x i v,xs[j]?=some (x,i)->vals[j]?=some v->σ[i]?=some (some v)):∃ cs:List (Str × JI),cs.map (·.1)=xs.map (·.1)/\CellsOf X.env cs/\(cs.map (·.2)).Nodup/\cs.length=vals.length /\
   ∀ (j:Nat) x c v,cs[j]?=some (x,c)->vals[j]?=some v->∃ o u,s.heap.get? c=some o/\o.data=.cell (some u)/\RelV v u/\X.s₀.heap.objs.size<=c:=by
 induction xs generalizing vals with
 | nil =>
  cases vals with
  | nil=>exact⟨[],rfl,λp K=>(Jg K).elim,Zi,rfl,λj x c v h=>by cases h⟩
  | cons a b=>cases n
 | cons p xs ih =>
  cases vals with
  | nil=>cases n
  | cons t vals =>
   rw[JR,JJ]at nd;obtain⟨cs,B,A,Q,P,O⟩:=ih (vals:=vals) nd.2 (λq f=>y q (.tail _ f)) (by simpa using n) (λj x i v a b=>k (j+1) x i v a b);obtain⟨d,l⟩:=p;obtain⟨G,w,F⟩:=y (d,l) (.head _);have J:=k 0 d l t rfl rfl;obtain⟨m,S,lo⟩:=I.loc;obtain⟨u,C,D⟩:=lo l d t G J (.inr (.inl w));rcases D with ⟨E,_⟩|⟨_,c,r,o,L,N⟩
   ·have g:X.env.scope.names.lookup d=some .local:=E
    rw[w]at g;cases g
   refine⟨(d,c)::cs,by rw[JR,JR,B],λq f=>?_,?_,by rw[JL,JL,P],λj x R v a b=>?_⟩
   ·rcases Jf.mp f with rfl|z
    ·exact r
    ·exact A q z
   ·rw[JR,JJ]
    refine⟨λM=>?_,Q⟩;obtain⟨q,f,e⟩:=Jx.mp M;have:=I.ok.inj q.1 d c (by rw[A q f];exact JP some e) r;exact nd.1 (by rw[<- B,<- this];exact Jx.mpr ⟨q,f,rfl⟩)
   ·cases j with
    | zero =>
     cases Jq a;cases Jq b
     exact⟨o,u,L,N,C,I.ok.cab d c F r⟩
    | succ j=>exact O j x R v a b
variable {k:Nat}{f:JI}{fd:Yl}{ps:List Str}{sp:Sp}{x:Str}{p pos:Pos}{e:Expr}{es:List Expr}{t:TA}{E:XK}
theorem mC (F:FnOk X.prog X.w X.K X.mg X.base CX0 k f fd ps sp) (hr:Room k X.A) (hg:Gl X x) (hm:X.mg x=some (.ref f)) (T:PySem.W.keepIn X.K (.ref f)=true) (hb:Binds X.K fd ps []) (xs:List (Str × Nat)) (nd:(xs.map (·.1)).Nodup)
  (hk:∀ p∈xs,X.N[p.2]?=some p.1/\X.env.scope.names.lookup p.1=some .cell/\X.fn p.1=true) (ha:PA X (e::es) t) (U:(x == ("__debug__":Str))=false:=by decide) (he:starEach (e::es) X.env=(false,eval e X.env)::starEach es X.env:=by rfl) (S:(backTo pos (starEach es X.env)).any (·.1)=false:=by rfl) :
  PE X (.Call (.Name x p) (e::es) [] pos) (zca X.env xs sp E t):=by
 intro pins s σ H Q I h;refine Zf (nD I hg hm ?_ U);refine PySem.W.callWith_K (h₀:=X.base) I.ok.mod.kin T (thn (ha pos pins s σ H _ I h) λM m ⟨vs,K,l,r,vals,vl,R,q⟩=>⟨l.kIn,?_⟩) he S;obtain⟨cs,c1,c2,c3,Z,Y⟩:=l.cells nd hk vl R
 have cell:∀ b∈cs.map (·.2),∃ y o u,X.env.cells.lookup y=some b/\m.heap.get? b=some o/\o.data=.cell (some u)/\X.s₀.heap.objs.size<=b:=λb hb=>by
  obtain⟨⟨y,c⟩,D,rfl⟩:=Jx.mp hb;obtain⟨j,W,ej⟩:=Z8.mp D;have jv:j<vals.length:=by rw[<- Z];exact W
  obtain⟨o,u,G,N,_,g4⟩:=Y j y c vals[j] (by rw[J6 W,ej]) (J6 jv);exact⟨y,o,u,c2 (y,c) D,G,N,g4⟩
 have free:∀ b∈cs.map (·.2),K b=none:=λb hb=>by
  obtain⟨y,o,u,O,_⟩:=cell b hb;exact l.freeC y b O
 have nofr:∀ b∈cs.map (·.2),b∉frs X.stack:=λb hb hf=>by
  obtain⟨y,o,u,O,_,_,lo⟩:=cell b hb;rcases Jf.mp (l.stkSub b hf) with z|z
  ·exact l.cne y b O z
  ·obtain⟨_,o',ho,_⟩:=l.ok.funs.mem z
   exact absurd (JG (Jd ho) lo) (Yv _)
 let B:Hp:=λb=>if b∈cs.map (·.2) then (m.heap.get? b).map FZ else K b
 have C:∀ {b:JI}{o:Obj},b∈cs.map (·.2)->m.heap.get? b=some o->B b=some (FZ o):=λ{b o} hb e=>by
  show (if b∈cs.map (·.2) then (m.heap.get? b).map FZ else K b)=_;rw[Jh hb,e];rfl
 have d:∀ b,b∉cs.map (·.2)->B b=K b:=λb hb=>Jc hb
 have g:∀ {b:JI}{o:HO},K b=some o->B b=some o:=λ{b o} e=>by
  rw[d b λhb=>by rw[free b hb]at e;cases e];exact e
 have ca:CellsAt B cs vals:=⟨Z,λi y c v a b=>by
  obtain⟨o,u,G,N,g3,_⟩:=Y i y c v a b
  exact⟨o,u,C (Jx.mpr ⟨_,JM a,rfl⟩) G,N,g3⟩⟩
 have P:HOk X.prog X.w B m.heap:=λb u e2=>by
  by_cases hb:b∈cs.map (·.2)
  ·obtain⟨y,o,u',_,G,_⟩:=cell b hb
   rw[C hb G]at e2;cases e2;exact lB G
  ·rw[d b hb]at e2
   exact(l.hok b u e2).stay (λ_ _ _ z=>z) (λ_ z=>g z) λ_ _ z=>g z
 have A:=l.env0;have e2:Env0 X.prog X.w X.K X.mg X.base X.A X.stack m B:=⟨A.frames,A.mod,λb o z=>⟨(A.bs b o z).1,?_⟩,A.bsz,A.funs,λb hb=>?_,P,A.bare⟩
 rotate_left
 ·rw[d b λD=>?_];· exact(A.bs b o z).2
  ·obtain⟨y,o',u,_,_,_,lo⟩:=cell b D
   exact absurd (JG (Jd z) (JS l.ok.bsz lo)) (Yv _)
 ·rw[d b λD=>nofr b D hb];exact A.frf b hb
 have z:=q cs B c1 c2 c3 ca d free;have ul:M.length=ps.length:=by rw[<- r.length];exact F.len _ _ _ _ z
 refine wpAny_call (codeAny_mono (F.run X.A X.stack m B ⟨M,[]⟩ M vs _ E hr e2 (by have:=hb m M l.kIn (by rw[JY];exact ul);rwa [JY]at this) r z) λrs s' J=>?_)
 cases rs with
 | error e=>exact J.elim
 | ok fl =>
  cases fl with
  | next=>exact False.elim J
  | brk=>exact False.elim J
  | cont=>exact False.elim J
  | ret u =>
   obtain⟨v,H3,os,bare,un,L,rv,qq⟩:=J
   have V:CellsFz cs H3:=λb hb=>by
    obtain⟨o,w⟩:=ca.fz b hb;exact⟨o,un.frzs b o _ w⟩
   have same:∀ b∈cs.map (·.2),∀ o,m.heap.get? b=some o->s'.heap.get? b=some o:=λb hb o e=>by
    have:=un.frzs b o _ (C hb e);exact(L b _ this).1
   refine l.after ⟨v,strip cs H3,os,bare,⟨λb o e n x y=>?_,λb o e n x y=>?_,λb o e n y=>?_,un.there,λb ys e=>?_,λb o w e=>?_,λb qs e=>?_⟩,pM L V,rv,qq⟩
   ·by_cases hb:b∈cs.map (·.2)
    ·exact same b hb o e
    ·exact un.keep b o e (by rw[d b hb];exact n) x y
   ·by_cases hb:b∈cs.map (·.2)
    ·exact⟨o.slots,same b hb o e⟩
    ·exact un.slot b o e (by rw[d b hb];exact n) x y
   ·by_cases hb:b∈cs.map (·.2)
    ·exact wa hb
    ·rw[zw hb];exact un.free b o e (by rw[d b hb];exact n) y
   ·have hb:b∉cs.map (·.2):=λhb=>by rw[free b hb]at e;cases e
    rw[zw hb];exact un.tups b ys (g e)
   ·have hb:b∉cs.map (·.2):=λhb=>by rw[free b hb]at e;cases e
    rw[zw hb];exact un.frzs b o w (g e)
   ·have hb:b∉cs.map (·.2):=λhb=>by rw[free b hb]at e;cases e
    rw[zw hb];exact un.tbls b qs (g e)
end
def zdJ (cl:List (Str × JI))(H:Hp)(Q:VK):VK:=λv a=>(∀ b∈cl.map (·.2),a b=none)->Q v (back cl H a)
section
variable {CX:CXT}{P:Yo}{w:YI}{K:Jl}{mg:Str->Option Jo}{base:YP}{L:Lam}{cl:List (Str × JI)}{vals vs:List V}{ps:List Str}{f c:JI}{A:YO}{outer:List Env}{s:JO}{H:Hp}{us:List Jo}{Q:VK}{E:XK}
theorem ap {k:Nat}(S:LamScope ps (cl.map (·.1)) L.scope) (i:Room (k+1) A) (a:Env0 P w K mg base A outer s H) (la:LamAt H f L cl vals) (r:Vals vs us) (j:vs.length=ps.length)
  (hb:∀ pm cdv ct,bindArgs (PySem.W.kla_fn "<lambda>" L.qual L.params L.body L.scope cl pm cdv ct) ⟨us,[]⟩=pure (ps.zip us))
  (d:∀ c,Room k (A.deeper (jc L cl s.heap.objs.size f c))->∃ t,PE (zan CX P w K mg base (ps++cl.map (·.1)) L cl f c A outer s H E) L.body t/\t ((vs++vals).map some) (strip cl H) (zdJ cl H Q)) :
  codeAny (model P w) A (.call (.ref f) ⟨us,[]⟩) (CR CX outer P w H s Q E) s:=by
 obtain⟨pm,c,ct,B,fs,m,O,N,M,G⟩:=la.ex;have lim:s.heap.NoLimit:=a.mod.nolimit.keeps λb o e=>(a.bs b o e).1;have ul:us.length=ps.length:=by rw[<- r.length];exact j
 refine PySem.W.kla_callFunE i.depth (a.hok f _ O).1 rfl S.co S.gen rfl ⟨c,B,fs,m,rfl,(a.hok c _ N).1,M,G⟩ ?_;rw[show bindArgs _ _=_ from hb pm (.ref c) ct];refine J9 (wpAny_newFunctionEnv S.noc (λy C=>S.par y.1 (Wp C).1) (λR ns n=>?_) S.kind);have kp:∀ b o,s.heap.get? b=some o->R.get? b=some o:=λb o e=>(n.2 b (JD (Jd e))).trans (J7 _ e);refine⟨lim.keeps kp,PySem.W.kla_codeExpr ?_⟩;obtain⟨t,D,F⟩:=d c (i.deeper _);have I:=zbC (CX:=CX) (E:=E) (c:=c) (tk:=s.toks+(ps.zip us).length) S i.hd a la r j ns kp;refine JQ (D [] _ _ _ _ I F) (λu p h=>?_) λe p h=>h;obtain⟨v,l,J,x,q⟩:=h;have g:=la.fz
 have low:∀ b∈cl.map (·.2),l b=none:=λb hb=>by
  obtain⟨o,z⟩:=g b hb;exact J.base.free b o (a.hok b _ z).1 (wa hb) Jg
 obtain⟨un,ok⟩:=zaF (H':=l) J.base g a.frf (λb o z=>(a.hok b _ z).1) low J.hok;exact⟨v,_,J.os,J.bare,un,ok,x,q low⟩
end
abbrev LSpc:=List V->List V->Hp->VK->XK->Prop
structure LamQ (CX:CXT) (P:Yo) (w:YI) (K:Jl) (mg:Str->Option Jo) (base:YP) (k:Nat) (L:Lam) (fr ps:List Str) (sp:LSpc):Prop where
 S:LamScope ps fr L.scope
 len:∀ vals vs H Q E,sp vals vs H Q E->vs.length=ps.length
 bind:∀ (cl:List (Str × JI)) (us:List Jo),us.length=ps.length->∀ pm cdv ct,bindArgs (PySem.W.kla_fn "<lambda>" L.qual L.params L.body L.scope cl pm cdv ct) ⟨us,[]⟩=pure (ps.zip us)
 body:∀ (cl:List (Str × JI)) (f c:JI) (A:YO) (outer:List Env) (s:JO) (H:Hp) (vals vs:List V) (Q:VK) (E:XK),cl.map (·.1)=fr->Room k (A.deeper (jc L cl s.heap.objs.size f c))->CellsFz cl H->sp vals vs (strip cl H) Q E ->
  ∃ t,PE (zan CX P w K mg base (ps++fr) L cl f c A outer s H E) L.body t/\t ((vs++vals).map some) (strip cl H) Q
def zdm (L:Lam)(fr:List Str)(sp:LSpc)(E:XK)(i:Nat)(t:TA):TE:=λσ H Q=>∃ f,σ[i]?=some (some (.ref f))/\(∃ cl pm c d,H f=some (FZ (mh L cl pm c d)))/\t σ H λb a=>∃ cl vals,cl.map (·.1)=fr/\LamAt a f L cl vals/\sp vals b (strip cl a) (zdJ cl a Q) E
section
variable {X:Cx}{CX:CXT}{k:Nat}{L:Lam}{fr ps:List Str}{sp:LSpc}{E:XK}{x:Str}{i:Nat}{p pos:Pos}{e:Expr}{es:List Expr}{t:TA}
theorem o7 (F:LamQ CX X.prog X.w X.K X.mg X.base k L fr ps sp)(O:Room (k+1) X.A)(S:PE X (.Name x p) (lh i))(M:Passes CX X E)(ha:PA X (e::es) t)(R:starEach (e::es) X.env=(false,eval e X.env)::starEach es X.env:=by rfl)(m:(backTo pos (starEach es X.env)).any (·.1)=false:=by rfl) :
  PE X (.Call (.Name x p) (e::es) [] pos) (zdm L fr sp E i t):=by
 intro pins s σ H Q I h;obtain⟨f,P,⟨ao,ab,c0,ak,n⟩,q⟩:=h;refine Zf (thn (S pins s σ H (λv H'=>v=.ref f/\H'=H) I ⟨_,P,rfl,rfl⟩) λg G ⟨v,Z,A,K,ev,V⟩=>?_);subst ev V;obtain rfl:g=.ref f:=K;refine PySem.W.callWith_F ⟨_,_,_,_,(A.hok f _ n).1⟩ ?_ R m;refine thn (ha pos pins G σ Z _ A q) λo w ⟨C,B,b,r,cl,vals,j,d,z⟩=>?_;obtain⟨pm,c,ct,oc,fs,tc,T,h2,h3,h4⟩:=d.ex;have y:=F.len _ _ _ _ _ z;have ul:o.length=ps.length:=by rw[<- r.length];exact y
 have Y:LamScope ps (cl.map (·.1)) L.scope:=by rw[j];exact F.S
 refine⟨⟨_,_,_,_,(b.hok f _ T).1⟩,?_⟩;refine wpAny_call (codeAny_mono (ap (CX:=CX) (E:=E) (Q:=Q) Y O b.env0 d r y (F.bind cl o ul) λW l=>?_) λrs J a=>?_)
 ·obtain⟨D,N,a⟩:=F.body cl f W X.A X.stack w B vals C _ E j l d.fz z
  exact⟨D,by rw[j];exact N,a⟩
 ·cases rs with
  | error e=>exact M pins σ B w e J b a
  | ok U =>
   cases U with
   | ret u=>exact b.after a
   | next=>exact False.elim a
   | brk=>exact False.elim a
   | cont=>exact False.elim a
end
abbrev LvL:=List (KN × List Int)
def yJ (ps:LvL)(k:KN):Option (List Int):=(ps.find? λx=>decide (x.1=k)).map (·.2)
def wk (ps:LvL)(k:KN)(c:List Int):LvL:=if (yJ ps k).isSome then ps.map λx=>if x.1=k then (x.1,c) else x else ps++[(k,c)]
def yV (c:List Int)(m:Nat):List Int:=Bn.zu c m 1
structure LAcc where
 on:LvL
 fl:List (List Int)
section
variable (step:KN->Nat->Option KN)(seen:LvL)
def go1 (s:KN)(c:List Int)(a:LAcc)(m:Nat):LAcc :=
 match step s m with
 | none=>⟨a.on,a.fl++[yV c m]⟩
 | some t=>if (yJ seen t).isSome then a else ⟨wk a.on t (wZ (yV c m) ((yJ a.on t).getD (yV c m))),a.fl⟩
def goS (moves:List Nat)(a:LAcc)(p:KN × List Int):LAcc:=moves.foldl (go1 step seen p.1 p.2) a
def xE (moves:List Nat)(level:LvL):LAcc:=level.foldl (goS step seen moves) ⟨[],[]⟩
end
inductive LRes
 | opn
 | brk (c:List Int)
 | whl (ls:List LvL)
def yd (step:KN->Nat->Option KN)(moves:List Nat)(most:Nat):Nat->LvL->LvL->List LvL->LRes
 | 0,_,_,_=>.opn
 | n+1,level,seen,ls =>
  if level=[] then .whl ls else
  if most<seen.length+level.length then .opn else
  if (xE step (seen++level) moves level).fl≠[] then .brk (zcL (xE step (seen++level) moves level).fl) else
  yd step moves most n (xE step (seen++level) moves level).on (seen++level) (ls++[level])
def LvX (H:Hp)(x:KN × JI × V)(p:KN × List Int):Prop:=x.1=p.1/\∃ c,x.2.2=.ref c/\H c=some (.tup (p.2.map V.int))
structure LvE (H:Hp) (xs:KVN) (ps:LvL):Prop where
 ks:KsIn H xs
 pr:Paired (LvX H) xs ps
theorem wm {α β:Type}{F G:α->β->Prop}(h:∀ a b,F a b->G a b){l1:List α}{l2:List β}(p:Paired F l1 l2):Paired G l1 l2:=by
 induction p with
 | nil=>exact .nil
 | cons a _ ih=>exact .cons (h _ _ a) ih
theorem LvX.tups {H H':Hp}(t:∀ b ys,H b=some (.tup ys)->H' b=some (.tup ys)){x:KN × JI × V}{p:KN × List Int}(h:LvX H x p):LvX H' x p:=by
 obtain⟨e,c,e2,a⟩:=h;exact⟨e,c,e2,t _ _ a⟩
theorem LvE.tups {H H':Hp}(t:∀ b ys,H b=some (.tup ys)->H' b=some (.tup ys)){xs:KVN}{ps:LvL}(h:LvE H xs ps):LvE H' xs ps:=⟨h.ks.tups t,wm (λ_ _ z=>z.tups t) h.pr⟩
theorem LvE.keep {H H':Hp}(s:Same H H'){xs:KVN}{ps:LvL}(h:LvE H xs ps):LvE H' xs ps:=h.tups λb a e=>s _ _ e
theorem LvE.nil {H:Hp}:LvE H [] []:=⟨λx a=>(nomatch a),.nil⟩
theorem LvE.len {H:Hp}{xs:KVN}{ps:LvL}(h:LvE H xs ps):xs.length=ps.length:=YR h.pr
theorem ad {H:Hp}{xs:KVN}{ps:LvL}(h:Paired (LvX H) xs ps)(k:KN):(xP xs k=none/\yJ ps k=none)\/∃ c r,xP xs k=some (.ref c)/\yJ ps k=some r/\H c=some (.tup (r.map V.int)):=by
 induction h with
 | nil=>exact Or.inl (And.intro rfl rfl)
 | @cons x p xs ps a t ih =>
  obtain⟨e,c,e2,b⟩:=a;unfold xP yJ at ih ⊢;rw[YV,YV,e];by_cases z:p.1=k
  ·rw[Jy z]
   exact .inr ⟨c,p.2,JP some e2,rfl,b⟩
  ·rw[Jr z]
   exact ih
theorem pC {H:Hp}{xs:KVN}{ps:LvL}(h:Paired (LvX H) xs ps)(k:KN):(xP xs k).isSome=(yJ ps k).isSome:=by
 rcases ad h k with ⟨a,b⟩|⟨c,r,a,b,_⟩<;>rw[a,b]<;>rfl
theorem zcQ {H:Hp}{xs:KVN}{ps:LvL}(h:Paired (LvX H) xs ps)(k:KN){c:JI}{r:List Int}(b:H c=some (.tup (r.map V.int))):Paired (LvX H) (xs.map λx=>if x.1=k then (x.1,x.2.1,.ref c) else x) (ps.map λx=>if x.1=k then (x.1,r) else x):=by
 induction h with
 | nil=>exact .nil
 | @cons x p xs ps a t ih =>
  refine .cons ?_ ih;dsimp only;by_cases z:p.1=k
  ·rw[Jh (a.1.trans z),Jh z];exact⟨a.1,c,rfl,b⟩
  ·rw[Jc (λy=>z (a.1.symm.trans y)),Jc z];exact a
theorem LvE.put {H:Hp}{xs:KVN}{ps:LvL}(h:LvE H xs ps){k:KN}{b c:JI}{r:List Int}(f:NKey H k b)(d:H c=some (.tup (r.map V.int))):LvE H (xJ xs k b (.ref c)) (wk ps k r):=by
 unfold xJ wk;rw[pC h.pr k];by_cases z:(yJ ps k).isSome=true
 ·rw[Jh z,Jh z]
  refine⟨λx a=>?_,zcQ h.pr k d⟩;obtain⟨y,e,rfl⟩:=Jx.mp a;have:=h.ks y e;split<;>exact this
 ·rw[Jc z,Jc z]
  refine⟨λx a=>?_,Paired.snoc h.pr ⟨rfl,c,rfl,d⟩⟩;rcases Js.mp a with y|y
  ·exact h.ks x y
  ·rw[Jm.mp y];exact f
theorem rH {α β:Type}{F:α->β->Prop}{e:List α}{c:List β}(p:Paired F e c){d:List α}{b:List β}(q:Paired F d b):Paired F (e++d) (c++b):=by
 induction p with
 | nil=>exact q
 | cons a _ ih=>exact .cons a ih
theorem LvE.app {H:Hp}{xs ys:KVN}{ps a:LvL}(h:LvE H xs ps)(g:LvE H ys a):LvE H (xs++ys) (ps++a):=⟨λx b=>by
 rcases Js.mp b with y|y
 ·exact h.ks x y
 ·exact g.ks x y,rH h.pr g.pr⟩
theorem LvE.at_ {H:Hp}{xs:KVN}{ps:LvL}(h:LvE H xs ps){i:Nat}{p:KN × JI × V}(e:xs[i]?=some p):∃ r c,ps[i]?=some (p.1,r)/\NKey H p.1 p.2.1/\p.2.2=.ref c/\H c=some (.tup (r.map V.int)):=by
 have key:∀ {xs:KVN}{ps:LvL},Paired (LvX H) xs ps->∀ {i:Nat}{p:KN × JI × V},xs[i]?=some p->∃ q,ps[i]?=some q/\LvX H p q:=by
  intro xs ps r
  induction r with
  | nil=>intro i p h;cases h
  | cons q t ih =>
   intro i p h
   cases i with
   | zero=>cases Jq h;exact⟨_,rfl,q⟩
   | succ i=>exact ih h
 obtain⟨q,e2,d,c,b,a⟩:=key h.pr e;refine⟨q.2,c,?_,h.ks p (JM e),b,a⟩;rw[e2,d]
theorem pP {ps:LvL}{k:KN}:yJ ps k=none↔∀ p∈ps,p.1≠k:=by
 unfold yJ;rw[Option.map_eq_none_iff,List.find?_eq_none];constructor
 ·intro h p a e;exact h p a (Jy e)
 ·intro h p a e;exact h p a (Yn e)
theorem rq {ps:LvL}{k:KN}{r:List Int}(h:yJ ps k=some r):(k,r)∈ps:=by
 unfold yJ at h;obtain⟨p,a,e⟩:=Y7.mp h;have d:=List.mem_of_find?_eq_some a;have b:=List.find?_some (p:=λx:KN × List Int=>decide (x.1=k)) a;have c:=Yn b;rw[<- c,<- e];exact d
theorem dH {ps:LvL}{k:KN}(h:(yJ ps k).isSome=true):∃ r,(k,r)∈ps:=by
 obtain⟨r,e⟩:=Option.isSome_iff_exists.mp h;exact⟨r,rq e⟩
theorem mx {ps:LvL}{k:KN}{r:List Int}(h:(k,r)∈ps):(yJ ps k).isSome=true:=by
 cases e:yJ ps k with
 | some r=>rfl
 | none=>exact absurd rfl (pP.mp e _ h)
def LvNd (ps:LvL):Prop:=(ps.map (·.1)).Nodup
theorem gY (ps:LvL)(k:KN)(r:List Int):(wk ps k r).map (·.1)=if (yJ ps k).isSome then ps.map (·.1) else ps.map (·.1)++[k]:=by
 unfold wk;split
 ·rw[YX]
  refine Yu λx a=>?_;show (if x.1=k then (x.1,r) else x).1=x.1;split<;>rfl
 ·rw[JE];rfl
theorem LvNd.put {ps:LvL}(h:LvNd ps)(k:KN)(r:List Int):LvNd (wk ps k r):=by
 unfold LvNd;rw[gY];split
 ·exact h
 ·rename_i z
  refine ZK.mpr ⟨h,JJ.mpr ⟨Jg,Zi⟩,λa f b d e=>?_⟩;rw[Jm.mp d]at e;obtain⟨p,c,rfl⟩:=Jx.mp f;exact z (mx (k:=k) (r:=p.2) (by rw[<- e];exact c))
theorem rC {ps:LvL}{k:KN}{r:List Int}{p:KN × List Int}(h:p∈wk ps k r):p∈ps\/p=(k,r):=by
 unfold wk at h;split at h
 ·obtain⟨x,a,rfl⟩:=Jx.mp h
  by_cases z:x.1=k
  ·rw[Jh z,z];exact .inr rfl
  ·rw[Jc z];exact .inl a
 ·rcases Js.mp h with y|y
  ·exact .inl y
  ·exact .inr (Jm.mp y)
theorem bR (ps:LvL)(k:KN)(r:List Int):(wk ps k r).length<=ps.length+1:=by
 unfold wk;split
 ·rw[Jb];lia
 ·rw[Jn];exact Je _
theorem pA:∀ (ys xs:KVN),(ys.map (·.1)).Nodup->(∀ y∈ys,∀ x∈xs,x.1≠y.1)->mergeV xs ys=xs++ys
 | [],xs,_,_=>by rw[JY];rfl
 | y::ys,xs,nd,ds=>by
  rw[JR,JJ]at nd
  have e:xJ xs y.1 y.2.1 y.2.2=xs++[y]:=by
   unfold xJ
   have:xP xs y.1=none:=by
    unfold xP;rw[Option.map_eq_none_iff,List.find?_eq_none];exact λx a z=>ds y (.head _) x a (Yn z)
   rw[this];rfl
  show List.foldl _ (xJ xs y.1 y.2.1 y.2.2) ys=_;rw[e]
  have:=pA ys (xs++[y]) nd.2 λz b x a=>by
   rcases Js.mp a with q|q
   ·exact ds z (.tail _ b) x q
   ·rw[Jm.mp q]
    exact λe=>nd.1 (Jx.mpr ⟨z,b,e.symm⟩)
  rw[show List.foldl (λacc y=>xJ acc y.1 y.2.1 y.2.2) (xs++[y]) ys=mergeV (xs++[y]) ys from rfl,this,JK];rfl
theorem nA {H:Hp}{xs:KVN}{ps:LvL}(h:Paired (LvX H) xs ps):xs.map (·.1)=ps.map (·.1):=by
 induction h with
 | nil=>rfl
 | cons a _ ih=>rw[JR,JR,ih,a.1]
theorem LvE.merge {H:Hp}{xs ys:KVN}{ps a:LvL}(h:LvE H xs ps)(g:LvE H ys a)(nd:LvNd a)(ds:∀ q∈a,yJ ps q.1=none):mergeV xs ys=xs++ys:=by
 refine pA ys xs (by rw[nA g.pr];exact nd) λy d x f e=>?_;have c:y.1∈a.map (·.1):=by rw[<- nA g.pr];exact Jx.mpr ⟨y,d,rfl⟩
 obtain⟨q,i,eq⟩:=Jx.mp c;have b:x.1∈ps.map (·.1):=by rw[<- nA h.pr];exact Jx.mpr ⟨x,f,rfl⟩
 obtain⟨p,j,k⟩:=Jx.mp b;exact pP.mp (ds q i) p j (k.trans (e.trans eq.symm))
end L2
namespace L2
open PySem PySem.Spec PyProof.Rows Own Bn
theorem Room.u3 {k:Nat}{A:YO}(r:Room k A):A.units+3<cLine:=by have:=r.un;lia
def RowsAt (H:Hp)(as:List JI)(rs:List (List Int)):Prop:=Paired (λa r=>H a=some (.tup (r.map V.int))) as rs
theorem RowsAt.tups {H H':Hp}(t:Tups H H'){as:List JI}{rs:List (List Int)}(h:RowsAt H as rs):RowsAt H' as rs:=wm (λ_ _ e=>t _ _ e) h
structure AccOk (n m:Nat) (a:LAcc):Prop where
 on:∀ p∈a.on,p.2.length=n
 fl:∀ r∈a.fl,r.length=n
 few:a.on.length+a.fl.length<=m
theorem uC (c:List Int)(m:Nat):(yV c m).length=c.length:=by unfold yV zu;rw[YG]
theorem iE (x y:List Int):wZ x y=x\/wZ x y=y:=by unfold wZ;split<;>simp
theorem AccOk.go {step:KN->Nat->Option KN}{seen:LvL}{s:KN}{c:List Int}{a:LAcc}{n m k:Nat}(h:AccOk n m a)(i:c.length=n):AccOk n (m+1) (go1 step seen s c a k):=by
 have b:(yV c k).length=n:=by rw[uC,i]
 have l:=h.few;unfold go1;split
 ·refine⟨h.on,λr d=>?_,by show a.on.length+(a.fl++[yV c k]).length<=_;rw[Jn];show _+(_+1)<=_;lia⟩
  rcases Js.mp d with z|z
  ·exact h.fl r z
  ·rw[Jm.mp z];exact b
 ·rename_i t j
  split
  ·exact⟨h.on,h.fl,by lia⟩
  ·refine⟨λp f=>?_,h.fl,by have:=bR a.on t (wZ (yV c k) ((yJ a.on t).getD (yV c k)));show (wk a.on t _).length+a.fl.length<=_;lia⟩
   rcases rC f with z|z
   ·exact h.on p z
   ·rw[z]
    show (wZ _ _).length=n;rcases iE (yV c k) ((yJ a.on t).getD (yV c k)) with e|e
    ·rw[e];exact b
    ·rw[e]
     cases g:yJ a.on t with
     | none=>exact b
     | some r=>exact h.on _ (rq g)
theorem AccOk.row {step:KN->Nat->Option KN}{seen:LvL}{s:KN}{c:List Int}{n:Nat}(b:c.length=n):∀ (moves:List Nat) {a:LAcc}{m:Nat},AccOk n m a->AccOk n (m+moves.length) (moves.foldl (go1 step seen s c) a)
 | [],a,m,h=>h
 | k::r,a,m,h=>by
  have:=AccOk.row (step:=step) (seen:=seen) (s:=s) (c:=c) b r (h.go (step:=step) (seen:=seen) (s:=s) (k:=k) b);rw[JL,show m+(r.length+1)=m+1+r.length by lia];exact this
theorem AccOk.lev {step:KN->Nat->Option KN}{seen:LvL}{n:Nat}{moves:List Nat}:∀ (level:LvL) {a:LAcc}{m:Nat},(∀ p∈level,p.2.length=n)->AccOk n m a->AccOk n (m+level.length*moves.length) (level.foldl (goS step seen moves) a)
 | [],a,m,_,h=>by rw[List.length_nil,Nat.zero_mul];exact h
 | p::r,a,m,b,h=>by
  have:=AccOk.lev (step:=step) (seen:=seen) (moves:=moves) r (λq c=>b q (.tail _ c)) (AccOk.row (step:=step) (seen:=seen) (s:=p.1) (b p (.head _)) moves h);rw[JL,Nat.add_mul,Nat.one_mul,show m+(r.length*moves.length+moves.length)=m+moves.length+r.length*moves.length by lia];exact this
def Led (lsp:LSpc)(vals:List V)(step:KN->Nat->Option KN)(Ok:KN->Prop)(moves:List Nat)(H:Hp):Prop :=
 ∀ (c:Hp) (s:KN) (b:JI) (m:Nat) (Q:VK),Tups H c->Ok s->m∈moves->NKey c s b->(∀ a,Same c a->step s m=none->Q .non a)->(∀ a d t,Same c a->step s m=some t->NKey a t d->Q (.ref d) a)->lsp vals [.ref b,.int (m:Nat)] c Q E0
theorem Led.tups {lsp:LSpc}{vals:List V}{step:KN->Nat->Option KN}{Ok:KN->Prop}{moves:List Nat}{H H':Hp}(h:Led lsp vals step Ok moves H)(t:Tups H H'):Led lsp vals step Ok moves H':=λc s b m Q a=>h c s b m Q (t.trans a)
theorem wG {H:Hp}{cl:List (Str × JI)}(fz:CellsFz cl H):Tups H (strip cl H):=λa c e=>by
 rw[zw]
 ·exact e
 ·intro b
  obtain⟨o,q⟩:=fz a b;rw[e]at q;cases q
theorem wA {H a:Hp}{cl:List (Str × JI)}(s:Same (strip cl H) a):Same H (back cl H a):=λb o e=>by
 by_cases c:b∈cl.map (·.2)
 ·rw[nV c];exact e
 ·rw[xU c];exact s b o (by rw[zw c];exact e)
theorem qj {H a:Hp}{cl:List (Str × JI)}(low:∀ b∈cl.map (·.2),a b=none):Tups a (back cl H a):=λb d e=>by
 rw[xU]
 ·exact e
 ·intro c
  rw[low b c]at e;cases e
def MvAt (K:Jl)(H:Hp)(a:JI)(xs:List V):Prop:=H a=some (.tup xs)\/∀ b,SqT K b a xs
theorem MvAt.tups {K:Jl}{H H':Hp}(t:Tups H H'){a:JI}{xs:List V}(h:MvAt K H a xs):MvAt K H' a xs:=h.imp (t _ _) id
theorem MvAt.sq {K:Jl}{H:Hp}{a:JI}{xs:List V}(h:MvAt K H a xs):SqT K H a xs:=h.elim SqT.of λz=>z H
structure Way (K:Jl) (H:Hp) (mv f:JI) (L:Lam) (fr:List Str) (lsp:LSpc) (cl:List (Str × JI)) (vals:List V) (step:KN->Nat->Option KN) (Ok:KN->Prop) (moves:List Nat) (n:Nat):Prop where
 mv:MvAt K H mv (moves.map λm=>V.int (m:Nat))
 fr:cl.map (·.1)=fr
 la:LamAt H f L cl vals
 ld:Led lsp vals step Ok moves H
 lt:∀ m∈moves,m<n
 ok:∀ s m t,Ok s->m∈moves->step s m=some t->Ok t
 n1:n<=1000
theorem Way.keep {K:Jl}{H H':Hp}{mv f:JI}{L:Lam}{fr:List Str}{lsp:LSpc}{cl:List (Str × JI)}{vals:List V}{step:KN->Nat->Option KN}{Ok:KN->Prop}{moves:List Nat}{n:Nat}(h:Way K H mv f L fr lsp cl vals step Ok moves n)(t:Tups H H')(z:∀ b o u,H b=some (.frz o u)->H' b=some (.frz o u)):Way K H' mv f L fr lsp cl vals step Ok moves n :=
 ⟨h.mv.tups t,h.fr,h.la.frz z,h.ld.tups t,h.lt,h.ok,h.n1⟩
def kE (P:Yo)(w:YI)(K:Jl)(L:Lam)(fr:List Str)(lsp:LSpc):Sp:=λe H Q _=>∃ dl ds mv f d c level seen moves cl vals step Ok n,e=[.ref dl,.ref ds,.ref mv,.ref f]/\H dl=some (DN P w dl d)/\LvE H d level/\H ds=some (DN P w ds c)/\LvE H c seen/\dl≠ds /\
 Way K H mv f L fr lsp cl vals step Ok moves n/\(∀ p∈level,Ok p.1/\p.2.length=n)/\level.length*moves.length<=10000000 /\
 ∀ p o l b fs a,Same H a->H o=none->a p=some (.tup [.ref o,.ref l])->a o=some (DN P w o b)->LvE a b (xE step seen moves level).on->a l=some (.lst (fs.map V.ref))->RowsAt a fs (xE step seen moves level).fl->Q (.ref p) a
def pL:V->Int
 | .int i=>i
 | _=>0
def gT (H:Hp):V->List Int
 | .ref a=>match H a with
  | some (.tup xs)=>xs.map pL
  | _=>[]
 | _=>[]
theorem vq {H:Hp}{a:JI}{r:List Int}(h:H a=some (.tup (r.map V.int))):gT H (.ref a)=r:=by
 show (match H a with
  | some (.tup b)=>b.map pL
  | _=>[])=r
 rw[h];show (r.map V.int).map pL=r;rw[YX];exact List.map_id r
def tN (H:Hp):V->V->Ordering:=λu v=>cmpR (gT H u) (gT H v)
theorem lO {H:Hp}:∀ {fs:List JI}{rs:List (List Int)}{a:JI}{r:List Int},RowsAt H fs rs->H a=some (.tup (r.map V.int))->∃ h,(fs.map V.ref).foldl (xx (tN H)) (.ref a)=.ref h/\H h=some (.tup ((rs.foldl wZ r).map V.int)):=by
 intro fs rs a r h
 induction h generalizing a r with
 | nil=>intro c;exact⟨a,rfl,c⟩
 | @cons b q fs rs d _ ih =>
  intro c;show ∃ h,(fs.map V.ref).foldl (xx (tN H)) (xx (tN H) (.ref a) (.ref b))=.ref h/\H h=some (.tup ((rs.foldl wZ (wZ r q)).map V.int));have e:tN H (.ref b) (.ref a)=cmpR q r:=by unfold tN;rw[vq c,vq d]
  unfold xx wZ;by_cases z:cmpR q r=.lt
  ·rw[Jh (e.trans z),Jh z];exact ih d
  ·rw[Jc (λy=>z (e.symm.trans y)),Jc z];exact ih c
theorem zat {H:Hp}{fs:List JI}{rs:List (List Int)}(h:RowsAt H fs rs)(ne:rs≠[]):∃ g,xv (tN H) (fs.map V.ref)=.ref g/\H g=some (.tup ((zcL rs).map V.int)):=by
 cases h with
 | nil=>exact absurd rfl ne
 | cons a t=>exact lO t a
theorem j7 {H:Hp}{n:Nat}{fs:List JI}{rs:List (List Int)}(h:RowsAt H fs rs)(f:∀ r∈rs,r.length=n):∀ x∈fs.map V.ref,∀ y∈fs.map V.ref,Lx H 1 x y (tN H x y):=by
 have at_:∀ {fs:List JI}{rs:List (List Int)},RowsAt H fs rs->∀ a∈fs,∃ r∈rs,H a=some (.tup (r.map V.int)):=by
  intro fs rs h
  induction h with
  | nil=>intro a c;cases c
  | cons p _ ih =>
   intro a c;rcases Jf.mp c with rfl|z
   ·exact⟨_,.head _,p⟩
   ·obtain⟨r,d,e⟩:=ih a z
    exact⟨r,.tail _ d,e⟩
 intro x j y i;obtain⟨a,c,rfl⟩:=Jx.mp j;obtain⟨b,bm,rfl⟩:=Jx.mp i;obtain⟨r,d,g⟩:=at_ h a c;obtain⟨q,k,e2⟩:=at_ h b bm;unfold tN;rw[vq g,vq e2];exact iG g e2 (by rw[f r d,f q k])
structure NewOk (seen:LvL) (Ok:KN->Prop) (a:LAcc):Prop where
 nd:LvNd a.on
 new:∀ p∈a.on,yJ seen p.1=none
 ok:∀ p∈a.on,Ok p.1
section
variable {step:KN->Nat->Option KN}{seen:LvL}{Ok:KN->Prop}{moves:List Nat}
theorem NewOk.go {s:KN}{c:List Int}{a:LAcc}{k:Nat}(h:NewOk seen Ok a)(f:∀ t,step s k=some t->Ok t):NewOk seen Ok (go1 step seen s c a k):=by
 unfold go1;split
 ·exact⟨h.nd,h.new,h.ok⟩
 ·rename_i t d
  split
  ·exact h
  ·rename_i z
   refine⟨h.nd.put _ _,λp b=>?_,λp b=>?_⟩
   ·rcases rC b with y|y
    ·exact h.new p y
    ·rw[y]
     cases e:yJ seen t with
     | none=>rfl
     | some r=>rw[e]at z;exact absurd rfl z
   ·rcases rC b with y|y
    ·exact h.ok p y
    ·rw[y];exact f t d
theorem NewOk.row {s:KN}{c:List Int}:∀ (ms:List Nat) {a:LAcc},NewOk seen Ok a->(∀ m∈ms,∀ t,step s m=some t->Ok t)->NewOk seen Ok (ms.foldl (go1 step seen s c) a)
 | [],a,h,_=>h
 | k::r,a,h,q=>NewOk.row r (h.go (q k (.head _))) λm hm=>q m (.tail _ hm)
theorem NewOk.lev:∀ (level:LvL) {a:LAcc},NewOk seen Ok a->(∀ p∈level,∀ m∈moves,∀ t,step p.1 m=some t->Ok t)->NewOk seen Ok (level.foldl (goS step seen moves) a)
 | [],a,h,_=>h
 | p::r,a,h,q=>NewOk.lev r (NewOk.row moves h (q p (.head _))) λm hm=>q m (.tail _ hm)
theorem tV (level:LvL)(q:∀ p∈level,∀ m∈moves,∀ t,step p.1 m=some t->Ok t):NewOk seen Ok (xE step seen moves level) :=
 NewOk.lev level ⟨Zi,λp a=>(nomatch a),λp a=>(nomatch a)⟩ q
theorem aO {n:Nat}(level:LvL)(h:∀ p∈level,p.2.length=n):AccOk n (level.length*moves.length) (xE step seen moves level):=by
 have:=AccOk.lev (step:=step) (seen:=seen) (moves:=moves) level (a:=⟨[],[]⟩) (m:=0) h ⟨λp b=>(nomatch b),λp b=>(nomatch b),Je _⟩
 rwa [Zr]at this
end
section
variable {step:KN->Nat->Option KN}{moves:List Nat}{most m:Nat}{level seen:LvL}{ls:List LvL}
theorem vF:yd step moves most (m+1) [] seen ls=.whl ls:=Jh rfl
theorem um (ne:level≠[])(h:most<seen.length+level.length):yd step moves most (m+1) level seen ls=.opn:=by
 unfold yd;rw[Jc ne,Jh h]
theorem uo (ne:level≠[])(h:¬ most<seen.length+level.length)(f:(xE step (seen++level) moves level).fl≠[]):yd step moves most (m+1) level seen ls=.brk (zcL (xE step (seen++level) moves level).fl):=by
 unfold yd;rw[Jc ne,Jc h,Jh f]
theorem uL (ne:level≠[])(h:¬ most<seen.length+level.length)(f:(xE step (seen++level) moves level).fl=[]):yd step moves most (m+1) level seen ls=yd step moves most m (xE step (seen++level) moves level).on (seen++level) (ls++[level]):=by
 rw[yd,Jc ne,Jc h,Jc (not_not_intro f)]
end
def LvsAt (P:Yo)(w:YI)(H:Hp)(as:List JI)(ls:List LvL):Prop:=Paired (λa lv=>∃ b,H a=some (DN P w a b)/\LvE H b lv) as ls
theorem LvsAt.but {P:Yo}{w:YI}{H H':Hp}{as:List JI}{ls:List LvL}(h:LvsAt P w H as ls)(t:Tups H H')(k:∀ a∈as,∀ o,H a=some o->H' a=some o):LvsAt P w H' as ls:=by
 induction h with
 | nil=>exact .nil
 | @cons a lv as ls q _ ih =>
  obtain⟨c,e,le⟩:=q;exact .cons ⟨c,k a (.head _) _ e,le.tups t⟩ (ih λb d=>k b (.tail _ d))
theorem LvsAt.keep {P:Yo}{w:YI}{H H':Hp}{as:List JI}{ls:List LvL}(h:LvsAt P w H as ls)(s:Same H H'):LvsAt P w H' as ls:=h.but (Tups.of s) λa _ o e=>s a o e
def TellR (P:Yo)(w:YI)(H:Hp)(p:JI):LRes->Prop
 | .opn=>H p=some (.tup [.str "open",.non])
 | .brk c=>∃ b,H p=some (.tup [.str "breaks",.ref b])/\H b=some (.tup (c.map V.int))
 | .whl ls=>∃ l as,H p=some (.tup [.str "whole",.ref l])/\H l=some (.lst (as.map V.ref))/\LvsAt P w H as ls
def oQ (P:Yo)(w:YI)(K:Jl)(L:Lam)(fr:List Str)(lsp:LSpc):Sp:=λg H Q _=>∃ e d mv f a c moves cl vals step Ok n,∃ most:Nat,g=[.ref e,.ref d,.ref mv,.ref f,.int (most:Nat)]/\NKey H a e/\H d=some (.tup (List.map V.int c))/\c.length=n/\Ok a/\Way K H mv f L fr lsp cl vals step Ok moves n/\most<=500000/\moves.length<=16/\0<most /\
 ∀ p b,Same H b->TellR P w b p (yd step moves most (most+1) [(a,c)] [] [])->Q (.ref p) b
end L2
namespace L2
open PySem PySem.Spec PyProof.Rows
abbrev e2 (elt tg iter b a:Expr)(ifs:List Expr)(scope:Scope)(pos:Pos):Expr:=.ListComp elt [⟨tg,iter,[],0⟩,⟨b,a,ifs,0⟩] scope pos
theorem gB (elt tg iter b a:Expr)(ifs:List Expr)(scope:Scope)(pos:Pos)(it acc:Jo)(env:Env) :
  compTurn (e2 elt tg iter b a ifs scope pos) 0 it acc env=(standAt iter.pos >>= λ_=>pyNext it >>= λr=>match r with
   | none=>pure (.done .next)
   | some v=>letOwnedTupleGo tg it v >>= λ_=>assign tg env v >>= λ_ =>
    (eval a env >>= λx=>standAt a.pos >>= λ_=>foldedSetIterable a env x >>= λx=>holding [x] (pyIter x) >>= λi1=>runOwn (.compStart (e2 elt tg iter b a ifs scope pos) 1 i1 acc env) env >>= λ_ =>
     again (.compLoop (e2 elt tg iter b a ifs scope pos) 0 it acc env))):=by rfl
theorem gA (elt tg iter b a:Expr)(scope:Scope)(pos:Pos)(it acc:Jo)(env:Env) :
  compTurn (e2 elt tg iter b a [] scope pos) 1 it acc env=(standAt a.pos >>= λ_=>pyNext it >>= λr=>match r with
   | none=>pure (.done .next)
   | some v=>letOwnedTupleGo b it v >>= λ_=>assign b env v >>= λ_ =>
    ((eval elt env >>= λx=>call (.builtin "list.append") [acc,x] >>= λ_=>pure ()) >>= λ_ =>
     again (.compLoop (e2 elt tg iter b a [] scope pos) 1 it acc env))):=by rfl
theorem lV (elt tg iter b a c:Expr)(scope:Scope)(pos:Pos)(it acc:Jo)(env:Env) :
  compTurn (e2 elt tg iter b a [c] scope pos) 1 it acc env=(standAt a.pos >>= λ_=>pyNext it >>= λr=>match r with
   | none=>pure (.done .next)
   | some v=>letOwnedTupleGo b it v >>= λ_=>assign b env v >>= λ_=>(forIn [c] true λc r=>if r=true then (isTrue c env (eval c env) >>= λok=>pure (ForInStep.yield ok)) else pure (ForInStep.yield r)) >>= λok =>
    if ok=true then
    ((eval elt env >>= λx=>call (.builtin "list.append") [acc,x] >>= λ_=>pure ()) >>= λ_ =>
     again (.compLoop (e2 elt tg iter b a [c] scope pos) 1 it acc env)) else again (.compLoop (e2 elt tg iter b a [c] scope pos) 1 it acc env)):=by rfl
section
variable {prog:Yo}{w:YI}{A:YO}{R:Result->JO->Prop}{s:JO}{elt tg iter tg1 iter1:Expr}{scope:Scope}{pos:Pos}{it acc:Jo}{env:Env}
theorem lI {ifs:List Expr}(c:codeAny (model prog w) A (.compLoop (e2 elt tg iter tg1 iter1 ifs scope pos) 1 it acc env) R s)(h:wpAny (model prog w) A (pyIter it) (λi2 z=>codeAny (model prog w) A (.compLoop (e2 elt tg iter tg1 iter1 ifs scope pos) 1 i2 acc env) R z) NoX s) :
  codeAny (model prog w) A (.compStart (e2 elt tg iter tg1 iter1 ifs scope pos) 1 it acc env) R s:=by
 refine codeAny_of_tree ?_;show wpAny _ A ((compStart (e2 elt tg iter tg1 iter1 ifs scope pos) 1 it acc env).onRaise (λx=>do noteFrame x env;standAt theWindowsPlace)) _ _ s;refine wpAny_notedAt ?_;unfold compStart;refine(show wpAny _ _ (ask >>= _) _ _ s from J0 (wpAny_askSetting (wpAny_ite ?_)));split
 ·first
   | exact J0 (J9 (J9 ⟨rfl,c⟩))
   | exact J9 ⟨rfl,c⟩
 ·apply J0;refine Z3 ?_
  first
   | exact J0 (ZG (J0 (JQ h (λb d a=>J9 ⟨rfl,a⟩) λ_ _ z=>z.elim)))
   | (show wpAny _ _ (standAt iter1.pos >>= _) _ _ s;exact J0 (ZG (J0 (JQ h (λb d a=>J9 ⟨rfl,a⟩) λ_ _ z=>z.elim))))
theorem i7 {o:Option Expr}(J:Nat->JO->Prop)(turn:∀ n s,J n s->Go (model prog w) A tg1 elt o it acc env R (λz=>∃ m,m<n/\J m z) s)(n:Nat)(h:J n s) :
  codeAny (model prog w) A (.compLoop (.ListComp elt [⟨tg,iter,[],0⟩,⟨tg1,iter1,o.toList,0⟩] scope pos) 1 it acc env) R s:=by
 cases o with
 | none =>
  refine codeAny_loop rfl J (λn s k=>?_) n h;show wpAny _ A ((compTurn (e2 elt tg iter tg1 iter1 [] scope pos) 1 it acc env).onRaise (λx=>do noteFrame x env;theTreesLotGoes x)) _ _ s;refine wpAny_noted ?_;rw[gA];refine J0 (ZG (J0 (JQ (turn n s k) (λr a i=>?_) λ_ _ z=>z.elim)))
  cases r with
  | none=>exact J9 i
  | some v =>
   refine J0 (JQ i (λ_ b q=>?_) λ_ _ z=>z.elim);refine J0 (JQ q (λ_ c p=>?_) λ_ _ z=>z.elim);have g:wpAny (model prog w) A (eval elt env) (λx e=>wpAny (model prog w) A (call (.builtin "list.append") [acc,x]) (λ_ f=>∃ m,m<n/\J m f) NoX e) NoX c:=p
   exact J0 (J0 (JQ g (λx d j=>J0 (JQ j (λ_ e l=>J9 (J9 ⟨rfl,l⟩)) λ_ _ z=>z.elim)) λ_ _ z=>z.elim))
 | some t =>
  refine codeAny_loop rfl J (λn s k=>?_) n h;show wpAny _ A ((compTurn (e2 elt tg iter tg1 iter1 [t] scope pos) 1 it acc env).onRaise (λx=>do noteFrame x env;theTreesLotGoes x)) _ _ s;refine wpAny_noted ?_;rw[lV];refine J0 (ZG (J0 (JQ (turn n s k) (λr a i=>?_) λ_ _ z=>z.elim)))
  cases r with
  | none=>exact J9 i
  | some v =>
   refine J0 (JQ i (λ_ b q=>?_) λ_ _ z=>z.elim);refine J0 (JQ q (λ_ c p=>?_) λ_ _ z=>z.elim);have g:wpAny (model prog w) A (isTrue t env (eval t env)) (λyes d=>if yes=true then wpAny (model prog w) A (eval elt env) (λx e=>wpAny (model prog w) A (call (.builtin "list.append") [acc,x]) (λ_ f=>∃ m,m<n/\J m f) NoX e) NoX d else ∃ m,m<n/\J m d) NoX c:=p;refine J0 (wpAny_tests_one (JQ g (λyes d j=>?_) λ_ _ z=>z.elim))
   cases yes with
   | false=>exact J9 ⟨rfl,j⟩
   | true=>exact J0 (J0 (JQ j (λx e l=>J0 (JQ l (λ_ f u=>J9 (J9 ⟨rfl,u⟩)) λ_ _ z=>z.elim)) λ_ _ z=>z.elim))
theorem i8 {ifs:List Expr}(J:Nat->JO->Prop)(turn:∀ n s,J n s->wpAny (model prog w) A (pyNext it) (λr a=>match r with
   | none=>R (.ok .next) a
   | some v=>wpAny (model prog w) A (letOwnedTupleGo tg it v) (λ_ b=>wpAny (model prog w) A (assign tg env v) (λ_ c=>wpAny (model prog w) A (eval iter1 env) (λx d=>wpAny (model prog w) A (pyIter x) (λi1 e =>
     codeAny (model prog w) A (.compStart (e2 elt tg iter tg1 iter1 ifs scope pos) 1 i1 acc env) (λr f=>match r with|.ok _=>∃ m,m<n/\J m f|.error _=>False) e) NoX d) NoX c) NoX b) NoX a) NoX s)(n:Nat)(h:J n s)(j:∀ x,foldedSetIterable iter1 env x=pure x) :
  codeAny (model prog w) A (.compLoop (e2 elt tg iter tg1 iter1 ifs scope pos) 0 it acc env) R s:=by
 refine codeAny_loop rfl J (λn s k=>?_) n h;show wpAny _ A ((compTurn (e2 elt tg iter tg1 iter1 ifs scope pos) 0 it acc env).onRaise (λx=>do noteFrame x env;theTreesLotGoes x)) _ _ s;refine wpAny_noted ?_;rw[gB];refine J0 (ZG (J0 (JQ (turn n s k) (λr a i=>?_) λ_ _ z=>z.elim)))
 cases r with
 | none=>exact J9 i
 | some v =>
  refine J0 (JQ i (λ_ b q=>?_) λ_ _ z=>z.elim);refine J0 (JQ q (λ_ c p=>?_) λ_ _ z=>z.elim);refine J0 (JQ p (λx d o=>?_) λ_ _ z=>z.elim);refine J0 (ZG (J0 (wpAny_of_eq (j x) (J0 (JX (JQ o (λi1 e l=>?_) λ_ _ z=>z.elim))))));refine J0 (wpAny_runOwn (codeAny_mono l (λr f g=>?_)))
  cases r with
  | ok t=>exact J9 ⟨rfl,g⟩
  | error x=>exact g.elim
end
def LCW1 (J:It)(g:TG)(tt:TT)(k:TE)(l:JI)(Q:List V->St->Hp->Prop)(W:Nat->Nat->List V->St->Hp->Prop):Prop :=
 ∀ i m acc c d,W i m acc c d->d l=some (.lst acc) /\
  ((J.stop i d/\Q acc c d)\/(J.go i d/\∀ x j,J.yld i d x j->g x c j λa n=>tt a n λb h =>
   if b=true then k a h λy f=>f l=some (.lst acc)/\acc.length<sizeLine/\∃ e,e<m/\W (i+1) e (acc++[y]) a (upd f l (.lst (acc++[y])))
   else ∃ e,e<m/\W (i+1) e acc a h))
def zdn (cap:List (Option Nat))(n:TI)(g:TG)(d:TI)(q:TG)(tt:TT)(o:TE):TE:=λσ H Q=>n σ H λJ j=>∀ l,j l=none ->
 ∃ W:Nat->Nat->List V->St->Hp->Prop,(∃ m,W 0 m [] (nP cap σ) (upd j l (.lst []))) /\
  ∀ i m acc c a,W i m acc c a->a l=some (.lst acc)/\((J.stop i a/\Q (.ref l) a)\/(J.go i a/\∀ x h,J.yld i a x h->g x c h λb t=>d b t λr s =>
   ∃ f:Nat->Nat->List V->St->Hp->Prop,(∃ p,f 0 p acc b s)/\LCW1 r q tt o l (λac k G=>∃ e,e<m/\W (i+1) e ac k G) f))
theorem ah {X:Cx}{elt tg iter P B:Expr}{o:Option Expr}{scope:Scope}{pos a9:Pos}{wi bo:TI}{g g1:TG}{tt:TT}{te:TE}{N':List Str}{cap:List (Option Nat)}{use:Option (Jo->Sem Unit)}{Q0:Jo->JO->Prop}(hc:X.calm=true)(hi:PI X tg iter wi)(ck:CapOk X.N N' X.env.scope scope cap)(hg:∀ C s₀ H₀ fp pins,PG (yW X N' scope C s₀ H₀ fp pins) tg g)(cb:∀ C s₀ H₀ fp pins,PI (yW X N' scope C s₀ H₀ fp pins) P B bo)(cc:∀ C s₀ H₀ fp pins,PG (yW X N' scope C s₀ H₀ fp pins) P g1)(ht:∀ C s₀ H₀ fp pins,PTo (yW X N' scope C s₀ H₀ fp pins) o tt)(he:∀ C s₀ H₀ fp pins,PE (yW X N' scope C s₀ H₀ fp pins) elt te)(hs:∀ x,foldedSetIterable iter X.env x=pure x)(b7:∀ C x,foldedSetIterable B (compEnvC scope (vI X.env.cells scope.names []) C X.env) x=pure x){pins:List (JI × Obj)}{s:JO}{σ:St}{H:Hp}{Q:VK}(I:Inv X pins σ H s)(h:zdn cap wi g bo g1 tt te σ H Q)(fin:∀ (l C:JI) (H4:Hp) (s5:JO) (m:Str->Option Jo),Inv X pins σ H4 s5->Q (.ref l) H4->s5.heap.Ns C m->FpOk X pins H4 C->compPost (model X.prog X.w) X.A X.xe use Q0 (.ref l) C (.ok .next) s5) :
  wpAny (model X.prog X.w) X.A (comprehension (.ListComp elt [⟨tg,iter,[],0⟩,⟨P,B,o.toList,0⟩] scope pos) scope X.env a9 (newList []) false (eval iter X.env) use) Q0 X.xe s:=by
 have N:∀ y∈scope.names,y.2=.free->∃ c,X.env.cells.lookup y.1=some c:=λy hy hf=>I.ok.has y.1 (ck.free y hy hf);refine wpAny_comprehension_free (use:=use) rfl hs (vc N) ck.kind ck.names (thn (hi pins s σ H _ I h) λv s1 h1=>thn h1 λc7 F h2=>?_);obtain⟨it,fp,tn,J,H2,e,I2,T,bx,f2,body⟩:=h2;subst e;have bc:H2 F.heap.objs.size=none:=I2.hok.fresh (Je _);obtain⟨W,⟨m0,w0⟩,turn⟩:=body F.heap.objs.size bc;have A:Inv X pins σ (upd H2 F.heap.objs.size (.lst [])) { F with heap:=F.heap.push { cls:=.type "list",data:=.seq ([]:List Jo).toArray },toks:=F.toks }:=I2.lnew (its:=[]) (t':=F.toks) .nil (JN _);refine JZ (wpAny_newFunctionEnv ck.nocell (by intro y hy;simp at hy) (λE M L=>?_) ck.kind);dsimp only at M L ⊢;generalize hl:F.heap.objs.size=l at *;generalize hP:F.heap.push { cls:=.type "list",dict:=none,data:=.seq ([]:List Jo).toArray }=P2 at *;generalize ct:upd H2 l (.lst [])=H3 at *;have old:∀ b o,P2.get? b=some o->E.get? b=some o:=λb o e=>L.extBut b o (JD (Jd e)) (J7 _ e);have ba:∀ b o,F.heap.get? b=some o->P2.get? b=some o:=λb o e=>hP ▸ J7 _ e
 have b2:∀ b∈fp,b<l:=λb a=>by
  obtain⟨o,e,_⟩:=T.obj _ _ bx b a;rw[<- hl];exact Jd e
 have cz:∀ b∈fp,H3 b=none:=λb a=>by
  rw[<- ct,zG (JD (b2 b a))];exact(f2 b a).1
 have cn:P2.objs.size=l+1:=by rw[<- hP,YW,hl]
 have D:∀ x c,(vI X.env.cells scope.names []).lookup x=some c->X.env.cells.lookup x=some c:=λx c e=>wu _ _ x c N (λ_ _ z=>by simp at z) e;generalize bS:({ F with heap:=P2,toks:=F.toks }:JO)=s3 at *;have w:s3.heap=P2:=by rw[<- bS]
 let Y:=yW X N' scope P2.objs.size s3 H3 fp pins
 have K:Y.Ok:=by
  refine⟨A.ok.mod,ck.kind,A.ok.glob,A.ok.blt,by show s3.heap.objs.size<=P2.objs.size;rw[w];exact Je _,λx y c e1 e2=>A.ok.inj x y c (D x c e1) (D y c e2),λx hx=>?_,λx c hx=>absurd (show false=true from hx) Jp,A.ok.hd,A.ok.frames,.inl rfl,λb a=>⟨?_,λx c e=>?_⟩,A.bs,
   JS A.ok.bsz A.sz,λb o e a=>?_,λb a hz=>?_,A.stack,A.stkFree⟩
  ·have b6:scope.names.lookup x=some .free:=by
    rcases hx with hx|hx
    ·rcases yz hx with z|z
     ·exact absurd rfl (ck.nocell _ (wQ z))
     ·exact z.2
    ·rcases yz hx with z|z
     ·exact z
     ·exact z.2
   exact xT _ _ x b6
  ·exact JD (by show b<P2.objs.size;rw[cn];exact Zq (b2 b a))
  ·exact(f2 b a).2.2.2.2.1 x c (D x c e)
  ·rcases (f2 b a).2.2.2.1 with z|z
   ·exact A.ok.noex b o e z
   ·exact absurd (JG (Jd e) (JS A.ok.bsz z)) (Yv _)
  ·rcases Jf.mp (A.stkSub b hz) with z|z
   ·exact(f2 b a).2.1 z
   ·exact(f2 b a).2.2.1 z
 have cm:Inv Y [] (nP cap σ) H3 { F with heap:=E,toks:=F.toks }:=by
  refine⟨K,by show F.os=s3.os;rw[<- bS],I2.bare,by show Un _ _ _ _ s3.heap E;rw[w];exact Un.kept old,⟨_,M,λj x v e1 e2 e3=>?_⟩,λx c e=>?_,?_,λx c e=>A.freeC x c (D x c e),λp hp=>?_,λb o e=>?_,?_⟩
  ·have cP:N'[j]?=some x:=e1
   unfold nP at e2;rw[JC]at e2
   cases ec:cap[j]? with
   | none=>rw[ec]at e2;cases e2
   | some oc =>
    rw[ec]at e2
    cases oc with
    | none=>cases e2
    | some i =>
     have cH:σ[i]?=some (some v):=by
      cases ei:σ[i]? with
      | none=>simp[ei]at e2
      | some v' =>
       simp[ei]at e2;rw[e2]
     have hz:(x,some i)∈N'.zip cap:=by
      refine JM (i:=j) ?_;rw[YK];exact⟨cP,ec⟩
     obtain⟨hN,hf,hk⟩:=ck.cap _ hz i rfl;obtain⟨m,hn,b8⟩:=A.loc;obtain⟨u,r,lk⟩:=b8 i x v hN cH (by rcases hk with z|z;exact .inr (.inl z);exact .inr (.inr z));refine⟨u,r,.inr ⟨?_,?_⟩⟩
     ·exact wJ hf
     ·rcases lk with ⟨z,_⟩|⟨_,c,cf,ax⟩
      ·have z':X.env.scope.names.lookup x=some .local:=z
       rcases hk with q|q
       ·rw[q]at z';cases z'
       ·rw[q]at z';cases z'
      ·obtain⟨c',b0⟩:=xT (cells:=X.env.cells) scope.names [] x hf
       have:=D x c' b0;rw[cf]at this;cases this;obtain⟨ob,e,d⟩:=ax;rw[w]at e;exact⟨c,b0,ob,old c ob e,d⟩
  ·obtain⟨v,ob,e',d⟩:=A.cell x c (D x c e)
   rw[w]at e';exact⟨v,ob,old c ob e',d⟩
  ·refine A.hok.fresh ?_
   rw[w];exact Je _
  ·have a7:p∈X.pn++pins:=(Js.mp hp).elim (λz=>z) (λz=>nomatch z)
   obtain⟨e,n,ne,nf,d⟩:=A.pin p a7;rw[w]at e;refine⟨old _ _ e,n,JD (Jd e),λz=>?_,d⟩;rcases Jf.mp (A.stkSub _ z) with q|q
   ·exact ne q
   ·exact nf q
  ·have:=A.hok.kept (h':=E) (λb u q=>old b u (by rw[<- w];exact q))
   exact this b o e
  ·show (cap.map _).length=N'.length
   rw[Jb,ck.len]
 have S:∀ {t:Hp},(∀ b∈fp,t b=none)->∀ b∈fp,FpOk Y [] t b:=λ{t} hn b a=>by
  refine⟨hn b a,(K.exf b a).1,K.exfs b a,.inl a,(K.exf b a).2,λp hp=>?_⟩;have a7:p∈X.pn++pins:=(Js.mp hp).elim (λz=>z) (λz=>nomatch z);exact(f2 b a).2.2.2.2.2 p a7
 have bB:tn 0 E:=T.keep 0 _ _ bx λb a o e=>old b o (ba b o e)
 have loop:codeAny (model X.prog X.w) X.A (.compLoop (.ListComp elt [⟨tg,iter,[],0⟩,⟨P,B,o.toList,0⟩] scope pos) 0 (.ref it) (.ref l) Y.env) (compPost (model X.prog X.w) X.A X.xe use Q0 (.ref l) P2.objs.size) { F with heap:=E,toks:=F.toks }:=by
  refine i8 (λn s'=>∃ i acc f t,Inv Y [] f t s'/\tn i s'.heap/\(∀ b∈fp,t b=none)/\W i n acc f t) ?_ m0 ⟨0,[],_,H3,cm,bB,cz,w0⟩ (b7 _);rintro n s4 ⟨i,acc,a4,H4,I4,bw,b1,w4⟩;obtain⟨c4,q4⟩:=turn i n acc a4 H4 w4;rcases q4 with ⟨stop,qn⟩|⟨go,step⟩
  ·refine thn (T.done Y rfl rfl rfl hc i [] s4 a4 H4 Y.xe I4 (S b1) bw stop) λr s5 ⟨hr,I5⟩=>?_
   subst hr;obtain⟨m,hn,_⟩:=id I5.loc;have un:Un (frs X.stack) fp H3 H4 s3.heap s5.heap:=I5.base;have b3:s3.heap.objs.size<=P2.objs.size:=by rw[w];exact Je _
   have IX:Inv X pins σ H4 s5:=A.call' (ch:=fp) I5.os un I5.hok I5.bare λb a=>⟨(f2 b a).2.2.2.1,(f2 b a).2.1,(f2 b a).2.2.2.2.1,(f2 b a).2.2.2.2.2⟩;exact fin l P2.objs.size H4 s5 m IX qn hn (A.fpOk b3 I5.free)
  ·refine thn (T.item Y rfl rfl rfl hc i [] s4 a4 H4 Y.xe I4 (S b1) bw go) λr s5 ⟨u,hr,h5⟩=>?_
   subst hr;refine thn h5 λ_ s6 ⟨x,H6,I6,r6,y6,a6,cx⟩=>?_;have c2:=I6.pinned (S cx) (T.obj _ _ a6);refine thn (hg _ _ _ _ _ _ s6 a4 H6 x u _ c2 r6 (step x H6 y6)) λ_ s7 ⟨bl,H7,I7,q7⟩=>?_
   have again:∀ {a3:St}{H9:Hp}{s9:JO}{U:List V},Inv Y ([]++wK fp s6.heap) a3 H9 s9->(∃ m',m'<n/\W (i+1) m' U a3 H9)->∃ m,m<n/\∃ i acc f t,Inv Y [] f t s9/\tn i s9.heap/\(∀ b∈fp,t b=none)/\W i m acc f t:=λ{a3 H9 s9 U} I9 ⟨m',hm,w9⟩=>by
    refine⟨m',hm,i+1,U,a3,H9,I9.unpinned,T.keep _ _ _ a6 λb a o e=>(I9.pin (b,o) (JA _ (JA _ (yb a e)))).1,λb a=>?_,w9⟩;obtain⟨o,e,d⟩:=T.obj _ _ a6 b a;exact(I9.pin (b,o) (JA _ (JA _ (yb a e)))).2.1
   generalize ([]++wK fp s6.heap:List (JI × Obj))=pz at again I7;refine thn (cb _ _ _ _ _ _ s7 bl H7 _ I7 q7) λv1 s8 h8=>thn h8 λc3 s9 h9=>?_;obtain⟨b4,R,bt,J1,H9,e1,I9,T1,bu,f9,W1,⟨m1,w1⟩,ab⟩:=h9;subst e1;have G:∀ {t:Hp},(∀ b∈R,t b=none)->∀ b∈R,FpOk Y pz t b:=λhn b a=>⟨hn b a,(f9 b a).2⟩
   have Z:codeAny (model X.prog X.w) X.A (.compLoop (.ListComp elt [⟨tg,iter,[],0⟩,⟨P,B,o.toList,0⟩] scope pos) 1 (.ref b4) (.ref l) Y.env) (λr z=>match r with|.ok _=>∃ m,m<n/\∃ i acc f t,Inv Y [] f t z/\tn i z.heap/\(∀ b∈fp,t b=none)/\W i m acc f t|.error _=>False) s9:=by
    refine i7 (λn s'=>∃ i acc f t,Inv Y pz f t s'/\bt i s'.heap/\(∀ b∈R,t b=none)/\W1 i n acc f t) ?_ m1 ⟨0,acc,bl,H9,I9,bu,λb a=>(f9 b a).1,w1⟩;rintro k t4 ⟨j,ac,a0,G4,K4,u4,v4,z4⟩;obtain⟨c5,p4⟩:=ab j k ac a0 G4 z4;rcases p4 with ⟨ak,pn⟩|⟨go1,ao⟩
    ·refine thn (T1.done Y rfl rfl rfl hc j pz t4 a0 G4 Y.xe K4 (G v4) u4 ak) λr t5 ⟨hr,K5⟩=>?_
     subst hr;exact again K5 pn
    ·refine thn (T1.item Y rfl rfl rfl hc j pz t4 a0 G4 Y.xe K4 (G v4) u4 go1) λr t5 ⟨u,hr,h5⟩=>?_
     subst hr;refine thn h5 λ_ t6 ⟨y,G6,K6,e6,d6,u6,v6⟩=>?_;have c0:=K6.pinned (G v6) (T1.obj _ _ u6);refine thn (cc _ _ _ _ _ _ t6 a0 G6 y u _ c0 e6 (ao y G6 d6)) λ_ t7 ⟨a5,G7,K7,p7⟩=>?_;refine nq (ht _ _ _ _ _ _ t7 a5 G7 _ K7 p7) λb t8 ⟨G8,K8,p8⟩=>?_
     have O:∀ {aT:St}{G9:Hp}{t9:JO}{a8:List V},Inv Y (pz++wK R t6.heap) aT G9 t9->(∃ m',m'<k/\W1 (j+1) m' a8 aT G9)->∃ m,m<k/\∃ i acc f t,Inv Y pz f t t9/\bt i t9.heap/\(∀ b∈R,t b=none)/\W1 i m acc f t:=λ{aT G9 t9 a8} K9 ⟨m',hm,z9⟩=>by
      refine⟨m',hm,j+1,a8,aT,G9,K9.unpinned,T1.keep _ _ _ u6 λb a o e=>(K9.pin (b,o) (JA _ (JA _ (yb a e)))).1,λb a=>?_,z9⟩;obtain⟨o,e,d⟩:=T1.obj _ _ u6 b a;exact(K9.pin (b,o) (JA _ (JA _ (yb a e)))).2.1
     cases b with
     | false =>
      rw[Jc Jp]at p8 ⊢
      exact O K8 p8
     | true =>
      rw[Jh rfl]at p8 ⊢;refine thn (he _ _ _ _ _ _ t8 a5 G8 _ K8 p8) λyv t9 ⟨yy,G9,K9,e9,b9,b5,p9⟩=>?_;refine thn (xM (X:=Y) _ t9 a5 G9 (.ref l) [yy] (.ref l) [yv] (λ_ t=>t=upd G9 l (.lst (ac++[yy]))) K9 rfl (.cons e9 .nil) ⟨l,ac,yy,rfl,rfl,b9,b5,rfl⟩) λ_ c6 ⟨_,c8,c1,_,cI⟩=>?_;subst cI;exact O c1 p9
   exact lI Z (T1.self X.A 0 _ _ _ bu Z)
 exact codeAny_compStart_list loop (T.self X.A 0 _ _ _ bB loop)
theorem ky {X:Cx}{elt tg iter b a:Expr}{o:Option Expr}{scope:Scope}{pos:Pos}{j c:TI}{g n:TG}{tt:TT}{k:TE}{N':List Str}{cap:List (Option Nat)}(y:X.calm=true)(hi:PI X tg iter j)(z:CapOk X.N N' X.env.scope scope cap)(v:∀ C s₀ H₀ fp pins,PG (yW X N' scope C s₀ H₀ fp pins) tg g)(e:∀ C s₀ H₀ fp pins,PI (yW X N' scope C s₀ H₀ fp pins) b a c)(i:∀ C s₀ H₀ fp pins,PG (yW X N' scope C s₀ H₀ fp pins) b n)(r:∀ C s₀ H₀ fp pins,PTo (yW X N' scope C s₀ H₀ fp pins) o tt)(w:∀ C s₀ H₀ fp pins,PE (yW X N' scope C s₀ H₀ fp pins) elt k)(t:∀ x,foldedSetIterable iter X.env x=pure x:=by intro _;rfl)(d:∀ C x,foldedSetIterable a (compEnvC scope (vI X.env.cells scope.names []) C X.env) x=pure x:=by intro _ _;rfl) :
  PE X (.ListComp elt [⟨tg,iter,[],0⟩,⟨b,a,o.toList,0⟩] scope pos) (zdn cap j g c n tt k):=by
 intro pins s σ H Q I h;rw[eval_ListComp];exact ah (use:=none) y hi z v e i r w t d I h λl C B D m A q u f=>⟨m,u,λE p=>⟨.ref l,B,A.gone f p,rfl,q⟩⟩
end L2
namespace Own
open PySem PySem.Spec PyProof.Rows
abbrev IsZipC (h:YP)(z TI TO:JI)(own:Jo)(c:Bool):Prop:=h.get? z=some { cls:=.type "zip",dict:=none,data:=.fields #[own,.bool c,.bool false,.ref TI,.ref TO],slots:=#[] }
section
variable {prog:Yo}{w:YI}{A:YO}{E:Jo->JO->Prop}{s:JO}{z TI TO i1 i2:JI}{f1 f2:List JI}{n1 n2 k:Nat}{P1 P2:Nat->Jo->Prop}{S1 S2:Nat->YP->Prop}{a b:Jo}
theorem de {a:JI}{Q:Option Obj->JO->Prop}(b:s.heap.get? a=none)(h:Q none s):wpAny (model prog w) A (loadIfAlive a) Q E s:=by
 have c:Q (s.heap.get? a) s:=b.symm ▸ h;exact λ_ _ _=>c
theorem nZ {α:Type}{t:JI}{c:Bool}{f:Bool->Sem α}{Q:α->JO->Prop}(hz:IsZipN s.heap z TI TO t c)(a:s.heap.get? t=none)(h:wpAny (model prog w) A (f true) Q E s) :
  wpAny (model prog w) A (Builtin.SmallTypes.ownedTupleIsFree (.ref z) >>= f) Q E s:=by
 refine J0 ?_;unfold Builtin.SmallTypes.ownedTupleIsFree;refine rf 0 hz rfl rfl ?_;show wpAny _ _ (loadIfAlive ((t:Int).toNat) >>= _) _ _ _;rw[Yw];refine J0 (de a ?_);simp only[Option.isNone_none,Z6];exact J9 h
theorem i3 (S:Sep z TI TO i1 i2 f1 f2)(F:Draws prog w A i1 f1 n1 P1 S1)(D:Draws prog w A i2 f2 n2 P2 S2){Q:Jo->JO->Prop}{t:JI}{i:Bool}(hz:IsZipN s.heap z TI TO t i)(hn:s.heap.get? t=none)(hI:IsPair s.heap TI (.ref i1) (.ref i2))(hO:IsPair s.heap TO a b)(d1:S1 k s.heap)(d2:S2 k s.heap)(l1:k<n1)(l2:k<n2)(h:∀ x y h' tk,P1 k x->P2 k y->IsZip h' z TI TO (rawInt s.heap.objs.size)->IsPair h' TO x y->S1 (k+1) h'->S2 (k+1) h'->IsPair h' s.heap.objs.size x y ->
   (∀ c o,c∉[z,TO,i1,i2]->s.heap.get? c=some o->h'.get? c=some o)->Q (.ref s.heap.objs.size) { s with heap:=h',toks:=tk }) :
  wpAny (model prog w) A (Builtin.«zip.__next__» ⟨[.ref z],[]⟩) (λr Y=>∃ v,r=.done (.ret v)/\Q v Y) E s:=by
 have M:=S.all;simp only[JJ,Jf,Jg,Y5,Zs]at M;obtain⟨⟨zI,B,W,V⟩,⟨IO,I1,I2⟩,⟨O1,O2⟩,ab,_⟩:=M;refine rf 2 hz rfl rfl (rf 3 hz rfl rfl (J0 (Y4 hI rfl (nZ hz hn ?_))));rw[Jh rfl];refine J0 (Z3 (rf 4 hz rfl rfl (J0 (Y8 hz (show 0<5 by decide) λha U n=>J0 ?_))));have G:IsZipC ha z TI TO .ellipsis i:=U;simp only[List.zipIdx_cons,List.zipIdx_nil,Yz,YS];refine J0 (J0 (WC (J0 (F.item k _ _ _ l1 (F.frame _ _ _ d1 λc g o e=>(n.2 c λq=>S.z1 (q ▸ g)).trans e) λx hb tb Z db m=>J9 ?_))));have P:IsPair hb TO a b:=(m.2 TO O1).trans ((n.2 TO (Ne.symm B)).trans hO);refine J0 (Y4 P rfl (J0 (wpAny_updateSeq_pair P λg Oc sc=>J0 (Zy (J9 ?_)))));have I:IsPair g TO x b:=Oc;have H:S2 k g:=D.frame _ _ _ d2 λc d o e=>(sc.2 c λq=>S.t2 (q ▸ d)).trans ((m.2 c λq=>S.o2 (q ▸ d)).trans ((n.2 c λq=>S.z2 (q ▸ d)).trans e));refine J0 (J0 (WC (J0 (D.item k _ _ _ l2 H λy hd X py dd l=>J9 ?_))));have O:IsPair hd TO x b:=(l.2 TO O2).trans I;refine J0 (Y4 O rfl (J0 (wpAny_updateSeq_pair O λf Oe j=>J0 (Zy (J9 (J9 ?_))))));have u:IsPair f TO x y:=Oe;refine J0 (Y4 u rfl (J0 (Wv (J0 ?_))));have sz:f.objs.size=s.heap.objs.size:=by rw[j.1,l.1,sc.1,m.1,n.1]
 have J:IsZipC f z TI TO .ellipsis i:=(j.2 z B).trans ((l.2 z V).trans ((sc.2 z B).trans ((m.2 z W).trans G)));have zn:f.objs.size≠z:=JT (Jd J);unfold Builtin.SmallTypes.ownedTupleHandOut;refine J0 (Y8 (J7 _ J) (show 0<5 by decide) λhf T L=>Y8 T (show 1<5 by decide) λC R K=>J9 ⟨_,rfl,?_⟩);have up:∀ c o,c≠z->f.get? c=some o->C.get? c=some o:=λc o q e=>(K.2 c q).trans ((L.2 c q).trans (J7 _ e));have new:IsPair C f.objs.size x y:=(K.2 _ zn).trans ((L.2 _ zn).trans (Jt _ rfl));have p:IsZip C z TI TO (rawInt f.objs.size):=R;rw[sz]at new p;show Q (.ref f.objs.size) _;rw[sz];refine h x y C X Z py p (up _ _ (Ne.symm B) u) ?_ ?_ new λc o g e=>?_
 ·exact F.frame _ _ _ db λc d o e=>up c o (λq=>S.z1 (q ▸ d)) ((j.2 c λq=>S.t1 (q ▸ d)).trans ((l.2 c λq=>S.o1 (q ▸ d)).trans ((sc.2 c λq=>S.t1 (q ▸ d)).trans e)))
 ·exact D.frame _ _ _ dd λc d o e=>up c o (λq=>S.z2 (q ▸ d)) ((j.2 c λq=>S.t2 (q ▸ d)).trans e)
 ·simp only[Jf,Jg,Y5,Zs]at g
  obtain⟨i,N,c3,c4⟩:=g;exact up c o i ((j.2 c N).trans ((l.2 c c4).trans ((sc.2 c N).trans ((m.2 c c3).trans ((n.2 c i).trans e)))))
theorem ir (S:Sep z TI TO i1 i2 f1 f2) (m:Draws prog w A i1 f1 n1 P1 S1) {Q:Fin->JO->Prop}{t:JI}{d:Bool}(hz:IsZipN s.heap z TI TO t d) (hn:s.heap.get? t=none) (y:IsPair s.heap TI (.ref i1) (.ref i2)) (B:S1 n1 s.heap)
  (h:∀ h' x,(∀ c o,c∉[z,TO,i1,i2]->s.heap.get? c=some o->h'.get? c=some o)->(∃ o,h'.get? x=some o/\o.cls=.type "StopIteration")->E (.ref x) { s with heap:=h' }):wpAny (model prog w) A (Builtin.«zip.__next__» ⟨[.ref z],[]⟩) Q E s:=by
 have j:=S.all;simp only[JJ,Jf,Jg,Y5,Zs]at j;obtain⟨⟨F,D,p,G⟩,⟨IO,K,J⟩,⟨I,H⟩,C,_⟩:=j;refine rf 2 hz rfl rfl (rf 3 hz rfl rfl (J0 (Y4 y rfl (nZ hz hn ?_))));rw[Jh rfl];refine J0 (Z3 (rf 4 hz rfl rfl (J0 (Y8 hz (show 0<5 by decide) λv n i=>J0 ?_))));have f:IsZipC v z TI TO .ellipsis d:=n;simp only[List.zipIdx_cons,List.zipIdx_nil,Yz,YS];refine J0 (J0 (WC (J0 (m.done _ _ _ (m.frame _ _ _ B λc b o e=>(i.2 c λq=>S.z1 (q ▸ b)).trans e) λu x k ⟨r,ex,l⟩=>?_))));have g:IsZipC u z TI TO .ellipsis d:=k z _ p f;have xz:x≠z:=λq=>by rw[q,g]at ex;cases ex;exact absurd (show Value.type "zip" = Value.type "StopIteration" from l) (by decide)
 refine Y8 g (show 0<5 by decide) λb _ sc=>h b x (λc o a e=>?_) ⟨r,(sc.2 x xz).trans ex,l⟩;simp only[Jf,Jg,Y5,Zs]at a;exact(sc.2 c a.1).trans (k c o a.2.2.1 ((i.2 c a.1).trans e))
theorem iz {t:JI}{c:Bool}{o:Obj}(S:Sep z TI TO i1 i2 f1 f2)(l:Draws prog w A i1 f1 n1 P1 S1)(j:Draws prog w A i2 f2 n2 P2 S2){Q:Jo->JO->Prop}(hz:IsZipN s.heap z TI TO t c)(H:s.heap.get? t=some o)(J:IsPair s.heap TI (.ref i1) (.ref i2))(M:S1 k s.heap)(L:S2 k s.heap)(l1:k<n1)(l2:k<n2)(h:∀ x y h' tk,P1 k x->P2 k y->IsZipN h' z TI TO t true->S1 (k+1) h'->S2 (k+1) h'->IsPair h' s.heap.objs.size x y ->
   (∀ c o,c∉[z,i1,i2]->s.heap.get? c=some o->h'.get? c=some o)->Q (.ref s.heap.objs.size) { s with heap:=h',toks:=tk }) :
  wpAny (model prog w) A (Builtin.«zip.__next__» ⟨[.ref z],[]⟩) (λr F=>∃ v,r=.done (.ret v)/\Q v F) E s:=by
 have n:=S.all;simp only[JJ,Jf,Jg,Y5,Zs]at n;obtain⟨⟨P,O,C,B⟩,⟨IO,X,W⟩,⟨V,U⟩,N,_⟩:=n;refine rf 2 hz rfl rfl (rf 3 hz rfl rfl (J0 (Y4 J rfl (tw hz H λT u g=>?_))));rw[Jc Jp];refine J0 ?_;simp only[List.forIn_toArray,Yz,YS];refine J0 (J0 (JX (J0 (l.item k _ _ _ l1 (l.frame _ _ _ M λc a o e=>(g.2 c λq=>S.z1 (q ▸ a)).trans e) λx I R G db f=>J9 (J9 ?_)))));have m:S2 k I:=j.frame _ _ _ L λc b o e=>(f.2 c λq=>S.o2 (q ▸ b)).trans ((g.2 c λq=>S.z2 (q ▸ b)).trans e);refine J0 (J0 (JX (J0 (j.item k _ _ _ l2 m λy i D py K d=>J9 (J9 (J9 ?_))))));refine J0 (Wv (J9 ⟨_,rfl,?_⟩) (hsz:=by show 2<=sizeLine;decide));have sz:i.objs.size=s.heap.objs.size:=by rw[d.1,f.1,g.1]
 show Q (.ref i.objs.size) _;rw[sz];have p:IsZipN i z TI TO t true:=(d.2 z B).trans ((f.2 z C).trans u);have new:(i.push { cls:=.type "tuple",data:=.seq #[x,y] }).get? s.heap.objs.size=some { cls:=.type "tuple",data:=.seq #[x,y] }:=by rw[<- sz];exact Jt _ rfl
 refine h x y _ D G py (J7 _ p) ?_ ?_ new λc o a e=>?_
 ·exact l.frame _ _ _ db λc b o e=>J7 _ ((d.2 c λq=>S.o1 (q ▸ b)).trans e)
 ·exact j.frame _ _ _ K λc b o e=>J7 _ e
 ·simp only[Jf,Jg,Y5,Zs]at a
  exact J7 _ ((d.2 c a.2.2).trans ((f.2 c a.2.1).trans ((g.2 c a.1).trans e)))
def AnyZip (h:YP)(z TI TO:JI):Prop:=IsZip h z TI TO .none\/∃ t c,IsZipN h z TI TO t c
theorem AnyZip.obj {h:YP}(x:AnyZip h z TI TO):∃ o,h.get? z=some o/\o.cls=.type "zip"/\∀ v,o.data≠.cell v:=by
 rcases x with x|⟨t,c,x⟩
 ·exact⟨_,x,rfl,λv q=>by cases q⟩
 ·exact⟨_,x,rfl,λv q=>by cases q⟩
theorem i4 (S:Sep z TI TO i1 i2 f1 f2)(C:Draws prog w A i1 f1 n1 P1 S1)(B:Draws prog w A i2 f2 n2 P2 S2){Q:Jo->JO->Prop}(hz:AnyZip s.heap z TI TO)(p:IsPair s.heap TI (.ref i1) (.ref i2))(n:IsPair s.heap TO a b)(u:S1 k s.heap)(q:S2 k s.heap)(l1:k<n1)(l2:k<n2)(h:∀ x y h' tk,P1 k x->P2 k y->AnyZip h' z TI TO->(∃ a b,IsPair h' TO a b)->S1 (k+1) h'->S2 (k+1) h'->IsPair h' s.heap.objs.size x y ->
   (∀ c o,c∉[z,TO,i1,i2]->s.heap.get? c=some o->h'.get? c=some o)->Q (.ref s.heap.objs.size) { s with heap:=h',toks:=tk }) :
  wpAny (model prog w) A (Builtin.«zip.__next__» ⟨[.ref z],[]⟩) (λr H=>∃ v,r=.done (.ret v)/\Q v H) E s:=by
 rcases hz with hz|⟨t,c,hz⟩
 ·exact nY S C B hz p n u q l1 l2 λx y h' tk j py f l i g nw d=>h x y h' tk j py (.inr ⟨_,_,f⟩) ⟨_,_,l⟩ i g nw d
 ·cases F:s.heap.get? t with
  | none=>exact i3 S C B hz F p n u q l1 l2 λx y h' tk j py f l i g nw d=>h x y h' tk j py (.inr ⟨_,_,f⟩) ⟨_,_,l⟩ i g nw d
  | some o =>
   have D:=S.all;simp only[JJ,Jf,Jg,Y5,Zs]at D;obtain⟨⟨M,G,O,N⟩,⟨IO,R,P⟩,⟨K,J⟩,L,_⟩:=D;refine iz S C B hz F p u q l1 l2 λx y h' tk j py f i g nw d=>h x y h' tk j py (.inr ⟨_,_,f⟩) ⟨_,_,d TO _ (by simp[Ne.symm G,K,J]) n⟩ i g nw λc o I e=>d c o (λm=>I ?_) e;simp only[Jf,Jg,Y5]at m ⊢;rcases m with m|m|m
   ·exact .inl m
   ·exact .inr (.inr (.inl m))
   ·exact .inr (.inr (.inr m))
theorem iu (S:Sep z TI TO i1 i2 f1 f2) (d:Draws prog w A i1 f1 n1 P1 S1) {Q:Fin->JO->Prop}(hz:AnyZip s.heap z TI TO) (a:IsPair s.heap TI (.ref i1) (.ref i2)) (b:S1 n1 s.heap)
  (h:∀ h' x,(∀ c o,c∉[z,TO,i1,i2]->s.heap.get? c=some o->h'.get? c=some o)->(∃ o,h'.get? x=some o/\o.cls=.type "StopIteration")->E (.ref x) { s with heap:=h' }):wpAny (model prog w) A (Builtin.«zip.__next__» ⟨[.ref z],[]⟩) Q E s:=by
 rcases hz with hz|⟨t,c,hz⟩
 ·exact nX S d hz a b h
 ·cases e:s.heap.get? t with
  | none=>exact ir S d hz e a b h
  | some o=>exact qZ S d hz e a b h
theorem eQ {s:JO}{E:Jo->JO->Prop}{Q:Jo->JO->Prop}(hz:AnyZip s.heap z TI TO)(h:Q (.ref z) s):wpAny (model prog w) A (pyIter (.ref z)) Q E s:=by
 obtain⟨a,b,c,_⟩:=hz.obj;have ty:s.TypeIs (.ref z) "zip":=⟨a,b,c⟩;exact wpAny_pyIter_slot ty F.slot_zip_iter (Y1 F.slot_zip_iter ty F.entry_zip_iter (show wpAny _ _ (ret (.ref z)) _ _ s from J9 ⟨_,rfl,"zip",_,ty,F.slot_zip_next.lookup,h⟩) (F.args_zip_iter_1 _))
end
end Own
namespace L2
open PySem PySem.Spec PyProof.Rows Own
theorem i9 {P:Yo}{w:YI}{K:Jl}{y1:Str}{C:Pos}(V b2:Bool)(B O z TI TO i1 i2:JI)(nd:[z,TI,TO,i1,i2].Nodup) :
  Turn P w K (.Name y1 C) (Itz K V b2 B O) [z,TI,TO,i1,i2] z (λi h=>AnyZip h z TI TO/\IsPair h TI (.ref i1) (.ref i2)/\(∃ a b,IsPair h TO a b)/\RIt V h i1 B i/\RIt b2 h i2 O i) where
 mem:=Jz
 obj:=λi h ⟨p,r,⟨a,b,F⟩,n,u⟩ c M=>by
  simp only[Jf,Jg,Y5]at M;rcases M with rfl|rfl|rfl|rfl|rfl
  ·obtain⟨o,e,_,d⟩:=p.obj;exact⟨o,e,d⟩
  ·exact⟨_,r,λv q=>by cases q⟩
  ·exact⟨_,F,λv q=>by cases q⟩
  ·exact⟨_,n,λv q=>by cases q⟩
  ·exact⟨_,u,λv q=>by cases q⟩
 keep:=λi h h' ⟨p,r,⟨a,b,F⟩,n,u⟩ L=>⟨p.imp (λq=>L z (by simp) _ q) (λ⟨t,c,q⟩=>⟨t,c,L z (by simp) _ q⟩),L TI (by simp) _ r,⟨a,b,L TO (by simp) _ F⟩,L i1 (by simp) _ n,L i2 (by simp) _ u⟩
 item:=by
  intro X hP hw hK M i pins s σ H E I D ⟨p,r,⟨a,b,F⟩,n,u⟩ ⟨xs,ys,x,y,J,q2,R,hy⟩;subst hP hw hK;obtain⟨Q,Z,C⟩:=I.sq J;obtain⟨u2,r2,p2⟩:=I.sq q2;obtain⟨v1,e1,rx⟩:=Z.get R;obtain⟨v2,e2,ry⟩:=r2.get hy;have k:=nd;simp only[JJ,Jf,Jg,Y5,Zs]at k;obtain⟨⟨zI,zO,Y,W⟩,⟨IO,I1,I2⟩,⟨O1,O2⟩,m,_⟩:=k;have g:∀ c∈[z,TI,TO,i1,i2],c≠B:=λc f=>I.sq_ne J (D c f);have G:∀ c∈[z,TI,TO,i1,i2],c≠O:=λc f=>I.sq_ne q2 (D c f);have S:Sep z TI TO i1 i2 [i1,B] [i2,O]:=⟨nd,by simp[Y,g z (by simp)],by simp[O1,g TO (by simp)],by simp[Ne.symm m,g i2 (by simp)],by simp[W,G z (by simp)],by simp[O2,G TO (by simp)],by simp[m,G i1 (by simp)]⟩;have hd:=I.ok.hd M;have D1:=draws (prog:=X.prog) (w:=X.w) (A:=X.A.in1) hd V i1 B Q.toArray (C.ne n);have D2:=draws (prog:=X.prog) (w:=X.w) (A:=X.A.in1) hd b2 i2 O u2.toArray (p2.ne u);obtain⟨oz,N,cz,dz⟩:=p.obj;have j:s.TypeIs (.ref z) "zip":=⟨oz,N,cz⟩;unfold pyNext
  refine J0 (Ze (wpAny_callSpecial?_slot (name:="__next__") j YU (Y1 YU j Wg (i4 S D1 D2 p r F ⟨n,C⟩ ⟨u,p2⟩ (by simpa using (Ja.mp e1).1) (by simpa using (Ja.mp e2).1)
   λw1 w2 h' tk ak ab zh ⟨oa,ob,Oh⟩ d1 d2 new U=>J9 ?_) (Wa _))))
  obtain rfl:v1=w1:=Jq (e1.symm.trans (by simpa using ak));obtain rfl:v2=w2:=Jq (e2.symm.trans (by simpa using ab));refine⟨_,rfl,J9 ?_⟩;have nz:s.heap.objs.size≠z:=JT (Jd N)
  have ax:∀ c∈[z,TI,TO,i1,i2],c≠s.heap.objs.size:=λc f=>by
   simp only[Jf,Y5,Jg]at f;rcases f with rfl|rfl|rfl|rfl|rfl
   ·exact JD (Jd N)
   ·exact JD (Jd r)
   ·exact JD (Jd F)
   ·exact JD (Jd n)
   ·exact JD (Jd u)
  refine⟨.ref s.heap.objs.size,_,I.spunN (fp:=[z,TI,TO,i1,i2]) (λc o f q=>?_) D (Je _) (uB new rx ry),rfl,⟨x,y,λl hl=>by rw[I.sq_inj hl J];exact R,λl hl=>by rw[I.sq_inj hl q2];exact hy,_,I.fresh,rfl,rfl⟩,
   ⟨zh,U TI _ (by simp[Ne.symm zI,IO,I1,I2]) r,⟨_,_,Oh⟩,d1.1,d2.1⟩,λc f=>by rw[zG (ax c f),(D c f).1]⟩
  simp only[Jf,Jg,Y5,Zs]at f;exact U c o (by simp[f]) q
 done:=by
  intro X hP hw hK M i pins s σ H E I D ⟨p,r,⟨a,b,F⟩,n,u⟩ ⟨xs,J,R⟩;subst hP hw hK;obtain⟨Q,Z,C⟩:=I.sq J;have k:=nd;simp only[JJ,Jf,Jg,Y5,Zs]at k;obtain⟨⟨zI,zO,Y,W⟩,⟨IO,I1,I2⟩,⟨O1,O2⟩,m,_⟩:=k;have g:∀ c∈[z,TI,TO,i1,i2],c≠B:=λc f=>I.sq_ne J (D c f);have S:Sep z TI TO i1 i2 [i1,B] [i2]:=⟨nd,by simp[Y,g z (by simp)],by simp[O1,g TO (by simp)],by simp[Ne.symm m,g i2 (by simp)],by simp[W],by simp[O2],by simp[m]⟩;have ao:i=Q.toArray.size:=by rw[Jj,<- Z.length,R]
  obtain⟨oz,N,cz,dz⟩:=p.obj;have j:s.TypeIs (.ref z) "zip":=⟨oz,N,cz⟩;unfold pyNext
  refine J0 (Ze (wpAny_callSpecial?_slot (name:="__next__") j YU (Y1 YU j Wg
   (iu S (draws (prog:=X.prog) (w:=X.w) (A:=X.A.in1) (I.ok.hd M) V i1 B Q.toArray (C.ne n)) p r ⟨by rw[<- ao];exact n,C⟩ λh' x U ⟨o,eo,co⟩=>?_) (Wa _))))
  refine J0 (Zx (T:="StopIteration") (b:=true) ⟨o,eo,co⟩ isSubtype_stop (J9 ⟨rfl,I.spun (t':=s.toks) (fp:=[z,TI,TO,i1,i2]) (λc o f q=>U c o ?_ q) D⟩));simp only[Jf,Jg,Y5,Zs]at f ⊢;exact⟨f.1,f.2.2.1,f.2.2.2.1,f.2.2.2.2⟩
 self:=λ_ _ _ _ _ st h=>eQ st.1 h
theorem za1 {X:Cx}{a b:Expr}{t:TA}{p pos L:Pos}{C:Str}(j i:Bool) (P:Gl X "zip") (hm:X.mg "zip" = none) (ha:PA X [a,b] t) (N:starEach [a,b] X.env=[(false,eval a X.env),(false,eval b X.env)]:=by rfl) (e:starEach [b] X.env=[(false,eval b X.env)]:=by rfl) :
  PI X (.Name C L) (.Call (.Name "zip" p) [a,b] [] pos) (zeD X.K j i t):=by
 intro pins s σ H R I h;refine Call_ (xW I P hm (u:=.type "zip") (by rfl) (Yt (thn (ha pos pins s σ H _ I h) λus D ⟨Z,V,d,J,K⟩=>?_) (by rw[N,e]) (by rw[e];rfl)));obtain⟨B,A,Y,W,rfl,r,o,q⟩:=K;obtain⟨u,v,rfl,G,E⟩:=J.two;cases G;cases E;obtain⟨n,_,l⟩:=d.sq r;obtain⟨m,_,k⟩:=d.sq o;refine callType_new F.called_zip (by decide) (F.typeCall_zip_2 _ _) (F.newCall_zip_2 _ _) (λobj=>F.args_object_init_3 obj _ _) F.entry_zip_new (oC j i B A n.toArray m.toArray) ⟨l,k,λh' z ⟨TI,TO,x,w,M,f,g,S,Q,U,T⟩ O=>⟨⟨_,g,rfl⟩,?_⟩⟩;exact wpAny_pyIter_zip g ⟨_,[z,TI,TO,x,w],_,_,V,rfl,d.kept (t':=D.toks) O,i9 j i B A z TI TO x w M,⟨.inl g,S,⟨_,_,Q⟩,U,T⟩,λc y=>d.fpOk (f c y) (d.hok.fresh (f c y)),q⟩
end L2
namespace Bn
open PySem L2 Own
def pw (e:Nat):Int:=((2 ^ e:Nat):Int)
def more (cs xs:List Int)(k:Int):List Int:=(List.range cs.length).map λi=>cs.getD i 0+k*xs.getD i 0
theorem xj (cs xs:List Int)(k:Int):(more cs xs k).length=cs.length:=by simp[more]
theorem xg {cs xs:List Int}{k:Int}{i:Nat}(h:i<cs.length):(more cs xs k).getD i 0=cs.getD i 0+k*xs.getD i 0:=by
 rw[J8,J6 (by rw[xj];exact h)];simp[more]
theorem zag {xs ys:List Int}(b:xs.length=ys.length)(h:∀ i,i<xs.length->xs.getD i 0=ys.getD i 0):xs=ys:=by
 refine Zw b λi a c=>?_;have:=h i a
 rwa [J8,J8,J6 a,J6 c]at this
theorem fg {n:Nat}{cs xs ts us:List Int}{k:Int}{f:Nat × Nat}(o:f.1<n)(m:f.2<n)(lc:cs.length=n)(e:xs.length=n)(ev:(2:Int) ∣ xs.getD f.1 0+xs.getD f.2 0) :
  zi (more cs xs k,ts) f=(more (zi (cs,ts) f).1 (zi (xs,us) f).1 k,(zi (cs,ts) f).2):=by
 obtain⟨q,g⟩:=ev;have j:=xg (cs:=cs) (xs:=xs) (k:=k) (i:=f.1) (by simp_all);have h:=xg (cs:=cs) (xs:=xs) (k:=k) (i:=f.2) (by simp_all)
 have sum:cs.getD f.1 0+k*xs.getD f.1 0+(cs.getD f.2 0+k*xs.getD f.2 0)=cs.getD f.1 0+cs.getD f.2 0+2*(k*q):=by
  have:k*xs.getD f.1 0+k*xs.getD f.2 0=2*(k*q):=by rw[<- Int.mul_add,g,Int.mul_left_comm]
  lia
 refine Prod.ext ?_ ?_
 ·refine zag (by simp[zi,xj]) λi hi=>?_
  have a:i<n:=by simpa [zi,xj,lc] using hi
  rw[xg (by simp[zi,lc,a])];show (((more cs xs k).set f.1 _).set f.2 _).getD i 0=((cs.set f.1 _).set f.2 _).getD i 0+k*((xs.set f.1 _).set f.2 _).getD i 0;rw[yY (by simp[xj,lc,a]),yY (by simp[xj,lc,a]),yY (by simp[lc,a]),yY (by rw[lc];exact a),yY (by simp[e,a]),yY (by rw[e];exact a)];simp only[j,h,sum,g];have l:(2*q) / 2=q:=by simp_all
  have b:(2*q+1) / 2=q:=by lia
  by_cases c:f.2=i
  ·simp only[Jh c,l];lia
  ·simp only[Jc c]
   by_cases d:f.1=i
   ·simp only[Jh d,b];lia
   ·simp only[Jc d];exact xg (by simp_all)
 ·show ts++[_]=ts++[_]
  simp only[j,h,sum]
  congr 2;simp_all
def jq:Nat->List Nat->List Fk
 | 0,_=>[]
 | m+1,row=>if row.length<2 then [] else (row.take (row.length / 2)).zip row.reverse++jq m (row.take (row.length / 2))++jq m (row.drop (row.length / 2))
def zaW (k:Nat):Nt:=⟨2 ^ k,(List.replicate k (jq k (List.range (2 ^ k)))).flatten,List.range (2 ^ k)⟩
theorem j8 {H:Hp}{ts:List V}{a b:List Nat}(z:Zip2 H ts (yG a) (yG b))(o:a.length<=b.length):Prs H ts (a.zip b):=by
 have j:=z.1;rw[yH]at j
 have all:∀ (i:Nat) t,ts[i]?=some t->IsFk H t ((a.zip b).getD i (0,0)):=λi t l=>by
  obtain⟨c,x,y,rfl,d,f,m⟩:=z.2 i t l;unfold yG at d f;rw[JC]at d f;obtain⟨h,ex,rfl⟩:=Y7.mp d;obtain⟨g,n,rfl⟩:=Y7.mp f;have both:(a.zip b)[i]?=some (h,g):=YK.mpr ⟨ex,n⟩;rw[J8,both];exact⟨c,rfl,m⟩
 have mp:ts.map (nN H)=a.zip b:=by
  refine List.ext_getElem? λi=>?_;rw[JC]
  cases e:ts[i]? with
  | none =>
   have k:=YL.mp e
   exact(YL.mpr (by rw[Wr];simp_all)).symm
  | some t =>
   have k:=(Ja.mp e).1;rw[Option.map_some,(all i t e).dec,J8,J6 (by rw[Wr];simp_all)];rfl
 rw[<- mp];refine bW λx d=>?_;obtain⟨i,hi⟩:=Z2.mp d;rw[(all i x hi).dec];exact all i x hi
end Bn
namespace L2
open PySem PySem.Spec PyProof.Rows Own
theorem zbw {K:Jl}{j h:Bool}{n k:JI}{xs ys:List V}(O:xs.length=ys.length){g D:TG}{f:TI}{tt:TT}{A:TE}{l:JI}{σ:St}{H:Hp}{Q:VK}(b:Nat->List V->St->Hp->Prop)(L:b 0 [] σ H)(I:∀ i acc σ H,b i acc σ H->H l=some (.lst acc)/\SqB j K H n xs/\SqB h K H k ys)(F:∀ i acc σ H x y T,xs[i]?=some x->ys[i]?=some y->H T=none->b i acc σ H->g (.ref T) σ (upd H T (.tup [x,y])) λa u=>f a u λs t =>
   ∃ c:Nat->Nat->List V->St->Hp->Prop,(∃ r,c 0 r acc a t)/\LCW1 s D tt A l (λac o G=>Nx xs.length i (b (i+1) ac o G)) c)(hd:∀ acc σ H,b xs.length acc σ H->Q (.ref l) H):∃ W:Nat->Nat->List V->St->Hp->Prop,(∃ m,W 0 m [] σ H) /\
   ∀ i m acc d H',W i m acc d H'->H' l=some (.lst acc)/\(((Itz K j h n k).stop i H'/\Q (.ref l) H')\/((Itz K j h n k).go i H'/\∀ x w,(Itz K j h n k).yld i H' x w->g x d w λa u=>f a u λs t =>
    ∃ c:Nat->Nat->List V->St->Hp->Prop,(∃ r,c 0 r acc a t)/\LCW1 s D tt A l (λac o G=>∃ C,C<m/\W (i+1) C ac o G) c)):=by
 refine⟨λi m acc σ H=>m=xs.length-i/\i<=xs.length/\b i acc σ H,⟨xs.length,by simp,JN _,L⟩,?_⟩;rintro i m acc σ H ⟨rfl,hi,p⟩;obtain⟨E,q,B⟩:=I i acc σ H p;refine⟨E,?_⟩;by_cases z:i<xs.length
 ·refine .inr ⟨⟨xs,ys,_,_,q,B,J6 z,J6 (by simp_all)⟩,λv w ⟨x,y,ex,M,T,J,N,e2⟩=>?_⟩
  subst N e2;exact F i acc σ H x y T (ex xs q) (M ys B) J p
 ·have e:i=xs.length:=by lia
  subst e;exact .inl ⟨⟨xs,q,rfl⟩,hd acc σ H p⟩
theorem iK {K:Jl}{a:JI}{zs:List V}{g:TG}{h:TE}{l:JI}{ac:List V}{σ:St}{H:Hp}{Q:List V->St->Hp->Prop}(b:Nat->List V->St->Hp->Prop)(q:b 0 ac σ H)(o:∀ i acc σ H,b i acc σ H->H l=some (.lst acc)/\SqT K H a zs)(n:∀ i x acc σ H,zs[i]?=some x->b i acc σ H->g x σ H λc r=>h c r λy j=>j l=some (.lst acc)/\acc.length<sizeLine/\Nx zs.length i (b (i+1) (acc++[y]) c (upd j l (.lst (acc++[y])))))(hd:∀ acc σ H,b zs.length acc σ H->Q acc σ H):∃ W:Nat->Nat->List V->St->Hp->Prop,(∃ m,W 0 m ac σ H)/\LCW1 (Itt K a) g gG h l Q W:=by
 refine⟨λi m acc σ H=>m=zs.length-i/\i<=zs.length/\b i acc σ H,⟨_,rfl,JN _,q⟩,?_⟩;rintro i m acc σ H ⟨rfl,hi,p⟩;obtain⟨k,d⟩:=o i acc σ H p;refine⟨k,?_⟩;by_cases f:i<zs.length
 ·refine .inr ⟨⟨zs,zs[i],d,J6 f⟩,λx s ⟨e,y⟩=>?_⟩
  subst e;exact n i x acc σ _ (y zs d) p
 ·obtain rfl:i=zs.length:=by lia
  exact .inl ⟨⟨zs,d,Je _⟩,hd acc σ H p⟩
def yU {α:Type}(xs ys:List α):List α:=(xs.zip ys).flatMap λp=>[p.1,p.2]
theorem vP {α:Type}:∀ (xs ys:List α),xs.length=ys.length->(yU xs ys).length=2*xs.length
 | [],[],_=>rfl
 | x::xs,y::ys,h=>by
  have h':xs.length=ys.length:=by simpa using h
  have:=vP xs ys h';show (yU xs ys).length+2=2*(xs.length+1);rw[this];lia
theorem lU {α β:Type}(f:α->β)(xs ys:List α):yU (xs.map f) (ys.map f)=(yU xs ys).map f:=by
 induction xs generalizing ys with
 | nil=>rfl
 | cons x xs ih =>
  cases ys with
  | nil=>rfl
  | cons y ys =>
   show f x::f y::yU (xs.map f) (ys.map f)=f x::f y::(yU xs ys).map f;rw[ih ys]
theorem xn {α β:Type}{f g:α->Option β}:∀ (l:List α),(∀ x∈l,f x=g x)->l.filterMap f=l.filterMap g
 | [],_=>rfl
 | x::l,h=>by
  have e:=xn l λy a=>h y (Jw _ a);simp only[ZQ,h x Jz,e]
def by2 {α:Type}(off:Nat)(xs:List α):List α:=(List.range ((xs.length+1-off) / 2)).filterMap λk=>xs[off+2*k]?
theorem nS {α:Type}(off:Nat)(a:off<=1)(xs:List α):(by2 off xs).length=(xs.length+1-off) / 2:=by
 unfold by2
 have e:(List.range ((xs.length+1-off) / 2)).filterMap (λk=>xs[off+2*k]?)=(List.range ((xs.length+1-off) / 2)).pmap (λk (h:k<(xs.length+1-off) / 2)=>xs[off+2*k]'(by omega)) (λk h=>Y2.mp h):=by
  rw[List.pmap_eq_map_attach,<- List.filterMap_eq_map]
  conv=>lhs;rw[<- List.attach_map_subtype_val (List.range ((xs.length+1-off) / 2)),Zg]
  refine xn _ λk b=>?_;have:=Y2.mp k.2;show xs[off+2*k.1]?=some _;rw[J6 (by omega)]
 rw[e,List.length_pmap,Y0]
theorem uM {α β:Type}(f:α->β)(off:Nat)(xs:List α):by2 off (xs.map f)=(by2 off xs).map f:=by
 unfold by2;rw[Jb,List.map_filterMap];refine xn _ λk _=>?_;rw[JC]
theorem i5 {xs:List V}{us:List Jo}(r:Vals xs us)(a:List Nat):Vals (a.filterMap λk=>xs[k]?) (a.filterMap λk=>us[k]?):=by
 induction a with
 | nil=>exact .nil
 | cons i a ih =>
  cases e:xs[i]? with
  | none =>
   have e2:us[i]?=none:=YL.mpr (by rw[<- r.length];exact YL.mp e)
   rw[List.filterMap_cons_none e,List.filterMap_cons_none e2];exact ih
  | some x =>
   obtain⟨u,e2,b⟩:=r.get e;rw[List.filterMap_cons_some e,List.filterMap_cons_some e2];exact .cons b ih
theorem bb (items:Array Jo):slicePick items none none (some 2)=((List.range ((items.size+1) / 2)).filterMap λk=>items.toList[2*k]?).toArray:=by
 have b:sliceBounds none none (some 2) items.size=(0,(items.size:Int),2):=rfl
 have c:sliceRange 0 (items.size:Int) 2=(List.range ((items.size+1) / 2)).map λk=>2*k:=by
  unfold sliceRange;have a:(2:Int) > 0:=by decide
  by_cases h:(0:Int)<items.size
  ·have e:(((items.size:Int)-0+2-1) / 2).toNat=(items.size+1) / 2:=by lia
   simp only[a,Z6,h,e];apply Yu;intro k _;lia
  ·have e:items.size=0:=by simp_all
   rw[e];rfl
 unfold slicePick;rw[b];show ((sliceRange 0 (items.size:Int) 2).filterMap (items[·]?)).toArray=_;rw[c,Zg];refine JP List.toArray (xn _ λk _=>?_);simp
theorem gc (items:Array Jo):slicePick items (some 1) none (some 2)=((List.range (items.size / 2)).filterMap λk=>items.toList[1+2*k]?).toArray:=by
 have b:sliceBounds (some 1) none (some 2) items.size=(max 0 (min 1 (items.size:Int)),(items.size:Int),2):=rfl
 have c:sliceRange (max 0 (min 1 (items.size:Int))) (items.size:Int) 2=(List.range (items.size / 2)).map λk=>1+2*k:=by
  unfold sliceRange;have a:(2:Int) > 0:=by decide
  by_cases h:(1:Int)<items.size
  ·have m:max 0 (min 1 (items.size:Int))=1:=by lia
   rw[m];have e:(((items.size:Int)-1+2-1) / 2).toNat=items.size / 2:=by lia
   simp only[a,Z6,h,e];apply Yu;intro k _;lia
  ·have e:items.size=0\/items.size=1:=by lia
   rcases e with e|e<;>rw[e]<;>rfl
 unfold slicePick;rw[b];show ((sliceRange (max 0 (min 1 (items.size:Int))) (items.size:Int) 2).filterMap (items[·]?)).toArray=_;rw[c,Zg];refine JP List.toArray (xn _ λk _=>?_);simp
def zd5 (K:Jl)(e:TE)(d ts:TO):TE:=λσ H Q=>e σ H λx g=>d σ g λlo f=>ts σ f λo b=>o=some 2/\∃ off a c,((lo=none/\off=0)\/(lo=some 1/\off=1))/\x=.ref a/\SqL K b a c/\∀ p,b p=none->Q (.ref p) (upd b p (.lst (by2 off c)))
theorem o8 {X:Cx}{e st:Expr}{lo:Option Expr}{p:TE}{n ts:TO}{t pos:Pos}(L:PE X e p)(K:PO X lo n)(G:PO X (some st) ts):PE X (.Subscript e (.Slice lo none (some st) t) pos) (zd5 X.K p n ts):=by
 intro pins s σ H Q I h;refine Subscript_ (thn (L pins s σ H _ I h) λv y ⟨x,R,N,A,C⟩=>wpAny_Slice (thn (K pins y σ R _ N C) λm z ⟨ol,S,O,E,D⟩=>?_));rw[evalPart_none];refine J9 (thn (G pins z σ S _ O D) λg d ⟨o,P,M,po,B⟩=>?_);obtain⟨rfl,off,a,l,f,rfl,J,k⟩:=B;cases A;have i:Inv X pins σ P { d with heap:=d.heap.push { cls:=.type "slice",data:=.fields #[m,.none,g] } }:=M.kept (t':=d.toks) λb ob q=>J7 _ q;obtain⟨c,r,u,T⟩:=i.list J;have hlen:=r.length;show wpAny (model X.prog X.w) X.A (subscriptTail e (.Slice lo none (some st) t) (.ref a) (.ref d.heap.objs.size)) (EP X pins σ Q) X.xe { d with heap:=d.heap.push { cls:=.type "slice",data:=.fields #[m,.none,g] } };refine tail_any (ops:=[.ref a,.ref d.heap.objs.size]) u.isList.typeIs slot_list_getitem.lookup (wpAny_getItem_list_slice u.isList (Heap.IsSliceOf.new ..) E .none po (by simp) ?_ (by rw[Jj]<;>simp_all)) (by with_unfolding_all rfl)
 have F:slicePick c.toArray ol none (some 2)=((List.range ((c.length+1-off) / 2)).filterMap λk=>c[off+2*k]?).toArray:=by
  rcases f with ⟨rfl,rfl⟩|⟨rfl,rfl⟩
  ·rw[bb];simp only[Jj,Nat.sub_zero,Zr]
  ·rw[gc];simp only[Jj,Nat.add_sub_cancel]
 rw[F];have j:off<=1:=by rcases f with ⟨_,rfl⟩|⟨_,rfl⟩<;>decide
 have w:Vals (by2 off l) ((List.range ((c.length+1-off) / 2)).filterMap λk=>c[off+2*k]?):=by
  have:=i5 r ((List.range ((c.length+1-off) / 2)).map λk=>off+2*k);rw[Zg,Zg]at this;unfold by2;rw[hlen];exact this
 refine⟨.ref _,_,i.laid (t':=d.toks) (o:=.lst (by2 off l)) (λb ob q=>J7 _ q) (Je _) ⟨by rw[nS off j];omega,_,0,w,?_⟩,rfl,k _ (i.hok.fresh (Je _))⟩;exact Jt _ rfl
theorem ai {K:Jl}{a:JI}{xs:List V}{g w:TG}{h:TI}{tt:TT}{u:TE}{l:JI}{σ:St}{H:Hp}{Q:VK}(c:Nat->List V->St->Hp->Prop)(C:c 0 [] σ H)(B:∀ i acc σ H,c i acc σ H->H l=some (.lst acc)/\SqL K H a xs)(A:∀ i acc σ H x,xs[i]?=some x->c i acc σ H->g x σ H λb r=>h b r λo q =>
   ∃ d:Nat->Nat->List V->St->Hp->Prop,(∃ n,d 0 n acc b q)/\LCW1 o w tt u l (λac j G=>Nx xs.length i (c (i+1) ac j G)) d)(hd:∀ acc σ H,c xs.length acc σ H->Q (.ref l) H):∃ W:Nat->Nat->List V->St->Hp->Prop,(∃ m,W 0 m [] σ H) /\
   ∀ i m acc f H',W i m acc f H'->H' l=some (.lst acc)/\(((Itl K a).stop i H'/\Q (.ref l) H')\/((Itl K a).go i H'/\∀ x s,(Itl K a).yld i H' x s->g x f s λb r=>h b r λo q =>
    ∃ d:Nat->Nat->List V->St->Hp->Prop,(∃ n,d 0 n acc b q)/\LCW1 o w tt u l (λac j G=>∃ v,v<m/\W (i+1) v ac j G) d)):=by
 refine⟨λi m acc σ H=>m=xs.length-i/\i<=xs.length/\c i acc σ H,⟨xs.length,by simp,JN _,C⟩,?_⟩;rintro i m acc σ H ⟨rfl,hi,p⟩;obtain⟨z,k⟩:=B i acc σ H p;refine⟨z,?_⟩;by_cases t:i<xs.length
 ·refine .inr ⟨⟨xs,xs[i],k,J6 t⟩,λx s ⟨e,y⟩=>?_⟩
  subst e;exact A i acc σ _ x (y xs k) p
 ·obtain rfl:i=xs.length:=by lia
  exact .inl ⟨⟨xs,k,Je _⟩,hd acc σ H p⟩
end L2
namespace L2
open PySem PySem.Spec PyProof.Rows Own Bn
def tJ (ts:List Int):Int:=ts.foldl (λa t=>2*a+t) 0
def uy (a:Int)(xs:List Int):Int:=xs.foldl (λa x=>1000*a+x) a
def Bits (ts:List Int):Prop:=∀ t∈ts,t=0\/t=1
def Small (xs:List Int):Prop:=∀ x∈xs,0<=x/\x<1000
theorem dg {a b c d m:Int}(e:0<m)(j:0<=c)(i:c<m)(g:0<=d)(f:d<m):compare (m*a+c) (m*b+d)=(compare a b).then (compare c d):=by
 rcases Wb a b with h|h|h
 ·have:m*a+c<m*b+d:=by
   have:=Int.mul_le_mul_of_nonneg_left (show a+1<=b by lia) (Int.le_of_lt e);rw[Int.mul_add,Int.mul_one]at this;lia
  rw[Za.mpr this,Za.mpr h];rfl
 ·subst h
  rw[ZL.mpr (rfl:a=a)];show _=compare c d;rcases Wb c d with z|z|z
  ·rw[Za.mpr z,Za.mpr (by simp_all)]
  ·rw[z]
   rw[ZL.mpr (rfl:d=d),ZL.mpr rfl]
  ·rw[Zb.mpr z,Zb.mpr (by simp_all)]
 ·have:m*b+d<m*a+c:=by
   have:=Int.mul_le_mul_of_nonneg_left (show b+1<=a by lia) (Int.le_of_lt e);rw[Int.mul_add,Int.mul_one]at this;lia
  rw[Zb.mpr this,Zb.mpr h];rfl
theorem qJ {m:Int}(d:0<m):∀ {x y:List Int}{a b:Int},x.length=y.length->(∀ t∈x,0<=t/\t<m)->(∀ t∈y,0<=t/\t<m)->compare (x.foldl (λa t=>m*a+t) a) (y.foldl (λa t=>m*a+t) b)=(compare a b).then (cmpR x y)
 | [],[],a,b,_,_,_=>by
  show compare a b=(compare a b).then .eq
  cases compare a b<;>rfl
 | s::x,t::y,a,b,l,f,e=>by
  have h:=f s (.head _);have g:=e t (.head _);show compare (x.foldl _ (m*a+s)) (y.foldl _ (m*b+t))=(compare a b).then ((compare s t).then (cmpR x y));rw[qJ d (by simpa using l) (λu c=>f u (.tail _ c)) λu c=>e u (.tail _ c),dg d h.1 h.2 g.1 g.2];cases compare a b<;>rfl
theorem ii {x:List Int}(h:Bits x):∀ t∈x,0<=t/\t<2:=λt a=>by rcases h t a with e|e<;>simp_all
theorem zas {x y:List Int}(l:x.length=y.length)(b:Bits x)(a:Bits y):compare (tJ x) (tJ y)=cmpR x y:=by
 unfold tJ;rw[qJ (by decide) l (ii b) (ii a)];rfl
theorem zaq {a b:Int}{x y:List Int}(l:x.length=y.length)(d:Small x)(c:Small y):compare (uy a x) (uy b y)=(compare a b).then (cmpR x y):=qJ (by decide) l d c
def stK (ts is:List Int):KN:=.inr ts::is.map Sum.inl
structure StOk (F c:Nat) (k:KN):Prop where
 ex:∃ ts is,k=stK ts is/\ts.length=F/\Bits ts/\is.length=c/\Small is
def uK:KN->Int
 | .inr ts::r=>uy (tJ ts) (r.map λx=>match x with|.inl i=>i|.inr _=>0)
 | _=>0
theorem nO (ts is:List Int):uK (stK ts is)=uy (tJ ts) is:=by
 unfold stK uK;show uy _ ((is.map Sum.inl).map _)=_;rw[YX]
 congr 1
 exact List.map_id is
def rkH (H:Hp):V->Int
 | .ref a=>match H a with
  | some (.tup (b::r))=>uy (tJ (gT H b)) (r.map pL)
  | _=>0
 | _=>0
theorem sO {H:Hp}{ts is:List Int}{b:JI}(h:NKey H (stK ts is) b):∃ t,H b=some (.tup (.ref t::is.map V.int))/\H t=some (.tup (ts.map V.int)):=by
 obtain⟨d,j,a⟩:=h;obtain⟨v,r,e,⟨t,c,f⟩,g⟩:=(show ∃ v r,d=v::r/\(∃ t,v=.ref t/\H t=some (.tup (ts.map V.int)))/\NIvs H (is.map Sum.inl) r from a)
 have key:∀ {is:List Int}{r:List V},NIvs H (is.map Sum.inl) r->r=is.map V.int:=by
  intro is
  induction is with
  | nil=>intro r h;exact h
  | cons i is ih =>
   intro r h;obtain⟨v,q,e,c,a⟩:=(show ∃ v q,r=v::q/\v=.int i/\NIvs H (is.map Sum.inl) q from h);rw[e,c,ih a];rfl
 exact⟨t,by rw[j,e,c,key g],f⟩
theorem io {H:Hp}{ts is:List Int}{b t:JI}(c:H b=some (.tup (.ref t::is.map V.int)))(a:H t=some (.tup (ts.map V.int))):NKey H (stK ts is) b:=by
 have key:∀ is:List Int,NIvs H (is.map Sum.inl) (is.map V.int):=by
  intro is
  induction is with
  | nil=>exact rfl
  | cons i is ih=>exact⟨_,_,rfl,rfl,ih⟩
 exact⟨_,c,⟨_,_,rfl,⟨t,rfl,a⟩,key is⟩⟩
theorem ow {H:Hp}{ts is:List Int}{b:JI}(h:NKey H (stK ts is) b):rkH H (.ref b)=uK (stK ts is):=by
 obtain⟨t,c,a⟩:=sO h
 show (match H b with
  | some (.tup (b::r))=>uy (tJ (gT H b)) (r.map pL)
  | _=>0)=_
 rw[c];show uy (tJ (gT H (.ref t))) ((is.map V.int).map pL)=_;rw[vq a,nO,YX]
 congr 1
 exact List.map_id is
theorem zdI {H:Hp}{F c:Nat}{x y:KN}{a b:JI}(r:StOk F c x)(o:StOk F c y)(ha:NKey H x a)(hb:NKey H y b):Lx H 2 (.ref a) (.ref b) (compare (rkH H (.ref a)) (rkH H (.ref b))):=by
 obtain⟨k,is,rfl,E,v,D,s⟩:=r.ex;obtain⟨j,h,rfl,I,z,G,w⟩:=o.ex;rw[ow ha,ow hb,nO,nO,zaq (by lia) s w,zas (by lia) v z];obtain⟨t,C,e2⟩:=sO ha;obtain⟨u,B,A⟩:=sO hb;have l:is.length=h.length:=by lia
 rw[show (cmpR k j).then (cmpR is h)=(cmpR k j::List.zipWith compare is h).foldr Ordering.then .eq by rw[List.foldr_cons,uk l]];refine .row C B (by rw[JL,JL,Jb,List.length_zipWith];simp_all) (by rw[JL,JL,Jb,List.length_zipWith];simp_all) λi p q d f e g=>?_
 cases i with
 | zero=>cases f;cases e;cases g;exact iG e2 A (by lia)
 | succ i =>
  rw[List.getElem?_cons_succ]at f e g;rw[JC]at f e;obtain⟨p,n,rfl⟩:=Y7.mp f;obtain⟨q,m,rfl⟩:=Y7.mp e;rw[List.getElem?_zipWith,n,m]at g;cases g;exact .int 1 p q
def KeysAt (H:Hp)(bs:List JI)(ks:List KN):Prop:=Paired (λb k=>NKey H k b) bs ks
theorem KeysAt.tups {H H':Hp}(t:Tups H H'){bs:List JI}{ks:List KN}(h:KeysAt H bs ks):KeysAt H' bs ks:=wm (λ_ _ z=>z.tups t) h
theorem KeysAt.mem {H:Hp}{bs:List JI}{ks:List KN}(h:KeysAt H bs ks):∀ b∈bs,∃ k∈ks,NKey H k b:=by
 induction h with
 | nil=>intro b a;cases a
 | cons q _ ih =>
  intro b a;rcases Jf.mp a with rfl|z
  ·exact⟨_,.head _,q⟩
  ·obtain⟨k,c,e⟩:=ih b z
   exact⟨k,.tail _ c,e⟩
theorem LvE.keys {H:Hp}{xs:KVN}{ps:LvL}(h:LvE H xs ps):KeysAt H (xs.map λp=>p.2.1) (ps.map (·.1)):=by
 obtain⟨b,pr⟩:=h
 induction pr with
 | nil=>exact .nil
 | @cons x p xs ps a t ih =>
  refine .cons ?_ (ih λy c=>b y (.tail _ c));show NKey H p.1 x.2.1;rw[<- a.1];exact b x (.head _)
theorem eK {H:Hp}{bs cs:List JI}(p:cs.Perm bs):∀ {ks:List KN},KeysAt H bs ks->∃ a,KeysAt H cs a/\a.Perm ks:=by
 induction p with
 | nil=>intro ks h;exact⟨ks,h,.refl _⟩
 | cons b _ ih =>
  intro ks h
  cases h with
  | cons q t =>
   obtain⟨a,e,d⟩:=ih t
   exact⟨_,.cons q e,d.cons _⟩
 | swap b c l =>
  intro ks h
  cases h with
  | cons q t=>cases t with
   | cons i t=>exact⟨_,.cons i (.cons q t),.swap _ _ _⟩
 | trans _ _ g f =>
  intro ks h;obtain⟨a,e,d⟩:=f h;obtain⟨is,k,j⟩:=g e;exact⟨is,k,j.trans d⟩
theorem mi {H:Hp}{F c:Nat}{bs:List JI}{ks:List KN}(h:KeysAt H bs ks)(ok:∀ k∈ks,StOk F c k)(s:(bs.map V.ref).Pairwise λx y=>rkH H x<=rkH H y):ks.Pairwise λx y=>uK x<=uK y:=by
 induction h with
 | nil=>exact .nil
 | @cons b k bs ks q t ih =>
  rw[JR,Z4]at s;refine Z4.mpr ⟨λj a=>?_,ih (λj a=>ok j (.tail _ a)) s.2⟩
  have back:∀ {bs:List JI}{ks:List KN},KeysAt H bs ks->∀ j∈ks,∃ b∈bs,NKey H j b:=by
   intro bs ks h
   induction h with
   | nil=>intro j a;cases a
   | cons q _ ih =>
    intro j a;rcases Jf.mp a with rfl|z
    ·exact⟨_,.head _,q⟩
    ·obtain⟨b,g,e⟩:=ih j z
     exact⟨b,.tail _ g,e⟩
  obtain⟨d,f,e⟩:=back t j a;have:=s.1 (.ref d) (Jx.mpr ⟨d,f,rfl⟩);obtain⟨l,is,rfl,_⟩:=(ok k (.head _)).ex;obtain⟨i,m,rfl,_⟩:=(ok j (.tail _ a)).ex
  rwa [ow q,ow e]at this
def BookOf (ks:List KN)(ls:List LvL):Prop:=∃ a:List (List KN),ks=a.flatten/\Paired (λb lv=>b.Perm (lv.map (·.1))/\b.Pairwise λx y=>uK x<=uK y) a ls
def bO (P:Yo)(w:YI):List V->Hp->VK->Prop:=λe H Q=>∃ a b d,e=[.ref a]/\H a=some (DN P w a b)/\b.length<=10000/\RkN H (b.map λp=>.ref p.2.1) d/\∀ (l:JI) (c:List V),H l=none->c.Perm (b.map λp=>.ref p.2.1)->c.Pairwise (λx y=>d x<=d y)->Q (.ref l) (upd H l (.lst c))
theorem qX {X:Cx}(b:X.calm=true)(a:X.A.units+64<cLine):CallR X (.builtin "sorted") (bO X.prog X.w):=nQ b a
theorem bL {H:Hp}{F c:Nat}{xs:KVN}{lv:LvL}(h:LvE H xs lv)(ok:∀ p∈lv,StOk F c p.1):RkN H (xs.map λp=>.ref p.2.1) (rkH H):=by
 refine⟨2,by decide,λx a=>?_⟩
 have at_:∀ x∈xs.map λp=>V.ref p.2.1,∃ b k,x=.ref b/\NKey H k b/\StOk F c k:=λx a=>by
  obtain⟨p,o,rfl⟩:=Jx.mp a;obtain⟨k,r,e⟩:=h.keys.mem p.2.1 (Jx.mpr ⟨p,o,rfl⟩);obtain⟨q,n,rfl⟩:=Jx.mp r;exact⟨_,_,rfl,e,ok q n⟩
 obtain⟨b,k,rfl,g,f⟩:=at_ x a;refine⟨?_,λy m=>?_⟩
 ·obtain⟨v,is,rfl,_⟩:=f.ex
  obtain⟨t,u,s⟩:=sO g;exact⟨b,t,_,_,rfl,u,s⟩
 ·obtain⟨d,j,rfl,l,i⟩:=at_ y m
  exact zdI f i g l
theorem aj {K:Jl}{a:JI}{zs:List V}{g:TG}{h:TE}{l:JI}{ac:List V}{σ:St}{H:Hp}{Q:List V->St->Hp->Prop}(b:Nat->List V->St->Hp->Prop)(q:b 0 ac σ H)(o:∀ i acc σ H,b i acc σ H->H l=some (.lst acc)/\SqL K H a zs)(n:∀ i x acc σ H,zs[i]?=some x->b i acc σ H->g x σ H λc r=>h c r λy j=>j l=some (.lst acc)/\acc.length<sizeLine/\Nx zs.length i (b (i+1) (acc++[y]) c (upd j l (.lst (acc++[y])))))(hd:∀ acc σ H,b zs.length acc σ H->Q acc σ H):∃ W:Nat->Nat->List V->St->Hp->Prop,(∃ m,W 0 m ac σ H)/\LCW1 (Itl K a) g gG h l Q W:=by
 refine⟨λi m acc σ H=>m=zs.length-i/\i<=zs.length/\b i acc σ H,⟨_,rfl,JN _,q⟩,λi m acc σ H ⟨em,hi,p⟩=>?_⟩;subst em;obtain⟨k,d⟩:=o i acc σ H p;refine⟨k,?_⟩;by_cases f:i<zs.length
 ·refine .inr ⟨⟨zs,zs[i],d,J6 f⟩,λx s ⟨e,y⟩=>?_⟩
  subst e;exact n i x acc σ _ (y zs d) p
 ·obtain rfl:i=zs.length:=by lia
  exact .inl ⟨⟨zs,d,Je _⟩,hd acc σ H p⟩
theorem LvE.len_le {H:Hp}{xs:KVN}{ps:LvL}(h:LvE H xs ps){n:Nat}(l:ps.length<=n):xs.length<=n:=by rw[h.len];exact l
theorem ku {α β:Type}{f:α->β}{ys l:List β}(p:ys.Perm l):∀ {zs:List α},l=zs.map f->∃ cs:List α,ys=cs.map f/\cs.Perm zs:=by
 induction p with
 | nil=>intro zs e;cases zs with
  | nil=>exact⟨[],rfl,.refl _⟩
  | cons a b=>cases e
 | cons b _ ih =>
  intro zs e
  cases zs with
  | nil=>cases e
  | cons a zs =>
   injection e with i e2;obtain⟨cs,h,g⟩:=ih e2
   exact⟨a::cs,by rw[h,i];rfl,g.cons _⟩
 | swap b c l =>
  intro zs e
  cases zs with
  | nil=>cases e
  | cons a zs=>cases zs with
   | nil=>cases e
   | cons d zs =>
    injection e with i e2;injection e2 with e2 o
    exact⟨d::a::zs,by rw[i,e2,o];rfl,.swap _ _ _⟩
 | trans _ _ k j =>
  intro zs e;obtain⟨cs,h,g⟩:=j e;obtain⟨ds,n,m⟩:=k h;exact⟨ds,n,m.trans g⟩
def cp (P:Yo)(w:YI)(F c:Nat):Sp:=λd H Q _=>∃ l as ls,d=[.ref l]/\H l=some (.lst (List.map V.ref as))/\LvsAt P w H as ls/\(∀ lv∈ls,lv.length<=10000/\∀ p∈lv,StOk F c p.1)/\(ls.map List.length).sum<=1000000 /\
 ∀ p bs b a,Same H a->a p=some (.tup (bs.map V.ref))->KeysAt a bs b->BookOf b ls->Q (.ref p) a
end L2
namespace L2
open PySem PySem.Spec PyProof.Rows Own
theorem eC {P:Yo}{w:YI}{K:Jl}{mg mb:Str->Option Jo}{CX:CXT}{k:Nat}{U a:JI}{fd:Yl}{x:Str}{sp:Sp}{f:JO}{vs:List Jo}{ns:List Int}(ts:List JI)
  (W:K.In f.heap) (J:f.heap.Ns mainGlobals mg) (hb:f.heap.Ns builtinsNs mb) (ab:∀ x:Str,x≠"__name__"->mb x=bootBuiltins x) (Q:f.heap.NoLimit) (hg:f.gens = #[])
  (ha:f.heap.get? a=some { cls:=.type "list",data:=.seq vs.toArray }) (hi:IntsAre vs ns) (hl:ns.length<=sizeLine) (hr:Room k callerA)
  (B:∀ p∈ts,f.heap.get? p=some (PySem.W.tabObj #[])/\K.lookup p=none/\∃ c,PySem.W.codeHdIn K c p=true)
  (Z:∃ bm ob,mg "__builtins__" = some (.ref bm)/\bm≠builtinsNs/\f.heap.get? bm=some ob/\ob.cls=.type "module"/\ob.dict=some builtinsNs/\ob.data=.plain)
  (F:∀ base:YP,K.In base->base.Ns mainGlobals mg->(∀ p∈ts,base.BuiltinsAt mg p)->FnOk P w K mg base CX k U fd [x] sp) (L:∀ (s:JO) (u:Jo),BindsTo s fd ⟨[u],[]⟩ [(x,u)])
  (Y:∀ H:Hp,SqL K H a (ns.map V.int)->(∀ p∈ts,H p=some (.tbl #[]))->sp [.ref a] H (λv _=>v=.bl true) λ_ _ _=>False)
  (ak:∀ H e i,CX [] H f (λ_ _ _=>False) e i->False) :
  codeAny (model P w) callerA (.call (.ref U) ⟨[.ref a],[]⟩) (λr i=>r=.ok (.ret (.bool true))/\OldK f.heap i.heap/\i.os=f.os/\AllBare i.gens) f:=by
 have rv:=qd hi;have O:=hi.length
 have aT:a∉ts:=λh=>by
  have:=(B a h).1;rw[ha]at this;cases this
 have core:∀ H:Hp,(∀ b,H b=none\/(b=a/\∃ o S,H b=some (.frz o (.lst S)))\/(b∈ts/\H b=some (.tbl #[])))->(∀ p∈ts,H p=some (.tbl #[]))->SqL K H a (ns.map V.int)->HOk P w H f.heap->(H a≠none->K.lookup a=none) ->
   codeAny (model P w) callerA (.call (.ref U) ⟨[.ref a],[]⟩) (λr i=>r=.ok (.ret (.bool true))/\OldK f.heap i.heap/\i.os=f.os/\AllBare i.gens) f:=by
  intro H R hT hS M hK;have g:∀ {b:JI}{o:Obj},f.heap.get? b=some o->H b=none->(qV f.heap H).get? b=some o:=λe n=>ay e n
  have X:∀ {b:JI}{o:Obj}{D:Array DictEntry}{E:Nat},f.heap.get? b=some o->o.data=.dict D E->H b=none:=λ{b o D E} e d=>by
   rcases R b with z|⟨z,_⟩|⟨z,_⟩
   ·exact z
   ·rw[z,ha]at e
    cases e;cases (show Data.seq vs.toArray _=Data.dict D E from d)
   ·rw[(B b z).1]at e
    cases e;cases (show Data.fields #[]=Data.dict D E from d)
  have l:∀ {b:JI}{m:Str->Option Jo},f.heap.Ns b m->(qV f.heap H).Ns b m:=λ{b m} ⟨o,D,E,e,d,r⟩=>⟨o,D,E,g e (X e d),d,r⟩
  have N:K.In (qV f.heap H):=λb o e=>g (W b o e) (by
   rcases R b with z|⟨z,y⟩|⟨z,_⟩
   ·exact z
   ·obtain⟨o',S,q⟩:=y
    rw[z]at e q;rw[hK (by rw[q];simp)]at e;cases e
   ·rw[(B b z).2.1]at e;cases e)
  have hM:Mod K mg (qV f.heap H):=⟨N,l J,⟨mb,l hb,ab⟩,let ⟨mc,h1,h2⟩:=Q;⟨mc,l h1,h2⟩⟩;have e0:Env0 P w K mg (qV f.heap H) callerA [] f H:=⟨rfl,hM,λb o e=>zbj e,Nat.le_of_eq (eX _ _),trivial,λb hb=>absurd (show b∈([]:List JI) from hb) (by simp),M,.of_eq hg⟩
  have hB:∀ p∈ts,(qV f.heap H).BuiltinsAt mg p:=λp C=>by
   obtain⟨bm,ob,b1,b2,I,b4,b5,t⟩:=Z;refine⟨bm,ob,b1,b2,λz=>?_,λz=>?_,g I ?_,b4,b5,t⟩
   ·obtain⟨og,D,E,e,d,_⟩:=J
    rw[<- z,I]at e;rw[<- Jq e,t]at d;cases d
   ·have e:=(B p C).1
    rw[<- z,I]at e;rw[Jq e]at t;cases t
   ·rcases R bm with z|⟨z,_⟩|⟨z,_⟩
    ·exact z
    ·rw[z,ha]at I
     rw[<- Jq I]at t;cases t
    ·rw[(B bm z).1]at I
     rw[<- Jq I]at t;cases t
  refine codeAny_mono ((F _ N (l J) hB).run callerA [] f H ⟨[.ref a],[]⟩ [.ref a] [.ref a] _ _ hr e0 (L f (.ref a)) (.cons rfl .nil) (Y H hS hT)) λr i h=>?_
  cases r with
  | error e=>exact(ak H e i h).elim
  | ok fl =>
   cases fl with
   | next=>exact False.elim h
   | brk=>exact False.elim h
   | cont=>exact False.elim h
   | ret u =>
    obtain⟨v,H',os,bare,un,A,r',q⟩:=h;have q':v=.bl true:=q;subst q';obtain rfl:u=Value.bool true:=r'
    have kept:∀ b o,f.heap.get? b=some o->b∉ts->i.heap.get? b=some o:=λb o e nb=>by
     rcases R b with z|⟨_,ob,S,z⟩|⟨z,_⟩
     ·exact un.keep b o e z (λy=>absurd (show b∈([]:List JI) from y) (by simp)) (by simp)
     ·have z2:=un.frzs b ob _ z
      obtain⟨e1,_⟩:=M b _ z;obtain⟨e2,_⟩:=A b _ z2;rw[e]at e1;cases e1;exact e2
     ·exact absurd z nb
    have tabs:∀ b∈ts,∃ more,i.heap.get? b=some (PySem.W.tabObj (#[]++more)):=λb hb=>by
     obtain⟨more,z⟩:=un.tbls b _ (hT b hb);exact⟨more,A b _ z⟩
    refine⟨rfl,⟨λb o e=>?_,λb o e=>un.there b o e (by simp)⟩,os,bare⟩;by_cases hb:b∈ts
    ·obtain⟨t1,_,c,t3⟩:=B b hb
     rw[t1]at e;cases e;obtain⟨o2,ws,_,_,_,_,_,_,_,g1,g2,g3,g4,_⟩:=PySem.W.codeHd_of_K W t3;obtain⟨more,z⟩:=tabs b hb;exact .inr (.inl ⟨⟨c,o2,ws,g1,g2,g3,g4⟩,rfl,#[],more,rfl,z⟩)
    ·exact .inl (kept b o e hb)
 have tab:∀ {H:Hp}{p:JI},p∈ts->ObjOk P w H f.heap p (.tbl #[]):=λC=>(B _ C).1
 cases T:K.lookup a with
 | some o =>
  have e:=W a o T;rw[ha]at e;cases e;refine core (λb=>if b∈ts then some (.tbl #[]) else none) (λb=>?_) (λp C=>Jh C) (.inr ⟨_,vs.toArray,_,T,rfl,rfl,rfl,by rw[Jj,O];exact hl,by simpa using rv⟩) (λb u z=>?_) λz=>absurd (Jc aT) z
  ·by_cases hb:b∈ts
   ·exact .inr (.inr ⟨hb,Jh hb⟩)
   ·exact .inl (Jc hb)
  ·by_cases hb:b∈ts
   ·have j:=(Jh hb).symm.trans z
    cases j;exact tab hb
   ·have j:=(Jc hb).symm.trans z
    cases j
 | none =>
  refine core (λb=>if b∈ts then some (.tbl #[]) else if b=a then some (.frz { cls:=.type "list",data:=.seq vs.toArray } (.lst (ns.map V.int))) else none) (λb=>?_) (λp C=>Jh C) (.inl (.inr ⟨{ cls:=.type "list",data:=.seq vs.toArray },(Jc aT).trans (Jh rfl)⟩)) (λb u z=>?_) λ_=>T
  ·by_cases hb:b∈ts
   ·exact .inr (.inr ⟨hb,Jh hb⟩)
   ·by_cases G:b=a
    ·exact .inr (.inl ⟨G,_,_,(Jc hb).trans (Jh G)⟩)
    ·exact .inl ((Jc hb).trans (Jc G))
  ·by_cases hb:b∈ts
   ·have j:=(Jh hb).symm.trans z
    cases j;exact tab hb
   ·by_cases G:b=a
    ·have j:=((Jc hb).trans (Jh G)).symm.trans z
     cases j;subst G;exact⟨ha,by rw[Jb];exact hl,vs,_,rv,ha⟩
    ·have j:=((Jc hb).trans (Jc G)).symm.trans z
     cases j
theorem cE {l:PySem.W.OpenLaw}{n k:Nat}{q:Yo}{loose:List Str}{R:(Str->Option Jo)->YP->Prop}{C:YI->YP->Prop}{d:DefRec}{K:Params->Jl}{CX:CXT}{sp:Jl->Sp}{x:Str}(ts:List JI)(hn:l.most=some n)(t:n<=sizeLine)(z:d.params.defaults=[])(J:Room k callerA)(N:∀ (w:YI) (h:YP),C w h->(K w.params).In h/\∀ p∈ts,h.get? p=some (PySem.W.tabObj #[]))(F:∀ (w:YI) (mg:Str->Option Jo) (i:JI) (h:YP),(K w.params).In h->h.Ns mainGlobals mg->mg d.name=some (.ref i)->(∀ p∈ts,(K w.params).lookup p=none/\∃ c,PySem.W.codeHdIn (K w.params) c p=true) /\
   ∃ fd:Yl,(∀ (s:JO) (u:Jo),BindsTo s fd ⟨[u],[]⟩ [(x,u)]) /\
    ∀ base:YP,(K w.params).In base->base.Ns mainGlobals mg->(∀ p∈ts,base.BuiltinsAt mg p)->FnOk l.prog w (K w.params) mg base CX k i fd [x] (sp (K w.params)))(r:∀ (K:Jl) (H:Hp) (a:JI) (ns:List Int),ns.length<=n->SqL K H a (ns.map V.int)->(∀ p∈ts,H p=some (.tbl #[]))->sp K [.ref a] H (λv _=>v=.bl true) λ_ _ _=>False)(A:∀ (H:Hp) (s:JO) (e:Jo) (j:JO),CX [] H s (λ_ _ _=>False) e j->False) :
  PySem.W.WalkO q loose R C l.row.toRowW d [] (λf vs=>PySem.call f vs):=by
 refine Att.attach_call hn z λw E b mg T i o pm cd doc a vs ns G Y U W S y g hints hlen L=>?_;obtain⟨D,I⟩:=N w _ Y;obtain⟨B,fd,M,Q⟩:=F w mg i _ D G.T.g y;exact eC ts D G.T.g G.T.b G.T.builtins G.T.nolimit L g hints (JS hlen t) J (λp m=>⟨I p m,(B p m).1,(B p m).2⟩) G.T.bmain Q M (λH P O=>r (K w.params) H a ns hlen P O) λH e j=>A H b e j
structure FunC (K:Jl) (x qual:Str) (st:Stmt) (f:JI) (fd:Yl) (c:JI):Prop where
 ex:∃ (oc:Jo) (od:Option JI) (kV doc pm:Jo) (an:Option JI) (ct:Jo) (osl:Array (Option Jo)),
  fd=PySem.W.fnOf x qual (xZ st) (yo st) (zN st) .none kV doc pm an (.ref c) ct/\K.lookup f=some ⟨oc,od,.func fd,osl⟩/\PySem.W.codeIn K (.ref c) qual=true
 kp:PySem.W.keepIn K (.ref f)=true
theorem FunC.ok {P:Yo}{w:YI}{K:Jl}{mg:Str->Option Jo}{base:YP}{x qual:Str}{st:Stmt}{f c:JI}{fd:Yl}{N ps:List Str}{k:Nat}{sp:Sp}(F:FunC K x qual st f fd c)(S:FnScope N ps (zN st))(len:∀ vs H Q E,sp vs H Q E->vs.length=ps.length)(a:∀ (A:YO) (outer:List Env) (s:JO) (H:Hp) (vs:List V) (Q:VK) (E:XK),Room k (A.deeper (envOfC qual (zN st) s.heap.objs.size f (.ref c)))->sp vs H Q E ->
   ∃ t,PSs (jh CX0 P w K mg base N qual (zN st) f (.ref c) A outer s H E).nox (yo st) t/\t { nx:=λ_ i=>Q .non i,rt:=Q } (wb N vs) H):FnOk P w K mg base CX0 (k+1) f fd ps sp:=by
 obtain⟨m,l,kV,doc,pm,an,n,j,rfl,e,d⟩:=F.ex;refine zb0 e d S len λA outer s H vs Q E g b=>?_;obtain⟨t,h,q⟩:=a A outer s H vs Q E g b;exact⟨t,h.nox,q⟩
end L2
namespace L2
open PySem PySem.Spec PyProof.Rows Own Bn
def xQ (N:Nt)(ts:List Int)(lane:Nat):List Int:=(yD false N.forks ts lane N.forks.length).1
def passE (N:Nt)(ts:List Int)(lane:Nat):Nat:=N.ends.idxOf (yD false N.forks ts lane N.forks.length).2
def wX (N:Nt):KN->Nat->Option KN
 | [.inr ts,.inl r],m=>if ((passE N ts m:Nat):Int)=r then some (stK (xQ N ts m) [(r+1)%(N.lanes:Nat)]) else none
 | _,_=>none
theorem qw (N:Nt)(ts:List Int)(lane:Nat):(xQ N ts lane).length=ts.length:=uX _
theorem rG {N:Nt}{ts:List Int}{lane:Nat}(h:Bits ts):Bits (xQ N ts lane):=vT h _
def TabQ (q:Str)(Pt:JI)(H:Hp):Prop:=∃ l,H Pt=some (.tbl (triples l).toArray)/\TabOk H q l
theorem TabQ.keep {q:Str}{Pt:JI}{H H':Hp}(t:TabQ q Pt H)(k:∀ b o,H b=some o->(∃ ps,o=.tbl ps)\/(∃ u v,o=.frz u v)->H' b=some o):TabQ q Pt H':=by
 obtain⟨l,c,a⟩:=t;exact⟨l,k _ _ c (.inl ⟨_,rfl⟩),a.frz λb o u e=>k _ _ e (.inr ⟨_,_,rfl⟩)⟩
theorem TabQ.same {q:Str}{Pt:JI}{H H':Hp}(t:TabQ q Pt H)(s:Same H H'):TabQ q Pt H':=t.keep λb o e _=>s b o e
theorem TabQ.but {q:Str}{Pt l:JI}{H H':Hp}{xs:List V}(t:TabQ q Pt H)(b:But l H H')(h:H l=some (.lst xs)):TabQ q Pt H':=t.keep λc o e z=>b c o e λy=>by
 rw[y,h]at e;cases e;rcases z with ⟨_,z⟩|⟨_,_,z⟩<;>cases z
def sW:Sp:=λb H Q _=>∃ r fr d c N,b=[.ref r]/\Nt.Ok N/\NetAt H r fr d c N/\∀ p a,Same H a->a p=some (.tup ((List.replicate N.forks.length (0:Int)).map V.int))->Q (.ref p) a
structure Whole (Ok:KN->Prop) (most:Nat) (ls:List LvL):Prop where
 ok:∀ lv∈ls,∀ p∈lv,Ok p.1
 few:(ls.map List.length).sum<=most
theorem wt {step:KN->Nat->Option KN}{Ok:KN->Prop}{moves:List Nat}{most:Nat}(g:∀ s m t,Ok s->m∈moves->step s m=some t->Ok t):∀ (m:Nat) (level seen:LvL) (ls a:List LvL),Whole Ok most ls->(ls.map List.length).sum=seen.length->seen.length<=most->(∀ p∈level,Ok p.1)->yd step moves most m level seen ls=.whl a->Whole Ok most a
 | 0,_,_,_,_,_,_,_,_,e=>by cases e
 | m+1,level,seen,ls,a,d,i,le,lo,e=>by
  by_cases c:level=[]
  ·subst c;rw[vF]at e;cases e;exact d
  by_cases h:most<seen.length+level.length
  ·rw[um c h]at e;cases e
  by_cases f:(xE step (seen++level) moves level).fl=[]
  ·rw[uL c h f]at e
   have e2:((ls++[level]).map List.length).sum=(seen++level).length:=by rw[JE,List.sum_append,i,Jn];rfl
   refine wt g m _ (seen++level) _ a ⟨λlv j p b=>?_,?_⟩ e2 (by rw[Jn];simp_all) (λp b=>?_) e
   ·rcases Js.mp j with z|z
    ·exact d.ok lv z p b
    ·rw[Jm.mp z]at b;exact lo p b
   ·rw[e2,Jn];simp_all
   ·exact(tV (step:=step) (seen:=seen++level) (moves:=moves) (Ok:=Ok) level λp b k l t e=>g _ _ _ (lo p b) l e).ok p b
  ·rw[uo c h f]at e;cases e
theorem TellR.kept {P:Yo}{w:YI}{H H':Hp}{p:JI}{R:LRes}(h:TellR P w H p R)(k:∀ b o,H b=some o->(∀ q,o≠FZ q)->H' b=some o):TellR P w H' p R:=by
 have t:Tups H H':=λb f e=>k b _ e λq z=>by cases z
 cases R with
 | opn=>exact t _ _ h
 | brk c=>obtain⟨b,d,a⟩:=h;exact⟨b,t _ _ d,t _ _ a⟩
 | whl ls =>
  obtain⟨l,as,d,a,g⟩:=h;refine⟨l,as,t _ _ d,k _ _ a (λq z=>by cases z),?_⟩;clear d a
  induction g with
  | nil=>exact .nil
  | cons q _ ih =>
   obtain⟨f,e,le⟩:=q;exact .cons ⟨f,k _ _ e (λq z=>by cases z),le.tups t⟩ ih
theorem lu {cs:List (Str × JI)}{H:Hp}(fz:CellsFz cs H):∀ b o,H b=some o->(∀ q,o≠FZ q)->strip cs H b=some o:=λb o e n=>by
 rw[zw];· exact e
 ·intro a
  obtain⟨q,z⟩:=fz b a;rw[e]at z;exact n q (Jq z)
theorem pd:∀ x:List Int,cmpR x x=.eq
 | []=>rfl
 | a::x=>by show (compare a a).then (cmpR x x)=.eq;rw[ZL.mpr rfl,pd x];rfl
theorem pZ:∀ x y:List Int,cmpR y x=(cmpR x y).swap
 | [],[]=>rfl
 | [],_::_=>rfl
 | _::_,[]=>rfl
 | a::x,b::y=>by
  show (compare b a).then (cmpR y x)=((compare a b).then (cmpR x y)).swap;rw[pZ x y];rcases Wb a b with h|h|h
  ·rw[Za.mpr h,Zb.mpr h];rfl
  ·subst h
   rw[ZL.mpr (rfl:a=a)];rfl
  ·rw[Zb.mpr h,Za.mpr h];rfl
def leR (x y:List Int):Prop:=cmpR x y≠.gt
theorem md (x:List Int):leR x x:=by unfold leR;rw[pd];exact λh=>by cases h
theorem pD:∀ {x y z:List Int},leR x y->leR y z->leR x z
 | [],[],[],_,_=>λh=>by cases h
 | [],_,_::_,_,_=>λh=>by cases h
 | [],_::_,[],_,h=>absurd rfl h
 | _::_,[],_,h,_=>absurd rfl h
 | _::_,_::_,[],_,h=>absurd rfl h
 | a::x,b::y,c::z,g,f=>by
  have e:(compare a b).then (cmpR x y)≠.gt:=g;have d:(compare b c).then (cmpR y z)≠.gt:=f;show (compare a c).then (cmpR x z)≠.gt;rcases Wb a b with p|p|p
  ·rcases Wb b c with q|q|q
   ·rw[Za.mpr (show a<c by lia)];exact λh=>by cases h
   ·rw[Za.mpr (show a<c by simp_all)];exact λh=>by cases h
   ·rw[Zb.mpr q]at d;exact absurd rfl d
  ·subst p
   rw[ZL.mpr (rfl:a=a)]at e;rcases Wb a c with q|q|q
   ·rw[Za.mpr q];exact λh=>by cases h
   ·subst q
    rw[ZL.mpr (rfl:a=a)]at d ⊢;exact pD (x:=x) (y:=y) (z:=z) e d
   ·rw[Zb.mpr q]at d;exact absurd rfl d
  ·rw[Zb.mpr p]at e;exact absurd rfl e
theorem zbp (x y:List Int):leR (wZ x y) x/\leR (wZ x y) y:=by
 unfold wZ;by_cases h:cmpR y x=.lt
 ·rw[Jh h];exact⟨(by unfold leR;rw[h];exact λz=>by cases z),md y⟩
 ·rw[Jc h]
  refine⟨md x,λz=>h ?_⟩;rw[pZ x y,z];rfl
theorem vM (ps:LvL)(k:KN)(r:List Int):yJ (wk ps k r) k=some r:=by
 unfold wk;split
 ·rename_i h
  have key:∀ ps:LvL,(yJ ps k).isSome=true->yJ (ps.map λx=>if x.1=k then (x.1,r) else x) k=some r:=by
   intro ps
   induction ps with
   | nil=>intro h;cases h
   | cons p ps ih =>
    intro h;unfold yJ at ih h ⊢;rw[JR,YV];rw[YV]at h;by_cases z:p.1=k
    ·rw[Jh z]
     show (match decide (p.1=k) with|true=>some (p.1,r)|false=>_).map _=_;rw[Jy z];rfl
    ·rw[Jc z,Jr z]
     rw[Jr z]at h;exact ih h
  exact key ps h
 ·rename_i h
  have e:yJ ps k=none:=by
   cases g:yJ ps k with
   | none=>rfl
   | some x=>rw[g]at h;exact absurd rfl h
  unfold yJ at e ⊢;rw[Option.map_eq_none_iff]at e;rw[List.find?_append,e];show Option.map _ ((none:Option (KN × List Int)).or (List.find? _ [(k,r)]))=_;rw[YV];show Option.map _ ((none:Option (KN × List Int)).or (match decide (k=k) with|true=>some (k,r)|false=>_))=_;rw[Jy rfl];rfl
theorem mw {k j:KN}(r:List Int)(h:j≠k):∀ ps:LvL,yJ (ps.map λx=>if x.1=k then (x.1,r) else x) j=yJ ps j:=by
 intro ps
 induction ps with
 | nil=>rfl
 | cons p ps ih =>
  unfold yJ at ih ⊢;rw[JR,YV,YV];by_cases z:p.1=k
  ·rw[Jh z]
   have n:¬ p.1=j:=λy=>h (y.symm.trans z);show (match decide (p.1=j) with|true=>_|false=>_:Option (KN × List Int)).map _=_;rw[Jr n];exact ih
  ·rw[Jc z]
   by_cases y:p.1=j
   ·rw[Jy y]
   ·rw[Jr y];exact ih
theorem tD (ps:LvL){k j:KN}(r:List Int)(h:j≠k):yJ (wk ps k r) j=yJ ps j:=by
 unfold wk;split
 ·exact mw r h ps
 ·unfold yJ
  rw[List.find?_append]
  cases e:List.find? (λx=>decide (x.1=j)) ps with
  | some x=>rfl
  | none =>
   show Option.map _ ((none:Option (KN × List Int)).or (List.find? _ [(k,r)]))=_;rw[YV];show Option.map _ ((none:Option (KN × List Int)).or (match decide (k=j) with|true=>some (k,r)|false=>_))=_;rw[Jr (λz=>h z.symm)];rfl
abbrev Tri:=KN × List Int × Nat
structure Met (step:KN->Nat->Option KN) (seen:LvL) (T:List Tri) (a:LAcc):Prop where
 on:∀ t c,yJ a.on t=some c->∃ x∈T,step x.1 x.2.2=some t/\c=yV x.2.1 x.2.2
 has:∀ x∈T,∀ t,step x.1 x.2.2=some t->yJ seen t=none->∃ c,yJ a.on t=some c/\leR c (yV x.2.1 x.2.2)
 fl1:∀ r∈a.fl,∃ x∈T,step x.1 x.2.2=none/\r=yV x.2.1 x.2.2
 fl2:∀ x∈T,step x.1 x.2.2=none->yV x.2.1 x.2.2∈a.fl
theorem mo {α:Type}{o:Option α}(h:¬ o.isSome=true):o=none:=by
 cases o with
 | none=>rfl
 | some x=>exact absurd rfl h
section
variable {step:KN->Nat->Option KN}{seen:LvL}
theorem Met.go {T:List Tri}{a:LAcc}(h:Met step seen T a)(s:KN)(c:List Int)(m:Nat):Met step seen (T++[(s,c,m)]) (go1 step seen s c a m):=by
 have last:∀ {p:Tri->Prop}{x:Tri},x∈T++[(s,c,m)]->(x∈T->p x)->p (s,c,m)->p x:=λb F E=>by
  rcases Js.mp b with z|z
  ·exact F z
  ·rw[Jm.mp z];exact E
 have d:∀ {x:Tri},x∈T->x∈T++[(s,c,m)]:=λz=>YE _ z;have l:((s,c,m):Tri)∈T++[(s,c,m)]:=JA _ (Jm.mpr rfl);unfold go1
 cases e:step s m with
 | none =>
  refine⟨λt j g=>?_,λx b t f sn=>?_,λr n=>?_,λx b ex=>?_⟩
  ·obtain⟨x,b,q⟩:=h.on t j g;exact⟨x,d b,q⟩
  ·refine last (p:=λx=>step x.1 x.2.2=some t->∃ j,yJ a.on t=some j/\leR j (yV x.2.1 x.2.2)) b (λz f=>h.has x z t f sn) (λf=>?_) f
   have i:step s m=some t:=f;rw[e]at i;cases i
  ·rcases Js.mp n with z|z
   ·obtain⟨x,b,q⟩:=h.fl1 r z;exact⟨x,d b,q⟩
   ·exact⟨_,l,e,Jm.mp z⟩
  ·exact last (p:=λx=>step x.1 x.2.2=none->yV x.2.1 x.2.2∈a.fl++[yV c m]) b (λz ex=>YE _ (h.fl2 x z ex)) (λ_=>JA _ (Jm.mpr rfl)) ex
 | some u =>
  dsimp only;by_cases o:(yJ seen u).isSome=true
  ·rw[Jh o]
   refine⟨λt j g=>?_,λx b t f sn=>?_,λr n=>?_,λx b ex=>?_⟩
   ·obtain⟨x,b,q⟩:=h.on t j g;exact⟨x,d b,q⟩
   ·refine last (p:=λx=>step x.1 x.2.2=some t->∃ j,yJ a.on t=some j/\leR j (yV x.2.1 x.2.2)) b (λz f=>h.has x z t f sn) (λf=>?_) f
    have i:step s m=some t:=f;rw[e]at i;cases i;rw[sn]at o;cases o
   ·obtain⟨x,b,q⟩:=h.fl1 r n;exact⟨x,d b,q⟩
   ·refine last (p:=λx=>step x.1 x.2.2=none->yV x.2.1 x.2.2∈a.fl) b (λz ex=>h.fl2 x z ex) (λex=>?_) ex
    have k:step s m=none:=ex;rw[e]at k;cases k
  ·rw[Jc o]
   obtain⟨C,w⟩:=zbp (yV c m) ((yJ a.on u).getD (yV c m));refine⟨λt j g=>?_,λx b t f sn=>?_,λr n=>?_,λx b ex=>?_⟩
   ·by_cases tt:t=u
    ·subst tt
     rw[vM]at g;cases g;rcases iE (yV c m) ((yJ a.on t).getD (yV c m)) with q|q
     ·exact⟨_,l,e,q⟩
     ·cases v:yJ a.on t with
      | none=>rw[v]at q;exact⟨_,l,e,by rw[Option.getD_none]at q ⊢;exact q⟩
      | some y =>
       rw[v]at q;obtain⟨x,b,B,A⟩:=h.on t y v;exact⟨x,d b,B,by rw[ZN]at q ⊢;rw[q];exact A⟩
    ·rw[tD _ _ tt]at g
     obtain⟨x,b,q⟩:=h.on t j g;exact⟨x,d b,q⟩
   ·by_cases tt:t=u
    ·subst tt
     rw[vM];refine⟨_,rfl,?_⟩;refine last (p:=λx=>step x.1 x.2.2=some t->leR (wZ (yV c m) ((yJ a.on t).getD (yV c m))) (yV x.2.1 x.2.2)) b (λz f=>?_) (λ_=>C) f;obtain⟨y,G,D⟩:=h.has x z t f sn;rw[G,ZN]at w ⊢;exact pD w D
    ·rw[tD _ _ tt]
     refine last (p:=λx=>step x.1 x.2.2=some t->∃ j,yJ a.on t=some j/\leR j (yV x.2.1 x.2.2)) b (λz f=>h.has x z t f sn) (λf=>?_) f;have i:step s m=some t:=f;rw[e]at i;exact absurd (Jq i).symm tt
   ·obtain⟨x,b,q⟩:=h.fl1 r n;exact⟨x,d b,q⟩
   ·refine last (p:=λx=>step x.1 x.2.2=none->yV x.2.1 x.2.2∈a.fl) b (λz ex=>h.fl2 x z ex) (λex=>?_) ex
    have k:step s m=none:=ex;rw[e]at k;cases k
theorem Met.row (s:KN)(c:List Int):∀ (ms:List Nat) {T:List Tri}{a:LAcc},Met step seen T a->Met step seen (T++ms.map λm=>(s,c,m)) (ms.foldl (go1 step seen s c) a)
 | [],T,a,h=>by rw[List.map_nil,JY];exact h
 | m::r,T,a,h=>by
  have:=Met.row s c r (h.go s c m)
  rwa [JK]at this
def cO (moves:List Nat)(level:LvL):List Tri:=level.flatMap λp=>moves.map λm=>(p.1,p.2,m)
theorem Met.lev (moves:List Nat):∀ (level:LvL) {T:List Tri}{a:LAcc},Met step seen T a->Met step seen (T++cO moves level) (level.foldl (goS step seen moves) a)
 | [],T,a,h=>by show Met step seen (T++[]) a;rw[JY];exact h
 | p::r,T,a,h=>by
  have:=Met.lev moves r (Met.row p.1 p.2 moves h)
  rwa [JK]at this
theorem mO (moves:List Nat)(level:LvL):Met step seen (cO moves level) (xE step seen moves level) :=
 Met.lev moves level (T:=[]) (a:=⟨[],[]⟩) ⟨λt c g=>(by cases g),λx b=>absurd b Jg,λr d=>absurd d Jg,λx b=>absurd b Jg⟩
end
theorem sJ {moves:List Nat}{level:LvL}{x:Tri}:x∈cO moves level↔(x.1,x.2.1)∈level/\x.2.2∈moves:=by
 unfold cO;rw[List.mem_flatMap];constructor
 ·rintro⟨p,b,a⟩
  obtain⟨m,c,rfl⟩:=Jx.mp a;exact⟨b,c⟩
 ·rintro⟨e,d⟩
  exact⟨_,e,Jx.mpr ⟨_,d,rfl⟩⟩
def wj (step:KN->Nat->Option KN):KN->List Nat->Option KN
 | s,[]=>some s
 | s,m::r=>(step s m).bind λt=>wj step t r
def tM (c:List Int)(row:List Nat):List Int:=row.foldl yV c
theorem uY (step:KN->Nat->Option KN):∀ (r:List Nat) (s:KN) (m:Nat),wj step s (r++[m])=(wj step s r).bind λt=>step t m
 | [],s,m=>by
  show (step s m).bind (λt=>some t)=step s m
  cases step s m<;>rfl
 | a::r,s,m=>by
  show (step s a).bind (λt=>wj step t (r++[m]))=((step s a).bind λt=>wj step t r).bind λt=>step t m
  cases step s a with
  | none=>rfl
  | some t=>exact uY step r t m
theorem pV (c:List Int)(r:List Nat)(m:Nat):tM c (r++[m])=yV (tM c r) m:=by unfold tM;rw[YQ];rfl
theorem zap (c:List Int)(r:List Nat):(tM c r).length=c.length:=by
 unfold tM
 induction r generalizing c with
 | nil=>rfl
 | cons m r ih=>show (r.foldl yV (yV c m)).length=_;rw[ih,uC]
def Over (moves row:List Nat):Prop:=∀ m∈row,m∈moves
section
variable {n:Nat}
theorem rp:∀ {ps:LvL},LvNd ps->∀ {s:KN}{c:List Int},(s,c)∈ps->yJ ps s=some c
 | [],_,s,c,h=>by cases h
 | p::ps,nd,s,c,h=>by
  unfold LvNd at nd;rw[JR,JJ]at nd;unfold yJ;rw[YV];rcases Jf.mp h with z|z
  ·rw[<- z]
   show (match decide (s=s) with|true=>some (s,c)|false=>_:Option (KN × List Int)).map _=_;rw[Jy rfl];rfl
  ·have n:¬ p.1=s:=λy=>nd.1 (Jx.mpr ⟨_,z,y.symm⟩)
   rw[Jr n];exact rp nd.2 z
end
structure Shut (step:KN->Nat->Option KN) (moves:List Nat) (k0:KN) (ks:List KN):Prop where
 fst:k0∈ks
 cls:∀ s∈ks,∀ m∈moves,∃ t∈ks,step s m=some t
def xS (ls:List LvL):List KN:=ls.flatMap λlv=>lv.map (·.1)
theorem pI (a b:List LvL):xS (a++b)=xS a++xS b:=by unfold xS;rw[List.flatMap_append]
theorem uF {ps:LvL}{s:KN}:(yJ ps s).isSome=true↔s∈ps.map (·.1):=by
 constructor
 ·intro h
  obtain⟨r,a⟩:=dH h;exact Jx.mpr ⟨_,a,rfl⟩
 ·intro h
  obtain⟨p,b,rfl⟩:=Jx.mp h;exact mx b
section
variable {step:KN->Nat->Option KN}{moves:List Nat}{k0:KN}{most:Nat}
theorem nC {α:Type}[DecidableEq α]:∀ {l ks:List α},l.Nodup->(∀ x∈l,x∈ks)->l.length<=ks.length
 | [],_,_,_=>JN _
 | a::l,ks,nd,h=>by
  rw[JJ]at nd;have ha:=h a (.head _);have:=nC (l:=l) (ks:=ks.erase a) nd.2 λx b=>(List.mem_erase_of_ne λ(z:x=a)=>nd.1 (z ▸ b)).mpr (h x (.tail _ b));rw[List.length_erase_of_mem ha]at this;have:0<ks.length:=List.length_pos_of_mem ha;rw[JL];lia
theorem sZ {ks:List KN}(n:Shut step moves k0 ks)(A:ks.length<=most):∀ (m:Nat) (level seen:LvL) (ls:List LvL),(∀ p∈level,p.1∈ks)->(∀ p∈seen,p.1∈ks)->(∀ s∈xS ls,s∈ks)->LvNd (seen++level)->most+1<=m+seen.length->∃ h,yd step moves most m level seen ls=.whl h/\∀ s∈xS h,s∈ks
 | 0,level,seen,ls,g,i,q,nd,hm=>by
  have:=nC (l:=(seen++level).map (λp:KN × List Int=>p.1)) (ks:=ks) nd λx d=>by
   obtain⟨p,c,rfl⟩:=Jx.mp d;exact(Js.mp c).elim (i p) (g p)
  rw[Jb,Jn]at this
  lia
 | m+1,level,seen,ls,g,i,q,nd,hm=>by
  have y:=nC (l:=(seen++level).map (λp:KN × List Int=>p.1)) (ks:=ks) nd λx d=>by
   obtain⟨p,c,rfl⟩:=Jx.mp d;exact(Js.mp c).elim (i p) (g p)
  rw[Jb,Jn]at y;by_cases o:level=[]
  ·subst o
   exact⟨ls,vF,q⟩
  have E:0<level.length:=List.length_pos_iff.mpr o;have M:=mO (step:=step) (seen:=seen++level) moves level;have W:=tV (step:=step) (seen:=seen++level) (moves:=moves) (Ok:=λ_=>True) level λ_ _ _ _ _ _=>trivial
  have f:(xE step (seen++level) moves level).fl=[]:=by
   cases e:(xE step (seen++level) moves level).fl with
   | nil=>rfl
   | cons r rs =>
    obtain⟨x,d,u,_⟩:=M.fl1 r (by rw[e];exact .head _);obtain⟨k,j⟩:=sJ.mp d;obtain⟨t,_,e2⟩:=n.cls _ (g _ k) _ j;rw[u]at e2;cases e2
  rw[uL o (by lia) f];refine sZ n A m _ _ _ (λp c=>?_) (λp c=>(Js.mp c).elim (i p) (g p)) (λs w=>?_) ?_ (by rw[Jn];lia)
  ·obtain⟨x,d,u,_⟩:=M.on p.1 p.2 (rp W.nd c)
   obtain⟨k,j⟩:=sJ.mp d;obtain⟨t,B,e2⟩:=n.cls _ (g _ k) _ j;rw[u]at e2;rw[Jq e2];exact B
  ·rw[pI]at w
   rcases Js.mp w with z|z
   ·exact q s z
   ·have v:s∈level.map (λp:KN × List Int=>p.1)++[]:=z
    rw[JY]at v;obtain⟨p,c,rfl⟩:=Jx.mp v;exact g p c
  ·unfold LvNd
   rw[JE];refine ZK.mpr ⟨nd,W.nd,λa D b C e=>?_⟩;subst e;obtain⟨p,c,rfl⟩:=Jx.mp C;have z:=uF.mpr D;rw[W.new p c]at z;cases z
theorem Shut.run {ks:List KN}(b:Shut step moves k0 ks):∀ (row:List Nat) {s:KN},s∈ks->Over moves row->∃ t∈ks,wj step s row=some t
 | [],s,a,_=>⟨s,a,rfl⟩
 | m::r,s,a,c=>by
  obtain⟨t,g,e⟩:=b.cls s a m (c m (.head _));obtain⟨u,f,e2⟩:=Shut.run b r g λx d=>c x (.tail _ d);exact⟨u,f,by show (step s m).bind _=_;rw[e];exact e2⟩
end
def zF (N:Nt):List Int:=List.replicate N.forks.length 0
def zL (N:Nt):List Int:=List.replicate N.lanes 0
def sI (N:Nt)(row:List Nat)(i:Nat):List Int:=(row.take i).foldl (xQ N) (zF N)
def aJ (N:Nt)(row:List Nat)(i:Nat):Prop:=passE N (sI N row i) (row.getD i 0)=i%N.lanes
def rW (N:Nt)(row:List Nat)(i:Nat):KN:=stK (sI N row i) [((i%N.lanes:Nat):Int)]
def k0P (N:Nt):KN:=stK (zF N) [0]
theorem qk (N:Nt){row:List Nat}{i:Nat}(h:i<row.length):sI N row (i+1)=xQ N (sI N row i) (row.getD i 0):=by
 unfold sI;rw[<- Yk h,YQ,J8,J6 h];rfl
theorem y9 {row:List Nat}{i:Nat}(h:i<row.length):row.take (i+1)=row.take i++[row.getD i 0]:=by
 rw[<- Yk h,J8,J6 h];rfl
theorem qo (N:Nt)(row:List Nat)(i:Nat):wX N (rW N row i) (row.getD i 0)=if ((passE N (sI N row i) (row.getD i 0):Nat):Int)=((i%N.lanes:Nat):Int) then some (stK (xQ N (sI N row i) (row.getD i 0)) [(((i%N.lanes:Nat):Int)+1)%(N.lanes:Nat)]) else none:=rfl
theorem bG (N:Nt)(row:List Nat):∀ i,i<=row.length->(∀ j,j<i->aJ N row j)->wj (wX N) (k0P N) (row.take i)=some (rW N row i)
 | 0,_,_=>by
  rw[W9];show some (k0P N)=some (rW N row 0);unfold rW
  rw[Nat.zero_mod];rfl
 | i+1,h,ok=>by
  rw[y9 h,uY,bG N row i (by lia) λj a=>ok j (by lia)];show wX N (rW N row i) (row.getD i 0)=_;rw[qo,Jh (by rw[show passE N (sI N row i) (row.getD i 0)=i%N.lanes from ok i (Wd _)])];unfold rW;rw[qk N h]
  congr 2
  congr 1
  rw[show ((i%N.lanes:Nat):Int)+1=((i%N.lanes+1:Nat):Int) from rfl,<- YA,Nat.mod_add_mod]
theorem bF (N:Nt){row:List Nat}{i:Nat}(h:i<row.length)(ok:∀ j,j<i->aJ N row j)(no:¬ aJ N row i):wj (wX N) (k0P N) (row.take (i+1))=none:=by
 rw[y9 h,uY,bG N row i (by lia) ok];show wX N (rW N row i) (row.getD i 0)=none;rw[qo];exact Jc λz=>no (Int.ofNat.inj z)
theorem zax (N:Nt)(row:List Nat):∀ i,i<=row.length->(∀ j,j<=i->wj (wX N) (k0P N) (row.take j)≠none)->∀ j,j<i->aJ N row j
 | 0,_,_,j,b=>by lia
 | i+1,h,a,j,b=>by
  have ih:=zax N row i (by lia) λj b=>a j (by lia);by_cases z:j<i
  ·exact ih j z
  ·have:j=i:=by lia
   subst this;exact Classical.byContradiction λno=>a (j+1) (Je _) (bF N h ih no)
section
variable {N:Nt}
theorem iZ (N:Nt)(row:List Nat):(tM (zL N) row).length=N.lanes:=by rw[zap];exact Yb
theorem lZ (ok:Nt.Ok N)(row:List Nat)(a:∀ m∈row,m<N.lanes):∀ i,i<=row.length->sI N row i=zp N (tM (zL N) (row.take i))
 | 0,_=>by
  rw[W9];show zF N=zp N (zL N);unfold zL
  rw[lR];rfl
 | i+1,h=>by
  have b:row.getD i 0<N.lanes:=by
   rw[J8,J6 h];exact a _ (Yf h)
  rw[qk N h,lZ ok row a i (by lia),y9 h,pV];exact(zda ok false (iZ N _) b).1.symm
theorem dZ (ok:Nt.Ok N){row:List Nat}(a:∀ m∈row,m<N.lanes){i:Nat}(h:i<row.length):zj N (tM (zL N) (row.take (i+1)))=zu (zj N (tM (zL N) (row.take i))) (passE N (sI N row i) (row.getD i 0)) 1:=by
 have b:row.getD i 0<N.lanes:=by
  rw[J8,J6 h];exact a _ (Yf h)
 rw[lZ ok row a i (by lia),y9 h,pV];exact(zda ok false (iZ N _) b).2.1
def da (N:Nt):Nat->List Int
 | 0=>List.replicate N.lanes 0
 | i+1=>zu (da N i) (i%N.lanes) 1
theorem qD (N:Nt):∀ i,(da N i).length=N.lanes
 | 0=>Yb
 | i+1=>by show (zu _ _ _).length=_;rw[yk,qD N i]
theorem lG (ok:Nt.Ok N){row:List Nat}(a:∀ m∈row,m<N.lanes):∀ i,i<=row.length->(∀ j,j<i->aJ N row j)->zj N (tM (zL N) (row.take i))=da N i
 | 0,_,_=>by rw[W9];exact dX N ok
 | i+1,h,b=>by
  rw[dZ ok a h,lG ok a i (by lia) λj c=>b j (by lia),show passE N (sI N row i) (row.getD i 0)=i%N.lanes from b i (Wd _)];rfl
theorem cC {xs:List Int}{i j:Nat}(hi:i<xs.length)(c:j<xs.length)(e:zu xs i 1=zu xs j 1):i=j:=by
 apply Classical.byContradiction;intro ne
 have a:(zu xs i 1).getD i 0=xs.getD i 0+1:=by
  unfold zu;rw[J8,List.getElem?_set_self hi];rfl
 have b:(zu xs j 1).getD i 0=xs.getD i 0:=by
  unfold zu;rw[J8,Wj (λz=>ne z.symm),<- J8]
 rw[e,b]at a;lia
theorem zaC (N:Nt)(p:Nat):(zL N).getD p 0=0:=ww _ _
end
def zcJ (N:Nt):KN->Nat->KN
 | [.inr ts,.inl r],m=>stK (xQ N ts m) [(r+1)%(N.lanes:Nat)]
 | k,_=>k
def zeE (ks:List KN)(k:KN):Bool:=ks.any λx=>decide (x=k)
section
variable (N:Nt)(ks:List KN)
def la1 (s:KN)(c:List Int)(a:LAcc)(m:Nat):LAcc :=
 ⟨if zeE ks (zcJ N s m)=true then a.on else wk a.on (zcJ N s m) (wZ ((yJ a.on (zcJ N s m)).getD (yV c m)) (yV c m)),if wX N s m=none then a.fl++[yV c m] else a.fl⟩
def laS (moves:List Nat)(a:LAcc)(p:KN × List Int):LAcc:=moves.foldl (la1 N ks p.1 p.2) a
end
end L2
namespace L2
open PySem PySem.Spec PyProof.Rows Own
theorem i6 (p:KN × JI × V)(xs:KVN)(k:KN):xP (p::xs) k=if p.1=k then some p.2.2 else xP xs k:=by
 unfold xP;rw[YV];by_cases z:p.1=k
 ·rw[Jy z,Jh z];rfl
 ·rw[Jr z,Jc z]
theorem gX (xs:KVN)(k:KN)(b:JI)(v:V):(xJ xs k b v).map (·.1)=if (xP xs k).isSome then xs.map (·.1) else xs.map (·.1)++[k]:=by
 unfold xJ;by_cases z:(xP xs k).isSome=true
 ·rw[Jh z,Jh z,YX]
  refine Yu λy _=>?_;show (if y.1=k then (y.1,y.2.1,v) else y).1=y.1;split<;>rfl
 ·rw[Jc z,Jc z,JE];rfl
theorem sE {xs:KVN}{k:KN}:(xP xs k).isSome=true↔k∈xs.map (·.1):=by
 induction xs with
 | nil=>exact⟨λh=>(nomatch h),λh=>(nomatch h)⟩
 | cons p xs ih =>
  rw[i6,JR,Jf];by_cases z:p.1=k
  ·rw[Jh z];exact⟨λ_=>.inl z.symm,λ_=>rfl⟩
  ·rw[Jc z,ih]
   exact⟨.inr,λh=>h.elim (λq=>absurd q.symm z) id⟩
theorem KsIn.put {H:Hp}{xs:KVN}{k:KN}{b:JI}{v:V}(h:KsIn H xs)(hb:NKey H k b):KsIn H (xJ xs k b v):=by
 intro x a;unfold xJ at a;split at a
 ·obtain⟨y,c,rfl⟩:=Jx.mp a
  split
  ·exact h y c
  ·exact h y c
 ·rcases Js.mp a with z|z
  ·exact h x z
  ·rw[Jm.mp z];exact hb
end L2
namespace L2
open PySem PySem.Spec PyProof.Rows Own Bn
theorem af {H:Hp}{g q:JI}{x y:List Int}{n:Nat}(b:H g=some (.tup (x.map V.int)))(a:H q=some (.tup (y.map V.int)))(d:x.length=n)(c:y.length=n):(∀ u∈[V.ref g,V.ref q],∀ v∈[V.ref g,V.ref q],Lx H 1 u v (tN H u v))/\∃ h,xx (tN H) (.ref g) (.ref q)=.ref h/\H h=some (.tup ((wZ x y).map V.int)) :=
 ⟨j7 (fs:=[g,q]) (rs:=[x,y]) (.cons b (.cons a .nil)) λr e=>by
  rcases Jf.mp e with rfl|z
  ·exact d
  ·rw[Jm.mp z];exact c,lO (fs:=[q]) (rs:=[y]) (.cons a .nil) b⟩
end L2
namespace K65
open PySem L2 Own Bn
abbrev zck:Stmt:=top 21
theorem iN {d:JI}{H H':Hp}{P:Yo}{w:YI}{xs:KVN}(b:But d H H')(hd:H d=some (DN P w d xs)):∀ c o u,H c=some (.frz o u)->H' c=some (.frz o u):=λc o u e=>b c _ e λz=>by
 rw[z,hd]at e;cases e
theorem x8 {d:JI}{H H':Hp}{P:Yo}{w:YI}{xs:KVN}(b:But d H H')(hd:H d=some (DN P w d xs)):Tups H H':=λc a e=>b c _ e λz=>by
 rw[z,hd]at e;cases e
section
variable {P:Yo}{w:YI}{K:Jl}{mg:Str->Option Jo}{base:YP}
theorem n6:FnScope ["level","seen","moves","led","onward","faults","state","counts","move","there","more"] ["level","seen","moves","led"] (zN zck):=by trivial
theorem zbd {f fA:JI}{fd dA:Yl}{L:Lam}{fr ck:List Str}{lsp:LSpc}(F:Fun K "next_level" "next_level" zck f fd) (G:Mgs mg) (UA:Use P w K mg base "added" ["counts","place","many"] 2 oT fA dA) (LQ:LamQ CX0 P w K mg base 4 L fr ck lsp):FnOk P w K mg base CX0 6 f fd ["level","seen","moves","led"] (kE P w K L fr lsp):=by
 refine F.ok n6 (λvs H Q E h=>?_) (λc3 A outer s H vs Q E hr h=>?_)
 ·obtain⟨dl,ds,mv,f,xs,ys,level,seen,moves,cl,vals,step,Ok,n,rfl,_⟩:=h
  rfl
 obtain⟨dl,ds,mv,f,xs,ys,level,seen,moves,cl,vals,step,Ok,n,rfl,B,lvl,b0,a7,b7,W,cm,c2,k⟩:=h;refine⟨_,(zJ (@zY _ _ 4 _ _ _ _ n6.nd rfl (.inl rfl) j9 rfl (by trivial)) (zJ (@zY _ _ 5 _ _ _ _ n6.nd rfl (.inl rfl) (x5 zC) rfl (by trivial)) (zJ (bV (x4 YZ rfl (gf (pvb 0 rfl)) (yn rfl (zR (@zQ _ _ 6 _ n6.nd rfl (.inl rfl) (by trivial)) (zR (@zQ _ _ 7 _ n6.nd rfl (.inl rfl) (by trivial)) yS rfl) rfl) rfl rfl) (zM (x4 YZ rfl (xV (pvb 2 rfl)) (@zQ _ _ 8 _ n6.nd rfl (.inl rfl) (by trivial)) (zJ (@zY _ _ 9 _ _ _ _ n6.nd rfl (.inl rfl) (o7 LQ hr (pvb 3 rfl) uw (zB (pvb 6 rfl) (zB (pvb 8 rfl) zC rfl) rfl)) rfl (by trivial)) (zJ (xK (yN (bp hr.u3) (pvb 9 rfl) (pvb 1 rfl) rfl) (zM n9) yZ) (zJ (@zY _ _ 10 _ _ _ _ n6.nd rfl (.inl rfl) (zU UA (hr.mono (by decide)) (zB (pvb 7 rfl) (zB (pvb 8 rfl) (zB zK zC rfl) rfl) rfl) rfl rfl rfl rfl) rfl (by trivial)) (zM (xK (yN zcB (pvb 9 rfl) kw rfl) (zM (w6 (mD W0 ZT ZU xM (pvb 5 rfl) (zB (pvb 10 rfl) zC rfl) rfl rfl rfl rfl rfl) rfl)) (zM (zaZ hr.u3 (pvb 4 rfl) (pvb 9 rfl) (zV (ji rfl hr.units) rfl G.min rfl (zB (pvb 10 rfl) (zB (bh hr.u3 (pvb 4 rfl) (pvb 9 rfl) (pvb 10 rfl) ⟨rfl,rfl,rfl,rfl⟩) zC rfl) rfl) (by decide) (by decide) rfl rfl) rfl))))))) (by intro _;rfl))) (by intro _;rfl))) (zM (zT (yE (zB (pvb 4 rfl) (zB (pvb 5 rfl) zC rfl) rfl))))))),?_⟩;refine λo ho=>⟨by show 0<=sizeLine;decide,λl hl=>?_⟩;have s1:=zE ho (DN P w o []);have s2:=zE (show L2.upd H o (DN P w o []) l=none from hl) (.lst []);have u2:=s1.trans s2
 have ol:o≠l:=λz=>by
  have a5:L2.upd H o (DN P w o []) l=none:=hl;rw[<- z,zD]at a5;cases a5
 have bS:H l=none:=by
  have a5:L2.upd H o (DN P w o []) l=none:=hl
  rwa [zG ol.symm]at a5
 have bu:dl≠o:=zH B ho;have bw:dl≠l:=zH B bS;have cI:L2.upd (L2.upd H o (DN P w o [])) l (.lst []) o=some (DN P w o []):=by rw[zG ol];exact zD
 have cP:L2.upd (L2.upd H o (DN P w o [])) l (.lst []) l=some (.lst []):=zD;refine zA ⟨dl,xs,rfl,u2 _ _ B,λob=>?_⟩
 let y:Nat->LAcc:=λi=>(level.take i).foldl (goS step seen moves) ⟨[],[]⟩
 have ll:xs.length=level.length:=lvl.len;refine jb (P:=P) (w:=w) (d:=dl) (o:=ob) (xs:=xs) (λi σ S=>(∃ v6 v7 v8 v9 v10,σ=[some (.ref dl),some (.ref ds),some (.ref mv),some (.ref f),some (.ref o),some (.ref l),v6,v7,v8,v9,v10])/\But dl H S/\S dl=some (.frz ob (DN P w dl xs))/\∃ zs fs,S o=some (DN P w o zs)/\LvE S zs (y i).on/\S l=some (.lst (fs.map V.ref))/\RowsAt S fs (y i).fl/\AccOk n (i*moves.length) (y i)) ?_ (λi σ S _ q=>q.2.2.1) ?_ ?_
 ·refine⟨⟨_,_,_,_,_,rfl⟩,λb u e ne=>?_,zD,[],[],?_,LvE.nil,?_,.nil,⟨λp hp=>(nomatch hp),λr hr=>(nomatch hr),by show 0+0<=_;simp_all⟩⟩
  ·rw[zG ne];exact u2 b u e
  ·rw[zG bu.symm];exact cI
  ·rw[zG bw.symm];exact cP
 ·rintro i p σ S T hp hT ⟨⟨v6,v7,v8,v9,v10,rfl⟩,bt,a6,zs,fs,a9,aT,bc,rws,b8⟩
  have il:i<level.length:=by rw[<- ll];exact(Ja.mp hp).1
  obtain⟨r,c,ep,kb,ec,hc⟩:=(lvl.tups (x8 bt B)).at_ hp;have pin:(p.1,r)∈level:=JM ep;obtain⟨b9,rl⟩:=cm _ pin;rw[ec];have sT:=zE hT (.tup [.ref p.2.1,.ref c]);refine⟨T,_,rfl,SqT.of zD,rfl,_,_,rfl,_,_,rfl,rfl,?_⟩;have W2:=W.keep (x8 bt B) (iN bt B);refine zA ⟨mv,rfl,⟨_,(W2.mv.tups (Tups.of sT)).sq⟩,?_⟩
  have cb:y (i+1)=goS step seen moves (y i) (p.1,r):=by
   show List.foldl _ _ (level.take (i+1))=_;rw[<- Yk il,YQ,show level[i]=(p.1,r) from (Ja.mp ep).2];rfl
  generalize hA:y i=a0 at *
  let v:Nat->LAcc:=λj=>(moves.take j).foldl (go1 step seen p.1 r) a0
  have fin:v moves.length=y (i+1):=by rw[cb];show List.foldl _ _ (moves.take moves.length)=_;rw[Ya];rfl
  have ml:(moves.map λm=>V.int (m:Nat)).length=moves.length:=Jb _;refine tX (K:=K) (a:=mv) (xs:=moves.map λm=>V.int (m:Nat)) (λj σ Y=>(∃ v8 v9 v10,σ=[some (.ref dl),some (.ref ds),some (.ref mv),some (.ref f),some (.ref o),some (.ref l),some (.ref p.2.1),some (.ref c),v8,v9,v10])/\But dl H Y/\Y dl=some (.frz ob (DN P w dl xs))/\∃ zs fs,Y o=some (DN P w o zs)/\LvE Y zs (v j).on/\Y l=some (.lst (fs.map V.ref))/\RowsAt Y fs (v j).fl/\AccOk n (i*moves.length+j) (v j)) ?_ (λj σ Y _ q=>(W.mv.tups (x8 q.2.1 B)).sq) ?_ ?_
  ·exact⟨⟨_,_,_,rfl⟩,bt.trans (But.of sT),sT _ _ a6,zs,fs,sT _ _ a9,aT.keep sT,sT _ _ bc,rws.tups (Tups.of sT),b8⟩
  ·rintro j x σ Y hx ⟨⟨v8,v9,v10,rfl⟩,X,ao,J,R,ab,U,ak,O,C⟩
   rw[JC]at hx;obtain⟨m,em,rfl⟩:=Y7.mp hx;have jl:j<moves.length:=(Ja.mp em).1;have mm:m∈moves:=JM em
   have ax:v (j+1)=go1 step seen p.1 r (v j) m:=by
    show List.foldl _ _ (moves.take (j+1))=_;rw[<- Yk jl,YQ,show moves[j]=m from (Ja.mp em).2];rfl
   have N:=C.go (step:=step) (seen:=seen) (s:=p.1) (k:=m) rl;rw[<- ax]at N;have t3:=x8 X B;have W3:=W.keep t3 (iN X B);obtain⟨pm,cc,ct,oc,fz,tk,cz,_⟩:=W3.la.ex;have cn:=lvl.tups t3;obtain⟨r',c',b5,cx,b6,b1⟩:=cn.at_ hp;have er:r'=r:=by rw[ep]at b5;cases b5;rfl
   have c0:c'=c:=by rw[ec]at b6;cases b6;rfl
   subst er c0;have tS:=t3.trans (wG W3.la.fz)
   have c1:(v j).on.length+(v j).fl.length<=10000000:=by
    have:=C.few;have:(i+1)*moves.length<=level.length*moves.length:=Nat.mul_le_mul_right _ il;rw[Nat.add_mul,Nat.one_mul]at this;lia
   refine zdc (λG0 b3 cH=>?_);refine we (λG1 b2=>?_);refine⟨f,rfl,⟨_,_,_,_,cz⟩,_,rfl,_,rfl,cl,vals,W3.fr,W3.la,W.ld _ _ _ m _ tS b9 mm (cx.tups (wG W3.la.fz)) (λH4 s4 e4 low=>?_) λH4 b4 t s4 e4 k4 low=>?_⟩
   ·-- elsewhere
    have D:=wA s4;generalize back cl Y H4=H5 at D ⊢;have M:=X.trans (But.of (l:=dl) D);have a8:=a7.tups (x8 M B);have bl:H5 ds=some (DN P w ds ys):=M _ _ b0 b7.symm;have bo:=D _ _ b1;have e1:v (j+1)=⟨(v j).on,(v j).fl++[yV r' m]⟩:=by rw[ax];unfold go1;rw[e4]
    refine b2 _ _ ?_;refine zA (zA ⟨ds,ys,rfl,⟨.inl bl,a8.ks⟩,.inr ⟨rfl,false,rfl,yR ?_⟩⟩);refine zA (zA ⟨c',r',m,1,rfl,bo,by rw[rl];exact W.lt m mm,by rw[rl];exact W.n1,λq H6 I h6=>?_⟩);have ba:=I _ _ (D _ _ ak);refine zA ⟨rfl,true,JP V.bl (Jy rfl),xH ?_⟩;refine zA ⟨.inl ⟨rfl,_,SqL.of ba⟩,_,rfl,l,_,_,rfl,rfl,ba,?_,?_⟩
    ·rw[Jb,YR O,JW];lia
    have lq:∀ {b:JI}{u:HO},H6 b=some u->b≠l->L2.upd H6 l (.lst (R.map V.ref++[.ref q])) b=some u:=λe ne=>by rw[zG ne];exact e
    have tq:Tups H6 (L2.upd H6 l (.lst (R.map V.ref++[.ref q]))):=λb xs e=>lq e (xG e ba (λz=>by cases z));have bx:=M.trans (But.of (l:=dl) I);refine b3 _ _ ⟨⟨_,_,_,rfl⟩,λb u e ne=>lq (bx b u e ne) (zH e bS),lq (I _ _ (D _ _ ao)) bw,J,R++[q],lq (I _ _ (D _ _ ab)) ol,?_,?_,?_,N⟩
    ·rw[e1];exact((U.keep D).keep I).tups tq
    ·rw[JE];exact zD
    ·rw[e1];exact Paired.snoc ((O.tups (Tups.of D)).tups ((Tups.of I).trans tq)) (tq _ _ h6)
   ·have D:=wA s4
    have k5:=k4.tups (qj (H:=Y) low);generalize back cl Y H4=H5 at D k5 ⊢;have M:=X.trans (But.of (l:=dl) D);have a8:=a7.tups (x8 M B);have bl:H5 ds=some (DN P w ds ys):=M _ _ b0 b7.symm;have bo:=D _ _ b1;refine b2 _ _ ?_;refine zA (zA ⟨ds,ys,rfl,⟨.inl bl,a8.ks⟩,.inl ⟨b4,t,rfl,k5,_,rfl,?_⟩⟩);rw[pC a7.pr t];by_cases sn:(yJ seen t).isSome=true
    ·have e1:v (j+1)=v j:=by rw[ax];unfold go1;rw[e4];exact Jh sn
     rw[sn];refine xH ?_;refine cH _ _ ?_;rw[e1];rw[e1]at N;exact⟨⟨_,_,_,rfl⟩,M,D _ _ ao,J,R,D _ _ ab,U.keep D,D _ _ ak,O.tups (Tups.of D),N⟩
    ·have e1:v (j+1)=⟨wk (v j).on t (wZ (yV r' m) ((yJ (v j).on t).getD (yV r' m))),(v j).fl⟩:=by rw[ax];unfold go1;rw[e4];exact Jc sn
     rw[show (yJ seen t).isSome=false by simpa using sn];refine yR ?_;refine zA (zA ⟨c',r',m,1,rfl,bo,by rw[rl];exact W.lt m mm,by rw[rl];exact W.n1,λq H6 I h6=>?_⟩);have a4:=I _ _ (D _ _ ab);have Z:=(U.keep D).keep I;have k6:=k5.tups (Tups.of I);have bx:=M.trans (But.of (l:=dl) I);refine zA ⟨rfl,false,JP V.bl (Jr (λz=>by cases z)),yR ?_⟩;refine zA (zA ⟨o,rfl,⟨_,.inl a4⟩,_,rfl,_,rfl,b4,J,t,rfl,⟨.inl a4,Z.ks⟩,k6,?_⟩)
     have le:∃ g s,(xP J t).getD (.ref q)=.ref g/\(yJ (v j).on t).getD (yV r' m)=s/\H6 g=some (.tup (s.map V.int))/\s.length=n:=by
      rcases ad Z.pr t with ⟨a1,a2⟩|⟨g,s,a1,a2,a3⟩
      ·exact⟨q,yV r' m,by rw[a1];rfl,by rw[a2];rfl,h6,by rw[uC];exact rl⟩
      ·exact⟨g,s,by rw[a1];rfl,by rw[a2];rfl,a3,C.on _ (rq a2)⟩
     obtain⟨g,sr,g1,g2,g3,g4⟩:=le;rw[g1];rw[g2]at e1;have cf:(yV r' m).length=n:=by rw[uC];exact rl
     obtain⟨lx,h,p1,p2⟩:=af h6 g3 cf g4;refine⟨_,_,1,tN H6,rfl,by decide,lx,?_⟩;rw[p1];refine zA (zA ⟨o,b4,J,t,rfl,rfl,a4,Z.ks,k6,?_,?_⟩)
     ·rw[Z.len,JW];lia
     have tq:Tups H6 (L2.upd H6 o (DN P w o (xJ J t b4 (.ref h)))):=λb xs e=>by rw[zG (xG e a4 (λz=>by cases z))];exact e
     refine b3 _ _ ⟨⟨_,_,_,rfl⟩,λb u e ne=>?_,?_,_,R,zD,?_,?_,?_,N⟩
     ·rw[zG (zH e ho)];exact bx b u e ne
     ·rw[zG bu];exact I _ _ (D _ _ ao)
     ·rw[e1];exact(Z.put k6 p2).tups tq
     ·rw[zG ol.symm];exact I _ _ (D _ _ ak)
     ·rw[e1];exact(O.tups (Tups.of D)).tups ((Tups.of I).trans tq)
  ·rintro σ Y ⟨⟨v8,v9,v10,rfl⟩,X,ao,J,R,ab,U,ak,O,C⟩
   have bB:v (moves.map λm=>V.int (m:Nat)).length=y (i+1):=by rw[ml];exact fin
   rw[bB]at U O C;refine⟨⟨_,_,_,_,_,rfl⟩,X,ao,J,R,ab,U,ak,O,?_⟩;rw[ml]at C;rw[Nat.add_mul,Nat.one_mul];exact C
 ·rintro σ S ⟨⟨v6,v7,v8,v9,v10,rfl⟩,bt,a6,zs,fs,a9,aT,bc,rws,b8⟩
  have e:y xs.length=xE step seen moves level:=by show List.foldl _ _ (level.take xs.length)=_;rw[ll,Ya];rfl
  rw[e]at aT rws;refine⟨dl,ob,xs,xs,u2 _ _ B,a6,?_⟩
  have sm:Same H (L2.upd S dl (DN P w dl xs)):=λb u e=>by
   by_cases z:b=dl
   ·rw[z]at e ⊢;rw[B]at e;rw[<- e];exact zD
   ·rw[zG z];exact bt b u e z
  have tz:Tups S (L2.upd S dl (DN P w dl xs)):=λb ys e=>by rw[zG (xG e a6 (λz=>by cases z))];exact e
  refine zA (zA ⟨by show 2<=sizeLine;decide,λq hq=>?_⟩);have I:=zE (show L2.upd S dl (DN P w dl xs) q=none from hq) (.tup [.ref o,.ref l]);refine k q o l zs fs _ (sm.trans I) ho zD (I _ _ ?_) ((aT.tups tz).keep I) (I _ _ ?_) ((rws.tups tz).tups (Tups.of I))
  ·rw[zG bu.symm];exact a9
  ·rw[zG bw.symm];exact bc
abbrev zco:Stmt:=top 20
theorem iC {H H':Hp}{x:JI}(s:Same H H')(h:H' x=none):H x=none:=by
 cases e:H x with
 | none=>rfl
 | some o=>rw[s _ _ e]at h;cases h
theorem zcP {P:Yo}{w:YI}{H:Hp}{as:List JI}{ls:List LvL}{a:JI}{ys:List V}(h:LvsAt P w H as ls)(e:H a=some (.lst ys)):a∉as:=by
 induction h with
 | nil=>exact Jg
 | cons q _ ih =>
  intro z;rcases Jf.mp z with rfl|y
  ·obtain⟨b,e2,_⟩:=q
   rw[e]at e2;cases e2
  ·exact ih y
theorem gQ:FnScope ["first","counts","moves","led","most","level","levels","seen","faults"] ["first","counts","moves","led","most"] (zN zco):=by trivial
theorem jE {f fN:JI}{fd dN:Yl}{L:Lam}{fr:List Str}{lsp:LSpc}(F:Fun K "climbed" "climbed" zco f fd) (G:Mgs mg) (UN:Use P w K mg base "next_level" ["level","seen","moves","led"] 6 (kE P w K L fr lsp) fN dN):FnOk P w K mg base CX0 7 f fd ["first","counts","moves","led","most"] (oQ P w K L fr lsp):=by
 refine F.ok gQ (λvs H Q E h=>?_) (λcx A outer s H vs Q E hr h=>?_)
 ·obtain⟨T,S,mv,f,I,c,moves,cl,vals,step,Ok,n,most,rfl,_⟩:=h
  rfl
 obtain⟨T,S,mv,f,I,c,moves,cl,vals,step,Ok,n,most,rfl,bc,b7,cn,bB,W,mb,bS,mp,k⟩:=h;refine⟨_,(zJ (@zY _ _ 5 _ _ _ _ gQ.nd rfl (.inl rfl) (bg hr.u3 (pvb 0 rfl) (pvb 1 rfl)) rfl (by trivial)) (zJ (@zY _ _ 6 _ _ _ _ gQ.nd rfl (.inl rfl) (x5 zC) rfl (by trivial)) (zJ (@zY _ _ 7 _ _ _ _ gQ.nd rfl (.inl rfl) j9 rfl (by trivial)) (zJ (bU YZ (zez (pvb 5 rfl) (λ_=>rfl)) (zJ (w6 (za4 hr.u3 (pvb 7 rfl) (pvb 5 rfl) ⟨rfl,rfl,rfl,rfl⟩) rfl) (zJ (xK (yN zbX (zV pf rfl G.len Ys (zB (pvb 7 rfl) zC rfl) (by decide) (by decide) rfl rfl) (pvb 4 rfl) (yu _)) (zM (zT (yE (zB xh (zB kw zC rfl) rfl)))) yZ) (zJ (w6 (mD W0 ZT ZU xM (pvb 6 rfl) (zB (pvb 5 rfl) zC rfl) rfl rfl rfl rfl rfl) rfl) (zJ (yh (zU UN hr (zB (pvb 5 rfl) (zB (pvb 7 rfl) (zB (pvb 2 rfl) (zB (pvb 3 rfl) zC rfl) rfl) rfl) rfl) rfl rfl rfl rfl) (yn rfl (zR (@zQ _ _ 5 _ gQ.nd rfl (.inl rfl) (by trivial)) (zR (@zQ _ _ 8 _ gQ.nd rfl (.inl rfl) (by trivial)) yS rfl) rfl) rfl rfl) rfl rfl rfl) (zM (xK (bT (pvb 8 rfl) (λ_=>rfl)) (zM (zT (yE (zB xh (zB (zV (di rfl true hr.units) rfl G.min rfl (zB (pvb 8 rfl) zC rfl) (by decide) (by decide) rfl rfl) zC rfl) rfl)))) yZ))))))) (zM (zT (yE (zB xh (zB (pvb 6 rfl) zC rfl) rfl)))))))),?_⟩;refine we (λDz b8=>λdl a4=>zA (zA ⟨T,I,rfl,zD,bc.tups (Tups.of (zE a4 _)),b8 _ _ ?_⟩));refine⟨by show 0<=sizeLine;decide,λd N=>λds B=>?_⟩
 have sA:Same H (L2.upd (L2.upd H dl (DN P w dl [])) dl (DN P w dl [(I,T,.ref S)])):=λb u e=>by
  rw[zG (zH e a4),zG (zH e a4)];exact e
 have a5:L2.upd (L2.upd H dl (DN P w dl [])) dl (DN P w dl [(I,T,.ref S)]) dl=some (DN P w dl [(I,T,.ref S)]):=zD;replace N:L2.upd (L2.upd H dl (DN P w dl [])) dl (DN P w dl [(I,T,.ref S)]) d=none:=N;replace B:L2.upd (L2.upd (L2.upd H dl (DN P w dl [])) dl (DN P w dl [(I,T,.ref S)])) d (.lst []) ds=none:=B;show nu _ _ _ _ (L2.upd (L2.upd (L2.upd (L2.upd H dl (DN P w dl [])) dl (DN P w dl [(I,T,.ref S)])) d (.lst [])) ds (DN P w ds []));generalize L2.upd (L2.upd H dl (DN P w dl [])) dl (DN P w dl [(I,T,.ref S)])=HA at *;have sB:=zE N (.lst []);have sC:=zE B (DN P w ds []);have a0:L2.upd HA d (.lst []) d=some (.lst []):=zD;have bo:=sC _ _ a0;have bt:=sC _ _ (sB _ _ a5);have bl:L2.upd (L2.upd HA d (.lst [])) ds (DN P w ds []) ds=some (DN P w ds []):=zD;have b4:d≠ds:=zH a0 B;have bw:dl≠ds:=zH (sB _ _ a5) B;have b3:H d=none:=iC sA N;have cf:H ds=none:=iC (sA.trans sB) B;have sX:Same H (L2.upd (L2.upd HA d (.lst [])) ds (DN P w ds [])):=(sA.trans sB).trans sC;generalize L2.upd (L2.upd HA d (.lst [])) ds (DN P w ds [])=HX at *;clear sA sB sC a0 N B a5
 refine⟨λm σ j=>∃ dl i r level seen as ls v8,σ=[some (.ref T),some (.ref S),some (.ref mv),some (.ref f),some (.int (most:Nat)),some (.ref dl),some (.ref d),some (.ref ds),v8]/\Same H j/\j dl=some (DN P w dl i)/\LvE j i level/\j ds=some (DN P w ds r)/\LvE j r seen/\dl≠ds/\j d=some (.lst (as.map V.ref))/\LvsAt P w j as ls/\ds∉as /\
  as.length<=seen.length/\LvNd level/\(∀ p∈level,yJ seen p.1=none)/\(∀ p∈level,Ok p.1/\p.2.length=n)/\seen.length<=most/\(seen≠[]\/level.length=1)/\level.length<=16*most+1/\most+1<=m+seen.length/\yd step moves most (most+1) [(I,c)] [] []=yd step moves most m level seen ls,⟨most+1,?_⟩,?_⟩
 ·exact⟨dl,_,[],[(I,c)],[],[],[],_,rfl,sX,bt,⟨λx hx=>by rw[Jm.mp hx];exact bc.tups (Tups.of sX),.cons ⟨rfl,S,rfl,sX _ _ b7⟩ .nil⟩,bl,LvE.nil,bw,bo,.nil,Jg,Je _,JJ.mpr ⟨Jg,Zi⟩,λp v=>rfl,λp v=>by rw[Jm.mp v];exact⟨bB,cn⟩,JN _,.inr rfl,by show 1<=_;lia,Je _,rfl⟩
 clear bo bt bl sX b4 bw;rintro m σ j ⟨dl,i,r,level,seen,as,ls,v8,rfl,s2,Z,C,M,J,ab,Y,R,bx,cz,nd,new,ao,sm,one,cm,em,ec⟩
 have e0:(!i.isEmpty) = !level.isEmpty:=by
  have:=C.len;cases i<;>cases level<;>first|rfl|cases this
 refine zA ⟨dl,i,rfl,.inl Z,?_⟩;rw[e0];obtain⟨m,rfl⟩:∃ m',m=m'+1:=⟨m-1,by lia⟩;by_cases le:level=[]
 ·rw[le]
  refine yR ?_;refine zA ⟨by show 2<=sizeLine;decide,λp v=>?_⟩;have s3:=zE v (.tup [.str "whole",.ref d]);refine k p _ (s2.trans s3) ?_;rw[ec,le,vF];exact⟨d,as,zD,s3 _ _ Y,R.keep s3⟩
 rw[show (!level.isEmpty)=true by cases level;exact absurd rfl le;rfl];refine xH ⟨_,λck H' hN=>⟨m,Wd _,hN⟩,?_⟩;have l2:=C.len;have l3:=J.len;refine we (λDy b9=>?_);refine zA ⟨ds,rfl,⟨_,.inl M⟩,_,rfl,dl,r,i,rfl,ab.symm,M,J.ks,⟨.inl Z,C.ks⟩,by rw[JW];lia,?_,?_⟩
 ·rcases one with z|z
  ·exact .inl λy=>z (by rw[y]at l3;exact List.length_eq_zero_iff.mp l3.symm)
  ·exact .inr (by rw[l2];exact z)
 rw[J.merge C nd new];have ba:d≠ds:=xG Y M λz=>by cases z
 have aT:L2.upd j ds (DN P w ds (r++i)) ds=some (DN P w ds (r++i)):=zD;have t3:Tups j (L2.upd j ds (DN P w ds (r++i))):=λb zs e=>by rw[zG (xG e M λz=>by cases z)];exact e
 have a6:L2.upd j ds (DN P w ds (r++i)) dl=some (DN P w dl i):=by rw[zG ab];exact Z
 have D:L2.upd j ds (DN P w ds (r++i)) d=some (.lst (as.map V.ref)):=by rw[zG ba];exact Y
 have s3:Same H (L2.upd j ds (DN P w ds (r++i))):=λb u e=>by rw[zG (zH e cf)];exact s2 b u e
 have O:LvsAt P w (L2.upd j ds (DN P w ds (r++i))) as ls:=R.but t3 λa ha o e=>by rw[zG (λ(z:a=ds)=>bx (z ▸ ha))];exact e
 have X:=C.tups t3;have a9:=(J.tups t3).app X;refine b9 _ _ ?_;show nu _ _ _ _ (L2.upd j ds (DN P w ds (r++i)));generalize L2.upd j ds (DN P w ds (r++i))=U at *;clear M Y Z R C J t3 s2;have yl:(r++i).length=seen.length+level.length:=by rw[Jn];simp_all
 refine zA ⟨ds,_,rfl,.inl aT,_,rfl,_,_,rfl,rfl,_,rfl,zbA (λz=>?_) (λz=>?_)⟩
 ·have z1:most<seen.length+level.length:=by
   have:=Yn z;rw[yl]at this;lia
  refine⟨by show 2<=sizeLine;decide,λp v=>?_⟩;have s4:=zE v (.tup [.str "open",.non]);refine k p _ (s3.trans s4) ?_;rw[ec,um le z1];exact zD
 have z1:¬ most<seen.length+level.length:=λy=>z (Jy (by rw[yl];lia));have lp:0<level.length:=List.length_pos_iff.mpr le;dsimp only[zbT];refine we (λDx cb=>?_);refine zA ⟨.inl ⟨rfl,_,SqL.of D⟩,_,rfl,d,_,_,rfl,rfl,D,by rw[Jb,JW];lia,?_⟩;have b6:L2.upd U d (.lst (as.map V.ref++[.ref dl])) d=some (.lst ((as++[dl]).map V.ref)):=by rw[JE];exact zD
 have q4:∀ {b:JI}{u:HO},U b=some u->b≠d->L2.upd U d (.lst (as.map V.ref++[.ref dl])) b=some u:=λe ne=>by rw[zG ne];exact e
 have t4:Tups U (L2.upd U d (.lst (as.map V.ref++[.ref dl]))):=λb zs e=>q4 e (xG e D λz=>by cases z);have bu:=q4 a6 (xG a6 D λz=>by cases z);have ax:=q4 aT ba.symm;have s4:Same H (L2.upd U d (.lst (as.map V.ref++[.ref dl]))):=λb u e=>q4 (s3 b u e) (zH e b3)
 have a7:LvsAt P w (L2.upd U d (.lst (as.map V.ref++[.ref dl]))) (as++[dl]) (ls++[level]):=Paired.snoc (O.but t4 λa ha o e=>by
  by_cases y:a=d
  ·exact absurd (y ▸ ha) (zcP O D)
  ·exact q4 e y) ⟨i,bu,X.tups t4⟩
 have b1:=X.tups t4;have a8:=a9.tups t4;refine cb _ _ ?_;show nu _ _ _ _ (L2.upd U d (.lst (as.map V.ref++[.ref dl])));generalize L2.upd U d (.lst (as.map V.ref++[.ref dl]))=H4 at *;clear aT D a6 O X a9 t4 s3 q4;have W4:=W.keep (Tups.of s4) λb o u e=>s4 b _ e;have nw:=tV (step:=step) (seen:=seen++level) (moves:=moves) (Ok:=Ok) level λp v m hm t e=>W.ok _ _ _ (ao p v).1 hm e;have na:=aO (step:=step) (seen:=seen++level) (moves:=moves) (n:=n) level λp v=>(ao p v).2;have ct:level.length*moves.length<=level.length*16:=Nat.mul_le_mul_left _ bS;refine we (λDw cc=>?_);refine zA (zA (zA (zA ⟨dl,ds,mv,f,i,r++i,level,seen++level,moves,cl,vals,step,Ok,n,rfl,bu,b1,ax,a8,ab,W4,ao,by lia,λp o l zs fs H5 s5 ho v b5 b2 a3 ak=>?_⟩)));refine⟨p,_,rfl,SqT.of v,rfl,_,_,rfl,_,_,rfl,rfl,cc _ _ ?_⟩;have fl:=YR ak;by_cases fe:(xE step (seen++level) moves level).fl=[]
 ·have f0:fs=[]:=by rw[fe]at fl;exact List.length_eq_zero_iff.mp fl
  refine zA ⟨false,.inl ⟨_,SqL.of a3,by rw[f0];rfl⟩,yR ?_⟩;refine⟨o,zs,r++i,_,seen++level,as++[dl],ls++[level],_,rfl,s4.trans s5,b5,b2,s5 _ _ ax,a8.keep s5,λz=>?_,s5 _ _ b6,a7.keep s5,?_,?_,nw.nd,nw.new,λp v=>⟨nw.ok p v,na.on p v⟩,by rw[Jn];simp_all,.inl ?_,?_,by rw[Jn];lia,?_⟩
  ·rw[z,ax]at ho;cases ho
  ·intro z
   rcases Js.mp z with y|y
   ·exact bx y
   ·exact ab (Jm.mp y).symm
  ·rw[Jn,Jn];show as.length+1<=_;lia
  ·intro y
   have:=JP List.length y;rw[Jn,List.length_nil]at this
   simp_all
  ·have:=na.few;lia
  ·rw[ec,uL le z1 fe]
 ·have fp:0<(fs.map V.ref).length:=by
   rw[Jb,fl];exact List.length_pos_iff.mpr fe
  refine zA ⟨true,.inl ⟨_,SqL.of a3,?_⟩,xH ?_⟩
  ·cases fs with
   | nil=>exact absurd fp (by simp)
   | cons a b=>rfl
  obtain⟨g,g1,g2⟩:=zat ak fe;refine zA ⟨l,_,1,tN H5,rfl,SqL.of a3,fp,by decide,j7 ak na.fl,?_⟩;rw[g1];refine⟨by show 2<=sizeLine;decide,λq hq=>?_⟩;have s6:=zE hq (.tup [.str "breaks",.ref g]);refine k q _ ((s4.trans s5).trans s6) ?_;rw[ec,uo le z1 fe];exact⟨g,zD,s6 _ _ g2⟩
abbrev bE:Stmt:=top 22
theorem gk {α β:Type}{F:α->β->Prop}{xs:List α}{ys:List β}(h:Paired F xs ys):∀ {i:Nat}{a:α},xs[i]?=some a->∃ b,ys[i]?=some b/\F a b:=by
 induction h with
 | nil=>intro i a e;cases e
 | cons q _ ih =>
  intro i a e
  cases i with
  | zero=>cases Jq e;exact yM rfl q
  | succ i=>exact ih e
theorem nv (ls:List LvL)(i:Nat):((ls.take i).map List.length).sum<=(ls.map List.length).sum:=by
 induction ls generalizing i with
 | nil=>rw[List.take_nil];exact Je _
 | cons a ls ih =>
  cases i with
  | zero=>exact JN _
  | succ i=>show a.length+_<=a.length+_;exact Nat.add_le_add_left (ih i) _
theorem zbl {H:Hp}{a:JI}{o:HO}(_:Same H (L2.upd H a o))(h:H a=none):H a=none:=h
theorem zep:FnScope ["levels"] ["levels"] (zN bE):=by trivial
theorem zbi (F0 c0:Nat) {f:JI}{fd:Yl}(F:Fun K "book_of" "book_of" bE f fd) (G:Mgs mg):FnOk P w K mg base CX0 1 f fd ["levels"] (cp P w F0 c0):=by
 refine F.ok zep (λR H Q E h=>?_) (λab A outer s H R Q E hr h=>?_)
 ·obtain⟨l,as,ls,rfl,_⟩:=h
  rfl
 obtain⟨l,as,ls,rfl,hl,M,t,Y,k⟩:=h;refine⟨_,(zM (zT (yK yL rfl G.tuple rfl (zB (@ky _ _ _ _ _ _ none _ _ _ (zbZ K (tCB (bO P w) (cT (lh 0) zaJ))) _ _ _ _ ["level","state"] [none,none] rfl (tR (pvb 0 rfl)) (CapOk.of (by kernel_rfl)) (λ_ _ _ _ _=>@zQ _ _ 0 _ (show (["level","state"]:List Str).Nodup from by decide +kernel) rfl (.inl rfl) (.inr rfl)) (λ_ _ _ _ _=>tR (zV (qX rfl hr.units) rfl G.sorted rfl (zB (pvb 0 rfl) zC rfl) (by decide) (by decide) rfl rfl)) (λ_ _ _ _ _=>@zQ _ _ 1 _ (show (["level","state"]:List Str).Nodup from by decide +kernel) rfl (.inl rfl) (.inr rfl)) (λ_ _ _ _ _=>xX) (λ_ _ _ _ _=>pvb 1 rfl) (by intro _;rfl) (by intro _ _;rfl)) zC rfl) (by decide) (by decide) rfl rfl))),?_⟩;refine zA ⟨l,rfl,⟨_,SqL.of hl⟩,λD N=>?_⟩;have al:as.length=ls.length:=YR M;have s1:=zE N (.lst []);refine ai (K:=K) (a:=l) (xs:=as.map V.ref) (Q:=λx H1=>zaJ (L2.wb ["levels"] [V.ref l]) H1 λR c=>(∃ p v,x::R=[V.ref p]/\((SqL K c p v/\∀ (l:JI),c l=none->Q (V.ref l) (L2.upd c l (HO.tup v)))\/SqT K c p v/\Q (V.ref p) c))) (λi acc σ c=>(∃ n m,σ=[n,m])/\Same H c/\c D=some (.lst acc)/\∃ (bs:List JI) (d:List (List KN)),acc=bs.map V.ref/\KeysAt c bs d.flatten/\bs.length=((ls.take i).map List.length).sum/\Paired (λI lv=>I.Perm (lv.map (·.1))/\I.Pairwise λx y=>uK x<=uK y) d (ls.take i)) ⟨⟨_,_,rfl⟩,s1,zD,[],[],rfl,.nil,rfl,.nil⟩ (λi acc σ c z=>⟨z.2.2.1,SqL.of (z.2.1 _ _ hl)⟩) ?_ ?_
 ·rintro i acc σ c x J ⟨⟨n,m,rfl⟩,C,L,bs,d,rfl,u,bl,bk⟩
  rw[JC]at J;obtain⟨a,ea,rfl⟩:=Y7.mp J;have ia:i<as.length:=(Ja.mp ea).1;have il:i<ls.length:=by simp_all
  obtain⟨lv,el,xs,hd,le⟩:=gk M ea;have r:lv∈ls:=JM el;have Z:ls.take (i+1)=ls.take i++[lv]:=by rw[<- Yk il,(Ja.mp el).2]
  have O:((ls.take (i+1)).map List.length).sum=bs.length+lv.length:=by rw[Z,JE,List.sum_append,<- bl];rfl
  have sum2:((ls.take (i+1)).map List.length).sum<=1000000:=JS (nv ls (i+1)) Y;have d2:=C _ _ hd;have le2:=le.keep C;refine zA ⟨a,xs,rkH c,rfl,d2,le2.len_le (t lv r).1,bL le2 (t lv r).2,λq v hq pm so=>?_⟩;have B:=zE hq (.lst v);have lq:D≠q:=zH L hq;obtain⟨cs,rfl,pc⟩:=ku (f:=V.ref) (zs:=xs.map λp=>p.2.1) pm (by rw[YX];rfl);obtain⟨I,kj,pj⟩:=eK pc le2.keys
  have sj:=mi kj (λk hk=>by
   obtain⟨p,W,rfl⟩:=Jx.mp (pj.mem_iff.mp hk)
   exact(t lv r).2 p W) so
  have cl:cs.length=lv.length:=by rw[pc.length_eq,Jb];exact le2.len
  refine⟨q,rfl,⟨_,SqL.of zD⟩,?_⟩;refine aj (K:=K) (a:=q) (zs:=cs.map V.ref) (λj acc σ g=>(∃ n m,σ=[n,m])/\Same H g/\(∀ b o,c b=some o->b≠D->g b=some o)/\g q=some (.lst (cs.map V.ref))/\acc=bs.map V.ref++(cs.map V.ref).take j/\g D=some (.lst acc)) ?_ (λj acc σ g z=>⟨z.2.2.2.2.2,SqL.of z.2.2.2.1⟩) ?_ ?_
  ·exact⟨⟨_,_,rfl⟩,C.trans B,λb o e _=>B b o e,zD,by rw[W9,JY],B _ _ L⟩
  ·rintro j x acc σ g J ⟨⟨n,m,rfl⟩,S,T,q4,rfl,X⟩
   have U:=(Ja.mp J).1;refine zA ⟨X,?_,nx U ⟨⟨_,_,rfl⟩,λb o e=>?_,λb o e ne=>?_,?_,?_,zD⟩⟩
   ·rw[Jn,JF,Jb,Jb,JW]
    rw[Jb]at U;lia
   ·rw[zG (zH e (zbl s1 N))];exact S b o e
   ·rw[zG ne];exact T b o e ne
   ·rw[zG lq.symm];exact q4
   ·rw[JK]
    congr 1
    rw[<- Yk U,(Ja.mp J).2]
  ·rintro acc σ g ⟨⟨n,m,rfl⟩,S,T,q4,rfl,X⟩
   have t4:Tups c g:=λb v e=>T b _ e (xG e L λz=>by cases z);refine nx (by rw[Jb];exact ia) ⟨⟨_,_,rfl⟩,S,X,bs++cs,d++[I],?_,?_,?_,?_⟩
   ·rw[Ya,JE]
   ·rw[List.flatten_append]
    refine rH (u.tups t4) ?_;show Paired _ cs (I++[]);rw[JY];exact kj.tups t4
   ·rw[O,Jn,cl]
   ·rw[Z];exact Paired.snoc bk ⟨pj,sj⟩
 ·rintro acc σ c ⟨⟨n,m,rfl⟩,C,L,bs,d,rfl,u,bl,bk⟩
  rw[Jb,al,Ya]at bk;refine⟨D,_,rfl,.inl ⟨SqL.of L,λp W=>?_⟩⟩;have B:=zE W (.tup (bs.map V.ref));exact k p bs _ _ (C.trans B) zD (u.tups (Tups.of B)) ⟨d,rfl,bk⟩
abbrev kJ:Stmt:=top 1
abbrev kS:Stmt:=top 2
abbrev kO:Stmt:=top 3
def oI (K:Jl):Sp:=λa H Q _=>∃ x,a=[x]/\AnyT K H x/\Q (.bl (lP x)) H
def oR (K:Jl):Sp:=λa H Q _=>∃ x b,a=[x,.int b]/\AnyT K H x/\Q (.bl (yw b x)) H
def tO (K:Jl):Sp:=λa H Q _=>∃ x m,a=[x,.int m]/\AnyT K H x/\Q (.bl (uZ H m x)) H
theorem zeg:FnScope ["thing"] ["thing"] (zN kJ):=by trivial
theorem bz {f:JI}{fd:Yl}(F:Fun K "is_whole" "is_whole" kJ f fd) (G:Mgs mg):FnOk P w K mg base CX0 1 f fd ["thing"] (oI K):=by
 refine F.ok zeg (λa H Q E h=>?_) (λd A outer s H a Q E e h=>?_)
 ·obtain⟨x,rfl,_⟩:=h
  rfl
 obtain⟨x,rfl,c,k⟩:=h;refine⟨_,(zM (zT (ud (zV qL rfl G.isi rfl (zB (pvb 0 rfl) (zB (@tU _ _ (.ty "int") (.type "int") _ rfl G.int rfl rfl (by decide) (by decide)) zC rfl) rfl) (by decide) (by decide) rfl rfl) (rE (zcy (zV qL rfl G.isi rfl (zB (pvb 0 rfl) (zB (@tU _ _ (.ty "bool") (.type "bool") _ rfl G.bool rfl rfl (by decide) (by decide)) zC rfl) rfl) (by decide) (by decide) rfl rfl)))))),?_⟩;obtain⟨t,I⟩:=c.isi;refine zA ⟨_,"int",_,_,rfl,I.ty,I.int,_,rfl,?_⟩
 cases x with
 | int i=>exact xH (zA ⟨_,"bool",_,_,rfl,I.ty,I.bool,_,rfl,k⟩)
 | bl b=>exact xH (zA ⟨_,"bool",_,_,rfl,I.ty,I.bool,_,rfl,k⟩)
 | non=>exact yR k
 | str z=>exact yR k
 | flt z=>exact yR k
 | byt z=>exact yR k
 | ref z=>exact yR k
 | ty z=>exact yR k
theorem zei:FnScope ["thing","bound"] ["thing","bound"] (zN kS):=by trivial
theorem aH {f d:JI}{fd g:Yl}(F:Fun K "is_below" "is_below" kS f fd) (G:Mgs mg) (l:Use P w K mg base "is_whole" ["thing"] 1 (oI K) d g):FnOk P w K mg base CX0 2 f fd ["thing","bound"] (oR K):=by
 refine F.ok zei (λa H Q E h=>?_) (λm A outer s H a Q E c h=>?_)
 ·obtain⟨x,b,rfl,_⟩:=h
  rfl
 obtain⟨x,b,rfl,j,k⟩:=h;refine⟨_,(zM (zT (ud (zU l c (zB (pvb 0 rfl) zC rfl) rfl rfl rfl rfl) (rE (bj zdB mE zK (pvb 0 rfl) (pvb 1 rfl) (by with_unfolding_all rfl)))))),?_⟩;refine zA (yM rfl ⟨j,_,rfl,?_⟩)
 cases x with
 | int i =>
  refine xH (zA ⟨_,_,rfl,rfl,_,rfl,?_⟩);have e:yw b (.int i)=(decide (0<=i) && decide (i<b)):=rfl;rw[e]at k;by_cases z:(0:Int)<=i
  ·rw[Jy z]at k ⊢
   exact xH (zA ⟨_,_,rfl,rfl,k⟩)
  ·rw[Jr z]at k ⊢
   exact yR k
 | bl z=>exact yR k
 | non=>exact yR k
 | str z=>exact yR k
 | flt z=>exact yR k
 | byt z=>exact yR k
 | ref z=>exact yR k
 | ty z=>exact yR k
theorem zeh:FnScope ["thing","many"] ["thing","many"] (zN kO):=by trivial
theorem aF {f:JI}{fd:Yl}(F:Fun K "is_row" "is_row" kO f fd) (G:Mgs mg):FnOk P w K mg base CX0 1 f fd ["thing","many"] (tO K):=by
 refine F.ok zeh (λc H Q E h=>?_) (λi A outer s H c Q E j h=>?_)
 ·obtain⟨x,m,rfl,_⟩:=h
  rfl
 obtain⟨x,m,rfl,g,k⟩:=h;refine⟨_,(zM (zT (ud (zV qL rfl G.isi rfl (zB (pvb 0 rfl) (zB (@tU _ _ (.ty "tuple") (.type "tuple") _ rfl G.tuple rfl rfl (by decide) (by decide)) zC rfl) rfl) (by decide) (by decide) rfl rfl) (rE (tT mF (zV zZ rfl G.len Ys (zB (pvb 0 rfl) zC rfl) (by decide) (by decide) rfl rfl) (pvb 1 rfl) (yu _)))))),?_⟩;obtain⟨t,I⟩:=g.isi;refine zA ⟨_,"tuple",_,_,rfl,I.ty,I.tup,_,rfl,?_⟩
 cases z:zx H x with
 | none =>
  have e:uZ H m x=false:=by unfold uZ;rw[z]
  rw[e]at k
  exact yR k
 | some b =>
  have e:uZ H m x=decide ((b.length:Int)=m):=by unfold uZ;rw[z]
  rw[e]at k;obtain⟨a,rfl,d⟩:=yq z;exact xH (zA ⟨a,_,rfl,.inr (SqT.of d),_,rfl,rfl,by rw[nG];exact k⟩)
end
end K65
namespace L2
open PySem PySem.Spec PyProof.Rows Own
def DCW (P:Yo)(w:YI)(J:It)(g:TG)(tk n:TE)(d:JI)(Q:VK)(W:Nat->Nat->KVN->St->Hp->Prop):Prop :=
 ∀ i m c f e,W i m c f e->(J.stop i e/\Q (.ref d) e)\/(J.go i e/\∀ x l,J.yld i e x l->g x f l λa p=>tk a p λy o=>n a o λv h=>∃ b k,y=.ref b/\h d=some (DN P w d c)/\KsIn h c/\NKey h k b/\c.length<sizeLine /\
  ∃ j,j<m/\W (i+1) j (xJ c k b v) a (upd h d (DN P w d (xJ c k b v))))
def tDC (P:Yo)(w:YI)(cap:List (Option Nat))(b:TI)(g:TG)(tk c:TE):TE:=λσ H Q=>b σ H λJ a=>∀ d,a d=none ->
 ∃ W:Nat->Nat->KVN->St->Hp->Prop,(∃ m,W 0 m [] (nP cap σ) (upd a d (DN P w d [])))/\DCW P w J g tk c d Q W
theorem fc {X:Cx}{pins:List (JI × Obj)}{σ:St}{H:Hp}{s:JO}{a b:JI}{xs:KVN}{k:KN}{v:V}{r:Jo}{E:Jo->JO->Prop}{Q:Unit->JO->Prop}(u:X.A.units+3<cLine)(I:Inv X pins σ H s)(e:H a=some (DN X.prog X.w a xs))(ks:KsIn H xs)(i:NKey H k b)(g:RelV v r)(l:xs.length<sizeLine)(h:∀ d,Inv X pins σ (upd H a (DN X.prog X.w a (xJ xs k b v))) d->Q () d) :
  wpAny (model X.prog X.w) X.A (dictSet a (.ref b) r) Q E s:=by
 obtain⟨z,p,f,rel,t⟩:=uI I.hok (.inl e) ks;have j:f.length<=sizeLine:=by rw[<- YR rel];exact z
 have o:(xJ xs k b v).length<=sizeLine:=by have:=vw xs k b v;lia
 refine wpAny_dictSet_heap (knd:=xF X.prog X.w) (k:=k) (hsz:=j) (show X.A.units+2<cLine by lia) (wO I.hok i) t λw c m=>h _ ?_;exact tZ I (by rw[e];exact True.intro) m (let ⟨q,_,_,n,_⟩:=c;⟨q,n⟩) (dn_new o p (putN_rel rel k b g) c)
theorem zbM {prog:Yo}{w:YI}{A:YO}{R:Result->JO->Prop}{s:JO}{i g tg iter:Expr}{scope:Scope}{pos:Pos}{it:Jo}{D:JI}{env:Env}(J:Nat->JO->Prop)(turn:∀ n s,J n s->wpAny (model prog w) A (pyNext it) (λr a=>match r with
   | none=>R (.ok .next) a
   | some v=>wpAny (model prog w) A (letOwnedTupleGo tg it v) (λ_ b=>wpAny (model prog w) A (assign tg env v) (λ_ c=>wpAny (model prog w) A (eval i env) (λx d=>wpAny (model prog w) A (eval g env) (λy e=>wpAny (model prog w) A (dictSet D x y) (λ_ z=>∃ m,m<n/\J m z) NoX e) NoX d) NoX c) NoX b) NoX a) NoX s)(n:Nat)(h:J n s) :
  codeAny (model prog w) A (.compLoop (.DictComp i g [⟨tg,iter,[],0⟩] scope pos) 0 it (.ref D) env) R s:=by
 refine codeAny_loop rfl J (λn s k=>?_) n h;show wpAny _ A ((compTurn (.DictComp i g [⟨tg,iter,[],0⟩] scope pos) 0 it (.ref D) env).onRaise (λx=>do noteFrame x env;theTreesLotGoes x)) _ _ s;refine wpAny_noted ?_;rw[compTurn_dict];refine J0 (ZG (J0 (JQ (turn n s k) (λr a j=>?_) λ_ _ z=>z.elim)))
 cases r with
 | none=>exact J9 j
 | some v =>
  refine J0 (JQ j (λ_ b t=>?_) λ_ _ z=>z.elim);refine J0 (JQ t (λ_ c q=>?_) λ_ _ z=>z.elim);dsimp only;rw[YS];refine J0 (J9 ?_);rw[Jh rfl];refine J0 (J0 (JQ q (λx d p=>J0 (JX (JQ p (λy e o=>J0 (ZG (JX (JQ o (λ_ f l=>?_) λ_ _ z=>z.elim)))) λ_ _ z=>z.elim))) λ_ _ z=>z.elim));exact J9 ⟨rfl,l⟩
theorem bi {X:Cx}{kx vx tg iter:Expr}{scope:Scope}{pos:Pos}{wi:TI}{g:TG}{tk tv:TE}{N':List Str}{cap:List (Option Nat)}(hu:X.A.units+3<cLine)(hc:X.calm=true)(hi:PI X tg iter wi)(R:CapOk X.N N' X.env.scope scope cap)(hg:∀ C s₀ H₀ fp pins,PG (yW X N' scope C s₀ H₀ fp pins) tg g)(hk:∀ C s₀ H₀ fp pins,PE (yW X N' scope C s₀ H₀ fp pins) kx tk)(hv:∀ C s₀ H₀ fp pins,PE (yW X N' scope C s₀ H₀ fp pins) vx tv)(hs:∀ x,foldedSetIterable iter X.env x=pure x:=by intro _;rfl):PE X (.DictComp kx vx [⟨tg,iter,[],0⟩] scope pos) (tDC X.prog X.w cap wi g tk tv):=by
 intro pins s σ H Q I h;rw[arm_eval_DictComp];have K:∀ y∈scope.names,y.2=.free->∃ c,X.env.cells.lookup y.1=some c:=λy hy hf=>I.ok.has y.1 (R.free y hy hf);refine wpAny_comprehension_free (use:=none) rfl hs (vc K) R.kind R.names (thn (hi pins s σ H _ I h) λv s1 h1=>thn h1 λb6 D h2=>?_);obtain⟨it,fp,tn,J,H2,e,I2,T,a3,P,body⟩:=h2;subst e;have ax:H2 D.heap.objs.size=none:=I2.hok.fresh (Je _);obtain⟨W,⟨m0,w0⟩,turn⟩:=body D.heap.objs.size ax
 have w:=I2.laid (a:=D.heap.objs.size) (o:=DN X.prog X.w D.heap.objs.size []) (h':=D.heap.push { cls:=.type "dict",data:=.dict #[] }) (t':=D.toks) (λ_ _ q=>J7 _ q) (Je _)
  (dn_new (vs:=[]) (JN _) (Zt.mpr (JT I2.big)) .nil (Heap.DictOfH.new _))
 refine JZ (wpAny_newFunctionEnv R.nocell (by intro y hy;simp at hy) (λB G F=>?_) R.kind);dsimp only at G F ⊢;generalize hl:D.heap.objs.size=l at *;generalize hP:D.heap.push { cls:=.type "dict",dict:=none,data:=.dict #[] }=P2 at *;generalize bB:upd H2 l (DN X.prog X.w l [])=H3 at *;have old:∀ b o,P2.get? b=some o->B.get? b=some o:=λb o e=>F.extBut b o (JD (Jd e)) (J7 _ e);have ao:∀ b o,D.heap.get? b=some o->P2.get? b=some o:=λb o e=>hP ▸ J7 _ e
 have a8:∀ b∈fp,b<l:=λb f=>by
  obtain⟨o,e,_⟩:=T.obj _ _ a3 b f;rw[<- hl];exact Jd e
 have b0:∀ b∈fp,H3 b=none:=λb f=>by
  rw[<- bB,zG (JD (a8 b f))];exact(P b f).1
 have bx:P2.objs.size=l+1:=by rw[<- hP,YW,hl]
 have A:∀ x c,(vI X.env.cells scope.names []).lookup x=some c->X.env.cells.lookup x=some c:=λx c e=>wu _ _ x c K (λ_ _ z=>by simp at z) e;generalize a5:({ D with heap:=P2,toks:=D.toks }:JO)=s3 at *;have t:s3.heap=P2:=by rw[<- a5]
 let Y:=yW X N' scope P2.objs.size s3 H3 fp pins
 have E:Y.Ok:=by
  refine⟨w.ok.mod,R.kind,w.ok.glob,w.ok.blt,by show s3.heap.objs.size<=P2.objs.size;rw[t];exact Je _,λx y c e1 e2=>w.ok.inj x y c (A x c e1) (A y c e2),λx V=>?_,λx c V=>absurd (show false=true from V) Jp,w.ok.hd,w.ok.frames,.inl rfl,λb f=>⟨?_,λx c e=>?_⟩,w.bs,
   JS w.ok.bsz w.sz,λb o e f=>?_,λb f hz=>?_,w.stack,w.stkFree⟩
  ·have bl:scope.names.lookup x=some .free:=by
    rcases V with V|V
    ·rcases yz V with z|z
     ·exact absurd rfl (R.nocell _ (wQ z))
     ·exact z.2
    ·rcases yz V with z|z
     ·exact z
     ·exact z.2
   exact xT _ _ x bl
  ·exact JD (by show b<P2.objs.size;rw[bx];exact Zq (a8 b f))
  ·exact(P b f).2.2.2.2.1 x c (A x c e)
  ·rcases (P b f).2.2.2.1 with z|z
   ·exact w.ok.noex b o e z
   ·exact absurd (JG (Jd e) (JS w.ok.bsz z)) (Yv _)
  ·rcases Jf.mp (w.stkSub b hz) with z|z
   ·exact(P b f).2.1 z
   ·exact(P b f).2.2.1 z
 have bw:Inv Y [] (nP cap σ) H3 { D with heap:=B,toks:=D.toks }:=by
  refine⟨E,by show D.os=s3.os;rw[<- a5],I2.bare,by show Un _ _ _ _ s3.heap B;rw[t];exact Un.kept old,⟨_,G,λj x v e1 e2 e3=>?_⟩,λx c e=>?_,?_,λx c e=>w.freeC x c (A x c e),λp hp=>?_,λb o e=>?_,?_⟩
  ·have b2:N'[j]?=some x:=e1
   unfold nP at e2;rw[JC]at e2
   cases ec:cap[j]? with
   | none=>rw[ec]at e2;cases e2
   | some oc =>
    rw[ec]at e2
    cases oc with
    | none=>cases e2
    | some i =>
     have b1:σ[i]?=some (some v):=by
      cases ei:σ[i]? with
      | none=>simp[ei]at e2
      | some v' =>
       simp[ei]at e2;rw[e2]
     have hz:(x,some i)∈N'.zip cap:=by
      refine JM (i:=j) ?_;rw[YK];exact⟨b2,ec⟩
     obtain⟨hN,hf,hk⟩:=R.cap _ hz i rfl;obtain⟨m,hn,bo⟩:=w.loc;obtain⟨u,r,lk⟩:=bo i x v hN b1 (by rcases hk with z|z;exact .inr (.inl z);exact .inr (.inr z));refine⟨u,r,.inr ⟨?_,?_⟩⟩
     ·exact wJ hf
     ·rcases lk with ⟨z,_⟩|⟨_,c,bu,ab⟩
      ·have z':X.env.scope.names.lookup x=some .local:=z
       rcases hk with q|q
       ·rw[q]at z';cases z'
       ·rw[q]at z';cases z'
      ·obtain⟨c',a6⟩:=xT (cells:=X.env.cells) scope.names [] x hf
       have:=A x c' a6;rw[bu]at this;cases this;obtain⟨ob,e,d⟩:=ab;rw[t]at e;exact⟨c,a6,ob,old c ob e,d⟩
  ·obtain⟨v,ob,e',d⟩:=w.cell x c (A x c e)
   rw[t]at e';exact⟨v,ob,old c ob e',d⟩
  ·refine w.hok.fresh ?_
   rw[t];exact Je _
  ·have ak:p∈X.pn++pins:=(Js.mp hp).elim (λz=>z) (λz=>nomatch z)
   obtain⟨e,n,ne,nf,d⟩:=w.pin p ak;rw[t]at e;refine⟨old _ _ e,n,JD (Jd e),λz=>?_,d⟩;rcases Jf.mp (w.stkSub _ z) with q|q
   ·exact ne q
   ·exact nf q
  ·have:=w.hok.kept (h':=B) (λb u q=>old b u (by rw[<- t];exact q))
   exact this b o e
  ·show (cap.map _).length=N'.length
   rw[Jb,R.len]
 have N:∀ {L:Hp},(∀ b∈fp,L b=none)->∀ b∈fp,FpOk Y [] L b:=λ{L} hn b f=>by
  refine⟨hn b f,(E.exf b f).1,E.exfs b f,.inl f,(E.exf b f).2,λp hp=>?_⟩;have ak:p∈X.pn++pins:=(Js.mp hp).elim (λz=>z) (λz=>nomatch z);exact(P b f).2.2.2.2.2 p ak
 have a4:tn 0 B:=T.keep 0 _ _ a3 λb f o e=>old b o (ao b o e)
 have loop:codeAny (model X.prog X.w) X.A (.compLoop (.DictComp kx vx [⟨tg,iter,[],0⟩] scope pos) 0 (.ref it) (.ref l) Y.env) (compPost (model X.prog X.w) X.A X.xe none (EP X pins σ Q) (.ref l) P2.objs.size) { D with heap:=B,toks:=D.toks }:=by
  refine zbM (λn s'=>∃ i acc M L,Inv Y [] M L s'/\tn i s'.heap/\(∀ b∈fp,L b=none)/\W i n acc M L) ?_ m0 ⟨0,[],_,H3,bw,a4,b0,w0⟩;rintro n s4 ⟨i,acc,U,H4,I4,a0,a7,w4⟩;have q4:=turn i n acc U H4 w4;rcases q4 with ⟨stop,qn⟩|⟨go,step⟩
  ·refine thn (T.done Y rfl rfl rfl hc i [] s4 U H4 Y.xe I4 (N a7) a0 stop) λr s5 ⟨hr,I5⟩=>?_
   subst hr;obtain⟨m,hn,_⟩:=id I5.loc;have un:Un (frs X.stack) fp H3 H4 s3.heap s5.heap:=I5.base;have a9:s3.heap.objs.size<=P2.objs.size:=by rw[t];exact Je _
   have IX:Inv X pins σ H4 s5:=w.call' (ch:=fp) I5.os un I5.hok I5.bare λb f=>⟨(P b f).2.2.2.1,(P b f).2.1,(P b f).2.2.2.2.1,(P b f).2.2.2.2.2⟩;exact⟨m,hn,λh' sb=>⟨.ref l,H4,IX.gone (w.fpOk a9 I5.free) sb,rfl,qn⟩⟩
  ·refine thn (T.item Y rfl rfl rfl hc i [] s4 U H4 Y.xe I4 (N a7) a0 go) λr s5 ⟨u,hr,h5⟩=>?_
   subst hr;refine thn h5 λ_ s6 ⟨x,H6,I6,r6,y6,Z,bS⟩=>?_;have b3:=I6.pinned (N bS) (T.obj _ _ Z);refine thn (hg _ _ _ _ _ _ s6 U H6 x u _ b3 r6 (step x H6 y6)) λ_ s7 ⟨aT,H7,I7,q7⟩=>?_
   have again:∀ {S:St}{H9:Hp}{s9:JO}{O:KVN},Inv Y ([]++wK fp s6.heap) S H9 s9->(∃ m',m'<n/\W (i+1) m' O S H9)->∃ m,m<n/\∃ i acc M L,Inv Y [] M L s9/\tn i s9.heap/\(∀ b∈fp,L b=none)/\W i m acc M L:=λ{S H9 s9 O} I9 ⟨m',hm,w9⟩=>by
    refine⟨m',hm,i+1,O,S,H9,I9.unpinned,T.keep _ _ _ Z λb f o e=>(I9.pin (b,o) (JA _ (JA _ (yb f e)))).1,λb f=>?_,w9⟩;obtain⟨o,e,d⟩:=T.obj _ _ Z b f;exact(I9.pin (b,o) (JA _ (JA _ (yb f e)))).2.1
   refine thn (hk _ _ _ _ _ _ s7 aT H7 _ I7 q7) λu1 s8 ⟨y,H8,I8,r8,q8⟩=>thn (hv _ _ _ _ _ _ s8 aT H8 _ I8 q8) λu2 s9 ⟨v,H9,I9,r9,b,k,ey,bt,ba,bc,l9,q9⟩=>?_;subst ey;cases (show u1=Value.ref b from r8);exact fc (X:=Y) hu I9 bt ba bc r9 l9 λb5 b4=>again b4 q9
 exact codeAny_compStart_dict loop (T.self X.A 0 _ _ _ a4 loop)
end L2
namespace L2
open PySem PySem.Spec PyProof.Rows Own Bn
inductive PlO:HO->Prop
 | tup (xs:List V):PlO (.tup xs)
 | lst (xs:List V):PlO (.lst xs)
 | dK:PlO (.dK [])
def KpN (H H':Hp):Prop:=∀ b o,H b=some o->PlO o->H' b=some o
theorem KpN.same {H H':Hp}(s:Same H H'):KpN H H':=λb o e _=>s b o e
theorem KpN.trans {H c a:Hp}(x:KpN H c)(y:KpN c a):KpN H a:=λb o e n=>y b o (x b o e n) n
theorem KpN.but {P:JI}{q:Array Jo}{H H':Hp}(b:But P H H')(a:H P=some (.tbl q)):KpN H H':=λc o e n=>b c o e (xG e a λz=>by subst z;cases n)
theorem KpN.strip {H:Hp}{cl:List (Str × JI)}(fz:CellsFz cl H):KpN H (strip cl H):=λb o e n=>by
 rw[zw]
 ·exact e
 ·intro a
  obtain⟨u,q⟩:=fz b a;rw[e]at q;cases q;cases n
theorem KpN.tups {H H':Hp}(k:KpN H H'):Tups H H':=λb a e=>k b _ e (.tup a)
instance memN (k:KN) (ks:List KN):Decidable (k∈ks):=decidable_of_iff (ks.any (λx=>decide (x=k))=true) (by simp)
def ddN (ks:List KN)(k:KN):List KN:=if k∈ks then ks else ks++[k]
def ddL (ss:List KN):List KN:=ss.foldl ddN []
theorem lH (ss:List KN)(s:KN):ddL (ss++[s])=ddN (ddL ss) s:=by unfold ddL;rw[YQ];rfl
theorem iX (ss:List KN):(∀ x,x∈ddL ss↔x∈ss)/\(ddL ss).length<=ss.length/\((ddL ss).length=ss.length↔ss.Nodup):=by
 rcases List.eq_nil_or_concat ss with rfl|⟨ss,s,rfl⟩
 ·exact⟨λx=>Iff.rfl,Je _,⟨λ_=>Zi,λ_=>rfl⟩⟩
 ·rw[List.concat_eq_append]
  obtain⟨b,k,j⟩:=iX ss;rw[lH]
  have f:(ss++[s]).Nodup↔ss.Nodup/\s∉ss:=by
   rw[ZK];constructor
   ·rintro⟨a,_,c⟩
    exact⟨a,λz=>c s z s (.head _) rfl⟩
   ·rintro⟨a,c⟩
    exact⟨a,JJ.mpr ⟨Jg,Zi⟩,λx i y g e=>c (by rw[<- Jm.mp g,<- e];exact i)⟩
  unfold ddN;by_cases c:s∈ddL ss
  ·rw[Jh c]
   have d:=(b s).mp c;refine⟨λx=>?_,by rw[Jn];show _<=_+1;lia,?_⟩
   ·rw[b,Js,Jm]
    exact⟨.inl,λz=>z.elim id λy=>y ▸ d⟩
   ·rw[f,Jn]
    exact⟨λz=>by have:(ddL ss).length=ss.length+1:=z;lia,λz=>absurd d z.2⟩
  ·rw[Jc c]
   have d:s∉ss:=λz=>c ((b s).mpr z);refine⟨λx=>?_,by rw[Jn,Jn];show _+1<=_+1;lia,?_⟩
   ·rw[Js,Js,b]
   ·rw[f,Jn,Jn,<- j]
    exact⟨λz=>⟨by have:(ddL ss).length+1=ss.length+1:=z;lia,d⟩,λz=>by rw[z.1]⟩
termination_by ss.length
decreasing_by rename_i h;rw[h,List.length_concat];exact Wd _
def uN (a:V->Option KN)(xs:List V)(k0:KN)(moves:List Nat)(step:KN->Nat->Option KN):Bool:=match xs.mapM a with
 | none=>false
 | some ss=>(decide ss.Nodup && decide (k0∈ss)) && ss.all λs=>moves.all λm=>match step s m with|none=>false|some t=>decide (t∈ss)
theorem jj {a:V->Option KN}{xs:List V}{k0:KN}{moves:List Nat}{step:KN->Nat->Option KN}(h:xs.mapM a=none):uN a xs k0 moves step=false:=by
 unfold uN;rw[h]
theorem qO {a:V->Option KN}{xs:List V}{ss:List KN}{k0:KN}{moves:List Nat}{step:KN->Nat->Option KN}(h:xs.mapM a=some ss):uN a xs k0 moves step=((decide ss.Nodup && decide (k0∈ss)) && ss.all λs=>moves.all λm=>match step s m with|none=>false|some t=>decide (t∈ss)):=by
 unfold uN;rw[h]
theorem fu {α β:Type}{f:α->Option β}{xs:List α}:xs.mapM f=none↔∃ x∈xs,f x=none:=by
 induction xs with
 | nil=>simp
 | cons x xs ih =>
  rw[List.mapM_cons]
  cases e:f x with
  | none=>exact⟨λ_=>⟨x,.head _,e⟩,λ_=>rfl⟩
  | some y =>
   cases g:xs.mapM f with
   | none =>
    obtain⟨z,a,q⟩:=ih.mp g
    exact⟨λ_=>⟨z,.tail _ a,q⟩,λ_=>rfl⟩
   | some b =>
    refine⟨λz=>(by cases z),λ⟨z,a,q⟩=>?_⟩;rcases Jf.mp a with rfl|w
    ·rw[e]at q;cases q
    ·rw[ih.mpr ⟨z,w,q⟩]at g;cases g
theorem pB {α β:Type}{f:α->Option β}:∀ {xs:List α}{ys:List β},xs.mapM f=some ys->xs.length=ys.length/\∀ (i:Nat) x,xs[i]?=some x->∃ y,ys[i]?=some y/\f x=some y
 | [],ys,h=>by
  rw[List.mapM_nil]at h;cases h
  exact⟨rfl,λi x e=>by cases e⟩
 | x::xs,ys,h=>by
  rw[List.mapM_cons]at h
  cases e:f x with
  | none=>rw[e]at h;cases h
  | some y =>
   rw[e]at h
   cases g:xs.mapM f with
   | none=>rw[g]at h;cases h
   | some zs =>
    rw[g]at h;cases h;obtain⟨c,b⟩:=pB g;refine⟨JP (· + 1) c,λi u a=>?_⟩
    cases i with
    | zero=>cases a;exact⟨y,rfl,e⟩
    | succ i=>exact b i u a
section
variable {K:Jl}{a:JI}{xs:List V}{g g1:TG}{wi1:TI}{tt:TT}{te tk tv:TE}{l:JI}{σ:St}{H:Hp}{Q:VK}
theorem zbx (c:Nat->List V->St->Hp->Prop)(z:c 0 [] σ H)(w:∀ i acc σ H,c i acc σ H->H l=some (.lst acc)/\SqT K H a xs)(v:∀ i acc σ H x,xs[i]?=some x->c i acc σ H->g x σ H λb q=>wi1 b q λn o =>
   ∃ d:Nat->Nat->List V->St->Hp->Prop,(∃ k,d 0 k acc b o)/\LCW1 n g1 tt te l (λac h G=>Nx xs.length i (c (i+1) ac h G)) d)(hd:∀ acc σ H,c xs.length acc σ H->Q (.ref l) H):∃ W:Nat->Nat->List V->St->Hp->Prop,(∃ m,W 0 m [] σ H) /\
   ∀ i m acc f H',W i m acc f H'->H' l=some (.lst acc)/\(((Itt K a).stop i H'/\Q (.ref l) H')\/((Itt K a).go i H'/\∀ x r,(Itt K a).yld i H' x r->g x f r λb q=>wi1 b q λn o =>
    ∃ d:Nat->Nat->List V->St->Hp->Prop,(∃ k,d 0 k acc b o)/\LCW1 n g1 tt te l (λac h G=>∃ t,t<m/\W (i+1) t ac h G) d)):=by
 refine⟨λi m acc σ H=>m=xs.length-i/\i<=xs.length/\c i acc σ H,⟨xs.length,by simp,JN _,z⟩,?_⟩;rintro i m acc σ H ⟨rfl,hi,p⟩;obtain⟨u,j⟩:=w i acc σ H p;refine⟨u,?_⟩;by_cases s:i<xs.length
 ·refine .inr ⟨⟨xs,xs[i],j,J6 s⟩,λx r ⟨e,y⟩=>?_⟩
  subst e;exact v i acc σ _ x (y xs j) p
 ·obtain rfl:i=xs.length:=by lia
  exact .inl ⟨⟨xs,j,Je _⟩,hd acc σ H p⟩
theorem zc7 {P:Yo}{w:YI}(d:Nat->KVN->St->Hp->Prop)(q:d 0 [] σ H)(o:∀ i acc σ H,d i acc σ H->SqT K H a xs)(n:∀ i x acc σ H,xs[i]?=some x->d i acc σ H->g x σ H λc s=>tk c s λy r=>tv c r λv f=>∃ b k,y=.ref b/\f l=some (DN P w l acc)/\KsIn f acc/\NKey f k b/\acc.length<sizeLine/\Nx xs.length i (d (i+1) (xJ acc k b v) c (upd f l (DN P w l (xJ acc k b v)))))(hd:∀ acc σ H,d xs.length acc σ H->Q (.ref l) H):∃ W:Nat->Nat->KVN->St->Hp->Prop,(∃ m,W 0 m [] σ H)/\DCW P w (Itt K a) g tk tv l Q W:=by
 refine⟨λi m acc σ H=>m=xs.length-i/\i<=xs.length/\d i acc σ H,⟨_,rfl,JN _,q⟩,?_⟩;rintro i m acc σ H ⟨rfl,hi,p⟩;have h:=o i acc σ H p;by_cases j:i<xs.length
 ·refine .inr ⟨⟨xs,xs[i],h,J6 j⟩,λx t ⟨e,y⟩=>?_⟩
  subst e;exact n i x acc σ _ (y xs h) p
 ·obtain rfl:i=xs.length:=by lia
  exact .inl ⟨⟨xs,h,Je _⟩,hd acc σ H p⟩
end
end L2
namespace Bn
open PySem L2 Own
def Deep (K:Jl)(H:Hp):Nat->V->Prop
 | 0,x=>AnyT K H x
 | n+1,x=>AnyT K H x/\∀ xs,zx H x=some xs->xs.length<=1000/\∀ y∈xs,Deep K H n y
theorem Deep.any {K:Jl}{H:Hp}:∀ {n:Nat}{x:V},Deep K H n x->AnyT K H x
 | 0,_,h=>h
 | _+1,_,h=>h.1
theorem bH {K:Jl}{H H':Hp}{x:V}(s:Same H H')(a:AnyT K H x):zx H' x=zx H x:=by
 cases z:zx H x with
 | some e =>
  obtain⟨b,rfl,c⟩:=yq z
  exact yQ (s _ _ c)
 | none =>
  cases y:zx H' x with
  | none=>rfl
  | some d =>
   obtain⟨b,rfl,c⟩:=yq y;obtain⟨T,ty,_⟩:=a
   cases ty with
   | tup h=>rw[yQ h]at z;cases z
   | lst h=>rw[s _ _ h]at c;cases c
   | frz h=>rw[s _ _ h]at c;cases c
   | dK h=>rw[s _ _ h]at c;cases c
   | dT h=>rw[s _ _ h]at c;cases c
   | ins h=>rw[s _ _ h]at c;cases c
def yp (H:Hp)(many b:Int)(x:V):Bool:=match zx H x with
 | some a=>decide ((a.length:Int)=many) && a.all (yw b)
 | none=>false
end Bn
namespace L2
open PySem PySem.Spec PyProof.Rows Own Bn
def An (H:Hp)(x:V):Prop:=Flat x\/∃ a,x=.ref a/\((∃ b,H a=some (.tup b))\/(∃ b,H a=some (.lst b))\/H a=some (.dK []))
theorem An.any {K:Jl}{H:Hp}{x:V}(h:An H x):AnyT K H x:=by
 rcases h with h|⟨a,rfl,⟨b,h⟩|⟨b,h⟩|h⟩
 ·exact(Good.flat (D:=λ_=>True) h).any
 ·exact⟨_,.tup h,_,rfl⟩
 ·exact⟨_,.lst h,_,rfl⟩
 ·exact⟨_,.dK h,_,rfl⟩
theorem An.kp {H H':Hp}{x:V}(k:KpN H H')(h:An H x):An H' x:=by
 rcases h with h|⟨a,e,⟨b,h⟩|⟨b,h⟩|h⟩
 ·exact .inl h
 ·exact .inr ⟨a,e,.inl ⟨b,k _ _ h (.tup _)⟩⟩
 ·exact .inr ⟨a,e,.inr (.inl ⟨b,k _ _ h (.lst _)⟩)⟩
 ·exact .inr ⟨a,e,.inr (.inr (k _ _ h .dK))⟩
theorem An.row {H H':Hp}{x:V}(k:KpN H H')(h:An H x):zx H' x=zx H x:=by
 rcases h with h|⟨a,e,⟨c,h⟩|⟨c,h⟩|h⟩
 ·cases x<;>first|rfl|exact h.elim
 ·subst e;rw[yQ h,yQ (k _ _ h (.tup _))]
 ·subst e
  have b:=k _ _ h (.lst _);simp only[zx,h,b]
 ·subst e
  have b:=k _ _ h .dK;simp only[zx,h,b]
def Dp (H:Hp):Nat->V->Prop
 | 0,x=>An H x
 | n+1,x=>An H x/\∀ xs,zx H x=some xs->xs.length<=1000/\∀ y∈xs,Dp H n y
theorem Dp.an {H:Hp}:∀ {n:Nat}{x:V},Dp H n x->An H x
 | 0,_,h=>h
 | _+1,_,h=>h.1
theorem Dp.deep {K:Jl}{H:Hp}:∀ {n:Nat}{x:V},Dp H n x->Deep K H n x
 | 0,_,h=>h.any
 | _+1,_,h=>⟨h.1.any,λxs e=>⟨(h.2 xs e).1,λy a=>((h.2 xs e).2 y a).deep⟩⟩
theorem Dp.kp {H H':Hp}(k:KpN H H'):∀ {n:Nat}{x:V},Dp H n x->Dp H' n x
 | 0,_,h=>An.kp k h
 | _+1,_,h=>⟨h.1.kp k,λxs e=>by
  rw[h.1.row k]at e
  exact⟨(h.2 xs e).1,λy a=>((h.2 xs e).2 y a).kp k⟩⟩
theorem Dp.flat {H:Hp}{n:Nat}{x:V}(h:Flat x):Dp H n x:=by
 cases n with
 | zero=>exact .inl h
 | succ n=>exact⟨.inl h,λa e=>by cases x<;>first|cases e|exact h.elim⟩
def rZ (xs:List V):List Int:=xs.filterMap λx=>match x with|.int i=>some i|_=>none
theorem eW (is:List Int):rZ (is.map V.int)=is:=by
 induction is with
 | nil=>rfl
 | cons i is ih=>show i::rZ (is.map V.int)=_;rw[ih]
theorem au {xs:List V}(h:∀ x∈xs,lP x=true):xs=(rZ xs).map V.int:=by
 induction xs with
 | nil=>rfl
 | cons x xs ih =>
  have e:=h x (.head _)
  cases x with
  | int i=>show V.int i::xs=V.int i::(rZ xs).map V.int;rw[<- ih λy a=>h y (.tail _ a)]
  | _=>cases e
def bK (H:Hp)(x:V):List Int:=rZ ((zx H x).getD [])
theorem nU {x:V}{b:Int}(h:yw b x=true):lP x=true:=by
 cases x with
 | int i=>rfl
 | _=>cases h
end L2
namespace K65
open PySem L2 Own Bn
abbrev uV:Stmt:=top 4
def oS (K:Jl):Sp:=λc H Q _=>∃ x,∃ many b:Int,c=[x,.int many,.int b]/\Deep K H 1 x/\∀ a,Same H a->Q (.bl (yp H many b x)) a
theorem jg {K:Jl}{H H':Hp}(s:Same H H'):∀ {n:Nat}{x:V},Deep K H n x->Deep K H' n x
 | 0,_,h=>AnyT.same s h
 | n+1,x,h=>⟨AnyT.same s h.1,λxs e=>by
  rw[bH s h.1]at e
  exact⟨(h.2 xs e).1,λy a=>jg s ((h.2 xs e).2 y a)⟩⟩
section
variable {P:Yo}{w:YI}{K:Jl}{mg:Str->Option Jo}{base:YP}
theorem zer:FnScope ["thing","many","bound"] ["thing","many","bound"] (zN uV):=by trivial
theorem mI {f I J:JI}{fd L M:Yl}(F:Fun K "are_below" "are_below" uV f fd) (G:Mgs mg) (N:Use P w K mg base "is_row" ["thing","many"] 1 (tO K) I L) (O:Use P w K mg base "is_below" ["thing","bound"] 2 (oR K) J M):FnOk P w K mg base CX0 3 f fd ["thing","many","bound"] (oS K):=by
 refine F.ok zer (λD H Q E h=>?_) (λR A outer s H D Q E t h=>?_)
 ·obtain⟨x,many,b,rfl,_⟩:=h
  rfl
 obtain⟨x,many,b,rfl,n,k⟩:=h;have p:Room 1 _:=t.mono (by decide);refine⟨_,(zM (zT (ud (zU N p (zB (pvb 0 rfl) (zB (pvb 1 rfl) zC rfl) rfl) rfl rfl rfl rfl) (rE (zV (vG rfl true) rfl G.all rfl (zB (@rF _ _ _ _ none _ _ _ _ _ _ ["number","bound"] [none,some 2] rfl (xV (pvb 0 rfl)) (CapOk.of (by kernel_rfl)) (λ_ _ _ _ _=>(@zQ _ _ 0 _ (show (["number","bound"]:List Str).Nodup from by decide +kernel) rfl (.inl rfl) (.inr rfl))) (λ_ _ _ _ _=>xX) (λ_ _ _ _ _=>(zU O t (zB (pvb 0 rfl) (zB (pvb 1 rfl) zC rfl) rfl) rfl rfl rfl rfl)) (by intro _;rfl)) zC rfl) (by decide) (by decide) rfl rfl))))),?_⟩;refine zA (zA ⟨x,many,rfl,n.any,_,rfl,?_⟩)
 cases z:zx H x with
 | none =>
  have e:uZ H many x=false:=by unfold uZ;rw[z]
  have e2:yp H many b x=false:=by unfold yp;rw[z]
  rw[e];rw[e2]at k
  exact yR (k H (Same.refl H))
 | some xs =>
  have e:uZ H many x=decide ((xs.length:Int)=many):=by unfold uZ;rw[z]
  have e2:yp H many b x=(decide ((xs.length:Int)=many) && xs.all (yw b)):=by unfold yp;rw[z]
  rw[e];rw[e2]at k;obtain⟨a,rfl,B⟩:=yq z;by_cases lm:(xs.length:Int)=many
  ·rw[Jy lm]at k ⊢
   refine xH (zA ⟨a,rfl,⟨_,SqT.of B⟩,λl u=>?_⟩);refine jR (K:=K) (a:=a) (xs:=xs) (λi acc σ d=>(∃ v,σ=[v,some (.int b)])/\Same H d/\d l=some (.lst acc)/\acc=((xs.take i).map (yw b)).map V.bl) ⟨⟨_,rfl⟩,zE u _,zD,rfl⟩ (λi acc σ d q=>⟨q.2.2.1,SqT.of (q.2.1 _ _ B)⟩) ?_ ?_
   ·rintro i y acc σ d m ⟨⟨v,rfl⟩,g,j,rfl⟩
    have r:=(Ja.mp m).1;refine zA (zA ⟨y,b,rfl,AnyT.same g (((n.2 xs z).2 y (JM m))),?_⟩);refine⟨j,?_,nx r ⟨⟨_,rfl⟩,λc o e=>?_,zD,?_⟩⟩
    ·rw[Jb,Jb,JF];exact Wz (Nat.min_le_left _ _) (JG (show i<1000 by have:=(n.2 xs z).1;lia) (by decide))
    ·rw[zG (zH e u)];exact g c o e
    ·have C:xs[i]=y:=(Ja.mp m).2
     rw[JU r,JE,JE,C];rfl
   ·rintro acc σ d ⟨⟨v,rfl⟩,g,j,rfl⟩
    rw[Ya]at j;refine⟨l,xs.map (yw b),rfl,SqL.of j,?_⟩;rw[List.all_map];exact k d g
  ·rw[Jr lm]at k ⊢
   exact yR (k H (Same.refl H))
abbrev zcn:Stmt:=top 8
abbrev oY:Stmt:=top 10
abbrev zci:Stmt:=top 11
theorem zc1 (h a b:Nat):inV (V.int h) [V.int a,V.int b]=decide (h=a\/h=b):=by
 rw[Yy,decide_eq_true_iff];simp[inV,eqV];lia
theorem scD:FnScope ["net","lane"] ["net","lane"] (zN zcn):=by trivial
theorem zcI {f:JI}{fd:Yl}(F:Fun K "end_of" "end_of" zcn f fd):FnOk P w K mg base CX0 1 f fd ["net","lane"] cg:=by
 refine F.ok scD (λd H Q E h=>?_) (λj A outer s H d Q E g h=>?_)
 ·obtain⟨r,fr,c,e,N,a,rfl,_⟩:=h
  rfl
 obtain⟨r,fr,c,e,N,a,rfl,ok,na,i,k⟩:=h;refine⟨_,(zM (zT (za3 g.units (zt yF (pvb 0 rfl) zK (λ_ _=>rfl)) (zB (pvb 1 rfl) zC rfl) rfl rfl rfl rfl))),?_⟩;have b:=na.ends;rw[aK]at b;refine zA ⟨r,_,_,_,rfl,rfl,SqT.of na.net,rfl,c,_,rfl,b,_,rfl,(a:Int),rfl,b,?_,?_⟩
 ·exact Jx.mpr ⟨a,ok.en.mem_iff.mpr (Y2.mpr i),rfl⟩
 ·rw[mq];exact k
theorem scR:FnScope ["net","turns","lane","back","behind","here","number","fork","turn"] ["net","turns","lane","back"] (zN zci):=by trivial
theorem zcF {f fD:JI}{fd dD:Yl}(F:Fun K "run_through" "run_through" zci f fd) (G:Mgs mg) (UD:Use P w K mg base "end_of" ["net","lane"] 1 cg fD dD):FnOk P w K mg base CX0 2 f fd ["net","turns","lane","back"] cY:=by
 refine F.ok scR (λvs H Q E h=>?_) (λab A outer s H vs Q E hr h=>?_)
 ·obtain⟨us,back,rfl,r,fr,er,J,N,D,ts,lane,rfl,_⟩:=h
  rfl
 obtain⟨us,back,rfl,r,fr,er,J,N,D,ts,lane,rfl,ok,na,R,tl,bits,hl,k⟩:=h;refine⟨_,(zJ (@zY _ _ 4 _ _ _ _ scR.nd rfl (.inl rfl) (yK wW rfl G.list rfl (zB (pvb 1 rfl) zC rfl) (by decide) (by decide) rfl rfl) rfl (by trivial)) (zJ (@zY _ _ 5 _ _ _ _ scR.nd rfl (.inl rfl) (pvb 2 rfl) rfl (by trivial)) (zJ (x4 YZ rfl (za2 false rfl G.enum (zB (zt yF (pvb 0 rfl) zK (λ_ _=>rfl)) zC rfl) rfl) (yn rfl (zR (@zQ _ _ 6 _ scR.nd rfl (.inl rfl) (by trivial)) (zR (@zQ _ _ 7 _ scR.nd rfl (.inl rfl) (by trivial)) yS rfl) rfl) rfl rfl) (zM (xK (yN qx (pvb 5 rfl) (pvb 7 rfl) rfl) (zJ (@zY _ _ 8 _ _ _ _ scR.nd rfl (.inl rfl) (zt yT (pvb 4 rfl) (pvb 6 rfl) (λ_ _=>rfl)) rfl (by trivial)) (zJ (yh (zS rJ zK (pvb 8 rfl)) (wL (pvb 4 rfl) (pvb 6 rfl) xC (by intro _;rfl)) rfl rfl rfl) (zM (@zY _ _ 5 _ _ _ _ scR.nd rfl (.inl rfl) (zt yF (pvb 7 rfl) (mB (uc (pvb 3 rfl) (by intro _;rfl)) (zS rJ zK (pvb 8 rfl)) (pvb 8 rfl)) (λ_ _=>rfl)) rfl (by trivial))))) yZ)) (by intro _;rfl)) (zM (zT (yE (zB (yK yL rfl G.tuple rfl (zB (pvb 4 rfl) zC rfl) (by decide) (by decide) rfl rfl) (zB (zU UD hr (zB (pvb 0 rfl) (zB (pvb 5 rfl) zC rfl) rfl) rfl rfl rfl rfl) zC rfl) rfl))))))),?_⟩;refine zA ⟨D,_,rfl,.inr (SqT.of R),λd I=>zA ?_⟩;have M:=zE I (.lst (ts.map V.int));refine zA ⟨r,_,_,_,rfl,rfl,SqT.of (M _ _ na.net),rfl,fr,J,rfl,SqT.of (M _ _ na.forks),?_⟩
 refine zae (K:=K) (b:=false) (a:=fr) (xs:=J) (λi σ m=>(∃ C B y,σ=[some (.ref r),some (.ref D),some (.int lane),some (.bl back),some (.ref d),some (.int (yD back N.forks ts lane i).2),C,B,y])/\Same H m/\m d=some (.lst ((yD back N.forks ts lane i).1.map V.int)))
  ⟨⟨_,_,_,rfl⟩,M,zD⟩ (λi σ m _ q=>SqT.of (q.2.1 _ _ na.forks)) ?_ ?_
 ·rintro i x σ m T hx Z ⟨⟨C,B,y,rfl⟩,v,n⟩
  obtain⟨a,g,rfl,eg,L⟩:=(na.prs.tups (Tups.of v)).get hx;have gi:i<N.forks.length:=(Ja.mp eg).1;have gd:N.forks.getD i (0,0)=g:=by rw[J8,eg];rfl
  have rs:yD back N.forks ts lane (i+1)=yB back (yD back N.forks ts lane i) i g:=by show yB _ _ _ _=_;rw[gd]
  have rl:=uX (back:=back) (fs:=N.forks) (ts:=ts) (lane:=lane) i;have rb:=vT (back:=back) (fs:=N.forks) (lane:=lane) bits i;generalize yD back N.forks ts lane i=st at *;have u:=zE Z (.tup [.int i,.ref a]);have lT:d≠T:=zH n Z;refine⟨T,_,rfl,SqT.of zD,rfl,_,_,rfl,_,_,rfl,rfl,?_⟩;refine zA (zA ⟨a,_,rfl,.inr (SqT.of (u _ _ L)),rfl,rfl,_,rfl,?_⟩);show if (if false=true then !inV (V.int (st.2:Nat)) [V.int (g.1:Nat),V.int (g.2:Nat)] else inV (V.int (st.2:Nat)) [V.int (g.1:Nat),V.int (g.2:Nat)])=true then _ else _;rw[Jc Jp,zc1];by_cases on:st.2=g.1\/st.2=g.2
  ·rw[Jy on]
   refine xH ?_;have c:yB back st i g=(st.1.set i (1-st.1.getD i 0),if (if back then 1-st.1.getD i 0 else st.1.getD i 0)=0 then g.1 else g.2):=by unfold yB;rw[Jh on]
   have O:i<st.1.length:=by simp_all
   have S:=rb _ (L2.mz O);have Y:=u _ _ n;refine zA (zA ⟨d,_,_,_,rfl,rfl,SqL.of Y,wv O,?_⟩);refine zA ⟨_,_,rfl,rfl,_,rfl,_,rfl,d,_,_,i,rfl,rfl,Y,rX (by rw[Jb];exact O),?_⟩
   have l:upd (upd m T (.tup [.int i,.ref a])) d (.lst ((st.1.map V.int).set i (.int (1-st.1.getD i 0)))) a=some (.tup [.int g.1,.int g.2]):=by
    rw[zG (by rintro rfl;rw[n]at L;cases L)];exact u _ _ L
   have fin:∀ nx:Nat,nx=(yB back st i g).2->(∃ C B y,([some (.ref r),some (.ref D),some (.int lane),some (.bl back),some (.ref d),some (.int nx),some (.int i),some (.ref a),some (.int (st.1.getD i 0))]:List (Option V))=[some (.ref r),some (.ref D),some (.int lane),some (.bl back),some (.ref d),some (.int (yD back N.forks ts lane (i+1)).2),C,B,y]) /\
     Same H (upd (upd m T (.tup [.int i,.ref a])) d (.lst ((st.1.map V.int).set i (.int (1-st.1.getD i 0)))))/\upd (upd m T (.tup [.int i,.ref a])) d (.lst ((st.1.map V.int).set i (.int (1-st.1.getD i 0)))) d=some (.lst ((yD back N.forks ts lane (i+1)).1.map V.int)):=λnx en=>by
    refine⟨⟨_,_,_,by rw[rs,en]⟩,λb o e=>?_,?_⟩
    ·rw[zG (zH e I)];exact u _ _ (v b o e)
    ·rw[zD,rs,c,wd]
   cases back with
   | false =>
    rcases S with z|z
    ·exact zA (zA (yM rfl (yR (zA ⟨a,_,_,_,rfl,rfl,SqT.of l,by rw[z];exact xa (j:=0) rfl,fin g.1 (by rw[c,z];rfl)⟩))))
    ·exact zA (zA (yM rfl (yR (zA ⟨a,_,_,_,rfl,rfl,SqT.of l,by rw[z];exact xa (j:=1) rfl,fin g.2 (by rw[c,z];rfl)⟩))))
   | true =>
    rcases S with z|z
    ·exact zA (zA (yM rfl (xH (zA ⟨_,_,rfl,rfl,a,_,_,_,rfl,rfl,SqT.of l,by rw[z];exact xa (j:=1) rfl,fin g.2 (by rw[c,z];rfl)⟩))))
    ·exact zA (zA (yM rfl (xH (zA ⟨_,_,rfl,rfl,a,_,_,_,rfl,rfl,SqT.of l,by rw[z];exact xa (j:=0) rfl,fin g.1 (by rw[c,z];rfl)⟩))))
  ·rw[Jr on]
   have c:yB back st i g=st:=by unfold yB;rw[Jc on]
   exact yR ⟨⟨_,_,_,by rw[rs,c];rfl⟩,v.trans u,by rw[rs,c];exact u _ _ n⟩
 ·rintro σ m ⟨⟨C,B,y,rfl⟩,v,n⟩
  have W:=na.prs.len;rw[W]at n;have hh:=rA (back:=back) (ts:=ts) ok.fk hl N.forks.length (Je _);refine zA ⟨d,_,rfl,.inl ⟨SqL.of n,λt ht=>?_⟩⟩;have U:=zE ht (.tup ((yD back N.forks ts lane N.forks.length).1.map V.int));refine zA (zA ⟨r,fr,er,J,N,_,by rw[W];rfl,ok,na.tups (Tups.of (v.trans U)),hh,(by show 2<=sizeLine;decide),λp X=>?_⟩);exact k p t _ ((v.trans U).trans (zE X _)) zD (zE X _ _ _ zD)
theorem scP:FnScope ["net","turns","lane"] ["net","turns","lane"] (zN oY):=by trivial
theorem gp {f j:JI}{fd k:Yl}(F:Fun K "passed" "passed" oY f fd) (l:Use P w K mg base "run_through" ["net","turns","lane","back"] 2 cY j k):FnOk P w K mg base CX0 3 f fd ["net","turns","lane"] (kD false):=by
 refine F.ok scP (λg H Q E h=>?_) (λm A outer s H g Q E i h=>?_)
 ·obtain⟨r,fr,e,d,N,b,c,a,rfl,_⟩:=h
  rfl
 obtain⟨r,fr,e,d,N,b,c,a,rfl,q⟩:=h;refine⟨_,(zM (zT (zU l i (zB (pvb 0 rfl) (zB (pvb 1 rfl) (zB (pvb 2 rfl) (zB uA zC rfl) rfl) rfl) rfl) rfl rfl rfl rfl))),?_⟩;exact zA (zA (zA ⟨[.ref r,.ref b,.int a],false,rfl,r,fr,e,d,N,b,c,a,rfl,q⟩))
end
end K65
namespace L2
open PySem PySem.Spec PyProof.Rows Own Bn
theorem zak (N:Nt):∀ (n j:Nat),j<N.lanes->(da N n).getD j 0=((n / N.lanes:Nat):Int)+if j<n%N.lanes then 1 else 0
 | 0,j,h=>by
  show (List.replicate N.lanes (0:Int)).getD j 0=_
  rw[Nat.zero_div,Nat.zero_mod,Jc (Nat.not_lt_zero j),ww];rfl
 | n+1,j,h=>by
  show (zu (da N n) (n%N.lanes) 1).getD j 0=_;rw[yj (by rw[qD];exact h),zak N n j h];have hm:n%N.lanes<N.lanes:=Wi _ (by lia);have a:=Nat.div_add_mod n N.lanes;by_cases z:n%N.lanes+1=N.lanes
  ·have e:n+1=N.lanes*(n / N.lanes+1)+0:=by rw[Nat.mul_add];lia
   have q:(n+1) / N.lanes=n / N.lanes+1:=by rw[e,ZC,Nat.mul_div_cancel_left _ (by lia)]
   have r:(n+1)%N.lanes=0:=by rw[e,ZC,Nat.mul_mod_right]
   rw[q,r,Jc (Nat.not_lt_zero j)];by_cases y:j<n%N.lanes
   ·rw[Jh y,Jc (by lia)];simp_all
   ·rw[Jc y,Jh (by lia)];simp_all
  ·have e:n+1=N.lanes*(n / N.lanes)+(n%N.lanes+1):=by lia
   have q:(n+1) / N.lanes=n / N.lanes:=by
    rw[e,Nat.mul_add_div (by lia),Nat.div_eq_of_lt (show n%N.lanes+1<N.lanes by lia),ZC]
   have r:(n+1)%N.lanes=n%N.lanes+1:=by rw[e,Nat.mul_add_mod,Nat.mod_eq_of_lt (by lia)]
   rw[q,r];by_cases y:j<n%N.lanes
   ·rw[Jh y,Jc (by lia),Jh (by lia)];lia
   ·by_cases x:j=n%N.lanes
    ·rw[Jc y,Jh x.symm,Jh (by lia)];lia
    ·rw[Jc y,Jc (λt=>x t.symm),Jc (by lia)];lia
end L2
namespace L2
open PySem PySem.Spec PyProof.Rows Own Bn
theorem zaS {a u:TS}{D:Ends}{σ:St}{H:Hp}(I:St->Hp->Prop)(key:∀ σ H,I σ H->u D σ H)(h:∀ b:Ends,(∀ σ H,I σ H->b.nx σ H)->b.rt=D.rt->a b σ H):nu a u D σ H:=h { D with nx:=u D } key rfl
theorem zeF {i:Nat}{v:V}{σ:St}{H:Hp}{a u:TS}{D:Ends}(R:VK)(h:nu a u D (σ.set i (some v)) H):(λx b=>tE i x σ b ({ nx:=nu a u D,rt:=R }:Ends).nx) v H:=h
end L2
namespace Bn
open PySem L2 Own
def zP (total:Int)(many:Nat):List Int:=(List.range many).map λ(p:Nat)=>(total-p+many-1) / (many:Int)
theorem xw (total:Int)(many i:Nat)(h:i<=many):(zP total many).take i=(List.range i).map λp=>(total-(p:Nat)+many-1) / (many:Int):=by
 unfold zP;rw[<- List.map_take,List.take_range,Nat.min_eq_left h]
theorem gK (q m r p:Int)(b:0<=r)(a:r<m)(d:0<=p)(c:p<m):(q*m+r-p+m-1) / m=q+if p<r then 1 else 0:=by
 by_cases h:p<r
 ·rw[Jh h]
  exact((Int.ediv_emod_unique (r:=r-p-1) (by lia)).mpr ⟨by rw[Int.mul_add,Int.mul_one,Int.mul_comm m q];lia,by lia,by lia⟩).1
 ·rw[Jc h]
  exact((Int.ediv_emod_unique (r:=r-p+m-1) (by lia)).mpr ⟨by rw[Int.add_zero,Int.mul_comm m q];lia,by lia,by lia⟩).1
def wp (total:Int)(many i:Nat):Int:=total / many*(many-i)+max (total%many-i) 0
theorem eA (total:Int)(many:Nat)(h:1<=many):wp total many 0=total:=by
 unfold wp;have a:=ZF total (show (many:Int)≠0 by lia);have b:(many:Int)*(total / many)+total%many=total:=Int.mul_ediv_add_emod total many;rw[Int.mul_comm]at b;simp only[Int.ofNat_zero,Int.sub_zero];lia
theorem cV (total:Int)(many i:Nat)(hi:i<many):(total-i+many-1) / (many:Int)=total / many+if (i:Int)<total%many then 1 else 0:=by
 have a:(0:Int)<many:=by lia
 have e:total=total / many*many+total%many:=by
  have:=Int.mul_ediv_add_emod total many;rw[Int.mul_comm]at this;lia
 have z:=gK (total / many) many (total%many) i (ZF _ (by lia)) (ZX _ a) (by lia) (by lia);rw[<- z]
 congr 1
 lia
theorem eB (total:Int)(many i:Nat)(hi:i<many):wp total many i-(total-i+many-1) / (many:Int)=wp total many (i+1):=by
 rw[cV total many i hi];unfold wp
 have e:total / (many:Int)*((many:Int)-(i+1:Nat))=total / many*((many:Int)-i)-total / many:=by
  have:((many:Int)-(i+1:Nat))=((many:Int)-i)-1:=by lia
  rw[this,Int.mul_sub,Int.mul_one]
 rw[e];by_cases h:(i:Int)<total%many
 ·rw[Jh h];lia
 ·rw[Jc h];lia
theorem nr (total:Int)(many:Nat)(h:1<=many):∀ i,i<=many->((zP total many).take i).sum=total-wp total many i
 | 0,_=>by rw[eA total many h];simp
 | i+1,hi=>by
  have ih:=nr total many h i (by lia);rw[xw _ _ _ (by lia)]at ih;rw[xw _ _ _ hi,List.range_succ,JE,List.sum_append,ih,<- eB total many i hi];simp only[List.sum_cons,List.sum_nil,JR,List.map_nil];lia
theorem sN (total:Int)(many:Nat)(h:1<=many):(zP total many).sum=total:=by
 have e:=nr total many h many (Je _);rw[YJ (by unfold zP;simp)]at e
 have z:wp total many many=0:=by
  unfold wp;have b:=ZX total (show (0:Int)<many by lia);rw[Int.sub_self,Int.mul_zero];lia
 lia
theorem zX (total:Int)(many:Nat):(zP total many).length=many:=by unfold zP;simp
end Bn
namespace L2
open PySem PySem.Spec PyProof.Rows Own Bn
def laneM (N:Nt)(m n h:Nat):Nat:=if h=0 then m%(N.lanes / 2) else N.lanes / 2+n%(N.lanes / 2)
def yg (N:Nt):KN->Nat->Option KN
 | [.inr ts,.inl m,.inl n],h=>if ((passE N ts (laneM N m.toNat n.toNat h):Nat):Int)=(m+n)%(N.lanes:Nat) then some (if h=0 then stK (xQ N ts (laneM N m.toNat n.toNat h)) [(m+1)%(N.lanes:Nat),n] else stK (xQ N ts (laneM N m.toNat n.toNat h)) [m,(n+1)%(N.lanes:Nat)]) else none
 | _,_=>none
def OkM (N:Nt)(k:KN):Prop:=∃ (a:List Int) (m n:Nat),k=stK a [(m:Nat),(n:Nat)]/\a.length=N.forks.length/\Bits a/\m<N.lanes/\n<N.lanes
def knot (N:Nt)(ts:List Int)(m n:Nat):KN:=stK ts [((m%N.lanes:Nat):Int),((n%N.lanes:Nat):Int)]
theorem OkM.st {N:Nt}(ok:Nt.Ok N){k:KN}(h:OkM N k):StOk N.forks.length 2 k:=by
 obtain⟨a,m,n,rfl,d,c,f,e⟩:=h;refine⟨a,[(m:Nat),(n:Nat)],rfl,d,c,rfl,λx b=>?_⟩;have:=ok.l16;rcases Jf.mp b with z|z
 ·rw[z];lia
 ·rw[Jm.mp z];lia
section
variable {N:Nt}
theorem vk (ts:List Int)(m n h:Nat):yg N (stK ts [(m:Nat),(n:Nat)]) h=if ((passE N ts (laneM N m n h):Nat):Int)=(((m:Nat):Int)+(n:Nat))%(N.lanes:Nat) then some (if h=0 then stK (xQ N ts (laneM N m n h)) [(((m:Nat):Int)+1)%(N.lanes:Nat),(n:Nat)] else stK (xQ N ts (laneM N m n h)) [(m:Nat),(((n:Nat):Int)+1)%(N.lanes:Nat)]) else none:=rfl
theorem vj (ok:Nt.Ok N){s t:KN}{h:Nat}(c:OkM N s)(e:yg N s h=some t):OkM N t:=by
 obtain⟨i,m,n,rfl,b,a,f,d⟩:=c;have j:=ok.l1;rw[vk]at e;split at e
 ·have g:=Jq e
  rw[<- g];by_cases z:h=0
  ·rw[Jh z]
   exact⟨_,(m+1)%N.lanes,n,by rw[YA];rfl,(qw _ _ _).trans b,rG a,Wi _ (by lia),d⟩
  ·rw[Jc z]
   exact⟨_,m,(n+1)%N.lanes,by rw[YA];rfl,(qw _ _ _).trans b,rG a,f,Wi _ (by lia)⟩
 ·cases e
theorem mP (ev:N.lanes%2=0)(m:Nat):m%N.lanes%(N.lanes / 2)=m%(N.lanes / 2):=Nat.mod_mod_of_dvd m ⟨2,by lia⟩
theorem eE (ev:N.lanes%2=0)(m n h:Nat):laneM N (m%N.lanes) (n%N.lanes) h=laneM N m n h:=by unfold laneM;rw[mP ev,mP ev]
theorem rT (l2:2<=N.lanes)(ev:N.lanes%2=0)(m n h:Nat):laneM N m n h<N.lanes:=by
 unfold laneM;have a:=Wi m (show 0<N.lanes / 2 by lia);have b:=Wi n (show 0<N.lanes / 2 by lia);split<;>lia
def xk (N:Nt):Nat->Nat->List Nat->List Nat
 | _,_,[]=>[]
 | m,n,h::r=>laneM N m n h::xk N (if h=0 then m+1 else m) (if h=0 then n else n+1) r
theorem wS (N:Nt):∀ (r:List Nat) (m n:Nat),(xk N m n r).length=r.length
 | [],_,_=>rfl
 | h::r,m,n=>by show _+1=_+1;rw[wS N r]
theorem pF (l2:2<=N.lanes)(ev:N.lanes%2=0):∀ (r:List Nat) (m n:Nat),∀ x∈xk N m n r,x<N.lanes
 | [],_,_,x,a=>absurd a Jg
 | h::r,m,n,x,a=>by
  rcases Jf.mp a with z|z
  ·rw[z];exact rT l2 ev m n h
  ·exact pF l2 ev r _ _ x z
theorem uW (l2:2<=N.lanes)(ev:N.lanes%2=0):∀ (r:List Nat) (ts:List Int) (m n:Nat),(wj (yg N) (knot N ts m n) r).isSome=(wj (wX N) (stK ts [(((m+n)%N.lanes:Nat):Int)]) (xk N m n r)).isSome
 | [],_,_,_=>rfl
 | h::r,ts,m,n=>by
  show ((yg N (knot N ts m n) h).bind λt=>wj (yg N) t r).isSome=((wX N (stK ts [(((m+n)%N.lanes:Nat):Int)]) (laneM N m n h)).bind λt=>wj (wX N) t _).isSome;have a:wX N (stK ts [(((m+n)%N.lanes:Nat):Int)]) (laneM N m n h)=if ((passE N ts (laneM N m n h):Nat):Int)=(((m+n)%N.lanes:Nat):Int) then some (stK (xQ N ts (laneM N m n h)) [((((m+n)%N.lanes:Nat):Int)+1)%(N.lanes:Nat)]) else none:=rfl
  have b:yg N (knot N ts m n) h=if ((passE N ts (laneM N m n h):Nat):Int)=(((m+n)%N.lanes:Nat):Int) then some (if h=0 then knot N (xQ N ts (laneM N m n h)) (m+1) n else knot N (xQ N ts (laneM N m n h)) m (n+1)) else none:=by
   show yg N (stK ts [((m%N.lanes:Nat):Int),((n%N.lanes:Nat):Int)]) h=_;rw[vk,eE ev]
   have q:(((m%N.lanes:Nat):Int)+((n%N.lanes:Nat):Int))%(N.lanes:Nat)=(((m+n)%N.lanes:Nat):Int):=by
    rw[<- Int.natCast_add,<- YA,<- Nat.add_mod]
   have s:∀ k:Nat,(((k%N.lanes:Nat):Int)+1)%(N.lanes:Nat)=(((k+1)%N.lanes:Nat):Int):=λk=>by
    rw[show ((k%N.lanes:Nat):Int)+1=((k%N.lanes+1:Nat):Int) from rfl,<- YA,Nat.mod_add_mod]
   rw[q,s,s];rfl
  rw[a,b];by_cases z:((passE N ts (laneM N m n h):Nat):Int)=(((m+n)%N.lanes:Nat):Int)
  ·rw[Jh z,Jh z]
   have s:((((m+n)%N.lanes:Nat):Int)+1)%(N.lanes:Nat)=(((m+n+1)%N.lanes:Nat):Int):=by
    rw[show (((m+n)%N.lanes:Nat):Int)+1=(((m+n)%N.lanes+1:Nat):Int) from rfl,<- YA,Nat.mod_add_mod]
   rw[s];by_cases y:h=0
   ·rw[Jh y,Jh y,Jh y]
    have ih:=uW l2 ev r (xQ N ts (laneM N m n h)) (m+1) n;rw[show m+1+n=m+n+1 by lia]at ih;exact ih
   ·rw[Jc y,Jc y,Jc y]
    exact uW l2 ev r (xQ N ts (laneM N m n h)) m (n+1)
  ·rw[Jc z,Jc z];rfl
def wV (m n:Nat)(r:List Nat):Nat × Nat:=r.foldl (λp h=>if h=0 then (p.1+1,p.2) else (p.1,p.2+1)) (m,n)
theorem pY (m n h:Nat)(r:List Nat):wV m n (h::r)=if h=0 then wV (m+1) n r else wV m (n+1) r:=by
 show List.foldl _ (if h=0 then (m+1,n) else (m,n+1)) r=_;split<;>rfl
theorem uQ (a:1<=N.lanes)(n:Nat):zP (n:Nat) N.lanes=da N n:=by
 refine xI (by rw[zX,qD]) λi hi=>?_;rw[zX]at hi;rw[zak N n i hi];unfold zP;rw[J8,JC,J6 (by rw[Y0];exact hi),Ww];show (((n:Nat):Int)-i+N.lanes-1) / (N.lanes:Int)=_;rw[cV _ _ _ hi,Int.natCast_ediv]
 congr 1
 by_cases z:i<n%N.lanes
 ·rw[Jh z,Jh (by rw[<- YA];lia)]
 ·rw[Jc z,Jc (by rw[<- YA];lia)]
theorem xB {t w i:Nat}(h:i<w):(zP (t:Nat) w).getD i 0=((t / w:Nat):Int)+if i<t%w then 1 else 0:=by
 unfold zP;rw[J8,JC,J6 (by rw[Y0];exact h),Ww];show (((t:Nat):Int)-i+w-1) / (w:Int)=_;rw[cV _ _ _ h,Int.natCast_ediv]
 congr 1
 by_cases z:i<t%w
 ·rw[Jh z,Jh (by rw[<- YA];lia)]
 ·rw[Jc z,Jc (by rw[<- YA];lia)]
theorem vR {t w:Nat}(a:1<=w):zP ((t+1:Nat):Int) w=zu (zP (t:Nat) w) (t%w) 1:=by
 have e:=uQ (N:=⟨w,[],[]⟩) a (t+1);have f:=uQ (N:=⟨w,[],[]⟩) a t;show zP ((t+1:Nat):Int) (⟨w,[],[]⟩:Nt).lanes=zu (zP (t:Nat) (⟨w,[],[]⟩:Nt).lanes) _ 1;rw[e,f];rfl
def zW (N:Nt)(m n:Nat):List Int:=zP (m:Nat) (N.lanes / 2)++zP (n:Nat) (N.lanes / 2)
theorem ya (ev:N.lanes%2=0)(m n:Nat):(zW N m n).length=N.lanes:=by unfold zW;rw[Jn,zX,zX];lia
theorem pO (l2:2<=N.lanes)(ev:N.lanes%2=0)(m n h:Nat):yV (zW N m n) (laneM N m n h)=if h=0 then zW N (m+1) n else zW N m (n+1):=by
 unfold yV laneM zW;have lm:=zX (m:Nat) (N.lanes / 2);have ln:=zX (n:Nat) (N.lanes / 2);have am:=Wi m (show 0<N.lanes / 2 by lia);have an:=Wi n (show 0<N.lanes / 2 by lia);by_cases z:h=0
 ·rw[Jh z,Jh z,vR (by lia)]
  unfold zu;rw[List.set_append_left _ _ (by lia),J8,Yd (by lia),<- J8]
 ·rw[Jc z,Jc z,vR (t:=n) (by lia)]
  unfold zu;rw[List.set_append_right _ _ (by lia),J8,Y3 (by lia),<- J8,lm,ZZ]
theorem uf (l2:2<=N.lanes)(ev:N.lanes%2=0):∀ (r:List Nat) (m n:Nat),tM (zW N m n) (xk N m n r)=zW N (wV m n r).1 (wV m n r).2
 | [],_,_=>rfl
 | h::r,m,n=>by
  show tM (yV (zW N m n) (laneM N m n h)) (xk N (if h=0 then m+1 else m) (if h=0 then n else n+1) r)=_;rw[pO l2 ev];rw[pY];by_cases z:h=0
  ·rw[Jh z,Jh z,Jh z,Jh z];exact uf l2 ev r (m+1) n
  ·rw[Jc z,Jc z,Jc z,Jc z];exact uf l2 ev r m (n+1)
theorem pN (ev:N.lanes%2=0):zW N 0 0=zL N:=by
 refine xI (by rw[ya ev];exact Yb.symm) λi hi=>?_;rw[ya ev]at hi;rw[zaC];unfold zW;have s:∀ j,j<N.lanes / 2->(zP ((0:Nat):Int) (N.lanes / 2)).getD j 0=0:=λj a=>by rw[xB a,Nat.zero_div,Nat.zero_mod,Jc (Nat.not_lt_zero _)];rfl
 have ln:=zX ((0:Nat):Int) (N.lanes / 2);by_cases z:i<N.lanes / 2
 ·rw[J8,Yd (by lia),<- J8];exact s i z
 ·rw[J8,Y3 (by lia),<- J8,ln];exact s _ (by lia)
theorem qI:∀ (r:List Nat) (m n:Nat),(wV m n r).1+(wV m n r).2=m+n+r.length
 | [],_,_=>rfl
 | h::r,m,n=>by
  rw[pY,JL];split
  ·rw[qI r];lia
  ·rw[qI r];lia
def ou (m n:Nat):List Nat:=List.replicate m 0++List.replicate n 1
theorem pX:∀ (k m n:Nat),wV m n (List.replicate k 0)=(m+k,n)
 | 0,_,_=>rfl
 | k+1,m,n=>by
  rw[Y9];show wV (m+1) n (List.replicate k 0)=_;rw[pX k,show m+1+k=m+(k+1) by lia]
theorem pW:∀ (k m n:Nat),wV m n (List.replicate k 1)=(m,n+k)
 | 0,_,_=>rfl
 | k+1,m,n=>by
  rw[Y9];show wV m (n+1) (List.replicate k 1)=_;rw[pW k,show n+1+k=n+(k+1) by lia]
theorem bJ (m n:Nat):wV 0 0 (ou m n)=(m,n):=by
 unfold ou wV;rw[YQ];have e:=pX m 0 0;unfold wV at e;rw[e,Zr];have f:=pW n m 0;unfold wV at f;rw[f,Zr]
theorem bI (m n:Nat):(ou m n).length=m+n:=by unfold ou;rw[Jn,Yb,Yb]
theorem gS (m n:Nat):Over [0,1] (ou m n):=λx a=>by
 unfold ou at a;rcases Js.mp a with z|z
 ·rw[ZS z];exact .head _
 ·rw[ZS z];exact .tail _ (.head _)
def k0M (N:Nt):KN:=stK (zF N) [0,0]
theorem zcY:knot N (zF N) 0 0=k0M N:=by unfold knot k0M;rw[Nat.zero_mod];rfl
theorem kU (ok:N.Ok)(l2:2<=N.lanes)(ev:N.lanes%2=0){r:List Nat}(h:∀ j,j<=r.length->wj (yg N) (k0M N) (r.take j)≠none):zj N (zW N (wV 0 0 r).1 (wV 0 0 r).2)=zP ((((wV 0 0 r).1+(wV 0 0 r).2:Nat)):Int) N.lanes:=by
 have take:∀ (r:List Nat) (m n j:Nat),(xk N m n r).take j=xk N m n (r.take j):=by
  intro r
  induction r with
  | nil=>intro m n j;rw[List.take_nil];exact List.take_nil
  | cons a r ih =>
   intro m n j
   cases j with
   | zero=>rfl
   | succ j=>show _::(xk N _ _ r).take j=_;rw[ih];rfl
 have lt:=pF l2 ev r 0 0
 have b:=zax N (xk N 0 0 r) r.length (by rw[wS];exact Je _) λj d z=>by
  have q:=uW l2 ev (r.take j) (zF N) 0 0;rw[zcY,ZC,Nat.zero_mod]at q;rw[take]at z;have c:wj (wX N) (stK (zF N) [((0:Nat):Int)]) (xk N 0 0 (r.take j))=none:=z;rw[c]at q
  cases e:wj (yg N) (k0M N) (r.take j) with
  | none=>exact h j d e
  | some k=>rw[e]at q;cases q
 have e:=lG ok lt r.length (by rw[wS];exact Je _) b;rw[YJ (by rw[wS];exact Je _),<- pN ev,uf l2 ev]at e;rw[e,qI,ZC,Zr,uQ (by lia)]
def Merg (N:Nt)(m n:Nat):Prop:=zj N (zW N m n)=zP (((m+n:Nat)):Int) N.lanes
theorem aW (ok:N.Ok)(l2:2<=N.lanes)(ev:N.lanes%2=0){m n:Nat}(h:∀ j,j<=m+n->wj (yg N) (k0M N) ((ou m n).take j)≠none):Merg N m n:=by
 have q:=kU ok l2 ev (r:=ou m n) λj a=>h j (by rw[bI]at a;exact a);rw[bJ]at q;exact q
theorem gF {r:List Nat}(h:Over [0,1] r)(j:Nat):Over [0,1] (r.take j):=λx a=>h x (List.mem_of_mem_take a)
theorem fq (ok:N.Ok)(l2:2<=N.lanes)(ev:N.lanes%2=0){ks:List KN}(a:Shut (yg N) [0,1] (k0M N) ks)(m n:Nat):Merg N m n :=
 aW ok l2 ev λj _=>by
  obtain⟨s,_,e⟩:=a.run ((ou m n).take j) a.fst (gF (gS m n) j);rw[e];exact λz=>by cases z
end
def zbY:V->Int
 | .int i=>i
 | _=>0
def xR (H:Hp)(a lanes:Int)(x:V):Bool:=match zx H x with
 | some [t,m,n]=>yp H a 2 t && (yw lanes m && yw lanes n)
 | _=>false
def qR (H:Hp)(a lanes:Int)(x:V):Option KN:=if xR H a lanes x=true then match zx H x with
 | some [t,m,n]=>some (stK (bK H t) [zbY m,zbY n])
 | _=>none else none
theorem zaO (H:Hp)(a lanes:Int)(x:V):(qR H a lanes x).isSome=xR H a lanes x:=by
 unfold qR;by_cases c:xR H a lanes x=true
 ·rw[Jh c,c]
  unfold xR at c;split at c
  ·rfl
  ·cases c
 ·rw[Jc c,show xR H a lanes x=false by simpa using c];rfl
theorem oB {b:Int}{x:V}(h:yw b x=true):∃ i:Nat,x=.int (i:Nat)/\(i:Int)<b:=by
 cases x with
 | int i =>
  obtain⟨p,q⟩:=(Ym _ _).mp (show (decide (0<=i) && decide (i<b))=true from h);have p:=Yn p;have q:=Yn q
  exact⟨i.toNat,by rw[Int.toNat_of_nonneg p],by rw[Int.toNat_of_nonneg p];exact q⟩
 | _=>cases h
theorem gL {H:Hp}{N:Nt}{x:V}{s:KN}(h:qR H (N.forks.length:Nat) (N.lanes:Nat) x=some s):OkM N s/\∃ b,x=.ref b/\NKey H s b:=by
 unfold qR at h;split at h
 ·rename_i c
  unfold xR at c;split at c
  ·rename_i t m n e
   rw[e]at h;cases h;obtain⟨b,rfl,z⟩:=yq e;obtain⟨a,f⟩:=(Ym _ _).mp c;obtain⟨f,A⟩:=(Ym _ _).mp f;obtain⟨i,rfl,F⟩:=oB f;obtain⟨j,rfl,E⟩:=oB A;unfold yp at a;split at a
   ·rename_i d k
    obtain⟨B,l⟩:=(Ym _ _).mp a;have g:=au λy r=>nU (Yc.mp l y r);obtain⟨t,rfl,w⟩:=yq k;have o:bK H (.ref t)=rZ d:=by unfold bK;rw[k];rfl
    rw[o];have D:(rZ d).length=d.length:=by have:=JP List.length g;rw[Jb]at this;exact this.symm
    have C:=Yn B;refine⟨⟨_,i,j,rfl,by lia,λu v=>?_,by lia,by lia⟩,b,rfl,io z (by rw[<- g];exact w)⟩;have:=Yc.mp l (.int u) (by rw[g];exact Jx.mpr ⟨u,v,rfl⟩);obtain⟨p,q⟩:=(Ym _ _).mp (show (decide (0<=u) && decide (u<2))=true from this);have p:=Yn p;have q:=Yn q;lia
   ·cases a
  ·cases c
 ·cases h
def TyD (P:Yo)(w:YI)(K:Jl)(H:Hp)(x:V)(t:Jo):Prop:=TyOf K H x t\/∃ a b,x=.ref a/\H a=some (DN P w a b)/\t=.type "dict"
section
variable {X:Cx}
theorem dq:CallR X (.builtin "isinstance") (λvs H Q=>∃ x T t k,vs=[x,.ty T]/\TyD X.prog X.w X.K H x t/\PySem.W.kitOne X.K t (.type T)=some k/\Q (.bl k) H):=by
 intro pins s σ H vs p Q I g h;obtain⟨x,T,t,k,rfl,b,e,q⟩:=h;obtain⟨u,v,rfl,d,c⟩:=g.two;cases (show v=Value.type T from c);rcases b with b|⟨a,f,rfl,m,rfl⟩
 ·exact pK I d b e λn=>⟨.bl k,H,I.tok n,rfl,q⟩
 ·cases (show u=Value.ref a from d)
  have i:ObjOk X.prog X.w H s.heap a (DN X.prog X.w a f):=I.hok a _ m;obtain⟨⟨_,_,vs,_,o,r,w,j,l,_⟩,_⟩:=i;exact YT PySem.W.kitx_dict I.kIn ⟨o,j,l.1⟩ e (λz=>nomatch z) λn=>⟨.bl k,H,I.tok n,rfl,q⟩
end
def AnyN (P:Yo)(w:YI)(K:Jl)(H:Hp)(x:V):Prop:=AnyT K H x\/∃ a b,x=.ref a/\H a=some (DN P w a b)
theorem kW {P:Yo}{w:YI}{H:Hp}{a:JI}{xs:KVN}(e:H a=some (DN P w a xs)):zx H (.ref a)=none:=by simp only[zx,e];rfl
theorem AnyN.isi {P:Yo}{w:YI}{K:Jl}{H:Hp}{x:V}(h:AnyN P w K H x):∃ t,TyD P w K H x t/\PySem.W.kitOne K t (.type "tuple")=some (zx H x).isSome:=by
 rcases h with h|⟨a,b,rfl,e⟩
 ·obtain⟨t,I⟩:=h.isi
  exact⟨t,.inl I.ty,I.tup⟩
 ·exact⟨.type "dict",.inr ⟨a,b,rfl,e,rfl⟩,by rw[kW e];rfl⟩
def AnD (P:Yo)(w:YI)(H:Hp)(x:V):Prop:=An H x\/∃ a b,x=.ref a/\H a=some (DN P w a b)
def uU (P:Yo)(w:YI)(K:Jl)(q:Lam)(i:List Str)(g:LSpc)(L:Lam)(fr:List Str)(lsp:LSpc):Sp:=λp H Q _=>∃ x fs k mv f e a j moves cl vals step Ok n c,
 p=[x,.ref fs,.ref k,.ref mv,.ref f]/\e.map (·.1)=i/\LamAt H fs q e a/\NKey H j k/\Way K H mv f L fr lsp cl vals step Ok moves n/\moves.length<=16/\AnyN P w K H x /\
 (∀ d,zx H x=some d->d.length<=600000/\∀ y∈d,(∀ h (l:VK),KpN H h->(∀ m,Same h m->l (.bl (c y).isSome) m)->g a [y] h l E0)/\∀ s,c y=some s->Ok s/\∃ b,y=.ref b/\NKey H s b) /\
 ∀ o,Same H o->Q (.bl (match zx H x with|none=>false|some d=>uN c d j moves step)) o
end L2
namespace Bn
open PySem L2 Own
theorem kh (N:Nt):(yt N).forks.length=N.forks.length:=(vU N).length_eq
end Bn
namespace L2
open PySem PySem.Spec PyProof.Rows Own
theorem FnOk.any {P:Yo}{w:YI}{K:Jl}{mg:Str->Option Jo}{base:YP}{CX:CXT}{k:Nat}{f:JI}{fd:Yl}{ps:List Str}{sp:Nat->Sp}(M:Nat)(F:∀ m,m<=M->FnOk P w K mg base CX k f fd ps (sp m)) :
  FnOk P w K mg base CX k f fd ps (λvs H Q E=>∃ m,m<=M/\sp m vs H Q E) :=
 ⟨λvs H Q E ⟨m,a,q⟩=>(F m a).len vs H Q E q,λA outer s H args b vs Q E d e g c ⟨m,a,q⟩=>(F m a).run A outer s H args b vs Q E d e g c q⟩
end L2
namespace Bn
open PySem L2 Own
def mergeN:Nat->List Nat->List Nat->List Fk × List Nat
 | 0,a,b=>(a.zip b,a++b)
 | m+1,a,b=>((mergeN m (by2 0 a) (by2 1 b)).1++(mergeN m (by2 1 a) (by2 0 b)).1++(mergeN m (by2 0 a) (by2 1 b)).2.zip (mergeN m (by2 1 a) (by2 0 b)).2,yU (mergeN m (by2 0 a) (by2 1 b)).2 (mergeN m (by2 1 a) (by2 0 b)).2)
def wc:Nat->List Nat->List Fk × List Nat
 | 0,row=>([],row)
 | m+1,row=>((wc m (row.take (row.length / 2))).1++(wc m (row.drop (row.length / 2))).1++(mergeN m (wc m (row.take (row.length / 2))).2 (wc m (row.drop (row.length / 2))).2).1,(mergeN m (wc m (row.take (row.length / 2))).2 (wc m (row.drop (row.length / 2))).2).2)
theorem cL {m n:Nat}(h:n=2 ^ (m+1)):n / 2=2 ^ m/\n-n / 2=2 ^ m/\n / 2<=n:=by
 rw[Zd]at h;lia
theorem wF {α:Type}{m:Nat}{a:List α}(h:a.length=2 ^ (m+1)):(by2 0 a).length=2 ^ m/\(by2 1 a).length=2 ^ m:=by
 rw[nS 0 (by decide),nS 1 (by decide),h,Zd];lia
theorem vB:∀ (m:Nat) (a b:List Nat),a.length=2 ^ m->b.length=2 ^ m->(mergeN m a b).2.length=2 ^ (m+1)/\(mergeN m a b).1.length=(m+1)*2 ^ m
 | 0,a,b,ha,hb=>by
  show (a++b).length=_/\(a.zip b).length=_
  rw[Jn,Wr,ha,hb];exact⟨rfl,rfl⟩
 | m+1,a,b,ha,hb=>by
  obtain⟨k,j⟩:=wF ha;obtain⟨i,h⟩:=wF hb;obtain⟨d,g⟩:=vB m _ _ k h;obtain⟨c,f⟩:=vB m _ _ j i;show (yU _ _).length=_/\(_++_++List.zip _ _).length=_;rw[vP _ _ (d.trans c.symm),Jn,Jn,Wr,d,c,g,f,Nat.min_self];have e:(m+1)*2 ^ m+(m+1)*2 ^ m=(m+1)*2 ^ (m+1):=by rw[<- Nat.two_mul,Zd,Nat.mul_left_comm,Nat.mul_comm 2 (2 ^ m)]
  refine⟨by rw[Zd 2 (m+1),Nat.mul_comm],?_⟩;rw[e,<- Nat.succ_mul]
def kA:Nat->Nat
 | 0=>0
 | m+1=>kA m+kA m+(m+1)*2 ^ m
theorem oG:∀ m,m<=10->kA m<=100000/\(m+1)*2 ^ m<=20000:=by decide +kernel
def zcb (k:Nat):Nt:=⟨2 ^ k,(wc k (List.range (2 ^ k))).1,(wc k (List.range (2 ^ k))).2⟩
def yc (m:Nat):Nt:=⟨2 ^ (m+1),(mergeN m ((List.range (2 ^ (m+1))).take (2 ^ m)) ((List.range (2 ^ (m+1))).drop (2 ^ m))).1,(mergeN m ((List.range (2 ^ (m+1))).take (2 ^ m)) ((List.range (2 ^ (m+1))).drop (2 ^ m))).2⟩
theorem fj:∀ m,m<4->(yc m).forks.length<=128/\(∀ f∈(yc m).forks,f.1<2 ^ (m+1)/\f.2<2 ^ (m+1)/\f.1≠f.2)/\(yc m).ends.Perm (List.range (2 ^ (m+1))):=by decide +kernel
theorem pE {k:Nat}(h:k<5):1<=2 ^ k/\2 ^ k<=16:=⟨WA,Nat.pow_le_pow_right (show 0<2 by decide) (show k<=4 by lia)⟩
theorem uD {m:Nat}(h:m<4):(yc m).Ok:=let ⟨a,b,c⟩:=fj m h;⟨(pE (k:=m+1) (by lia)).1,(pE (k:=m+1) (by lia)).2,a,b,c⟩
end Bn
namespace Bn
open PySem L2 Own
def zbL (k:Nat)(A:Nt):Nt:=⟨A.lanes+A.lanes,(A.forks++A.forks.map (shF A.lanes))++(mergeN k A.ends (A.ends.map (A.lanes + ·))).1,(mergeN k A.ends (A.ends.map (A.lanes + ·))).2⟩
inductive Pln where
 | net (N:Nt)|way (w k:Nat)|dbl (p:Pln)|ren (p:Pln) (ns:List Nat)|bes (p q:Pln)|beh (p q:Pln)
def pwr (n:Nat):Nat:=if n=2 then 1 else if n=4 then 2 else if n=8 then 3 else if n=16 then 4 else 0
def zdW (w k:Nat):Nat:=if w=0 then 2 ^ k*k*(k+1) / 4 else if w=1 then 2 ^ k*k*k / 2 else 2 ^ k*k / 2
namespace Pln
def lanes:Pln->Nat
 | .net N=>N.lanes
 | .way _ k=>2 ^ k
 | .dbl p=>2*p.lanes
 | .ren p _=>p.lanes
 | .bes p q=>p.lanes+q.lanes
 | .beh p _=>p.lanes
def many:Pln->Nat
 | .net N=>N.forks.length
 | .way w k=>zdW w k
 | .dbl p=>2*p.many+p.lanes*pwr (2*p.lanes)
 | .ren p _=>p.many
 | .bes p q=>p.many+q.many
 | .beh p q=>p.many+q.many
def hi:Pln->Nat
 | .net _=>1
 | .way _ _=>1
 | .dbl p=>p.hi+1
 | .ren p _=>p.hi+1
 | .bes p q=>max p.hi q.hi+1
 | .beh p q=>max p.hi q.hi+1
end Pln
inductive Kn where
 | no|stair|merges|rh
 deriving DecidableEq
def Kn.v:Kn->V
 | .no=>.non
 | .stair=>.str "stair"
 | .merges=>.str "merges"
 | .rh=>.str "halves"
def Pln.known:Pln->Kn
 | .net N=>if N.lanes=1 then .stair else .no
 | .way w k=>if w<2 then .stair else if k=1 then .stair else .merges
 | .dbl p=>if p.known=.stair then .stair else .no
 | .ren p _=>if p.known=.merges then .no else p.known
 | .bes p q=>if p.known=.stair/\q.known=.stair/\p.lanes=q.lanes then .rh else .no
 | .beh p q=>if q.known=.stair\/p.known=.rh/\q.known=.merges then .stair else .no
end Bn
namespace Bn
open PySem L2 Own
def Pln.raw:Pln->Nt
 | .net N=>N
 | .way w k=>if w=0 then zcb k else if w=1 then zaW k else yc (k-1)
 | .dbl p=>zbL (pwr (2*p.lanes)-1) p.raw
 | .ren p ns=>bM p.raw ns
 | .bes p q=>zbO p.raw q.raw
 | .beh p q=>zbP p.raw q.raw
end Bn
namespace L2
open PySem PySem.Spec PyProof.Rows Own Bn
section
variable {stO:V->Option KN}{xs:List V}{k0:KN}{moves:List Nat}{step:KN->Nat->Option KN}{ss:List KN}
theorem dy (em:xs.mapM stO=some ss)(nd:ss.Nodup)(cl:∀ k∈ss,∀ m∈moves,∃ t,step k m=some t/\t∈ss):uN stO xs k0 moves step=decide (k0∈ss):=by
 rw[qO em,Jy nd,Bool.true_and];have good:∀ F:KN->Bool,(∀ k∈ss,F k=true)->(decide (k0∈ss) && ss.all F)=decide (k0∈ss):=λF h=>by rw[Yc.mpr h,Bool.and_true]
 refine good _ λk c=>Yc.mpr λm b=>?_;obtain⟨t,g,a⟩:=cl k c m b;rw[g];exact Jy a
end
theorem Dp.tup {H:Hp}{n:Nat}{a:JI}{xs:List V}(e:H a=some (.tup xs))(l:xs.length<=1000)(m:∀ y∈xs,Dp H n y):Dp H (n+1) (.ref a) :=
 ⟨.inr ⟨a,rfl,.inl ⟨xs,e⟩⟩,λb z=>by
  rw[yQ e]at z;obtain rfl:=Jq z
  exact⟨l,m⟩⟩
theorem Dp.ints {H:Hp}{n:Nat}{a:JI}{is:List Int}(e:H a=some (.tup (is.map V.int)))(l:is.length<=1000):Dp H (n+1) (.ref a) :=
 .tup e (by rw[Jb];exact l) λy b=>by
  obtain⟨i,_,rfl⟩:=Jx.mp b;exact .flat trivial
theorem Dp.knot {N:Nt}{H:Hp}{b:JI}{k:KN}(a:Nt.Ok N)(ok:OkM N k)(h:NKey H k b):Dp H 2 (.ref b):=by
 obtain⟨e,m,n,rfl,f,_⟩:=ok;obtain⟨t,d,e2⟩:=sO h;have g:=a.fm;refine .tup d (by show 3<=1000;decide) λy c=>?_;rcases Jf.mp c with rfl|z
 ·exact .ints e2 (by lia)
 ·obtain⟨i,_,rfl⟩:=Jx.mp z
  exact .flat trivial
def DpK (H:Hp)(x:V):Prop:=An H x/\∀ a,zx H x=some a->a.length≠3\/∀ y∈a,Dp H 1 y
theorem Dp.k {H:Hp}{x:V}(d:Dp H 2 x):DpK H x:=⟨d.1,λa e=>.inr (d.2 a e).2⟩
theorem DpK.via {H H':Hp}{x:V}(A:∀ {y:V},An H y->An H' y/\zx H' y=zx H y)(D:∀ {y:V},Dp H 1 y->Dp H' 1 y)(d:DpK H x):DpK H' x:=⟨(A d.1).1,λa e=>by
 rw[(A d.1).2]at e
 exact(d.2 a e).imp id λh y b=>D (h y b)⟩
theorem DpK.kp {H H':Hp}{x:V}(k:KpN H H')(d:DpK H x):DpK H' x:=d.via (λa=>⟨a.kp k,a.row k⟩) λh=>h.kp k
theorem eI {H H':Hp}{a lanes:Int}{x:V}(A:∀ {y:V},An H y->zx H' y=zx H y)(d:DpK H x):xR H' a lanes x=xR H a lanes x:=by
 unfold xR;rw[A d.1];split
 ·rename_i t m n e
  rcases d.2 _ e with h|h
  ·exact absurd rfl h
  ·unfold yp
   rw[A (h t (.head _)).an]
 ·rfl
theorem eJ {H H':Hp}{b lanes:Int}{x:V}(k:KpN H H')(d:DpK H x):xR H' b lanes x=xR H b lanes x:=eI (λa=>a.row k) d
def wy (K:Jl):Sp:=λb H Q _=>∃ r fr d c N,∃ x,b=[.ref r,x]/\Nt.Ok N/\NetAt H r fr d c N/\DpK H x/\∀ a,Same H a->Q (.bl (xR H (N.forks.length:Nat) (N.lanes:Nat) x)) a
end L2
namespace K65
open PySem L2 Own Bn
abbrev oq:Stmt:=top 19
abbrev ot:Stmt:=top 31
abbrev kN:Stmt:=top 32
abbrev oi:Stmt:=top 35
theorem aZ (n:Nat):List.replicate n (V.int 0)=(List.replicate n (0:Int)).map V.int:=(List.map_replicate).symm
def vn:Sp:=λb H Q _=>∃ r fr d c N,b=[.ref r]/\Nt.Ok N/\NetAt H r fr d c N/\∀ p a,Same H a->NKey a (k0M N) p->Q (.ref p) a
def vm:Sp:=λd H Q _=>∃ r fr f e N b k,∃ h:Nat,d=[.ref r,.ref b,.int (h:Nat)]/\Nt.Ok N/\N.lanes%2=0/\NetAt H r fr f e N/\NKey H k b/\OkM N k /\
 (∀ a,Same H a->yg N k h=none->Q .non a)/\(∀ a c t,Same H a->yg N k h=some t->NKey a t c->Q (.ref c) a)
def xO:LSpc:=λvals a H Q E=>∃ r b,∃ h:Nat,vals=[.ref r]/\a=[.ref b,.int (h:Nat)]/\vm [.ref r,.ref b,.int (h:Nat)] H Q E
theorem ma {H:Hp}{r fr er:JI}{ps:List V}{N:Nt}{moves:List Nat}(ok:Nt.Ok N)(ev:N.lanes%2=0)(na:NetAt H r fr er ps N):Led xO [.ref r] (yg N) (OkM N) moves H:=λe s b m Q t os _ d c a =>
 ⟨r,b,m,rfl,rfl,r,fr,er,ps,N,b,s,m,rfl,ok,ev,na.tups t,d,os,c,a⟩
section
variable {P:Yo}{w:YI}{K:Jl}{mg:Str->Option Jo}{base:YP}
theorem zem:FnScope ["net"] ["net"] (zN oq):=by trivial
theorem gz {f:JI}{fd:Yl}(F:Fun K "first_turns" "first_turns" oq f fd) (G:Mgs mg):FnOk P w K mg base CX0 1 f fd ["net"] sW:=by
 refine F.ok zem (λc H Q E h=>?_) (λm A outer s H c Q E n h=>?_)
 ·obtain⟨r,fr,j,b,N,rfl,_⟩:=h
  rfl
 obtain⟨r,fr,j,b,N,rfl,ok,na,k⟩:=h;refine⟨_,(zM (zT (zS za5 (yE (zB zK zC rfl)) (zV zZ rfl G.len Ys (zB (zt yF (pvb 0 rfl) zK (λ_ _=>rfl)) zC rfl) (by decide) (by decide) rfl rfl)))),?_⟩;refine⟨by show 1<=sizeLine;decide,λt g=>?_⟩;have a:=zE g (.tup [.int 0]);have e:=na.prs.len;have o:=ok.fm;refine zA ⟨r,_,_,_,rfl,rfl,SqT.of (a _ _ na.net),rfl,fr,b,rfl,.inr (SqT.of (a _ _ na.forks)),t,_,b.length,rfl,rfl,zD,by lia,λp l d i=>k p l (a.trans d) ?_⟩;rw[i,aZ,e]
theorem zen:FnScope ["net"] ["net"] (zN ot):=by trivial
theorem g8 {f l:JI}{fd dT:Yl}(F:Fun K "first_knot" "first_knot" ot f fd) (m:Use P w K mg base "first_turns" ["net"] 1 sW l dT):FnOk P w K mg base CX0 2 f fd ["net"] vn:=by
 refine F.ok zen (λd H Q E h=>?_) (λn A outer s H d Q E g h=>?_)
 ·obtain⟨r,fr,c,b,N,rfl,_⟩:=h
  rfl
 obtain⟨r,fr,c,b,N,rfl,ok,na,k⟩:=h;refine⟨_,(zM (zT (yE (zB (zU m g (zB (pvb 0 rfl) zC rfl) rfl rfl rfl rfl) (zB zK (zB zK zC rfl) rfl) rfl)))),?_⟩;refine zA ⟨r,fr,c,b,N,rfl,ok,na,λt o e j=>⟨by show 3<=sizeLine;decide,λp i=>?_⟩⟩;have a:=zE i (.tup [.ref t,.int 0,.int 0]);exact k p _ (e.trans a) (io (is:=[0,0]) (t:=t) zD (a _ _ j))
theorem oW:FnScope ["net","knot","half","turns","m","n","lanes","width","lane","onward","end"] ["net","knot","half"] (zN kN):=by trivial
theorem aE {f W:JI}{fd X:Yl}(F:Fun K "knot_behind" "knot_behind" kN f fd) (Y:Use P w K mg base "passed" ["net","turns","lane"] 3 (kD false) W X):FnOk P w K mg base CX0 4 f fd ["net","knot","half"] vm:=by
 refine F.ok oW (λI H Q E h=>?_) (λZ A outer s H I Q E S h=>?_)
 ·obtain⟨r,fr,B,v,N,b,k,h,rfl,_⟩:=h
  rfl
 obtain⟨r,fr,B,v,N,b,k,h,rfl,ok,ev,na,O,⟨d,m,n,rfl,J,bits,ml,nl⟩,L,u⟩:=h;refine⟨_,(zJ (yh (pvb 1 rfl) (yn rfl (zR (@zQ _ _ 3 _ oW.nd rfl (.inl rfl) (by trivial)) (zR (@zQ _ _ 4 _ oW.nd rfl (.inl rfl) (by trivial)) (zR (@zQ _ _ 5 _ oW.nd rfl (.inl rfl) (by trivial)) yS rfl) rfl) rfl) rfl rfl) rfl rfl rfl) (zJ (@zY _ _ 6 _ _ _ _ oW.nd rfl (.inl rfl) (zt yF (pvb 0 rfl) zK (λ_ _=>rfl)) rfl (by trivial)) (zJ (@zY _ _ 7 _ _ _ _ oW.nd rfl (.inl rfl) (zS wN (pvb 6 rfl) zK) rfl (by trivial)) (zJ (@zY _ _ 8 _ _ _ _ oW.nd rfl (.inl rfl) (mB (yN mF (pvb 2 rfl) zK (yu _)) (zS xD (pvb 4 rfl) (pvb 7 rfl)) (zS yO (pvb 7 rfl) (zS xD (pvb 5 rfl) (pvb 7 rfl)))) rfl (by trivial)) (zJ (yh (zU Y S (zB (pvb 0 rfl) (zB (pvb 3 rfl) (zB (pvb 8 rfl) zC rfl) rfl) rfl) rfl rfl rfl rfl) (yn rfl (zR (@zQ _ _ 9 _ oW.nd rfl (.inl rfl) (by trivial)) (zR (@zQ _ _ 10 _ oW.nd rfl (.inl rfl) (by trivial)) yS rfl) rfl) rfl rfl) rfl rfl rfl) (zJ (xK (yN bn (pvb 10 rfl) (zS xD (zS yO (pvb 4 rfl) (pvb 5 rfl)) (pvb 6 rfl)) (yu _)) (zM (zT kw)) yZ) (zJ (xK (yN mF (pvb 2 rfl) zK (yu _)) (zM (zT (yE (zB (pvb 9 rfl) (zB (zS xD (zS yO (pvb 4 rfl) zK) (pvb 6 rfl)) (zB (pvb 5 rfl) zC rfl) rfl) rfl)))) yZ) (zM (zT (yE (zB (pvb 9 rfl) (zB (pvb 4 rfl) (zB (zS xD (zS yO (pvb 5 rfl) zK) (pvb 6 rfl)) zC rfl) rfl) rfl))))))))))),?_⟩;obtain⟨t,U,R⟩:=sO O;have l1:=ok.l1;have M:2<=N.lanes:=by lia
 have hw:((N.lanes:Nat):Int) / 2=((N.lanes / 2:Nat):Int):=rfl;refine zA ⟨b,_,rfl,SqT.of U,rfl,_,_,rfl,_,_,rfl,_,_,rfl,rfl,?_⟩;refine zA ⟨r,_,_,_,rfl,rfl,SqT.of na.net,rfl,?_⟩;refine zA ⟨_,_,rfl,rfl,⟨by decide,by decide⟩,?_⟩;refine zeF Q ?_;refine zaS (λσ G=>(∃ o v10,σ=[some (.ref r),some (.ref b),some (.int (h:Nat)),some (.ref t),some (.int (m:Nat)),some (.int (n:Nat)),some (.int (N.lanes:Nat)),some (.int ((N.lanes / 2:Nat):Int)),some (.int ((laneM N m n h:Nat):Int)),o,v10])/\G=H) ?_ λD g _=>?_
 rotate_left
 ·have x:(decide (V.int ((h:Nat):Int)=V.int 0)=true)↔h=0:=⟨λz=>by have:=V.int.inj (Yn z);simp_all,λz=>by rw[z];exact Jy rfl⟩
  refine zA ⟨rfl,_,rfl,zbA (λy=>?_) (λy=>?_)⟩
  ·refine zA (zA ⟨_,_,rfl,rfl,by show (0:Int)<((N.lanes / 2:Nat):Int);lia,g _ _ ⟨⟨none,none,?_⟩,rfl⟩⟩)
   unfold laneM;rw[Jh (x.mp y),YA];rfl
  ·refine zA (zA (zA ⟨_,_,rfl,rfl,by show (0:Int)<((N.lanes / 2:Nat):Int);lia,_,_,rfl,rfl,g _ _ ⟨⟨none,none,?_⟩,rfl⟩⟩))
   unfold laneM;rw[Jc (λz=>y (x.mpr z)),Int.natCast_add,YA];rfl
 rintro σ G ⟨⟨o,v10,rfl⟩,C⟩;rw[C];clear C;refine zA (zA (zA ⟨r,fr,B,v,N,t,d,laneM N m n h,rfl,ok,na,R,J,bits,rT M ev m n h,λp a H1 j T i=>?_⟩));refine⟨p,_,rfl,SqT.of T,rfl,_,_,rfl,_,_,rfl,rfl,?_⟩;have st:=vk (N:=N) d m n h;refine zA (zA (zA ⟨_,_,rfl,rfl,_,rfl,_,_,rfl,rfl,by show (0:Int)<((N.lanes:Nat):Int);grind,rfl,?_⟩));by_cases c:((passE N d (laneM N m n h):Nat):Int)=(((m:Nat):Int)+(n:Nat))%(N.lanes:Nat)
 ·rw[Jh c]at st
  refine⟨false,?_,yR ?_⟩
  ·show V.bl (!decide (V.int ((passE N d (laneM N m n h):Nat):Int)=V.int ((((m:Nat):Int)+(n:Nat))%(N.lanes:Nat))))=V.bl false
   rw[c,Jy rfl];rfl
  refine zA ⟨rfl,?_⟩;by_cases z:h=0
  ·rw[Jh z]at st
   refine⟨true,by rw[z];rfl,xH (zA (zA ⟨_,_,rfl,rfl,_,rfl,_,_,rfl,rfl,by show (0:Int)<((N.lanes:Nat):Int);grind,_,rfl,by show 3<=sizeLine;decide,λq l=>?_⟩))⟩;have e:=zE l (.tup [.ref a,.int ((((m:Nat):Int)+1)%(N.lanes:Nat)),.int (n:Nat)]);exact u _ q _ (j.trans e) st (io (is:=[(((m:Nat):Int)+1)%(N.lanes:Nat),((n:Nat):Int)]) (t:=a) zD (e _ _ i))
  ·rw[Jc z]at st
   refine⟨false,JP V.bl (Jr λy=>z (by have:=V.int.inj y;simp_all)),yR (zA (zA (zA ⟨_,_,rfl,rfl,_,rfl,_,_,rfl,rfl,by show (0:Int)<((N.lanes:Nat):Int);grind,by show 3<=sizeLine;decide,λq l=>?_⟩)))⟩;have e:=zE l (.tup [.ref a,.int (m:Nat),.int ((((n:Nat):Int)+1)%(N.lanes:Nat))]);exact u _ q _ (j.trans e) st (io (is:=[((m:Nat):Int),(((n:Nat):Int)+1)%(N.lanes:Nat)]) (t:=a) zD (e _ _ i))
 ·rw[Jc c]at st
  refine⟨true,?_,xH (L _ j st)⟩;show V.bl (!decide (V.int ((passE N d (laneM N m n h):Nat):Int)=V.int ((((m:Nat):Int)+(n:Nat))%(N.lanes:Nat))))=V.bl true;rw[Jr (λz=>c (V.int.inj z))];rfl
theorem zek:FnScope ["net","thing"] ["net","thing"] (zN oi):=by trivial
theorem gx {f S T:JI}{fd Y Z:Yl}(F:Fun K "is_knot" "is_knot" oi f fd) (G:Mgs mg) (UR:Use P w K mg base "is_row" ["thing","many"] 1 (tO K) S Y) (J:Use P w K mg base "are_below" ["thing","many","bound"] 3 (oS K) T Z):FnOk P w K mg base CX0 4 f fd ["net","thing"] (wy K):=by
 refine F.ok zek (λL H Q E h=>?_) (λab A outer s H L Q E j h=>?_)
 ·obtain⟨r,fr,U,B,N,x,rfl,_⟩:=h
  rfl
 obtain⟨r,fr,U,B,N,x,rfl,ok,na,D,k⟩:=h;have u:Room 1 _:=j.mono (by decide);refine⟨_,(zM (zT (ud (zU UR u (zB (pvb 1 rfl) (zB zK zC rfl) rfl) rfl rfl rfl rfl) (ud (zU J j (zB (zt yF (pvb 1 rfl) zK (λ_ _=>rfl)) (zB (zV zZ rfl G.len Ys (zB (zt yF (pvb 0 rfl) zK (λ_ _=>rfl)) zC rfl) (by decide) (by decide) rfl rfl) (zB zK zC rfl) rfl) rfl) rfl rfl rfl rfl) (rE (zU J j (zB (xi vp (pvb 1 rfl) (y4 zK) xY) (zB zK (zB (zt yF (pvb 0 rfl) zK (λ_ _=>rfl)) zC rfl) rfl) rfl) rfl rfl rfl rfl)))))),?_⟩;refine zA ⟨x,3,rfl,D.1.any,_,rfl,?_⟩
 have no:uZ H 3 x=false->xR H (N.forks.length:Nat) (N.lanes:Nat) x=false:=λe=>by
  unfold xR;split
  ·rename_i t m n z
   unfold uZ at e;rw[z]at e;cases e
  ·rfl
 cases c:uZ H 3 x with
 | false =>
  rw[no c]at k
  exact yR (k H (Same.refl H))
 | true =>
 refine xH ?_
 obtain⟨t,m,n,a⟩:∃ t m n,zx H x=some [t,m,n]:=by
  unfold uZ at c;split at c
  ·rename_i v z
   have l:=Yn c
   match v,l,z with
   | [t,m,n],_,z=>exact⟨t,m,n,z⟩
   | [],l,_=>cases l
   | [_],l,_=>cases l
   | [_,_],l,_=>cases l
   | _::_::_::_::_,l,_=>simp at l;lia
  ·cases c
 obtain⟨b,rfl,C⟩:=yq a;have q:∀ y∈[t,m,n],Dp H 1 y:=(D.2 _ a).resolve_left λz=>z rfl;have V:=(q t (.head _)).deep (K:=K);have X:=(q m (.tail _ (.head _))).deep (K:=K);have W:=(q n (.tail _ (.tail _ (.head _)))).deep (K:=K)
 have ev:∀ g,Same H g->Q (.bl (yp H (N.forks.length:Nat) 2 t && (yw (N.lanes:Nat) m && yw (N.lanes:Nat) n))) g:=λg s=>by
  have:=k g s;unfold xR at this;rw[a]at this;exact this
 refine zA ⟨b,_,_,_,rfl,rfl,SqT.of C,rfl,?_⟩;refine zA ⟨r,_,_,_,rfl,rfl,SqT.of na.net,rfl,fr,B,rfl,.inr (SqT.of na.forks),t,_,2,rfl,V,λH1 i=>yM rfl ?_⟩;rw[na.prs.len]
 cases I:yp H (N.forks.length:Nat) 2 t with
 | false =>
  rw[I]at ev
  exact yR (ev H1 i)
 | true =>
 rw[I]at ev;refine xH (zA (yM rfl ⟨b,_,rfl,i _ _ C,λp H2 O o=>?_⟩));have d:=i.trans O;refine zA ⟨r,_,_,_,rfl,rfl,SqT.of (d _ _ na.net),rfl,.ref p,2,_,rfl,⟨⟨_,.tup o,_,rfl⟩,λv z=>?_⟩,λH3 M=>?_⟩
 ·rw[yQ o]at z
  obtain rfl:=Jq z;refine⟨by show 2<=1000;decide,λy R=>?_⟩;rcases Jf.mp (show y∈[m,n] from R) with rfl|z
  ·exact(jg d X).any
  ·rw[Jm.mp z];exact(jg d W).any
 ·have e:yp H2 2 (N.lanes:Nat) (.ref p)=(yw (N.lanes:Nat) m && yw (N.lanes:Nat) n):=by
   unfold yp;rw[yQ o];show (decide ((2:Int)=2) && (yw (N.lanes:Nat) m && (yw (N.lanes:Nat) n && true)))=_;rw[Jy rfl,Bool.true_and,Bool.and_true]
  rw[e];exact ev H3 (d.trans M)
abbrev oj:Stmt:=top 23
theorem zdv:FnScope ["thing","is_state","first","moves","led","known"] ["thing","is_state","first","moves","led"] (zN oj):=by trivial
theorem gw {f:JI}{fd:Yl}{SL L:Lam}{a6 fr a7 ba:List Str}{ab lsp:LSpc}(F:Fun K "is_book" "is_book" oj f fd) (G:Mgs mg) (LS:LamQ CX0 P w K mg base 4 SL a6 a7 ab) (LQ:LamQ CX0 P w K mg base 4 L fr ba lsp):FnOk P w K mg base CX0 6 f fd ["thing","is_state","first","moves","led"] (uU P w K SL a6 ab L fr lsp):=by
 refine F.ok zdv (λvs H Q E h=>?_) (λbw A outer s H vs Q E hr h=>?_)
 ·obtain⟨x,fs,b0,mv,f,a0,J,k0,moves,cl,vals,step,Ok,n,B,rfl,_⟩:=h
  rfl
 obtain⟨x,fs,b0,mv,f,a0,J,k0,moves,cl,vals,step,Ok,n,B,rfl,eS,laS,bc,W,bu,ax,v,k⟩:=h;refine⟨_,(zJ (xK (n8 (kg (uc (zV dq (by rfl) G.isi rfl (zB (pvb 0 rfl) (zB (@tU _ _ (.ty "tuple") (.type "tuple") _ (by rfl) G.tuple rfl rfl (by decide) (by decide)) zC rfl) rfl) (by decide) (by decide) rfl rfl) (by intro _;rfl))) (o6 (kg (uc (zV (vG rfl true) (by rfl) G.all rfl (zB (@rF _ _ _ _ none _ _ _ _ _ _ ["state","is_state"] [none,some 1] rfl (xV (pvb 0 rfl)) (CapOk.of (by kernel_rfl)) (λ_ _ _ _ _=>(@zQ _ _ 0 _ (show (["state","is_state"]:List Str).Nodup from by decide +kernel) rfl (.inl rfl) (.inr rfl))) (λ_ _ _ _ _=>xX) (λ_ _ _ _ _=>(o7 LS hr (pvb 1 rfl) uw (zB (pvb 0 rfl) zC rfl))) (by intro _;rfl)) zC rfl) (by decide) (by decide) rfl rfl) (by intro _;rfl))))).pt (zM (zT uA)) yZ) (zJ (@zY _ _ 5 _ _ _ _ zdv.nd rfl (.inr rfl) (bi hr.u3 (N':=["state"]) (cap:=[none]) rfl (xV (pvb 0 rfl)) (CapOk.of (by kernel_rfl)) (λ_ _ _ _ _=>(@zQ _ _ 0 _ (show (["state"]:List Str).Nodup from by decide +kernel) rfl (.inl rfl) (.inr rfl))) (λ_ _ _ _ _=>(pvb 0 rfl)) (λ_ _ _ _ _=>uA)) rfl (by trivial)) (zJ (xK (n8 (yN bn (zV pf (by rfl) G.len Ys (zB (pvb 5 rfl) zC rfl) (by decide) (by decide) rfl rfl) (zV zZ (by rfl) G.len Ys (zB (pvb 0 rfl) zC rfl) (by decide) (by decide) rfl rfl) (yu _)) (o6 (zcw (gj hr.u3 (pvb 2 rfl) (pvb 5 rfl)) rfl))).pt (zM (zT uA)) yZ) (zM (zT (zV (vG rfl true) (by rfl) G.all rfl (zB (@ky _ _ _ _ _ _ none _ _ _ (zc2 K (lh 4)) _ _ _ _ ["state","move","known","led","moves"] [none,none,some 5,some 4,some 3] rfl (xV (pvb 0 rfl)) (CapOk.of (by kernel_rfl)) (λ_ _ _ _ _=>(@zQ _ _ 0 _ (show (["state","move","known","led","moves"]:List Str).Nodup from by decide +kernel) rfl (.inl rfl) (.inr rfl))) (λ_ _ _ _ _=>(xV (pvb 4 rfl))) (λ_ _ _ _ _=>(@zQ _ _ 1 _ (show (["state","move","known","led","moves"]:List Str).Nodup from by decide +kernel) rfl (.inl rfl) (.inr rfl))) (λ_ _ _ _ _=>xX) (λ_ _ _ _ _=>(@tT _ _ _ _ _ _ _ (zdy P w) (bp hr.u3) (o7 LQ hr (pvb 3 rfl) uw (zB (pvb 0 rfl) (zB (pvb 1 rfl) zC rfl) rfl)) (pvb 2 rfl) rfl)) (by intro _;rfl) (by intro _ _;rfl)) zC rfl) (by decide) (by decide) rfl rfl)))))),?_⟩;obtain⟨t,It,Iu⟩:=ax.isi;refine zA ⟨_,"tuple",_,_,rfl,It,Iu,_,rfl,?_⟩
 cases X:zx H x with
 | none =>
  rw[X]at k
  exact xH (xH (k _ (Same.refl _)))
 | some xs =>
 obtain⟨a,rfl,ha⟩:=yq X;rw[X]at k;change ∀ H',Same H H'->Q (.bl (uN B xs k0 moves step)) H' at k;obtain⟨xl,hy⟩:=v xs X;refine yR ?_;refine zA ⟨a,rfl,⟨_,SqT.of ha⟩,λl hl=>?_⟩;have sl:=zE hl (.lst []);refine jR (K:=K) (a:=a) (xs:=xs) (λj acc σ M=>(∃ I,σ=[I,some (.ref fs)])/\Same H M/\M l=some (.lst acc)/\acc=(xs.take j).map λy=>V.bl (B y).isSome) ⟨⟨_,rfl⟩,sl,zD,rfl⟩ (λj acc σ M z=>⟨z.2.2.1,SqT.of (z.2.1 _ _ ha)⟩) ?_ ?_
 ·rintro j x acc σ M v ⟨⟨I,rfl⟩,s2,h2,rfl⟩
  have jl:j<xs.length:=(Ja.mp v).1;have xm:x∈xs:=JM v;have ak:=laS.frz λb o u e=>s2 _ _ e;obtain⟨pm,cc,ct,oc,fz,tk,ao,_⟩:=ak.ex;refine⟨fs,rfl,⟨_,_,_,_,ao⟩,_,rfl,a0,J,eS,ak,(hy x xm).1 _ _ ((KpN.same s2).trans (KpN.strip ak.fz)) λC s3 low=>?_⟩;have Z:=wA s3;generalize back a0 M C=H4 at Z ⊢;have u4:=s2.trans Z;refine⟨Z _ _ h2,by rw[Jb,JF,JW];lia,nx jl ⟨⟨_,rfl⟩,λb o e=>?_,zD,?_⟩⟩
  ·rw[zG (zH e hl)];exact u4 b o e
  ·rw[<- Yk jl,JE,(Ja.mp v).2];rfl
 rintro acc σ M ⟨⟨I,rfl⟩,s2,h2,rfl⟩;rw[Ya]at h2;refine⟨l,xs.map λy=>(B y).isSome,rfl,.inl (.inl (by rw[YX];exact h2)),_,rfl,?_⟩
 cases hm:xs.mapM B with
 | none =>
  obtain⟨y,ym,bt⟩:=fu.mp hm;have e:(xs.map λy=>(B y).isSome).all id=false:=List.all_eq_false.mpr ⟨false,Jx.mpr ⟨y,ym,by rw[bt];rfl⟩,by simp⟩;have z:=k _ s2;rw[jj hm]at z;rw[e]
  exact xH z
 | some ss =>
 obtain⟨a3,hs⟩:=pB hm
 have e:(xs.map λy=>(B y).isSome).all id=true:=Yc.mpr λb hb=>by
  obtain⟨y,ym,rfl⟩:=Jx.mp hb;obtain⟨i,il,ei⟩:=Z8.mp ym;obtain⟨p,_,e0⟩:=hs i y (by rw[J6 il,ei]);rw[e0];rfl
 rw[e];refine yR ?_;have a5:=s2 _ _ ha;refine zA ⟨a,rfl,⟨_,SqT.of a5⟩,λd hd=>?_⟩;refine zc7 (K:=K) (a:=a) (xs:=xs) (λj acc σ C=>(∃ I,σ=[I])/\Same M C/\C d=some (DN P w d acc)/\acc.map (·.1)=ddL (ss.take j)/\KsIn C acc/\acc.length<=j) ⟨⟨_,rfl⟩,zE hd _,zD,rfl,λx v=>(nomatch v),JN _⟩ (λj acc σ C z=>SqT.of (z.2.1 _ _ a5)) ?_ ?_
 ·rintro j x acc σ C v ⟨⟨I,rfl⟩,s3,h3,ek,ks,al⟩
  have jl:j<xs.length:=(Ja.mp v).1;obtain⟨p,es,e0⟩:=hs j x v;obtain⟨_,b,rfl,kb⟩:=(hy x (JM v)).2 p e0;have U:=(kb.tups (Tups.of s2)).tups (Tups.of s3);have bl:j<ss.length:=(Ja.mp es).1;have tp:Tups C (L2.upd C d (DN P w d (xJ acc p b (.bl true)))):=λc ys e=>by rw[zG (xG e h3 λz=>by cases z)];exact e
  refine zA ⟨b,p,rfl,h3,ks,U,by rw[JW];lia,nx jl ⟨⟨_,rfl⟩,λc o e=>?_,zD,?_,(ks.put U).tups tp,?_⟩⟩
  ·rw[zG (zH e hd)];exact s3 c o e
  ·rw[gX,<- Yk bl,lH,(Ja.mp es).2,<- ek]
   unfold ddN;by_cases c:p∈acc.map (·.1)
   ·rw[Jh c,Jh (sE.mpr c)]
   ·rw[Jc c,Jc λz=>c (sE.mp z)]
  ·have:=vw acc p b (.bl true)
   lia
 rintro acc σ C ⟨⟨I,rfl⟩,s3,h3,ek,ks,al⟩;rw[a3,Ya]at ek;obtain⟨dm,dl,dn⟩:=iX ss;rw[<- ek]at dm dl dn;rw[Jb]at dl dn;have u3:=s2.trans s3;have aT:=u3 _ _ ha;have U:=bc.tups (Tups.of u3);have z:=k;rw[qO hm]at z;refine zA ⟨d,acc,rfl,.inl h3,_,rfl,a,xs,rfl,.inr (SqT.of aT),rfl,_,rfl,?_⟩;by_cases nd:ss.Nodup
 rotate_left
 ·rw[show (!decide (V.int (acc.length:Nat)=V.int (xs.length:Nat)))=true from by
   rw[nG,Jr λ(e:((acc.length:Nat):Int)=(xs.length:Nat))=>nd (dn.mp (by lia))];rfl]
  rw[Jr nd]at z;exact xH (xH (z _ u3))
 rw[show (!decide (V.int (acc.length:Nat)=V.int (xs.length:Nat)))=false from by
   rw[nG,Jy (show ((acc.length:Nat):Int)=(xs.length:Nat) by have:=dn.mpr nd;lia)];rfl]
 refine yR (zA (zA ⟨d,b0,acc,k0,rfl,rfl,⟨.inl h3,ks⟩,U,_,rfl,?_⟩))
 have vi:∀ t,(xP acc t).isSome=decide (t∈ss):=λt=>by
  rw[Yy,decide_eq_true_iff,sE,dm]
 rw[vi];rw[Jy nd]at z;by_cases c0:k0∈ss
 rotate_left
 ·rw[Jr c0]at z ⊢
  exact xH (z _ u3)
 rw[Jy c0]at z ⊢;refine yR ?_
 let T:KN->Nat->Bool:=λs m=>match step s m with|none=>false|some t=>decide (t∈ss)
 let g:Nat->List Bool:=λi=>(ss.take i).flatMap λs=>moves.map (T s)
 have acl:∀ i,(g i).length<=i*16:=λi=>by
  show ((ss.take i).flatMap λs=>moves.map (T s)).length<=_
  have key:∀ rs:List KN,(rs.flatMap λs=>moves.map (T s)).length<=rs.length*16:=λrs=>by
   induction rs with
   | nil=>exact Je _
   | cons r rs ih =>
    rw[List.flatMap_cons,Jn,Jb,JL,Nat.add_mul];lia
  have:=key (ss.take i);rw[JF]at this;lia
 refine zA ⟨a,rfl,⟨_,SqT.of aT⟩,λl2 a4=>?_⟩;refine zbx (K:=K) (a:=a) (xs:=xs) (Q:=λx H1=>zaJ (List.set (L2.wb ["thing","is_state","first","moves","led","known"] [V.ref a,V.ref fs,V.ref b0,V.ref mv,V.ref f]) 5 (some (V.ref d))) H1 λvs M=>∃ a bs,x::vs=[V.ref a]/\SqB true K M a (List.map V.bl bs)/\Q (V.bl (bs.all id)) M) (λi ac σ H4=>(∃ I N,σ=[I,N,some (.ref d),some (.ref f),some (.ref mv)])/\Same C H4/\H4 l2=some (.lst ac)/\ac=(g i).map V.bl) ⟨⟨_,_,rfl⟩,zE a4 _,zD,rfl⟩ (λi ac σ H4 z=>⟨z.2.2.1,SqT.of (z.2.1 _ _ aT)⟩) ?_ ?_
 ·rintro i ac σ H4 x v ⟨⟨I,N,rfl⟩,Z,h4,rfl⟩
  have il:i<xs.length:=(Ja.mp v).1;obtain⟨p,es,e0⟩:=hs i x v;obtain⟨a8,b,rfl,kb⟩:=(hy x (JM v)).2 p e0;have bo:i<ss.length:=(Ja.mp es).1
  have a9:g (i+1)=g i++moves.map (T p):=by
   show (ss.take (i+1)).flatMap _=_;rw[<- Yk bo,List.flatMap_append,(Ja.mp es).2,List.flatMap_singleton]
  have u4:=u3.trans Z;refine zA ⟨mv,rfl,⟨_,(W.mv.tups (Tups.of u4)).sq⟩,?_⟩;refine iK (K:=K) (a:=mv) (zs:=moves.map λm=>V.int (m:Nat)) (λj ac σ R=>(∃ N,σ=[some (.ref b),N,some (.ref d),some (.ref f),some (.ref mv)])/\Same C R/\R l2=some (.lst ac)/\ac=(g i++(moves.take j).map (T p)).map V.bl) ⟨⟨_,rfl⟩,Z,h4,by rw[W9,List.map_nil,JY]⟩ (λj ac σ R z=>⟨z.2.2.1,(W.mv.tups (Tups.of (u3.trans z.2.1))).sq⟩) ?_ ?_
  ·rintro j x ac σ R v ⟨⟨N,rfl⟩,Y,h5,rfl⟩
   rw[JC]at v;obtain⟨m,em,rfl⟩:=Y7.mp v;have jl:j<moves.length:=(Ja.mp em).1;have u5:=u3.trans Y;have S:=W.la.frz λb o u e=>u5 _ _ e;obtain⟨pm,cc,ct,oc,fz,tk,ao,_⟩:=S.ex
   have tj:(moves.take (j+1)).map (T p)=(moves.take j).map (T p)++[T p m]:=by
    rw[<- Yk jl,JE,(Ja.mp em).2];rfl
   have fin:∀ (O:Hp) (q:Bool),Same R O->q=T p m->O l2=some (.lst ((g i++(moves.take j).map (T p)).map V.bl))/\((g i++(moves.take j).map (T p)).map V.bl).length<sizeLine/\Nx (moves.map λm=>V.int (m:Nat)).length j ((∃ N,[some (V.ref b),some (V.int (m:Nat)),some (.ref d),some (.ref f),some (.ref mv)]=[some (.ref b),N,some (.ref d),some (.ref f),some (.ref mv)])/\Same C (L2.upd O l2 (.lst ((g i++(moves.take j).map (T p)).map V.bl++[V.bl q])))/\L2.upd O l2 (.lst ((g i++(moves.take j).map (T p)).map V.bl++[V.bl q])) l2=some (.lst ((g i++(moves.take j).map (T p)).map V.bl++[V.bl q]))/\(g i++(moves.take j).map (T p)).map V.bl++[V.bl q]=(g i++(moves.take (j+1)).map (T p)).map V.bl):=λO q D eq=>by
    subst eq;refine⟨D _ _ h5,?_,nx (by rw[Jb];exact jl) ⟨⟨_,rfl⟩,λb o e=>?_,zD,?_⟩⟩
    ·have:=acl i
     rw[Jb,Jn,Jb,JF,JW];lia
    ·rw[zG (zH e a4)];exact D _ _ (Y b o e)
    ·rw[tj,<- JK,JE (l₂:=[_])];rfl
   refine⟨f,rfl,⟨_,_,_,_,ao⟩,_,rfl,_,rfl,cl,vals,W.fr,S,W.ld _ p b m _ ((Tups.of u5).trans (wG S.fz)) a8 (JM em) ((kb.tups (Tups.of u5)).tups (wG S.fz)) (λH6 s6 e low=>?_) (λH6 b' t s6 e kt low=>?_)⟩
   ·have D:=wA s6
    generalize back cl R H6=O at D ⊢;exact zA ⟨d,acc,rfl,⟨.inl (D _ _ (Y _ _ h3)),ks.tups (Tups.of (Y.trans D))⟩,.inr ⟨rfl,fin O _ D (by show false=match step p m with|none=>false|some t=>decide (t∈ss);rw[e])⟩⟩
   ·have D:=wA s6
    have k7:=kt.tups (qj (H:=R) low);generalize back cl R H6=O at D k7 ⊢;exact zA ⟨d,acc,rfl,⟨.inl (D _ _ (Y _ _ h3)),ks.tups (Tups.of (Y.trans D))⟩,.inl ⟨b',t,rfl,k7,fin O _ D (by rw[vi];show _=match step p m with|none=>false|some t=>decide (t∈ss);rw[e])⟩⟩
  ·rintro ac σ R ⟨⟨N,rfl⟩,Y,h5,rfl⟩
   rw[Jb,Ya]at h5 ⊢;rw[<- a9]at h5 ⊢;exact nx il ⟨⟨_,_,rfl⟩,Y,h5,rfl⟩
 ·rintro ac σ H4 ⟨⟨I,N,rfl⟩,Z,h4,rfl⟩
  rw[a3]at h4;refine⟨l2,g ss.length,rfl,.inl (.inl h4),?_⟩
  have e:(g ss.length).all id=ss.all λs=>moves.all λm=>match step s m with|none=>false|some t=>decide (t∈ss):=by
   show ((ss.take ss.length).flatMap λs=>moves.map (T s)).all id=_;rw[Ya,List.all_flatMap]
   congr 1
   funext s
   rw[List.all_map];rfl
  rw[e];exact z _ (u3.trans Z)
abbrev wI:Stmt:=top 34
theorem nB {l:List (Str × NameKind)}{x:Str}{k:NameKind}(h:l.lookup x=some k):(x,k)∈l:=by
 obtain⟨a,c,e,_⟩:=List.lookup_eq_some_iff.mp h;rw[e];exact Js.mpr (.inr (.head _))
def zcR (q:Str):Stmt->Lam
 | .Return (some (.Call _ (_::.Lambda p b s _::_) _ _)) _=>⟨p,b,s,q⟩
 | _=>⟨⟨[],[],none,[],[],none,[]⟩,.Name "" ⟨0,0,0,0⟩,zN wI,q⟩
def zcS (q:Str):Stmt->Lam
 | .Return (some (.Call _ (_::_::_::_::.Lambda p b s _::_) _ _)) _=>⟨p,b,s,q⟩
 | _=>⟨⟨[],[],none,[],[],none,[]⟩,.Name "" ⟨0,0,0,0⟩,zN wI,q⟩
def pG (q:Str):Lam:=zcR q ((yo wI).getD 0 (.Pass ⟨0,0,0,0⟩))
def rU (q:Str):Lam:=zcS q ((yo wI).getD 0 (.Pass ⟨0,0,0,0⟩))
def jQ (K:Jl):LSpc:=λvals a H Q E=>∃ r,∃ x,vals=[.ref r]/\a=[x]/\wy K [.ref r,x] H Q E
def sQ (P:Yo)(w:YI)(K:Jl)(q:Str)(Pt:JI):Sp:=λc H Q _=>∃ r fr e d N,∃ x,c=[.ref r,x]/\Nt.Ok N/\N.lanes%2=0/\NetAt H r fr e d N/\AnD P w H x/\(∀ a,zx H x=some a->a.length<=600000/\∀ y∈a,DpK H y)/\TabQ q Pt H /\
 ∀ b,But Pt H b->TabQ q Pt b->Q (.bl (match zx H x with|none=>false|some a=>uN (qR H (N.forks.length:Nat) (N.lanes:Nat)) a (k0M N) [0,1] (yg N))) b
theorem zed:LamScope ["knot"] ["net"] (pG "").scope:=⟨rfl,rfl,rfl,by decide +kernel,by decide +kernel,by decide +kernel,by decide +kernel,λx a=>(show ∀ y∈(pG "").scope.names,y.2=.free->y.1∈[("net":Str)] from by decide +kernel) _ (nB a) rfl⟩
theorem zee:LamScope ["knot","half"] ["net"] (rU "").scope:=⟨rfl,rfl,rfl,by decide +kernel,by decide +kernel,by decide +kernel,by decide +kernel,λx a=>(show ∀ y∈(rU "").scope.names,y.2=.free->y.1∈[("net":Str)] from by decide +kernel) _ (nB a) rfl⟩
theorem zcD {us:List Jo}(h:us.length=1):∃ u,us=[u]:=by
 match us,h with
 | [u],_=>exact⟨u,rfl⟩
theorem cK {us:List Jo}(h:us.length=2):∃ u v,us=[u,v]:=by
 match us,h with
 | [u,v],_=>exact⟨u,v,rfl⟩
theorem zby (q:Str) {f:JI}{fd:Yl}(a:Use P w K mg base "is_knot" ["net","thing"] 4 (wy K) f fd):LamQ CX0 P w K mg base 4 (pG q) ["net"] ["knot"] (jQ K):=by
 refine⟨zed,λvals b H Q E h=>?_,λcl i e pm g l=>by obtain⟨u,rfl⟩:=zcD e;rfl,λcl j c A outer s H vals b Q E k d fz h=>?_⟩
 ·obtain⟨r,x,_,rfl,_⟩:=h
  rfl
 obtain⟨r,x,rfl,rfl,h⟩:=h;refine⟨_,vz a.ok d (by rfl) a.m a.kp a.b .nil uw (zB (pv 1) (zB (pv 0) zC)),?_⟩;exact zA (zA h)
theorem aq (q:Str) {f:JI}{fd:Yl}(a:Use P w K mg base "knot_behind" ["net","knot","half"] 4 vm f fd):LamQ CX0 P w K mg base 4 (rU q) ["net"] ["knot","half"] xO:=by
 refine⟨zee,λvals d H Q E h=>?_,λcl j g pm i n=>by obtain⟨u,v,rfl⟩:=cK g;rfl,λcl l c A outer s H vals d Q E m e fz h=>?_⟩
 ·obtain⟨r,b,h,_,rfl,_⟩:=h
  rfl
 obtain⟨r,b,k,rfl,rfl,h⟩:=h;refine⟨_,vz a.ok e (by rfl) a.m a.kp a.b .nil uw (zB (pv 2) (zB (pv 0) (zB (pv 1) zC))),?_⟩;exact zA (zA (zA h))
theorem zad {sc:Scope}{l:List Str}{env:Env}(h:(sc.names.filter λy=>y.2 == .free).map (·.1)=l)(k:∀ x∈l,env.kindOf x=some .cell):∀ x,(x,NameKind.free)∈sc.names->env.kindOf x=some .cell\/env.kindOf x=some .free:=λx a =>
 .inl (k x (by rw[<- h];exact Jx.mpr ⟨_,List.mem_filter.mpr ⟨a,rfl⟩,rfl⟩))
theorem qA {sc:Scope}{x0:Str}{env:Env}(h:(sc.names.filter λy=>y.2 == .free).map (·.1)=[x0])(k0:env.kindOf x0=some .cell):∀ x,(x,NameKind.free)∈sc.names->env.kindOf x=some .cell\/env.kindOf x=some .free:=zad h λx a=>by
 rw[Jm.mp a];exact k0
theorem aw {X:Cx}{x:Str}{i:Nat}(d:X.N[i]?=some x)(c:X.env.scope.names.lookup x=some .cell)(b:X.fn x=true):∀ p∈[(x,i)],X.N[p.2]?=some p.1/\X.env.scope.names.lookup p.1=some .cell/\X.fn p.1=true:=λp a=>by
 rw[Jm.mp a];exact⟨d,c,b⟩
theorem wn {cs:List (Str × JI)}{x:Str}(h:cs.map (·.1)=[x]):∃ c,cs=[(x,c)]:=by
 match cs,h with
 | [(y,c)],h=>exact⟨c,by rw[show y=x from (WD h).1]⟩
def qS:Str:=("shows_merge":Str)++(".<locals>.":Str)++("<lambda>":Str)
theorem ue {N:Nt}(ok:Nt.Ok N):OkM N (k0M N):=⟨_,0,0,rfl,Yb,λt a=>.inl (ZS a),ok.l1,ok.l1⟩
theorem zd9:FnScope ["net","thing"] ["net","thing"] (zN wI):=by trivial
theorem gn {f fB fF c Pt R:JI}{fd dB dF:Yl}(F:FunC K "shows_merge" "shows_merge" wI f fd c) (hH:mg "HALVES" = some (.ref R)) (sH:∀ H',SqT K H' R (yG [0,1])) (CK:CodeK K mg base c Pt) (UB:Use P w K mg base "is_book" ["thing","is_state","first","moves","led"] 6 (uU P w K (pG qS) ["net"] (jQ K) (rU qS) ["net"] xO) fB dB) (UF:Use P w K mg base "first_knot" ["net"] 2 vn fF dF):FnOk P w K mg base CX0 7 f fd ["net","thing"] (sQ P w K qS Pt):=by
 refine F.ok zd9 (λvs H Q E h=>?_) (λA outer s H vs Q E hr h=>?_)
 ·obtain⟨r,fr,er,ps,N,x,rfl,_⟩:=h
  rfl
 obtain⟨r,fr,er,ps,N,x,rfl,ok,ev,na,ax,p,tab,k⟩:=h;refine⟨_,(zM (zT (mC (E:=E0) UB.ok hr (by rfl) UB.m UB.kp UB.b [("net",0)] (by decide) (aw rfl rfl rfl) (zB (pvb 1 rfl) (zB (jA (fr:=["net"]) CK rfl rfl (qA (x0:="net") rfl rfl) rfl) (zB (zU UF (hr.mono (by decide)) (zB (pvb 0 rfl) zC rfl) (by rfl) rfl rfl rfl) (zB (@iA _ _ (.ref R) _ _ rfl @hH rfl (by decide)) (zB (jA (fr:=["net"]) CK rfl rfl (qA (x0:="net") rfl rfl) rfl) zC rfl) rfl) rfl) rfl) rfl)))),?_⟩;have bu:=ok.l16;obtain⟨l,hP,tok⟩:=id tab;refine zA ⟨l,hP,tok,λf1 b2 l1 H1 a3 a5 bx aT J ak Y=>?_⟩;have ba:=na.tups (KpN.tups (KpN.but (λb o e n=>Y b o e n) hP));refine zA ⟨r,fr,er,ps,N,rfl,ok,ba,λb0 H2 I k2=>?_⟩;refine⟨l1,I _ _ J,ak.frz (λb o u e=>I _ _ e),λf2 bS l2 H3 a0 a4 bw ao bo ab X=>?_⟩;refine⟨[.ref r],rfl,λj x i v p C=>?_,λcs B bt G nd ca out a6=>?_⟩
 ·match j,p,C with
  | 0,p,C=>cases p;cases C;rfl
  | j+1,p,C=>cases p
 obtain⟨c1,rfl⟩:=wn a3;obtain⟨D,rfl⟩:=wn a0;obtain⟨c3,rfl⟩:=wn bt;have e1:c1=c3:=Jq ((a5 _ (.head _)).symm.trans (G _ (.head _)));have e3:D=c3:=Jq ((a4 _ (.head _)).symm.trans (G _ (.head _)));subst e1 e3;have b1:But Pt H H1:=λb o e n=>Y b o e n;have b3:But Pt H2 H3:=λb o e n=>X b o e n;have L:But Pt H H3:=(b1.trans (But.of I)).trans b3
 have g:Same H3 B:=λb o e=>by
  rw[out b λS=>by rw[a6 b S]at e;cases e];exact e
 have d:KpN H B:=(KpN.but L hP).trans (KpN.same g);have U:=na.tups d.tups;have bl:KpN H2 B:=(KpN.but b3 (I _ _ J)).trans (KpN.same g);have a7:∀ b o u,H1 b=some (.frz o u)->B b=some (.frz o u):=λb o u e=>g _ _ (X _ _ (I _ _ e) (xG (I _ _ e) (I _ _ J) λz=>by cases z))
 have O:LamRaw B f1 (pG qS) [("net",D)]:=by
  obtain⟨pm,cd,ct,oc,fs,tk,O,M,r3,r4⟩:=aT.ex;exact⟨pm,cd,ct,oc,fs,tk,a7 _ _ _ O,a7 _ _ _ M,r3,r4⟩
 have M:LamRaw B f2 (rU qS) [("net",D)]:=by
  obtain⟨pm,cd,ct,oc,fs,tk,O,M,r3,r4⟩:=ao.ex;exact⟨pm,cd,ct,oc,fs,tk,g _ _ O,g _ _ M,r3,r4⟩
 have nd1:[("net":Str)].Nodup:=by decide
 have la1:=O.at_ (ws:=[.ref r]) ca nd1 nd rfl λi x c v p C=>⟨i,p,C⟩;have bc:=M.at_ (ws:=[.ref r]) ca nd1 nd rfl λi x c v p C=>⟨i,p,C⟩;have W:Way K B R f2 (rU qS) ["net"] xO [("net",D)] [.ref r] (yg N) (OkM N) [0,1] 2:=⟨.inr sH,rfl,bc,ma ok ev U,by decide,λs m t os _ e=>vj ok os e,by decide⟩
 have a9:AnyN P w K B x/\zx B x=zx H x:=by
  rcases ax with ax|⟨a,xs,rfl,e⟩
  ·exact⟨.inl (ax.kp d).any,ax.row d⟩
  ·have e4:=g _ _ (L _ _ e (xG e hP λz=>by cases z))
   exact⟨.inr ⟨a,xs,rfl,e4⟩,by rw[kW e4,kW e]⟩
 have a8:=a9.2;refine⟨x,f1,b0,R,f2,[("net",D)],[.ref r],_,[0,1],[("net",D)],[.ref r],yg N,OkM N,2,qR H (N.forks.length:Nat) (N.lanes:Nat),rfl,rfl,la1,k2.tups bl.tups,W,by decide,a9.1,λxs Z=>?_,λH5 s5=>?_⟩
 ·rw[a8]at Z
  obtain⟨x1,x2⟩:=p xs Z;refine⟨x1,λy ym=>⟨λH5 Q1 k5 q=>?_,λs hs=>?_⟩⟩
  ·have V:=d.trans k5
   refine⟨r,y,rfl,rfl,r,fr,er,ps,N,y,rfl,ok,U.tups k5.tups,(x2 y ym).kp V,λH6 s6=>?_⟩;rw[eJ V (x2 y ym),<- zaO];exact q H6 s6
  ·obtain⟨o1,b,e,kb⟩:=gL hs
   exact⟨o1,b,e,kb.tups d.tups⟩
 rw[a8]
 have bB:CellsFz [("net",D)] H5:=λb S=>by
  obtain⟨o,z⟩:=ca.fz b S;exact⟨o,s5 _ _ z⟩
 have T:Same H3 (strip [("net",D)] H5):=λb o e=>by
  rw[zw λS=>by rw[a6 b S]at e;cases e];exact s5 _ _ (g _ _ e)
 exact k _ (L.trans (But.of T)) (TabQ.same ⟨l2,bo,ab⟩ T)
abbrev su:Stmt:=top 29
theorem li {ls:List LvL}{lv:LvL}(h:lv∈ls):lv.length<=(ls.map List.length).sum:=by
 induction ls with
 | nil=>cases h
 | cons a ls ih =>
  show lv.length<=a.length+(ls.map List.length).sum;rcases Jf.mp h with rfl|z
  ·exact Nat.le_add_right _ _
  ·exact JS (ih z) (Nat.le_add_left _ _)
theorem atN {H:Hp}{a:JI}(_:H a=none)(o:HO):L2.upd H a o a=some o:=zD
def zdL (q:Str):Stmt->Lam
 | .Assign _ (.Call _ (_::_::_::.Lambda p b s _::_) _ _) _=>⟨p,b,s,q⟩
 | _=>⟨⟨[],[],none,[],[],none,[]⟩,.Name "" ⟨0,0,0,0⟩,zN su,q⟩
def nE (q:Str):Lam:=zdL q ((yo su).getD 0 (.Pass ⟨0,0,0,0⟩))
theorem zef:LamScope ["knot","half"] ["net"] (nE "").scope:=⟨rfl,rfl,rfl,by decide +kernel,by decide +kernel,by decide +kernel,by decide +kernel,λx a=>(show ∀ y∈(nE "").scope.names,y.2=.free->y.1∈[("net":Str)] from by decide +kernel) _ (nB a) rfl⟩
theorem eG (q:Str) {f:JI}{fd:Yl}(d:Use P w K mg base "knot_behind" ["net","knot","half"] 4 vm f fd):LamQ CX0 P w K mg base 4 (nE q) ["net"] ["knot","half"] xO:=by
 refine⟨zef,λvals e H Q E h=>?_,λcl k i pm j n=>by obtain⟨u,v,rfl⟩:=cK i;rfl,λcl l c A outer s H vals e Q E m g fz h=>?_⟩
 ·obtain⟨r,b,a,_,rfl,_⟩:=h
  rfl
 obtain⟨r,b,a,rfl,rfl,h⟩:=h;refine⟨_,vz d.ok g (by rfl) d.m d.kp d.b .nil uw (zB (pv 2) (zB (pv 0) (zB (pv 1) zC))),?_⟩;exact zA (zA (zA h))
def qM:Str:=("merge_verdict":Str)++(".<locals>.":Str)++("<lambda>":Str)
def TellW (H:Hp)(p:JI):LRes->Prop
 | .opn=>H p=some (.tup [.str "open",.non])
 | .brk c=>∃ b,H p=some (.tup [.str "breaks",.ref b])/\H b=some (.tup (c.map V.int))
 | .whl ls=>∃ b bs ks,H p=some (.tup [.str "merges",.ref b])/\H b=some (.tup (bs.map V.ref))/\KeysAt H bs ks/\BookOf ks ls
def wo (N:Nt)(most:Nat):LRes:=yd (yg N) [0,1] most (most+1) [(k0M N,[0,0])] [] []
def oO (q:Str)(Pt:JI):Sp:=λb H Q _=>∃ r fr d c N,∃ most:Nat,b=[.ref r,.int (most:Nat)]/\Nt.Ok N/\N.lanes%2=0/\NetAt H r fr d c N/\0<most/\most<=10000/\TabQ q Pt H /\
 ∀ p a,But Pt H a->TabQ q Pt a->TellW a p (wo N most)->Q (.ref p) a
theorem zce:FnScope ["net","most","word","found"] ["net","most"] (zN su):=by trivial
theorem aD {f fC fF fB c Pt I:JI}{fd dC dF dB:Yl}(F:FunC K "merge_verdict" "merge_verdict" su f fd c) (hH:mg "HALVES" = some (.ref I)) (sH:∀ H',SqT K H' I (yG [0,1])) (CK:CodeK K mg base c Pt) (UC:Use P w K mg base "climbed" ["first","counts","moves","led","most"] 7 (oQ P w K (nE qM) ["net"] xO) fC dC) (UF:Use P w K mg base "first_knot" ["net"] 2 vn fF dF)
  (UB:∀ F0,Use P w K mg base "book_of" ["levels"] 1 (cp P w F0 2) fB dB):FnOk P w K mg base CX0 8 f fd ["net","most"] (oO qM Pt):=by
 refine F.ok zce (λB H Q E h=>?_) (λA outer s H B Q E hr h=>?_)
 ·obtain⟨r,fr,er,ps,N,most,rfl,_⟩:=h
  rfl
 obtain⟨r,fr,er,ps,N,most,rfl,ok,ev,na,mp,mb,tab,k⟩:=h;refine⟨_,(zJ (yh (mC (E:=E0) UC.ok hr (by rfl) UC.m UC.kp UC.b [("net",0)] (by decide) (aw rfl rfl rfl) (zB (zU UF (hr.mono (by decide)) (zB (pvb 0 rfl) zC rfl) (by rfl) rfl rfl rfl) (zB (yE (zB zK (zB zK zC rfl) rfl)) (zB (@iA _ _ (.ref I) _ _ rfl @hH rfl (by decide)) (zB (jA (fr:=["net"]) CK rfl rfl (qA (x0:="net") rfl rfl) rfl) (zB (pvb 1 rfl) zC rfl) rfl) rfl) rfl) rfl)) (yn rfl (zR (@zQ _ _ 2 _ zce.nd rfl (.inl rfl) (by trivial)) (zR (@zQ _ _ 3 _ zce.nd rfl (.inl rfl) (by trivial)) yS rfl) rfl) rfl rfl) rfl rfl rfl) (zJ (xK (yN mF (pvb 2 rfl) xh (yu _)) (zM (zT (yE (zB xh (zB (vz (UB N.forks.length).ok (hr.mono (by decide)) rfl (UB 0).m (UB 0).kp (UB 0).b .nil uw (zB (pvb 3 rfl) zC rfl) (by decide) rfl rfl) zC rfl) rfl)))) yZ) (zM (zT (yE (zB (pvb 2 rfl) (zB (pvb 3 rfl) zC rfl) rfl)))))),?_⟩;have a5:=ok.l16;refine zA ⟨r,fr,er,ps,N,rfl,ok,na,λb0 H1 s1 k1=>⟨by show 2<=sizeLine;decide,λc0 O=>?_⟩⟩;have s2:=zE O (.tup [.int 0,.int 0]);have h3:=atN O (.tup [.int 0,.int 0]);have u2:=s1.trans s2;show cT _ _ _ (L2.upd H1 c0 (.tup [.int 0,.int 0])) _;generalize L2.upd H1 c0 (.tup [.int 0,.int 0])=H2 at *;obtain⟨l,hP,tok⟩:=tab.same u2;refine⟨l,hP,tok,λfL cl l' H3 a3 a4 hf raw ax T kp=>?_⟩;refine zA ⟨[.ref r],rfl,λj x i v Z hv=>?_,λcs D a0 X nd ca out S=>?_⟩
 ·cases j with
  | zero=>cases Z;cases hv;rfl
  | succ j=>cases Z
 obtain⟨a,rfl⟩:=wn a3;obtain⟨c2,rfl⟩:=wn a0;have cc:a=c2:=Jq ((a4 _ (.head _)).symm.trans (X _ (.head _)));subst cc;have b3:But Pt H H3:=λb o e n=>kp b o (u2 b o e) n
 have d:Same H3 D:=λb o e=>by
  rw[out b λJ=>by rw[S b J]at e;cases e];exact e
 have ab:NetAt D r fr er ps N:=(na.tups (Tups.of u2)).tups λb xs e=>d _ _ (kp _ _ e (xG e hP λz=>by cases z));have L:Tups H2 D:=λb xs e=>d _ _ (kp _ _ e (xG e hP λz=>by cases z))
 have U:LamRaw D fL (nE qM) [("net",a)]:=by
  obtain⟨pm,cd,ct,oc,fs,tk,r1,r2,r3,r4⟩:=raw.ex;exact⟨pm,cd,ct,oc,fs,tk,d _ _ r1,d _ _ r2,r3,r4⟩
 have la:LamAt D fL (nE qM) [("net",a)] [.ref r]:=U.at_ ca (JJ.mpr ⟨Jg,Zi⟩) (JJ.mpr ⟨Jg,Zi⟩) rfl λi x c v Z hv=>⟨i,Z,hv⟩;have W:Way K D I fL (nE qM) ["net"] xO [("net",a)] [.ref r] (yg N) (OkM N) [0,1] 2:=⟨.inr sH,rfl,la,ma ok ev ab,by decide,λs m t os _ e=>vj ok os e,by decide⟩;refine⟨b0,c0,I,fL,_,[0,0],[0,1],[("net",a)],[.ref r],yg N,OkM N,2,most,rfl,(k1.tups (Tups.of s2)).tups L,L _ _ h3,rfl,ue ok,W,by lia,by decide,mp,λp C s5 tell=>?_⟩
 have aT:CellsFz [("net",a)] C:=λb J=>by
  obtain⟨o,z⟩:=ca.fz b J;exact⟨o,s5 _ _ z⟩
 replace tell:=TellR.kept tell (lu aT)
 have M:Same H3 (strip [("net",a)] C):=λb o e=>by
  rw[zw λJ=>by rw[S b J]at e;cases e];exact s5 _ _ (d _ _ e)
 have b6:But Pt H (strip [("net",a)] C):=b3.trans (But.of M);have u:TabQ qM Pt (strip [("net",a)] C):=TabQ.same ⟨l',ax,T⟩ M;show zbH _ _ _ _ _ (strip [("net",a)] C) _;generalize strip [("net",a)] C=H6 at *
 have fin:∀ (q:JI) (B:List V) (R:LRes),H6 q=none->wo N most=R->TellW (L2.upd H6 q (.tup B)) q R->Q (.ref q) (L2.upd H6 q (.tup B)):=λq B R g e z=>by
  have G:=zE g (.tup B);refine k q _ (b6.trans (But.of G)) (u.same G) ?_;rw[e];exact z
 change TellR P w H6 p (wo N most) at tell
 cases y:wo N most with
 | opn =>
  rw[y]at tell;refine⟨p,_,rfl,SqT.of tell,rfl,_,_,rfl,_,_,rfl,rfl,?_⟩;refine zA ⟨rfl,false,JP V.bl (Jr λz=>absurd (V.str.inj z) (by decide)),yR ?_⟩
  exact zA (zA ⟨by show 2<=sizeLine;decide,λq g=>fin q _ .opn g y zD⟩)
 | brk bc =>
  rw[y]at tell;obtain⟨b,h1,h2⟩:=tell;refine⟨p,_,rfl,SqT.of h1,rfl,_,_,rfl,_,_,rfl,rfl,?_⟩;refine zA ⟨rfl,false,JP V.bl (Jr λz=>absurd (V.str.inj z) (by decide)),yR ?_⟩
  exact zA (zA ⟨by show 2<=sizeLine;decide,λq g=>fin q _ (.brk bc) g y ⟨b,zD,zE g _ _ _ h2⟩⟩)
 | whl ls =>
  rw[y]at tell;obtain⟨ll,as,h1,h2,h3⟩:=tell;refine⟨p,_,rfl,SqT.of h1,rfl,_,_,rfl,_,_,rfl,rfl,?_⟩;refine zA ⟨rfl,true,JP V.bl (Jy rfl),xH ?_⟩;have wh:=wt (Ok:=OkM N) (moves:=[0,1]) (λs m t os _ e=>vj ok os e) _ _ [] [] ls ⟨λlv hl=>absurd hl Jg,JN _⟩ rfl (JN _) (λp hp=>by rw[Jm.mp hp];exact ue ok) y;have wf:=wh.few;refine zA ⟨ll,as,ls,rfl,h2,h3,λlv hl=>⟨?_,λp hp=>(wh.ok lv hl p hp).st ok⟩,by lia,λq bs ks H7 G g ak bk=>?_⟩
  ·have:=li hl
   lia
  refine⟨by show 2<=sizeLine;decide,λq2 ao=>?_⟩;have Y:=zE ao (.tup [.str "merges",.ref q]);refine k q2 _ ((b6.trans (But.of G)).trans (But.of Y)) ((u.same G).same Y) ?_;rw[y];exact⟨q,bs,ks,zD,Y _ _ g,ak.tups (Tups.of Y),bk⟩
abbrev oh:Stmt:=top 6
theorem zbk (n:Nat):(List.replicate n [V.int 0]).flatten=(List.replicate n (0:Int)).map V.int:=by
 induction n with
 | zero=>rfl
 | succ n ih=>rw[Y9,W7,ih,Y9];rfl
def sU:Sp:=λb H Q _=>∃ r fr d c N,b=[.ref r]/\Nt.Ok N/\NetAt H r fr d c N/\∀ p a,Same H a->a p=some (.tup ((rR N).map V.int))->Q (.ref p) a
theorem oV:FnScope ["net","lanes","forks","ends","reached","found","one","other","layer"] ["net"] (zN oh):=by trivial
theorem gv {f:JI}{fd:Yl}(F:Fun K "layers" "layers" oh f fd) (G:Mgs mg):FnOk P w K mg base CX0 1 f fd ["net"] sU:=by
 refine F.ok oV (λY H Q E h=>?_) (λao A outer s H Y Q E hr h=>?_)
 ·obtain⟨r,fr,X,T,N,rfl,_⟩:=h
  rfl
 obtain⟨r,fr,X,T,N,rfl,ok,na,k⟩:=h;refine⟨_,(zJ (yh (pvb 0 rfl) (yn rfl (zR (@zQ _ _ 1 _ oV.nd rfl (.inl rfl) (by trivial)) (zR (@zQ _ _ 2 _ oV.nd rfl (.inl rfl) (by trivial)) (zR (@zQ _ _ 3 _ oV.nd rfl (.inl rfl) (by trivial)) yS rfl) rfl) rfl) rfl rfl) rfl rfl rfl) (zJ (@zY _ _ 4 _ _ _ _ oV.nd rfl (.inl rfl) (zS zcz (x5 (zB zK zC rfl)) (pvb 1 rfl)) rfl (by trivial)) (zJ (@zY _ _ 5 _ _ _ _ oV.nd rfl (.inl rfl) (x5 zC) rfl (by trivial)) (zJ (x4 YZ rfl (xV (pvb 2 rfl)) (yn rfl (zR (@zQ _ _ 6 _ oV.nd rfl (.inl rfl) (by trivial)) (zR (@zQ _ _ 7 _ oV.nd rfl (.inl rfl) (by trivial)) yS rfl) rfl) rfl rfl) (zJ (@zY _ _ 8 _ _ _ _ oV.nd rfl (.inl rfl) (zS yO zK (zV (ur rfl) rfl G.max rfl (zB (zt yT (pvb 4 rfl) (pvb 6 rfl) (λ_ _=>rfl)) (zB (zt yT (pvb 4 rfl) (pvb 7 rfl) (λ_ _=>rfl)) zC rfl) rfl) (by decide) (by decide) rfl rfl)) rfl (by trivial)) (zJ (yh (pvb 8 rfl) (wL (pvb 4 rfl) (pvb 6 rfl) xC (by intro _;rfl)) rfl rfl rfl) (zJ (yh (pvb 8 rfl) (wL (pvb 4 rfl) (pvb 7 rfl) xC (by intro _;rfl)) rfl rfl rfl) (zM (w6 (mD W0 ZT ZU xM (pvb 5 rfl) (zB (pvb 8 rfl) zC rfl) rfl rfl rfl rfl rfl) rfl))))) (by intro _;rfl)) (zM (zT (yK yL rfl G.tuple rfl (zB (pvb 5 rfl) zC rfl) (by decide) (by decide) rfl rfl))))))),?_⟩;have l1:=ok.l1;have ak:=ok.l16;have fm:=ok.fm;have pl:=na.prs.len;have Z:((N.lanes:Nat):Int).toNat=N.lanes:=by lia
 refine zA ⟨r,_,rfl,SqT.of na.net,rfl,_,_,rfl,_,_,rfl,_,_,rfl,rfl,?_⟩;refine⟨(by show 1<=sizeLine;decide),λp1 M=>?_⟩;have S:=zE M (.lst [.int 0]);refine zA ⟨p1,N.lanes,_,rfl,rfl,zD,by lia,by lia,by show 1*_<=sizeLine;rw[JW];lia,λc t=>?_⟩;have R:=S.trans (zE t (.lst (List.replicate ((N.lanes:Int)).toNat [V.int 0]).flatten))
 have j:H c=none:=by
  cases z:H c with
  | none=>rfl
  | some o=>exact absurd (S _ _ z) (by rw[t];exact λw=>nomatch w)
 refine⟨(by show 0<=sizeLine;decide),λlf m=>?_⟩;have O:=R.trans (zE m (.lst []))
 have u:H lf=none:=by
  cases z:H lf with
  | none=>rfl
  | some o=>exact absurd (R _ _ z) (by rw[m];exact λw=>nomatch w)
 have d:c≠lf:=zH zD m;refine zA ⟨fr,rfl,⟨_,SqT.of (O _ _ na.forks)⟩,?_⟩
 refine tX (K:=K) (a:=fr) (xs:=T) (λi σ l=>(∃ J I D,σ=[some (.ref r),some (.int N.lanes),some (.ref fr),some (.ref X),some (.ref c),some (.ref lf),J,I,D])/\Same H l/\l c=some (.lst ((lay N.lanes (N.forks.take i)).1.map V.int))/\l lf=some (.lst ((lay N.lanes (N.forks.take i)).2.map V.int)))
  ⟨⟨_,_,_,rfl⟩,O,by rw[zG d,zD,Z,zbk];rfl,zD⟩ (λi σ l _ q=>SqT.of (q.2.1 _ _ na.forks)) ?_ ?_
 ·rintro i p σ l hp ⟨⟨J,I,D,rfl⟩,v,C,B⟩
  obtain⟨a,g,rfl,L,ha⟩:=(na.prs.tups (Tups.of v)).get hp;have ab:=ok.fk g (JM L);have ig:i<N.forks.length:=(Ja.mp L).1;have ln:=rS (n:=N.lanes) i N.forks (by lia);have U:=me (n:=N.lanes) L;generalize lay N.lanes (N.forks.take i)=st at *;refine⟨a,_,rfl,SqT.of ha,rfl,_,_,rfl,_,_,rfl,rfl,?_⟩;refine zA (zA ⟨c,_,_,_,rfl,rfl,SqL.of C,wv (by lia),_,rfl,_,rfl,c,_,_,_,rfl,rfl,SqL.of C,wv (by lia),_,_,rfl,_,_,rfl,rfl,?_⟩);refine zA (zA (zA ⟨c,_,_,g.1,rfl,rfl,C,rX (by rw[Jb];lia),?_⟩));refine zA (zA (zA ⟨c,_,_,g.2,rfl,rfl,zD,rX (by rw[YG,Jb];lia),?_⟩));have W:∀ x y,L2.upd (L2.upd l c x) c y lf=some (.lst (st.2.map V.int)):=λx y=>by rw[zG d.symm,zG d.symm];exact B
  refine zA ⟨.inl ⟨rfl,_,SqL.of (W _ _)⟩,_,rfl,lf,_,_,rfl,rfl,W _ _,by rw[Jb,ln.2];exact JG (show i<1000 by lia) (by decide),⟨_,_,_,rfl⟩,λb o e=>?_,?_,?_⟩
  ·rw[zG (zH e u),zG (zH e j),zG (zH e j)];exact v b o e
  ·rw[zG d,zD,U]
   unfold wR;rw[wd,wd];rfl
  ·rw[zD,U]
   unfold wR;rw[JE];rfl
 ·rintro σ l ⟨⟨J,I,D,rfl⟩,v,C,B⟩
  rw[pl,Ya]at B;exact zA ⟨lf,_,rfl,.inl ⟨SqL.of B,λq hq=>k q _ (v.trans (zE hq _)) zD⟩⟩
abbrev kL:Stmt:=top 7
def oM:Sp:=λf H Q _=>∃ r fr e g N,f=[.ref r]/\Nt.Ok N/\NetAt H r fr e g N/\∀ d c b a,Same H a->NetAt a d c e b (yt N)->Q (.ref d) a
theorem zaT:FnScope ["net","lanes","forks","ends"] ["net"] (zN kL):=by trivial
theorem aB {f fY:JI}{fd dY:Yl}(F:Fun K "plain" "plain" kL f fd) (G:Mgs mg) (UY:Use P w K mg base "layers" ["net"] 1 sU fY dY):FnOk P w K mg base CX0 2 f fd ["net"] oM:=by
 refine F.ok zaT (λvs H Q E h=>?_) (λab A outer s H vs Q E hr h=>?_)
 ·obtain⟨r,fr,V,T,N,rfl,_⟩:=h
  rfl
 obtain⟨r,fr,V,T,N,rfl,ok,na,k⟩:=h;refine⟨_,(zJ (yh (pvb 0 rfl) (yn rfl (zR (@zQ _ _ 1 _ zaT.nd rfl (.inl rfl) (by trivial)) (zR (@zQ _ _ 2 _ zaT.nd rfl (.inl rfl) (by trivial)) (zR (@zQ _ _ 3 _ zaT.nd rfl (.inl rfl) (by trivial)) yS rfl) rfl) rfl) rfl rfl) rfl rfl rfl) (zM (zT (yE (zB (pvb 1 rfl) (zB (yK yL rfl G.tuple rfl (zB (@rF _ _ _ _ none _ _ _ (zbH K 2 (lA (tE 0) (lA (tE 1) zc3))) _ _ ["layer","fork"] [none,none] rfl (tR (kv false false rfl G.sorted rfl G.zip rfl hr.units (zB (zU UY hr (zB (pvb 0 rfl) zC rfl) rfl rfl rfl rfl) (zB (pvb 2 rfl) zC rfl) rfl) rfl rfl rfl)) (CapOk.of (by kernel_rfl)) (λ_ _ _ _ _=>(yn rfl (zR (@zQ _ _ 0 _ (show (["layer","fork"]:List Str).Nodup from by decide +kernel) rfl (.inl rfl) (.inr rfl)) (zR (@zQ _ _ 1 _ (show (["layer","fork"]:List Str).Nodup from by decide +kernel) rfl (.inl rfl) (.inr rfl)) yS rfl) rfl) rfl rfl)) (λ_ _ _ _ _=>xX) (λ_ _ _ _ _=>(pvb 1 rfl)) (by intro _;rfl)) zC rfl) (by decide) (by decide) rfl rfl) (zB (pvb 3 rfl) zC rfl) rfl) rfl))))),?_⟩;have fm:=ok.fm;have pl:=na.prs.len;have ll:=jS N;refine zA ⟨r,_,rfl,SqT.of na.net,rfl,_,_,rfl,_,_,rfl,_,_,rfl,rfl,?_⟩;refine zA (zA ⟨r,fr,V,T,N,rfl,ok,na,λp H1 s1 hp=>?_⟩);have z:=na.tups (Tups.of s1);refine zA ⟨p,fr,_,T,rfl,SqT.of hp,SqT.of z.forks,by rw[Jb];lia,by rw[Jb];lia,λts i Z X=>?_⟩;have v:=z.tups (Tups.of Z);obtain⟨R,C⟩:=zaA X v.prs;rw[<- zcs]at R;have low:∀ x∈ts,(dec i x).2.1<32/\(dec i x).2.2<32:=λx d=>kf ok _ (by rw[<- R];exact Jx.mpr ⟨x,d,rfl⟩);refine⟨λx=>rnk (dec i x),.inr ⟨2,by decide,λx d=>⟨?_,λy hy=>zcO (C x d) (C y hy) (low x d) (low y hy)⟩⟩,λl c J pm so=>?_⟩
 ·obtain⟨t,g,rfl,U,_⟩:=C x d
  exact⟨t,_,_,rfl,U⟩
 have Y:=zE J (.lst c);have zl:c.length=N.forks.length:=by rw[pm.length_eq,X.1,Jb];exact ll
 have ze:c.map (dec i)=uz (pz N):=tK ok (by rw[<- R];exact pm.map _) (List.pairwise_map.mpr so);have W:∀ x∈c,Trp i x (dec i x):=λx d=>C x (pm.mem_iff.mp d);refine⟨l,rfl,⟨_,SqL.of (yx J (.lst c))⟩,λI m=>?_⟩;refine iJ (K:=K) (a:=l) (xs:=c) (λj acc σ n=>(∃ O M,σ=[O,M])/\Same i n/\n l=some (.lst c)/\n I=some (.lst acc)/\acc.length=j/\Prs n acc ((c.take j).map λx=>(dec i x).2)) ⟨⟨_,_,rfl⟩,Y.trans (zE m _),zE m _ _ _ (yx J (.lst c)),zD,rfl,trivial⟩ (λj acc σ n q=>⟨q.2.2.2.1,SqL.of q.2.2.1⟩) ?_ ?_
 ·rintro j x acc σ n d ⟨⟨O,M,rfl⟩,u,l4,L,al,pr⟩
  have jl:=(Ja.mp d).1;obtain⟨t,g,e,U,h2⟩:=W x (JM d);have ne:I≠l:=by rintro rfl;rw[yx J (.lst c)]at m;cases m
  have keep:Same i (upd n I (.lst (acc++[.ref g]))):=λb o e=>by rw[zG (zH (Y b o e) m)];exact u b o e
  refine⟨t,_,e,SqT.of (u _ _ U),rfl,_,_,rfl,_,_,rfl,rfl,_,rfl,L,JG (show _<1000 by lia) (by decide),nx jl ⟨⟨_,_,rfl⟩,keep,by rw[zG ne.symm];exact l4,zD,by simp[al],?_⟩⟩;have xe:c[j]=x:=(Ja.mp d).2;rw[JU jl,JE,xe];exact Prs.add (f:=(dec i x).2) (keep _ _ h2) (pr.tups (Tups.lst L))
 ·rintro acc σ n ⟨⟨O,M,rfl⟩,u,l4,L,al,pr⟩
  rw[Ya]at pr
  have pe:(c.map λx=>(dec i x).2)=rD N:=by
   unfold rD;rw[<- ze,YX];rfl
  rw[pe]at pr;refine⟨I,_,rfl,.inl ⟨SqL.of L,λq hq=>?_⟩⟩;have S:=zE hq (.tup acc);refine zA ⟨(by show 3<=sizeLine;decide),λr' B=>?_⟩;have D:=zE B (.tup [.int N.lanes,.ref q,.ref V]);refine k r' q acc _ ((((s1.trans Z).trans u).trans S).trans D) ⟨yx B _,D _ _ (yx hq _),pr.tups (Tups.of (S.trans D)),?_⟩;exact D _ _ (S _ _ (u _ _ v.ends))
abbrev zcj:Stmt:=top 37
abbrev kK:Stmt:=top 40
abbrev sk:Stmt:=top 41
def cZ:Sp:=λa H Q _=>∃ m:Nat,a=[.int m]/\m<=20/\Q (.int ((2 ^ m:Nat):Int)) H
def oK:Sp:=λa H Q _=>∃ m:Nat,a=[.int m]/\m<=10/\∀ l,H l=none->Q (.ref l) (upd H l (.lst (yG (List.range (2 ^ m)))))
def uS:Sp:=λi H Q _=>∃ (p c lf le:JI) (h:List V) (fs:List Fk) (row a:List Nat),i=[.ref p,.ref c]/\H p=some (.lst (yG row))/\H c=some (.tup [.ref lf,.ref le])/\H lf=some (.lst h)/\Prs H h fs/\H le=some (.lst (yG a))/\Nt.Ok ⟨row.length,fs,a⟩ /\
 ∀ g e f d b,Same H b->NetAt b g e f d (yt ⟨row.length,fs,a⟩)->Q (.ref g) b
theorem zaU:FnScope ["many","power","doubling"] ["many"] (zN zcj):=by trivial
theorem zcG {f:JI}{fd:Yl}(F:Fun K "power_of_two" "power_of_two" zcj f fd) (G:Mgs mg):FnOk P w K mg base CX0 1 f fd ["many"] cZ:=by
 refine F.ok zaU (λc H Q E h=>?_) (λd A outer s H c Q E e h=>?_)
 ·obtain⟨m,rfl,_⟩:=h
  rfl
 obtain⟨m,rfl,g,k⟩:=h;refine⟨_,(zJ (@zY _ _ 1 _ _ _ _ zaU.nd rfl (.inl rfl) zK rfl (by trivial)) (zJ (x4 YZ rfl (wB rfl G.range (zB (pvb 0 rfl) zC rfl) rfl) (@zQ _ _ 2 _ zaU.nd rfl (.inl rfl) (by trivial)) (zM (@zcx _ _ 1 _ _ _ _ _ _ zaU.nd rfl (.inl rfl) zK zbB (by trivial))) (by intro _;rfl)) (zM (zT (pvb 1 rfl))))),?_⟩;refine zA ⟨m,rfl,by lia,by lia,vD (lo:=0) (n:=((m:Nat):Int).toNat) (λi σ b=>b=H/\∃ a,σ=[some (.int m),some (.int ((2 ^ i:Nat):Int)),a]) ⟨rfl,_,rfl⟩ ?_ ?_⟩
 ·rintro i σ b hi ⟨rfl,a,rfl⟩
  refine zA ⟨_,_,rfl,rfl,.inr ⟨by decide,by decide⟩,rfl,some (.int (0+(i:Nat))),?_⟩;rw[<- show ((2 ^ i:Nat):Int)*2=((2 ^ (i+1):Nat):Int) from by rw[Zd,Int.natCast_mul];rfl];rfl
 ·rintro σ b ⟨rfl,a,rfl⟩
  refine zA ?_;rw[show ((m:Nat):Int).toNat=m from by lia];exact k
theorem zeb:FnScope ["k"] ["k"] (zN kK):=by trivial
theorem aA {f g:JI}{fd i:Yl}(F:Fun K "row_of" "row_of" kK f fd) (G:Mgs mg) (j:Use P w K mg base "power_of_two" ["many"] 1 cZ g i):FnOk P w K mg base CX0 2 f fd ["k"] oK:=by
 refine F.ok zeb (λa H Q E h=>?_) (λn A outer s H a Q E c h=>?_)
 ·obtain⟨m,rfl,_⟩:=h
  rfl
 obtain⟨m,rfl,d,k⟩:=h;refine⟨_,(zM (zT (gh rfl rfl G.list rfl G.range (zB (zU j c (zB (pvb 0 rfl) zC rfl) rfl rfl rfl rfl) zC rfl) rfl rfl))),?_⟩;have b:2 ^ m<=2 ^ 10:=Nat.pow_le_pow_right (by decide) d;exact zA ⟨m,rfl,by lia,2 ^ m,rfl,JS b (by decide),λl e=>k l e⟩
theorem zcg:FnScope ["row","made","forks","ends"] ["row","made"] (zN sk):=by trivial
theorem jC {f D:JI}{fd I:Yl}(F:Fun K "net_of" "net_of" sk f fd) (G:Mgs mg) (J:Use P w K mg base "plain" ["net"] 2 oM D I):FnOk P w K mg base CX0 3 f fd ["row","made"] uS:=by
 refine F.ok zcg (λt H Q E h=>?_) (λM A outer s H t Q E z h=>?_)
 ·obtain⟨p,c,lf,le,g,fs,row,i,rfl,_⟩:=h
  rfl
 obtain⟨p,c,lf,le,g,fs,row,i,rfl,B,C,o,pr,hle,ok,k⟩:=h;refine⟨_,(zJ (yh (pvb 1 rfl) (yn rfl (zR (@zQ _ _ 2 _ zcg.nd rfl (.inl rfl) (by trivial)) (zR (@zQ _ _ 3 _ zcg.nd rfl (.inl rfl) (by trivial)) yS rfl) rfl) rfl rfl) rfl rfl rfl) (zM (zT (zU J z (zB (yE (zB (zV zZ rfl G.len Ys (zB (pvb 0 rfl) zC rfl) (by decide) (by decide) rfl rfl) (zB (yK yL rfl G.tuple rfl (zB (pvb 2 rfl) zC rfl) (by decide) (by decide) rfl rfl) (zB (yK yL rfl G.tuple rfl (zB (pvb 3 rfl) zC rfl) (by decide) (by decide) rfl rfl) zC rfl) rfl) rfl)) zC rfl) rfl rfl rfl rfl)))),?_⟩;refine zA ⟨c,_,rfl,SqT.of C,rfl,_,_,rfl,_,_,rfl,rfl,?_⟩;refine zA ⟨p,_,rfl,.inl (SqL.of B),_,rfl,lf,_,rfl,.inl ⟨SqL.of o,λfr b=>?_⟩⟩;have l:=zE b (.tup g);refine zA ⟨le,_,rfl,.inl ⟨SqL.of (l _ _ hle),λa d=>?_⟩⟩;have j:=zE d (.tup (yG i));refine⟨(by show 3<=sizeLine;decide),λr n=>?_⟩;have e:=zE n (.tup [.int ((yG row).length:Nat),.ref fr,.ref a]);have x:L2.upd (L2.upd (L2.upd H fr (.tup g)) a (.tup (yG i))) r (.tup [.int ((yG row).length:Nat),.ref fr,.ref a]) r=some (.tup [.int (row.length:Nat),.ref fr,.ref a]):=by rw[zD,yH]
 refine⟨r,fr,a,g,⟨row.length,fs,i⟩,rfl,ok,⟨x,e _ _ (j _ _ (yx b _)),pr.tups (Tups.of ((l.trans j).trans e)),e _ _ (yx d _)⟩,λv q m L u y=>k v q a m L (((l.trans j).trans e).trans u) y⟩
abbrev sBy:Stmt:=top 43
def cj:Sp:=λf H Q _=>∃ e d a b,f=[.ref e,.ref d]/\H e=some (.lst a)/\H d=some (.lst b)/\a.length=b.length/\a.length<=1000/\∀ l c,Same H c->c l=some (.lst (yU a b))->Q (.ref l) c
theorem lS {α:Type}(xs ys:List α)(i:Nat)(x y:α)(d:xs[i]?=some x)(c:ys[i]?=some y):yU (xs.take (i+1)) (ys.take (i+1))=yU (xs.take i) (ys.take i)++[x,y]:=by
 obtain⟨b,ex⟩:=Ja.mp d;obtain⟨a,e⟩:=Ja.mp c;rw[JU b,JU a,ex,e];unfold yU;rw[List.zip_append (by rw[JF,JF];lia),List.flatMap_append];rfl
theorem zeo:FnScope ["one","other"] ["one","other"] (zN sBy):=by trivial
theorem zdF {f:JI}{fd:Yl}(F:Fun K "by_turns" "by_turns" sBy f fd) (G:Mgs mg):FnOk P w K mg base CX0 1 f fd ["one","other"] cj:=by
 refine F.ok zeo (λU H Q E h=>?_) (λZ A outer s H U Q E hr h=>?_)
 ·obtain⟨L,J,t,r,rfl,_⟩:=h
  rfl
 obtain⟨L,J,t,r,rfl,S,R,b,hz,k⟩:=h;refine⟨_,(zM (zT (@ky _ _ _ _ _ _ none _ _ _ (zc2 K (lh 0)) _ _ _ _ ["pair","thing"] [none,none] rfl (za1 true true rfl G.zip (zB (pvb 0 rfl) (zB (pvb 1 rfl) zC rfl) rfl) rfl rfl) (CapOk.of (by kernel_rfl)) (λ_ _ _ _ _=>(@zQ _ _ 0 _ (show (["pair","thing"]:List Str).Nodup from by decide +kernel) rfl (.inl rfl) (.inr rfl))) (λ_ _ _ _ _=>(xV (pvb 0 rfl))) (λ_ _ _ _ _=>(@zQ _ _ 1 _ (show (["pair","thing"]:List Str).Nodup from by decide +kernel) rfl (.inl rfl) (.inr rfl))) (λ_ _ _ _ _=>xX) (λ_ _ _ _ _=>(pvb 1 rfl)) (by intro _;rfl) (by intro _ _;rfl)))),?_⟩;refine zA (zA ⟨L,J,t,r,rfl,SqL.of S,SqL.of R,λl O=>?_⟩);refine zbw b (λi acc σ m=>(∃ I g,σ=[I,g])/\Same H m/\m l=some (.lst acc)/\acc=yU (t.take i) (r.take i)) ⟨⟨_,_,rfl⟩,zE O _,zD,rfl⟩ (λi acc σ m z=>⟨z.2.2.1,SqL.of (z.2.1 _ _ S),SqL.of (z.2.1 _ _ R)⟩) ?_ ?_
 ·rintro i acc σ m x y T M X n ⟨⟨I,g,rfl⟩,C,a,e2⟩
  have W:=(Ja.mp M).1
  have al:acc.length<=2000:=by
   rw[e2,vP _ _ (by rw[JF,JF,b]),JF];lia
  refine zA ⟨T,rfl,⟨_,.inl (.inl (yx n _))⟩,?_⟩;have V:l≠T:=zH a n;refine iK (zs:=[x,y]) (λj ac q G=>(∃ g,q=[some (.ref T),g])/\Same H G/\G T=some (.tup [x,y])/\G l=some (.lst ac)/\ac=acc++[x,y].take j) ⟨⟨_,rfl⟩,C.trans (zE n _),yx n _,zE n _ _ _ a,(JY _).symm⟩ (λj ac q G z=>⟨z.2.2.2.1,.inl (.inl z.2.2.1)⟩) ?_ ?_
  ·rintro j u ac q G N ⟨⟨g,rfl⟩,B,p,d,v⟩
   have D:=(Ja.mp N).1;refine zA ⟨d,?_,nx D ⟨⟨_,rfl⟩,λc o e=>?_,?_,zD,?_⟩⟩
   ·rw[v,Jn,JF,JW]
    simp only[JL,List.length_nil]at D ⊢;lia
   ·rw[zG (zH e O)];exact B c o e
   ·rw[zG (Ne.symm V)];exact p
   ·obtain⟨_,Y⟩:=Ja.mp N
    rw[v,JK,JU D,Y]
  ·rintro ac q G ⟨⟨g,rfl⟩,B,p,d,v⟩
   refine nx W ⟨⟨_,_,rfl⟩,B,d,?_⟩;rw[v,e2,lS t r i x y M X];rfl
 ·rintro acc σ m ⟨_,C,a,e2⟩
  refine k l m C ?_;rw[a,e2,Ya,b,Ya]
abbrev wg:Stmt:=top 42
def x9 (m:Nat):Sp:=λh H Q _=>∃ g f a b,h=[.ref g,.ref f]/\H g=some (.lst (yG a))/\H f=some (.lst (yG b))/\a.length=2 ^ m/\b.length=2 ^ m/\m<=8/\∀ c lf le e d,Same H d->d c=some (.tup [.ref lf,.ref le])->d lf=some (.lst e)->Prs d e (mergeN m a b).1->d le=some (.lst (yG (mergeN m a b).2))->Q (.ref c) d
theorem zcM (row:List Nat)(i:Nat)(h:i<=row.length):uJ (yG row) none (some (i:Int))=yG (row.take i):=by
 rw[qG _ _ (by rw[yH];exact h)];unfold yG;rw[List.map_take]
theorem zcN (row:List Nat)(i:Nat)(h:i<=row.length):uJ (yG row) (some (i:Int)) none=yG (row.drop i):=by
 rw[qH _ _ (by rw[yH];exact h)];unfold yG;rw[List.map_drop]
theorem zbq (a b:List Nat):yU (yG a) (yG b)=yG (yU a b):=by unfold yG;exact lU _ a b
theorem iF (off:Nat)(a:List Nat):by2 off (yG a)=yG (by2 off a):=by unfold yG;exact uM _ off a
theorem zdH (a b:List Nat):yG a++yG b=yG (a++b):=by unfold yG;exact(JE ..).symm
theorem gO:FnScope ["one","other","first_forks","first_ends","second_forks","second_ends","last_forks"] ["one","other"] (zN wg):=by trivial
theorem ux {f fB:JI}{fd dB:Yl}(F:Fun K "merger_of" "merger_of" wg f fd) (G:Mgs mg) (UB:Use P w K mg base "by_turns" ["one","other"] 1 cj fB dB) (bS:Binds K fd ["one","other"] []) (mS:mg "merger_of" = some (.ref f)) (n:Nat)
  (GS:FnOk P w K mg base CX0 (n+1) f fd ["one","other"] (λvs H Q E=>∃ m,n=m+1/\x9 m vs H Q E)):FnOk P w K mg base CX0 (n+2) f fd ["one","other"] (x9 n):=by
 have UT:Use P w K mg base "merger_of" ["one","other"] (n+1) (λvs H Q E=>∃ m,n=m+1/\x9 m vs H Q E) f fd:=⟨GS,bS,F.kp,mS⟩;refine F.ok gO (λvs H Q E h=>?_) (λa9 A outer s H vs Q E hr h=>?_)
 ·obtain⟨p,v,a,b,rfl,_⟩:=h
  rfl
 obtain⟨p,v,a,b,rfl,B,h2,al,bl,ak,k⟩:=h;have aT:Room 1 _:=hr.mono (by lia);refine⟨_,(zJ (xK (yN mE (zV zZ rfl G.len Ys (zB (pvb 0 rfl) zC rfl) (by decide) (by decide) rfl rfl) zK (yu _)) (zM (zT (yE (zB (qu true true rfl G.list rfl G.zip rfl (zB (pvb 0 rfl) (zB (pvb 1 rfl) zC rfl) rfl) rfl rfl rfl) (zB (zS jB (pvb 0 rfl) (pvb 1 rfl)) zC rfl) rfl)))) yZ) (zJ (yh (zU UT hr (zB (o8 (pvb 0 rfl) xY (y4 zK)) (zB (o8 (pvb 1 rfl) (y4 zK) (y4 zK)) zC rfl) rfl) rfl rfl rfl rfl) (yn rfl (zR (@zQ _ _ 2 _ gO.nd rfl (.inl rfl) (by trivial)) (zR (@zQ _ _ 3 _ gO.nd rfl (.inl rfl) (by trivial)) yS rfl) rfl) rfl rfl) rfl rfl rfl) (zJ (yh (zU UT hr (zB (o8 (pvb 0 rfl) (y4 zK) (y4 zK)) (zB (o8 (pvb 1 rfl) xY (y4 zK)) zC rfl) rfl) rfl rfl rfl rfl) (yn rfl (zR (@zQ _ _ 4 _ gO.nd rfl (.inl rfl) (by trivial)) (zR (@zQ _ _ 5 _ gO.nd rfl (.inl rfl) (by trivial)) yS rfl) rfl) rfl rfl) rfl rfl rfl) (zJ (@zY _ _ 6 _ _ _ _ gO.nd rfl (.inl rfl) (qu true true rfl G.list rfl G.zip rfl (zB (pvb 3 rfl) (zB (pvb 5 rfl) zC rfl) rfl) rfl rfl rfl) rfl (by trivial)) (zM (zT (yE (zB (zS jB (zS jB (pvb 2 rfl) (pvb 4 rfl)) (pvb 6 rfl)) (zB (zU UB aT (zB (pvb 3 rfl) (zB (pvb 5 rfl) zC rfl) rfl) rfl rfl rfl rfl) zC rfl) rfl)))))))),?_⟩;have na:=yH a;have nb:=yH b;have p8:2 ^ n<=2 ^ 8:=Nat.pow_le_pow_right (by decide) ak;have e8:2 ^ 8=256:=rfl;refine zA ⟨p,_,rfl,.inl (SqL.of B),_,_,rfl,rfl,_,rfl,?_⟩
 cases n with
 | zero =>
  have bc:a.length=1:=al;have ba:b.length=1:=bl;rw[Jy (show (((yG a).length:Nat):Int)<2 by lia)];refine xH (zA (zA ⟨p,v,_,_,rfl,SqL.of B,SqL.of h2,by lia,by lia,λlz t H2 s3 n1 x z=>?_⟩));have pz:=j8 z (by lia);have u:=zE x (.lst t);have u4:=s3.trans u;refine zA (zA ⟨p,v,_,_,rfl,rfl,u4 _ _ B,u4 _ _ h2,by rw[JW];lia,λl5 X=>⟨(by show 2<=sizeLine;decide),λc y=>?_⟩⟩);have o:=zE X (.lst (yG a++yG b));have l:=zE y (.tup [.ref lz,.ref l5]);refine k c lz l5 t _ ((u4.trans o).trans l) (yx y _) (l _ _ (o _ _ (yx x _))) (((pz.tups (Tups.of u)).tups (Tups.of o)).tups (Tups.of l)) ?_
  rw[l _ _ (yx X _),zdH];rfl
 | succ m =>
  obtain⟨a0,a1⟩:=wF al;obtain⟨b0,b1⟩:=wF bl;have pw:2 ^ (m+1)=2 ^ m*2:=Zd ..;have p0:=WA (n:=m);rw[Jr (show ¬(((yG a).length:Nat):Int)<2 by lia)];refine yR (zA ⟨2,rfl,rfl,0,p,_,.inl ⟨rfl,rfl⟩,rfl,SqL.of B,λq1 V=>?_⟩);rw[iF];have s1:=zE V (.lst (yG (by2 0 a)));refine zA ⟨1,rfl,2,rfl,rfl,1,v,_,.inr ⟨rfl,rfl⟩,rfl,SqL.of (s1 _ _ h2),λq2 U=>?_⟩;rw[iF];have s2:=zE U (.lst (yG (by2 1 b)));refine⟨m,rfl,q1,q2,by2 0 a,by2 1 b,rfl,s2 _ _ (yx V _),yx U _,a0,b1,by lia,λc3 ax N I H3 s3 a6 a4 L Z=>?_⟩;have u3:=(s1.trans s2).trans s3;refine⟨c3,_,rfl,SqT.of a6,rfl,_,_,rfl,_,_,rfl,rfl,?_⟩;refine zA ⟨1,rfl,2,rfl,rfl,1,p,_,.inr ⟨rfl,rfl⟩,rfl,SqL.of (u3 _ _ B),λq4 T=>?_⟩;rw[iF];have u:=zE T (.lst (yG (by2 1 a)));refine zA ⟨2,rfl,rfl,0,v,_,.inl ⟨rfl,rfl⟩,rfl,SqL.of (u _ _ (u3 _ _ h2)),λq5 S=>?_⟩;rw[iF];have o:=zE S (.lst (yG (by2 0 b)));refine⟨m,rfl,q4,q5,by2 1 a,by2 0 b,rfl,o _ _ (yx T _),yx S _,a1,b0,by lia,λc6 ao M D H6 l a5 a3 J Y=>?_⟩;have r:=(u.trans o).trans l;refine⟨c6,_,rfl,SqT.of a5,rfl,_,_,rfl,_,_,rfl,rfl,?_⟩;obtain⟨j,xf⟩:=vB m _ _ a0 b1;obtain⟨yl,yf⟩:=vB m _ _ a1 b0;have bd:=(oG m (by lia)).2;have a8:=L.len;have a7:=J.len;refine zA (zA ⟨N,M,_,_,rfl,SqL.of (r _ _ Z),SqL.of Y,by rw[yH,yH,j,yl];exact Je _,by rw[yH,j];lia,λlz t H7 s7 n1 x z=>?_⟩);have pz:=j8 z (by rw[j,yl];exact Je _);have s8:=zE x (.lst t);have q:=s7.trans s8;have tl:=pz.len;rw[Wr,j,yl,Nat.min_self]at tl;refine zA (zA ⟨ax,ao,_,_,rfl,rfl,q _ _ (r _ _ a4),q _ _ a3,by rw[JW];lia,λl9 W=>?_⟩);have s9:=zE W (.lst (I++D));refine zA ⟨l9,lz,_,_,rfl,rfl,yx W _,s9 _ _ (yx x _),by rw[JW,Jn];lia,λR e=>?_⟩;have C:=zE e (.lst ((I++D)++t));have g:=(q.trans s9).trans C;refine zA (zA ⟨N,M,_,_,rfl,g _ _ (r _ _ Z),g _ _ Y,by rw[yH,yH,j,yl],by rw[yH,j];lia,λO bo i ab=>?_⟩);rw[zbq]at ab;refine⟨(by show 2<=sizeLine;decide),λc y=>?_⟩;have d:=zE y (.tup [.ref R,.ref O]);refine k c R O _ _ ((u3.trans r).trans ((g.trans i).trans d)) (yx y _) (d _ _ (i _ _ (yx e _))) ?_ (d _ _ ab);refine Prs.tups (Tups.of ((s9.trans C).trans (i.trans d))) ?_;exact Prs.app (Prs.app ((L.tups (Tups.of r)).tups (Tups.of q)) (J.tups (Tups.of q))) (pz.tups (Tups.of s8))
theorem rL {f d:JI}{fd e:Yl}(F:Fun K "merger_of" "merger_of" wg f fd) (G:Mgs mg) (c:Use P w K mg base "by_turns" ["one","other"] 1 cj d e) (b:Binds K fd ["one","other"] []) (a:mg "merger_of" = some (.ref f)):∀ n:Nat,FnOk P w K mg base CX0 (n+2) f fd ["one","other"] (x9 n)
 | 0=>ux F G c b a 0 ⟨λvs H Q E ⟨m,h,_⟩=>by lia,λA outer s H args us vs Q E _ _ _ _ ⟨m,h,_⟩=>by lia⟩
 | m+1=>ux F G c b a (m+1) ((rL F G c b a m).imp λvs H Q E ⟨g,h,q⟩=>by cases h;exact q)
abbrev vS:Sp:=λa H Q E=>∃ m,m<=4/\x9 m a H Q E
theorem mH {f b:JI}{fd c:Yl}(F:Fun K "merger_of" "merger_of" wg f fd) (G:Mgs mg) (e:Use P w K mg base "by_turns" ["one","other"] 1 cj b c) (d:Binds K fd ["one","other"] []) (a:mg "merger_of" = some (.ref f)):FnOk P w K mg base CX0 6 f fd ["one","other"] vS :=
 FnOk.any 4 λm g=>(rL F G e d a m).mono (by lia)
abbrev oe:Stmt:=top 39
def sS:Sp:=λf H Q _=>∃ k:Nat,f=[.int ((k+1:Nat):Int)]/\k<4/\∀ e c d b a,Same H a->NetAt a e c d b (yt (yc k))->Q (.ref e) a
theorem zcf:FnScope ["k","row","half"] ["k"] (zN oe):=by trivial
theorem gu {f Y X Z:JI}{fd dR dT dM:Yl}(F:Fun K "merger" "merger" oe f fd) (G:Mgs mg) (UR:Use P w K mg base "row_of" ["k"] 2 oK Y dR) (UT:Use P w K mg base "merger_of" ["one","other"] 6 vS X dT) (UM:Use P w K mg base "net_of" ["row","made"] 3 uS Z dM):FnOk P w K mg base CX0 7 f fd ["k"] sS:=by
 refine F.ok zcf (λz H Q E h=>?_) (λab A outer s H z Q E e h=>?_)
 ·obtain⟨k,rfl,_⟩:=h
  rfl
 obtain⟨k,rfl,T,q⟩:=h;have j:Room 2 _:=e.mono (by decide);have i:Room 3 _:=e.mono (by decide);refine⟨_,(zJ (@zY _ _ 1 _ _ _ _ zcf.nd rfl (.inl rfl) (zU UR j (zB (pvb 0 rfl) zC rfl) rfl rfl rfl rfl) rfl (by trivial)) (zJ (@zY _ _ 2 _ _ _ _ zcf.nd rfl (.inl rfl) (zS wN (zV zZ rfl G.len Ys (zB (pvb 1 rfl) zC rfl) (by decide) (by decide) rfl rfl) zK) rfl (by trivial)) (zM (zT (zU UM i (zB (pvb 1 rfl) (zB (zU UT e (zB (xi j3 (pvb 1 rfl) xY (y4 (pvb 2 rfl))) (zB (xi j3 (pvb 1 rfl) (y4 (pvb 2 rfl)) xY) zC rfl) rfl) rfl rfl rfl rfl) zC rfl) rfl) rfl rfl rfl rfl))))),?_⟩;refine zA ⟨k+1,rfl,by lia,λp x=>?_⟩;have D:=zE x (.lst (yG (List.range (2 ^ (k+1)))));have d:=yx x (.lst (yG (List.range (2 ^ (k+1)))));have J:(List.range (2 ^ (k+1))).length=2 ^ (k+1):=Y0;obtain⟨o,t2,B⟩:=cL J;have nl:=yH (List.range (2 ^ (k+1)));refine zA ⟨p,_,rfl,.inl (SqL.of d),_,_,rfl,rfl,⟨by decide,by decide⟩,?_⟩;have eh:(((yG (List.range (2 ^ (k+1)))).length:Nat):Int) / 2=((2 ^ k:Nat):Int):=by rw[nl,<- o];lia
 simp only[eh];have v:2 ^ k<=(List.range (2 ^ (k+1))).length:=by rw[<- o];exact B
 refine zA (zA (zA (yM rfl ⟨p,_,rfl,SqL.of d,λO b=>?_⟩)));rw[zcM _ _ v];have t:=zE b (.lst (yG ((List.range (2 ^ (k+1))).take (2 ^ k))));refine zA (zA (yM rfl ⟨p,_,rfl,SqL.of (t _ _ d),λN a=>?_⟩));rw[zcN _ _ v];have r:=zE a (.lst (yG ((List.range (2 ^ (k+1))).drop (2 ^ k))));have S:((List.range (2 ^ (k+1))).take (2 ^ k)).length=2 ^ k:=by rw[JF];lia
 have R:((List.range (2 ^ (k+1))).drop (2 ^ k)).length=2 ^ k:=by rw[Zv];lia
 refine⟨k,by lia,O,N,_,_,rfl,r _ _ (yx b _),yx a _,S,R,by lia,λc lf le M H4 C W U pr V=>?_⟩;have n:=(t.trans r).trans C;have y:(⟨(List.range (2 ^ (k+1))).length,(mergeN k ((List.range (2 ^ (k+1))).take (2 ^ k)) ((List.range (2 ^ (k+1))).drop (2 ^ k))).1,(mergeN k ((List.range (2 ^ (k+1))).take (2 ^ k)) ((List.range (2 ^ (k+1))).drop (2 ^ k))).2⟩:Nt)=yc k:=by rw[Y0];rfl
 refine⟨p,c,lf,le,M,_,List.range (2 ^ (k+1)),_,rfl,n _ _ d,W,U,pr,V,by rw[y];exact uD T,λL l m g H' I u=>?_⟩;rw[y]at u;exact q L l m g H' ((D.trans n).trans I) u
abbrev bC:Stmt:=top 13
abbrev om:Stmt:=top 14
theorem scF:FnScope ["net","counts","on_lanes","turns","one","other","come"] ["net","counts"] (zN om):=by trivial
theorem gy {f:JI}{fd:Yl}(F:Fun K "flowed" "flowed" om f fd) (G:Mgs mg):FnOk P w K mg base CX0 1 f fd ["net","counts"] sV:=by
 refine F.ok scF (λL H Q E h=>?_) (λU A outer s H L Q E W h=>?_)
 ·obtain⟨r,fr,S,B,N,c,cs,rfl,_⟩:=h
  rfl
 obtain⟨r,fr,S,B,N,c,cs,rfl,ok,na,M,cl,k⟩:=h;refine⟨_,(zJ (@zY _ _ 2 _ _ _ _ scF.nd rfl (.inl rfl) (yK wW rfl G.list rfl (zB (pvb 1 rfl) zC rfl) (by decide) (by decide) rfl rfl) rfl (by trivial)) (zJ (@zY _ _ 3 _ _ _ _ scF.nd rfl (.inl rfl) (x5 zC) rfl (by trivial)) (zJ (x4 YZ rfl (xV (zt yF (pvb 0 rfl) zK (λ_ _=>rfl))) (yn rfl (zR (@zQ _ _ 4 _ scF.nd rfl (.inl rfl) (by trivial)) (zR (@zQ _ _ 5 _ scF.nd rfl (.inl rfl) (by trivial)) yS rfl) rfl) rfl rfl) (zJ (@zY _ _ 6 _ _ _ _ scF.nd rfl (.inl rfl) (zS yO (zt yT (pvb 2 rfl) (pvb 4 rfl) (λ_ _=>rfl)) (zt yT (pvb 2 rfl) (pvb 5 rfl) (λ_ _=>rfl))) rfl (by trivial)) (zJ (yh (zS wN (zS yO (pvb 6 rfl) zK) zK) (wL (pvb 2 rfl) (pvb 4 rfl) xC (by intro _;rfl)) rfl rfl rfl) (zJ (yh (zS wN (pvb 6 rfl) zK) (wL (pvb 2 rfl) (pvb 5 rfl) xC (by intro _;rfl)) rfl rfl rfl) (zM (w6 (mD W0 ZT ZU xM (pvb 3 rfl) (zB (zS xD (pvb 6 rfl) zK) zC rfl) rfl rfl rfl rfl rfl) rfl))))) (by intro _;rfl)) (zM (zT (yE (zB (pvb 2 rfl) (zB (pvb 3 rfl) zC rfl) rfl))))))),?_⟩;refine zA ⟨c,_,rfl,.inr (SqT.of M),λlo l=>?_⟩;have C:=zE l (.lst (cs.map V.int));refine⟨(by show 0<=sizeLine;decide),λlt j=>?_⟩;have z:=C.trans (zE j (.lst []));have ne:lo≠lt:=zH zD j;refine zA ⟨r,_,_,_,rfl,rfl,SqT.of (z _ _ na.net),rfl,fr,rfl,⟨_,SqT.of (z _ _ na.forks)⟩,?_⟩
 refine tX (K:=K) (a:=fr) (xs:=B) (λi σ d=>(∃ y x v,σ=[some (.ref r),some (.ref c),some (.ref lo),some (.ref lt),y,x,v])/\Same H d/\d lo=some (.lst ((zr (N.forks.take i) cs).1.map V.int))/\d lt=some (.lst ((zr (N.forks.take i) cs).2.map V.int)))
  ⟨⟨_,_,_,rfl⟩,z,by rw[zG ne];exact zD,zD⟩ (λi σ d _ q=>SqT.of (q.2.1 _ _ na.forks)) ?_ ?_
 ·rintro i p σ d n ⟨⟨y,x,v,rfl⟩,t,m,u⟩
  obtain⟨a,g,rfl,J,O⟩:=(na.prs.tups (Tups.of t)).get n;have T:=ok.fk g (JM J);have X:(zr (N.forks.take i) cs).1.length=N.lanes:=by rw[xt,cl]
  have R:(zr (N.forks.take i) cs).2.length<=128:=by rw[y8,JF];have:=ok.fm;lia
  have I:=wE J cs;generalize zr (N.forks.take i) cs=st at *;refine⟨a,_,rfl,SqT.of O,rfl,_,_,rfl,_,_,rfl,rfl,?_⟩;refine zA (zA ⟨lo,_,_,_,rfl,rfl,SqL.of m,wv (by lia),_,rfl,_,rfl,lo,_,_,_,rfl,rfl,SqL.of m,wv (by lia),_,_,rfl,rfl,?_⟩);refine zA ⟨_,_,rfl,rfl,_,_,rfl,rfl,⟨by decide,by decide⟩,_,rfl,_,rfl,lo,_,_,g.1,rfl,rfl,m,rX (by rw[Jb];lia),?_⟩;refine zA ⟨_,_,rfl,rfl,⟨by decide,by decide⟩,_,rfl,_,rfl,lo,_,_,g.2,rfl,rfl,zD,rX (by rw[YG,Jb];lia),?_⟩
  have D:upd (upd d lo (.lst ((st.1.map V.int).set g.1 (.int ((st.1.getD g.1 0+st.1.getD g.2 0+1) / 2))))) lo (.lst (((st.1.map V.int).set g.1 (.int ((st.1.getD g.1 0+st.1.getD g.2 0+1) / 2))).set g.2 (.int ((st.1.getD g.1 0+st.1.getD g.2 0) / 2)))) lt=some (.lst (st.2.map V.int)):=by
   rw[zG ne.symm,zG ne.symm];exact u
  refine zA ⟨.inl ⟨rfl,_,SqL.of D⟩,_,rfl,_,_,rfl,rfl,(by show (0:Int)<2;decide),lt,_,_,rfl,rfl,D,by rw[Jb];exact Wz R (by decide),⟨_,_,_,rfl⟩,λb o e=>?_,?_,?_⟩
  ·rw[zG (zH (C b o e) j),zG (zH e l),zG (zH e l)];exact t b o e
  ·rw[zG ne,zD,I]
   unfold zi;rw[wd,wd]
  ·rw[zD,I]
   unfold zi;rw[JE];rfl
 ·rintro σ d ⟨⟨y,x,v,rfl⟩,t,m,u⟩
  have e:N.forks.take B.length=N.forks:=by rw[na.prs.len];exact Ya
  rw[e]at m u;exact zA (zA ⟨(by show 2<=sizeLine;decide),λp n=>k p lo lt _ (t.trans (zE n _)) zD (zE n _ _ _ m) (zE n _ _ _ u)⟩)
theorem scE:FnScope ["net","counts","on_lanes","turns"] ["net","counts"] (zN bC):=by trivial
theorem zbg {f O:JI}{fd T:Yl}(F:Fun K "ends_of" "ends_of" bC f fd) (G:Mgs mg) (U:Use P w K mg base "flowed" ["net","counts"] 1 sV O T):FnOk P w K mg base CX0 2 f fd ["net","counts"] kH:=by
 refine F.ok scE (λD H Q E h=>?_) (λY A outer s H D Q E I h=>?_)
 ·obtain⟨r,fr,t,B,N,c,cs,rfl,_⟩:=h
  rfl
 obtain⟨r,fr,t,B,N,c,cs,rfl,ok,na,M,cl,k⟩:=h;refine⟨_,(zJ (yh (zU U I (zB (pvb 0 rfl) (zB (pvb 1 rfl) zC rfl) rfl) rfl rfl rfl rfl) (yn rfl (zR (@zQ _ _ 2 _ scE.nd rfl (.inr rfl) (by trivial)) (zR (@zQ _ _ 3 _ scE.nd rfl (.inl rfl) (by trivial)) yS rfl) rfl) rfl rfl) rfl rfl rfl) (zM (zT (yK yL rfl G.tuple rfl (zB (@rF _ _ _ _ none _ _ _ _ _ _ ["lane","on_lanes"] [none,some 2] rfl (xV (zt yF (pvb 0 rfl) zK (λ_ _=>rfl))) (CapOk.of (by kernel_rfl)) (λ_ _ _ _ _=>(@zQ _ _ 0 _ (show (["lane","on_lanes"]:List Str).Nodup from by decide +kernel) rfl (.inl rfl) (.inr rfl))) (λ_ _ _ _ _=>xX) (λ_ _ _ _ _=>(@zt _ _ _ _ _ _ (zcr K) yT (pvb 1 rfl) (pvb 0 rfl) (λ_ _=>rfl))) (by intro _;rfl)) zC rfl) (by decide) (by decide) rfl rfl)))),?_⟩;refine zA (zA ⟨r,fr,t,B,N,c,cs,rfl,ok,na,M,cl,λp lo lt W z L C Z=>?_⟩);refine⟨p,_,rfl,SqT.of L,rfl,_,_,rfl,_,_,rfl,rfl,?_⟩;have d:=na.tups (Tups.of z);refine zA ⟨r,_,_,_,rfl,rfl,SqT.of d.net,rfl,t,rfl,⟨_,SqT.of d.ends⟩,λl u=>?_⟩;have X:lo≠l:=zH C u;refine jR (K:=K) (a:=t) (xs:=yG N.ends) (λi acc σ g=>(∃ v,σ=[v,some (.ref lo)])/\Same W g/\g l=some (.lst acc)/\acc=((zj N cs).take i).map V.int) ⟨⟨_,rfl⟩,zE u _,zD,rfl⟩ (λi acc σ g q=>⟨q.2.2.1,SqT.of (q.2.1 _ _ d.ends)⟩) ?_ ?_
 ·rintro i x acc σ g n ⟨⟨v,rfl⟩,j,y,rfl⟩
  have m:i<N.ends.length:=by have:=(Ja.mp n).1;rwa [yH]at this
  have ex:x=.int N.ends[i]:=by
   unfold yG at n;rw[JC,J6 m]at n;exact(Jq n).symm
  subst ex;have lt':=iS ok (Yf m);refine zA (zA ⟨lo,_,_,_,rfl,rfl,SqL.of (j _ _ C),wv (by rw[xt,cl];exact lt'),y,?_,nx (by rw[yH];exact m) ⟨⟨_,rfl⟩,λb o e=>?_,zD,?_⟩⟩)
  ·rw[Jb,JF];exact Wz (Nat.min_le_left _ _) (JG (show i<1000 by have:=lF ok;have:=ok.l16;lia) (by decide))
  ·rw[zG (zH e u)];exact j b o e
  ·have R:i<(zj N cs).length:=by unfold zj;rw[Jb];exact m
   have S:(zj N cs)[i]=(zr N.forks cs).1.getD N.ends[i] 0:=by simp[zj]
   rw[JU R,JE,S];rfl
 ·rintro acc σ g ⟨⟨v,rfl⟩,j,y,rfl⟩
  refine⟨l,_,rfl,.inl ⟨SqL.of y,λq J=>k q _ ((z.trans j).trans (zE J _)) ?_⟩⟩;rw[zD,yH,YJ (by unfold zj;rw[Jb];exact Je _)]
abbrev cu:Stmt:=top 26
abbrev sv:Stmt:=top 25
def oJ:Sp:=λb H Q _=>∃ (t:Int) (m:Nat),b=[.int t,.int m]/\1<=m/\m<=1000/\∀ p a,Same H a->a p=some (.tup ((zP t m).map V.int))->Q (.ref p) a
def uT:Sp:=λb H Q _=>∃ (c:JI) (cs:List Int),b=[.ref c]/\H c=some (.tup (cs.map V.int))/\1<=cs.length/\cs.length<=1000/\∀ a,Same H a->Q (.bl (decide (cs=zP cs.sum cs.length))) a
theorem zea:FnScope ["total","many"] ["total","many"] (zN cu):=by trivial
theorem zba {f:JI}{fd:Yl}(F:Fun K "stair_of" "stair_of" cu f fd) (G:Mgs mg):FnOk P w K mg base CX0 1 f fd ["total","many"] oJ:=by
 refine F.ok zea (λr H Q E h=>?_) (λv A outer s H r Q E y h=>?_)
 ·obtain⟨t,m,rfl,_⟩:=h
  rfl
 obtain⟨t,m,rfl,x,j,k⟩:=h;refine⟨_,(zM (zT (yK yL rfl G.tuple rfl (zB (@rF _ _ _ _ none _ _ _ _ _ _ ["place","many","total"] [none,some 1,some 0] rfl (wB rfl G.range (zB (pvb 1 rfl) zC rfl) rfl) (CapOk.of (by kernel_rfl)) (λ_ _ _ _ _=>(@zQ _ _ 0 _ (show (["place","many","total"]:List Str).Nodup from by decide +kernel) rfl (.inl rfl) (.inr rfl))) (λ_ _ _ _ _=>xX) (λ_ _ _ _ _=>(zS wN (zS rJ (zS yO (zS rJ (pvb 2 rfl) (pvb 0 rfl)) (pvb 1 rfl)) zK) (pvb 1 rfl))) (by intro _;rfl)) zC rfl) (by decide) (by decide) rfl rfl))),?_⟩;refine zA (yM rfl ⟨by lia,by lia,λl q=>?_⟩);refine ag (lo:=0) (n:=((m:Nat):Int).toNat) (λi acc σ a=>(∃ d,σ=[d,some (.int (m:Nat)),some (.int t)])/\Same H a/\a l=some (.lst acc)/\acc=((zP t m).take i).map V.int) ⟨⟨_,rfl⟩,zE q _,zD,rfl⟩ (λi acc σ a z=>z.2.2.1) ?_ ?_
 ·rintro i acc σ a hi ⟨⟨d,rfl⟩,g,c,e2⟩
  have im:i<m:=by lia
  refine zA (zA ⟨_,_,rfl,rfl,_,rfl,_,_,rfl,rfl,_,_,rfl,rfl,_,rfl,_,_,rfl,rfl,⟨by lia,by lia⟩,c,?_,nx hi ⟨⟨_,rfl⟩,λb o e=>?_,zD,?_⟩⟩)
  ·rw[e2,Jb,JF,zX,JW];lia
  ·rw[zG (zH e q)];exact g b o e
  ·rw[e2,xw _ _ _ (by lia),xw _ _ _ (by lia),List.range_succ,JE,JE]
   show _++[V.int ((t-(0+(i:Nat))+(m:Nat)-1) / (m:Nat))]=_;rw[Int.zero_add];rfl
 rintro acc σ a ⟨⟨d,rfl⟩,g,c,e2⟩;rw[Yw,YJ (by rw[zX];exact Je _)]at e2;rw[e2]at c;exact⟨l,_,rfl,.inl ⟨SqL.of c,λp u=>k p _ (g.trans (zE u _)) zD⟩⟩
theorem zej:FnScope ["counts"] ["counts"] (zN sv):=by trivial
theorem jD {f j:JI}{fd l:Yl}(F:Fun K "is_stair" "is_stair" sv f fd) (G:Mgs mg) (n:Use P w K mg base "stair_of" ["total","many"] 1 oJ j l):FnOk P w K mg base CX0 2 f fd ["counts"] uT:=by
 refine F.ok zej (λg H Q E h=>?_) (λq A outer s H g Q E e h=>?_)
 ·obtain⟨c,cs,rfl,_⟩:=h
  rfl
 obtain⟨c,cs,rfl,b,m,a,k⟩:=h;refine⟨_,(zM (zT (tT (zcC e.units0) (pvb 0 rfl) (zU n e (zB (zV (dh rfl false) rfl G.sum rfl (zB (pvb 0 rfl) zC rfl) (by decide) (by decide) rfl rfl) (zB (zV zZ rfl G.len Ys (zB (pvb 0 rfl) zC rfl) (by decide) (by decide) rfl rfl) zC rfl) rfl) rfl rfl rfl rfl) (yu _)))),?_⟩;refine zA (zA ⟨c,cs,rfl,SqT.of b,_,rfl,c,_,rfl,.inr (SqT.of b),cs.sum,cs.length,?_,m,a,λp o d i=>?_⟩)
 ·rw[Jb];rfl
 refine⟨c,p,_,_,rfl,rfl,SqT.of (d _ _ b),SqT.of i,vE _,vE _,?_⟩;rw[zaz];exact k o d
abbrev oZ:Stmt:=top 30
def aX (N:Nt)(m n:Int):Bool:=decide (zj N (zP m (N.lanes / 2)++zP n (N.lanes / 2))=zP (m+n) N.lanes)
def sR:Sp:=λb H Q _=>∃ r fr d c N,∃ m n:Int,b=[.ref r,.int m,.int n]/\Nt.Ok N/\NetAt H r fr d c N/\N.lanes%2=0/\∀ a,Same H a->Q (.bl (aX N m n)) a
theorem az {N:Nt}(ok:N.Ok)(e:N.lanes%2=0)(m n:Int):1<=N.lanes / 2/\(zP m (N.lanes / 2)++zP n (N.lanes / 2)).length=N.lanes/\(zj N (zP m (N.lanes / 2)++zP n (N.lanes / 2))).sum=m+n/\(zj N (zP m (N.lanes / 2)++zP n (N.lanes / 2))).length=N.lanes:=by
 have b:=ok.l1;have a:1<=N.lanes / 2:=by lia
 have ln:(zP m (N.lanes / 2)++zP n (N.lanes / 2)).length=N.lanes:=by rw[Jn,zX,zX];lia
 refine⟨a,ln,?_,?_⟩
 ·rw[zaj ok ln,List.sum_append,sN _ _ a,sN _ _ a]
 ·unfold zj
  rw[Jb,ok.en.length_eq,Y0]
theorem zdu:FnScope ["net","m","n","width"] ["net","m","n"] (zN oZ):=by trivial
theorem gq {f I J L:JI}{fd O dI R:Yl}(F:Fun K "merges" "merges" oZ f fd) (q:Use P w K mg base "stair_of" ["total","many"] 1 oJ I O) (S:Use P w K mg base "is_stair" ["counts"] 2 uT J dI) (T:Use P w K mg base "ends_of" ["net","counts"] 2 kH L R):FnOk P w K mg base CX0 3 f fd ["net","m","n"] sR:=by
 refine F.ok zdu (λt H Q E h=>?_) (λW A outer s H t Q E c h=>?_)
 ·obtain⟨r,fr,p,o,N,m,n,rfl,_⟩:=h
  rfl
 obtain⟨r,fr,p,o,N,m,n,rfl,ok,na,ev,k⟩:=h;have a:Room 1 _:=c.mono (by decide);refine⟨_,(zJ (@zY _ _ 3 _ _ _ _ zdu.nd rfl (.inl rfl) (zS wN (zt yF (pvb 0 rfl) zK (λ_ _=>rfl)) zK) rfl (by trivial)) (zM (zT (zU S c (zB (zU T c (zB (pvb 0 rfl) (zB (zS w8 (zU q a (zB (pvb 1 rfl) (zB (pvb 3 rfl) zC rfl) rfl) rfl rfl rfl rfl) (zU q a (zB (pvb 2 rfl) (zB (pvb 3 rfl) zC rfl) rfl) rfl rfl rfl rfl)) zC rfl) rfl) rfl rfl rfl rfl) zC rfl) rfl rfl rfl rfl)))),?_⟩;have V:=ok.l16;obtain⟨j,ln,u,d⟩:=az ok ev m n;refine zA ⟨r,_,0,_,rfl,rfl,SqT.of na.net,rfl,_,_,rfl,rfl,⟨by decide,by decide⟩,?_⟩;have M:((N.lanes:Nat):Int) / 2=((N.lanes / 2:Nat):Int):=by simp_all
 simp only[M];refine zA (zA (zA ⟨m,N.lanes / 2,rfl,j,by lia,λG H1 z i=>?_⟩));refine zA (zA ⟨n,N.lanes / 2,rfl,j,by lia,λD Z l g=>?_⟩);refine⟨G,D,_,_,rfl,rfl,l _ _ i,g,by rw[Jb,Jb,zX,zX,JW];lia,λC Y y b=>?_⟩;rw[<- JE]at b;have u3:=(z.trans l).trans y;refine⟨r,fr,p,o,N,C,_,rfl,ok,na.tups (Tups.of u3),b,ln,λB X x e=>?_⟩;refine⟨B,_,rfl,e,by rw[d];lia,by rw[d];grind,λU v=>?_⟩;rw[u,d];exact k U ((u3.trans x).trans v)
end
end K65
namespace Bn
open PySem L2 Own
theorem e7 (s q n:Int):(s-2*q+2*n-1) / (2*n)=((s+1) / 2-q+n-1) / n:=by
 rw[<- Int.ediv_ediv_of_nonneg (show (0:Int)<=2 by decide)]
 congr 1
 lia
theorem zaa (s q n:Int):(s-(2*q+1)+2*n-1) / (2*n)=(s / 2-q+n-1) / n:=by
 rw[<- Int.ediv_ediv_of_nonneg (show (0:Int)<=2 by decide)]
 congr 1
 lia
def stV (s:Int)(n p:Nat):Int:=(s-p+n-1) / (n:Int)
theorem oH (s:Int)(n:Nat)(h:1<=n)(q:Nat)(a:q<n):stV s (2*n) (2*q)=stV ((s+1) / 2) n q/\stV s (2*n) (2*q+1)=stV (s / 2) n q:=by
 unfold stV;constructor
 ·have:=e7 s q n
  rw[<- this]
  congr 1<;>lia
 ·have:=zaa s q n
  rw[<- this]
  congr 1<;>lia
theorem cW (s:Int)(n p:Nat)(h:1<=n):stV s n (p+1)<=stV s n p/\stV s n p<=stV s n (p+1)+1:=by
 unfold stV;have a:(0:Int)<n:=by lia
 constructor
 ·exact Int.ediv_le_ediv a (by lia)
 ·have:=Int.add_mul_ediv_right (s-((p+1:Nat):Int)+n-1) 1 (show (n:Int)≠0 by lia)
  rw[Int.one_mul]at this;rw[<- this];exact Int.ediv_le_ediv a (by lia)
theorem xc (s:Int)(n:Nat):zP s n=(List.range n).map (stV s n):=rfl
theorem vH (s:Int)(n:Nat)(h:1<=n):by2 0 (zP s (2*n))=zP ((s+1) / 2) n/\by2 1 (zP s (2*n))=zP (s / 2) n:=by
 have l:=zX s (2*n)
 have at':∀ p,p<2*n->(zP s (2*n))[p]?=some (stV s (2*n) p):=λp b=>by
  rw[xc,JC,List.getElem?_range b];rfl
 unfold by2;rw[l];constructor
 ·rw[show (2*n+1-0) / 2=n by lia,xc ((s+1) / 2) n,<- List.filterMap_eq_map]
  refine xn _ λq a=>?_;have:=Y2.mp a;rw[at' _ (by lia),show 0+2*q=2*q by lia,(oH s n h q this).1];rfl
 ·rw[show (2*n+1-1) / 2=n by lia,xc (s / 2) n,<- List.filterMap_eq_map]
  refine xn _ λq a=>?_;have:=Y2.mp a;rw[at' _ (by lia),show 1+2*q=2*q+1 by lia,(oH s n h q this).2];rfl
theorem iO {α β:Type}{f g:α->List β}:∀ (l:List α),(∀ x∈l,f x=g x)->l.flatMap f=l.flatMap g
 | [],_=>rfl
 | x::l,h=>by
  rw[List.flatMap_cons,List.flatMap_cons,h x Jz,iO l λy a=>h y (Jw _ a)]
def rm (p:Int × Int):List Int:=[(p.1+p.2+1) / 2,(p.1+p.2) / 2]
def mergeV:Nat->List Int->List Int->List Int
 | 0,x,y=>(x.zip y).flatMap rm
 | m+1,x,y=>((mergeV m (by2 0 x) (by2 1 y)).zip (mergeV m (by2 1 x) (by2 0 y))).flatMap rm
theorem gU (n:Nat):List.range (2*n)=(List.range n).flatMap λq=>[2*q,2*q+1]:=by
 induction n with
 | zero=>rfl
 | succ n ih =>
  rw[show 2*(n+1)=2*n+1+1 by lia,List.range_succ,List.range_succ,ih,List.range_succ,List.flatMap_append,List.flatMap_singleton,JK];rfl
theorem mj (u v:Int)(n:Nat)(h:1<=n)(near:u-v<=1/\v-u<=1):((zP u n).zip (zP v n)).flatMap rm=zP (u+v) (2*n):=by
 rw[xc,xc,xc,List.zip_map',List.flatMap_map,gU,List.map_flatMap];refine iO _ λq f=>?_;have f:=Y2.mp f;obtain⟨a,b⟩:=oH (u+v) n h q f;obtain⟨c,d⟩:=cW (u+v) (2*n) (2*q) (by lia);show [(stV u n q+stV v n q+1) / 2,(stV u n q+stV v n q) / 2]=[stV (u+v) (2*n) (2*q),stV (u+v) (2*n) (2*q+1)];have e:(u=(u+v+1) / 2/\v=(u+v) / 2)\/(v=(u+v+1) / 2/\u=(u+v) / 2):=by lia
 rw[a,b]at c d ⊢
 have g:(stV u n q+stV v n q+1) / 2=stV ((u+v+1) / 2) n q/\(stV u n q+stV v n q) / 2=stV ((u+v) / 2) n q:=by
  rcases e with ⟨i,e2⟩|⟨i,e2⟩
  ·have k:stV u n q=stV ((u+v+1) / 2) n q:=JP (λz=>stV z n q) i
   have j:stV v n q=stV ((u+v) / 2) n q:=JP (λz=>stV z n q) e2;lia
  ·have k:stV v n q=stV ((u+v+1) / 2) n q:=JP (λz=>stV z n q) i
   have j:stV u n q=stV ((u+v) / 2) n q:=JP (λz=>stV z n q) e2;lia
 rw[g.1,g.2]
theorem wP:∀ (m:Nat) (s t:Int),mergeV m (zP s (2 ^ m)) (zP t (2 ^ m))=zP (s+t) (2 ^ (m+1))
 | 0,s,t=>by
  have e:∀ z:Int,zP z 1=[z]:=λz=>by
   show [(z-((0:Nat):Int)+((1:Nat):Int)-1) / ((1:Nat):Int)]=[z];rw[show z-((0:Nat):Int)+((1:Nat):Int)-1=z by lia]
   congr 1
   lia
  show ((zP s 1).zip (zP t 1)).flatMap rm=zP (s+t) 2;rw[e,e];show [(s+t+1) / 2,(s+t) / 2]=[(s+t-((0:Nat):Int)+((2:Nat):Int)-1) / ((2:Nat):Int),(s+t-((1:Nat):Int)+((2:Nat):Int)-1) / ((2:Nat):Int)]
  congr 1
  ·lia
  ·congr 1
   lia
 | m+1,s,t=>by
  have p:=WA (n:=m);have e:2 ^ (m+1)=2*2 ^ m:=by rw[Zd,Nat.mul_comm]
  unfold mergeV;rw[e,(vH s _ p).1,(vH s _ p).2,(vH t _ p).1,(vH t _ p).2,wP m,wP m,mj _ _ _ WA (by lia)]
  congr 1
  ·lia
  ·rw[Zd 2 (m+1)];lia
end Bn
namespace Bn
open PySem L2 Own
def dl (lane l:Nat):Int:=if l=lane then 1 else 0
def sM (f:Fk)(t:Int)(g:Nat->Int):Nat->Int:=λl=>if l=f.1 then (t+1) / 2 else if l=f.2 then t / 2 else g l
def fn1 (g:Nat->Int)(f:Fk):Nat->Int:=sM f (g f.1+g f.2) g
def fnF (fs:List Fk)(g:Nat->Int):Nat->Int:=fs.foldl fn1 g
theorem nJ (a b:List Fk)(g:Nat->Int):fnF (a++b) g=fnF b (fnF a g):=YQ
def InR (fs:List Fk)(R:List Nat):Prop:=∀ f∈fs,f.1∈R/\f.2∈R
theorem InR.app {a b:List Fk}{R:List Nat}(ha:InR a R)(hb:InR b R):InR (a++b) R:=λf c=>by
 rcases Js.mp c with h|h
 ·exact ha f h
 ·exact hb f h
theorem InR.mono {a:List Fk}{R S:List Nat}(ha:InR a R)(h:∀ x∈R,x∈S):InR a S:=λf b=>⟨h _ (ha f b).1,h _ (ha f b).2⟩
theorem uG:∀ {fs:List Fk}{R:List Nat}{g:Nat->Int}{l:Nat},InR fs R->l∉R->fnF fs g l=g l
 | [],R,g,l,_,_=>rfl
 | f::fs,R,g,l,h,a=>by
  obtain⟨d,c⟩:=h f Jz;have e:fnF (f::fs) g l=fnF fs (fn1 g f) l:=rfl;rw[e,uG (λx b=>h x (Jw _ b)) a];unfold fn1 sM;rw[Jc (λz=>a (by rw[z];exact d)),Jc (λz=>a (by rw[z];exact c))]
theorem uh:∀ {fs:List Fk}{R:List Nat}{g h:Nat->Int},InR fs R->(∀ l∈R,g l=h l)->∀ l∈R,fnF fs g l=fnF fs h l
 | [],R,g,h,_,e,l,b=>e l b
 | f::fs,R,g,h,i,e,l,b=>by
  obtain⟨d,c⟩:=i f Jz;refine uh (fs:=fs) (g:=fn1 g f) (h:=fn1 h f) (λx a=>i x (Jw _ a)) (λx a=>?_) l b;unfold fn1 sM;rw[e _ d,e _ c,e _ a]
theorem oD (a b:List Nat):InR (a.zip b) (a++b):=λf c=>by
 obtain⟨e,d⟩:=Wp (show (f.1,f.2)∈a.zip b from c);exact⟨Js.mpr (.inl e),Js.mpr (.inr d)⟩
theorem nH:∀ (a b:List Nat) (g:Nat->Int),a.length=b.length->(a++b).Nodup->(yU a b).map (fnF (a.zip b) g)=((a.map g).zip (b.map g)).flatMap rm
 | [],[],g,_,_=>rfl
 | [],_::_,_,h,_=>by simp at h
 | _::_,[],_,h,_=>by simp at h
 | x::a,y::b,g,n,nd=>by
  have d:a.length=b.length:=by simpa using n
  obtain⟨nx,m⟩:=JJ.mp (show (x::(a++y::b)).Nodup from nd);obtain⟨e,k⟩:=JJ.mp (List.perm_middle.nodup_iff.mp m)
  have c:x∉a++b:=λz=>nx (by
   rcases Js.mp z with z|z
   ·exact Js.mpr (.inl z)
   ·exact Js.mpr (.inr (Jw _ z)))
  have f:¬ y=x:=λz=>nx (by rw[<- z];exact Js.mpr (.inr Jz));have ih:=nH a b (fn1 g (x,y)) d k
  have same:∀ l∈a++b,fn1 g (x,y) l=g l:=λl h=>by
   unfold fn1 sM;rw[Jc (λz=>c (by rw[<- (show l=x from z)];exact h)),Jc (λz=>e (by rw[<- (show l=y from z)];exact h))]
  have p:a.map (fn1 g (x,y))=a.map g:=Yu λl h=>same l (Js.mpr (.inl h));have o:b.map (fn1 g (x,y))=b.map g:=Yu λl h=>same l (Js.mpr (.inr h));rw[p,o]at ih
  have j:fnF (a.zip b) (fn1 g (x,y)) x=(g x+g y+1) / 2:=by
   rw[uG (oD a b) c];unfold fn1 sM;rw[Jh rfl]
  have i:fnF (a.zip b) (fn1 g (x,y)) y=(g x+g y) / 2:=by
   rw[uG (oD a b) e];unfold fn1 sM;rw[Jc f,Jh rfl]
  show fnF (a.zip b) (fn1 g (x,y)) x::fnF (a.zip b) (fn1 g (x,y)) y::(yU a b).map (fnF (a.zip b) (fn1 g (x,y)))=(g x+g y+1) / 2::(g x+g y) / 2::((a.map g).zip (b.map g)).flatMap rm;rw[j,i,ih]
theorem ie {α:Type}(x y:α)(l:List α):by2 0 (x::y::l)=x::by2 0 l/\by2 1 (x::y::l)=y::by2 1 l:=by
 unfold by2;constructor
 ·rw[show ((x::y::l).length+1-0) / 2=(l.length+1-0) / 2+1 by rw[JL,JL];lia,List.range_succ_eq_map,ZQ,Zg]
  show x::_=_
  congr 1
 ·rw[show ((x::y::l).length+1-1) / 2=(l.length+1-1) / 2+1 by rw[JL,JL];lia,List.range_succ_eq_map,ZQ,Zg]
  show y::_=_
  congr 1
theorem qN {α:Type}:∀ l:List α,(by2 0 l++by2 1 l).Perm l
 | []=>by
  have e:(by2 0 []++by2 1 []:List α)=[]:=by simp[by2]
  rw[e]
 | [x]=>by
  have e:by2 0 [x]++by2 1 [x]=[x]:=by simp[by2]
  rw[e]
 | x::y::l=>by
  rw[(ie x y l).1,(ie x y l).2];exact((List.perm_middle.trans ((qN l).cons y)).cons x)
theorem sF {α:Type}:∀ (a b:List α),a.length=b.length->(yU a b).Perm (a++b)
 | [],[],_=>List.Perm.refl _
 | [],_::_,h=>by simp at h
 | _::_,[],h=>by simp at h
 | x::a,y::b,h=>by
  show (x::y::yU a b).Perm (x::(a++y::b));exact((sF a b (by simpa using h)).cons y |>.trans List.perm_middle.symm).cons x
theorem vX:∀ (m:Nat) (a b:List Nat) (g:Nat->Int),a.length=2 ^ m->b.length=2 ^ m->(a++b).Nodup ->
  InR (mergeN m a b).1 (a++b)/\(mergeN m a b).2.Perm (a++b)/\(mergeN m a b).2.map (fnF (mergeN m a b).1 g)=mergeV m (a.map g) (b.map g)
 | 0,a,b,g,ha,hb,nd=>by
  refine⟨oD a b,List.Perm.refl _,?_⟩
  match a,b,ha,hb with
  | [x],[y],_,_ =>
   exact nH [x] [y] g rfl nd
 | m+1,a,b,g,ha,hb,nd=>by
  obtain⟨r,q⟩:=wF ha;obtain⟨p,o⟩:=wF hb;have A:=qN a;have w:=qN b
  have pp:((by2 0 a++by2 1 b)++(by2 1 a++by2 0 b)).Perm (a++b):=by
   refine List.Perm.trans ?_ (A.append w);rw[JK,JK];refine List.Perm.append_left (by2 0 a) ?_;refine List.Perm.trans (ZJ (l₁:=by2 1 b)) ?_;rw[JK]
  have i:=pp.nodup_iff.mpr nd;obtain⟨H,G,n⟩:=ZK.mp i;obtain⟨k,f,D⟩:=vX m (by2 0 a) (by2 1 b) g r o H;obtain⟨h,e,C⟩:=vX m (by2 1 a) (by2 0 b) g q p G;generalize F:mergeN m (by2 0 a) (by2 1 b)=M1 at *;generalize e2:mergeN m (by2 1 a) (by2 0 b)=M2 at *
  have E:mergeN (m+1) a b=(M1.1++M2.1++M1.2.zip M2.2,yU M1.2 M2.2):=by
   show ((mergeN m (by2 0 a) (by2 1 b)).1++(mergeN m (by2 1 a) (by2 0 b)).1++(mergeN m (by2 0 a) (by2 1 b)).2.zip (mergeN m (by2 1 a) (by2 0 b)).2,yU (mergeN m (by2 0 a) (by2 1 b)).2 (mergeN m (by2 1 a) (by2 0 b)).2)=_;rw[F,e2]
  have d:(M1.2++M2.2).Perm (a++b):=(f.append e).trans pp;have j:M1.2.length=M2.2.length:=by rw[f.length_eq,e.length_eq,Jn,Jn,r,q,p,o]
  have v:∀ x∈by2 0 a++by2 1 b,x∈a++b:=λx c=>pp.mem_iff.mp (Js.mpr (.inl c));have u:∀ x∈by2 1 a++by2 0 b,x∈a++b:=λx c=>pp.mem_iff.mp (Js.mpr (.inr c));rw[E];refine⟨((k.mono v).app (h.mono u)).app ((oD _ _).mono λx c=>d.mem_iff.mp c),(sF _ _ j).trans d,?_⟩;show (yU M1.2 M2.2).map (fnF (M1.1++M2.1++M1.2.zip M2.2) g)=_;rw[nJ,nJ,nH _ _ _ j (d.nodup_iff.mpr nd)]
  have t:M1.2.map (fnF M2.1 (fnF M1.1 g))=M1.2.map (fnF M1.1 g):=Yu λx c=>by
   have c:=f.mem_iff.mp c;exact uG h λz=>n x c x z rfl
  have s:M2.2.map (fnF M2.1 (fnF M1.1 g))=M2.2.map (fnF M2.1 g):=Yu λx c=>by
   refine uh h (λl B=>uG k λz=>n l z l B rfl) x (e.mem_iff.mp c)
  rw[t,s,D,C];show _=((mergeV m (by2 0 (a.map g)) (by2 1 (b.map g))).zip (mergeV m (by2 1 (a.map g)) (by2 0 (b.map g)))).flatMap rm;rw[uM,uM,uM,uM]
theorem zbI {n:Nat}:∀ (fs:List Fk) (cs:List Int),cs.length=n->(∀ f∈fs,f.1<n/\f.2<n/\f.1≠f.2)->∀ l,l<n->(zr fs cs).1.getD l 0=fnF fs (λl=>cs.getD l 0) l:=by
 intro fs cs k ok
 have key:∀ j,j<=fs.length->∀ l,l<n->(zr (fs.take j) cs).1.getD l 0=fnF (fs.take j) (λl=>cs.getD l 0) l:=λj=>by
  induction j with
  | zero=>intro _ l _;rfl
  | succ j ih =>
   intro q l e;have d:=ih (by lia);have c:j<fs.length:=by lia
   have o:fs[j]?=some fs[j]:=J6 c;obtain⟨i,h,g⟩:=ok _ (Yf c);have r:(zr (fs.take j) cs).1.length=n:=by rw[xt,k]
   rw[wE o cs,JU c,nJ];show (zi (zr (fs.take j) cs) fs[j]).1.getD l 0=fn1 (fnF (fs.take j) λl=>cs.getD l 0) fs[j] l;have p:=d _ i;have e2:=d _ h;have m:=d l e;generalize zr (fs.take j) cs=st at *;generalize fnF (fs.take j) (λl=>cs.getD l 0)=G at *;unfold zi fn1 sM;show ((st.1.set fs[j].1 ((st.1.getD fs[j].1 0+st.1.getD fs[j].2 0+1) / 2)).set fs[j].2 ((st.1.getD fs[j].1 0+st.1.getD fs[j].2 0) / 2)).getD l 0=_;rw[p,e2,J8,List.getElem?_set,List.getElem?_set,YG];by_cases a:l=fs[j].1
   ·rw[Jh a,Jc (λz=>g (a.symm.trans z.symm)),Jh a.symm,Jh (by lia)];rfl
   ·rw[Jc a]
    by_cases b:l=fs[j].2
    ·rw[Jh b,Jh b.symm,Jh (by lia)];rfl
    ·rw[Jc b,Jc (λz=>b z.symm),Jc (λz=>a z.symm),<- J8];exact m
 intro l e;have:=key fs.length (Je _) l e
 rwa [Ya]at this
theorem gR {σ α β:Type}{step:σ->Fk->σ × α}(C:Commutes step){a b:List (β × Fk)}(h:Sw a b):∀ s,(run step s (b.map Prod.snd)).1=(run step s (a.map Prod.snd)).1:=by
 induction h with
 | refl l=>exact λs=>rfl
 | swap pre x y post e =>
  induction pre with
  | nil =>
   intro s;obtain⟨f,i,g⟩:=C s x.2 y.2 e;simp only[Zk,JR,run]
   rw[f]
  | cons z pre ih =>
   intro s;simp only[List.cons_append,JR,run]
   exact ih _
 | trans _ _ d c=>exact λs=>(c s).trans (d s)
def wY (cs:List Int)(f:Fk):List Int × Int:=((cs.set f.1 ((cs.getD f.1 0+cs.getD f.2 0+1) / 2)).set f.2 ((cs.getD f.1 0+cs.getD f.2 0) / 2),(cs.getD f.1 0+cs.getD f.2 0)%2)
theorem pT:Commutes wY:=λs f g h=>by
 obtain⟨d,c,b,a⟩:=aY h;unfold wY;simp only[y7 d,y7 c,y7 b,y7 a,y7 d.symm,y7 c.symm,y7 b.symm,y7 a.symm];exact⟨zd8 _ d c b a,trivial,trivial⟩
theorem qB:∀ (fs:List Fk) (cs ts:List Int),zy (cs,ts) fs=((run wY cs fs).1,ts++(run wY cs fs).2.map Prod.fst)
 | [],cs,ts=>by
  show (cs,ts)=(cs,ts++[])
  rw[JY]
 | f::fs,cs,ts=>by
  unfold zy;rw[ZE];show zy ((wY cs f).1,ts++[(wY cs f).2]) fs=_;rw[qB fs];show (_,ts++[(wY cs f).2]++_)=(_,ts++((wY cs f).2::_));rw[JK];rfl
theorem lE (N:Nt)(cs:List Int):zj N cs=N.ends.map λe=>(run wY cs N.forks).1.getD e 0:=by
 unfold zj zr;rw[qB]
theorem qi (N:Nt)(cs:List Int):zp N cs=(run wY cs N.forks).2.map Prod.fst:=by
 unfold zp zr;rw[qB,Zk]
theorem iR {β:Type}{N N':Nt}{a b:List (β × Fk)}(c:N'.ends=N.ends)(h:Sw a b)(ha:a.map Prod.snd=N.forks)(hb:b.map Prod.snd=N'.forks)(cs:List Int):zj N' cs=zj N cs:=by
 rw[lE,lE,c,<- hb,<- ha,gR pT h]
theorem je {N:Nt}(ok:N.Ok)(cs:List Int):zj (yt N) cs=zj N cs:=iR (N:=N) (N':=yt N) rfl (bY ok) (vt N) rfl cs
def wH (fs:List Fk):List (Nat × Fk):=(List.range fs.length).zip fs
theorem xA (fs:List Fk):(wH fs).map Prod.snd=fs:=List.map_snd_zip (by rw[Y0];exact Je _)
theorem dw {α:Type}(d:α)(l:List (α × Fk)):(wH (l.map Prod.snd)).map (λx=>(((l.map Prod.fst)[x.1]?).getD d,x.2))=l:=by
 apply List.ext_getElem?;intro i;unfold wH;rw[JC]
 cases e:l[i]? with
 | none =>
  have a:=YL.mp e
  rw[YL.mpr (by simp;lia)];rfl
 | some x =>
  have a:=(Ja.mp e).1;have z:((List.range (l.map Prod.snd).length).zip (l.map Prod.snd))[i]?=some (i,x.2):=YK.mpr ⟨by rw[List.getElem?_range (by simpa using a)],by rw[JC,e];rfl⟩;rw[z];show some (((l.map Prod.fst)[i]?).getD d,x.2)=some x;rw[JC,e];rfl
theorem vf {N N':Nt}{b:List (Nat × Fk)}(h:Sw (wH N.forks) b)(hb:b.map Prod.snd=N'.forks)(cs:List Int):zp N' cs=b.map λx=>(zp N cs).getD x.1 0:=by
 have a:=h.map (λi=>((zp N cs)[i]?).getD 0)
 have e:(wH N.forks).map (λx=>(((zp N cs)[x.1]?).getD 0,x.2))=(run wY cs N.forks).2:=by
  have:=dw (0:Int) (run wY cs N.forks).2;rw[wz,<- qi]at this;exact this
 rw[e]at a;have r:=(zcp pT a cs (by rw[wz])).1;rw[qi N' cs,<- hb];have e2:(b.map λx=>(((zp N cs)[x.1]?).getD 0,x.2)).map Prod.snd=b.map Prod.snd:=by rw[YX];rfl
 rw[e2]at r;rw[r,YX];refine Yu (λx _=>?_);exact(J8 ..).symm
theorem zbK {N:Nt}(ok:N.Ok)(g:Nat->Int):zj N ((List.range N.lanes).map g)=N.ends.map (fnF N.forks g):=by
 unfold zj;refine Yu λl d=>?_;have a:l<N.lanes:=Y2.mp (ok.en.mem_iff.mp d);have i:InR N.forks (List.range N.lanes):=λf b=>⟨Y2.mpr (ok.fk f b).1,Y2.mpr (ok.fk f b).2.1⟩;rw[zbI (n:=N.lanes) N.forks _ (by rw[Jb,Y0]) ok.fk l a];refine uh i (λx c=>?_) l (Y2.mpr a);have:=Y2.mp c;rw[J8,JC,List.getElem?_range this];rfl
theorem zb1 {n:Nat}{cs:List Int}(h:cs.length=n):(List.range n).map (λl=>cs.getD l 0)=cs:=by
 refine Zw (by rw[Jb,Y0,h]) λi b a=>?_;rw[We,Ww,J8,J6 a];rfl
theorem mT {m:Nat}(h:m<4)(s t:Int):zj (yt (yc m)) (zP s (2 ^ m)++zP t (2 ^ m))=zP (s+t) (2 ^ (m+1)):=by
 rw[je (uD h)];have le:(2:Nat) ^ (m+1)=2 ^ m+2 ^ m:=by rw[Zd];lia
 have a:(zP s (2 ^ m)++zP t (2 ^ m)).length=2 ^ (m+1):=by rw[Jn,zX,zX,le]
 generalize b:zP s (2 ^ m)++zP t (2 ^ m)=cs at *;have e:=zbK (uD h) λl=>cs.getD l 0;have e2:(List.range (yc m).lanes).map (λl=>cs.getD l 0)=cs:=zb1 a;rw[e2]at e;rw[e];have lt:((List.range (2 ^ (m+1))).take (2 ^ m)).length=2 ^ m:=by rw[JF,Y0];lia
 have ld:((List.range (2 ^ (m+1))).drop (2 ^ m)).length=2 ^ m:=by rw[Zv,Y0];lia
 obtain⟨_,_,f⟩:=vX m _ _ (λl=>cs.getD l 0) lt ld (by rw[Z0];exact List.nodup_range);refine f.trans ?_;rw[List.map_take,List.map_drop,zb1 a,<- b,List.take_left' (zX _ _),List.drop_left' (zX _ _),wP]
end Bn
namespace L2
open PySem PySem.Spec PyProof.Rows Own Bn
def dU:List (Nat × Nat)->List Int->Bool
 | [],_=>true
 | f::fs,xs=>decide ((2:Int) ∣ xs.getD f.1 0+xs.getD f.2 0) && dU fs (zi (xs,[]) f).1
theorem qC {n:Nat}{k:Int}:∀ (fs:List (Nat × Nat)) (cs xs ts:List Int),(∀ f∈fs,f.1<n/\f.2<n)->cs.length=n->xs.length=n->dU fs xs=true->(zy (more cs xs k,ts) fs).2=(zy (cs,ts) fs).2
 | [],j,h,i,_,_,_,_=>rfl
 | f::fs,cs,xs,ts,ok,lc,a,ev=>by
  obtain⟨c,e2⟩:=(Ym _ _).mp ev;obtain⟨e,d⟩:=ok f (.head _);show (zy (zi (more cs xs k,ts) f) fs).2=(zy (zi (cs,ts) f) fs).2;rw[fg (us:=[]) e d lc a (Yn c)];exact qC fs (zi (cs,ts) f).1 (zi (xs,[]) f).1 (zi (cs,ts) f).2 (λg b=>ok g (.tail _ b)) ((yX _ _).trans lc) ((yX _ _).trans a) e2
section
variable {N:Nt}
def vJ (N:Nt)(left:Bool):List Int:=(List.range N.lanes).map λi=>if decide (i<N.lanes / 2)=left then 2 else 0
theorem qh (N:Nt)(b:Bool):(vJ N b).length=N.lanes:=by unfold vJ;rw[Jb,Y0]
theorem nn {b:Bool}{i:Nat}(h:i<N.lanes):(vJ N b).getD i 0=if decide (i<N.lanes / 2)=b then 2 else 0:=by
 unfold vJ;rw[J8,JC,J6 (by rw[Y0];exact h),Ww];rfl
theorem tW (ev:N.lanes%2=0)(m n:Nat){i:Nat}(h:i<N.lanes):(zW N m n).getD i 0=if i<N.lanes / 2 then ((m / (N.lanes / 2):Nat):Int)+(if i<m%(N.lanes / 2) then 1 else 0) else ((n / (N.lanes / 2):Nat):Int)+(if i-N.lanes / 2<n%(N.lanes / 2) then 1 else 0):=by
 unfold zW;have lm:=zX (m:Nat) (N.lanes / 2);by_cases z:i<N.lanes / 2
 ·rw[Jh z,J8,Yd (by simp_all),<- J8,xB z]
 ·rw[Jc z,J8,Y3 (by simp_all),lm,<- J8,xB (by grind)]
theorem ju (ev:N.lanes%2=0)(l2:2<=N.lanes)(m:Nat):(m+N.lanes) / (N.lanes / 2)=m / (N.lanes / 2)+2/\(m+N.lanes)%(N.lanes / 2)=m%(N.lanes / 2):=by
 have e:m+N.lanes=m+N.lanes / 2*2:=by lia
 rw[e];exact⟨Nat.add_mul_div_left _ _ (by lia),Nat.add_mul_mod_self_left _ _ _⟩
theorem e5 (ev:N.lanes%2=0)(l2:2<=N.lanes)(m n:Nat):zW N (m+N.lanes) n=more (zW N m n) (vJ N true) 1:=by
 obtain⟨c,b⟩:=ju ev l2 m;refine xI (by rw[xj,ya ev,ya ev]) λp a=>?_;rw[ya ev]at a;rw[xg (by rw[ya ev];exact a),tW ev _ _ a,tW ev _ _ a,nn a,c,b];by_cases z:p<N.lanes / 2
 ·rw[Jh z,Jh z,Jh (Jy z)];lia
 ·rw[Jc z,Jc z,Jc (λy=>z (Yn y))];simp_all
theorem jZ (ev:N.lanes%2=0)(l2:2<=N.lanes)(m n:Nat):zW N m (n+N.lanes)=more (zW N m n) (vJ N false) 1:=by
 obtain⟨c,b⟩:=ju ev l2 n;refine xI (by rw[xj,ya ev,ya ev]) λp a=>?_;rw[ya ev]at a;rw[xg (by rw[ya ev];exact a),tW ev _ _ a,tW ev _ _ a,nn a,c,b];by_cases z:p<N.lanes / 2
 ·rw[Jh z,Jh z,Jc (show ¬(decide (p<N.lanes / 2)=false) by rw[Jy z];decide)];simp_all
 ·rw[Jc z,Jc z,Jh (show decide (p<N.lanes / 2)=false from Jr z)];lia
structure Mrg (N:Nt):Prop where
 ok:N.Ok
 l2:2<=N.lanes
 ev:N.lanes%2=0
 mg:∀ m n,Merg N m n
 pl:∀ m n,zp N (zW N (m+N.lanes) n)=zp N (zW N m n)
 pr:∀ m n,zp N (zW N m (n+N.lanes))=zp N (zW N m n)
theorem Mrg.of_ev (ok:N.Ok)(l2:2<=N.lanes)(ev:N.lanes%2=0)(mg:∀ m n,Merg N m n)(c:dU N.forks (vJ N true)=true)(er:dU N.forks (vJ N false)=true):Mrg N:=by
 have b:∀ f∈N.forks,f.1<N.lanes/\f.2<N.lanes:=λf a=>⟨(ok.fk f a).1,(ok.fk f a).2.1⟩;refine⟨ok,l2,ev,mg,λm n=>?_,λm n=>?_⟩
 ·rw[e5 ev l2]
  exact qC N.forks _ _ [] b (ya ev m n) (qh N _) c
 ·rw[jZ ev l2]
  exact qC N.forks _ _ [] b (ya ev m n) (qh N _) er
def nF (N:Nt):List KN:=(List.range (N.lanes*N.lanes)).map λx=>stK (zp N (zW N (x / N.lanes) (x%N.lanes))) [((x / N.lanes:Nat):Int),((x%N.lanes:Nat):Int)]
theorem wD {i j:Nat}(hi:i<N.lanes)(a:j<N.lanes):stK (zp N (zW N i j)) [(i:Nat),(j:Nat)]∈nF N:=by
 refine Jx.mpr ⟨i*N.lanes+j,Y2.mpr ?_,?_⟩
 ·have:i*N.lanes+N.lanes<=N.lanes*N.lanes:=by
   rw[<- Nat.succ_mul];exact Nat.mul_le_mul_right _ hi
  lia
 ·have d:(i*N.lanes+j) / N.lanes=i:=by
   rw[Nat.mul_comm,Nat.mul_add_div (by lia),Nat.div_eq_of_lt a,ZC]
  have r:(i*N.lanes+j)%N.lanes=j:=by
   rw[Nat.mul_comm,Nat.mul_add_mod,Nat.mod_eq_of_lt a]
  rw[d,r]
theorem Mrg.shut (M:Mrg N):Shut (yg N) [0,1] (k0M N) (nF N):=by
 have f:=M.l2;refine⟨?_,λs t h _=>?_⟩
 ·have z:=wD (N:=N) (i:=0) (j:=0) (by lia) (by lia)
  rw[pN M.ev]at z;have l:=lZ M.ok (N:=N) [] (λm u=>absurd u Jg) 0 (Je _);have e:zF N=zp N (zL N):=l;rw[<- e]at z;exact z
 ·obtain⟨x,a,rfl⟩:=Jx.mp t
  have a:=Y2.mp a;have hi:x / N.lanes<N.lanes:=Nat.div_lt_of_lt_mul a;have g:x%N.lanes<N.lanes:=Wi _ (by lia);generalize x / N.lanes=i at *;generalize x%N.lanes=j at *;have r:=rT f M.ev i j h;obtain⟨k,b,v⟩:=zda M.ok false (ya M.ev i j) r;have nx:=pO f M.ev i j h;have c:zu (zW N i j) (laneM N i j h) 1=if h=0 then zW N (i+1) j else zW N i (j+1):=nx;rw[show (if false=true then (-1:Int) else 1)=1 from rfl,c]at k b
  have n:passE N (zp N (zW N i j)) (laneM N i j h)<N.lanes:=by
   have:=List.idxOf_lt_length_of_mem (M.ok.en.mem_iff.mpr (Y2.mpr v));rw[M.ok.en.length_eq,Y0]at this;exact this
  have q:zj N (zW N i j)=zP (((i+j:Nat)):Int) N.lanes:=M.mg i j
  have o:zj N (if h=0 then zW N (i+1) j else zW N i (j+1))=zP (((i+j+1:Nat)):Int) N.lanes:=by
   by_cases z:h=0
   ·rw[Jh z,show i+j+1=i+1+j by lia];exact M.mg (i+1) j
   ·rw[Jc z];exact M.mg i (j+1)
  rw[o,q,vR (by lia)]at b;have d:=zX (((i+j:Nat)):Int) N.lanes;have eq:(i+j)%N.lanes=passE N (zp N (zW N i j)) (laneM N i j h):=cC (by rw[d];exact Wi _ (by lia)) (by rw[d];exact n) b;rw[vk,<- eq,Jh (by rw[YA,Int.natCast_add])];have pt:xQ N (zp N (zW N i j)) (laneM N i j h)=zp N (if h=0 then zW N (i+1) j else zW N i (j+1)):=k.symm;rw[pt];by_cases z:h=0
  ·rw[Jh z,Jh z]
   refine⟨_,?_,rfl⟩;by_cases w:i+1<N.lanes
   ·have e:(((i:Nat):Int)+1)%(N.lanes:Nat)=((i+1:Nat):Int):=by rw[Int.emod_eq_of_lt (by lia) (by lia)];rfl
    rw[e];exact wD w g
   ·have e:(((i:Nat):Int)+1)%(N.lanes:Nat)=((0:Nat):Int):=by rw[show ((i:Nat):Int)+1=(N.lanes:Nat) by lia,Int.emod_self];rfl
    have p:=M.pl 0 j;rw[e,show i+1=0+N.lanes by lia,p];exact wD (by lia) g
  ·rw[Jc z,Jc z]
   refine⟨_,?_,rfl⟩;by_cases w:j+1<N.lanes
   ·have e:(((j:Nat):Int)+1)%(N.lanes:Nat)=((j+1:Nat):Int):=by rw[Int.emod_eq_of_lt (by lia) (by lia)];rfl
    rw[e];exact wD hi w
   ·have e:(((j:Nat):Int)+1)%(N.lanes:Nat)=((0:Nat):Int):=by rw[show ((j:Nat):Int)+1=(N.lanes:Nat) by lia,Int.emod_self];rfl
    have p:=M.pr i 0;rw[e,show j+1=0+N.lanes by lia,p];exact wD hi (by lia)
theorem Mrg.slid (M:Mrg N){N':Nt}(a:N'.lanes=N.lanes)(e:N'.ends=N.ends)(ok:N'.Ok){b:List (Nat × Fk)}(h:Sw (wH N.forks) b)(hb:b.map Prod.snd=N'.forks):Mrg N':=by
 have d:∀ m n,zW N' m n=zW N m n:=λm n=>by unfold zW;rw[a]
 have f:∀ c,zj N' c=zj N c:=λc=>iR e h (xA _) hb c;refine⟨ok,by rw[a];exact M.l2,by rw[a];exact M.ev,λm n=>?_,λm n=>?_,λm n=>?_⟩
 ·show zj N' (zW N' m n)=zP _ N'.lanes
  rw[d,f,a];exact M.mg m n
 ·rw[d,d,a,vf h hb,vf h hb,M.pl]
 ·rw[d,d,a,vf h hb,vf h hb,M.pr]
def vL (N:Nt)(at_:Nat):Nt:=⟨N.lanes,N.forks++[(N.ends.getD at_ 0,N.ends.getD (at_+1) 0)],N.ends⟩
theorem tY (ok:N.Ok)(cs:List Int){i:Nat}(h:i<N.lanes):(zr N.forks cs).1.getD (N.ends.getD i 0) 0=(zj N cs).getD i 0:=by
 have a:N.ends.length=N.lanes:=by rw[ok.en.length_eq,Y0]
 unfold zj;rw[J8 (l:=List.map _ _),JC,J6 (by simp_all),J8 (l:=N.ends),J6 (by simp_all)];rfl
theorem lw (t w i:Nat)(h:i+1<w):(zP (t:Nat) w).getD (i+1) 0<=(zP (t:Nat) w).getD i 0/\(zP (t:Nat) w).getD i 0<=(zP (t:Nat) w).getD (i+1) 0+1:=by
 rw[xB h,xB (show i<w by lia)];by_cases z:i+1<t%w
 ·rw[Jh z,Jh (by lia)];lia
 ·rw[Jc z];split<;>lia
theorem n4 {l:List Int}{i:Nat}{v:Int}(e:l.getD i 0=v)(h:i<l.length):l.set i v=l:=by
 refine xI (by rw[YG]) λp a=>?_;rw[YG]at a;rw[yY a];split
 ·rename_i z;rw[<- z,e]
 ·rfl
theorem Mrg.more (M:Mrg N){at_:Nat}(h:at_+1<N.lanes)(few:N.forks.length+1<=128):Mrg (vL N at_):=by
 have ok:=M.ok;have y:N.ends.length=N.lanes:=by rw[ok.en.length_eq,Y0]
 have lt:∀ i,i<N.lanes->N.ends.getD i 0<N.lanes:=λi hi=>by
  rw[J8,J6 (by simp_all)];exact Y2.mp (ok.en.mem_iff.mp (Yf _))
 have k:(vL N at_).Ok:=by
  refine⟨ok.l1,ok.l16,by show (N.forks++[_]).length<=128;rw[Jn];exact few,λf r=>?_,ok.en⟩;rcases Js.mp r with z|z
  ·exact ok.fk f z
  ·rw[Jm.mp z]
   refine⟨lt _ (by lia),lt _ h,λe=>?_⟩;have q:=ok.en.nodup_iff.mpr List.nodup_range;have l:N.ends.getD at_ 0=N.ends.getD (at_+1) 0:=e;rw[J8,J8,J6 (by lia),J6 (by simp_all)]at l;have:=(List.getElem_inj (h₀:=show at_<N.ends.length by lia) (h₁:=show at_+1<N.ends.length by lia) q).mp l;lia
 have j:∀ m n,zr (vL N at_).forks (zW N m n)=((zr N.forks (zW N m n)).1,(zr N.forks (zW N m n)).2++[((zP (((m+n:Nat)):Int) N.lanes).getD at_ 0+(zP (((m+n:Nat)):Int) N.lanes).getD (at_+1) 0)%2]):=λm n=>by
  have g:(zr N.forks (zW N m n)).1.length=N.lanes:=by rw[xt,ya M.ev]
  have a:=tY ok (zW N m n) (show at_<N.lanes by lia);have b:=tY ok (zW N m n) h;rw[show zj N (zW N m n)=zP (((m+n:Nat)):Int) N.lanes from M.mg m n]at a b;obtain⟨w,v⟩:=lw (m+n) N.lanes at_ h;show zr (N.forks++[(N.ends.getD at_ 0,N.ends.getD (at_+1) 0)]) _=_;rw[pS];unfold zi;dsimp only;rw[a,b];have u:((zP (((m+n:Nat)):Int) N.lanes).getD at_ 0+(zP (((m+n:Nat)):Int) N.lanes).getD (at_+1) 0+1) / 2=(zP (((m+n:Nat)):Int) N.lanes).getD at_ 0:=by lia
  have s:((zP (((m+n:Nat)):Int) N.lanes).getD at_ 0+(zP (((m+n:Nat)):Int) N.lanes).getD (at_+1) 0) / 2=(zP (((m+n:Nat)):Int) N.lanes).getD (at_+1) 0:=by lia
  rw[u,s,n4 a (by rw[g];exact lt _ (by lia)),n4 b (by rw[g];exact lt _ h)]
 have x:∀ m n,zW (vL N at_) m n=zW N m n:=λm n=>rfl
 have two:∀ t:Nat,∀ i,i<N.lanes->(zP ((t+N.lanes:Nat):Int) N.lanes).getD i 0=(zP ((t:Nat):Int) N.lanes).getD i 0+1:=λt i hi=>by
  rw[xB hi,xB hi,Nat.add_div_right _ (by lia),Nat.add_mod_right];lia
 have same:∀ m n d c,zp N (zW N m n)=zp N (zW N d c)->m+n=d+c+N.lanes->zp (vL N at_) (zW N m n)=zp (vL N at_) (zW N d c):=λm n d c p e=>by
  have o:(zr N.forks (zW N m n)).2=(zr N.forks (zW N d c)).2:=p;show (zr (vL N at_).forks (zW N m n)).2=(zr (vL N at_).forks (zW N d c)).2;rw[j,j,e,two _ _ (by lia),two _ _ h];dsimp only;rw[o];congr 2;lia
 refine⟨k,M.l2,M.ev,λm n=>?_,λm n=>?_,λm n=>?_⟩
 ·show zj (vL N at_) (zW N m n)=zP _ N.lanes
  rw[<- show zj N (zW N m n)=zP (((m+n:Nat)):Int) N.lanes from M.mg m n];unfold zj;rw[j];rfl
 ·exact same (m+N.lanes) n m n (M.pl m n) (by lia)
 ·exact same m (n+N.lanes) m n (M.pr m n) (by lia)
theorem Mrg.turned (M:Mrg N){N':Nt}{at_:Nat}(h:at_+1<N.lanes)(c:N'.lanes=N.lanes)(f:N'.forks=N.forks)(ok:N'.Ok)(g:N'.ends.getD at_ 0=N.ends.getD (at_+1) 0):¬ Merg N' (at_+1) 0/\¬ Merg N' 0 (at_+1):=by
 have key:∀ m n,m+n=at_+1->¬ Merg N' m n:=λm n e z=>by
  have d:zj N' (zW N' m n)=zP (((m+n:Nat)):Int) N'.lanes:=z;have a:=tY ok (zW N' m n) (show at_<N'.lanes by lia);have b:=tY M.ok (zW N m n) h;have i:zW N' m n=zW N m n:=by unfold zW;rw[c]
  rw[d,g,f,i,b,c,show zj N (zW N m n)=zP (((m+n:Nat)):Int) N.lanes from M.mg m n,xB h,xB (show at_<N.lanes by lia),e,Nat.mod_eq_of_lt h,Jc (by simp_all),Jh (by simp_all)]at a;lia
 exact⟨key _ _ rfl,key _ _ (by lia)⟩
end
theorem qz:∀ k,k<4->dU (yt (yc k)).forks (vJ (yt (yc k)) true)=true/\dU (yt (yc k)).forks (vJ (yt (yc k)) false)=true:=by decide +kernel
theorem fi {k:Nat}(h:k<4):Mrg (yt (yc k)):=by
 have ln:(yt (yc k)).lanes=2 ^ (k+1):=rfl;have p:1<=2 ^ k:=WA;have a:(yt (yc k)).lanes / 2=2 ^ k:=by rw[ln,Zd];simp_all
 refine Mrg.of_ev (bZ (uD h)) (by rw[ln,Zd];lia) (by rw[ln,Zd];simp_all) (λm n=>?_) (qz k h).1 (qz k h).2;show zj _ (zW _ m n)=zP _ (2 ^ (k+1));unfold zW;rw[a,mT h];rfl
theorem zaN {N:Nt}{H:Hp}{b:JI}{k:KN}(ok:OkM N k)(h:NKey H k b):qR H (N.forks.length:Nat) (N.lanes:Nat) (.ref b)=some k:=by
 obtain⟨d,m,n,rfl,p,j,g,f⟩:=ok;obtain⟨t,a,e2⟩:=sO h;replace a:H b=some (.tup [.ref t,.int (m:Nat),.int (n:Nat)]):=a
 have low:∀ r:Nat,r<N.lanes->yw (N.lanes:Nat) (.int (r:Nat))=true:=λr o=>by
  show (decide (0<=((r:Nat):Int)) && decide (((r:Nat):Int)<(N.lanes:Nat)))=true;rw[Jy (by lia),Jy (by lia)];rfl
 have l:yp H (N.forks.length:Nat) 2 (.ref t)=true:=by
  unfold yp;rw[yQ e2];dsimp only;rw[Jy (by rw[Jb];lia),Bool.true_and];refine Yc.mpr λx e=>?_;obtain⟨i,hi,rfl⟩:=Jx.mp e;rcases j i hi with q|q<;>rw[q]<;>rfl
 have c:xR H (N.forks.length:Nat) (N.lanes:Nat) (.ref b)=true:=by
  unfold xR;rw[yQ a];dsimp only;rw[l,low m g,low n f];rfl
 unfold qR;rw[Jh c,yQ a];dsimp only;have:bK H (.ref t)=d:=by unfold bK;rw[yQ e2];exact eW d
 rw[this];rfl
theorem jO {N:Nt}{H:Hp}{bs:List JI}{ks:List KN}(h:KeysAt H bs ks)(ok:∀ k∈ks,OkM N k):(bs.map V.ref).mapM (qR H (N.forks.length:Nat) (N.lanes:Nat))=some ks:=by
 unfold KeysAt at h
 induction h with
 | nil=>rfl
 | cons q _ ih =>
  rw[JR,List.mapM_cons,zaN (ok _ (.head _)) q,ih λk a=>ok k (.tail _ a)];rfl
theorem cA {ks:List KN}{ls:List LvL}(h:BookOf ks ls):ks.Perm (xS ls):=by
 obtain⟨b,rfl,a⟩:=h;unfold xS
 induction a with
 | nil=>exact .refl _
 | cons q _ ih=>rw[W7,List.flatMap_cons];exact q.1.append ih
theorem tH {step:KN->Nat->Option KN}{moves:List Nat}{k0:KN}{most:Nat}:∀ (m:Nat) (level seen:LvL) (ls d:List LvL),k0∈(seen++level).map (·.1)->(∀ s∈seen.map (·.1),∀ v∈moves,∃ t∈(seen++level).map (·.1),step s v=some t)->xS ls=seen.map (·.1)->LvNd (seen++level)->seen.length<=most->yd step moves most m level seen ls=.whl d->Shut step moves k0 (xS d)/\(xS d).Nodup/\(xS d).length<=most
 | 0,_,_,_,_,_,_,_,_,_,e=>by cases e
 | m+1,level,seen,ls,d,l,cl,u,nd,le,e=>by
  by_cases j:level=[]
  ·subst j
   rw[vF]at e;cases e;rw[JY]at l cl nd;rw[u];exact⟨⟨l,cl⟩,nd,by rw[Jb];exact le⟩
  by_cases hm:most<seen.length+level.length
  ·rw[um j hm]at e;cases e
  by_cases f:(xE step (seen++level) moves level).fl=[]
  ·rw[uL j hm f]at e
   have M:=mO (step:=step) (seen:=seen++level) moves level;have W:=tV (step:=step) (seen:=seen++level) (moves:=moves) (Ok:=λ_=>True) level λ_ _ _ _ _ _=>trivial;have i:∀ t,t∈(seen++level).map (·.1)->t∈((seen++level)++(xE step (seen++level) moves level).on).map (·.1):=λt h=>by rw[JE];exact YE _ h
   refine tH m _ _ _ _ (i _ l) (λs r v o=>?_) ?_ ?_ (by rw[Jn];lia) e
   ·rw[JE]at r
    rcases Js.mp r with z|z
    ·obtain⟨t,w,q⟩:=cl s z v o
     exact⟨t,i _ w,q⟩
    ·obtain⟨p,k,rfl⟩:=Jx.mp z
     have n:((p.1,p.2,v):Tri)∈cO moves level:=sJ.mpr ⟨k,o⟩
     cases q:step p.1 v with
     | none =>
      have:=M.fl2 _ n q
      rw[f]at this;cases this
     | some t =>
      refine⟨t,?_,rfl⟩;by_cases y:(yJ (seen++level) t).isSome=true
      ·exact i _ (uF.mp y)
      ·obtain⟨c,g,_⟩:=M.has _ n t q (mo y)
       rw[JE];exact JA _ (uF.mp (by rw[g];rfl))
   ·rw[pI,u,JE]
    congr 1
    show level.map (λp:KN × List Int=>p.1)++[]=level.map (λp:KN × List Int=>p.1);rw[JY]
   ·unfold LvNd
    rw[JE];refine ZK.mpr ⟨nd,W.nd,λa A b x y=>?_⟩;subst y;obtain⟨p,k,rfl⟩:=Jx.mp x;have y:=uF.mpr A;rw[W.new p k]at y;cases y
  ·rw[uo j hm f]at e;cases e
theorem tI {step:KN->Nat->Option KN}{moves:List Nat}{k0:KN}{a:List Int}{most:Nat}{ls:List LvL}(e:yd step moves most (most+1) [(k0,a)] [] []=.whl ls):Shut step moves k0 (xS ls)/\(xS ls).Nodup/\(xS ls).length<=most :=
 tH (most+1) [(k0,a)] [] [] ls (.head _) (λs b=>absurd b Jg) rfl (JJ.mpr ⟨Jg,Zi⟩) (JN _) e
theorem lN {N:Nt}(ok:N.Ok){most:Nat}{ls:List LvL}{H:Hp}{bs:List JI}{ks:List KN}(h:yd (yg N) [0,1] most (most+1) [(k0M N,[0,0])] [] []=.whl ls)(q:OkM N (k0M N))(l:KeysAt H bs ks)(bk:BookOf ks ls):(∀ k∈ks,OkM N k)/\ks.length<=most/\Shut (yg N) [0,1] (k0M N) (xS ls)/\uN (qR H (N.forks.length:Nat) (N.lanes:Nat)) (bs.map V.ref) (k0M N) [0,1] (yg N)=true:=by
 obtain⟨b,j,g⟩:=tI h;have i:=wt (Ok:=OkM N) (moves:=[0,1]) (λs m t os _ e=>vj ok os e) (most+1) _ [] [] ls ⟨λlv d=>absurd d Jg,JN _⟩ rfl (JN _) (λp c=>by rw[Jm.mp c];exact q) h;have pm:=cA bk
 have a:∀ k∈ks,OkM N k:=λk f=>by
  have:=pm.mem_iff.mp f;unfold xS at this;obtain⟨lv,d,z⟩:=List.mem_flatMap.mp this;obtain⟨p,c,rfl⟩:=Jx.mp z;exact i.ok lv d p c
 refine⟨a,by rw[pm.length_eq];exact g,b,?_⟩;rw[dy (jO l a) (pm.nodup_iff.mpr j) λk f m o=>?_]
 ·exact Jy (pm.mem_iff.mpr b.fst)
 ·obtain⟨t,n,e⟩:=b.cls k (pm.mem_iff.mp f) m o
  exact⟨t,e,pm.mem_iff.mpr n⟩
theorem Mrg.whole {N:Nt}(M:Mrg N)(few:N.lanes<=8){most:Nat}(h:64<=most):∃ ls,yd (yg N) [0,1] most (most+1) [(k0M N,[0,0])] [] []=.whl ls:=by
 have b:(nF N).length<=most:=by
  unfold nF;rw[Jb,Y0];exact JS (Nat.mul_le_mul few few) h
 obtain⟨ls,e,_⟩:=sZ M.shut b (most+1) [(k0M N,[0,0])] [] [] (λp a=>by rw[Jm.mp a];exact M.shut.fst) (λp a=>absurd a Jg) (λs c=>absurd c Jg) (JJ.mpr ⟨Jg,Zi⟩) (Je _);exact⟨ls,e⟩
theorem fH {N:Nt}(ok:N.Ok)(l2:2<=N.lanes)(ev:N.lanes%2=0){m n:Nat}(no:¬ Merg N m n){most:Nat}{ls:List LvL}(a:yd (yg N) [0,1] most (most+1) [(k0M N,[0,0])] [] []=.whl ls):False:=no (fq ok l2 ev (tI a).1 m n)
end L2
namespace K65
open PySem L2 Own Bn
abbrev sOf:Stmt:=top 48
abbrev cy:Stmt:=top 49
abbrev oX:Stmt:=top 50
abbrev cv:Stmt:=top 51
def zcc:Sp:=λb H Q _=>∃ (l q:JI) (a:List V),b=[.ref l,.ref q]/\PkAt H l/\q≠l/\H q=some (.lst a)/\0<a.length/\a.length<=100000/\∀ (i:Nat) x H',a[i]?=some x->PkAt H' l->But l H H'->Q x H'
def kF:Sp:=λf H Q _=>∃ r fr e g N,∃ at_:Nat,f=[.ref r,.int (at_:Nat)]/\Nt.Ok N/\NetAt H r fr e g N/\at_+1<N.lanes/\∀ d c b a,Same H a->NetAt a d c e b (vL N at_)->Q (.ref d) a
def sP:Sp:=λf H Q _=>∃ r fr g e N,∃ at_:Nat,f=[.ref r,.int (at_:Nat)]/\Nt.Ok N/\NetAt H r fr g e N/\at_+1<N.lanes/\∀ d c a b,Same H b->NetAt b d fr c e a->Nt.Ok a->a.lanes=N.lanes->a.forks=N.forks->a.ends.getD at_ 0=N.ends.getD (at_+1) 0->Q (.ref d) b
def kC:Sp:=λh H Q _=>∃ (l r fr g:JI) (i:List V) (N:Nt),h=[.ref l,.ref r]/\PkAt H l/\Nt.Ok N/\NetAt H r fr g i N /\
 ∀ e d c f b a,PkAt a l->But l H a->NetAt a e d g c ⟨N.lanes,f,N.ends⟩->Sw (wH N.forks) b->b.map Prod.snd=f->Q (.ref e) a
theorem xL {H:Hp}{a:JI}(_:H a=none)(o:HO):L2.upd H a o a=some o:=zD
theorem vA {a:List Nat}{i:Nat}(h:i<a.length):atI (yG a) ((i:Nat):Int)=some (.int ((a.getD i 0:Nat):Int)):=by
 rw[zbR h,J8,J6 h];rfl
def sG (a:List Nat)(i:Nat):List Nat:=a.take i++[a.getD (i+1) 0,a.getD i 0]++a.drop (i+2)
theorem lY {a:List Nat}{i:Nat}(h:i+1<a.length):(sG a i).Perm a:=by
 have e:a=a.take i++[a.getD i 0,a.getD (i+1) 0]++a.drop (i+2):=by
  have b:a.drop i=a[i]::a.drop (i+1):=Yj (by lia);have e2:a.drop (i+1)=a[i+1]::a.drop (i+2):=Yj (by omega);rw[J8,J8,J6 h,J6 (show i<a.length by lia),JK];show a=a.take i++(a[i]::a[i+1]::a.drop (i+2));rw[<- e2,<- b,Z0]
 conv=>rhs;rw[e]
 unfold sG;exact((List.Perm.swap _ _ []).append_left _).append_right _
theorem cM {a:List Nat}{i:Nat}(h:i+1<a.length):(sG a i).getD i 0=a.getD (i+1) 0:=by
 unfold sG;rw[JK,J8,Y3 (by rw[JF];lia),JF,show i-min i a.length=0 by lia];rfl
section
variable {P:Yo}{w:YI}{K:Jl}{mg:Str->Option Jo}{base:YP}
theorem zec:FnScope ["_law_left_here","_law_some"] ["_law_left_here","_law_some"] (zN sOf):=by trivial
theorem zdE {f i:JI}{fd dK:Yl}(F:Fun K "_law_of" "_law_of" sOf f fd) (G:Mgs mg) (j:Use P w K mg base "_law_pick" ["_law_left_here","_law_many"] 1 uR i dK):FnOk P w K mg base CX0 2 f fd ["_law_left_here","_law_some"] zcc:=by
 refine F.ok zec (λe H Q E h=>?_) (λo A outer s H e Q E g h=>?_)
 ·obtain⟨l,q,a,rfl,_⟩:=h
  rfl
 obtain⟨l,q,a,rfl,S,ne,c,r,p,k⟩:=h;refine⟨_,(zM (zT (zt yT (pvb 1 rfl) (zU j g (zB (pvb 0 rfl) (zB (zV zZ rfl G.len Ys (zB (pvb 1 rfl) zC rfl) (by decide) (by decide) rfl rfl) zC rfl) rfl) rfl rfl rfl rfl) (λ_ _=>rfl)))),?_⟩;refine zA (zA (zA ⟨q,_,rfl,.inl (SqL.of c),l,_,rfl,by simp_all,by lia,S,λv n t m d=>?_⟩));have b:v<a.length:=by simp_all
 exact⟨q,_,_,_,rfl,rfl,SqL.of (d q _ c ne),xa (J6 b),k v _ n (J6 b) m d⟩
theorem zdt:FnScope ["_law_net","_law_at"] ["_law_net","_law_at"] (zN cy):=by trivial
theorem zbe {f:JI}{fd:Yl}(F:Fun K "_law_more" "_law_more" cy f fd) (G:Mgs mg):FnOk P w K mg base CX0 1 f fd ["_law_net","_law_at"] kF:=by
 refine F.ok zdt (λo H Q E h=>?_) (λx A outer s H o Q E z h=>?_)
 ·obtain⟨r,fr,c,q,N,at_,rfl,_⟩:=h
  rfl
 obtain⟨r,fr,c,q,N,at_,rfl,ok,na,B,k⟩:=h;refine⟨_,(zM (zT (yE (zB (zt yF (pvb 0 rfl) zK (λ_ _=>rfl)) (zB (zS w8 (zt yF (pvb 0 rfl) zK (λ_ _=>rfl)) (yE (zB (yE (zB (zt yF (zt yF (pvb 0 rfl) zK (λ_ _=>rfl)) (pvb 1 rfl) (λ_ _=>rfl)) (zB (zt yF (zt yF (pvb 0 rfl) zK (λ_ _=>rfl)) (zS yO (pvb 1 rfl) zK) (λ_ _=>rfl)) zC rfl) rfl)) zC rfl))) (zB (zt yF (pvb 0 rfl) zK (λ_ _=>rfl)) zC rfl) rfl) rfl)))),?_⟩;have C:=ok.fm;have y:=na.prs.len;have D:N.ends.length=N.lanes:=by rw[ok.en.length_eq,Y0]
 refine zA ⟨r,_,_,_,rfl,rfl,SqT.of na.net,rfl,_,rfl,r,_,_,_,rfl,rfl,SqT.of na.net,rfl,?_⟩;refine zA ⟨r,_,_,_,rfl,rfl,SqT.of na.net,rfl,_,rfl,c,_,_,_,rfl,rfl,SqT.of na.ends,vA (by lia),?_⟩;refine zA ⟨r,_,_,_,rfl,rfl,SqT.of na.net,rfl,_,rfl,_,_,rfl,rfl,c,_,_,_,rfl,rfl,SqT.of na.ends,vA (i:=at_+1) (by simp_all),?_⟩;refine⟨by show 2<=sizeLine;decide,λg n=>?_⟩;have j:=zE n (.tup [.int ((N.ends.getD at_ 0:Nat):Int),.int ((N.ends.getD (at_+1) 0:Nat):Int)]);have v:=xL n (.tup [.int ((N.ends.getD at_ 0:Nat):Int),.int ((N.ends.getD (at_+1) 0:Nat):Int)]);refine⟨by show 1<=sizeLine;decide,λt m=>?_⟩;have d:=zE m (.tup [.ref g]);refine⟨fr,t,_,_,rfl,rfl,d _ _ (j _ _ na.forks),xL m _,by rw[JW];show _+1<=_;lia,λl I e u=>?_⟩;have u3:=(j.trans d).trans e;refine zA ⟨r,_,_,_,rfl,rfl,SqT.of (u3 _ _ na.net),rfl,by show 3<=sizeLine;decide,λp b=>?_⟩;have a:=zE b (.tup [.int N.lanes,.ref l,.ref c]);refine k p l _ _ (u3.trans a) ⟨xL b _,a _ _ u,Prs.add (f:=(N.ends.getD at_ 0,N.ends.getD (at_+1) 0)) (a _ _ (e _ _ (d _ _ v))) (na.prs.tups (Tups.of (u3.trans a))),a _ _ (u3 _ _ na.ends)⟩
theorem zbV:FnScope ["_law_net","_law_at","_law_ends"] ["_law_net","_law_at"] (zN oX):=by trivial
theorem gm {f:JI}{fd:Yl}(F:Fun K "_law_turned" "_law_turned" oX f fd) (G:Mgs mg):FnOk P w K mg base CX0 1 f fd ["_law_net","_law_at"] sP:=by
 refine F.ok zbV (λq H Q E h=>?_) (λJ A outer s H q Q E L h=>?_)
 ·obtain⟨r,fr,a,x,N,at_,rfl,_⟩:=h
  rfl
 obtain⟨r,fr,a,x,N,at_,rfl,ok,na,M,k⟩:=h;refine⟨_,(zJ (@zY _ _ 2 _ _ _ _ zbV.nd rfl (.inl rfl) (zt yF (pvb 0 rfl) zK (λ_ _=>rfl)) rfl (by trivial)) (zM (zT (yE (zB (zt yF (pvb 0 rfl) zK (λ_ _=>rfl)) (zB (zt yF (pvb 0 rfl) zK (λ_ _=>rfl)) (zB (zS w8 (zS w8 (xi vp (pvb 2 rfl) xY (y4 (pvb 1 rfl))) (yE (zB (zt yF (pvb 2 rfl) (zS yO (pvb 1 rfl) zK) (λ_ _=>rfl)) (zB (zt yF (pvb 2 rfl) (pvb 1 rfl) (λ_ _=>rfl)) zC rfl) rfl))) (xi vp (pvb 2 rfl) (y4 (zS yO (pvb 1 rfl) zK)) xY)) zC rfl) rfl) rfl))))),?_⟩;have I:=ok.l16;have O:N.ends.length=N.lanes:=by rw[ok.en.length_eq,Y0]
 refine zA ⟨r,_,_,_,rfl,rfl,SqT.of na.net,rfl,?_⟩;refine zA ⟨r,_,_,_,rfl,rfl,SqT.of na.net,rfl,_,rfl,r,_,_,_,rfl,rfl,SqT.of na.net,rfl,?_⟩;refine zA (zA (yM rfl ⟨a,_,rfl,na.ends,λC U g p=>?_⟩));rw[qG _ at_ (by rw[yH];lia)]at p;refine zA (zA ⟨_,_,rfl,rfl,a,_,_,_,rfl,rfl,SqT.of (g _ _ na.ends),vA (i:=at_+1) (by simp_all),?_⟩);refine zA (zA ⟨a,_,_,_,rfl,rfl,SqT.of (g _ _ na.ends),vA (by lia),by show 2<=sizeLine;decide,λB c=>?_⟩);have l:=zE c (.tup [.int ((N.ends.getD (at_+1) 0:Nat):Int),.int ((N.ends.getD at_ 0:Nat):Int)]);refine⟨C,B,_,_,rfl,rfl,l _ _ p,xL c _,?_,λz T u D=>?_⟩
 ·rw[JF,JW];show _+2<=_;lia
 have u3:=(g.trans l).trans u;refine zA (zA ⟨_,_,rfl,rfl,_,rfl,a,_,rfl,u3 _ _ na.ends,λy S j o=>?_⟩);rw[show ((at_:Int)+2)=((at_+2:Nat):Int) from rfl,qH _ (at_+2) (by rw[yH];lia)]at o;refine⟨z,y,_,_,rfl,rfl,j _ _ D,o,?_,λm R t n=>?_⟩
 ·rw[Jn,JF,Zv,yH,JW];show _+2+_<=_;grind
 refine⟨by show 3<=sizeLine;decide,λv b=>?_⟩;have e:=(u3.trans j).trans t;have d:=zE b (.tup [.int N.lanes,.ref fr,.ref m])
 have ne:(yG N.ends).take at_++[V.int ((N.ends.getD (at_+1) 0:Nat):Int),.int ((N.ends.getD at_ 0:Nat):Int)]++(yG N.ends).drop (at_+2)=yG (sG N.ends at_):=by
  unfold yG sG;rw[JE,JE,List.map_take,List.map_drop];rfl
 rw[ne]at n;refine k v m ⟨N.lanes,N.forks,sG N.ends at_⟩ _ (e.trans d) ⟨xL b _,d _ _ (e _ _ na.forks),na.prs.tups (Tups.of (e.trans d)),d _ _ n⟩ ⟨ok.l1,ok.l16,ok.fm,ok.fk,(lY (by lia)).trans ok.en⟩ rfl rfl (cM (by lia))
theorem j4:FnScope ["_law_left_here","_law_net","_law_forks","_law_turn","_law_at"] ["_law_left_here","_law_net"] (zN cv):=by trivial
theorem zbb {f fK:JI}{fd dK:Yl}(F:Fun K "_law_slid" "_law_slid" cv f fd) (G:Mgs mg) (UK:Use P w K mg base "_law_pick" ["_law_left_here","_law_many"] 1 uR fK dK):FnOk P w K mg base CX0 2 f fd ["_law_left_here","_law_net"] kC:=by
 refine F.ok j4 (λvs H Q E h=>?_) (λa6 A outer s H vs Q E hr h=>?_)
 ·obtain⟨l,r,fr,er,C,N,rfl,_⟩:=h
  rfl
 obtain⟨l,r,fr,er,C,N,rfl,S,ok,na,k⟩:=h;refine⟨_,(zJ (@zY _ _ 2 _ _ _ _ j4.nd rfl (.inr rfl) (yK wW (by rfl) G.list rfl (zB (zt yF (pvb 1 rfl) zK (λ_ _=>rfl)) zC rfl) (by decide) (by decide) rfl rfl) rfl (by trivial)) (zJ (x4 YZ rfl (wB (by rfl) G.range (zB (zS vV zK (zV zZ (by rfl) G.len Ys (zB (pvb 2 rfl) zC rfl) (by decide) (by decide) rfl rfl)) zC rfl) rfl) (@zQ _ _ 3 _ j4.nd rfl (.inl rfl) (by trivial)) (zJ (@zY _ _ 4 _ _ _ _ j4.nd rfl (.inr rfl) (zU UK hr (zB (pvb 0 rfl) (zB (zV zZ (by rfl) G.len Ys (zB (pvb 2 rfl) zC rfl) (by decide) (by decide) rfl rfl) zC rfl) rfl) (by rfl) rfl rfl rfl) rfl (by trivial)) (zM (xK (zcv (yN mE (zS yO (pvb 4 rfl) zK) (zV zZ (by rfl) G.len Ys (zB (pvb 2 rfl) zC rfl) (by decide) (by decide) rfl rfl) (yu _)) (zaX (yN (za7 hr.units0) (@rF _ _ _ _ (some _) _ _ _ _ _ _ ["_law_lane","_law_forks","_law_at"] [none,some 2,some 4] rfl (xV (zt yT (pvb 2 rfl) (pvb 4 rfl) (λ_ _=>rfl))) (CapOk.of (by kernel_rfl)) (λ_ _ _ _ _=>(@zQ _ _ 0 _ (show (["_law_lane","_law_forks","_law_at"]:List Str).Nodup from by decide +kernel) rfl (.inl rfl) (.inr rfl))) (λ_ _ _ _ _=>(zaY (@yN _ _ _ _ _ _ _ (rIn K false) qx (pvb 0 rfl) (@zt _ _ _ _ _ _ (zcr K) yT (pvb 1 rfl) (zS yO (pvb 2 rfl) zK) (λ_ _=>rfl)) rfl))) (λ_ _ _ _ _=>(pvb 0 rfl)) (by intro _;rfl)) (x5 zC) (yu _)))).pt (zM (yh (yE (zB (zt yT (pvb 2 rfl) (zS yO (pvb 4 rfl) zK) (λ_ _=>rfl)) (zB (zt yT (pvb 2 rfl) (pvb 4 rfl) (λ_ _=>rfl)) zC rfl) rfl)) (yn rfl (zR (wL (pvb 2 rfl) (pvb 4 rfl) xC (by intro _;rfl)) (zR (wL (pvb 2 rfl) (zS yO (pvb 4 rfl) zK) xC (by intro _;rfl)) yS rfl) rfl) rfl rfl) rfl rfl rfl)) yZ))) (by intro _;rfl)) (zM (zT (yE (zB (zt yF (pvb 1 rfl) zK (λ_ _=>rfl)) (zB (yK yL (by rfl) G.tuple rfl (zB (pvb 2 rfl) zC rfl) (by decide) (by decide) rfl rfl) (zB (zt yF (pvb 1 rfl) zK (λ_ _=>rfl)) zC rfl) rfl) rfl)))))),?_⟩;have fm:=ok.fm;have pl:=na.prs.len;refine zA ⟨r,_,_,_,rfl,rfl,SqT.of na.net,rfl,fr,C,rfl,.inr (SqT.of na.forks),λlf v=>?_⟩;have s1:=zE v (.lst C);have L:=S.ne v;have S1:=S.keep s1;have B1:But l H (L2.upd H lf (.lst C)):=But.of s1;refine zA ⟨lf,C,rfl,.inl (SqL.of (xL v _)),_,_,rfl,rfl,?_⟩;have cm:CMul 3 (C.length:Int):=by unfold CMul;simp_all
 refine⟨cm,((3*C.length:Nat):Int),by rw[Int.natCast_mul];rfl,by lia,by lia,?_⟩;refine vD (lo:=0) (λi σ T=>(∃ v3 v4,σ=[some (.ref l),some (.ref r),some (.ref lf),v3,v4])/\PkAt T l/\But l H T/\∃ d b,T lf=some (.lst d)/\Prs T d (b.map Prod.snd)/\Sw (wH N.forks) b) ⟨⟨_,_,rfl⟩,S1,B1,C,wH N.forks,xL v _,by rw[xA];exact na.prs.tups (Tups.of s1),.refl _⟩ ?_ ?_
 ·rintro i σ T hi ⟨⟨v3,v4,rfl⟩,S3,B3,d,b,f3,pr,sw⟩
  have bl:d.length=N.forks.length:=by rw[pr.len,Jb,sw.perm.length_eq];have:=JP List.length (xA N.forks);rwa [Jb]at this
  refine zA (zA ⟨lf,d,rfl,.inl (SqL.of f3),l,_,rfl,by lia,by lia,S3,λx H4 hx S4 B4=>?_⟩);have U:=B4 _ _ f3 L.symm;have B:=pr.tups (B4.tups S3);have a0:=B3.trans B4;refine zA ⟨_,_,rfl,rfl,_,rfl,lf,d,rfl,.inl (SqL.of U),_,_,rfl,rfl,_,rfl,?_⟩;have pb:d.length=b.length:=by rw[pr.len,Jb]
  by_cases xq:x+1<d.length
  rotate_left
  ·rw[Jr (show ¬((x:Nat):Int)+1<(d.length:Nat) by lia)]
   exact yR (yR ⟨⟨_,_,rfl⟩,S4,a0,d,b,U,B,sw⟩)
  rw[Jy (show ((x:Nat):Int)+1<(d.length:Nat) by lia)];have xb:x+1<b.length:=by simp_all
  obtain⟨pre,u,g,post,eb,a4,bu,bw,bs⟩:=zaM b xb;obtain⟨I,k1,e1,ax,O⟩:=B.get (J6 (show x<d.length by simp_all));obtain⟨D,k2,e2,ao,ak⟩:=B.get (J6 xq);rw[JC,bu]at ax;rw[JC,bw]at ao;obtain rfl:u.2=k1:=Jq ax;obtain rfl:g.2=k2:=Jq ao;have aT:atI d ((x:Nat):Int)=some (.ref I):=xa (by rw[J6 (show x<d.length by grind),e1])
  have at2:atI d ((x:Int)+1)=some (.ref D):=by
   rw[show (x:Int)+1=((x+1:Nat):Int) from rfl];exact xa (by rw[J6 xq,e2])
  refine xH (zA (zA ⟨lf,_,_,_,rfl,rfl,SqL.of U,aT,I,rfl,⟨_,SqT.of O⟩,λlq Z=>?_⟩));refine zbu (K:=K) (a:=I) (xs:=[.int u.2.1,.int u.2.2]) (λj acc σ R=>(∃ v0,σ=[v0,some (.ref lf),some (.int x)])/\Same H4 R/\R lq=some (.lst acc)/\acc=((([u.2.1,u.2.2].take j).filter λh=>decide (h=g.2.1\/h=g.2.2)).map λh=>((h:Nat):Int)).map V.int) ⟨⟨_,rfl⟩,zE Z _,zD,rfl⟩ (λj acc σ R z=>⟨z.2.2.1,SqT.of (z.2.1 _ _ O)⟩) ?_ ?_
  ·rintro j y acc σ R hy ⟨⟨v0,rfl⟩,t,h5,rfl⟩
   have J:=(Ja.mp hy).1;have a5:j<2:=by simpa using J
   have ye:y=.int (([u.2.1,u.2.2][j]'(by simpa using J):Nat)):=by
    have:=(Ja.mp hy).2;rw[<- this];rcases j with _|_|j
    ·rfl
    ·rfl
    ·lia
   subst ye;refine zA (zA (zA ⟨_,_,rfl,rfl,lf,_,_,_,rfl,rfl,SqL.of (t _ _ U),at2,D,_,rfl,.inr (SqT.of (t _ _ ak)),rfl,rfl,?_⟩));refine yM rfl ?_;rw[Jc Jp,zdN];have tk:=JU (l:=[u.2.1,u.2.2]) (i:=j) (by simpa using J);by_cases z:[u.2.1,u.2.2][j]'(by simpa using J)=g.2.1\/[u.2.1,u.2.2][j]'(by simpa using J)=g.2.2
   ·rw[Jy z]
    refine xH (zA ⟨h5,?_,nx J ⟨⟨_,rfl⟩,λc o e=>?_,zD,?_⟩⟩)
    ·rw[Jb,Jb]
     exact Wz (List.length_filter_le _ _) (by rw[JF];exact Wz (Nat.min_le_left _ _) (JG (show j<1000 by lia) (by decide)))
    ·rw[zG (zH e Z)];exact t c o e
    ·rw[tk,List.filter_append,List.filter_cons_of_pos (by exact Jy z),JE,JE];rfl
   ·rw[Jr z]
    refine yR (nx J ⟨⟨_,rfl⟩,t,h5,?_⟩);rw[tk,List.filter_append,List.filter_cons_of_neg (by rw[Jr z];decide),List.filter_nil,JY]
  rintro acc σ R ⟨⟨v0,rfl⟩,t,h5,rfl⟩;refine⟨by show 0<=sizeLine;decide,λl2 ab=>?_⟩;have n:=zE ab (.lst []);refine⟨lq,l2,_,[],rfl,rfl,SqL.of (n _ _ h5),SqL.of (xL ab _),_,rfl,?_⟩;have S6:=(S4.keep t).keep n;have B6:=(a0.trans (But.of t)).trans (But.of n);have f6:=n _ _ (t _ _ U);have W:=(B.tups (Tups.of t)).tups (Tups.of n)
  cases mt:wC u.2 g.2 with
  | true =>
   rw[Jr (λz=>?_)]
   ·exact yR ⟨⟨_,_,rfl⟩,S6,B6,d,b,f6,W,sw⟩
   ·have z':=List.map_eq_nil_iff.mp z
    have q:=List.filter_eq_nil_iff.mp z';have m:decide (u.2.1=g.2.1\/u.2.1=g.2.2) || decide (u.2.2=g.2.1\/u.2.2=g.2.2):=mt
    rcases (Bool.or_eq_true _ _).mp m with y|y
    ·exact q u.2.1 (.head _) y
    ·exact q u.2.2 (.tail _ (.head _)) y
  | false =>
   have m:(decide (u.2.1=g.2.1\/u.2.1=g.2.2) || decide (u.2.2=g.2.1\/u.2.2=g.2.2))=false:=mt;obtain⟨m1,m2⟩:=(Bool.or_eq_false_iff).mp m
   rw[Jy (show List.map _ (List.filter _ (List.take [V.int u.2.1,V.int u.2.2].length [u.2.1,u.2.2]))=[] from List.map_eq_nil_iff.mpr (List.filter_eq_nil_iff.mpr λh hh=>by
    rcases Jf.mp hh with e|hh
    ·rw[e,m1];decide
    ·rw[Jm.mp hh,m2];decide))]
   refine xH (zA (zA ⟨_,_,rfl,rfl,lf,_,_,_,rfl,rfl,SqL.of f6,at2,_,rfl,_,rfl,lf,_,_,_,rfl,rfl,SqL.of f6,aT,(by show 2<=sizeLine;decide),λtp a3=>?_⟩));have p:=zE a3 (.tup [.ref D,.ref I]);have f7:=p _ _ f6;refine⟨tp,_,rfl,SqT.of zD,rfl,_,_,rfl,_,rfl,_,rfl,lf,_,_,x,rfl,rfl,f7,rX (by grind),?_⟩;refine⟨_,_,rfl,_,rfl,_,rfl,_,_,rfl,rfl,lf,_,_,x+1,rfl,rfl,zD,?_,?_⟩
   ·rw[show (x:Int)+1=((x+1:Nat):Int) from rfl]
    exact rX (by rw[YG];omega)
   refine⟨rfl,⟨_,_,rfl⟩,((S6.keep p).upd L).upd L,λc o e ne=>?_,(d.set x (.ref D)).set (x+1) (.ref I),pre++g::u::post,zD,?_,?_⟩
   ·have nc:c≠lf:=zH e v
    rw[zG nc,zG nc];exact p _ _ (B6 c o e ne)
   ·rw[<- bs,List.map_set,List.map_set]
    have p7:=W.tups (Tups.of p);have t8:Tups _ (upd (upd (upd (upd R l2 (.lst [])) tp (.tup [.ref D,.ref I])) lf (.lst (d.set x (.ref D)))) lf (.lst ((d.set x (.ref D)).set (x+1) (.ref I)))):=λc o e=>Tups.lst zD _ _ (Tups.lst f7 _ _ e);exact(Prs.set ⟨I,rfl,p _ _ (n _ _ (t _ _ O))⟩ (x+1) (Prs.set ⟨D,rfl,p _ _ (n _ _ (t _ _ ak))⟩ x p7)).tups t8
   ·rw[eb]at sw
    exact sw.trans (.swap pre u g post mt)
 ·rintro σ T ⟨⟨v3,v4,rfl⟩,S3,B3,d,b,f3,pr,sw⟩
  have M:=na.tups (B3.tups S);refine zA ⟨r,_,_,_,rfl,rfl,SqT.of M.net,rfl,_,rfl,lf,_,rfl,.inl ⟨SqL.of f3,λq1 Y=>?_⟩⟩;have n:=zE Y (.tup d);refine zA ⟨r,_,_,_,rfl,rfl,SqT.of (n _ _ M.net),rfl,(by show 3<=sizeLine;decide),λr' X=>?_⟩;have p:=zE X (.tup [.int N.lanes,.ref q1,.ref er]);exact k r' q1 d (b.map Prod.snd) b _ (S3.keep (n.trans p)) (B3.trans (But.of (n.trans p))) ⟨xL X _,p _ _ (xL Y _),pr.tups (Tups.of (n.trans p)),p _ _ (n _ _ M.ends)⟩ sw rfl
abbrev kM:Stmt:=top 52
def oN:Sp:=λd H Q _=>∃ l:JI,d=[.ref l]/\PkAt H l/\∀ c b fs a,a c=some (.lst b)->Prs a b fs->b.length<=100->c≠l->PkAt a l->But l H a->Q (.ref c) a
theorem nk {m n:Nat}{i:Nat}{x:V}(h:([V.int (m:Nat),V.int (n:Nat)]:List V)[i]?=some x):∃ k:Nat,x=.int (k:Nat):=by
 match i,h with
 | 0,h=>cases h;exact⟨m,rfl⟩
 | 1,h=>cases h;exact⟨n,rfl⟩
theorem j5:FnScope ["_law_left_here","_law_found","_law_turn","_law_far"] ["_law_left_here"] (zN kM):=by trivial
theorem aC {f fK fO:JI}{fd dK dO:Yl}(F:Fun K "_law_pairs" "_law_pairs" kM f fd) (G:Mgs mg) (Y:Use P w K mg base "_law_pick" ["_law_left_here","_law_many"] 1 uR fK dK) (UO:Use P w K mg base "_law_of" ["_law_left_here","_law_some"] 2 zcc fO dO):FnOk P w K mg base CX0 3 f fd ["_law_left_here"] oN:=by
 refine F.ok j5 (λvs H Q E h=>?_) (λa0 A outer s H vs Q E hr h=>?_)
 ·obtain⟨l,rfl,_⟩:=h
  rfl
 obtain⟨l,rfl,S,k⟩:=h;have d:Room 1 _:=hr.mono (by decide);refine⟨_,(zJ (@zY _ _ 1 _ _ _ _ j5.nd rfl (.inl rfl) (x5 (zB (yE (zB zK (zB zK zC rfl) rfl)) (zB (yE (zB zK (zB zK zC rfl) rfl)) (zB (yE (zB zK (zB zK zC rfl) rfl)) zC rfl) rfl) rfl)) rfl (by trivial)) (zJ (x4 YZ rfl (wB rfl G.range (zB zK zC rfl) rfl) (@zQ _ _ 2 _ j5.nd rfl (.inl rfl) (by trivial)) (zJ (@zY _ _ 3 _ _ _ _ j5.nd rfl (.inl rfl) (zS yO (yK qY rfl G.int rfl (zB (zS rK xh (zS iB xh (zU Y d (zB (pvb 0 rfl) (zB zK zC rfl) rfl) rfl rfl rfl rfl))) zC rfl) (by decide) (by decide) rfl rfl) (zU Y d (zB (pvb 0 rfl) (zB zK zC rfl) rfl) rfl rfl rfl rfl)) rfl (by trivial)) (zM (w6 (mD W0 ZT ZU xM (pvb 1 rfl) (zB (yE (zB (zU UO hr (zB (pvb 0 rfl) (zB (x5 (zB (pvb 3 rfl) (zB (zU Y d (zB (pvb 0 rfl) (zB zK zC rfl) rfl) rfl rfl rfl rfl) zC rfl) rfl)) zC rfl) rfl) rfl rfl rfl rfl) (zB (zU UO hr (zB (pvb 0 rfl) (zB (x5 (zB (pvb 3 rfl) (zB (zU Y d (zB (pvb 0 rfl) (zB zK zC rfl) rfl) rfl rfl rfl rfl) zC rfl) rfl)) zC rfl) rfl) rfl rfl rfl rfl) zC rfl) rfl)) zC rfl) rfl rfl rfl rfl rfl) rfl))) (by intro _;rfl)) (zM (zT (pvb 1 rfl))))),?_⟩;refine⟨by show 2<=sizeLine;decide,λV R=>?_⟩;have s1:=zE R (.tup [.int 0,.int 0]);refine⟨by show 2<=sizeLine;decide,λU O=>?_⟩;have X:=zE O (.tup [.int 1,.int 0]);refine⟨by show 2<=sizeLine;decide,λT N=>?_⟩;have L:=zE N (.tup [.int 0,.int 1]);refine⟨by show 3<=sizeLine;decide,λI g=>?_⟩;have W:=zE g (.lst [.ref V,.ref U,.ref T]);have u4:=((s1.trans X).trans L).trans W;have S4:=S.keep u4;have ne:I≠l:=(((((S.keep s1).keep X).keep L).ne g)).symm;have h4:=xL g (.lst [.ref V,.ref U,.ref T]);have q1:=W _ _ (L _ _ (X _ _ (xL R (.tup [.int 0,.int 0]))));have q2:=W _ _ (L _ _ (xL O (.tup [.int 1,.int 0])));have q3:=W _ _ (xL N (.tup [.int 0,.int 1]));have B4:But l H _:=But.of u4;generalize L2.upd _ I (.lst [.ref V,.ref U,.ref T])=H4 at u4 S4 h4 q1 q2 q3 B4;refine yM rfl ⟨by decide,by decide,?_⟩;refine vD (lo:=0) (n:=10) (λi σ p=>(∃ v2 v3,σ=[some (.ref l),some (.ref I),v2,v3])/\PkAt p l/\But l H p/\∃ j fs,p I=some (.lst j)/\Prs p j fs/\j.length<=3+i) ⟨⟨_,_,rfl⟩,S4,B4,_,[(0,0),(1,0),(0,1)],h4,⟨⟨V,rfl,q1⟩,⟨U,rfl,q2⟩,⟨T,rfl,q3⟩,trivial⟩,Je _⟩ ?_ ?_
 ·rintro i σ p hi ⟨⟨v2,v3,rfl⟩,Z,B5,j,fs,h5,pr,xl⟩
  refine zA ⟨l,29,rfl,by decide,by decide,Z,λz H6 hz S6 B6=>?_⟩;refine⟨48,_,rfl,rfl,by lia,by lia,λzs M=>?_⟩;obtain⟨d1,d2,d3⟩:=iI M
  have zl:zs.length=((z:Nat):Int).toNat:=by
   have:=JP List.length M;rw[Ju,Yb]at this;exact this
  refine⟨_,_,rfl,rfl,by rw[zl];exact JS (show 1+((z:Nat):Int).toNat<=100 by lia) (by decide),_,rfl,d1,by lia,by lia,?_⟩;generalize PySem.NumText.digitsVal (("1":Str)++zs).cps.toList=big;refine zA ⟨l,64,rfl,by decide,by decide,S6,λy H7 hy S7 B7=>⟨_,_,rfl,rfl,?_⟩⟩;have t7:=(B6.tups Z).trans (B7.tups S6);have h7:=B7 _ _ (B6 _ _ h5 ne) ne;have b7:=(B5.trans B6).trans B7;refine zA ⟨.inl ⟨rfl,_,SqL.of h7⟩,?_⟩;refine zA (zA (zA ⟨l,40,rfl,by decide,by decide,S7,λu H8 hu S8 B8=>⟨by show 2<=sizeLine;decide,λa1 v=>?_⟩⟩));have J:=zE v (.lst [.int (((big:Nat):Int)+((y:Nat):Int)),.int (u:Nat)]);refine⟨l,a1,_,rfl,S8.keep J,(S8.ne v).symm,xL v _,by show 0<2;decide,by show 2<=100000;decide,λi1 x1 H9 e1 S9 B9=>?_⟩;obtain⟨m,rfl⟩:=nk (m:=big+y) e1;have t9:=(t7.trans (B8.tups S7)).trans ((Tups.of J).trans (B9.tups (S8.keep J)));have h9:=B9 _ _ (J _ _ (B8 _ _ h7 ne)) ne;have b9:=((b7.trans B8).trans (But.of J)).trans B9;refine zA (zA (zA ⟨l,40,rfl,by decide,by decide,S9,λu2 a4 aT B D=>⟨by show 2<=sizeLine;decide,λa2 r=>?_⟩⟩));have a:=zE r (.lst [.int (((big:Nat):Int)+((y:Nat):Int)),.int (u2:Nat)]);refine⟨l,a2,_,rfl,B.keep a,(B.ne r).symm,xL r _,by show 0<2;decide,by show 2<=100000;decide,λi2 x2 a3 e2 ax C=>?_⟩;obtain⟨n,rfl⟩:=nk (m:=big+y) e2;have ab:=(t9.trans (D.tups S9)).trans ((Tups.of a).trans (C.tups (B.keep a)));have ak:=C _ _ (a _ _ (D _ _ h9 ne)) ne;have ao:=((b9.trans D).trans (But.of a)).trans C;refine⟨by show 2<=sizeLine;decide,λt ht=>?_⟩;have c:=zE ht (.tup [.int (m:Nat),.int (n:Nat)]);have x:=c _ _ ak;refine⟨I,j,_,rfl,rfl,x,by rw[JW];lia,⟨_,_,rfl⟩,(ax.keep c).upd ne.symm,λb o e q=>?_,j++[.ref t],fs++[(m,n)],zD,Prs.add (f:=(m,n)) (Tups.lst x _ _ (xL ht _)) (((pr.tups ab).tups (Tups.of c)).tups (Tups.lst x)),?_⟩
  ·rw[zG (λz=>?_)]
   ·exact c _ _ (ao b o e q)
   ·rw[z]at e
    have:=((s1.trans X).trans L) _ _ e;rw[g]at this;cases this
  ·rw[Jn];show _+1<=_;lia
 ·rintro σ p ⟨⟨v2,v3,rfl⟩,Z,B5,j,fs,h5,pr,xl⟩
  exact zA (k I j fs p h5 pr (by lia) ne Z B5)
end
abbrev zcl:Stmt:=top 53
def jy (K:Jl)(Pt Pu:JI):Sp:=λb H Q _=>∃ (a:JI) (ns:List Int),b=[.ref a]/\SqL K H a (ns.map V.int)/\ns.length<=63/\H Pt=some (.tbl #[])/\H Pu=some (.tbl #[])/\∀ c,Q (.bl true) c
def Scr (K:Jl)(a:JI)(xs:List V)(H:Hp):Prop:=H a=some (.lst xs)\/(∃ o,H a=some (.frz o (.lst xs)))\/∀ b,SqL K b a xs
theorem Scr.of {K:Jl}{a:JI}{xs:List V}{H:Hp}(h:SqL K H a xs):Scr K a xs H:=by
 rcases h with (h|h)|h
 ·exact .inl h
 ·exact .inr (.inl h)
 ·exact .inr (.inr λb=>.inr h)
theorem Scr.sq {K:Jl}{a:JI}{xs:List V}{H:Hp}(h:Scr K a xs H):SqL K H a xs:=by
 rcases h with h|h|h
 ·exact .inl (.inl h)
 ·exact .inl (.inr h)
 ·exact h H
theorem Scr.keep {K:Jl}{a:JI}{xs:List V}{H H':Hp}(h:Scr K a xs H)(k:∀ o,H a=some o->(o=.lst xs\/∃ u,o=.frz u (.lst xs))->(∀ H',SqL K H' a xs)\/H' a=some o):Scr K a xs H':=by
 rcases h with h|⟨o,h⟩|h
 ·rcases k _ h (.inl rfl) with z|z
  ·exact .inr (.inr z)
  ·exact .inl z
 ·rcases k _ h (.inr ⟨o,rfl⟩) with z|z
  ·exact .inr (.inr z)
  ·exact .inr (.inl ⟨o,z⟩)
 ·exact .inr (.inr h)
theorem ql {q a:Str}{Pt Pu:JI}{H H':Hp}(t:TabQ q Pu H)(t':TabQ a Pt H)(ne:Pu≠Pt)(b:But Pt H H'):TabQ q Pu H':=by
 obtain⟨l,g,f⟩:=t;obtain⟨_,d,_⟩:=t';exact⟨l,b _ _ g ne,f.frz λc o u e=>b _ _ e (xG e d λz=>by cases z)⟩
structure LE (K:Jl) (a l Pt Pu:JI) (xs:List V) (H:Hp):Prop where
 S:PkAt H l
 tab:TabQ qM Pt H
 tabS:TabQ qS Pu H
 scr:Scr K a xs H
 al:a≠l\/∀ H',SqL K H' a xs
section
variable {K:Jl}{a l Pt Pu:JI}{xs:List V}{H H':Hp}
theorem LE.same (h:LE K a l Pt Pu xs H)(s:Same H H'):LE K a l Pt Pu xs H':=⟨h.S.keep s,h.tab.same s,h.tabS.same s,h.scr.keep λo e _=>.inr (s _ _ e),h.al⟩
theorem LE.pick (h:LE K a l Pt Pu xs H)(d:PkAt H' l)(b:But l H H'):LE K a l Pt Pu xs H':=by
 obtain⟨g,f,c,_⟩:=h.S.ex;refine⟨d,h.tab.but b c,h.tabS.but b c,h.scr.keep λo e _=>?_,h.al⟩;rcases h.al with z|z
 ·exact .inr (b _ _ e z)
 ·exact .inl z
theorem LE.tbl {g:JI}{q:Str}(h:LE K a l Pt Pu xs H)(i:TabQ q g H)(b:But g H H')(t:TabQ qM Pt H')(t':TabQ qS Pu H'):LE K a l Pt Pu xs H':=by
 obtain⟨ls,f,_⟩:=i;obtain⟨x,y,d,r⟩:=h.S.ex;refine⟨⟨x,y,b _ _ d (xG d f λq=>by cases q),r⟩,t,t',h.scr.keep λo e c=>.inr (b _ _ e λq=>?_),h.al⟩;rw[q,f]at e;cases e;rcases c with c|⟨u,c⟩<;>cases c
theorem LE.ver (h:LE K a l Pt Pu xs H)(ne:Pu≠Pt)(t:TabQ qM Pt H')(b:But Pt H H'):LE K a l Pt Pu xs H':=h.tbl h.tab b t (ql h.tabS h.tab ne b)
theorem LE.shw (h:LE K a l Pt Pu xs H)(ne:Pu≠Pt)(t:TabQ qS Pu H')(b:But Pu H H'):LE K a l Pt Pu xs H':=h.tbl h.tabS b (ql h.tab h.tabS ne.symm b) t
theorem sK {q:Str}(t:TabQ q Pt H)(b:But Pt H H'):Tups H H':=λc d e=>by
 obtain⟨ls,a,_⟩:=t;exact b _ _ e (xG e a λq=>by cases q)
theorem jw {q:Str}{c:JI}{ys:List V}(t:TabQ q Pt H)(b:But Pt H H')(e:H c=some (.lst ys)):H' c=some (.lst ys):=by
 obtain⟨ls,a,_⟩:=t;exact b _ _ e (xG e a λq=>by cases q)
end
theorem rM {N:Nt}{m n:Nat}{d:Bool}(h:Merg N m n↔d=true):aX N ((m:Nat):Int) ((n:Nat):Int)=d:=by
 unfold aX;have e:Merg N m n↔zj N (zP ((m:Nat):Int) (N.lanes / 2)++zP ((n:Nat):Int) (N.lanes / 2))=zP (((m:Nat):Int)+((n:Nat):Int)) N.lanes:=Iff.rfl
 cases d with
 | true=>exact Jy (e.mp (h.mpr rfl))
 | false=>exact Jr λz=>absurd (h.mp (e.mpr z)) (by decide)
def MAt (H:Hp)(n:Nat)(x:V):Prop:=∃ r fr b a N,x=.ref r/\NetAt H r fr b a N/\Mrg N/\N.lanes=n
theorem MAt.tups {H H':Hp}{n:Nat}{x:V}(t:Tups H H'):MAt H n x->MAt H' n x
 | ⟨r,fr,er,ps,N,e,na,m⟩=>⟨r,fr,er,ps,N,e,na.tups t,m⟩
theorem jI:∀ k,k<4->(yc k).forks.length+1<=128/\(yc k).lanes=2 ^ (k+1):=by decide +kernel
theorem swR {H:Hp}{p:JI}{N:Nt}{most:Nat}(h:TellW H p (wo N most))(e:∀ ls,wo N most≠.whl ls):∃ s x,H p=some (.tup [.str s,x])/\decide (s = "merges")=false:=by
 cases a:wo N most with
 | opn=>rw[a]at h;exact⟨_,_,h,by decide⟩
 | brk c=>rw[a]at h;obtain⟨b,d,_⟩:=h;exact⟨_,_,d,by decide⟩
 | whl ls=>exact absurd a (e ls)
section
variable {P:Yo}{w:YI}{K:Jl}{mg:Str->Option Jo}{base:YP}
theorem scW:FnScope ["_law_script","_law_k","_law_left_here","_law_net","_law_at","_law_pairs_here","_law_one","_law_word","_law_book","_law_other"] ["_law_script"] (zN zcl):=by trivial
theorem zcH {f fL fK fN fV fP fS fR fT fB fG Pt Pu:JI}{fd dL dK dN dV dP dS dR dT dB dG:Yl}(F:Fun K "law" "law" zcl f fd) (G:Mgs mg) (U:Pt≠Pu) (UL:Use P w K mg base "_law_left" ["_law_script","_law_k"] 2 (kG K) fL dL) (UK:Use P w K mg base "_law_pick" ["_law_left_here","_law_many"] 1 uR fK dK) (UM:Use P w K mg base "merger" ["k"] 7 sS fN dN)
  (UV:Use P w K mg base "merge_verdict" ["net","most"] 8 (oO qM Pt) fV dV) (UP:Use P w K mg base "_law_pairs" ["_law_left_here"] 3 oN fP dP) (US:Use P w K mg base "_law_slid" ["_law_left_here","_law_net"] 2 kC fS dS) (UR:Use P w K mg base "_law_more" ["_law_net","_law_at"] 1 kF fR dR) (UT:Use P w K mg base "_law_turned" ["_law_net","_law_at"] 1 sP fT dT)
  (UB:Use P w K mg base "shows_merge" ["net","thing"] 7 (sQ P w K qS Pu) fB dB) (UG:Use P w K mg base "merges" ["net","m","n"] 3 sR fG dG):FnOk P w K mg base CX0 9 f fd ["_law_script"] (jy K Pu Pt):=by
 refine F.ok scW (λvs H Q E h=>?_) (λdY A outer s H vs Q E hr h=>?_)
 ·obtain⟨a,ns,rfl,_⟩:=h
  rfl
 obtain⟨a,ns,rfl,hS,dt,dp,dr,k⟩:=h;replace U:=U.symm;have tab:TabQ qM Pt H:=⟨[],dr,λp hp=>absurd hp Jg⟩;have tabS:TabQ qS Pu H:=⟨[],dp,λp hp=>absurd hp Jg⟩;have bt:Room 1 _:=hr.mono (by decide);have c3:Room 2 _:=hr.mono (by decide);have bo:Room 3 _:=hr.mono (by decide);have c2:Room 7 _:=hr.mono (by decide);refine⟨_,(zJ (x4 YZ rfl (wB (by rfl) G.range (zB (zV (ur rfl) (by rfl) G.max rfl (zB zK (zB (zV (dk rfl) (by rfl) G.min rfl (zB zK (zB (zV zZ (by rfl) G.len Ys (zB (pvb 0 rfl) zC rfl) (by decide) (by decide) rfl rfl) zC rfl) rfl) (by decide) (by decide) rfl rfl) zC rfl) rfl) (by decide) (by decide) rfl rfl) zC rfl) rfl) (@zQ _ _ 1 _ scW.nd rfl (.inl rfl) (by trivial)) (zJ (@zY _ _ 2 _ _ _ _ scW.nd rfl (.inl rfl) (zU UL c3 (zB (pvb 0 rfl) (zB (pvb 1 rfl) zC rfl) rfl) (by rfl) rfl rfl rfl) rfl (by trivial)) (zJ (@zY _ _ 3 _ _ _ _ scW.nd rfl (.inl rfl) (zU UM c2 (zB (zS yO zK (zU UK bt (zB (pvb 2 rfl) (zB zK zC rfl) rfl) (by rfl) rfl rfl rfl)) zC rfl) (by rfl) rfl rfl rfl) rfl (by trivial)) (zJ (@zY _ _ 4 _ _ _ _ scW.nd rfl (.inl rfl) (zU UK bt (zB (pvb 2 rfl) (zB (zS rJ (zt yF (pvb 3 rfl) zK (λ_ _=>rfl)) zK) zC rfl) rfl) (by rfl) rfl rfl rfl) rfl (by trivial)) (zJ (@zY _ _ 5 _ _ _ _ scW.nd rfl (.inl rfl) (zU UP bo (zB (pvb 2 rfl) zC rfl) (by rfl) rfl rfl rfl) rfl (by trivial)) (zJ (x4 YZ rfl (xV (yE (zB (pvb 3 rfl) (zB (zU US c3 (zB (pvb 2 rfl) (zB (pvb 3 rfl) zC rfl) rfl) (by rfl) rfl rfl rfl) (zB (zU UR bt (zB (pvb 3 rfl) (zB (pvb 4 rfl) zC rfl) rfl) (by rfl) rfl rfl rfl) zC rfl) rfl) rfl))) (@zQ _ _ 6 _ scW.nd rfl (.inr rfl) (by trivial)) (zJ (xK (kg (uc (zV (vG rfl true) (by rfl) G.all rfl (zB (@rF _ _ _ _ none _ _ _ (zbH K 2 (lA (tE 0) (lA (tE 1) zc3))) _ _ ["_law_m","_law_n","_law_one"] [none,none,some 6] rfl (tR (pvb 5 rfl)) (CapOk.of (by kernel_rfl)) (λ_ _ _ _ _=>(yn rfl (zR (@zQ _ _ 0 _ (show (["_law_m","_law_n","_law_one"]:List Str).Nodup from by decide +kernel) rfl (.inl rfl) (.inr rfl)) (zR (@zQ _ _ 1 _ (show (["_law_m","_law_n","_law_one"]:List Str).Nodup from by decide +kernel) rfl (.inl rfl) (.inr rfl)) yS rfl) rfl) rfl rfl)) (λ_ _ _ _ _=>xX) (λ_ _ _ _ _=>(zU UG bo (zB (pvb 2 rfl) (zB (pvb 0 rfl) (zB (pvb 1 rfl) zC rfl) rfl) rfl) (by rfl) rfl rfl rfl)) (by intro _;rfl)) zC rfl) (by decide) (by decide) rfl rfl) (by intro _;rfl))) (zM (zT uA)) yZ) (zM (xK (yN mE (zt yF (pvb 3 rfl) zK (λ_ _=>rfl)) zK (yu _)) (zJ (yh (zU UV hr (zB (pvb 6 rfl) (zB zK zC rfl) rfl) (by rfl) rfl rfl rfl) (yn rfl (zR (@zQ _ _ 7 _ scW.nd rfl (.inl rfl) (by trivial)) (zR (@zQ _ _ 8 _ scW.nd rfl (.inl rfl) (by trivial)) yS rfl) rfl) rfl rfl) rfl rfl rfl) (zM (xK (n8 (yN bn (pvb 7 rfl) xh (yu _)) (o6 (yN za6 (zU UB c2 (zB (pvb 6 rfl) (zB (pvb 8 rfl) zC rfl) rfl) (by rfl) rfl rfl rfl) uA rfl))).pt (zM (zT uA)) yZ))) yZ))) (by intro _;rfl)) (zJ (@zY _ _ 9 _ _ _ _ scW.nd rfl (.inl rfl) (zU UT bt (zB (pvb 3 rfl) (zB (pvb 4 rfl) zC rfl) rfl) (by rfl) rfl rfl rfl) rfl (by trivial)) (zM (xK (n8 (yN mF (zt yF (zU UV hr (zB (pvb 9 rfl) (zB zK zC rfl) rfl) (by rfl) rfl rfl rfl) zK (λ_ _=>rfl)) xh (yu _)) (n8 (uc (zU UG bo (zB (pvb 9 rfl) (zB (zS yO (pvb 4 rfl) zK) (zB zK zC rfl) rfl) rfl) (by rfl) rfl rfl rfl) (by intro _;rfl)) (o6 (uc (zU UG bo (zB (pvb 9 rfl) (zB zK (zB (zS yO (pvb 4 rfl) zK) zC rfl) rfl) rfl) (by rfl) rfl rfl rfl) (by intro _;rfl))))).pt (zM (zT uA)) yZ)))))))) (by intro _;rfl)) (zM (zT uA))),?_⟩;refine zA ⟨a,_,rfl,.inl hS,_,_,rfl,_,_,rfl,_,rfl,?_,?_,?_⟩
 ·split<;>split<;>simp_all
 ·rw[Jb];split<;>split<;>lia
 refine vD (lo:=0) (λi σ H2=>(∃ v1 v2 v3 v4 v5 v6 v7 v8 v9,σ=[some (.ref a),v1,v2,v3,v4,v5,v6,v7,v8,v9])/\Scr K a (ns.map V.int) H2/\TabQ qM Pt H2/\TabQ qS Pu H2) ⟨⟨_,_,_,_,_,_,_,_,_,rfl⟩,Scr.of hS,tab,tabS⟩ ?_ (λσ H2 _=>k H2);rintro i σ H2 hi ⟨⟨v1,v2,v3,v4,v5,v6,v7,v8,v9,rfl⟩,a9,tab,tabS⟩
 have ib:i<31:=by
  have:(if (if ((ns.map V.int).length:Int)<4 then ((ns.map V.int).length:Int) else 4) > 1 then (if ((ns.map V.int).length:Int)<4 then ((ns.map V.int).length:Int) else 4) else 1)<=30:=by split<;>split<;>lia
  omega
 clear hi;refine zA (zA ⟨a,ns,_,rfl,a9.sq,dt,by simp_all,by lia,λl H3 hl s3 S3=>?_⟩)
 have bS:LE K a l Pt Pu (ns.map V.int) H3:=⟨S3,tab.same s3,tabS.same s3,a9.keep λo e _=>.inr (s3 _ _ e),by
  rcases a9 with z|⟨o,z⟩|z
  ·exact .inl (zH z hl)
  ·exact .inl (zH z hl)
  ·exact .inr z⟩
 clear a9 tab tabS s3 hl S3;refine zA ⟨l,4,rfl,by decide,by decide,bS.S,λkk H4 hk S4 B4=>⟨_,_,rfl,rfl,?_⟩⟩;have c1:=bS.pick S4 B4;have k4:kk<4:=by lia
 refine⟨kk,JP (λz=>[V.int z]) (show (1:Int)+(kk:Nat)=((kk+1:Nat):Int) by lia),k4,λr fr er ps H5 s5 ba=>?_⟩;have bc:=c1.same s5;have M:=fi k4;have c6:(yt (yc kk)).forks.length+1<=128:=by rw[kh];exact(jI kk k4).1
 generalize yt (yc kk)=N at M c6 ba;have ok:=M.ok;have l2:=M.l2;have dF:=ok.l16;refine zA (zA ⟨r,_,_,_,rfl,rfl,SqT.of ba.net,rfl,_,_,rfl,rfl,l,_,rfl,by lia,by lia,bc.S,λat_ H6 dM S6 B6=>?_⟩);have c0:=bc.pick S6 B6;have cz:=ba.tups (B6.tups bc.S);have ha:at_+1<N.lanes:=by lia
 refine zA ⟨l,rfl,S6,λlp xs fs H7 h7 pr xl ne S7 B7=>?_⟩;have cP:=c0.pick S7 B7;have bx:=cz.tups (B7.tups S6);refine zA (zA (zA ⟨l,r,fr,er,ps,N,rfl,S7,ok,bx,λR dW dD gs b H8 S8 B8 cx sw hb=>?_⟩));have cI:=cP.pick S8 B8;have t8:=B8.tups S7;have X:=bx.tups t8;have h8:=B8 _ _ h7 ne
 have M2:Mrg ⟨N.lanes,gs,N.ends⟩:=M.slid rfl rfl ⟨ok.l1,ok.l16,by show gs.length<=128;rw[<- hb,Jb,sw.perm.length_eq];have:=JP List.length (xA N.forks);rw[Jb]at this;rw[this];exact ok.fm,λf hf=>by
  have z:f∈gs:=hf;rw[<- hb]at z;obtain⟨y,hy,rfl⟩:=Jx.mp z;have:=Jx.mpr ⟨y,sw.perm.mem_iff.mp hy,(rfl:Prod.snd y=Prod.snd y)⟩;rw[xA]at this
  exact ok.fk _ this,ok.en⟩ sw hb
 refine zA (zA ⟨r,fr,er,ps,N,at_,rfl,ok,X,ha,λO dO dC H9 s9 ct=>?_⟩);have M3:=M.more ha c6;refine⟨by show 3<=sizeLine;decide,λt0 b0=>?_⟩;have B:=zE b0 (.tup [.ref r,.ref R,.ref O]);have b2:=xL b0 (.tup [.ref r,.ref R,.ref O]);have a5:=(cI.same s9).same B;have a0:=(X.tups (Tups.of s9)).tups (Tups.of B)
 have aT:∀ x∈[V.ref r,.ref R,.ref O],MAt (L2.upd H9 t0 (.tup [.ref r,.ref R,.ref O])) N.lanes x:=λx hx=>by
  simp only[Jg,Y5,Jf]at hx;rcases hx with rfl|rfl|rfl
  ·exact⟨_,_,_,_,N,rfl,a0,M,rfl⟩
  ·exact⟨_,_,_,_,_,rfl,(cx.tups (Tups.of s9)).tups (Tups.of B),M2,rfl⟩
  ·exact⟨_,_,_,_,_,rfl,ct.tups (Tups.of B),M3,rfl⟩
 have ck:L2.upd H9 t0 (.tup [.ref r,.ref R,.ref O]) lp=some (.lst xs)/\Prs (L2.upd H9 t0 (.tup [.ref r,.ref R,.ref O])) xs fs:=⟨B _ _ (s9 _ _ h8),((pr.tups t8).tups (Tups.of s9)).tups (Tups.of B)⟩;generalize L2.upd H9 t0 (.tup [.ref r,.ref R,.ref O])=H10 at b2 a5 a0 aT ck;clear bS c1 bc c0 cP cI ba cz bx cx X ct s5 s9 B B4 B6 B7 B8 S4 S6 S7 S8 t8 h7 h8 pr b0 M2 M3 sw hb;obtain⟨cb,pr⟩:=ck;refine⟨t0,rfl,⟨_,SqT.of b2⟩,?_⟩;refine tX (K:=K) (a:=t0) (xs:=[.ref r,.ref R,.ref O]) (λj σ u=>(∃ v6 v7 v8 v9,σ=[some (.ref a),some (.int (0+(i:Nat))),some (.ref l),some (.ref r),some (.int (at_:Nat)),some (.ref lp),v6,v7,v8,v9])/\LE K a l Pt Pu (ns.map V.int) u/\NetAt u r fr er ps N/\u t0=some (.tup [.ref r,.ref R,.ref O])/\u lp=some (.lst xs)/\Prs u xs fs/\∀ x∈[V.ref r,.ref R,.ref O],MAt u N.lanes x) ⟨⟨_,_,_,_,rfl⟩,a5,a0,b2,cb,pr,aT⟩ (λj σ u _ q=>SqT.of q.2.2.2.1) ?_ ?_
 ·rintro j x σ u hx ⟨⟨v6,v7,v8,v9,rfl⟩,a4,Z,c5,I,W,ax⟩
  obtain⟨r',b3,b6,bw,N',rfl,cH,M',dE⟩:=ax x (JM hx);have J:=M'.ok;have b4:=M'.ev;refine zA ⟨lp,rfl,⟨_,SqL.of I⟩,λlq c4=>?_⟩;refine iJ (K:=K) (a:=lp) (xs:=xs) (λm acc σ C=>(∃ v0 v1,σ=[v0,v1,some (.ref r')])/\Same u C/\C lq=some (.lst acc)/\acc=(List.replicate m true).map V.bl) ⟨⟨_,_,rfl⟩,zE c4 _,zD,rfl⟩ (λm acc σ C q=>⟨q.2.2.1,SqL.of (q.2.1 _ _ I)⟩) ?_ ?_
  ·rintro m y acc σ C hy ⟨⟨v0,v1,rfl⟩,n,b1,rfl⟩
   obtain⟨c,g,rfl,eg,hc⟩:=(W.tups (Tups.of n)).get hy;have ml:=(Ja.mp hy).1;refine⟨c,_,rfl,SqT.of hc,rfl,_,_,rfl,_,_,rfl,rfl,?_⟩;refine zA (zA (zA ⟨r',b3,b6,bw,N',_,_,rfl,J,cH.tups (Tups.of n),b4,λc8 cf=>?_⟩));rw[rM (d:=true) ⟨λ_=>rfl,λ_=>M'.mg g.1 g.2⟩];refine⟨cf _ _ b1,?_,nx ml ⟨⟨_,_,rfl⟩,λb o e=>?_,zD,?_⟩⟩
   ·rw[Jb,Yb];exact JG (show m<1000 by lia) (by decide)
   ·rw[zG (zH e c4)];exact cf _ _ (n b o e)
   ·rw[List.replicate_succ',JE];rfl
  rintro acc σ C ⟨⟨v0,v1,rfl⟩,n,b1,rfl⟩;refine⟨lq,List.replicate xs.length true,rfl,SqL.of b1,_,rfl,?_⟩;have e0:(List.replicate xs.length true).all id=true:=Yc.mpr λx hx=>ZS hx;rw[e0];refine yR ?_;have t:=a4.same n;have Y:=Z.tups (Tups.of n);have ak:=cH.tups (Tups.of n);have ao:∀ x∈[V.ref r,.ref R,.ref O],MAt C N.lanes x:=λx hx=>(ax x hx).tups (Tups.of n);refine zA ⟨r,_,_,_,rfl,rfl,SqT.of Y.net,rfl,_,_,rfl,rfl,_,rfl,?_⟩;by_cases c9:N.lanes<9
  rotate_left
  ·rw[Jr (by grind)]
   exact yR ⟨⟨_,_,_,_,rfl⟩,t,Y,n _ _ c5,n _ _ I,W.tups (Tups.of n),ao⟩
  rw[Jy (show ((N.lanes:Nat):Int)<9 by grind)];refine xH (zA ⟨r',b3,b6,bw,N',4000,rfl,J,b4,ak,by decide,by decide,t.tab,λp c8 L D tell=>?_⟩);obtain⟨ls,c7⟩:=M'.whole (by grind) (most:=4000) (by decide);rw[show wo N' 4000=.whl ls from c7]at tell;obtain⟨b,bs,ks,hp,hb,ka,bk⟩:=tell;have v:=t.ver U D L;have S:=sK t.tab L;obtain⟨dj,kl,_,good⟩:=lN J c7 (ue J) ka bk;have a7:=ak.tups S;have b8:=jw t.tab L (n _ _ I);refine⟨p,_,rfl,SqT.of hp,rfl,_,_,rfl,_,_,rfl,rfl,?_⟩;refine zA ⟨rfl,false,JP V.bl (by decide),yR ?_⟩;have bl:bs.length=ks.length:=YR ka;refine zA (zA ⟨r',b3,b6,bw,N',.ref b,rfl,J,b4,a7,.inl (.inr ⟨b,rfl,.inl ⟨_,hb⟩⟩),λys e=>?_,v.tabS,λdA b7 a6=>?_⟩)
  ·rw[yQ hb]at e
   obtain rfl:=Jq e;refine⟨by rw[Jb];lia,λy hy=>?_⟩;obtain⟨d,dm,rfl⟩:=Jx.mp hy;obtain⟨kn,hk,kb⟩:=ka.mem d dm;exact(Dp.knot J (dj kn hk) kb).k
  rw[yQ hb];dsimp only;rw[good];have a8:=sK v.tabS b7;have b9:=v.shw U a6 b7;refine⟨_,_,rfl,rfl,_,rfl,yR ⟨⟨_,_,_,_,rfl⟩,b9,(Y.tups S).tups a8,a8 _ _ (S _ _ (n _ _ c5)),jw v.tabS b7 b8,(((W.tups (Tups.of n)).tups S).tups a8),λx hx=>((ao x hx).tups S).tups a8⟩⟩
 rintro σ u ⟨⟨v6,v7,v8,v9,rfl⟩,a4,Z,_,_,_,_⟩;refine zA (zA ⟨r,fr,er,ps,N,at_,rfl,ok,Z,ha,λro b5 No C n cn T bB dx dz=>?_⟩);obtain⟨cm,dn⟩:=M.turned ha bB dx T dz;have bu:No.lanes%2=0:=by rw[bB];exact M.ev
 have t:=a4.same n;refine zA ⟨ro,fr,b5,ps,No,4000,rfl,T,bu,cn,by decide,by decide,t.tab,λp c8 L D tell=>?_⟩;obtain⟨sw,x,hp,hs⟩:=swR tell λls e=>fH T (by rw[bB];exact l2) bu cm e;have v:=t.ver U D L;have ab:=cn.tups (sK t.tab L);refine⟨p,_,_,_,rfl,rfl,SqT.of hp,rfl,rfl,false,JP V.bl ?_,yR ?_⟩
 ·exact Jr λz=>absurd (V.str.inj z) (of_decide_eq_false hs)
 refine zA (zA ⟨_,_,rfl,rfl,ro,fr,b5,ps,No,((at_+1:Nat):Int),((0:Nat):Int),rfl,T,ab,bu,λdA cc=>?_⟩);rw[rM (d:=false) ⟨λz=>absurd z cm,λz=>absurd z (by decide)⟩];refine yM rfl (yR ?_);refine zA (zA ⟨_,_,rfl,rfl,ro,fr,b5,ps,No,((0:Nat):Int),((at_+1:Nat):Int),rfl,T,ab.tups (Tups.of cc),bu,λd0 dd=>?_⟩);rw[rM (d:=false) ⟨λz=>absurd z dn,λz=>absurd z (by decide)⟩];have a3:=(v.same cc).same dd;exact yM rfl (yR ⟨⟨_,_,_,_,_,_,_,_,_,rfl⟩,a3.scr,a3.tab,a3.tabS⟩)
end
structure FnAt (K:Jl) (x:Str) (st:Stmt) (f:JI) (fd:Yl):Prop where
 ns:PySem.W.nsIn K mainGlobals x=some (some (.ref f))
 fn:Fun K x x st f fd
theorem yI {K:Jl}{x:Str}{st:Stmt}{f:JI}{oc:Jo}{od an:Option JI}{osl:Array (Option Jo)}{kV doc pm cdv ct:Jo}(a:PySem.W.nsIn K mainGlobals x=some (some (.ref f)))(l:K.lookup f=some ⟨oc,od,.func (PySem.W.fnOf x x (xZ st) (yo st) (zN st) .none kV doc pm an cdv ct),osl⟩)(c:PySem.W.codeIn K cdv x=true)(k:PySem.W.keepIn K (.ref f)=true):FnAt K x st f (PySem.W.fnOf x x (xZ st) (yo st) (zN st) .none kV doc pm an cdv ct):=⟨a,zc4 l c k⟩
structure FnAtC (K:Jl) (x:Str) (st:Stmt) (f:JI) (fd:Yl) (c:JI):Prop where
 ns:PySem.W.nsIn K mainGlobals x=some (some (.ref f))
 fn:FunC K x x st f fd c
theorem zaf {K:Jl}{x:Str}{st:Stmt}{f c:JI}{oc:Jo}{od an:Option JI}{osl:Array (Option Jo)}{kV doc pm ct:Jo}(a:PySem.W.nsIn K mainGlobals x=some (some (.ref f)))(l:K.lookup f=some ⟨oc,od,.func (PySem.W.fnOf x x (xZ st) (yo st) (zN st) .none kV doc pm an (.ref c) ct),osl⟩)(cd:PySem.W.codeIn K (.ref c) x=true)(k:PySem.W.keepIn K (.ref f)=true):FnAtC K x st f (PySem.W.fnOf x x (xZ st) (yo st) (zN st) .none kV doc pm an (.ref c) ct) c:=⟨a,⟨⟨_,_,_,_,_,_,_,_,rfl,l,cd⟩,k⟩⟩
theorem _root_.L2.FunC.fun {K:Jl}{x qual:Str}{st:Stmt}{f:JI}{fd:Yl}{c:JI}(F:FunC K x qual st f fd c):Fun K x qual st f fd:=by
 obtain⟨d,b,kV,doc,pm,an,g,a,e,l,q⟩:=F.ex;exact⟨⟨d,b,kV,doc,pm,an,.ref c,g,a,e,l,q⟩,F.kp⟩
theorem zde {K:Jl}{p q:JI}(a:K.lookup p=none/\∃ c,PySem.W.codeHdIn K c p=true)(b:K.lookup q=none/\∃ c,PySem.W.codeHdIn K c q=true):∀ x∈[p,q],K.lookup x=none/\∃ c,PySem.W.codeHdIn K c x=true:=λx d=>by
 rcases Jf.mp d with rfl|d
 ·exact a
 ·rw[Jm.mp d];exact b
theorem pU {K:Jl}{c P:JI}{od:Option JI}{vs:Array Jo}{osl:Array (Option Jo)}(l:K.lookup c=some ⟨.type "code",od,.fields vs,osl⟩) (e:PySem.W.codeHdIn [(c,⟨.type "code",od,.fields vs,osl⟩)] c P=true):PySem.W.codeHdIn K c P=true:=by
 have q:List.lookup c [(c,(⟨.type "code",od,.fields vs,osl⟩:Obj))]=some ⟨.type "code",od,.fields vs,osl⟩:=by rw[YH,Wf]
 unfold PySem.W.codeHdIn at e ⊢;rw[q]at e;rw[l];exact e
theorem us1 {us:List Jo}(h:us.length=1):∃ a,us=[a]:=by
 match us,h with
 | [a],_=>exact⟨a,rfl⟩
theorem us2 {us:List Jo}(h:us.length=2):∃ b a,us=[b,a]:=by
 match us,h with
 | [b,a],_=>exact⟨b,a,rfl⟩
theorem us3 {us:List Jo}(h:us.length=3):∃ c b a,us=[c,b,a]:=by
 match us,h with
 | [c,b,a],_=>exact⟨c,b,a,rfl⟩
theorem us4 {us:List Jo}(h:us.length=4):∃ c b a u3,us=[c,b,a,u3]:=by
 match us,h with
 | [c,b,a,u3],_=>exact⟨c,b,a,u3,rfl⟩
theorem us5 {us:List Jo}(h:us.length=5):∃ d c b u3 a,us=[d,c,b,u3,a]:=by
 match us,h with
 | [d,c,b,u3,a],_=>exact⟨d,c,b,u3,a,rfl⟩
set_option maxHeartbeats 4000001 in
theorem zdb {l:PySem.W.OpenLaw}{w:YI}{K:Jl}{h:YP}{mg:Str->Option Jo}{fa f1 f2 f3 f4 f5 f6 f7 f8 f9 c0 cP cz cx cn cm ck cf cc cb b0 bS bx bw bu bt bo bl bc ba a9 a8 fA a7 a6 a5 a4 a3 a0 aT ax fy:JI}{d1 d2 d3 d4 d5 d6 d7 d8 d9 dS dR dP dO dM dK dG dF dE dD dC dB dA dz dx dt dr dp dn dm dj dd fC c9 c8 c7 c6 c5 c4 c3 c2 c1:Yl}(X:K.In h) (G:h.Ns mainGlobals mg) (fx:mg "law" = some (.ref fa))
  {g Pt i Pu:JI}
  (A1:FnAt K "is_whole" kJ f1 d1)
  (A2:FnAt K "is_below" kS f2 d2)
  (A3:FnAt K "is_row" kO f3 d3)
  (A4:FnAt K "are_below" uV f4 d4)
  (A5:FnAt K "_law_cell_at" bD f5 d5)
  (A6:FnAt K "_law_left" bA f6 d6)
  (A7:FnAt K "_law_pick" cw f7 d7)
  (A8:FnAt K "_law_of" sOf f8 d8)
  (A9:FnAt K "layers" oh f9 d9)
  (W:FnAt K "plain" kL c0 dS)
  (V:FnAt K "power_of_two" zcj cP dR)
  (U:FnAt K "row_of" kK cz dP)
  (T:FnAt K "net_of" sk cx dO)
  (S:FnAt K "by_turns" sBy cn dM)
  (R:FnAt K "merger_of" wg cm dK)
  (Q:FnAt K "merger" oe ck dG)
  (P:FnAt K "flowed" om cf dF)
  (O:FnAt K "ends_of" bC cc dE)
  (N:FnAt K "stair_of" cu cb dD)
  (L:FnAt K "is_stair" sv b0 dC)
  (J:FnAt K "merges" oZ bS dB)
  (I:FnAt K "end_of" zcn bx dA)
  (H:FnAt K "run_through" zci bw dz)
  (F:FnAt K "passed" oY bu dx)
  (E:FnAt K "given_at" kR bt dt)
  (D:FnAt K "added" kT bo dr)
  (C:FnAt K "first_turns" oq bl dp)
  (B:FnAt K "first_knot" ot bc dn)
  (A:FnAt K "knot_behind" kN ba dm)
  (z:FnAt K "next_level" zck a9 dj)
  (y:FnAt K "climbed" zco a8 dd)
  (x:FnAt K "book_of" bE fA fC)
  (u:FnAtC K "merge_verdict" su a7 c9 i)
  (t:FnAt K "is_knot" oi a6 c8)
  (r:FnAt K "is_book" oj a5 c7)
  (q:FnAtC K "shows_merge" wI a4 c6 g)
  (o:FnAt K "_law_more" cy a3 c5)
  (n:FnAt K "_law_turned" oX a0 c4)
  (m:FnAt K "_law_slid" cv aT c3)
  (k:FnAt K "_law_pairs" kM ax c2)
  (Z:FnAt K "law" zcl fy c1)
  (z1:PySem.W.nsIn K mainGlobals "len" = some none)
  (z2:PySem.W.nsIn K mainGlobals "range" = some none)
  (z3:PySem.W.nsIn K mainGlobals "tuple" = some none)
  (z4:PySem.W.nsIn K mainGlobals "enumerate" = some none)
  (z5:PySem.W.nsIn K mainGlobals "abs" = some none)
  (z6:PySem.W.nsIn K mainGlobals "zip" = some none)
  (z7:PySem.W.nsIn K mainGlobals "isinstance" = some none)
  (z8:PySem.W.nsIn K mainGlobals "all" = some none)
  (z9:PySem.W.nsIn K mainGlobals "sum" = some none)
  (eh:PySem.W.nsIn K mainGlobals "bool" = some none)
  (eg:PySem.W.nsIn K mainGlobals "int" = some none)
  (ef:PySem.W.nsIn K mainGlobals "str" = some none)
  (ee:PySem.W.nsIn K mainGlobals "max" = some none)
  (ec:PySem.W.nsIn K mainGlobals "min" = some none)
  (eb:PySem.W.nsIn K mainGlobals "sorted" = some none)
  (ea:PySem.W.nsIn K mainGlobals "list" = some none)
  {Y:JI}{fv ft:Tok}{ei:Array (Option Jo)}{ek:Nat}{fB:Option JI}(d0:PySem.W.nsIn K mainGlobals "HALVES" = some (some (.ref Y))) (fp:K.lookup Y=some ⟨.type "tuple",fB,.seq #[.int 0 fv,.int 1 ft] ek,ei⟩)
  (cH:PySem.W.codeHdIn K g Pt=true) (en:mainGlobals≠Pt) (kP:K.lookup Pt=none) (cI:PySem.W.codeHdIn K i Pu=true) (el:mainGlobals≠Pu) (kQ:K.lookup Pu=none) (ej:Pu≠Pt)
  (zd:PySem.W.nsIn K cStatics "sys.int_max_str_digits" = some none)
  : (∀ p∈[Pt,Pu],K.lookup p=none/\∃ c,PySem.W.codeHdIn K c p=true)/\∃ fd:Yl,(∀ (s:JO) (v:Jo),BindsTo s fd ⟨[v],[]⟩ [("_law_script",v)])/\∀ base:YP,K.In base->base.Ns mainGlobals mg->(∀ p∈[Pt,Pu],base.BuiltinsAt mg p)->FnOk l.prog w K mg base CX0 9 fa fd ["_law_script"] (jy K Pt Pu):=by
 have e:=fx.symm.trans (JH X G Z.ns);cases e;have M:Mgs mg:=⟨Yg X G z1,Yg X G z2,Yg X G z3,Yg X G z4,Yg X G z5,Yg X G z6,Yg X G z7,Yg X G z8,Yg X G z9,Yg X G eh,Yg X G eg,Yg X G ef,Yg X G ee,Yg X G ec,Yg X G eb,Yg X G ea⟩;have b1:=A1.fn.binds (ps:=["thing"]) λ_ _ _ _ _ _ b a=>by obtain⟨d,rfl⟩:=us1 a;rfl
 have m1:=JH X G A1.ns;have b2:=A2.fn.binds (ps:=["thing","bound"]) λ_ _ _ _ _ _ b a=>by obtain⟨d,f,rfl⟩:=us2 a;rfl
 have m2:=JH X G A2.ns;have b3:=A3.fn.binds (ps:=["thing","many"]) λ_ _ _ _ _ _ b a=>by obtain⟨d,f,rfl⟩:=us2 a;rfl
 have m3:=JH X G A3.ns;have b4:=A4.fn.binds (ps:=["thing","many","bound"]) λ_ _ _ _ _ _ b a=>by obtain⟨d,f,j,rfl⟩:=us3 a;rfl
 have m4:=JH X G A4.ns;have b5:=A5.fn.binds (ps:=["_law_script","_law_k"]) λ_ _ _ _ _ _ b a=>by obtain⟨d,f,rfl⟩:=us2 a;rfl
 have m5:=JH X G A5.ns;have b6:=A6.fn.binds (ps:=["_law_script","_law_k"]) λ_ _ _ _ _ _ b a=>by obtain⟨d,f,rfl⟩:=us2 a;rfl
 have m6:=JH X G A6.ns;have b7:=A7.fn.binds (ps:=["_law_left_here","_law_many"]) λ_ _ _ _ _ _ b a=>by obtain⟨d,f,rfl⟩:=us2 a;rfl
 have m7:=JH X G A7.ns;have b8:=A8.fn.binds (ps:=["_law_left_here","_law_some"]) λ_ _ _ _ _ _ b a=>by obtain⟨d,f,rfl⟩:=us2 a;rfl
 have m8:=JH X G A8.ns;have b9:=A9.fn.binds (ps:=["net"]) λ_ _ _ _ _ _ b a=>by obtain⟨d,rfl⟩:=us1 a;rfl
 have m9:=JH X G A9.ns;have g7:=W.fn.binds (ps:=["net"]) λ_ _ _ _ _ _ b a=>by obtain⟨d,rfl⟩:=us1 a;rfl
 have fo:=JH X G W.ns;have g6:=V.fn.binds (ps:=["many"]) λ_ _ _ _ _ _ b a=>by obtain⟨d,rfl⟩:=us1 a;rfl
 have fm:=JH X G V.ns;have g5:=U.fn.binds (ps:=["k"]) λ_ _ _ _ _ _ b a=>by obtain⟨d,rfl⟩:=us1 a;rfl
 have fl:=JH X G U.ns;have g4:=T.fn.binds (ps:=["row","made"]) λ_ _ _ _ _ _ b a=>by obtain⟨d,f,rfl⟩:=us2 a;rfl
 have fk:=JH X G T.ns;have g0:=S.fn.binds (ps:=["one","other"]) λ_ _ _ _ _ _ b a=>by obtain⟨d,f,rfl⟩:=us2 a;rfl
 have ff:=JH X G S.ns;have dT:=R.fn.binds (ps:=["one","other"]) λ_ _ _ _ _ _ b a=>by obtain⟨d,f,rfl⟩:=us2 a;rfl
 have ao:=JH X G R.ns;have gV:=Q.fn.binds (ps:=["k"]) λ_ _ _ _ _ _ b a=>by obtain⟨d,rfl⟩:=us1 a;rfl
 have fe:=JH X G Q.ns;have gP:=P.fn.binds (ps:=["net","counts"]) λ_ _ _ _ _ _ b a=>by obtain⟨d,f,rfl⟩:=us2 a;rfl
 have fb:=JH X G P.ns;have gs:=O.fn.binds (ps:=["net","counts"]) λ_ _ _ _ _ _ b a=>by obtain⟨d,f,rfl⟩:=us2 a;rfl
 have e9:=JH X G O.ns;have gr:=N.fn.binds (ps:=["total","many"]) λ_ _ _ _ _ _ b a=>by obtain⟨d,f,rfl⟩:=us2 a;rfl
 have e8:=JH X G N.ns;have gi:=L.fn.binds (ps:=["counts"]) λ_ _ _ _ _ _ b a=>by obtain⟨d,rfl⟩:=us1 a;rfl
 have e6:=JH X G L.ns;have gg:=J.fn.binds (ps:=["net","m","n"]) λ_ _ _ _ _ _ b a=>by obtain⟨d,f,j,rfl⟩:=us3 a;rfl
 have e4:=JH X G J.ns;have gd:=I.fn.binds (ps:=["net","lane"]) λ_ _ _ _ _ _ b a=>by obtain⟨d,f,rfl⟩:=us2 a;rfl
 have e3:=JH X G I.ns;have gb:=H.fn.binds (ps:=["net","turns","lane","back"]) λ_ _ _ _ _ _ b a=>by obtain⟨d,f,j,u3,rfl⟩:=us4 a;rfl
 have e1:=JH X G H.ns;have fY:=F.fn.binds (ps:=["net","turns","lane"]) λ_ _ _ _ _ _ b a=>by obtain⟨d,f,j,rfl⟩:=us3 a;rfl
 have e0:=JH X G F.ns;have fW:=E.fn.binds (ps:=["row","place","value"]) λ_ _ _ _ _ _ b a=>by obtain⟨d,f,j,rfl⟩:=us3 a;rfl
 have eT:=JH X G E.ns;have fV:=D.fn.binds (ps:=["counts","place","many"]) λ_ _ _ _ _ _ b a=>by obtain⟨d,f,j,rfl⟩:=us3 a;rfl
 have eS:=JH X G D.ns;have fT:=C.fn.binds (ps:=["net"]) λ_ _ _ _ _ _ b a=>by obtain⟨d,rfl⟩:=us1 a;rfl
 have eP:=JH X G C.ns;have fS:=B.fn.binds (ps:=["net"]) λ_ _ _ _ _ _ b a=>by obtain⟨d,rfl⟩:=us1 a;rfl
 have eN:=JH X G B.ns;have fR:=A.fn.binds (ps:=["net","knot","half"]) λ_ _ _ _ _ _ b a=>by obtain⟨d,f,j,rfl⟩:=us3 a;rfl
 have eM:=JH X G A.ns;have fP:=z.fn.binds (ps:=["level","seen","moves","led"]) λ_ _ _ _ _ _ b a=>by obtain⟨d,f,j,u3,rfl⟩:=us4 a;rfl
 have eH:=JH X G z.ns;have fO:=y.fn.binds (ps:=["first","counts","moves","led","most"]) λ_ _ _ _ _ _ b a=>by obtain⟨d,f,j,u3,u4,rfl⟩:=us5 a;rfl
 have eF:=JH X G y.ns;have fN:=x.fn.binds (ps:=["levels"]) λ_ _ _ _ _ _ b a=>by obtain⟨d,rfl⟩:=us1 a;rfl
 have ez:=JH X G x.ns;have fM:=u.fn.fun.binds (ps:=["net","most"]) λ_ _ _ _ _ _ b a=>by obtain⟨d,f,rfl⟩:=us2 a;rfl
 have ey:=JH X G u.ns;have fL:=t.fn.binds (ps:=["net","thing"]) λ_ _ _ _ _ _ b a=>by obtain⟨d,f,rfl⟩:=us2 a;rfl
 have ew:=JH X G t.ns;have fK:=r.fn.binds (ps:=["thing","is_state","first","moves","led"]) λ_ _ _ _ _ _ b a=>by obtain⟨d,f,j,u3,u4,rfl⟩:=us5 a;rfl
 have eu:=JH X G r.ns;have fI:=q.fn.fun.binds (ps:=["net","thing"]) λ_ _ _ _ _ _ b a=>by obtain⟨d,f,rfl⟩:=us2 a;rfl
 have et:=JH X G q.ns;have fG:=o.fn.binds (ps:=["_law_net","_law_at"]) λ_ _ _ _ _ _ b a=>by obtain⟨d,f,rfl⟩:=us2 a;rfl
 have es:=JH X G o.ns;have fF:=n.fn.binds (ps:=["_law_net","_law_at"]) λ_ _ _ _ _ _ b a=>by obtain⟨d,f,rfl⟩:=us2 a;rfl
 have er:=JH X G n.ns;have fE:=m.fn.binds (ps:=["_law_left_here","_law_net"]) λ_ _ _ _ _ _ b a=>by obtain⟨d,f,rfl⟩:=us2 a;rfl
 have ep:=JH X G m.ns;have fD:=k.fn.binds (ps:=["_law_left_here"]) λ_ _ _ _ _ _ b a=>by obtain⟨d,rfl⟩:=us1 a;rfl
 have eo:=JH X G k.ns;have ak:=JH X G d0;have ab:∀ H',SqT K H' Y (yG [0,1]):=λH'=>.inr ⟨_,_,_,fp,rfl,rfl,(by show 2<=sizeLine;decide),.cons ⟨_,rfl⟩ (.cons ⟨_,rfl⟩ .nil)⟩;obtain⟨oc,od,kV,doc,pm,an,hK,ct,hJ,ed,_,_⟩:=id Z.fn.ex;refine⟨zde ⟨kP,g,cH⟩ ⟨kQ,i,cI⟩,c1,λs v=>by rw[ed];exact .of_eq rfl,λbase _ _ bB=>?_⟩;have CK:CodeK K mg base g Pt:=⟨cH,bB Pt (.head _),en⟩;have hI:CodeK K mg base i Pu:=⟨cI,bB Pu (.tail _ (.head _)),el⟩;have U1:Use l.prog w K mg base "is_whole" ["thing"] 1 (oI K) f1 d1:=⟨bz A1.fn M,b1,A1.fn.kp,m1⟩;have U2:Use l.prog w K mg base "is_below" ["thing","bound"] 2 (oR K) f2 d2:=⟨aH A2.fn M U1,b2,A2.fn.kp,m2⟩;have U3:Use l.prog w K mg base "is_row" ["thing","many"] 1 (tO K) f3 d3:=⟨aF A3.fn M,b3,A3.fn.kp,m3⟩;have U4:Use l.prog w K mg base "are_below" ["thing","many","bound"] 3 (oS K) f4 d4:=⟨mI A4.fn M U3 U2,b4,A4.fn.kp,m4⟩;have U5:Use l.prog w K mg base "_law_cell_at" ["_law_script","_law_k"] 1 (kI K) f5 d5:=⟨zbh A5.fn M,b5,A5.fn.kp,m5⟩;have U6:Use l.prog w K mg base "_law_left" ["_law_script","_law_k"] 2 (kG K) f6 d6:=⟨zbf A6.fn M zd U5,b6,A6.fn.kp,m6⟩;have U7:Use l.prog w K mg base "_law_pick" ["_law_left_here","_law_many"] 1 uR f7 d7:=⟨zbc A7.fn,b7,A7.fn.kp,m7⟩;have U8:Use l.prog w K mg base "_law_of" ["_law_left_here","_law_some"] 2 zcc f8 d8:=⟨zdE A8.fn M U7,b8,A8.fn.kp,m8⟩;have U9:Use l.prog w K mg base "layers" ["net"] 1 sU f9 d9:=⟨gv A9.fn M,b9,A9.fn.kp,m9⟩;have hH:Use l.prog w K mg base "plain" ["net"] 2 oM c0 dS:=⟨aB W.fn M U9,g7,W.fn.kp,fo⟩;have hG:Use l.prog w K mg base "power_of_two" ["many"] 1 cZ cP dR:=⟨zcG V.fn M,g6,V.fn.kp,fm⟩;have hF:Use l.prog w K mg base "row_of" ["k"] 2 oK cz dP:=⟨aA U.fn M hG,g5,U.fn.kp,fl⟩;have hE:Use l.prog w K mg base "net_of" ["row","made"] 3 uS cx dO:=⟨jC T.fn M hH,g4,T.fn.kp,fk⟩;have hD:Use l.prog w K mg base "by_turns" ["one","other"] 1 cj cn dM:=⟨zdF S.fn M,g0,S.fn.kp,ff⟩;have hC:Use l.prog w K mg base "merger_of" ["one","other"] 6 vS cm dK:=⟨mH R.fn M hD dT ao,dT,R.fn.kp,ao⟩;have hB:Use l.prog w K mg base "merger" ["k"] 7 sS ck dG:=⟨gu Q.fn M hF hC hE,gV,Q.fn.kp,fe⟩;have hA:Use l.prog w K mg base "flowed" ["net","counts"] 1 sV cf dF:=⟨gy P.fn M,gP,P.fn.kp,fb⟩;have hz:Use l.prog w K mg base "ends_of" ["net","counts"] 2 kH cc dE:=⟨zbg O.fn M hA,gs,O.fn.kp,e9⟩;have dY:Use l.prog w K mg base "stair_of" ["total","many"] 1 oJ cb dD:=⟨zba N.fn M,gr,N.fn.kp,e8⟩;have hy:Use l.prog w K mg base "is_stair" ["counts"] 2 uT b0 dC:=⟨jD L.fn M dY,gi,L.fn.kp,e6⟩;have hx:Use l.prog w K mg base "merges" ["net","m","n"] 3 sR bS dB:=⟨gq J.fn dY hy hz,gg,J.fn.kp,e4⟩;have hv:Use l.prog w K mg base "end_of" ["net","lane"] 1 cg bx dA:=⟨zcI I.fn,gd,I.fn.kp,e3⟩;have hu:Use l.prog w K mg base "run_through" ["net","turns","lane","back"] 2 cY bw dz:=⟨zcF H.fn M hv,gb,H.fn.kp,e1⟩;have ht:Use l.prog w K mg base "passed" ["net","turns","lane"] 3 (kD false) bu dx:=⟨gp F.fn hu,fY,F.fn.kp,e0⟩;have hs:Use l.prog w K mg base "given_at" ["row","place","value"] 1 oP bt dt:=⟨aG E.fn M,fW,E.fn.kp,eT⟩;have hr:Use l.prog w K mg base "added" ["counts","place","many"] 2 oT bo dr:=⟨aI D.fn M hs,fV,D.fn.kp,eS⟩;have hq:Use l.prog w K mg base "first_turns" ["net"] 1 sW bl dp:=⟨gz C.fn M,fT,C.fn.kp,eP⟩;have dW:Use l.prog w K mg base "first_knot" ["net"] 2 vn bc dn:=⟨g8 B.fn hq,fS,B.fn.kp,eN⟩;have dV:Use l.prog w K mg base "knot_behind" ["net","knot","half"] 4 vm ba dm:=⟨aE A.fn ht,fR,A.fn.kp,eM⟩;have hp:Use l.prog w K mg base "next_level" ["level","seen","moves","led"] 6 (kE l.prog w K (nE qM) ["net"] xO) a9 dj:=⟨zbd z.fn M hr (eG qM dV),fP,z.fn.kp,eH⟩;have ho:Use l.prog w K mg base "climbed" ["first","counts","moves","led","most"] 7 (oQ l.prog w K (nE qM) ["net"] xO) a8 dd:=⟨jE y.fn M hp,fO,y.fn.kp,eF⟩;have hn:Use l.prog w K mg base "merge_verdict" ["net","most"] 8 (oO qM Pu) a7 c9:=⟨aD u.fn ak ab hI ho dW (λF0=>⟨zbi F0 2 x.fn M,fN,x.fn.kp,ez⟩),fM,u.fn.kp,ey⟩;have hk:Use l.prog w K mg base "is_knot" ["net","thing"] 4 (wy K) a6 c8:=⟨gx t.fn M U3 U4,fL,t.fn.kp,ew⟩;have hj:Use l.prog w K mg base "is_book" ["thing","is_state","first","moves","led"] 6 (uU l.prog w K (pG qS) ["net"] (jQ K) (rU qS) ["net"] xO) a5 c7:=⟨gw r.fn M (zby qS hk) (aq qS dV),fK,r.fn.kp,eu⟩;have hh:Use l.prog w K mg base "shows_merge" ["net","thing"] 7 (sQ l.prog w K qS Pt) a4 c6:=⟨gn q.fn ak ab CK hj dW,fI,q.fn.kp,et⟩;have hg:Use l.prog w K mg base "_law_more" ["_law_net","_law_at"] 1 kF a3 c5:=⟨zbe o.fn M,fG,o.fn.kp,es⟩;have hc:Use l.prog w K mg base "_law_turned" ["_law_net","_law_at"] 1 sP a0 c4:=⟨gm n.fn M,fF,n.fn.kp,er⟩;have hb:Use l.prog w K mg base "_law_slid" ["_law_left_here","_law_net"] 2 kC aT c3:=⟨zbb m.fn M U7,fE,m.fn.kp,ep⟩;have ha:Use l.prog w K mg base "_law_pairs" ["_law_left_here"] 3 oN ax c2:=⟨aC k.fn M U7 U8,fD,k.fn.kp,eo⟩;exact zcH Z.fn M ej U6 U7 hB hn ha hb hg hc hh hx
theorem zdX {l:PySem.W.OpenLaw}{q:Yo}{loose:List Str}{r:(Str->Option Jo)->YP->Prop}{i:YI->YP->Prop}{d:DefRec}{K:Params->Jl}{Pt Pu:JI}(hn:l.most=some 63) (b:d.params.defaults=[])
  (m:∀ (w:YI) (h:YP),i w h->(K w.params).In h/\∀ p∈[Pt,Pu],h.get? p=some (PySem.W.tabObj #[]))
  (F:∀ (w:YI) (mg:Str->Option Jo) (g:JI) (h:YP),(K w.params).In h->h.Ns mainGlobals mg->mg d.name=some (.ref g)->(∀ p∈[Pt,Pu],(K w.params).lookup p=none/\∃ c,PySem.W.codeHdIn (K w.params) c p=true) /\
   ∃ fd:Yl,(∀ (s:JO) (u:Jo),BindsTo s fd ⟨[u],[]⟩ [("_law_script",u)])/\∀ base:YP,(K w.params).In base->base.Ns mainGlobals mg->(∀ p∈[Pt,Pu],base.BuiltinsAt mg p)->FnOk l.prog w (K w.params) mg base CX0 9 g fd ["_law_script"] (jy (K w.params) Pt Pu)) :
  PySem.W.WalkO q loose r i l.row.toRowW d [] (λf vs=>PySem.call f vs) :=
 L2.cE (n:=63) (k:=9) (x:="_law_script") (CX:=CX0) (sp:=λK=>jy K Pt Pu) [Pt,Pu] hn (by decide) b ⟨rfl,by decide,by decide,rfl⟩ m F (λ_ _ a ns j o e=>⟨a,ns,rfl,o,j,e Pt (.head _),e Pu (.tail _ (.head _)),λ_=>rfl⟩) λ_ _ _ _ z=>z
end K65
theorem PySem.W.Fast.tw14435107625800056935:True:=trivial
theorem PySem.W.Fast.tw6119005907878353313:True:=trivial
theorem PySem.W.Fast.tw6852392170002092274:True:=trivial
theorem PySem.W.Fast.tw410555264121377884:True:=trivial
theorem PySem.W.Fast.tw1503739382292790469:True:=trivial
theorem PySem.W.Fast.tw4872598652913208229:True:=trivial
theorem PySem.W.Fast.tw784194003174485406:True:=trivial
theorem PySem.W.Fast.tw16924932745705791691:True:=trivial
theorem PySem.W.Fast.tw8187382180416600683:True:=trivial
theorem PySem.W.Fast.tw10353213599185374806:True:=trivial
theorem PySem.W.Fast.tw5203380237979660984:True:=trivial
theorem PySem.W.Fast.tw3171756380575091077:True:=trivial
theorem PySem.W.Fast.tw1020369290424619264:True:=trivial
theorem PySem.W.Fast.tw18295841396867318546:True:=trivial
theorem PySem.W.Fast.tw17328430357650917981:True:=trivial
theorem PySem.W.Fast.tw14734139511789387138:True:=trivial
theorem PySem.W.Fast.tw17687266183781115380:True:=trivial
theorem PySem.W.Fast.tw6563543584725918119:True:=trivial
theorem PySem.W.Fast.tw15019804808281765980:True:=trivial
theorem PySem.W.Fast.tw1149952151176505280:True:=trivial
theorem PySem.W.Fast.tw14125329144132923804:True:=trivial
theorem PySem.W.Fast.tw7110248890741139689:True:=trivial
theorem PySem.W.Fast.tw14700385439158289588:True:=trivial
theorem PySem.W.Fast.tw16494165140497026924:True:=trivial
theorem PySem.W.Fast.tw7081935808199231553:True:=trivial
theorem PySem.W.Fast.tw10391396937889287082:True:=trivial
theorem PySem.W.Fast.tw8444717600046201655:True:=trivial
theorem PySem.W.Fast.tw3483788127325497406:True:=trivial
theorem PySem.W.Fast.tw15224612710801092469:True:=trivial
theorem PySem.W.Fast.tw1654630612886325629:True:=trivial
theorem PySem.W.Fast.tw4157378157099581191:True:=trivial
theorem PySem.W.Fast.tw7178312116177934796:True:=trivial
theorem PySem.W.Fast.tw12296265059084452364:True:=trivial
theorem PySem.W.Fast.tw8799482538145702013:True:=trivial
theorem PySem.W.Fast.tw13267561327250932109:True:=trivial
open PySem PySem.W PyProof.Rows
set_option maxRecDepth 100000 in
set_option maxHeartbeats 0 in
theorem PySem.Challenge.cw_stairlanes_k65_whole_mergers_in_one_anot_holds : PySem.Challenge.rw_stairlanes_k65_whole_mergers_in_one_anot.Holds := by
 w_on;o_law;k_head;(case hw=>w_witness2)
 k_fill
 refine K65.zdX (l:=PySem.Challenge.rw_stairlanes_k65_whole_mergers_in_one_anot) rfl rfl (fun w h Y=>⟨PySem.W.km_in_of Y,PySem.W.km_tabs_of Y⟩) ?F
 case F =>
  intro w mg fa h KX G hmg
  refine' K65.zdb KX G hmg (K65.yI ?a1 ?l1 ?c1 ?k1) (K65.yI ?a2 ?l2 ?c2 ?k2) (K65.yI ?a3 ?l3 ?c3 ?k3) (K65.yI ?a4 ?l4 ?c4 ?k4) (K65.yI ?a5 ?l5 ?c5 ?k5) (K65.yI ?a6 ?l6 ?c6 ?k6) (K65.yI ?a7 ?l7 ?c7 ?k7) (K65.yI ?a8 ?l8 ?c8 ?k8) (K65.yI ?a9 ?l9 ?c9 ?k9) (K65.yI ?a10 ?l10 ?c10 ?k10) (K65.yI ?a11 ?l11 ?c11 ?k11) (K65.yI ?a12 ?l12 ?c12 ?k12) (K65.yI ?a13 ?l13 ?c13 ?k13) (K65.yI ?a14 ?l14 ?c14 ?k14) (K65.yI ?a15 ?l15 ?c15 ?k15) (K65.yI ?a16 ?l16 ?c16 ?k16) (K65.yI ?a17 ?l17 ?c17 ?k17) (K65.yI ?a18 ?l18 ?c18 ?k18) (K65.yI ?a19 ?l19 ?c19 ?k19) (K65.yI ?a20 ?l20 ?c20 ?k20) (K65.yI ?a21 ?l21 ?c21 ?k21) (K65.yI ?a22 ?l22 ?c22 ?k22) (K65.yI ?a23 ?l23 ?c23 ?k23) (K65.yI ?a24 ?l24 ?c24 ?k24) (K65.yI ?a25 ?l25 ?c25 ?k25) (K65.yI ?a26 ?l26 ?c26 ?k26) (K65.yI ?a27 ?l27 ?c27 ?k27) (K65.yI ?a28 ?l28 ?c28 ?k28) (K65.yI ?a29 ?l29 ?c29 ?k29) (K65.yI ?a30 ?l30 ?c30 ?k30) (K65.yI ?a31 ?l31 ?c31 ?k31) (K65.yI ?a32 ?l32 ?c32 ?k32) (K65.zaf ?a33 ?l33 ?c33 ?k33) (K65.yI ?a34 ?l34 ?c34 ?k34) (K65.yI ?a35 ?l35 ?c35 ?k35) (K65.zaf ?a36 ?l36 ?c36 ?k36) (K65.yI ?a37 ?l37 ?c37 ?k37) (K65.yI ?a38 ?l38 ?c38 ?k38) (K65.yI ?a39 ?l39 ?c39 ?k39) (K65.yI ?a40 ?l40 ?c40 ?k40) (K65.yI ?a41 ?l41 ?c41 ?k41) ?z1 ?z2 ?z3 ?z4 ?z5 ?z6 ?z7 ?z8 ?z9 ?z10 ?z11 ?z12 ?z13 ?z14 ?z15 ?z16 ?zHv ?lHv (K65.pU ?lH2 ?eH2) ?nB4 ?kP (K65.pU ?lH3 ?eH3) ?nB5 ?kQ ?nPP ?zd
  (case a1|l1|c1|k1|a2|l2|c2|k2|a3|l3|c3|k3|a4|l4|c4|k4|a5|l5|c5|k5|a6|l6|c6|k6|a7|l7|c7|k7|a8|l8|c8|k8|a9|l9|c9|k9|a10|l10|c10|k10|a11|l11|c11|k11|a12|l12|c12|k12|a13|l13|c13|k13|a14|l14|c14|k14|a15|l15|c15|k15|a16|l16|c16|k16|a17|l17|c17|k17|a18|l18|c18|k18|a19|l19|c19|k19|a20|l20|c20|k20|a21|l21|c21|k21|a22|l22|c22|k22|a23|l23|c23|k23|a24|l24|c24|k24|a25|l25|c25|k25|a26|l26|c26|k26|a27|l27|c27|k27|a28|l28|c28|k28|a29|l29|c29|k29|a30|l30|c30|k30|a31|l31|c31|k31|a32|l32|c32|k32|a33|l33|c33|k33|a34|l34|c34|k34|a35|l35|c35|k35|a36|l36|c36|k36|a37|l37|c37|k37|a38|l38|c38|k38|a39|l39|c39|k39|a40|l40|c40|k40|a41|l41|c41|k41|z1|z2|z3|z4|z5|z6|z7|z8|z9|z10|z11|z12|z13|z14|z15|z16|zHv|lHv=>k_is)
  (case lH2=>k_is);(case eH2=>rfl);(case nB4=>decide);(case kP=>rfl);(case lH3=>k_is);(case eH3=>rfl);(case nB5=>decide);(case kQ=>rfl);(case nPP=>decide)
  (case zd=>k_is)
