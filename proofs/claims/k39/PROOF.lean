import PyProof.Rows.All
import Wide.All
import OpenK.AllK
import Wide.FinOn
import Lean
import PyProof.EqAt
import PyProof.EqKinds
import PyProof.TupleCall
import PyProof.NeKinds
import KE.KIntText
import PyProof.TupleOfStr
import PyProof.ReprRoads
import PyProof.NeData
import PyProof.DictKinds
import PyProof.AttrMiss
import PyProof.IsiH_list
import KE.KDictOf
import KE.KSortTup
import KE.KItemsList
import KE.KDictSum
import PyProof.DictWalks
import PyProof.DictItems
import KE.KDictList
import KE.KEqDict
import KE.KPairComp
import PyProof.DictTruth
import PyProof.MeetsDict
import PyProof.DictCompW
import PyProof.EvalArms
import KE.KLam
import KE.KNestM
import PyProof.Defs
import PyProof.P3In
import PyProof.Rows.SortRev
import PyProof.Rows.Range3
import PyProof.StrBlockL
import PyProof.StrLawsTight
import PyProof.StrWalks
import PyProof.SliceStr2
import PyProof.StrLawsIdx
import PyProof.Rows.ReprOcc
import PyProof.Rows.StrBin
import PyProof.CollectIter
import PyProof.Rows.FStr
import PyProof.AutoIntG2
import PySem.Challenge.RW_stairlanes_k39_books_spoilt
set_option Elab.async false
set_option linter.all false
local macro_rules|`(tactic| lia)=>`(tactic| first|with_reducible(first|assumption|exact Nat.le_of_lt ‹_›|exact Nat.lt_succ_of_le ‹_›|exact Nat.le_succ_of_le ‹_›|exact Nat.le_of_not_lt ‹_›|exact Nat.le_trans ‹_› ‹_›|exact Nat.lt_of_lt_of_le ‹_› ‹_›|exact Nat.sub_one_lt_of_le ‹_› ‹_›|exact Nat.le_add_right _ _|exact Nat.succ_pos _|exact Nat.lt_succ_self _|exact Nat.le_add_left _ _)|lia -verbose)
set_option maxRecDepth 100000
local macro_rules|`(tactic|trivial)=>`(tactic|first|exact⟨by rfl,by first|exact Or.inl rfl|exact Or.inr (.inl rfl)|exact Or.inr (.inr rfl),by decide,by decide⟩|exact⟨rfl,rfl,rfl,by decide +kernel,rfl,by decide +kernel,by decide +kernel⟩|exact True.intro|rfl|assumption|exact .inl rfl|exact .inr rfl)
section
open PySem PySem.Spec PyProof.Rows
def J0:=@wpAny_bind
def J7:=@Heap.get?_push_of_some
def J8:=@wpAny_pure
def J9:=@List.getElem?_eq_getElem
def Ja:=@List.getElem?_eq_some_iff
def Jb:=@List.length_append
def Jc:=@Nat.le_refl
def Jd:=@List.mem_singleton
def Je:=@if_neg
def Jf:=@wpS_pure
def Jg:=@if_pos
def Jh:=@wpS_bind
def Jj:=@Bool.false_ne_true
def Jm:=@List.size_toArray
def Jn:=@List.length_map
def Jp:=@Heap.lt_size
def Jq:=@List.mem_cons
def Jr:=@decide_eq_false
def Js:=@List.length_take
def Jt:=@Option.some.inj
def Ju:=@List.mem_append
def Jv:=@Heap.get?_push_size
def Jw:=@Array.size_append
def Jx:=@decide_eq_true
def Jy:=@Array.size_push
def Jz:=@List.getD_eq_getElem?_getD
def JA:=@List.mem_map
def JB:=@List.mem_of_getElem?
def JC:=@Nat.ne_of_lt
def JD:=@Array.length_toList
def JE:=@List.mem_append_right
def JF:=@Nat.lt_of_lt_of_le
def JG:=@List.mem_cons_of_mem
def JH:=@sizeLine_eq
def JJ:=@List.not_mem_nil
def JK:=@Nat.le_trans
def JL:=@List.mem_cons_self
def JM:=@wpAny_mono
def JN:=@Nat.zero_le
def JP:=@PySem.W.mg_of
def JQ:=@wpAny_newObj_type
def JR:=@List.take_of_length_le
def JS:=@congrArg
def JT:=@PySem.boot_len
def JU:=@List.map_append
def JV:=@List.length_cons
def JW:=@decide_eq_false_iff_not
def JX:=@Array.getElem?_eq_some_iff
def JY:=@List.nodup_cons
def JZ:=@List.getElem?_map
def Y0:=@PySem.W.mg_none_of
def Y1:=@List.map_cons
def Y2:=@List.append_assoc
def Y3:=@decide_eq_true_eq
def Y4:=@wpAny_holding
def Y5:=@Array.toList_append
def Y6:=@Option.map_eq_some_iff
def Y7:=@Bool.false_eq_true
def Y8:=@Array.getElem?_toList
def Y9:=@List.length_drop
def Ya:=@List.take_length
def Yb:=@wpAny_dictEntries
def Yc:=@Paired.length
def Yd:=@List.take_append_getElem
def Ye:=@PassesOwn.never
def Yf:=@wpAny_call_entry
def Yg:=@wpAny_seqItems
def Yh:=@List.pairwise_append
def Yi:=@Heap.get?_update_other
def Yj:=@Bool.eq_iff_iff
def Yk:=@wpAny_dictEpoch
def Ym:=@List.replicate_succ
def Yn:=@PyProof.Rows.callWith_type1
def Yp:=@Int.toNat_natCast
def Yq:=@wpS_forRange
def Yr:=@List.take_succ_eq_append_getElem
def Ys:=@of_decide_eq_true
def Yt:=@List.append_nil
def Yu:=@if_true
def Yv:=@List.lookup_cons
def Yw:=@List.all_eq_true
def Yx:=@List.drop_eq_getElem_cons
def Yy:=@wpAny_truthy_bool
def Yz:=@Nat.zero_add
def YA:=@Bool.and_eq_true
def YB:=@List.getElem_mem
def YC:=@Nat.lt_irrefl
def YD:=@beq_eq_false_iff_ne
def YE:=@PySem.W.kia_one
def YF:=@PyProof.Rows.slot_tuple_getitem
def YG:=@Heap.get?_update_self
def YH:=@or_false
def YJ:=@wpAny_rule
def YK:=@F.plain_min_loop
def YL:=@wpAny_standAt
def YM:=@wpAny_typeOf
def YN:=@List.mem_range
def YQ:=@Heap.size_push
def YR:=@Around.under_plainId
def YS:=@List.mem_of_mem_take
def YT:=@List.mem_iff_getElem
def YU:=@List.length_range
def YV:=@PySem.F.plainAttrs_list
def YW:=@Heap.SameBut.update
def YX:=@List.map_map
def YY:=@wpS_mono
def YZ:=@List.extract_eq_take_drop
def Z0:=@List.forIn_cons
def Z1:=@size_of_entries
def Z2:=@Nat.ne_of_gt
def Z3:=@if_false
def Z4:=@Nat.pow_le_pow_right
def Z5:=@List.getElem?_take_of_lt
def Z6:=@PySem.mem_of_lookup
def Z7:=@List.length_reverse
def Z8:=@List.forIn_nil
def Z9:=@wpAny_Call_Name_kw
def Za:=@List.filterMap_map
def Zb:=@wpAny_setField_rec
def Zc:=@Nat.add_zero
def Zd:=@codeAny_builtin
def Ze:=@Nat.min_eq_left
def Zf:=@plainId_quiet
def Zg:=@Nat.add_assoc
def Zh:=@List.mem_iff_getElem?
def Zi:=@Array.toList_push
def Zj:=@List.getElem?_append_right
def Zk:=@Std.Legacy.Range.forIn_eq_forIn_range'
def Zm:=@Array.toList_extract
def Zn:=@List.mem_of_mem_drop
def Zp:=@List.nodup_nil
def Zq:=@Int.le_trans
def Zr:=@Nat.pow_succ
def Zs:=@List.mem_nil_iff
def Zt:=@List.getElem?_append_left
def Zu:=@List.getElem?_zip_eq_some
def Zv:=@Array.getElem?_eq_getElem
def Zw:=@List.map_congr_left
def Zx:=@List.take_succ_cons
def Zy:=@wpAny_passesOwn
def Zz:=@List.length_nil
def ZA:=@List.length_zip
def ZB:=@assignInOrder_cons
def ZC:=@Calls.spliced_cons
def ZD:=@Nat.one_le_two_pow
def ZE:=@List.flatten_cons
def ZF:=@Nat.lt_succ_of_lt
def ZG:=@List.drop_zero
def ZH:=@Bool.not_eq_true'
def ZJ:=@Int.compare_eq_lt
def ZK:=@Int.compare_eq_gt
def ZL:=@List.length_replicate
def ZM:=@List.perm_append_comm
def ZN:=@List.take_append_drop
def ZP:=@wpAny_notOrdered_dict
def ZQ:=@wpAny_isInstance
def ZR:=@List.mem_append_left
def ZS:=@Int.le_refl
def ZT:=@wpAny_typeNameOfWhole_keyiter
def ZU:=@List.find?_cons
def ZV:=@F.slot_dict_keyiterator_next
def ZW:=@Int.emod_nonneg
def ZX:=@List.filterMap_cons
def ZY:=@Array.toList_modify
def ZZ:=@wpS_get
def W0:=@wpS_modify
def W2:=@Bool.not_eq_false'
def W3:=@List.take_zero
def W4:=@wpAny_tryCatch
def W5:=@Int.emod_lt_of_pos
def W6:=@Calls.spliced_nil
def W7:=@wpAny_field
def W8:=@wpAny_letGo
def W9:=@List.nodup_append
def Wa:=@Int.compare_eq_eq
def Wb:=@AutoSeq1.wpAny_loadPart'
def Wc:=@PySem.F.slot_list_append
def Wd:=@PySem.F.type_list_append
end
namespace L2
open PySem PySem.Spec PyProof.Rows
noncomputable abbrev Key:=Sum Int Str
noncomputable def uy:Key->Value->Bool
  | .inl k,v=>Value.isInt k v
  | .inr x,v=>Value.isStrOf x v
noncomputable def zaL (w:World):Key->Int
  | .inl k=>hashInt k
  | .inr x=>hashStr w x
theorem yO:∀ {k:Key}{v:Value},uy k v=true->(∃ i t,k=Sum.inl i/\v=Value.int i t)\/(∃ x t,k=Sum.inr x/\v=Value.str x t)
  | .inl i,v,h=>by
    obtain⟨t,e⟩:=Value.isInt_shape (k:=i) (v:=v) h
    exact .inl ⟨i,t,rfl,e⟩
  | .inr x,v,h=>by
    obtain⟨t,e⟩:=Value.isStrOf_shape (x:=x) (v:=v) h;exact .inr ⟨x,t,rfl,e⟩
theorem jL (i:Int)(t:Tok):uy (.inl i) (.int i t)=true:=by simp[uy,Value.isInt]
theorem jK (x:Str)(t:Tok):uy (.inr x) (.str x t)=true:=by simp[uy,Value.isStrOf]
theorem bb (a b:Int):decide ((Sum.inl a:Key)=Sum.inl b)=(a == b):=by
  by_cases e:a=b
  · subst e;simp
  · have h:¬(Sum.inl a:Key)=Sum.inl b:=λq=>e (Sum.inl.inj q)
    rw[Jr h];exact(YD.mpr e).symm
theorem bW (a b:Str):decide ((Sum.inr a:Key)=Sum.inr b)=decide (a=b):=by
  by_cases e:a=b
  · subst e;simp
  · have h:¬(Sum.inr a:Key)=Sum.inr b:=λq=>e (Sum.inr.inj q)
    rw[Jr h,Jr e]
theorem bZ (a:Int)(b:Str):decide ((Sum.inl a:Key)=Sum.inr b)=false:=Jr (λq=>nomatch q)
theorem bX (a:Str)(b:Int):decide ((Sum.inr a:Key)=Sum.inl b)=false:=Jr (λq=>nomatch q)
noncomputable def yd (prog:Program)(w:World):PySem.KeyKind prog w Key where
  is:=uy
  hash:=zaL w
  inj:=λv a b l f=>by
    rcases yO l with ⟨i,t,rfl,rfl⟩|⟨x,t,rfl,rfl⟩
    · rcases yO f with ⟨j,u,rfl,e⟩|⟨y,u,rfl,e⟩
      · injection e with c _;rw[c]
      · exact nomatch e
    · rcases yO f with ⟨j,u,rfl,e⟩|⟨y,u,rfl,e⟩
      · exact nomatch e
      · injection e with c _;rw[c]
  byValue:=λk v h=>by
    rcases yO h with ⟨i,t,rfl,rfl⟩|⟨x,t,rfl,rfl⟩<;>rfl
  pyHash:=λd h=>by
    rcases yO d with ⟨i,t,rfl,rfl⟩|⟨x,t,rfl,rfl⟩
    · exact wpAny_pyHash_int h
    · exact wpAny_pyHash_str h
  eqBool:=λg d h=>by
    rcases yO g with ⟨i,t,rfl,rfl⟩|⟨x,t,rfl,rfl⟩
    · rcases yO d with ⟨j,u,rfl,rfl⟩|⟨y,u,rfl,rfl⟩
      · rw[bb]at h;exact wpAny_eqBool_int h
      · rw[bZ]at h;exact SeqAt.EqAt.int_str i t y u _ _ _ _ h
    · rcases yO d with ⟨j,u,rfl,rfl⟩|⟨y,u,rfl,rfl⟩
      · rw[bX]at h;exact SeqAt.EqAt.str_int x t j u _ _ _ _ h
      · rw[bW]at h;exact wpAny_eqBool_str h
  «strs»:=λk x t v h=>by
    rcases yO h with ⟨i,u,rfl,e⟩|⟨y,u,rfl,e⟩
    · exact nomatch e
    · injection e with c _
      subst c;cases v<;>rfl
theorem nQ (prog:Program)(w:World)(k:Key)(v:Value):(yd prog w).is k v=uy k v:=rfl
theorem pX (prog:Program)(w:World)(i:Int)(t:Tok):(yd prog w).is (.inl i) (.int i t)=true:=jL i t
theorem pW (prog:Program)(w:World)(x:Str)(t:Tok):(yd prog w).is (.inr x) (.str x t)=true:=jK x t
inductive V where
  | non|bl (b:Bool)|int (i:Int)|str (x:Str)|byt (b:Array UInt8)|flt (b:UInt64)|ref (a:Addr)|ty (n:String)
  deriving DecidableEq
noncomputable def RelV:V->Value->Prop
  | .non,u=>u=Value.none
  | .bl b,u=>u=Value.bool b
  | .int i,u=>∃ t,u=Value.int i t
  | .str x,u=>∃ t,u=Value.str x t
  | .byt b,u=>∃ t,u=Value.bytes b t
  | .flt b,u=>∃ t,u=Value.float b t
  | .ref a,u=>u=Value.ref a
  | .ty n,u=>u=Value.type n
noncomputable abbrev Vals:List V->List Value->Prop:=Paired RelV
theorem Vals.length {xs:List V}{us:List Value}(r:Vals xs us):xs.length=us.length:=Yc r
theorem Vals.get:∀ {xs:List V}{us:List Value}{i:Nat}{x:V},Vals xs us->xs[i]?=some x->∃ u,us[i]?=some u/\RelV x u
  | _,_,_,_,.nil,e=>by simp at e
  | _,_,0,_,.cons r _,e=>by simp at e;subst e;exact⟨_,rfl,r⟩
  | _,_,i+1,x,.cons _ t,e=>by
    obtain⟨u,b,a⟩:=Vals.get (i:=i) (x:=x) t (by simpa using e);exact⟨u,by simpa using b,a⟩
theorem Vals.set {x:V}{u:Value}(r:RelV x u):∀ {xs:List V}{us:List Value}(i:Nat),Vals xs us->Vals (xs.set i x) (us.set i u)
  | _,_,_,.nil=>.nil
  | _,_,0,.cons _ t=>.cons r t
  | _,_,i+1,.cons q t=>.cons q (Vals.set r i t)
theorem Vals.append:∀ {xs ys:List V}{us ws:List Value},Vals xs us->Vals ys ws->Vals (xs++ys) (us++ws)
  | _,_,_,_,.nil,s=>s
  | _,_,_,_,.cons r t,s=>.cons r (Vals.append t s)
theorem Vals.take:∀ {xs:List V}{us:List Value}(n:Nat),Vals xs us->Vals (xs.take n) (us.take n)
  | _,_,0,_=>.nil
  | _,_,_+1,.nil=>.nil
  | _,_,n+1,.cons r t=>.cons r (Vals.take n t)
theorem Vals.drop:∀ {xs:List V}{us:List Value}(n:Nat),Vals xs us->Vals (xs.drop n) (us.drop n)
  | _,_,0,r=>r
  | _,_,_+1,.nil=>.nil
  | _,_,n+1,.cons _ t=>Vals.drop n t
noncomputable def RelO:Option V->Option Value->Prop
  | some v,some u=>RelV v u
  | none,none=>True
  | _,_=>False
noncomputable def KV {κ:Type}:List (κ × V)->List (κ × Value)->Prop:=Paired λ(p:κ × V) (q:κ × Value)=>p.1=q.1/\RelV p.2 q.2
noncomputable def kV:Key->V
  | .inl i=>.int i
  | .inr x=>.str x
inductive HO where
  | lst (xs:List V)
  | tup (xs:List V)
  | dK (kvs:List (Key × V))|dT (kvs:List (List Key × V))
  | set (S:Int->Bool) (n:Nat)
  | ins (C dx:Addr) (fs:List (Str × V))
  | own (x:Addr)
  | xd (fs:List (Str × V))
  | met (f x:Addr)
  | rng (lo hi:Int)
  | frz (o:Obj) (u:HO)
  | tbl (ps:Array Value)
  | ext (φ:Heap->Prop)
noncomputable abbrev Hp:=Addr->Option HO
noncomputable def upd (H:Hp)(a:Addr)(o:HO):Hp:=λb=>if b=a then some o else H b
theorem zD {H:Hp}{a:Addr}{o:HO}:upd H a o a=some o:=by unfold upd;rw[Jg rfl]
theorem zJ {H:Hp}{a b:Addr}{o:HO}(h:b≠a):upd H a o b=H b:=by unfold upd;rw[Je h]
theorem yh {H:Hp}{a b:Addr}{o u:HO}(h:H a=some o)(h':H b=some u)(d:o≠u):a≠b:=by
  intro e;subst e;rw[h]at h';exact d (Jt h')
theorem zH {H:Hp}{a b:Addr}{o:HO}(h:H a=some o)(h':H b=none):a≠b:=by
  intro e;subst e;rw[h]at h';cases h'
noncomputable def TupX (h:Heap)(a:Addr)(items:Array Value):Prop:=∃ o,h.get? a=some o/\o.cls=.type "tuple"/\∃ n,o.data=.seq items n/\o.dict=none
theorem TupX.tup {h:Heap}{a:Addr}{items:Array Value}(x:TupX h a items):IsTup h a items:=let ⟨o,e,c,n,d,_⟩:=x;⟨o,e,c,n,d⟩
theorem TupX.new (h:Heap)(items:Array Value):TupX (h.push { cls:=.type "tuple",data:=.seq items }) h.objs.size items:=⟨_,Jv _ rfl,rfl,0,rfl,rfl⟩
section
variable (P:Program)(w:World)
noncomputable def ObjOk (H:Hp)(h:Heap)(a:Addr):HO->Prop
  | .lst xs=>xs.length<=sizeLine/\∃ (its:List Value) (n:Nat),Vals xs its/\h.get? a=some { cls:=.type "list",data:=.seq its.toArray n }
  | .tup xs=>xs.length<=sizeLine/\∃ its:List Value,Vals xs its/\TupX h a its.toArray
  | .dK b=>b.length<=sizeLine/\(a == sysModules)=false/\∃ g,KV b g/\h.DictOf (yd P w) a g
  | .dT b=>b.length<=sizeLine/\(a == sysModules)=false/\∃ xs:List (List Key × Addr × Value),
      Paired (λ(p:List Key × V) (q:List Key × Addr × Value)=>p.1=q.1/\H q.2.1=some (.tup (p.1.map kV))/\RelV p.2 q.2.2) b xs /\
      ∃ o k m,h.get? a=some o/\o.ExactDict/\o.data=.dict k m/\k.toList=xs.map (entryOfKey (tupleKind (yd P w)))/\(xs.map (·.1)).Nodup
  | .set S n=>h.SetOf (intKind P w) a S n
  | .ins C d fs=>H d=some (.own a)/\fs.length<=1000/\d≠a/\h.get? a=some (PySem.W.instObj C d) /\
      ∃ c,h.Ns1 d c/\(∀ f,RelO (fs.lookup f) (c f))/\PySem.Within c (fs.map (·.1))
  | .own _=>∃ o,h.get? a=some o
  | .xd fs=>∃ c,h.Ns1 a c/\∀ f,RelO (fs.lookup f) (c f)
  | .rng lo hi=>∃ t u v,h.get? a=some { cls:=.type "range",data:=.fields #[.int lo t,.int hi u,.int 1 v] }
  | .frz o u=>h.get? a=some o/\ObjOk H h a u
  | .tbl l=>h.get? a=some { cls:=.none,data:=.fields l }
  | .met f x=>h.get? a=some (PySem.W.methodObj (.ref f) (.ref x))
  | .ext e=>e h/\(∃ o,h.get? a=some o)/\∀ j i:Heap,e j->(∀ o,j.get? a=some o->i.get? a=some o)->e i
noncomputable def HOk (H:Hp)(h:Heap):Prop:=∀ a o,H a=some o->ObjOk P w H h a o
end
section
variable {P:Program}{w:World}{H H':Hp}{h h':Heap}{a:Addr}{o:HO}
theorem ObjOk.lt (x:ObjOk P w H h a o):a<h.objs.size:=by
  cases o with
  | lst c=>obtain⟨_,_,_,_,e⟩:=x;exact Jp e
  | tup c=>obtain⟨_,_,_,p⟩:=x;exact p.tup.lt
  | dK b=>obtain⟨_,_,_,_,o,_,_,e,_⟩:=x;exact Jp e
  | dT b=>obtain⟨_,_,_,_,o,_,_,e,_⟩:=x;exact Jp e
  | set S n=>obtain⟨o,_,_,_,e,_⟩:=x;exact Jp e
  | ins C i fs=>obtain⟨_,_,_,e,_⟩:=x;exact Jp e
  | own y=>obtain⟨_,e⟩:=x;exact Jp e
  | xd fs=>obtain⟨_,⟨_,_,_,e,_⟩,_⟩:=x;exact Jp e
  | rng lo hi=>obtain⟨_,_,_,e⟩:=x;exact Jp e
  | frz ob u=>obtain⟨e,_⟩:=x;exact Jp e
  | tbl g=>exact Jp (show h.get? a=some _ from x)
  | met f y=>exact Jp (show h.get? a=some _ from x)
  | ext d=>obtain⟨_,⟨_,e⟩,_⟩:=x;exact Jp e
theorem Paired.mapP {α β:Type}{F G:α->β->Prop}:∀ {l₁:List α}{l₂:List β},Paired F l₁ l₂->(∀ a b,F a b->G a b)->Paired G l₁ l₂
  | _,_,.nil,_=>.nil
  | _,_,.cons r t,f=>.cons (f _ _ r) (Paired.mapP t f)
theorem ObjOk.stay (x:ObjOk P w H h a o)(k:∀ b u,(b=a\/H b=some (.own a))->h.get? b=some u->h'.get? b=some u)(E:∀ b,H b=some (.own a)->H' b=some (.own a))(D:∀ b xs,H b=some (.tup xs)->H' b=some (.tup xs)):ObjOk P w H' h' a o:=by
  induction o with
  | lst xs=>obtain⟨z,j,n,r,e⟩:=x;exact⟨z,j,n,r,k _ _ (.inl rfl) e⟩
  | tup xs=>obtain⟨z,j,r,ob,e,c⟩:=x;exact⟨z,j,r,ob,k _ _ (.inl rfl) e,c⟩
  | dK s=>obtain⟨z,y,B,r,ob,g,i,e,c⟩:=x;exact⟨z,y,B,r,ob,g,i,k _ _ (.inl rfl) e,c⟩
  | dT s =>
    obtain⟨z,y,xs,r,ob,g,i,e,c⟩:=x
    exact⟨z,y,xs,Paired.mapP r λp q z=>⟨z.1,D _ _ z.2.1,z.2.2⟩,ob,g,i,k _ _ (.inl rfl) e,c⟩
  | set S n=>obtain⟨ob,g,i,t,e,c⟩:=x;exact⟨ob,g,i,t,k _ _ (.inl rfl) e,c⟩
  | ins C G fs =>
    obtain⟨d,z,ne,e,m,⟨l,g,i,e2,c⟩,r⟩:=x
    exact⟨E _ d,z,ne,k _ _ (.inl rfl) e,m,⟨l,g,i,k _ _ (.inr d) e2,c⟩,r⟩
  | own y=>obtain⟨ob,e⟩:=x;exact⟨ob,k _ _ (.inl rfl) e⟩
  | xd fs=>obtain⟨m,⟨l,g,i,e,c⟩,r⟩:=x;exact⟨m,⟨l,g,i,k _ _ (.inl rfl) e,c⟩,r⟩
  | rng lo hi=>obtain⟨t,u,v,e⟩:=x;exact⟨t,u,v,k _ _ (.inl rfl) e⟩
  | frz ob u ih=>obtain⟨e,q⟩:=x;exact⟨k _ _ (.inl rfl) e,ih q⟩
  | tbl A =>
    have e:h.get? a=some { cls:=.none,data:=.fields A }:=x;show h'.get? a=some { cls:=.none,data:=.fields A }
    exact k a _ (.inl rfl) e
  | met f y =>
    have e:h.get? a=some (PySem.W.methodObj (.ref f) (.ref y)):=x;show h'.get? a=some (PySem.W.methodObj (.ref f) (.ref y))
    exact k a _ (.inl rfl) e
  | ext F=>obtain⟨p,⟨o,e⟩,st⟩:=x;exact⟨st _ _ p λo q=>k _ _ (.inl rfl) q,⟨o,k _ _ (.inl rfl) e⟩,st⟩
theorem HOk.lt (x:HOk P w H h)(e:H a=some o):a<h.objs.size:=(x a o e).lt
theorem HOk.fresh (x:HOk P w H h)(e:h.objs.size<=a):H a=none:=by
  cases q:H a with
  | none=>rfl
  | some u=>exact absurd (JF (x.lt q) e) (YC _)
theorem HOk.kept (x:HOk P w H h)(k:∀ b u,h.get? b=some u->h'.get? b=some u):HOk P w H h':=λa o e =>
  (x a o e).stay (λb u _ q=>k b u q) (λ_ q=>q) λ_ _ q=>q
theorem HOk.laid (x:HOk P w H h)(k:∀ b u,h.get? b=some u->h'.get? b=some u)(g:h.objs.size<=a)(new:ObjOk P w (upd H a o) h' a o):HOk P w (upd H a o) h':=λb u e=>by
  have d:=x.fresh g;by_cases f:b=a
  · subst f;rw[zD]at e;cases e;exact new
  · rw[zJ f]at e
    exact(x b u e).stay (λc v _ q=>k c v q) (λc q=>by rw[zJ (zH q d)];exact q) λc i q=>by rw[zJ (zH q d)];exact q
end
noncomputable def Rd (H:Hp)(a:Addr)(u:HO):Prop:=H a=some u\/∃ o,H a=some (.frz o u)
theorem Rd.ok {P:Program}{w:World}{H:Hp}{h:Heap}{a:Addr}{u:HO}(r:Rd H a u)(x:HOk P w H h):ObjOk P w H h a u:=by
  rcases r with r|⟨o,r⟩
  · exact x a u r
  · obtain⟨_,q⟩:=x a _ r
    exact q
noncomputable def Mut:Option HO->Prop
  | some (.lst _)=>True
  | some (.dK _)=>True
  | some (.dT _)=>True
  | some (.set _ _)=>True
  | some (.ins _ _ _)=>True
  | some (.ext _)=>True
  | _=>False
section
variable {P:Program}{w:World}{H:Hp}{h h':Heap}{x e:Addr}{o':HO}
theorem HOk.write (ok:HOk P w H h)(i:Mut (H x))(o:e=x\/H e=some (.own x))(k:∀ b u,b≠e->h.get? b=some u->h'.get? b=some u)(m:∃ u,h'.get? e=some u)(new:ObjOk P w (upd H x o') h' x o'):HOk P w (upd H x o') h':=λb u q=>by
  have d:∀ c y,H c=some (.own y)->c≠x:=λc y r z=>by subst z;rw[r]at i;exact i
  have f:∀ c g,H c=some (.tup g)->c≠x:=λc g r z=>by subst z;rw[r]at i;exact i
  by_cases l:b=x
  · subst l;rw[zD]at q;cases q;exact new
  · rw[zJ l]at q
    by_cases a:b=e
    · have n:H b=some (.own x):=by
        rcases o with z|z
        · exact absurd (a.trans z) l
        · rw[a];exact z
      rw[q]at n;cases n;obtain⟨v,p⟩:=m;exact⟨v,by rw[a];exact p⟩
    · refine(ok b u q).stay (λc v j r=>k c v ?_ r) (λc r=>by rw[zJ (d c b r)];exact r) λc g r=>by rw[zJ (f c g r)];exact r
      rcases j with rfl|j
      · exact a
      · rintro rfl
        rcases o with z|z
        · exact d c b j z
        · rw[j]at z;cases z;exact l rfl
end
structure Un (fs ex:List Addr) (H H':Hp) (h h':Heap):Prop where
  keep:∀ b o,h.get? b=some o->H b=none->b∉fs->b∉ex->h'.get? b=some o
  slot:∀ b o,h.get? b=some o->H b=none->b∈fs->b∉ex->∃ sl,h'.get? b=some { o with slots:=sl }
  free:∀ b o,h.get? b=some o->H b=none->b∉ex->H' b=none
  there:∀ b o,h.get? b=some o->b∉ex->∃ o',h'.get? b=some o'
  tups:∀ b xs,H b=some (.tup xs)->H' b=some (.tup xs)
  frzs:∀ b o u,H b=some (.frz o u)->H' b=some (.frz o u)
  tbls:∀ b ps,H b=some (.tbl ps)->∃ more,H' b=some (.tbl (ps++more))
section
variable {fs ex:List Addr}{H H1:Hp}{h h1 h':Heap}{a x e:Addr}{o:HO}
theorem Un.any (u:Un fs ex H H1 h h1){b:Addr}{ob:Obj}(q:h.get? b=some ob)(n:H b=none)(a:b∉ex):∃ sl,h1.get? b=some { ob with slots:=sl }:=by
  by_cases c:b∈fs
  · exact u.slot b ob q n c a
  · exact⟨ob.slots,u.keep b ob q n c a⟩
theorem Un.kept (k:∀ b u,h.get? b=some u->h'.get? b=some u):Un fs ex H H h h' :=
  ⟨λb ob q _ _ _=>k b ob q,λb ob q _ _ _=>⟨ob.slots,k b ob q⟩,λ_ _ _ n _=>n,λb ob q _=>⟨ob,k b ob q⟩,λ_ _ q=>q,λ_ _ _ q=>q,λ_ a q=>⟨#[],by rw[q];simp⟩⟩
theorem Un.refl:Un fs ex H H h h:=Un.kept λ_ _ q=>q
theorem Un.laid (k:∀ b u,h.get? b=some u->h'.get? b=some u)(d:h.objs.size<=a)(hn:H a=none):Un fs ex H (upd H a o) h h' where
  keep:=λb u q _ _ _=>k b u q
  slot:=λb u q _ _ _=>⟨u.slots,k b u q⟩
  free:=λb u q n _=>by rw[zJ (JC (JF (Jp q) d))];exact n
  there:=λb u q _=>⟨u,k b u q⟩
  tups:=λb c q=>by rw[zJ (zH q hn)];exact q
  frzs:=λb u c q=>by rw[zJ (zH q hn)];exact q
  tbls:=λb e q=>⟨#[],by rw[zJ (zH q hn),q];simp⟩
theorem Un.write (c:Mut (H x))(l:e=x\/H e=some (.own x))(k:∀ b u,b≠e->h.get? b=some u->h'.get? b=some u)(f:∃ u,h'.get? e=some u):Un fs ex H (upd H x o) h h':=by
  have g:∀ b,H b=none->b≠x:=λb n z=>by subst z;rw[n]at c;exact c
  have i:∀ b,H b=none->b≠e:=λb n z=>by
    subst z;rcases l with r|r
    · exact g b n r
    · rw[n]at r;cases r
  have d:∀ b u,H b=some u->¬ Mut (some u)->b≠x:=λb u q nm z=>by subst z;rw[q]at c;exact nm c
  refine⟨λb u q n _ _=>k b u (i b n) q,λb u q n _ _=>⟨u.slots,k b u (i b n) q⟩,λb u q n _=>by rw[zJ (g b n)];exact n,λb u q _=>?_,
    λb j q=>by rw[zJ (d b _ q λz=>z)];exact q,λb u j q=>by rw[zJ (d b _ q λz=>z)];exact q,λb m q=>⟨#[],by rw[zJ (d b _ q λz=>z),q];simp⟩⟩
  by_cases a:b=e
  · subst a;exact f
  · exact⟨u,k b u a q⟩
end
noncomputable def trk (h:Heap)(H:Hp):List Addr:=(List.range h.objs.size).filter λa=>(H a).isSome
noncomputable def tZ (h:Heap)(H:Hp):Heap:=PySem.W.hideAll h (trk h H)
theorem jO (h:Heap)(H:Hp):(tZ h H).objs.size=h.objs.size:=PySem.W.hideAll_size _ _
theorem gX {h:Heap}{H:Hp}{b:Addr}{o:Obj}(e:h.get? b=some o)(n:H b=none):(tZ h H).get? b=some o :=
  PySem.W.hideAll_get _ e λa=>by
    have q:(H b).isSome=true:=(List.mem_filter.mp a).2;rw[n]at q;simp at q
theorem eL {h:Heap}{H:Hp}{b:Addr}{o:Obj}(e:(tZ h H).get? b=some o):h.get? b=some o/\H b=none:=by
  have a:h.get? b=some o:=PySem.W.of_hideAll (trk h H) e;refine⟨a,?_⟩
  cases q:H b with
  | none=>rfl
  | some x =>
    have c:b∈trk h H:=List.mem_filter.mpr ⟨YN.mpr (Jp a),by simp[q]⟩;have z:(tZ h H).get? b=none:=PySem.W.hideAll_none (trk h H) c;rw[z]at e;cases e
noncomputable def dc (g h:Heap)(L:Addr):List (Addr × Obj):=(List.range h.objs.size).filterMap λa=>if a=L\/(g.get? a).isSome=true then none else (h.get? a).map λo=>(a,o)
noncomputable def rest (g h:Heap)(L d:Addr):List (Addr × Obj):=(dc g h L).filter λp=>decide (p.1≠d)
structure Mod (K:PySem.W.Frag) (mg:Str->Option Value) (base:Heap):Prop where
  kin:K.In base
  glob:base.Ns mainGlobals mg
  blt:∃ mb,base.Ns builtinsNs mb/\∀ x:Str,x≠"__name__"->mb x=bootBuiltins x
  nolimit:base.NoLimit
structure Cx where
  prog:Program
  w:World
  K:PySem.W.Frag
  mg:Str->Option Value
  base:Heap
  A:Around
  N:List Str
  s₀:Shared
  H₀:Hp
  env:Env
  outer:List Env
  stack:List Env
  ex:List Addr
  fn:Str->Bool
  calm:Bool
  pn:List (Addr × Obj)
  xe:Value->Shared->Prop
noncomputable def frs (l:List Env):List Addr:=l.filterMap (·.frame)
noncomputable abbrev Cx.fs (X:Cx):List Addr:=frs X.outer
noncomputable def Vis (sc:Scope)(x:Str):Prop:=sc.names.lookup x=some .local \/ sc.names.lookup x=some .cell\/sc.names.lookup x=some .free
noncomputable def Loc (sc:Scope)(x:Str):Prop:=sc.names.lookup x=some .local \/ sc.names.lookup x=some .cell
noncomputable def Look (env:Env)(h:Heap)(m:Str->Option Value)(x:Str)(u:Value):Prop :=
  (env.kindOf x=some .local /\ m x=some u)\/((env.kindOf x=some .cell\/env.kindOf x=some .free)/\∃ c,env.cells.lookup x=some c/\h.IsCell c (some u))
structure Cx.Ok (X:Cx):Prop where
  mod:Mod X.K X.mg X.base
  kind:X.env.scope.kind=.function
  glob:X.env.globals=mainGlobals
  blt:X.env.builtins=builtinsNs
  above:X.s₀.heap.objs.size<=X.env.locals
  inj:∀ x y c,X.env.cells.lookup x=some c->X.env.cells.lookup y=some c->x=y
  has:∀ x,(X.env.kindOf x=some .cell\/X.env.kindOf x=some .free)->∃ c,X.env.cells.lookup x=some c
  cab:∀ x c,X.fn x=true->X.env.cells.lookup x=some c->X.s₀.heap.objs.size<=c
  hd:X.calm=true->X.A.handled=none
  frames:X.A.frames=some X.stack
  stk:X.stack=X.outer\/(X.stack=X.env::X.outer/\X.env.frame=some X.env.locals)
  exf:∀ b∈X.ex,b≠X.env.locals/\∀ x c,X.env.cells.lookup x=some c->c≠b
  bs:∀ b o,X.base.get? b=some o->X.s₀.heap.get? b=some o/\X.H₀ b=none
  bsz:X.base.objs.size<=X.s₀.heap.objs.size
  noex:∀ b o,X.base.get? b=some o->b∉X.ex
  exfs:∀ b∈X.ex,b∉X.fs
  funs:X.s₀.heap.FunFrames X.base X.outer
  frf:∀ b∈X.fs,X.H₀ b=none
structure Inv (X:Cx) (pins:List (Addr × Obj)) (σ:List (Option V)) (H:Hp) (s:Shared):Prop where
  ok:X.Ok
  os:s.os=X.s₀.os
  bare:AllBare s.gens
  base:Un X.fs X.ex X.H₀ H X.s₀.heap s.heap
  loc:∃ m,s.heap.Ns X.env.locals m/\∀ (i:Nat) (x:Str) (v:V),X.N[i]?=some x->σ[i]?=some (some v)->Vis X.env.scope x->∃ u,RelV v u/\Look X.env s.heap m x u
  cell:∀ x c,X.env.cells.lookup x=some c->∃ v,s.heap.IsCell c v
  free:H X.env.locals=none
  freeC:∀ x c,X.env.cells.lookup x=some c->H c=none
  pin:∀ p∈X.pn++pins,s.heap.get? p.1=some p.2/\H p.1=none/\p.1≠X.env.locals/\p.1∉X.fs/\∀ v,p.2.data≠.cell v
  hok:HOk X.prog X.w H s.heap
  len:σ.length=X.N.length
section
variable {X:Cx}{pins:List (Addr × Obj)}{σ:List (Option V)}{H H':Hp}{s:Shared}{h':Heap}
theorem Cx.Ok.nofr (ok:X.Ok){b:Addr}{o:Obj}(e:X.base.get? b=some o):b∉X.fs:=λa=>by
  have:=(ok.funs.mem a).1;rw[e]at this;cases this
theorem Inv.bs (I:Inv X pins σ H s):∀ b o,X.base.get? b=some o->s.heap.get? b=some o/\H b=none:=λb o e =>
  ⟨I.base.keep b o (I.ok.bs b o e).1 (I.ok.bs b o e).2 (I.ok.nofr e) (I.ok.noex b o e),I.base.free b o (I.ok.bs b o e).1 (I.ok.bs b o e).2 (I.ok.noex b o e)⟩
theorem Inv.bk (I:Inv X pins σ H s):∀ b o,X.base.get? b=some o->s.heap.get? b=some o:=λb o e=>(I.bs b o e).1
theorem Inv.mod (I:Inv X pins σ H s):Mod X.K X.mg X.base:=I.ok.mod
theorem Inv.kIn (I:Inv X pins σ H s):X.K.In s.heap:=I.ok.mod.kin.keeps I.bk
theorem Inv.lt (I:Inv X pins σ H s):X.env.locals<s.heap.objs.size:=let ⟨_,a,_⟩:=I.loc;a.lt
theorem Inv.sz (I:Inv X pins σ H s):X.s₀.heap.objs.size<=s.heap.objs.size:=JK I.ok.above (Nat.le_of_lt I.lt)
theorem Inv.nofs (I:Inv X pins σ H s){a:Addr}(h:s.heap.objs.size<=a):a∉X.fs:=λc=>by
  obtain⟨_,o,b,_⟩:=I.ok.funs.mem c;exact absurd (JF (Jp b) (JK I.sz h)) (YC _)
theorem Inv.cne (I:Inv X pins σ H s):∀ x c,X.env.cells.lookup x=some c->c≠X.env.locals:=λx c e z=>by
  obtain⟨v,o,d,f⟩:=I.cell x c e;obtain⟨m,⟨g,h,i,a,b,_⟩,_⟩:=I.loc;rw[z,a]at d;cases d;rw[b]at f;cases f
theorem Inv.funs (I:Inv X pins σ H s):s.heap.FunFrames X.base X.outer:=by
  have all:∀ (l:List Env),(∀ b∈frs l,b∈X.fs)->X.s₀.heap.FunFrames X.base l->s.heap.FunFrames X.base l:=by
    intro l
    induction l with
    | nil=>intro _ _;trivial
    | cons env r ih =>
      intro f j;obtain⟨k,⟨L,o,a,i,h,m⟩,g⟩:=j;have d:L∈X.fs:=f L (by unfold frs;rw[ZX,a];exact JL);obtain⟨n,e⟩:=I.base.slot L o h (I.ok.frf L d) d λz=>I.ok.exfs L z d;exact⟨k,⟨L,_,a,i,e,m⟩,ih (λb c=>f b (by unfold frs;rw[ZX,a];exact JG _ c)) g⟩
  exact all X.outer (λ_ c=>c) I.ok.funs
theorem Inv.stack (I:Inv X pins σ H s):s.heap.FunFrames X.base X.stack:=by
  rcases I.ok.stk with e|⟨e,b⟩
  · rw[e];exact I.funs
  · rw[e]
    obtain⟨m,a,_⟩:=I.loc;refine .cons (by rw[I.ok.kind];decide) b a ?_ I.funs;exact Heap.get?_none_of_le (JK I.ok.bsz I.ok.above)
theorem Inv.stkSub (I:Inv X pins σ H s):∀ b∈frs X.stack,b∈X.env.locals::X.fs:=λb a=>by
  rcases I.ok.stk with e|⟨e,c⟩
  · rw[e]at a;exact JG _ a
  · rw[e]at a
    unfold frs at a;rw[ZX,c]at a;exact a
theorem Inv.stkFree (I:Inv X pins σ H s):∀ b∈frs X.stack,H b=none:=λb a=>by
  rcases Jq.mp (I.stkSub b a) with e|a
  · rw[e];exact I.free
  · obtain⟨_,o,c,_⟩:=I.ok.funs.mem a
    exact I.base.free b o c (I.ok.frf b a) λz=>I.ok.exfs b z a
theorem Inv.step {g':Array GenState}{t':Nat}{d':Drawn}{ch:List Addr}(I:Inv X pins σ H s)(g:∀ b∈ch,(b∈X.ex\/X.s₀.heap.objs.size<=b)/\b≠X.env.locals/\(∀ x c,X.env.cells.lookup x=some c->c≠b)/\∀ p∈X.pn++pins,p.1≠b)(keep:∀ b o,b≠X.env.locals->b∉X.fs->b∉ch->s.heap.get? b=some o->H b=none->h'.get? b=some o)(slot:∀ b o,b≠X.env.locals->b∈X.fs->b∉ch->s.heap.get? b=some o->H b=none->∃ sl,h'.get? b=some { o with slots:=sl })(free:∀ b o,b∉ch->s.heap.get? b=some o->H b=none->H' b=none)(there:∀ b o,b∉ch->s.heap.get? b=some o->∃ A,h'.get? b=some A)(tups:∀ b t,H b=some (.tup t)->H' b=some (.tup t))(D:∀ b o u,H b=some (.frz o u)->H' b=some (.frz o u))(C:∀ b E,H b=some (.tbl E)->∃ more,H' b=some (.tbl (E++more)))(ns:∀ m,s.heap.Ns X.env.locals m->h'.Ns X.env.locals m)(J:HOk X.prog X.w H' h')(R:AllBare g') :
    Inv X pins σ H' { s with heap:=h',gens:=g',drawn:=d',toks:=t' }:=by
  have B:∀ b o,X.s₀.heap.get? b=some o->b≠X.env.locals:=λb o e=>JC (JF (Jp e) I.ok.above)
  have j:∀ b o,X.s₀.heap.get? b=some o->b∉X.ex->b∉ch:=λb o e a w=>by
    rcases (g b w).1 with z|z
    · exact a z
    · exact absurd (JF (Jp e) z) (YC _)
  have cellK:∀ x c,X.env.cells.lookup x=some c->∀ v,s.heap.IsCell c v->h'.IsCell c v:=λx c e v ⟨o,y,F⟩=>by
    have f:c∉ch:=λz=>(g c z).2.2.1 x c e rfl;by_cases M:c∈X.fs
    · obtain⟨sl,q⟩:=slot c o (I.cne x c e) M f y (I.freeC x c e)
      exact⟨_,q,F⟩
    · exact⟨o,keep c o (I.cne x c e) M f y (I.freeC x c e),F⟩
  refine⟨I.ok,I.os,R,⟨λb o e n w a=>?_,λb o e n w a=>?_,λb o e n a=>?_,λb o e a=>?_,λb t e=>tups b t (I.base.tups b t e),λb o t e=>D b o t (I.base.frzs b o t e),λb E e=>?_⟩,?_,λx c e=>?_,?_,λx c e=>?_,λp L=>?_,J,I.len⟩
  · exact keep b o (B b o e) w (j b o e a) (I.base.keep b o e n w a) (I.base.free b o e n a)
  · obtain⟨sl,h⟩:=I.base.slot b o e n w a
    obtain⟨G,e2⟩:=slot b _ (B b o e) w (j b o e a) h (I.base.free b o e n a);exact⟨G,e2⟩
  · obtain⟨A,h⟩:=I.base.there b o e a
    exact free b A (j b o e a) h (I.base.free b o e n a)
  · obtain⟨A,h⟩:=I.base.there b o e a
    exact there b A (j b o e a) h
  · obtain⟨O,h⟩:=I.base.tbls b E e
    obtain⟨N,e2⟩:=C b _ h;exact⟨O++N,by rw[e2,Array.append_assoc]⟩
  · obtain⟨m,P,Q⟩:=I.loc
    refine⟨m,ns m P,λi x v h e2 S=>?_⟩;obtain⟨u,r,l⟩:=Q i x v h e2 S;refine⟨u,r,?_⟩;rcases l with l|⟨k,c,e,z⟩
    · exact .inl l
    · exact .inr ⟨k,c,e,cellK x c e _ z⟩
  · obtain⟨v,z⟩:=I.cell x c e
    exact⟨v,cellK x c e v z⟩
  · obtain⟨m,⟨o,_,_,y,_⟩,_⟩:=I.loc
    exact free _ o (λz=>(g _ z).2.1 rfl) y I.free
  · obtain⟨v,o,y,F⟩:=I.cell x c e
    exact free c o (λz=>(g c z).2.2.1 x c e rfl) y (I.freeC x c e)
  · obtain⟨e,n,ne,K,d⟩:=I.pin p L
    have f:p.1∉ch:=λz=>(g p.1 z).2.2.2 p L rfl;exact⟨keep p.1 p.2 ne K f e n,free p.1 p.2 f e n,ne,K,d⟩
theorem Inv.un {t':Nat}(I:Inv X pins σ H s)(u:Un X.fs [] H H' s.heap h')(hok:HOk X.prog X.w H' h'):Inv X pins σ H' { s with heap:=h',toks:=t' }:=by
  obtain⟨m,⟨o,q,t,g,r⟩,_⟩:=id I.loc;obtain⟨k,j⟩:=u.any g I.free (by simp)
  exact I.step (g':=s.gens) (d':=s.drawn) (ch:=[]) (λ_ z=>nomatch z) (λb o _ c _ e n=>u.keep b o e n c (by simp)) (λb o _ c _ e n=>u.slot b o e n c (by simp)) (λb o _ e n=>u.free b o e n (by simp)) (λb o _ e=>u.there b o e (by simp)) u.tups u.frzs u.tbls (λp i=>by
    obtain⟨l,d,f,a,h⟩:=i;rw[g]at a;cases a
    exact⟨_,d,f,j,h⟩) hok I.bare
theorem Inv.call {g':Array GenState}{t':Nat}{d':Drawn}{ch:List Addr}(I:Inv X pins σ H s)(u:Un (frs X.stack) ch H H' s.heap h')(hok:HOk X.prog X.w H' h')(q:AllBare g')(f:∀ b∈ch,(b∈X.ex\/X.s₀.heap.objs.size<=b)/\b≠X.env.locals/\(∀ x c,X.env.cells.lookup x=some c->c≠b)/\∀ p∈X.pn++pins,p.1≠b) :
    Inv X pins σ H' { s with heap:=h',gens:=g',drawn:=d',toks:=t' }:=by
  obtain⟨m,⟨o,A,B,j,r⟩,_⟩:=id I.loc;obtain⟨v,g⟩:=u.any j I.free λz=>(f _ z).2.1 rfl
  exact I.step (ch:=ch) f (λb o g t a e n=>u.keep b o e n (λz=>(Jq.mp (I.stkSub b z)).elim g t) a) (λb o _ _ a e n=>u.any e n a) (λb o a e n=>u.free b o e n a) (λb o a e=>u.there b o e a) u.tups u.frzs u.tbls (λy l=>by
    obtain⟨w,h,i,d,k⟩:=l;rw[j]at d;cases d
    exact⟨_,h,i,g,k⟩) hok q
theorem Inv.turned {t':Nat}{it:Addr}(I:Inv X pins σ H s)(k:∀ b o,b≠it->s.heap.get? b=some o->h'.get? b=some o)(hn:H it=none)(f:it≠X.env.locals)(t:it∈X.ex\/X.s₀.heap.objs.size<=it)(l:∀ x c,X.env.cells.lookup x=some c->c≠it)(j:∀ p∈X.pn++pins,p.1≠it):Inv X pins σ H { s with heap:=h',toks:=t' }:=by
  have d:∀ b u,H b=some u->b≠it:=λb u e z=>by rw[z,hn]at e;cases e
  refine I.step (g':=s.gens) (d':=s.drawn) (ch:=[it]) (λb i=>?_) (λb o _ _ a e _=>k b o (λz=>a (by simp[z])) e) (λb o _ _ a e _=>⟨o.slots,k b o (λz=>a (by simp[z])) e⟩) (λ_ _ _ _ n=>n)
    (λb o a e=>⟨o,k b o (λz=>a (by simp[z])) e⟩) (λ_ _ e=>e) (λ_ _ _ e=>e) (λb A e=>⟨#[],by rw[e];simp⟩) (λm h=>?_) (λb u e=>?_) I.bare
  · have e:b=it:=by simpa using i
    subst e;exact⟨t,f,l,j⟩
  · obtain⟨o,w,y,g,r⟩:=h
    exact⟨o,w,y,k _ o (Ne.symm f) g,r⟩
  · refine(I.hok b u e).stay (λc v a q=>k c v ?_ q) (λ_ q=>q) λ_ _ q=>q
    rcases a with z|z
    · rw[z];exact d b u e
    · exact d c _ z
theorem Inv.tok (I:Inv X pins σ H s)(t:Nat):Inv X pins σ H { s with toks:=t }:=I.un (h':=s.heap) (t':=t) Un.refl I.hok
theorem Inv.kept {t':Nat}(I:Inv X pins σ H s)(k:∀ b u,s.heap.get? b=some u->h'.get? b=some u):Inv X pins σ H { s with heap:=h',toks:=t' }:=I.un (Un.kept k) (I.hok.kept k)
theorem Inv.laid {a:Addr}{o:HO}{t':Nat}(I:Inv X pins σ H s)(k:∀ b u,s.heap.get? b=some u->h'.get? b=some u)(c:s.heap.objs.size<=a)(new:ObjOk X.prog X.w (upd H a o) h' a o) :
    Inv X pins σ (upd H a o) { s with heap:=h',toks:=t' }:=I.un (Un.laid k c (I.hok.fresh c)) (I.hok.laid k c new)
theorem Inv.write {x e:Addr}{o:HO}{t':Nat}(I:Inv X pins σ H s)(c:Mut (H x))(d:e=x\/H e=some (.own x))(k:∀ b u,b≠e->s.heap.get? b=some u->h'.get? b=some u)(a:∃ u,h'.get? e=some u)(new:ObjOk X.prog X.w (upd H x o) h' x o):Inv X pins σ (upd H x o) { s with heap:=h',toks:=t' }:=I.un (Un.write c d k a) (I.hok.write c d k a new)
theorem Inv.pins_of {a:List (Addr × Obj)}(I:Inv X pins σ H s)(h:∀ p∈a,s.heap.get? p.1=some p.2/\H p.1=none/\p.1≠X.env.locals/\p.1∉X.fs/\∀ v,p.2.data≠.cell v):Inv X a σ H s :=
  ⟨I.ok,I.os,I.bare,I.base,I.loc,I.cell,I.free,I.freeC,λp b=>(Ju.mp b).elim (λz=>I.pin p (ZR _ z)) (h p),I.hok,I.len⟩
theorem pQ {N:List Str}(c:N.Nodup){i j:Nat}{x:Str}(a:N[i]?=some x)(b:N[j]?=some x):i=j:=by
  obtain⟨f,d⟩:=Ja.mp a;obtain⟨e,e2⟩:=Ja.mp b;exact(List.getElem_inj c).mp (d.trans e2.symm)
theorem sJ {M:Model}{A:Around}{E:Value->Shared->Prop}{i:Nat}{x:Str}{v:V}{u:Value}{Q:Unit->Shared->Prop}(I:Inv X pins σ H s)(hN:X.N.Nodup)(hi:X.N[i]?=some x)(t:Loc X.env.scope x)(r:RelV v u)(h:∀ W,Inv X pins (σ.set i (some v)) H W->(∃ a,Heap.SameBut a s.heap W.heap/\(a=X.env.locals\/X.env.cells.lookup x=some a))->Q () W)(hf:X.fn x=true\/X.env.scope.names.lookup x=some .local:=by first|exact .inl rfl|exact .inr rfl|assumption):wpAny M A (storeName X.env x u) Q E s:=by
  obtain⟨m,hn,hl⟩:=id I.loc;have O:(X.env.scope.kind == .class || (X.env.scope.kind == .module && X.env.locals != X.env.globals))=false:=by rw[I.ok.kind];rfl
  have C:i<σ.length:=by rw[I.len];exact(Ja.mp hi).1
  have cne:=I.cne
  have tracked:∀ {a:Addr}{h':Heap},(∃ o,s.heap.get? a=some o/\H a=none)->Heap.SameBut a s.heap h'->HOk X.prog X.w H h':=λ{a h'} ha f b ob e=>by
    obtain⟨_,_,w⟩:=ha;refine(I.hok b ob e).stay (λc P l q=>(f.2 c ?_).trans q) (λ_ q=>q) λ_ _ q=>q;rintro rfl;rcases l with rfl|l
    · rw[w]at e;cases e
    · rw[w]at l;cases l
  rcases t with B|B
  · refine wpAny_storeName_local B hn (λh' ao f=>?_) O
    obtain⟨oL,_,_,ab,_⟩:=id hn;refine h _ ⟨I.ok,I.os,I.bare,⟨λb o e n F t=>?_,λb o e n F t=>?_,I.base.free,λb o e t=>?_,I.base.tups,I.base.frzs,I.base.tbls⟩,⟨_,ao,λj y S g e2 e3=>?_⟩,λy c e=>?_,I.free,I.freeC,λp hp=>?_,tracked ⟨oL,ab,I.free⟩ f,by simpa using I.len⟩ ⟨_,f,.inl rfl⟩
    · exact(f.2 b (JC (JF (Jp e) I.ok.above))).trans (I.base.keep b o e n F t)
    · obtain⟨U,g⟩:=I.base.slot b o e n F t
      exact⟨U,(f.2 b (JC (JF (Jp e) I.ok.above))).trans g⟩
    · obtain⟨Z,g⟩:=I.base.there b o e t
      exact⟨Z,(f.2 b (JC (JF (Jp e) I.ok.above))).trans g⟩
    · by_cases D:j=i
      · subst D
        rw[hi]at g;cases g;rw[List.getElem?_set_self C]at e2;cases e2;exact⟨u,r,.inl ⟨B,by simp⟩⟩
      · rw[List.getElem?_set_ne (Ne.symm D)]at e2
        obtain⟨T,Y,q⟩:=hl j y S g e2 e3;refine⟨T,Y,?_⟩;rcases q with ⟨k,e⟩|⟨k,c,e,z⟩
        · refine .inl ⟨k,?_⟩
          have:y≠x:=λe=>D (pQ hN g (e ▸ hi));simp[this,e]
        · exact .inr ⟨k,c,e,z.sameBut f (cne y c e)⟩
    · obtain⟨P,z⟩:=I.cell y c e
      exact⟨P,z.sameBut f (cne y c e)⟩
    · obtain⟨e,n,ne,nf,d⟩:=I.pin p hp
      exact⟨(f.2 p.1 ne).trans e,n,ne,nf,d⟩
  · have G:X.fn x=true:=by
      rcases hf with z|z
      · exact z
      · rw[z]at B;cases B
    obtain⟨c,l⟩:=I.ok.has x (.inl B);obtain⟨P,z⟩:=I.cell x c l;refine wpAny_storeName_cell I.ok.kind B l z (λh' L f=>?_);obtain⟨oc,J,N⟩:=id z;refine h { s with heap:=h' } ⟨I.ok,I.os,I.bare,⟨λb o e n F t=>?_,λb o e n F t=>?_,I.base.free,λb o e t=>?_,I.base.tups,I.base.frzs,I.base.tbls⟩,⟨m,hn.sameBut f (Ne.symm (cne x c l)),λj y S g e2 e3=>?_⟩,λy R e=>?_,I.free,I.freeC,λp hp=>?_,tracked ⟨oc,J,I.freeC x c l⟩ f,by simpa using I.len⟩ ⟨c,f,.inr l⟩
    · exact(f.2 b (JC (JF (Jp e) (I.ok.cab x c G l)))).trans (I.base.keep b o e n F t)
    · obtain⟨U,g⟩:=I.base.slot b o e n F t
      exact⟨U,(f.2 b (JC (JF (Jp e) (I.ok.cab x c G l)))).trans g⟩
    · obtain⟨Z,g⟩:=I.base.there b o e t
      exact⟨Z,(f.2 b (JC (JF (Jp e) (I.ok.cab x c G l)))).trans g⟩
    · by_cases D:j=i
      · subst D
        rw[hi]at g;cases g;rw[List.getElem?_set_self C]at e2;cases e2;exact⟨u,r,.inr ⟨.inl B,c,l,L⟩⟩
      · rw[List.getElem?_set_ne (Ne.symm D)]at e2
        obtain⟨T,Y,q⟩:=hl j y S g e2 e3;refine⟨T,Y,?_⟩;rcases q with q|⟨k,R,e,z'⟩
        · exact .inl q
        · refine .inr ⟨k,R,e,z'.sameBut f ?_⟩
          rintro rfl;exact D (pQ hN g (I.ok.inj _ _ _ e l ▸ hi))
    · by_cases K:R=c
      · subst K;exact⟨_,L⟩
      · obtain⟨w2,z2⟩:=I.cell y R e
        exact⟨w2,z2.sameBut f K⟩
    · obtain⟨e,n,ne,nf,d⟩:=I.pin p hp
      refine⟨(f.2 p.1 ?_).trans e,n,ne,nf,d⟩;intro q;rw[q,J]at e;have q':oc=p.2:=Jt e;exact d P (by rw[<- q'];exact N)
theorem xU {M:Model}{A:Around}{E:Value->Shared->Prop}{i:Nat}{x:Str}{v:V}{u:Value}{Q:Unit->Shared->Prop}(I:Inv X pins σ H s)(d:X.N.Nodup)(hi:X.N[i]?=some x)(b:Loc X.env.scope x)(r:RelV v u)(h:∀ a,Inv X pins (σ.set i (some v)) H a->Q () a)(c:X.fn x=true\/X.env.scope.names.lookup x=some .local:=by first|exact .inl rfl|exact .inr rfl|assumption):wpAny M A (storeName X.env x u) Q E s :=
  sJ I d hi b r (λa e _=>h a e) c
theorem Inv.call' {a:Shared}{ch:List Addr}(I:Inv X pins σ H s)(g:a.os=s.os)(u:Un (frs X.stack) ch H H' s.heap a.heap)(hok:HOk X.prog X.w H' a.heap)(h:AllBare a.gens)(d:∀ b∈ch,(b∈X.ex\/X.s₀.heap.objs.size<=b)/\b≠X.env.locals/\(∀ x c,X.env.cells.lookup x=some c->c≠b)/\∀ p∈X.pn++pins,p.1≠b):Inv X pins σ H' a:=by
  obtain⟨h',g',d',t',f⟩:=a;have e:f=s.os:=g;subst e;exact I.call (g':=g') (t':=t') (d':=d') u hok h d
end
noncomputable abbrev XK:=Value->Option Addr->Hp->Prop
noncomputable abbrev St:=List (Option V)
noncomputable abbrev VK:=V->Hp->Prop
noncomputable abbrev TE:=St->Hp->VK->Prop
noncomputable abbrev TT:=St->Hp->(Bool->Hp->Prop)->Prop
noncomputable abbrev TA:=St->Hp->(List V->Hp->Prop)->Prop
structure Ends where
  nx:St->Hp->Prop
  rt:VK
  bk:St->Hp->Prop:=λ_ _=>False
  ct:St->Hp->Prop:=λ_ _=>False
noncomputable abbrev TS:=Ends->St->Hp->Prop
noncomputable def EP (X:Cx)(pins:List (Addr × Obj))(σ:St)(Q:VK)(u:Value)(b:Shared):Prop:=∃ v a,Inv X pins σ a b/\RelV v u/\Q v a
noncomputable def TP (X:Cx)(pins:List (Addr × Obj))(σ:St)(Q:Bool->Hp->Prop)(b:Bool)(c:Shared):Prop:=∃ a,Inv X pins σ a c/\Q b a
noncomputable def AP (X:Cx)(pins:List (Addr × Obj))(σ:St)(Q:List V->Hp->Prop)(us:List Value)(c:Shared):Prop:=∃ a b,Inv X pins σ b c/\Vals a us/\Q a b
noncomputable def SP (X:Cx)(pins:List (Addr × Obj))(D:Ends)(f:Flow)(c:Shared):Prop :=
  match f with
  | .next=>∃ a b,Inv X pins a b c/\D.nx a b
  | .brk=>∃ a b,Inv X pins a b c/\D.bk a b
  | .cont=>∃ a b,Inv X pins a b c/\D.ct a b
  | .ret u=>∃ v a b,Inv X pins a b c/\RelV v u/\D.rt v b
noncomputable def PE (X:Cx)(e:Expr)(t:TE):Prop :=
  ∀ (pins:List (Addr × Obj)) (s:Shared) (σ:St) (H:Hp) (Q:VK),Inv X pins σ H s->t σ H Q->wpAny (model X.prog X.w) X.A (eval e X.env) (EP X pins σ Q) X.xe s
noncomputable def PT (X:Cx)(e:Expr)(t:TT):Prop :=
  ∀ (pins:List (Addr × Obj)) (s:Shared) (σ:St) (H:Hp) (Q:Bool->Hp->Prop),Inv X pins σ H s->t σ H Q->wpAny (model X.prog X.w) X.A (isTrue e X.env (eval e X.env)) (TP X pins σ Q) X.xe s
noncomputable def PW (X:Cx)(e:Expr)(t:TT):Prop :=
  ∀ (whole:Sem Value) (pins:List (Addr × Obj)) (s:Shared) (σ:St) (H:Hp) (Q:Bool->Hp->Prop),Inv X pins σ H s->t σ H Q->wpAny (model X.prog X.w) X.A (isTrue e X.env whole) (TP X pins σ Q) X.xe s
theorem PW.pt {X:Cx}{e:Expr}{t:TT}(h:PW X e t):PT X e t:=h _
noncomputable def PA (X:Cx)(a:List Expr)(t:TA):Prop :=
  ∀ (pos:Pos) (pins:List (Addr × Obj)) (s:Shared) (σ:St) (H:Hp) (Q:List V->Hp->Prop),Inv X pins σ H s->t σ H Q->wpAny (model X.prog X.w) X.A (spliced (backTo pos (starEach a X.env))) (AP X pins σ Q) X.xe s
noncomputable def PS (X:Cx)(st:Stmt)(t:TS):Prop :=
  ∀ (pins:List (Addr × Obj)) (s:Shared) (σ:St) (H:Hp) (D:Ends),Inv X pins σ H s->t D σ H->wpAny (model X.prog X.w) X.A (exec st X.env) (SP X pins D) X.xe s
noncomputable def PSs (X:Cx)(st:List Stmt)(t:TS):Prop :=
  ∀ (pins:List (Addr × Obj)) (s:Shared) (σ:St) (H:Hp) (D:Ends),Inv X pins σ H s->t D σ H->wpAny (model X.prog X.w) X.A (execs st X.env) (SP X pins D) X.xe s
theorem thn {α:Type}{t:Sem α}{Q b:α->Shared->Prop}{M:Model}{A:Around}{E:Value->Shared->Prop}{s:Shared}(h:wpAny M A t Q E s)(c:∀ a s,Q a s->b a s):wpAny M A t b E s:=JM h c λ_ _ x=>x
section
variable {X:Cx}
noncomputable def fI (i:Nat):TE:=λσ H Q=>∃ v,σ[i]?=some (some v)/\Q v H
noncomputable def tC (v:V):TE:=λ_ H Q=>Q v H
theorem cw {i:Nat}{x:Str}{pos:Pos}(o:X.N[i]?=some x) (g:Vis X.env.scope x) (hd:(x == ("__debug__":Str))=false:=by decide) (d:(x == ("__classdict__":Str))=false:=by decide):PE X (.Name x pos) (fI i):=by
  intro pins s σ H Q I h;obtain⟨v,e,h⟩:=h;obtain⟨m,j,n⟩:=I.loc;obtain⟨u,r,l⟩:=n i x v o e g;have fin:EP X pins σ Q u s:=⟨v,H,I,r,h⟩;rcases l with ⟨b,k⟩|⟨b,c,f,a⟩
  · exact wpAny_Name (wpAny_loadName_local I.ok.kind b j k fin) hd
  · rcases b with b|b
    · exact wpAny_Name (wpAny_loadName_cell I.ok.kind b f a fin) hd
    · exact wpAny_Name (wpAny_loadName_free I.ok.kind b f a fin d) hd
theorem zE {i j pos}:PE X (.Constant (.int i) j pos) (tC (.int i)):=λ_ _ _ H _ I h=>wpAny_Constant_int ⟨.int i,H,I.tok _,⟨_,rfl⟩,h⟩
theorem xA {b j pos}:PE X (.Constant (.bool b) j pos) (tC (.bl b)):=λ_ _ _ H _ I h=>Constant_bool ⟨.bl b,H,I,rfl,h⟩
theorem qB {j pos}:PE X (.Constant .none j pos) (tC .non):=λ_ _ _ H _ I h=>Constant_none ⟨.non,H,I,rfl,h⟩
theorem ie {x j pos}:PE X (.Constant (.str x) j pos) (tC (.str x)):=λ_ _ _ H _ I h=>Calls.Constant_str ⟨.str x,H,I.tok _,⟨_,rfl⟩,h⟩
noncomputable def Gl (X:Cx)(x:Str):Prop:=X.env.kindOf x=some .globalImplicit
theorem mn {E:Value->Shared->Prop}{pins:List (Addr × Obj)}{s:Shared}{σ:St}{H:Hp}{x:Str}{u:Value}{pos:Pos}{Q:Value->Shared->Prop}(I:Inv X pins σ H s) (a:Gl X x) (hm:X.mg x=some u) (h:Q u s)
    (hd:(x == ("__debug__":Str))=false:=by decide):wpAny (model X.prog X.w) X.A (eval (.Name x pos) X.env) Q E s :=
  Calls.Name_function_global I.ok.kind a (Calls.loadGlobal_global (by rw[I.ok.glob];exact I.mod.glob.keeps I.bk) hm h) hd
theorem xq {E:Value->Shared->Prop}{pins:List (Addr × Obj)}{s:Shared}{σ:St}{H:Hp}{x:Str}{u:Value}{pos:Pos}{Q:Value->Shared->Prop}(I:Inv X pins σ H s) (b:Gl X x) (hm:X.mg x=none) (a:bootBuiltins x=some u) (h:Q u s)
    (hn:x≠"__name__":=by decide) (c:(x == ("__debug__":Str))=false:=by decide):wpAny (model X.prog X.w) X.A (eval (.Name x pos) X.env) Q E s:=by
  obtain⟨f,e,d⟩:=I.mod.blt;exact Calls.Name_function_global I.ok.kind b (Calls.loadGlobal_builtin (by rw[I.ok.glob];exact I.mod.glob.keeps I.bk) hm (by rw[I.ok.blt];exact e.keeps I.bk) ((d x hn).trans a) h) c
theorem yp {x:Str}{v:V}{u:Value}{pos:Pos}(b:Gl X x) (hm:X.mg x=none) (a:bootBuiltins x=some u) (r:RelV v u) (hn:x≠"__name__":=by decide) (c:(x == ("__debug__":Str))=false:=by decide):PE X (.Name x pos) (tC v) :=
  λ_ _ _ H _ I h=>xq I b hm a ⟨v,H,I,r,h⟩ hn c
variable {a b:Expr}{ta tb:TE}{pos:Pos}
noncomputable def PC (X:Cx)(op:CmpOp)(a b:Expr)(t:TE):Prop :=
  ∀ (pins:List (Addr × Obj)) (s:Shared) (σ:St) (H:Hp) (Q:VK),Inv X pins σ H s->t σ H Q ->
    wpAny (model X.prog X.w) X.A (eval a X.env) (λv d=>wpAny (model X.prog X.w) X.A (eval b X.env) (λu c=>wpAny (model X.prog X.w) X.A (compareOp op v u) (EP X pins σ Q) X.xe c) X.xe d) X.xe s
noncomputable def tB (t:TE):TT:=λσ H Q=>t σ H λx a=>∃ c,x=.bl c/\Q c a
theorem rq {op:CmpOp}{t:TE}(h:PC X op a b t)(e:behindInMarks op b=false:=by first|exact nobehind _ (by decide) (by decide)|rfl):PT X (.Compare a [op] [b] pos) (tB t):=by
  intro pins s σ H Q I i;refine wpAny_isTrue_Compare1 (thn (h pins s σ H _ I i) λv o e=>thn e λu n j=>thn j λc m ⟨x,l,k,f,g⟩=>?_) e;obtain⟨d,rfl,q⟩:=g;cases f;exact Yy ⟨l,k,q⟩
theorem xj {e:Expr}{t:TE}(h:PE X e t)(f:∀ whole,isTrue e X.env whole=(do let v <- whole;standAt e.pos;holding [v] (truthy v)):=by intro _;rfl):PT X e (tB t):=by
  intro pins s σ H Q I c;refine isTrue_plain (thn (h pins s σ H _ I c) λv j ⟨x,i,g,a,b⟩=>?_) (f _);obtain⟨d,rfl,q⟩:=b;cases a;exact Yy ⟨i,g,q⟩
variable {tA tB':TT}{rest:List Expr}
noncomputable def zan (t u:TT):TT:=λσ H Q=>t σ H λc a=>if c=true then u σ a Q else Q false a
noncomputable def tOr (t u:TT):TT:=λσ H Q=>t σ H λc a=>if c=true then Q true a else u σ a Q
noncomputable def zah (t:TT):TT:=λσ H Q=>t σ H λc a=>Q (!c) a
theorem mK (ha:PT X a tA):PW X (.BoolOp .And [a] pos) tA:=by
  intro b pins s σ H Q I h;refine isTrue_and (thn (ha pins s σ H Q I h) λc d e=>?_)
  cases c with
  | true=>exact isTrue_and_nil e
  | false=>exact e
theorem wn (ha:PT X a tA):PW X (.BoolOp .Or [a] pos) tA:=by
  intro b pins s σ H Q I h;refine isTrue_or (thn (ha pins s σ H Q I h) λc d e=>?_)
  cases c with
  | false=>exact isTrue_or_nil e
  | true=>exact e
theorem nH (ha:PT X a tA)(hb:PW X (.BoolOp .And (b::rest) pos) tB'):PW X (.BoolOp .And (a::b::rest) pos) (zan tA tB'):=by
  intro g pins s σ H Q I h;refine isTrue_and (thn (ha pins s σ H _ I h) λc i ⟨f,e,d⟩=>?_)
  cases c with
  | true=>exact hb g pins i σ f Q e d
  | false=>exact⟨f,e,d⟩
theorem vf (ha:PT X a tA)(hb:PW X (.BoolOp .Or (b::rest) pos) tB'):PW X (.BoolOp .Or (a::b::rest) pos) (tOr tA tB'):=by
  intro g pins s σ H Q I h;refine isTrue_or (thn (ha pins s σ H _ I h) λc i ⟨f,e,d⟩=>?_)
  cases c with
  | true=>exact⟨f,e,d⟩
  | false=>exact hb g pins i σ f Q e d
theorem wH (ha:PT X a tA):PT X (.UnaryOp .Not a pos) (zah tA):=by
  intro pins s σ H Q I h;exact isTrue_not (ha pins s σ H (λc b=>Q (!c) b) I h)
noncomputable def aK (ta tb:TE):TE:=λσ H Q=>ta σ H λx a=>∃ c,x=.bl c/\if c=true then tb σ a Q else Q (.bl false) a
noncomputable def aB (ta:TE):TE:=λσ H Q=>ta σ H λx a=>∃ c,x=.bl c/\Q (.bl (!c)) a
theorem vR {op}{t:TE}(h:PE X a t):PE X (.BoolOp op [a] pos) t:=λpins s σ H Q I b=>BoolOp_one (h pins s σ H Q I b)
theorem wI (ha:PE X a ta)(hb:PE X (.BoolOp .And (b::rest) pos) tb):PE X (.BoolOp .And (a::b::rest) pos) (aK ta tb):=by
  intro pins s σ H Q I h;refine BoolOp_and (thn (ha pins s σ H _ I h) λv g ⟨x,f,e,i,d⟩=>?_);obtain⟨c,rfl,d⟩:=d;cases i;refine Yy ?_
  cases c with
  | true=>exact hb pins g σ f Q e d
  | false=>exact⟨.bl false,f,e,rfl,d⟩
theorem ig (ha:PE X a ta):PE X (.UnaryOp .Not a pos) (aB ta):=by
  intro pins s σ H Q I h;refine UnaryOp_ (thn (ha pins s σ H _ I h) λv g ⟨x,f,e,d,b⟩=>?_);obtain⟨c,rfl,b⟩:=b;cases d;exact not_of (Yy ⟨.bl (!c),f,e,rfl,b⟩)
noncomputable def tIf (t:TT)(ta tb:TE):TE:=λσ H Q=>t σ H λc a=>if c=true then ta σ a Q else tb σ a Q
theorem pD {c:Expr}(j:PT X c tA)(ha:PE X a ta)(hb:PE X b tb):PE X (.IfExp c a b pos) (tIf tA ta tb):=by
  intro pins s σ H Q I h;refine wpAny_IfExp (thn (j pins s σ H _ I h) λd e ⟨i,g,f⟩=>?_)
  cases d with
  | true=>exact ha pins e σ i Q g f
  | false=>exact hb pins e σ i Q g f
end
noncomputable def SqL (K:PySem.W.Frag)(H:Hp)(a:Addr)(xs:List V):Prop :=
  Rd H a (.lst xs) \/
    ∃ (o:Obj) (b:Array Value) (n:Nat),K.lookup a=some o/\o.cls=.type "list"/\o.dict=none/\o.data=.seq b n/\b.size<=sizeLine/\Vals xs b.toList
noncomputable def SqT (K:PySem.W.Frag)(H:Hp)(a:Addr)(xs:List V):Prop :=
  Rd H a (.tup xs) \/
    ∃ (o:Obj) (b:Array Value) (n:Nat),K.lookup a=some o/\o.cls=.type "tuple"/\o.data=.seq b n/\b.size<=sizeLine/\Vals xs b.toList
noncomputable def zaP:Value->Option V
  | .none=>some .non
  | .bool b=>some (.bl b)
  | .int i _=>some (.int i)
  | .str x _=>some (.str x)
  | .bytes b _=>some (.byt b)
  | .float b _=>some (.flt b)
  | .ref a=>some (.ref a)
  | .type n=>some (.ty n)
  | _=>none
theorem RelV.abs {x:V}{u:Value}(r:RelV x u):zaP u=some x:=by
  cases x with
  | non=>cases r;rfl
  | bl _=>cases r;rfl
  | int _=>obtain⟨t,rfl⟩:=r;rfl
  | str _=>obtain⟨t,rfl⟩:=r;rfl
  | byt _=>obtain⟨t,rfl⟩:=r;rfl
  | flt _=>obtain⟨t,rfl⟩:=r;rfl
  | ref _=>cases r;rfl
  | ty _=>cases r;rfl
theorem RelV.inj {x y:V}{u:Value}(r:RelV x u)(q:RelV y u):x=y:=Jt (r.abs.symm.trans q.abs)
theorem Vals.inj:∀ {xs ys:List V}{us:List Value},Vals xs us->Vals ys us->xs=ys
  | _,_,_,.nil,.nil=>rfl
  | _,_,_,.cons r t,.cons a t'=>by rw[r.inj a,Vals.inj t t']
section
variable {X:Cx}{pins:List (Addr × Obj)}{σ:St}{H:Hp}{s:Shared}{a:Addr}{xs ys:List V}
theorem SqL.of {K:PySem.W.Frag}(h:H a=some (.lst xs)):SqL K H a xs:=.inl (.inl h)
theorem SqT.of {K:PySem.W.Frag}(h:H a=some (.tup xs)):SqT K H a xs:=.inl (.inl h)
theorem Inv.list (I:Inv X pins σ H s)(h:SqL X.K H a xs):∃ its:List Value,Vals xs its/\PlainL s.heap a its.toArray/\xs.length<=sizeLine:=by
  rcases h with h|⟨o,its,n,c,f,d,b,g,r⟩
  · obtain⟨z,its,n,r,e⟩:=h.ok I.hok
    exact⟨its,r,⟨_,n,e,rfl,rfl,rfl⟩,z⟩
  · refine⟨its.toList,r,⟨o,n,I.kIn a o c,f,d,by simpa using b⟩,?_⟩
    have e:=r.length;simp only[JD]at e
    simp_all
theorem Inv.tuple (I:Inv X pins σ H s)(h:SqT X.K H a xs):∃ its:List Value,Vals xs its/\IsTup s.heap a its.toArray/\xs.length<=sizeLine:=by
  rcases h with h|⟨o,its,n,c,d,b,f,r⟩
  · obtain⟨z,its,r,p⟩:=h.ok I.hok
    exact⟨its,r,p.tup,z⟩
  · refine⟨its.toList,r,⟨o,I.kIn a o c,d,n,by simpa using b⟩,?_⟩
    have e:=r.length;simp only[JD]at e
    simp_all
theorem Inv.list_inj (I:Inv X pins σ H s)(h:SqL X.K H a xs)(h':SqL X.K H a ys):xs=ys:=by
  obtain⟨c,r,⟨o,n,e,_,_,d⟩,_⟩:=I.list h;obtain⟨b,i,⟨k,l,f,_,_,g⟩,_⟩:=I.list h';rw[e]at f;cases f;rw[d]at g;injection g with j _;have:c=b:=by simpa using JS Array.toList j
  subst this;exact r.inj i
theorem Inv.tuple_inj (I:Inv X pins σ H s)(h:SqT X.K H a xs)(h':SqT X.K H a ys):xs=ys:=by
  obtain⟨c,r,⟨o,e,_,n,d⟩,_⟩:=I.tuple h;obtain⟨b,i,⟨k,f,_,l,g⟩,_⟩:=I.tuple h';rw[e]at f;cases f;rw[d]at g;injection g with j _;have:c=b:=by simpa using JS Array.toList j
  subst this;exact r.inj i
end
noncomputable abbrev Cx.wish (X:Cx)(E:Value->Shared->Prop):Cx:={ X with xe:=E }
noncomputable abbrev Cx.nox (X:Cx):Cx:=X.wish λ_ _=>False
theorem Cx.Ok.wish {X:Cx}(ok:X.Ok)(E:Value->Shared->Prop):(X.wish E).Ok :=
  ⟨ok.mod,ok.kind,ok.glob,ok.blt,ok.above,ok.inj,ok.has,ok.cab,ok.hd,ok.frames,ok.stk,ok.exf,ok.bs,ok.bsz,ok.noex,ok.exfs,ok.funs,ok.frf⟩
theorem Cx.Ok.unwish {X:Cx}{E:Value->Shared->Prop}(ok:(X.wish E).Ok):X.Ok :=
  ⟨ok.mod,ok.kind,ok.glob,ok.blt,ok.above,ok.inj,ok.has,ok.cab,ok.hd,ok.frames,ok.stk,ok.exf,ok.bs,ok.bsz,ok.noex,ok.exfs,ok.funs,ok.frf⟩
section
variable {X:Cx}{pins:List (Addr × Obj)}{σ:St}{H:Hp}{s:Shared}{E:Value->Shared->Prop}
theorem Inv.wish (I:Inv X pins σ H s)(E:Value->Shared->Prop):Inv (X.wish E) pins σ H s:=⟨I.ok.wish E,I.os,I.bare,I.base,I.loc,I.cell,I.free,I.freeC,I.pin,I.hok,I.len⟩
theorem Inv.unwish (I:Inv (X.wish E) pins σ H s):Inv X pins σ H s:=⟨I.ok.unwish,I.os,I.bare,I.base,I.loc,I.cell,I.free,I.freeC,I.pin,I.hok,I.len⟩
theorem SP.unwish {D:Ends}{f:Flow}{c:Shared}(h:SP (X.wish E) pins D f c):SP X pins D f c:=by
  cases f with
  | next=>obtain⟨a,b,I,q⟩:=h;exact⟨a,b,I.unwish,q⟩
  | brk=>obtain⟨a,b,I,q⟩:=h;exact⟨a,b,I.unwish,q⟩
  | cont=>obtain⟨a,b,I,q⟩:=h;exact⟨a,b,I.unwish,q⟩
  | ret u=>obtain⟨v,a,b,I,r,q⟩:=h;exact⟨v,a,b,I.unwish,r,q⟩
theorem PSs.nox {st:List Stmt}{t:TS}(h:PSs X.nox st t):PSs X st t:=λpins s σ H D I a =>
  JM (h pins s σ H D (I.wish _) a) (λ_ _ q=>q.unwish) λ_ _ z=>False.elim z
end
section
variable {X:Cx}{st:Stmt}{rest:List Stmt}{t u:TS}{e:Expr}{te:TE}{pos:Pos}
noncomputable def aC:TS:=λD σ H=>D.nx σ H
noncomputable def vK (t u:TS):TS:=λD σ H=>t { D with nx:=u D } σ H
theorem zp:PSs X [] aC:=λ_ _ σ H _ I h=>wpAny_execs_nil ⟨σ,H,I,h⟩
theorem zG (d:PS X st t)(c:PSs X rest u):PSs X (st::rest) (vK t u):=by
  intro pins s σ H D I h;refine wpAny_execs_cons (thn (d pins s σ H { D with nx:=u D } I h) λf b q=>?_)
  cases f with
  | next =>
    obtain⟨a,g,e,q⟩:=q
    exact c pins b a g D e q
  | ret v=>exact q
  | brk=>exact q
  | cont=>exact q
theorem zK (a:PS X st t):PSs X [st] t:=by
  intro pins s σ H D I h;refine wpAny_execs_cons (thn (a pins s σ H D I h) λf b q=>?_)
  cases f with
  | next=>exact wpAny_execs_nil q
  | ret v=>exact q
  | brk=>exact q
  | cont=>exact q
theorem Inv.quiet {pins:List (Addr × Obj)}{σ:St}{H:Hp}{s:Shared}(I:Inv X pins σ H s):interactive X.env=false:=by simp[interactive,I.ok.kind]
noncomputable def aJ (te:TE):TS:=λD σ H=>te σ H λ_ a=>D.nx σ a
theorem xh (c:PE X e te)(b:swapsWith e none pos.line X.env=pure false:=by rfl):PS X (.Expr e pos) (aJ te):=by
  intro pins s σ H D I h;exact wpAny_Expr_any (thn (c pins s σ H _ I h) λv g ⟨x,f,d,i,a⟩=>⟨σ,f,d,a⟩) I.quiet b
noncomputable def zaf (te:TE):TS:=λD σ H=>te σ H D.rt
theorem zU (c:PE X e te):PS X (.Return (some e) pos) (zaf te):=by
  intro pins s σ H D I h;exact wpAny_Return_some (thn (c pins s σ H _ I h) λv g ⟨x,f,d,a,b⟩=>⟨x,σ,f,d,a,b⟩)
noncomputable def cG (c:TT)(t u:TS):TS:=λD σ H=>c σ H λb a=>if b=true then t D σ a else u D σ a
theorem yT {c:Expr}{a b:List Stmt}{e:TT}(k:PT X c e)(ha:PSs X a t)(hb:PSs X b u):PS X (.If c a b pos) (cG e t u):=by
  intro pins s σ H D I h;refine wpAny_If (thn (k pins s σ H _ I h) λd f ⟨j,i,g⟩=>?_)
  cases d with
  | true=>exact ha pins f σ j D i g
  | false=>exact hb pins f σ j D i g
end
noncomputable abbrev TG:=V->St->Hp->(St->Hp->Prop)->Prop
noncomputable abbrev TGs:=List V->St->Hp->(St->Hp->Prop)->Prop
noncomputable def PG (X:Cx)(target:Expr)(t:TG):Prop :=
  ∀ (pins:List (Addr × Obj)) (s:Shared) (σ:St) (H:Hp) (v:V) (u:Value) (Q:St->Hp->Prop),Inv X pins σ H s->RelV v u->t v σ H Q ->
    wpAny (model X.prog X.w) X.A (assign target X.env u) (λ_ c=>∃ a b,Inv X pins a b c/\Q a b) X.xe s
noncomputable def PGs (X:Cx)(ts:List Expr)(t:TGs):Prop :=
  ∀ (pins:List (Addr × Obj)) (s:Shared) (σ:St) (H:Hp) (b:List V) (c:List Value) (Q:St->Hp->Prop),Inv X pins σ H s->Vals b c->t b σ H Q ->
    wpAny (model X.prog X.w) X.A (assignInOrder ((assignEach ts X.env).map (·.2)) c) (λ_ e=>∃ a d,Inv X pins a d e/\Q a d) X.xe s
noncomputable abbrev TSet:=V->V->V->Hp->(Hp->Prop)->Prop
noncomputable def PSet (X:Cx)(t:TSet):Prop :=
  ∀ (pins:List (Addr × Obj)) (s:Shared) (σ:St) (H:Hp) (o i v:V) (a b u:Value) (Q:Hp->Prop),Inv X pins σ H s->RelV o a->RelV i b->RelV v u->t o i v H Q ->
    wpAny (model X.prog X.w) X.A (setItem a b u) (λ_ d=>∃ c,Inv X pins σ c d/\Q c) X.xe s
section
variable {X:Cx}{pos:Pos}
noncomputable def wL (i:Nat):TG:=λv σ H Q=>Q (σ.set i (some v)) H
theorem zP {i:Nat}{x:Str}(c:X.N.Nodup)(hi:X.N[i]?=some x)(a:Loc X.env.scope x)(b:X.fn x=true\/X.env.scope.names.lookup x=some .local:=by first|exact .inl rfl|exact .inr rfl|assumption):PG X (.Name x pos) (wL i):=by
  intro pins s σ H v u Q I r h;exact wpAny_assign_Name (xU I c hi a r (λe d=>⟨_,H,d,h⟩) b)
noncomputable def aw:TGs:=λa σ H Q=>a=[]/\Q σ H
noncomputable def gZ (t:TG)(u:TGs):TGs:=λb σ H Q=>∃ v r,b=v::r/\t v σ H λa c=>u r a c Q
theorem yH:PGs X [] aw:=by
  intro pins s σ H a b Q I r h;obtain⟨e,h⟩:=h;subst e;cases r;exact assignInOrder_nil ⟨σ,H,I,h⟩
theorem zQ {e:Expr}{a:List Expr}{t:TG}{u:TGs}(j:PG X e t)(i:PGs X a u)(g:(assignEach (e::a) X.env).map (·.2)=assign e X.env::(assignEach a X.env).map (·.2):=by rfl):PGs X (e::a) (gZ t u):=by
  intro pins s σ H n p Q I r h;obtain⟨v,o,k,h⟩:=h;subst k
  cases r with
  | cons r d =>
    rw[g];refine ZB (thn (j pins s σ H _ _ _ I r h) λ_ c ⟨b,m,l,f⟩=>?_);exact i pins c b m _ _ Q l d f
noncomputable def av (K:PySem.W.Frag)(n:Nat)(t:TGs):TG:=λv σ H Q=>∃ a b,v=.ref a/\SqT K H a b/\b.length=n/\t b σ H Q
theorem yU {c:List Expr}{k:Nat}{t:TGs}{n:Nat}(q:X.calm=true)(h:PGs X c t)(hn:(assignEach c X.env).length=n:=by rfl)(f:(assignEach c X.env).findIdx? (·.1)=none:=by rfl):PG X (.Tuple c k pos) (av X.K n t):=by
  intro pins s σ H v u Q I r d;obtain⟨a,i,x,m,p,d⟩:=d;subst x;cases r;obtain⟨z,g,l,A⟩:=I.tuple m;refine assign_Tuple_tuple (I.ok.hd q) l (by simp[hn,<- p,g.length]) f λw j=>?_;have y:Inv X pins σ H { s with heap:=w }:=I.kept (t':=s.toks) λb o e=>j b o (JC (Jp e)) e;exact h pins _ σ H i _ Q y (by simpa using g) d
noncomputable def zaO (to a:TE)(t:TSet):TG:=λv σ H Q=>to σ H λo d=>a σ d λi c=>t o i v c λb=>Q σ b
theorem wo {o i:Expr}{to c:TE}{t:TSet}(n:PE X o to)(hi:PE X i c)(m:PSet X t)(ha:∀ v,assign (.Subscript o i pos) X.env v=(do
      let a <- holding [v] (eval o X.env)
      let b <- holding [v,a] (eval i X.env)
      standAt pos
      holding [v,a,b] (setItem a b v)
      release [v,a,b] []):=by intro _;rfl):PG X (.Subscript o i pos) (zaO to c t):=by
  intro pins s σ H v u Q I r h;rw[ha];refine J0 (Y4 (thn (n pins s σ H _ I h) λa e ⟨x,B,w,g,l⟩=>?_));refine J0 (Y4 (thn (hi pins e σ B _ w l) λb d ⟨y,A,q,f,k⟩=>?_));refine J0 (YL (J0 (Y4 (thn (m pins d σ A x y v a b u _ q g f r k) λ_ C ⟨z,p,j⟩=>?_))));exact wpAny_release ⟨σ,z,p,j⟩
noncomputable def fU (a:TE)(g:TG):TS:=λD σ H=>a σ H λx b=>g x σ b D.nx
theorem yZ {tg e:Expr}{a:TE}{g:TG}(k:PE X e a)(j:PG X tg g)(i:swapsWithSole [tg] e pos.line X.env=pure false:=by rfl)(f:swappedStores [tg] e X.env=pure none:=by rfl)(l:(assignEach [tg] X.env).map (·.2)=[assign tg X.env]:=by rfl):PS X (.Assign [tg] e pos) (fU a g):=by
  intro pins s σ H D I h;refine wpAny_Assign_stores (thn (k pins s σ H _ I h) λv b ⟨x,n,m,c,d⟩=>?_) i f;rw[l];exact thn (j pins b σ n x v _ m c d) λ_ o q=>q
theorem zo {i:Nat}{x:Str}{e:Expr}{a:TE}{pos':Pos}(k:X.N.Nodup)(hi:X.N[i]?=some x)(d:Loc X.env.scope x)(j:PE X e a)(f:swapsWith e (some (.Name x pos')) pos.line X.env=pure false:=by rfl)(g:X.fn x=true\/X.env.scope.names.lookup x=some .local:=by first|exact .inl rfl|exact .inr rfl|assumption) :
    PS X (.Assign [.Name x pos'] e pos) (fU a (wL i)):=by
  intro pins s σ H D I h;refine wpAny_Assign_Name (thn (j pins s σ H _ I h) λv p ⟨y,n,m,b,c⟩=>?_) f;exact xU m k hi d b (λo l=>⟨_,n,l,c⟩) g
noncomputable def zag (i j:Nat)(b:TA):TS:=λD σ H=>b σ H λa c=>∃ v w,a=[v,w]/\D.nx ((σ.set i (some v)).set j (some w)) c
theorem r0 {i j:Nat}{x y:Str}{a b:Expr}{r:TA}{k py pt:Pos}{kt k2 pt2}(N:X.calm=true)(z:X.N.Nodup)(hi:X.N[i]?=some x)(M:X.N[j]?=some y)(n:i≠j)(u:X.env.scope.names.lookup x=some .local)(t:X.env.scope.names.lookup y=some .local)(ha:PA X [a,b] r)(K:swappedStores [.Tuple [.Name x k,.Name y py] kt pt] (.Tuple [a,b] k2 pt2) X.env=pure (some [x,y]))(L:swapsWithSole [.Tuple [.Name x k,.Name y py] kt pt] (.Tuple [a,b] k2 pt2) pos.line X.env=pure false:=by rfl) :
    PS X (.Assign [.Tuple [.Name x k,.Name y py] kt pt] (.Tuple [a,b] k2 pt2) pos) (zag i j r):=by
  intro pins s σ H D I h;rw[exec_Assign_arm];refine J0 (YL ?_);rw[L];refine J0 (J8 ?_);rw[Je (by decide)];refine J0 (Tuple_ (thn (ha _ pins s σ H _ I h) λC f ⟨T,B,S,F,g⟩=>?_));obtain⟨v,w,O,g⟩:=g;subst O
  obtain⟨d,c,rfl,E,l⟩:∃ d c,C=[d,c]/\RelV v d/\RelV w c:=by
    cases F with
    | cons p q =>
      cases q with
      | cons J G =>
        cases G;exact⟨_,_,rfl,p,J⟩
  refine JQ ?_ (by show 2<=sizeLine;decide);have R:Inv X pins σ B { f with heap:=f.heap.push { cls:=.type "tuple",data:=.seq [d,c].toArray } }:=S.kept (t':=f.toks) λb o e=>J7 _ e;rw[K];refine J0 (J8 ?_);show wpAny (model X.prog X.w) X.A (do rule "assign.swapped-stores";let items <- unpackItems (.ref f.heap.objs.size) 2 none;assignInOrder [λv=>bindName X.env y v,λv=>bindName X.env x v] items.reverse;pure Flow.next) _ _ _;refine J0 (YJ (J0 (unpackItems_tuple (items:=#[d,c]) (I.ok.hd N) (IsTup.new f.heap _) λh' m=>?_)));have Q:=R.kept (h':=h') (t':=f.toks) λb o e=>m b o (JC (Jp e)) e;show wpAny _ _ (assignInOrder [λv=>bindName X.env y v,λv=>bindName X.env x v] [c,d] >>= λ_=>pure Flow.next) _ _ _;refine J0 (ZB (wpAny_bindName (xU Q z M (.inl t) l (λV P=>?_) (.inr t))));refine ZB (wpAny_bindName (xU P z hi (.inl u) E (λU A=>assignInOrder_nil (J8 ?_)) (.inr u)));rw[List.set_comm _ _ (Ne.symm n)]at A;exact⟨_,B,A,g⟩
noncomputable def cC (c:TT)(g:TS):TS:=λD σ H=>∃ W:Nat->St->Hp->Prop,(∃ m,W m σ H)/\∀ m σ H,W m σ H ->
  c σ H λb e=>if b=true then ∃ N:St->Hp->Prop,(∀ a f,N a f->∃ d,d<m/\W d a f)/\g { D with nx:=N,ct:=N,bk:=D.nx } σ e else D.nx σ e
theorem iU {c:Expr}{body:List Stmt}{q:TT}{r:TS}(t:PassesOwn (model X.prog X.w) X.A X.env X.xe)(J:PT X c q)(hb:PSs X body r):PS X (.While c body [] pos) (cC q r):=by
  intro pins s σ H D I h;obtain⟨W,⟨G,B⟩,turn⟩:=h;refine wpAny_While (codeAny_whileLoop (λn F=>∃ g z,Inv X pins g z F/\W n g z) ?_ G ⟨σ,H,I,B⟩);rintro n E ⟨d,y,K,A⟩;refine Zy t (thn (J pins E d y _ K (turn n d y A)) λb C ⟨x,w,j⟩=>?_)
  cases b with
  | true =>
    obtain⟨N,u,j⟩:=j;rw[Jg rfl];refine Zy t (thn (hb pins C d x _ w j) λf L i=>?_)
    cases f with
    | next =>
      obtain⟨a,e,p,l⟩:=i;obtain⟨m,o,k⟩:=u a e l
      exact⟨m,o,a,e,p,k⟩
    | cont =>
      obtain⟨a,e,p,l⟩:=i;obtain⟨m,o,k⟩:=u a e l
      exact⟨m,o,a,e,p,k⟩
    | brk=>exact i
    | ret v=>exact i
  | false =>
    rw[Je Jj];exact wpAny_execs_nil ⟨d,x,w,j⟩
end
structure It where
  go:Nat->Hp->Prop
  yld:Nat->Hp->V->Hp->Prop
  stop:Nat->Hp->Prop
noncomputable def FpOk (X:Cx)(pins:List (Addr × Obj))(H:Hp)(b:Addr):Prop :=
  H b=none/\b≠X.env.locals/\b∉X.fs/\(b∈X.ex\/X.s₀.heap.objs.size<=b)/\(∀ x c,X.env.cells.lookup x=some c->c≠b)/\∀ p∈X.pn++pins,p.1≠b
theorem Inv.fpOk {X:Cx}{pins:List (Addr × Obj)}{σ:St}{H H':Hp}{s:Shared}{b:Addr}(I:Inv X pins σ H s)(hb:s.heap.objs.size<=b)(hn:H' b=none):FpOk X pins H' b:=by
  refine⟨hn,Z2 (JF I.lt hb),I.nofs hb,.inr (JK I.sz hb),λx c e z=>?_,λp a z=>?_⟩
  · obtain⟨v,q⟩:=I.cell x c e
    exact absurd (JF q.lt (by rw[z];exact hb)) (YC _)
  · exact absurd (JF (Jp (I.pin p a).1) (by rw[z];exact hb)) (YC _)
structure Turn (P:Program) (w:World) (K:PySem.W.Frag) (tg:Expr) (J:It) (fp:List Addr) (it:Addr) (tn:Nat->Heap->Prop):Prop where
  mem:it∈fp
  obj:∀ i h,tn i h->∀ b∈fp,∃ o,h.get? b=some o/\∀ v,o.data≠.cell v
  keep:∀ i h h',tn i h->(∀ b∈fp,∀ o,h.get? b=some o->h'.get? b=some o)->tn i h'
  item:∀ (X:Cx),X.prog=P->X.w=w->X.K=K->X.calm=true->∀ (i:Nat) (pins:List (Addr × Obj)) (s:Shared) (σ:St) (H:Hp) (E:Value->Shared->Prop),Inv X pins σ H s->(∀ b∈fp,FpOk X pins H b)->tn i s.heap->J.go i H ->
    wpAny (model P w) X.A (pyNext (.ref it)) (λr s1=>∃ u,r=some u /\
      wpAny (model P w) X.A (letOwnedTupleGo tg (.ref it) u) (λ_ s2=>∃ x H',Inv X pins σ H' s2/\RelV x u/\J.yld i H x H'/\tn (i+1) s2.heap/\∀ b∈fp,H' b=none) E s1) E s
  done:∀ (X:Cx),X.prog=P->X.w=w->X.K=K->X.calm=true->∀ (i:Nat) (pins:List (Addr × Obj)) (s:Shared) (σ:St) (H:Hp) (E:Value->Shared->Prop),Inv X pins σ H s->(∀ b∈fp,FpOk X pins H b)->tn i s.heap->J.stop i H ->
    wpAny (model P w) X.A (pyNext (.ref it)) (λr s1=>r=none/\Inv X pins σ H s1) E s
  self:∀ (A:Around) (i:Nat) (s:Shared) (Q:Value->Shared->Prop) (E:Value->Shared->Prop),tn i s.heap->Q (.ref it) s->wpAny (model P w) A (pyIter (.ref it)) Q E s
noncomputable abbrev TI:=St->Hp->(It->Hp->Prop)->Prop
noncomputable def PIE (X:Cx)(pins:List (Addr × Obj))(σ:St)(tg:Expr)(R:It->Hp->Prop)(c:Value)(s2:Shared):Prop :=
  ∃ (it:Addr) (e:List Addr) (d:Nat->Heap->Prop) (J:It) (a:Hp),c=.ref it/\Inv X pins σ a s2/\Turn X.prog X.w X.K tg J e it d/\d 0 s2.heap/\(∀ b∈e,FpOk X pins a b)/\R J a
noncomputable def PI (X:Cx)(tg iter:Expr)(a:TI):Prop :=
  ∀ (pins:List (Addr × Obj)) (s:Shared) (σ:St) (H:Hp) (R:It->Hp->Prop),Inv X pins σ H s->a σ H R ->
    wpAny (model X.prog X.w) X.A (eval iter X.env) (λv b=>wpAny (model X.prog X.w) X.A (pyIter v) (PIE X pins σ tg R) X.xe b) X.xe s
theorem lB {M:Model}{A:Around}{E:Value->Shared->Prop}{s:Shared}{tg:Expr}{it:Addr}{u:Value}{o:Obj}{n:String}{vs:Array Value}{Q:Unit->Shared->Prop}(b:s.heap.get? it=some o) (c:o.cls=.type n) (hd:o.data=.fields vs)
    (hn:["enumerate","zip","dict_itemiterator","dict_reverseitemiterator","odict_iterator","itertools.zip_longest","itertools.pairwise"].contains n=false) (a:Q () s):wpAny M A (letOwnedTupleGo tg (.ref it) u) Q E s:=by
  unfold letOwnedTupleGo
  cases tg<;>first
    | exact J8 a
    | (cases u<;>first
        | exact J8 a
        | (refine J0 (wpAny_load b ?_)
           rw[c,hd];show wpAny M A (if (["enumerate","zip","dict_itemiterator","dict_reverseitemiterator","odict_iterator","itertools.zip_longest","itertools.pairwise"].contains n && vs[0]? == some (rawInt _))=true then _ else _) Q E s;rw[Je (by intro h;rw[hn,Bool.false_and]at h;cases h)]
           exact J8 a))
noncomputable def Itl (K:PySem.W.Frag)(a:Addr):It :=
  ⟨λi H=>∃ b x,SqL K H a b/\b[i]?=some x,λi H x c=>c=H/\∀ b,SqL K H a b->b[i]?=some x,λi H=>∃ b,SqL K H a b/\b.length<=i⟩
noncomputable def Itt (K:PySem.W.Frag)(a:Addr):It :=
  ⟨λi H=>∃ b x,SqT K H a b/\b[i]?=some x,λi H x c=>c=H/\∀ b,SqT K H a b->b[i]?=some x,λi H=>∃ b,SqT K H a b/\b.length<=i⟩
noncomputable def Itr (lo:Int)(n:Nat):It:=⟨λi _=>i<n,λi H x a=>a=H/\x=.int (lo+i),λi _=>n<=i⟩
theorem lZ {P:Program}{w:World}{K:PySem.W.Frag}{tg:Expr}(a it:Addr):Turn P w K tg (Itl K a) [it] it (λi h=>h.IsListIter it a i) where
  mem:=by simp
  obj:=λi h st b f=>by
    have e:b=it:=by simpa using f
    subst e;obtain⟨o,e,c,d⟩:=st;exact⟨o,e,λv z=>by rw[d]at z;cases z⟩
  keep:=λi h m st k=>st.at λo e=>k it (by simp) o e
  item:=by
    intro X y r A L i pins s σ H E I l st t;subst y r A;obtain⟨M,x,j,q⟩:=t;obtain⟨J,n,p,Q⟩:=I.list j;obtain⟨u,S,O⟩:=n.get q;obtain⟨G,F,T,D,C,B⟩:=l it (by simp);refine wpAny_pyNext_list_item st p.isList (x:=u) (by simpa using S) λm g N=>?_;have V:Inv X pins σ H { s with heap:=m }:=I.turned (t':=s.toks) (λb o f e=>(N.2 b f).trans e) G F D C B;obtain⟨o,e,c,d⟩:=id g;exact⟨u,rfl,lB (s:={ s with heap:=m }) e c d (by decide) ⟨x,H,V,O,⟨rfl,λW R=>by rw[I.list_inj R j];exact q⟩,g,λb f=>(l b f).1⟩⟩
  done:=by
    intro X y r A L i pins s σ H E I l st t;subst y r A;obtain⟨M,j,q⟩:=t;obtain⟨J,n,p,Q⟩:=I.list j;obtain⟨G,F,T,D,C,B⟩:=l it (by simp);have Y:=n.length;exact wpAny_pyNext_list_end (I.ok.hd L) st p.isList (by simp;simp_all) λm U=>⟨rfl,I.turned (t':=s.toks) (λb o f e=>U b o f e) G F D C B⟩
  self:=λ_ _ _ _ _ st h=>wpAny_pyIter_listiter st h
theorem oh {P:Program}{w:World}{K:PySem.W.Frag}{tg:Expr}(a it:Addr):Turn P w K tg (Itt K a) [it] it (λi h=>h.IsTupleIter it a i) where
  mem:=by simp
  obj:=λi h st b f=>by
    have e:b=it:=by simpa using f
    subst e;obtain⟨o,e,c,d⟩:=st;exact⟨o,e,λv z=>by rw[d]at z;cases z⟩
  keep:=λi h n st k=>st.at λo e=>k it (by simp) o e
  item:=by
    intro X A t B L i pins s σ H E I m st y;subst A t B;obtain⟨M,x,l,r⟩:=y;obtain⟨g,q,p,Q⟩:=I.tuple l;obtain⟨u,S,O⟩:=q.get r;obtain⟨J,G,T,F,D,C⟩:=m it (by simp);refine wpAny_pyNext_tuple_item st (show s.heap.IsTuple a g.toArray from p) (x:=u) (by simpa using S) λn j N=>?_;have V:Inv X pins σ H { s with heap:=n }:=I.turned (t':=s.toks) (λb o f e=>(N.2 b f).trans e) J G F D C;obtain⟨o,e,c,d⟩:=id j;exact⟨u,rfl,lB (s:={ s with heap:=n }) e c d (by decide) ⟨x,H,V,O,⟨rfl,λW R=>by rw[I.tuple_inj R l];exact r⟩,j,λb f=>(m b f).1⟩⟩
  done:=by
    intro X A t B L i pins s σ H E I m st y;subst A t B;obtain⟨M,l,r⟩:=y;obtain⟨g,q,p,Q⟩:=I.tuple l;obtain⟨J,G,T,F,D,C⟩:=m it (by simp);have Y:=q.length;exact wpAny_pyNext_tuple_end (I.ok.hd L) st (show s.heap.IsTuple a g.toArray from p) (by simp;simp_all) λn U=>⟨rfl,I.turned (t':=s.toks) (λb o f e=>U b o f e) J G F D C⟩
  self:=λ_ _ _ _ _ st h=>wpAny_pyIter_tupleiter st h
theorem oi {P:Program}{w:World}{K:PySem.W.Frag}{tg:Expr}(it:Addr)(lo:Int)(n:Nat):Turn P w K tg (Itr lo n) [it] it (λi h=>IsRangeIter h it (lo+(i:Nat)*1) ((n:Int)-(i:Nat)) 1) where
  mem:=by simp
  obj:=λi h st b a=>by
    have e:b=it:=by simpa using a
    subst e
    exact⟨_,st,λv z=>by
      have B:Data.fields _=Data.cell v:=z
      cases B⟩
  keep:=λi h f st k=>k it (by simp) _ st
  item:=by
    intro X m g p l i pins s σ H E I d st j;subst m g p;obtain⟨y,x,F,u,r,q⟩:=d it (by simp);have W:=Walks.range (prog:=X.prog) (w:=X.w) (I.ok.hd l) it lo 1 n;refine W.item i s _ _ j st λv f A D c C=>?_;obtain⟨t,rfl⟩:=D;have J:Inv X pins σ H { s with heap:=f,toks:=A }:=I.turned (λb o a e=>C b o (by simpa using a) e) y x u r q;refine⟨_,rfl,lB (s:={ s with heap:=f,toks:=A }) (n:="range_iterator") c rfl rfl (by decide) ⟨.int (lo+i),H,J,⟨t,?_⟩,⟨rfl,rfl⟩,c,λb a=>(d b a).1⟩⟩;rw[Int.mul_one]
  done:=by
    intro X m g p l i pins s σ H E I d st j;subst m g p;obtain⟨y,x,F,u,r,q⟩:=d it (by simp);exact wpAny_pyNext_range_end (I.ok.hd l) st (by have:n<=i:=j;lia) λf G=>⟨rfl,I.turned (t':=s.toks) (λb o a e=>G b o a e) y x u r q⟩
  self:=λ_ _ _ _ _ st h=>wpAny_pyIter_rangeiter st h
section
variable {X:Cx}{tg:Expr}
noncomputable def aq (K:PySem.W.Frag)(d:TE):TI:=λσ H R=>d σ H λx b=>∃ a,x=.ref a/\(∃ c,SqL K b a c)/\R (Itl K a) b
noncomputable def am (K:PySem.W.Frag)(d:TE):TI:=λσ H R=>d σ H λx b=>∃ a,x=.ref a/\(∃ c,SqT K b a c)/\R (Itt K a) b
theorem mM {l:Expr}{f:TE}(k:PE X l f):PI X tg l (aq X.K f):=by
  intro pins s σ H R I h;refine thn (k pins s σ H _ I h) λv c ⟨x,n,d,g,i⟩=>?_;obtain⟨a,e,⟨t,j⟩,q⟩:=i;subst e;cases g;obtain⟨r,u,p,w⟩:=d.list j;refine wpAny_pyIter_list p.isList ?_;refine⟨c.heap.objs.size,[c.heap.objs.size],_,_,n,rfl,d.kept (t':=c.toks) λb o e=>J7 _ e,lZ a _,⟨_,Jv _ rfl,rfl,rfl⟩,λb m=>?_,q⟩;have e:b=c.heap.objs.size:=by simpa using m
  subst e;exact d.fpOk (Jc _) (d.hok.fresh (Jc _))
theorem xk {l:Expr}{g:TE}(m:PE X l g):PI X tg l (am X.K g):=by
  intro pins s σ H R I h;refine thn (m pins s σ H _ I h) λv c ⟨x,r,d,i,j⟩=>?_;obtain⟨a,e,⟨t,k⟩,q⟩:=j;subst e;cases i;obtain⟨f,u,p,w⟩:=d.tuple k;refine wpAny_pyIter_tuple (show c.heap.IsTuple a f.toArray from p) ?_;refine⟨c.heap.objs.size,[c.heap.objs.size],_,_,r,rfl,d.kept (t':=c.toks) λb o e=>J7 _ e,oh a _,⟨_,Jv _ rfl,rfl,rfl⟩,λb n=>?_,q⟩;have e:b=c.heap.objs.size:=by simpa using n
  subst e;exact d.fpOk (Jc _) (d.hok.fresh (Jc _))
theorem iR {pins:List (Addr × Obj)}{σ:St}{H:Hp}{s:Shared}{R:It->Hp->Prop}{E:Value->Shared->Prop}{lo hi:Int}{t u v:Tok}{tk:Nat}(I:Inv X pins σ H s)(h:-(2 ^ 62)<=lo)(g:lo<2 ^ 62)(f:-(2 ^ 62)<=hi)(d:hi<2 ^ 62)(q:R (Itr lo (hi-lo).toNat) H):wpAny (model X.prog X.w) X.A (pyIter (.ref s.heap.objs.size)) (PIE X pins σ tg R) E { s with heap:=s.heap.push { cls:=.type "range",data:=.fields #[.int lo t,.int hi u,.int 1 v] },toks:=tk }:=by
  refine wpAny_pyIter_range (IsRange.new ..) (small_one h g f d) ?_;have a:Inv X pins σ H { s with heap:=s.heap.push { cls:=.type "range",data:=.fields #[.int lo t,.int hi u,.int 1 v] },toks:=tk }:=I.kept λb o e=>J7 _ e
  refine⟨(s.heap.push { cls:=.type "range",data:=.fields #[.int lo t,.int hi u,.int 1 v] }).objs.size,[(s.heap.push { cls:=.type "range",data:=.fields #[.int lo t,.int hi u,.int 1 v] }).objs.size],_,_,H,rfl,
    a.kept (t':=tk) λb o e=>J7 _ e,oi _ lo (hi-lo).toNat,?_,λb c=>?_,q⟩
  · have i:lo+((0:Nat):Int)*1=lo:=by simp
    have e2:(((hi-lo).toNat:Nat):Int)-((0:Nat):Int)=Builtin.Range.rangeSize lo hi 1:=by rw[rangeSize_one];split<;>grind
    show IsRangeIter _ _ (lo+((0:Nat):Int)*1) ((((hi-lo).toNat:Nat):Int)-((0:Nat):Int)) 1;rw[i,e2];exact Jv _ rfl
  · have e:b=(s.heap.push { cls:=.type "range",data:=.fields #[.int lo t,.int hi u,.int 1 v] }).objs.size:=by simpa using c
    subst e;exact a.fpOk (Jc _) (a.hok.fresh (Jc _))
noncomputable def ap (b:TA):TI:=λσ H R=>b σ H λa c=>∃ j:Int,a=[.int j]/\-(2 ^ 62)<=j/\j<2 ^ 62/\R (Itr 0 j.toNat) c
theorem xu {a:Expr}{c:TA}{p pos:Pos}(k:Gl X "range") (hm:X.mg "range" = none) (ha:PA X [a] c) (i:starEach [a] X.env=[(false,eval a X.env)]:=by rfl):PI X tg (.Call (.Name "range" p) [a] [] pos) (ap c):=by
  intro pins s σ H R I h;refine Call_ (xq I k hm boot_range (Yn (thn (ha pos pins s σ H _ I h) λn o ⟨m,u,l,f,b⟩=>?_) i rfl));obtain⟨j,e,b,g,q⟩:=b;subst e
  cases f with
  | cons r d =>
    cases d;obtain⟨t,rfl⟩:=r;exact call_range_1 (iR l (by simp_all) (by simp_all) b g (by simpa using q))
noncomputable def zal (e:TI)(g:TG)(f:TS):TS:=λD σ H=>e σ H λJ j=>∃ W:Nat->Nat->St->Hp->Prop,(∃ m,W 0 m σ j)/\∀ i m σ H,W i m σ H ->
  (J.stop i H/\D.nx σ H)\/(J.go i H/\∃ N:St->Hp->Prop,(∀ b a,N b a->∃ d,d<m/\W (i+1) d b a)/\∀ x a,J.yld i H x a->g x σ a λc h=>f { D with nx:=N,ct:=N,bk:=D.nx } c h)
noncomputable def wA (fp:List Addr)(h:Heap):List (Addr × Obj):=fp.filterMap λb=>(h.get? b).map λo=>(b,o)
theorem yX {fp:List Addr}{h:Heap}{b:Addr}{o:Obj}(hb:b∈fp)(e:h.get? b=some o):(b,o)∈wA fp h:=List.mem_filterMap.mpr ⟨b,hb,by rw[e];rfl⟩
theorem kg {fp:List Addr}{h:Heap}{p:Addr × Obj}(a:p∈wA fp h):p.1∈fp/\h.get? p.1=some p.2:=by
  obtain⟨b,c,e⟩:=List.mem_filterMap.mp a
  cases q:h.get? b with
  | none=>rw[q]at e;cases e
  | some o =>
    rw[q]at e;have d:(b,o)=p:=Jt e;subst d;exact⟨c,q⟩
theorem Inv.pinned {pins:List (Addr × Obj)}{σ:St}{H:Hp}{s:Shared}{fp:List Addr}(I:Inv X pins σ H s)(h:∀ b∈fp,FpOk X pins H b)(g:∀ b∈fp,∃ o,s.heap.get? b=some o/\∀ v,o.data≠.cell v):Inv X (pins++wA fp s.heap) σ H s :=
  I.pins_of λp f=>(Ju.mp f).elim (λz=>I.pin p (JE _ z)) λz=>by
    obtain⟨a,e⟩:=kg z;obtain⟨k,j,i,_⟩:=h p.1 a;obtain⟨o,c,d⟩:=g p.1 a;rw[e]at c;cases c;exact⟨e,k,j,i,d⟩
theorem Inv.unpinned {pins a:List (Addr × Obj)}{σ:St}{H:Hp}{s:Shared}(I:Inv X (pins++a) σ H s):Inv X pins σ H s:=I.pins_of λp b=>I.pin p (JE _ (ZR _ b))
theorem y7 {iter:Expr}{body:List Stmt}{P:TI}{g:TG}{R:TS}{pos:Pos}(z:PassesOwn (model X.prog X.w) X.A X.env X.xe)(Y:X.calm=true)(hi:PI X tg iter P)(hg:PG X tg g)(hb:PSs X body R)(hs:∀ x,foldedSetIterable iter X.env x=pure x:=by intro _;rfl):PS X (.For tg iter body [] pos) (zal P g R):=by
  intro pins s σ H D I h;refine wpAny_For (thn (hi pins s σ H _ I h) λv s1 h1=>thn h1 λab s2 h2=>?_) hs;obtain⟨it,A,Q,J,H2,e,I2,T,L,Z,W,⟨m0,w0⟩,turn⟩:=h2;subst e;have p:∀ {q:Hp},(∀ b∈A,q b=none)->∀ b∈A,FpOk X pins q b:=λhn b hb=>⟨hn b hb,(Z b hb).2⟩;refine codeAny_forLoop_any (λn V=>∃ i l q,Inv X pins l q V/\Q i V.heap/\(∀ b∈A,q b=none)/\W i n l q) ?_ m0 ⟨0,σ,H2,I2,L,λb hb=>(Z b hb).1,w0⟩;rintro n U ⟨i,k,E,I3,B,C,w3⟩;rcases turn i n k E w3 with ⟨stop,qn⟩|⟨go,N,hN,step⟩
  · refine Zy z (thn (T.done X rfl rfl rfl Y i pins U k E X.xe I3 (p C) B stop) λr s4 ⟨G,I4⟩=>?_)
    subst G;exact wpAny_execs_nil ⟨k,E,I4,qn⟩
  · refine Zy z (thn (T.item X rfl rfl rfl Y i pins U k E X.xe I3 (p C) B go) λr s4 ⟨u,G,h4⟩=>?_)
    subst G;refine Zy z (thn h4 λ_ S ⟨x,H5,I5,r5,y5,w,M⟩=>?_);have O:=I5.pinned (p M) (T.obj _ _ w);refine Zy z (thn (hg _ S k H5 x u _ O r5 (step x H5 y5)) λ_ s6 ⟨K,H6,I6,q6⟩=>?_);refine Zy z (thn (hb _ s6 K H6 _ I6 q6) λf F t=>?_)
    have again:∀ {a:St}{j:Hp},Inv X (pins++wA A S.heap) a j F->N a j->∃ m,m<n/\∃ i l q,Inv X pins l q F/\Q i F.heap/\(∀ b∈A,q b=none)/\W i m l q:=λ{a j} c y=>by
      obtain⟨m',hm,w7⟩:=hN a j y;refine⟨m',hm,i+1,a,j,c.unpinned,T.keep _ _ _ w λb hb o e=>(c.pin (b,o) (JE _ (JE _ (yX hb e)))).1,λb hb=>?_,w7⟩;obtain⟨o,e,d⟩:=T.obj _ _ w b hb;exact(c.pin (b,o) (JE _ (JE _ (yX hb e)))).2.1
    cases f with
    | next=>obtain⟨a,j,c,y⟩:=t;exact again c y
    | cont=>obtain⟨a,j,c,y⟩:=t;exact again c y
    | brk=>obtain⟨a,j,c,t⟩:=t;exact⟨a,j,c.unpinned,t⟩
    | ret v=>obtain⟨x7,a,j,c,r7,t⟩:=t;exact⟨x7,a,j,c.unpinned,r7,t⟩
end
theorem oH {K:PySem.W.Frag}{a:Addr}{xs:List V}{g:TG}{k:TS}{D:Ends}{σ:St}{H:Hp}(b:Nat->St->Hp->Prop)(t:b 0 σ H)(r:∀ i σ H,i<=xs.length->b i σ H->SqL K H a xs)(o:∀ i x σ H,xs[i]?=some x->b i σ H->g x σ H λd j=>k { D with nx:=b (i+1),ct:=b (i+1),bk:=D.nx } d j)(s:∀ σ H,b xs.length σ H->D.nx σ H) :
    ∃ W:Nat->Nat->St->Hp->Prop,(∃ m,W 0 m σ H)/\∀ i m σ H,W i m σ H ->
      ((Itl K a).stop i H/\D.nx σ H)\/((Itl K a).go i H/\∃ N:St->Hp->Prop,(∀ f c,N f c->∃ l,l<m/\W (i+1) l f c)/\∀ x c,(Itl K a).yld i H x c->g x σ c λd j=>k { D with nx:=N,ct:=N,bk:=D.nx } d j):=by
  refine⟨λi m σ H=>m=xs.length-i/\i<=xs.length/\b i σ H,⟨xs.length,by simp,JN _,t⟩,?_⟩;rintro i m σ H ⟨rfl,hi,p⟩;have q:=r i σ H hi p;by_cases h:i<xs.length
  · refine .inr ⟨⟨xs,xs[i],q,by simp[h]⟩,b (i+1),λf c n=>⟨xs.length-(i+1),by omega,rfl,h,n⟩,λx c y=>?_⟩
    obtain⟨e,y⟩:=y;subst e;exact o i x σ _ (y xs q) p
  · have e:i=xs.length:=by lia
    subst e;exact .inl ⟨⟨xs,q,Jc _⟩,s σ H p⟩
theorem qK {K:PySem.W.Frag}{a:Addr}{xs:List V}{g:TG}{k:TS}{D:Ends}{σ:St}{H:Hp}(b:Nat->St->Hp->Prop)(t:b 0 σ H)(r:∀ i σ H,i<=xs.length->b i σ H->SqT K H a xs)(o:∀ i x σ H,xs[i]?=some x->b i σ H->g x σ H λd j=>k { D with nx:=b (i+1),ct:=b (i+1),bk:=D.nx } d j)(s:∀ σ H,b xs.length σ H->D.nx σ H) :
    ∃ W:Nat->Nat->St->Hp->Prop,(∃ m,W 0 m σ H)/\∀ i m σ H,W i m σ H ->
      ((Itt K a).stop i H/\D.nx σ H)\/((Itt K a).go i H/\∃ N:St->Hp->Prop,(∀ f c,N f c->∃ l,l<m/\W (i+1) l f c)/\∀ x c,(Itt K a).yld i H x c->g x σ c λd j=>k { D with nx:=N,ct:=N,bk:=D.nx } d j):=by
  refine⟨λi m σ H=>m=xs.length-i/\i<=xs.length/\b i σ H,⟨xs.length,by simp,JN _,t⟩,?_⟩;rintro i m σ H ⟨rfl,hi,p⟩;have q:=r i σ H hi p;by_cases h:i<xs.length
  · refine .inr ⟨⟨xs,xs[i],q,by simp[h]⟩,b (i+1),λf c n=>⟨xs.length-(i+1),by grind,rfl,h,n⟩,λx c y=>?_⟩
    obtain⟨e,y⟩:=y;subst e;exact o i x σ _ (y xs q) p
  · have e:i=xs.length:=by grind
    subst e;exact .inl ⟨⟨xs,q,Jc _⟩,s σ H p⟩
theorem vX {lo:Int}{n:Nat}{g:TG}{j:TS}{D:Ends}{σ:St}{H:Hp}(a:Nat->St->Hp->Prop)(r:a 0 σ H)(o:∀ i σ H,i<n->a i σ H->g (.int (lo+i)) σ H λc h=>j { D with nx:=a (i+1),ct:=a (i+1),bk:=D.nx } c h)(q:∀ σ H,a n σ H->D.nx σ H) :
    ∃ W:Nat->Nat->St->Hp->Prop,(∃ m,W 0 m σ H)/\∀ i m σ H,W i m σ H ->
      ((Itr lo n).stop i H/\D.nx σ H)\/((Itr lo n).go i H/\∃ N:St->Hp->Prop,(∀ d b,N d b->∃ k,k<m/\W (i+1) k d b)/\∀ x b,(Itr lo n).yld i H x b->g x σ b λc h=>j { D with nx:=N,ct:=N,bk:=D.nx } c h):=by
  refine⟨λi m σ H=>m=n-i/\i<=n/\a i σ H,⟨n,by simp,JN _,r⟩,?_⟩;rintro i m σ H ⟨rfl,hi,p⟩;by_cases f:i<n
  · refine .inr ⟨f,a (i+1),λd b l=>⟨n-(i+1),by grind,rfl,f,l⟩,λx b y=>?_⟩
    obtain⟨e,y⟩:=y;subst e y;exact o i σ _ f p
  · have e:i=n:=by lia
    subst e;exact .inl ⟨Jc _,q σ H p⟩
noncomputable abbrev R2:=V->V->Hp->VK->Prop
noncomputable def OpR (X:Cx)(f:Value->Value->Sem Value)(r:R2):Prop :=
  ∀ (pins:List (Addr × Obj)) (s:Shared) (σ:St) (H:Hp) (x y:V) (v u:Value) (Q:VK),Inv X pins σ H s->RelV x v->RelV y u->r x y H Q ->
    wpAny (model X.prog X.w) X.A (f v u) (EP X pins σ Q) X.xe s
noncomputable def UnR (X:Cx)(f:Value->Sem Value)(r:V->Hp->VK->Prop):Prop :=
  ∀ (pins:List (Addr × Obj)) (s:Shared) (σ:St) (H:Hp) (x:V) (v:Value) (Q:VK),Inv X pins σ H s->RelV x v->r x H Q ->
    wpAny (model X.prog X.w) X.A (f v) (EP X pins σ Q) X.xe s
noncomputable def CallR (X:Cx)(f:Value)(r:List V->Hp->VK->Prop):Prop :=
  ∀ (pins:List (Addr × Obj)) (s:Shared) (σ:St) (H:Hp) (a:List V) (b:List Value) (Q:VK),Inv X pins σ H s->Vals a b->r a H Q ->
    wpAny (model X.prog X.w) X.A (call f b) (EP X pins σ Q) X.xe s
noncomputable def TruR (X:Cx)(r:V->Hp->(Bool->Hp->Prop)->Prop):Prop :=
  ∀ (pins:List (Addr × Obj)) (s:Shared) (σ:St) (H:Hp) (x:V) (v:Value) (Q:Bool->Hp->Prop),Inv X pins σ H s->RelV x v->r x H Q ->
    wpAny (model X.prog X.w) X.A (truthy v) (TP X pins σ Q) X.xe s
noncomputable def tOp (r:R2)(b a:TE):TE:=λσ H Q=>b σ H λx d=>a σ d λy c=>r x y c Q
noncomputable def tUn (r:V->Hp->VK->Prop)(a:TE):TE:=λσ H Q=>a σ H λx b=>r x b Q
noncomputable def rI (C:Int->Int->Prop)(g:Int->Int->V):R2:=λx y H Q=>∃ i j,x=.int i/\y=.int j/\C i j/\Q (g i j) H
noncomputable def rI0 (g:Int->Int->V):R2:=λx y H Q=>∃ i j,x=.int i/\y=.int j/\Q (g i j) H
noncomputable def rU (g:Int->V):V->Hp->VK->Prop:=λx H Q=>∃ i,x=.int i/\Q (g i) H
section
variable {X:Cx}{a b:Expr}{ta tb:TE}{pos:Pos}
theorem br (ha:PE X a ta)(hb:PE X b tb){pins:List (Addr × Obj)}{s:Shared}{σ:St}{H:Hp}{R:V->V->Hp->Prop}(I:Inv X pins σ H s)(h:ta σ H λx g=>tb σ g λy c=>R x y c){Q:Value->Shared->Prop}{f:Value->Value->Sem Value}(n:∀ v u s2 x y c,Inv X pins σ c s2->RelV x v->RelV y u->R x y c->wpAny (model X.prog X.w) X.A (f v u) Q X.xe s2) :
    wpAny (model X.prog X.w) X.A (eval a X.env) (λv e=>wpAny (model X.prog X.w) X.A (eval b X.env) (λu d=>wpAny (model X.prog X.w) X.A (f v u) Q X.xe d) X.xe e) X.xe s:=by
  refine thn (ha pins s σ H _ I h) λv i ⟨x,g,p,k,m⟩=>?_;refine thn (hb pins i σ g _ p m) λu s2 ⟨y,c,o,j,l⟩=>?_;exact n v u s2 x y c o k j l
theorem zS {op:Operator}{r:R2}(f:OpR X (binaryOp op) r)(ha:PE X a ta)(hb:PE X b tb):PE X (.BinOp a op b pos) (tOp r ta tb):=by
  intro pins s σ H Q I h;exact wpAny_BinOp (br ha hb I h λv u c x y i g e d q=>f pins c σ i x y v u Q g e d q)
theorem di {op:UnaryOp}{r:V->Hp->VK->Prop}(e:UnR X (unaryOp op) r)(ha:PE X a ta):PE X (.UnaryOp op a pos) (tUn r ta):=by
  intro pins s σ H Q I h;exact UnaryOp_ (thn (ha pins s σ H _ I h) λv b ⟨x,g,f,c,d⟩=>e pins b σ g x v Q f c d)
theorem opI {f:Value->Value->Sem Value}{C:Int->Int->Prop}{g:Int->Int->Int}(rule:∀ (i j:Int) (t u:Tok) (s:Shared) (Q:Value->Shared->Prop) (E:Value->Shared->Prop),C i j->Q (.int (g i j) s.toks) { s with toks:=s.toks+1 }->wpAny (model X.prog X.w) X.A (f (.int i t) (.int j u)) Q E s) :
    OpR X f (rI C λi j=>.int (g i j)):=by
  intro pins s σ H x y v u Q I c b h;obtain⟨i,j,rfl,rfl,d,q⟩:=h;obtain⟨t,rfl⟩:=c;obtain⟨a,rfl⟩:=b;exact rule i j t a s _ _ d ⟨.int (g i j),H,I.tok _,⟨_,rfl⟩,q⟩
theorem aW {f:Value->Value->Sem Value}{g:Int->Int->Int}(rule:∀ (i j:Int) (t u:Tok) (s:Shared) (Q:Value->Shared->Prop) (E:Value->Shared->Prop),Q (.int (g i j) s.toks) { s with toks:=s.toks+1 }->wpAny (model X.prog X.w) X.A (f (.int i t) (.int j u)) Q E s) :
    OpR X f (rI0 λi j=>.int (g i j)):=by
  intro pins s σ H x y v u Q I c b h;obtain⟨i,j,rfl,rfl,q⟩:=h;obtain⟨t,rfl⟩:=c;obtain⟨a,rfl⟩:=b;exact rule i j t a s _ _ ⟨.int (g i j),H,I.tok _,⟨_,rfl⟩,q⟩
theorem eG {f:Value->Value->Sem Value}{g:Int->Int->Bool}(rule:∀ (i j:Int) (t u:Tok) (s:Shared) (Q:Value->Shared->Prop) (E:Value->Shared->Prop),Q (.bool (g i j)) s->wpAny (model X.prog X.w) X.A (f (.int i t) (.int j u)) Q E s) :
    OpR X f (rI0 λi j=>.bl (g i j)):=by
  intro pins s σ H x y v u Q I c b h;obtain⟨i,j,rfl,rfl,q⟩:=h;obtain⟨t,rfl⟩:=c;obtain⟨a,rfl⟩:=b;exact rule i j t a s _ _ ⟨.bl (g i j),H,I,rfl,q⟩
noncomputable def CDiv (i j:Int):Prop:=0<j/\j<1073741824
noncomputable def CPow (i j:Int):Prop:=0<=j/\j<=1000000/\i.natAbs<2 ^ 64
noncomputable def CMul (i j:Int):Prop:=(-(2 ^ 64)<i/\i<2 ^ 64)\/(-(2 ^ 64)<j/\j<2 ^ 64)
theorem CMul.ok {i j:Int}(h:CMul i j):IntMulOk i j:=by
  rcases h with ⟨b,a⟩|⟨b,a⟩
  · exact .of_left (intBits_le_64 b a)
  · exact .of_right (intBits_le_64 b a)
theorem yW:OpR X (binaryOp .Add) (rI0 λi j=>.int (i+j)):=aW λ_ _ _ _ _ _ _ q=>add_int q
theorem vT:OpR X (binaryOp .Sub) (rI0 λi j=>.int (i-j)):=aW λ_ _ _ _ _ _ _ q=>sub_int q
theorem vU:OpR X (binaryOp .Mult) (rI CMul λi j=>.int (i*j)):=opI λ_ _ _ _ _ _ _ a q=>mul_int q a.ok
theorem vF:OpR X (binaryOp .FloorDiv) (rI CDiv λi j=>.int (i / j)):=opI λi j _ _ _ _ _ a q=>by
  have c:(0:Int)<j:=a.1;have b:j<1073741824:=a.2;exact floordiv_int (by grind) (by rw[Int.fdiv_eq_ediv_of_nonneg i (by lia)];exact q) (.inl (PyProof.noPylong_small (by omega)))
theorem xX:OpR X (binaryOp .Mod) (rI (λ_ j=>0<j) λi j=>.int (i%j)):=opI λi j _ _ _ _ _ a q=>by
  have b:(0:Int)<j:=a;exact mod_int' (by grind) (by rw[Int.fmod_eq_emod_of_nonneg i (by grind)];exact q)
theorem nL:OpR X (binaryOp .Pow) (rI CPow λi j=>.int (i ^ j.toNat)):=opI λ_ _ _ _ _ _ _ a q=>pow_int_small a.1 a.2.1 a.2.2 q
theorem unI {f:Value->Sem Value}{g:Int->Int}(rule:∀ (i:Int) (t:Tok) (s:Shared) (Q:Value->Shared->Prop) (E:Value->Shared->Prop),Q (.int (g i) s.toks) { s with toks:=s.toks+1 }->wpAny (model X.prog X.w) X.A (f (.int i t)) Q E s) :
    UnR X f (rU λi=>.int (g i)):=by
  intro pins s σ H x v Q I a h;obtain⟨i,rfl,q⟩:=h;obtain⟨t,rfl⟩:=a;exact rule i t s _ _ ⟨.int (g i),H,I.tok _,⟨_,rfl⟩,q⟩
theorem jz:UnR X (unaryOp .USub) (rU λi=>.int (-i)):=unI λ_ _ _ _ _ q=>neg_int q
end
noncomputable def aL:V->V->Bool
  | .non,.non=>true|.non,.int _=>true|.int _,.non=>true|.non,.bl _=>true|.bl _,.non=>true|.non,.str _=>true|.str _,.non=>true
  | .int _,.int _=>true|.bl _,.bl _=>true|.str _,.str _=>true|.byt _,.byt _=>true
  | .int _,.str _=>true|.str _,.int _=>true|.bl _,.str _=>true|.str _,.bl _=>true
  | _,_=>false
noncomputable def rEq:R2:=λx y H Q=>aL x y=true/\Q (.bl (decide (x=y))) H
noncomputable def rNe:R2:=λx y H Q=>aL x y=true/\Q (.bl (!decide (x=y))) H
theorem lG {i j:Int}:decide (V.int i=V.int j)=(i == j):=by
  rw[Yj];simp
theorem gk {i j:Bool}:decide (V.bl i=V.bl j)=(i == j):=by
  rw[Yj];simp
theorem lF {i j:Str}:decide (V.str i=V.str j)=(i == j):=by
  rw[Yj];simp
theorem lH {i j:Array UInt8}:decide (V.byt i=V.byt j)=(i.toList == j.toList):=by
  rw[Yj];cases i;cases j;simp
section
variable {X:Cx}{a b c:Expr}{ta tb tc:TE}{pos:Pos}
theorem yC {pins:List (Addr × Obj)}{σ:St}{H:Hp}{s:Shared}{Q:VK}{k a:Bool}(I:Inv X pins σ H s)(q:Q (.bl k) H)(e:k=a):EP X pins σ Q (.bool a) s:=by
  subst e;exact⟨.bl k,H,I,rfl,q⟩
theorem xv:OpR X (compareOp .Eq) rEq:=by
  intro pins s σ H x y v u Q I d a h;obtain⟨c,q⟩:=h
  cases x with
  | non =>
    cases d
    cases y with
    | non=>cases a;exact PySem.EqNone.eq_none_none (yC I q (by simp))
    | bl j=>cases a;exact PySem.EqNone.eq_none_bool (yC I q (by simp))
    | int j=>obtain⟨b,rfl⟩:=a;exact PySem.EqNone.eq_none_int (yC I q (by simp))
    | str j=>obtain⟨b,rfl⟩:=a;exact PySem.EqNone.eq_none_str (yC I q (by simp))
    | _=>exact absurd (show false=true from c) Jj
  | bl i =>
    cases d
    cases y with
    | non=>cases a;exact PySem.EqNone.eq_bool_none (yC I q (by simp))
    | bl j=>cases a;exact eq_bool (yC I q gk)
    | str j=>obtain⟨b,rfl⟩:=a;exact PySem.EqMixed.eq_bool_str (yC I q (by simp))
    | _=>exact absurd (show false=true from c) Jj
  | int i =>
    obtain⟨t,rfl⟩:=d
    cases y with
    | non=>cases a;exact PySem.EqNone.eq_int_none (yC I q (by simp))
    | int j=>obtain⟨b,rfl⟩:=a;exact eq_int (yC I q lG)
    | str j=>obtain⟨b,rfl⟩:=a;exact PySem.EqMixed.eq_int_str (yC I q (by simp))
    | _=>exact absurd (show false=true from c) Jj
  | str i =>
    obtain⟨t,rfl⟩:=d
    cases y with
    | non=>cases a;exact PySem.EqNone.eq_str_none (yC I q (by simp))
    | bl j=>cases a;exact PySem.EqMixed.eq_str_bool (yC I q (by simp))
    | int j=>obtain⟨b,rfl⟩:=a;exact PySem.EqMixed.eq_str_int (yC I q (by simp))
    | str j=>obtain⟨b,rfl⟩:=a;exact eq_str (yC I q lF)
    | _=>exact absurd (show false=true from c) Jj
  | byt i =>
    obtain⟨t,rfl⟩:=d
    cases y with
    | byt j=>obtain⟨b,rfl⟩:=a;exact PySem.W.eq_bytes (yC I q lH)
    | _=>exact absurd (show false=true from c) Jj
  | _=>cases y<;>exact absurd (show false=true from c) Jj
theorem uj:OpR X (compareOp .NotEq) rNe:=by
  intro pins s σ H x y v u Q I d a h;obtain⟨c,q⟩:=h
  cases x with
  | non =>
    cases d
    cases y with
    | non=>cases a;exact PySem.EqNone.ne_none_none (yC I q (by simp))
    | bl j=>cases a;exact PySem.EqNone.ne_none_bool (yC I q (by simp))
    | int j=>obtain⟨b,rfl⟩:=a;exact PySem.EqNone.ne_none_int (yC I q (by simp))
    | str j=>obtain⟨b,rfl⟩:=a;exact PySem.EqNone.ne_none_str (yC I q (by simp))
    | _=>exact absurd (show false=true from c) Jj
  | bl i =>
    cases d
    cases y with
    | non=>cases a;exact PySem.EqNone.ne_bool_none (yC I q (by simp))
    | bl j=>cases a;exact ne_bool (yC I q (JS not gk))
    | str j=>obtain⟨b,rfl⟩:=a;exact PySem.EqMixed.ne_bool_str (yC I q (by simp))
    | _=>exact absurd (show false=true from c) Jj
  | int i =>
    obtain⟨t,rfl⟩:=d
    cases y with
    | non=>cases a;exact PySem.EqNone.ne_int_none (yC I q (by simp))
    | int j=>obtain⟨b,rfl⟩:=a;exact ne_int (yC I q (JS not lG))
    | str j=>obtain⟨b,rfl⟩:=a;exact PySem.EqMixed.ne_int_str (yC I q (by simp))
    | _=>exact absurd (show false=true from c) Jj
  | str i =>
    obtain⟨t,rfl⟩:=d
    cases y with
    | non=>cases a;exact PySem.EqNone.ne_str_none (yC I q (by simp))
    | bl j=>cases a;exact PySem.EqMixed.ne_str_bool (yC I q (by simp))
    | int j=>obtain⟨b,rfl⟩:=a;exact PySem.EqMixed.ne_str_int (yC I q (by simp))
    | str j=>obtain⟨b,rfl⟩:=a;exact ne_str (yC I q (JS not lF))
    | _=>exact absurd (show false=true from c) Jj
  | byt i =>
    obtain⟨t,rfl⟩:=d
    cases y with
    | byt j=>obtain⟨b,rfl⟩:=a;exact PySem.W.ne_bytes (yC I q (JS not lH))
    | _=>exact absurd (show false=true from c) Jj
  | _=>cases y<;>exact absurd (show false=true from c) Jj
theorem aU:OpR X (compareOp .Lt) (rI0 λi j=>.bl (decide (i<j))):=eG λ_ _ _ _ _ _ _ q=>lt_int q
theorem mT:OpR X (compareOp .LtE) (rI0 λi j=>.bl (decide (i<=j))):=eG λ_ _ _ _ _ _ _ q=>le_int q
theorem iz:OpR X (compareOp .Gt) (rI0 λi j=>.bl (decide (j<i))):=eG λ_ _ _ _ _ _ _ q=>gt_int q
theorem aV:OpR X (compareOp .GtE) (rI0 λi j=>.bl (decide (j<=i))):=eG λ_ _ _ _ _ _ _ q=>ge_int q
theorem yE (b:Expr){op:CmpOp}(h:op≠.In:=by decide)(a:op≠.NotIn:=by decide):behindInMarks op b=false:=by
  have c:(op == CmpOp.In)=false:=by cases op<;>first|rfl|exact absurd rfl h
  have e2:(op == CmpOp.NotIn)=false:=by cases op<;>first|rfl|exact absurd rfl a
  cases b<;>simp[behindInMarks,c,e2]
theorem uG {op:CmpOp}{r:R2}(f:OpR X (compareOp op) r)(ha:PE X a ta)(hb:PE X b tb)(hm:behindInMarks op b=false):PE X (.Compare a [op] [b] pos) (tOp r ta tb):=by
  intro pins s σ H Q I h;exact wpAny_Compare1 (br ha hb I h λv u c x y i g e d q=>f pins c σ i x y v u Q g e d q) hm
noncomputable def bx (t:TE):TT:=λσ H Q=>t σ H λx a=>∃ k,x=.bl k/\Q k a
theorem zt {op:CmpOp}{r:R2}(o:OpR X (compareOp op) r)(ha:PE X a ta)(hb:PE X b tb)(hm:behindInMarks op b=false):PT X (.Compare a [op] [b] pos) (bx (tOp r ta tb)):=by
  intro pins s σ H Q I h
  refine wpAny_isTrue_Compare1 (thn (ha pins s σ H _ I h) λv f ⟨x,B,t,j,n⟩=>thn (hb pins f σ B _ t n) λu d ⟨y,A,q,i,m⟩ =>
    thn (o pins d σ A x y v u _ q j i m) λc C ⟨z,w,p,g,k,e,l⟩=>?_) hm
  subst e;cases g;exact Yy ⟨w,p,l⟩
noncomputable def cJ (r c:R2)(ta tb tc:TE):TE:=λσ H Q=>ta σ H λx f=>tb σ f λy e=>r x y e λz a=>∃ k,z=.bl k /\
  (if k=true then tc σ a λb d=>c y b d Q else Q (.bl false) a)
theorem pF {op f:CmpOp}{r j:R2}(J:OpR X (compareOp op) r)(g:OpR X (compareOp f) j)(ha:PE X a ta)(hb:PE X b tb)(K:PE X c tc)(hm:lastMarks [op,f] [b,c]=false:=by with_unfolding_all rfl):PE X (.Compare a [op,f] [b,c] pos) (cJ r j ta tb tc):=by
  intro pins s σ H Q I h
  refine Compare_chain (thn (ha pins s σ H _ I h) λv A ⟨x,R,N,D,G⟩=>chain_link (thn (hb pins A σ R _ N G) λu w ⟨y,P,M,i,F⟩ =>
    thn (J pins w σ P x y v u _ M D i F) λd t ⟨z,n,m,C,k,e,l⟩=>?_)) hm
  subst e;cases C;refine Yy ?_
  cases k with
  | false=>exact ite_ff ⟨.bl false,n,m,rfl,l⟩
  | true=>exact ite_tt (chain_last (thn (K pins t σ n _ m l) λp q ⟨o,O,L,B,E⟩=>g pins q σ O y o u p Q L i B E))
noncomputable def TruV (K:PySem.W.Frag)(x:V)(H:Hp)(k:Bool):Prop :=
  match x with
  | .non=>k=false
  | .bl b=>k=b
  | .int i=>k=(i != 0)
  | .str y=>y.length<=sizeLine/\k=((y.length:Int) != 0)
  | .byt y=>y.size<=sizeLine/\k=((y.size:Int) != 0)
  | .ref p=>(∃ a,SqL K H p a/\k = !a.isEmpty)\/(∃ a,SqT K H p a/\k = !a.isEmpty)\/∃ c,H p=some (.dK c)/\k = !c.isEmpty
  | _=>False
theorem nu {κ:Type}{kvs:List (κ × V)}{vs:List (κ × Value)}(r:KV kvs vs):(!vs.isEmpty) = !kvs.isEmpty:=by
  cases r<;>rfl
theorem uz {xs:List V}{its:List Value}(r:Vals xs its):(!its.toArray.isEmpty) = !xs.isEmpty:=by
  cases r<;>simp
theorem ur:(sizeLine:Nat)<2 ^ 63:=by rw[JH];decide
theorem cB:TruR X (λx H Q=>∃ k,TruV X.K x H k/\Q k H):=by
  intro pins s σ H x v Q I f h;obtain⟨k,e,q⟩:=h;have A:=ur;have z:sizeLine=16777216:=JH
  cases x with
  | non =>
    cases f;have a:k=false:=e;subst a
    exact truthy_none ⟨H,I,q⟩
  | bl b =>
    cases f;have a:k=b:=e;subst a
    exact Yy ⟨H,I,q⟩
  | int i =>
    obtain⟨t,rfl⟩:=f;have a:k=(i != 0):=e;subst a
    exact PySem.P.truthy_int ⟨H,I,q⟩
  | str y =>
    obtain⟨t,rfl⟩:=f;obtain⟨u,a⟩:y.length<=sizeLine/\k=((y.length:Int) != 0):=e;subst a
    exact PySem.P.truthy_str (by lia) ⟨H,I.tok _,q⟩
  | byt y =>
    obtain⟨t,rfl⟩:=f;obtain⟨u,a⟩:y.size<=sizeLine/\k=((y.size:Int) != 0):=e;subst a
    exact PySem.W.truthy_bytes (by lia) ⟨H,I.tok _,q⟩
  | ref p =>
    cases f;have a:(∃ d,SqL X.K H p d/\k = !d.isEmpty)\/(∃ d,SqT X.K H p d/\k = !d.isEmpty)\/∃ c,H p=some (.dK c)/\k = !c.isEmpty:=e;rcases a with ⟨d,g,a⟩|⟨d,g,a⟩|⟨c,g,a⟩
    · subst a
      obtain⟨n,r,l,o⟩:=I.list g;have hlen:=r.length;exact wpAny_truthy_list l.isList (by simp only[Jm];lia) ⟨H,I.tok _,by rw[uz r];exact q⟩
    · subst a
      obtain⟨n,r,l,o⟩:=I.tuple g;have hlen:=r.length;exact truthy_tuple l (by simp only[Jm];grind) ⟨H,I.tok _,by rw[uz r];exact q⟩
    · subst a
      obtain⟨o,w,j,r,m⟩:c.length<=sizeLine/\(p == sysModules)=false/\∃ j,KV c j/\s.heap.DictOf (yd X.prog X.w) p j:=I.hok p _ g;have hlen:c.length=j.length:=Yc r
      exact wpAny_truthy_dict w m (by lia) ⟨H,I.tok _,by rw[nu r];exact q⟩
  | _=>exact(show False from e).elim
theorem qu (ha:PE X a ta)(e:∀ whole,isTrue a X.env whole=(do let v <- whole;standAt a.pos;holding [v] (truthy v))) :
    PT X a (λσ H Q=>ta σ H λx H'=>∃ k,TruV X.K x H' k/\Q k H'):=by
  intro pins s σ H Q I h;exact isTrue_plain (thn (ha pins s σ H _ I h) λv b ⟨x,g,f,c,d⟩=>cB pins b σ g x v Q f c d) (e _)
theorem wa {x:V}{us:List Value}(r:Vals [x] us):∃ u,us=[u]/\RelV x u:=by
  cases r with
  | cons b a=>cases a;exact⟨_,rfl,b⟩
theorem mC {x y:V}{us:List Value}(r:Vals [x,y] us):∃ u a,us=[u,a]/\RelV x u/\RelV y a:=by
  cases r with
  | cons e d =>
    cases d with
    | cons c b=>cases b;exact⟨_,_,rfl,e,c⟩
theorem oV:CallR X (.builtin "abs") (λxs H Q=>∃ i,xs=[.int i]/\Q (.int (if i<0 then -i else i)) H):=by
  intro pins s σ H xs a Q I r h;obtain⟨i,rfl,q⟩:=h;obtain⟨u,rfl,t,rfl⟩:=wa r;exact call_abs_int λu b=>⟨.int (if i<0 then -i else i),H,I.tok _,⟨_,rfl⟩,q⟩
theorem jb (b:X.calm=true):CallR X (.builtin "max") (λxs H Q=>∃ i j,xs=[.int i,.int j]/\Q (.int (if j > i then j else i)) H):=by
  intro pins s σ H xs d Q I r h;obtain⟨i,j,rfl,q⟩:=h;obtain⟨u,c,rfl,⟨t,rfl⟩,⟨f,rfl⟩⟩:=mC r;refine max_two_ints (I.ok.hd b) λg e k=>⟨_,H,I.kept k,?_,q⟩;by_cases a:j > i
  · rw[Jg a,Jg a];exact⟨_,rfl⟩
  · rw[Je a,Je a];exact⟨_,rfl⟩
theorem ja (b:X.calm=true):CallR X (.builtin "min") (λxs H Q=>∃ i j,xs=[.int i,.int j]/\Q (.int (if j<i then j else i)) H):=by
  intro pins s σ H xs d Q I r h;obtain⟨i,j,rfl,q⟩:=h;obtain⟨u,c,rfl,⟨t,rfl⟩,⟨f,rfl⟩⟩:=mC r;refine min_two_ints (I.ok.hd b) λg e k=>⟨_,H,I.kept k,?_,q⟩;by_cases a:j<i
  · rw[Jg a,Jg a];exact⟨_,rfl⟩
  · rw[Je a,Je a];exact⟨_,rfl⟩
theorem je:CallR X (.type "int") (λxs H Q=>(∃ i,xs=[.int i]/\Q (.int i) H)\/∃ k,xs=[.bl k]/\Q (.int (if k then 1 else 0)) H):=by
  intro pins s σ H xs b Q I r h;rcases h with ⟨i,rfl,q⟩|⟨k,rfl,q⟩
  · obtain⟨u,rfl,t,rfl⟩:=wa r
    exact call_int_int ⟨.int i,H,I,⟨_,rfl⟩,q⟩
  · obtain⟨u,rfl,a⟩:=wa r
    cases a;exact call_int_bool ⟨.int (if k then 1 else 0),H,I.tok _,⟨_,rfl⟩,q⟩
theorem tT:CallR X (.type "bool") (λxs H Q=>(∃ i,xs=[.int i]/\Q (.bl (i != 0)) H)\/∃ k,xs=[.bl k]/\Q (.bl k) H):=by
  intro pins s σ H xs b Q I r h;rcases h with ⟨i,rfl,q⟩|⟨k,rfl,q⟩
  · obtain⟨u,rfl,t,rfl⟩:=wa r
    exact call_bool_int ⟨.bl (i != 0),H,I,rfl,q⟩
  · obtain⟨u,rfl,a⟩:=wa r
    cases a;exact call_bool_bool ⟨.bl k,H,I,rfl,q⟩
end
structure ObjM (h:Heap) (x dx C:Addr) (mA:Str->Option Value):Prop where
  obj:h.get? x=some (PySem.W.instObj C dx)
  ns:h.Ns1 dx mA
  ne:dx≠x
theorem jD {h:Heap}{dx:Addr}{mA:Str->Option Value}(n:h.Ns1 dx mA):∃ od,h.get? dx=some od/\∀ name,PySem.W.lookIn name od=some (mA name):=by
  obtain⟨o,c,l,f,j,i,_,g⟩:=n;refine⟨o,f,λname=>?_⟩;have e:=g name;unfold nsFind findBy at e;rw[<- Array.find?_toList]at e;unfold PySem.W.lookIn;rw[j];dsimp only;split
  · rename_i y q
    rw[q]at e;exact JS some e
  · rename_i q
    rw[q]at e
    have a:c.toList.any (·.refKey)=false:=by
      rw[List.any_eq_false];intro y d;obtain⟨z,t,b⟩:=i y (Array.mem_toList_iff.mp d);simp[DictEntry.refKey,b]
    have k:¬ c.toList.any (·.refKey)=true:=by rw[a];exact Jj
    rw[Je k];exact JS some e
theorem ObjM.look {h:Heap}{x dx C:Addr}{mA:Str->Option Value}(I:ObjM h x dx C mA):∃ od,PySem.W.InstAt h x (PySem.W.instObj C dx) C (some od)/\∀ name,PySem.W.lookIn name od=some (mA name) :=
  let ⟨od,a,b⟩:=jD I.ns
  ⟨od,⟨I.obj,rfl,rfl,a⟩,b⟩
theorem RelO.some_of {v:V}{o:Option Value}(r:RelO (some v) o):∃ u,o=some u/\RelV v u:=by
  cases o with
  | none=>exact(show False from r).elim
  | some u=>exact⟨u,rfl,r⟩
section
variable {P:Program}{w:World}{H:Hp}{h:Heap}{a C dx:Addr}{fs:List (Str × V)}
theorem ez (hok:HOk P w H h)(e:H a=some (.ins C dx fs)):∃ mA,ObjM h a dx C mA/\(∀ f,RelO (fs.lookup f) (mA f))/\PySem.Within mA (fs.map (·.1))/\fs.length<=1000/\H dx=some (.own a):=by
  obtain⟨d,z,ne,ob,mA,n,r,q⟩:=(show ObjOk P w H h a (.ins C dx fs) from hok a _ e);exact⟨mA,⟨ob,n,ne⟩,r,q,z,d⟩
end
structure Cls (K:PySem.W.Frag) (C:Addr):Prop where
  pg:PySem.W.plainGet K C Str.empty=true
  hd:PySem.W.hasDictIn K C=true
  po:PySem.W.plainOver K C=true
  sa:PySem.W.findIn K (.ref C) "__setattr__" = some (some (.builtin "object.__setattr__"))
theorem Cls.get {K:PySem.W.Frag}{C:Addr}(c:Cls K C)(f:Str):PySem.W.plainGet K C f=true:=c.pg
section
variable {X:Cx}{pins:List (Addr × Obj)}{σ:St}{H:Hp}{s:Shared}{A:Around}{E:Value->Shared->Prop}{Q:Value->Shared->Prop}{c:Value}{b:Bool}
inductive TyOf (K:PySem.W.Frag) (H:Hp):V->Value->Prop where
  | non:TyOf K H .non (.type "NoneType")
  | bl (x:Bool):TyOf K H (.bl x) (.type "bool")
  | int (i:Int):TyOf K H (.int i) (.type "int")
  | str (x:Str):TyOf K H (.str x) (.type "str")
  | flt (x:UInt64):TyOf K H (.flt x) (.type "float")
  | lst {a:Addr}{xs:List V}(e:H a=some (.lst xs)):TyOf K H (.ref a) (.type "list")
  | frz {a:Addr}{o:Obj}{xs:List V}(e:H a=some (.frz o (.lst xs))):TyOf K H (.ref a) (.type "list")
  | tup {a:Addr}{xs:List V}(e:H a=some (.tup xs)):TyOf K H (.ref a) (.type "tuple")
  | dK {a:Addr}{kvs:List (Key × V)}(e:H a=some (.dK kvs)):TyOf K H (.ref a) (.type "dict")
  | dT {a:Addr}{kvs:List (List Key × V)}(e:H a=some (.dT kvs)):TyOf K H (.ref a) (.type "dict")
  | ins {a C dx:Addr}{fs:List (Str × V)}(e:H a=some (.ins C dx fs)) (cl:Cls K C) (ha:PySem.W.findIn K (.ref C) "__class__" = some (some (.builtin "object.__class__")))
      (hn:PySem.W.specialIn K (.builtin "object.__class__") "__get__" = some (some (.builtin "getset_descriptor.__get__"))) (htk:PySem.W.takesIn K (.builtin "object.__class__")=some true)
      (hm:PySem.W.mroIn K C (.type "object")=some true):TyOf K H (.ref a) (.ref C)
theorem jM {x:V}{u t:Value}(I:Inv X pins σ H s)(d:RelV x u)(ty:TyOf X.K H x t)(e:PySem.W.kitOne X.K t c=some b)(h:∀ tk,Q (.bool b) { s with toks:=tk }) :
    wpAny (model X.prog X.w) A (call (.builtin "isinstance") [u,c]) Q E s:=by
  cases ty with
  | non=>cases (show u=Value.none from d);exact YE PySem.W.kitx_none I.kIn True.intro e (λz=>nomatch z) h
  | bl y=>cases (show u=Value.bool y from d);exact YE PySem.W.kitx_bool I.kIn True.intro e (λz=>nomatch z) h
  | int i=>obtain⟨t,q⟩:=(show ∃ t,u=Value.int i t from d);cases q;exact YE PySem.W.kitx_int I.kIn True.intro e (λz=>nomatch z) h
  | str y=>obtain⟨t,q⟩:=(show ∃ t,u=Value.str y t from d);cases q;exact YE PySem.W.kitx_str I.kIn True.intro e (λz=>nomatch z) h
  | flt y=>obtain⟨t,q⟩:=(show ∃ t,u=Value.float y t from d);cases q;exact YE PySem.W.kitx_float I.kIn True.intro e (λz=>nomatch z) h
  | @lst a k f =>
    cases (show u=Value.ref a from d);obtain⟨_,_,n,_,g⟩:=(show ObjOk X.prog X.w H s.heap a (.lst k) from I.hok a _ f)
    exact YE PySem.W.kitx_list I.kIn ⟨_,g,rfl⟩ e (λz=>nomatch z) h
  | @frz a ob k f =>
    cases (show u=Value.ref a from d);obtain⟨_,_,_,n,_,g⟩:=(show ObjOk X.prog X.w H s.heap a (.frz ob (.lst k)) from I.hok a _ f)
    exact YE PySem.W.kitx_list I.kIn ⟨_,g,rfl⟩ e (λz=>nomatch z) h
  | @tup a k f =>
    cases (show u=Value.ref a from d);obtain⟨_,_,_,r⟩:=(show ObjOk X.prog X.w H s.heap a (.tup k) from I.hok a _ f);have p:=r.tup;obtain⟨o,g,l,_⟩:=p
    exact YE PySem.W.kitx_tuple I.kIn ⟨o,g,l⟩ e (λz=>nomatch z) h
  | @dK a j f =>
    cases (show u=Value.ref a from d);obtain⟨_,_,G,_,p⟩:=(show ObjOk X.prog X.w H s.heap a (.dK j) from I.hok a _ f);obtain⟨o,D,F,g,l,_⟩:=p
    exact YE PySem.W.kitx_dict I.kIn ⟨o,g,l.1⟩ e (λz=>nomatch z) h
  | @dT a j f =>
    cases (show u=Value.ref a from d);obtain⟨_,_,k,_,o,D,F,g,l,_⟩:=(show ObjOk X.prog X.w H s.heap a (.dT j) from I.hok a _ f)
    exact YE PySem.W.kitx_dict I.kIn ⟨o,g,l.1⟩ e (λz=>nomatch z) h
  | @ins a C M fs f cl B v m w =>
    cases (show u=Value.ref a from d);obtain⟨L,O,_⟩:=ez I.hok f;obtain⟨K,J,_⟩:=O.look;exact YE (PySem.W.kitx_own (cl.get _) cl.hd B v m w) I.kIn J e (λz=>nomatch z) h
end
structure Room (k:Nat) (A:Around):Prop where
  hd:A.handled=none
  dp:A.depth+3*k+5<recursionLimit
  un:A.units+16*k+200<cLine
  gd:A.guards=some []
theorem Room.mono {j k:Nat}{A:Around}(r:Room k A)(h:j<=k):Room j A:=⟨r.hd,by have:=r.dp;grind,by have:=r.un;grind,r.gd⟩
theorem Room.deeper {k:Nat}{A:Around}(r:Room (k+1) A)(env:Env):Room k (A.deeper env) :=
  ⟨r.hd,by have:=r.dp;show A.depth+1+3*k+5<_;lia,by have:=r.un;show A.units+3+16*k+200<_;lia,r.gd⟩
theorem Room.depth {k:Nat}{A:Around}(r:Room k A):A.depth<recursionLimit:=by have:=r.dp;grind
theorem Room.units {k:Nat}{A:Around}(r:Room k A):A.units+64<cLine:=by have:=r.un;grind
theorem Room.units0 {k:Nat}{A:Around}(r:Room k A):A.units<cLine:=by have:=r.un;grind
noncomputable def cE:TA:=λ_ H Q=>Q [] H
noncomputable def j8 (c:TE)(b:TA):TA:=λσ H Q=>c σ H λx e=>b σ e λa d=>Q (x::a) d
section
variable {X:Cx}{e:Expr}{es:List Expr}{te:TE}{t:TA}{pos:Pos}
theorem zB:PA X [] cE:=λ_ _ _ _ H Q I h=>W6 ⟨[],H,I,.nil,h⟩
theorem zA (ha:PE X e te)(j:PA X es t)(i:starEach (e::es) X.env=(false,eval e X.env)::starEach es X.env:=by rfl):PA X (e::es) (j8 te t):=by
  intro pos pins s σ H Q I h;rw[i];show wpAny _ _ (spliced ((false,eval e X.env)::backTo pos (starEach es X.env))) _ _ s;refine ZC (thn (ha pins s σ H _ I h) λu b ⟨x,n,l,d,g⟩=>?_);exact thn (j pos pins b σ n _ l g) λo p ⟨a,m,k,c,f⟩=>⟨x::a,m,k,.cons d c,f⟩
noncomputable def zae (t:TA):TE:=λσ H Q=>t σ H λa b=>a.length<=sizeLine/\∀ p,b p=none->Q (.ref p) (upd b p (.tup a))
noncomputable def zaj (t:TA):TE:=λσ H Q=>t σ H λa b=>a.length<=sizeLine/\∀ p,b p=none->Q (.ref p) (upd b p (.lst a))
theorem zX {x1}(h:PA X es t):PE X (.Tuple es x1 pos) (zae t):=by
  intro pins s σ H Q I i;refine wpAny_Tuple_spliced (thn (h pos pins s σ H _ I i) λg a ⟨f,d,c,r,z,q⟩=>⟨by rw[<- r.length];exact z,?_⟩);have j:d a.heap.objs.size=none:=c.hok.fresh (Jc _);refine⟨.ref a.heap.objs.size,upd d a.heap.objs.size (.tup f),c.laid (t':=a.toks) (λb u e=>J7 _ e) (Jc _) ?_,rfl,q _ j⟩;exact⟨z,g,r,TupX.new _ _⟩
theorem yG (h:PA X es t):PE X (.List es pos) (zaj t):=by
  intro pins s σ H Q I i;refine wpAny_List_spliced (thn (h pos pins s σ H _ I i) λg a ⟨f,d,c,r,z,q⟩=>⟨by rw[<- r.length];exact z,?_⟩);have j:d a.heap.objs.size=none:=c.hok.fresh (Jc _);refine⟨.ref a.heap.objs.size,upd d a.heap.objs.size (.lst f),c.laid (t':=a.toks) (λb u e=>J7 _ e) (Jc _) ?_,rfl,q _ j⟩;exact⟨z,g,0,r,Jv _ rfl⟩
end
noncomputable abbrev Sp:=List V->Hp->VK->XK->Prop
noncomputable abbrev CXT:=List Env->Hp->Shared->XK->Value->Shared->Prop
structure Env0 (P:Program) (w:World) (K:PySem.W.Frag) (mg:Str->Option Value) (base:Heap) (A:Around) (outer:List Env) (s:Shared) (H:Hp):Prop where
  frames:A.frames=some outer
  mod:Mod K mg base
  bs:∀ b o,base.get? b=some o->s.heap.get? b=some o/\H b=none
  bsz:base.objs.size<=s.heap.objs.size
  funs:s.heap.FunFrames base outer
  frf:∀ b∈frs outer,H b=none
  hok:HOk P w H s.heap
  bare:AllBare s.gens
noncomputable def CE (outer:List Env)(P:Program)(w:World)(H:Hp)(s:Shared)(Q:VK)(u:Value)(a:Shared):Prop :=
  ∃ v b,a.os=s.os/\AllBare a.gens/\Un (frs outer) [] H b s.heap a.heap/\HOk P w b a.heap/\RelV v u/\Q v b
noncomputable def CR (CX:CXT)(outer:List Env)(P:Program)(w:World)(H:Hp)(s:Shared)(Q:VK)(E:XK)(r:Result)(a:Shared):Prop :=
  match r with
  | .ok (.ret u)=>CE outer P w H s Q u a
  | .ok _=>False
  | .error e=>CX outer H s E e a
structure FnOk (P:Program) (w:World) (K:PySem.W.Frag) (mg:Str->Option Value) (base:Heap) (CX:CXT) (k:Nat) (f:Addr) (fd:FuncData) (ps:List Str) (sp:Sp):Prop where
  len:∀ vs H Q E,sp vs H Q E->vs.length=ps.length
  run:∀ (A:Around) (outer:List Env) (s:Shared) (H:Hp) (args:Args) (us:List Value) (vs:List V) (Q:VK) (E:XK),Room k A->Env0 P w K mg base A outer s H->BindsTo s fd args (ps.zip us)->Vals vs us->sp vs H Q E ->
    codeAny (model P w) A (.call (.ref f) args) (CR CX outer P w H s Q E) s
theorem FnOk.mono {P:Program}{w:World}{K:PySem.W.Frag}{mg:Str->Option Value}{base:Heap}{CX:CXT}{j k:Nat}{f:Addr}{fd:FuncData}{ps:List Str}{sp:Sp}(F:FnOk P w K mg base CX j f fd ps sp)(h:j<=k) :
    FnOk P w K mg base CX k f fd ps sp:=⟨F.len,λA outer s H args b a Q E c=>F.run A outer s H args b a Q E (c.mono h)⟩
theorem FnOk.imp {P:Program}{w:World}{K:PySem.W.Frag}{mg:Str->Option Value}{base:Heap}{CX:CXT}{k:Nat}{f:Addr}{fd:FuncData}{ps:List Str}{sp a:Sp}(F:FnOk P w K mg base CX k f fd ps sp)(h:∀ vs H Q E,a vs H Q E->sp vs H Q E):FnOk P w K mg base CX k f fd ps a :=
  ⟨λvs H Q E q=>F.len vs H Q E (h _ _ _ _ q),λA outer s H args b vs Q E e g i c d=>F.run A outer s H args b vs Q E e g i c (h _ _ _ _ d)⟩
section
variable {X:Cx}{pins:List (Addr × Obj)}{σ:St}{H:Hp}{s s':Shared}
theorem Inv.env0 (I:Inv X pins σ H s):Env0 X.prog X.w X.K X.mg X.base X.A X.stack s H :=
  ⟨I.ok.frames,I.ok.mod,I.bs,JK I.ok.bsz I.sz,I.stack,I.stkFree,I.hok,I.bare⟩
theorem Inv.after {Q:VK}{u:Value}(I:Inv X pins σ H s)(h:CE X.stack X.prog X.w H s Q u s'):EP X pins σ Q u s':=by
  obtain⟨v,f,os,bare,un,c,r,q⟩:=h;obtain⟨e,g,d,t,a⟩:=s';obtain rfl:a=s.os:=os;exact⟨v,f,I.call (h':=e) (g':=g) (d':=d) (t':=t) (ch:=[]) un c bare (λb z=>absurd z (by simp)),r,q⟩
end
noncomputable def df (sp:Sp)(a:List V)(E:XK)(t:TA):TE:=λσ H Q=>t σ H λb c=>sp (b++a) c Q E
noncomputable def Binds (K:PySem.W.Frag)(fd:FuncData)(ps:List Str)(ds:List Value):Prop :=
  ∀ (s:Shared) (a:List Value),K.In s.heap->(a++ds).length=ps.length->BindsTo s fd ⟨a,[]⟩ (ps.zip (a++ds))
theorem Binds.all {K:PySem.W.Frag}{fd:FuncData}{ps:List Str}(h:∀ us:List Value,us.length=ps.length->bindArgs fd ⟨us,[]⟩=pure (ps.zip us)):Binds K fd ps []:=λs us _ a=>by
  rw[Yt]at a ⊢;exact .of_eq (h us a)
noncomputable def Passes (CX:CXT)(X:Cx)(E:XK):Prop:=∀ (pins:List (Addr × Obj)) (σ:St) (H:Hp) (s:Shared) (e:Value) (a:Shared),Inv X pins σ H s->CX X.stack H s E e a->X.xe e a
section
variable {X:Cx}{CX:CXT}{k:Nat}{f:Addr}{fd:FuncData}{ps:List Str}{sp:Sp}{dvs:List V}{ds:List Value}{E:XK}{x:Str}{p pos:Pos}{e:Expr}{es:List Expr}{t:TA}
theorem cp {pins:List (Addr × Obj)}{σ:St}{H:Hp}{s:Shared}{Q:VK}{us:List Value}{vs:List V}(F:FnOk X.prog X.w X.K X.mg X.base CX k f fd ps sp)(g:Room k X.A)(hb:Binds X.K fd ps ds)(hd:Vals dvs ds)(d:Passes CX X E)(I:Inv X pins σ H s)(r:Vals vs us)(h:sp (vs++dvs) H Q E):wpAny (model X.prog X.w) X.A (call (.ref f) us) (EP X pins σ Q) X.xe s:=by
  have b:Vals (vs++dvs) (us++ds):=r.append hd;have i:(us++ds).length=ps.length:=by rw[<- b.length];exact F.len _ _ _ _ h
  refine wpAny_call (codeAny_mono (F.run X.A X.stack s H ⟨us,[]⟩ (us++ds) (vs++dvs) Q E g I.env0 (hb s us I.kIn i) b h) λr c a=>?_)
  cases r with
  | error e=>exact d pins σ H s e c I a
  | ok j =>
    cases j with
    | ret u=>exact I.after a
    | next=>exact False.elim a
    | brk=>exact False.elim a
    | cont=>exact False.elim a
theorem zL (F:FnOk X.prog X.w X.K X.mg X.base CX k f fd ps sp) (g:Room k X.A) (j:Gl X x) (hm:X.mg x=some (.ref f)) (i:PySem.W.keepIn X.K (.ref f)=true) (hb:Binds X.K fd ps ds) (hd:Vals dvs ds) (d:Passes CX X E)
    (ha:PA X (e::es) t) (b:(x == ("__debug__":Str))=false:=by decide) (l:starEach (e::es) X.env=(false,eval e X.env)::starEach es X.env:=by rfl) (a:(backTo pos (starEach es X.env)).any (·.1)=false:=by rfl) :
    PE X (.Call (.Name x p) (e::es) [] pos) (df sp dvs E t):=by
  intro pins s σ H Q I h;refine Z9 (mn I j hm ?_ b);refine PySem.W.callWith_K (h₀:=X.base) I.ok.mod.kin i (thn (ha pos pins s σ H _ I h) λn o ⟨m,u,c,r,q⟩=>⟨c.kIn,?_⟩) l a;exact cp F g hb hd d c r q
end
structure FnScope (N P:List Str) (sc:Scope):Prop where
  kind:sc.kind=.function
  co:sc.isCoroutine=false
  gen:sc.isGenerator=false
  nd:N.Nodup
  pre:N.take P.length=P
  par:∀ x∈P,sc.names.lookup x=some .local \/ sc.names.lookup x=some .cell
  nofree:∀ y∈sc.names,y.2≠.free
theorem rK {kindOf:Str->Option NameKind}{x:Str}:∀ {binds:List (Str × Value)}{m:Str->Option Value},(∀ v,(x,v)∉binds)->bindL kindOf binds m x=m x
  | [],_,_=>rfl
  | (n,v)::r,m,h=>by
    unfold bindL;rw[rK λw a=>h w (JG _ a)];split
    · have:x≠n:=by rintro rfl;exact h v JL
      simp[this]
    · rfl
theorem rM {kindOf:Str->Option NameKind}{x:Str}:∀ {binds:List (Str × Value)}{m:Str->Option Value},(∀ v,(x,v)∉binds)->bindC kindOf binds m x=m x
  | [],_,_=>rfl
  | (n,v)::r,m,h=>by
    unfold bindC;rw[rM λw a=>h w (JG _ a)];split
    · rfl
    · have:x≠n:=by rintro rfl;exact h v JL
      simp[this]
theorem rL {kindOf:Str->Option NameKind}{x:Str}{v:Value}:∀ {P:List Str}{vs:List Value}{i:Nat}{m:Str->Option Value},P.Nodup->P[i]?=some x->vs[i]?=some v->kindOf x=some .local ->
    bindL kindOf (P.zip vs) m x=some v
  | [],_,_,_,_,h,_,_=>by simp at h
  | _::_,[],_,_,_,_,h,_=>by simp at h
  | p::P,w::vs,0,m,nd,b,a,c=>by
    simp at b a;subst b;subst a;show bindL kindOf ((p,w)::P.zip vs) m p=_;unfold bindL;rw[rK λv d=>(JY.mp nd).1 (List.of_mem_zip d).1,Jg c]
    simp
  | p::P,w::vs,i+1,m,nd,b,a,c=>by
    show bindL kindOf ((p,w)::P.zip vs) m x=_;unfold bindL;exact rL (i:=i) (JY.mp nd).2 (by simpa using b) (by simpa using a) c
theorem rN {kindOf:Str->Option NameKind}{x:Str}{v:Value}:∀ {P:List Str}{vs:List Value}{i:Nat}{m:Str->Option Value},P.Nodup->P[i]?=some x->vs[i]?=some v->kindOf x≠some .local ->
    bindC kindOf (P.zip vs) m x=some v
  | [],_,_,_,_,h,_,_=>by simp at h
  | _::_,[],_,_,_,_,h,_=>by simp at h
  | p::P,w::vs,0,m,nd,b,a,c=>by
    simp at b a;subst b;subst a;show bindC kindOf ((p,w)::P.zip vs) m p=_;unfold bindC;rw[rM λv d=>(JY.mp nd).1 (List.of_mem_zip d).1,Je c]
    simp
  | p::P,w::vs,i+1,m,nd,b,a,c=>by
    show bindC kindOf ((p,w)::P.zip vs) m x=_;unfold bindC;exact rN (i:=i) (JY.mp nd).2 (by simpa using b) (by simpa using a) c
noncomputable def start (N:List Str)(vs:List V):St:=vs.map some++List.replicate (N.length-vs.length) none
noncomputable def oO (CX:CXT)(P:Program)(w:World)(K:PySem.W.Frag)(mg:Str->Option Value)(base:Heap)(N:List Str)(qual:Str)(scope:Scope)(f:Addr)(cd:Value)(A:Around)(outer:List Env)(s:Shared)(H:Hp)(E:XK):Cx where
  prog:=P
  w:=w
  K:=K
  mg:=mg
  base:=base
  A:=A.deeper (envOfC qual scope s.heap.objs.size f cd)
  N:=N
  s₀:=s
  H₀:=H
  env:=envOfC qual scope s.heap.objs.size f cd
  outer:=outer
  stack:=envOfC qual scope s.heap.objs.size f cd::outer
  ex:=[]
  calm:=true
  fn:=λ_=>true
  pn:=[]
  xe:=λe b=>wpAny (model P w) (A.deeper (envOfC qual scope s.heap.objs.size f cd)) (leaving (envOfC qual scope s.heap.objs.size f cd) e) (λ_ a=>CX outer H s E e a) (λc a=>CX outer H s E c a) b
theorem oU {sc:Scope}{n:Nat}{x:Str}(h:sc.names.lookup x=some .cell):∃ c,(cellsFrom n sc.names []).lookup x=some c:=by
  have q:=PySem.W.cellsFrom_some sc.names n [] (.inl h);exact Option.isSome_iff_exists.mp q
theorem jN {CX:CXT}{P:Program}{w:World}{K:PySem.W.Frag}{mg:Str->Option Value}{base:Heap}{N ps:List Str}{qual:Str}{scope:Scope}{f:Addr}{cd:Value}{A:Around}{outer:List Env}{s s1:Shared}{H:Hp}{E:XK}{us:List Value}{vs:List V}(S:FnScope N ps scope)(hd:A.handled=none)(g:Env0 P w K mg base A outer s H)(J:vs.length=ps.length)(r:Vals vs us)(x:InCallC s s.heap.objs.size (bindL (envOfC qual scope s.heap.objs.size f cd).kindOf (ps.zip us) λ_=>none) (cellsFrom (s.heap.objs.size+1) scope.names []) (bindC (envOfC qual scope s.heap.objs.size f cd).kindOf (ps.zip us) λ_=>none) s1) :
    Inv (oO CX P w K mg base N qual scope f cd A outer s H E) [] (start N vs) H s1:=by
  have G:ps.length<=N.length:=by have:=JS List.length S.pre;rw[Js]at this;lia
  obtain⟨t,I,rfl,C⟩:=x.done;have l:∀ b:Addr,b∉(oO CX P w K mg base N qual scope f cd A outer s H E).ex:=λb z=>absurd (show b∈([]:List Addr) from z) (by simp)
  refine⟨⟨g.mod,S.kind,rfl,rfl,Jc _,λy z c t d=>?_,λy j=>?_,λy c _ h=>?_,λ_=>hd,Around.frames_deeper g.frames,.inr ⟨rfl,rfl⟩,λb z=>absurd z (l b),g.bs,g.bsz,λb _ _=>l b,λb z=>absurd z (l b),g.funs,g.frf⟩,
    rfl,g.bare,Un.kept C,⟨_,x.toInCall.ns,λi y v t d L=>?_⟩,λy c h=>⟨_,x.cell y c h⟩,g.hok.fresh (Jc _),λy c h=>?_,λp m=>absurd (show p∈([]:List (Addr × Obj)) from m) (by simp),g.hok.kept C,?_⟩
  · exact name_of_addr x.apart (Z6 t) (Z6 d)
  · have j:scope.names.lookup y=some .cell\/scope.names.lookup y=some .free:=j
    rcases j with j|j
    · exact oU j
    · exact absurd rfl (S.nofree _ (Z6 j))
  · exact Nat.le_of_lt (x.above y c (Z6 h))
  · have hi:i<vs.length:=by
      unfold start at d;by_cases hi:i<vs.length
      · exact hi
      · rw[Zj (by simpa using hi)]at d
        rw[List.getElem?_replicate]at d;split at d<;>cases d
    have F:vs[i]?=some v:=by
      unfold start at d;rw[Zt (by simpa using hi),JZ]at d
      cases e:vs[i]? with
      | none=>rw[e]at d;cases d
      | some a=>rw[e]at d;cases d;rfl
    obtain⟨u,B,D⟩:=r.get F
    have m:ps[i]?=some y:=by
      rw[<- S.pre,Z5 (by simp_all)];exact t
    have o:ps.Nodup:=by rw[<- S.pre];exact S.nd.sublist (List.take_sublist _ _)
    refine⟨u,D,?_⟩;rcases S.par y (JB m) with k|k
    · exact .inl ⟨k,rL o m B k⟩
    · obtain⟨c,e⟩:=oU (n:=s.heap.objs.size+1) k
      refine .inr ⟨.inl k,c,e,?_⟩;have q:=x.cell y c e;rw[rN o m B (by show scope.names.lookup y≠_;rw[k];decide)]at q;exact q
  · exact g.hok.fresh (Nat.le_of_lt (x.above y c (Z6 h)))
  · unfold start
    show _=N.length;rw[Jb,Jn,ZL]
    simp_all
theorem du {CX:CXT}{P:Program}{w:World}{K:PySem.W.Frag}{mg:Str->Option Value}{base:Heap}{k:Nat}{f:Addr}{name qual:Str}{params:Arguments}{body:List Stmt}{scope:Scope}{C kV doc pm cdv ct oc:Value}{an od:Option Addr}{osl:Array (Option Value)}{N ps:List Str}{sp:Sp}(G:K.lookup f=some ⟨oc,od,.func (PySem.W.fnOf name qual params body scope C kV doc pm an cdv ct),osl⟩)(z:PySem.W.codeIn K cdv qual=true)(S:FnScope N ps scope)(len:∀ vs H Q E,sp vs H Q E->vs.length=ps.length)(g:∀ (A:Around) (outer:List Env) (s:Shared) (H:Hp) (vs:List V) (Q:VK) (E:XK),Room k (A.deeper (envOfC qual scope s.heap.objs.size f cdv))->sp vs H Q E ->
      ∃ t,PSs (oO CX P w K mg base N qual scope f cdv A outer s H E) body t/\t { nx:=λ_ c=>Q .non c,rt:=Q } (start N vs) H) :
    FnOk P w K mg base CX (k+1) f (PySem.W.fnOf name qual params body scope C kV doc pm an cdv ct) ps sp:=by
  refine⟨len,λA outer s H args F vs Q E p i U r j=>?_⟩;have R:=len _ _ _ _ j;have D:K.In s.heap:=i.mod.kin.keeps λb o e=>(i.bs b o e).1;have lim:s.heap.NoLimit:=i.mod.nolimit.keeps λb o e=>(i.bs b o e).1
  have d:∀ y∈ps.zip F,scope.names.lookup y.1=some .local \/ (scope.names.lookup y.1=some .cell/\((cellsFrom (s.heap.objs.size+1) scope.names []).lookup y.1).isSome=true):=λ⟨n,v⟩ L=>by
    rcases S.par n (List.of_mem_zip L).1 with q|q
    · exact .inl q
    · exact .inr ⟨q,PySem.W.cellsFrom_some _ _ _ (.inl q)⟩
  refine codeAny_call_function p.depth (D _ _ G) rfl S.co S.gen rfl (PySem.W.codeRec_of D z) (U _ _ _ _ ?_);refine wpAny_newFunctionEnv_cells S.kind d λenv T B x=>?_;subst T;refine⟨lim.keeps x.toInCall.keep,codeAny_func ?_⟩;obtain⟨t,M,O⟩:=g A outer s H vs Q E (p.deeper _) j;have I:Inv (oO CX P w K mg base N qual scope f cdv A outer s H E) [] (start N vs) H B:=jN S p.hd i R r x;refine JM (M [] B (start N vs) H _ I O) (λW l h=>?_) λe l h=>h
  have fin:∀ {a:St}{c:Hp}{v:V}{u:Value},Inv (oO CX P w K mg base N qual scope f cdv A outer s H E) [] a c l->RelV v u->Q v c->CE outer P w H s Q u l :=
    λ{a c v u} J m q=>⟨v,c,J.os,J.bare,J.base,J.hok,m,q⟩
  cases W with
  | ret u =>
    obtain⟨v,a,c,J,m,q⟩:=h
    exact fin J m q
  | next =>
    obtain⟨a,c,J,q⟩:=h
    exact fin (v:=V.non) (u:=Value.none) J rfl q
  | brk =>
    obtain⟨_,_,_,q⟩:=h
    exact False.elim q
  | cont =>
    obtain⟨_,_,_,q⟩:=h;exact False.elim q
section
variable {X:Cx}{x:Str}{p pos:Pos}{e:Expr}{es:List Expr}{t:TA}{id T:String}{r:List V->Hp->VK->Prop}
noncomputable def tCB (r:List V->Hp->VK->Prop)(t:TA):TE:=λσ H Q=>t σ H λa b=>r a b Q
theorem zM (m:CallR X (.builtin id) r) (k:Gl X x) (hm:X.mg x=none) (j:bootBuiltins x=some (.builtin id)) (ha:PA X (e::es) t) (hn:x≠"__name__":=by decide) (b:(x == ("__debug__":Str))=false:=by decide)
    (l:starEach (e::es) X.env=(false,eval e X.env)::starEach es X.env:=by rfl) (a:(backTo pos (starEach es X.env)).any (·.1)=false:=by rfl):PE X (.Call (.Name x p) (e::es) [] pos) (tCB r t):=by
  intro pins s σ H Q I h;refine Z9 (xq I k hm j ?_ hn b);exact PyProof.Rows.callWith_builtin1 (thn (ha pos pins s σ H _ I h) λd f ⟨c,o,n,g,i⟩=>m pins f σ o c d Q n g i) l a
theorem zr (m:CallR X (.type T) r) (k:Gl X x) (hm:X.mg x=none) (j:bootBuiltins x=some (.type T)) (ha:PA X (e::es) t) (hn:x≠"__name__":=by decide) (b:(x == ("__debug__":Str))=false:=by decide)
    (l:starEach (e::es) X.env=(false,eval e X.env)::starEach es X.env:=by rfl) (a:(backTo pos (starEach es X.env)).any (·.1)=false:=by rfl):PE X (.Call (.Name x p) (e::es) [] pos) (tCB r t):=by
  intro pins s σ H Q I h;refine Z9 (xq I k hm j ?_ hn b);exact Yn (thn (ha pos pins s σ H _ I h) λd f ⟨c,o,n,g,i⟩=>m pins f σ o c d Q n g i) l a
end
end L2
namespace HT
open PySem PyProof.Rows
section
variable {prog:Program}{w:World}{A:Around}{E:Value->Shared->Prop}{s:Shared}
theorem cat_tup {t b:Addr}{vs ws:List Value}{Q:Value->Shared->Prop}(u:IsTup s.heap t vs.toArray) (hb:IsTup s.heap b ws.toArray) (m:vs≠[])
    (x:ws=[]->Q (.ref t) s) (v:ws≠[]->Q (.ref s.heap.objs.size) { s with heap:=s.heap.push { cls:=.type "tuple",data:=.seq (vs++ws).toArray } })
    (j:vs.length+ws.length<=sizeLine):wpAny (model prog w) A (binaryOp .Add (.ref t) (.ref b)) Q E s:=by
  obtain⟨⟨cls,q,data,k⟩,i,p,n,o⟩:=id u;obtain⟨⟨r,g,data2,c⟩,a,f,l,d⟩:=id hb;simp only at p o f d;subst p o f d;have e:vs.toArray++ws.toArray=(vs++ws).toArray:=by simp
  by_cases h:ws=[]
  · exact concat_meets ⟨_,i,rfl⟩ ⟨_,a,rfl⟩ noFill_tuple_add seq_tuple_add PySem.F.slot_tuple_add PySem.F.entry_tuple_add (PySem.F.args_tuple_add_2 _ _)
      (tuple_addW1 t b vs.toArray ws.toArray n l q g k c (by simpa using m) (by simp[h])) ⟨i,a,x h⟩
  · refine concat_meets ⟨_,i,rfl⟩ ⟨_,a,rfl⟩ noFill_tuple_add seq_tuple_add PySem.F.slot_tuple_add PySem.F.entry_tuple_add (PySem.F.args_tuple_add_2 _ _)
      (tuple_addW2 t b vs.toArray ws.toArray n l q g k c (by simpa using m) (by simpa using h) (by rw[Jm,Jm];exact j)) ⟨i,a,?_⟩
    rw[e];exact v h
noncomputable def sIx (n d:Nat):Option Int->Nat
  | none=>d
  | some v=>if v<0 then (v+(n:Int)).toNat else min v.toNat n
theorem sIx_none (n d:Nat):sIx n d none=d:=rfl
theorem sIx_nat (n d k:Nat):sIx n d (some (k:Int))=min k n:=by
  show (if (k:Int)<0 then ((k:Int)+(n:Int)).toNat else min (k:Int).toNat n)=min k n;rw[Je (by simp_all),Yp]
theorem cZ (n d:Nat)(hd:d<=n)(o:Option Int):sIx n d o<=n:=by
  cases o with
  | none=>exact hd
  | some v =>
    show (if v<0 then (v+(n:Int)).toNat else min v.toNat n)<=n;by_cases a:v<0
    · rw[Jg a];grind
    · rw[Je a];exact Nat.min_le_right _ _
theorem lO (v:Int)(n d:Nat):(if v<0 then max (v+(n:Int)) 0 else min v (n:Int))=((sIx n d (some v):Nat):Int):=by
  show (if v<0 then max (v+(n:Int)) 0 else min v (n:Int))=(((if v<0 then (v+(n:Int)).toNat else min v.toNat n):Nat):Int);by_cases a:v<0
  · simp only[Jg a];simp_all
  · simp only[Je a];grind
theorem mB (lo hi:Option Int)(n:Nat):Builtin.Slice.sliceAdjust lo hi 1 (n:Int)=(((sIx n 0 lo:Nat):Int),((sIx n n hi:Nat):Int)):=by
  have a:¬((1:Int)<0):=by simp_all
  unfold Builtin.Slice.sliceAdjust;simp only[a,Z3];refine Prod.ext ?_ ?_
  · cases lo with
    | none=>rfl
    | some v=>exact lO v n 0
  · cases hi with
    | none=>rfl
    | some v=>exact lO v n n
theorem nJ (i j:Nat):Builtin.Slice.slicePlaces (i:Int) (j:Int) 1=j-i:=by
  unfold Builtin.Slice.slicePlaces;have a:(1:Int) > 0:=by simp_all
  simp only[a,Yu,Int.ediv_one];split<;>simp_all
theorem uZ {v:Value}{o:Option Int}{Q:Option Int->Shared->Prop}(p:IsPart v o)(h:Q o s):wpAny (model prog w) A (Builtin.Slice.slicePartIndex v) Q E s:=by
  cases p with
  | none=>exact slicePart_none h
  | int i t=>exact slicePart_int h
theorem sliceApplied_gen {sl:Addr}{d c:Value}{lo hi:Option Int}{n:Nat}{Q:Int × Int × Nat->Shared->Prop}(f:s.heap.IsSliceOf sl d c .none)(e:IsPart d lo)(pu:IsPart c hi)(h:Q (((sIx n 0 lo:Nat):Int),1,sIx n n hi-sIx n 0 lo) s):wpAny (model prog w) A (Builtin.Slice.sliceApplied (.ref sl) (pure (n:Int))) Q E s:=by
  obtain⟨os,a,g,b⟩:=id f;unfold Builtin.Slice.sliceApplied Builtin.Slice.sliceFields;refine J0 (J0 (W7 a b (x:=d) rfl (J0 (W7 a b (x:=c) rfl (J0 (W7 a b (x:=.none) rfl (J8 ?_)))))));refine J0 (slicePart_none ?_);show wpAny _ _ (if ((1:Int) == 0)=true then _ else _) _ _ s;rw[Je (by decide)];refine J0 (uZ e (J0 (uZ pu (J0 (J8 ?_)))));show wpAny _ _ (match Builtin.Slice.sliceAdjust lo hi 1 (n:Int) with|(lo,hi)=>pure (lo,(1:Int),Builtin.Slice.slicePlaces lo hi 1)) _ _ s;rw[mB lo hi n];show wpAny _ _ (pure (((sIx n 0 lo:Nat):Int),(1:Int),Builtin.Slice.slicePlaces ((sIx n 0 lo:Nat):Int) ((sIx n n hi:Nat):Int) 1)) _ _ s;rw[nJ];exact J8 h
theorem iY (xs:Array Value)(i k:Nat):((List.range k).filterMap λ(m:Nat)=>xs[((i:Int)+(m:Int)*1).toNat]?).toArray=((xs.toList.drop i).take k).toArray:=by
  have e:(λ(m:Nat)=>xs[((i:Int)+(m:Int)*1).toNat]?)=λm=>xs[i+m]?:=by
    funext m
    have:((i:Int)+(m:Int)*1).toNat=i+m:=by grind
    rw[this]
  rw[e];have:=pick_run xs i k;rw[Za]at this;have e2:((λx=>xs[x]?)∘λx=>i+x)=λm=>xs[i+m]?:=rfl;rw[e2]at this;rw[this]
theorem getItem_tuple_cut {t sl:Addr}{items:Array Value}{i g:Value}{lo hi:Option Int}{Q:Value->Shared->Prop}(b:IsTup s.heap t items) (j:s.heap.IsSliceOf sl i g .none) (k:IsPart i lo) (pu:IsPart g hi)
    (l:¬(sIx items.size 0 lo=0/\sIx items.size items.size hi=items.size))
    (h:Q (.ref s.heap.objs.size) { s with heap:=s.heap.push { cls:=.type "tuple",data:=.seq ((items.toList.drop (sIx items.size 0 lo)).take (sIx items.size items.size hi-sIx items.size 0 lo)).toArray } })
    (n:items.size<=sizeLine):wpAny (model prog w) A (getItem (.ref t) (.ref sl)) Q E s:=by
  have a:sizeOk (.seq ((items.toList.drop (sIx items.size 0 lo)).take (sIx items.size items.size hi-sIx items.size 0 lo)).toArray):=by
    show ((items.toList.drop (sIx items.size 0 lo)).take (sIx items.size items.size hi-sIx items.size 0 lo)).toArray.size<=sizeLine;rw[Jm,Js,Y9,JD];omega
  have u:sIx items.size items.size hi<=items.size:=cZ _ _ (Jc _) hi;obtain⟨os,c,e,o⟩:=id j;have f:s.TypeIs (.ref sl) "slice":=⟨os,c,e⟩;unfold getItem
  try with_reducible refine Y4 ?_
  first|refine J0 (J8 ?_)|skip
  refine J0 (wpAny_sequenceKey b.typeIs (by decide) ?_)
  refine J0 (wpAny_callSpecial?_slot (name:=Str.ofString "__getitem__") b.typeIs YF
    (Yf YF b.typeIs entry_tuple_getitem ?_ (args_tuple_getitem _ _)))
  show wpAny _ _ (Builtin.Tuple.tupleItemsOf (.ref t) >>= _) _ _ s;refine J0 (tupleItemsOf_ b ?_);refine J0 (YM f ?_);rw[Jg (by decide)];refine J0 (sliceApplied_gen j k pu ?_)
  have d:¬((((sIx items.size 0 lo:Nat):Int) == 0 && (1:Int) == 1 && (sIx items.size items.size hi-sIx items.size 0 lo) == items.size)=true):=by
    intro q;rw[YA,YA]at q;have r:((sIx items.size 0 lo:Nat):Int)=0:=eq_of_beq q.1.1;have p:sIx items.size items.size hi-sIx items.size 0 lo=items.size:=eq_of_beq q.2;exact l ⟨by simp_all,by simp_all⟩
  show wpAny _ _ (if (((sIx items.size 0 lo:Nat):Int) == 0 && (1:Int) == 1 && (sIx items.size items.size hi-sIx items.size 0 lo) == items.size)=true then _ else _) _ _ s;rw[Je d,iY]
  first
    | exact J0 (m:=Builtin.Tuple.tupleExact _) (JQ (J8 ⟨_,rfl,J8 h⟩) a)
    | exact J0 (m:=Builtin.Tuple.tupleExact _) (JQ (J0 (J8 (J8 ⟨_,rfl,J8 h⟩))) a)
    | exact J0 (J0 (m:=Builtin.Tuple.tupleExact _) (JQ (J8 (J8 ⟨_,rfl,J8 h⟩)) a))
    | exact J0 (J0 (m:=Builtin.Tuple.tupleExact _) (JQ (J8 ⟨_,rfl,J8 h⟩) a))
end
end HT
namespace L2
open PySem PySem.Spec PyProof.Rows
noncomputable abbrev TO:=St->Hp->(Option Int->Hp->Prop)->Prop
noncomputable def PO (X:Cx)(e:Option Expr)(t:TO):Prop :=
  ∀ (pins:List (Addr × Obj)) (s:Shared) (σ:St) (H:Hp) (Q:Option Int->Hp->Prop),Inv X pins σ H s->t σ H Q ->
    wpAny (model X.prog X.w) X.A (evalPart e X.env) (λu b=>∃ o a,Inv X pins σ a b/\IsPart u o/\Q o a) X.xe s
noncomputable def fJ:TO:=λ_ H Q=>Q none H
noncomputable def bz (t:TE):TO:=λσ H Q=>t σ H λx a=>∃ i,x=.int i/\Q (some i) a
section
variable {X:Cx}{e:Expr}{te:TE}{lo hi:Option Expr}{tl th:TO}{pos p2:Pos}
theorem yD:PO X none fJ:=by
  intro pins s σ H Q I h;rw[evalPart_none];exact J8 ⟨none,H,I,.none,h⟩
theorem zi (h:PE X e te):PO X (some e) (bz te):=by
  intro pins s σ H Q I c;rw[evalPart_some];refine thn (h pins s σ H _ I c) λu g ⟨x,f,d,a,b⟩=>?_;obtain⟨i,rfl,q⟩:=b;obtain⟨t,rfl⟩:=a;exact⟨some i,f,d,.int i t,q⟩
noncomputable def SlR (X:Cx)(r:V->Option Int->Option Int->Hp->VK->Prop):Prop :=
  ∀ (pins:List (Addr × Obj)) (s:Shared) (σ:St) (H:Hp) (x:V) (v b a:Value) (lo hi:Option Int) (c:Addr) (Q:VK),Inv X pins σ H s->RelV x v->s.heap.IsSliceOf c b a .none->IsPart b lo->IsPart a hi->r x lo hi H Q ->
    ∃ T id,typeLookup (.type T) "__getitem__" = pure (some (.builtin id))/\s.TypeIs v T/\wpAny (model X.prog X.w) X.A (getItem v (.ref c)) (EP X pins σ Q) X.xe s
noncomputable def tSl (r:V->Option Int->Option Int->Hp->VK->Prop)(te:TE)(tl th:TO):TE:=λσ H Q=>te σ H λx c=>tl σ c λl b=>th σ b λu a=>r x l u a Q
theorem zu {r:V->Option Int->Option Int->Hp->VK->Prop}(w:SlR X r)(A:PE X e te)(y:PO X lo tl)(p:PO X hi th):PE X (.Subscript e (.Slice lo hi none p2) pos) (tSl r te tl th):=by
  intro pins s σ H Q I h;refine Subscript_ (thn (A pins s σ H _ I h) λv i ⟨x,J,F,j,n⟩=>?_);refine wpAny_Slice (thn (y pins i σ J _ F n) λd g ⟨l,G,E,o,m⟩=>thn (p pins g σ G _ E m) λc a ⟨u,f,D,pu,k⟩=>?_);rw[evalPart_none];refine J8 ?_;have C:Inv X pins σ f { a with heap:=a.heap.push { cls:=.type "slice",data:=.fields #[d,c,.none] } }:=D.kept (t':=a.toks) λb ob q=>J7 _ q;obtain⟨T,id,B,t,z⟩:=w pins { a with heap:=a.heap.push { cls:=.type "slice",data:=.fields #[d,c,.none] } } σ f x v d c l u a.heap.objs.size Q C j (Heap.IsSliceOf.new ..) o pu k;show wpAny (model X.prog X.w) X.A (subscriptTail e (.Slice lo hi none p2) v (.ref a.heap.objs.size)) (EP X pins σ Q) X.xe { a with heap:=a.heap.push { cls:=.type "slice",data:=.fields #[d,c,.none] } };exact tail_any (ops:=[.ref a.heap.objs.size,v]) t B z (by with_unfolding_all rfl)
noncomputable def yq (xs:List V)(lo hi:Option Int):List V:=(xs.drop (HT.sIx xs.length 0 lo)).take (HT.sIx xs.length xs.length hi-HT.sIx xs.length 0 lo)
theorem vm (xs:List V)(lo hi:Option Int):(yq xs lo hi).length<=xs.length:=by
  unfold yq;rw[Js,Y9]
  grind
noncomputable def zaC (K:PySem.W.Frag):V->Option Int->Option Int->Hp->VK->Prop:=λx lo hi H Q=>∃ a b,x=.ref a/\SqT K H a b /\
  ¬(HT.sIx b.length 0 lo=0/\HT.sIx b.length b.length hi=b.length)/\∀ p,H p=none->Q (.ref p) (upd H p (.tup (yq b lo hi)))
theorem cM:SlR X (zaC X.K):=by
  intro pins s σ H x v n m lo hi p Q I g l i pu h;obtain⟨a,c,rfl,j,k,q⟩:=h;cases g;obtain⟨d,r,f,e⟩:=I.tuple j;have hlen:d.toArray.size=c.length:=by rw[Jm];exact r.length.symm
  refine⟨"tuple",_,PyProof.Rows.slot_tuple_getitem.lookup,f.typeIs,?_⟩;refine HT.getItem_tuple_cut f l i pu (by rw[hlen];exact k) ?_ (by rw[hlen];exact e);rw[hlen];refine⟨.ref s.heap.objs.size,_,I.laid (t':=s.toks) (o:=.tup (yq c lo hi)) (λb ob q=>J7 _ q) (Jc _) ?_,rfl,q _ (I.hok.fresh (Jc _))⟩;exact⟨JK (vm c lo hi) e,_,(r.drop (HT.sIx c.length 0 lo)).take (HT.sIx c.length c.length hi-HT.sIx c.length 0 lo),TupX.new _ _⟩
noncomputable def aR (K:PySem.W.Frag):R2:=λx y H Q=>∃ a b d c,x=.ref a/\y=.ref b/\SqT K H a d/\SqT K H b c/\d≠[]/\d.length+c.length<=sizeLine /\
  (c=[]->Q (.ref a) H)/\(c≠[]->∀ p,H p=none->Q (.ref p) (upd H p (.tup (d++c))))
theorem Vals.nil_iff {xs:List V}{us:List Value}(r:Vals xs us):us=[]↔xs=[]:=by
  cases r with
  | nil=>simp
  | cons _ _=>simp
theorem eE:OpR X (binaryOp .Add) (aR X.K):=by
  intro pins s σ H x y v u Q I k j h;obtain⟨a,b,i,g,rfl,rfl,t,r,p,e,m,l⟩:=h;cases k;cases j;obtain⟨A,d,n,_⟩:=I.tuple t;obtain⟨f,c,p2,_⟩:=I.tuple r;refine HT.cat_tup n p2 (λz=>p (d.nil_iff.mp z)) (λz=>⟨.ref a,H,I,rfl,m (c.nil_iff.mp z)⟩) (λz=>?_) (by rw[<- d.length,<- c.length];exact e);refine⟨.ref s.heap.objs.size,_,I.laid (t':=s.toks) (o:=.tup (i++g)) (λb ob q=>J7 _ q) (Jc _) ?_,rfl,l (λw=>z (c.nil_iff.mpr w)) _ (I.hok.fresh (Jc _))⟩;exact⟨by rw[Jb];exact e,_,d.append c,TupX.new _ _⟩
end
noncomputable def ixN (n:Nat)(i:Int):Option Nat:=if 0<=i then (if i<n then some i.toNat else none) else if -(n:Int)<=i then some (i+n).toNat else none
noncomputable def atI {α:Type}(xs:List α)(i:Int):Option α:=(ixN xs.length i).bind λj=>xs[j]?
theorem mz {n:Nat}{i:Int}{j:Nat}(h:ixN n i=some j):seqIndex? i n=some j/\j<n/\-(n:Int)<=i/\i<n:=by
  unfold ixN at h;by_cases b:0<=i
  · rw[Jg b]at h
    by_cases a:i<n
    · rw[Jg a]at h
      have e:i.toNat=j:=Jt h;exact⟨by rw[seqIndex_of b a,e],by omega,by grind,a⟩
    · rw[Je a]at h;cases h
  · rw[Je b]at h
    by_cases a:-(n:Int)<=i
    · rw[Jg a]at h
      have e:(i+n).toNat=j:=Jt h;exact⟨by rw[seqIndex_neg (by simp_all) a,e],by grind,a,by grind⟩
    · rw[Je a]at h;cases h
theorem lQ {α:Type}{xs:List α}{i:Int}{v:α}(h:atI xs i=some v):∃ j,seqIndex? i xs.length=some j/\xs[j]?=some v/\j<xs.length/\-(xs.length:Int)<=i/\i<xs.length:=by
  unfold atI at h
  cases e:ixN xs.length i with
  | none=>rw[e]at h;cases h
  | some j =>
    rw[e]at h;obtain⟨d,c,b,a⟩:=mz e;exact⟨j,d,h,c,b,a⟩
theorem yM {α:Type}{xs:List α}{j:Nat}{v:α}(h:xs[j]?=some v):atI xs (j:Int)=some v:=by
  have a:j<xs.length:=(Ja.mp h).1
  have e:ixN xs.length (j:Int)=some j:=by
    unfold ixN;rw[Jg (by simp_all),Jg (by simp_all)];simp
  unfold atI;rw[e];exact h
noncomputable def PlainIx (b:Expr):Prop:=∀ o i,subscripted b false o i=operate [o,i] (getItem o i)
noncomputable def IxR (X:Cx)(r:R2):Prop :=
  ∀ (value slice:Expr) (pins:List (Addr × Obj)) (s:Shared) (σ:St) (H:Hp) (x y:V) (v u:Value) (Q:VK),Inv X pins σ H s->RelV x v->RelV y u->r x y H Q ->
    subscripted slice false v u=operate [v,u] (getItem v u)->wpAny (model X.prog X.w) X.A (subscriptTail value slice v u) (EP X pins σ Q) X.xe s
noncomputable def MtR (X:Cx)(id:String)(r:V->List V->Hp->VK->Prop):Prop :=
  ∀ (pins:List (Addr × Obj)) (s:Shared) (σ:St) (H:Hp) (x:V) (a:List V) (v:Value) (b:List Value) (Q:VK),Inv X pins σ H s->RelV x v->Vals a b->r x a H Q ->
    wpAny (model X.prog X.w) X.A (call (.builtin id) (v::b)) (EP X pins σ Q) X.xe s
section
variable {X:Cx}{a b:Expr}{ta tb:TE}{pos:Pos}
theorem zj {r:R2}(g:IxR X r)(ha:PE X a ta)(hb:PE X b tb)(f:PlainIx b):PE X (.Subscript a b pos) (tOp r ta tb):=by
  intro pins s σ H Q I h;exact Subscript_ (br ha hb I h λv u c x y j i e d q=>g a b pins c σ j x y v u Q i e d q (f _ _))
noncomputable def cv (K:PySem.W.Frag):R2:=λx y H Q=>∃ p a i v,x=.ref p/\y=.int i/\SqL K H p a/\atI a i=some v/\Q v H
noncomputable def zaG (K:PySem.W.Frag):R2:=λx y H Q=>∃ p a i v,x=.ref p/\y=.int i/\SqT K H p a/\atI a i=some v/\Q v H
theorem zw:IxR X (cv X.K):=by
  intro value slice pins s σ H x y v u Q I n m h f;obtain⟨p,F,i,z,rfl,rfl,o,B,q⟩:=h;cases n;obtain⟨t,rfl⟩:=m;obtain⟨e,r,b,G⟩:=I.list o;obtain⟨j,a,E,K,D,C⟩:=lQ B;obtain⟨w,k,d⟩:=r.get E;have A:=r.length;have J:=ur;have fin:EP X pins σ Q w s:=⟨z,H,I,d,q⟩;by_cases g:0<=i
  · have c:i.toNat=j:=by
      rw[seqIndex_of g C]at a;exact Jt a
    exact item_listR b.isList g (by lia) (by rw[c];simpa using k) fin f
  · have c:(i+(e.toArray.size:Int)).toNat=j:=by
      rw[seqIndex_neg (by simp_all) D]at a;rw[Jm,<- A];exact Jt a
    exact subscriptTail_builtinR (x:=w) b.isList.typeIs slot_list_getitem.lookup
      (wpAny_getItem_list_neg (Q:=λr l=>r=w/\EP X pins σ Q r l) b.isList (by simp_all) (by rw[Jm]<;>simp_all) (by grind) (by rw[c];simpa using k) ⟨rfl,fin⟩) f
theorem yB:IxR X (zaG X.K):=by
  intro value slice pins s σ H x y v u Q I e d h f;obtain⟨p,B,i,z,rfl,rfl,g,l,q⟩:=h;cases e;obtain⟨t,rfl⟩:=d;obtain⟨A,r,b,C⟩:=I.tuple g;obtain⟨j,n,m,G,F,E⟩:=lQ l;obtain⟨w,o,a⟩:=r.get m;have k:=r.length;have D:=ur;have fin:EP X pins σ Q w s:=⟨z,H,I,a,q⟩
  exact subscriptTail_builtinR (x:=w) b.typeIs slot_tuple_getitem.lookup
    (getItem_tuple (j:=j) (Q:=λr c=>r=w/\EP X pins σ Q r c) b (by grind) (by grind) (by rw[Jm,<- k];exact n) (by simpa using o) ⟨rfl,fin⟩) f
theorem nV (its:List Value)(n j:Nat)(u:Value):Obj.mapSeq (·.setIfInBounds j u) { cls:=.type "list",data:=.seq its.toArray n }={ cls:=.type "list",data:=.seq (its.set j u).toArray n }:=by
  simp[Obj.mapSeq]
theorem Inv.lst {pins:List (Addr × Obj)}{σ:St}{H:Hp}{s:Shared}{p:Addr}{xs:List V}(I:Inv X pins σ H s)(h:H p=some (.lst xs)) :
    ∃ (its:List Value) (n:Nat),Vals xs its/\s.heap.get? p=some { cls:=.type "list",data:=.seq its.toArray n }/\xs.length<=sizeLine:=by
  obtain⟨z,its,n,r,e⟩:=I.hok p _ h;exact⟨its,n,r,e,z⟩
theorem Inv.lstUpd {pins:List (Addr × Obj)}{σ:St}{H:Hp}{s:Shared}{p:Addr}{xs ys:List V}{its its':List Value}{n a:Nat}{f:Obj->Obj}(I:Inv X pins σ H s) (h:H p=some (.lst xs))
    (g:s.heap.get? p=some { cls:=.type "list",data:=.seq its.toArray n }) (c:f { cls:=.type "list",data:=.seq its.toArray n }={ cls:=.type "list",data:=.seq its'.toArray a }) (r:Vals ys its') (d:ys.length<=sizeLine) (t:Nat) :
    Inv X pins σ (upd H p (.lst ys)) { s with heap:=s.heap.update p f,toks:=t }:=by
  have e:(s.heap.update p f).get? p=some { cls:=.type "list",data:=.seq its'.toArray a }:=by
    rw[YG f g (by rw[c]<;>rfl),c]
  refine I.write (x:=p) (e:=p) (by rw[h];trivial) (.inl rfl) (λb u i q=>(Yi _ _ (Ne.symm i)).trans q) ⟨_,e⟩ ?_;exact⟨d,its',a,r,e⟩
noncomputable def aP:V->V->V->Hp->(Hp->Prop)->Prop:=λo i v H Q=>∃ p a k j,o=.ref p/\i=.int k/\H p=some (.lst a)/\ixN a.length k=some j/\Q (upd H p (.lst (a.set j v)))
theorem xV:PSet X aP:=by
  intro pins s σ H o i v D E u Q I z A y h;obtain⟨p,x,k,j,rfl,rfl,f,C,q⟩:=h;cases z;obtain⟨t,rfl⟩:=A;obtain⟨a,n,r,c,B⟩:=I.lst f;obtain⟨b,G,l,g⟩:=mz C;have d:=r.length;have F:=ur
  have w:Inv X pins σ (upd H p (.lst (x.set j v))) { s with heap:=s.heap.update p (Obj.mapSeq (·.setIfInBounds j u)) } :=
    I.lstUpd f c (nV a n j u) (r.set y j) (by rw[List.length_set];exact B) s.toks
  by_cases m:0<=k
  · have e:k.toNat=j:=by
      rw[seqIndex_of m g]at b;exact Jt b
    exact PySem.W.ki_setAt c m (by grind) (by rw[Jm,<- d];exact g) (by rw[e];exact⟨_,w,q⟩)
  · have e:(k+(a.toArray.size:Int)).toNat=j:=by
      rw[seqIndex_neg (by simp_all) l]at b;rw[Jm,<- d];exact Jt b
    exact PySem.W.ki_setBack c (by simp_all) (by rw[Jm,<- d];exact l) (by grind) (by rw[e];exact⟨_,w,q⟩)
theorem rV (lo hi:Option Int)(n:Nat):(sliceBounds lo hi none n).1=((HT.sIx n 0 lo:Nat):Int)/\(sliceBounds lo hi none n).2.1=((HT.sIx n n hi:Nat):Int)/\(sliceBounds lo hi none n).2.2=1:=by
  refine⟨?_,?_,rfl⟩
  · cases lo with
    | none=>simp[sliceBounds,HT.sIx]
    | some i =>
      simp only[sliceBounds,HT.sIx,Option.getD_none,show (1:Int) > 0 by decide,Yu];by_cases h:i<0
      · simp only[h,Yu]<;>grind
      · simp only[h,Z3]<;>grind
  · cases hi with
    | none=>simp[sliceBounds,HT.sIx]
    | some i =>
      simp only[sliceBounds,HT.sIx,Option.getD_none,show (1:Int) > 0 by decide,Yu];by_cases h:i<0
      · simp only[h,Yu]<;>grind
      · simp only[h,Z3]<;>grind
theorem tX (its:List Value)(lo hi:Option Int):slicePick its.toArray lo hi none=((its.drop (HT.sIx its.length 0 lo)).take (HT.sIx its.length its.length hi-HT.sIx its.length 0 lo)).toArray:=by
  obtain⟨c,b,a⟩:=rV lo hi its.toArray.size;unfold slicePick;rw[c,b,a];simp only[sliceRange_one,pick_run,Jm]<;>rfl
noncomputable def zaD (K:PySem.W.Frag):V->Option Int->Option Int->Hp->VK->Prop:=λx lo hi H Q=>∃ a b,x=.ref a/\SqL K H a b/\∀ p,H p=none->Q (.ref p) (upd H p (.lst (yq b lo hi)))
theorem xx:SlR X (zaD X.K):=by
  intro pins s σ H x v m l lo hi n Q I e j f pu h;obtain⟨a,c,rfl,i,q⟩:=h;cases e;obtain⟨k,r,d,g⟩:=I.list i;have hlen:=r.length;refine⟨"list",_,slot_list_getitem.lookup,d.isList.typeIs,?_⟩;refine wpAny_getItem_list_slice d.isList j f pu .none (by simp) ?_ (by rw[Jm]<;>simp_all);rw[tX,<- hlen];refine⟨.ref s.heap.objs.size,_,I.laid (t':=s.toks) (o:=.lst (yq c lo hi)) (λb ob q=>J7 _ q) (Jc _) ?_,rfl,q _ (I.hok.fresh (Jc _))⟩;exact⟨JK (vm c lo hi) g,_,0,(r.drop (HT.sIx c.length 0 lo)).take (HT.sIx c.length c.length hi-HT.sIx c.length 0 lo),Jv _ rfl⟩
noncomputable def vk:V->Bool
  | .non=>true
  | .bl _=>true
  | .int _=>true
  | .str _=>true
  | _=>false
noncomputable def eqV:V->V->Bool
  | .non,.non=>true
  | .bl a,.bl b=>a == b
  | .bl a,.int b=>(if a then 1 else 0) == b
  | .int a,.bl b=>a == (if b then 1 else 0)
  | .int a,.int b=>a == b
  | .str a,.str b=>a == b
  | _,_=>false
theorem gc {A:Around}{s:Shared}{y x:V}{u v:Value}(e:RelV y u)(c:RelV x v)(g:vk y=true)(f:vk x=true):SeqAt.EqAt A s u v (eqV y x):=by
  cases y with
  | non =>
    cases e
    cases x with
    | non=>cases c;exact SeqAt.EqAt.same _
    | bl b=>cases c;exact SeqAt.EqAt.none_bool b
    | int b=>obtain⟨t,rfl⟩:=c;exact SeqAt.EqAt.none_int b t
    | str b=>obtain⟨t,rfl⟩:=c;exact SeqAt.EqAt.none_str b t
    | _=>exact absurd (show false=true from f) Jj
  | bl a =>
    cases e
    cases x with
    | non=>cases c;exact SeqAt.EqAt.bool_none a
    | bl b=>cases c;exact SeqAt.EqAt.bool_bool a b
    | int b=>obtain⟨t,rfl⟩:=c;exact SeqAt.EqAt.bool_int a b t
    | str b=>obtain⟨t,rfl⟩:=c;exact SeqAt.EqAt.bool_str a b t
    | _=>exact absurd (show false=true from f) Jj
  | int a =>
    obtain⟨d,rfl⟩:=e
    cases x with
    | non=>cases c;exact SeqAt.EqAt.int_none a d
    | bl b=>cases c;exact SeqAt.EqAt.int_bool a d b
    | int b=>obtain⟨t,rfl⟩:=c;exact SeqAt.EqAt.int_int a d b t
    | str b=>obtain⟨t,rfl⟩:=c;exact SeqAt.EqAt.int_str a d b t
    | _=>exact absurd (show false=true from f) Jj
  | str a =>
    obtain⟨d,rfl⟩:=e
    cases x with
    | non=>cases c;exact SeqAt.EqAt.str_none a d
    | bl b=>cases c;exact SeqAt.EqAt.str_bool a d b
    | int b=>obtain⟨t,rfl⟩:=c;exact SeqAt.EqAt.str_int a d b t
    | str b=>obtain⟨t,rfl⟩:=c;exact SeqAt.EqAt.str_str a d b t
    | _=>exact absurd (show false=true from f) Jj
  | _=>exact absurd (show false=true from g) Jj
noncomputable def eqU (x:V)(u:Value):Bool:=match u with
  | .none=>eqV .non x
  | .bool b=>eqV (.bl b) x
  | .int i _=>eqV (.int i) x
  | .str z _=>eqV (.str z) x
  | _=>false
theorem gb {x y:V}{u:Value}(r:RelV y u)(f:vk y=true):eqU x u=eqV y x:=by
  cases y with
  | non=>cases r;rfl
  | bl b=>cases r;rfl
  | int i=>obtain⟨t,rfl⟩:=r;rfl
  | str z=>obtain⟨t,rfl⟩:=r;rfl
  | _=>exact absurd (show false=true from f) Jj
theorem qW {x:V}:∀ {xs:List V}{us:List Value},Vals xs us->xs.all vk=true->us.any (eqU x)=xs.any λy=>eqV y x
  | _,_,.nil,_=>rfl
  | y::xs,u::us,.cons r t,f=>by
    rw[List.all_cons,YA]at f;rw[List.any_cons,List.any_cons,gb r f.1,qW t f.2]
theorem um {A:Around}{s:Shared}{x:V}{v:Value}(b:RelV x v)(c:vk x=true):∀ {xs:List V}{us:List Value},Vals xs us->xs.all vk=true->∀ u∈us,SeqAt.EqAt A s u v (eqU x u)
  | _,_,.nil,_=>λu a=>by cases a
  | y::xs,u::us,.cons r t,f=>λd a=>by
    rw[List.all_cons,YA]at f;rcases Jq.mp a with rfl|a
    · rw[gb r f.1];exact gc r b f.1 c
    · exact um b c t f.2 d a
noncomputable def inV (x:V)(xs:List V):Bool:=xs.any λy=>eqV y x
noncomputable def rIn (K:PySem.W.Frag)(neg:Bool):R2:=λx y H Q=>∃ p a,y=.ref p/\(SqL K H p a\/SqT K H p a)/\vk x=true/\a.all vk=true/\Q (.bl (if neg then !inV x a else inV x a)) H
theorem sQ:OpR X (compareOp .In) (rIn X.K false):=by
  intro pins s σ H x y v u Q I e g h;obtain⟨p,j,rfl,b,f,fs,q⟩:=h;cases g;rcases b with b|b
  · obtain⟨a,r,c,i⟩:=I.list b
    refine SeqAt.in_listAt (eqU x) c.isList (λw d=>um e f r fs w (by simpa using d)) ⟨.bl _,H,I,rfl,?_⟩;rw[show a.toArray.any (eqU x)=a.any (eqU x) by simp,qW r fs];exact q
  · obtain⟨a,r,c,i⟩:=I.tuple b
    refine SeqAt.in_tupleAt (eqU x) c (λw d=>um e f r fs w (by simpa using d)) ⟨.bl _,H,I,rfl,?_⟩;rw[show a.toArray.any (eqU x)=a.any (eqU x) by simp,qW r fs];exact q
theorem zT:CallR X (.builtin "len") (λxs H Q=>∃ p ys,xs=[.ref p]/\(SqL X.K H p ys\/SqT X.K H p ys)/\Q (.int ys.length) H):=by
  intro pins s σ H xs g Q I r h;obtain⟨p,ys,rfl,a,q⟩:=h;obtain⟨u,rfl,e⟩:=wa r;cases e;have i:=ur;rcases a with a|a
  · obtain⟨d,b,c,f⟩:=I.list a
    have hlen:=b.length;exact Calls.call_len_list c.isList (by simp only[Jm]<;>lia) ⟨.int ys.length,H,I.tok _,⟨s.toks+1,by rw[Jm,hlen]⟩,q⟩
  · obtain⟨d,b,c,f⟩:=I.tuple a
    have hlen:=b.length;exact len_tuple c (by simp only[Jm]<;>grind) ⟨.int ys.length,H,I.tok _,⟨s.toks+1,by rw[Jm,hlen]⟩,q⟩
theorem yt:CallR X (.type "list") (λxs H Q=>∃ p ys,xs=[.ref p]/\(SqL X.K H p ys\/SqT X.K H p ys)/\∀ l,H l=none->Q (.ref l) (upd H l (.lst ys))):=by
  intro pins s σ H xs x Q I r h;obtain⟨p,ys,rfl,i,q⟩:=h;obtain⟨u,rfl,w⟩:=wa r;cases w
  have fin:∀ (a:List Value),Vals ys a->ys.length<=sizeLine->∀ (c:Heap) (f:Nat),(∀ b v,s.heap.get? b=some v->c.get? b=some v) ->
      c.get? s.heap.objs.size=some { cls:=.type "list",dict:=none,data:=.seq a.toArray f,slots:=#[] }->EP X pins σ Q (.ref s.heap.objs.size) { s with heap:=c }:=λa d g c f kp e =>
    ⟨.ref s.heap.objs.size,_,I.laid (t':=s.toks) kp (Jc _) (show ObjOk X.prog X.w _ c _ (.lst ys) from⟨g,a,f,d,e⟩),rfl,q _ (I.hok.fresh (Jc _))⟩
  rcases i with i|i
  · obtain⟨a,d,j,g⟩:=I.list i
    have hlen:=d.length;obtain⟨o,k,t,n,m⟩:=j.isList;exact call_list_seq p (.inl rfl) k t m (λc f kp e=>fin a d g c f kp e) (by simp only[Jm]<;>simp_all)
  · obtain⟨a,d,j,g⟩:=I.tuple i
    have hlen:=d.length;obtain⟨o,k,t,n,m⟩:=j;exact call_list_seq p (.inr rfl) k t m (λc f kp e=>fin a d g c f kp e) (by simp only[Jm]<;>simp_all)
theorem zz:CallR X (.type "tuple") (λxs H Q=>∃ p ys,xs=[.ref p]/\((SqL X.K H p ys/\∀ l,H l=none->Q (.ref l) (upd H l (.tup ys)))\/(SqT X.K H p ys/\Q (.ref p) H))):=by
  intro pins s σ H xs n Q I r h;obtain⟨p,ys,rfl,h⟩:=h;obtain⟨u,rfl,k⟩:=wa r;cases k;rcases h with ⟨g,q⟩|⟨g,q⟩
  · obtain⟨a,d,f,i⟩:=I.list g
    have hlen:=d.length;refine call_tuple_list f.isList (λc kp=>?_) (by simp only[Jm]<;>simp_all);have j:Inv X pins σ H { s with heap:=c }:=I.kept (t':=s.toks) kp
    have m:Inv X pins σ (upd H c.objs.size (.tup ys)) { s with heap:=c.push { cls:=.type "tuple",data:=.seq a.toArray } } :=
      j.laid (t':=s.toks) (λb o e=>J7 _ e) (Jc _) (show ObjOk X.prog X.w _ _ _ (.tup ys) from⟨i,a,d,TupX.new _ _⟩)
    exact⟨.ref c.objs.size,_,m,rfl,q _ (j.hok.fresh (Jc _))⟩
  · obtain⟨a,d,f,i⟩:=I.tuple g
    exact call_tuple_same f ⟨.ref p,H,I,rfl,q⟩
noncomputable def tyV (K:PySem.W.Frag)(T:String)(x:V)(H:Hp):Prop:=match x with
  | .str _=>T = "str"
  | .int _=>T = "int"
  | .ref p=>(T = "list"/\∃ b,SqL K H p b)\/(T = "tuple"/\∃ o,K.lookup p=some o/\o.cls=.type "tuple"/\o.dict=none) \/
      (T = "dict"/\((∃ a,H p=some (.dK a))\/∃ a,H p=some (.dT a)))\/(T = "set"/\∃ S n,H p=some (.set S n))
  | _=>False
theorem dz {pins:List (Addr × Obj)}{σ:St}{H:Hp}{s:Shared}{T:String}{x:V}{v:Value}(I:Inv X pins σ H s)(r:RelV x v)(ty:tyV X.K T x H) :
    s.TypeIs v T/\∀ a,v=.ref a->∃ ob,s.heap.get? a=some ob/\ob.dict=none:=by
  cases x with
  | str z =>
    obtain⟨t,rfl⟩:=r;cases (show T = "str" from ty)
    exact⟨typeIs_str s z t,λ_ e=>nomatch e⟩
  | int i =>
    obtain⟨t,rfl⟩:=r;cases (show T = "int" from ty)
    exact⟨typeIs_int s i t,λ_ e=>nomatch e⟩
  | ref p =>
    cases r;rcases ty with ⟨rfl,l,h⟩|⟨rfl,o,b,j,d⟩|⟨rfl,b⟩|⟨rfl,S,n,b⟩
    · obtain⟨k,_,g,_⟩:=I.list h
      refine⟨g.isList.typeIs,λa e=>?_⟩;cases e;obtain⟨o,n,e,c,d,_⟩:=g;exact⟨o,e,d⟩
    · refine⟨⟨o,I.kIn p o b,j⟩,λa e=>?_⟩
      cases e;exact⟨o,I.kIn _ o b,d⟩
    · have z:∃ o,s.heap.get? p=some o/\o.ExactDict:=by
        rcases b with ⟨f,b⟩|⟨f,b⟩
        · obtain⟨_,_,_,_,o,_,_,e,ex,_⟩:=I.hok p _ b
          exact⟨o,e,ex⟩
        · obtain⟨_,_,_,_,o,_,_,e,ex,_⟩:=I.hok p _ b
          exact⟨o,e,ex⟩
      obtain⟨o,e,ex⟩:=z;refine⟨⟨o,e,ex.1⟩,λa e2=>?_⟩;cases e2;exact⟨o,e,ex.2.1⟩
    · obtain⟨o,_,_,_,e,ex,_⟩:=I.hok p _ b
      refine⟨⟨o,e,ex.1⟩,λa e2=>?_⟩;cases e2
      exact⟨o,e,ex.2.1⟩
  | _=>exact False.elim ty
noncomputable def tBM (K:PySem.W.Frag)(T:String)(r:V->List V->Hp->VK->Prop)(to:TE)(t:TA):TE:=λσ H Q=>to σ H λx a=>tyV K T x a/\t σ a λb c=>r x b c Q
variable {o e:Expr}{es:List Expr}{to:TE}{t:TA}{name:Str}{apos cpos:Pos}{T id:String}{r:V->List V->Hp->VK->Prop}
theorem uh (w:PlainAttrs T) (slot:Slot T name id) (f:typeOf (.builtin id)=pure (.type "method_descriptor")) (hm:MtR X id r) (z:PE X o to) (ha:PA X (e::es) t)
    (c:attributeBase o name X.env (eval o X.env)=eval o X.env:=by rfl)
    (d:((backTo cpos (starEach (e::es) X.env)).all (λx=>!x.1) && (backToKw cpos (keywordEach [] X.env)).all (λx=>x.1.isSome)
      && decide ((e::es).length+([]:List Keyword).length+(if ([]:List Keyword).isEmpty then 0 else 1)<30))=true:=by rfl)
    (b:(apos.endLine == cpos.line)=true:=by rfl) (y:starEach (e::es) X.env=(false,eval e X.env)::starEach es X.env:=by rfl) (a:(backTo cpos (starEach es X.env)).any (·.1)=false:=by rfl) :
    PE X (.Call (.Attribute o name apos) (e::es) [] cpos) (tBM X.K T r to t):=by
  intro pins s σ H Q I h;refine wpAny_Call_method_late c d b rfl (thn (z pins s σ H _ I h) λv n ⟨x,E,j,g,ty,u⟩=>?_);obtain⟨B,A⟩:=dz j g ty;refine⟨T,id,w,slot,f,B,A,?_⟩;have i:=ha cpos pins n σ E _ j u;rw[y]at i ⊢;refine Calls.callWith_builtin (by show (false || (backTo cpos (starEach es X.env)).any (·.1))=false;rw[a]<;>rfl) (Calls.evalArgs_plain ?_);exact thn i λl m ⟨k,D,C,p,q⟩=>hm pins m σ D x k v l Q C g p q
end
noncomputable def MtM (X:Cx)(id:String)(r:V->List V->Hp->VK->Prop):Prop :=
  ∀ (pins:List (Addr × Obj)) (s:Shared) (σ:St) (H:Hp) (x:V) (a:List V) (v:Value) (b:List Value) (Q:VK),Inv X pins σ H s->RelV x v->Vals a b->r x a H Q ->
    wpAny (model X.prog X.w) X.A (call (.builtin id) (v::b)) (EP X pins σ Q) X.xe s
theorem Vals.one:∀ {x:V}{us:List Value},Vals [x] us->∃ u,us=[u]/\RelV x u
  | _,_,.cons r .nil=>⟨_,rfl,r⟩
theorem Vals.two:∀ {x y:V}{us:List Value},Vals [x,y] us->∃ u v,us=[u,v]/\RelV x u/\RelV y v
  | _,_,_,.cons r (.cons q .nil)=>⟨_,_,rfl,r,q⟩
theorem Vals.reverse {xs:List V}{us:List Value}(h:Vals xs us):Vals xs.reverse us.reverse:=by
  induction h with
  | nil=>exact .nil
  | cons r t ih=>rw[List.reverse_cons,List.reverse_cons];exact Vals.append ih (.cons r .nil)
theorem Vals.rep {xs:List V}{us:List Value}(h:Vals xs us):∀ k:Nat,Vals (List.replicate k xs).flatten (List.replicate k us).flatten
  | 0=>.nil
  | k+1=>by
    rw[Ym,Ym,ZE,ZE];exact Vals.append h (Vals.rep h k)
theorem rF (its:List Value):∀ (k:Nat) (acc:List Value),
    List.foldl (λb a=>b++a) acc.toArray (List.replicate k its.toArray)=(acc++(List.replicate k its).flatten).toArray
  | 0,acc=>by simp
  | k+1,acc=>by
    have e:acc.toArray++its.toArray=(acc++its).toArray:=by simp
    have e2:(acc++its)++(List.replicate k its).flatten=acc++(List.replicate (k+1) its).flatten:=by
      rw[Ym,ZE,Y2]
    rw[<- e2,<- rF its k (acc++its),<- e,Ym,List.foldl_cons]
section
variable {X:Cx}{pins:List (Addr × Obj)}{σ:St}{H:Hp}{s:Shared}{l:Addr}{xs ys:List V}
theorem Inv.lset {its its':List Value}{n:Nat}{f:Array Value->Array Value}{t':Nat}(I:Inv X pins σ H s) (h:H l=some (.lst xs))
    (e:s.heap.get? l=some { cls:=.type "list",data:=.seq its.toArray n }) (d:f its.toArray=its'.toArray) (b:Vals ys its') (a:ys.length<=sizeLine) :
    Inv X pins σ (upd H l (.lst ys)) { s with heap:=s.heap.update l (Obj.mapSeq f),toks:=t' }:=by
  have q:=PySem.IsL.update e f;rw[d]at q;refine I.write (x:=l) (e:=l) (by rw[h];exact trivial) (.inl rfl) (λi u g c=>(Yi s.heap (Obj.mapSeq f) (Ne.symm g)).trans c) ⟨_,q⟩ ?_;exact⟨a,its',_,b,q⟩
theorem Inv.lnew {its:List Value}{t':Nat}(I:Inv X pins σ H s)(b:Vals ys its)(a:ys.length<=sizeLine) :
    Inv X pins σ (upd H s.heap.objs.size (.lst ys)) { s with heap:=s.heap.push { cls:=.type "list",data:=.seq its.toArray },toks:=t' } :=
  I.laid (λ_ _ q=>J7 _ q) (Jc _) ⟨a,its,0,b,Jv _ rfl⟩
theorem Inv.fresh (I:Inv X pins σ H s):H s.heap.objs.size=none:=I.hok.fresh (Jc _)
theorem Inv.lstM (I:Inv X pins σ H s)(a:H l=some (.lst xs)):xs.length<=sizeLine/\∃ (its:List Value) (n:Nat),Vals xs its/\xs.length=its.length/\s.heap.get? l=some { cls:=.type "list",data:=.seq its.toArray n }:=by
  obtain⟨z,its,n,r,e⟩:=I.hok l _ a;exact⟨z,its,n,r,r.length,e⟩
theorem pP {n:Nat}(h:n<=sizeLine):Builtin.List.listTooLong n=false:=by
  unfold Builtin.List.listTooLong;exact Jr (by simp_all)
end
section
variable {X:Cx}
noncomputable def rAppend:V->List V->Hp->VK->Prop:=λx b H Q=>∃ l a y,x=.ref l/\b=[y]/\H l=some (.lst a)/\a.length<sizeLine/\Q .non (upd H l (.lst (a++[y])))
theorem xQ:MtM X "list.append" rAppend:=by
  intro pins s σ H x i v j Q I c d h;obtain⟨l,g,y,rfl,rfl,b,k,q⟩:=h;cases c;obtain⟨u,rfl,f⟩:=d.one;obtain⟨z,a,n,r,m,e⟩:=I.lstM b;refine call_meets F.slot_list_append ⟨_,e,rfl⟩ F.entry_list_append (F.args_list_append_2 _ _) (PySem.list_append l a.toArray n u (by rw[Jm];simp_all)) ⟨e,?_⟩;refine⟨.non,_,I.lset (its':=a++[u]) b e (by simp) (r.append (.cons f .nil)) ?_,rfl,q⟩;rw[Jb,List.length_singleton]
  grind
noncomputable def rExtend:V->List V->Hp->VK->Prop:=λx d H Q=>∃ l b c a,x=.ref l/\d=[.ref b]/\H l=some (.lst c)/\H b=some (.lst a)/\c.length+a.length<=sizeLine/\Q .non (upd H l (.lst (c++a)))
theorem vV:MtM X "list.extend" rExtend:=by
  intro pins s σ H x B v C Q I i j h;obtain⟨l,b,A,w,rfl,rfl,g,p,D,q⟩:=h;cases i;obtain⟨u,rfl,k⟩:=j.one;cases k;obtain⟨z,c,n,r,E,e⟩:=I.lstM g;obtain⟨y,a,o,m,t,e2⟩:=I.lstM p;have f:c.toArray.size+a.toArray.size<=sizeLine:=by rw[Jm,Jm];simp_all
  have d:¬(!c.toArray.isEmpty && Builtin.List.listTooLong (c.toArray.size+a.toArray.size))=true:=by
    rw[pP f,Bool.and_false];exact Jj
  refine call_meets F.slot_list_extend ⟨_,e,rfl⟩ F.entry_list_extend (F.args_list_extend_2 _ _)
    (AutoSeq1.list_extend_list_list_0 l c.toArray n b a.toArray o d (by rw[Jm];simp_all) (by lia)) ⟨e,e2,?_⟩
  refine⟨.non,_,I.lset (its':=c++a) g e (by simp) (r.append m) ?_,rfl,q⟩;rw[Jb];omega
noncomputable def zaH:R2:=λx y H Q=>∃ l b c a,x=.ref l/\y=.ref b/\H l=some (.lst c)/\H b=some (.lst a)/\c.length+a.length<=sizeLine/\∀ p,H p=none->Q (.ref p) (upd H p (.lst (c++a)))
theorem xn:OpR X (binaryOp .Add) zaH:=by
  intro pins s σ H x y v u Q I f d h;obtain⟨l,b,t,o,rfl,rfl,i,j,A,q⟩:=h;cases f;cases d;obtain⟨z,c,n,r,B,e⟩:=I.lstM i;obtain⟨p,a,w,g,m,e2⟩:=I.lstM j;refine PySem.P.add_list e e2 ?_ (by rw[Jm,Jm];simp_all);have k:c.toArray++a.toArray=(c++a).toArray:=by simp
  rw[k];exact⟨.ref _,_,I.lnew (t':=s.toks) (r.append g) (by rw[Jb];omega),rfl,q _ I.fresh⟩
noncomputable def zaE:R2:=λx y H Q=>∃ l k a,x=.ref l/\y=.int k/\H l=some (.lst a)/\-(2 ^ 63)<=k/\k<2 ^ 63/\a.length*k.toNat<=sizeLine /\
  ∀ p,H p=none->Q (.ref p) (upd H p (.lst (List.replicate k.toNat a).flatten))
theorem eU {α:Type}(xs:List α)(k:Nat):(List.replicate k xs).flatten.length=k*xs.length:=by
  induction k with
  | zero=>simp
  | succ k ih=>rw[Ym,ZE,Jb,ih,Nat.succ_mul,Nat.add_comm]
theorem bA:OpR X (binaryOp .Mult) zaE:=by
  intro pins s σ H x y v u Q I A w h;obtain⟨l,k,J,rfl,rfl,C,E,D,o,q⟩:=h;cases A;obtain⟨t,rfl⟩:=w;obtain⟨z,b,n,r,B,e⟩:=I.lstM C;have hlen:b.toArray.size*k.toNat<=sizeLine:=by rw[Jm,<- B];exact o
  have g:¬ b.toArray.size*k.toNat > (2 ^ 63-1) / 8:=by
    have:(sizeLine:Nat)<=(2 ^ 63-1) / 8:=by decide
    lia
  have f:¬(!Builtin.List.listFitsIndex k)=true:=by
    rw[fitsIndex_both E D];exact Jj
  have c:¬ Builtin.List.listTooLong (b.toArray.size*k.toNat)=true:=by
    rw[pP hlen];exact Jj
  have d:List.foldl (λj i=>j++i) #[] (List.replicate (if b.toArray.isEmpty=true then 0 else k.toNat) b.toArray)=(List.replicate k.toNat b).flatten.toArray:=by
    have G:∀ m:Nat,List.foldl (λj i=>j++i) #[] (List.replicate m b.toArray)=(List.replicate m b).flatten.toArray:=λm=>by
      have:=rF b m [];rw[List.nil_append]at this;exact this
    rw[G]
    cases b with
    | nil=>simp
    | cons a K=>rw[Je (by simp)]
  refine wpAny_binaryOp_repeat_ref (T:="list") (U:="int") (by decide) ⟨_,e,rfl⟩ (λp=>typeIs_int p k t) noFill_list_mul F.fills_int_mul F.slot_int_rmul repeat_list F.slot_int_index.lookup
    (call_meets F.slot_int_rmul (typeIs_int s k t) F.entry_int_rmul (F.args_int_rmul_2 _ _) (int___rmul___int_list k t l b.toArray n)
      ⟨e,rfl,⟨_,e,rfl⟩,call_meets F.slot_list_mul ⟨_,e,rfl⟩ F.entry_list_mul (F.args_list_mul_2 _ _) (AutoListH.list___mul___list_int_3 l b.toArray n k t f g c) ⟨e,?_⟩⟩)
  rw[d];exact⟨.ref _,_,I.lnew (t':=s.toks) (r.rep k.toNat) (by rw[eU,Nat.mul_comm];exact o),rfl,q _ I.fresh⟩
end
end L2
namespace Att
open PySem PySem.W PySem.Calls PyProof.Rows
theorem vt {P:Params}{h:Heap}:∀ (ns:List Int) (vs:List Value),WellAll P h vs (ns.map WData.int)->IntsAre vs ns:=by
  intro ns
  induction ns with
  | nil =>
    intro vs w;rw[List.map_nil]at w;cases w
    exact .nil
  | cons n ns ih =>
    intro vs w;rw[Y1]at w
    cases w with
    | cons a b =>
      cases a;exact .cons _ _ (ih _ b)
theorem kD {l:OpenLaw}{n:Nat}(hn:l.most=some n){P:Params}{h:Heap}{args:List WData}{vals:List Value}(b:l.row.toRowW.claim.pre args=true)(g:WellAll P h vals args) :
    ∃ a vs ns,vals=[Value.ref a]/\args=[WData.list (ns.map WData.int)]/\h.get? a=some { cls:=.type "list",data:=.seq vs.toArray }/\IntsAre vs ns/\ns.length<=n:=by
  have i:WShape.hasAll [] args [.list .int]=true:=(pre_splitW b).1;have j:l.pre.holds [] { args:=args }=true:=(pre_splitW b).2;obtain⟨d,r,rfl,u,t⟩:=hasAllW_cons i;obtain rfl:=hasAllW_nil t;obtain⟨v,rfl,s⟩:=hasW_list u;obtain⟨ns,rfl⟩:=items_int s
  have hlen:ns.length<=n:=by
    unfold OpenLaw.pre at j
    have f:(WTm.not (.lt (.lit (.int (n:Int))) (.len (.arg 0)))).holds [] { args:=[.list (ns.map .int)] }=true:=by
      have f:=(holds_andW j).1;rw[hn]at f;exact f
    have e:=condW_of f (w_not (w_lt w_lit (w_len_list (w_arg rfl))));rw[Jn]at e;refine Nat.le_of_not_lt λq=>?_;have o:(n:Int)<((ns.length:Nat):Int):=by simp_all
    first
      | (rw[Jx o]at e;exact absurd e (by decide))
      | (simp at e;omega)
  cases g with
  | cons m k =>
    cases k
    cases m with
    | list p c=>exact⟨_,_,ns,rfl,rfl,p,vt ns _ c,hlen⟩
theorem kI (l:OpenLaw)(args:List WData):l.row.toRowW.claim.post args (.bool true) args=true :=
  postW_of (r:=l.row.toRowW) (X:=(true == true))
    (show WShape.has [] (.bool true) .bool=true by first|rfl|decide|simp[WShape.has,WShape.arms,WShape.armsAll])
    (show (WTm.eq .res (.lit (.bool true))).value [] { args:=args,res:=some (.bool true),after:=args }=some (.bool (true == true)) from w_eq_bool (w_res rfl) w_lit) rfl
theorem attach_call {l:OpenLaw}{n:Nat}{q:Program}{loose:List Str}{t:(Str->Option Value)->Heap->Prop}{s:World->Heap->Prop}{d:DefRec}
    (hn:l.most=some n) (k:d.params.defaults=[])
    (call:∀ (w:World) (s₀ b:Shared) (mg mb:Str->Option Value) (c:Addr) (o:Obj) (pm cd doc:Value) (a:Addr) (vs:List Value) (ns:List Int),
      Ground q loose [] t w s₀ mg mb b.heap->s w b.heap ->
      b.heap.get? c=some o->o.data=.func (docDef d.name d.params d.body d.scope pm cd doc)->b.heap.CodeRec cd d.name->mg d.name=some (.ref c) ->
      b.heap.get? a=some { cls:=.type "list",data:=.seq vs.toArray }->IntsAre vs ns->ns.length<=n->b.gens = #[] ->
      codeAny (model l.prog w) callerA (.call (.ref c) ⟨[.ref a],[]⟩) (λr h=>r=.ok (.ret (.bool true))/\OldK b.heap h.heap/\h.os=b.os/\AllBare h.gens) b) :
    WalkO q loose t s l.row.toRowW d [] (λf vs=>PySem.call f vs):=by
  intro w s₀ b mg mb G Y c o pm cd doc E kV x A m p j z args vals as e u F i H;obtain rfl:E=.none:=Dflts.none p k;obtain rfl:kV=.none:=Dflts.noKw p;obtain⟨a,vs,ns,rfl,rfl,g,hints,hlen⟩:=kD hn e i;refine enter_call (codeAny_mono (call w s₀ b mg mb c o pm cd doc a vs ns G Y x (fd_plain A) m j g hints hlen z) λr h v=>?_);obtain⟨rfl,D,C,B⟩:=v;exact⟨.inl ⟨.bool true,.bool true,[],rfl,λ_=>rfl,.bool true,kI l _,λ_=>⟨List.Pairwise.nil,λ_ y=>(nomatch y)⟩⟩,D,C,B⟩
section
noncomputable def zaJ (h:Heap)(L d:Addr):List (Addr × Obj):=(List.range h.objs.size).filterMap λa=>if a=L\/a=d then none else (h.get? a).map λo=>(a,o)
end
end Att
namespace L2
open PySem PySem.Spec PyProof.Rows
theorem sD:∀ {vs:List Value}{ns:List Int},IntsAre vs ns->Vals (ns.map V.int) vs
  | _,_,.nil=>.nil
  | _,_,.cons n t h=>.cons ⟨t,rfl⟩ (sD h)
noncomputable abbrev KOf {K:PySem.W.Frag}{h:Heap}(_:K.In h):PySem.W.Frag:=K
noncomputable def xP (s:Stmt):Arguments:=match s with
  | .FunctionDef _ a _ _ _ _ _ _ _ _=>a
  | _=>{ posonlyargs:=[],args:=[],vararg:=none,kwonlyargs:=[],kw_defaults:=[],kwarg:=none,defaults:=[] }
noncomputable def yk (s:Stmt):List Stmt:=match s with
  | .FunctionDef _ _ b _ _ _ _ _ _ _=>b
  | _=>[]
noncomputable def zN (s:Stmt):Scope:=match s with
  | .FunctionDef _ _ _ _ _ _ sc _ _ _=>sc
  | _=>{ kind:=.function,names:=[],isGenerator:=false,isCoroutine:=false }
noncomputable abbrev CX0:CXT:=λ_ _ _ _ _ _=>False
noncomputable abbrev E0:XK:=λ_ _ _=>False
theorem zW {X:Cx}:Passes CX0 X E0:=λ_ _ _ _ _ _ _ h=>h.elim
structure Fun (K:PySem.W.Frag) (x qual:Str) (st:Stmt) (f:Addr) (fd:FuncData):Prop where
  ex:∃ (oc:Value) (od:Option Addr) (kV doc pm:Value) (an:Option Addr) (cdv ct:Value) (osl:Array (Option Value)),
    fd=PySem.W.fnOf x qual (xP st) (yk st) (zN st) .none kV doc pm an cdv ct/\K.lookup f=some ⟨oc,od,.func fd,osl⟩/\PySem.W.codeIn K cdv qual=true
  kp:PySem.W.keepIn K (.ref f)=true
section
variable {P:Program}{w:World}{K:PySem.W.Frag}{mg:Str->Option Value}{base:Heap}
theorem Fun.ok {x qual:Str}{st:Stmt}{f:Addr}{fd:FuncData}{N ps:List Str}{k:Nat}{sp:Sp}(F:Fun K x qual st f fd)(S:FnScope N ps (zN st))(len:∀ vs H Q E,sp vs H Q E->vs.length=ps.length)(a:∀ (cdv:Value) (A:Around) (outer:List Env) (s:Shared) (H:Hp) (vs:List V) (Q:VK) (E:XK),Room k (A.deeper (envOfC qual (zN st) s.heap.objs.size f cdv))->sp vs H Q E ->
      ∃ t,PSs (oO CX0 P w K mg base N qual (zN st) f cdv A outer s H E).nox (yk st) t/\t { nx:=λ_ g=>Q .non g,rt:=Q } (start N vs) H):FnOk P w K mg base CX0 (k+1) f fd ps sp:=by
  obtain⟨l,j,kV,doc,pm,an,cdv,m,i,rfl,d,c⟩:=F.ex;refine du d c S len λA outer s H vs Q E e b=>?_;obtain⟨t,h,q⟩:=a cdv A outer s H vs Q E e b;exact⟨t,h.nox,q⟩
theorem Fun.binds {x qual:Str}{st:Stmt}{f:Addr}{fd:FuncData}{ps:List Str}(F:Fun K x qual st f fd)(h:∀ (kV doc pm:Value) (an:Option Addr) (cdv ct:Value) (us:List Value),us.length=ps.length->bindArgs (PySem.W.fnOf x qual (xP st) (yk st) (zN st) .none kV doc pm an cdv ct) ⟨us,[]⟩=pure (ps.zip us)):Binds K fd ps []:=by
  obtain⟨d,c,kV,doc,pm,an,cdv,ct,a,rfl,e,b⟩:=F.ex;exact .all (h kV doc pm an cdv ct)
theorem bg {x qual:Str}{st:Stmt}{f:Addr}{oc:Value}{od an:Option Addr}{osl:Array (Option Value)}{kV doc pm cdv ct:Value}(l:K.lookup f=some ⟨oc,od,.func (PySem.W.fnOf x qual (xP st) (yk st) (zN st) .none kV doc pm an cdv ct),osl⟩)(c:PySem.W.codeIn K cdv qual=true)(k:PySem.W.keepIn K (.ref f)=true):Fun K x qual st f (PySem.W.fnOf x qual (xP st) (yk st) (zN st) .none kV doc pm an cdv ct):=⟨⟨oc,od,kV,doc,pm,an,cdv,ct,osl,rfl,l,c⟩,k⟩
end
section
variable {X:Cx}
theorem pv (i:Nat) {x:Str}{pos:Pos}(d:X.N[i]?=some x:=by rfl) (b:Vis X.env.scope x:=by first|exact Or.inl rfl|exact Or.inr (.inl rfl)|exact Or.inr (.inr rfl)) (c:(x == ("__debug__":Str))=false:=by decide)
    (a:(x == ("__classdict__":Str))=false:=by decide):PE X (.Name x pos) (fI i):=cw d b c a
theorem qv (i:Nat) {x:Str}{pos:Pos}(h:X.N[i]?=some x/\Vis X.env.scope x/\(x == ("__debug__":Str))=false/\(x == ("__classdict__":Str))=false):PE X (.Name x pos) (fI i):=cw h.1 h.2.1 h.2.2.1 h.2.2.2
end
theorem zx {A B:Prop}(h:B):if false=true then A else B:=by
  rw[Je Jj];exact h
theorem yJ {A B:Prop}(h:A):if true=true then A else B:=by
  rw[Jg rfl];exact h
theorem oB {c A B:Prop}[Decidable c](b:c->A)(a:¬ c->B):if c then A else B:=by
  by_cases h:c
  · rw[Jg h]
    exact b h
  · rw[Je h]
    exact a h
noncomputable def Same (H H':Hp):Prop:=∀ b o,H b=some o->H' b=some o
theorem Same.refl (H:Hp):Same H H:=λ_ _ h=>h
theorem Same.trans {H e d:Hp}(a:Same H e)(b:Same e d):Same H d:=λc o h=>b c o (a c o h)
end L2
set_option maxHeartbeats 4000001
namespace L2
open PySem PySem.Spec PyProof.Rows
noncomputable def wY (cells:List (Str × Addr)):List (Str × NameKind)->List (Str × Addr)->List (Str × Addr)
 | [],cs=>cs
 | (n,k)::r,cs=>if k == .free then wY cells r ((n,(cells.lookup n).getD 0)::cs) else wY cells r cs
theorem tS {env:Env}:∀ (names:List (Str × NameKind)) (cs:List (Str × Addr)),(∀ y∈names,y.2=.free->∃ c,env.cells.lookup y.1=some c) ->
  (forIn names cs λx r=>match x with|(name,kind)=>if (kind == NameKind.free)=true then (do let a <- cellOf env name;pure (ForInStep.yield ((name,a)::r))) else pure (ForInStep.yield r):Sem (List (Str × Addr)))=pure (wY env.cells names cs)
 | [],cs,_=>rfl
 | (n,k)::r,cs,h=>by
  rw[Z0];by_cases e:(k == NameKind.free)=true
  ·obtain⟨c,g⟩:=h (n,k) JL (by simpa using e)
   have d:cellOf env n=pure c:=by
    have b:env.cells.lookup n=some c:=g;unfold cellOf;rw[b]
   simp only[e,Yu,d,pure_bind];rw[tS r _ λy f=>h y (JG _ f)];have b:env.cells.lookup n=some c:=g;show _=pure (if (k == NameKind.free)=true then _ else _);rw[Jg e,b];rfl
  ·have i:(k == NameKind.free)=false:=by simpa using e
   simp only[i,Y7,Z3,pure_bind];rw[tS r _ λy f=>h y (JG _ f)];show _=pure (if (k == NameKind.free)=true then _ else _);rw[Je e]
theorem wv {scope:Scope}{env:Env}(h:∀ y∈scope.names,y.2=.free->∃ c,env.cells.lookup y.1=some c):closureFor scope env=pure (wY env.cells scope.names []):=by
 unfold closureFor;show (forIn scope.names [] _ >>= λr=>pure r)=_;rw[bind_pure];exact tS _ _ h
theorem wO {cells:List (Str × Addr)}:∀ (names:List (Str × NameKind)) (cs:List (Str × Addr)) (x:Str) (c:Addr),(∀ y∈names,y.2=.free->∃ c,cells.lookup y.1=some c) ->
  (∀ x c,cs.lookup x=some c->cells.lookup x=some c)->(wY cells names cs).lookup x=some c->cells.lookup x=some c
 | [],cs,x,c,_,f,e=>f x c e
 | (n,k)::r,cs,x,c,h,f,e=>by
  unfold wY at e;by_cases q:(k == NameKind.free)=true
  ·rw[Jg q]at e
   obtain⟨m,l⟩:=h (n,k) JL (by simpa using q);refine wO r _ x c (λy g=>h y (JG _ g)) (λd o a=>?_) e;rw[Yv]at a
   cases i:d == n with
   | true =>
    rw[i]at a;have j:d=n:=by simpa using i
    subst j;have b:cells.lookup d=some m:=l;rw[b]at a ⊢
    exact a
   | false =>
    rw[i]at a;exact f d o a
  ·rw[Je q]at e
   exact wO r _ x c (λy g=>h y (JG _ g)) f e
theorem vc {cells:List (Str × Addr)}:∀ (names:List (Str × NameKind)) (cs:List (Str × Addr)) (x:Str),(∃ c,cs.lookup x=some c)->∃ c,(wY cells names cs).lookup x=some c
 | [],cs,x,e=>e
 | (n,k)::r,cs,x,e=>by
  unfold wY;by_cases q:(k == NameKind.free)=true
  ·rw[Jg q]
   refine vc r _ x ?_;rw[Yv]
   cases a:x == n with
   | true=>exact⟨_,rfl⟩
   | false=>exact e
  ·rw[Je q]
   exact vc r _ x e
theorem xH {cells:List (Str × Addr)}:∀ (names:List (Str × NameKind)) (cs:List (Str × Addr)) (x:Str),names.lookup x=some .free->∃ c,(wY cells names cs).lookup x=some c
 | [],cs,x,e=>by simp at e
 | (n,k)::r,cs,x,e=>by
  rw[Yv]at e;unfold wY
  cases a:x == n with
  | true =>
   rw[a]at e;have b:k=.free:=Jt e;subst b;rw[Jg (by decide)];refine vc r _ x ?_;rw[Yv,a]
   exact⟨_,rfl⟩
  | false =>
   rw[a]at e;by_cases q:(k == NameKind.free)=true
   ·rw[Jg q];exact xH r _ x e
   ·rw[Je q];exact xH r _ x e
noncomputable def gy (env:Env)(p:Str × NameKind):Bool:=p.2 == .free && env.scope.kind == .function && env.kindOf p.1 == some .cell
noncomputable def wV (env:Env)(p:Str × NameKind):Str × NameKind:=if gy env p=true then (p.1,.cell) else p
theorem vj (env:Env)(p:Str × NameKind):(wV env p).1=p.1:=by unfold wV;split<;>rfl
theorem vh (env:Env)(p:Str × NameKind):(wV env p).2=p.2\/((wV env p).2=.cell/\p.2=.free):=by
 unfold wV;split
 ·rename_i h
  refine .inr ⟨rfl,?_⟩;unfold gy at h;cases e:p.2<;>simp[e]at h<;>rfl
 ·exact .inl rfl
theorem wb (scope:Scope)(env:Env):(relabel scope env).names=scope.names.map (wV env):=rfl
theorem uo {f:Str × NameKind->Str × NameKind}(a:∀ p,(f p).1=p.1):∀ (l:List (Str × NameKind)) (x:Str),(l.map f).lookup x=none/\l.lookup x=none\/∃ p∈l,(l.map f).lookup x=some (f p).2/\l.lookup x=some p.2
 | [],_=>.inl ⟨rfl,rfl⟩
 | p::r,x=>by
  have c:((p::r).map f).lookup x=if x == p.1 then some (f p).2 else (r.map f).lookup x:=by
   show List.lookup x (((f p).1,(f p).2)::r.map f)=_;rw[Yv,a p];cases x == p.1<;>rfl
  have e2:(p::r).lookup x=if x == p.1 then some p.2 else r.lookup x:=by
   show List.lookup x ((p.1,p.2)::r)=_;rw[Yv];cases x == p.1<;>rfl
  rw[c,e2];cases x == p.1
  ·rcases uo a r x with z|⟨q,b,z⟩
   ·exact .inl z
   ·exact .inr ⟨q,JG _ b,z⟩
  ·exact .inr ⟨p,JL,rfl,rfl⟩
theorem yo {scope:Scope}{env:Env}{x:Str}{a:NameKind}(h:(relabel scope env).names.lookup x=some a):scope.names.lookup x=some a\/(a=.cell/\scope.names.lookup x=some .free):=by
 rw[wb]at h;rcases uo (vj env) scope.names x with ⟨z,_⟩|⟨p,_,z,e⟩
 ·rw[z]at h;cases h
 ·rw[z]at h
  obtain rfl:=Jt h;rcases vh env p with q|⟨q,b⟩
  ·rw[q];exact .inl e
  ·exact .inr ⟨q,by rw[e,b]⟩
theorem x8 {scope:Scope}{env:Env}{x:Str}(h:scope.names.lookup x=some .free):(relabel scope env).names.lookup x=some .cell\/(relabel scope env).names.lookup x=some .free:=by
 rw[wb];rcases uo (vj env) scope.names x with ⟨_,z⟩|⟨p,_,z,e⟩
 ·rw[z]at h;cases h
 ·rw[e]at h
  rcases vh env p with q|⟨q,_⟩
  ·rw[z,q,h];exact .inr rfl
  ·rw[z,q];exact .inl rfl
noncomputable def yN (X:Cx)(N':List Str)(scope:Scope)(C:Addr)(s₀:Shared)(H₀:Hp)(fp:List Addr)(pins:List (Addr × Obj)):Cx :=
 { X with N:=N',s₀:=s₀,H₀:=H₀,env:=compEnvC scope (wY X.env.cells scope.names []) C X.env,outer:=X.stack,stack:=X.stack,ex:=fp,fn:=λ_=>false,pn:=X.pn++pins,xe:=λ_ _=>False }
noncomputable def qP (cap:List (Option Nat))(σ:St):St:=cap.map λo=>match o with|some i=>(match σ[i]? with|some v=>v|none=>none)|none=>none
noncomputable def tst (M:Model)(A:Around)(env:Env)(E:Value->Shared->Prop)(o:Option Expr)(Q:Bool->Shared->Prop)(s:Shared):Prop:=match o with
 | none=>Q true s
 | some c=>wpAny M A (isTrue c env (eval c env)) Q E s
theorem qd {M:Model}{A:Around}{env:Env}{E:Value->Shared->Prop}{o:Option Expr}{Q a:Bool->Shared->Prop}{s:Shared}(h:tst M A env E o Q s)(k:∀ b z,Q b z->a b z):tst M A env E o a s:=by
 cases o with
 | none=>exact k _ _ h
 | some c=>exact thn h k
noncomputable def PTo (X:Cx)(o:Option Expr)(t:TT):Prop :=
 ∀ (pins:List (Addr × Obj)) (s:Shared) (σ:St) (H:Hp) (Q:Bool->Hp->Prop),Inv X pins σ H s->t σ H Q->tst (model X.prog X.w) X.A X.env X.xe o (TP X pins σ Q) s
noncomputable def fH:TT:=λ_ H Q=>Q true H
theorem x9 {X:Cx}:PTo X none fH:=λ_ _ _ H _ I h=>⟨H,I,h⟩
theorem fq {X:Cx}{c:Expr}{t:TT}(h:PT X c t):PTo X (some c) t:=λpins s σ H Q I a=>h pins s σ H Q I a
noncomputable abbrev NoX:Value->Shared->Prop:=λ_ _=>False
noncomputable def Go (M:Model)(A:Around)(tg elt:Expr)(o:Option Expr)(it acc:Value)(env:Env)(R:Result->Shared->Prop)(g:Shared->Prop)(s:Shared):Prop :=
 wpAny M A (pyNext it) (λr a=>match r with
  | none=>R (.ok .next) a
  | some v=>wpAny M A (letOwnedTupleGo tg it v) (λ_ b=>wpAny M A (assign tg env v) (λ_ c=>tst M A env NoX o (λyes d =>
    if yes=true then wpAny M A (eval elt env) (λx e=>wpAny M A (call (.builtin "list.append") [acc,x]) (λ_ f=>g f) NoX e) NoX d else g d) c) NoX b) NoX a) NoX s
theorem jV {prog:Program}{w:World}{A:Around}{R:Result->Shared->Prop}{s:Shared}{elt tg iter:Expr}{o:Option Expr}{scope:Scope}{pos:Pos}{it acc:Value}{env:Env}(J:Nat->Shared->Prop)(turn:∀ n s,J n s->Go (model prog w) A tg elt o it acc env R (λz=>∃ m,m<n/\J m z) s)(n:Nat)(h:J n s) :
  codeAny (model prog w) A (.compLoop (.ListComp elt [⟨tg,iter,o.toList,0⟩] scope pos) 0 it acc env) R s:=by
 cases o with
 | none =>
  refine PySem.W.kcp_loop J (λn a l=>JM (turn n a l) (λr b g=>?_) λ_ _ z=>z.elim) n h
  cases r with
  | none=>exact g
  | some v=>exact JM g (λ_ c k=>JM k (λ_ d j=>JM (show wpAny _ _ _ _ _ d from j) (λx e i=>JM i (λ_ _ q=>q) λ_ _ z=>z.elim) λ_ _ z=>z.elim) λ_ _ z=>z.elim) λ_ _ z=>z.elim
 | some t =>
  refine PySem.W.kct_loop J (λn a l=>JM (turn n a l) (λr b g=>?_) λ_ _ z=>z.elim) n h
  cases r with
  | none=>exact g
  | some v =>
   refine JM g (λ_ c k=>JM k (λ_ d j=>JM (show wpAny _ _ _ _ _ d from j) (λyes e i=>?_) λ_ _ z=>z.elim) λ_ _ z=>z.elim) λ_ _ z=>z.elim;cases yes
   ·exact i
   ·exact JM (show wpAny _ _ _ _ _ e from i) (λx f p=>JM p (λ_ _ q=>q) λ_ _ z=>z.elim) λ_ _ z=>z.elim
structure CapOk (N N':List Str) (sc scope:Scope) (cap:List (Option Nat)):Prop where
 kind:scope.kind=.function
 nocell:∀ y∈scope.names,y.2≠.cell
 names:∀ y∈scope.names,y.2=.local -> scope.names.lookup y.1=some .local
 free:∀ y∈scope.names,y.2=.free->sc.names.lookup y.1=some .cell\/sc.names.lookup y.1=some .free
 len:cap.length=N'.length
 cap:∀ p∈N'.zip cap,∀ i,p.2=some i->N[i]?=some p.1/\scope.names.lookup p.1=some .free/\(sc.names.lookup p.1=some .cell\/sc.names.lookup p.1=some .free)
theorem wC {α:Type}:∀ {l:List (Str × α)}{x:Str}{a:α},l.lookup x=some a->(x,a)∈l
 | [],_,_,h=>by simp at h
 | (n,k)::r,x,a,h=>by
  rw[Yv]at h
  cases b:x == n with
  | true =>
   rw[b]at h;have e:k=a:=Jt h;have e2:x=n:=by simpa using b
   subst e e2
   exact JL
  | false=>rw[b]at h;exact JG _ (wC h)
noncomputable def LCW (J:It)(g:TG)(tt:TT)(k:TE)(l:Addr)(Q:VK)(W:Nat->Nat->List V->St->Hp->Prop):Prop :=
 ∀ i m acc e c,W i m acc e c->c l=some (.lst acc) /\
  ((J.stop i c/\Q (.ref l) c)\/(J.go i c/\∀ x j,J.yld i c x j->g x e j λa n=>tt a n λb h =>
   if b=true then k a h λy f=>f l=some (.lst acc)/\acc.length<sizeLine/\∃ d,d<m/\W (i+1) d (acc++[y]) a (upd f l (.lst (acc++[y])))
   else ∃ d,d<m/\W (i+1) d acc a h))
noncomputable def tLC (cap:List (Option Nat))(b:TI)(g:TG)(tt:TT)(c:TE):TE:=λσ H Q=>b σ H λJ a=>∀ l,a l=none ->
 ∃ W:Nat->Nat->List V->St->Hp->Prop,(∃ m,W 0 m [] (qP cap σ) (upd a l (.lst [])))/\LCW J g tt c l Q W
theorem mt {X:Cx}{elt tg iter:Expr}{o:Option Expr}{scope:Scope}{pos a0:Pos}{wi:TI}{g:TG}{tt:TT}{te:TE}{N':List Str}{cap:List (Option Nat)}{use:Option (Value->Sem Unit)}{Q0:Value->Shared->Prop}(hc:X.calm=true)(hi:PI X tg iter wi)(P:CapOk X.N N' X.env.scope scope cap)(hg:∀ C s₀ H₀ fp pins,PG (yN X N' scope C s₀ H₀ fp pins) tg g)(ht:∀ C s₀ H₀ fp pins,PTo (yN X N' scope C s₀ H₀ fp pins) o tt)(he:∀ C s₀ H₀ fp pins,PE (yN X N' scope C s₀ H₀ fp pins) elt te)(hs:∀ x,foldedSetIterable iter X.env x=pure x){pins:List (Addr × Obj)}{s:Shared}{σ:St}{H:Hp}{Q:VK}(I:Inv X pins σ H s)(h:tLC cap wi g tt te σ H Q)(fin:∀ (l C:Addr) (O:Hp) (U:Shared) (m:Str->Option Value),Inv X pins σ O U->Q (.ref l) O->U.heap.Ns C m->FpOk X pins O C->compPost (model X.prog X.w) X.A X.xe use Q0 (.ref l) C (.ok .next) U) :
  wpAny (model X.prog X.w) X.A (comprehension (.ListComp elt [⟨tg,iter,o.toList,0⟩] scope pos) scope X.env a0 (newList []) false (eval iter X.env) use) Q0 X.xe s:=by
 have F:∀ y∈scope.names,y.2=.free->∃ c,X.env.cells.lookup y.1=some c:=λy hy hf=>I.ok.has y.1 (P.free y hy hf);refine wpAny_comprehension_free (use:=use) rfl hs (wv F) P.kind P.names (thn (hi pins s σ H _ I h) λv s1 h1=>thn h1 λcm A h2=>?_);obtain⟨it,fp,tn,J,H2,e,I2,T,a6,N,body⟩:=h2;subst e;have a4:H2 A.heap.objs.size=none:=I2.hok.fresh (Jc _);obtain⟨W,⟨m0,w0⟩,turn⟩:=body A.heap.objs.size a4;have k:Inv X pins σ (upd H2 A.heap.objs.size (.lst [])) { A with heap:=A.heap.push { cls:=.type "list",data:=.seq ([]:List Value).toArray },toks:=A.toks }:=I2.lnew (its:=[]) (t':=A.toks) .nil (JN _);refine JQ (wpAny_newFunctionEnv P.nocell (by intro y hy;simp at hy) (λw E D=>?_) P.kind);dsimp only at E D ⊢;generalize hl:A.heap.objs.size=l at *;generalize hP:A.heap.push { cls:=.type "list",dict:=none,data:=.seq ([]:List Value).toArray }=P2 at *;generalize b3:upd H2 l (.lst [])=H3 at *;have old:∀ b o,P2.get? b=some o->w.get? b=some o:=λb o e=>D.extBut b o (JC (Jp e)) (J7 _ e);have a3:∀ b o,A.heap.get? b=some o->P2.get? b=some o:=λb o e=>hP ▸ J7 _ e
 have bo:∀ b∈fp,b<l:=λb a=>by
  obtain⟨o,e,_⟩:=T.obj _ _ a6 b a;rw[<- hl];exact Jp e
 have b5:∀ b∈fp,H3 b=none:=λb a=>by
  rw[<- b3,zJ (JC (bo b a))];exact(N b a).1
 have b2:P2.objs.size=l+1:=by rw[<- hP,YQ,hl]
 have t:∀ x c,(wY X.env.cells scope.names []).lookup x=some c->X.env.cells.lookup x=some c:=λx c e=>wO _ _ x c F (λ_ _ z=>by simp at z) e;generalize a8:({ A with heap:=P2,toks:=A.toks }:Shared)=s3 at *;have f:s3.heap=P2:=by rw[<- a8]
 let Y:=yN X N' scope P2.objs.size s3 H3 fp pins
 have B:Y.Ok:=by
  refine⟨k.ok.mod,P.kind,k.ok.glob,k.ok.blt,by show s3.heap.objs.size<=P2.objs.size;rw[f];exact Jc _,λx y c e1 e2=>k.ok.inj x y c (t x c e1) (t y c e2),λx Z=>?_,λx c Z=>absurd (show false=true from Z) Jj,k.ok.hd,k.ok.frames,.inl rfl,λb a=>⟨?_,λx c e=>?_⟩,k.bs,
   JK k.ok.bsz k.sz,λb o e a=>?_,λb a hz=>?_,k.stack,k.stkFree⟩
  ·have bu:scope.names.lookup x=some .free:=by
    rcases Z with Z|Z
    ·rcases yo Z with z|z
     ·exact absurd rfl (P.nocell _ (wC z))
     ·exact z.2
    ·rcases yo Z with z|z
     ·exact z
     ·exact z.2
   exact xH _ _ x bu
  ·exact JC (by show b<P2.objs.size;rw[b2];exact ZF (bo b a))
  ·exact(N b a).2.2.2.2.1 x c (t x c e)
  ·rcases (N b a).2.2.2.1 with z|z
   ·exact k.ok.noex b o e z
   ·exact absurd (JF (Jp e) (JK k.ok.bsz z)) (YC _)
  ·rcases Jq.mp (k.stkSub b hz) with z|z
   ·exact(N b a).2.1 z
   ·exact(N b a).2.2.1 z
 have b1:Inv Y [] (qP cap σ) H3 { A with heap:=w,toks:=A.toks }:=by
  refine⟨B,by show A.os=s3.os;rw[<- a8],I2.bare,by show Un _ _ _ _ s3.heap w;rw[f];exact Un.kept old,⟨_,E,λj x v e1 e2 e3=>?_⟩,λx c e=>?_,?_,λx c e=>k.freeC x c (t x c e),λp hp=>?_,λb o e=>?_,?_⟩
  ·have b8:N'[j]?=some x:=e1
   unfold qP at e2;rw[JZ]at e2
   cases ec:cap[j]? with
   | none=>rw[ec]at e2;cases e2
   | some oc =>
    rw[ec]at e2
    cases oc with
    | none=>cases e2
    | some i =>
     have b6:σ[i]?=some (some v):=by
      cases ei:σ[i]? with
      | none=>simp[ei]at e2
      | some v' =>
       simp[ei]at e2;rw[e2]
     have hz:(x,some i)∈N'.zip cap:=by
      refine JB (i:=j) ?_;rw[Zu];exact⟨b8,ec⟩
     obtain⟨hN,hf,hk⟩:=P.cap _ hz i rfl;obtain⟨m,hn,bB⟩:=k.loc;obtain⟨u,r,lk⟩:=bB i x v hN b6 (by rcases hk with z|z;exact .inr (.inl z);exact .inr (.inr z));refine⟨u,r,.inr ⟨?_,?_⟩⟩
     ·exact x8 hf
     ·rcases lk with ⟨z,_⟩|⟨_,c,b0,ab⟩
      ·have z':X.env.scope.names.lookup x=some .local:=z
       rcases hk with q|q
       ·rw[q]at z';cases z'
       ·rw[q]at z';cases z'
      ·obtain⟨c',a9⟩:=xH (cells:=X.env.cells) scope.names [] x hf
       have:=t x c' a9;rw[b0]at this;cases this;obtain⟨ob,e,d⟩:=ab;rw[f]at e;exact⟨c,a9,ob,old c ob e,d⟩
  ·obtain⟨v,ob,e',d⟩:=k.cell x c (t x c e)
   rw[f]at e';exact⟨v,ob,old c ob e',d⟩
  ·refine k.hok.fresh ?_
   rw[f];exact Jc _
  ·have aT:p∈X.pn++pins:=(Ju.mp hp).elim (λz=>z) (λz=>nomatch z)
   obtain⟨e,n,ne,nf,d⟩:=k.pin p aT;rw[f]at e;refine⟨old _ _ e,n,JC (Jp e),λz=>?_,d⟩;rcases Jq.mp (k.stkSub _ z) with q|q
   ·exact ne q
   ·exact nf q
  ·have:=k.hok.kept (h':=w) (λb u q=>old b u (by rw[<- f];exact q))
   exact this b o e
  ·show (cap.map _).length=N'.length
   rw[Jn,P.len]
 have L:∀ {G:Hp},(∀ b∈fp,G b=none)->∀ b∈fp,FpOk Y [] G b:=λ{G} hn b a=>by
  refine⟨hn b a,(B.exf b a).1,B.exfs b a,.inl a,(B.exf b a).2,λp hp=>?_⟩;have aT:p∈X.pn++pins:=(Ju.mp hp).elim (λz=>z) (λz=>nomatch z);exact(N b a).2.2.2.2.2 p aT
 have a7:tn 0 w:=T.keep 0 _ _ a6 λb a o e=>old b o (a3 b o e)
 have loop:codeAny (model X.prog X.w) X.A (.compLoop (.ListComp elt [⟨tg,iter,o.toList,0⟩] scope pos) 0 (.ref it) (.ref l) Y.env) (compPost (model X.prog X.w) X.A X.xe use Q0 (.ref l) P2.objs.size) { A with heap:=w,toks:=A.toks }:=by
  refine jV (λn s'=>∃ i acc K G,Inv Y [] K G s'/\tn i s'.heap/\(∀ b∈fp,G b=none)/\W i n acc K G) ?_ m0 ⟨0,[],_,H3,b1,a7,b5,w0⟩;rintro n s4 ⟨i,acc,S,O,I4,a5,ba,w4⟩;obtain⟨cc,q4⟩:=turn i n acc S O w4;rcases q4 with ⟨stop,qn⟩|⟨go,step⟩
  ·refine thn (T.done Y rfl rfl rfl hc i [] s4 S O Y.xe I4 (L ba) a5 stop) λr U ⟨hr,I5⟩=>?_
   subst hr;obtain⟨m,hn,_⟩:=id I5.loc;have un:Un (frs X.stack) fp H3 O s3.heap U.heap:=I5.base;have bq:s3.heap.objs.size<=P2.objs.size:=by rw[f];exact Jc _
   have IX:Inv X pins σ O U:=k.call' (ch:=fp) I5.os un I5.hok I5.bare λb a=>⟨(N b a).2.2.2.1,(N b a).2.1,(N b a).2.2.2.2.1,(N b a).2.2.2.2.2⟩;exact fin l P2.objs.size O U m IX qn hn (k.fpOk bq I5.free)
  ·refine thn (T.item Y rfl rfl rfl hc i [] s4 S O Y.xe I4 (L ba) a5 go) λr U ⟨u,hr,h5⟩=>?_
   subst hr;refine thn h5 λ_ s6 ⟨x,H6,I6,r6,y6,ax,b4⟩=>?_;have b9:=I6.pinned (L b4) (T.obj _ _ ax);refine thn (hg _ _ _ _ _ _ s6 S H6 x u _ b9 r6 (step x H6 y6)) λ_ s7 ⟨ao,H7,I7,q7⟩=>?_;refine qd (ht _ _ _ _ _ _ s7 ao H7 _ I7 q7) λb s8 ⟨H8,I8,q8⟩=>?_
   have again:∀ {R:St}{H9:Hp}{s9:Shared}{M:List V},Inv Y ([]++wA fp s6.heap) R H9 s9->(∃ m',m'<n/\W (i+1) m' M R H9)->∃ m,m<n/\∃ i acc K G,Inv Y [] K G s9/\tn i s9.heap/\(∀ b∈fp,G b=none)/\W i m acc K G:=λ{R H9 s9 M} I9 ⟨m',hm,w9⟩=>by
    refine⟨m',hm,i+1,M,R,H9,I9.unpinned,T.keep _ _ _ ax λb a o e=>(I9.pin (b,o) (JE _ (JE _ (yX a e)))).1,λb a=>?_,w9⟩;obtain⟨o,e,d⟩:=T.obj _ _ ax b a;exact(I9.pin (b,o) (JE _ (JE _ (yX a e)))).2.1
   cases b with
   | false =>
    rw[Je Jj]at q8 ⊢
    exact again I8 q8
   | true =>
    rw[Jg rfl]at q8 ⊢;refine thn (he _ _ _ _ _ _ s8 ao H8 _ I8 q8) λyv s9 ⟨y,H9,I9,r9,bS,bt,q9⟩=>?_;refine thn (xQ (X:=Y) _ s9 ao H9 (.ref l) [y] (.ref l) [yv] (λ_ G=>G=upd H9 l (.lst (acc++[y]))) I9 rfl (.cons r9 .nil) ⟨l,acc,y,rfl,rfl,bS,bt,rfl⟩) λ_ cf ⟨_,ct,cb,_,b7⟩=>?_;subst b7;exact again cb q9
 exact codeAny_compStart_list loop (T.self X.A 0 _ _ _ a7 loop)
theorem Inv.gone {X:Cx}{pins:List (Addr × Obj)}{σ:St}{H:Hp}{s:Shared}{C:Addr}{h':Heap}(I:Inv X pins σ H s)(f:FpOk X pins H C)(sb:Heap.SameBut C s.heap h'):Inv X pins σ H { s with heap:=h' } :=
 I.turned (t':=s.toks) (λb o a e=>(sb.2 b a).trans e) f.1 f.2.1 f.2.2.2.1 f.2.2.2.2.1 f.2.2.2.2.2
theorem pC {X:Cx}{elt tg iter:Expr}{o:Option Expr}{scope:Scope}{pos:Pos}{a:TI}{g:TG}{tt:TT}{b:TE}{N':List Str}{cap:List (Option Nat)}(n:X.calm=true)(hi:PI X tg iter a)(p:CapOk X.N N' X.env.scope scope cap)(j:∀ C s₀ H₀ fp pins,PG (yN X N' scope C s₀ H₀ fp pins) tg g)(d:∀ C s₀ H₀ fp pins,PTo (yN X N' scope C s₀ H₀ fp pins) o tt)(k:∀ C s₀ H₀ fp pins,PE (yN X N' scope C s₀ H₀ fp pins) elt b)(e:∀ x,foldedSetIterable iter X.env x=pure x:=by intro _;rfl) :
  PE X (.ListComp elt [⟨tg,iter,o.toList,0⟩] scope pos) (tLC cap a g tt b):=by
 intro pins s σ H Q I h;rw[eval_ListComp];exact mt (use:=none) n hi p j d k e I h λl C t u m r q i f=>⟨m,i,λv c=>⟨.ref l,t,r.gone f c,rfl,q⟩⟩
theorem qy {X:Cx}{i:Nat}{y:Str}{elt tg iter:Expr}{o:Option Expr}{scope:Scope}{pos b py:Pos}{k:TI}{g:TG}{tt:TT}{n:TE}{N':List Str}{cap:List (Option Nat)}(M:X.N.Nodup)(j:X.N[i]?=some y)(p:X.env.scope.names.lookup y=some .local)(K:X.calm=true)(hi:PI X tg iter k)(N:CapOk X.N N' X.env.scope scope cap)(G:∀ C s₀ H₀ fp pins,PG (yN X N' scope C s₀ H₀ fp pins) tg g)(B:∀ C s₀ H₀ fp pins,PTo (yN X N' scope C s₀ H₀ fp pins) o tt)(J:∀ C s₀ H₀ fp pins,PE (yN X N' scope C s₀ H₀ fp pins) elt n)(E:∀ x,foldedSetIterable iter X.env x=pure x:=by intro _;rfl)(d:swapsWith (.ListComp elt [⟨tg,iter,o.toList,0⟩] scope pos) (some (.Name y py)) b.line X.env=pure true:=by with_unfolding_all rfl) :
  PS X (.Assign [.Name y py] (.ListComp elt [⟨tg,iter,o.toList,0⟩] scope pos) b) (fU (tLC cap k g tt n) (wL i)):=by
 intro pins s σ H D I h;rw[exec_Assign_Name_used y py _ b d];refine J0 (YL (J0 (J0 (thn (mt (use:=some (assign (.Name y py) X.env)) (Q0:=λ_ z=>SP X pins D .next z) K hi N G B J E I h λl C Q R m P q F f=>?_) λ_ z A=>J8 (J8 A)))));refine wpAny_assign_Name (sJ (v:=.ref l) P M j (.inl p) rfl (λt O ⟨a,r,L⟩=>?_) (.inr p))
 have u:C≠a:=by
  rcases L with z|z
  ·rw[z];exact f.2.1
  ·exact λw=>f.2.2.2.2.1 y a z w.symm
 have e:t.heap.Ns C m:=F.sameBut r u;exact⟨m,e,λS c=>⟨_,Q,O.gone f c,q⟩⟩
end L2
namespace Own
open PySem PySem.Spec PyProof.Rows
section
variable {M:Model}{prog:Program}{w:World}{A:Around}{E:Value->Shared->Prop}{s:Shared}{α:Type}{Q:α->Shared->Prop}
theorem rf {a:Addr}{o:Obj}{vs:Array Value}{x:Value}{f:Value->Sem α}(k:Nat)(c:s.heap.get? a=some o)(hd:o.data=.fields vs)(b:vs[k]?=some x)(h:wpAny M A (f x) Q E s) :
  wpAny M A (field (.ref a) k >>= f) Q E s:=J0 (W7 c hd b h)
theorem nx {T id:String}{B:Builtin}{it:Addr}{P:Value->Shared->Prop}(slot:Slot T "__next__" id) (ty:s.TypeIs (.ref it) T) (en:entryFor table id=some B) (ok:argsOk id ⟨[.ref it],[]⟩)
  (h:wpAny (model prog w) A.in1 (B ⟨[.ref it],[]⟩) (λr a=>∃ v,r=.done (.ret v)/\P v a) E s):wpAny (model prog w) A (Builtin.SmallTypes.nextOf (.ref it)) P E s:=by
 unfold Builtin.SmallTypes.nextOf;refine J0 (wpAny_callSpecial?_slot (name:="__next__") ty slot (Yf slot ty en (thn2 h) ok))
where
 thn2 {b:Sem Fin}{P:Value->Shared->Prop}{c:Around}(h:wpAny (model prog w) c b (λr a=>∃ v,r=.done (.ret v)/\P v a) E s) :
   wpAny (model prog w) c b (λr a=>∃ v,r=.done (.ret v)/\wpAny (model prog w) A (pure v) P E a) E s :=
  JM h (λ_ _ ⟨v,e,q⟩=>⟨v,e,J8 q⟩) λ_ _ z=>z
end
theorem ends {A:Around}{E:Value->Shared->Prop}{prog:Program}{w:World}{s:Shared}{α:Type}{Q:α->Shared->Prop}(c:A.handled=none)
  (h:∀ h' x,(∀ b o,s.heap.get? b=some o->h'.get? b=some o)->(∃ o,h'.get? x=some o/\o.cls=.type "StopIteration")->E (.ref x) { s with heap:=h' }) :
  wpAny (model prog w) A (Builtin.SmallTypes.stopIteration:Sem α) Q E s:=by
 unfold Builtin.SmallTypes.stopIteration newExc newTuple;refine J0 (J0 (JQ ?_ (by size_fits)));refine J0 (wpAny_of_eq (a:=Value.none) (by rfl) (JQ (wpAny_raiseNew_none c (h _ _ (λb o e=>?_) ⟨_,Jv _ rfl,rfl⟩)) (by size_fits)));exact J7 _ (J7 _ e)
noncomputable def cN:Bool->String
 | true=>"list_iterator"
 | false=>"tuple_iterator"
noncomputable abbrev RIt (b:Bool)(h:Heap)(it a:Addr)(i:Int):Prop:=h.get? it=some { cls:=.type (cN b),dict:=none,data:=.fields #[.ref a,.int i 0],slots:=#[] }
noncomputable def SqO:Bool->Heap->Addr->Array Value->Prop
 | true,h,a,xs=>h.IsList a xs
 | false,h,a,xs=>h.IsTuple a xs
theorem SqO.ob {b:Bool}{h:Heap}{a:Addr}{xs:Array Value}(x:SqO b h a xs):∃ o n,h.get? a=some o/\o.data=.seq xs n:=by
 cases b<;>(obtain⟨o,e,_,n,d⟩:=x;exact⟨o,n,e,d⟩)
theorem SqO.mv {b:Bool}{h h':Heap}{a:Addr}{xs:Array Value}(x:SqO b h a xs)(k:∀ o,h.get? a=some o->h'.get? a=some o):SqO b h' a xs:=by
 cases b<;>(obtain⟨o,e,r⟩:=x;exact⟨o,k o e,r⟩)
theorem SqO.ne {b c:Bool}{h:Heap}{a it f:Addr}{i:Int}{xs:Array Value}(x:SqO b h a xs)(y:RIt c h it f i):a≠it:=λz=>by
 obtain⟨o,n,e,d⟩:=x.ob;rw[z,y]at e;cases e;cases d
section
variable {prog:Program}{w:World}{A:Around}{E:Value->Shared->Prop}{s:Shared}
theorem ty {b:Bool}{it a:Addr}{i:Int}(y:RIt b s.heap it a i):s.TypeIs (.ref it) (cN b):=⟨_,y,rfl⟩
theorem rm {b:Bool}{it a:Addr}{i:Nat}{xs:Array Value}{x:Value}{P:Value->Shared->Prop}{B:Builtin}(m:B=match b with|true=>Builtin.«list_iterator.__next__»|false=>Builtin.«tuple_iterator.__next__»)(y:RIt b s.heap it a i)(sq:SqO b s.heap a xs)(g:xs[i]?=some x)(h:∀ h',RIt b h' it a (i+1)->Heap.SameBut it s.heap h'->P x { s with heap:=h' }) :
  wpAny (model prog w) A (B ⟨[.ref it],[]⟩) (λr f=>∃ v,r=.done (.ret v)/\P v f) E s:=by
 obtain⟨o,n,e,d⟩:=sq.ob
 have fin:wpAny (model prog w) A (match xs[(i:Int).toNat]? with
   | some x=>(do setField (.ref it) 1 (rawInt ((i:Int)+1));ret x:Sem Fin)
   | none=>Builtin.SmallTypes.stopIteration) (λr f=>∃ v,r=.done (.ret v)/\P v f) E s:=by
  rw[Yp,g];exact J0 (Zb y (show 1<2 by decide) λh' j k=>J8 ⟨x,rfl,h h' j k⟩)
 rw[Yp,g]at fin;subst m;cases b <;>
 ·refine rf 0 y rfl rfl (PyIte (show ¬((Value.ref a == Value.none)=true) from Jj) (rf 1 y rfl rfl (J0 (Yg e d ?_))))
  simp only[Yp,g];exact fin
where
 PyIte {c:Prop} [Decidable c] {α:Type}{a b:Sem α}{M:Model}{A:Around}{Q:α->Shared->Prop}{E:Value->Shared->Prop}{s:Shared}(l:¬ c) (h:wpAny M A b Q E s):wpAny M A (if c then a else b) Q E s:=by
  rw[Je l];exact h
theorem sL {b:Bool}{it a:Addr}{i:Nat}{xs:Array Value}{Q:Fin->Shared->Prop}{B:Builtin}(m:B=match b with|true=>Builtin.«list_iterator.__next__»|false=>Builtin.«tuple_iterator.__next__»)
  (j:A.handled=none) (y:RIt b s.heap it a i) (sq:SqO b s.heap a xs) (g:xs[i]?=none)
  (h:∀ h' x,(∀ c o,c≠it->s.heap.get? c=some o->h'.get? c=some o)->(∃ o,h'.get? x=some o/\o.cls=.type "StopIteration")->E (.ref x) { s with heap:=h' }) :
  wpAny (model prog w) A (B ⟨[.ref it],[]⟩) Q E s:=by
 obtain⟨o,n,e,d⟩:=sq.ob;subst m;cases b <;>
 ·refine rf 0 y rfl rfl (rm.PyIte (show ¬((Value.ref a == Value.none)=true) from Jj) (rf 1 y rfl rfl (J0 (Yg e d ?_))))
  simp only[Yp,g];refine J0 (YJ (J0 (Zb y (show 0<2 by decide) λr _ f=>?_)));exact ends j λp x k z=>h p x (λc o l q=>k c o ((f.2 c l).trans q)) z
theorem eO {b:Bool}{it a:Addr}{i:Nat}{xs:Array Value}{x:Value}{P:Value->Shared->Prop}(y:RIt b s.heap it a i)(sq:SqO b s.heap a xs)(c:xs[i]?=some x)(h:∀ h',RIt b h' it a (i+1)->Heap.SameBut it s.heap h'->P x { s with heap:=h' }):wpAny (model prog w) A (Builtin.SmallTypes.nextOf (.ref it)) P E s:=by
 cases b
 ·exact nx F.slot_tuple_iterator_next (ty y) F.entry_tuple_iterator_next (F.args_tuple_iterator_next_1 _) (rm (b:=false) rfl y sq c h)
 ·exact nx slot_listiter_next (ty y) entry_listiter_next (args_listiter_next _) (rm (b:=true) rfl y sq c h)
theorem kh {b:Bool}{it a:Addr}{i:Nat}{xs:Array Value}{P:Value->Shared->Prop}(e:A.handled=none) (y:RIt b s.heap it a i) (sq:SqO b s.heap a xs) (d:xs[i]?=none)
  (h:∀ h' x,(∀ c o,c≠it->s.heap.get? c=some o->h'.get? c=some o)->(∃ o,h'.get? x=some o/\o.cls=.type "StopIteration")->E (.ref x) { s with heap:=h' }) :
  wpAny (model prog w) A (Builtin.SmallTypes.nextOf (.ref it)) P E s:=by
 have inner:A.in1.handled=none:=e;cases b
 ·exact nx F.slot_tuple_iterator_next (ty y) F.entry_tuple_iterator_next (F.args_tuple_iterator_next_1 _) (sL (b:=false) rfl inner y sq d h)
 ·exact nx slot_listiter_next (ty y) entry_listiter_next (args_listiter_next _) (sL (b:=true) rfl inner y sq d h)
theorem wU {b:Bool}{a:Addr}{xs:Array Value}{P:Value->Shared->Prop}(sq:SqO b s.heap a xs)(h:P (.ref s.heap.objs.size) { s with heap:=s.heap.push { cls:=.type (cN b),data:=.fields #[.ref a,.int 0 0] } }):wpAny (model prog w) A (pyIter (.ref a)) P E s:=by
 cases b
 ·exact wpAny_pyIter_tuple sq h
 ·exact wpAny_pyIter_list sq h
end
theorem draws {prog:Program}{w:World}{A:Around}(l:A.handled=none)(b:Bool)(it a:Addr)(xs:Array Value)(f:a≠it) :
  Draws prog w A it [it,a] xs.size (λi v=>xs[i]?=some v) (λi h=>RIt b h it a i/\SqO b h a xs) :=
 ⟨λ_ _ st=>⟨_,st.1⟩,λ_ _ _ st k=>⟨k it JL _ st.1,st.2.mv λo e=>k a (JG _ JL) o e⟩,
  λi s Q E hi st k=>eO st.1 st.2 (Zv hi) λd y g=>k _ d s.toks (Zv hi) ⟨y,st.2.mv λo e=>(g.2 a f).trans e⟩ g,
  λs Q E st k=>kh l st.1 st.2 (by simp) λd x j z=>k d x (λc o m q=>j c o m q) z⟩
theorem gf (b:Bool)(a:Addr)(o:Obj)(xs:Array Value) :
  Meets (Builtin.«enumerate.__new__» ⟨[.type "enumerate",.ref a],[]⟩) (λ_ R s=>s.heap.get? a=some o/\SqO b s.heap a xs /\
   R (.ok (.ret (.ref (s.heap.push { cls:=.type (cN b),data:=.fields #[.ref a,.int 0 0] }).objs.size)))
    { s with heap:=(s.heap.push { cls:=.type (cN b),data:=.fields #[.ref a,.int 0 0] }).push { cls:=.type "enumerate",data:=.fields #[.none,.bool false,.ref s.heap.objs.size,rawInt 0,.none,.none] } }) :=
 .of_wp λprog w A R s h=>by
  obtain⟨j,g,d,i,os⟩:=s;obtain⟨f,sq,h⟩:=h;have sub:=sub_enumerate;have e:SqO b (Shared.heap ⟨j,g,d,i,os⟩) a xs:=sq
  wp_walk using Wb f;refine wpAny_stack_any λst=>J8 ?_
  split
  case h_1 c _ _ _ _ _ =>
   cases (c == Value.type "enumerate")<;>(wp_walk using Wb f,wU e;exact⟨_,rfl,h⟩)
  all_goals (wp_walk using Wb f,wU e;exact⟨_,rfl,h⟩)
theorem jf {prog:Program}{w:World}{A:Around}{E:Value->Shared->Prop}{s:Shared}{b:Bool}{a:Addr}{xs:Array Value}{P:Value->Shared->Prop}(sq:SqO b s.heap a xs)(h:∀ h' e it,s.heap.objs.size<=e->s.heap.objs.size<=it->e≠it->IsEnum h' e it 0 .none->RIt b h' it a 0->(∀ c o,s.heap.get? c=some o->h'.get? c=some o)->P (.ref e) { s with heap:=h' }) :
  wpAny (model prog w) A (call (.type "enumerate") [.ref a]) P E s:=by
 obtain⟨o,n,d,_⟩:=sq.ob;refine callType_new F.called_enumerate (by decide) (F.typeCall_enumerate_1 _) (F.newCall_enumerate_1 _) (λobj=>F.args_object_init_2 obj _) F.entry_enumerate_new (gf b a o xs) ⟨d,sq,⟨_,Jv _ rfl,rfl⟩,?_⟩;refine h _ _ _ ?_ (Jc _) ?_ (Jv _ rfl) (J7 _ (Jv _ rfl)) λc o e=>J7 _ (J7 _ e)
 ·rw[YQ];exact Nat.le_succ _
 ·rw[YQ];exact Nat.succ_ne_self _
structure Sep (z TI TO i1 i2:Addr) (f1 f2:List Addr):Prop where
 all:[z,TI,TO,i1,i2].Nodup
 z1:z∉f1
 t1:TO∉f1
 o1:i2∉f1
 z2:z∉f2
 t2:TO∉f2
 o2:i1∉f2
section
variable {prog:Program}{w:World}{A:Around}{E:Value->Shared->Prop}{s:Shared}{z TI TO i1 i2:Addr}{f1 f2:List Addr}{n1 n2 k:Nat}{P1 P2:Nat->Value->Prop}{S1 S2:Nat->Heap->Prop}{a b:Value}
theorem jr (S:Sep z TI TO i1 i2 f1 f2)(D:Draws prog w A i1 f1 n1 P1 S1)(C:Draws prog w A i2 f2 n2 P2 S2){Q:Value->Shared->Prop}(n:IsZip s.heap z TI TO .none)(hI:IsPair s.heap TI (.ref i1) (.ref i2))(hO:IsPair s.heap TO a b)(d1:S1 k s.heap)(d2:S2 k s.heap)(l1:k<n1)(l2:k<n2)(h:∀ x y h' tk,P1 k x->P2 k y->IsZip h' z TI TO (rawInt s.heap.objs.size)->IsPair h' TO x y->S1 (k+1) h'->S2 (k+1) h'->IsPair h' s.heap.objs.size x y ->
   (∀ c o,c∉[z,TO,i1,i2]->s.heap.get? c=some o->h'.get? c=some o)->Q (.ref s.heap.objs.size) { s with heap:=h',toks:=tk }) :
  wpAny (model prog w) A (Builtin.«zip.__next__» ⟨[.ref z],[]⟩) (λr Y=>∃ v,r=.done (.ret v)/\Q v Y) E s:=by
 have L:=S.all;simp only[JY,Jq,JJ,YH,not_or]at L;obtain⟨⟨zI,u,W,V⟩,⟨IO,I1,I2⟩,⟨O1,O2⟩,ab,_⟩:=L;refine rf 2 n rfl rfl (rf 3 n rfl rfl (J0 (Yg hI rfl (J0 (rf 0 n rfl rfl (J8 ?_))))));simp only[Yu];refine J0 (YJ (rf 4 n rfl rfl (J0 (Zb n (show 0<5 by decide) λha U m=>J0 ?_))));have F:IsZip ha z TI TO .ellipsis:=U;simp only[List.zipIdx_cons,List.zipIdx_nil,Z0,Z8];refine J0 (J0 (wpAny_onRaise (J0 (D.item k _ _ _ l1 (D.frame _ _ _ d1 λc g o e=>(m.2 c λq=>S.z1 (q ▸ g)).trans e) λx hb tb Z db l=>J8 ?_))));have P:IsPair hb TO a b:=(l.2 TO O1).trans ((m.2 TO (Ne.symm u)).trans hO);refine J0 (Yg P rfl (J0 (wpAny_updateSeq_pair P λg Oc sc=>J0 (W8 (J8 ?_)))));have H:IsPair g TO x b:=Oc;have G:S2 k g:=C.frame _ _ _ d2 λc d o e=>(sc.2 c λq=>S.t2 (q ▸ d)).trans ((l.2 c λq=>S.o2 (q ▸ d)).trans ((m.2 c λq=>S.z2 (q ▸ d)).trans e));refine J0 (J0 (wpAny_onRaise (J0 (C.item k _ _ _ l2 G λy hd X py dd j=>J8 ?_))));have O:IsPair hd TO x b:=(j.2 TO O2).trans H;refine J0 (Yg O rfl (J0 (wpAny_updateSeq_pair O λf Oe i=>J0 (W8 (J8 (J8 ?_))))));have t:IsPair f TO x y:=Oe;refine J0 (Yg t rfl (J0 (wpAny_newTuple (J0 ?_))));have sz:f.objs.size=s.heap.objs.size:=by rw[i.1,j.1,sc.1,l.1,m.1]
 have I:IsZip f z TI TO .ellipsis:=(i.2 z u).trans ((j.2 z V).trans ((sc.2 z u).trans ((l.2 z W).trans F)));have zn:f.objs.size≠z:=Z2 (Jp I);unfold Builtin.SmallTypes.ownedTupleHandOut;refine J0 (Zb (J7 _ I) (show 0<5 by decide) λhf T K=>Zb T (show 1<5 by decide) λB R J=>J8 ⟨_,rfl,?_⟩);have up:∀ c o,c≠z->f.get? c=some o->B.get? c=some o:=λc o q e=>(J.2 c q).trans ((K.2 c q).trans (J7 _ e));have new:IsPair B f.objs.size x y:=(J.2 _ zn).trans ((K.2 _ zn).trans (Jv _ rfl));have p:IsZip B z TI TO (rawInt f.objs.size):=R;rw[sz]at new p;show Q (.ref f.objs.size) _;rw[sz];refine h x y B X Z py p (up _ _ (Ne.symm u) t) ?_ ?_ new λc o g e=>?_
 ·exact D.frame _ _ _ db λc d o e=>up c o (λq=>S.z1 (q ▸ d)) ((i.2 c λq=>S.t1 (q ▸ d)).trans ((j.2 c λq=>S.o1 (q ▸ d)).trans ((sc.2 c λq=>S.t1 (q ▸ d)).trans e)))
 ·exact C.frame _ _ _ dd λc d o e=>up c o (λq=>S.z2 (q ▸ d)) ((i.2 c λq=>S.t2 (q ▸ d)).trans e)
 ·simp only[Jq,JJ,YH,not_or]at g
  obtain⟨N,M,c3,c4⟩:=g;exact up c o N ((i.2 c M).trans ((j.2 c c4).trans ((sc.2 c M).trans ((l.2 c c3).trans ((m.2 c N).trans e)))))
end
section
variable {prog:Program}{w:World}{A:Around}{E:Value->Shared->Prop}{s:Shared}{z TI TO i1 i2:Addr}{f1 f2:List Addr}{n1:Nat}{P1:Nat->Value->Prop}{S1:Nat->Heap->Prop}
theorem jq (S:Sep z TI TO i1 i2 f1 f2) (m:Draws prog w A i1 f1 n1 P1 S1) {Q:Fin->Shared->Prop}(a:IsZip s.heap z TI TO .none) (v:IsPair s.heap TI (.ref i1) (.ref i2)) (y:S1 n1 s.heap)
  (h:∀ h' x,(∀ c o,c∉[z,TO,i1,i2]->s.heap.get? c=some o->h'.get? c=some o)->(∃ o,h'.get? x=some o/\o.cls=.type "StopIteration")->E (.ref x) { s with heap:=h' }):wpAny (model prog w) A (Builtin.«zip.__next__» ⟨[.ref z],[]⟩) Q E s:=by
 have j:=S.all;simp only[JY,Jq,JJ,YH,not_or]at j;obtain⟨⟨D,C,p,F⟩,⟨IO,J,I⟩,⟨H,G⟩,B,_⟩:=j;refine rf 2 a rfl rfl (rf 3 a rfl rfl (J0 (Yg v rfl (J0 (rf 0 a rfl rfl (J8 ?_))))));simp only[Yu];refine J0 (YJ (rf 4 a rfl rfl (J0 (Zb a (show 0<5 by decide) λu n i=>J0 ?_))));have f:IsZip u z TI TO .ellipsis:=n;simp only[List.zipIdx_cons,List.zipIdx_nil,Z0,Z8];refine J0 (J0 (wpAny_onRaise (J0 (m.done _ _ _ (m.frame _ _ _ y λc d o e=>(i.2 c λq=>S.z1 (q ▸ d)).trans e) λt x k ⟨r,ex,l⟩=>?_))));have g:IsZip t z TI TO .ellipsis:=k z _ p f;have xz:x≠z:=λq=>by rw[q,g]at ex;cases ex;exact absurd (show Value.type "zip" = Value.type "StopIteration" from l) (by decide)
 refine Zb g (show 0<5 by decide) λd _ sc=>h d x (λc o b e=>?_) ⟨r,(sc.2 x xz).trans ex,l⟩;simp only[Jq,JJ,YH,not_or]at b;exact(sc.2 c b.1).trans (k c o b.2.2.1 ((i.2 c b.1).trans e))
end
theorem g7 (b1 b2:Bool)(a1 a2:Addr)(xs ys:Array Value):Meets (Builtin.«zip.__new__» ⟨[.type "zip",.ref a1,.ref a2],[]⟩) (λ_ R s=>SqO b1 s.heap a1 xs/\SqO b2 s.heap a2 ys /\
  ∀ h' z,(∃ TI TO i1 i2,[z,TI,TO,i1,i2].Nodup/\(∀ c∈[z,TI,TO,i1,i2],s.heap.objs.size<=c)/\IsZip h' z TI TO .none/\IsPair h' TI (.ref i1) (.ref i2)/\IsPair h' TO .none .none/\RIt b1 h' i1 a1 0/\RIt b2 h' i2 a2 0) ->
   (∀ c o,s.heap.get? c=some o->h'.get? c=some o)->R (.ok (.ret (.ref z))) { s with heap:=h' }) :=
 .of_wp λprog w A R s h=>by
  obtain⟨a,g,d,b,os⟩:=s;obtain⟨k,j,h⟩:=h;have sub:=sub_zip;have i:SqO b1 (Shared.heap ⟨a,g,d,b,os⟩) a1 xs:=k;have f:SqO b2 (Shared.heap ⟨a.push { cls:=.type (cN b1),data:=.fields #[.ref a1,.int 0 0] },g,d,b,os⟩) a2 ys:=j.mv λo e=>J7 _ e
  wp_walk using wU i,wU f
  refine⟨_,rfl,h _ _ ⟨_,_,_,_,?_,?_,Jv _ rfl,J7 _ (J7 _ (Jv _ rfl)),J7 _ (Jv _ rfl),
   J7 _ (J7 _ (J7 _ (J7 _ (Jv _ rfl)))),J7 _ (J7 _ (J7 _ (Jv _ rfl)))⟩ λc o e=>?_⟩
  ·simp only[YQ,JY,Jq,JJ,YH,not_or]
   simp<;>lia
  ·simp only[YQ,Jq,JJ,YH]
   intro c l;have:a.objs.size<=c:=by lia
   exact this
  ·exact J7 _ (J7 _ (J7 _ (J7 _ (J7 _ e))))
end Own
namespace L2
open PySem PySem.Spec PyProof.Rows Own
section
variable {X:Cx}{pins:List (Addr × Obj)}{σ:St}{H:Hp}{s:Shared}{h':Heap}
theorem Inv.spunN {fp:List Addr}{T:Addr}{o:HO}{t':Nat}(I:Inv X pins σ H s)(k:∀ b o,b∉fp->s.heap.get? b=some o->h'.get? b=some o)(h:∀ b∈fp,FpOk X pins H b)(i:s.heap.objs.size<=T)(new:ObjOk X.prog X.w (upd H T o) h' T o):Inv X pins σ (upd H T o) { s with heap:=h',toks:=t' }:=by
 have f:H T=none:=I.hok.fresh i;have neT:∀ b u,s.heap.get? b=some u->b≠T:=λb u e=>JC (JF (Jp e) i);have g:∀ b u,H b=some u->b∉fp:=λb u e a=>by rw[(h b a).1]at e;cases e
 refine I.step (g':=s.gens) (d':=s.drawn) (ch:=fp) (λb a=>?_) (λb o _ _ d e _=>k b o d e) (λb o _ _ d e _=>⟨o.slots,k b o d e⟩) (λb o _ e n=>by rw[zJ (neT b o e)];exact n)
  (λb o d e=>⟨o,k b o d e⟩) (λb j e=>by rw[zJ (zH e f)];exact e) (λb o u e=>by rw[zJ (zH e f)];exact e) (λb C e=>⟨#[],by rw[zJ (zH e f),e];simp⟩) (λm p=>?_) (λb u e=>?_) I.bare
 ·obtain⟨E,y,D,x,w,t⟩:=h b a
  exact⟨x,y,w,t⟩
 ·obtain⟨o,A,B,l,r⟩:=p
  exact⟨o,A,B,k _ o (λa=>(h _ a).2.1 rfl) l,r⟩
 ·by_cases a:b=T
  ·subst a;rw[zD]at e;cases e;exact new
  ·rw[zJ a]at e
   refine(I.hok b u e).stay (λc v d q=>k c v ?_ q) (λc q=>by rw[zJ (zH q f)];exact q) λc j q=>by rw[zJ (zH q f)];exact q
   rcases d with z|z
   ·rw[z];exact g b u e
   ·exact g c _ z
theorem Inv.spun {fp:List Addr}{t':Nat}(I:Inv X pins σ H s)(k:∀ b o,b∉fp->s.heap.get? b=some o->h'.get? b=some o)(g:∀ b∈fp,FpOk X pins H b):Inv X pins σ H { s with heap:=h',toks:=t' }:=by
 have f:∀ b u,H b=some u->b∉fp:=λb u e d=>by rw[(g b d).1]at e;cases e
 refine I.step (g':=s.gens) (d':=s.drawn) (ch:=fp) (λb d=>?_) (λb o _ _ a e _=>k b o a e) (λb o _ _ a e _=>⟨o.slots,k b o a e⟩) (λb o _ e n=>n)
  (λb o a e=>⟨o,k b o a e⟩) (λb h e=>e) (λb o u e=>e) (λb A e=>⟨#[],by rw[e];simp⟩) (λm j=>?_) (λb u e=>?_) I.bare
 ·obtain⟨C,w,B,t,p,l⟩:=g b d
  exact⟨t,w,p,l⟩
 ·obtain⟨o,x,y,i,r⟩:=j
  exact⟨o,x,y,k _ o (λd=>(g _ d).2.1 rfl) i,r⟩
 ·refine(I.hok b u e).stay (λc v a q=>k c v ?_ q) (λc q=>q) λc h q=>q
  rcases a with z|z
  ·rw[z];exact f b u e
  ·exact f c _ z
end
noncomputable def SqB:Bool->PySem.W.Frag->Hp->Addr->List V->Prop
 | true,K,H,a,xs=>SqL K H a xs
 | false,K,H,a,xs=>SqT K H a xs
section
variable {X:Cx}{pins:List (Addr × Obj)}{σ:St}{H:Hp}{s:Shared}{a c:Addr}{xs ys:List V}{b:Bool}
theorem Inv.sq (I:Inv X pins σ H s)(h:SqB b X.K H a xs):∃ its:List Value,Vals xs its/\SqO b s.heap a its.toArray:=by
 cases b
 ·obtain⟨its,r,p,z⟩:=I.tuple h
  exact⟨its,r,p⟩
 ·obtain⟨its,r,p,z⟩:=I.list h
  exact⟨its,r,p.isList⟩
theorem Inv.sq_inj (I:Inv X pins σ H s)(h:SqB b X.K H a xs)(h':SqB b X.K H a ys):xs=ys:=by
 cases b
 ·exact I.tuple_inj h h'
 ·exact I.list_inj h h'
theorem Inv.sq_ne (I:Inv X pins σ H s)(h:SqB b X.K H a xs)(f:FpOk X pins H c):c≠a:=by
 rintro rfl
 have d:∀ o,X.K.lookup c=some o->False:=λo e=>by
  have g:=I.ok.mod.kin c o e;rcases f.2.2.2.1 with z|z
  ·exact I.ok.noex c o g z
  ·exact absurd (JF (Jp g) (JK I.ok.bsz z)) (YC _)
 cases b <;>
 ·rcases h with (h|⟨o,h⟩)|⟨o,_,_,e,_⟩
  ·rw[f.1]at h;cases h
  ·rw[f.1]at h;cases h
  ·exact d o e
end
noncomputable def Pr (v u:V)(H:Hp)(x:V)(H':Hp):Prop:=∃ T,H T=none/\x=.ref T/\H'=upd H T (.tup [v,u])
theorem mQ {P:Program}{w:World}{H:Hp}{h:Heap}{T:Addr}{v u:V}{a b:Value}(e:IsPair h T a b)(c:RelV v a)(d:RelV u b):ObjOk P w (upd H T (.tup [v,u])) h T (.tup [v,u]) :=
 ⟨show 2<=sizeLine by decide,[a,b],.cons c (.cons d .nil),⟨_,e,rfl,_,rfl,rfl⟩⟩
noncomputable def Ite (K:PySem.W.Frag)(b:Bool)(a:Addr):It :=
 ⟨λi H=>∃ c x,SqB b K H a c/\c[i]?=some x,λi H x d=>∃ y,(∀ c,SqB b K H a c->c[i]?=some y)/\Pr (.int i) y H x d,λi H=>∃ c,SqB b K H a c/\c.length=i⟩
theorem lh {P:Program}{w:World}{K:PySem.W.Frag}{es:List Expr}{k1}{R:Pos}(b:Bool)(a e it:Addr)(j:e≠it):Turn P w K (.Tuple es k1 R) (Ite K b a) [e,it] e (λi h=>(∃ old,IsEnum h e it i old)/\RIt b h it a i) where
 mem:=JL
 obj:=λi h ⟨⟨old,f⟩,hi⟩ c m=>by
  rcases Jq.mp m with q|q
  ·rw[q];exact⟨_,f,λv z=>by cases z⟩
  ·rw[Jd.mp q];exact⟨_,hi,λv z=>by cases z⟩
 keep:=λi h h' ⟨⟨old,f⟩,hi⟩ J=>⟨⟨old,J e (by simp) _ f⟩,J it (by simp) _ hi⟩
 item:=by
  intro X B y C m i pins s σ H E I l ⟨⟨old,f⟩,hi⟩ ⟨N,x,k,n⟩;subst B y C;obtain⟨d,t,p⟩:=I.sq k;obtain⟨u,L,Q⟩:=t.get n;have D:i<d.toArray.size:=by simpa using (Ja.mp L).1
  refine wpAny_pyNext_enum_itemD (draws (prog:=X.prog) (w:=X.w) (A:=X.A.in1) (I.ok.hd m) b it a d.toArray (p.ne hi)) f ⟨hi,p⟩ D j (by simp[j,I.sq_ne k (l e (by simp))]) λv h1 O V Y W hT _ Z=>?_;obtain rfl:u=v:=Jt (L.symm.trans (by simpa using V));refine⟨_,rfl,wpAny_letOwnedTupleGo_enum Y λh2 F r=>?_⟩;have G:s.heap.objs.size≠e:=Z2 (Jp f);have S:s.heap.objs.size≠it:=Z2 (Jp hi);refine⟨.ref s.heap.objs.size,_,I.spunN (fp:=[e,it]) (λc o g q=>?_) l (Jc _) (mQ (v:=.int i) (u:=x) ((r.2 _ G).trans hT) ⟨O,rfl⟩ Q),rfl,⟨x,λys U=>by rw[I.sq_inj U k];exact n,_,I.fresh,rfl,rfl⟩,⟨⟨_,F⟩,(r.2 it (Ne.symm j)).trans W.1⟩,λc g=>?_⟩
  ·have M:c≠e:=λz=>g (by simp[z])
   exact(r.2 c M).trans (Z c o M (λz=>g (by simp[z])) q)
  ·rw[zJ,(l c g).1]
   rintro rfl;rcases Jq.mp g with z|z
   ·exact G z
   ·exact S (Jd.mp z)
 done:=by
  intro X B y C m i pins s σ H E I l ⟨⟨old,f⟩,hi⟩ ⟨N,k,n⟩;subst B y C;obtain⟨d,t,p⟩:=I.sq k;have T:i=d.toArray.size:=by rw[Jm,<- t.length,n]
  refine wpAny_pyNext_enum_endD (draws (prog:=X.prog) (w:=X.w) (A:=X.A.in1) (I.ok.hd m) b it a d.toArray (p.ne hi)) f ⟨by rw[<- T];exact hi,p⟩ λh' eb=>⟨rfl,I.spun (t':=s.toks) (fp:=[e,it]) (λc o g q=>eb c o (λz=>g (by simp[z])) q) l⟩
 self:=λ_ _ _ _ _ ⟨⟨_,f⟩,_⟩ h=>wpAny_pyIter_enum f h
noncomputable def ar (K:PySem.W.Frag)(b:Bool)(f:TA):TI:=λσ H R=>f σ H λe c=>∃ a d,e=[.ref a]/\SqB b K c a d/\R (Ite K b a) c
theorem mN {X:Cx}{a:Expr}{g:TA}{p pos o:Pos}{B:List Expr}{k1} (b:Bool) (y:Gl X "enumerate") (hm:X.mg "enumerate" = none) (ha:PA X [a] g) (v:starEach [a] X.env=[(false,eval a X.env)]:=by rfl) :
  PI X (.Tuple B k1 o) (.Call (.Name "enumerate" p) [a] [] pos) (ar X.K b g):=by
 intro pins s σ H R I h;refine Call_ (xq I y hm (u:=.type "enumerate") (by rfl) (Yn (thn (ha pos pins s σ H _ I h) λJ i ⟨G,D,f,l,m⟩=>?_) v rfl));obtain⟨C,F,rfl,w,q⟩:=m;obtain⟨u,rfl,k⟩:=l.one;cases k;obtain⟨E,K,n⟩:=f.sq w;refine jf n λL e it t r ne j hi x=>wpAny_pyIter_enum j ⟨_,[e,it],_,_,D,rfl,f.kept (t':=i.toks) x,lh b C e it ne,⟨⟨_,j⟩,hi⟩,λc A=>?_,q⟩
 have d:i.heap.objs.size<=c:=by
  rcases Jq.mp A with z|z
  ·rw[z];exact t
  ·rw[Jd.mp z];exact r
 exact f.fpOk d (f.hok.fresh d)
noncomputable def Itz (K:PySem.W.Frag)(b1 b2:Bool)(a1 a2:Addr):It :=
 ⟨λi H=>∃ a b x y,SqB b1 K H a1 a/\SqB b2 K H a2 b/\a[i]?=some x/\b[i]?=some y,λi H v c=>∃ x y,(∀ a,SqB b1 K H a1 a->a[i]?=some x)/\(∀ b,SqB b2 K H a2 b->b[i]?=some y)/\Pr x y H v c,
  λi H=>∃ a,SqB b1 K H a1 a/\a.length=i⟩
theorem j0 {P:Program}{w:World}{K:PySem.W.Frag}{es:List Expr}{k1}{r:Pos}(b1 b2:Bool)(a1 a2 z TI TO i1 i2:Addr)(nd:[z,TI,TO,i1,i2].Nodup) :
  Turn P w K (.Tuple es k1 r) (Itz K b1 b2 a1 a2) [z,TI,TO,i1,i2] z (λi h=>IsZip h z TI TO .none/\IsPair h TI (.ref i1) (.ref i2)/\(∃ a b,IsPair h TO a b)/\RIt b1 h i1 a1 i/\RIt b2 h i2 a2 i) where
 mem:=JL
 obj:=λi h ⟨f,n,⟨a,b,u⟩,m,p⟩ c G=>by
  simp only[Jq,JJ,YH]at G;rcases G with rfl|rfl|rfl|rfl|rfl
  ·exact⟨_,f,λv q=>by cases q⟩
  ·exact⟨_,n,λv q=>by cases q⟩
  ·exact⟨_,u,λv q=>by cases q⟩
  ·exact⟨_,m,λv q=>by cases q⟩
  ·exact⟨_,p,λv q=>by cases q⟩
 keep:=λi h h' ⟨f,n,⟨a,b,u⟩,m,p⟩ J=>⟨J z (by simp) _ f,J TI (by simp) _ n,⟨a,b,J TO (by simp) _ u⟩,J i1 (by simp) _ m,J i2 (by simp) _ p⟩
 item:=by
  intro X Z W hK G i pins s σ H E I t ⟨f,n,⟨a,b,u⟩,m,p⟩ ⟨xs,ys,x,y,D,V,O,hy⟩;subst Z W hK;obtain⟨N,U,r⟩:=I.sq D;obtain⟨u2,r2,p2⟩:=I.sq V;obtain⟨v1,e1,rx⟩:=U.get O;obtain⟨v2,e2,ry⟩:=r2.get hy;have j:=nd;simp only[JY,Jq,JJ,YH,not_or]at j;obtain⟨⟨R,zO,M,L⟩,⟨IO,I1,I2⟩,⟨O1,O2⟩,k,_⟩:=j;have e:∀ c∈[z,TI,TO,i1,i2],c≠a1:=λc d=>I.sq_ne D (t c d);have B:∀ c∈[z,TI,TO,i1,i2],c≠a2:=λc d=>I.sq_ne V (t c d);have S:Sep z TI TO i1 i2 [i1,a1] [i2,a2]:=⟨nd,by simp[M,e z (by simp)],by simp[O1,e TO (by simp)],by simp[Ne.symm k,e i2 (by simp)],by simp[L,B z (by simp)],by simp[O2,B TO (by simp)],by simp[k,B i1 (by simp)]⟩;have hd:=I.ok.hd G;have D1:=draws (prog:=X.prog) (w:=X.w) (A:=X.A.in1) hd b1 i1 a1 N.toArray (r.ne m);have D2:=draws (prog:=X.prog) (w:=X.w) (A:=X.A.in1) hd b2 i2 a2 u2.toArray (p2.ne p);have g:s.TypeIs (.ref z) "zip":=⟨_,f,rfl⟩;unfold pyNext
  refine J0 (wpAny_attempt (wpAny_callSpecial?_slot (name:="__next__") g F.slot_zip_next (Yf F.slot_zip_next g F.entry_zip_next (jr S D1 D2 f n u ⟨m,r⟩ ⟨p,p2⟩ (by simpa using (Ja.mp e1).1) (by simpa using (Ja.mp e2).1)
   λw1 w2 h' tk ao ab zh Oh d1 d2 new Q=>J8 ?_) (F.args_zip_next_1 _))))
  obtain rfl:v1=w1:=Jt (e1.symm.trans (by simpa using ao));obtain rfl:v2=w2:=Jt (e2.symm.trans (by simpa using ab));refine⟨_,rfl,wpAny_letOwnedTupleGo_zip zh λh3 z3 C=>?_⟩;have nz:s.heap.objs.size≠z:=Z2 (Jp f)
  have aT:∀ c∈[z,TI,TO,i1,i2],c≠s.heap.objs.size:=λc d=>by
   simp only[Jq,YH,JJ]at d;rcases d with rfl|rfl|rfl|rfl|rfl
   ·exact JC (Jp f)
   ·exact JC (Jp n)
   ·exact JC (Jp u)
   ·exact JC (Jp m)
   ·exact JC (Jp p)
  refine⟨.ref s.heap.objs.size,_,I.spunN (fp:=[z,TI,TO,i1,i2]) (λc o d q=>?_) t (Jc _) (mQ ((C.2 _ nz).trans new) rx ry),rfl,⟨x,y,λl Y=>by rw[I.sq_inj Y D];exact O,λl Y=>by rw[I.sq_inj Y V];exact hy,_,I.fresh,rfl,rfl⟩,
   ⟨z3,(C.2 _ (Ne.symm R)).trans (Q TI _ (by simp[Ne.symm R,IO,I1,I2]) n),⟨_,_,(C.2 _ (Ne.symm zO)).trans Oh⟩,(C.2 _ (Ne.symm M)).trans d1.1,(C.2 _ (Ne.symm L)).trans d2.1⟩,λc d=>by rw[zJ (aT c d),(t c d).1]⟩
  simp only[Jq,JJ,YH,not_or]at d;exact(C.2 c d.1).trans (Q c o (by simp[d]) q)
 done:=by
  intro X Z W hK G i pins s σ H E I t ⟨f,n,⟨a,b,u⟩,m,p⟩ ⟨xs,D,O⟩;subst Z W hK;obtain⟨N,U,r⟩:=I.sq D;have j:=nd;simp only[JY,Jq,JJ,YH,not_or]at j;obtain⟨⟨R,zO,M,L⟩,⟨IO,I1,I2⟩,⟨O1,O2⟩,k,_⟩:=j;have e:∀ c∈[z,TI,TO,i1,i2],c≠a1:=λc d=>I.sq_ne D (t c d);have S:Sep z TI TO i1 i2 [i1,a1] [i2]:=⟨nd,by simp[M,e z (by simp)],by simp[O1,e TO (by simp)],by simp[Ne.symm k,e i2 (by simp)],by simp[L],by simp[O2],by simp[k]⟩;have ax:i=N.toArray.size:=by rw[Jm,<- U.length,O]
  have g:s.TypeIs (.ref z) "zip":=⟨_,f,rfl⟩;unfold pyNext
  refine J0 (wpAny_attempt (wpAny_callSpecial?_slot (name:="__next__") g F.slot_zip_next (Yf F.slot_zip_next g F.entry_zip_next
   (jq S (draws (prog:=X.prog) (w:=X.w) (A:=X.A.in1) (I.ok.hd G) b1 i1 a1 N.toArray (r.ne m)) f n ⟨by rw[<- ax];exact m,r⟩ λh' x Q ⟨o,eo,co⟩=>?_) (F.args_zip_next_1 _))))
  refine J0 (ZQ (T:="StopIteration") (b:=true) ⟨o,eo,co⟩ isSubtype_stop (J8 ⟨rfl,I.spun (t':=s.toks) (fp:=[z,TI,TO,i1,i2]) (λc o d q=>Q c o ?_ q) t⟩));simp only[Jq,JJ,YH,not_or]at d ⊢;exact⟨d.1,d.2.2.1,d.2.2.2.1,d.2.2.2.2⟩
 self:=λ_ _ _ _ _ st h=>wpAny_pyIter_zip st.1 h
noncomputable def zaM (K:PySem.W.Frag)(b1 b2:Bool)(g:TA):TI:=λσ H R=>g σ H λf c=>∃ b a e d,f=[.ref b,.ref a]/\SqB b1 K c b e/\SqB b2 K c a d/\R (Itz K b1 b2 b a) c
theorem iZ {X:Cx}{a b:Expr}{o:TA}{p pos G:Pos}{S:List Expr}{k1} (b1 b2:Bool) (M:Gl X "zip") (hm:X.mg "zip" = none) (ha:PA X [a,b] o) (K:starEach [a,b] X.env=[(false,eval a X.env),(false,eval b X.env)]:=by rfl) (e:starEach [b] X.env=[(false,eval b X.env)]:=by rfl) :
  PI X (.Tuple S k1 G) (.Call (.Name "zip" p) [a,b] [] pos) (zaM X.K b1 b2 o):=by
 intro pins s σ H R I h;refine Call_ (xq I M hm (u:=.type "zip") (by rfl) (Yn (thn (ha pos pins s σ H _ I h) λY A ⟨W,T,d,D,E⟩=>?_) (by rw[K,e]) (by rw[e];rfl)));obtain⟨y,x,V,U,rfl,n,m,q⟩:=E;obtain⟨u,v,rfl,C,B⟩:=D.two;cases C;cases B;obtain⟨l,_,j⟩:=d.sq n;obtain⟨k,_,i⟩:=d.sq m;refine callType_new F.called_zip (by decide) (F.typeCall_zip_2 _ _) (F.newCall_zip_2 _ _) (λobj=>F.args_object_init_3 obj _ _) F.entry_zip_new (g7 b1 b2 y x l.toArray k.toArray) ⟨j,i,λZ z ⟨TI,TO,t,r,J,f,g,O,N,Q,P⟩ L=>⟨⟨_,g,rfl⟩,?_⟩⟩;exact wpAny_pyIter_zip g ⟨_,[z,TI,TO,t,r],_,_,T,rfl,d.kept (t':=A.toks) L,j0 b1 b2 y x z TI TO t r J,⟨g,O,⟨_,_,N⟩,Q,P⟩,λc w=>d.fpOk (f c w) (d.hok.fresh (f c w)),q⟩
section
variable {X:Cx}
theorem de {prog:Program}{w:World}{A:Around}(d:A.handled=none)(b:Bool)(I a:Addr)(c:a≠I)(xs:Array Value) :
  Walks prog w A I [I,a] [I] xs.size (λi v=>xs[i]?=some v) (λi h=>(match b with|true=>h.IsListIter I a i|false=>h.IsTupleIter I a i)/\SqO b h a xs):=by
 cases b
 ·exact Walks.tuple d I a c xs
 ·exact Walks.list d I a c xs
theorem wW (F:X.calm=true)(b:Bool):CallR X (.builtin "all") (λvs H Q=>∃ a bs,vs=[.ref a]/\SqB b X.K H a (List.map V.bl bs)/\Q (.bl (bs.all id)) H):=by
 intro pins s σ H vs J Q I y h;obtain⟨a,bs,rfl,C,q⟩:=h;obtain⟨u,rfl,l⟩:=y.one;cases l;obtain⟨f,r,p⟩:=I.sq C
 have m:a≠s.heap.objs.size:=by
  obtain⟨o,n,e,_⟩:=p.ob;exact JC (Jp e)
 have D:f.length=bs.length:=by rw[<- r.length,Jn]
 refine call_all_walk (wU p ⟨s.heap.objs.size,[s.heap.objs.size,a],[s.heap.objs.size],_,_,_,λi=>bs.getD i true,rfl,de (show X.A.in1.handled=none from I.ok.hd F) b _ a m f.toArray,?_,?_,?_⟩)
 ·refine⟨?_,p.mv λo e=>J7 _ e⟩
  cases b<;>exact⟨_,Jv _ rfl,rfl,rfl⟩
 ·intro i v L N O B G
  have g:f[i]?=some v:=by simpa using B
  have hi:=(Ja.mp g).1
  have e:(List.map V.bl bs)[i]?=some (V.bl (bs.getD i true)):=by
   rw[JZ,Jz,J9 (by simp_all)];rfl
  obtain⟨K,t,l⟩:=r.get e;rw[g]at t;obtain rfl:=Jt t;obtain rfl:v=Value.bool (bs.getD i true):=l;exact Yy G
 ·intro M w E
  refine⟨.bl (bs.all id),H,I.kept (t':=w) λc o e=>E c o ?_ (J7 _ e),?_,q⟩
  ·exact λz=>JC (Jp e) (Jd.mp z)
  ·show Value.bool _=Value.bool _
   congr 1
   rw[Jm,D,Yj,Yw,Yw];constructor
   ·intro h x A
    obtain⟨j,k,e⟩:=List.getElem_of_mem A;have d:=h j (YN.mpr k);rw[Jz,J9 k]at d;rw[<- e];exact d
   ·intro h j k
    rw[Jz,J9 (YN.mp k)];exact h _ (YB _)
theorem ya:CallR X (.builtin "isinstance") (λvs H Q=>∃ x T t k,vs=[x,.ty T]/\TyOf X.K H x t/\PySem.W.kitOne X.K t (.type T)=some k/\Q (.bl k) H):=by
 intro pins s σ H vs g Q I c h;obtain⟨x,T,t,k,rfl,e,f,q⟩:=h;obtain⟨u,v,rfl,d,a⟩:=c.two;cases (show v=Value.type T from a);exact jM I d e f λb=>⟨.bl k,H,I.tok b,rfl,q⟩
end
example (K:PySem.W.Frag):PySem.W.kitOne K (.type "int") (.type "tuple")=some false:=by rfl
example (K:PySem.W.Frag):PySem.W.kitOne K (.type "int") (.type "bool")=some false:=by first|rfl|decide|(with_unfolding_all rfl)
theorem zC {H:Hp}{p:Addr}(h:H p=none)(o:HO):Same H (upd H p o):=λb u q=>by rw[zJ (zH q h)];exact q
noncomputable def ay (N N':List Str)(sc scope:Scope)(cap:List (Option Nat)):Bool :=
 decide (scope.kind=.function) && (scope.names.all λy=>decide (y.2≠.cell) && (decide (y.2≠.local) || decide (scope.names.lookup y.1=some .local)) &&
  (decide (y.2≠.free) || (decide (sc.names.lookup y.1=some .cell) || decide (sc.names.lookup y.1=some .free)))) && decide (cap.length=N'.length) &&
 ((N'.zip cap).all λp=>match p.2 with
  | none=>true
  | some i=>decide (N[i]?=some p.1) && (decide (scope.names.lookup p.1=some .free) && (decide (sc.names.lookup p.1=some .cell) || decide (sc.names.lookup p.1=some .free))))
theorem CapOk.of {N N':List Str}{sc scope:Scope}{cap:List (Option Nat)}(h:ay N N' sc scope cap=true):CapOk N N' sc scope cap:=by
 unfold ay at h;simp only[YA,Yw,Bool.or_eq_true,Y3]at h;obtain⟨⟨⟨g,b⟩,f⟩,d⟩:=h;refine⟨g,λy a=>(b y a).1.1,λy a e=>?_,λy a e=>?_,f,λp c i e=>?_⟩
 ·rcases (b y a).1.2 with z|z
  ·exact absurd e z
  ·exact z
 ·rcases (b y a).2 with z|z
  ·exact absurd e z
  ·exact z
 ·have q:=d p c
  rw[e]at q;simp only[YA,Bool.or_eq_true,Y3]at q;exact q
noncomputable def Nx (n i:Nat)(p:Prop):Prop:=∃ a,a<n-i/\a=n-(i+1)/\i+1<=n/\p
theorem nx {n i:Nat}{p:Prop}(h:i<n)(q:p):Nx n i p:=⟨n-(i+1),by lia,rfl,h,q⟩
theorem gO {lo:Int}{n:Nat}{g:TG}{d:TE}{l:Addr}{σ:St}{H:Hp}{Q:VK}(a:Nat->List V->St->Hp->Prop)(k:a 0 [] σ H)(j:∀ i acc σ H,a i acc σ H->H l=some (.lst acc))(h:∀ i acc σ H,i<n->a i acc σ H->g (.int (lo+i)) σ H λb o=>d b o λy f=>f l=some (.lst acc)/\acc.length<sizeLine/\Nx n i (a (i+1) (acc++[y]) b (upd f l (.lst (acc++[y])))))(hd:∀ acc σ H,a n acc σ H->Q (.ref l) H):∃ W:Nat->Nat->List V->St->Hp->Prop,(∃ m,W 0 m [] σ H)/\LCW (Itr lo n) g fH d l Q W:=by
 refine⟨λi m acc σ H=>m=n-i/\i<=n/\a i acc σ H,⟨n,by simp,JN _,k⟩,?_⟩;rintro i m acc σ H ⟨rfl,hi,p⟩;refine⟨j i acc σ H p,?_⟩;by_cases c:i<n
 ·refine .inr ⟨c,λx q ⟨e,y⟩=>?_⟩
  subst e y;exact h i acc σ _ c p
 ·have e:i=n:=by lia
  subst e;exact .inl ⟨Jc _,hd acc σ H p⟩
theorem oI {K:PySem.W.Frag}{b:Bool}{a:Addr}{xs:List V}{g:TG}{l:TS}{D:Ends}{σ:St}{H:Hp}(c:Nat->St->Hp->Prop)(v:c 0 σ H)(s:∀ i σ H,i<=xs.length->c i σ H->SqB b K H a xs)(r:∀ i x σ H T,xs[i]?=some x->H T=none->c i σ H->g (.ref T) σ (upd H T (.tup [.int i,x])) λf k=>l { D with nx:=c (i+1),ct:=c (i+1),bk:=D.nx } f k)(t:∀ σ H,c xs.length σ H->D.nx σ H) :
  ∃ W:Nat->Nat->St->Hp->Prop,(∃ m,W 0 m σ H)/\∀ i m σ H,W i m σ H ->
   ((Ite K b a).stop i H/\D.nx σ H)\/((Ite K b a).go i H/\∃ N:St->Hp->Prop,(∀ h d,N h d->∃ n,n<m/\W (i+1) n h d)/\∀ x d,(Ite K b a).yld i H x d->g x σ d λf k=>l { D with nx:=N,ct:=N,bk:=D.nx } f k):=by
 refine⟨λi m σ H=>m=xs.length-i/\i<=xs.length/\c i σ H,⟨xs.length,by simp,JN _,v⟩,?_⟩;rintro i m σ H ⟨rfl,hi,p⟩;have q:=s i σ H hi p;by_cases j:i<xs.length
 ·refine .inr ⟨⟨xs,xs[i],q,J9 j⟩,c (i+1),λh d o=>⟨xs.length-(i+1),by lia,rfl,j,o⟩,λx d ⟨y,w,T,u,z,e2⟩=>?_⟩
  subst z e2;exact r i y σ H T (w xs q) u p
 ·have e:i=xs.length:=by lia
  subst e;exact .inl ⟨⟨xs,q,rfl⟩,t σ H p⟩
section
theorem tN {ns:List Int}{i:Nat}(h:i<ns.length):ns.getD i 0∈ns:=by
 rw[Jz,J9 h];exact YB h
end
end L2
namespace L2
open PySem PySem.Spec PyProof.Rows Own
theorem qH {K:PySem.W.Frag}{a:Addr}{xs:List V}{g:TG}{h:TE}{l:Addr}{σ:St}{H:Hp}{Q:VK}(b:Nat->List V->St->Hp->Prop)(q:b 0 [] σ H)(o:∀ i acc σ H,b i acc σ H->H l=some (.lst acc)/\SqT K H a xs)(n:∀ i x acc σ H,xs[i]?=some x->b i acc σ H->g x σ H λc r=>h c r λy j=>j l=some (.lst acc)/\acc.length<sizeLine/\Nx xs.length i (b (i+1) (acc++[y]) c (upd j l (.lst (acc++[y])))))(hd:∀ acc σ H,b xs.length acc σ H->Q (.ref l) H):∃ W:Nat->Nat->List V->St->Hp->Prop,(∃ m,W 0 m [] σ H)/\LCW (Itt K a) g fH h l Q W:=by
 refine⟨λi m acc σ H=>m=xs.length-i/\i<=xs.length/\b i acc σ H,⟨_,rfl,JN _,q⟩,?_⟩;rintro i m acc σ H ⟨rfl,hi,p⟩;obtain⟨k,d⟩:=o i acc σ H p;refine⟨k,?_⟩;by_cases f:i<xs.length
 ·refine .inr ⟨⟨xs,xs[i],d,J9 f⟩,λx s ⟨e,y⟩=>?_⟩
  subst e;exact n i x acc σ _ (y xs d) p
 ·obtain rfl:i=xs.length:=by lia
  exact .inl ⟨⟨xs,d,Jc _⟩,hd acc σ H p⟩
theorem jF {lo:Int}{n:Nat}{g:TG}{tt:TT}{f:TE}{l:Addr}{σ:St}{H:Hp}{Q:VK}(c:Nat->List V->St->Hp->Prop)(q:c 0 [] σ H)(o:∀ i acc σ H,c i acc σ H->H l=some (.lst acc))(k:∀ i acc σ H,i<n->c i acc σ H->g (.int (lo+i)) σ H λa r=>tt a r λb j=>if b=true then f a j λy h=>h l=some (.lst acc)/\acc.length<sizeLine/\Nx n i (c (i+1) (acc++[y]) a (upd h l (.lst (acc++[y])))) else Nx n i (c (i+1) acc a j))(hd:∀ acc σ H,c n acc σ H->Q (.ref l) H):∃ W:Nat->Nat->List V->St->Hp->Prop,(∃ m,W 0 m [] σ H)/\LCW (Itr lo n) g tt f l Q W:=by
 refine⟨λi m acc σ H=>m=n-i/\i<=n/\c i acc σ H,⟨_,rfl,JN _,q⟩,?_⟩;rintro i m acc σ H ⟨rfl,hi,p⟩;refine⟨o i acc σ H p,?_⟩;by_cases d:i<n
 ·refine .inr ⟨d,λx s ⟨e,y⟩=>?_⟩
  subst e y;exact k i acc σ _ d p
 ·obtain rfl:i=n:=by lia
  exact .inl ⟨Jc _,hd acc σ H p⟩
end L2
namespace L2
open PySem PySem.Spec PyProof.Rows Own
section
variable {prog:Program}{w:World}{A:Around}{E:Value->Shared->Prop}{s:Shared}
theorem oS {Q:List Value->Shared->Prop}{r:Addr}{a b c:Int}{t u v:Tok}{n:Nat}(l:A.handled=none)(k:IsRange s.heap r a b c t u v)(sm:Builtin.Range.small a b c=true)(hn:Builtin.Range.rangeSize a b c=n)(hlen:n<=2 ^ 24)(q:∀ (h':Heap) (tk:Nat) (acc:Array Value),(∀ b o,s.heap.get? b=some o->h'.get? b=some o)->ItemsOf (λi v=>∃ t,v=.int (a+i*c) t) acc n->Q acc.toList { s with heap:=h',toks:=tk }):wpAny (model prog w) A (collect (.ref r)) Q E s:=by
 have key:∀ R:Result->Shared->Prop,(∀ (h':Heap) (tk:Nat) (acc:Array Value) (f:Nat),(∀ b o,s.heap.get? b=some o->h'.get? b=some o)->h'.get? s.heap.objs.size=some { cls:=.type "list",data:=.seq acc f }->ItemsOf (λi v=>∃ t,v=.int (a+i*c) t) acc n->R (.ok (.ret (.ref s.heap.objs.size))) { s with heap:=h',toks:=tk }) ->
   codeAny (model prog w) A (.builtin "proto.collect" ⟨[.ref r],[]⟩) R s:=by
  intro R p;have j:=λz=>YR (A:=A) F.plain_proto_collect z;have h:=λz=>YR (A:=A) F.plain_list_iadd z;refine Zd F.entry_proto_collect ?_;rw[j];refine J0 (m:=newList []) (JQ (J8 ⟨Zf F.plain_list_iadd _,Zd F.entry_list_iadd ?_⟩));rw[h];have x:(s.heap.push { cls:=.type "list",data:=.seq ([]:List Value).toArray }).get? s.heap.objs.size=some { cls:=.type "list",data:=.seq #[] 0 }:=Jv _ rfl;exact wpAny_extend_range (s:={ s with heap:=s.heap.push { cls:=.type "list",data:=.seq ([]:List Value).toArray } }) l (J7 _ k) sm hn hlen s.heap.objs.size (.ref s.heap.objs.size) _ x λh' tk d f g e it=>p h' tk d f (λb o z=>g b o (JC (Jp z)) (J7 _ z)) e it
 unfold collect;exact J0 (wpAny_runValue (key _ λh' tk acc f g e it=>J0 (m:=load s.heap.objs.size) (wpAny_load e (J8 (q h' tk acc g it)))))
theorem tY (r:Addr)(a b c:Int)(t u v:Tok)(n:Nat)(sm:Builtin.Range.small a b c=true)(hn:Builtin.Range.rangeSize a b c=n)(hlen:n<=2 ^ 24) :
  Meets (Builtin.«tuple.__new__» ⟨[.type "tuple",.ref r],[]⟩) (λA R s=>A.handled=none/\IsRange s.heap r a b c t u v/\∀ (h':Heap) (tk:Nat) (acc:Array Value),(∀ b o,s.heap.get? b=some o->h'.get? b=some o)->ItemsOf (λi v=>∃ t,v=.int (a+i*c) t) acc n ->
   R (.ok (.ret (.ref h'.objs.size))) { s with heap:=h'.push { cls:=.type "tuple",data:=.seq acc },toks:=tk }) :=
 .of_wp λprog w A R s h=>by
  obtain⟨f,d,h⟩:=h;have p:=sub_tuple_self;have l:=init_tuple_lookup;have k:=madeHere_tuple;have j:s.TypeIs (.ref r) "range":=⟨_,d,rfl⟩;have g:A.in1.handled=none:=f
  wp_walk using YM j,oS g d sm hn hlen
  intro h' tk acc e it;rw[show acc.toList.toArray=acc by simp];exact J0 (m:=Builtin.Tuple.tupleExact acc) (JQ (J8 ⟨_,rfl,h h' tk acc e it⟩) (by show acc.size<=sizeLine;rw[it.1,JH];exact hlen))
theorem qQ {Q:Value->Shared->Prop}{r:Addr}{a b c:Int}{t u v:Tok}{n:Nat}(f:A.handled=none) (e:IsRange s.heap r a b c t u v) (sm:Builtin.Range.small a b c=true) (hn:Builtin.Range.rangeSize a b c=n) (hlen:n<=2 ^ 24)
  (q:∀ (h':Heap) (tk:Nat) (acc:Array Value),(∀ b o,s.heap.get? b=some o->h'.get? b=some o)->ItemsOf (λi v=>∃ t,v=.int (a+i*c) t) acc n->Q (.ref h'.objs.size) { s with heap:=h'.push { cls:=.type "tuple",data:=.seq acc },toks:=tk }) :
  wpAny (model prog w) A (call (.type "tuple") [.ref r]) Q E s :=
 callType_new F.called_tuple (by decide) (F.typeCall_tuple_1 _) (F.newCall_tuple_1 _) (λobj=>F.args_object_init_2 obj _) F.entry_tuple_new (tY r a b c t u v n sm hn hlen) ⟨f,e,λh' tk acc d it=>⟨⟨_,Jv _ rfl,rfl⟩,q h' tk acc d it⟩⟩
end
noncomputable def qc (n:Nat):List V:=(List.range n).map λ(i:Nat)=>V.int i
theorem wZ {acc:Array Value}{n:Nat}(h:ItemsOf (λi v=>∃ t,v=Value.int (0+i*1) t) acc n):Vals (qc n) acc.toList:=by
 obtain⟨d,c⟩:=h
 have go:∀ (l:List Value) (k:Nat),(∀ (j:Nat) (v:Value),l[j]?=some v->∃ t,v=Value.int ((k+j:Nat):Int) t)->Vals ((List.range l.length).map λ(i:Nat)=>V.int ((k+i:Nat):Int)) l:=by
  intro l
  induction l with
  | nil=>intro k _;exact .nil
  | cons x l ih =>
   intro k b;rw[JV,List.range_succ_eq_map,Y1,YX];refine .cons (by obtain⟨t,e⟩:=b 0 x rfl;exact⟨t,e⟩) ?_
   have:=ih (k+1) λj v a=>by
    obtain⟨t,e⟩:=b (j+1) v (by simpa using a);exact⟨t,by rw[e];congr 1;lia⟩
   refine cast (JS (λz=>Vals z l) (Zw λi _=>?_)) this;show V.int ((k+1+i:Nat):Int)=V.int ((k+(i+1):Nat):Int)
   congr 2;lia
 have:=go acc.toList 0 λj v a=>by
  obtain⟨t,e⟩:=c j v (by simpa using a);exact⟨t,by rw[e];congr 1;simp_all⟩
 rw[JD,d]at this;unfold qc;refine cast (JS (λz=>Vals z acc.toList) (Zw λi _=>?_)) this;show V.int ((0+i:Nat):Int)=V.int (i:Int);rw[Yz]
theorem qb (n:Nat):(qc n).length=n:=by simp[qc]
section
variable {X:Cx}
noncomputable def j6 (b:Bool)(d:TA):TE:=λσ H Q=>d σ H λc a=>∃ j:Nat,c=[.int j]/\j<=100000/\∀ l,a l=none->Q (.ref l) (upd a l (if b=true then .lst (qc j) else .tup (qc j)))
theorem qh {j:Nat}(h:j<=100000):Builtin.Range.small 0 (j:Int) 1=true:=small_one (by simp_all) (by simp_all) (by simp_all) (by lia)
theorem mH {j:Nat}:Builtin.Range.rangeSize 0 (j:Int) 1=((j:Nat):Int):=by rw[rangeSize_one];split<;>simp_all
theorem kM {a:Expr}{x:TA}{p i pos c:Pos}(F:X.calm=true) (w:Gl X "list") (r:X.mg "list" = none) (v:Gl X "range") (m:X.mg "range" = none) (ha:PA X [a] x) (E:starEach [a] X.env=[(false,eval a X.env)]:=by rfl)
  (d:starEach [.Call (.Name "range" i) [a] [] c] X.env=[(false,eval (.Call (.Name "range" i) [a] [] c) X.env)]:=by rfl):PE X (.Call (.Name "list" p) [.Call (.Name "range" i) [a] [] c] [] pos) (j6 true x):=by
 intro pins s σ H Q I h;refine Z9 (xq I w r (u:=.type "list") (by rfl) (Yn ?_ d rfl));rw[d];refine ZC (Call_ (xq I v m boot_range (Yn (thn (ha c pins s σ H _ I h) λL g ⟨K,M,l,A,B⟩=>?_) E rfl)));obtain⟨j,rfl,k,q⟩:=B;obtain⟨u,rfl,t,rfl⟩:=A.one;refine call_range_1 (W6 ?_);refine call_list_range (n:=j) (l.ok.hd F) (IsRange.new ..) (qh k) mH (JK k (by decide)) λG y f J C e it=>?_;have D:∀ b o,g.heap.get? b=some o->G.get? b=some o:=λb o z=>C b o (J7 _ z);refine⟨.ref _,_,l.laid (t':=y) (o:=.lst (qc j)) D ?_ ⟨by rw[qb];exact JK k (by decide),f.toList,J,wZ it,by simpa using e⟩,rfl,q _ (l.hok.fresh ?_)⟩
 all_goals (show g.heap.objs.size<=(g.heap.push _).objs.size;rw[YQ];exact Nat.le_succ _)
theorem kL {a:Expr}{w:TA}{p f pos c:Pos}(G:X.calm=true) (r:Gl X "tuple") (l:X.mg "tuple" = none) (m:Gl X "range") (k:X.mg "range" = none) (ha:PA X [a] w) (F:starEach [a] X.env=[(false,eval a X.env)]:=by rfl)
  (d:starEach [.Call (.Name "range" f) [a] [] c] X.env=[(false,eval (.Call (.Name "range" f) [a] [] c) X.env)]:=by rfl):PE X (.Call (.Name "tuple" p) [.Call (.Name "range" f) [a] [] c] [] pos) (j6 false w):=by
 intro pins s σ H Q I h;refine Z9 (xq I r l (u:=.type "tuple") (by rfl) (Yn ?_ d rfl));rw[d];refine ZC (Call_ (xq I m k boot_range (Yn (thn (ha c pins s σ H _ I h) λL x ⟨K,J,A,B,C⟩=>?_) F rfl)));obtain⟨j,rfl,g,q⟩:=C;obtain⟨u,rfl,t,rfl⟩:=B.one;refine call_range_1 (W6 ?_);refine qQ (n:=j) (A.ok.hd G) (IsRange.new ..) (qh g) mH (JK g (by decide)) λi v acc D it=>?_;have E:∀ b o,x.heap.get? b=some o->i.get? b=some o:=λb o z=>D b o (J7 _ z);have y:Inv X pins σ J { x with heap:=i,toks:=v }:=A.kept E;refine⟨.ref i.objs.size,_,y.laid (t':=v) (o:=.tup (qc j)) (λb o e=>J7 _ e) (Jc _) ⟨by rw[qb];exact JK g (by decide),acc.toList,wZ it,?_⟩,rfl,q _ (y.hok.fresh (Jc _))⟩;exact⟨_,Jv _ rfl,rfl,0,by simp,rfl⟩
theorem iw (g:X.A.units<cLine):OpR X (compareOp .NotEq) (λx y H Q=>∃ a b xs,x=.ref a/\y=.ref b/\SqL X.K H a xs/\SqL X.K H b []/\Q (.bl (!xs.isEmpty)) H):=by
 intro pins s σ H x y v u Q I k i h;obtain⟨a,b,xs,rfl,rfl,o,n,q⟩:=h;cases k;cases i;obtain⟨r,c,f,_⟩:=I.list o;obtain⟨p,l,d,_⟩:=I.list n;cases l;have m:=c.length
 cases xs with
 | nil =>
  cases c
  exact SeqAt.RcNeAt.lists (e:=λ_=>true) f.isList d.isList rfl g (λj h=>absurd h (Nat.not_lt_zero _)) X.prog X.w _ _ ⟨.bl _,H,I,rfl,q⟩
 | cons z t =>
  exact SeqAt.RcNeAt.lists_lengths f.isList d.isList (by rw[Jm,<- m];simp) g X.prog X.w _ _ ⟨.bl _,H,I,rfl,q⟩
theorem nU (l:Addr) (o:Obj) (items:Array Value) (n:Nat) (x:Value) (j:Nat) (E:o.cls=.type "tuple") (hd:o.data=.seq items n) (e:Nat->Bool) (y:∀ i,i<j->e i=false) (v:e j=true) (D:j<items.size) :
  Meets (Builtin.«tuple.index» ⟨[.ref l,x],[]⟩) (λA R s=>s.heap.get? l=some o/\(∀ i (h:i<items.size),SeqAt.EqAt A.in1 s items[i] x (e i))/\R (.ok (.ret (.int j s.toks))) { s with toks:=s.toks+1 }) :=
 .of_wp λprog w A R s h=>by
  cases s with
  | mk m z C g os =>
  obtain⟨p,t,h⟩:=h;unfold Builtin.«tuple.index»;simp only[Zk]
  wp_walk using Yg p hd,wpAny_forIn_list _ (λrest b c=>c=⟨m,z,C,g,os⟩/\b.1=none/\∃ i,i<=j/\rest=List.range' i (items.size-i)) _
  case turn =>
   rintro i rest b c ⟨rfl,u,d,hi,a⟩;have k:items.size-d=(items.size-(d+1))+1:=by grind
   rw[k,List.range'_succ]at a;injection a with B e2;subst B;have f:i<items.size:=by lia
   have r:items[i]?=some items[i]:=by simp[f]
   simp only[r];refine J0 (t i f prog w _ _ ?_);by_cases q:i=j
   ·subst q;rw[v];wp_walk;exact⟨_,rfl,h⟩
   ·rw[y i (by lia)];wp_walk;exact⟨rfl,rfl,i+1,by lia,e2⟩
  case fin =>
   rintro b c ⟨rfl,u,d,hi,a⟩;have:=JS List.length a;simp at this;omega
  case h=>exact⟨rfl,rfl,0,JN _,by simp[Std.Legacy.Range.size]⟩
theorem tH:∀ {ns:List Int}{k:Int}{i:Nat},i<ns.idxOf k->(ns.getD i 0 == k)=false
 | [],k,i,h=>by simp at h
 | n::ns,k,i,h=>by
  rw[List.idxOf_cons]at h
  cases e:n == k with
  | true=>rw[e]at h;simp at h
  | false =>
   rw[e]at h;simp only[cond_false]at h
   cases i with
   | zero=>exact e
   | succ i=>exact tH (ns:=ns) (i:=i) (by simp_all)
noncomputable def bw (to:TE)(t:TA):TE:=λσ H Q=>to σ H λx c=>∃ a ns,x=.ref a/\c a=some (.tup (List.map V.int ns))/\t σ c λd b=>∃ k:Int,d=[.int k]/\b a=some (.tup (List.map V.int ns))/\k∈ns/\Q (.int (ns.idxOf k:Nat)) b
theorem mO {o e:Expr}{to:TE}{t:TA}{apos cpos:Pos}(hu:X.A.units+64<cLine) (S:PE X o to) (ha:PA X [e] t)
  (d:attributeBase o "index" X.env (eval o X.env)=eval o X.env:=by rfl)
  (j:((backTo cpos (starEach [e] X.env)).all (λx=>!x.1) && (backToKw cpos (keywordEach [] X.env)).all (λx=>x.1.isSome) && decide ([e].length+([]:List Keyword).length+(if ([]:List Keyword).isEmpty then 0 else 1)<30))=true:=by rfl)
  (c:(apos.endLine == cpos.line)=true:=by rfl) (R:starEach [e] X.env=(false,eval e X.env)::starEach [] X.env:=by rfl):PE X (.Call (.Attribute o "index" apos) [e] [] cpos) (bw to t):=by
 intro pins s σ H Q I h;refine wpAny_Call_method_late d j c rfl (thn (S pins s σ H _ I h) λv n ⟨x,D,B,K,a,ns,ex,P,L⟩=>?_);subst ex;cases K;obtain⟨_,ao,_,⟨ob,y,Z,n1,d1,M⟩⟩:=(show ObjOk X.prog X.w D n.heap a (.tup (List.map V.int ns)) from B.hok a _ P);refine⟨"tuple","tuple.index",PySem.F.plainAttrs_tuple,PySem.F.slot_tuple_index,PySem.F.type_tuple_index,⟨ob,y,Z⟩,λa' W=>by cases W;exact⟨ob,y,M⟩,?_⟩;have w:=ha cpos pins n σ D _ B L;rw[R]at w ⊢;refine Calls.callWith_builtin rfl (Calls.evalArgs_plain ?_);refine thn w λus G ⟨vs,C,A,J,k,ev,l,O,q⟩=>?_;subst ev;obtain⟨u,rfl,E,rfl⟩:=J.one;obtain⟨_,b,p,⟨f,g,z,N,Y,ab⟩⟩:=(show ObjOk X.prog X.w C G.heap a (.tup (List.map V.int ns)) from A.hok a _ l);have hlen:b.toArray.size=ns.length:=by rw[Jm,<- p.length,Jn]
 have r:=List.idxOf_lt_length_of_mem O
 refine call_meets PySem.F.slot_tuple_index ⟨f,g,z⟩ PySem.F.entry_tuple_index (PySem.F.args_tuple_index_2 _ _)
  (nU a f b.toArray N (.int k E) (ns.idxOf k) z Y (λi=>ns.getD i 0 == k) (λi hi=>?_) ?_ (by rw[hlen];exact r)) ⟨g,λi hi=>?_,?_⟩
 ·exact tH hi
 ·rw[Jz,J9 r]
  simp
 ·have m:i<ns.length:=by rw[<- hlen];exact hi
  obtain⟨w1,U,F,rfl⟩:=p.get (show (List.map V.int ns)[i]?=some (V.int (ns.getD i 0)) by rw[JZ,Jz,J9 m];rfl);have T:b.toArray[i]=.int (ns.getD i 0) F:=by simpa using (Ja.mp U).2
  rw[T];exact(MeetsSeq.EqGives.int _ _ _ _).at _ _
 ·exact⟨.int _,C,A.tok _,⟨_,rfl⟩,q⟩
theorem pR:fillsNumberSlot (.type "tuple") "mul" = pure false :=
 PySem.fillsNumberSlot_seq (id:="tuple.__mul__") (r:=some (.builtin "tuple.__rmul__")) F.slot_tuple_mul.lookup (by decide +kernel) F.slot_tuple_rmul.lookup (by decide +kernel)
theorem nE:seqRepeat? (.type "tuple")=pure (some (.builtin "tuple.__mul__")):=by
 unfold seqRepeat?;rw[PySem.seqSlot_of (T:="tuple") (name:="__mul__") (id:="tuple.__mul__") F.slot_tuple_mul.lookup (by decide +kernel),PySem.seqSlot_of (T:="tuple") (name:="__rmul__") (id:="tuple.__rmul__") F.slot_tuple_rmul.lookup (by decide +kernel)];rfl
theorem gj (a:Int)(t:Tok)(l:Addr)(c:Option Addr)(sl:Array (Option Value))(items:Array Value)(n:Nat) :
  Meets (Builtin.«int.__rmul__» ⟨[.int a t,.ref l],[]⟩) (λ_ R s=>s.heap.get? l=some { cls:=.type "tuple",dict:=c,data:=.seq items n,slots:=sl }/\R (.ok (.ret Value.notImplemented)) s) :=
 .of_wp λprog w A R s h=>by
  cases s;obtain⟨b,h⟩:=h
  wp_walk using Wb b
  exact⟨_,rfl,h⟩
theorem nS (l:Addr) (o:Obj) (x:Value) (n k:Nat) (t:Tok) (r:o.cls=.type "tuple") (hd:o.data=.seq #[x] n) (E:k<=100000) :
  Meets (Builtin.«tuple.__mul__» ⟨[.ref l,.int k t],[]⟩) (λ_ R s=>s.heap.get? l=some o /\
   (k=1->R (.ok (.ret (.ref l))) s)/\(k≠1->R (.ok (.ret (.ref s.heap.objs.size))) { s with heap:=s.heap.push { cls:=.type "tuple",data:=.seq (List.replicate k x).toArray } })) :=
 .of_wp λprog w A R s h=>by
  cases s with
  | mk q u z j os =>
  obtain⟨b,v,f⟩:=h;have ty:Shared.TypeIs ⟨q,u,z,j,os⟩ (.ref l) "tuple":=⟨o,b,r⟩
  wp_walk using Yg b hd,YM ty
  have D:¬(decide ((k:Int) < -2 ^ 63) || decide ((k:Int)>=2 ^ 63))=true:=by
   rw[Jr (by simp_all),Jr (by lia)];exact Jj
  rw[Je D]
  wp_walk using Yg b hd,YM ty
  by_cases a:k=1
  ·have d:((#[x]:Array Value).isEmpty || (k:Int) == 1)=true:=by subst a;rfl
   rw[Jg d]
   wp_walk using YM ty
   exact⟨_,rfl,v a⟩
  ·have d:¬((#[x]:Array Value).isEmpty || (k:Int) == 1)=true:=by
    have:((k:Int) == 1)=false:=by rw[YD];lia
    rw[this];exact Jj
   rw[Je d]
   have y:∀ (m:Nat) (acc:Array Value),(List.foldl (λi g=>i++g) acc (List.replicate m #[x]))=acc++(List.replicate m x).toArray:=λm=>by
    induction m with
    | zero=>intro acc;simp
    | succ m ih=>intro acc;rw[Ym,List.foldl_cons,ih,Ym];apply Array.ext';simp
   by_cases p:k=0
   ·subst p
    have c:(decide (((0:Nat):Int)<=0) || (#[x]:Array Value).isEmpty)=true:=rfl;rw[Jg c]
    wp_walk
    exact⟨_,rfl,f (by decide)⟩
   ·have c:¬(decide ((k:Int)<=0) || (#[x]:Array Value).isEmpty)=true:=by
     rw[Jr (by simp_all)];exact Jj
    have C:¬(((#[x]:Array Value).size:Int)*(k:Int) > (2 ^ 63-1) / 8):=by
     show ¬((1:Int)*(k:Int) > (2 ^ 63-1) / 8);lia
    have B:¬ Builtin.Tuple.tupleTooMany (((#[x]:Array Value).size:Int)*(k:Int))=true:=by
     unfold Builtin.Tuple.tupleTooMany;show ¬ decide ((1:Int)*(k:Int) > (sizeLine:Int))=true;rw[Jr (by rw[JH];lia)];exact Jj
    rw[Je c,Je C,Je B,Yp,y];refine J0 (m:=Builtin.Tuple.tupleExact _) (JQ (J8 ⟨_,rfl,?_⟩) ?_)
    ·have e:(#[]++(List.replicate k x).toArray:Array Value)=(List.replicate k x).toArray:=by simp
     rw[e];exact f a
    ·show (#[]++(List.replicate k x).toArray:Array Value).size<=sizeLine
     rw[JH];simp;lia
theorem Vals.same {v:V}{u:Value}(r:RelV v u):∀ k:Nat,Vals (List.replicate k v) (List.replicate k u)
 | 0=>.nil
 | k+1=>by rw[Ym,Ym];exact .cons r (Vals.same r k)
theorem uH:OpR X (binaryOp .Mult) (λx y H Q=>∃ a v,∃ k:Nat,x=.ref a/\y=.int k/\H a=some (.tup [v])/\k<=100000/\∀ r H',Same H H'->H' r=some (.tup (List.replicate k v))->Q (.ref r) H'):=by
 intro pins s σ H x y J G Q I A w h;obtain⟨a,v,k,rfl,rfl,j,D,q⟩:=h;cases A;obtain⟨t,rfl⟩:=w;obtain⟨_,E,r,⟨⟨c,K,d,n⟩,f,m,i,l,g⟩⟩:=(show ObjOk X.prog X.w H s.heap a (.tup [v]) from I.hok a _ j);simp only at m l g;subst m l g;obtain⟨u,rfl,B⟩:=r.one
 refine wpAny_binaryOp_repeat_ref (T:="tuple") (U:="int") (by decide) ⟨_,f,rfl⟩ (λp=>typeIs_int p k t) pR F.fills_int_mul F.slot_int_rmul nE F.slot_int_index.lookup
  (call_meets F.slot_int_rmul (typeIs_int s k t) F.entry_int_rmul (F.args_int_rmul_2 _ _) (gj k t a none n _ i)
   ⟨f,rfl,⟨_,f,rfl⟩,call_meets F.slot_tuple_mul ⟨_,f,rfl⟩ F.entry_tuple_mul (F.args_tuple_mul_2 _ _) (nS a _ u i k t rfl rfl D) ⟨f,λe=>?_,λe=>?_⟩⟩)
 ·subst e
  exact⟨.ref a,H,I,rfl,q a H (Same.refl H) j⟩
 ·have C:(List.replicate k v).length<=sizeLine:=by rw[ZL,JH];lia
  exact⟨.ref s.heap.objs.size,_,I.laid (t':=s.toks) (o:=.tup (List.replicate k v)) (λb ob z=>J7 _ z) (Jc _) ⟨C,_,Vals.same B k,TupX.new _ _⟩,rfl,q _ _ (zC (I.hok.fresh (Jc _)) _) zD⟩
end
end L2
namespace Bn
open PySem L2 Own
noncomputable def Tups (H H':Hp):Prop:=∀ a b,H a=some (.tup b)->H' a=some (.tup b)
theorem Tups.trans {H d c:Hp}(x:Tups H d)(y:Tups d c):Tups H c:=λa b e=>y a b (x a b e)
theorem Tups.of {H H':Hp}(s:Same H H'):Tups H H':=λa _ e=>s a _ e
theorem Tups.lst {H:Hp}{l:Addr}{xs ys:List V}(h:H l=some (.lst xs)):Tups H (upd H l (.lst ys)):=λa b e=>by
 rw[zJ (by rintro rfl;rw[h]at e;cases e)];exact e
noncomputable def But (l:Addr)(H H':Hp):Prop:=∀ b o,H b=some o->b≠l->H' b=some o
theorem But.trans {l:Addr}{H c a:Hp}(x:But l H c)(y:But l c a):But l H a:=λb o e n=>y b o (x b o e n) n
theorem But.of {l:Addr}{H a:Hp}(x:Same H a):But l H a:=λb o e _=>x b o e
noncomputable def Prs (H:Hp):List V->List (Nat × Nat)->Prop
 | [],[]=>True
 | p::ps,f::fs=>(∃ a,p=.ref a/\H a=some (.tup [.int f.1,.int f.2]))/\Prs H ps fs
 | _,_=>False
theorem Prs.tups {H H':Hp}(t:Tups H H'):∀ {ps:List V}{fs:List (Nat × Nat)},Prs H ps fs->Prs H' ps fs
 | [],[],_=>trivial
 | _::_,_::_,⟨⟨a,e,h⟩,r⟩=>⟨⟨a,e,t _ _ h⟩,r.tups t⟩
theorem Prs.len {H:Hp}:∀ {ps:List V}{fs:List (Nat × Nat)},Prs H ps fs->ps.length=fs.length
 | [],[],_=>rfl
 | _::_,_::_,⟨_,r⟩=>JS (· + 1) r.len
theorem Prs.add {H:Hp}{a:Addr}{f:Nat × Nat}(h:H a=some (.tup [.int f.1,.int f.2])):∀ {ps:List V}{fs:List (Nat × Nat)},Prs H ps fs->Prs H (ps++[.ref a]) (fs++[f])
 | [],[],_=>⟨⟨a,rfl,h⟩,trivial⟩
 | _::_,_::_,⟨x,r⟩=>⟨x,r.add h⟩
theorem Prs.get {H:Hp}:∀ {ps:List V}{fs:List (Nat × Nat)}{i:Nat}{p:V},Prs H ps fs->ps[i]?=some p->∃ a f,p=.ref a/\fs[i]?=some f/\H a=some (.tup [.int f.1,.int f.2])
 | [],[],_,_,_,e=>by simp at e
 | _::_,f::_,0,p,⟨⟨a,b,h⟩,_⟩,e=>by
  have:_=p:=Jt e;subst this
  exact⟨a,f,b,rfl,h⟩
 | _::_,_::_,i+1,p,⟨_,r⟩,e=>r.get (i:=i) (by simpa using e)
structure Nt where
 lanes:Nat
 forks:List (Nat × Nat)
 ends:List Nat
structure Nt.Ok (N:Nt):Prop where
 l1:1<=N.lanes
 l16:N.lanes<=16
 fm:N.forks.length<=128
 fk:∀ f∈N.forks,f.1<N.lanes/\f.2<N.lanes/\f.1≠f.2
 en:N.ends.Perm (List.range N.lanes)
noncomputable def zV (a:List Nat):List V:=a.map λ(e:Nat)=>V.int e
structure NetAt (H:Hp) (r fr er:Addr) (ps:List V) (N:Nt):Prop where
 net:H r=some (.tup [.int N.lanes,.ref fr,.ref er])
 forks:H fr=some (.tup ps)
 prs:Prs H ps N.forks
 ends:H er=some (.tup (zV N.ends))
theorem NetAt.tups {H H':Hp}{r fr er:Addr}{ps:List V}{N:Nt}(t:Tups H H')(h:NetAt H r fr er ps N):NetAt H' r fr er ps N:=⟨t _ _ h.net,t _ _ h.forks,h.prs.tups t,t _ _ h.ends⟩
theorem tV {cs:List Int}{i:Nat}(h:i<cs.length):atI (cs.map V.int) ((i:Nat):Int)=some (.int (cs.getD i 0)):=by
 refine yM ?_;rw[JZ,Jz,J9 h];rfl
theorem mw {α:Type}{xs:List α}{i:Nat}(h:i<xs.length):ixN xs.length ((i:Nat):Int)=some i:=by
 unfold ixN;rw[Jg (by lia),Jg (by simp_all)];simp
theorem qi (cs:List Int)(i:Nat)(a:Int):(cs.map V.int).set i (.int a)=(cs.set i a).map V.int:=by rw[List.map_set]
structure Mgs (mg:Str->Option Value):Prop where
 len:mg "len" = none
 range:mg "range" = none
 tuple:mg "tuple" = none
 enum:mg "enumerate" = none
 abs:mg "abs" = none
 zip:mg "zip" = none
 isi:mg "isinstance" = none
 all:mg "all" = none
 sum:mg "sum" = none
 bool:mg "bool" = none
 int:mg "int" = none
 str:mg "str" = none
 max:mg "max" = none
 min:mg "min" = none
 sorted:mg "sorted" = none
 list:mg "list" = none
structure Use (P:Program) (w:World) (K:PySem.W.Frag) (mg:Str->Option Value) (base:Heap) (x:Str) (ps:List Str) (k:Nat) (sp:Sp) (f:Addr) (fd:FuncData):Prop where
 ok:FnOk P w K mg base CX0 k f fd ps sp
 b:Binds K fd ps []
 kp:PySem.W.keepIn K (.ref f)=true
 m:mg x=some (.ref f)
noncomputable def Frs (l:Addr)(H:Hp)(x:Addr):Prop:=∀ b o,H b=some o->b≠l->b≠x
theorem But.upd {l x:Addr}{H a:Hp}{o:HO}(B:But l H a)(f:Frs l H x):But l H (upd a x o):=λb u e n=>by rw[zJ (f b u e n)];exact B b u e n
theorem zv (a:List Nat):(zV a).length=a.length:=by simp[zV]
noncomputable def nm (ns:List Nat)(i:Nat):Nat:=ns.getD i 0
section
variable {ns:List Nat}{n:Nat}(pm:ns.Perm (List.range n))
include pm
end
noncomputable def ren (ns:List Nat)(f:Nat × Nat):Nat × Nat:=(nm ns f.1,nm ns f.2)
noncomputable def Nt.ren (N:Nt)(ns:List Nat):Nt:=⟨N.lanes,N.forks.map (Bn.ren ns),N.ends.map (nm ns)⟩
noncomputable def Nt.again (N:Nt)(f:Nat × Nat):Nt:=⟨N.lanes,N.forks++[f],N.ends⟩
end Bn
namespace L2
open PySem PySem.Spec PyProof.Rows Own
section
variable {prog:Program}{w:World}{A:Around}{E:Value->Shared->Prop}{s:Shared}
theorem oE {t sl:Addr}{items:Array Value}{f e:Value}{lo hi:Option Int}{Q:Value->Shared->Prop}(a:IsTup s.heap t items)(g:s.heap.IsSliceOf sl f e .none)(i:IsPart f lo)(pu:IsPart e hi)(k:HT.sIx items.size 0 lo=0)(j:HT.sIx items.size items.size hi=items.size)(h:Q (.ref t) s):wpAny (model prog w) A (getItem (.ref t) (.ref sl)) Q E s:=by
 obtain⟨os,b,c,l⟩:=id g;have d:s.TypeIs (.ref sl) "slice":=⟨os,b,c⟩;unfold getItem
 try with_reducible refine Y4 ?_
 first|refine J0 (J8 ?_)|skip
 refine J0 (wpAny_sequenceKey a.typeIs (by decide) (J0 (wpAny_callSpecial?_slot (name:=Str.ofString "__getitem__") a.typeIs YF (Yf YF a.typeIs PyProof.Rows.entry_tuple_getitem ?_ (PyProof.Rows.args_tuple_getitem _ _)))));show wpAny _ _ (Builtin.Tuple.tupleItemsOf (.ref t) >>= _) _ _ s;refine J0 (tupleItemsOf_ a (J0 (YM d ?_)));rw[Jg (by decide)];refine J0 (HT.sliceApplied_gen g i pu ?_);rw[k,j];show wpAny _ _ (if (((0:Nat):Int) == 0 && (1:Int) == 1 && (items.size-0) == items.size)=true then _ else _) _ _ s;rw[Jg (by simp)];refine J0 ?_;unfold Builtin.Tuple.tupleIsExact;refine J0 (YM a.typeIs (J8 ?_));rw[Jg (by decide)];exact J0 (YJ (J8 ⟨_,rfl,J8 h⟩))
end
end L2
namespace K39
open PySem L2 Own Bn
noncomputable def top (i:Nat):Stmt:=PySem.Challenge.pw_stairlanes_k39_books_spoilt.main.body.getD i (.Pass ⟨0,0,0,0⟩)
end K39
namespace L2
open PySem PySem.Spec PyProof.Rows Own
section
variable {X:Cx}
theorem yc:OpR X (binaryOp .Add) (λx y H Q=>∃ a b xs ys,x=.ref a/\y=.ref b/\H a=some (.tup xs)/\H b=some (.tup ys)/\xs.length+ys.length<=sizeLine/\∀ r H',Same H H'->H' r=some (.tup (xs++ys))->Q (.ref r) H'):=by
 intro pins s σ H x y v u Q I o n h;obtain⟨a,b,xs,ys,rfl,rfl,j,i,F,q⟩:=h;by_cases z:xs=[]
 ·subst z
  cases o;cases n;obtain⟨L,A,C,_⟩:=I.tuple (SqT.of j);obtain⟨m,M,B,_⟩:=I.tuple (SqT.of i);cases A;obtain⟨⟨P,K,N,l⟩,w,g,E,d⟩:=C;obtain⟨⟨O,J,e2,k⟩,t,f,D,c⟩:=B;simp only at g d f c;subst g d f c;refine concat_meets ⟨_,w,rfl⟩ ⟨_,t,rfl⟩ noFill_tuple_add seq_tuple_add PySem.F.slot_tuple_add PySem.F.entry_tuple_add (PySem.F.args_tuple_add_2 _ _) (tuple_addW0 a b #[] m.toArray E D K J l k rfl) ⟨w,t,?_⟩;exact⟨.ref b,H,I,rfl,q b H (Same.refl H) (by rw[List.nil_append];exact i)⟩
 ·exact eE pins s σ H _ _ v u Q I o n ⟨a,b,xs,ys,rfl,rfl,SqT.of j,SqT.of i,z,F,λe=>q a H (Same.refl H) (by rw[e,Yt];exact j),λ_ p G=>q p _ (zC G _) zD⟩
theorem yV:SlR X (λx lo hi H Q=>∃ a xs,x=.ref a/\H a=some (.tup xs)/\∀ p H',Same H H'->H' p=some (.tup (yq xs lo hi))->Q (.ref p) H'):=by
 intro pins s σ H x v k j lo hi l Q I e i f pu h;obtain⟨a,xs,rfl,c,q⟩:=h;by_cases b:HT.sIx xs.length 0 lo=0/\HT.sIx xs.length xs.length hi=xs.length
 ·cases e
  obtain⟨d,r,g,n⟩:=I.tuple (SqT.of c);have hlen:d.toArray.size=xs.length:=by rw[Jm];exact r.length.symm
  refine⟨"tuple",_,PyProof.Rows.slot_tuple_getitem.lookup,g.typeIs,oE g i f pu (by rw[hlen];exact b.1) (by rw[hlen];exact b.2) ⟨.ref a,H,I,rfl,q a H (Same.refl H) ?_⟩⟩;unfold yq;rw[b.1,b.2,ZG,Nat.sub_zero,Ya];exact c
 ·exact cM pins s σ H _ v k j lo hi l Q I e i f pu ⟨a,xs,rfl,SqT.of c,b,λp m=>q p _ (zC m _) zD⟩
end
theorem vI (xs:List V)(i:Nat)(h:i<=xs.length):yq xs none (some (i:Int))=xs.take i:=by
 unfold yq;rw[HT.sIx_none,HT.sIx_nat,ZG,Nat.sub_zero,Ze h]
theorem oQ (xs:List V)(i:Nat)(h:i<=xs.length):yq xs (some (i:Int)) none=xs.drop i:=by
 unfold yq;rw[HT.sIx_none,HT.sIx_nat,Ze h];exact JR (by rw[Y9];exact Jc _)
end L2
namespace L2
open PySem PySem.Spec PyProof.Rows Own
noncomputable def AnyT (K:PySem.W.Frag)(H:Hp)(x:V):Prop:=∃ T,TyOf K H x T/\∃ t:String,T=.type t
noncomputable def oZ:V->Bool
 | .int _=>true
 | _=>false
noncomputable def yn (b:Int):V->Bool
 | .int i=>decide (0<=i) && decide (i<b)
 | _=>false
noncomputable def zY (H:Hp):V->Option (List V)
 | .ref a=>match H a with
  | some (.tup xs)=>some xs
  | _=>none
 | _=>none
noncomputable def vQ (H:Hp)(m:Int)(x:V):Bool:=match zY H x with
 | some a=>decide ((a.length:Int)=m)
 | none=>false
theorem yi {H:Hp}{a:Addr}{xs:List V}(h:H a=some (.tup xs)):zY H (.ref a)=some xs:=by
 show (match H a with
  | some (.tup xs)=>some xs
  | _=>none)=_
 rw[h]
theorem yI {H:Hp}{x:V}{xs:List V}(h:zY H x=some xs):∃ a,x=.ref a/\H a=some (.tup xs):=by
 cases x with
 | ref a =>
  refine⟨a,rfl,?_⟩
  cases z:H a with
  | none=>simp[zY,z]at h
  | some o=>cases o<;>simp[zY,z]at h;rw[h]
 | _=>cases h
theorem qI (i j:Int):decide (V.int i=V.int j)=decide (i=j):=by
 by_cases e:i=j
 ·rw[Jx e,Jx (JS V.int e)]
 ·rw[Jr e,Jr (λz=>e (V.int.inj z))]
theorem AnyT.same {K:PySem.W.Frag}{H H':Hp}{x:V}(s:∀ b o,H b=some o->H' b=some o)(h:AnyT K H x):AnyT K H' x:=by
 obtain⟨T,h,t,a⟩:=h
 cases h with
 | non=>exact⟨_,.non,_,rfl⟩
 | bl b=>exact⟨_,.bl b,_,rfl⟩
 | int i=>exact⟨_,.int i,_,rfl⟩
 | str x=>exact⟨_,.str x,_,rfl⟩
 | flt x=>exact⟨_,.flt x,_,rfl⟩
 | lst e=>exact⟨_,.lst (s _ _ e),_,rfl⟩
 | frz e=>exact⟨_,.frz (s _ _ e),_,rfl⟩
 | tup e=>exact⟨_,.tup (s _ _ e),_,rfl⟩
 | dK e=>exact⟨_,.dK (s _ _ e),_,rfl⟩
 | dT e=>exact⟨_,.dT (s _ _ e),_,rfl⟩
 | ins e _ _ _ _ _=>cases a
structure Isi (K:PySem.W.Frag) (H:Hp) (x:V) (t:Value):Prop where
 ty:TyOf K H x t
 int:PySem.W.kitOne K t (.type "int")=some (match x with|.int _=>true|.bl _=>true|_=>false)
 bool:PySem.W.kitOne K t (.type "bool")=some (match x with|.bl _=>true|_=>false)
 str:PySem.W.kitOne K t (.type "str")=some (match x with|.str _=>true|_=>false)
 tup:PySem.W.kitOne K t (.type "tuple")=some (zY H x).isSome
theorem bc {K:PySem.W.Frag}{H:Hp}{x:V}{T:Value}(h:TyOf K H x T)(a:∃ t,T=.type t):Isi K H x T:=by
 cases h with
 | ins e _ _ _ _ _=>obtain⟨t,a⟩:=a;cases a
 | lst e=>exact⟨.lst e,rfl,rfl,rfl,by simp only[zY,e];rfl⟩
 | frz e=>exact⟨.frz e,rfl,rfl,rfl,by simp only[zY,e];rfl⟩
 | tup e=>exact⟨.tup e,rfl,rfl,rfl,by simp only[zY,e];rfl⟩
 | dK e=>exact⟨.dK e,rfl,rfl,rfl,by simp only[zY,e];rfl⟩
 | dT e=>exact⟨.dT e,rfl,rfl,rfl,by simp only[zY,e];rfl⟩
 | non=>exact⟨.non,rfl,rfl,rfl,rfl⟩
 | bl b=>exact⟨.bl b,rfl,rfl,rfl,rfl⟩
 | int i=>exact⟨.int i,rfl,rfl,rfl,rfl⟩
 | str x=>exact⟨.str x,rfl,rfl,rfl,rfl⟩
 | flt x=>exact⟨.flt x,rfl,rfl,rfl,rfl⟩
theorem AnyT.isi {K:PySem.W.Frag}{H:Hp}{x:V}(h:AnyT K H x):∃ t,Isi K H x t :=
 let ⟨T,h,a⟩:=h
 ⟨T,bc h a⟩
end L2
namespace K39
open PySem L2 Own Bn
noncomputable abbrev o4:Stmt:=top 1
noncomputable abbrev o9:Stmt:=top 2
noncomputable abbrev o7:Stmt:=top 3
noncomputable def rQ (K:PySem.W.Frag):Sp:=λa H Q _=>∃ x,a=[x]/\AnyT K H x/\Q (.bl (oZ x)) H
noncomputable def uF (K:PySem.W.Frag):Sp:=λa H Q _=>∃ x b,a=[x,.int b]/\AnyT K H x/\Q (.bl (yn b x)) H
noncomputable def uB (K:PySem.W.Frag):Sp:=λa H Q _=>∃ x m,a=[x,.int m]/\AnyT K H x/\Q (.bl (vQ H m x)) H
section
variable {P:Program}{w:World}{K:PySem.W.Frag}{mg:Str->Option Value}{base:Heap}
theorem zau:FnScope ["thing"] ["thing"] (zN o4):=by trivial
theorem i5 {f:Addr}{fd:FuncData}(F:Fun K "is_whole" "is_whole" o4 f fd) (G:Mgs mg):FnOk P w K mg base CX0 1 f fd ["thing"] (rQ K):=by
 refine F.ok zau (λa H Q E h=>?_) (λd A outer s H a Q E e h=>?_)
 ·obtain⟨x,rfl,_⟩:=h
  rfl
 obtain⟨x,rfl,c,k⟩:=h;refine⟨_,(@zK _ _ _ (@zU _ _ _ _ (@wI _ _ _ _ _ _ _ (@zM _ _ _ _ _ _ _ _ _ ya (by rfl) G.isi (by rfl) (@zA _ _ _ _ _ (@qv _ 0 _ _ (by trivial)) (@zA _ _ _ _ _ (@yp _ _ (.ty "int") (.type "int") _ (by rfl) G.int (by rfl) rfl (by decide) (by decide)) zB (by rfl)) (by rfl)) (by decide) (by decide) (by rfl) (by rfl)) (@vR _ _ _ _ _ (@ig _ _ _ _ (@zM _ _ _ _ _ _ _ _ _ ya (by rfl) G.isi (by rfl) (@zA _ _ _ _ _ (@qv _ 0 _ _ (by trivial)) (@zA _ _ _ _ _ (@yp _ _ (.ty "bool") (.type "bool") _ (by rfl) G.bool (by rfl) rfl (by decide) (by decide)) zB (by rfl)) (by rfl)) (by decide) (by decide) (by rfl) (by rfl))))))),?_⟩;obtain⟨t,I⟩:=c.isi;refine⟨_,rfl,_,"int",_,_,rfl,I.ty,I.int,_,rfl,?_⟩
 cases x with
 | int i=>exact yJ ⟨_,rfl,_,"bool",_,_,rfl,I.ty,I.bool,_,rfl,k⟩
 | bl b=>exact yJ ⟨_,rfl,_,"bool",_,_,rfl,I.ty,I.bool,_,rfl,k⟩
 | non=>exact zx k
 | str z=>exact zx k
 | flt z=>exact zx k
 | byt z=>exact zx k
 | ref z=>exact zx k
 | ty z=>exact zx k
theorem zaw:FnScope ["thing","bound"] ["thing","bound"] (zN o9):=by trivial
theorem gA {f g:Addr}{fd j:FuncData}(F:Fun K "is_below" "is_below" o9 f fd) (G:Mgs mg) (a:Use P w K mg base "is_whole" ["thing"] 1 (rQ K) g j):FnOk P w K mg base CX0 2 f fd ["thing","bound"] (uF K):=by
 refine F.ok zaw (λc H Q E h=>?_) (λm A outer s H c Q E d h=>?_)
 ·obtain⟨x,b,rfl,_⟩:=h
  rfl
 obtain⟨x,b,rfl,l,k⟩:=h;refine⟨_,(@zK _ _ _ (@zU _ _ _ _ (@wI _ _ _ _ _ _ _ (@zL _ _ _ _ _ _ _ _ _ _ _ _ _ _ _ _ a.ok d (by rfl) a.m a.kp a.b .nil zW (@zA _ _ _ _ _ (@qv _ 0 _ _ (by trivial)) zB (by rfl)) (by decide) (by rfl) (by rfl)) (@vR _ _ _ _ _ (@pF _ _ _ _ _ _ _ _ _ _ _ _ mT aU zE (@qv _ 0 _ _ (by trivial)) (@qv _ 1 _ _ (by trivial)) (by with_unfolding_all rfl)))))),?_⟩;refine⟨_,rfl,_,rfl,l,_,rfl,?_⟩
 cases x with
 | int i =>
  refine yJ ⟨_,rfl,_,_,rfl,rfl,_,rfl,?_⟩;have e:yn b (.int i)=(decide (0<=i) && decide (i<b)):=rfl;rw[e]at k;by_cases z:(0:Int)<=i
  ·rw[Jx z]at k ⊢
   exact yJ ⟨_,rfl,_,_,rfl,rfl,k⟩
  ·rw[Jr z]at k ⊢
   exact zx k
 | bl z=>exact zx k
 | non=>exact zx k
 | str z=>exact zx k
 | flt z=>exact zx k
 | byt z=>exact zx k
 | ref z=>exact zx k
 | ty z=>exact zx k
theorem zav:FnScope ["thing","many"] ["thing","many"] (zN o7):=by trivial
theorem i9 {f:Addr}{fd:FuncData}(F:Fun K "is_row" "is_row" o7 f fd) (G:Mgs mg):FnOk P w K mg base CX0 1 f fd ["thing","many"] (uB K):=by
 refine F.ok zav (λc H Q E h=>?_) (λi A outer s H c Q E j h=>?_)
 ·obtain⟨x,m,rfl,_⟩:=h
  rfl
 obtain⟨x,m,rfl,g,k⟩:=h;refine⟨_,(@zK _ _ _ (@zU _ _ _ _ (@wI _ _ _ _ _ _ _ (@zM _ _ _ _ _ _ _ _ _ ya (by rfl) G.isi (by rfl) (@zA _ _ _ _ _ (@qv _ 0 _ _ (by trivial)) (@zA _ _ _ _ _ (@yp _ _ (.ty "tuple") (.type "tuple") _ (by rfl) G.tuple (by rfl) rfl (by decide) (by decide)) zB (by rfl)) (by rfl)) (by decide) (by decide) (by rfl) (by rfl)) (@vR _ _ _ _ _ (@uG _ _ _ _ _ _ _ _ xv (@zM _ _ _ _ _ _ _ _ _ zT (by rfl) G.len JT (@zA _ _ _ _ _ (@qv _ 0 _ _ (by trivial)) zB (by rfl)) (by decide) (by decide) (by rfl) (by rfl)) (@qv _ 1 _ _ (by trivial)) (yE _)))))),?_⟩;obtain⟨t,I⟩:=g.isi;refine⟨_,rfl,_,"tuple",_,_,rfl,I.ty,I.tup,_,rfl,?_⟩
 cases z:zY H x with
 | none =>
  have e:vQ H m x=false:=by unfold vQ;rw[z]
  rw[e]at k
  exact zx k
 | some b =>
  have e:vQ H m x=decide ((b.length:Int)=m):=by unfold vQ;rw[z]
  rw[e]at k;obtain⟨a,rfl,d⟩:=yI z;exact yJ ⟨_,rfl,a,_,rfl,.inr (SqT.of d),_,rfl,rfl,by rw[qI];exact k⟩
end
end K39
namespace L2
open PySem PySem.Spec PyProof.Rows Own
theorem gh {P:Program}{w:World}{H:Hp}(h:Heap)(hb:sysModules<h.objs.size):ObjOk P w H (h.push { cls:=.type "dict",data:=.dict #[] }) h.objs.size (.dK []) :=
 ⟨JN _,YD.mpr (Ne.symm (JC hb)),[],.nil,Heap.DictOf.new h⟩
noncomputable def cI:TE:=λ_ H Q=>∀ p,H p=none->Q (.ref p) (upd H p (.dK []))
section
variable {X:Cx}{pos:Pos}
theorem Inv.big {pins:List (Addr × Obj)}{σ:St}{H:Hp}{s:Shared}(I:Inv X pins σ H s):sysModules<s.heap.objs.size:=by
 have h:mainGlobals<s.heap.objs.size:=(I.mod.glob.keeps I.bk).lt;exact Nat.lt_trans (by decide) h
theorem pE:PE X (.Dict [] [] pos) cI:=λpins s σ H Q I h =>
 wpAny_Dict_empty ⟨.ref s.heap.objs.size,_,I.laid (a:=s.heap.objs.size) (o:=.dK []) (t':=s.toks) (λ_ _ q=>J7 _ q) (Jc _) (gh s.heap I.big),rfl,h _ (I.hok.fresh (Jc _))⟩
end
end L2
namespace Bn
open PySem L2 Own
structure Good (K:PySem.W.Frag) (D:Addr->Prop) (H:Hp) (x:V):Prop where
 any:AnyT K H x
 ne:∀ a,x=.ref a->D a
noncomputable def Flat:V->Prop
 | .ref _=>False
 | .ty _=>False
 | .byt _=>False
 | _=>True
theorem Good.flat {K:PySem.W.Frag}{D:Addr->Prop}{H:Hp}:∀ {x:V},Flat x->Good K D H x
 | .non,_=>⟨⟨_,.non,_,rfl⟩,λ_ z=>by cases z⟩
 | .bl b,_=>⟨⟨_,.bl b,_,rfl⟩,λ_ z=>by cases z⟩
 | .int i,_=>⟨⟨_,.int i,_,rfl⟩,λ_ z=>by cases z⟩
 | .str s,_=>⟨⟨_,.str s,_,rfl⟩,λ_ z=>by cases z⟩
 | .flt s,_=>⟨⟨_,.flt s,_,rfl⟩,λ_ z=>by cases z⟩
end Bn
namespace L2
open PySem PySem.Spec PyProof.Rows
section
variable [DecidableEq κ]
theorem RelO.isSome_eq {o:Option V}{u:Option Value}(r:RelO o u):o.isSome=u.isSome:=by
 cases o with
 | none=>cases u with
  | none=>rfl
  | some _=>exact(show False from r).elim
 | some _=>cases u with
  | none=>exact(show False from r).elim
  | some _=>rfl
theorem RelO.getD {o:Option V}{u:Option Value}{d:V}{d':Value}(r:RelO o u)(a:RelV d d'):RelV (o.getD d) (u.getD d'):=by
 cases o with
 | none=>cases u with
  | none=>exact a
  | some _=>exact(show False from r).elim
 | some _=>cases u with
  | none=>exact(show False from r).elim
  | some _=>exact r
end
theorem ak {P:Program}{w:World}{k:Key}{u:Value}(r:RelV (kV k) u):(yd P w).is k u=true:=by
 cases k with
 | inl i=>obtain⟨t,e⟩:=(show ∃ t,u=Value.int i t from r);subst e;exact pX P w i t
 | inr x=>obtain⟨t,e⟩:=(show ∃ t,u=Value.str x t from r);subst e;exact pW P w x t
theorem su {P:Program}{w:World}:∀ {ks:List Key}{us:List Value},Vals (ks.map kV) us->ItemsAre (yd P w) ks us
 | [],_,r=>by rw[List.map_nil]at r;cases r;exact .nil
 | k::ks,_,r=>by
  rw[Y1]at r
  cases r with
  | cons h t=>exact .cons (ak h) (su t)
section
variable {P:Program}{w:World}{H:Hp}{h:Heap}{a:Addr}
theorem dg {u:HO}(ok:HOk P w H h)(e:Rd H a u):ObjOk P w H h a u:=e.ok ok
theorem bY {ks:List Key}(ok:HOk P w H h)(e:H a=some (.tup (ks.map kV))):(tupleKind (yd P w)).is h ks a:=by
 obtain⟨_,b,r,o,f,d,n,c⟩:=(show ObjOk P w H h a (.tup (ks.map kV)) from ok a _ e);exact⟨o,b.toArray,n,f,d,c.1,by simpa using su r⟩
end
section
variable {X:Cx}{pins:List (Addr × Obj)}{σ:St}{H:Hp}{s:Shared}{a:Addr}
theorem uI {h':Heap}{t':Nat}{ob:HO}(I:Inv X pins σ H s)(c:Mut (H a))(d:Heap.SameBut a s.heap h')(f:∃ q,h'.get? a=some q)(new:ObjOk X.prog X.w (upd H a ob) h' a ob) :
  Inv X pins σ (upd H a ob) { s with heap:=h',toks:=t' } :=
 I.write (x:=a) (e:=a) c (.inl rfl) (λb q g z=>(d.2 b g).trans z) f new
end
noncomputable def NoSl (i:Expr):Prop:=∀ a b,subscripted i false a b=operate [a,b] (getItem a b)
theorem fX {prog:Program}{w:World}{A:Around}{E:Value->Shared->Prop}{s:Shared}{env:Env}{value slice:Expr}{pos:Pos}{T id:String}{Q:Value->Shared->Prop}
  (k:typeLookup (.type T) "__getitem__" = pure (some (.builtin id))) (j:NoSl slice)
  (h:wpAny (model prog w) A (eval value env) (λo d=>wpAny (model prog w) A (eval slice env) (λi a=>a.TypeIs o T/\wpAny (model prog w) A (getItem o i) Q E a) E d) E s) :
  wpAny (model prog w) A (eval (.Subscript value slice pos) env) Q E s:=by
 refine Subscript_ (JM h (λo d f=>JM f (λi a b=>?_) λ_ _ x=>x) λ_ _ x=>x);obtain⟨g,b⟩:=b;unfold subscriptTail;refine J0 ?_;rw[getitemInPython_of_ne g.not_modules];refine J0 (wpAny_specialOf g k ?_)
 have fin:wpAny (model prog w) A (subscripted slice false o i) (λr c=>wpAny (model prog w) A (letTemporaryGo value o r >>= λ_=>pure r) Q E c) E a:=by
  rw[j o i];exact wpAny_operating (JM b (λr c e=>J0 (wpAny_letTemporaryGo (J8 e))) λ_ _ x=>x)
 first
  | exact J8 (J0 fin)
  | exact J0 (J8 (J0 fin))
  | exact J0 fin
noncomputable def j7:List (TE × TE)->St->Hp->(List (V × V)->Hp->Prop)->Prop
 | [],_,H,Q=>Q [] H
 | (tk,a)::r,σ,H,Q=>tk σ H λx d=>a σ d λy c=>j7 r σ c λps b=>Q ((x,y)::ps) b
noncomputable abbrev VV:List (V × V)->List (Value × Value)->Prop:=Paired λp q=>RelV p.1 q.1/\RelV p.2 q.2
noncomputable def PPs (X:Cx)(pos:Pos)(keys:List (Option Expr))(values:List Expr)(a:List (TE × TE)):Prop :=
 ∀ (pins:List (Addr × Obj)) (s:Shared) (σ:St) (H:Hp) (Q:List (V × V)->Hp->Prop),Inv X pins σ H s->j7 a σ H Q ->
  wpAny (model X.prog X.w) X.A (evalPairs (pairTrees keys values X.env pos)) (λd e=>∃ b c,Inv X pins σ c e/\VV b d/\Q b c) X.xe s
theorem fu {X:Cx}{pos:Pos}:PPs X pos [] [] []:=λpins s σ H Q I h=>pairTrees_nil_walk ⟨[],H,I,.nil,h⟩
theorem iW {X:Cx}{pos:Pos}{k v:Expr}{ks:List (Option Expr)}{vs:List Expr}{tk b:TE}{a:List (TE × TE)}(o:PE X k tk)(m:PE X v b)(n:PPs X pos ks vs a) :
  PPs X pos (some k::ks) (v::vs) ((tk,b)::a):=λpins s σ H Q I h =>
 pairTrees_cons_walk (thn (o pins s σ H _ I h) λu d ⟨x,z,r,f,j⟩=>thn (m pins d σ z _ r j) λA c ⟨y,w,q,e,i⟩ =>
  thn (n pins c σ w _ q i) λws B ⟨l,t,p,rel,g⟩=>⟨(x,y)::l,t,p,.cons ⟨f,e⟩ rel,g⟩)
structure M1 (X:Cx) (o:Expr) (m:Str) (apos:Pos) (e:Expr) (cpos:Pos):Prop where
 base:attributeBase o m X.env (eval o X.env)=eval o X.env
 few:((backTo cpos (starEach [e] X.env)).all (λx=>!x.1) && (backToKw cpos (keywordEach [] X.env)).all (λx=>x.1.isSome)
  && decide (([e]:List Expr).length+([]:List Keyword).length+(if ([]:List Keyword).isEmpty then 0 else 1)<30))=true
 line:(apos.endLine == cpos.line)=true
 trees:backTo cpos (starEach [e] X.env)=[(false,eval e X.env)]
structure M2 (X:Cx) (o:Expr) (m:Str) (apos:Pos) (e f:Expr) (cpos:Pos):Prop where
 base:attributeBase o m X.env (eval o X.env)=eval o X.env
 few:((backTo cpos (starEach [e,f] X.env)).all (λx=>!x.1) && (backToKw cpos (keywordEach [] X.env)).all (λx=>x.1.isSome)
  && decide (([e,f]:List Expr).length+([]:List Keyword).length+(if ([]:List Keyword).isEmpty then 0 else 1)<30))=true
 line:(apos.endLine == cpos.line)=true
 trees:backTo cpos (starEach [e,f] X.env)=[(false,eval e X.env),(false,eval f X.env)]
end L2
namespace L2
open PySem PySem.Spec PyProof.Rows Own
theorem lR:∀ {ds:List PyData}{n:Nat},(∀ e∈ds,e.canLay0=true/\e.depth<=n)->PyData.canLayAll0 ds=true/\PyData.depthAll ds<=n
 | [],_,_=>⟨rfl,JN _⟩
 | d::ds,n,h=>by
  obtain⟨a1,a2⟩:=h d JL;obtain⟨b,c⟩:=lR (ds:=ds) λe a=>h e (JG _ a);refine⟨?_,?_⟩
  ·show (d.canLay0 && PyData.canLayAll0 ds)=true
   rw[a1,b];rfl
  ·show max d.depth (PyData.depthAll ds)<=n
   lia
noncomputable abbrev KI:=Int ⊕ List Int
noncomputable abbrev KN:=List KI
section
variable (prog:Program)(w:World)
noncomputable def NIt (h:Heap):KI->Value->Prop
 | .inl i,v=>∃ t,v=.int i t
 | .inr xs,v=>∃ b,v=.ref b/\IsTupleKey (yd prog w) h (xs.map Sum.inl) b
noncomputable def NIts (h:Heap):KN->List Value->Prop
 | [],vs=>vs=[]
 | k::ks,vs=>∃ v r,vs=v::r/\NIt prog w h k v/\NIts h ks r
noncomputable def NIs (h:Heap)(ks:KN)(a:Addr):Prop:=∃ o items n,h.get? a=some o/\o.cls=.type "tuple"/\o.data=.seq items n/\NIts prog w h ks items.toList
noncomputable def nh1:KI->Int
 | .inl i=>hashInt i
 | .inr xs=>tupleKeyHash (yd prog w) (xs.map Sum.inl)
noncomputable def nd1:KI->Nat
 | .inl _=>1
 | .inr xs=>xs.length+1
noncomputable def nds (ks:KN):Nat:=(ks.map nd1).sum
end
variable {prog:Program}{w:World}{A:Around}{E:Value->Shared->Prop}
theorem dA {a b:List Int}(h:a.map (Sum.inl:Int->Key)=b.map Sum.inl):a=b :=
 List.map_inj_right (λx y e=>Sum.inl.inj e) |>.mp h
theorem NIt.inj {h:Heap}{x y:KI}{v:Value}(a:NIt prog w h x v)(b:NIt prog w h y v):x=y:=by
 cases x with
 | inl i =>
  obtain⟨t,rfl⟩:=a
  cases y with
  | inl j=>obtain⟨u,e⟩:=b;cases e;rfl
  | inr f=>obtain⟨b,e,_⟩:=b;cases e
 | inr l =>
  obtain⟨c,rfl,k⟩:=a
  cases y with
  | inl j=>obtain⟨u,e⟩:=b;cases e
  | inr f =>
   obtain⟨d,e,g⟩:=b;cases e;rw[dA (k.inj g)]
theorem NIts.inj {h:Heap}:∀ {x y:KN}{vs:List Value},NIts prog w h x vs->NIts prog w h y vs->x=y
 | [],[],_,_,_=>rfl
 | [],_::_,_,a,b=>by obtain⟨v,r,e,_⟩:=b;rw[show _=[] from a]at e;cases e
 | _::_,[],_,a,b=>by obtain⟨v,r,e,_⟩:=a;rw[show _=[] from b]at e;cases e
 | x::j,y::i,_,a,b=>by
  obtain⟨v,r,rfl,g,f⟩:=a;obtain⟨k,l,e,d,c⟩:=b;cases e;rw[g.inj d,NIts.inj f c]
theorem NIs.inj {h:Heap}{x y:KN}{a:Addr}(p:NIs prog w h x a)(q:NIs prog w h y a):x=y:=by
 obtain⟨o,j,n,g,_,f,e⟩:=p;obtain⟨k,d,l,c,_,b,i⟩:=q;rw[g]at c;cases c;rw[f]at b;cases b;exact e.inj i
theorem NIt.keeps {h h':Heap}{d:Addr}{o:Obj}{es ep}(hd:h.get? d=some o)(c:o.data=.dict es ep)(s:Heap.SameBut d h h'){k:KI}{v:Value}(a:NIt prog w h k v):NIt prog w h' k v:=by
 cases k with
 | inl i=>exact a
 | inr g =>
  obtain⟨b,e,f⟩:=a;exact⟨b,e,f.keeps hd c s⟩
theorem NIts.keeps {h h':Heap}{d:Addr}{o:Obj}{es ep}(hd:h.get? d=some o)(b:o.data=.dict es ep)(s:Heap.SameBut d h h'):∀ {ks:KN}{vs:List Value},NIts prog w h ks vs->NIts prog w h' ks vs
 | [],_,a=>a
 | k::ks,_,a=>by
  obtain⟨v,r,e,a1,a2⟩:=a;exact⟨v,r,e,a1.keeps hd b s,NIts.keeps hd b s a2⟩
theorem NIs.keeps {h h':Heap}{ks:KN}{a d:Addr}{o:Obj}{es ep}(p:NIs prog w h ks a)(hd:h.get? d=some o)(f:o.data=.dict es ep)(s:Heap.SameBut d h h'):NIs prog w h' ks a:=by
 obtain⟨g,e,n,c,j,b,i⟩:=p;refine⟨g,e,n,?_,j,b,i.keeps hd f s⟩;rw[s.2 a (by rintro rfl;rw[hd]at c;cases c;rw[f]at b;cases b)];exact c
theorem tI:∀ (ks:KN) (vs:List Value) (c:Array Int) (s:Shared) (Q:Array Int->Shared->Prop),A.units<cLine->NIts prog w s.heap ks vs->Q (c++(ks.map (nh1 prog w)).toArray) { s with toks:=s.toks+nds ks } ->
  wpAny (model prog w) A (forIn vs c λx c=>(do let r <- pyHash x;pure (ForInStep.yield (c.push r)))) Q E s
 | [],vs,c,s,Q,d,a,q=>by
  rw[show vs=[] from a,Z8];refine J8 ?_
  simpa [nds] using q
 | k::ks,vs,c,s,Q,d,a,q=>by
  obtain⟨v,r,rfl,f,j⟩:=a;rw[Z0]
  have h:∀ (m:Nat),m=nd1 k->({ s with toks:=s.toks+m+nds ks }:Shared)={ s with toks:=s.toks+nds (k::ks) }:=λm e=>by
   subst e;unfold nds;rw[Y1,List.sum_cons,Zg]
  have e2:c.push (nh1 prog w k)++(ks.map (nh1 prog w)).toArray=c++((k::ks).map (nh1 prog w)).toArray:=by simp
  have go:∀ (m:Nat),m=nd1 k->wpAny (model prog w) A (forIn r (c.push (nh1 prog w k)) λx c=>(do let r <- pyHash x;pure (ForInStep.yield (c.push r)))) Q E { s with toks:=s.toks+m }:=λm e =>
   tI ks r (c.push (nh1 prog w k)) { s with toks:=s.toks+m } Q d j (by rw[e2];have:=h m e;simp only at this ⊢;rw[this];exact q)
  cases k with
  | inl i =>
   obtain⟨t,rfl⟩:=f
   exact J0 (J0 (wpAny_pyHash_int (J8 (go 1 rfl))))
  | inr l =>
   obtain⟨b,rfl,g⟩:=f;exact J0 (J0 (wpAny_pyHash_tuple d g (J8 (go _ (by rw[Jn];rfl)))))
theorem jQ {s:Shared}{a:Addr}{ks:KN}{Q:Int->Shared->Prop}(c:A.units+1<cLine)(d:NIs prog w s.heap ks a)(q:Q (reduceHash (Builtin.Tuple.tupleHashOf (ks.map (nh1 prog w)))) { s with toks:=s.toks+(nds ks+1) }):wpAny (model prog w) A (pyHash (.ref a)) Q E s:=by
 obtain⟨o,g,n,b,f,e,hi⟩:=d;show wpAny (model prog w) A (pyHashByItsType (.ref a)) Q E s;refine W.pyHash_slot (T:="tuple") (id:="tuple.__hash__") (B:=Builtin.«tuple.__hash__») ⟨o,b,f⟩ F.slot_tuple_hash F.entry_tuple_hash (F.args_tuple_hash_1 _) (by decide) (.inr (by lia)) ?_;unfold Builtin.«tuple.__hash__»;refine J0 ?_;show wpAny _ _ (pure _) _ _ _;refine J8 (J0 (wpAny_tupleItemsOf b e ?_));rw[<- Array.forIn_toList];refine J0 (tI ks _ _ s _ c hi ?_);simp only[Array.empty_append];unfold retInt;exact J0 (wpAny_mkInt (J8 ⟨_,_,rfl,q⟩))
theorem sN {i:Int}{t:Tok}{n:Nat}{s:Shared}{Q:Bool->Shared->Prop}(q:Q true s):wpAny (model prog w) A (eqIsQuiet n (.int i t)) Q E s:=by
 cases n<;>exact J8 q
theorem ve {n:Nat}{s:Shared}:∀ (vs:List Value) (Q:Option Bool × Unit->Shared->Prop),(∀ v∈vs,∀ R:Bool->Shared->Prop,R true s->wpAny (model prog w) A (eqIsQuiet n v) R E s)->Q (none,()) s ->
  wpAny (model prog w) A (forIn vs ((none,()):Option Bool × Unit) λy _=>(do
   let b <- eqIsQuiet n y
   if (!b)=true then pure (ForInStep.done (some false,())) else pure (ForInStep.yield (none,())))) Q E s
 | [],Q,_,q=>by rw[Z8];exact J8 q
 | v::vs,Q,h,q=>by
  rw[Z0];exact J0 (J0 (h v JL _ (J8 (ve vs Q (λu a=>h u (JG _ a)) q))))
theorem sM {s:Shared}{a:Addr}{o:Obj}{its:Array Value}{m n:Nat}{Q:Bool->Shared->Prop}(c:s.heap.get? a=some o) (d:o.cls=.type "tuple") (hd:o.data=.seq its m)
  (h:∀ v∈its.toList,∀ R:Bool->Shared->Prop,R true s->wpAny (model prog w) A (eqIsQuiet n v) R E s) (q:Q true s):wpAny (model prog w) A (eqIsQuiet (n+1) (.ref a)) Q E s:=by
 have ty:s.TypeIs (.ref a) "tuple":=⟨o,c,d⟩;unfold eqIsQuiet;refine J0 (wpAny_specialOf (T:="tuple") ty F.slot_tuple_eq.lookup (J0 (ZQ (T:="tuple") (b:=true) ty rfl ?_)));show wpAny _ _ (do let _ <- seqItems? _;_) _ _ _;refine J0 (Yg c hd (J0 ?_));rw[Option.getD_some,<- Array.forIn_toList];exact ve _ _ h (J8 q)
theorem NIts.mem {h:Heap}:∀ {ks:KN}{vs:List Value},NIts prog w h ks vs->∀ v∈vs,∃ k,NIt prog w h k v
 | [],_,a,v,b=>by rw[show _=[] from a]at b;cases b
 | k::ks,_,a,v,b=>by
  obtain⟨x,r,rfl,a1,a2⟩:=a;rcases Jq.mp b with rfl|z
  ·exact⟨k,a1⟩
  ·exact NIts.mem a2 v z
theorem pT {i:Int}{v:Value}(h:(yd prog w).is (.inl i) v=true):∃ t,v=.int i t:=by
 rw[nQ]at h;rcases yO h with ⟨j,t,e,rfl⟩|⟨x,t,e,_⟩
 ·cases e;exact⟨t,rfl⟩
 ·cases e
theorem nr {ks:List Key}{vs:List Value}(h:ItemsAre (yd prog w) ks vs):∀ xs:List Int,ks=xs.map Sum.inl->∀ v∈vs,∃ i t,v=.int i t:=by
 induction h with
 | nil=>intro xs _ v a;cases a
 | cons b _ ih =>
  intro xs e v a
  cases xs with
  | nil=>cases e
  | cons x xs =>
   rw[Y1]at e;injection e with c e2;subst c;rcases Jq.mp a with rfl|z
   ·obtain⟨t,e⟩:=pT b
    exact⟨x,t,e⟩
   ·exact ih xs e2 v z
theorem items_int {ks:List Int}{vs:List Value}(h:ItemsAre (yd prog w) (ks.map Sum.inl) vs):∀ v∈vs,∃ i t,v=.int i t:=nr h ks rfl
theorem ue {s:Shared}{a:Addr}{ks:KN}{Q:Bool->Shared->Prop}(c:NIs prog w s.heap ks a)(q:Q true s):wpAny (model prog w) A (eqIsQuiet 8 (.ref a)) Q E s:=by
 obtain⟨o,x,n,l,p,m,hi⟩:=c;refine sM l p m (λv h R r=>?_) q;obtain⟨k,c⟩:=hi.mem v h
 cases k with
 | inl i=>obtain⟨t,rfl⟩:=c;exact sN r
 | inr z =>
  obtain⟨b,rfl,B,y,C,d,g,f,e⟩:=c;refine sM d g f (λu j R r=>?_) r;obtain⟨i,t,rfl⟩:=items_int e u j;exact sN r
noncomputable def dI:KI->PyData
 | .inl i=>.int i
 | .inr xs=>.tuple (xs.map PyData.int)
noncomputable def dN (ks:KN):PyData:=.tuple (ks.map dI)
theorem nF {h:Heap}{ks:List Key}{vs:List Value}(a:ItemsAre (yd prog w) ks vs):∀ xs:List Int,ks=xs.map Sum.inl->∃ as,ReadsAll h vs (xs.map PyData.int) as:=by
 induction a with
 | nil =>
  intro xs e
  cases xs with
  | nil=>exact⟨_,.nil⟩
  | cons x xs=>cases e
 | cons b _ ih =>
  intro xs e
  cases xs with
  | nil=>cases e
  | cons x xs =>
   rw[Y1]at e;injection e with c e2;subst c;obtain⟨t,rfl⟩:=pT b;obtain⟨as,r⟩:=ih xs e2;exact⟨_,.cons (.int x t) r⟩
theorem NIt.reads {h:Heap}{k:KI}{v:Value}(a:NIt prog w h k v):∃ as,Reads h v (dI k) as:=by
 cases k with
 | inl i=>obtain⟨t,rfl⟩:=a;exact⟨_,.int i t⟩
 | inr c =>
  obtain⟨b,rfl,o,j,n,g,f,e,d⟩:=a;obtain⟨as,r⟩:=nF (h:=h) d c rfl;exact⟨_,.tuple g f e r⟩
theorem NIts.reads {h:Heap}:∀ {ks:KN}{vs:List Value},NIts prog w h ks vs->∃ as,ReadsAll h vs (ks.map dI) as
 | [],_,a=>by rw[show _=[] from a];exact⟨_,.nil⟩
 | k::ks,_,a=>by
  obtain⟨v,r,rfl,a1,a2⟩:=a;obtain⟨as,p⟩:=a1.reads;obtain⟨bs,q⟩:=NIts.reads a2;exact⟨_,.cons p q⟩
theorem NIs.reads {h:Heap}{ks:KN}{a:Addr}(p:NIs prog w h ks a):∃ as,Reads h (.ref a) (dN ks) as:=by
 obtain⟨o,f,n,e,d,c,b⟩:=p;obtain⟨as,r⟩:=b.reads;exact⟨_,.tuple e d c r⟩
theorem oK:∀ (x y:List Int),PyData.eqvAll (x.map PyData.int) (y.map PyData.int)=decide (x=y)
 | [],[]=>rfl
 | [],_::_=>rfl
 | _::_,[]=>rfl
 | a::x,b::y=>by
  show (PyData.eqv (.int a) (.int b) && PyData.eqvAll (x.map PyData.int) (y.map PyData.int))=_;rw[oK x y,show PyData.eqv (.int a) (.int b)=(a == b) from rfl,Yj];simp
theorem bj (x y:KI):PyData.eqv (dI x) (dI y)=decide (x=y):=by
 cases x<;>cases y
 ·rw[show PyData.eqv (dI (.inl _)) (dI (.inl _))=(_ == _) from rfl,Yj];simp
 ·rfl
 ·rfl
 ·show PyData.eqvAll _ _=_
  rw[oK,Yj];simp
theorem lE:∀ (x y:KN),PyData.eqvAll (x.map dI) (y.map dI)=decide (x=y)
 | [],[]=>rfl
 | [],_::_=>rfl
 | _::_,[]=>rfl
 | a::x,b::y=>by
  show (PyData.eqv (dI a) (dI b) && PyData.eqvAll (x.map dI) (y.map dI))=_;rw[lE x y,bj,Yj];simp
theorem ph:∀ x:List Int,PyData.canLayAll0 (x.map PyData.int)=true/\PyData.depthAll (x.map PyData.int)<=0
 | []=>⟨rfl,Jc _⟩
 | a::x=>by
  obtain⟨p,q⟩:=ph x;refine⟨?_,?_⟩
  ·show (PyData.canLay0 (.int a) && PyData.canLayAll0 (x.map PyData.int))=true
   rw[p];rfl
  ·show max 0 (PyData.depthAll (x.map PyData.int))<=0
   simp_all
theorem nj (ks:KN):(dN ks).canLay0=true/\(dN ks).depth<=2:=by
 have key:∀ e∈ks.map dI,e.canLay0=true/\e.depth<=1:=λe b=>by
  obtain⟨k,_,rfl⟩:=JA.mp b
  cases k with
  | inl i=>exact⟨rfl,by show 0<=1;lia⟩
  | inr a =>
   obtain⟨p,q⟩:=ph a;refine⟨p,?_⟩;show PyData.depthAll (a.map PyData.int)+1<=1
   simp_all
 obtain⟨p,q⟩:=lR key;refine⟨p,?_⟩;show PyData.depthAll (ks.map dI)+1<=2
 simp_all
theorem dU {s:Shared}{x y:KN}{a b:Addr}{Q:Bool->Shared->Prop}(k:A.units+2<cLine)(h:NIs prog w s.heap x a)(g:NIs prog w s.heap y b)(q:Q (decide (x=y)) s):wpAny (model prog w) A (eqBool (.ref a) (.ref b)) Q E s:=by
 obtain⟨as,d⟩:=h.reads;obtain⟨bs,c⟩:=g.reads;obtain⟨f,j⟩:=nj x;obtain⟨e,i⟩:=nj y;refine PySem.SeqAt.eqBoolOverData prog w A E s _ _ _ _ as bs Q d c f e (by lia) ?_;rw[show PyData.eqv (dN x) (dN y)=PyData.eqvAll (x.map dI) (y.map dI) from rfl,lE];exact q
variable (prog w)
noncomputable def yQ:HeapKind prog w KN where
 is:=NIs prog w
 hash:=λa=>reduceHash (Builtin.Tuple.tupleHashOf (a.map (nh1 prog w)))
 draws:=λa=>nds a+1
 room:=λA=>A.units+2<cLine
 inj:=λc b=>NIs.inj c b
 keeps:=λx g i f=>NIs.keeps x g i f
 pyHash:=λe d h=>jQ (by lia) d h
 eqBool:=λe c b h=>dU e c b h
 quiet:=λd h=>ue d h
end L2
namespace Own
open PySem PySem.Spec PyProof.Rows
theorem qF:typeLookup (.type "list") "keys" = pure none:=by
 exact(by rw[typeLookup_type,builtinLookup_eq_fast];kernel_rfl)
theorem qG:typeLookup (.type "list") "__getattr__" = pure none:=by
 exact(by rw[typeLookup_type,builtinLookup_eq_fast];kernel_rfl)
section
variable {prog:Program}{w:World}{A:Around}{E:Value->Shared->Prop}{s:Shared}{l:Addr}{its:Array Value}{n:Nat}
theorem nq {u:Tok}{Q:Fin->Shared->Prop}(c:s.heap.get? l=some { cls:=.type "list",data:=.seq its n }) (f:A.handled=none)
  (h:∀ b a e,Heap.NewAttrErr s.heap b e (.ref l) "keys"->E (.ref e) { s with heap:=b,toks:=a }) :
  wpAny (model prog w) A (Builtin.«object.__getattribute__» ⟨[.ref l,.str "keys" u],[]⟩) Q E s:=by
 obtain⟨d,g,i,a,os⟩:=s;have ty:(⟨d,g,i,a,os⟩:Shared).TypeIs (.ref l) "list":=⟨_,c,rfl⟩;have j:=qF;unfold Builtin.«object.__getattribute__»
 repeat any_goals (first|assumption|wp_step)
 repeat any_goals (first|assumption|wp_step)
 exact wpAny_raiseAttrError f h (attrMsg_fits (by decide +kernel) (by size_fits))
theorem jJ {u:Tok}{R:Result->Shared->Prop}(a:s.heap.get? l=some { cls:=.type "list",data:=.seq its n }) (d:A.handled=none)
  (h:∀ b c e,Heap.NewAttrErr s.heap b e (.ref l) "keys"->R (.error (.ref e)) { s with heap:=b,toks:=c }) :
  codeAny (model prog w) A (.call (.builtin "list.__getattribute__") ⟨[.ref l,.str "keys" u],[]⟩) R s :=
 codeAny_call_builtin F.slot_list_getattribute.plain F.entry_list_ga (F.slot_list_getattribute.check _ _ _ _ _ _ _ _ (show s.TypeIs (.ref l) "list" from⟨_,a,rfl⟩) (F.args_list_getattribute_2 _ _) (nq (A:=A.in1) a d h))
theorem jE {Q:Option Value->Shared->Prop}(f:s.heap.get? l=some { cls:=.type "list",data:=.seq its n }) (m:A.handled=none)
  (h:∀ a d,(∀ b o,s.heap.get? b=some o->a.get? b=some o)->Q none { s with heap:=a,toks:=d }) :
  wpAny (model prog w) A (getAttr? (.ref l) "keys") Q E s:=by
 obtain⟨j,g,i,d,os⟩:=s;have ty:(⟨j,g,i,d,os⟩:Shared).TypeIs (.ref l) "list":=⟨_,f,rfl⟩;have x:=sub_AttributeError;have t:=F.slot_list_getattribute.lookup;have v:=F.slot_list_getattribute.bind (.ref l);have u:=qG;unfold getAttr? getAttrBy? getAttrBy
 repeat any_goals (first|assumption|wp_step)
 refine jJ f m λa c e ne=>?_;obtain⟨r,p,k⟩:=ne.there;have q:({ heap:=a,gens:=g,drawn:=i,toks:=c,os:=os }:Shared).TypeIs (.ref e) "AttributeError":=⟨_,k,rfl⟩;dsimp only;unfold getattributeRaised
 repeat any_goals (first|assumption|wp_step)
 exact h a c ne.keeps
end
theorem wN:entryFor table "dict.update.loop" = some Builtin.«dict.update.loop»:=entryFor_of_fast (by kernel_rfl)
theorem y8:plainId "dict.update.loop" = true:=by decide +kernel
end Own
namespace L2
open PySem PySem.Spec PyProof.Rows Own
structure MgD (mg:Str->Option Value):Prop where
 dict:mg "dict" = none
end L2
namespace Ts
open PySem PyProof.Rows
structure Cmp (prog:Program) (w:World) (A:Around) (s:Shared) (κ:SortKind) (P:Keyed->Prop) (rk:Keyed->Int):Prop where
 ask:∀ (x y:Keyed),P x->P y->∀ {Q:Bool->Shared->Prop}{E:Value->Shared->Prop},Q (decide (rk x<rk y)) s->wpAny (model prog w) A (keyLt' κ x.1 y.1) Q E s
noncomputable def R (rk:Keyed->Int)(xs:Array Keyed)(i:Nat):Int:=match xs[i]? with
 | some p=>rk p
 | none=>0
theorem R_congr {rk:Keyed->Int}{xs ys:Array Keyed}{i j:Nat}(h:xs[i]?=ys[j]?):R rk xs i=R rk ys j:=by unfold R;rw[h]
noncomputable def Up (rk:Keyed->Int)(xs:Array Keyed)(lo n:Nat):Prop:=∀ i j,lo<=i->i<=j->j<lo+n->R rk xs i<=R rk xs j
noncomputable def Dn (rk:Keyed->Int)(xs:Array Keyed)(lo n:Nat):Prop:=∀ i j,lo<=i->i<=j->j<lo+n->R rk xs j<=R rk xs i
structure Bs (κ:SortKind) (P:Keyed->Prop) (a₀:Array Keyed) (st:SortSt):Prop where
 kind:kindOf st=κ
 fail:failedOf st=none
 perm:(arrOf st).Perm a₀
 all:∀ p∈a₀.toList,P p
theorem Bs.size {κ:SortKind}{P:Keyed->Prop}{a₀:Array Keyed}{st:SortSt}(h:Bs κ P a₀ st):(arrOf st).size=a₀.size:=h.perm.size_eq
theorem Bs.at {κ:SortKind}{P:Keyed->Prop}{a₀:Array Keyed}{st:SortSt}(h:Bs κ P a₀ st){i:Nat}(hi:i<a₀.size)(rk:Keyed->Int):∃ p,(arrOf st)[i]?=some p/\P p/\R rk (arrOf st) i=rk p:=by
 have e:(arrOf st)[i]?=some ((arrOf st)[i]'(by rw[h.size];exact hi)):=getElem?_pos (arrOf st) i (by rw[h.size];exact hi);refine⟨_,e,h.all _ ((Array.perm_iff_toList_perm.mp h.perm).mem_iff.mp (by simp)),?_⟩;unfold R;rw[e]
theorem Bs.arr {κ:SortKind}{P:Keyed->Prop}{a₀:Array Keyed}{st:SortSt}(h:Bs κ P a₀ st){xs:Array Keyed}(a:xs.Perm (arrOf st)):Bs κ P a₀ (setArr st xs):=⟨h.kind,h.fail,a.trans h.perm,h.all⟩
section
variable {prog:Program}{w:World}{A:Around}{E:Value->Shared->Prop}{s:Shared}{κ:SortKind}{P:Keyed->Prop}{rk:Keyed->Int}{a₀:Array Keyed}
theorem pY (C:Cmp prog w A s κ P rk){st:SortSt}{x y:Keyed}{Q:Option Bool->SortSt->Prop}(b:kindOf st=κ)(a:P x)(py:P y)(h:Q (some (decide (rk x<rk y))) st):wpS (model prog w) A E s (lt' x y) Q st:=by
 rw[lt'_eq];refine Jh (ZZ (Jh (wpS_lift (wpAny_attempt ?_))));rw[b];exact C.ask x y a py ⟨rfl,Jf h⟩
theorem wR {r:String}{st:SortSt}{Q:Unit->SortSt->Prop}(h:Q () st):wpS (model prog w) A E s (liftM (rule r):StateT SortSt Sem Unit) Q st:=wpS_lift (YJ ⟨rfl,h⟩)
theorem zR {st:SortSt}{arr:Array Keyed}{i:Nat}{p:Keyed}{Q:Keyed->SortSt->Prop}(e:arr[i]?=some p)(h:Q p st):wpS (model prog w) A E s (elem' arr i) Q st:=by
 rw[elem'_eq,e];exact Jf h
theorem pZ (C:Cmp prog w A s κ P rk){st:SortSt}{i j:Nat}{Q:Option Bool->SortSt->Prop}(a:Bs κ P a₀ st)(hi:i<a₀.size)(e:j<a₀.size)(h:Q (some (decide (R rk (arrOf st) i<R rk (arrOf st) j))) st):wpS (model prog w) A E s (ltAt' i j) Q st:=by
 obtain⟨p,f,pp,c⟩:=a.at hi rk;obtain⟨q,e2,d,b⟩:=a.at e rk;rw[c,b]at h;rw[ltAt'_eq];exact Jh (ZZ (Jh (zR f (Jh (zR e2 (pY C a.kind pp d h))))))
structure Keep (κ:SortKind) (P:Keyed->Prop) (rk:Keyed->Int) (a₀:Array Keyed) (lo:Nat) (st st':SortSt):Prop where
 b:Bs κ P a₀ st'
 pend:pendingOf st'=pendingOf st
 low:∀ k,k<lo->R rk (arrOf st') k=R rk (arrOf st) k
theorem Keep.refl {lo:Nat}{st:SortSt}(h:Bs κ P a₀ st):Keep κ P rk a₀ lo st st:=⟨h,rfl,λ_ _=>rfl⟩
theorem Keep.trans {lo:Nat}{st a st2:SortSt}(h:Keep κ P rk a₀ lo st a)(g:Keep κ P rk a₀ lo a st2):Keep κ P rk a₀ lo st st2:=⟨g.b,g.pend.trans h.pend,λk b=>(g.low k b).trans (h.low k b)⟩
theorem R_mirror {xs:Array Keyed}{i j:Nat}(a:j<=xs.size)(k:Nat):R rk (mirror xs i j ((j-i) / 2)) k=if i<=k/\k<j then R rk xs (i+j-1-k) else R rk xs k:=by
 have e:=getElem?_mirror_all (xs:=xs) (i:=i) a k;split at e
 ·next h=>rw[Jg h];exact R_congr e
 ·next h=>rw[Je h];exact R_congr e
theorem rp {lo i j:Nat}{st:SortSt}{Q:Unit->SortSt->Prop}(a:Bs κ P a₀ st)(c:lo<=i)(b:j<=a₀.size)(h:∀ st',Keep κ P rk a₀ lo st st'->(∀ k,R rk (arrOf st') k=if i<=k/\k<j then R rk (arrOf st) (i+j-1-k) else R rk (arrOf st) k)->Q () st'):wpS (model prog w) A E s (reverseSlice' i j) Q st:=by
 rw[reverseSlice'_eq];refine W0 (h _ ⟨a.arr (mirror_perm _ _ _ _),rfl,λk d=>?_⟩ λk=>?_)
 ·show R rk (mirror (arrOf st) i j ((j-i) / 2)) k=_
  rw[R_mirror (by rw[a.size];exact b),Je (by lia)]
 ·exact R_mirror (by rw[a.size];exact b) k
theorem gn (C:Cmp prog w A s κ P rk){st:SortSt}{lo j:Nat}{Q:Option Nat->SortSt->Prop}(B:Bs κ P a₀ st)(h1:1<=j)(hn:lo+j<=a₀.size)(h:∀ st' m,Keep κ P rk a₀ lo st st'->1<=m->m<=j->Up rk (arrOf st') lo m->Q (some m) st'):wpS (model prog w) A E s (countRun' lo j) Q st:=by
 have asc:∀ (st:SortSt) (y:Nat) {Z:Option (Option Nat) × Nat->SortSt->Prop},Bs κ P a₀ st->1<=y->Up rk (arrOf st) lo y ->
   (∀ n,y<=n->n<=max y j->Up rk (arrOf st) lo n->(n<j->R rk (arrOf st) (lo+n)<R rk (arrOf st) (lo+n-1))->Z (none,n) st)->
   ∀ f:Nat->Option (Option Nat) × Nat->StateT SortSt Sem (ForInStep (Option (Option Nat) × Nat)),(∀ i n,f i (none,n)=(do
    let some v <- ltAt' (lo+n) (lo+n-1)|pure (.done (some none,n))
    if v then pure (.done (none,n)) else pure (.yield (none,n+1))))->wpS (model prog w) A E s (forIn [y:j] (none,y) f) Z st:=by
  intro st y Z B h0 F G f hf;refine Yq (I:=λi c st'=>st'=st/\c=(none,i)/\y<=i/\Up rk (arrOf st) lo i) ?_ ?_ ⟨rfl,rfl,Jc _,F⟩
  ·rintro i c st' hi ab ⟨rfl,rfl,O,r⟩
   rw[hf];refine Jh (pZ C B (by lia) (by lia) ?_);by_cases z:R rk (arrOf st') (lo+i)<R rk (arrOf st') (lo+i-1)
   ·rw[Jx z]
    exact Jf (G i O (by lia) r λ_=>z)
   ·rw[Jr z]
    refine Jf ⟨rfl,rfl,by lia,λa b p l x=>?_⟩;by_cases q:b<lo+i
    ·exact r a b p l q
    ·obtain rfl:b=lo+i:=by lia
     by_cases L:a=lo+i
     ·rw[L];exact ZS _
     ·have:=r a (lo+i-1) p (by lia) (by lia)
      lia
  ·rintro c st' ⟨rfl,rfl,O,r⟩
   exact G _ O (Jc _) r λq=>by lia
 rw[countRun'_eq];refine Jh (asc st 1 B (Jc _) (λa b h1 h2 O=>by rw[show a=b by lia];exact ZS _) (λn n1 n2 F X=>?_) _ (λi n=>rfl));dsimp only;by_cases z:n=j
 ·subst z
  rw[Jg (beq_self_eq_true _)];exact Jf (h _ _ (Keep.refl B) n1 (Jc _) F)
 rw[Je (by simpa using z)];have nl:n<j:=by lia
 have X:=X nl;generalize hT:(bind (liftM (rule "list.sort.descending-run")) _:StateT SortSt Sem (Option Nat))=T
 have tail:∀ o,Keep κ P rk a₀ lo st o->Dn rk (arrOf o) lo n->R rk (arrOf o) (lo+n)<R rk (arrOf o) (lo+n-1)->wpS (model prog w) A E s T Q o:=by
  intro o K1 d1 l1;rw[<- hT];refine Jh (wR ?_)
  have last:∀ d m,Keep κ P rk a₀ lo st d->1<=m->m<=j->Dn rk (arrOf d) lo m->∀ g,Keep κ P rk a₀ lo d g->(∀ k,R rk (arrOf g) k=if lo<=k/\k<lo+m then R rk (arrOf d) (lo+(lo+m)-1-k) else R rk (arrOf d) k)->Up rk (arrOf g) lo m:=by
   intro d m t U m2 u g D H a b p l x;rw[H,H,Jg ⟨by omega,by lia⟩,Jg ⟨by lia,by omega⟩];exact u _ _ (by lia) (by omega) (by omega)
  refine Jh (YY (Yq (I:=λi c d=>∃ m q,c=(none,m,q)/\m=i/\q+1<=m/\Keep κ P rk a₀ lo st d/\(i<=j->Dn rk (arrOf d) lo m/\∀ k,lo+m-(q+1)<=k->k<lo+m->R rk (arrOf d) k=R rk (arrOf d) (lo+m-1)))
   (Q:=λc d=>∃ m q,c=(none,m,q)/\1<=m/\m<=j/\q+1<=m/\Keep κ P rk a₀ lo st d/\Dn rk (arrOf d) lo m/\∀ k,lo+m-(q+1)<=k->k<lo+m->R rk (arrOf d) k=R rk (arrOf d) (lo+m-1)) ?step ?fin ?init) ?post)
  case init =>
   refine⟨n+1,0,rfl,rfl,by lia,K1,λ_=>⟨λa b p l x=>?_,λk W V=>by rw[show k=lo+(n+1)-1 by lia]⟩⟩;by_cases q:b<lo+n
   ·exact d1 a b p l q
   ·obtain rfl:b=lo+n:=by lia
    by_cases L:a=lo+n
    ·rw[L];exact ZS _
    ·have:=d1 a (lo+n-1) p (by lia) (by lia)
     lia
  case fin =>
   rintro c d ⟨m,q,rfl,e,G,t,Y⟩;obtain⟨u,eq2⟩:=Y (by lia);exact⟨m,q,rfl,by lia,by lia,G,t,u,eq2⟩
  case step =>
   rintro i c d hi ab ⟨m,q,rfl,rfl,G,t,Y⟩;obtain⟨u,eq2⟩:=Y (by lia);dsimp only;refine Jh (pZ C t.b (by lia) (by lia) ?_)
   have more:∀ g,Dn rk (arrOf g) lo m->R rk (arrOf g) (lo+m)<=R rk (arrOf g) (lo+m-1)->Dn rk (arrOf g) lo (m+1):=by
    intro g S le a b p l x;by_cases q:b<lo+m
    ·exact S a b p l q
    ·obtain rfl:b=lo+m:=by lia
     by_cases L:a=lo+m
     ·rw[L];exact ZS _
     ·have:=S a (lo+m-1) p (by lia) (by lia)
      lia
   by_cases z1:R rk (arrOf d) (lo+m)<R rk (arrOf d) (lo+m-1)
   ·rw[Jx z1]
    dsimp only;rw[Jg rfl];by_cases J:q > 0
    ·rw[Jg J]
     refine Jh (rp (rk:=rk) (lo:=lo) t.b (by lia) (by lia) λg D H=>Jf ?_)
     have same:∀ k,R rk (arrOf g) k=R rk (arrOf d) k:=λk=>by
      rw[H];split
      ·rw[eq2 _ (by lia) (by omega),eq2 k (by simp_all) (by simp_all)]
      ·rfl
     refine⟨m+1,0,rfl,rfl,by lia,t.trans D,λ_=>⟨more g (λa b p l x=>by rw[same,same];exact u a b p l x) (by rw[same,same];lia),λk W V=>by rw[show k=lo+(m+1)-1 by lia]⟩⟩
    ·rw[Je J]
     exact Jf ⟨m+1,0,rfl,rfl,by lia,t,λ_=>⟨more d u (by lia),λk W V=>by rw[show k=lo+(m+1)-1 by lia]⟩⟩
   ·rw[Jr z1]
    dsimp only;rw[Je Jj];refine Jh (pZ C t.b (by lia) (by lia) ?_);by_cases K:R rk (arrOf d) (lo+m-1)<R rk (arrOf d) (lo+m)
    ·rw[Jx K]
     dsimp only;rw[Jg rfl];exact Jf ⟨m,q,rfl,by lia,by lia,G,t,u,eq2⟩
    ·rw[Jr K]
     dsimp only;rw[Je Jj];have e:R rk (arrOf d) (lo+m)=R rk (arrOf d) (lo+m-1):=by lia
     refine Jf ⟨m+1,q+1,rfl,rfl,by simp_all,t,λ_=>⟨more d u (by simp_all),λk W V=>?_⟩⟩;rw[show lo+(m+1)-1=lo+m by simp_all];by_cases q3:k=lo+m
     ·rw[q3]
     ·rw[eq2 k (by lia) (by lia),e]
  case post =>
   rintro c d ⟨m,q,rfl,U,m2,G,t,u,eq2⟩;dsimp only;generalize ao:(bind (reverseSlice' lo (lo+m)) _:StateT SortSt Sem (Option Nat))=T2
   have on:∀ g,Keep κ P rk a₀ lo st g->Dn rk (arrOf g) lo m->wpS (model prog w) A E s T2 Q g:=by
    intro g D S;rw[<- ao];refine Jh (rp (rk:=rk) (lo:=lo) D.b (by lia) (by lia) λM K4 r4=>?_);refine Jh (asc M m K4.b U (last g m D U m2 S M K4 r4) (λn' a1 a2 r _=>?_) _ (λi n=>rfl));exact Jf (h _ _ (D.trans K4) (by lia) (by simp_all) r)
   by_cases J:q > 0
   ·rw[Jg J]
    refine Jh (rp (rk:=rk) (lo:=lo) t.b (by lia) (by lia) λg D H=>?_)
    have same:∀ k,R rk (arrOf g) k=R rk (arrOf d) k:=λk=>by
     rw[H];split
     ·rw[eq2 _ (by lia) (by omega),eq2 k (by simp_all) (by simp_all)]
     ·rfl
    exact on g (t.trans D) (λa b p l x=>by rw[same,same];exact u a b p l x)
   ·rw[Je J]
    exact on d t u
 by_cases K:n > 1
 ·rw[Jg K]
  refine Jh (pZ C B (by lia) (by lia) ?_);by_cases z3:R rk (arrOf st) lo<R rk (arrOf st) (lo+n-1)
  ·rw[Jx z3]
   exact Jf (h _ _ (Keep.refl B) n1 (by simp_all) F)
  ·rw[Jr z3]
   dsimp only;rw[Je Jj];refine Jh (rp (rk:=rk) (lo:=lo) B (by lia) (by lia) λo K1 N=>tail o K1 (λa b p l x=>?_) ?_)
   ·rw[N,N,Jg ⟨by lia,by omega⟩,Jg ⟨by omega,by lia⟩]
    exact F _ _ (by lia) (by omega) (by omega)
   ·rw[N,N,Je (by lia),Jg ⟨by lia,by lia⟩]
    have:=F (lo+(lo+n)-1-(lo+n-1)) (lo+n-1) (by omega) (by omega) (by lia);have e:lo+(lo+n)-1-(lo+n-1)=lo:=by omega
    rw[e]at this ⊢;have:=F lo (lo+n-1) (by lia) (by omega) (by omega);lia
 ·rw[Je K]
  exact tail st (Keep.refl B) (λa b p l x=>by rw[show a=b by lia];exact ZS _) X
theorem R_bubble {xs:Array Keyed}{src d:Nat}(c:src<xs.size)(hd:d<=src)(k:Nat):R rk (bubble xs src d) k=if k=src-d then R rk xs src else if src-d<k/\k<=src then R rk xs (k-1) else R rk xs k:=by
 have e:=getElem?_bubble (xs:=xs) c d hd k;by_cases b:k=src-d
 ·rw[Jg b]at e ⊢;exact R_congr e
 ·rw[Je b]at e ⊢
  by_cases a:(src-d<k/\k<=src)
  ·rw[Jg a]at e ⊢;exact R_congr e
  ·rw[Je a]at e ⊢;exact R_congr e
theorem bp (C:Cmp prog w A s κ P rk){st:SortSt}{lo n ok:Nat}{Q:Bool->SortSt->Prop}(J:Bs κ P a₀ st)(S:1<=ok)(hok:ok<=n)(hn:lo+n<=a₀.size)(O:Up rk (arrOf st) lo ok)(h:∀ st',Keep κ P rk a₀ lo st st'->Up rk (arrOf st') lo n->Q true st'):wpS (model prog w) A E s (binarySort' lo n ok) Q st:=by
 rw[binarySort'_eq];rw[show max ok 1=ok by simp_all];refine Jh (YY (Yq (I:=λk c a=>c=(none,())/\Keep κ P rk a₀ lo st a/\Up rk (arrOf a) lo (min k n)) (Q:=λc a=>c=(none,())/\Keep κ P rk a₀ lo st a/\Up rk (arrOf a) lo n) ?step ?fin ?init) ?post)
 case init=>exact⟨rfl,Keep.refl J,by rwa [Ze hok]⟩
 case fin =>
  rintro c a ⟨rfl,f,e⟩;rw[show min (max ok n) n=n by simp_all]at e;exact⟨rfl,f,e⟩
 case post =>
  rintro c a ⟨rfl,f,e⟩;exact Jf (h a f e)
 case step =>
  rintro k c a L K ⟨rfl,f,e⟩;rw[show min k n=k by lia]at e
  refine Jh (YY (Yq (I:=λx c b=>b=a/\∃ l r,c=(none,l,r)/\l<=r/\r<=k/\r-l<=k-x/\(∀ i,lo<=i->i<lo+l->R rk (arrOf a) i<=R rk (arrOf a) (lo+k))/\(∀ i,lo+r<=i->i<lo+k->R rk (arrOf a) (lo+k)<=R rk (arrOf a) i))
   (Q:=λc b=>b=a/\∃ l r,c=(none,l,r)/\l<=k/\(∀ i,lo<=i->i<lo+l->R rk (arrOf a) i<=R rk (arrOf a) (lo+k))/\(∀ i,lo+l<=i->i<lo+k->R rk (arrOf a) (lo+k)<=R rk (arrOf a) i)) ?istep ?ifin ?iinit) ?ipost)
  case iinit=>exact⟨rfl,0,k,rfl,by lia,by lia,by simp_all,λi _ _=>by lia,λi _ _=>by lia⟩
  case ifin =>
   rintro c b ⟨rfl,l,r,rfl,G,g,m,p,o⟩;obtain rfl:l=r:=by lia
   exact⟨rfl,l,l,rfl,g,p,o⟩
  case istep =>
   rintro x c b _ N ⟨rfl,l,r,rfl,G,g,m,p,o⟩;dsimp only;by_cases ge:l>=r
   ·rw[Jg ge]
    obtain rfl:l=r:=by lia
    exact Jf ⟨rfl,l,l,rfl,g,p,o⟩
   ·rw[Je ge]
    refine Jh (pZ C f.b (by lia) (by lia) ?_);by_cases z:R rk (arrOf b) (lo+k)<R rk (arrOf b) (lo+(l+r) / 2)
    ·rw[Jx z]
     refine Jf ⟨rfl,l,(l+r) / 2,rfl,by lia,by lia,by grind,p,λi u H=>?_⟩;have:=e (lo+(l+r) / 2) i (by simp_all) u (by omega);lia
    ·rw[Jr z]
     refine Jf ⟨rfl,(l+r) / 2+1,r,rfl,by lia,by omega,by grind,λi u H=>?_,o⟩;have:=e i (lo+(l+r) / 2) u (by lia) (by lia);lia
  case ipost =>
   rintro c b ⟨rfl,l,r,rfl,M,p,o⟩;dsimp only;rw[moveDown'_eq];have sz:=f.b.size
   have t:∀ j,R rk (arrOf (setArr b (bubble (arrOf b) (lo+k) (lo+k-(lo+l))))) j=if j=lo+l then R rk (arrOf b) (lo+k) else if lo+l<j/\j<=lo+k then R rk (arrOf b) (j-1) else R rk (arrOf b) j:=λj=>by
    have:=R_bubble (rk:=rk) (xs:=arrOf b) (src:=lo+k) (d:=lo+k-(lo+l)) (by rw[sz];lia) (by simp_all) j;rw[show lo+k-(lo+k-(lo+l))=lo+l by lia]at this;exact this
   refine Jh (W0 (Jf ⟨rfl,f.trans ⟨f.b.arr (bubble_perm _ _ _),rfl,λj y=>?_⟩,λi j hi v y=>?_⟩))
   ·rw[t,Je (by lia),Je (by lia)]
   ·rw[show min (k+1) n=k+1 by lia]at y
    rw[t,t];by_cases F:i=lo+l
    ·rw[Jg F]
     by_cases q:j=lo+l
     ·rw[Jg q];exact ZS _
     ·rw[Je q,Jg ⟨by lia,by lia⟩]
      exact o _ (by lia) (by lia)
    ·rw[Je F]
     by_cases D:lo+l<i/\i<=lo+k
     ·rw[Jg D,Je (by lia),Jg ⟨by lia,by lia⟩]
      exact e _ _ (by lia) (by lia) (by lia)
     ·rw[Je D]
      by_cases q:j=lo+l
      ·rw[Jg q];exact p _ hi (by lia)
      ·rw[Je q]
       by_cases B:lo+l<j/\j<=lo+k
       ·rw[Jg B];exact e _ _ hi (by grind) (by lia)
       ·rw[Je B];exact e _ _ hi v (by lia)
end
noncomputable def dQ:Bool->Keyed->Array Keyed->Nat->Nat->Nat->StateT SortSt Sem (Option Nat):=sortPriv% PySem.Builtin.gallop
noncomputable def bd (left:Bool)(k r:Int):Bool:=if left=true then decide (r<k) else !decide (k<r)
theorem da {left:Bool}{k r a:Int}(h:r<=a)(b:bd left k a=true):bd left k r=true:=by
 unfold bd at *;cases left
 ·simp only[Y7,Z3,ZH,JW]at *;omega
 ·simp only[Yu,Y3]at *;omega
section
variable {prog:Program}{w:World}{A:Around}{E:Value->Shared->Prop}{s:Shared}{κ:SortKind}{P:Keyed->Prop}{rk:Keyed->Int}
theorem oW (C:Cmp prog w A s κ P rk){st:SortSt}{left:Bool}{key:Keyed}{arr:Array Keyed}{j:Nat}{Q:Option Bool->SortSt->Prop}(d:kindOf st=κ)(c:P key)(a:∃ p,arr[j]?=some p/\P p)(h:Q (some (bd left (rk key) (R rk arr j))) st) :
  wpS (model prog w) A E s (elem' arr j >>= λx=>if left=true then lt' x key else (lt' key x >>= λr=>pure (r.map λb=>!b))) Q st:=by
 obtain⟨p,e,pp⟩:=a;have r:R rk arr j=rk p:=by unfold R;rw[e]
 rw[r]at h;refine Jh (zR e ?_);unfold bd at h;cases left
 ·rw[Je Jj]at h ⊢
  exact Jh (pY C d c pp (Jf h))
 ·rw[Jg rfl]at h ⊢
  exact pY C d pp c h
theorem y9 (C:Cmp prog w A s κ P rk){st:SortSt}{left:Bool}{key:Keyed}{arr:Array Keyed}{base n hint:Nat}{Q:Option Nat->SortSt->Prop}(D:kindOf st=κ)(y:P key)(g:∀ i,i<n->∃ p,arr[base+i]?=some p/\P p)(hu:Up rk arr base n)(hh:hint<n)(h:∀ k,k<=n->(∀ i,i<k->bd left (rk key) (R rk arr (base+i))=true)->(∀ i,k<=i->i<n->bd left (rk key) (R rk arr (base+i))=false)->Q (some k) st):wpS (model prog w) A E s (dQ left key arr base n hint) Q st:=by
 have K:∀ i j,i<=j->j<n->bd left (rk key) (R rk arr (base+j))=true->bd left (rk key) (R rk arr (base+i))=true:=λi j J H b=>da (hu _ _ (by simp_all) (by simp_all) (by simp_all)) b
 have up:∀ i j,i<=j->j<n->bd left (rk key) (R rk arr (base+i))=false->bd left (rk key) (R rk arr (base+j))=false:=λi j J H b=>by
  cases q:bd left (rk key) (R rk arr (base+j)) with
  | false=>rfl
  | true=>rw[K i j J H q]at b;cases b
 refine Jh (oW C D y (g hint hh) ?_);dsimp only
 have half:∀ (lo hi:Nat) (f:Nat->Option (Option Nat) × Nat × Nat->StateT SortSt Sem (ForInStep (Option (Option Nat) × Nat × Nat))),lo<=hi->hi<=n ->
   (∀ i,i<lo->bd left (rk key) (R rk arr (base+i))=true)->(∀ i,hi<=i->i<n->bd left (rk key) (R rk arr (base+i))=false) ->
   (∀ x l r (u:ForInStep (Option (Option Nat) × Nat × Nat)->SortSt->Prop),(r<=l->u (.done (none,l,r)) st)->(l<r->r<=n->bd left (rk key) (R rk arr (base+(l+(r-l) / 2)))=true->u (.yield (none,l+(r-l) / 2+1,r)) st) ->
    (l<r->r<=n->bd left (rk key) (R rk arr (base+(l+(r-l) / 2)))=false->u (.yield (none,l,l+(r-l) / 2)) st)->r<=n->wpS (model prog w) A E s (f x (none,l,r)) u st) ->
   wpS (model prog w) A E s (forIn [:n] (none,lo,hi) f) (λc a=>a=st/\∃ k,c=(none,k,k)/\Q (some k) st) st:=by
  intro lo hi f J H h3 h4 hf;refine Yq (I:=λx c a=>a=st/\∃ l r,c=(none,l,r)/\l<=r/\r<=n/\r-l<=n-x/\(∀ i,i<l->bd left (rk key) (R rk arr (base+i))=true)/\(∀ i,r<=i->i<n->bd left (rk key) (R rk arr (base+i))=false)) ?_ ?_ ⟨rfl,lo,hi,rfl,J,H,by grind,h3,h4⟩
  ·rintro x c a _ V ⟨rfl,l,r,rfl,Z,e,m,M,L⟩
   refine hf x l r _ (λz=>?_) (λY X b=>?_) (λY X b=>?_) e
   ·obtain rfl:l=r:=by grind
    exact⟨rfl,l,rfl,h l e M L⟩
   ·exact⟨rfl,_,r,rfl,by grind,e,by grind,λi F=>K i _ (by grind) (by grind) b,L⟩
   ·exact⟨rfl,l,_,rfl,by simp_all,by grind,by omega,M,λi G B=>up _ i G B b⟩
  ·rintro c a ⟨rfl,l,r,rfl,Z,e,m,M,L⟩
   obtain rfl:l=r:=by grind
   exact⟨rfl,l,rfl,h l e M L⟩
 cases W:bd left (rk key) (R rk arr (base+hint)) with
 | true =>
  rw[Jg rfl]
  refine Jh (YY (Yq (I:=λx c a=>a=st/\∃ l o,c=(none,l,o)/\x+1<=o/\l<o/\hint+l<n/\bd left (rk key) (R rk arr (base+(hint+l)))=true)
   (Q:=λc a=>a=st/\∃ l o,c=(none,l,o)/\l<o/\hint+l<n/\bd left (rk key) (R rk arr (base+(hint+l)))=true/\(o<n-hint->bd left (rk key) (R rk arr (base+(hint+o)))=false)) ?_ ?_ ⟨rfl,0,1,rfl,by simp_all,by simp_all,by omega,W⟩) ?_)
  ·rintro x c a _ V ⟨rfl,l,o,rfl,N,d,ln,b⟩
   dsimp only;by_cases z:o>=n-hint
   ·rw[Jg z]
    exact Jf ⟨rfl,l,o,rfl,d,ln,b,λq=>by omega⟩
   ·rw[Je z]
    refine Jh (oW C D y (g (hint+o) (by grind)) ?_)
    cases q:bd left (rk key) (R rk arr (base+(hint+o))) with
    | true=>exact Jf ⟨rfl,o,2*o+1,rfl,by grind,by grind,by grind,q⟩
    | false=>exact Jf ⟨rfl,l,o,rfl,d,ln,b,λ_=>q⟩
  ·rintro c a ⟨rfl,l,o,rfl,N,d,ln,b⟩
   exact⟨rfl,l,o,rfl,d,ln,b,λq=>by grind⟩
  ·rintro c a ⟨rfl,l,o,rfl,d,ln,b,nb⟩
   dsimp only;refine Jh (YY (half _ _ _ (by omega) (by omega) (λi F=>K i _ (by grind) ln b) (λi G B=>?_) ?_) ?_)
   ·have q:o<n-hint:=by omega
    exact up _ i (by grind) B (nb q)
   ·intro x t v u T S O e
    dsimp only;by_cases z:t>=v
    ·rw[Jg z];exact Jf (T z)
    ·rw[Je z]
     refine Jh (oW C D y (g _ (by grind)) ?_)
     cases q:bd left (rk key) (R rk arr (base+(t+(v-t) / 2))) with
     | true=>exact Jf (S (by simp_all) e q)
     | false=>exact Jf (O (by simp_all) e q)
   ·rintro c a ⟨rfl,k,rfl,U⟩
    exact Jf U
 | false =>
  rw[Je Jj]
  refine Jh (YY (Yq (I:=λx c a=>a=st/\∃ l o,c=(none,l,o)/\x+1<=o/\l<o/\l<=hint/\bd left (rk key) (R rk arr (base+(hint-l)))=false)
   (Q:=λc a=>a=st/\∃ l o,c=(none,l,o)/\l<o/\l<=hint/\bd left (rk key) (R rk arr (base+(hint-l)))=false/\(o<hint+1->bd left (rk key) (R rk arr (base+(hint-o)))=true)) ?_ ?_ ⟨rfl,0,1,rfl,by simp_all,by simp_all,by simp_all,W⟩) ?_)
  ·rintro x c a _ V ⟨rfl,l,o,rfl,N,d,ln,b⟩
   dsimp only;by_cases z:o>=hint+1
   ·rw[Jg z]
    exact Jf ⟨rfl,l,o,rfl,d,ln,b,λq=>by omega⟩
   ·rw[Je z]
    refine Jh (oW C D y (g (hint-o) (by grind)) ?_)
    cases q:bd left (rk key) (R rk arr (base+(hint-o))) with
    | true=>exact Jf ⟨rfl,l,o,rfl,d,ln,b,λ_=>q⟩
    | false=>exact Jf ⟨rfl,o,2*o+1,rfl,by grind,by grind,by grind,q⟩
  ·rintro c a ⟨rfl,l,o,rfl,N,d,ln,b⟩
   exact⟨rfl,l,o,rfl,d,ln,b,λq=>by grind⟩
  ·rintro c a ⟨rfl,l,o,rfl,d,ln,b,nb⟩
   dsimp only;refine Jh (YY (half _ _ _ (by omega) (by grind) (λi F=>?_) (λi G B=>up _ i G B b) ?_) ?_)
   ·have q:o<hint+1:=by omega
    exact K i _ (by grind) (by grind) (nb q)
   ·intro x t v u T S O e
    dsimp only;by_cases z:t>=v
    ·rw[Jg z];exact Jf (T z)
    ·rw[Je z]
     refine Jh (oW C D y (g _ (by grind)) ?_)
     cases q:bd left (rk key) (R rk arr (base+(t+(v-t) / 2))) with
     | true=>exact Jf (S (by simp_all) e q)
     | false=>exact Jf (O (by simp_all) e q)
   ·rintro c a ⟨rfl,k,rfl,U⟩
    exact Jf U
end
noncomputable def Srt (rk:Keyed->Int)(l:List Keyed):Prop:=l.Pairwise λx y=>rk x<=rk y
structure Lo (rk:Keyed->Int) (T out a b:List Keyed):Prop where
 so:Srt rk out
 sa:Srt rk a
 sb:Srt rk b
 oa:∀ x∈out,∀ y∈a,rk x<=rk y
 ob:∀ x∈out,∀ y∈b,rk x<=rk y
 pm:(out++(a++b)).Perm T
section
variable {rk:Keyed->Int}{T out a b c:List Keyed}
theorem Lo.swap (h:Lo rk T out a b):Lo rk T out b a:=⟨h.so,h.sb,h.sa,h.ob,h.oa,((ZM (l₁:=b) (l₂:=a)).append_left out).trans h.pm⟩
theorem Lo.take (h:Lo rk T out (c++a) b)(le:∀ x∈c,∀ y∈b,rk x<=rk y):Lo rk T (out++c) a b:=by
 obtain⟨i,g,f⟩:=Yh.mp h.sa;refine⟨Yh.mpr ⟨h.so,i,λx e y d=>h.oa x e y (ZR _ d)⟩,g,h.sb,λx e y d=>?_,λx e y d=>?_,?_⟩
 ·rcases Ju.mp e with q|q
  ·exact h.oa x q y (JE _ d)
  ·exact f x q y d
 ·rcases Ju.mp e with q|q
  ·exact h.ob x q y d
  ·exact le x q y d
 ·have:=h.pm
  rw[Y2]at this ⊢;exact this
theorem Lo.end (h:Lo rk T out a []):(out++a).Perm T/\Srt rk (out++a):=by
 have:=h.pm;rw[Yt]at this;exact⟨this,Yh.mpr ⟨h.so,h.sa,h.oa⟩⟩
theorem Lo.lone (h:Lo rk T out a b)(le:∀ x∈b,∀ y∈a,rk x<=rk y):(out++b++a).Perm T/\Srt rk (out++b++a):=by
 refine⟨?_,Yh.mpr ⟨Yh.mpr ⟨h.so,h.sb,h.ob⟩,h.sa,λx d y c=>?_⟩⟩
 ·rw[Y2]
  exact((ZM (l₁:=b) (l₂:=a)).append_left out).trans h.pm
 ·rcases Ju.mp d with q|q
  ·exact h.oa x q y c
  ·exact le x q y c
theorem qL {arr:Array Keyed}{i:Nat}{p:Keyed}(e:arr[i]?=some p):arr.toList.drop i=p::arr.toList.drop (i+1):=by
 obtain⟨hi,e⟩:=JX.mp e;have a:i<arr.toList.length:=by rw[JD];exact hi
 rw[Yx a,Array.getElem_toList,e]
theorem tO (arr:Array Keyed)(i k:Nat):arr.toList.drop i=(arr.extract i (i+k)).toList++arr.toList.drop (i+k):=by
 rw[Zm,YZ,Nat.add_sub_cancel_left,<- List.drop_drop,ZN]
theorem vZ (arr:Array Keyed)(i:Nat):(arr.extract i).toList=arr.toList.drop i:=by
 rw[Zm,YZ];exact JR (by rw[Y9,JD];exact Jc _)
theorem cut_mem {arr:Array Keyed}{i k:Nat}{x:Keyed}(h:x∈(arr.extract i (i+k)).toList):∃ j,j<k/\arr[i+j]?=some x:=by
 rw[Zm,YZ,Nat.add_sub_cancel_left]at h;obtain⟨j,a⟩:=Zh.mp h
 have b:j<k:=by
  have:=(Ja.mp a).1;rw[Js]at this;grind
 rw[Z5 b,List.getElem?_drop]at a;exact⟨j,b,by rw[<- Y8];exact a⟩
theorem xY {arr:Array Keyed}{i:Nat}{x:Keyed}(h:x∈arr.toList.drop i):∃ j,arr[i+j]?=some x:=by
 obtain⟨j,a⟩:=Zh.mp h;rw[List.getElem?_drop]at a;exact⟨j,by rw[<- Y8];exact a⟩
theorem R_at {arr:Array Keyed}{i:Nat}{p:Keyed}(e:arr[i]?=some p):R rk arr i=rk p:=by unfold R;rw[e]
theorem xc {arr:Array Keyed}(h:Srt rk arr.toList){base n:Nat}(hn:base+n<=arr.size):Up rk arr base n:=by
 intro i j hi c d;have b:arr[i]?=some arr[i]:=getElem?_pos arr i (by lia);have a:arr[j]?=some arr[j]:=getElem?_pos arr j (by lia);rw[R_at b,R_at a];by_cases z:i=j
 ·subst z;exact ZS _
 ·have:=List.pairwise_iff_getElem.mp h i j (by rw[JD];grind) (by rw[JD];lia) (by lia)
  simpa using this
theorem xg {arr:Array Keyed}{i:Nat}{p:Keyed}(h:Srt rk arr.toList)(e:arr[i]?=some p):∀ y∈arr.toList.drop i,rk p<=rk y:=by
 have a:Srt rk (arr.toList.drop i):=List.Pairwise.drop h;rw[qL e]at a ⊢;obtain⟨c,_⟩:=List.pairwise_cons.mp a;intro y b;rcases Jq.mp b with rfl|q
 ·exact ZS _
 ·exact c y q
end
section
variable {rk:Keyed->Int}{T:List Keyed}{out a b:Array Keyed}{ia ib k:Nat}{p:Keyed}
noncomputable abbrev At (rk:Keyed->Int)(T:List Keyed)(out a b:Array Keyed)(ia ib:Nat):Prop:=Lo rk T out.toList (a.toList.drop ia) (b.toList.drop ib)
theorem At.pushA (h:At rk T out a b ia ib)(e:a[ia]?=some p)(le:∀ y∈b.toList.drop ib,rk p<=rk y):At rk T (out.push p) a b (ia+1) ib:=by
 have d:=h;unfold At at d ⊢;rw[qL e]at d;rw[Zi];exact Lo.take (c:=[p]) d λx g y f=>by rw[Jd.mp g];exact le y f
theorem At.pushB (h:At rk T out a b ia ib)(e:b[ib]?=some p)(le:∀ y∈a.toList.drop ia,rk p<=rk y):At rk T (out.push p) a b ia (ib+1):=(At.pushA (a:=b) (b:=a) h.swap e le).swap
theorem At.cutA (h:At rk T out a b ia ib)(le:∀ j x,j<k->a[ia+j]?=some x->∀ y∈b.toList.drop ib,rk x<=rk y):At rk T (out++a.extract ia (ia+k)) a b (ia+k) ib:=by
 have c:=h;unfold At at c ⊢;rw[tO a ia k]at c;rw[Y5]
 exact Lo.take c λx g y f=>by
  obtain⟨j,d,e⟩:=cut_mem g;exact le j x d e y f
theorem At.cutB (h:At rk T out a b ia ib)(le:∀ j x,j<k->b[ib+j]?=some x->∀ y∈a.toList.drop ia,rk x<=rk y):At rk T (out++b.extract ib (ib+k)) a b ia (ib+k):=(At.cutA (a:=b) (b:=a) h.swap le).swap
theorem At.endB (h:At rk T out a b ia ib)(z:b.size<=ib):(out++a.extract ia++b.extract ib).toList.Perm T/\Srt rk (out++a.extract ia++b.extract ib).toList:=by
 have c:=h;unfold At at c;have e:b.toList.drop ib=[]:=List.drop_eq_nil_iff.mpr (by rw[JD];exact z);rw[e]at c;rw[Y5,Y5,vZ,vZ,e,Yt];exact c.end
theorem At.endA (h:At rk T out a b ia ib)(z:a.size<=ia):(out++a.extract ia++b.extract ib).toList.Perm T/\Srt rk (out++a.extract ia++b.extract ib).toList:=by
 have c:=h.swap;have e:a.toList.drop ia=[]:=List.drop_eq_nil_iff.mpr (by rw[JD];exact z);rw[e]at c;rw[Y5,Y5,vZ,vZ,e,Yt];exact c.end
theorem At.lastA (h:At rk T out a b ia ib)(le:∀ x∈b.toList.drop ib,∀ y∈a.toList.drop ia,rk x<=rk y):(out++b.extract ib++a.extract ia).toList.Perm T/\Srt rk (out++b.extract ib++a.extract ia).toList:=by
 rw[Y5,Y5,vZ,vZ];exact Lo.lone h le
end
noncomputable def gH:Array Keyed->Array Keyed->StateT SortSt Sem (Array Keyed):=sortPriv% PySem.Builtin.mergeLo
noncomputable def fg:Nat->StateT SortSt Sem Unit:=sortPriv% PySem.Builtin.setMinGallop
structure Sm (st st':SortSt):Prop where
 kind:kindOf st'=kindOf st
 arr:arrOf st'=arrOf st
 pend:pendingOf st'=pendingOf st
 fail:failedOf st'=failedOf st
theorem Sm.refl (st:SortSt):Sm st st:=⟨rfl,rfl,rfl,rfl⟩
theorem Sm.trans {a b c:SortSt}(h:Sm a b)(g:Sm b c):Sm a c:=⟨g.kind.trans h.kind,g.arr.trans h.arr,g.pend.trans h.pend,g.fail.trans h.fail⟩
section
variable {prog:Program}{w:World}{A:Around}{E:Value->Shared->Prop}{s:Shared}{κ:SortKind}{P:Keyed->Prop}{rk:Keyed->Int}
theorem vW {st:SortSt}{g:Nat}{Q:Unit->SortSt->Prop}(h:∀ st',Sm st st'->Q () st'):wpS (model prog w) A E s (fg g) Q st :=
 W0 (h _ ⟨rfl,rfl,rfl,rfl⟩)
theorem ag (C:Cmp prog w A s κ P rk){st:SortSt}{a b:Array Keyed}{Q:Array Keyed->SortSt->Prop}(hk:kindOf st=κ)(pa:∀ x∈a.toList,P x)(pb:∀ x∈b.toList,P x)(sa:Srt rk a.toList)(sb:Srt rk b.toList)(a1:1<=a.size)(b1:1<=b.size)(first:∀ x,b[0]?=some x->∀ y∈a.toList,rk x<=rk y)(last:∀ x,a[a.size-1]?=some x->∀ y∈b.toList,rk y<=rk x)(h:∀ r st',Sm st st'->r.toList.Perm (a.toList++b.toList)->Srt rk r.toList->Q r st'):wpS (model prog w) A E s (gH a b) Q st:=by
 have V:∀ i,i<a.size->∃ x,a[i]?=some x/\P x:=λi hi=>⟨_,getElem?_pos a i hi,pa _ (by simp)⟩;have U:∀ i,i<b.size->∃ x,b[i]?=some x/\P x:=λi hi=>⟨_,getElem?_pos b i hi,pb _ (by simp)⟩;obtain⟨b0,e0,_⟩:=U 0 b1
 have lone:∀ {out:Array Keyed}{d f:Nat},At rk (a.toList++b.toList) out a b d f->d+1=a.size->(out++b.extract f++a.extract d).toList.Perm (a.toList++b.toList)/\Srt rk (out++b.extract f++a.extract d).toList:=λ{out d f} L z=>L.lastA λx hx y hy=>by
  obtain⟨j,ej⟩:=xY hy;have:=(JX.mp ej).1;exact last y (by rw[show a.size-1=d+j by lia];exact ej) x (Zn hx)
 have L0:At rk (a.toList++b.toList) #[b0] a b 0 1:=by
  have e:=qL e0;rw[ZG]at e;have hb:=sb;unfold Srt at hb;rw[e]at hb;obtain⟨h1,h2⟩:=List.pairwise_cons.mp hb;refine⟨List.pairwise_singleton _ _,by rw[ZG];exact sa,h2,λx hx y hy=>?_,λx hx y hy=>?_,?_⟩
  ·rw[Jd.mp hx];exact first b0 e0 y (Zn hy)
  ·rw[Jd.mp hx];exact h1 y hy
  ·rw[ZG]
   conv=>rhs;rw[e]
   show (b0::(a.toList++b.toList.drop 1)).Perm (a.toList++b0::b.toList.drop 1);exact List.perm_middle.symm
 have size:∀ {out:Array Keyed}{d f:Nat},At rk (a.toList++b.toList) out a b d f->out.size<=a.size+b.size:=λ{out d f} L=>by
  have:=L.pm.length_eq;simp only[Jb,JD]at this;lia
 refine Jh (wR ?_);refine Jh (zR e0 ?_);dsimp only;by_cases z1:1=b.size
 ·rw[Jg (by simpa using z1)]
  obtain⟨n,m⟩:=L0.endB (by simp_all);exact Jf (h _ _ (Sm.refl _) n m)
 rw[Je (by simpa using z1)];by_cases z2:0+1=a.size
 ·rw[Jg (by simpa using z2)]
  obtain⟨n,m⟩:=lone L0 z2;exact Jf (h _ _ (Sm.refl _) n m)
 rw[Je (by simpa using z2)];refine Jh (ZZ ?_)
 refine Jh (YY (Yq (I:=λi c N=>Sm st N/\∃ out d f g,c=(none,out,d,f,g)/\At rk (a.toList++b.toList) out a b d f/\d+1<a.size/\f<b.size/\i+1<=out.size)
  (Q:=λc N=>Sm st N/\∃ r x,c=(some r,x)/\r.toList.Perm (a.toList++b.toList)/\Srt rk r.toList) ?step ?fin ⟨Sm.refl _,_,_,_,_,rfl,L0,by lia,by lia,by simp⟩) ?post)
 case post =>
  rintro c N ⟨S1,r,x,rfl,n,m⟩;exact Jf (h _ _ S1 n m)
 case fin =>
  rintro c N ⟨S1,out,d,f,g,rfl,L,_,_,sz⟩;have:=size L;lia
 case step =>
  rintro i c N _ hi ⟨S1,out,d,f,g,rfl,L,X,W,sz⟩;dsimp only
  refine Jh (YY (Yq (I:=λj c ab=>ab=N/\∃ out d f ca Y,c=(none,out,d,f,ca,Y)/\At rk (a.toList++b.toList) out a b d f/\d+1<a.size/\f<b.size/\i+1+j<=out.size)
   (Q:=λc ab=>ab=N/\((∃ r x,c=(some r,x)/\r.toList.Perm (a.toList++b.toList)/\Srt rk r.toList)\/∃ out d f ca Y,c=(none,out,d,f,ca,Y)/\At rk (a.toList++b.toList) out a b d f/\d+1<a.size/\f<b.size/\i+2<=out.size)) ?_ ?_ ⟨rfl,_,_,_,_,_,rfl,L,X,W,by omega⟩) ?_)
  ·rintro j c ab _ hj ⟨rfl,out,d,f,ca,Y,rfl,L,X,W,sz⟩
   dsimp only;obtain⟨x,ex,px⟩:=V d (by lia);obtain⟨y,K,py⟩:=U f W;refine Jh (zR K (Jh (zR ex (Jh (pY C (S1.kind.trans hk) py px ?_)))));by_cases z:rk y<rk x
   ·rw[Jx z]
    dsimp only;rw[Jg rfl];have L':=L.pushB K λu O=>Zq (Int.le_of_lt z) (xg sa ex u O);refine Jh (zR K ?_);by_cases J:f+1=b.size
    ·rw[Jg (by simpa using J)]
     obtain⟨n,m⟩:=L'.endB (by simp_all);exact Jf ⟨rfl,.inl ⟨_,_,rfl,n,m⟩⟩
    ·rw[Je (by simpa using J)]
     by_cases zg:Y+1>=g
     ·rw[Jg zg]
      exact Jf ⟨rfl,.inr ⟨_,_,_,_,_,rfl,L',X,by lia,by rw[Jy];lia⟩⟩
     ·rw[Je zg]
      exact Jf ⟨rfl,_,_,_,_,_,rfl,L',X,by lia,by rw[Jy];lia⟩
   ·rw[Jr z]
    dsimp only;rw[Je Jj];have L':=L.pushA ex λu O=>Zq (by simp_all) (xg sb K u O);refine Jh (zR ex ?_);by_cases J:d+1+1=a.size
    ·rw[Jg (by simpa using J)]
     obtain⟨n,m⟩:=lone L' J;exact Jf ⟨rfl,.inl ⟨_,_,rfl,n,m⟩⟩
    ·rw[Je (by simpa using J)]
     by_cases zg:ca+1>=g
     ·rw[Jg zg]
      exact Jf ⟨rfl,.inr ⟨_,_,_,_,_,rfl,L',by lia,W,by rw[Jy];lia⟩⟩
     ·rw[Je zg]
      exact Jf ⟨rfl,_,_,_,_,_,rfl,L',by lia,W,by rw[Jy];lia⟩
  ·rintro c ab ⟨rfl,out,d,f,ca,Y,rfl,L,X,W,sz⟩
   have:=size L;omega
  ·rintro c ab ⟨rfl,⟨r,x,rfl,n,m⟩|⟨out,d,f,ca,Y,rfl,L,X,W,sz⟩⟩
   ·exact Jf ⟨S1,r,_,rfl,n,m⟩
   dsimp only;refine Jh (wR ?_)
   refine Jh (YY (Yq (I:=λj c Z=>Sm st Z/\∃ out d f g ca Y,c=(none,out,d,f,g,ca,Y)/\At rk (a.toList++b.toList) out a b d f/\d+1<a.size/\f<b.size/\i+2<=out.size)
    (Q:=λc Z=>Sm st Z/\((∃ r x,c=(some r,x)/\r.toList.Perm (a.toList++b.toList)/\Srt rk r.toList)\/∃ out d f g ca Y,c=(none,out,d,f,g,ca,Y)/\At rk (a.toList++b.toList) out a b d f/\d+1<a.size/\f<b.size/\i+2<=out.size)) ?_ ?_ ⟨S1,_,_,_,_,_,_,rfl,L,X,W,sz⟩) ?_)
   ·rintro j c Z _ hj ⟨S3,out,d,f,g,ca,Y,rfl,L,X,W,sz⟩
    dsimp only;obtain⟨y,K,py⟩:=U f W;by_cases zg:g > 1
    ·rw[Jg zg]
     refine Jh (vW λaT o=>?_);have o:=S3.trans o;refine Jh (zR K (Jh (y9 C (o.kind.trans hk) py (λt ht=>V (d+t) (by lia)) (xc sa (by lia)) (by lia) λk a0 g1 g2=>?_)));dsimp only
     have R:=L.cutA (k:=k) λt u tk eu v hv=>by
      have:=g1 t tk;rw[R_at eu]at this;unfold bd at this;simp only[Y7,Z3,ZH,JW]at this;have:=xg sb K v hv;lia
     have hle:∀ u∈a.toList.drop (d+k),rk y<=rk u:=λu O=>by
      obtain⟨t,M⟩:=xY O;have tl:=(JX.mp M).1;have:=g2 (k+t) (by lia) (by lia);rw[<- Zg,R_at M]at this;unfold bd at this;simp only[Y7,Z3,W2,Y3]at this;lia
     have G:i+2<=(out++a.extract d (d+k)).size:=by rw[Jw];lia
     by_cases zk:k > 0
     ·rw[Jg zk]
      by_cases za:d+k+1=a.size
      ·rw[Jg (by simpa using za)]
       obtain⟨n,m⟩:=lone R za;exact Jf ⟨o,.inl ⟨_,_,rfl,n,m⟩⟩
      rw[Je (by simpa using za)];by_cases zc:d+k=a.size
      ·rw[Jg (by simpa using zc)]
       obtain⟨n,m⟩:=R.endA (by simp_all);exact Jf ⟨o,.inl ⟨_,_,rfl,n,m⟩⟩
      rw[Je (by simpa using zc)];have la1:d+k+1<a.size:=by lia
      generalize d+k=T at R hle la1 G ⊢;generalize out++a.extract d T=out1 at R G ⊢;refine Jh (zR K ?_);have L2:=R.pushB K hle;by_cases J:f+1=b.size
      ·rw[Jg (by simpa using J)]
       obtain⟨n,m⟩:=L2.endB (by simp_all);exact Jf ⟨o,.inl ⟨_,_,rfl,n,m⟩⟩
      rw[Je (by simpa using J)];obtain⟨x1,l,S⟩:=V _ (Nat.lt_of_succ_lt la1);refine Jh (zR l (Jh (y9 C (o.kind.trans hk) S (λt ht=>U (f+1+t) (by grind)) (xc sb (by grind)) (by grind) λB ax c1 c2=>?_)));dsimp only
      have L3:=L2.cutB (k:=B) λt u tk eu v hv=>by
       have:=c1 t tk;rw[R_at eu]at this;unfold bd at this;simp only[Yu,Y3]at this;have:=xg sa l v hv;lia
      have p:∀ u∈b.toList.drop (f+1+B),rk x1<=rk u:=λu O=>by
       obtain⟨t,M⟩:=xY O;have tl:=(JX.mp M).1;have:=c2 (B+t) (by lia) (by grind);rw[<- Zg,R_at M]at this;unfold bd at this;simp only[Yu,JW]at this
       simp_all
      have ao:=G;by_cases F:B > 0
      ·rw[Jg F]
       by_cases zd:f+1+B=b.size
       ·rw[Jg (by simpa using zd)]
        obtain⟨n,m⟩:=L3.endB (by simp_all);exact Jf ⟨o,.inl ⟨_,_,rfl,n,m⟩⟩
       rw[Je (by simpa using zd)];have H:f+1+B<b.size:=by grind
       refine Jh (zR l ?_);have D:=L3.pushA l p;by_cases q:T+1+1=a.size
       ·rw[Jg (by simpa using q)]
        obtain⟨n,m⟩:=lone D q;exact Jf ⟨o,.inl ⟨_,_,rfl,n,m⟩⟩
       rw[Je (by simpa using q)];split
       ·exact Jf ⟨o,.inr ⟨_,_,_,_,_,_,rfl,D,by lia,H,by simp only[Jy,Jw];lia⟩⟩
       ·exact Jf ⟨o,_,_,_,_,_,_,rfl,D,by lia,H,by simp only[Jy,Jw];lia⟩
      ·rw[Je F]
       obtain rfl:B=0:=by simp_all
       rw[Zc]at p;refine Jh (zR l ?_);have D:=L2.pushA l p;by_cases q:T+1+1=a.size
       ·rw[Jg (by simpa using q)]
        obtain⟨n,m⟩:=lone D q;exact Jf ⟨o,.inl ⟨_,_,rfl,n,m⟩⟩
       rw[Je (by simpa using q)];split
       ·exact Jf ⟨o,.inr ⟨_,_,_,_,_,_,rfl,D,by lia,by lia,by simp only[Jy,Jw];lia⟩⟩
       ·exact Jf ⟨o,_,_,_,_,_,_,rfl,D,by lia,by lia,by simp only[Jy,Jw];lia⟩
     ·rw[Je zk]
      obtain rfl:k=0:=by simp_all
      have R:=L;have la1:=X;have G:=sz;rw[Zc]at hle;refine Jh (zR K ?_);have L2:=R.pushB K hle;by_cases J:f+1=b.size
      ·rw[Jg (by simpa using J)]
       obtain⟨n,m⟩:=L2.endB (by simp_all);exact Jf ⟨o,.inl ⟨_,_,rfl,n,m⟩⟩
      rw[Je (by simpa using J)];obtain⟨x1,l,S⟩:=V _ (Nat.lt_of_succ_lt la1);refine Jh (zR l (Jh (y9 C (o.kind.trans hk) S (λt ht=>U (f+1+t) (by grind)) (xc sb (by grind)) (by grind) λB ax c1 c2=>?_)));dsimp only
      have L3:=L2.cutB (k:=B) λt u tk eu v hv=>by
       have:=c1 t tk;rw[R_at eu]at this;unfold bd at this;simp only[Yu,Y3]at this;have:=xg sa l v hv;lia
      have p:∀ u∈b.toList.drop (f+1+B),rk x1<=rk u:=λu O=>by
       obtain⟨t,M⟩:=xY O;have tl:=(JX.mp M).1;have:=c2 (B+t) (by lia) (by grind);rw[<- Zg,R_at M]at this;unfold bd at this;simp only[Yu,JW]at this
       simp_all
      have ao:=G;by_cases F:B > 0
      ·rw[Jg F]
       by_cases zd:f+1+B=b.size
       ·rw[Jg (by simpa using zd)]
        obtain⟨n,m⟩:=L3.endB (by simp_all);exact Jf ⟨o,.inl ⟨_,_,rfl,n,m⟩⟩
       rw[Je (by simpa using zd)];have H:f+1+B<b.size:=by grind
       refine Jh (zR l ?_);have D:=L3.pushA l p;by_cases q:d+1+1=a.size
       ·rw[Jg (by simpa using q)]
        obtain⟨n,m⟩:=lone D q;exact Jf ⟨o,.inl ⟨_,_,rfl,n,m⟩⟩
       rw[Je (by simpa using q)];split
       ·exact Jf ⟨o,.inr ⟨_,_,_,_,_,_,rfl,D,by lia,H,by simp only[Jy,Jw];lia⟩⟩
       ·exact Jf ⟨o,_,_,_,_,_,_,rfl,D,by lia,H,by simp only[Jy,Jw];lia⟩
      ·rw[Je F]
       obtain rfl:B=0:=by simp_all
       rw[Zc]at p;refine Jh (zR l ?_);have D:=L2.pushA l p;by_cases q:d+1+1=a.size
       ·rw[Jg (by simpa using q)]
        obtain⟨n,m⟩:=lone D q;exact Jf ⟨o,.inl ⟨_,_,rfl,n,m⟩⟩
       rw[Je (by simpa using q)];split
       ·exact Jf ⟨o,.inr ⟨_,_,_,_,_,_,rfl,D,by lia,by lia,by simp only[Jy,Jw];lia⟩⟩
       ·exact Jf ⟨o,_,_,_,_,_,_,rfl,D,by simp_all,by lia,by simp only[Jy,Jw];simp_all⟩
    ·rw[Je zg]
     refine Jh (vW λaT o=>?_);have o:=S3.trans o;refine Jh (zR K (Jh (y9 C (o.kind.trans hk) py (λt ht=>V (d+t) (by grind)) (xc sa (by grind)) (by grind) λk a0 g1 g2=>?_)));dsimp only
     have R:=L.cutA (k:=k) λt u tk eu v hv=>by
      have:=g1 t tk;rw[R_at eu]at this;unfold bd at this;simp only[Y7,Z3,ZH,JW]at this;have:=xg sb K v hv;lia
     have hle:∀ u∈a.toList.drop (d+k),rk y<=rk u:=λu O=>by
      obtain⟨t,M⟩:=xY O;have tl:=(JX.mp M).1;have:=g2 (k+t) (by lia) (by grind);rw[<- Zg,R_at M]at this;unfold bd at this;simp only[Y7,Z3,W2,Y3]at this;lia
     have G:i+2<=(out++a.extract d (d+k)).size:=by rw[Jw];lia
     by_cases zk:k > 0
     ·rw[Jg zk]
      by_cases za:d+k+1=a.size
      ·rw[Jg (by simpa using za)]
       obtain⟨n,m⟩:=lone R za;exact Jf ⟨o,.inl ⟨_,_,rfl,n,m⟩⟩
      rw[Je (by simpa using za)];by_cases zc:d+k=a.size
      ·rw[Jg (by simpa using zc)]
       obtain⟨n,m⟩:=R.endA (by simp_all);exact Jf ⟨o,.inl ⟨_,_,rfl,n,m⟩⟩
      rw[Je (by simpa using zc)];have la1:d+k+1<a.size:=by grind
      generalize d+k=T at R hle la1 G ⊢;generalize out++a.extract d T=out1 at R G ⊢;refine Jh (zR K ?_);have L2:=R.pushB K hle;by_cases J:f+1=b.size
      ·rw[Jg (by simpa using J)]
       obtain⟨n,m⟩:=L2.endB (by simp_all);exact Jf ⟨o,.inl ⟨_,_,rfl,n,m⟩⟩
      rw[Je (by simpa using J)];obtain⟨x1,l,S⟩:=V _ (Nat.lt_of_succ_lt la1);refine Jh (zR l (Jh (y9 C (o.kind.trans hk) S (λt ht=>U (f+1+t) (by grind)) (xc sb (by grind)) (by grind) λB ax c1 c2=>?_)));dsimp only
      have L3:=L2.cutB (k:=B) λt u tk eu v hv=>by
       have:=c1 t tk;rw[R_at eu]at this;unfold bd at this;simp only[Yu,Y3]at this;have:=xg sa l v hv;lia
      have p:∀ u∈b.toList.drop (f+1+B),rk x1<=rk u:=λu O=>by
       obtain⟨t,M⟩:=xY O;have tl:=(JX.mp M).1;have:=c2 (B+t) (by lia) (by grind);rw[<- Zg,R_at M]at this;unfold bd at this;simp only[Yu,JW]at this
       simp_all
      have ao:=G;by_cases F:B > 0
      ·rw[Jg F]
       by_cases zd:f+1+B=b.size
       ·rw[Jg (by simpa using zd)]
        obtain⟨n,m⟩:=L3.endB (by simp_all);exact Jf ⟨o,.inl ⟨_,_,rfl,n,m⟩⟩
       rw[Je (by simpa using zd)];have H:f+1+B<b.size:=by grind
       refine Jh (zR l ?_);have D:=L3.pushA l p;by_cases q:T+1+1=a.size
       ·rw[Jg (by simpa using q)]
        obtain⟨n,m⟩:=lone D q;exact Jf ⟨o,.inl ⟨_,_,rfl,n,m⟩⟩
       rw[Je (by simpa using q)];split
       ·exact Jf ⟨o,.inr ⟨_,_,_,_,_,_,rfl,D,by lia,H,by simp only[Jy,Jw];lia⟩⟩
       ·exact Jf ⟨o,_,_,_,_,_,_,rfl,D,by lia,H,by simp only[Jy,Jw];lia⟩
      ·rw[Je F]
       obtain rfl:B=0:=by simp_all
       rw[Zc]at p;refine Jh (zR l ?_);have D:=L2.pushA l p;by_cases q:T+1+1=a.size
       ·rw[Jg (by simpa using q)]
        obtain⟨n,m⟩:=lone D q;exact Jf ⟨o,.inl ⟨_,_,rfl,n,m⟩⟩
       rw[Je (by simpa using q)];split
       ·exact Jf ⟨o,.inr ⟨_,_,_,_,_,_,rfl,D,by lia,by lia,by simp only[Jy,Jw];lia⟩⟩
       ·exact Jf ⟨o,_,_,_,_,_,_,rfl,D,by lia,by lia,by simp only[Jy,Jw];lia⟩
     ·rw[Je zk]
      obtain rfl:k=0:=by simp_all
      have R:=L;have la1:=X;have G:=sz;rw[Zc]at hle;refine Jh (zR K ?_);have L2:=R.pushB K hle;by_cases J:f+1=b.size
      ·rw[Jg (by simpa using J)]
       obtain⟨n,m⟩:=L2.endB (by simp_all);exact Jf ⟨o,.inl ⟨_,_,rfl,n,m⟩⟩
      rw[Je (by simpa using J)];obtain⟨x1,l,S⟩:=V _ (Nat.lt_of_succ_lt la1);refine Jh (zR l (Jh (y9 C (o.kind.trans hk) S (λt ht=>U (f+1+t) (by grind)) (xc sb (by grind)) (by grind) λB ax c1 c2=>?_)));dsimp only
      have L3:=L2.cutB (k:=B) λt u tk eu v hv=>by
       have:=c1 t tk;rw[R_at eu]at this;unfold bd at this;simp only[Yu,Y3]at this;have:=xg sa l v hv;lia
      have p:∀ u∈b.toList.drop (f+1+B),rk x1<=rk u:=λu O=>by
       obtain⟨t,M⟩:=xY O;have tl:=(JX.mp M).1;have:=c2 (B+t) (by lia) (by grind);rw[<- Zg,R_at M]at this;unfold bd at this;simp only[Yu,JW]at this
       simp_all
      have ao:=G;by_cases F:B > 0
      ·rw[Jg F]
       by_cases zd:f+1+B=b.size
       ·rw[Jg (by simpa using zd)]
        obtain⟨n,m⟩:=L3.endB (by simp_all);exact Jf ⟨o,.inl ⟨_,_,rfl,n,m⟩⟩
       rw[Je (by simpa using zd)];have H:f+1+B<b.size:=by grind
       refine Jh (zR l ?_);have D:=L3.pushA l p;by_cases q:d+1+1=a.size
       ·rw[Jg (by simpa using q)]
        obtain⟨n,m⟩:=lone D q;exact Jf ⟨o,.inl ⟨_,_,rfl,n,m⟩⟩
       rw[Je (by simpa using q)];split
       ·exact Jf ⟨o,.inr ⟨_,_,_,_,_,_,rfl,D,by lia,H,by simp only[Jy,Jw];lia⟩⟩
       ·exact Jf ⟨o,_,_,_,_,_,_,rfl,D,by lia,H,by simp only[Jy,Jw];lia⟩
      ·rw[Je F]
       obtain rfl:B=0:=by simp_all
       rw[Zc]at p;refine Jh (zR l ?_);have D:=L2.pushA l p;by_cases q:d+1+1=a.size
       ·rw[Jg (by simpa using q)]
        obtain⟨n,m⟩:=lone D q;exact Jf ⟨o,.inl ⟨_,_,rfl,n,m⟩⟩
       rw[Je (by simpa using q)];split
       ·exact Jf ⟨o,.inr ⟨_,_,_,_,_,_,rfl,D,by lia,by lia,by simp only[Jy,Jw];lia⟩⟩
       ·exact Jf ⟨o,_,_,_,_,_,_,rfl,D,by simp_all,by lia,by simp only[Jy,Jw];simp_all⟩
   ·rintro c Z ⟨S3,out,d,f,g,ca,Y,rfl,L,X,W,sz⟩
    exact⟨S3,.inr ⟨_,_,_,_,_,_,rfl,L,X,W,sz⟩⟩
   ·rintro c Z ⟨S3,⟨r,x,rfl,n,m⟩|⟨out,d,f,g,ca,Y,rfl,L,X,W,sz⟩⟩
    ·exact Jf ⟨S3,r,_,rfl,n,m⟩
    dsimp only;refine Jh (vW λaT o=>?_);exact Jf ⟨S3.trans o,_,_,_,_,rfl,L,X,W,by omega⟩
end
noncomputable def gI:Array Keyed->Array Keyed->StateT SortSt Sem (Array Keyed):=sortPriv% PySem.Builtin.mergeHi
structure Hi (rk:Keyed->Int) (T a b out:List Keyed):Prop where
 sa:Srt rk a
 sb:Srt rk b
 so:Srt rk out
 ao:∀ x∈a,∀ y∈out,rk x<=rk y
 bo:∀ x∈b,∀ y∈out,rk x<=rk y
 pm:(a++b++out).Perm T
section
variable {rk:Keyed->Int}{T out a b c:List Keyed}
theorem Hi.swap (h:Hi rk T a b out):Hi rk T b a out:=⟨h.sb,h.sa,h.so,h.bo,h.ao,((ZM (l₁:=b) (l₂:=a)).append_right out).trans h.pm⟩
theorem Hi.take (h:Hi rk T (a++c) b out)(le:∀ x∈b,∀ y∈c,rk x<=rk y):Hi rk T a b (c++out):=by
 obtain⟨i,g,f⟩:=Yh.mp h.sa;refine⟨i,h.sb,Yh.mpr ⟨g,h.so,λx d y e=>h.ao x (JE _ d) y e⟩,λx d y e=>?_,λx d y e=>?_,?_⟩
 ·rcases Ju.mp e with q|q
  ·exact f x d y q
  ·exact h.ao x (ZR _ d) y q
 ·rcases Ju.mp e with q|q
  ·exact le x d y q
  ·exact h.bo x d y q
 ·refine List.Perm.trans ?_ h.pm
  rw[<- Y2];refine List.Perm.append_right out ?_;rw[Y2,Y2];exact List.Perm.append_left a ZM
theorem Hi.end (h:Hi rk T [] b out):(b++out).Perm T/\Srt rk (b++out):=⟨h.pm,Yh.mpr ⟨h.sb,h.so,h.bo⟩⟩
theorem Hi.lone (h:Hi rk T a b out)(le:∀ x∈b,∀ y∈a,rk x<=rk y):(b++a++out).Perm T/\Srt rk (b++a++out):=by
 refine⟨((ZM (l₁:=b) (l₂:=a)).append_right out).trans h.pm,Yh.mpr ⟨Yh.mpr ⟨h.sb,h.sa,le⟩,h.so,λx d y c=>?_⟩⟩;rcases Ju.mp d with q|q
 ·exact h.bo x q y c
 ·exact h.ao x q y c
theorem fG {arr:Array Keyed}{n:Nat}{p:Keyed}(b:1<=n)(e:arr[n-1]?=some p):arr.toList.take n=arr.toList.take (n-1)++[p]:=by
 obtain⟨hi,e⟩:=JX.mp e;have a:n-1<arr.toList.length:=by rw[JD];exact hi
 have:=Yr a;rw[Nat.sub_add_cancel b,Array.getElem_toList,e]at this;exact this
theorem j5 (arr:Array Keyed){i n:Nat}(h:i<=n):arr.toList.take n=arr.toList.take i++(arr.extract i n).toList:=by
 rw[Zm,YZ];have:=List.take_add (l:=arr.toList) (i:=i) (j:=n-i);rw[show i+(n-i)=n by simp_all]at this;exact this
theorem wt (arr:Array Keyed)(n:Nat):(arr.extract 0 n).toList=arr.toList.take n:=by
 rw[Zm,YZ,ZG,Nat.sub_zero]
theorem wu {arr:Array Keyed}{i n:Nat}{x:Keyed}(h:x∈(arr.extract i n).toList):∃ j,i<=j/\j<n/\arr[j]?=some x:=by
 rw[Zm,YZ]at h;obtain⟨j,a⟩:=Zh.mp h
 have b:j<n-i:=by
  have:=(Ja.mp a).1;rw[Js]at this;grind
 rw[Z5 b,List.getElem?_drop]at a;exact⟨i+j,by lia,by omega,by rw[<- Y8];exact a⟩
theorem xE {arr:Array Keyed}{n:Nat}{x:Keyed}(h:x∈arr.toList.take n):∃ j,j<n/\arr[j]?=some x:=by
 obtain⟨j,a⟩:=Zh.mp h
 have b:j<n:=by
  have:=(Ja.mp a).1;rw[Js]at this;grind
 rw[Z5 b]at a;exact⟨j,b,by rw[<- Y8];exact a⟩
theorem xJ {arr:Array Keyed}{n:Nat}{p:Keyed}(h:Srt rk arr.toList)(f:1<=n)(e:arr[n-1]?=some p):∀ y∈arr.toList.take n,rk y<=rk p:=by
 intro y a;obtain⟨j,c,b⟩:=xE a;have d:=(JX.mp e).1;have:=xc h (base:=0) (n:=n) (by lia) j (n-1) (JN _) (by lia) (by lia);rw[R_at b,R_at e]at this;exact this
end
section
variable {rk:Keyed->Int}{T:List Keyed}{out a b:Array Keyed}{na nb i:Nat}{p:Keyed}
noncomputable abbrev Bt (rk:Keyed->Int)(T:List Keyed)(a b out:Array Keyed)(na nb:Nat):Prop:=Hi rk T (a.toList.take na) (b.toList.take nb) out.toList.reverse
theorem Bt.pushA (h:Bt rk T a b out na nb)(i:1<=na)(e:a[na-1]?=some p)(le:∀ x∈b.toList.take nb,rk x<=rk p):Bt rk T a b (out.push p) (na-1) nb:=by
 have d:=h;unfold Bt at d ⊢;rw[fG i e]at d;rw[Zi,List.reverse_append];exact Hi.take (c:=[p]) d λx g y f=>by rw[Jd.mp f];exact le x g
theorem Bt.pushB (h:Bt rk T a b out na nb)(c:1<=nb)(e:b[nb-1]?=some p)(le:∀ x∈a.toList.take na,rk x<=rk p):Bt rk T a b (out.push p) na (nb-1):=(Bt.pushA (a:=b) (b:=a) h.swap c e le).swap
theorem Bt.cutA (h:Bt rk T a b out na nb)(hi:i<=na)(le:∀ j x,i<=j->j<na->a[j]?=some x->∀ y∈b.toList.take nb,rk y<=rk x):Bt rk T a b (out++(a.extract i na).reverse) i nb:=by
 have c:=h;unfold Bt at c ⊢;rw[j5 a hi]at c;rw[Y5,List.reverse_append,Array.toList_reverse,List.reverse_reverse]
 exact Hi.take c λy g x k=>by
  obtain⟨j,f,d,e⟩:=wu k;exact le j x f d e y g
theorem Bt.cutB (h:Bt rk T a b out na nb)(hi:i<=nb)(le:∀ j x,i<=j->j<nb->b[j]?=some x->∀ y∈a.toList.take na,rk y<=rk x):Bt rk T a b (out++(b.extract i nb).reverse) na i:=(Bt.cutA (a:=b) (b:=a) h.swap hi le).swap
theorem Bt.endA (h:Bt rk T a b out 0 nb):(a.extract 0 0++b.extract 0 nb++out.reverse).toList.Perm T/\Srt rk (a.extract 0 0++b.extract 0 nb++out.reverse).toList:=by
 rw[Y5,Y5,wt,wt,W3,List.nil_append,Array.toList_reverse];exact Hi.end h
theorem Bt.endB (h:Bt rk T a b out na 0):(a.extract 0 na++b.extract 0 0++out.reverse).toList.Perm T/\Srt rk (a.extract 0 na++b.extract 0 0++out.reverse).toList:=by
 rw[Y5,Y5,wt,wt,W3,Yt,Array.toList_reverse];exact Hi.end h.swap
theorem Bt.lone (h:Bt rk T a b out na nb)(le:∀ x∈b.toList.take nb,∀ y∈a.toList.take na,rk x<=rk y):(b.extract 0 nb++a.extract 0 na++out.reverse).toList.Perm T/\Srt rk (b.extract 0 nb++a.extract 0 na++out.reverse).toList:=by
 rw[Y5,Y5,wt,wt,Array.toList_reverse];exact Hi.lone h le
end
section
variable {prog:Program}{w:World}{A:Around}{E:Value->Shared->Prop}{s:Shared}{κ:SortKind}{P:Keyed->Prop}{rk:Keyed->Int}
theorem au (C:Cmp prog w A s κ P rk){st:SortSt}{a b:Array Keyed}{Q:Array Keyed->SortSt->Prop}(hk:kindOf st=κ)(pa:∀ x∈a.toList,P x)(pb:∀ x∈b.toList,P x)(sa:Srt rk a.toList)(sb:Srt rk b.toList)(a1:1<=a.size)(b1:1<=b.size)(first:∀ x,b[0]?=some x->∀ y∈a.toList,rk x<=rk y)(last:∀ x,a[a.size-1]?=some x->∀ y∈b.toList,rk y<=rk x)(h:∀ r st',Sm st st'->r.toList.Perm (a.toList++b.toList)->Srt rk r.toList->Q r st'):wpS (model prog w) A E s (gI a b) Q st:=by
 have K:∀ i,i<a.size->∃ x,a[i]?=some x/\P x:=λi hi=>⟨_,getElem?_pos a i hi,pa _ (by simp)⟩;have Z:∀ i,i<b.size->∃ x,b[i]?=some x/\P x:=λi hi=>⟨_,getElem?_pos b i hi,pb _ (by simp)⟩;obtain⟨z0,e0,_⟩:=K (a.size-1) (by lia)
 have lone:∀ {out:Array Keyed}{na:Nat},Bt rk (a.toList++b.toList) a b out na 1->(b.extract 0 1++a.extract 0 na++out.reverse).toList.Perm (a.toList++b.toList)/\Srt rk (b.extract 0 1++a.extract 0 na++out.reverse).toList:=λ{out na} L=>L.lone λx hx y hy=>by
  obtain⟨j,j1,ej⟩:=xE hx;exact first x (by rw[show 0=j by simp_all];exact ej) y (YS hy)
 have L0:Bt rk (a.toList++b.toList) a b #[z0] (a.size-1) b.size:=by
  have w0:Bt rk (a.toList++b.toList) a b #[] a.size b.size:=by
   have e1:a.toList.take a.size=a.toList:=JR (by rw[JD];exact Jc _);have e2:b.toList.take b.size=b.toList:=JR (by rw[JD];exact Jc _);unfold Bt;rw[e1,e2];exact⟨sa,sb,List.Pairwise.nil,λx hx y hy=>by simp at hy,λx hx y hy=>by simp at hy,by simp⟩
  exact w0.pushA a1 e0 λx hx=>last z0 e0 x (YS hx)
 have size:∀ {out:Array Keyed}{na nb:Nat},Bt rk (a.toList++b.toList) a b out na nb->out.size<=a.size+b.size:=λ{out na nb} L=>by
  have:=L.pm.length_eq;simp only[Jb,Z7,JD]at this;lia
 refine Jh (wR ?_);refine Jh (zR e0 ?_);dsimp only;by_cases z1:a.size-1=0
 ·rw[Jg (by simpa using z1)]
  rw[z1]at L0 ⊢;obtain⟨e,d⟩:=L0.endA;exact Jf (h _ _ (Sm.refl _) e d)
 rw[Je (by simpa using z1)];by_cases z2:b.size=1
 ·rw[Jg (by simpa using z2)]
  rw[z2]at L0 ⊢;obtain⟨e,d⟩:=lone L0;exact Jf (h _ _ (Sm.refl _) e d)
 rw[Je (by simpa using z2)];refine Jh (ZZ ?_)
 refine Jh (YY (Yq (I:=λi c J=>Sm st J/\∃ na nb out g,c=(none,na,nb,out,g)/\Bt rk (a.toList++b.toList) a b out na nb/\1<=na/\na<=a.size/\2<=nb/\nb<=b.size/\i+1<=out.size)
  (Q:=λc J=>Sm st J/\∃ r x,c=(some r,x)/\r.toList.Perm (a.toList++b.toList)/\Srt rk r.toList) ?step ?fin ⟨Sm.refl _,_,_,_,_,rfl,L0,by lia,by simp_all,by lia,by lia,by simp⟩) ?post)
 case post =>
  rintro c J ⟨S1,r,x,rfl,e,d⟩;exact Jf (h _ _ S1 e d)
 case fin =>
  rintro c J ⟨S1,na,nb,out,g,rfl,L,_,_,_,_,sz⟩;have:=size L;lia
 case step =>
  rintro i c J _ hi ⟨S1,na,nb,out,g,rfl,L,M,B,lb,q,sz⟩;dsimp only
  refine Jh (YY (Yq (I:=λj c Y=>Y=J/\∃ na nb out ca W,c=(none,na,nb,out,ca,W)/\Bt rk (a.toList++b.toList) a b out na nb/\1<=na/\na<=a.size/\2<=nb/\nb<=b.size/\i+1+j<=out.size)
   (Q:=λc Y=>Y=J/\((∃ r x,c=(some r,x)/\r.toList.Perm (a.toList++b.toList)/\Srt rk r.toList)\/∃ na nb out ca W,c=(none,na,nb,out,ca,W)/\Bt rk (a.toList++b.toList) a b out na nb/\1<=na/\na<=a.size/\2<=nb/\nb<=b.size/\i+2<=out.size)) ?_ ?_ ⟨rfl,_,_,_,_,_,rfl,L,M,B,lb,q,by omega⟩) ?_)
  ·rintro j c Y _ hj ⟨rfl,na,nb,out,ca,W,rfl,L,M,B,lb,q,sz⟩
   dsimp only;obtain⟨x,ex,px⟩:=K (na-1) (by lia);obtain⟨y,H,py⟩:=Z (nb-1) (by lia);refine Jh (zR H (Jh (zR ex (Jh (pY C (S1.kind.trans hk) py px ?_)))));by_cases z:rk y<rk x
   ·rw[Jx z]
    dsimp only;rw[Jg rfl];have L':=L.pushA M ex λu S=>Zq (xJ sb (by lia) H u S) (Int.le_of_lt z);refine Jh (zR ex ?_);by_cases D:na-1=0
    ·rw[Jg (by simpa using D)]
     rw[D]at L' ⊢;obtain⟨e,d⟩:=L'.endA;exact Jf ⟨rfl,.inl ⟨_,_,rfl,e,d⟩⟩
    ·rw[Je (by simpa using D)]
     by_cases zg:ca+1>=g
     ·rw[Jg zg]
      exact Jf ⟨rfl,.inr ⟨_,_,_,_,_,rfl,L',by lia,by lia,lb,q,by rw[Jy];lia⟩⟩
     ·rw[Je zg]
      exact Jf ⟨rfl,_,_,_,_,_,rfl,L',by lia,by grind,lb,q,by rw[Jy];lia⟩
   ·rw[Jr z]
    dsimp only;rw[Je Jj];have L':=L.pushB (by lia) H λu S=>Zq (xJ sa M ex u S) (by simp_all);refine Jh (zR H ?_);by_cases D:nb-1=1
    ·rw[Jg (by simpa using D)]
     rw[D]at L' ⊢;obtain⟨e,d⟩:=lone L';exact Jf ⟨rfl,.inl ⟨_,_,rfl,e,d⟩⟩
    ·rw[Je (by simpa using D)]
     by_cases zg:W+1>=g
     ·rw[Jg zg]
      exact Jf ⟨rfl,.inr ⟨_,_,_,_,_,rfl,L',M,B,by lia,by lia,by rw[Jy];lia⟩⟩
     ·rw[Je zg]
      exact Jf ⟨rfl,_,_,_,_,_,rfl,L',M,B,by lia,by grind,by rw[Jy];lia⟩
  ·rintro c Y ⟨rfl,na,nb,out,ca,W,rfl,L,M,B,lb,q,sz⟩
   have:=size L;omega
  ·rintro c Y ⟨rfl,⟨r,x,rfl,e,d⟩|⟨na,nb,out,ca,W,rfl,L,M,B,lb,q,sz⟩⟩
   ·exact Jf ⟨S1,r,_,rfl,e,d⟩
   dsimp only;refine Jh (wR ?_)
   refine Jh (YY (Yq (I:=λj c X=>Sm st X/\∃ na nb out g ca W,c=(none,na,nb,out,g,ca,W)/\Bt rk (a.toList++b.toList) a b out na nb/\1<=na/\na<=a.size/\2<=nb/\nb<=b.size/\i+2<=out.size)
    (Q:=λc X=>Sm st X/\((∃ r x,c=(some r,x)/\r.toList.Perm (a.toList++b.toList)/\Srt rk r.toList)\/∃ na nb out g ca W,c=(none,na,nb,out,g,ca,W)/\Bt rk (a.toList++b.toList) a b out na nb/\1<=na/\na<=a.size/\2<=nb/\nb<=b.size/\i+2<=out.size)) ?_ ?_ ⟨S1,_,_,_,_,_,_,rfl,L,M,B,lb,q,sz⟩) ?_)
   ·rintro j c X _ hj ⟨S3,na,nb,out,g,ca,W,rfl,L,M,B,lb,q,sz⟩
    dsimp only;obtain⟨y,H,py⟩:=Z (nb-1) (by lia);by_cases zg:g > 1
    ·rw[Jg zg]
     refine Jh (vW λax l=>?_);have l:=S3.trans l;refine Jh (zR H (Jh (y9 C (l.kind.trans hk) py (λt ht=>K (0+t) (by lia)) (xc sa (by simp_all)) (by lia) λk ao g1 g2=>?_)));dsimp only
     have L1:=L.cutA (i:=k) ao λt u F tn eu v hv=>by
      have:=g2 t F tn;rw[Yz,R_at eu]at this;unfold bd at this;simp only[Y7,Z3,W2,Y3]at this;have:=xJ sb (by lia) H v hv;lia
     have hle:∀ u∈a.toList.take k,rk u<=rk y:=λu S=>by
      obtain⟨t,F,et⟩:=xE S;have:=g1 t F;rw[Yz,R_at et]at this;unfold bd at this;simp only[Y7,Z3,ZH,JW]at this
      simp_all
     have ab:i+2<=(out++(a.extract k na).reverse).size:=by rw[Jw];lia
     by_cases zk:na-k > 0
     ·rw[Jg zk]
      by_cases zc:k=0
      ·rw[Jg (by simpa using zc)]
       subst zc;obtain⟨e,d⟩:=L1.endA;exact Jf ⟨l,.inl ⟨_,_,rfl,e,d⟩⟩
      rw[Je (by simpa using zc)];have R:1<=k:=by lia
      generalize na-k=kk;generalize out++(a.extract k na).reverse=out1 at L1 ab ⊢;refine Jh (zR H ?_);have L2:=L1.pushB (by lia) H hle;by_cases D:nb-1=1
      ·rw[Jg (by simpa using D)]
       rw[D]at L2 ⊢;obtain⟨e,d⟩:=lone L2;exact Jf ⟨l,.inl ⟨_,_,rfl,e,d⟩⟩
      rw[Je (by simpa using D)];obtain⟨x1,f,U⟩:=K (k-1) (by grind);refine Jh (zR f (Jh (y9 C (l.kind.trans hk) U (λt ht=>Z (0+t) (by lia)) (xc sb (by lia)) (by grind) λp V c1 c2=>?_)));dsimp only
      have T:=L2.cutB (i:=p) V λt u F tn eu v hv=>by
       have:=c2 t F tn;rw[Yz,R_at eu]at this;unfold bd at this;simp only[Yu,JW]at this;have:=xJ sa R f v hv;lia
      have n:∀ u∈b.toList.take p,rk u<=rk x1:=λu S=>by
       obtain⟨t,F,et⟩:=xE S;have:=c1 t F;rw[Yz,R_at et]at this;unfold bd at this;simp only[Yu,Y3]at this;lia
      by_cases G:nb-1-p > 0
      ·rw[Jg G]
       by_cases O:p=1
       ·rw[Jg (by simpa using O)]
        subst O;obtain⟨e,d⟩:=lone T;exact Jf ⟨l,.inl ⟨_,_,rfl,e,d⟩⟩
       rw[Je (by simpa using O)];by_cases N:p=0
       ·rw[Jg (by simpa using N)]
        subst N;obtain⟨e,d⟩:=T.endB;exact Jf ⟨l,.inl ⟨_,_,rfl,e,d⟩⟩
       rw[Je (by simpa using N)];refine Jh (zR f ?_);have m:=T.pushA R f n;by_cases o:k-1=0
       ·rw[Jg (by simpa using o)]
        rw[o]at m ⊢;obtain⟨e,d⟩:=m.endA;exact Jf ⟨l,.inl ⟨_,_,rfl,e,d⟩⟩
       rw[Je (by simpa using o)];split
       ·exact Jf ⟨l,.inr ⟨_,_,_,_,_,_,rfl,m,by lia,by grind,by lia,by lia,by simp only[Jy,Jw];lia⟩⟩
       ·exact Jf ⟨l,_,_,_,_,_,_,rfl,m,by lia,by grind,by lia,by grind,by simp only[Jy,Jw];lia⟩
      ·rw[Je G]
       obtain rfl:p=nb-1:=by grind
       refine Jh (zR f ?_);have m:=L2.pushA R f n;by_cases o:k-1=0
       ·rw[Jg (by simpa using o)]
        rw[o]at m ⊢;obtain⟨e,d⟩:=m.endA;exact Jf ⟨l,.inl ⟨_,_,rfl,e,d⟩⟩
       rw[Je (by simpa using o)];split
       ·exact Jf ⟨l,.inr ⟨_,_,_,_,_,_,rfl,m,by lia,by grind,by lia,by grind,by simp only[Jy,Jw];lia⟩⟩
       ·exact Jf ⟨l,_,_,_,_,_,_,rfl,m,by lia,by grind,by lia,by grind,by simp only[Jy,Jw];lia⟩
     ·rw[Je zk]
      obtain rfl:k=na:=by lia
      have L1:=L;have R:=M;have ab:=sz;generalize k-k=kk;refine Jh (zR H ?_);have L2:=L1.pushB (by lia) H hle;by_cases D:nb-1=1
      ·rw[Jg (by simpa using D)]
       rw[D]at L2 ⊢;obtain⟨e,d⟩:=lone L2;exact Jf ⟨l,.inl ⟨_,_,rfl,e,d⟩⟩
      rw[Je (by simpa using D)];obtain⟨x1,f,U⟩:=K (k-1) (by lia);refine Jh (zR f (Jh (y9 C (l.kind.trans hk) U (λt ht=>Z (0+t) (by grind)) (xc sb (by grind)) (by grind) λp V c1 c2=>?_)));dsimp only
      have T:=L2.cutB (i:=p) V λt u F tn eu v hv=>by
       have:=c2 t F tn;rw[Yz,R_at eu]at this;unfold bd at this;simp only[Yu,JW]at this;have:=xJ sa R f v hv;lia
      have n:∀ u∈b.toList.take p,rk u<=rk x1:=λu S=>by
       obtain⟨t,F,et⟩:=xE S;have:=c1 t F;rw[Yz,R_at et]at this;unfold bd at this;simp only[Yu,Y3]at this;lia
      by_cases G:nb-1-p > 0
      ·rw[Jg G]
       by_cases O:p=1
       ·rw[Jg (by simpa using O)]
        subst O;obtain⟨e,d⟩:=lone T;exact Jf ⟨l,.inl ⟨_,_,rfl,e,d⟩⟩
       rw[Je (by simpa using O)];by_cases N:p=0
       ·rw[Jg (by simpa using N)]
        subst N;obtain⟨e,d⟩:=T.endB;exact Jf ⟨l,.inl ⟨_,_,rfl,e,d⟩⟩
       rw[Je (by simpa using N)];refine Jh (zR f ?_);have m:=T.pushA R f n;by_cases o:k-1=0
       ·rw[Jg (by simpa using o)]
        rw[o]at m ⊢;obtain⟨e,d⟩:=m.endA;exact Jf ⟨l,.inl ⟨_,_,rfl,e,d⟩⟩
       rw[Je (by simpa using o)];split
       ·exact Jf ⟨l,.inr ⟨_,_,_,_,_,_,rfl,m,by lia,by grind,by lia,by grind,by simp only[Jy,Jw];lia⟩⟩
       ·exact Jf ⟨l,_,_,_,_,_,_,rfl,m,by lia,by grind,by lia,by grind,by simp only[Jy,Jw];lia⟩
      ·rw[Je G]
       obtain rfl:p=nb-1:=by grind
       refine Jh (zR f ?_);have m:=L2.pushA R f n;by_cases o:k-1=0
       ·rw[Jg (by simpa using o)]
        rw[o]at m ⊢;obtain⟨e,d⟩:=m.endA;exact Jf ⟨l,.inl ⟨_,_,rfl,e,d⟩⟩
       rw[Je (by simpa using o)];split
       ·exact Jf ⟨l,.inr ⟨_,_,_,_,_,_,rfl,m,by lia,by grind,by lia,by grind,by simp only[Jy,Jw];lia⟩⟩
       ·exact Jf ⟨l,_,_,_,_,_,_,rfl,m,by lia,by grind,by lia,by grind,by simp only[Jy,Jw];lia⟩
    ·rw[Je zg]
     refine Jh (vW λax l=>?_);have l:=S3.trans l;refine Jh (zR H (Jh (y9 C (l.kind.trans hk) py (λt ht=>K (0+t) (by lia)) (xc sa (by simp_all)) (by grind) λk ao g1 g2=>?_)));dsimp only
     have L1:=L.cutA (i:=k) ao λt u F tn eu v hv=>by
      have:=g2 t F tn;rw[Yz,R_at eu]at this;unfold bd at this;simp only[Y7,Z3,W2,Y3]at this;have:=xJ sb (by lia) H v hv;lia
     have hle:∀ u∈a.toList.take k,rk u<=rk y:=λu S=>by
      obtain⟨t,F,et⟩:=xE S;have:=g1 t F;rw[Yz,R_at et]at this;unfold bd at this;simp only[Y7,Z3,ZH,JW]at this
      simp_all
     have ab:i+2<=(out++(a.extract k na).reverse).size:=by rw[Jw];lia
     by_cases zk:na-k > 0
     ·rw[Jg zk]
      by_cases zc:k=0
      ·rw[Jg (by simpa using zc)]
       subst zc;obtain⟨e,d⟩:=L1.endA;exact Jf ⟨l,.inl ⟨_,_,rfl,e,d⟩⟩
      rw[Je (by simpa using zc)];have R:1<=k:=by lia
      generalize na-k=kk;generalize out++(a.extract k na).reverse=out1 at L1 ab ⊢;refine Jh (zR H ?_);have L2:=L1.pushB (by lia) H hle;by_cases D:nb-1=1
      ·rw[Jg (by simpa using D)]
       rw[D]at L2 ⊢;obtain⟨e,d⟩:=lone L2;exact Jf ⟨l,.inl ⟨_,_,rfl,e,d⟩⟩
      rw[Je (by simpa using D)];obtain⟨x1,f,U⟩:=K (k-1) (by grind);refine Jh (zR f (Jh (y9 C (l.kind.trans hk) U (λt ht=>Z (0+t) (by grind)) (xc sb (by grind)) (by grind) λp V c1 c2=>?_)));dsimp only
      have T:=L2.cutB (i:=p) V λt u F tn eu v hv=>by
       have:=c2 t F tn;rw[Yz,R_at eu]at this;unfold bd at this;simp only[Yu,JW]at this;have:=xJ sa R f v hv;lia
      have n:∀ u∈b.toList.take p,rk u<=rk x1:=λu S=>by
       obtain⟨t,F,et⟩:=xE S;have:=c1 t F;rw[Yz,R_at et]at this;unfold bd at this;simp only[Yu,Y3]at this;lia
      by_cases G:nb-1-p > 0
      ·rw[Jg G]
       by_cases O:p=1
       ·rw[Jg (by simpa using O)]
        subst O;obtain⟨e,d⟩:=lone T;exact Jf ⟨l,.inl ⟨_,_,rfl,e,d⟩⟩
       rw[Je (by simpa using O)];by_cases N:p=0
       ·rw[Jg (by simpa using N)]
        subst N;obtain⟨e,d⟩:=T.endB;exact Jf ⟨l,.inl ⟨_,_,rfl,e,d⟩⟩
       rw[Je (by simpa using N)];refine Jh (zR f ?_);have m:=T.pushA R f n;by_cases o:k-1=0
       ·rw[Jg (by simpa using o)]
        rw[o]at m ⊢;obtain⟨e,d⟩:=m.endA;exact Jf ⟨l,.inl ⟨_,_,rfl,e,d⟩⟩
       rw[Je (by simpa using o)];split
       ·exact Jf ⟨l,.inr ⟨_,_,_,_,_,_,rfl,m,by lia,by grind,by lia,by grind,by simp only[Jy,Jw];lia⟩⟩
       ·exact Jf ⟨l,_,_,_,_,_,_,rfl,m,by lia,by grind,by lia,by grind,by simp only[Jy,Jw];lia⟩
      ·rw[Je G]
       obtain rfl:p=nb-1:=by grind
       refine Jh (zR f ?_);have m:=L2.pushA R f n;by_cases o:k-1=0
       ·rw[Jg (by simpa using o)]
        rw[o]at m ⊢;obtain⟨e,d⟩:=m.endA;exact Jf ⟨l,.inl ⟨_,_,rfl,e,d⟩⟩
       rw[Je (by simpa using o)];split
       ·exact Jf ⟨l,.inr ⟨_,_,_,_,_,_,rfl,m,by lia,by grind,by lia,by grind,by simp only[Jy,Jw];lia⟩⟩
       ·exact Jf ⟨l,_,_,_,_,_,_,rfl,m,by lia,by grind,by lia,by grind,by simp only[Jy,Jw];lia⟩
     ·rw[Je zk]
      obtain rfl:k=na:=by grind
      have L1:=L;have R:=M;have ab:=sz;generalize k-k=kk;refine Jh (zR H ?_);have L2:=L1.pushB (by lia) H hle;by_cases D:nb-1=1
      ·rw[Jg (by simpa using D)]
       rw[D]at L2 ⊢;obtain⟨e,d⟩:=lone L2;exact Jf ⟨l,.inl ⟨_,_,rfl,e,d⟩⟩
      rw[Je (by simpa using D)];obtain⟨x1,f,U⟩:=K (k-1) (by lia);refine Jh (zR f (Jh (y9 C (l.kind.trans hk) U (λt ht=>Z (0+t) (by grind)) (xc sb (by grind)) (by grind) λp V c1 c2=>?_)));dsimp only
      have T:=L2.cutB (i:=p) V λt u F tn eu v hv=>by
       have:=c2 t F tn;rw[Yz,R_at eu]at this;unfold bd at this;simp only[Yu,JW]at this;have:=xJ sa R f v hv;lia
      have n:∀ u∈b.toList.take p,rk u<=rk x1:=λu S=>by
       obtain⟨t,F,et⟩:=xE S;have:=c1 t F;rw[Yz,R_at et]at this;unfold bd at this;simp only[Yu,Y3]at this;lia
      by_cases G:nb-1-p > 0
      ·rw[Jg G]
       by_cases O:p=1
       ·rw[Jg (by simpa using O)]
        subst O;obtain⟨e,d⟩:=lone T;exact Jf ⟨l,.inl ⟨_,_,rfl,e,d⟩⟩
       rw[Je (by simpa using O)];by_cases N:p=0
       ·rw[Jg (by simpa using N)]
        subst N;obtain⟨e,d⟩:=T.endB;exact Jf ⟨l,.inl ⟨_,_,rfl,e,d⟩⟩
       rw[Je (by simpa using N)];refine Jh (zR f ?_);have m:=T.pushA R f n;by_cases o:k-1=0
       ·rw[Jg (by simpa using o)]
        rw[o]at m ⊢;obtain⟨e,d⟩:=m.endA;exact Jf ⟨l,.inl ⟨_,_,rfl,e,d⟩⟩
       rw[Je (by simpa using o)];split
       ·exact Jf ⟨l,.inr ⟨_,_,_,_,_,_,rfl,m,by lia,by grind,by lia,by grind,by simp only[Jy,Jw];lia⟩⟩
       ·exact Jf ⟨l,_,_,_,_,_,_,rfl,m,by lia,by grind,by lia,by grind,by simp only[Jy,Jw];lia⟩
      ·rw[Je G]
       obtain rfl:p=nb-1:=by grind
       refine Jh (zR f ?_);have m:=L2.pushA R f n;by_cases o:k-1=0
       ·rw[Jg (by simpa using o)]
        rw[o]at m ⊢;obtain⟨e,d⟩:=m.endA;exact Jf ⟨l,.inl ⟨_,_,rfl,e,d⟩⟩
       rw[Je (by simpa using o)];split
       ·exact Jf ⟨l,.inr ⟨_,_,_,_,_,_,rfl,m,by lia,by grind,by lia,by grind,by simp only[Jy,Jw];lia⟩⟩
       ·exact Jf ⟨l,_,_,_,_,_,_,rfl,m,by lia,by grind,by lia,by grind,by simp only[Jy,Jw];lia⟩
   ·rintro c X ⟨S3,na,nb,out,g,ca,W,rfl,L,M,B,lb,q,sz⟩
    exact⟨S3,.inr ⟨_,_,_,_,_,_,rfl,L,M,B,lb,q,sz⟩⟩
   ·rintro c X ⟨S3,⟨r,x,rfl,e,d⟩|⟨na,nb,out,g,ca,W,rfl,L,M,B,lb,q,sz⟩⟩
    ·exact Jf ⟨S3,r,_,rfl,e,d⟩
    dsimp only;refine Jh (vW λax l=>?_);exact Jf ⟨S3.trans l,_,_,_,_,rfl,L,M,B,lb,q,by omega⟩
end
section
variable {rk:Keyed->Int}
theorem uJ (b:Nat):∀ (l:List Keyed) (o:Nat) (arr:Array Keyed),b+o+l.length<=arr.size->(List.foldl (λ(a:Array Keyed) (x:Keyed × Nat)=>a.setIfInBounds (b+x.2) x.1) arr (l.zipIdx o)).toList=arr.toList.take (b+o)++l++arr.toList.drop (b+o+l.length)
 | [],o,arr,_=>by
  show arr.toList=_
  rw[Yt,Zz,Zc,ZN]
 | x::l,o,arr,h=>by
  rw[JV]at h;rw[List.zipIdx_cons,List.foldl_cons,uJ b l (o+1) _ (by rw[Array.size_setIfInBounds];lia)];have c:b+o<arr.toList.length:=by rw[JD];lia
  rw[Array.toList_setIfInBounds,<- Zg,List.drop_set_of_lt (by lia),JV,show b+o+1+l.length=b+o+(l.length+1) by lia]
  have e:(arr.toList.set (b+o) x).take (b+o+1)=arr.toList.take (b+o)++[x]:=by
   rw[Yr (by rw[List.length_set];exact c),List.getElem_set_self,List.take_set_of_le (Jc _)]
  rw[e,Y2 (arr.toList.take (b+o)) [x] l];rfl
theorem lL {arr:Array Keyed}{i n j:Nat}(h:i+j<n)(hn:n<=arr.size):(arr.extract i n)[j]?=arr[i+j]?:=by
 rw[Array.getElem?_extract_of_lt (by lia)];exact(getElem?_pos arr (i+j) (by lia)).symm
theorem ot {arr:Array Keyed}{lo n:Nat}(h:Up rk arr lo n)(hn:lo+n<=arr.size):Srt rk (arr.extract lo (lo+n)).toList:=by
 refine List.pairwise_iff_getElem.mpr λi j hi b c=>?_;have a:(arr.extract lo (lo+n)).size=n:=by rw[Array.size_extract];simp_all
 rw[JD,a]at hi b;have:=h (lo+i) (lo+j) (by lia) (by lia) (by simp_all);rw[R_at (getElem?_pos arr (lo+i) (by lia)),R_at (getElem?_pos arr (lo+j) (by lia))]at this;simpa using this
end
section
variable {prog:Program}{w:World}{A:Around}{E:Value->Shared->Prop}{s:Shared}{κ:SortKind}{P:Keyed->Prop}{rk:Keyed->Int}{a₀:Array Keyed}
theorem az (C:Cmp prog w A s κ P rk){st:SortSt}{Q:Bool->SortSt->Prop}{i sa na p sb nb q:Nat}(D:Bs κ P a₀ st)(e1:(pendingOf st)[i]?=some (sa,na,p))(e2:(pendingOf st)[i+1]?=some (sb,nb,q))(hs:sb=sa+na)(n1:1<=na)(n2:1<=nb)(hz:sb+nb<=a₀.size)(K:Up rk (arrOf st) sa na)(J:Up rk (arrOf st) sb nb)(h:∀ st',Bs κ P a₀ st'->pendingOf st'=((pendingOf st).setIfInBounds i (sa,na+nb,p)).eraseIdxIfInBounds (i+1)->(∀ k,k<sa\/sb+nb<=k->R rk (arrOf st') k=R rk (arrOf st) k)->Up rk (arrOf st') sa (na+nb)->Q true st'):wpS (model prog w) A E s (mergeAt' i) Q st:=by
 refine Jh (ZZ ?_);dsimp only;rw[e1,e2];dsimp only;obtain⟨b0,V,aT,ao⟩:=D.at (i:=sb) (by lia) rk;have sz:=D.size
 have Y:∀ {c st2:SortSt}{Q':PUnit->SortSt->Prop},Q' ⟨⟩ st2->wpS (model prog w) A E s (set st2:StateT SortSt Sem PUnit) Q' c:=λ{c st2 Q'} hq=>by
  unfold wpS;rw[StateT.run_set];exact J8 ⟨rfl,hq⟩
 refine Jh (Y (st2:=SortSt.mk' (kindOf st) (arrOf st) (((pendingOf st).setIfInBounds i (sa,na+nb,p)).eraseIdxIfInBounds (i+1)) (gallopOf st) (failedOf st)) ?_);generalize M:SortSt.mk' (kindOf st) (arrOf st) (((pendingOf st).setIfInBounds i (sa,na+nb,p)).eraseIdxIfInBounds (i+1)) (gallopOf st) (failedOf st)=c;have d:Bs κ P a₀ c:=by rw[<- M];exact⟨D.kind,D.fail,D.perm,D.all⟩
 have T:arrOf c=arrOf st:=by rw[<- M]
 have ep:pendingOf c=((pendingOf st).setIfInBounds i (sa,na+nb,p)).eraseIdxIfInBounds (i+1):=by rw[<- M]
 have pat:∀ j,j<a₀.size->∃ x,(arrOf st)[j]?=some x/\P x:=λj B=>by
  obtain⟨x,ex,px,_⟩:=D.at B rk;exact⟨x,ex,px⟩
 refine Jh (zR V (Jh (y9 (arr:=arrOf st) C d.kind aT (λt O=>pat (sa+t) (by lia)) K (by lia) λk a4 g1 g2=>?_)));dsimp only
 have f1:∀ j,sa<=j->j<sa+k->R rk (arrOf st) j<=rk b0:=λj l o=>by
  have:=g1 (j-sa) (by lia);rw[show sa+(j-sa)=j by simp_all]at this;unfold bd at this;simp only[Y7,Z3,ZH,JW]at this
  simp_all
 have f2:∀ j,sa+k<=j->j<sb->rk b0<=R rk (arrOf st) j:=λj l o=>by
  have:=g2 (j-sa) (by lia) (by lia);rw[show sa+(j-sa)=j by lia]at this;unfold bd at this;simp only[Y7,Z3,W2,Y3]at this;lia
 have f0:∀ j,sb<=j->j<sb+nb->rk b0<=R rk (arrOf st) j:=λj l o=>by rw[<- ao];exact J _ _ (Jc _) l o
 by_cases zk:na-k=0
 ·rw[Jg (by simpa using zk)]
  refine Jf (h c d ep (λj _=>by rw[T]) λx y g b I=>?_);rw[T];by_cases q1:y<sb
  ·exact K _ _ g b (by simp_all)
  ·by_cases q2:sb<=x
   ·exact J _ _ q2 b (by lia)
   ·exact Zq (f1 x g (by lia)) (f0 y (by simp_all) (by lia))
 rw[Je (by simpa using zk)];have ka:sa+k+(na-k)-1=sb-1:=by lia
 rw[ka];obtain⟨l0,U,ax,ab⟩:=D.at (i:=sb-1) (by lia) rk;refine Jh (zR U (Jh (y9 (arr:=arrOf st) C d.kind ax (λt O=>pat (sb+t) (by lia)) J (by lia) λn a3 c1 c2=>?_)));dsimp only
 have f3:∀ j,sb<=j->j<sb+n->R rk (arrOf st) j<=rk l0:=λj l o=>by
  have:=c1 (j-sb) (by grind);rw[show sb+(j-sb)=j by simp_all]at this;unfold bd at this;simp only[Yu,Y3]at this;lia
 have f4:∀ j,sb+n<=j->j<sb+nb->rk l0<=R rk (arrOf st) j:=λj l o=>by
  have:=c2 (j-sb) (by lia) (by lia);rw[show sb+(j-sb)=j by lia]at this;unfold bd at this;simp only[Yu,JW]at this
  simp_all
 have f5:∀ j,sa<=j->j<sb->R rk (arrOf st) j<=rk l0:=λj l o=>by rw[<- ab];exact K _ _ l (by lia) (by lia)
 by_cases zn:n=0
 ·rw[Jg (by simpa using zn)]
  refine Jf (h c d ep (λj _=>by rw[T]) λx y g b I=>?_);rw[T];by_cases q1:y<sb
  ·exact K _ _ g b (by simp_all)
  ·by_cases q2:sb<=x
   ·exact J _ _ q2 b (by lia)
   ·exact Zq (f5 x g (by simp_all)) (f4 y (by simp_all) (by lia))
 rw[Je (by simpa using zn)];have sx:((arrOf st).extract (sa+k) sb).size=na-k:=by rw[Array.size_extract];lia
 have sy:((arrOf st).extract sb (sb+n)).size=n:=by rw[Array.size_extract];lia
 have px:∀ x∈((arrOf st).extract (sa+k) sb).toList,P x:=λx g=>by
  obtain⟨j,l,o,L⟩:=wu g;obtain⟨y,S,py⟩:=pat j (by lia);rw[L]at S;cases S;exact py
 have py:∀ x∈((arrOf st).extract sb (sb+n)).toList,P x:=λx g=>by
  obtain⟨j,l,o,L⟩:=wu g;obtain⟨y,S,py⟩:=pat j (by lia);rw[L]at S;cases S;exact py
 have ox:Srt rk ((arrOf st).extract (sa+k) sb).toList:=by
  have:=ot (rk:=rk) (arr:=arrOf st) (lo:=sa+k) (n:=na-k) (λx y g b I=>K x y (by lia) b (by grind)) (by lia)
  rwa [show sa+k+(na-k)=sb by grind]at this
 have oy:Srt rk ((arrOf st).extract sb (sb+n)).toList:=ot (λx y g b I=>J x y (by omega) b (by lia)) (by lia)
 have first:∀ x,((arrOf st).extract sb (sb+n))[0]?=some x->∀ y∈((arrOf st).extract (sa+k) sb).toList,rk x<=rk y:=λx ex y I=>by
  rw[lL (by lia) (by lia),Zc,V]at ex;obtain⟨j,l,o,L⟩:=wu I;have:=f2 j l o;rw[R_at L]at this;cases ex;exact this
 have last:∀ x,((arrOf st).extract (sa+k) sb)[((arrOf st).extract (sa+k) sb).size-1]?=some x->∀ y∈((arrOf st).extract sb (sb+n)).toList,rk y<=rk x:=λx ex y I=>by
  rw[sx,lL (by grind) (by lia),show sa+k+(na-k-1)=sb-1 by lia,U]at ex;obtain⟨j,l,o,L⟩:=wu I;have:=f3 j l (by omega);rw[R_at L]at this;cases ex;exact this
 have fin:∀ (m:Array Keyed) (st2:SortSt),Sm c st2->m.toList.Perm (((arrOf st).extract (sa+k) sb).toList++((arrOf st).extract sb (sb+n)).toList)->Srt rk m.toList ->
   wpS (model prog w) A E s (do
    modify λs=>setArr s (m.toList.zipIdx.foldl (λ(a:Array Keyed) (x:Keyed × Nat)=>a.setIfInBounds (sa+k+x.2) x.1) (arrOf s))
    let s' <- get
    pure (failedOf s').isNone) Q st2:=by
  intro m st2 G pm sm;have X:arrOf st2=arrOf st:=G.arr.trans T;have N:m.toList.length=na-k+n:=by rw[pm.length_eq,Jb,JD,JD,sx,sy]
  have wl:=uJ (sa+k) m.toList 0 (arrOf st2) (by rw[X,sz,N];grind);generalize hW:List.foldl (λ(a:Array Keyed) (x:Keyed × Nat)=>a.setIfInBounds (sa+k+x.2) x.1) (arrOf st2) m.toList.zipIdx=W at wl;rw[Zc,N,X,show sa+k+(na-k+n)=sb+n by grind]at wl
  have Z:(arrOf st).toList=(arrOf st).toList.take (sa+k)++(((arrOf st).extract (sa+k) sb).toList++((arrOf st).extract sb (sb+n)).toList)++(arrOf st).toList.drop (sb+n):=by
   have d1:=tO (arrOf st) (sa+k) (na-k);rw[show sa+k+(na-k)=sb by lia]at d1;have d2:=tO (arrOf st) sb n;rw[Y2,Y2,<- d2,<- d1,ZN]
  have pw:W.Perm (arrOf st):=by
   rw[Array.perm_iff_toList_perm,wl]
   conv=>rhs;rw[Z]
   exact((pm.append_left _).append_right _)
  have r:((arrOf st).toList.take (sa+k)).length=sa+k:=by rw[Js,JD,sz];lia
  have a0:W.size=a₀.size:=by rw[pw.size_eq,sz]
  have z:∀ j,j<sa+k->R rk W j=R rk (arrOf st) j:=λj B=>R_congr (by
   rw[<- Y8,<- Y8,wl,Y2,Zt (by rw[r];exact B),Z5 B])
  have f:∀ j,sb+n<=j->R rk W j=R rk (arrOf st) j:=λj B=>R_congr (by
   rw[<- Y8,<- Y8,wl,Zj (by rw[Jb,r,N];lia),Jb,r,N,List.getElem?_drop]
   congr 1;lia)
  have mid:∀ j,sa+k<=j->j<sb+n->∃ x,m[j-(sa+k)]?=some x/\R rk W j=rk x:=λj l o=>by
   have jl:j-(sa+k)<m.size:=by rw[<- JD,N];lia
   refine⟨_,getElem?_pos m _ jl,R_at ?_⟩;rw[<- Y8,wl,Y2,Zj (by rw[r];exact l),r,Zt (by rw[N];lia),Y8];exact getElem?_pos m _ jl
  have kids:∀ j x,m[j]?=some x->∃ t,((sa+k<=t/\t<sb)\/(sb<=t/\t<sb+n))/\R rk (arrOf st) t=rk x:=λj x ex=>by
   have hm:x∈m.toList:=by
    obtain⟨B,e⟩:=JX.mp ex;rw[<- e];simp
   rcases Ju.mp (pm.mem_iff.mp hm) with u|u
   ·obtain⟨t,F,H,et⟩:=wu u
    exact⟨t,.inl ⟨F,H⟩,R_at et⟩
   ·obtain⟨t,F,H,et⟩:=wu u
    exact⟨t,.inr ⟨F,H⟩,R_at et⟩
  refine Jh (W0 (Jh (ZZ (Jf ?_))));rw[hW]
  have ff:(failedOf (setArr st2 W)).isNone=true:=by
   show (failedOf st2).isNone=true;rw[G.fail,d.fail];rfl
  rw[ff];refine h _ ⟨G.kind.trans d.kind,G.fail.trans d.fail,pw.trans D.perm,D.all⟩ (G.pend.trans ep) (λj B=>?_) λx y g b I=>?_
  ·rcases B with B|B
   ·exact z j (by lia)
   ·exact f j (by lia)
  ·show R rk W x<=R rk W y
   by_cases x1:x<sa+k
   ·rw[z x x1]
    by_cases y1:y<sa+k
    ·rw[z y y1];exact K _ _ g b (by lia)
    ·by_cases y2:y<sb+n
     ·obtain⟨v,ev,rv⟩:=mid y (by lia) y2
      obtain⟨t,O,rt⟩:=kids _ v ev;rw[rv,<- rt];rcases O with ⟨F,H⟩|⟨F,H⟩
      ·exact K _ _ g (by lia) (by lia)
      ·exact Zq (f1 x g x1) (f0 t F (by lia))
     ·rw[f y (by lia)]
      exact Zq (f1 x g x1) (f0 y (by lia) (by lia))
   ·by_cases x2:x<sb+n
    ·obtain⟨u,eu,ru⟩:=mid x (by lia) x2
     rw[ru];by_cases y2:y<sb+n
     ·obtain⟨v,ev,rv⟩:=mid y (by lia) y2
      rw[rv]
      have:=xc sm (base:=0) (n:=m.size) (by lia) (x-(sa+k)) (y-(sa+k)) (JN _) (by lia) (by
       have:=(JX.mp ev).1
       lia)
      rwa [R_at eu,R_at ev]at this
     ·rw[f y (by lia)]
      obtain⟨t,O,rt⟩:=kids _ u eu;rw[<- rt];rcases O with ⟨F,H⟩|⟨F,H⟩
      ·exact Zq (f5 t (by lia) H) (f4 y (by lia) (by lia))
      ·exact J _ _ F (by lia) (by lia)
    ·rw[f x (by lia),f y (by lia)]
     exact J _ _ (by lia) b (by lia)
 split
 ·exact Jh (ag C d.kind px py ox oy (by rw[sx];lia) (by rw[sy];lia) first last λm st2 G pm sm=>fin m st2 G pm sm)
 ·exact Jh (au C d.kind px py ox oy (by rw[sx];lia) (by rw[sy];lia) first last λm st2 G pm sm=>fin m st2 G pm sm)
noncomputable abbrev Run:=Nat × Nat × Nat
noncomputable def Runs:List Run->Nat->Nat->Prop
 | [],u,v=>u=v
 | x::r,u,v=>x.1=u/\1<=x.2.1/\Runs r (u+x.2.1) v
theorem Runs.cut:∀ {l r:List Run}{u v:Nat},Runs (l++r) u v->∃ m,Runs l u m/\Runs r m v
 | [],_,u,_,h=>⟨u,rfl,h⟩
 | x::l,r,u,v,⟨e,d,c⟩=>by
  obtain⟨m,a,b⟩:=Runs.cut (l:=l) (r:=r) c;exact⟨m,⟨e,d,a⟩,b⟩
theorem Runs.app:∀ {l r:List Run}{u m v:Nat},Runs l u m->Runs r m v->Runs (l++r) u v
 | [],_,_,_,_,h,g=>by cases h;exact g
 | x::l,r,u,m,v,⟨c,b,a⟩,g=>⟨c,b,Runs.app a g⟩
theorem Runs.len:∀ {l:List Run}{u v:Nat},Runs l u v->u+l.length<=v
 | [],_,_,h=>by cases h;exact Jc _
 | x::l,u,v,⟨c,b,a⟩=>by
  have:=Runs.len a;rw[JV];lia
theorem Runs.mem:∀ {l:List Run}{u v:Nat}{x:Run},Runs l u v->x∈l->u<=x.1/\1<=x.2.1/\x.1+x.2.1<=v
 | y::l,u,v,x,⟨e,d,b⟩,c=>by
  rcases Jq.mp c with rfl|a
  ·have:=Runs.len b;lia
  ·have:=Runs.mem b a;lia
theorem Runs.modify {f:Run->Run}(a:∀ x,(f x).1=x.1/\(f x).2.1=x.2.1):∀ {l:List Run}{i u v:Nat},Runs l u v->Runs (l.modify i f) u v
 | [],i,_,_,h=>by cases i<;>exact h
 | x::l,0,u,v,⟨d,c,b⟩=>by
  rw[List.modify_zero_cons]
  refine⟨(a x).1.trans d,by rw[(a x).2];exact c,by rw[(a x).2];exact b⟩
 | x::l,i+1,u,v,⟨d,c,b⟩=>by
  rw[List.modify_succ_cons];exact⟨d,c,Runs.modify a b⟩
theorem wq {f:Run->Run}(a:∀ x,(f x).1=x.1/\(f x).2.1=x.2.1):∀ {l:List Run}{i:Nat}{x:Run},x∈l.modify i f->∃ y∈l,x.1=y.1/\x.2.1=y.2.1
 | [],i,x,h=>by cases i<;>simp at h
 | y::l,0,x,h=>by
  rw[List.modify_zero_cons]at h;rcases Jq.mp h with rfl|b
  ·exact⟨y,JL,(a y).1,(a y).2⟩
  ·exact⟨x,JG _ b,rfl,rfl⟩
 | y::l,i+1,x,h=>by
  rw[List.modify_succ_cons]at h;rcases Jq.mp h with rfl|b
  ·exact⟨x,JL,rfl,rfl⟩
  ·obtain⟨z,c,e⟩:=wq a b
   exact⟨z,JG _ c,e⟩
structure Ji (κ:SortKind) (P:Keyed->Prop) (rk:Keyed->Int) (a₀:Array Keyed) (lo:Nat) (st:SortSt):Prop where
 b:Bs κ P a₀ st
 runs:Runs (pendingOf st).toList 0 lo
 up:∀ x∈(pendingOf st).toList,Up rk (arrOf st) x.1 x.2.1
theorem gG (C:Cmp prog w A s κ P rk){st:SortSt}{lo i:Nat}{Q:Bool->SortSt->Prop}(J:Ji κ P rk a₀ lo st)(X:lo<=a₀.size)(hi:i+1<(pendingOf st).size)(h:∀ st',Ji κ P rk a₀ lo st'->(∀ k,lo<=k->R rk (arrOf st') k=R rk (arrOf st) k)->(pendingOf st').size+1=(pendingOf st).size->Q true st'):wpS (model prog w) A E s (mergeAt' i) Q st:=by
 obtain⟨x,ex⟩:∃ x,(pendingOf st)[i]?=some x:=⟨_,getElem?_pos _ i (by lia)⟩;obtain⟨y,I⟩:∃ y,(pendingOf st)[i+1]?=some y:=⟨_,getElem?_pos _ (i+1) hi⟩;have t:(pendingOf st).toList[i]?=some x:=by rw[Y8];exact ex
 have r:(pendingOf st).toList[i+1]?=some y:=by rw[Y8];exact I
 obtain⟨o,T⟩:=Ja.mp t;obtain⟨n,S⟩:=Ja.mp r
 have sp:(pendingOf st).toList=(pendingOf st).toList.take i++x::y::(pendingOf st).toList.drop (i+1+1):=by
  rw[<- T,<- S,<- Yx n,<- Yx o,ZN]
 have D:=J.runs;have up:=J.up;generalize e:(pendingOf st).toList.take i=pre at sp;generalize u:(pendingOf st).toList.drop (i+1+1)=post at sp;have O:pre.length=i:=by rw[<- e,Js];lia
 rw[sp]at D up;obtain⟨m,F,N⟩:=D.cut;obtain⟨B,H,M,G,f⟩:=N;obtain⟨v,na,p⟩:=x;obtain⟨L,nb,q⟩:=y;simp only at B H M G f;have Y:=f.len;refine az C J.b ex I (by simp_all) H G (by lia) (up (v,na,p) (by simp)) (up (L,nb,q) (by simp)) λst' W U low K=>?_
 have l:(pendingOf st').toList=pre++(v,na+nb,p)::post:=by
  rw[U,Array.toList_eraseIdxIfInBounds,Array.toList_setIfInBounds,sp,List.set_append_right _ _ (by simp_all),List.eraseIdx_append_of_length_le (by simp_all),O,Nat.sub_self,Nat.add_sub_cancel_left];rfl
 refine h st' ⟨W,?_,?_⟩ (λk Z=>low k (.inr (by lia))) ?_
 ·rw[l]
  refine F.app ⟨B,by show 1<=na+nb;lia,?_⟩;show Runs post (m+(na+nb)) lo;rw[<- Zg];exact f
 ·rw[l]
  intro z a;rcases Ju.mp a with a|a
  ·have V:=F.mem a
   intro c d j b g;rw[low c (.inl (by lia)),low d (.inl (by lia))];exact up z (ZR _ a) c d j b g
  ·rcases Jq.mp a with rfl|a
   ·exact K
   ·have V:=f.mem a
    intro c d j b g;rw[low c (.inr (by lia)),low d (.inr (by lia))];exact up z (JE _ (by simp[a])) c d j b g
 ·rw[<- JD,<- JD,l,sp]
  simp only[Jb,JV];lia
theorem fi (C:Cmp prog w A s κ P rk){st:SortSt}{Q:Unit->SortSt->Prop}(hB:Bs κ P a₀ st)(hp:pendingOf st = #[])(h:∀ st',Bs κ P a₀ st'->Up rk (arrOf st') 0 a₀.size->Q () st'):wpS (model prog w) A E s sortRuns' Q st:=by
 rw[sortRuns'_eq];refine Jh (ZZ ?_);dsimp only;rw[hB.size];generalize minRun' a₀.size a₀.size 0=S
 refine Jh (YY (Yq (I:=λi c o=>∃ lo,c=(none,lo)/\i<=lo/\lo<=a₀.size/\Ji κ P rk a₀ lo o)
  (Q:=λc o=>∃ lo,c=(none,lo)/\lo=a₀.size/\Ji κ P rk a₀ lo o) ?step ?fin ?init) ?post)
 case init=>exact⟨0,rfl,Jc _,JN _,hB,by rw[hp];rfl,λx u=>by rw[hp]at u;simp at u⟩
 case fin =>
  rintro c o ⟨lo,rfl,h1,V,J⟩;exact⟨lo,rfl,by lia,J⟩
 case step =>
  rintro i c o _ hi ⟨lo,rfl,h1,V,J⟩;dsimp only;by_cases z:lo>=a₀.size
  ·rw[Jg z]
   exact Jf ⟨lo,rfl,by lia,J⟩
  rw[Je z];refine Jh (gn C J.b (by lia) (by simp_all) λf n X M n2 u2=>?_);dsimp only
  have Jk:∀ g,Keep κ P rk a₀ lo o g->Ji κ P rk a₀ lo g:=λg H=>⟨H.b,by rw[H.pend];exact J.runs,λx u=>by
   rw[H.pend]at u;have:=J.runs.mem u;intro c d D v L;rw[H.low c (by lia),H.low d (by lia)]
   exact J.up x u c d D v L⟩
  by_cases Z:n<S
  ·rw[Jg Z]
   refine Jh (wR ?_);refine Jh (bp C X.b M (by grind) (by lia) u2 λg H u3=>?_);have M:1<=min (a₀.size-lo) S:=by lia
   have n2:min (a₀.size-lo) S<=a₀.size-lo:=by omega
   have B:=Jk g (X.trans H);generalize min (a₀.size-lo) S=n at M n2 u3 ⊢;rw[Je (show ¬(!true)=true by decide)];refine Jh (ZZ ?_)
   have last:∀ a,Ji κ P rk a₀ lo a->Up rk (arrOf a) lo n->wpS (model prog w) A E s (do
     modify λm=>setPending m ((pendingOf m).push (lo,n,0))
     pure (ForInStep.yield ((none:Option Unit),lo+n))) (λr st'=>match r with|.done G=>∃ lo,G=(none,lo)/\lo=a₀.size/\Ji κ P rk a₀ lo st'|.yield G=>∃ lo,G=(none,lo)/\i+1<=lo/\lo<=a₀.size/\Ji κ P rk a₀ lo st') a:=by
    intro a e l;refine Jh (W0 (Jf ⟨lo+n,rfl,by lia,by lia,⟨e.b.kind,e.b.fail,e.b.perm,e.b.all⟩,?_,?_⟩))
    ·show Runs ((pendingOf a).push (lo,n,0)).toList 0 (lo+n)
     rw[Zi];exact e.runs.app ⟨rfl,M,rfl⟩
    ·show ∀ x∈((pendingOf a).push (lo,n,0)).toList,Up rk (arrOf a) x.1 x.2.1
     rw[Zi];intro x u;rcases Ju.mp u with p|p
     ·exact e.up x p
     ·rw[Jd.mp p];exact l
   split
   ·rename_i s1 m1 w1 hb
    refine Jh (YY (Yq (I:=λj c a=>c=(none,())/\Ji κ P rk a₀ lo a/\Up rk (arrOf a) lo n) (Q:=λc a=>c=(none,())/\Ji κ P rk a₀ lo a/\Up rk (arrOf a) lo n) ?_ (λc a U=>U) ⟨rfl,B,u3⟩) ?_)
    ·rintro j c a _ hj ⟨rfl,e,l⟩
     refine Jh (ZZ ?_);split
     ·rename_i a1 a2 K N
      split
      ·exact Jf ⟨rfl,e,l⟩
      ·have sz:(pendingOf a).size > 1:=by
        by_cases q:(pendingOf a).size > 1
        ·exact q
        ·rw[Je q]at N;cases N
       refine Jh (gG C e V (by grind) λm Y k _=>?_);rw[Je (show ¬(!true)=true by decide)];exact Jf ⟨rfl,Y,λc d D v L=>by rw[k c D,k d (by lia)];exact l c d D v L⟩
     ·exact Jf ⟨rfl,e,l⟩
    ·rintro c a ⟨rfl,e,l⟩
     dsimp only;refine Jh (W0 ?_);refine last _ ⟨⟨e.b.kind,e.b.fail,e.b.perm,e.b.all⟩,?_,?_⟩ l
     ·show Runs ((pendingOf a).modify _ _).toList 0 lo
      rw[ZY];refine Runs.modify ?_ e.runs;exact λx=>⟨rfl,rfl⟩
     ·show ∀ x∈((pendingOf a).modify _ _).toList,Up rk (arrOf a) x.1 x.2.1
      rw[ZY];intro x u;obtain⟨y,T,W,e2⟩:=wq (by exact λx=>⟨rfl,rfl⟩) u;rw[W,e2];exact e.up y T
   ·exact last _ B u3
  ·rw[Je Z]
   have B:=Jk f X;have u3:=u2;generalize f=g at B u3 ⊢;refine Jh (ZZ ?_)
   have last:∀ a,Ji κ P rk a₀ lo a->Up rk (arrOf a) lo n->wpS (model prog w) A E s (do
     modify λm=>setPending m ((pendingOf m).push (lo,n,0))
     pure (ForInStep.yield ((none:Option Unit),lo+n))) (λr st'=>match r with|.done G=>∃ lo,G=(none,lo)/\lo=a₀.size/\Ji κ P rk a₀ lo st'|.yield G=>∃ lo,G=(none,lo)/\i+1<=lo/\lo<=a₀.size/\Ji κ P rk a₀ lo st') a:=by
    intro a e l;refine Jh (W0 (Jf ⟨lo+n,rfl,by lia,by grind,⟨e.b.kind,e.b.fail,e.b.perm,e.b.all⟩,?_,?_⟩))
    ·show Runs ((pendingOf a).push (lo,n,0)).toList 0 (lo+n)
     rw[Zi];exact e.runs.app ⟨rfl,M,rfl⟩
    ·show ∀ x∈((pendingOf a).push (lo,n,0)).toList,Up rk (arrOf a) x.1 x.2.1
     rw[Zi];intro x u;rcases Ju.mp u with p|p
     ·exact e.up x p
     ·rw[Jd.mp p];exact l
   split
   ·rename_i s1 m1 w1 hb
    refine Jh (YY (Yq (I:=λj c a=>c=(none,())/\Ji κ P rk a₀ lo a/\Up rk (arrOf a) lo n) (Q:=λc a=>c=(none,())/\Ji κ P rk a₀ lo a/\Up rk (arrOf a) lo n) ?_ (λc a U=>U) ⟨rfl,B,u3⟩) ?_)
    ·rintro j c a _ hj ⟨rfl,e,l⟩
     refine Jh (ZZ ?_);split
     ·rename_i a1 a2 K N
      split
      ·exact Jf ⟨rfl,e,l⟩
      ·have sz:(pendingOf a).size > 1:=by
        by_cases q:(pendingOf a).size > 1
        ·exact q
        ·rw[Je q]at N;cases N
       refine Jh (gG C e V (by lia) λm Y k _=>?_);rw[Je (show ¬(!true)=true by decide)];exact Jf ⟨rfl,Y,λc d D v L=>by rw[k c D,k d (by lia)];exact l c d D v L⟩
     ·exact Jf ⟨rfl,e,l⟩
    ·rintro c a ⟨rfl,e,l⟩
     dsimp only;refine Jh (W0 ?_);refine last _ ⟨⟨e.b.kind,e.b.fail,e.b.perm,e.b.all⟩,?_,?_⟩ l
     ·show Runs ((pendingOf a).modify _ _).toList 0 lo
      rw[ZY];refine Runs.modify ?_ e.runs;exact λx=>⟨rfl,rfl⟩
     ·show ∀ x∈((pendingOf a).modify _ _).toList,Up rk (arrOf a) x.1 x.2.1
      rw[ZY];intro x u;obtain⟨y,T,W,e2⟩:=wq (by exact λx=>⟨rfl,rfl⟩) u;rw[W,e2];exact e.up y T
   ·exact last _ B u3
 case post =>
  rintro c o ⟨lo,rfl,rfl,J⟩;dsimp only
  refine Jh (YY (Yq (I:=λi c f=>c=(none,())/\Ji κ P rk a₀ a₀.size f/\(pendingOf f).size<=a₀.size-i+1)
   (Q:=λc f=>c=(none,())/\Ji κ P rk a₀ a₀.size f/\(pendingOf f).size<=1) ?_ ?_ ⟨rfl,J,?_⟩) ?_)
  ·rintro i c f _ hi ⟨rfl,F,sz⟩
   refine Jh (ZZ ?_);by_cases z:(pendingOf f).size<=1
   ·rw[Jg z]
    exact Jf ⟨rfl,F,z⟩
   rw[Je z]
   have go:∀ t,t+1<(pendingOf f).size->wpS (model prog w) A E s (mergeAt' t) (λb g=>b=true/\Ji κ P rk a₀ a₀.size g/\(pendingOf g).size<=a₀.size-(i+1)+1) f:=λt ht =>
    gG C F (Jc _) ht λg B _ O=>⟨rfl,B,by grind⟩
   refine Jh (YY (go _ ?_) ?_)
   ·repeat' split
    all_goals omega
   ·rintro b g ⟨rfl,B,O⟩
    exact Jf ⟨rfl,B,O⟩
  ·rintro c f ⟨rfl,F,sz⟩
   exact⟨rfl,F,by simp_all⟩
  ·have:=J.runs.len
   rw[JD]at this;lia
  ·rintro c f ⟨rfl,F,sz⟩
   refine Jf (h f F.b ?_);have R:=F.runs;have up:=F.up;have ln:(pendingOf f).toList.length<=1:=by rw[JD];exact sz
   match hq:(pendingOf f).toList,ln with
   | [],_ =>
    rw[hq]at R;intro c d D v L;have:0=a₀.size:=R
    lia
   | [x],_ =>
    rw[hq]at R up;obtain⟨r1,r2,r3⟩:=R;have:0+x.2.1=a₀.size:=r3;have:=up x (by simp);rw[r1,show x.2.1=a₀.size by simp_all]at this;exact this
end
end Ts
namespace L2
open PySem PySem.Spec PyProof.Rows Own
noncomputable def LtAt (A:Around)(s:Shared)(y x:Value)(b:Bool):Prop:=∀ (prog:Program) (w:World) (E:Value->Shared->Prop) (Q:Value->Shared->Prop),Q (.bool b) s->wpAny (model prog w) A (richCompare .Lt y x) Q E s
theorem LtAt.ints {A:Around}{s:Shared}(a b:Int)(t u:Tok):LtAt A s (.int a t) (.int b u) (decide (a<b)):=λ_ _ _ _ h=>lt_int h
theorem pf (l b:Addr)(xs ys:Array Value)(n m:Nat)(L K:Option Addr)(p o:Array (Option Value))(k:Nat)(N:k<xs.size)(M:k<ys.size)(c:Bool) :
  Meets (Builtin.«tuple.__lt__» ⟨[.ref l,.ref b],[]⟩)
   (λA R s=>s.heap.get? l=some { cls:=.type "tuple",dict:=L,data:=.seq xs n,slots:=p }/\s.heap.get? b=some { cls:=.type "tuple",dict:=K,data:=.seq ys m,slots:=o } /\
    (∀ j (P:j<xs.size) (O:j<ys.size),j<k->SeqAt.EqAt A.in1 s xs[j] ys[j] true)/\SeqAt.EqAt A.in1 s xs[k] ys[k] false/\LtAt A.in1 s xs[k] ys[k] c/\R (.ok (.ret (.bool c))) s) :=
 .of_wp λprog w A R s h=>by
  obtain⟨D,g,d,u,os⟩:=s;obtain⟨E,I,G,F,H,h⟩:=h;have kinds:=AutoSeq1.sub_tuple_tuple;have r:(xs.toList.zip ys.toList).length=min xs.size ys.size:=by simp
  wp_walk using wpAny_loadPart' E,wpAny_loadPart' I,wpAny_forIn_list _ (λrest b e=>b.1=none/\e=⟨D,g,d,u,os⟩/\∃ i,i<=k/\rest=(xs.toList.zip ys.toList).drop i) _
  case turn =>
   rintro⟨y,x⟩ rest b e ⟨q,rfl,i,v,a⟩;have C:i<xs.size:=by lia
   have B:i<ys.size:=by lia
   have f:i<(xs.toList.zip ys.toList).length:=by rw[r];lia
   rw[Yx f]at a;obtain⟨t,e2⟩:=List.cons.inj a;have J:y=xs[i]:=by simpa using JS Prod.fst t
   have ex:x=ys[i]:=by simpa using JS Prod.snd t
   subst J ex;by_cases z:i=k
   ·subst z
    refine J0 (F prog w _ _ ?_);simp only[Yu,Bool.not_false];refine J0 (YJ (J0 (H prog w _ _ ?_)))
    wp_walk
    exact⟨_,rfl,h⟩
   ·refine J0 (G i C B (by lia) prog w _ _ ?_)
    wp_walk
    exact⟨rfl,rfl,i+1,by lia,e2⟩
  case fin =>
   rintro⟨S,Q⟩ e ⟨q,rfl,i,v,a⟩;have f:i<(xs.toList.zip ys.toList).length:=by rw[r];lia
   rw[Yx f]at a;cases a
  case h =>
   exact⟨rfl,rfl,0,JN _,rfl⟩
theorem LtAt.tuples {A:Around}{s:Shared}{l b:Addr}{xs ys:Array Value}{k:Nat}{c:Bool}(v:IsTup s.heap l xs)(hb:IsTup s.heap b ys)(u:A.units<cLine)(t:k<xs.size)(r:k<ys.size)(z:∀ j (J:j<xs.size) (I:j<ys.size),j<k->SeqAt.EqAt A.in1 s xs[j] ys[j] true)(y:SeqAt.EqAt A.in1 s xs[k] ys[k] false)(B:LtAt A.in1 s xs[k] ys[k] c):LtAt A s (.ref l) (.ref b) c:=λprog w E Q h=>by
 obtain⟨⟨H,f,D,d⟩,i,q,n,o⟩:=v;obtain⟨⟨G,e,C,a⟩,g,p,m,e2⟩:=hb;simp only at q o p e2;subst q o p e2;exact richCompare_meets_room (op:=.Lt) ⟨_,i,rfl⟩ ⟨_,g,rfl⟩ F.slot_tuple_lt F.entry_tuple_lt (F.args_tuple_lt_2 _ _) (pf l b xs ys n m f e d a k t r c) ⟨i,g,z,y,B,show Value.bool c≠Value.notImplemented/\Q (.bool c) s from⟨(λx=>nomatch x),h⟩⟩ u
end L2
namespace Ts
open PySem PyProof.Rows
section
variable {prog:Program}{w:World}{A:Around}{E:Value->Shared->Prop}{s:Shared}
theorem kC {a:Addr}{vs:List Value}{n:Nat}{B:Fin->Shared->Prop}(t:s.heap.get? a=some (seqObj "list" vs.toArray n)) (K:vs.length<=10000) (κ:SortKind) (g:Value->Int)
  (j:∀ h',(∀ c o,c≠a->s.heap.get? c=some o->h'.get? c=some o)->2<=vs.length->∀ {Q:SortKind->Shared->Prop}{E:Value->Shared->Prop},Q κ { s with heap:=h' }->wpAny (model prog w) A (keyKind' vs.toArray) Q E { s with heap:=h' })
  (m:∀ h',(∀ c o,c≠a->s.heap.get? c=some o->h'.get? c=some o)->Cmp prog w A { s with heap:=h' } κ (λp=>p.1∈vs) (λp=>g p.1))
  (h:∀ out:List Value,out.Perm vs->out.Pairwise (λx y=>g x<=g y)->B (.done (.ret .none)) { s with heap:=sortedHeap s.heap a vs out.toArray }) :
  wpAny (model prog w) A (Builtin.«list.sort» ⟨[.ref a],[]⟩) B E s:=by
 have al:a<s.heap.objs.size:=Jp t;have ln:vs.toArray.size=vs.length:=Jm ..;have H:vs.length<=sizeLine:=JK K (by decide);rw[list_sort_plain];refine J0 (listItems_at t rfl (J0 (listUpdate_at t rfl ?_ (hsz:=by rw[ln];exact H))));obtain⟨v,F⟩:∃ v,(s.heap.update a (Obj.mapSeq λ_=>#[])).get? a=some (seqObj "list" #[] v):=⟨_,get?_update_seq t λ_=>#[]⟩;refine J0 (seqEpoch_at F rfl (J0 (wpAny_newTuple (J0 (wpAny_newList (Y4 ?_))))))
 have l:(((s.heap.update a (Obj.mapSeq λ_=>#[])).push (seqObj "tuple" vs.toArray 0)).push (seqObj "list" #[] 0)).get? a=some (seqObj "list" #[] v) :=
  J7 _ (J7 _ F)
 have old:∀ c o,c≠a->s.heap.get? c=some o->(((s.heap.update a (Obj.mapSeq λ_=>#[])).push (seqObj "tuple" vs.toArray 0)).push (seqObj "list" #[] 0)).get? c=some o:=λc o J q =>
  J7 _ (J7 _ ((Yi _ _ (Ne.symm J)).trans q))
 show wpAny (model prog w) A _ B E { s with heap:=((s.heap.update a (Obj.mapSeq λ_=>#[])).push (seqObj "tuple" vs.toArray 0)).push (seqObj "list" #[] 0) };have lo:∀ out:List Value,out.Perm vs->out.toArray.size<=sizeLine+1:=λout I=>by rw[Jm,I.length_eq];lia
 generalize N:((s.heap.update a (Obj.mapSeq λ_=>#[])).push (seqObj "tuple" vs.toArray 0)).push (seqObj "list" #[] 0)=h6 at l old ⊢;have back:∀ out:Array Value,sortedHeap s.heap a vs out=h6.update a (Obj.mapSeq λ_=>out):=λout=>by rw[<- N];rfl
 by_cases f:vs.toArray.size<2
 ·rw[Jg f,Jg f]
  refine J0 (J8 (?_:wpAny _ _ _ _ _ _));refine J0 (J8 ?_)
  have em:(vs.toArray.zip vs.toArray).map (·.2)=vs.toArray:=by
   apply Array.ext';rw[Array.toList_map,Array.toList_zip];exact List.map_snd_zip (Jc _)
  have one:vs.Pairwise (λx y=>g x<=g y):=by
   match vs,f with
   | [],_=>exact List.Pairwise.nil
   | [x],_=>exact List.pairwise_singleton _ _
   | _::_::_,z=>simp at z;lia
  have k:=h vs (List.Perm.refl _) one;rw[back]at k;dsimp only;rw[em];refine J0 (seqEpoch_at l rfl (J0 (listUpdate_at l rfl ?_ (hsz:=JN _) (hsz2:=lo vs (List.Perm.refl _)))));simp only[Z3,bne_self_eq_false,Y7];exact J8 k
 rw[Je f,Je f];refine J0 (j h6 old (by simp_all) ?_);have C:=m h6 old
 refine J0 (JM (fi C (a₀:=vs.toArray.zip vs.toArray) (st:=SortSt.mk' κ (vs.toArray.zip vs.toArray) #[] 7 none)
  (Q:=λ_ d=>Bs κ (λp=>p.1∈vs) (vs.toArray.zip vs.toArray) d/\Up (λp=>g p.1) (arrOf d) 0 (vs.toArray.zip vs.toArray).size) ⟨rfl,rfl,Array.Perm.refl _,λp r=>?_⟩ rfl λd b u=>⟨b,u⟩) ?_ λ_ _ e=>e)
 ·have:(vs.toArray.zip vs.toArray).toList=vs.zip vs:=by simp
  rw[this]at r;exact(List.of_mem_zip r).1
 rintro⟨⟨⟩,d⟩ P ⟨rfl,b,u⟩
 have D:(arrOf d).toList.Perm (vs.zip vs):=by
  have:=Array.perm_iff_toList_perm.mp b.perm;simpa using this
 have same:∀ p∈(arrOf d).toList,p.1=p.2:=λp r=>by
  have O:=D.mem_iff.mp r;obtain⟨i,hi⟩:=Zh.mp O;rw[Zu]at hi;have:=hi.1.symm.trans hi.2;exact Jt this
 have G:Srt (λp=>g p.1) (arrOf d).toList:=by
  have:=ot (arr:=arrOf d) (lo:=0) (n:=(arrOf d).size) (by rw[b.size];exact u) (by lia);rw[Yz,wt,<- JD,Ya]at this;exact this
 have pm:((arrOf d).toList.map (·.2)).Perm vs:=by
  have:=D.map (·.2)
  rwa [List.map_snd_zip (Jc _)]at this
 have em:(arrOf d).map (·.2)=((arrOf d).toList.map (·.2)).toArray:=by
  apply Array.ext';simp
 have k:=h _ pm (by
  refine List.pairwise_map.mpr (List.Pairwise.imp_of_mem ?_ G);intro x y M L le
  rw[<- same x M,<- same y L];exact le)
 rw[back]at k;dsimp only;rw[em,b.fail];refine J0 (seqEpoch_at l rfl (J0 (listUpdate_at l rfl ?_ (hsz:=JN _) (hsz2:=lo _ pm))));simp only[Z3,bne_self_eq_false,Y7];exact J8 k
end
end Ts
namespace Own
open PySem PySem.Spec PyProof.Rows Ts
section
variable {prog:Program}{w:World}{A:Around}{E:Value->Shared->Prop}{s:Shared}
theorem fZ {x:Value}{Q:Value->Shared->Prop}
  (h:wpAny (model prog w) A.in1 (collect x) (λvs s1=>∃ (κ:SortKind) (a:Value->Int),vs.length<=10000 /\
   (∀ h':Heap,(∀ c o,s1.heap.get? c=some o->h'.get? c=some o)->2<=vs.length->∀ (b:Around) {Q:SortKind->Shared->Prop}{E:Value->Shared->Prop},Q κ { s1 with heap:=h' }->wpAny (model prog w) b (keyKind' vs.toArray) Q E { s1 with heap:=h' }) /\
   (∀ h':Heap,(∀ c o,s1.heap.get? c=some o->h'.get? c=some o)->∀ (b:Around),b.units<=A.units+8->Cmp prog w b { s1 with heap:=h' } κ (λp=>p.1∈vs) (λp=>a p.1)) /\
   ∀ (h':Heap) (l:Addr) (e:Nat) (out:List Value),s1.heap.objs.size<=l->h'.get? l=some (seqObj "list" out.toArray e)->out.Perm vs->out.Pairwise (λx y=>a x<=a y)->(∀ c o,s1.heap.get? c=some o->h'.get? c=some o)->Q (.ref l) { s1 with heap:=h' }) E s) :
  wpAny (model prog w) A (call (.builtin "sorted") [x]) Q E s:=by
 refine Calls.call_function_entry kind_sorted plain_sorted entry_sorted (args_sorted1 _) ?_;unfold Builtin.«sorted»;refine J0 (m:=checkCount "sorted" 1 1 _) (J8 (J0 (JM h (λvs s1 z=>?_) λ_ _ e=>e)));obtain⟨κ,a,d,n,t,fin⟩:=z;have f:vs.length<=sizeLine:=JK d (by decide);refine J0 (wpAny_newList ?_ (hsz:=f));have new:(s1.heap.push (seqObj "list" vs.toArray 0)).get? s1.heap.objs.size=some (seqObj "list" vs.toArray 0):=Jv _ rfl;have up:∀ h':Heap,(∀ c o,c≠s1.heap.objs.size->(s1.heap.push (seqObj "list" vs.toArray 0)).get? c=some o->h'.get? c=some o)->∀ c o,s1.heap.get? c=some o->h'.get? c=some o:=λh' k c o e=>k c o (JC (Jp e)) (J7 _ e);refine J0 (Y4 (Yf slot_list_sort ⟨_,new,rfl⟩ entry_list_sort (kC new d κ a (λh' k j=>n h' (up h' k) j _) (λh' k=>t h' (up h' k) _ ?_) λout i g=>⟨_,rfl,?_⟩) (args_list_sort _)))
 ·show A.units+1+1<=A.units+8
  lia
 obtain⟨e,r⟩:=sortedHeap_at (out:=out.toArray) new;refine J8 ⟨_,rfl,fin _ _ e out (Jc _) r i g λc o q=>?_⟩;have lt:=Jp q;rw[sortedHeap_old (JC lt) (by rw[size_push'];exact ZF lt)];exact J7 _ q
end
end Own
namespace L2
open PySem PySem.Spec PyProof.Rows Own Ts
inductive Lx (H:Hp):Nat->V->V->Ordering->Prop where
 | int (n:Nat) (i j:Int):Lx H n (.int i) (.int j) (compare i j)
 | row {n:Nat}{a b:Addr}{xs ys:List V}{cs:List Ordering}(ha:H a=some (.tup xs)) (hb:H b=some (.tup ys)) (l1:xs.length=cs.length) (l2:ys.length=cs.length) (h:∀ (i:Nat) u v c,xs[i]?=some u->ys[i]?=some v->cs[i]?=some c->Lx H n u v c) :
   Lx H (n+1) (.ref a) (.ref b) (cs.foldr Ordering.then .eq)
theorem w5:∀ {cs:List Ordering},cs.foldr Ordering.then .eq=.eq↔∀ c∈cs,c=.eq
 | []=>by simp
 | c::cs=>by
  rw[List.foldr_cons];constructor
  ·intro h
   cases c<;>simp[Ordering.then]at h;intro d hd;rcases Jq.mp hd with rfl|a
   ·rfl
   ·exact w5.mp h d a
  ·intro h
   rw[h c JL];exact w5.mpr λd hd=>h d (JG _ hd)
theorem rP:∀ {cs:List Ordering},cs.foldr Ordering.then .eq≠.eq->∃ (k:Nat) (c:Ordering),cs[k]?=some c/\c≠.eq/\cs.foldr Ordering.then .eq=c/\∀ j:Nat,j<k->cs[j]?=some Ordering.eq
 | [],h=>absurd rfl h
 | c::cs,h=>by
  by_cases z:c=.eq
  ·subst z
   have e:(Ordering.eq::cs).foldr Ordering.then .eq=cs.foldr Ordering.then .eq:=rfl;rw[e]at h ⊢;obtain⟨k,d,i,g,f,b⟩:=rP h;refine⟨k+1,d,by simpa using i,g,f,λj a=>?_⟩
   cases j with
   | zero=>rfl
   | succ j=>simpa using b j (by simp_all)
  ·refine⟨0,c,rfl,z,?_,λj a=>by simp_all⟩
   rw[List.foldr_cons];cases c<;>first|rfl|exact absurd rfl z
section
variable {X:Cx}
theorem vE (i j:Int):(compare i j == .eq)=decide (i=j)/\(compare i j == .lt)=decide (i<j):=by
 rw[show compare i j=compareOfLessAndEq i j from rfl];unfold compareOfLessAndEq;by_cases b:i<j
 ·rw[Jg b,Jx b,Jr (by lia)];exact⟨rfl,rfl⟩
 ·rw[Je b,Jr b]
  by_cases a:i=j
  ·rw[Jg a,Jx a];exact⟨rfl,rfl⟩
  ·rw[Je a,Jr a];exact⟨rfl,rfl⟩
theorem Lx.refl {H:Hp}{n:Nat}{x y:V}{c:Ordering}(h:Lx H n x y c):x=y->c=.eq:=by
 induction h with
 | int n i j =>
  intro e;cases e;have:=(vE i i).1;rw[Jx rfl]at this
  simpa using this
 | @row n a b l k cs g d o m h ih =>
  intro e;cases e;rw[g]at d;cases d;refine w5.mpr λc f=>?_;obtain⟨i,hi⟩:=Zh.mp f;have p:=(Ja.mp hi).1;exact ih i _ _ c (J9 (by simp_all)) (J9 (by simp_all)) hi rfl
theorem me {pins:List (Addr × Obj)}{σ:St}{H:Hp}{s:Shared}(I:Inv X pins σ H s){n:Nat}{x y:V}{c:Ordering}(h:Lx H n x y c):∀ (A:Around) (u v:Value),A.units+n<cLine->RelV x u->RelV y v->SeqAt.EqAt A s u v (c == .eq):=by
 induction h with
 | int n i j =>
  intro A u v _ p o;have:=gc (A:=A) (s:=s) (x:=.int j) (y:=.int i) p o rfl rfl;rw[(vE i j).1]
  have e:eqV (.int i) (.int j)=decide (i=j):=by
   show (i == j)=decide (i=j);by_cases z:i=j<;>simp[z]
  rwa [e]at this
 | @row n a b Q P cs F E B w h ih =>
  intro A u v hu p o;cases p;cases o;by_cases M:a=b
  ·subst M
   have:cs.foldr Ordering.then .eq=.eq:=Lx.refl (.row F E B w h) rfl;rw[this];exact SeqAt.EqAt.same _
  ·obtain⟨g,K,Y,_⟩:=I.tuple (SqT.of F)
   obtain⟨f,J,W,_⟩:=I.tuple (SqT.of E);have r:=K.length;have q:=J.length;refine SeqAt.EqAt.of_refs M ?_
   have e:((List.range (min g.toArray.size f.toArray.size)).all (λj=>(cs.getD j .eq) == .eq) && g.toArray.size == f.toArray.size)=(cs.foldr Ordering.then .eq == .eq):=by
    rw[Jm,Jm,<- r,<- q,B,w,beq_self_eq_true,Bool.and_true,Nat.min_self];by_cases z:cs.foldr Ordering.then .eq=.eq
    ·rw[z]
     refine(Yw.mpr λj hj=>?_).trans rfl;have D:=YN.mp hj;rw[Jz,J9 D,Option.getD_some,w5.mp z _ (YB D)];rfl
    ·obtain⟨k,d,G,h2,h3,_⟩:=rP z
     have Z:=(Ja.mp G).1;rw[h3];have L:(d == Ordering.eq)=false:=by simpa using h2
     rw[L];refine Bool.eq_false_iff.mpr λt=>?_;have:=Yw.mp t k (YN.mpr Z);rw[Jz,G,Option.getD_some,L]at this;cases this
   have:=SeqAt.RcAt.tuples (e:=λj=>(cs.getD j .eq) == .eq) Y W (A:=A) (s:=s) (by lia) (λj k1 k2=>?_)
   ·rwa [e]at this
   ·have m:j<Q.length:=by simpa [r] using k1
    have l:j<P.length:=by simpa [q] using k2
    obtain⟨S,e1,U⟩:=K.get (J9 m);obtain⟨R,e2,T⟩:=J.get (J9 l);have O:g.toArray[j]=S:=by simpa using (Ja.mp e1).2
    have N:f.toArray[j]=R:=by simpa using (Ja.mp e2).2
    have C:j<cs.length:=by lia
    rw[O,N,Jz,J9 C,Option.getD_some];exact ih j _ _ _ (J9 m) (J9 l) (J9 C) A.in1 _ _ (by show A.units+1+n<cLine;lia) U T
theorem dj {pins:List (Addr × Obj)}{σ:St}{H:Hp}{s:Shared}(I:Inv X pins σ H s){n:Nat}{x y:V}{c:Ordering}(h:Lx H n x y c):c≠.eq->∀ (A:Around) (u v:Value),A.units+n<cLine->RelV x u->RelV y v->LtAt A s u v (c == .lt):=by
 induction h with
 | int n i j =>
  intro _ A u v _ ⟨P,C⟩ ⟨O,e2⟩;subst C e2;rw[(vE i j).2]
  exact LtAt.ints i j P O
 | @row n a b z w cs ha Z l1 l2 h ih =>
  intro ne A u v hu l g;cases l;cases g;obtain⟨f,F,T,_⟩:=I.tuple (SqT.of ha);obtain⟨e,E,S,_⟩:=I.tuple (SqT.of Z);have W:=F.length;have U:=E.length;obtain⟨k,d,B,D,h3,h4⟩:=rP ne;have kl:=(Ja.mp B).1
  have at_:∀ j (t:j<f.toArray.size) (r:j<e.toArray.size),∃ (o:j<z.length) (m:j<w.length),RelV z[j] f.toArray[j]/\RelV w[j] e.toArray[j]:=λj t r=>by
   have q:j<z.length:=by simpa [W] using t
   have p:j<w.length:=by simpa [U] using r
   obtain⟨N,C,R⟩:=F.get (J9 q);obtain⟨M,e2,Q⟩:=E.get (J9 p);have L:f.toArray[j]=N:=by simpa using (Ja.mp C).2
   have K:e.toArray[j]=M:=by simpa using (Ja.mp e2).2
   rw[L,K];exact⟨q,p,R,Q⟩
  rw[h3];have J:k<f.toArray.size:=by rw[Jm];simp_all
  have G:k<e.toArray.size:=by rw[Jm];simp_all
  obtain⟨o,m,l,g⟩:=at_ k J G;refine LtAt.tuples (k:=k) T S (by lia) J G (λj t r Y=>?_) ?_ ?_
  ·obtain⟨o,m,l,g⟩:=at_ j t r
   exact me I (h j _ _ _ (J9 o) (J9 m) (h4 j Y)) A.in1 _ _ (by show A.units+1+n<cLine;lia) l g
  ·have:=me I (h k _ _ _ (J9 o) (J9 m) B) A.in1 _ _ (by show A.units+1+n<cLine;lia) l g
   rwa [show (d == Ordering.eq)=false from by simpa using D]at this
  ·exact ih k _ _ _ (J9 o) (J9 m) B D A.in1 _ _ (by show A.units+1+n<cLine;lia) l g
end
noncomputable def vOf:Value->V
 | .int i _=>.int i
 | .ref a=>.ref a
 | _=>.non
theorem rO:∀ {xs:List V}{us:List Value},Vals xs us->(∀ x∈xs,(∃ i,x=.int i)\/∃ a,x=.ref a)->xs=us.map vOf/\∀ u∈us,RelV (vOf u) u
 | _,_,.nil,_=>⟨rfl,λu g=>by simp at g⟩
 | x::xs,u::us,.cons r rs,h=>by
  obtain⟨e,f⟩:=rO rs λy c=>h y (JG _ c)
  have one:vOf u=x/\RelV (vOf u) u:=by
   rcases h x JL with ⟨i,rfl⟩|⟨a,rfl⟩
   ·obtain⟨t,rfl⟩:=r;exact⟨rfl,t,rfl⟩
   ·cases r;exact⟨rfl,rfl⟩
  refine⟨by rw[Y1,one.1,<- e],λv d=>?_⟩;rcases Jq.mp d with rfl|b
  ·exact one.2
  ·exact f v b
theorem sF:∀ {us:List Value},(∀ u∈us,RelV (vOf u) u)->Vals (us.map vOf) us
 | [],_=>.nil
 | u::us,h=>.cons (h u JL) (sF λv a=>h v (JG _ a))
section
variable {prog:Program}{w:World}{A:Around}{E:Value->Shared->Prop}{s:Shared}
theorem i4 {u v:Value}{b:Bool}{Q:Bool->Shared->Prop}(l:LtAt A s u v b)(h:Q b s):wpAny (model prog w) A (oneLt' false u v) Q E s:=by
 rw[oneLt'_eq,Je Jj];exact J0 (l prog w _ _ (Yy h))
end
section
variable {X:Cx}{pins:List (Addr × Obj)}{σ:St}{H:Hp}{s:Shared}
theorem Inv.adopt {T:Addr}{o:HO}(I:Inv X pins σ H s)(d:FpOk X pins H T)(new:ObjOk X.prog X.w (upd H T o) s.heap T o):Inv X pins σ (upd H T o) s:=by
 have a:=d.1
 have J:Inv X pins σ (upd H T o) { s with heap:=s.heap,gens:=s.gens,drawn:=s.drawn,toks:=s.toks }:=by
  refine I.step (ch:=[T]) (λb f=>?_) (λb u _ _ _ e _=>e) (λb u _ _ _ e _=>⟨u.slots,e⟩) (λb u i _ n=>by rw[zJ λq=>i (Jd.mpr q)];exact n)
   (λb u _ e=>⟨u,e⟩) (λb g e=>by rw[zJ (zH e a)];exact e) (λb u x e=>by rw[zJ (zH e a)];exact e) (λb j e=>⟨#[],by rw[zJ (zH e a),e];simp⟩) (λm h=>h) (λb u e=>?_) I.bare
  ·have only:=Jd.mp f
   subst only;exact⟨d.2.2.2.1,d.2.1,d.2.2.2.2.1,d.2.2.2.2.2⟩
  ·by_cases f:b=T
   ·subst f;rw[zD]at e;cases e;exact new
   ·rw[zJ f]at e
    exact(I.hok b u e).stay (λc v _ q=>q) (λc q=>by rw[zJ (zH q a)];exact q) λc g q=>by rw[zJ (zH q a)];exact q
 exact J
end
end L2
namespace L2
open PySem PySem.Spec PyProof.Rows Own
section
variable {X:Cx}{pins:List (Addr × Obj)}{σ:St}{H:Hp}{s:Shared}{d:Addr}
theorem Inv.reword {u v:HO}(I:Inv X pins σ H s)(hd:H d=some u)(h:∀ xs,u≠.tup xs)(nb:∀ ps,u≠.tbl ps)(no:∀ a,u≠.own a)(l:∀ o' i,X.H₀ d≠some (.frz o' i))(new:ObjOk X.prog X.w (upd H d v) s.heap d v):Inv X pins σ (upd H d v) s:=by
 have ne:∀ {b},H b=none->b≠d:=λe z=>by rw[z,hd]at e;cases e
 have f:∀ {b} {q:HO},H b=some q->q≠u->upd H d v b=some q:=λ{b q} e n=>by
  rw[zJ];· exact e
  ·intro z
   rw[z,hd]at e;exact n (Jt e).symm
 refine⟨I.ok,I.os,I.bare,⟨I.base.keep,I.base.slot,λb q e n m=>?_,I.base.there,λb xs e=>f (I.base.tups b xs e) λz=>h xs z.symm,λb q w e=>?_,λb ps e=>?_⟩,I.loc,I.cell,?_,λx c e=>?_,λp o=>?_,λb q e=>?_,I.len⟩
 ·have z:=I.base.free b q e n m
  rw[zJ (ne z)];exact z
 ·rw[zJ]
  ·exact I.base.frzs b q w e
  ·rintro rfl;exact l q w e
 ·obtain⟨more,z⟩:=I.base.tbls b ps e
  exact⟨more,f z λq=>nb _ q.symm⟩
 ·rw[zJ (ne I.free)];exact I.free
 ·have z:=I.freeC x c e
  rw[zJ (ne z)];exact z
 ·obtain⟨k,g,j⟩:=I.pin p o
  exact⟨k,by rw[zJ (ne g)];exact g,j⟩
 ·by_cases z:b=d
  ·subst z
   rw[zD]at e;cases e;exact new
  ·rw[zJ z]at e
   exact(I.hok b q e).stay (λc w _ r=>r) (λc r=>f r λz=>no _ z.symm) λc xs r=>f r λz=>h _ z.symm
end
noncomputable def NIv (H:Hp):KI->V->Prop
 | .inl i,v=>v=.int i
 | .inr xs,v=>∃ b,v=.ref b/\H b=some (.tup (xs.map V.int))
noncomputable def NIvs (H:Hp):KN->List V->Prop
 | [],vs=>vs=[]
 | k::ks,vs=>∃ v r,vs=v::r/\NIv H k v/\NIvs H ks r
noncomputable def NKey (H:Hp)(k:KN)(b:Addr):Prop:=∃ a,H b=some (.tup a)/\NIvs H k a
theorem NIvs.tups {H H':Hp}(t:∀ b ys,H b=some (.tup ys)->H' b=some (.tup ys)):∀ {k:KN}{ys:List V},NIvs H k ys->NIvs H' k ys
 | [],_,h=>h
 | .inl i::k,_,h=>by
  obtain⟨v,r,e,c,a⟩:=h
  exact⟨v,r,e,c,NIvs.tups t a⟩
 | .inr f::k,_,h=>by
  obtain⟨v,r,e,⟨b,c,d⟩,a⟩:=h;exact⟨v,r,e,⟨b,c,t _ _ d⟩,NIvs.tups t a⟩
theorem NKey.tups {H H':Hp}(t:∀ b ys,H b=some (.tup ys)->H' b=some (.tup ys)){k:KN}{b:Addr}(h:NKey H k b):NKey H' k b:=by
 obtain⟨ys,c,a⟩:=h;exact⟨ys,t _ _ c,a.tups t⟩
section
variable {P:Program}{w:World}{H:Hp}{h:Heap}
theorem pS (ok:HOk P w H h):∀ {k:KN}{ys:List V}{its:List Value},NIvs H k ys->Vals ys its->NIts P w h k its
 | [],_,its,a,r=>by
  rw[show _=[] from a]at r
  cases r;rfl
 | k::ks,_,its,a,r=>by
  obtain⟨v,q,rfl,a1,a2⟩:=a
  cases r with
  | @cons _ u _ g c r =>
   refine⟨u,g,rfl,?_,pS ok a2 r⟩
   cases k with
   | inl i=>rw[show v=.int i from a1]at c;exact c
   | inr d =>
    obtain⟨b,rfl,f⟩:=a1;refine⟨b,c,?_⟩;have e:d.map V.int=(d.map (Sum.inl:Int->Key)).map kV:=by rw[YX];rfl
    rw[e]at f;exact bY ok f
theorem xO (ok:HOk P w H h){k:KN}{b:Addr}(a:NKey H k b):NIs P w h k b:=by
 obtain⟨d,e,a⟩:=a;obtain⟨_,c,r,o,i,g,n,f⟩:=(show ObjOk P w H h b (.tup d) from ok b _ e);exact⟨o,c.toArray,n,i,g,f.1,by simpa using pS ok a r⟩
end
noncomputable abbrev KVN:=List (KN × Addr × V)
noncomputable def PrN:KN × Addr × V->KN × Addr × Value->Prop:=λp q=>p.1=q.1/\p.2.1=q.2.1/\RelV p.2.2 q.2.2
noncomputable def yb (xs:KVN)(k:KN):Option V:=(xs.find? λx=>decide (x.1=k)).map (·.2.2)
noncomputable def yx (xs:KVN)(k:KN)(b:Addr)(v:V):KVN:=if (yb xs k).isSome then xs.map λx=>if x.1=k then (x.1,x.2.1,v) else x else xs++[(k,b,v)]
theorem wE {xs:KVN}{vs:List (KN × Addr × Value)}(r:Paired PrN xs vs)(k:KN):RelO (yb xs k) ((atKey vs k).map (·.2)):=by
 induction r with
 | nil=>exact True.intro
 | @cons p q b a h t ih =>
  unfold yb atKey at ih ⊢;rw[ZU,ZU,h.1];by_cases c:q.1=k
  ·rw[Jx c];exact h.2.2
  ·rw[Jr c];exact ih
theorem iT {xs:KVN}{vs:List (KN × Addr × Value)}(r:Paired PrN xs vs)(k:KN){v:V}{u:Value}(a:RelV v u):Paired PrN (xs.map λx=>if x.1=k then (x.1,x.2.1,v) else x) (vs.map (putAt k u)):=by
 induction r with
 | nil=>exact .nil
 | @cons p q d b h t ih =>
  refine .cons ?_ ih;unfold putAt;dsimp only;by_cases c:q.1=k
  ·rw[Jg (h.1.trans c),Jg c];exact⟨h.1,h.2.1,a⟩
  ·rw[Je (λz=>c (h.1.symm.trans z)),Je c];exact h
theorem putN_rel {xs:KVN}{vs:List (KN × Addr × Value)}(r:Paired PrN xs vs)(k:KN)(b:Addr){v:V}{u:Value}(a:RelV v u):Paired PrN (yx xs k b v) (storedH vs k b u):=by
 have e:=(wE r k).isSome_eq;rw[Option.isSome_map]at e;unfold yx storedH;rw[<- e];by_cases c:(yb xs k).isSome=true
 ·rw[Jg c,Jg c];exact iT r k a
 ·rw[Je c,Je c];exact Paired.snoc r ⟨rfl,rfl,a⟩
theorem vC (xs:KVN)(k:KN)(b:Addr)(v:V):(yx xs k b v).length<=xs.length+1:=by
 unfold yx;split
 ·rw[Jn];lia
 ·rw[Jb];exact Jc _
noncomputable def PhN (P:Program)(w:World)(a:Addr)(xs:KVN):Heap->Prop:=λh=>xs.length<=sizeLine/\(a == sysModules)=false/\∃ b,Paired PrN xs b /\
 ∃ o c d,h.get? a=some o/\o.ExactDict/\o.data=.dict c d/\c.toList=b.map (entryOfKey (yQ P w))/\(b.map (·.1)).Nodup
noncomputable def DN (P:Program)(w:World)(a:Addr)(xs:KVN):HO:=.ext (PhN P w a xs)
noncomputable def KsIn (H:Hp)(xs:KVN):Prop:=∀ x∈xs,NKey H x.1 x.2.1
theorem KsIn.tups {H H':Hp}{xs:KVN}(t:∀ b ys,H b=some (.tup ys)->H' b=some (.tup ys))(h:KsIn H xs):KsIn H' xs:=λx a=>(h x a).tups t
section
variable {P:Program}{w:World}{H H':Hp}{h h':Heap}{a:Addr}{xs:KVN}
theorem dn_new (z:xs.length<=sizeLine)(hd:(a == sysModules)=false){vs:List (KN × Addr × Value)}(r:Paired PrN xs vs)(d:h'.DictOfH (yQ P w) a vs):ObjOk P w H' h' a (DN P w a xs):=by
 obtain⟨o,h,i,b,g,f,e,_,c⟩:=d;refine⟨⟨z,hd,vs,r,o,h,i,b,g,f,e,c⟩,⟨o,b⟩,λk j ⟨z,hd,vs,r,o,h,i,b,g,f,e,c⟩ s=>⟨z,hd,vs,r,o,h,i,s o b,g,f,e,c⟩⟩
theorem wc (ok:HOk P w H h)(e:Rd H a (DN P w a xs))(ks:KsIn H xs):xs.length<=sizeLine/\(a == sysModules)=false/\∃ vs,Paired PrN xs vs/\h.DictOfH (yQ P w) a vs:=by
 obtain⟨⟨z,i,vs,r,o,m,n,l,k,j,f,d⟩,u,s⟩:=(show ObjOk P w H h a (DN P w a xs) from dg ok e);refine⟨z,i,vs,r,o,m,n,l,k,j,f,?_,d⟩;clear f d e z u s
 induction r with
 | nil=>intro x b;exact nomatch b
 | @cons p q A v c t ih =>
  intro x b;rcases Jq.mp b with here|there
  ·have:=xO ok (ks p JL)
   rw[c.1,c.2.1,<- here]at this;exact this
  ·exact ih (λy g=>ks y (JG _ g)) x there
end
section
variable {X:Cx}{pins:List (Addr × Obj)}{σ:St}{H:Hp}{s:Shared}{a b:Addr}{xs:KVN}{k:KN}{v d:V}{r:Value}{A:Around}{E:Value->Shared->Prop}
theorem sS (a:A.units+3<cLine):(yQ X.prog X.w).room A.in1:=by show A.in1.units+2<cLine;rw[Around.in1_units];omega
theorem aa {Q:Value->Shared->Prop}(f:A.units+3<cLine)(I:Inv X pins σ H s)(e:Rd H a (DN X.prog X.w a xs))(ks:KsIn H xs)(d:NKey H k b)(h:∀ c,Inv X pins σ H c->Q (.bool (yb xs k).isSome) c) :
  wpAny (model X.prog X.w) A (compareOp .In (.ref b) (.ref a)) Q E s:=by
 obtain⟨z,g,j,rel,i⟩:=wc I.hok e ks;refine wpAny_in_heap (sS f) (xO I.hok d) g i ?_;have q:=(wE rel k).isSome_eq;rw[Option.isSome_map]at q;rw[<- q];exact h _ (I.tok _)
theorem eQ {Q:Value->Shared->Prop}(f:A.units+3<cLine)(I:Inv X pins σ H s)(e:Rd H a (DN X.prog X.w a xs))(ks:KsIn H xs)(d:NKey H k b)(h:∀ c,Inv X pins σ H c->Q (.bool (!(yb xs k).isSome)) c) :
  wpAny (model X.prog X.w) A (compareOp .NotIn (.ref b) (.ref a)) Q E s:=by
 obtain⟨z,g,j,rel,i⟩:=wc I.hok e ks;refine wpAny_notIn_heap (sS f) (xO I.hok d) g i ?_;have q:=(wE rel k).isSome_eq;rw[Option.isSome_map]at q;rw[<- q];exact h _ (I.tok _)
theorem bP {Q:Value->Shared->Prop}(m:A.units+3<cLine)(I:Inv X pins σ H s)(e:Rd H a (DN X.prog X.w a xs))(ks:KsIn H xs)(l:NKey H k b)(j:RelV d r)(h:∀ c f,Inv X pins σ H f->RelV ((yb xs k).getD d) c->Q c f) :
  wpAny (model X.prog X.w) A (call (.builtin "dict.get") [.ref a,.ref b,r]) Q E s:=by
 obtain⟨z,n,i,rel,g⟩:=wc I.hok e ks;exact call_meetsIn PySem.F.slot_dict_get g.typeIs PySem.F.entry_dict_get (PySem.F.args_dict_get_3 _ _ _) (meetsH_dict_get_default (yQ X.prog X.w) a b n r) ⟨sS m,k,i,xO I.hok l,g,h _ _ (I.tok _) ((wE rel k).getD j)⟩
theorem ku {Q:Value->Shared->Prop}(m:A.units+3<cLine)(I:Inv X pins σ H s)(e:Rd H a (DN X.prog X.w a xs))(ks:KsIn H xs)(i:NKey H k b)(l:yb xs k=some v)(h:∀ c f,Inv X pins σ H f->RelV v c->Q c f) :
  wpAny (model X.prog X.w) A (getItem (.ref a) (.ref b)) Q E s:=by
 obtain⟨z,r,g,rel,q⟩:=wc I.hok e ks;obtain⟨c,j,d⟩:=RelO.some_of (v:=v) (o:=(atKey g k).map (·.2)) (by rw[<- l];exact wE rel k);obtain⟨p,n,rfl⟩:=Y6.mp j;exact wpAny_getItem_heap (sS m) (xO I.hok i) q n (h _ _ (I.tok _) d)
theorem kr {Q:Unit->Shared->Prop}(m:A.units+3<cLine)(I:Inv X pins σ H s)(e:H a=some (DN X.prog X.w a xs))(ks:KsIn H xs)(i:NKey H k b)(g:RelV v r)(l:xs.length<sizeLine)(h:∀ d,Inv X pins σ (upd H a (DN X.prog X.w a (yx xs k b v))) d->Q () d) :
  wpAny (model X.prog X.w) A (setItem (.ref a) (.ref b) r) Q E s:=by
 obtain⟨z,u,f,rel,x⟩:=wc I.hok (.inl e) ks;have j:f.length<=sizeLine:=by rw[<- Yc rel];exact z
 have p:(yx xs k b v).length<=sizeLine:=by have:=vC xs k b v;lia
 refine wpAny_setItem_heap (hsz:=j) (sS m) (xO I.hok i) x λw c n=>h _ ?_;have t:∃ q,w.get? a=some q:=let ⟨q,_,_,o,_⟩:=c;⟨q,o⟩;exact uI I (by rw[e];exact True.intro) n t (dn_new p u (putN_rel rel k b g) c)
end
section
variable {prog:Program}{w:World}{A:Around}{E:Value->Shared->Prop}{s:Shared}{d:Addr}
theorem jU {o:Obj}{a:Array DictEntry}{i:Nat}{Q:Value->Shared->Prop}(b:s.heap.get? d=some o)(e:o.ExactDict)(hd:o.data=.dict a i)(f:(d == sysModules)=false)(h:Q (.int a.size s.toks) { s with toks:=s.toks+1 }) :
  wpAny (model prog w) A (Builtin.«dict.__len__» ⟨[.ref d],[]⟩) (λfin c=>∃ r,fin=.done (.ret r)/\Q r c) E s:=by
 have ty:s.TypeIs (.ref d) "dict":=⟨o,b,e.1⟩;unfold Builtin.«dict.__len__» Builtin.Dict.dictSlotNone;refine J0 (J0 (ZP ty ?_));refine J0 ?_;show wpAny _ _ (pure ((.ref d,[]):Value × List Value)) _ _ _;refine J8 (J8 (J0 ?_));show wpAny _ _ (pure d) _ _ _;unfold dictSize;refine J8 (J0 (J0 (Yb b hd (J8 (J0 (wpAny_pendingCount_other f ?_))))));unfold retInt
 have g:Q (.int ((a.size:Int)+((0:Nat):Int)) s.toks) { s with toks:=s.toks+1 }:=by
  rw[show ((a.size:Int)+((0:Nat):Int))=a.size from Int.add_zero _];exact h
 exact J0 (wpAny_mkInt (J8 ⟨_,rfl,g⟩))
theorem gM {o:Obj}{a:Array DictEntry}{g:Nat}{Q:Value->Shared->Prop}(c:s.heap.get? d=some o)(b:o.ExactDict)(hd:o.data=.dict a g)(f:(d == sysModules)=false)(i:(a.size:Int)<2 ^ 63)(h:∀ t,Q (.int a.size t) { s with toks:=s.toks+1+1 }) :
  wpAny (model prog w) A (Builtin.«len» ⟨[.ref d],[]⟩) (λfin e=>∃ r,fin=.done (.ret r)/\Q r e) E s:=by
 have ty:s.TypeIs (.ref d) "dict":=⟨o,c,b.1⟩;unfold Builtin.«len»;refine J0 ?_;show wpAny _ _ (pure (Value.ref d)) _ _ _;refine J8 (J0 (wpAny_callSpecial?_slot ty PySem.F.slot_dict_len (Yf PySem.F.slot_dict_len ty PySem.F.entry_dict_len (jU c b hd f ?_) (PySem.F.args_dict_len_1 _))));show wpAny _ _ (holding [Value.int (a.size:Int) s.toks] (asIndex (.int (a.size:Int) s.toks)) >>= _) _ _ _;refine J0 (Y4 (show wpAny _ _ (pure (a.size:Int)) _ _ _ from J8 (J0 (W8 ?_))));dsimp only;rw[Je (by simp_all),Je (by simp_all)];unfold retInt;exact J0 (wpAny_mkInt (J8 ⟨_,rfl,h _⟩))
end
section
variable {X:Cx}{pins:List (Addr × Obj)}{σ:St}{H:Hp}{s:Shared}{a:Addr}{xs:KVN}{A:Around}{E:Value->Shared->Prop}
theorem gD {P:Program}{w:World}{h:Heap}(ok:HOk P w H h)(e:Rd H a (DN P w a xs)):(a == sysModules)=false/\∃ o b c,h.get? a=some o/\o.ExactDict/\o.data=.dict b c/\b.size=xs.length/\(b.size:Int)<2 ^ 63:=by
 obtain⟨⟨z,d,k,r,o,b,c,j,i,g,f,m⟩,_,_⟩:=(show ObjOk P w H h a (DN P w a xs) from dg ok e);have l:b.size=xs.length:=by rw[Z1 f,<- Yc r]
 refine⟨d,o,b,c,j,i,g,l,?_⟩;rw[JH]at z;lia
theorem aZ {Q:Value->Shared->Prop}(I:Inv X pins σ H s)(e:Rd H a (DN X.prog X.w a xs))(h:∀ t b,Inv X pins σ H b->Q (.int xs.length t) b):wpAny (model X.prog X.w) A (call (.builtin "len") [.ref a]) Q E s:=by
 obtain⟨c,o,j,k,i,g,d,l,f⟩:=gD I.hok e;refine Calls.call_function_entry kind_len plain_len entry_len (args_len1 _) (gM i g d c f λt=>?_);rw[l];exact h _ _ (I.tok _)
end
noncomputable def NAt (P:Program)(w:World)(H:Hp)(a:Addr)(xs:KVN):Prop:=Rd H a (DN P w a xs)/\KsIn H xs
noncomputable def zai (P:Program)(w:World)(ty e:TE):TE:=λσ H Q=>ty σ H λy f=>e σ f λx c=>∃ a b d k,x=.ref a/\y=.ref b/\NAt P w c a d/\NKey c k b/\Q (.bl (yb d k).isSome) c
noncomputable def fQ (P:Program)(w:World)(ty e:TE):TE:=λσ H Q=>ty σ H λy f=>e σ f λx c=>∃ a b d k,x=.ref a/\y=.ref b/\NAt P w c a d/\NKey c k b/\Q (.bl (!(yb d k).isSome)) c
noncomputable def cF (P:Program)(w:World)(g ty f:TE):TE:=λσ H Q=>g σ H λx e=>∃ a,x=.ref a/\(∃ c,Rd e a (DN P w a c))/\ty σ e λy h=>f σ h λz d=>∃ b c k,y=.ref b/\NAt P w d a c/\NKey d k b/\Q ((yb c k).getD z) d
noncomputable def aG (P:Program)(w:World)(e ty:TE):TE:=λσ H Q=>e σ H λx f=>ty σ f λy c=>∃ a b d k v,x=.ref a/\y=.ref b/\NAt P w c a d/\NKey c k b/\yb d k=some v/\Q v c
noncomputable def aO (P:Program)(w:World)(f ty e:TE):TS:=λD σ H=>e σ H λv h=>f σ h λx g=>ty σ g λy d=>∃ a b c k,x=.ref a/\y=.ref b/\d a=some (DN P w a c)/\KsIn d c/\NKey d k b/\c.length<sizeLine/\D.nx σ (upd d a (DN P w a (yx c k b v)))
section
variable {X:Cx}{o i e f value:Expr}{pos pos' apos cpos:Pos}{td ty tv tx:TE}
theorem nP {pins:List (Addr × Obj)}{σ:St}{H:Hp}{s:Shared}{a:Addr}{xs:KVN}(I:Inv X pins σ H s)(d:Rd H a (DN X.prog X.w a xs)) :
  s.TypeIs (.ref a) "dict"/\∀ b,Value.ref a=.ref b->∃ ob,s.heap.get? b=some ob/\ob.dict=none:=by
 obtain⟨_,q,f,g,e,c,_⟩:=gD I.hok d;refine⟨⟨q,e,c.1⟩,λb z=>?_⟩;cases z;exact⟨q,e,c.2.1⟩
theorem cz (p:X.A.units+3<cLine)(hi:PE X i ty)(q:PE X o td):PC X .In i o (zai X.prog X.w ty td):=by
 intro pins s σ H Q I h;refine thn (hi pins s σ H _ I h) λm d ⟨y,A,w,e,j⟩=>thn (q pins d σ A _ w j) λu C ⟨x,z,v,f,a,b,c,k,ex,r,n,l,g⟩=>?_;subst ex r;cases (show u=Value.ref a from f);cases (show m=Value.ref b from e);exact aa p v n.1 n.2 l λB t=>⟨.bl (yb c k).isSome,z,t,rfl,g⟩
theorem vS (p:X.A.units+3<cLine)(hi:PE X i ty)(q:PE X o td):PC X .NotIn i o (fQ X.prog X.w ty td):=by
 intro pins s σ H Q I h;refine thn (hi pins s σ H _ I h) λm d ⟨y,A,w,e,j⟩=>thn (q pins d σ A _ w j) λu C ⟨x,z,v,f,a,b,c,k,ex,r,n,l,g⟩=>?_;subst ex r;cases (show u=Value.ref a from f);cases (show m=Value.ref b from e);exact eQ p v n.1 n.2 l λB t=>⟨.bl (!(yb c k).isSome),z,t,rfl,g⟩
theorem eB (r:X.A.units+3<cLine)(w:PE X o td)(hi:PE X i ty)(t:NoSl i):PE X (.Subscript o i pos) (aG X.prog X.w td ty):=by
 intro pins s σ H Q I h;refine fX PySem.F.slot_dict_getitem.lookup t (thn (w pins s σ H _ I h) λu e ⟨x,D,B,g,l⟩=>thn (hi pins e σ D _ B l) λp J ⟨y,C,d,f,a,b,E,k,v,ex,z,n,m,q,j⟩=>?_);subst ex z;cases (show u=Value.ref a from g);cases (show p=Value.ref b from f);exact⟨(nP d n.1).1,ku r d n.1 n.2 m q λF G A c=>⟨v,C,A,c,j⟩⟩
theorem ii (D:X.A.units+3<cLine) (E:PE X o td) (G:PE X e ty) (F:PE X f tx) (m:M2 X o "get" apos e f cpos):PE X (.Call (.Attribute o "get" apos) [e,f] [] cpos) (cF X.prog X.w td ty tx):=by
 intro pins s σ H Q I h;refine wpAny_Call_method m.base m.few m.line PySem.F.plainAttrs_dict PySem.F.slot_dict_get PySem.F.type_dict_get (thn (E pins s σ H _ I h) λu p ⟨x,P,g,t,a,ex,⟨R,d⟩,A⟩=>?_);subst ex;cases (show u=Value.ref a from t);obtain⟨j,i⟩:=nP g d;refine⟨j,i,?_⟩;rw[m.trees]
 refine Calls.callWith_builtin rfl (Calls.evalArgs_plain (ZC (thn (G pins p σ P _ g A) λC l ⟨y,O,M,r,w⟩ =>
  ZC (thn (F pins l σ O _ M w) λW V ⟨z,N,L,q,b,S,k,J,n,B,v⟩=>W6 ?_))))
 subst J;cases (show C=Value.ref b from r);exact bP D L n.1 n.2 B q λT U K c=>⟨_,N,K,c,v⟩
theorem mL (z:X.A.units+3<cLine)(B:PE X o td)(hi:PE X i ty)(w:PE X value tv)(A:swapsWith value (some (.Subscript o i pos')) pos.line X.env=pure false) :
  PS X (.Assign [.Subscript o i pos'] value pos) (aO X.prog X.w td ty tv):=by
 intro pins s σ H D I h;refine wpAny_Assign_Subscript (thn (w pins s σ H _ I h) λr d ⟨v,M,K,g,n⟩=>thn (B pins d σ M _ K n) λu c ⟨x,L,J,f,m⟩=>thn (hi pins c σ L _ J m) λt P ⟨y,Q,G,e,a,b,N,k,ex,E,C,p,q,l,j⟩=>?_) A;subst ex E;cases (show u=Value.ref a from f);cases (show t=Value.ref b from e);exact kr z G C p q g l λO F=>⟨σ,_,F,j⟩
theorem rH:CallR X (.builtin "len") (λvs H Q=>∃ a xs,vs=[.ref a]/\Rd H a (DN X.prog X.w a xs)/\Q (.int xs.length) H):=by
 intro pins s σ H vs g Q I b ⟨a,xs,e,d,q⟩;subst e;obtain⟨u,rfl,c⟩:=b.one;cases (show u=Value.ref a from c);exact aZ I d λt h f=>⟨.int xs.length,H,f,⟨t,rfl⟩,q⟩
noncomputable def aF (P:Program)(w:World):TE:=λ_ H Q=>∀ p,H p=none->Q (.ref p) (upd H p (DN P w p []))
theorem qC:PE X (.Dict [] [] pos) (aF X.prog X.w):=λpins s σ H Q I h =>
 wpAny_Dict_empty ⟨.ref s.heap.objs.size,_,I.laid (a:=s.heap.objs.size) (o:=DN X.prog X.w s.heap.objs.size []) (t':=s.toks) (λ_ _ q=>J7 _ q) (Jc _)
  (dn_new (vs:=[]) (JN _) (YD.mpr (Z2 I.big)) .nil (Heap.DictOfH.new _)),rfl,h _ (I.hok.fresh (Jc _))⟩
end
noncomputable def zaF (P:Program)(w:World)(p:Addr)(Q:VK):List (V × V)->Hp->Prop
 | [(y,v)],a=>∃ b k,y=.ref b/\a p=some (DN P w p [])/\NKey a k b/\Q (.ref p) (upd a p (DN P w p [(k,b,v)]))
 | _,_=>False
noncomputable def aE (P:Program)(w:World)(ty c:TE):TE:=λσ H Q=>∀ p,H p=none->ty σ (upd H p (DN P w p [])) λy d=>c σ d λv a=>∃ b k,y=.ref b/\a p=some (DN P w p [])/\NKey a k b/\Q (.ref p) (upd a p (DN P w p [(k,b,v)]))
section
variable {X:Cx}{e f:Expr}{pos:Pos}{ty tv:TE}
theorem pB (N:X.A.units+3<cLine)(D:PE X e ty)(w:PE X f tv):PE X (.Dict [some e] [f] pos) (aE X.prog X.w ty tv):=by
 intro pins s σ H Q I q;have C:=I.hok.fresh (Jc s.heap.objs.size)
 have J:=I.laid (a:=s.heap.objs.size) (o:=DN X.prog X.w s.heap.objs.size []) (h':=s.heap.push { cls:=.type "dict",data:=.dict #[] }) (t':=s.toks) (λ_ _ q=>J7 _ q) (Jc _)
  (dn_new (vs:=[]) (JN _) (YD.mpr (Z2 I.big)) .nil (Heap.DictOfH.new _))
 refine wpAny_Dict_any rfl rfl (by simp) (by show 1<=15;lia) (thn ((iW D w fu) pins _ σ _ (zaF X.prog X.w s.heap.objs.size Q) J (q _ C)) ?_);rintro vs M ⟨n,O,d,rel,r⟩
 match n,rel,r with
 | [(y,v)],rel,r =>
  obtain⟨b,k,rfl,g,p,m⟩:=r
  cases rel with
  | @cons _ i _ K h t =>
   cases t;obtain⟨j,L⟩:=i;cases (show j=Value.ref b from h.1);obtain⟨z,F,vs,l,G⟩:=wc d.hok (.inl g) (λx u=>nomatch u);cases l;unfold storeAll;rw[Z0];refine J0 (J0 (wpAny_dictSet_heap (knd:=yQ X.prog X.w) (k:=k) (hsz:=JN _) (show X.A.units+2<cLine by lia) (xO d.hok p) G λh' c A=>J8 ?_));dsimp only;rw[Z8];refine J8 ⟨.ref s.heap.objs.size,_,?_,rfl,m⟩;have E:∃ q,h'.get? s.heap.objs.size=some q:=let ⟨q,_,_,B,_⟩:=c;⟨q,B⟩
   exact uI d (by rw[g];exact True.intro) A E (dn_new (by show 1<=sizeLine;decide) F (.cons ⟨rfl,rfl,h.2⟩ .nil) c)
 | [],_,r=>exact r.elim
 | _::_::_,_,r=>exact r.elim
end
noncomputable def DCW (P:Program)(w:World)(J:It)(g:TG)(tk n:TE)(d:Addr)(Q:VK)(W:Nat->Nat->KVN->St->Hp->Prop):Prop :=
 ∀ i m c f e,W i m c f e->(J.stop i e/\Q (.ref d) e)\/(J.go i e/\∀ x l,J.yld i e x l->g x f l λa p=>tk a p λy o=>n a o λv h=>∃ b k,y=.ref b/\h d=some (DN P w d c)/\KsIn h c/\NKey h k b/\c.length<sizeLine /\
  ∃ j,j<m/\W (i+1) j (yx c k b v) a (upd h d (DN P w d (yx c k b v))))
noncomputable def tDC (P:Program)(w:World)(cap:List (Option Nat))(b:TI)(g:TG)(tk c:TE):TE:=λσ H Q=>b σ H λJ a=>∀ d,a d=none ->
 ∃ W:Nat->Nat->KVN->St->Hp->Prop,(∃ m,W 0 m [] (qP cap σ) (upd a d (DN P w d [])))/\DCW P w J g tk c d Q W
theorem kv {X:Cx}{pins:List (Addr × Obj)}{σ:St}{H:Hp}{s:Shared}{a b:Addr}{xs:KVN}{k:KN}{v:V}{r:Value}{E:Value->Shared->Prop}{Q:Unit->Shared->Prop}(u:X.A.units+3<cLine)(I:Inv X pins σ H s)(e:H a=some (DN X.prog X.w a xs))(ks:KsIn H xs)(i:NKey H k b)(g:RelV v r)(l:xs.length<sizeLine)(h:∀ d,Inv X pins σ (upd H a (DN X.prog X.w a (yx xs k b v))) d->Q () d) :
  wpAny (model X.prog X.w) X.A (dictSet a (.ref b) r) Q E s:=by
 obtain⟨z,p,f,rel,t⟩:=wc I.hok (.inl e) ks;have j:f.length<=sizeLine:=by rw[<- Yc rel];exact z
 have o:(yx xs k b v).length<=sizeLine:=by have:=vC xs k b v;lia
 refine wpAny_dictSet_heap (knd:=yQ X.prog X.w) (k:=k) (hsz:=j) (show X.A.units+2<cLine by lia) (xO I.hok i) t λw c m=>h _ ?_;exact uI I (by rw[e];exact True.intro) m (let ⟨q,_,_,n,_⟩:=c;⟨q,n⟩) (dn_new o p (putN_rel rel k b g) c)
theorem dX {prog:Program}{w:World}{A:Around}{R:Result->Shared->Prop}{s:Shared}{i g tg iter:Expr}{scope:Scope}{pos:Pos}{it:Value}{D:Addr}{env:Env}(J:Nat->Shared->Prop)(turn:∀ n s,J n s->wpAny (model prog w) A (pyNext it) (λr a=>match r with
   | none=>R (.ok .next) a
   | some v=>wpAny (model prog w) A (letOwnedTupleGo tg it v) (λ_ b=>wpAny (model prog w) A (assign tg env v) (λ_ c=>wpAny (model prog w) A (eval i env) (λx d=>wpAny (model prog w) A (eval g env) (λy e=>wpAny (model prog w) A (dictSet D x y) (λ_ z=>∃ m,m<n/\J m z) NoX e) NoX d) NoX c) NoX b) NoX a) NoX s)(n:Nat)(h:J n s) :
  codeAny (model prog w) A (.compLoop (.DictComp i g [⟨tg,iter,[],0⟩] scope pos) 0 it (.ref D) env) R s:=by
 refine codeAny_loop rfl J (λn s k=>?_) n h;show wpAny _ A ((compTurn (.DictComp i g [⟨tg,iter,[],0⟩] scope pos) 0 it (.ref D) env).onRaise (λx=>do noteFrame x env;theTreesLotGoes x)) _ _ s;refine wpAny_noted ?_;rw[compTurn_dict];refine J0 (YL (J0 (JM (turn n s k) (λr a j=>?_) λ_ _ z=>z.elim)))
 cases r with
 | none=>exact J8 j
 | some v =>
  refine J0 (JM j (λ_ b t=>?_) λ_ _ z=>z.elim);refine J0 (JM t (λ_ c q=>?_) λ_ _ z=>z.elim);dsimp only;rw[Z8];refine J0 (J8 ?_);rw[Jg rfl];refine J0 (J0 (JM q (λx d p=>J0 (Y4 (JM p (λy e o=>J0 (YL (Y4 (JM o (λ_ f l=>?_) λ_ _ z=>z.elim)))) λ_ _ z=>z.elim))) λ_ _ z=>z.elim));exact J8 ⟨rfl,l⟩
theorem ip {X:Cx}{kx vx tg iter:Expr}{scope:Scope}{pos:Pos}{wi:TI}{g:TG}{tk tv:TE}{N':List Str}{cap:List (Option Nat)}(hu:X.A.units+3<cLine)(hc:X.calm=true)(hi:PI X tg iter wi)(R:CapOk X.N N' X.env.scope scope cap)(hg:∀ C s₀ H₀ fp pins,PG (yN X N' scope C s₀ H₀ fp pins) tg g)(hk:∀ C s₀ H₀ fp pins,PE (yN X N' scope C s₀ H₀ fp pins) kx tk)(hv:∀ C s₀ H₀ fp pins,PE (yN X N' scope C s₀ H₀ fp pins) vx tv)(hs:∀ x,foldedSetIterable iter X.env x=pure x:=by intro _;rfl):PE X (.DictComp kx vx [⟨tg,iter,[],0⟩] scope pos) (tDC X.prog X.w cap wi g tk tv):=by
 intro pins s σ H Q I h;rw[arm_eval_DictComp];have K:∀ y∈scope.names,y.2=.free->∃ c,X.env.cells.lookup y.1=some c:=λy hy hf=>I.ok.has y.1 (R.free y hy hf);refine wpAny_comprehension_free (use:=none) rfl hs (wv K) R.kind R.names (thn (hi pins s σ H _ I h) λv s1 h1=>thn h1 λcb D h2=>?_);obtain⟨it,fp,tn,J,H2,e,I2,T,a4,P,body⟩:=h2;subst e;have aT:H2 D.heap.objs.size=none:=I2.hok.fresh (Jc _);obtain⟨W,⟨m0,w0⟩,turn⟩:=body D.heap.objs.size aT
 have w:=I2.laid (a:=D.heap.objs.size) (o:=DN X.prog X.w D.heap.objs.size []) (h':=D.heap.push { cls:=.type "dict",data:=.dict #[] }) (t':=D.toks) (λ_ _ q=>J7 _ q) (Jc _)
  (dn_new (vs:=[]) (JN _) (YD.mpr (Z2 I2.big)) .nil (Heap.DictOfH.new _))
 refine JQ (wpAny_newFunctionEnv R.nocell (by intro y hy;simp at hy) (λB G F=>?_) R.kind);dsimp only at G F ⊢;generalize hl:D.heap.objs.size=l at *;generalize hP:D.heap.push { cls:=.type "dict",dict:=none,data:=.dict #[] }=P2 at *;generalize b2:upd H2 l (DN X.prog X.w l [])=H3 at *;have old:∀ b o,P2.get? b=some o->B.get? b=some o:=λb o e=>F.extBut b o (JC (Jp e)) (J7 _ e);have ax:∀ b o,D.heap.get? b=some o->P2.get? b=some o:=λb o e=>hP ▸ J7 _ e
 have a9:∀ b∈fp,b<l:=λb f=>by
  obtain⟨o,e,_⟩:=T.obj _ _ a4 b f;rw[<- hl];exact Jp e
 have b4:∀ b∈fp,H3 b=none:=λb f=>by
  rw[<- b2,zJ (JC (a9 b f))];exact(P b f).1
 have b1:P2.objs.size=l+1:=by rw[<- hP,YQ,hl]
 have A:∀ x c,(wY X.env.cells scope.names []).lookup x=some c->X.env.cells.lookup x=some c:=λx c e=>wO _ _ x c K (λ_ _ z=>by simp at z) e;generalize a6:({ D with heap:=P2,toks:=D.toks }:Shared)=s3 at *;have t:s3.heap=P2:=by rw[<- a6]
 let Y:=yN X N' scope P2.objs.size s3 H3 fp pins
 have E:Y.Ok:=by
  refine⟨w.ok.mod,R.kind,w.ok.glob,w.ok.blt,by show s3.heap.objs.size<=P2.objs.size;rw[t];exact Jc _,λx y c e1 e2=>w.ok.inj x y c (A x c e1) (A y c e2),λx V=>?_,λx c V=>absurd (show false=true from V) Jj,w.ok.hd,w.ok.frames,.inl rfl,λb f=>⟨?_,λx c e=>?_⟩,w.bs,
   JK w.ok.bsz w.sz,λb o e f=>?_,λb f hz=>?_,w.stack,w.stkFree⟩
  ·have bt:scope.names.lookup x=some .free:=by
    rcases V with V|V
    ·rcases yo V with z|z
     ·exact absurd rfl (R.nocell _ (wC z))
     ·exact z.2
    ·rcases yo V with z|z
     ·exact z
     ·exact z.2
   exact xH _ _ x bt
  ·exact JC (by show b<P2.objs.size;rw[b1];exact ZF (a9 b f))
  ·exact(P b f).2.2.2.2.1 x c (A x c e)
  ·rcases (P b f).2.2.2.1 with z|z
   ·exact w.ok.noex b o e z
   ·exact absurd (JF (Jp e) (JK w.ok.bsz z)) (YC _)
  ·rcases Jq.mp (w.stkSub b hz) with z|z
   ·exact(P b f).2.1 z
   ·exact(P b f).2.2.1 z
 have b0:Inv Y [] (qP cap σ) H3 { D with heap:=B,toks:=D.toks }:=by
  refine⟨E,by show D.os=s3.os;rw[<- a6],I2.bare,by show Un _ _ _ _ s3.heap B;rw[t];exact Un.kept old,⟨_,G,λj x v e1 e2 e3=>?_⟩,λx c e=>?_,?_,λx c e=>w.freeC x c (A x c e),λp hp=>?_,λb o e=>?_,?_⟩
  ·have b6:N'[j]?=some x:=e1
   unfold qP at e2;rw[JZ]at e2
   cases ec:cap[j]? with
   | none=>rw[ec]at e2;cases e2
   | some oc =>
    rw[ec]at e2
    cases oc with
    | none=>cases e2
    | some i =>
     have b5:σ[i]?=some (some v):=by
      cases ei:σ[i]? with
      | none=>simp[ei]at e2
      | some v' =>
       simp[ei]at e2;rw[e2]
     have hz:(x,some i)∈N'.zip cap:=by
      refine JB (i:=j) ?_;rw[Zu];exact⟨b6,ec⟩
     obtain⟨hN,hf,hk⟩:=R.cap _ hz i rfl;obtain⟨m,hn,bu⟩:=w.loc;obtain⟨u,r,lk⟩:=bu i x v hN b5 (by rcases hk with z|z;exact .inr (.inl z);exact .inr (.inr z));refine⟨u,r,.inr ⟨?_,?_⟩⟩
     ·exact x8 hf
     ·rcases lk with ⟨z,_⟩|⟨_,c,bS,ab⟩
      ·have z':X.env.scope.names.lookup x=some .local:=z
       rcases hk with q|q
       ·rw[q]at z';cases z'
       ·rw[q]at z';cases z'
      ·obtain⟨c',a7⟩:=xH (cells:=X.env.cells) scope.names [] x hf
       have:=A x c' a7;rw[bS]at this;cases this;obtain⟨ob,e,d⟩:=ab;rw[t]at e;exact⟨c,a7,ob,old c ob e,d⟩
  ·obtain⟨v,ob,e',d⟩:=w.cell x c (A x c e)
   rw[t]at e';exact⟨v,ob,old c ob e',d⟩
  ·refine w.hok.fresh ?_
   rw[t];exact Jc _
  ·have ao:p∈X.pn++pins:=(Ju.mp hp).elim (λz=>z) (λz=>nomatch z)
   obtain⟨e,n,ne,nf,d⟩:=w.pin p ao;rw[t]at e;refine⟨old _ _ e,n,JC (Jp e),λz=>?_,d⟩;rcases Jq.mp (w.stkSub _ z) with q|q
   ·exact ne q
   ·exact nf q
  ·have:=w.hok.kept (h':=B) (λb u q=>old b u (by rw[<- t];exact q))
   exact this b o e
  ·show (cap.map _).length=N'.length
   rw[Jn,R.len]
 have N:∀ {L:Hp},(∀ b∈fp,L b=none)->∀ b∈fp,FpOk Y [] L b:=λ{L} hn b f=>by
  refine⟨hn b f,(E.exf b f).1,E.exfs b f,.inl f,(E.exf b f).2,λp hp=>?_⟩;have ao:p∈X.pn++pins:=(Ju.mp hp).elim (λz=>z) (λz=>nomatch z);exact(P b f).2.2.2.2.2 p ao
 have a5:tn 0 B:=T.keep 0 _ _ a4 λb f o e=>old b o (ax b o e)
 have loop:codeAny (model X.prog X.w) X.A (.compLoop (.DictComp kx vx [⟨tg,iter,[],0⟩] scope pos) 0 (.ref it) (.ref l) Y.env) (compPost (model X.prog X.w) X.A X.xe none (EP X pins σ Q) (.ref l) P2.objs.size) { D with heap:=B,toks:=D.toks }:=by
  refine dX (λn s'=>∃ i acc M L,Inv Y [] M L s'/\tn i s'.heap/\(∀ b∈fp,L b=none)/\W i n acc M L) ?_ m0 ⟨0,[],_,H3,b0,a5,b4,w0⟩;rintro n s4 ⟨i,acc,U,H4,I4,a3,a8,w4⟩;have q4:=turn i n acc U H4 w4;rcases q4 with ⟨stop,qn⟩|⟨go,step⟩
  ·refine thn (T.done Y rfl rfl rfl hc i [] s4 U H4 Y.xe I4 (N a8) a3 stop) λr s5 ⟨hr,I5⟩=>?_
   subst hr;obtain⟨m,hn,_⟩:=id I5.loc;have un:Un (frs X.stack) fp H3 H4 s3.heap s5.heap:=I5.base;have ba:s3.heap.objs.size<=P2.objs.size:=by rw[t];exact Jc _
   have IX:Inv X pins σ H4 s5:=w.call' (ch:=fp) I5.os un I5.hok I5.bare λb f=>⟨(P b f).2.2.2.1,(P b f).2.1,(P b f).2.2.2.2.1,(P b f).2.2.2.2.2⟩;exact⟨m,hn,λh' sb=>⟨.ref l,H4,IX.gone (w.fpOk ba I5.free) sb,rfl,qn⟩⟩
  ·refine thn (T.item Y rfl rfl rfl hc i [] s4 U H4 Y.xe I4 (N a8) a3 go) λr s5 ⟨u,hr,h5⟩=>?_
   subst hr;refine thn h5 λ_ s6 ⟨x,H6,I6,r6,y6,Z,b3⟩=>?_;have b7:=I6.pinned (N b3) (T.obj _ _ Z);refine thn (hg _ _ _ _ _ _ s6 U H6 x u _ b7 r6 (step x H6 y6)) λ_ s7 ⟨a0,H7,I7,q7⟩=>?_
   have again:∀ {S:St}{H9:Hp}{s9:Shared}{O:KVN},Inv Y ([]++wA fp s6.heap) S H9 s9->(∃ m',m'<n/\W (i+1) m' O S H9)->∃ m,m<n/\∃ i acc M L,Inv Y [] M L s9/\tn i s9.heap/\(∀ b∈fp,L b=none)/\W i m acc M L:=λ{S H9 s9 O} I9 ⟨m',hm,w9⟩=>by
    refine⟨m',hm,i+1,O,S,H9,I9.unpinned,T.keep _ _ _ Z λb f o e=>(I9.pin (b,o) (JE _ (JE _ (yX f e)))).1,λb f=>?_,w9⟩;obtain⟨o,e,d⟩:=T.obj _ _ Z b f;exact(I9.pin (b,o) (JE _ (JE _ (yX f e)))).2.1
   refine thn (hk _ _ _ _ _ _ s7 a0 H7 _ I7 q7) λu1 s8 ⟨y,H8,I8,r8,q8⟩=>thn (hv _ _ _ _ _ _ s8 a0 H8 _ I8 q8) λu2 s9 ⟨v,H9,I9,r9,b,k,ey,bB,bo,bq,l9,q9⟩=>?_;subst ey;cases (show u1=Value.ref b from r8);exact kv (X:=Y) hu I9 bB bo bq r9 l9 λb9 b8=>again b8 q9
 exact codeAny_compStart_dict loop (T.self X.A 0 _ _ _ a5 loop)
end L2
namespace Bn
open PySem L2 Own
structure Grp where
 many:Int
 lane:Nat
 fork:Nat
noncomputable def yK (back:Bool)(st:List Int × Nat)(k:Nat)(f:Nat × Nat):List Int × Nat :=
 if st.2=f.1\/st.2=f.2 then (st.1.set k (1-st.1.getD k 0),if (if back then 1-st.1.getD k 0 else st.1.getD k 0)=0 then f.1 else f.2) else st
noncomputable def yP (back:Bool)(fs:List (Nat × Nat))(ts:List Int)(lane:Nat):Nat->List Int × Nat
 | 0=>(ts,lane)
 | i+1=>yK back (yP back fs ts lane i) i (fs.getD i (0,0))
noncomputable def dw (xs:List Int)(i:Nat)(d:Int):List Int:=xs.set i (xs.getD i 0+d)
theorem iI {ts:List Int}{k:Nat}(h:∀ t∈ts,t=0\/t=1):∀ t∈ts.set k (1-ts.getD k 0),t=0\/t=1:=λt a=>by
 rcases List.mem_or_eq_of_mem_set a with z|z
 ·exact h t z
 ·by_cases b:k<ts.length
  ·have:=h _ (L2.tN b);lia
  ·rw[List.set_eq_of_length_le (by simp_all)]at a;exact h t a
theorem x4 {back:Bool}{fs:List (Nat × Nat)}{ts:List Int}{lane:Nat}(h:∀ t∈ts,t=0\/t=1):∀ i,∀ t∈(yP back fs ts lane i).1,t=0\/t=1
 | 0=>h
 | i+1=>by
  have ih:=x4 (back:=back) (fs:=fs) (lane:=lane) h i;show ∀ t∈(yK back (yP back fs ts lane i) i (fs.getD i (0,0))).1,t=0\/t=1;unfold yK;split
  ·exact iI ih
  ·exact ih
theorem wQ {back:Bool}{fs:List (Nat × Nat)}{ts:List Int}{lane:Nat}:∀ i,(yP back fs ts lane i).1.length=ts.length
 | 0=>rfl
 | i+1=>by
  have ih:=wQ (back:=back) (fs:=fs) (ts:=ts) (lane:=lane) i;show (yK back (yP back fs ts lane i) i (fs.getD i (0,0))).1.length=_;unfold yK;split
  ·simp only;rw[List.length_set];exact ih
  ·exact ih
theorem wm {back:Bool}{fs:List (Nat × Nat)}{ts:List Int}{lane n:Nat}(ok:∀ f∈fs,f.1<n/\f.2<n/\f.1≠f.2)(b:lane<n):∀ i,i<=fs.length->(yP back fs ts lane i).2<n
 | 0,_=>b
 | i+1,hi=>by
  have ih:=wm (back:=back) (ts:=ts) ok b i (by lia);have a:=ok _ (YB (show i<fs.length by lia));have c:fs.getD i (0,0)=fs[i]:=by rw[Jz,J9 (show i<fs.length by lia)];rfl
  show (yK back (yP back fs ts lane i) i (fs.getD i (0,0))).2<n;rw[c];generalize fs[i]=f at *;unfold yK;split
  ·simp only
   by_cases z:(if back=true then 1-(yP back fs ts lane i).1.getD i 0 else (yP back fs ts lane i).1.getD i 0)=0
   ·rw[Jg z];exact a.1
   ·rw[Je z];exact a.2.1
  ·exact ih
theorem tG (k:Nat):∀ a:List Nat,(a.map λ(e:Nat)=>(e:Int)).idxOf (k:Int)=a.idxOf k
 | []=>rfl
 | e::a=>by
  rw[Y1,List.idxOf_cons,List.idxOf_cons,tG k a]
  have:((e:Int) == (k:Int))=(e == k):=by
   rw[Yj,beq_iff_eq];rw[beq_iff_eq];lia
  rw[this]
theorem pO (a:List Nat):zV a=(a.map λ(e:Nat)=>(e:Int)).map V.int:=by unfold zV;rw[YX];rfl
noncomputable def iG:Sp:=λb H Q _=>∃ r fr d c N,∃ a:Nat,b=[.ref r,.int a]/\Nt.Ok N/\NetAt H r fr d c N/\a<N.lanes/\Q (.int (N.ends.idxOf a:Nat)) H
noncomputable def RunQ (back:Bool)(vs:List V)(H:Hp)(Q:VK):Prop:=∃ r fr g f N e b,∃ a:Nat,vs=[.ref r,.ref e,.int a]/\Nt.Ok N/\NetAt H r fr g f N/\H e=some (.tup (List.map V.int b))/\b.length=N.forks.length/\(∀ t∈b,t=0\/t=1)/\a<N.lanes /\
 ∀ p c d,Same H d->d p=some (.tup [.ref c,.int (N.ends.idxOf (yP back N.forks b a N.forks.length).2:Nat)])->d c=some (.tup ((yP back N.forks b a N.forks.length).1.map V.int))->Q (.ref p) d
noncomputable def wj (back:Bool):Sp:=λa H Q _=>RunQ back a H Q
noncomputable def iD:Sp:=λb H Q _=>∃ (a:List V) (back:Bool),b=a++[.bl back]/\RunQ back a H Q
theorem fc (xs:List Int)(i:Nat)(v:Int)(h:i<xs.length):(xs.map V.int).take i++[V.int v]++(xs.map V.int).drop (i+1)=(xs.set i v).map V.int:=by
 rw[List.set_eq_take_append_cons_drop,Jg h,JU,Y1,List.map_take,List.map_drop,Y2];rfl
noncomputable def part (m:Int)(lane k:Nat):List Grp:=if m=0 then [] else [⟨m,lane,k⟩]
end Bn
namespace L2
open PySem PySem.Spec PyProof.Rows Own
theorem oY (n:Nat):Builtin.Slice.sliceAdjust none none (-1) (n:Int)=((n:Int)-1,-1):=by
 unfold Builtin.Slice.sliceAdjust;rfl
theorem qz (n:Nat):Builtin.Slice.slicePlaces ((n:Int)-1) (-1) (-1)=n:=by
 unfold Builtin.Slice.slicePlaces;by_cases z:n=0
 ·subst z;rfl
 ·simp
  lia
theorem kK (vs:List Value):((List.range vs.length).filterMap λ(k:Nat)=>(vs.toArray)[(((vs.length:Int)-1)+(k:Int)*(-1)).toNat]?).toArray=vs.reverse.toArray:=by
 congr 1
 have e:∀ k,k<vs.length->(vs.toArray)[(((vs.length:Int)-1)+(k:Int)*(-1)).toNat]?=vs.reverse[k]?:=λk b=>by
  rw[List.getElem?_reverse b,List.getElem?_toArray]
  congr 1
  lia
 have all:∀ (ws:List Value) (f:Nat->Option Value),(∀ k,k<ws.length->f k=ws[k]?)->(List.range ws.length).filterMap f=ws:=by
  intro ws
  induction ws with
  | nil=>intro f _;rfl
  | cons a ws ih =>
   intro f c;rw[JV,List.range_succ_eq_map,ZX,c 0 (by simp),Za];show a::_=_
   congr 1
   exact ih (f∘Nat.succ) λk b=>by show f (k+1)=_;rw[c (k+1) (by simpa using b)];rfl
 have:=all vs.reverse (λk=>(vs.toArray)[(((vs.length:Int)-1)+(k:Int)*(-1)).toNat]?) (λk b=>e k (by simpa using b))
 rwa [Z7]at this
section
variable {prog:Program}{w:World}{A:Around}{E:Value->Shared->Prop}{s:Shared}
theorem sA (n:Nat){sl:Addr}{t:Tok}{Q:Int × Int × Nat->Shared->Prop}(c:s.heap.IsSliceOf sl .none .none (.int (-1) t))(h:Q ((n:Int)-1,-1,n) s):wpAny (model prog w) A (Builtin.Slice.sliceApplied (.ref sl) (pure (n:Int))) Q E s:=by
 obtain⟨os,a,d,b⟩:=id c;unfold Builtin.Slice.sliceApplied Builtin.Slice.sliceFields;refine J0 (J0 (W7 a b (x:=.none) rfl (J0 (W7 a b (x:=.none) rfl (J0 (W7 a b (x:=.int (-1) t) rfl (J8 ?_)))))));refine J0 (slicePart_int ?_);show wpAny _ _ (if ((-1:Int) == 0)=true then _ else _) _ _ s;rw[Je (by decide)];refine J0 (slicePart_none (J0 (slicePart_none (J0 (J8 ?_)))));show wpAny _ _ (match Builtin.Slice.sliceAdjust none none (-1) (n:Int) with|(lo,hi)=>pure (lo,(-1:Int),Builtin.Slice.slicePlaces lo hi (-1))) _ _ s;rw[oY n];show wpAny _ _ (pure ((n:Int)-1,(-1:Int),Builtin.Slice.slicePlaces ((n:Int)-1) (-1) (-1))) _ _ s;rw[qz n];exact J8 h
theorem tf {t sl:Addr}{vs:List Value}{tk:Tok}{Q:Value->Shared->Prop}(b:IsTup s.heap t vs.toArray) (g:vs.length<=sizeLine) (f:s.heap.IsSliceOf sl .none .none (.int (-1) tk)) (h:Q (.ref s.heap.objs.size) { s with heap:=s.heap.push { cls:=.type "tuple",data:=.seq vs.reverse.toArray } }) :
  wpAny (model prog w) A (getItem (.ref t) (.ref sl)) Q E s:=by
 obtain⟨os,c,d,i⟩:=id f;have e:s.TypeIs (.ref sl) "slice":=⟨os,c,d⟩;unfold getItem
 try with_reducible refine Y4 ?_
 first|refine J0 (J8 ?_)|skip
 refine J0 (wpAny_sequenceKey b.typeIs (by decide) (J0 (wpAny_callSpecial?_slot (name:=Str.ofString "__getitem__") b.typeIs YF (Yf YF b.typeIs PyProof.Rows.entry_tuple_getitem ?_ (PyProof.Rows.args_tuple_getitem _ _)))));show wpAny _ _ (Builtin.Tuple.tupleItemsOf (.ref t) >>= _) _ _ s;refine J0 (tupleItemsOf_ b (J0 (YM e ?_)));rw[Jg (by decide)];have sz:vs.toArray.size=vs.length:=Jm ..;rw[sz];refine J0 (sA vs.length f ?_);show wpAny _ _ (if (((vs.length:Int)-1) == 0 && (-1:Int) == 1 && vs.length == vs.toArray.size)=true then _ else _) _ _ s;rw[Je (by rw[show ((-1:Int) == 1)=false from rfl,Bool.and_false,Bool.false_and];exact Jj)];rw[kK];have a:vs.reverse.toArray.size<=sizeLine:=by rw[Jm,Z7];exact g
 first
  | exact J0 (m:=Builtin.Tuple.tupleExact _) (JQ (J8 ⟨_,rfl,J8 h⟩) a)
  | exact J0 (m:=Builtin.Tuple.tupleExact _) (JQ (J0 (J8 (J8 ⟨_,rfl,J8 h⟩))) a)
  | exact J0 (J0 (m:=Builtin.Tuple.tupleExact _) (JQ (J8 (J8 ⟨_,rfl,J8 h⟩)) a))
  | exact J0 (J0 (m:=Builtin.Tuple.tupleExact _) (JQ (J8 ⟨_,rfl,J8 h⟩) a))
end
section
variable {X:Cx}
noncomputable def cL (K:PySem.W.Frag)(d:TE)(ts:TO):TE:=λσ H Q=>d σ H λx e=>ts σ e λo b=>o=some (-1)/\∃ a c,x=.ref a/\SqT K b a c/\∀ p,b p=none->Q (.ref p) (upd b p (.tup c.reverse))
theorem ir {e st:Expr}{i:TE}{ts:TO}{j pos:Pos}(B:PE X e i)(z:PO X (some st) ts):PE X (.Subscript e (.Slice none none (some st) j) pos) (cL X.K i ts):=by
 intro pins s σ H Q I h;refine Subscript_ (thn (B pins s σ H _ I h) λv n ⟨x,F,D,p,w⟩=>wpAny_Slice ?_);rw[evalPart_none];refine J8 (J8 (thn (z pins n σ F _ D w) λf c ⟨o,E,C,po,u⟩=>?_));obtain⟨rfl,a,m,rfl,A,k⟩:=u;cases p;obtain⟨t,rfl⟩:∃ t,f=.int (-1) t:=by cases po;exact⟨_,rfl⟩
 have d:Inv X pins σ E { c with heap:=c.heap.push { cls:=.type "slice",data:=.fields #[.none,.none,.int (-1) t] } }:=C.kept (t':=c.toks) λb ob q=>J7 _ q;obtain⟨g,r,l,y⟩:=d.tuple A;have G:=r.length;show wpAny (model X.prog X.w) X.A (subscriptTail e (.Slice none none (some st) j) (.ref a) (.ref c.heap.objs.size)) (EP X pins σ Q) X.xe { c with heap:=c.heap.push { cls:=.type "slice",data:=.fields #[.none,.none,.int (-1) t] } };refine tail_any (ops:=[.ref a,.ref c.heap.objs.size]) l.typeIs PyProof.Rows.slot_tuple_getitem.lookup (tf l (by simp_all) (Heap.IsSliceOf.new ..) ?_) (by with_unfolding_all rfl);exact⟨.ref _,_,d.laid (t':=c.toks) (o:=.tup m.reverse) (λb ob q=>J7 _ q) (Jc _) ⟨by rw[Z7];exact y,g.reverse,r.reverse,TupX.new _ _⟩,rfl,k _ (d.hok.fresh (Jc _))⟩
end
end L2
namespace Bn
open PySem L2 Own
noncomputable def big (x y:Int):Int:=if y > x then y else x
noncomputable def eX (st:List Int × List Int)(f:Nat × Nat):List Int × List Int :=
 ((st.1.set f.1 (1+big (st.1.getD f.1 0) (st.1.getD f.2 0))).set f.2 (1+big (st.1.getD f.1 0) (st.1.getD f.2 0)),st.2++[1+big (st.1.getD f.1 0) (st.1.getD f.2 0)])
noncomputable def lay (n:Nat)(fs:List (Nat × Nat)):List Int × List Int:=fs.foldl eX (List.replicate n 0,[])
noncomputable def ad (g f:Nat × Nat):Bool:=decide (g.1=f.1\/g.1=f.2) || decide (g.2=f.1\/g.2=f.2)
noncomputable def zaQ (fs:List (Nat × Nat))(a:List Int)(f:Nat × Nat)(i:Nat):List Int:=((List.range i).filter λj=>ad (fs.getD j (0,0)) f).map λj=>a.getD j 0
noncomputable def zaK (N:Nt):List Int:=(lay N.lanes N.forks).2
noncomputable abbrev Fk:=Nat × Nat
noncomputable def run {σ α:Type}(step:σ->Fk->σ × α):σ->List Fk->σ × List (α × Fk)
 | s,[]=>(s,[])
 | s,f::fs=>((run step (step s f).1 fs).1,((step s f).2,f)::(run step (step s f).1 fs).2)
noncomputable def rnk (x:Int × Fk):Int:=x.1*1024+x.2.1*32+x.2.2
noncomputable def ins (x:Int × Fk):List (Int × Fk)->List (Int × Fk)
 | []=>[x]
 | y::l=>if rnk x<=rnk y then x::y::l else y::ins x l
theorem zZ {H:Hp}{a:Addr}(_:H a=none)(o:HO):L2.upd H a o a=some o:=zD
theorem Prs.app {H:Hp}:∀ {ps a:List V}{fs b:List Fk},Prs H ps fs->Prs H a b->Prs H (ps++a) (fs++b)
 | [],_,[],_,_,h=>h
 | _::_,_,_::_,_,⟨x,r⟩,h=>⟨x,Prs.app r h⟩
end Bn
namespace L2
open PySem PySem.Spec PyProof.Rows Own
section
variable {prog:Program}{w:World}{A:Around}{E:Value->Shared->Prop}{s:Shared}{d:Addr}
theorem jP {Q:Int->Shared->Prop}(q:Q (reduceHash 0xFCA86420) { s with toks:=s.toks+1 }):wpAny (model prog w) A (pyHash .none) Q E s:=by
 show wpAny (model prog w) A (pyHashByItsType .none) Q E s;refine W.pyHash_slot (T:="NoneType") (id:="NoneType.__hash__") (B:=Builtin.«NoneType.__hash__») rfl F.slot_NoneType_hash F.entry_NoneType_hash (F.args_NoneType_hash_1 _) (by decide) (.inl rfl) ?_;unfold Builtin.«NoneType.__hash__»;refine J0 ?_;show wpAny _ _ (pure _) _ _ _;unfold retInt;exact J8 (J0 (wpAny_mkInt (J8 ⟨_,_,rfl,q⟩)))
theorem vY {a:Addr}{k:KN}{Q:Bool->Shared->Prop}(d:A.units<cLine)(c:NIs prog w s.heap k a)(q:Q false s):wpAny (model prog w) A (eqBool (.ref a) .none) Q E s:=by
 obtain⟨as,b⟩:=c.reads;exact PySem.SeqAt.eqBoolOverData prog w A E s _ _ _ .none as [] Q b .none (nj k).1 rfl (by show A.units+min _ 0<cLine;simp_all) q
theorem nG {n:Nat}{Q:Bool->Shared->Prop}(q:Q true s):wpAny (model prog w) A (eqIsQuiet n .none) Q E s:=by
 cases n<;>exact J8 q
theorem sK {α β:Type}{f:α->β->Sem (ForInStep β)}{b:β}:∀ (l:List α) {Q:β->Shared->Prop},(∀ i∈l,∀ R:ForInStep β->Shared->Prop,R (.yield b) s->wpAny (model prog w) A (f i b) R E s)->Q b s->wpAny (model prog w) A (forIn l b f) Q E s
 | [],Q,_,q=>by rw[Z8];exact J8 q
 | i::l,Q,h,q=>by
  rw[Z0];exact J0 (h i JL _ (sK l (λj a=>h j (JG _ a)) q))
theorem lu {stored:List Value}{Q:Bool->Shared->Prop}(h:∀ v∈stored,∃ a k,v=.ref a/\NIs prog w s.heap k a)(q:Q false s):wpAny (model prog w) A (tableMayTell .none stored) Q E s:=by
 unfold tableMayTell;by_cases c:stored.isEmpty=true
 ·rw[Jg c];exact J8 q
 rw[Je c];refine J0 (nG (J0 (sK stored (λv b R r=>?_) (J8 q))));obtain⟨a,k,rfl,d⟩:=h v b;exact J0 (ue d (J8 r))
theorem jT {o:Obj}{b:Array DictEntry}{j:Nat}{h:Int}{Q:Option Nat->Shared->Prop}(u:A.units<cLine)(g:s.heap.get? d=some o)(hd:o.data=.dict b j)(D:∀ e∈b.toList,∃ a k,e.key=.ref a/\NIs prog w s.heap k a)(q:Q none s) :
  wpAny (model prog w) A (dictFind d .none h) Q E s:=by
 have key:∀ (i:Nat) (e:DictEntry),b[i]?=some e->∃ a k,e.key=.ref a/\NIs prog w s.heap k a:=λi e f=>D e (by
  obtain⟨l,z⟩:=JX.mp f
  rw[<- z];exact Array.getElem_mem_toList l)
 unfold dictFind;refine Y4 (J0 (Yb g hd ?_));by_cases c:(Value.none::List.filterMap (λi=>Option.map (λx=>x.key) b[i]?) (placesWithHash b.size (λi=>Option.map (λx=>x.hash) b[i]?) h)).all carriedByValue=true
 ·refine(JS (λm=>wpAny (model prog w) A m Q E s) (Jg c)).mpr ?_
  unfold dictWalkPlain;refine J0 (sK _ (λi hi R r=>?_) (J8 q))
  cases f:b[i]? with
  | none=>exact J8 r
  | some e =>
   obtain⟨a,k,t,n⟩:=key i e f;by_cases ch:(e.hash == h)=true
   ·refine(JS (λm=>wpAny (model prog w) A m R E s) (Jg ch)).mpr (J0 (Yk g hd (J0 ?_)))
    rw[t];refine vY u n (J0 (Yk g hd ?_));dsimp only;rw[Je (c:=(j != j)=true) (by simp),Je Jj];exact J0 (YJ (J8 r))
   ·exact(JS (λm=>wpAny (model prog w) A m R E s) (Je ch)).mpr (J8 r)
 ·refine(JS (λm=>wpAny (model prog w) A m Q E s) (Je c)).mpr ?_
  have y:∀ v∈List.filterMap (λi=>Option.map (λx=>x.key) b[i]?) (placesWithHash b.size (λi=>Option.map (λx=>x.hash) b[i]?) h),∃ a k,v=.ref a/\NIs prog w s.heap k a:=λv C=>by
   obtain⟨i,-,e,f,rfl⟩:∃ i:Nat,True/\∃ e:DictEntry,b[i]?=some e/\e.key=v:=by
    obtain⟨i,p⟩:=List.mem_filterMap.mp C;exact⟨i,True.intro,Y6.mp p.2⟩
   exact key i e f
  by_cases B:(List.filterMap (λi=>Option.map (λx=>x.key) b[i]?) (placesWithHash b.size (λi=>Option.map (λx=>x.hash) b[i]?) h) == [Value.none])=true
  ·refine(JS (λm=>wpAny (model prog w) A m Q E s) (Jg B)).mpr (J0 (J8 ?_))
   dsimp only;rw[Je (by simp)];refine J0 (sK _ (λi hi R r=>?_) (J8 q))
   cases f:b[i]? with
   | none=>exact J8 r
   | some e =>
    obtain⟨a,k,t,n⟩:=key i e f;by_cases ch:(e.hash == h)=true
    ·refine(JS (λm=>wpAny (model prog w) A m R E s) (Jg ch)).mpr (J0 (Yk g hd (J0 ?_)))
     rw[t];refine vY u n (J0 (Yk g hd ?_));rw[Je (c:=(j != j)=true) (by simp),Je Jj];refine J0 (YJ ?_);rw[Je (by simp)];exact J8 r
    ·exact(JS (λm=>wpAny (model prog w) A m R E s) (Je ch)).mpr (J8 r)
  ·refine(JS (λm=>wpAny (model prog w) A m Q E s) (Je B)).mpr (J0 (lu y ?_))
   dsimp only;rw[Je (by simp)];refine J0 (sK _ (λi hi R r=>?_) (J8 q))
   cases f:b[i]? with
   | none=>exact J8 r
   | some e =>
    obtain⟨a,k,t,n⟩:=key i e f;by_cases ch:(e.hash == h)=true
    ·refine(JS (λm=>wpAny (model prog w) A m R E s) (Jg ch)).mpr (J0 (Yk g hd (J0 ?_)))
     rw[t];refine vY u n (J0 (Yk g hd ?_));rw[Je (c:=(j != j)=true) (by simp),Je Jj];refine J0 (YJ ?_);rw[Je (by simp)];exact J8 r
    ·exact(JS (λm=>wpAny (model prog w) A m R E s) (Je ch)).mpr (J8 r)
theorem gY {o:Obj}{b:Array DictEntry}{h:Nat}{Q:Option Value->Shared->Prop}(c:A.units<cLine)(f:s.heap.get? d=some o)(hd:o.data=.dict b h)(g:∀ e∈b.toList,∃ a k,e.key=.ref a/\NIs prog w s.heap k a)(q:Q none { s with toks:=s.toks+1 }) :
  wpAny (model prog w) A (dictGet d .none) Q E s:=by
 unfold dictGet;exact Y4 (J0 (jP (J0 (jT (s:={ s with toks:=s.toks+1 }) c f hd g (J8 q)))))
theorem tu {o:Obj}{b:Array DictEntry}{j:Nat}{Q:Value->Shared->Prop}(f:A.units<cLine)(h:s.heap.get? d=some o)(l:o.ExactDict)(hd:o.data=.dict b j)(g:(d == sysModules)=false)(i:∀ e∈b.toList,∃ a k,e.key=.ref a/\NIs prog w s.heap k a)(q:Q (.bool false) { s with toks:=s.toks+1 }) :
  wpAny (model prog w) A (Builtin.«dict.__contains__» ⟨[.ref d,.none],[]⟩) (λfin c=>∃ r,fin=.done (.ret r)/\Q r c) E s:=by
 unfold Builtin.«dict.__contains__»;refine J0 ?_;show wpAny _ _ (pure (d,Value.none)) _ _ _;refine J8 (J0 (gY f h hd i ?_));show wpAny _ _ (Builtin.Dict.pendingKey? d .none >>= _) _ _ _;exact J0 (wpAny_pendingKey_other g (J8 ⟨_,rfl,q⟩))
section
variable {X:Cx}{pins:List (Addr × Obj)}{σ:St}{H:Hp}{a:Addr}{xs:KVN}
theorem gE {Q:Value->Shared->Prop}(r:A.units+3<cLine)(I:Inv X pins σ H s)(e:Rd H a (DN X.prog X.w a xs))(ks:KsIn H xs)(h:∀ b,Inv X pins σ H b->Q (.bool false) b) :
  wpAny (model X.prog X.w) A (compareOp .In .none (.ref a)) Q E s:=by
 obtain⟨z,j,q,rel,o,p,u,f,d,n,m,l,t⟩:=wc I.hok e ks
 have i:∀ e∈p.toList,∃ a k,e.key=.ref a/\NIs X.prog X.w s.heap k a:=λe c=>by
  rw[m]at c;obtain⟨x,g,rfl⟩:=JA.mp c;exact⟨x.2.1,x.1,rfl,l x g⟩
 have ty:s.TypeIs (.ref a) "dict":=⟨o,f,d.1⟩;show wpAny _ _ (contains (.ref a) .none >>= _) _ _ _
 exact J0 (wpAny_contains_slot ty slot_dict_contains (Yf slot_dict_contains ty entry_dict_contains
  (tu (by rw[Around.in1_units];lia) f d n j i (Yy (J8 (h _ (I.tok _))))) (args_dict_contains _ _)))
end
noncomputable def aQ (P:Program)(w:World):V->V->Hp->VK->Prop:=λx y H Q=>∃ a c,y=.ref a/\NAt P w H a c/\((∃ b k,x=.ref b/\NKey H k b/\Q (.bl (yb c k).isSome) H)\/(x=.non/\Q (.bl false) H))
theorem iy {X:Cx}(e:X.A.units+3<cLine):OpR X (compareOp .In) (aQ X.prog X.w):=by
 intro pins s σ H x y v u Q I d h ⟨a,f,j,n,q⟩;subst j;cases (show u=Value.ref a from h);rcases q with ⟨b,k,ex,i,q⟩|⟨ex,q⟩
 ·subst ex
  cases (show v=Value.ref b from d);exact aa e I n.1 n.2 i λg c=>⟨.bl (yb f k).isSome,H,c,rfl,q⟩
 ·subst ex
  cases (show v=Value.none from d);exact gE e I n.1 n.2 λg c=>⟨.bl false,H,c,rfl,q⟩
end
section
variable {prog:Program}{w:World}{A:Around}{E:Value->Shared->Prop}{s:Shared}{d b:Addr}{K:Type}[DecidableEq K]{knd:HeapKind prog w K}{xs:List (K × Addr × Value)}{k:K}{v:Value}
theorem uc {Q:Unit->Shared->Prop}(H:knd.room A)(t:knd.is s.heap k b)(hm:s.heap.DictOfH knd d xs)(F:xs.length<=sizeLine)(q:∀ h',h'.DictOfH knd d (storedH xs k b v)->Heap.SameBut d s.heap h'->Q () { s with heap:=h' }):wpAny (model prog w) A (dictSetHashed d (.ref b) (knd.hash k) v) Q E s:=by
 obtain⟨o,I,J,g,r,f,n,l,h⟩:=hm;unfold dictSetHashed;refine Y4 (J0 (wpAny_dictFind_heap H t g f n l h (λno=>?_) (λj p m=>?_)))
 ·refine J0 (YJ (wpAny_updateDictKeys g f (q _ ?_ (YW _ _ _)) (by rw[Z1 n];exact F) (by simp)))
  have sm:=YW s.heap d (Obj.mapDictKeys λx=>x.push ⟨knd.hash k,.ref b,v⟩);refine⟨_,_,_,YG _ g (Obj.isFreed_of_dict (Obj.data_mapDictKeys f _)),r.mapDictKeys _,Obj.data_mapDictKeys f _,?_,?_,?_⟩
  ·rw[storedH_new (atKey_none_of_get no),JU,Zi,n];rfl
  ·rw[storedH_new (atKey_none_of_get no)]
   intro x i;rcases Ju.mp i with z|z
   ·exact knd.keeps (l x z) g f sm
   ·rw[Jd.mp z];exact knd.keeps t g f sm
  ·rw[storedH_new (atKey_none_of_get no),JU,W9]
   refine⟨h,by simp,λa B c u=>?_⟩;rw[List.map_singleton,Jd]at u;rintro rfl;rw[u]at B;exact not_mem_keys_of_get no B
 ·refine J0 (YJ (J0 (wpAny_updateDict g f (wpAny_point (q _ ?_ (YW _ _ _))) (by simp))))
  have sm:=YW s.heap d (Obj.mapDict λx=>x.modify j λe=>{ e with val:=v });refine⟨_,_,_,YG _ g (Obj.isFreed_of_dict (Obj.data_mapDict f _)),r.mapDict _,Obj.data_mapDict f _,?_,?_,?_⟩
  ·rw[storedH_old (atKey_of_get h m),ZY,n]
   exact modify_map_putAt _ _ k v (λa C=>rfl) h m
  ·have D:=storedH_old (atKey_of_get h m) b v
   rw[D];intro x i;obtain⟨y,G,rfl⟩:=JA.mp i;have:=knd.keeps (l y G) g f sm;unfold putAt;split
   ·exact this
   ·exact this
  ·rw[storedH_old (atKey_of_get h m),keys_map_putAt];exact h
noncomputable def mergeN (xs ys:List (K × Addr × Value)):List (K × Addr × Value):=ys.foldl (λacc y=>storedH acc y.1 y.2.1 y.2.2) xs
theorem sI (acc:List (K × Addr × Value))(y:K × Addr × Value):(storedH acc y.1 y.2.1 y.2.2).length<=acc.length+1:=by
 unfold storedH;split
 ·rw[Jn];simp_all
 ·rw[Jb];exact Jc _
theorem wp {o:Addr}{ob:Obj}{ys:List (K × Addr × Value)}{Q:PUnit->Shared->Prop}{f:Nat->PUnit->Sem (ForInStep PUnit)}(ne:d≠o)(step:∀ (i:Nat) (a:i<ys.length) (s:Shared) (acc:List (K × Addr × Value)) (R:ForInStep PUnit->Shared->Prop),s.heap.get? o=some ob->s.heap.DictOfH knd d acc->knd.is s.heap ys[i].1 ys[i].2.1->acc.length<=sizeLine ->
   (∀ h',h'.DictOfH knd d (storedH acc ys[i].1 ys[i].2.1 ys[i].2.2)->Heap.SameBut d s.heap h'->R (.yield PUnit.unit) { s with heap:=h' })->wpAny (model prog w) A (f i PUnit.unit) R E s) :
  ∀ (m i:Nat) (s:Shared) (acc:List (K × Addr × Value)),i+m=ys.length->s.heap.get? o=some ob->s.heap.DictOfH knd d acc->(∀ x∈ys,knd.is s.heap x.1 x.2.1)->acc.length+m<=sizeLine ->
  (∀ h',h'.DictOfH knd d (mergeN acc (ys.drop i))->Heap.SameBut d s.heap h'->Q PUnit.unit { s with heap:=h' })->wpAny (model prog w) A (forIn (List.range' i m) PUnit.unit f) Q E s
 | 0,i,s,acc,hi,e,b,c,l,q=>by
  rw[List.range'_zero,Z8];refine J8 (q s.heap ?_ (Heap.SameBut.refl _ _));rw[List.drop_eq_nil_of_le (by simp_all)]
  exact b
 | m+1,i,s,acc,hi,e,b,c,l,q=>by
  have a:i<ys.length:=by lia
  rw[show List.range' i (m+1)=i::List.range' (i+1) m from rfl,Z0];refine J0 (step i a s acc _ e b (c _ (YB a)) (by lia) λh' j sm=>?_);obtain⟨y,u,v,t,F,r,D,C,B⟩:=b;have k:h'.get? o=some ob:=by rw[sm.2 o (λz=>ne z.symm)];exact e
  refine wp ne step m (i+1) { s with heap:=h' } _ (by lia) k j (λx n=>knd.keeps (c x n) t r sm) ?_ λp h g=>q p ?_ (sm.trans g)
  ·have:=sI acc ys[i]
   lia
  ·rw[Yx a]
   exact h
end
section
variable {prog:Program}{w:World}{A:Around}{E:Value->Shared->Prop}{s:Shared}{d:Addr}{K:Type}[DecidableEq K]{knd:HeapKind prog w K}{xs ys:List (K × Addr × Value)}
theorem i3 {o:Addr}{ob:Obj}{a:Array DictEntry}{k:Nat}{nm:String}{Q:Array DictEntry->Shared->Prop}(j:s.heap.get? o=some ob)(i:ob.data=.dict a k)(f:a.toList=ys.map (entryOfKey knd))(l:ys.length<=1)(h:∀ x∈ys,∀ R:Bool->Shared->Prop,R false s->wpAny (model prog w) A (Builtin.Dict.quietEq (.ref x.2.1)) R E s)(q:Q a s):wpAny (model prog w) A (Builtin.Dict.entriesForEmpty nm o) Q E s:=by
 show wpAny _ _ (dictEntries o >>= _) _ _ _;refine J0 (Yb j i (J0 ?_));rw[<- Array.forIn_toList];refine sK _ (λe d R r=>?_) (J8 q);rw[f]at d;obtain⟨x,g,rfl⟩:=JA.mp d;refine J0 (h x g _ ?_)
 have b:¬(Array.filter (λz=>z.hash == (entryOfKey knd x).hash) a).size > 1:=by
  have n:=Array.size_filter_le (p:=λz:DictEntry=>z.hash == (entryOfKey knd x).hash) (xs:=a);have m:=Z1 f;lia
 rw[Jg (c:=(!false)=true) rfl,Je b];exact J8 r
theorem bE {o2:Obj}{b c:Array DictEntry}{e:Nat}{y:K × Addr × Value}(f:s.heap.get? d=some o2)(j:o2.ExactDict)(a:o2.data=.dict c e)(i:b.toList=[y].map (entryOfKey knd))(h:knd.is s.heap y.1 y.2.1) :
  (s.heap.update d (Obj.mapDictKeys λ_=>b)).DictOfH knd d [y]:=by
 have sm:=YW s.heap d (Obj.mapDictKeys λ_=>b);refine⟨_,_,_,YG _ f (Obj.isFreed_of_dict (Obj.data_mapDictKeys a _)),j.mapDictKeys _,Obj.data_mapDictKeys a _,i,?_,by simp⟩;intro x g;rw[Jd.mp g];exact knd.keeps h f a sm
theorem nR {o:Addr}{nm:String}{Q:Unit->Shared->Prop}(M:knd.room A)(ne:d≠o)(P:(o == sysModules)=false)(hm:s.heap.DictOfH knd d xs)(hn:s.heap.DictOfH knd o ys)(L:xs.length+ys.length<=sizeLine)(O:xs≠[]\/ys.length=1)(N:∀ x∈ys,∀ R:Bool->Shared->Prop,R false s->wpAny (model prog w) A (Builtin.Dict.quietEq (.ref x.2.1)) R E s)(q:∀ h',h'.DictOfH knd d (mergeN xs ys)->Heap.SameBut d s.heap h'->Q () { s with heap:=h' }):wpAny (model prog w) A (Builtin.Dict.mergeDict nm d o) Q E s:=by
 obtain⟨ob,g,r,f,X,b,j,F,W⟩:=id hn;obtain⟨V,p,U,H,T,G,S,Z,Y⟩:=id hm
 have sz:([:g.size]:Std.Legacy.Range).size=ys.length:=by
  rw[<- Z1 j];simp[Std.Legacy.Range.size]
 unfold Builtin.Dict.mergeDict;rw[Je (by simpa using ne)];refine J0 ?_;unfold Builtin.Dict.showsAll;rw[Je (by rw[P];simp)];refine J8 (J0 (Yb f b ?_));dsimp only;by_cases n:(!(decide (g.size<=8) && g.all λe=>(keyPart e.key).isSome))=true
 ·rw[Jg n]
  refine J0 (Yb H G ?_);by_cases em:p.isEmpty=true
  ·rw[Jg em]
   have e2:p.size=0:=by simpa using em
   have K:xs=[]:=by
    rw[Z1 S]at e2;exact List.eq_nil_of_length_eq_zero e2
   have J:ys.length=1:=O.resolve_left λz=>z K;have t:g.size=1:=(Z1 j).trans J;refine J0 (i3 f b j (by simp_all) N ?_);rw[Jg (c:=(!g.isEmpty)=true) (by simp;intro z;rw[z]at t;cases t)];refine J0 (wpAny_updateDictKeys H G (J8 (q _ ?_ (YW _ _ _))) (by rw[e2];exact JN _) (by rw[t];lia));obtain⟨y,rfl⟩:=List.length_eq_one_iff.mp J;subst K;exact bE H T G j (F y JL)
  ·rw[Je em]
   refine J0 (Yk f b (J0 (Yb f b (J0 ?_))));refine(JS (λm=>wpAny (model prog w) A m _ E s) (Zk _ _ _)).mpr ?_;rw[sz];refine wp (ob:=ob) (ys:=ys) ne (λi D s acc R l B C u v=>?_) ys.length 0 s xs (by lia) f hm F L λh' a sm=>J8 (q h' a sm);have I:g[i]?=some (entryOfKey knd ys[i]):=by rw[entry_at j,J9 D];rfl
   refine J0 (Yb l b ?_);rw[I];refine J0 (Y4 (uc (k:=ys[i].1) M C B u λh' a sm=>?_));have h:h'.get? o=some ob:=by rw[sm.2 o (λz=>ne z.symm)];exact l
   refine J0 (Yk (s:={ s with heap:=h' }) h b ?_);rw[Je (c:=(r != r)=true) (by simp)];exact J8 (v h' a sm)
 ·rw[Je n]
  refine J0 (Yk f b (J0 (Yb f b (J0 ?_))));refine(JS (λm=>wpAny (model prog w) A m _ E s) (Zk _ _ _)).mpr ?_;rw[sz];refine wp (ob:=ob) (ys:=ys) ne (λi D s acc R l B C u v=>?_) ys.length 0 s xs (by lia) f hm F L λh' a sm=>J8 (q h' a sm);have I:g[i]?=some (entryOfKey knd ys[i]):=by rw[entry_at j,J9 D];rfl
  refine J0 (Yb l b ?_);rw[I];refine J0 (Y4 (uc (k:=ys[i].1) M C B u λh' a sm=>?_));have h:h'.get? o=some ob:=by rw[sm.2 o (λz=>ne z.symm)];exact l
  refine J0 (Yk (s:={ s with heap:=h' }) h b ?_);rw[Je (c:=(r != r)=true) (by simp)];exact J8 (v h' a sm)
theorem iS {a:Addr}{k:KN}{R:Bool->Shared->Prop}(h:NIs prog w s.heap k a)(r:R false s):wpAny (model prog w) A (Builtin.Dict.quietEq (.ref a)) R E s:=by
 obtain⟨o,d,n,c,b,f,e⟩:=h;exact J0 (wpAny_specialOf (T:="tuple") ⟨o,c,b⟩ F.slot_tuple_eq.lookup (J8 r))
theorem qZ {o:Addr}{Q:Value->Shared->Prop}(f:knd.room A)(ne:d≠o)(i:(o == sysModules)=false)(hm:s.heap.DictOfH knd d xs)(hn:s.heap.DictOfH knd o ys)(e:xs.length+ys.length<=sizeLine)(h:xs≠[]\/ys.length=1)(g:∀ x∈ys,∀ R:Bool->Shared->Prop,R false s->wpAny (model prog w) A (Builtin.Dict.quietEq (.ref x.2.1)) R E s)(q:∀ h',h'.DictOfH knd d (mergeN xs ys)->Heap.SameBut d s.heap h'->Q .none { s with heap:=h' }):wpAny (model prog w) A (Builtin.«dict.update» ⟨[.ref d,.ref o],[]⟩) (λfin c=>∃ r,fin=.done (.ret r)/\Q r c) E s:=by
 have ty:=hn.typeIs;unfold Builtin.«dict.update»;refine J0 ?_;show wpAny _ _ (Builtin.Dict.notOrdered "update" ⟨[Value.ref d,Value.ref o],[]⟩ >>= _) _ _ _;refine J0 (ZP (s:=s) hm.typeIs ?_);show wpAny _ _ (pure (d,[Value.ref o])) _ _ _;refine J8 ?_;show wpAny _ _ (Builtin.Dict.updateFrom "dict.update" d (.ref o) [] .none) _ _ _;show wpAny _ _ (typeOf (Value.ref o) >>= _) _ _ _;refine J0 (YM ty ?_);rw[Je (by simp)];refine J0 ?_;unfold Builtin.Dict.merge Builtin.Dict.readDirectly;refine J0 (J0 (ZQ (T:="dict") (b:=true) ty rfl ?_));rw[Je (by simp)];refine J0 (wpAny_specialOf (T:="dict") ty F.slot_dict_iter.lookup (J8 ?_));rw[Jg (by decide)];refine J0 ?_;show wpAny _ _ (pure o) _ _ _;refine J8 (nR f ne i hm hn e h g λh' a sm=>?_);refine J0 ?_;show wpAny _ _ (pure ()) _ _ _;exact J8 (J8 ⟨_,rfl,q h' a sm⟩)
end
noncomputable def xL (xs ys:KVN):KVN:=ys.foldl (λacc y=>yx acc y.1 y.2.1 y.2.2) xs
theorem mergeV_rel:∀ {ys:KVN}{us:List (KN × Addr × Value)}{xs:KVN}{vs:List (KN × Addr × Value)},Paired PrN ys us->Paired PrN xs vs->Paired PrN (xL xs ys) (mergeN vs us):=by
 intro ys us xs vs r
 induction r generalizing xs vs with
 | nil=>intro q;exact q
 | @cons p u a us h t ih =>
  intro q;have e:=putN_rel q p.1 p.2.1 h.2.2;rw[show storedH vs p.1 p.2.1 u.2.2=storedH vs u.1 u.2.1 u.2.2 by rw[h.1,h.2.1]]at e;exact ih e
theorem mergeV_len:∀ (ys xs:KVN),(xL xs ys).length<=xs.length+ys.length
 | [],xs=>Jc _
 | y::ys,xs=>by
  have b:=mergeV_len ys (yx xs y.1 y.2.1 y.2.2);have a:=vC xs y.1 y.2.1 y.2.2;show (xL (yx xs y.1 y.2.1 y.2.2) ys).length<=_;rw[JV];lia
section
variable {X:Cx}{pins:List (Addr × Obj)}{σ:St}{H:Hp}{s:Shared}{a b:Addr}{xs ys:KVN}{A:Around}{E:Value->Shared->Prop}
theorem gC {Q:Value->Shared->Prop}(t:A.units+3<cLine)(ne:a≠b)(I:Inv X pins σ H s)(k:H a=some (DN X.prog X.w a xs))(n:KsIn H xs)(F:Rd H b (DN X.prog X.w b ys))(m:KsIn H ys)(j:xs.length+ys.length<=sizeLine)(w:xs≠[]\/ys.length=1)(h:∀ i,Inv X pins σ (upd H a (DN X.prog X.w a (xL xs ys))) i->Q .none i):wpAny (model X.prog X.w) A (call (.builtin "dict.update") [.ref a,.ref b]) Q E s:=by
 obtain⟨z,B,J,rel,l⟩:=wc I.hok (.inl k) n;obtain⟨G,g,K,c,d⟩:=wc I.hok F m;refine Yf PySem.F.slot_dict_update l.typeIs PySem.F.entry_dict_update (qZ (sS t) ne g l d (by rw[<- Yc rel,<- Yc c];exact j) ?_ ?_ λD f u=>h _ ?_) (PySem.F.args_dict_update_2 _ _)
 ·rcases w with z|z
  ·refine .inl λe=>z ?_
   subst e;cases rel;rfl
  ·exact .inr (by rw[<- Yc c];exact z)
 ·intro x p R r
  obtain⟨o,S,T,P,O,N,M,C,L⟩:=d;exact iS (C x p) r
 ·have y:∃ q,D.get? a=some q:=let ⟨q,_,_,v,_⟩:=f;⟨q,v⟩
  exact uI I (by rw[k];exact True.intro) u y (dn_new (JK (mergeV_len _ _) j) B (mergeV_rel c rel) f)
end
noncomputable def aD (P:Program)(w:World)(g ty:TE):TE:=λσ H Q=>g σ H λx f=>∃ a,x=.ref a/\(∃ c,Rd f a (DN P w a c))/\ty σ f λy e=>∃ b c d,y=.ref b/\a≠b/\e a=some (DN P w a c)/\KsIn e c/\NAt P w e b d/\c.length+d.length<=sizeLine/\(c≠[]\/d.length=1)/\Q .non (upd e a (DN P w a (xL c d)))
theorem eA {X:Cx}{o e:Expr}{apos cpos:Pos}{c ty:TE}(w:X.A.units+3<cLine) (z:PE X o c) (B:PE X e ty) (m:M1 X o "update" apos e cpos):PE X (.Call (.Attribute o "update" apos) [e] [] cpos) (aD X.prog X.w c ty):=by
 intro pins s σ H Q I h;refine wpAny_Call_method m.base m.few m.line PySem.F.plainAttrs_dict PySem.F.slot_dict_update PySem.F.type_dict_update (thn (z pins s σ H _ I h) λu j ⟨x,G,f,l,a,ex,⟨J,d⟩,q⟩=>?_);subst ex;cases (show u=Value.ref a from l);obtain⟨i,g⟩:=nP f d;refine⟨i,g,?_⟩;rw[m.trees];refine Calls.callWith_builtin rfl (Calls.evalArgs_plain (ZC (thn (B pins j σ G _ f q) λt N ⟨y,O,F,k,b,L,K,C,ne,D,r,n,v,A,p⟩=>W6 ?_)));subst C;cases (show t=Value.ref b from k);exact gC w ne F D r n.1 n.2 v A λM E=>⟨.non,_,E,rfl,p⟩
section
variable {prog:Program}{w:World}{A:Around}{E:Value->Shared->Prop}{s:Shared}{d:Addr}{o:Obj}{es:Array DictEntry}{ep:Nat}
theorem sn {Q:Value->Shared->Prop}(a:s.heap.get? d=some o) (e:o.ExactDict) (hd:o.data=.dict es ep) (f:(d == sysModules)=false)
  (q:Q (.ref s.heap.objs.size) { s with heap:=s.heap.push { cls:=.type "dict_keyiterator",data:=.fields #[.ref d,.int 0 0,.int es.size 0,.int ep 0] } }):wpAny (model prog w) A (pyIter (.ref d)) Q E s:=by
 have ty:s.TypeIs (.ref d) "dict":=⟨o,a,e.1⟩;have nx:=F.slot_dict_keyiterator_next.lookup
 have body:wpAny (model prog w) A.in1 (Builtin.«dict.__iter__» ⟨[.ref d],[]⟩) (λfin b=>∃ v,fin=.done (.ret v)/\∃ c r,b.TypeIs v c/\typeLookup (Value.type c) (Str.ofString "__next__")=pure (some r)/\Q v b) E s:=by
  unfold Builtin.«dict.__iter__» Builtin.Dict.dictSlotNone;refine J0 (J0 (ZP ty (J0 ?_)));show wpAny _ _ (pure ((.ref d,[]):Value × List Value)) _ _ _;refine J8 (J8 (J0 ?_));refine(show wpAny _ _ (pure d) _ _ _ from J8 (J0 ?_));unfold Builtin.Dict.showsAll;rw[Je (by rw[f];simp)];refine J8 (J0 (Yb a hd (J0 (Yk a hd (J0 ?_)))));exact JQ (J8 ⟨_,rfl,_,_,⟨_,Jv _ rfl,rfl⟩,nx,q⟩)
 exact wpAny_pyIter_slot ty F.slot_dict_iter (Yf F.slot_dict_iter ty F.entry_dict_iter body (F.args_dict_iter_1 _))
end
section
variable {prog:Program}{w:World}{A:Around}{E:Value->Shared->Prop}{s:Shared}{d it:Addr}{o:Obj}{es:Array DictEntry}{ep i:Nat}{e:DictEntry}
theorem kn {Q:Value->Shared->Prop}(m:s.heap.get? d=some o)(hd:o.data=.dict es ep)(hi:s.heap.IsKeyIter it d i es.size ep)(p:es[i]?=some e)(q:∀ h',h'.IsKeyIter it d (i+1) es.size ep->(∀ b u,b≠it->s.heap.get? b=some u->h'.get? b=some u)->Q e.key { s with heap:=h' }) :
  wpAny (model prog w) A (Builtin.«dict_keyiterator.__next__» ⟨[.ref it],[]⟩) (λfin n=>∃ v,fin=.done (.ret v)/\Q v n) E s:=by
 obtain⟨k,f,h,g⟩:=id hi;have ty:s.TypeIs (.ref it) "dict_keyiterator":=⟨k,f,h⟩;unfold Builtin.«dict_keyiterator.__next__»;refine J0 ?_;show wpAny _ _ (pure (Value.ref it)) _ _ _;refine J8 (J0 (J0 (J0 (ZT ty (J8 (J0 (wpAny_fieldsOf f g ?_)))))));show wpAny _ _ (Builtin.Dict_items.addrOf (Value.ref d) >>= _) _ _ _;refine J0 (show wpAny _ _ (pure d) _ _ _ from J8 (J0 (Yb m hd ?_)));dsimp only;rw[Je (c:=((es.size:Int) != (es.size:Int))=true) (by simp)];refine J0 (show wpAny _ _ (pure d) _ _ _ from J8 (J0 (Yk m hd ?_)));rw[Je (c:=((ep:Int) != (ep:Int))=true) (by simp)];refine J8 ?_;dsimp only;rw[Je (c:=(i:Int)<0) (by simp_all),Yp,p];refine J0 (J0 (ZT ty (J8 (J0 (wpAny_isOneOf_keyiter ty ?_)))));show wpAny _ _ (setField (.ref it) 1 (rawInt ((i:Int)+1)) >>= _) _ _ _;refine J0 (wpAny_setField f g (by show 1<4;lia) ?_);have l:(k.mapFields (·.setIfInBounds 1 (rawInt ((i:Int)+1)))).data=.fields #[.ref d,.int ((i+1:Nat):Int) 0,.int es.size 0,.int ep 0]:=Obj.data_mapFields g _;have sm:=YW s.heap it (Obj.mapFields (·.setIfInBounds 1 (rawInt ((i:Int)+1))));have a:=YG (Obj.mapFields (·.setIfInBounds 1 (rawInt ((i:Int)+1)))) f (Obj.isFreed_of_fields l);have j:(s.heap.update it (Obj.mapFields (·.setIfInBounds 1 (rawInt ((i:Int)+1))))).IsKeyIter it d (i+1) es.size ep:=⟨_,a,(Obj.cls_mapFields ..).trans h,l⟩;refine J0 (Y4 (J0 (wpAny_isOneOf_keyiter ⟨_,a,(Obj.cls_mapFields ..).trans h⟩ ?_)));exact J8 (J8 ⟨_,rfl,q _ j λb u nb r=>(sm.2 b nb).trans r⟩)
theorem pU {Q:Option Value->Shared->Prop}(f:s.heap.get? d=some o)(hd:o.data=.dict es ep)(hi:s.heap.IsKeyIter it d i es.size ep)(g:es[i]?=some e)(q:∀ h',h'.IsKeyIter it d (i+1) es.size ep->(∀ b u,b≠it->s.heap.get? b=some u->h'.get? b=some u)->Q (some e.key) { s with heap:=h' }):wpAny (model prog w) A (pyNext (.ref it)) Q E s:=by
 obtain⟨c,j,h,l⟩:=id hi;have ty:s.TypeIs (.ref it) "dict_keyiterator":=⟨c,j,h⟩;unfold pyNext;exact J0 (wpAny_attempt (wpAny_callSpecial?_slot ty ZV (Yf ZV ty F.entry_dict_keyiterator_next (kn f hd hi g λh' a k=>J8 (q h' a k)) (F.args_dict_keyiterator_next_1 _))))
theorem jH {Q:Fin->Shared->Prop}(h:A.handled=none) (e:s.heap.get? d=some o) (hd:o.data=.dict es ep) (hi:s.heap.IsKeyIter it d i es.size ep) (j:es[i]?=none)
  (q:∀ h' ev,Heap.ExtBut it s.heap h'->({ s with heap:=h' }:Shared).TypeIs ev "StopIteration"->E ev { s with heap:=h' }) :
  wpAny (model prog w) A (Builtin.«dict_keyiterator.__next__» ⟨[.ref it],[]⟩) Q E s:=by
 obtain⟨g,a,l,f⟩:=id hi;have ty:s.TypeIs (.ref it) "dict_keyiterator":=⟨g,a,l⟩;unfold Builtin.«dict_keyiterator.__next__»;refine J0 ?_;show wpAny _ _ (pure (Value.ref it)) _ _ _;refine J8 (J0 (J0 (J0 (ZT ty (J8 (J0 (wpAny_fieldsOf a f ?_)))))));show wpAny _ _ (Builtin.Dict_items.addrOf (Value.ref d) >>= _) _ _ _;refine J0 (show wpAny _ _ (pure d) _ _ _ from J8 (J0 (Yb e hd ?_)));dsimp only;rw[Je (c:=((es.size:Int) != (es.size:Int))=true) (by simp)];refine J0 (show wpAny _ _ (pure d) _ _ _ from J8 (J0 (Yk e hd ?_)));rw[Je (c:=((ep:Int) != (ep:Int))=true) (by simp)];refine J8 ?_;dsimp only;rw[Je (c:=(i:Int)<0) (by lia),Yp,j];refine J0 (J0 (ZT ty (J8 (J0 ?_))));show wpAny _ _ (setField (.ref it) 0 .none) _ _ _;refine wpAny_setField a f (by show 0<4;lia) (J0 ?_);unfold newExc newTuple;refine J0 (JQ ?_ (by show 0<=sizeLine;exact JN _));unfold firstArgMember;refine J0 (J0 (J8 (J8 (JQ (wpAny_raiseNew_none h ?_) ?_))))
 rotate_left
 ·show (_++_:Array Value).size<=sizeLine+2
  rw[Jw];show 6+0<=sizeLine+2;rw[JH];lia
 refine q _ _ (λb u nb k=>?_) ⟨_,Jv _ rfl,rfl⟩;exact J7 _ (J7 _ (((YW s.heap it _).2 b nb).trans k))
theorem pV {Q:Option Value->Shared->Prop}(e:A.handled=none)(c:s.heap.get? d=some o)(hd:o.data=.dict es ep)(hi:s.heap.IsKeyIter it d i es.size ep)(f:es[i]?=none)(q:∀ h',Heap.ExtBut it s.heap h'->Q none { s with heap:=h' }):wpAny (model prog w) A (pyNext (.ref it)) Q E s:=by
 obtain⟨b,h,g,j⟩:=id hi;have ty:s.TypeIs (.ref it) "dict_keyiterator":=⟨b,h,g⟩;unfold pyNext;refine J0 (wpAny_attempt (wpAny_callSpecial?_slot ty ZV (Yf ZV ty F.entry_dict_keyiterator_next (jH e c hd hi f λh' ev k a=>?_) (F.args_dict_keyiterator_next_1 _))));exact J0 (ZQ a isSubtype_stop (J8 (q h' k)))
end
section
variable {X:Cx}{pins:List (Addr × Obj)}{σ:St}{H:Hp}{s:Shared}{d:Addr}{o:Obj}{xs:KVN}
theorem Inv.freezeN (I:Inv X pins σ H s)(hd:H d=some (DN X.prog X.w d xs)):∃ o a b,s.heap.get? d=some o/\o.ExactDict/\o.data=.dict a b/\a.size=xs.length/\(d == sysModules)=false/\Inv X pins σ (upd H d (.frz o (DN X.prog X.w d xs))) s:=by
 obtain⟨g,o,a,b,c,i,h,l,_⟩:=gD I.hok (.inl hd);refine⟨o,a,b,c,i,h,l,g,I.reword hd (λxs q=>by cases q) (λxs q=>by cases q) (λxs q=>by cases q) (λf e q=>?_) ⟨c,(show ObjOk X.prog X.w H s.heap d (DN X.prog X.w d xs) from I.hok d _ hd)⟩⟩;have:=I.base.frzs d f e q;rw[hd]at this;cases this
theorem Inv.thawN (I:Inv X pins σ H s)(hd:H d=some (.frz o (DN X.prog X.w d xs)))(b:∀ o' a,X.H₀ d≠some (.frz o' a)):Inv X pins σ (upd H d (DN X.prog X.w d xs)) s:=by
 obtain⟨_,r⟩:=(show ObjOk X.prog X.w H s.heap d (.frz o (DN X.prog X.w d xs)) from I.hok d _ hd);exact I.reword hd (λxs q=>by cases q) (λxs q=>by cases q) (λxs q=>by cases q) b r
theorem Inv.meltedN (I:Inv X pins σ H s){ys:KVN}(hd:H d=some (DN X.prog X.w d ys)):∀ o' a,X.H₀ d≠some (.frz o' a):=λo' a q=>by
 have:=I.base.frzs d o' a q;rw[hd]at this;cases this
theorem Inv.walkedN {c:Array DictEntry}{h:Nat}(I:Inv X pins σ H s)(hd:H d=some (.frz o (DN X.prog X.w d xs)))(e:o.data=.dict c h):s.heap.get? d=some o/\∃ vs,Paired PrN xs vs/\c.toList=vs.map (entryOfKey (yQ X.prog X.w)):=by
 obtain⟨g,⟨z,l,vs,r,k,i,j,b,n,a,f,m⟩,_,_⟩:=(show ObjOk X.prog X.w H s.heap d (.frz o (DN X.prog X.w d xs)) from I.hok d _ hd);rw[g]at b;obtain rfl:=Jt b;rw[e]at a;cases a;exact⟨g,vs,r,f⟩
end
theorem aS {xs:KVN}{vs:List (KN × Addr × Value)}(r:Paired PrN xs vs):∀ {i:Nat}{p:KN × Addr × V},xs[i]?=some p->∃ q,vs[i]?=some q/\PrN p q:=by
 induction r with
 | nil=>intro i p h;cases h
 | cons q t ih =>
  intro i p h
  cases i with
  | zero=>cases Jt h;exact⟨_,rfl,q⟩
  | succ i=>exact ih h
noncomputable def Itn (P:Program)(w:World)(d:Addr)(o:Obj)(xs:KVN):It:=⟨λi H=>H d=some (.frz o (DN P w d xs))/\i<xs.length,λi H x a=>a=H/\∃ p,xs[i]?=some p/\x=.ref p.2.1,λi H=>H d=some (.frz o (DN P w d xs))/\i=xs.length⟩
theorem oj {P:Program}{w:World}{K:PySem.W.Frag}{tg:Expr}(d it:Addr)(o:Obj)(xs:KVN){t:Array DictEntry}{S:Nat}(l:o.data=.dict t S)(hl:t.size=xs.length):Turn P w K tg (Itn P w d o xs) [it] it (λi h=>h.IsKeyIter it d i t.size S) where
 mem:=Jd.mpr rfl
 obj:=λi h st b a=>by
  cases Jd.mp a;obtain⟨q,e,c,N⟩:=st;exact⟨q,e,λv z=>by rw[N]at z;cases z⟩
 keep:=λi h n st k=>st.at (k it (Jd.mpr rfl))
 item:=by
  intro X C y D R i pins s σ H E I m st A;subst C y D;obtain⟨B,O⟩:=A;obtain⟨g,U,r,T⟩:=I.walkedN B l;have f:=m it (Jd.mpr rfl);obtain⟨M,L,Y,J,G,F⟩:=id f;obtain⟨p,Q⟩:∃ p,xs[i]?=some p:=⟨_,J9 O⟩;obtain⟨q,W,V⟩:=aS r Q;have Z:t[i]?=some (entryOfKey (yQ X.prog X.w) q):=by rw[entry_at T,W];rfl
  refine pU g l st Z λn j x=>?_;have I1:Inv X pins σ H { s with heap:=n,toks:=s.toks }:=I.turned (λb u a e=>x b u a e) M L J G F;obtain⟨q',e,c,N⟩:=id j;refine⟨_,rfl,lB (s:={ s with heap:=n,toks:=s.toks }) e c N (by decide) ⟨.ref p.2.1,H,I1,?_,⟨rfl,p,Q,rfl⟩,j,λb a=>(m b a).1⟩⟩;show Value.ref q.2.1=Value.ref p.2.1;rw[V.2.1]
 done:=by
  intro X C y D R i pins s σ H E I m st A;subst C y D;obtain⟨B,O⟩:=A;obtain⟨g,U,r,T⟩:=I.walkedN B l;have f:=m it (Jd.mpr rfl);obtain⟨M,L,Y,J,G,F⟩:=id f;exact pV (I.ok.hd R) g l st (Array.getElem?_eq_none (by simp_all)) λn x=>⟨rfl,I.turned (t':=s.toks) (λb u a e=>x b u a e) M L J G F⟩
 self:=λ_ _ _ _ _ st h=>wpAny_pyIter_keyiter st h
section
variable {X:Cx}{tg:Expr}
noncomputable def be (P:Program)(w:World)(c:TE):TI:=λσ H R=>c σ H λx b=>∃ d a,x=.ref d/\b d=some (DN P w d a)/\∀ o,R (Itn P w d o a) (upd b d (.frz o (DN P w d a)))
theorem ug {l:Expr}{f:TE}(p:PE X l f):PI X tg l (be X.prog X.w f):=by
 intro pins s σ H R I h;refine thn (p pins s σ H _ I h) λv a ⟨x,A,w,k,d,j,ex,r,q⟩=>?_;subst ex;cases k;obtain⟨o,y,z,g,m,i,le,n,c⟩:=w.freezeN r;refine sn g m i n ?_;refine⟨a.heap.objs.size,[a.heap.objs.size],_,_,_,rfl,c.kept (t':=a.toks) λb u e=>J7 _ e,oj d _ o j i le,⟨_,Jv _ rfl,rfl,rfl⟩,λb t=>?_,q o⟩;cases Jd.mp t;exact c.fpOk (Jc _) (c.hok.fresh (Jc _))
end
end L2
namespace L2
open PySem PySem.Spec PyProof.Rows Own PySem.W
section
variable {prog:Program}{w:World}{d:Addr}{o:Obj}{es:Array DictEntry}{ep:Nat}
theorem iC (j:o.ExactDict)(hd:o.data=.dict es ep)(r:(d == sysModules)=false):KdlSrc prog w "dict" d d es.size (λi v=>∃ e,es[i]?=some e/\v=e.key) (λh=>h.get? d=some o) where
 type:=λs a=>⟨o,a,j.1⟩
 there:=λh a=>⟨Jp a,Jp a⟩
 keep:=λh f a k=>k d (.inl rfl) _ a
 notList:=by decide
 notTuple:=by decide
 hint:=λA E s Q a q=>by
  have ty:s.TypeIs (.ref d) "dict":=⟨o,a,j.1⟩;show wpAny _ _ (specialOf (.ref d) _ >>= _) _ _ _;refine J0 (wpAny_specialOf (T:="dict") ty F.slot_dict_len.lookup ?_);show wpAny _ _ (isInstance (.ref d) (.type "dict") >>= _) _ _ _;refine J0 (ZQ (T:="dict") (b:=true) ty rfl ?_);show wpAny _ _ (typeOf (.ref d) >>= _) _ _ _;exact J0 (YM ty (J8 q))
 iter:=λA s t a=>by
  refine⟨{ cls:=.type "dict_keyiterator",data:=.fields #[.ref d,.int 0 0,.int es.size 0,.int ep 0] },λi h=>h.IsKeyIter s.heap.objs.size d i es.size ep/\h.get? d=some o,λE Q q=>sn a j hd r q,?_,⟨_,Jv _ rfl,rfl,rfl⟩,J7 _ a⟩;have n:d≠s.heap.objs.size:=JC (Jp a);refine⟨λb c=>Jq.mpr (.inl (Jd.mp c)),λi h f st k=>⟨st.1.at (k _ JL),k d (JG _ JL) _ st.2⟩,λi g Q E p st q=>?_,λg Q E st q=>?_,λi g Q E st q=>wpAny_pyIter_keyiter st.1 q⟩
  ·have m:es[i]?=some es[i]:=Zv p
   exact pU st.2 hd st.1 m λf l k=>q _ f g.toks ⟨_,m,rfl⟩ ⟨l,k d o n st.2⟩ λb u nb c=>k b u (λz=>nb (Jd.mpr z)) c
  ·exact pV t st.2 hd st.1 (Array.getElem?_eq_none (Jc _)) λf k=>q f g.toks λb u nb c=>k b u (λz=>nb (Jd.mpr z)) c
end
end L2
namespace L2
open PySem PySem.Spec PyProof.Rows Own Ts PySem.W
section
variable {prog:Program}{w:World}{A:Around}{s:Shared}
theorem gT {Q:Bool->Shared->Prop}(cs:List Ordering):∀ (us vs:List Value) (i:Nat),us.length=cs.length->vs.length=cs.length->(∀ (j:Nat) u v c,us[j]?=some u->vs[j]?=some v->cs[j]?=some c->SeqAt.EqAt A s u v (c == .eq)/\(c≠.eq->LtAt A s u v (c == .lt))) ->
  Q (cs.foldr Ordering.then .eq == .lt) s->PySem.W.KatLex prog w A false false Q (us.zip vs) i s:=by
 induction cs with
 | nil =>
  intro us vs i a b _ q;rw[List.length_eq_zero_iff.mp a]
  exact PySem.W.kat_nil q
 | cons c cs ih =>
  intro us vs i a b h q
  obtain⟨u,us,rfl⟩:∃ u e,us=u::e:=by
   cases us with
   | nil=>simp at a
   | cons u us=>exact⟨u,us,rfl⟩
  obtain⟨v,vs,rfl⟩:∃ v d,vs=v::d:=by
   cases vs with
   | nil=>simp at b
   | cons v vs=>exact⟨v,vs,rfl⟩
  have f:=h 0 u v c rfl rfl rfl;refine PySem.W.kat_cons (f.1 prog w _ _ ?_);by_cases z:c=.eq
  ·subst z
   refine PySem.W.kat_yes (ih us vs (i+1) (by simpa using a) (by simpa using b) (λj u v c m l k=>h (j+1) u v c (by simpa using m) (by simpa using l) (by simpa using k)) q)
  ·have g:(c == Ordering.eq)=false:=by simpa using z
   have e2:(c::cs).foldr Ordering.then .eq=c:=by
    rw[List.foldr_cons];cases c<;>first|rfl|exact absurd rfl z
   rw[e2]at q;rw[g];refine PySem.W.kat_no ?_;rw[Bool.false_and];exact i4 (f.2 z) q
end
noncomputable def RkN (H:Hp)(xs:List V)(rk:V->Int):Prop:=∃ n,n<=20/\∀ x∈xs,(∃ a b r c,x=.ref a/\H a=some (.tup (.ref b::r))/\H b=some (.tup c))/\∀ y∈xs,Lx H n x y (compare (rk x) (rk y))
section
variable {X:Cx}
theorem zaa {pins:List (Addr × Obj)}{σ:St}{H:Hp}{s1:Shared}(I:Inv X pins σ H s1)(C:X.A.units+64<cLine){xs:List V}{vs:List Value}{rk:V->Int}(r:Vals xs vs)(R:RkN H xs rk) :
  ∃ κ:SortKind,(∀ h':Heap,(∀ c o,s1.heap.get? c=some o->h'.get? c=some o)->2<=vs.length->∀ (l:Around) {Q:SortKind->Shared->Prop}{E:Value->Shared->Prop},Q κ { s1 with heap:=h' }->wpAny (model X.prog X.w) l (keyKind' vs.toArray) Q E { s1 with heap:=h' }) /\
   (∀ h':Heap,(∀ c o,s1.heap.get? c=some o->h'.get? c=some o)->∀ (l:Around),l.units<=X.A.units+8->Cmp X.prog X.w l { s1 with heap:=h' } κ (λp=>p.1∈vs) (λp=>rk (vOf p.1))):=by
 obtain⟨n,hn,R⟩:=R
 obtain⟨ex,rel⟩:=rO r λx M=>by
  obtain⟨⟨a,b,r,B,e,_⟩,_⟩:=R x M;exact .inr ⟨a,e⟩
 have mem:∀ u∈vs,vOf u∈xs:=λu C=>by rw[ex];exact JA.mpr ⟨u,C,rfl⟩
 refine⟨tuples' (Value.type "tuple" != Value.type "tuple"),λh' k l2 l Q E q=>?_,λh' k l hA=>⟨λx y M U Q E q=>?_⟩⟩
 ·have m:Inv X pins σ H { s1 with heap:=h',toks:=s1.toks }:=I.kept k
  have kt:∀ t:List Value,(∀ u∈t,vOf u∈xs/\RelV (vOf u) u)->∃ fs,PySem.W.KatTups h' t fs/\fs.length=t.length/\∀ f∈fs,∃ b B,f=Value.ref b/\H b=some (.tup B):=by
   intro t
   induction t with
   | nil=>intro _;exact⟨[],PySem.W.KatTups.nil,rfl,λf D=>by simp at D⟩
   | cons u t ih =>
    intro h;obtain⟨fs,S,k2,P⟩:=ih λv w=>h v (JG _ w);obtain⟨m1,r1⟩:=h u JL;obtain⟨⟨a,b,rr,B,e,N,z⟩,_⟩:=R _ m1;rw[e]at r1;cases r1;obtain⟨d,g,⟨o,W,co,no,dt⟩,_⟩:=m.tuple (SqT.of N);obtain⟨f0,ef,rf⟩:=g.get (i:=0) (x:=.ref b) rfl;cases rf
    exact⟨_,PySem.W.KatTups.cons W co dt (by simpa using ef) S,by rw[JV,JV,k2],λf' D=>by
     rcases Jq.mp D with here|D
     ·exact⟨b,B,here,z⟩
     ·exact P f' D⟩
  obtain⟨fs,S,k2,P⟩:=kt vs λu C=>⟨mem u C,rel u C⟩;refine PySem.W.kat_kind (T:=.type "tuple") S (by lia) (λv w=>?_) (by decide) q;obtain⟨b,B,rfl,z⟩:=P v w;obtain⟨d,g,⟨o,W,co,no,dt⟩,_⟩:=m.tuple (SqT.of z);exact λA Q E s ks q=>YM ⟨o,ks _ _ W,co⟩ q
 ·have m:Inv X pins σ H { s1 with heap:=h',toks:=s1.toks }:=I.kept k
  obtain⟨x1,x2⟩:=x;obtain⟨O,y2⟩:=y;have rx:=rel x1 M;have ry:=rel O U;obtain⟨⟨a,a2,xr,_,ea,N,_⟩,lx⟩:=R _ (mem x1 M);obtain⟨⟨b,b2,yr,_,eb,z,_⟩,_⟩:=R _ (mem O U);have L:=lx _ (mem O U);simp only at q;rw[ea]at rx L q;rw[eb]at ry L q;cases rx;cases ry;generalize hc:compare (rk (V.ref a)) (rk (V.ref b))=c at L;rw[<- (vE (rk (V.ref a)) (rk (V.ref b))).2,hc]at q
  cases L with
  | @row n _ _ a0 aT cs K J l1 l2 hL =>
   rw[N]at K;cases K;rw[z]at J;cases J;obtain⟨d,g1,⟨o1,ab,a6,a4,ax⟩,_⟩:=m.tuple (SqT.of N);obtain⟨F,g2,⟨o2,Z,a5,a3,ao⟩,_⟩:=m.tuple (SqT.of z);have m1:=g1.length;have m2:=g2.length;show wpAny _ _ (keyLt' (tuples' false) (.ref a) (.ref b)) _ _ _;refine PySem.W.kat_lt ab ax Z ao ?_;have ds:decide (d.toArray.size<F.toArray.size)=false:=Jr (by rw[Jm,Jm];simp_all);rw[ds];refine gT cs d F 0 (by simp_all) (by simp_all) (λj u v c G w Y=>?_) q;have j1:j<(V.ref a2::xr).length:=by have:=(Ja.mp G).1;simp_all
   have j2:j<(V.ref b2::yr).length:=by have:=(Ja.mp w).1;simp_all
   obtain⟨u',e1,q1⟩:=g1.get (J9 j1);obtain⟨v',e2,q2⟩:=g2.get (J9 j2);rw[G]at e1;obtain rfl:=Jt e1;rw[w]at e2;obtain rfl:=Jt e2;have LL:=hL j _ _ c (J9 j1) (J9 j2) Y;exact⟨me m LL l _ _ (by lia) q1 q2,λne=>dj m LL ne l _ _ (by lia) q1 q2⟩
theorem g8 {xs:KVN}{ws:List (KN × Addr × Value)}(r:Paired PrN xs ws):Vals (xs.map λp=>V.ref p.2.1) (ws.map λq=>Value.ref q.2.1):=by
 induction r with
 | nil=>exact .nil
 | @cons p q b a h t ih=>exact .cons (by show Value.ref q.2.1=Value.ref p.2.1;rw[h.2.1]) ih
theorem gz {a:Array DictEntry}{acc:Array Value}(a1:acc.size=a.size)(a2:∀ (j:Nat) (v:Value),acc[j]?=some v->∃ e,a[j]?=some e/\v=e.key):acc.toList=a.toList.map (·.key):=by
 refine List.ext_getElem (by rw[Jn,JD,JD,a1]) λj c f=>?_;obtain⟨e,b,d⟩:=a2 j acc[j] (Zv _);rw[List.getElem_map,Array.getElem_toList,Array.getElem_toList,d];rw[Zv (by rw[<- a1];exact c)]at b;rw[Jt b]
theorem qR (J:X.calm=true)(d:X.A.units+64<cLine):CallR X (.builtin "sorted") (λvs H Q=>∃ a xs rk,vs=[.ref a]/\H a=some (DN X.prog X.w a xs)/\xs.length<=10000/\RkN H (xs.map λp=>.ref p.2.1) rk/\∀ (l:Addr) (ys:List V),H l=none->ys.Perm (xs.map λp=>.ref p.2.1)->ys.Pairwise (λx y=>rk x<=rk y)->Q (.ref l) (upd H l (.lst ys))):=by
 intro pins s σ H vs S Q I A h;obtain⟨a,xs,rk,rfl,G,T,R,q⟩:=h;obtain⟨u,rfl,B⟩:=A.one;cases B;obtain⟨⟨z,K,ws,r,o,N,Y,f,M,L,m,U⟩,_,_⟩:=(show ObjOk X.prog X.w H s.heap a (DN X.prog X.w a xs) from I.hok a _ G);have wl:N.size=xs.length:=by rw[Z1 m,<- Yc r]
 refine fZ (kdu_collect (iC M L K) (I.ok.hd J) f (by rw[wl];exact z) λf k acc E b=>?_);obtain⟨n,P⟩:=b
 have al:acc.toList=ws.map λq=>Value.ref q.2.1:=by
  rw[gz n P,m,YX];rfl
 have vs:Vals (xs.map λp=>V.ref p.2.1) acc.toList:=by rw[al];exact g8 r
 have C:acc.toList.length=xs.length:=by rw[JD,n,wl]
 have g:Inv X pins σ H { s with heap:=f,toks:=k }:=I.kept E;obtain⟨t,i,j⟩:=zaa g d vs R
 obtain⟨ex,rel⟩:=rO vs λx F=>by
  obtain⟨p,_,rfl⟩:=JA.mp F;exact .inr ⟨_,rfl⟩
 refine⟨t,λu=>rk (vOf u),by simp_all,i,j,λW l e out lo O pm w D=>?_⟩;have v:Vals (out.map vOf) out:=sF λu d=>rel u (pm.mem_iff.mp d);have pv:(out.map vOf).Perm (xs.map λp=>V.ref p.2.1):=by rw[ex];exact pm.map vOf
 refine⟨.ref l,_,g.laid (t':=k) (o:=.lst (out.map vOf)) (λc o q=>D c o q) lo ⟨?_,out,e,v,O⟩,rfl,?_⟩
 ·rw[Jn,pm.length_eq,C];exact z
 ·exact q l _ (g.hok.fresh lo) pv (List.pairwise_map.mpr w)
end
end L2
namespace L2
open PySem PySem.Spec PyProof.Rows Own
section
noncomputable def le2 (p q a b:Int):Prop:=p<a\/p=a/\q<=b
end
theorem nh (l b:Addr)(xs ys:Array Value)(n m:Nat)(I H:Option Addr)(k f:Array (Option Value))(sz:xs.size=ys.size) :
  Meets (Builtin.«tuple.__lt__» ⟨[.ref l,.ref b],[]⟩)
   (λA R s=>s.heap.get? l=some { cls:=.type "tuple",dict:=I,data:=.seq xs n,slots:=k }/\s.heap.get? b=some { cls:=.type "tuple",dict:=H,data:=.seq ys m,slots:=f } /\
    (∀ j (M:j<xs.size) (L:j<ys.size),SeqAt.EqAt A.in1 s xs[j] ys[j] true)/\R (.ok (.ret (.bool false))) s) :=
 .of_wp λprog w A R s h=>by
  rcases h with ⟨C,E,D,h⟩;rcases s with ⟨B,g,d,q,os⟩;have kinds:=AutoSeq1.sub_tuple_tuple;have K:(xs.toList.zip ys.toList).length=min xs.size ys.size:=by simp
  wp_walk using wpAny_loadPart' C,wpAny_loadPart' E,wpAny_forIn_list _ (λrest b e=>b.1=none/\e=⟨B,g,d,q,os⟩/\∃ i,i<=(xs.toList.zip ys.toList).length/\rest=(xs.toList.zip ys.toList).drop i) _
  case turn =>
   rintro⟨y,x⟩ rest b e ⟨c,rfl,i,t,a⟩
   have r:i<(xs.toList.zip ys.toList).length:=by
    rcases Nat.lt_or_ge i (xs.toList.zip ys.toList).length with z|z
    ·exact z
    ·rw[List.drop_eq_nil_of_le z]at a;cases a
   have v:i<xs.size:=by simp_all
   have u:i<ys.size:=by simp_all
   rw[Yx r]at a;obtain⟨p,e2⟩:=List.cons.inj a;have G:y=xs[i]:=by simpa using JS Prod.fst p
   have ex:x=ys[i]:=by simpa using JS Prod.snd p
   subst G ex;refine J0 (D i v u prog w _ _ ?_)
   wp_walk
   exact⟨rfl,rfl,i+1,by lia,e2⟩
  case fin =>
   rintro⟨J,N⟩ e ⟨c,rfl,i,t,a⟩;have o:J=none:=c;subst o;have F:Builtin.Tuple.tupleCompareSizes CmpOp.Lt xs.size ys.size=.bool false:=by rw[sz];simp[Builtin.Tuple.tupleCompareSizes]
   show wpAny _ _ (ret (Builtin.Tuple.tupleCompareSizes CmpOp.Lt xs.size ys.size)) _ _ _;rw[F];exact J8 ⟨_,rfl,h⟩
  case h =>
   exact⟨rfl,rfl,0,JN _,rfl⟩
theorem LtAt.tuplesS {A:Around}{s:Shared}{l b:Addr}{xs ys:Array Value}(q:IsTup s.heap l xs)(hb:IsTup s.heap b ys)(p:A.units<cLine)(sz:xs.size=ys.size)(r:∀ j (B:j<xs.size) (z:j<ys.size),SeqAt.EqAt A.in1 s xs[j] ys[j] true):LtAt A s (.ref l) (.ref b) false:=λprog w E Q h=>by
 obtain⟨⟨y,e,u,c⟩,g,o,n,i⟩:=q;obtain⟨⟨v,d,t,a⟩,f,k,m,e2⟩:=hb;simp only at o i k e2;subst o i k e2;exact richCompare_meets_room (op:=.Lt) ⟨_,g,rfl⟩ ⟨_,f,rfl⟩ F.slot_tuple_lt F.entry_tuple_lt (F.args_tuple_lt_2 _ _) (nh l b xs ys n m e d c a sz) ⟨g,f,r,show Value.bool false≠Value.notImplemented/\Q (.bool false) s from⟨(λx=>nomatch x),h⟩⟩ p
section
variable {X:Cx}
theorem eT {pins:List (Addr × Obj)}{σ:St}{H:Hp}{s:Shared}(I:Inv X pins σ H s){n:Nat}{x y:V}{c:Ordering}(h:Lx H n x y c)(A:Around)(u v:Value)(P:A.units+n<cLine)(g:RelV x u)(f:RelV y v):LtAt A s u v (c == .lt):=by
 by_cases z:c=.eq
 ·cases h with
  | int n i j =>
   obtain⟨E,rfl⟩:=g;obtain⟨D,rfl⟩:=f;rw[(vE i j).2]
   exact LtAt.ints i j E D
  | @row n a b w t cs R Q U T h =>
   cases g;cases f;obtain⟨l,p,K,_⟩:=I.tuple (SqT.of R);obtain⟨k,o,J,_⟩:=I.tuple (SqT.of Q);have M:=p.length;have L:=o.length;rw[z];refine LtAt.tuplesS K J (by lia) (by rw[Jm,Jm];simp_all) λj O N=>?_;have e:j<w.length:=by simpa [M] using O
   have d:j<t.length:=by simpa [L] using N
   have m:j<cs.length:=by simp_all
   obtain⟨C,S,G⟩:=p.get (J9 e);obtain⟨B,e2,F⟩:=o.get (J9 d);have r:l.toArray[j]=C:=by simpa using (Ja.mp S).2
   have q:k.toArray[j]=B:=by simpa using (Ja.mp e2).2
   have ce:cs[j]=.eq:=w5.mp z _ (YB m);have:=me I (h j _ _ _ (J9 e) (J9 d) (J9 m)) A.in1 _ _ (by show A.units+1+n<cLine;lia) G F;rw[ce]at this;rw[r,q];exact this
 ·exact dj I h z A u v P g f
end
section
variable {prog:Program}{w:World}{A:Around}{R:Result->Shared->Prop}{I S:Addr}{fp wr:List Addr}{n:Nat}{P:Nat->Value->Prop}{St:Nat->Heap->Prop}
noncomputable def AskM (prog:Program)(w:World)(A:Around)(a:Shared)(wr:List Addr)(S:Addr)(v e:Value)(c:Bool):Prop :=
 ∀ (h:Heap) (d:Nat) (Q:Value->Shared->Prop) (E:Value->Shared->Prop),(∀ b o,b∉wr->b≠S->a.heap.get? b=some o->h.get? b=some o)->Q (.bool c) { a with heap:=h,toks:=d }->wpAny (model prog w) A.in1 (richCompare .Lt v e) Q E { a with heap:=h,toks:=d }
theorem sU (W:Walks prog w A.in1 I fp wr n P St)(away:S∉fp)(p:Shared)(l:Nat->Value->Prop)(more:∀ j v a,0<j->P j v->l j a->∃ c:Bool,l (j+1) (if c=true then v else a)/\AskM prog w A p wr S v a c) :
  ∀ (m j:Nat) (h:Heap) (tk:Nat) (c:Nat) (a:Value),j+m=n->0<j->l j a->St j h->h.get? S=some { cls:=.type "list",dict:=none,data:=.seq #[a,a] c,slots:=#[] }->(∀ b o,b∉wr->b≠S->p.heap.get? b=some o->h.get? b=some o) ->
   (∀ u B y,l n u->(∀ b o,b∉wr->b≠S->p.heap.get? b=some o->B.get? b=some o)->R (.ok (.ret u)) { p with heap:=B,toks:=y })->codeAny (model prog w) A (.builtin "min.loop" ⟨[.ref I,.none,.ref S],[]⟩) R { p with heap:=h,toks:=tk }:=by
 have out:S∉wr:=λz=>away (W.sub _ z);have nm:(toString "min"++toString ".loop":String) = "min.loop":=by decide
 intro m
 induction m with
 | zero =>
  intro j h tk c a C jp bs st s old k;have D:j=n:=by omega
  subst D
  refine Zd F.entry_min_loop (by
   refine YR YK _ ▸ (show wpAny _ A.in1 (seqItems? (.ref S) >>= _) _ _ _ from ?_);refine J0 (Yg s rfl (show wpAny _ A.in1 (tryCatch (pyNext (.ref I)) _ >>= _) _ _ _ from J0 (W4 (W.done { p with heap:=h,toks:=tk } _ _ st λx r keep=>?_))));have d:=keep S _ out s
   show wpAny _ A.in1 (updateSeq S (λ_=>#[]) >>= _) _ _ _;exact J0 (wpAny_updateSeq d rfl (J0 (W8 (J8 (k _ _ r bs λb o g q e=>(Yi _ _ (Ne.symm q)).trans (keep b o g (old b o g q e))))))))
 | succ m ih =>
  intro j h tk c a C jp bs st s old k
  refine Zd F.entry_min_loop (by
   refine YR YK _ ▸ (show wpAny _ A.in1 (seqItems? (.ref S) >>= _) _ _ _ from ?_);refine J0 (Yg s rfl (show wpAny _ A.in1 (tryCatch (pyNext (.ref I)) _ >>= _) _ _ _ from J0 (W4 (W.item j { p with heap:=h,toks:=tk } _ _ (by lia) st λv x r pv t keep=>?_))));have d:=keep S _ out s;have f:∀ b o,b∉wr->b≠S->p.heap.get? b=some o->x.get? b=some o:=λb o g q e=>keep b o g (old b o g q e);obtain⟨E,i,ask⟩:=more j v a jp pv bs;show wpAny _ A.in1 (tryCatch (holding [v,v] (richCompare .Lt v a >>= _)) _ >>= _) _ _ _;refine J0 (W4 (Y4 (J0 (ask x r _ _ f (J0 (Y4 (Yy (J0 (W8 (J8 ?_))))))))))
   cases E with
   | false =>
    rw[Je Jj]at i;rw[Je Jj];refine J0 (W8 ?_);rw[nm]
    exact J8 ⟨Zf YK _,ih (j+1) _ _ _ a (by lia) (by lia) i t d f k⟩
   | true =>
    rw[Jg rfl]at i;rw[Jg rfl];refine J0 (wpAny_updateSeq d rfl (J0 (W8 ?_)));rw[nm]
    exact J8 ⟨Zf YK _,ih (j+1) _ _ _ v (by lia) (by lia) i (W.frame _ _ _ t λb g o e=>(Yi _ _ (λz=>away (by rw[z];exact g))).trans e) (YG _ d rfl) (λb o g q e=>(Yi _ _ (Ne.symm q)).trans (f b o g q e)) k⟩)
end
section
variable {prog:Program}{w:World}{A:Around}{E:Value->Shared->Prop}{s:Shared}
noncomputable def WalkM (prog:Program)(w:World)(A:Around)(Q:Value->Shared->Prop)(it:Value)(s2:Shared):Prop :=
 ∃ (I:Addr) (f wr:List Addr) (n:Nat) (P:Nat->Value->Prop) (St:Nat->Heap->Prop),it=.ref I/\Walks prog w A.in1 I f wr n P St/\St 0 s2.heap/\(∀ b∈f,b<s2.heap.objs.size)/\0<n /\
   ∃ a:Nat->Value->Prop,(∀ v,P 0 v->a 1 v)/\(∀ j v d,0<j->P j v->a j d->∃ c:Bool,a (j+1) (if c=true then v else d)/\AskM prog w A s2 wr s2.heap.objs.size v d c) /\
   ∀ u e g,a n u->(∀ b o,b∉wr->s2.heap.get? b=some o->e.get? b=some o)->Q u { s2 with heap:=e,toks:=g }
theorem jA {x:Value}{Q:Value->Shared->Prop}(h:wpAny (model prog w) A.in1 (pyIter x) (WalkM prog w A Q) E s):wpAny (model prog w) A (call (.builtin "min") [x]) Q E s:=by
 have nm:(toString "min"++toString ".loop":String) = "min.loop":=by decide
 refine call_function_tree F.kind_min F.plain_min F.entry_min (F.args_min1 _) ?_;show wpAny _ A.in1 (Builtin.Builtins.bindParams "min" ["key","default"] 0 ⟨[],[]⟩ >>= _) _ _ s;refine J0 (wpAny_of_eq (show Builtin.Builtins.bindParams "min" ["key","default"] 0 ⟨[],[]⟩=pure [none,none] from rfl) (J0 (J8 (J0 (JM h (λit a z=>?_) λ_ _ e=>e)))));obtain⟨I,q,wr,n,P,St,rfl,W,st,low,pos,l,first,more,k⟩:=z;have away:a.heap.objs.size∉q:=λz=>YC _ (low _ z);have out:a.heap.objs.size∉wr:=λz=>away (W.sub _ z);refine J0 (JQ ?_);rw[nm];refine J8 ⟨Zf YK _,Zd F.entry_min_loop ?_⟩;have new:(a.heap.push { cls:=.type "list",data:=.seq #[] }).get? a.heap.objs.size=some { cls:=.type "list",dict:=none,data:=.seq #[] 0,slots:=#[] }:=Jv _ rfl;have j:St 0 (a.heap.push { cls:=.type "list",data:=.seq #[] }):=W.frame _ _ _ st λb _ o e=>J7 _ e;refine YR YK _ ▸ (show wpAny _ A.in1 (seqItems? (.ref a.heap.objs.size) >>= _) _ _ _ from ?_);refine J0 (Yg new rfl (show wpAny _ A.in1 (tryCatch (pyNext (.ref I)) _ >>= _) _ _ _ from J0 (W4 (W.item 0 _ _ _ pos j λv p B pv i keep=>?_))));have y:=first v pv
 have c:=keep _ _ out new;show wpAny _ A.in1 (updateSeq a.heap.objs.size (λ_=>#[v,v]) >>= _) _ _ _;refine J0 (wpAny_updateSeq c rfl ?_);rw[nm];have up:∀ b o,b∉wr->b≠a.heap.objs.size->a.heap.get? b=some o->(p.update a.heap.objs.size (Obj.mapSeq λ_=>#[v,v])).get? b=some o:=λb o f t e=>(Yi _ _ (Ne.symm t)).trans (keep b o f (J7 _ e));exact J8 ⟨Zf YK _,sU W away a l more (n-1) 1 _ _ _ v (by lia) (by lia) y (W.frame _ _ _ i λb f o e=>(Yi _ _ (λz=>away (by rw[z];exact f))).trans e) (YG _ c rfl) up λu m g r d=>k u m g r λb o f e=>d b o f (JC (Jp e)) e⟩
theorem gF {x y:Value}{Q:Value->Shared->Prop}(h:wpAny (model prog w) A.in1 (pyIter (.ref s.heap.objs.size)) (WalkM prog w A Q) E { s with heap:=s.heap.push { cls:=.type "tuple",data:=.seq #[x,y] } }):wpAny (model prog w) A (call (.builtin "min") [x,y]) Q E s:=by
 have nm:(toString "min"++toString ".loop":String) = "min.loop":=by decide
 refine call_function_tree F.kind_min F.plain_min F.entry_min (F.args_min2 _ _) ?_;show wpAny _ A.in1 (Builtin.Builtins.bindParams "min" ["key","default"] 0 ⟨[],[]⟩ >>= _) _ _ s;refine J0 (wpAny_of_eq (show Builtin.Builtins.bindParams "min" ["key","default"] 0 ⟨[],[]⟩=pure [none,none] from rfl) (J0 ?_));refine wpAny_newTuple (J0 (JM h (λit a z=>?_) λ_ _ e=>e));obtain⟨I,q,wr,n,P,St,rfl,W,st,low,pos,l,first,more,k⟩:=z;have away:a.heap.objs.size∉q:=λz=>YC _ (low _ z);have out:a.heap.objs.size∉wr:=λz=>away (W.sub _ z);refine J0 (JQ ?_);rw[nm];refine J8 ⟨Zf YK _,Zd F.entry_min_loop ?_⟩;have new:(a.heap.push { cls:=.type "list",data:=.seq #[] }).get? a.heap.objs.size=some { cls:=.type "list",dict:=none,data:=.seq #[] 0,slots:=#[] }:=Jv _ rfl;have j:St 0 (a.heap.push { cls:=.type "list",data:=.seq #[] }):=W.frame _ _ _ st λb _ o e=>J7 _ e;refine YR YK _ ▸ (show wpAny _ A.in1 (seqItems? (.ref a.heap.objs.size) >>= _) _ _ _ from ?_);refine J0 (Yg new rfl (show wpAny _ A.in1 (tryCatch (pyNext (.ref I)) _ >>= _) _ _ _ from J0 (W4 (W.item 0 _ _ _ pos j λv p C pv i keep=>?_))));have B:=first v pv
 have c:=keep _ _ out new;show wpAny _ A.in1 (updateSeq a.heap.objs.size (λ_=>#[v,v]) >>= _) _ _ _;refine J0 (wpAny_updateSeq c rfl ?_);rw[nm];have up:∀ b o,b∉wr->b≠a.heap.objs.size->a.heap.get? b=some o->(p.update a.heap.objs.size (Obj.mapSeq λ_=>#[v,v])).get? b=some o:=λb o f t e=>(Yi _ _ (Ne.symm t)).trans (keep b o f (J7 _ e));exact J8 ⟨Zf YK _,sU W away a l more (n-1) 1 _ _ _ v (by lia) (by lia) B (W.frame _ _ _ i λb f o e=>(Yi _ _ (λz=>away (by rw[z];exact f))).trans e) (YG _ c rfl) up λu m g r d=>k u m g r λb o f e=>d b o f (JC (Jp e)) e⟩
end
noncomputable def xi (cmp:V->V->Ordering)(b y:V):V:=if cmp y b=.lt then y else b
noncomputable def xb (cmp:V->V->Ordering):List V->V
 | []=>.non
 | x::r=>r.foldl (xi cmp) x
theorem jh (cmp:V->V->Ordering){l:List V}(h:l≠[])(y:V):xb cmp (l++[y])=xi cmp (xb cmp l) y:=by
 cases l with
 | nil=>exact absurd rfl h
 | cons x r=>show List.foldl _ _ (r++[y])=_;rw[List.foldl_append];rfl
theorem oJ (cmp:V->V->Ordering):∀ (r:List V) (x:V),r.foldl (xi cmp) x∈x::r
 | [],x=>.head _
 | y::r,x=>by
  have:=oJ cmp r (xi cmp x y);show List.foldl (xi cmp) (xi cmp x y) r∈x::y::r;rcases Jq.mp this with z|z
  ·rw[z]
   unfold xi;split
   ·exact .tail _ (.head _)
   ·exact .head _
  ·exact .tail _ (.tail _ z)
theorem gx (cmp:V->V->Ordering){l:List V}(h:l≠[]):xb cmp l∈l:=by
 cases l with
 | nil=>exact absurd rfl h
 | cons x r=>exact oJ cmp r x
section
variable {X:Cx}{pins:List (Addr × Obj)}{σ:St}{H:Hp}{s:Shared}
theorem qY {b:Bool}{a:Addr}{xs:List V}{its:List Value}{n:Nat}{cmp:V->V->Ordering}{Q:VK}(J:X.calm=true)(T:X.A.units+64<cLine)(I:Inv X pins σ H s)(m:Vals xs its)(pp:SqO b s.heap a its.toArray)(al:a<s.heap.objs.size)(k:0<xs.length)(R:n<=20)(K:∀ x∈xs,∀ y∈xs,Lx H n x y (cmp x y))(q:Q (xb cmp xs) H) :
  wpAny (model X.prog X.w) X.A.in1 (pyIter (.ref a)) (WalkM X.prog X.w X.A (EP X pins σ Q)) X.xe s:=by
 have U:its.length=xs.length:=m.length.symm;refine wU pp ⟨s.heap.objs.size,[s.heap.objs.size,a],[s.heap.objs.size],its.toArray.size,(λi v=>its.toArray[i]?=some v),_,rfl,de (show X.A.in1.handled=none from I.ok.hd J) b _ a (JC al) its.toArray,⟨?_,pp.mv λo e=>J7 _ e⟩,λc F=>?_,by rw[Jm];simp_all,(λj v=>0<j/\j<=xs.length/\RelV (xb cmp (xs.take j)) v),λv t=>?_,λj v B jp t ⟨_,S,w⟩=>?_,λu W l ⟨_,_,f⟩ G=>?_⟩
 ·cases b<;>exact⟨_,Jv _ rfl,rfl,rfl⟩
 ·show c<(s.heap.push _).objs.size
  rw[YQ];rcases Jq.mp F with z|z
  ·exact z ▸ Nat.lt_succ_self _
  ·exact Jd.mp z ▸ ZF al
 ·have E:xs[0]?=some xs[0]:=J9 k
  obtain⟨C,g,f⟩:=m.get E;have d:its[0]?=some v:=by simpa using t
  rw[d]at g;cases g;refine⟨by lia,k,?_⟩
  cases xs with
  | nil=>cases k
  | cons x r=>exact f
 ·have d:its[j]?=some v:=by simpa using t
  have p:j<xs.length:=by
   have:=(Ja.mp d).1
   simp_all
  obtain⟨C,g,f⟩:=m.get (J9 p);rw[d]at g;cases g
  have ne:xs.take j≠[]:=λz=>by
   have:=JS List.length z;rw[Js,Zz]at this
   simp_all
  have bm:xb cmp (xs.take j)∈xs:=YS (gx cmp ne);have L:=K _ (YB p) _ bm;refine⟨cmp xs[j] (xb cmp (xs.take j)) == .lt,⟨by lia,by lia,?_⟩,λh l N P old D=>?_⟩
  ·rw[<- Yd p,jh cmp ne]
   unfold xi;by_cases z:cmp xs[j] (xb cmp (xs.take j))=.lt
   ·rw[Jg z,Jg (by rw[z];rfl)];exact f
   ·rw[Je z,Je (λy=>z (by simpa using y))];exact w
  ·have O:Inv X pins σ H { s with heap:=h,toks:=l }:=I.kept λc o e=>old c o (λz=>JC (Jp e) (Jd.mp z)) (λz=>by
    have M:=Jp e;have A:c=(s.heap.push { cls:=.type (cN b),data:=.fields #[.ref a,.int 0 0] }).objs.size:=z;rw[YQ]at A
    exact absurd A (JC (ZF M))) (J7 _ e)
   exact eT O L X.A.in1 v B (by show X.A.units+1+n<cLine;lia) f w X.prog X.w P N D
 ·refine⟨xb cmp xs,H,I.kept (t':=l) λc o e=>G c o (λz=>JC (Jp e) (Jd.mp z)) (J7 _ e),?_,q⟩
  have:xs.take its.toArray.size=xs:=JR (by rw[Jm];simp_all);rw[this]at f;exact f
theorem jZ (j:X.calm=true)(b:Bool)(h:X.A.units+64<cLine):CallR X (.builtin "min") (λvs H Q=>∃ a xs n cmp,vs=[.ref a]/\SqB b X.K H a xs/\0<xs.length/\n<=20/\(∀ x∈xs,∀ y∈xs,Lx H n x y (cmp x y))/\Q (xb cmp xs) H):=by
 rintro pins s σ H vs r Q I e ⟨a,xs,n,cmp,rfl,i,d,c,k,q⟩;obtain⟨u,rfl,f⟩:=e.one;cases f;obtain⟨p,g,pp⟩:=I.sq (b:=b) i;obtain⟨o,m,l,_⟩:=pp.ob;exact jA (qY j h I g pp (Jp l) d c k q)
theorem n4 (i:X.calm=true)(h:X.A.units+64<cLine):CallR X (.builtin "min") (λvs H Q=>∃ x y n cmp,vs=[x,y]/\n<=20/\(∀ u∈[x,y],∀ v∈[x,y],Lx H n u v (cmp u v))/\Q (xi cmp x y) H):=by
 rintro pins s σ H vs l Q I d ⟨x,y,n,cmp,rfl,c,j,q⟩;obtain⟨u,a,rfl,g,f⟩:=mC d;refine gF ?_;have k:=I.kept (t':=s.toks) (h':=s.heap.push { cls:=.type "tuple",data:=.seq #[u,a] }) λb u e=>J7 _ e;refine qY (s:={ s with heap:=s.heap.push { cls:=.type "tuple",data:=.seq #[u,a] } }) (b:=false) (xs:=[x,y]) (its:=[u,a]) i h k (.cons g (.cons f .nil)) ⟨_,Jv _ rfl,rfl,_,rfl⟩ ?_ (by show 0<2;lia) c j q;show s.heap.objs.size<(s.heap.push _).objs.size;rw[YQ];simp_all
end
noncomputable def cmpR:List Int->List Int->Ordering
 | [],[]=>.eq
 | [],_::_=>.lt
 | _::_,[]=>.gt
 | a::x,b::y=>(compare a b).then (cmpR x y)
theorem va:∀ {x y:List Int},x.length=y.length->(List.zipWith compare x y).foldr Ordering.then .eq=cmpR x y
 | [],[],_=>rfl
 | a::x,b::y,h=>by
  show (compare a b).then _=(compare a b).then _;rw[va (x:=x) (y:=y) (by simpa using h)]
theorem md {H:Hp}{a b:Addr}{x y:List Int}(ha:H a=some (.tup (x.map V.int)))(hb:H b=some (.tup (y.map V.int)))(l:x.length=y.length):Lx H 1 (.ref a) (.ref b) (cmpR x y):=by
 rw[<- va l];refine .row ha hb (by rw[Jn,List.length_zipWith];simp_all) (by rw[Jn,List.length_zipWith];simp_all) λi u v c e d f=>?_;rw[JZ]at e d;obtain⟨p,h,rfl⟩:=Y6.mp e;obtain⟨q,g,rfl⟩:=Y6.mp d;rw[List.getElem?_zipWith,h,g]at f;cases f;exact .int 0 p q
noncomputable def wB (x y:List Int):List Int:=if cmpR y x=.lt then y else x
noncomputable def zaI:List (List Int)->List Int
 | []=>[]
 | x::r=>r.foldl wB x
noncomputable def cS (P:Program)(w:World)(t:TS):TS:=λD σ H=>t { D with nx:=λa e=>∃ d o c b,H d=some (DN P w d b)/\e d=some (.frz o (DN P w d c))/\D.nx a (upd e d (DN P w d c)) } σ H
section
variable {X:Cx}
theorem qw {st:Stmt}{t:TS}(h:PS X st t):PS X st (cS X.prog X.w t):=by
 intro pins s σ H D I c;refine thn (h pins s σ H _ I c) λf k q=>?_
 cases f with
 | next =>
  obtain⟨a,l,g,d,o,j,i,e,b,q⟩:=q
  exact⟨a,_,g.thawN b (I.meltedN e),q⟩
 | brk=>exact q
 | cont=>exact q
 | ret u=>exact q
end
end L2
namespace L2
open PySem
theorem lS {i:Nat}{x:V}{t:TS}{D:Ends}{σ:St}{H:Hp}(h:∀ b:Ends,(∀ σ H,D.nx σ H->b.nx σ H)->t b (σ.set i (some x)) H):wL i x σ H λa c=>t D a c:=h D λ_ _ x=>x
theorem yA {t u:TS}{D:Ends}{σ:St}{H:Hp}(h:∀ a:Ends,(∀ σ H,u D σ H->a.nx σ H)->t a σ H):vK t u D σ H:=h { D with nx:=u D } λ_ _ x=>x
end L2
namespace L2
open PySem Own PyProof.Rows PySem.Spec
section
variable {X:Cx}
noncomputable def aA (i j k:Nat)(b:TA):TS:=λD σ H=>b σ H λa c=>∃ u v w,a=[u,v,w]/\D.nx (((σ.set i (some u)).set j (some v)).set k (some w)) c
theorem oo {u v w:V}{us:List Value}(r:Vals [u,v,w] us):∃ a b c,us=[a,b,c]/\RelV u a/\RelV v b/\RelV w c:=by
 cases r with
 | cons p r =>
  obtain⟨b,c,rfl,q,t⟩:=Vals.two r;exact⟨_,b,c,rfl,p,q,t⟩
theorem ft {i j k:Nat}{x y z:Str}{a b c:Expr}{r:TA}{pos m py l pt:Pos}{kt k2 pt2}(W:X.calm=true)(n:X.N.Nodup)(hi:X.N[i]?=some x)(V:X.N[j]?=some y)(U:X.N[k]?=some z)(P:i≠j)(O:i≠k)(N:j≠k)(B:X.env.scope.names.lookup x=some .local)(A:X.env.scope.names.lookup y=some .local)(t:X.env.scope.names.lookup z=some .local)(ha:PA X [a,b,c] r)(Q:swappedStores [.Tuple [.Name x m,.Name y py,.Name z l] kt pt] (.Tuple [a,b,c] k2 pt2) X.env=pure (some [x,y,z]))(R:swapsWithSole [.Tuple [.Name x m,.Name y py,.Name z l] kt pt] (.Tuple [a,b,c] k2 pt2) pos.line X.env=pure false:=by rfl) :
  PS X (.Assign [.Tuple [.Name x m,.Name y py,.Name z l] kt pt] (.Tuple [a,b,c] k2 pt2) pos) (aA i j k r):=λpins s σ H D I h=>by
 rw[exec_Assign_arm];refine J0 (YL ?_);rw[R];refine J0 (J8 ?_);rw[Je Jj];refine J0 (PyProof.Rows.Tuple_ (thn (ha _ pins s σ H _ I h) λus d q=>?_));obtain⟨vs,E,I1,L,u,v,w,rfl,M⟩:=q;obtain⟨f,e,u3,rfl,K,G,F⟩:=oo L;refine JQ ?_ (by show 3<=sizeLine;decide);have J:Inv X pins σ E { d with heap:=d.heap.push { cls:=.type "tuple",data:=.seq [f,e,u3].toArray } }:=I1.kept (t':=d.toks) λ_ _ g=>J7 _ g;rw[Q];refine J0 (J8 ?_);show wpAny (model X.prog X.w) X.A (do rule "assign.swapped-stores";let items <- unpackItems (.ref d.heap.objs.size) 3 none;assignInOrder [λv=>bindName X.env z v,λv=>bindName X.env y v,λv=>bindName X.env x v] items.reverse;pure Flow.next) _ _ _;refine J0 (YJ (J0 (PyProof.Rows.unpackItems_tuple (items:=#[f,e,u3]) (I.ok.hd W) (IsTup.new d.heap _) λT S=>?_)));have J3:=J.kept (h':=T) (t':=d.toks) λb o g=>S b o (JC (Jp g)) g;show wpAny _ _ (assignInOrder [λv=>bindName X.env z v,λv=>bindName X.env y v,λv=>bindName X.env x v] [u3,e,f] >>= λ_=>pure Flow.next) _ _ _;refine J0 (ZB (wpAny_bindName (xU J3 n U (.inl t) F (λs2 Z=>?_) (.inr t))));refine ZB (wpAny_bindName (xU Z n V (.inl A) G (λs3 Y=>?_) (.inr A)));refine ZB (wpAny_bindName (xU Y n hi (.inl B) K (λs4 C=>assignInOrder_nil (J8 ?_)) (.inr B)))
 have p:((σ.set k (some w)).set j (some v)).set i (some u)=((σ.set i (some u)).set j (some v)).set k (some w):=by
  rw[List.set_comm _ _ (Ne.symm P),List.set_comm _ _ (Ne.symm O),List.set_comm _ _ (Ne.symm N)]
 rw[p]at C;exact⟨_,E,C,M⟩
end
end L2
namespace Bn
open PySem L2 Own
noncomputable abbrev Sn:=List Int × List Grp × List Int
noncomputable abbrev Sn.none (N:Nt):Sn:=(List.replicate N.forks.length 0,[],List.replicate N.lanes 0)
end Bn
namespace L2
open PySem PySem.Spec PyProof.Rows Own
noncomputable abbrev FZ (o:Obj):HO:=.frz o (.ext λ_=>True)
theorem oF {P:Program}{w:World}{H:Hp}{h:Heap}{a:Addr}{o:Obj}(e:h.get? a=some o):ObjOk P w H h a (FZ o):=⟨e,trivial,⟨o,e⟩,λ_ _ _ _=>trivial⟩
structure Lam where
 params:Arguments
 body:Expr
 scope:Scope
 qual:Str
noncomputable def pi (L:Lam)(cl:List (Str × Addr))(pm:Value)(c:Addr)(ct:Value):Obj:=PySem.W.kla_obj "<lambda>" L.qual L.params L.body L.scope cl pm c ct
structure LamAt (H:Hp) (f:Addr) (L:Lam) (cl:List (Str × Addr)) (vs:List V):Prop where
 ex:∃ (pm:Value) (c:Addr) (ct:Value) (oc:Obj) (fs:Array Value) (t:Tok),H f=some (FZ (pi L cl pm c ct))/\H c=some (FZ oc)/\oc.data=.fields fs/\fs[1]?=some (.str L.qual t)
 len:cl.length=vs.length
 cell:∀ (i:Nat) x c v,cl[i]?=some (x,c)->vs[i]?=some v->∃ o u,H c=some (FZ o)/\o.data=.cell (some u)/\RelV v u
 nd1:(cl.map (·.1)).Nodup
 nd2:(cl.map (·.2)).Nodup
theorem LamAt.frz {H H':Hp}{f:Addr}{L:Lam}{cl:List (Str × Addr)}{vs:List V}(h:LamAt H f L cl vs)(z:∀ b o u,H b=some (.frz o u)->H' b=some (.frz o u)):LamAt H' f L cl vs:=by
 obtain⟨pm,c,p,j,fs,t,n,m,l,k⟩:=h.ex;refine⟨⟨pm,c,p,j,fs,t,z _ _ _ n,z _ _ _ m,l,k⟩,h.len,λi x c v a b=>?_,h.nd1,h.nd2⟩;obtain⟨o,u,g,e,d⟩:=h.cell i x c v a b;exact⟨o,u,z _ _ _ g,e,d⟩
noncomputable def strip (cl:List (Str × Addr))(H:Hp):Hp:=λb=>if b∈cl.map (·.2) then none else H b
noncomputable def back (cl:List (Str × Addr))(H H':Hp):Hp:=λb=>if b∈cl.map (·.2) then H b else H' b
theorem wF {cl:List (Str × Addr)}{H:Hp}{b:Addr}(h:b∈cl.map (·.2)):strip cl H b=none:=Jg h
theorem yF {cl:List (Str × Addr)}{H:Hp}{b:Addr}(h:b∉cl.map (·.2)):strip cl H b=H b:=Je h
theorem qV {cl:List (Str × Addr)}{H H':Hp}{b:Addr}(h:b∈cl.map (·.2)):back cl H H' b=H b:=Jg h
theorem xI {cl:List (Str × Addr)}{H H':Hp}{b:Addr}(h:b∉cl.map (·.2)):back cl H H' b=H' b:=Je h
theorem oq {cl:List (Str × Addr)}{H:Hp}{b:Addr}{o:HO}(h:strip cl H b=some o):b∉cl.map (·.2)/\H b=some o:=by
 by_cases c:b∈cl.map (·.2)
 ·rw[wF c]at h;cases h
 ·rw[yF c]at h;exact⟨c,h⟩
noncomputable def CellsFz (cl:List (Str × Addr))(H:Hp):Prop:=∀ b∈cl.map (·.2),∃ o,H b=some (FZ o)
theorem LamAt.fz {H:Hp}{f:Addr}{L:Lam}{cl:List (Str × Addr)}{vs:List V}(h:LamAt H f L cl vs):CellsFz cl H:=λb k=>by
 obtain⟨⟨x,c⟩,j,rfl⟩:=JA.mp k;obtain⟨i,a,e⟩:=YT.mp j;have g:i<vs.length:=by rw[<- h.len];exact a
 obtain⟨o,u,d,_⟩:=h.cell i x c vs[i] (by rw[J9 a,e]) (J9 g);exact⟨o,d⟩
section
variable {P:Program}{w:World}{H H':Hp}{h h':Heap}{cl:List (Str × Addr)}
theorem rD (x:HOk P w H h)(fz:CellsFz cl H):HOk P w (strip cl H) h:=λb u e=>by
 obtain⟨nb,f⟩:=oq e
 have keep:∀ {c:Addr}{o:HO},H c=some o->(∀ q,o≠FZ q)->strip cl H c=some o:=λ{c o} z n=>by
  rw[yF];· exact z
  ·intro d
   obtain⟨q,a⟩:=fz c d;rw[z]at a;exact n q (Jt a)
 exact(x b u f).stay (λc v _ q=>q) (λc q=>keep q λz y=>by cases y) λc g q=>keep q λz y=>by cases y
theorem fA {fs:List Addr}(un:Un fs [] (strip cl H) H' h h')(fz:CellsFz cl H)(k:∀ b∈fs,H b=none)(there:∀ b o,H b=some (FZ o)->h.get? b=some o)(low:∀ b∈cl.map (·.2),H' b=none)(ok:HOk P w H' h'):Un fs [] H (back cl H H') h h'/\HOk P w (back cl H H') h':=by
 have d:∀ {b:Addr},H b=none->b∉cl.map (·.2):=λe a=>by
  obtain⟨o,q⟩:=fz _ a;rw[e]at q;cases q
 have kept:∀ b∈cl.map (·.2),∀ o,h.get? b=some o->h'.get? b=some o:=λb a o e=>un.keep b o e (wF a) (λz=>d (k b z) a) (by simp)
 have f:∀ {b:Addr}{o:HO},H b=some o->(∀ q,o≠FZ q)->b∉cl.map (·.2):=λz n a=>by
  obtain⟨q,i⟩:=fz _ a;rw[z]at i;exact n q (Jt i)
 refine⟨⟨λb o e n x y=>un.keep b o e (by rw[yF (d n)];exact n) x y,λb o e n x y=>un.slot b o e (by rw[yF (d n)];exact n) x y,λb o e n y=>?_,un.there,λb g e=>?_,λb o u e=>?_,λb j e=>?_⟩,λb u e=>?_⟩
 ·rw[xI (d n)]
  exact un.free b o e (by rw[yF (d n)];exact n) y
 ·have nb:=f e λq z=>by cases z
  rw[xI nb];exact un.tups b g (by rw[yF nb];exact e)
 ·by_cases c:b∈cl.map (·.2)
  ·rw[qV c];exact e
  ·rw[xI c];exact un.frzs b o u (by rw[yF c];exact e)
 ·have nb:=f e λq z=>by cases z
  rw[xI nb];exact un.tbls b j (by rw[yF nb];exact e)
 ·by_cases c:b∈cl.map (·.2)
  ·rw[qV c]at e
   obtain⟨o,q⟩:=fz b c;rw[q]at e;cases e;exact oF (kept b c o (there b o q))
  ·rw[xI c]at e
   have old:∀ {x:Addr}{o:HO},H' x=some o->back cl H H' x=some o:=λ{x o} z=>by
    rw[xI];· exact z
    ·intro l
     rw[low x l]at z;cases z
   exact(ok b u e).stay (λx v _ q=>q) (λx q=>old q) λx g q=>old q
end
noncomputable def ny (L:Lam)(cl:List (Str × Addr))(a f c:Addr):Env:={ scope:=L.scope,locals:=a,globals:=mainGlobals,cells:=cl,qual:=L.qual++".<locals>.",func:=some f,code:=.ref c,frame:=some a,builtins:=builtinsNs }
noncomputable def gm (CX:CXT)(P:Program)(w:World)(K:PySem.W.Frag)(mg:Str->Option Value)(base:Heap)(N:List Str)(L:Lam)(cl:List (Str × Addr))(f c:Addr)(A:Around)(outer:List Env)(s:Shared)(H:Hp)(E:XK):Cx where
 prog:=P
 w:=w
 K:=K
 mg:=mg
 base:=base
 A:=A.deeper (ny L cl s.heap.objs.size f c)
 N:=N
 s₀:=s
 H₀:=strip cl H
 env:=ny L cl s.heap.objs.size f c
 outer:=outer
 stack:=ny L cl s.heap.objs.size f c::outer
 ex:=[]
 calm:=true
 fn:=λ_=>false
 pn:=[]
 xe:=λe b=>wpAny (model P w) (A.deeper (ny L cl s.heap.objs.size f c)) (leaving (ny L cl s.heap.objs.size f c) e) (λ_ a=>CX outer H s E e a) (λd a=>CX outer H s E d a) b
structure LamScope (ps fr:List Str) (sc:Scope):Prop where
 kind:sc.kind=.function
 co:sc.isCoroutine=false
 gen:sc.isGenerator=false
 nd:(ps++fr).Nodup
 par:∀ x∈ps,sc.names.lookup x=some .local
 fre:∀ x∈fr,sc.names.lookup x=some .free
 noc:∀ y∈sc.names,y.2≠.cell
 all:∀ x,sc.names.lookup x=some .free->x∈fr
section
variable {CX:CXT}{P:Program}{w:World}{K:PySem.W.Frag}{mg:Str->Option Value}{base:Heap}{L:Lam}{cl:List (Str × Addr)}{vals vs:List V}{ps:List Str}{f c:Addr}{A:Around}{outer:List Env}{s:Shared}{H:Hp}{us:List Value}{E:XK}
theorem mi {cl:List (Str × Addr)}(nd:(cl.map (·.1)).Nodup):∀ {i:Nat}{x:Str}{c:Addr},cl[i]?=some (x,c)->cl.lookup x=some c:=by
 induction cl with
 | nil=>intro i x c h;cases h
 | cons p r ih =>
  intro i x c h;rw[Y1,JY]at nd
  cases i with
  | zero =>
   cases Jt h
   rw[Yv,beq_self_eq_true]
  | succ i =>
   have m:=JB (show r[i]?=some (x,c) from h);rw[Yv,show (x == p.1)=false from YD.mpr λz=>nd.1 (JA.mpr ⟨_,m,z⟩)];exact ih nd.2 (show r[i]?=some (x,c) from h)
theorem nD {ps:List Str}{us:List Value}(nd:ps.Nodup)(d:us.length=ps.length){i:Nat}{x:Str}{u:Value}(b:ps[i]?=some x)(c:us[i]?=some u):(ps.zip us).reverse.lookup x=some u:=by
 have a:((ps.zip us).reverse.map (·.1)).Nodup:=by
  rw[List.map_reverse,List.map_fst_zip (by simp_all)];exact List.pairwise_reverse.mpr (nd.imp λh=>h.symm)
 have m:(x,u)∈(ps.zip us).reverse:=List.mem_reverse.mpr (JB (i:=i) (by rw[Zu];exact⟨b,c⟩));generalize (ps.zip us).reverse=l at a m
 induction l with
 | nil=>cases m
 | cons p r ih =>
  rw[Y1,JY]at a;rcases Jq.mp m with e|z
  ·rw[<- e,Yv,beq_self_eq_true]
  ·rw[Yv,show (x == p.1)=false from YD.mpr λy=>a.1 (JA.mpr ⟨_,z,y⟩)]
   exact ih a.2 z
theorem eZ {h':Heap}{tk:Nat}(S:LamScope ps (cl.map (·.1)) L.scope)(hd:A.handled=none)(g:Env0 P w K mg base A outer s H)(la:LamAt H f L cl vals)(r:Vals vs us)(J:vs.length=ps.length)(ns:h'.Ns s.heap.objs.size (λx=>(ps.zip us).reverse.lookup x))(kp:∀ b o,s.heap.get? b=some o->h'.get? b=some o) :
  Inv (gm CX P w K mg base (ps++cl.map (·.1)) L cl f c A outer s H E) [] ((vs++vals).map some) (strip cl H) { s with heap:=h',toks:=tk }:=by
 have fz:=la.fz;have O:=W9.mp S.nd;have ul:us.length=ps.length:=by rw[<- r.length];exact J
 have d:∀ {x:Str}{a:Addr},cl.lookup x=some a->(x,a)∈cl:=λh=>Z6 h
 have cellOf:∀ {x:Str}{a:Addr},(x,a)∈cl->∃ (i:Nat) (v:V) (o:Obj) (u:Value),cl[i]?=some (x,a)/\vals[i]?=some v/\H a=some (FZ o)/\o.data=.cell (some u)/\RelV v u/\s.heap.get? a=some o:=λ{x a} m=>by
  obtain⟨i,t,e⟩:=YT.mp m;have R:cl[i]?=some (x,a):=by rw[J9 t,e]
  have Q:i<vals.length:=by rw[<- la.len];exact t
  obtain⟨o,u,C,B,F⟩:=la.cell i x a vals[i] R (J9 Q);exact⟨i,_,o,u,R,J9 Q,C,B,F,(g.hok a _ C).1⟩
 refine⟨⟨g.mod,S.kind,rfl,rfl,Jc _,λy z a k n=>?_,λy G=>?_,λy a q=>(by cases q),λ_=>hd,Around.frames_deeper g.frames,.inr ⟨rfl,rfl⟩,λb z=>(JJ z).elim,λb o e=>⟨(g.bs b o e).1,?_⟩,g.bsz,λb _ _=>JJ,λb z=>(JJ z).elim,g.funs,λb hb=>?_⟩,
  rfl,g.bare,Un.kept kp,⟨_,ns,λi y v k n h3=>?_⟩,λy a h=>?_,?_,λy a h=>wF (JA.mpr ⟨_,d h,rfl⟩),λp I=>(JJ I).elim,(rD g.hok fz).kept kp,?_⟩
 ·-- one cell,one name
  have X:=d k;have W:=d n;obtain⟨i,t,D⟩:=YT.mp X;obtain⟨j,Y,M⟩:=YT.mp W;have:i=j:=(List.getElem_inj (h₀:=by rw[Jn];exact t) (h₁:=by rw[Jn];exact Y) la.nd2).mp (by rw[List.getElem_map,List.getElem_map,D,M]);subst this;rw[D]at M;exact JS Prod.fst M
 ·have G:L.scope.names.lookup y=some .cell\/L.scope.names.lookup y=some .free:=G
  rcases G with q|q
  ·exact absurd rfl (S.noc _ (Z6 q))
  ·obtain⟨p,I,e⟩:=JA.mp (S.all y q)
   obtain⟨i,t,D⟩:=YT.mp I;exact⟨p.2,mi la.nd1 (i:=i) (by rw[J9 t,D,<- e])⟩
 ·show strip cl H b=none
  unfold strip;split
  ·rfl
  ·exact(g.bs b o e).2
 ·show strip cl H b=none
  unfold strip;split
  ·rfl
  ·exact g.frf b hb
 ·have l:(vs++vals)[i]?=some v:=by
   rw[JZ]at n
   cases e:(vs++vals)[i]? with
   | none=>rw[e]at n;cases n
   | some z=>rw[e]at n;cases n;rfl
  replace k:(ps++cl.map (·.1))[i]?=some y:=k;by_cases ci:i<vs.length
  ·rw[Zt ci]at l
   rw[Zt (by simp_all)]at k;obtain⟨u,Z,T⟩:=r.get l;exact⟨u,T,.inl ⟨S.par y (JB k),nD O.1 ul k Z⟩⟩
  ·rw[Zj (by simp_all)]at l
   rw[Zj (by simp_all),JZ,<- J]at k;obtain⟨⟨x,a⟩,N,rfl⟩:=Y6.mp k;obtain⟨o,u,C,B,F⟩:=la.cell _ x a v N l;exact⟨u,F,.inr ⟨.inr (S.fre x (JA.mpr ⟨_,JB N,rfl⟩)),a,mi la.nd1 N,o,kp _ _ (g.hok a _ C).1,B⟩⟩
 ·obtain⟨i,v,o,u,_,_,_,B,_,U⟩:=cellOf (d h)
  exact⟨some u,o,kp _ _ U,B⟩
 ·show strip cl H s.heap.objs.size=none
  unfold strip;split
  ·rfl
  ·exact g.hok.fresh (Jc _)
 ·show ((vs++vals).map some).length=(ps++cl.map (·.1)).length
  rw[Jn,Jb,Jb,Jn,J,la.len]
end
theorem oT {sc:Scope}{env:Env}(h:∀ x,(x,NameKind.free)∈sc.names->∃ c,env.cells.lookup x=some c) :
  ∃ cl,closureFor sc env=pure cl/\cl.map (·.1)=((sc.names.filter λy=>y.2 == .free).map (·.1)).reverse/\∀ p∈cl,env.cells.lookup p.1=some p.2:=by
 unfold closureFor
 have key:∀ (l:List (Str × NameKind)) (acc:List (Str × Addr)),(∀ x,(x,NameKind.free)∈l->∃ c,env.cells.lookup x=some c)->(∀ p∈acc,env.cells.lookup p.1=some p.2) ->
   ∃ cl,(forIn l acc λ(y:Str × NameKind) (r:List (Str × Addr))=>(match y with|(name,kind)=>if (kind == NameKind.free)=true then do let a <- cellOf env name;pure (ForInStep.yield ((name,a)::r)) else pure (ForInStep.yield r):Sem (ForInStep (List (Str × Addr)))))=pure cl/\cl.map (·.1)=((l.filter λy=>y.2 == .free).map (·.1)).reverse++acc.map (·.1)/\∀ p∈cl,env.cells.lookup p.1=some p.2:=by
  intro l
  induction l with
  | nil=>intro acc _ e;exact⟨acc,rfl,rfl,e⟩
  | cons y l ih =>
   intro acc j e;obtain⟨x,f⟩:=y;rw[Z0];by_cases c:(f == NameKind.free)=true
   ·have n:f=.free:=by
     cases f<;>first|rfl|cases c
    subst n;obtain⟨a,k⟩:=j x (.head _)
    obtain⟨cl,d,e2,b⟩:=ih ((x,a)::acc) (λz g=>j z (.tail _ g)) (λp i=>by
     rcases Jq.mp i with rfl|q
     ·exact k
     ·exact e p q)
    refine⟨cl,?_,?_,b⟩
    ·have o:cellOf env x=pure a:=by unfold cellOf;rw[k]
     simp only[o,pure_bind];exact d
    ·rw[e2,List.filter_cons,Jg (show ((x,NameKind.free).2 == NameKind.free)=true from rfl),Y1 (l:=List.filter _ l),List.reverse_cons,Y2];rfl
   ·obtain⟨cl,d,e2,b⟩:=ih acc (λz g=>j z (.tail _ g)) e
    refine⟨cl,?_,?_,b⟩
    ·simp only[c,pure_bind]
     exact d
    ·rw[e2,List.filter_cons,Je c]
 obtain⟨cl,d,e2,b⟩:=key sc.names [] h (λp i=>(JJ i).elim);refine⟨cl,?_,by rw[e2,List.map_nil,Yt],b⟩;have s:=JS (λ(m:Sem (List (Str × Addr)))=>m >>= λr=>pure r) d;exact s.trans (pure_bind _ _)
noncomputable def TabOk (H:Hp)(qual:Str)(l:List (Pos × Addr)):Prop:=∀ p∈l,∃ (a:Obj) (fs:Array Value) (t:Tok),H p.2=some (FZ a)/\a.data=.fields fs/\fs[1]?=some (.str qual t)
theorem TabOk.frz {H H':Hp}{qual:Str}{l:List (Pos × Addr)}(h:TabOk H qual l)(z:∀ b o u,H b=some (.frz o u)->H' b=some (.frz o u)):TabOk H' qual l:=λp c=>by
 obtain⟨a,fs,t,e,d⟩:=h p c;exact⟨a,fs,t,z _ _ _ e,d⟩
theorem tW (pos:Pos):∀ l:List (Pos × Addr),codeAmong pos (triples l)=none\/∃ p∈l,codeAmong pos (triples l)=some (.ref p.2)
 | []=>.inl rfl
 | (q,a)::l=>by
  show (if (((q.line:Int) == pos.line && (q.col:Int) == pos.col)=true) then some (Value.ref a) else codeAmong pos (triples l))=none\/∃ p∈(q,a)::l,(if (((q.line:Int) == pos.line && (q.col:Int) == pos.col)=true) then some (Value.ref a) else codeAmong pos (triples l))=some (.ref p.2);split
  ·exact .inr ⟨_,.head _,rfl⟩
  ·rcases tW pos l with h|⟨p,b,h⟩
   ·exact .inl h
   ·exact .inr ⟨p,.tail _ b,h⟩
theorem we:∀ l:List (Pos × Addr),TriplesOk (triples l)
 | []=>trivial
 | (q,a)::l=>we l
structure CodeK (K:PySem.W.Frag) (mg:Str->Option Value) (base:Heap) (c P:Addr):Prop where
 hd:PySem.W.codeHdIn K c P=true
 blt:base.BuiltinsAt mg P
 gP:mainGlobals≠P
structure LamRaw (H:Hp) (f:Addr) (L:Lam) (cl:List (Str × Addr)):Prop where
 ex:∃ (pm:Value) (c:Addr) (ct:Value) (oc:Obj) (fs:Array Value) (t:Tok),H f=some (FZ (pi L cl pm c ct))/\H c=some (FZ oc)/\oc.data=.fields fs/\fs[1]?=some (.str L.qual t)
noncomputable def CellsOf (env:Env)(cl:List (Str × Addr)):Prop:=∀ p∈cl,env.cells.lookup p.1=some p.2
noncomputable def zak (env:Env)(P:Addr)(L:Lam)(fr:List Str):TE:=λ_ H Q=>∃ l,H P=some (.tbl (triples l).toArray)/\TabOk H L.qual l /\
 ∀ f cl c a,cl.map (·.1)=fr->CellsOf env cl->H f=none->LamRaw a f L cl->a P=some (.tbl (triples c).toArray)->TabOk a L.qual c->(∀ b o,H b=some o->b≠P->a b=some o)->Q (.ref f) a
section
variable {X:Cx}{pins:List (Addr × Obj)}{σ:St}{H:Hp}{s:Shared}{h':Heap}
theorem Inv.tab {P:Addr}{ps more:Array Value}{tk:Nat}(I:Inv X pins σ H s)(d:H P=some (.tbl ps))(k:Heap.ExtBut P s.heap h')(new:h'.get? P=some (PySem.W.tabObj (ps++more))):Inv X pins σ (upd H P (.tbl (ps++more))) { s with heap:=h',toks:=tk }:=by
 have ne:∀ {b:Addr},H b=none->b≠P:=λe z=>by rw[z,d]at e;cases e
 have a:∀ {b:Addr}{o:HO},H b=some o->(∀ q,o≠.tbl q)->upd H P (.tbl (ps++more)) b=some o:=λ{b o} e n=>by
  rw[zJ];· exact e
  ·intro z
   rw[z,d]at e;exact n ps (Jt e).symm
 refine I.step (g':=s.gens) (d':=s.drawn) (ch:=[]) (λb j=>(JJ j).elim) (λb o _ _ _ e n=>k b o (ne n) e) (λb o _ _ _ e n=>⟨o.slots,k b o (ne n) e⟩) (λb o _ e n=>by rw[zJ (ne n)];exact n) (λb o _ e=>?_) (λb f e=>a e λq z=>by cases z) (λb o u e=>a e λq z=>by cases z) (λb t e=>?_) (λm i=>?_) (λb u e=>?_) I.bare
 ·by_cases c:b=P
  ·subst c;exact⟨_,new⟩
  ·exact⟨o,k b o c e⟩
 ·by_cases c:b=P
  ·subst c
   rw[d]at e;cases e;exact⟨more,zD⟩
  ·exact⟨#[],by rw[zJ c,e];simp⟩
 ·obtain⟨o,l,p,h,r⟩:=i
  exact⟨o,l,p,k _ o (ne I.free) h,r⟩
 ·by_cases c:b=P
  ·subst c
   rw[zD]at e;cases e;exact new
  ·rw[zJ c]at e
   refine(I.hok b u e).stay (λx v g q=>k x v ?_ q) (λx q=>a q λz y=>by cases y) λx f q=>a q λz y=>by cases y
   rcases g with z|z
   ·rw[z];exact c
   ·rintro rfl
    rw[d]at z;cases z
theorem io {params:Arguments}{body:Expr}{scope:Scope}{pos:Pos}{c P:Addr}{fr:List Str}(N:CodeK X.K X.mg X.base c P)(i:X.env.code=.ref c)(B:defaultsOf params X.env=([],[]))(r:∀ x,(x,NameKind.free)∈scope.names->X.env.kindOf x=some .cell\/X.env.kindOf x=some .free)(S:((scope.names.filter λy=>y.2 == .free).map (·.1)).reverse=fr) :
  PE X (.Lambda params body scope pos) (zak X.env P ⟨params,body,scope,X.env.qual++"<lambda>"⟩ fr):=by
 intro pins s σ H Q I h;obtain⟨l,w,tok,q⟩:=h;obtain⟨cl,A,m,z⟩:=oT (sc:=scope) (env:=X.env) λx hx=>I.ok.has x (r x hx);rw[S]at m;have Y:s.heap.Ns mainGlobals X.mg:=I.mod.glob.keeps I.bk;have Z:s.heap.BuiltinsAt X.mg P:=N.blt.keeps I.bk;have C:=PySem.W.codeHd_of_K I.kIn N.hd;have E:s.heap.get? P=some (PySem.W.tabObj (triples l).toArray):=I.hok P _ w;refine PySem.W.kla_eval B ?_;rcases tW pos l with hn|⟨p,K,hy⟩
 ·refine PySem.W.kla_makeFunction A I.ok.glob Y i C E (by rw[List.toList_toArray];exact we l) (by rw[List.toList_toArray];exact hn) N.gP Z λd f h' tk ex lo hi cr U=>?_
  obtain⟨c2,j,fs,t,ec,g1,g2,g3⟩:=cr;cases ec;have V:P<s.heap.objs.size:=Jp E;have sz:s.heap.objs.size<=h'.objs.size:=JK lo (Nat.le_of_lt hi);have cP:d≠P:=Z2 (JF V lo);have fP:h'.objs.size≠P:=Z2 (JF V sz);have M:d≠h'.objs.size:=JC hi
  have L:(triples l).toArray++#[rawInt pos.line,rawInt pos.col,.ref d]=(triples (l++[(pos,d)])).toArray:=by
   rw[triples_append];simp
  rw[L]at U;have D:=I.tab (tk:=tk) (h':=h'.push (pi ⟨params,body,scope,X.env.qual++"<lambda>"⟩ cl ((X.mg "__name__").getD .none) d f)) (more:=#[rawInt pos.line,rawInt pos.col,.ref d]) w (λb o n e=>J7 _ (ex b o n e)) (by rw[L];exact J7 _ U);rw[L]at D;have W:H d=none:=I.hok.fresh lo;have J:H h'.objs.size=none:=I.hok.fresh sz;have m1:upd H P (.tbl (triples (l++[(pos,d)])).toArray) d=none:=by rw[zJ cP];exact W
  have I2:=D.adopt (o:=FZ j) (I.fpOk lo m1) (oF (J7 _ g1));have m2:upd (upd H P (.tbl (triples (l++[(pos,d)])).toArray)) d (FZ j) h'.objs.size=none:=by rw[zJ M.symm,zJ fP];exact J
  have I3:=I2.adopt (o:=FZ (pi ⟨params,body,scope,X.env.qual++"<lambda>"⟩ cl ((X.mg "__name__").getD .none) d f)) (I.fpOk sz m2) (oF (Jv _ rfl))
  have keep:∀ b o,H b=some o->b≠P->upd (upd (upd H P (.tbl (triples (l++[(pos,d)])).toArray)) d (FZ j)) h'.objs.size (FZ (pi ⟨params,body,scope,X.env.qual++"<lambda>"⟩ cl ((X.mg "__name__").getD .none) d f)) b=some o:=λb o e n=>by
   rw[zJ (zH e J),zJ (zH e W),zJ n];exact e
  refine⟨.ref h'.objs.size,_,I3,rfl,q _ cl (l++[(pos,d)]) _ m z J ⟨_,d,f,j,fs,t,zD,by rw[zJ M];exact zD,g2,g3⟩ (by rw[zJ fP.symm,zJ cP.symm];exact zD) (λp K=>?_) keep⟩;rcases Ju.mp K with O|is
  ·obtain⟨R,T,t',v,G,F⟩:=tok p O
   exact⟨R,T,t',keep _ _ v (yh v w (λy=>by cases y)),G,F⟩
  ·rw[Jd.mp is]
   exact⟨j,fs,t,by rw[zJ M];exact zD,g2,g3⟩
 ·obtain⟨j,fs,t,v,G,F⟩:=tok p K
  refine PySem.W.kla_makeFunctionHit A I.ok.glob Y i C E (by rw[List.toList_toArray];exact we l) (by rw[List.toList_toArray];exact hy) Z λf h' tk k sz=>?_;have kk:∀ b o,s.heap.get? b=some o->(h'.push (pi ⟨params,body,scope,X.env.qual++"<lambda>"⟩ cl ((X.mg "__name__").getD .none) p.2 f)).get? b=some o:=λb o e=>J7 _ (k b o e);have g:=I.hok.fresh (a:=h'.objs.size) sz;have D:=I.laid (a:=h'.objs.size) (o:=FZ (pi ⟨params,body,scope,X.env.qual++"<lambda>"⟩ cl ((X.mg "__name__").getD .none) p.2 f)) (t':=tk) kk sz (oF (Jv _ rfl));refine⟨.ref h'.objs.size,_,D,rfl,q _ cl l _ m z g ⟨_,p.2,f,j,fs,t,zD,by rw[zJ (zH v g)];exact v,G,F⟩ (by rw[zJ (zH w g)];exact w) (tok.frz λb o u e=>by rw[zJ (zH e g)];exact e) λb o e _=>by rw[zJ (zH e g)];exact e⟩
end
noncomputable def CellsAt (H:Hp)(cs:List (Str × Addr))(vals:List V):Prop:=cs.length=vals.length/\∀ (i:Nat) x c v,cs[i]?=some (x,c)->vals[i]?=some v->∃ o u,H c=some (FZ o)/\o.data=.cell (some u)/\RelV v u
theorem CellsAt.fz {H:Hp}{cs:List (Str × Addr)}{vals:List V}(h:CellsAt H cs vals):CellsFz cs H:=λb j=>by
 obtain⟨⟨x,c⟩,g,rfl⟩:=JA.mp j;obtain⟨i,a,e⟩:=YT.mp g;have f:i<vals.length:=by rw[<- h.1];exact a
 obtain⟨o,u,d,_⟩:=h.2 i x c vals[i] (by rw[J9 a,e]) (J9 f);exact⟨o,d⟩
theorem LamRaw.at_ {H:Hp}{f:Addr}{L:Lam}{cl cs:List (Str × Addr)}{vals ws:List V}(r:LamRaw H f L cl)(h:CellsAt H cs vals)(n1:(cl.map (·.1)).Nodup)(d:(cl.map (·.2)).Nodup)(len:cl.length=ws.length)(sub:∀ (i:Nat) x c v,cl[i]?=some (x,c)->ws[i]?=some v->∃ j:Nat,cs[j]?=some (x,c)/\vals[j]?=some v):LamAt H f L cl ws:=by
 refine⟨r.ex,len,λi x c v a b=>?_,n1,d⟩;obtain⟨j,e,e2⟩:=sub i x c v a b;exact h.2 j x c v e e2
noncomputable def cK (env:Env)(xs:List (Str × Nat))(sp:Sp)(E:XK)(t:TA):TE:=λσ H Q=>t σ H λd c=>∃ vals:List V,vals.length=xs.length/\(∀ (j:Nat) x i v,xs[j]?=some (x,i)->vals[j]?=some v->σ[i]?=some (some v)) /\
 ∀ cs a,cs.map (·.1)=xs.map (·.1)->CellsOf env cs->(cs.map (·.2)).Nodup->CellsAt a cs vals->(∀ b,b∉cs.map (·.2)->a b=c b)->(∀ b∈cs.map (·.2),c b=none)->sp d a (λv e=>Q v (strip cs e)) E
section
variable {X:Cx}{pins:List (Addr × Obj)}{σ:St}{H:Hp}{s:Shared}
theorem Inv.cells {xs:List (Str × Nat)}{vals:List V}(I:Inv X pins σ H s)(nd:(xs.map (·.1)).Nodup)(y:∀ p∈xs,X.N[p.2]?=some p.1/\X.env.scope.names.lookup p.1=some .cell/\X.fn p.1=true)(n:vals.length=xs.length)(k:∀ (j:Nat) x i v,xs[j]?=some (x,i)->vals[j]?=some v->σ[i]?=some (some v)):∃ cs:List (Str × Addr),cs.map (·.1)=xs.map (·.1)/\CellsOf X.env cs/\(cs.map (·.2)).Nodup/\cs.length=vals.length /\
   ∀ (j:Nat) x c v,cs[j]?=some (x,c)->vals[j]?=some v->∃ o u,s.heap.get? c=some o/\o.data=.cell (some u)/\RelV v u/\X.s₀.heap.objs.size<=c:=by
 induction xs generalizing vals with
 | nil =>
  cases vals with
  | nil=>exact⟨[],rfl,λp K=>(JJ K).elim,Zp,rfl,λj x c v h=>by cases h⟩
  | cons a b=>cases n
 | cons p xs ih =>
  cases vals with
  | nil=>cases n
  | cons t vals =>
   rw[Y1,JY]at nd;obtain⟨cs,B,A,Q,P,O⟩:=ih (vals:=vals) nd.2 (λq f=>y q (.tail _ f)) (by simpa using n) (λj x i v a b=>k (j+1) x i v a b);obtain⟨d,l⟩:=p;obtain⟨G,w,F⟩:=y (d,l) (.head _);have J:=k 0 d l t rfl rfl;obtain⟨m,S,lo⟩:=I.loc;obtain⟨u,C,D⟩:=lo l d t G J (.inr (.inl w));rcases D with ⟨E,_⟩|⟨_,c,r,o,L,N⟩
   ·have g:X.env.scope.names.lookup d=some .local:=E
    rw[w]at g;cases g
   refine⟨(d,c)::cs,by rw[Y1,Y1,B],λq f=>?_,?_,by rw[JV,JV,P],λj x R v a b=>?_⟩
   ·rcases Jq.mp f with rfl|z
    ·exact r
    ·exact A q z
   ·rw[Y1,JY]
    refine⟨λM=>?_,Q⟩;obtain⟨q,f,e⟩:=JA.mp M;have:=I.ok.inj q.1 d c (by rw[A q f];exact JS some e) r;exact nd.1 (by rw[<- B,<- this];exact JA.mpr ⟨q,f,rfl⟩)
   ·cases j with
    | zero =>
     cases Jt a;cases Jt b
     exact⟨o,u,L,N,C,I.ok.cab d c F r⟩
    | succ j=>exact O j x R v a b
variable {k:Nat}{f:Addr}{fd:FuncData}{ps:List Str}{sp:Sp}{x:Str}{p pos:Pos}{e:Expr}{es:List Expr}{t:TA}{E:XK}
theorem iq (F:FnOk X.prog X.w X.K X.mg X.base CX0 k f fd ps sp) (hr:Room k X.A) (hg:Gl X x) (hm:X.mg x=some (.ref f)) (T:PySem.W.keepIn X.K (.ref f)=true) (hb:Binds X.K fd ps []) (xs:List (Str × Nat)) (nd:(xs.map (·.1)).Nodup)
  (hk:∀ p∈xs,X.N[p.2]?=some p.1/\X.env.scope.names.lookup p.1=some .cell/\X.fn p.1=true) (ha:PA X (e::es) t) (U:(x == ("__debug__":Str))=false:=by decide) (he:starEach (e::es) X.env=(false,eval e X.env)::starEach es X.env:=by rfl) (S:(backTo pos (starEach es X.env)).any (·.1)=false:=by rfl) :
  PE X (.Call (.Name x p) (e::es) [] pos) (cK X.env xs sp E t):=by
 intro pins s σ H Q I h;refine Z9 (mn I hg hm ?_ U);refine PySem.W.callWith_K (h₀:=X.base) I.ok.mod.kin T (thn (ha pos pins s σ H _ I h) λM m ⟨vs,K,l,r,vals,vl,R,q⟩=>⟨l.kIn,?_⟩) he S;obtain⟨cs,c1,c2,c3,Z,Y⟩:=l.cells nd hk vl R
 have cell:∀ b∈cs.map (·.2),∃ y o u,X.env.cells.lookup y=some b/\m.heap.get? b=some o/\o.data=.cell (some u)/\X.s₀.heap.objs.size<=b:=λb hb=>by
  obtain⟨⟨y,c⟩,D,rfl⟩:=JA.mp hb;obtain⟨j,W,ej⟩:=YT.mp D;have jv:j<vals.length:=by rw[<- Z];exact W
  obtain⟨o,u,G,N,_,g4⟩:=Y j y c vals[j] (by rw[J9 W,ej]) (J9 jv);exact⟨y,o,u,c2 (y,c) D,G,N,g4⟩
 have free:∀ b∈cs.map (·.2),K b=none:=λb hb=>by
  obtain⟨y,o,u,O,_⟩:=cell b hb;exact l.freeC y b O
 have nofr:∀ b∈cs.map (·.2),b∉frs X.stack:=λb hb hf=>by
  obtain⟨y,o,u,O,_,_,lo⟩:=cell b hb;rcases Jq.mp (l.stkSub b hf) with z|z
  ·exact l.cne y b O z
  ·obtain⟨_,o',ho,_⟩:=l.ok.funs.mem z
   exact absurd (JF (Jp ho) lo) (YC _)
 let B:Hp:=λb=>if b∈cs.map (·.2) then (m.heap.get? b).map FZ else K b
 have C:∀ {b:Addr}{o:Obj},b∈cs.map (·.2)->m.heap.get? b=some o->B b=some (FZ o):=λ{b o} hb e=>by
  show (if b∈cs.map (·.2) then (m.heap.get? b).map FZ else K b)=_;rw[Jg hb,e];rfl
 have d:∀ b,b∉cs.map (·.2)->B b=K b:=λb hb=>Je hb
 have g:∀ {b:Addr}{o:HO},K b=some o->B b=some o:=λ{b o} e=>by
  rw[d b λhb=>by rw[free b hb]at e;cases e];exact e
 have ca:CellsAt B cs vals:=⟨Z,λi y c v a b=>by
  obtain⟨o,u,G,N,g3,_⟩:=Y i y c v a b
  exact⟨o,u,C (JA.mpr ⟨_,JB a,rfl⟩) G,N,g3⟩⟩
 have P:HOk X.prog X.w B m.heap:=λb u e2=>by
  by_cases hb:b∈cs.map (·.2)
  ·obtain⟨y,o,u',_,G,_⟩:=cell b hb
   rw[C hb G]at e2;cases e2;exact oF G
  ·rw[d b hb]at e2
   exact(l.hok b u e2).stay (λ_ _ _ z=>z) (λ_ z=>g z) λ_ _ z=>g z
 have A:=l.env0;have e2:Env0 X.prog X.w X.K X.mg X.base X.A X.stack m B:=⟨A.frames,A.mod,λb o z=>⟨(A.bs b o z).1,?_⟩,A.bsz,A.funs,λb hb=>?_,P,A.bare⟩
 rotate_left
 ·rw[d b λD=>?_];· exact(A.bs b o z).2
  ·obtain⟨y,o',u,_,_,_,lo⟩:=cell b D
   exact absurd (JF (Jp z) (JK l.ok.bsz lo)) (YC _)
 ·rw[d b λD=>nofr b D hb];exact A.frf b hb
 have z:=q cs B c1 c2 c3 ca d free;have ul:M.length=ps.length:=by rw[<- r.length];exact F.len _ _ _ _ z
 refine wpAny_call (codeAny_mono (F.run X.A X.stack m B ⟨M,[]⟩ M vs _ E hr e2 (by have:=hb m M l.kIn (by rw[Yt];exact ul);rwa [Yt]at this) r z) λrs s' J=>?_)
 cases rs with
 | error e=>exact J.elim
 | ok fl =>
  cases fl with
  | next=>exact False.elim J
  | brk=>exact False.elim J
  | cont=>exact False.elim J
  | ret u =>
   obtain⟨v,H3,os,bare,un,L,rv,qq⟩:=J
   have V:CellsFz cs H3:=λb hb=>by
    obtain⟨o,w⟩:=ca.fz b hb;exact⟨o,un.frzs b o _ w⟩
   have same:∀ b∈cs.map (·.2),∀ o,m.heap.get? b=some o->s'.heap.get? b=some o:=λb hb o e=>by
    have:=un.frzs b o _ (C hb e);exact(L b _ this).1
   refine l.after ⟨v,strip cs H3,os,bare,⟨λb o e n x y=>?_,λb o e n x y=>?_,λb o e n y=>?_,un.there,λb ys e=>?_,λb o w e=>?_,λb qs e=>?_⟩,rD L V,rv,qq⟩
   ·by_cases hb:b∈cs.map (·.2)
    ·exact same b hb o e
    ·exact un.keep b o e (by rw[d b hb];exact n) x y
   ·by_cases hb:b∈cs.map (·.2)
    ·exact⟨o.slots,same b hb o e⟩
    ·exact un.slot b o e (by rw[d b hb];exact n) x y
   ·by_cases hb:b∈cs.map (·.2)
    ·exact wF hb
    ·rw[yF hb];exact un.free b o e (by rw[d b hb];exact n) y
   ·have hb:b∉cs.map (·.2):=λhb=>by rw[free b hb]at e;cases e
    rw[yF hb];exact un.tups b ys (g e)
   ·have hb:b∉cs.map (·.2):=λhb=>by rw[free b hb]at e;cases e
    rw[yF hb];exact un.frzs b o w (g e)
   ·have hb:b∉cs.map (·.2):=λhb=>by rw[free b hb]at e;cases e
    rw[yF hb];exact un.tbls b qs (g e)
end
noncomputable def af (cl:List (Str × Addr))(H:Hp)(Q:VK):VK:=λv a=>(∀ b∈cl.map (·.2),a b=none)->Q v (back cl H a)
section
variable {CX:CXT}{P:Program}{w:World}{K:PySem.W.Frag}{mg:Str->Option Value}{base:Heap}{L:Lam}{cl:List (Str × Addr)}{vals vs:List V}{ps:List Str}{f c:Addr}{A:Around}{outer:List Env}{s:Shared}{H:Hp}{us:List Value}{Q:VK}{E:XK}
theorem gS {k:Nat}(S:LamScope ps (cl.map (·.1)) L.scope) (i:Room (k+1) A) (a:Env0 P w K mg base A outer s H) (la:LamAt H f L cl vals) (r:Vals vs us) (j:vs.length=ps.length)
  (hb:∀ pm cdv ct,bindArgs (PySem.W.kla_fn "<lambda>" L.qual L.params L.body L.scope cl pm cdv ct) ⟨us,[]⟩=pure (ps.zip us))
  (d:∀ c,Room k (A.deeper (ny L cl s.heap.objs.size f c))->∃ t,PE (gm CX P w K mg base (ps++cl.map (·.1)) L cl f c A outer s H E) L.body t/\t ((vs++vals).map some) (strip cl H) (af cl H Q)) :
  codeAny (model P w) A (.call (.ref f) ⟨us,[]⟩) (CR CX outer P w H s Q E) s:=by
 obtain⟨pm,c,ct,B,fs,m,O,N,M,G⟩:=la.ex;have lim:s.heap.NoLimit:=a.mod.nolimit.keeps λb o e=>(a.bs b o e).1;have ul:us.length=ps.length:=by rw[<- r.length];exact j
 refine PySem.W.kla_callFunE i.depth (a.hok f _ O).1 rfl S.co S.gen rfl ⟨c,B,fs,m,rfl,(a.hok c _ N).1,M,G⟩ ?_;rw[show bindArgs _ _=_ from hb pm (.ref c) ct];refine J8 (wpAny_newFunctionEnv S.noc (λy C=>S.par y.1 (List.of_mem_zip C).1) (λR ns n=>?_) S.kind);have kp:∀ b o,s.heap.get? b=some o->R.get? b=some o:=λb o e=>(n.2 b (JC (Jp e))).trans (J7 _ e);refine⟨lim.keeps kp,PySem.W.kla_codeExpr ?_⟩;obtain⟨t,D,F⟩:=d c (i.deeper _);have I:=eZ (CX:=CX) (E:=E) (c:=c) (tk:=s.toks+(ps.zip us).length) S i.hd a la r j ns kp;refine JM (D [] _ _ _ _ I F) (λu p h=>?_) λe p h=>h;obtain⟨v,l,J,x,q⟩:=h;have g:=la.fz
 have low:∀ b∈cl.map (·.2),l b=none:=λb hb=>by
  obtain⟨o,z⟩:=g b hb;exact J.base.free b o (a.hok b _ z).1 (wF hb) JJ
 obtain⟨un,ok⟩:=fA (H':=l) J.base g a.frf (λb o z=>(a.hok b _ z).1) low J.hok;exact⟨v,_,J.os,J.bare,un,ok,x,q low⟩
end
noncomputable abbrev LSpc:=List V->List V->Hp->VK->XK->Prop
structure LamQ (CX:CXT) (P:Program) (w:World) (K:PySem.W.Frag) (mg:Str->Option Value) (base:Heap) (k:Nat) (L:Lam) (fr ps:List Str) (sp:LSpc):Prop where
 S:LamScope ps fr L.scope
 len:∀ vals vs H Q E,sp vals vs H Q E->vs.length=ps.length
 bind:∀ (cl:List (Str × Addr)) (us:List Value),us.length=ps.length->∀ pm cdv ct,bindArgs (PySem.W.kla_fn "<lambda>" L.qual L.params L.body L.scope cl pm cdv ct) ⟨us,[]⟩=pure (ps.zip us)
 body:∀ (cl:List (Str × Addr)) (f c:Addr) (A:Around) (outer:List Env) (s:Shared) (H:Hp) (vals vs:List V) (Q:VK) (E:XK),cl.map (·.1)=fr->Room k (A.deeper (ny L cl s.heap.objs.size f c))->CellsFz cl H->sp vals vs (strip cl H) Q E ->
  ∃ t,PE (gm CX P w K mg base (ps++fr) L cl f c A outer s H E) L.body t/\t ((vs++vals).map some) (strip cl H) Q
noncomputable def aH (L:Lam)(fr:List Str)(sp:LSpc)(E:XK)(i:Nat)(t:TA):TE:=λσ H Q=>∃ f,σ[i]?=some (some (.ref f))/\(∃ cl pm c d,H f=some (FZ (pi L cl pm c d)))/\t σ H λb a=>∃ cl vals,cl.map (·.1)=fr/\LamAt a f L cl vals/\sp vals b (strip cl a) (af cl a Q) E
section
variable {X:Cx}{CX:CXT}{k:Nat}{L:Lam}{fr ps:List Str}{sp:LSpc}{E:XK}{x:Str}{i:Nat}{p pos:Pos}{e:Expr}{es:List Expr}{t:TA}
theorem mP (F:LamQ CX X.prog X.w X.K X.mg X.base k L fr ps sp)(O:Room (k+1) X.A)(S:PE X (.Name x p) (fI i))(M:Passes CX X E)(ha:PA X (e::es) t)(R:starEach (e::es) X.env=(false,eval e X.env)::starEach es X.env:=by rfl)(m:(backTo pos (starEach es X.env)).any (·.1)=false:=by rfl) :
  PE X (.Call (.Name x p) (e::es) [] pos) (aH L fr sp E i t):=by
 intro pins s σ H Q I h;obtain⟨f,P,⟨ax,ab,c0,ao,n⟩,q⟩:=h;refine Z9 (thn (S pins s σ H (λv H'=>v=.ref f/\H'=H) I ⟨_,P,rfl,rfl⟩) λg G ⟨v,Z,A,K,ev,V⟩=>?_);subst ev V;obtain rfl:g=.ref f:=K;refine PySem.W.callWith_F ⟨_,_,_,_,(A.hok f _ n).1⟩ ?_ R m;refine thn (ha pos pins G σ Z _ A q) λo w ⟨C,B,b,r,cl,vals,j,d,z⟩=>?_;obtain⟨pm,c,ct,oc,fs,tc,T,h2,h3,h4⟩:=d.ex;have y:=F.len _ _ _ _ _ z;have ul:o.length=ps.length:=by rw[<- r.length];exact y
 have Y:LamScope ps (cl.map (·.1)) L.scope:=by rw[j];exact F.S
 refine⟨⟨_,_,_,_,(b.hok f _ T).1⟩,?_⟩;refine wpAny_call (codeAny_mono (gS (CX:=CX) (E:=E) (Q:=Q) Y O b.env0 d r y (F.bind cl o ul) λW l=>?_) λrs J a=>?_)
 ·obtain⟨D,N,a⟩:=F.body cl f W X.A X.stack w B vals C _ E j l d.fz z
  exact⟨D,by rw[j];exact N,a⟩
 ·cases rs with
  | error e=>exact M pins σ B w e J b a
  | ok U =>
   cases U with
   | ret u=>exact b.after a
   | next=>exact False.elim a
   | brk=>exact False.elim a
   | cont=>exact False.elim a
end
noncomputable abbrev LvL:=List (KN × List Int)
noncomputable def yw (ps:LvL)(k:KN):Option (List Int):=(ps.find? λx=>decide (x.1=k)).map (·.2)
noncomputable def wX (ps:LvL)(k:KN)(c:List Int):LvL:=if (yw ps k).isSome then ps.map λx=>if x.1=k then (x.1,c) else x else ps++[(k,c)]
noncomputable def yz (c:List Int)(m:Nat):List Int:=Bn.dw c m 1
structure LAcc where
 on:LvL
 fl:List (List Int)
section
variable (step:KN->Nat->Option KN)(seen:LvL)
noncomputable def go1 (s:KN)(c:List Int)(a:LAcc)(m:Nat):LAcc :=
 match step s m with
 | none=>⟨a.on,a.fl++[yz c m]⟩
 | some t=>if (yw seen t).isSome then a else ⟨wX a.on t (wB (yz c m) ((yw a.on t).getD (yz c m))),a.fl⟩
noncomputable def goS (moves:List Nat)(a:LAcc)(p:KN × List Int):LAcc:=moves.foldl (go1 step seen p.1 p.2) a
noncomputable def vG (moves:List Nat)(level:LvL):LAcc:=level.foldl (goS step seen moves) ⟨[],[]⟩
end
noncomputable def LvX (H:Hp)(x:KN × Addr × V)(p:KN × List Int):Prop:=x.1=p.1/\∃ c,x.2.2=.ref c/\H c=some (.tup (p.2.map V.int))
structure LvE (H:Hp) (xs:KVN) (ps:LvL):Prop where
 ks:KsIn H xs
 pr:Paired (LvX H) xs ps
theorem xF {α β:Type}{F G:α->β->Prop}(h:∀ a b,F a b->G a b){l1:List α}{l2:List β}(p:Paired F l1 l2):Paired G l1 l2:=by
 induction p with
 | nil=>exact .nil
 | cons a _ ih=>exact .cons (h _ _ a) ih
theorem LvX.tups {H H':Hp}(t:∀ b ys,H b=some (.tup ys)->H' b=some (.tup ys)){x:KN × Addr × V}{p:KN × List Int}(h:LvX H x p):LvX H' x p:=by
 obtain⟨e,c,e2,a⟩:=h;exact⟨e,c,e2,t _ _ a⟩
theorem LvE.tups {H H':Hp}(t:∀ b ys,H b=some (.tup ys)->H' b=some (.tup ys)){xs:KVN}{ps:LvL}(h:LvE H xs ps):LvE H' xs ps:=⟨h.ks.tups t,xF (λ_ _ z=>z.tups t) h.pr⟩
theorem LvE.keep {H H':Hp}(s:Same H H'){xs:KVN}{ps:LvL}(h:LvE H xs ps):LvE H' xs ps:=h.tups λb a e=>s _ _ e
theorem LvE.nil {H:Hp}:LvE H [] []:=⟨λx a=>(nomatch a),.nil⟩
theorem LvE.len {H:Hp}{xs:KVN}{ps:LvL}(h:LvE H xs ps):xs.length=ps.length:=Yc h.pr
theorem ng {H:Hp}{xs:KVN}{ps:LvL}(h:Paired (LvX H) xs ps)(k:KN):(yb xs k=none/\yw ps k=none)\/∃ c r,yb xs k=some (.ref c)/\yw ps k=some r/\H c=some (.tup (r.map V.int)):=by
 induction h with
 | nil=>exact Or.inl (And.intro rfl rfl)
 | @cons x p xs ps a t ih =>
  obtain⟨e,c,e2,b⟩:=a;unfold yb yw at ih ⊢;rw[ZU,ZU,e];by_cases z:p.1=k
  ·rw[Jx z]
   exact .inr ⟨c,p.2,JS some e2,rfl,b⟩
  ·rw[Jr z]
   exact ih
theorem jC {H:Hp}{xs:KVN}{ps:LvL}(h:Paired (LvX H) xs ps)(k:KN):(yb xs k).isSome=(yw ps k).isSome:=by
 rcases ng h k with ⟨a,b⟩|⟨c,r,a,b,_⟩<;>rw[a,b]<;>rfl
theorem bQ {H:Hp}{xs:KVN}{ps:LvL}(h:Paired (LvX H) xs ps)(k:KN){c:Addr}{r:List Int}(b:H c=some (.tup (r.map V.int))):Paired (LvX H) (xs.map λx=>if x.1=k then (x.1,x.2.1,.ref c) else x) (ps.map λx=>if x.1=k then (x.1,r) else x):=by
 induction h with
 | nil=>exact .nil
 | @cons x p xs ps a t ih =>
  refine .cons ?_ ih;dsimp only;by_cases z:p.1=k
  ·rw[Jg (a.1.trans z),Jg z];exact⟨a.1,c,rfl,b⟩
  ·rw[Je (λy=>z (a.1.symm.trans y)),Je z];exact a
theorem LvE.put {H:Hp}{xs:KVN}{ps:LvL}(h:LvE H xs ps){k:KN}{b c:Addr}{r:List Int}(f:NKey H k b)(d:H c=some (.tup (r.map V.int))):LvE H (yx xs k b (.ref c)) (wX ps k r):=by
 unfold yx wX;rw[jC h.pr k];by_cases z:(yw ps k).isSome=true
 ·rw[Jg z,Jg z]
  refine⟨λx a=>?_,bQ h.pr k d⟩;obtain⟨y,e,rfl⟩:=JA.mp a;have:=h.ks y e;split<;>exact this
 ·rw[Je z,Je z]
  refine⟨λx a=>?_,Paired.snoc h.pr ⟨rfl,c,rfl,d⟩⟩;rcases Ju.mp a with y|y
  ·exact h.ks x y
  ·rw[Jd.mp y];exact f
theorem LvE.at_ {H:Hp}{xs:KVN}{ps:LvL}(h:LvE H xs ps){i:Nat}{p:KN × Addr × V}(e:xs[i]?=some p):∃ r c,ps[i]?=some (p.1,r)/\NKey H p.1 p.2.1/\p.2.2=.ref c/\H c=some (.tup (r.map V.int)):=by
 have key:∀ {xs:KVN}{ps:LvL},Paired (LvX H) xs ps->∀ {i:Nat}{p:KN × Addr × V},xs[i]?=some p->∃ q,ps[i]?=some q/\LvX H p q:=by
  intro xs ps r
  induction r with
  | nil=>intro i p h;cases h
  | cons q t ih =>
   intro i p h
   cases i with
   | zero=>cases Jt h;exact⟨_,rfl,q⟩
   | succ i=>exact ih h
 obtain⟨q,e2,d,c,b,a⟩:=key h.pr e;refine⟨q.2,c,?_,h.ks p (JB e),b,a⟩;rw[e2,d]
theorem jS {ps:LvL}{k:KN}:yw ps k=none↔∀ p∈ps,p.1≠k:=by
 unfold yw;rw[Option.map_eq_none_iff,List.find?_eq_none];constructor
 ·intro h p a e;exact h p a (Jx e)
 ·intro h p a e;exact h p a (Ys e)
theorem tM {ps:LvL}{k:KN}{r:List Int}(h:yw ps k=some r):(k,r)∈ps:=by
 unfold yw at h;obtain⟨p,a,e⟩:=Y6.mp h;have d:=List.mem_of_find?_eq_some a;have b:=List.find?_some (p:=λx:KN × List Int=>decide (x.1=k)) a;have c:=Ys b;rw[<- c,<- e];exact d
theorem jR {ps:LvL}{k:KN}(h:(yw ps k).isSome=true):∃ r,(k,r)∈ps:=by
 obtain⟨r,e⟩:=Option.isSome_iff_exists.mp h;exact⟨r,tM e⟩
theorem oD {ps:LvL}{k:KN}{r:List Int}(h:(k,r)∈ps):(yw ps k).isSome=true:=by
 cases e:yw ps k with
 | some r=>rfl
 | none=>exact absurd rfl (jS.mp e _ h)
noncomputable def LvNd (ps:LvL):Prop:=(ps.map (·.1)).Nodup
theorem kH (ps:LvL)(k:KN)(r:List Int):(wX ps k r).map (·.1)=if (yw ps k).isSome then ps.map (·.1) else ps.map (·.1)++[k]:=by
 unfold wX;split
 ·rw[YX]
  refine Zw λx a=>?_;show (if x.1=k then (x.1,r) else x).1=x.1;split<;>rfl
 ·rw[JU];rfl
theorem LvNd.put {ps:LvL}(h:LvNd ps)(k:KN)(r:List Int):LvNd (wX ps k r):=by
 unfold LvNd;rw[kH];split
 ·exact h
 ·rename_i z
  refine W9.mpr ⟨h,JY.mpr ⟨JJ,Zp⟩,λa f b d e=>?_⟩;rw[Jd.mp d]at e;obtain⟨p,c,rfl⟩:=JA.mp f;exact z (oD (k:=k) (r:=p.2) (by rw[<- e];exact c))
theorem uf {ps:LvL}{k:KN}{r:List Int}{p:KN × List Int}(h:p∈wX ps k r):p∈ps\/p=(k,r):=by
 unfold wX at h;split at h
 ·obtain⟨x,a,rfl⟩:=JA.mp h
  by_cases z:x.1=k
  ·rw[Jg z,z];exact .inr rfl
  ·rw[Je z];exact .inl a
 ·rcases Ju.mp h with y|y
  ·exact .inl y
  ·exact .inr (Jd.mp y)
theorem qt (ps:LvL)(k:KN)(r:List Int):(wX ps k r).length<=ps.length+1:=by
 unfold wX;split
 ·rw[Jn];lia
 ·rw[Jb];exact Jc _
theorem sW:∀ (ys xs:KVN),(ys.map (·.1)).Nodup->(∀ y∈ys,∀ x∈xs,x.1≠y.1)->xL xs ys=xs++ys
 | [],xs,_,_=>by rw[Yt];rfl
 | y::ys,xs,nd,ds=>by
  rw[Y1,JY]at nd
  have e:yx xs y.1 y.2.1 y.2.2=xs++[y]:=by
   unfold yx
   have:yb xs y.1=none:=by
    unfold yb;rw[Option.map_eq_none_iff,List.find?_eq_none];exact λx a z=>ds y (.head _) x a (Ys z)
   rw[this];rfl
  show List.foldl _ (yx xs y.1 y.2.1 y.2.2) ys=_;rw[e]
  have:=sW ys (xs++[y]) nd.2 λz b x a=>by
   rcases Ju.mp a with q|q
   ·exact ds z (.tail _ b) x q
   ·rw[Jd.mp q]
    exact λe=>nd.1 (JA.mpr ⟨z,b,e.symm⟩)
  rw[show List.foldl (λacc y=>yx acc y.1 y.2.1 y.2.2) (xs++[y]) ys=xL (xs++[y]) ys from rfl,this,Y2];rfl
theorem mf {H:Hp}{xs:KVN}{ps:LvL}(h:Paired (LvX H) xs ps):xs.map (·.1)=ps.map (·.1):=by
 induction h with
 | nil=>rfl
 | cons a _ ih=>rw[Y1,Y1,ih,a.1]
end L2
namespace L2
open PySem PySem.Spec PyProof.Rows Own Bn
theorem Room.u3 {k:Nat}{A:Around}(r:Room k A):A.units+3<cLine:=by have:=r.un;lia
noncomputable def RowsAt (H:Hp)(as:List Addr)(rs:List (List Int)):Prop:=Paired (λa r=>H a=some (.tup (r.map V.int))) as rs
theorem RowsAt.tups {H H':Hp}(t:Tups H H'){as:List Addr}{rs:List (List Int)}(h:RowsAt H as rs):RowsAt H' as rs:=xF (λ_ _ e=>t _ _ e) h
theorem pH (c:List Int)(m:Nat):(yz c m).length=c.length:=by unfold yz dw;rw[List.length_set]
theorem eR (x y:List Int):wB x y=x\/wB x y=y:=by unfold wB;split<;>simp
noncomputable def Led (lsp:LSpc)(vals:List V)(step:KN->Nat->Option KN)(Ok:KN->Prop)(moves:List Nat)(H:Hp):Prop :=
 ∀ (c:Hp) (s:KN) (b:Addr) (m:Nat) (Q:VK),Tups H c->Ok s->m∈moves->NKey c s b->(∀ a,Same c a->step s m=none->Q .non a)->(∀ a d t,Same c a->step s m=some t->NKey a t d->Q (.ref d) a)->lsp vals [.ref b,.int (m:Nat)] c Q E0
theorem uK {H:Hp}{cl:List (Str × Addr)}(fz:CellsFz cl H):Tups H (strip cl H):=λa c e=>by
 rw[yF]
 ·exact e
 ·intro b
  obtain⟨o,q⟩:=fz a b;rw[e]at q;cases q
theorem vO {H a:Hp}{cl:List (Str × Addr)}(s:Same (strip cl H) a):Same H (back cl H a):=λb o e=>by
 by_cases c:b∈cl.map (·.2)
 ·rw[qV c];exact e
 ·rw[xI c];exact s b o (by rw[yF c];exact e)
theorem lj {H a:Hp}{cl:List (Str × Addr)}(low:∀ b∈cl.map (·.2),a b=none):Tups a (back cl H a):=λb d e=>by
 rw[xI]
 ·exact e
 ·intro c
  rw[low b c]at e;cases e
noncomputable def MvAt (K:PySem.W.Frag)(H:Hp)(a:Addr)(xs:List V):Prop:=H a=some (.tup xs)\/∀ b,SqT K b a xs
theorem MvAt.tups {K:PySem.W.Frag}{H H':Hp}(t:Tups H H'){a:Addr}{xs:List V}(h:MvAt K H a xs):MvAt K H' a xs:=h.imp (t _ _) id
theorem MvAt.sq {K:PySem.W.Frag}{H:Hp}{a:Addr}{xs:List V}(h:MvAt K H a xs):SqT K H a xs:=h.elim SqT.of λz=>z H
structure Way (K:PySem.W.Frag) (H:Hp) (mv f:Addr) (L:Lam) (fr:List Str) (lsp:LSpc) (cl:List (Str × Addr)) (vals:List V) (step:KN->Nat->Option KN) (Ok:KN->Prop) (moves:List Nat) (n:Nat):Prop where
 mv:MvAt K H mv (moves.map λm=>V.int (m:Nat))
 fr:cl.map (·.1)=fr
 la:LamAt H f L cl vals
 ld:Led lsp vals step Ok moves H
 lt:∀ m∈moves,m<n
 ok:∀ s m t,Ok s->m∈moves->step s m=some t->Ok t
 n1:n<=1000
noncomputable def sv:V->Int
 | .int i=>i
 | _=>0
noncomputable def kE (H:Hp):V->List Int
 | .ref a=>match H a with
  | some (.tup xs)=>xs.map sv
  | _=>[]
 | _=>[]
theorem vB {H:Hp}{a:Addr}{r:List Int}(h:H a=some (.tup (r.map V.int))):kE H (.ref a)=r:=by
 show (match H a with
  | some (.tup b)=>b.map sv
  | _=>[])=r
 rw[h];show (r.map V.int).map sv=r;rw[YX];exact List.map_id r
noncomputable def vw (H:Hp):V->V->Ordering:=λu v=>cmpR (kE H u) (kE H v)
theorem oX {H:Hp}:∀ {fs:List Addr}{rs:List (List Int)}{a:Addr}{r:List Int},RowsAt H fs rs->H a=some (.tup (r.map V.int))->∃ h,(fs.map V.ref).foldl (xi (vw H)) (.ref a)=.ref h/\H h=some (.tup ((rs.foldl wB r).map V.int)):=by
 intro fs rs a r h
 induction h generalizing a r with
 | nil=>intro c;exact⟨a,rfl,c⟩
 | @cons b q fs rs d _ ih =>
  intro c;show ∃ h,(fs.map V.ref).foldl (xi (vw H)) (xi (vw H) (.ref a) (.ref b))=.ref h/\H h=some (.tup ((rs.foldl wB (wB r q)).map V.int));have e:vw H (.ref b) (.ref a)=cmpR q r:=by unfold vw;rw[vB c,vB d]
  unfold xi wB;by_cases z:cmpR q r=.lt
  ·rw[Jg (e.trans z),Jg z];exact ih d
  ·rw[Je (λy=>z (e.symm.trans y)),Je z];exact ih c
theorem gw {H:Hp}{fs:List Addr}{rs:List (List Int)}(h:RowsAt H fs rs)(ne:rs≠[]):∃ g,xb (vw H) (fs.map V.ref)=.ref g/\H g=some (.tup ((zaI rs).map V.int)):=by
 cases h with
 | nil=>exact absurd rfl ne
 | cons a t=>exact oX t a
theorem mI {H:Hp}{n:Nat}{fs:List Addr}{rs:List (List Int)}(h:RowsAt H fs rs)(f:∀ r∈rs,r.length=n):∀ x∈fs.map V.ref,∀ y∈fs.map V.ref,Lx H 1 x y (vw H x y):=by
 have at_:∀ {fs:List Addr}{rs:List (List Int)},RowsAt H fs rs->∀ a∈fs,∃ r∈rs,H a=some (.tup (r.map V.int)):=by
  intro fs rs h
  induction h with
  | nil=>intro a c;cases c
  | cons p _ ih =>
   intro a c;rcases Jq.mp c with rfl|z
   ·exact⟨_,.head _,p⟩
   ·obtain⟨r,d,e⟩:=ih a z
    exact⟨r,.tail _ d,e⟩
 intro x j y i;obtain⟨a,c,rfl⟩:=JA.mp j;obtain⟨b,bm,rfl⟩:=JA.mp i;obtain⟨r,d,g⟩:=at_ h a c;obtain⟨q,k,e2⟩:=at_ h b bm;unfold vw;rw[vB g,vB e2];exact md g e2 (by rw[f r d,f q k])
structure NewOk (seen:LvL) (Ok:KN->Prop) (a:LAcc):Prop where
 nd:LvNd a.on
 new:∀ p∈a.on,yw seen p.1=none
 ok:∀ p∈a.on,Ok p.1
section
variable {step:KN->Nat->Option KN}{seen:LvL}{Ok:KN->Prop}{moves:List Nat}
theorem NewOk.go {s:KN}{c:List Int}{a:LAcc}{k:Nat}(h:NewOk seen Ok a)(f:∀ t,step s k=some t->Ok t):NewOk seen Ok (go1 step seen s c a k):=by
 unfold go1;split
 ·exact⟨h.nd,h.new,h.ok⟩
 ·rename_i t d
  split
  ·exact h
  ·rename_i z
   refine⟨h.nd.put _ _,λp b=>?_,λp b=>?_⟩
   ·rcases uf b with y|y
    ·exact h.new p y
    ·rw[y]
     cases e:yw seen t with
     | none=>rfl
     | some r=>rw[e]at z;exact absurd rfl z
   ·rcases uf b with y|y
    ·exact h.ok p y
    ·rw[y];exact f t d
theorem NewOk.row {s:KN}{c:List Int}:∀ (ms:List Nat) {a:LAcc},NewOk seen Ok a->(∀ m∈ms,∀ t,step s m=some t->Ok t)->NewOk seen Ok (ms.foldl (go1 step seen s c) a)
 | [],a,h,_=>h
 | k::r,a,h,q=>NewOk.row r (h.go (q k (.head _))) λm hm=>q m (.tail _ hm)
theorem NewOk.lev:∀ (level:LvL) {a:LAcc},NewOk seen Ok a->(∀ p∈level,∀ m∈moves,∀ t,step p.1 m=some t->Ok t)->NewOk seen Ok (level.foldl (goS step seen moves) a)
 | [],a,h,_=>h
 | p::r,a,h,q=>NewOk.lev r (NewOk.row moves h (q p (.head _))) λm hm=>q m (.tail _ hm)
theorem eM (level:LvL)(q:∀ p∈level,∀ m∈moves,∀ t,step p.1 m=some t->Ok t):NewOk seen Ok (vG step seen moves level) :=
 NewOk.lev level ⟨Zp,λp a=>(nomatch a),λp a=>(nomatch a)⟩ q
end
theorem dJ (step:KN->Nat->Option KN)(seen:LvL)(s:KN)(c:List Int)(a:LAcc)(k:Nat):(go1 step seen s c a k).on.length<=a.on.length+1:=by
 unfold go1;split
 ·exact Nat.le_succ _
 ·split
  ·exact Nat.le_succ _
  ·exact qt _ _ _
theorem mJ (step:KN->Nat->Option KN)(seen:LvL)(s:KN)(c:List Int):∀ (ms:List Nat) (a:LAcc),(ms.foldl (go1 step seen s c) a).on.length<=a.on.length+ms.length
 | [],a=>Jc _
 | k::r,a=>by
  have d:=mJ step seen s c r (go1 step seen s c a k);have b:=dJ step seen s c a k;show (r.foldl (go1 step seen s c) (go1 step seen s c a k)).on.length<=a.on.length+(r.length+1);lia
theorem gB (step:KN->Nat->Option KN)(seen:LvL)(moves:List Nat)(level:LvL):(vG step seen moves level).on.length<=level.length*moves.length:=by
 have key:∀ (level:LvL) (a:LAcc),(level.foldl (goS step seen moves) a).on.length<=a.on.length+level.length*moves.length:=by
  intro level
  induction level with
  | nil=>intro a;exact Nat.le_add_right _ _
  | cons p r ih =>
   intro a;have d:=ih (goS step seen moves a p);have b:=mJ step seen p.1 p.2 moves a;show (r.foldl (goS step seen moves) (goS step seen moves a p)).on.length<=_;rw[JV,Nat.add_mul,Nat.one_mul];have c:(goS step seen moves a p).on.length<=a.on.length+moves.length:=b;lia
 have:=key level ⟨[],[]⟩;unfold vG;have e:(⟨[],[]⟩:LAcc).on.length=0:=rfl
 simp_all
end L2
namespace L2
open PySem PySem.Spec PyProof.Rows
noncomputable abbrev e2 (elt tg iter b a:Expr)(ifs:List Expr)(scope:Scope)(pos:Pos):Expr:=.ListComp elt [⟨tg,iter,[],0⟩,⟨b,a,ifs,0⟩] scope pos
theorem lY (elt tg iter b a:Expr)(ifs:List Expr)(scope:Scope)(pos:Pos)(it acc:Value)(env:Env) :
  compTurn (e2 elt tg iter b a ifs scope pos) 0 it acc env=(standAt iter.pos >>= λ_=>pyNext it >>= λr=>match r with
   | none=>pure (.done .next)
   | some v=>letOwnedTupleGo tg it v >>= λ_=>assign tg env v >>= λ_ =>
    (eval a env >>= λx=>standAt a.pos >>= λ_=>foldedSetIterable a env x >>= λx=>holding [x] (pyIter x) >>= λi1=>runOwn (.compStart (e2 elt tg iter b a ifs scope pos) 1 i1 acc env) env >>= λ_ =>
     again (.compLoop (e2 elt tg iter b a ifs scope pos) 0 it acc env))):=by rfl
theorem lX (elt tg iter b a:Expr)(scope:Scope)(pos:Pos)(it acc:Value)(env:Env) :
  compTurn (e2 elt tg iter b a [] scope pos) 1 it acc env=(standAt a.pos >>= λ_=>pyNext it >>= λr=>match r with
   | none=>pure (.done .next)
   | some v=>letOwnedTupleGo b it v >>= λ_=>assign b env v >>= λ_ =>
    ((eval elt env >>= λx=>call (.builtin "list.append") [acc,x] >>= λ_=>pure ()) >>= λ_ =>
     again (.compLoop (e2 elt tg iter b a [] scope pos) 1 it acc env))):=by rfl
theorem oe (elt tg iter b a c:Expr)(scope:Scope)(pos:Pos)(it acc:Value)(env:Env) :
  compTurn (e2 elt tg iter b a [c] scope pos) 1 it acc env=(standAt a.pos >>= λ_=>pyNext it >>= λr=>match r with
   | none=>pure (.done .next)
   | some v=>letOwnedTupleGo b it v >>= λ_=>assign b env v >>= λ_=>(forIn [c] true λc r=>if r=true then (isTrue c env (eval c env) >>= λok=>pure (ForInStep.yield ok)) else pure (ForInStep.yield r)) >>= λok =>
    if ok=true then
    ((eval elt env >>= λx=>call (.builtin "list.append") [acc,x] >>= λ_=>pure ()) >>= λ_ =>
     again (.compLoop (e2 elt tg iter b a [c] scope pos) 1 it acc env)) else again (.compLoop (e2 elt tg iter b a [c] scope pos) 1 it acc env)):=by rfl
section
variable {prog:Program}{w:World}{A:Around}{R:Result->Shared->Prop}{s:Shared}{elt tg iter tg1 iter1:Expr}{scope:Scope}{pos:Pos}{it acc:Value}{env:Env}
theorem oR {ifs:List Expr}(c:codeAny (model prog w) A (.compLoop (e2 elt tg iter tg1 iter1 ifs scope pos) 1 it acc env) R s)(h:wpAny (model prog w) A (pyIter it) (λi2 z=>codeAny (model prog w) A (.compLoop (e2 elt tg iter tg1 iter1 ifs scope pos) 1 i2 acc env) R z) NoX s) :
  codeAny (model prog w) A (.compStart (e2 elt tg iter tg1 iter1 ifs scope pos) 1 it acc env) R s:=by
 refine codeAny_of_tree ?_;show wpAny _ A ((compStart (e2 elt tg iter tg1 iter1 ifs scope pos) 1 it acc env).onRaise (λx=>do noteFrame x env;standAt theWindowsPlace)) _ _ s;refine wpAny_notedAt ?_;unfold compStart;refine(show wpAny _ _ (ask >>= _) _ _ s from J0 (wpAny_askSetting (wpAny_ite ?_)));split
 ·first
   | exact J0 (J8 (J8 ⟨rfl,c⟩))
   | exact J8 ⟨rfl,c⟩
 ·apply J0;refine YJ ?_
  first
   | exact J0 (YL (J0 (JM h (λb d a=>J8 ⟨rfl,a⟩) λ_ _ z=>z.elim)))
   | (show wpAny _ _ (standAt iter1.pos >>= _) _ _ s;exact J0 (YL (J0 (JM h (λb d a=>J8 ⟨rfl,a⟩) λ_ _ z=>z.elim))))
theorem lV {o:Option Expr}(J:Nat->Shared->Prop)(turn:∀ n s,J n s->Go (model prog w) A tg1 elt o it acc env R (λz=>∃ m,m<n/\J m z) s)(n:Nat)(h:J n s) :
  codeAny (model prog w) A (.compLoop (.ListComp elt [⟨tg,iter,[],0⟩,⟨tg1,iter1,o.toList,0⟩] scope pos) 1 it acc env) R s:=by
 cases o with
 | none =>
  refine codeAny_loop rfl J (λn s k=>?_) n h;show wpAny _ A ((compTurn (e2 elt tg iter tg1 iter1 [] scope pos) 1 it acc env).onRaise (λx=>do noteFrame x env;theTreesLotGoes x)) _ _ s;refine wpAny_noted ?_;rw[lX];refine J0 (YL (J0 (JM (turn n s k) (λr a i=>?_) λ_ _ z=>z.elim)))
  cases r with
  | none=>exact J8 i
  | some v =>
   refine J0 (JM i (λ_ b q=>?_) λ_ _ z=>z.elim);refine J0 (JM q (λ_ c p=>?_) λ_ _ z=>z.elim);have g:wpAny (model prog w) A (eval elt env) (λx e=>wpAny (model prog w) A (call (.builtin "list.append") [acc,x]) (λ_ f=>∃ m,m<n/\J m f) NoX e) NoX c:=p
   exact J0 (J0 (JM g (λx d j=>J0 (JM j (λ_ e l=>J8 (J8 ⟨rfl,l⟩)) λ_ _ z=>z.elim)) λ_ _ z=>z.elim))
 | some t =>
  refine codeAny_loop rfl J (λn s k=>?_) n h;show wpAny _ A ((compTurn (e2 elt tg iter tg1 iter1 [t] scope pos) 1 it acc env).onRaise (λx=>do noteFrame x env;theTreesLotGoes x)) _ _ s;refine wpAny_noted ?_;rw[oe];refine J0 (YL (J0 (JM (turn n s k) (λr a i=>?_) λ_ _ z=>z.elim)))
  cases r with
  | none=>exact J8 i
  | some v =>
   refine J0 (JM i (λ_ b q=>?_) λ_ _ z=>z.elim);refine J0 (JM q (λ_ c p=>?_) λ_ _ z=>z.elim);have g:wpAny (model prog w) A (isTrue t env (eval t env)) (λyes d=>if yes=true then wpAny (model prog w) A (eval elt env) (λx e=>wpAny (model prog w) A (call (.builtin "list.append") [acc,x]) (λ_ f=>∃ m,m<n/\J m f) NoX e) NoX d else ∃ m,m<n/\J m d) NoX c:=p;refine J0 (wpAny_tests_one (JM g (λyes d j=>?_) λ_ _ z=>z.elim))
   cases yes with
   | false=>exact J8 ⟨rfl,j⟩
   | true=>exact J0 (J0 (JM j (λx e l=>J0 (JM l (λ_ f u=>J8 (J8 ⟨rfl,u⟩)) λ_ _ z=>z.elim)) λ_ _ z=>z.elim))
theorem lW {ifs:List Expr}(J:Nat->Shared->Prop)(turn:∀ n s,J n s->wpAny (model prog w) A (pyNext it) (λr a=>match r with
   | none=>R (.ok .next) a
   | some v=>wpAny (model prog w) A (letOwnedTupleGo tg it v) (λ_ b=>wpAny (model prog w) A (assign tg env v) (λ_ c=>wpAny (model prog w) A (eval iter1 env) (λx d=>wpAny (model prog w) A (pyIter x) (λi1 e =>
     codeAny (model prog w) A (.compStart (e2 elt tg iter tg1 iter1 ifs scope pos) 1 i1 acc env) (λr f=>match r with|.ok _=>∃ m,m<n/\J m f|.error _=>False) e) NoX d) NoX c) NoX b) NoX a) NoX s)(n:Nat)(h:J n s)(j:∀ x,foldedSetIterable iter1 env x=pure x) :
  codeAny (model prog w) A (.compLoop (e2 elt tg iter tg1 iter1 ifs scope pos) 0 it acc env) R s:=by
 refine codeAny_loop rfl J (λn s k=>?_) n h;show wpAny _ A ((compTurn (e2 elt tg iter tg1 iter1 ifs scope pos) 0 it acc env).onRaise (λx=>do noteFrame x env;theTreesLotGoes x)) _ _ s;refine wpAny_noted ?_;rw[lY];refine J0 (YL (J0 (JM (turn n s k) (λr a i=>?_) λ_ _ z=>z.elim)))
 cases r with
 | none=>exact J8 i
 | some v =>
  refine J0 (JM i (λ_ b q=>?_) λ_ _ z=>z.elim);refine J0 (JM q (λ_ c p=>?_) λ_ _ z=>z.elim);refine J0 (JM p (λx d o=>?_) λ_ _ z=>z.elim);refine J0 (YL (J0 (wpAny_of_eq (j x) (J0 (Y4 (JM o (λi1 e l=>?_) λ_ _ z=>z.elim))))));refine J0 (wpAny_runOwn (codeAny_mono l (λr f g=>?_)))
  cases r with
  | ok t=>exact J8 ⟨rfl,g⟩
  | error x=>exact g.elim
end
noncomputable def LCW1 (J:It)(g:TG)(tt:TT)(k:TE)(l:Addr)(Q:List V->St->Hp->Prop)(W:Nat->Nat->List V->St->Hp->Prop):Prop :=
 ∀ i m acc c d,W i m acc c d->d l=some (.lst acc) /\
  ((J.stop i d/\Q acc c d)\/(J.go i d/\∀ x j,J.yld i d x j->g x c j λa n=>tt a n λb h =>
   if b=true then k a h λy f=>f l=some (.lst acc)/\acc.length<sizeLine/\∃ e,e<m/\W (i+1) e (acc++[y]) a (upd f l (.lst (acc++[y])))
   else ∃ e,e<m/\W (i+1) e acc a h))
noncomputable def aI (cap:List (Option Nat))(n:TI)(g:TG)(d:TI)(q:TG)(tt:TT)(o:TE):TE:=λσ H Q=>n σ H λJ j=>∀ l,j l=none ->
 ∃ W:Nat->Nat->List V->St->Hp->Prop,(∃ m,W 0 m [] (qP cap σ) (upd j l (.lst []))) /\
  ∀ i m acc c a,W i m acc c a->a l=some (.lst acc)/\((J.stop i a/\Q (.ref l) a)\/(J.go i a/\∀ x h,J.yld i a x h->g x c h λb t=>d b t λr s =>
   ∃ f:Nat->Nat->List V->St->Hp->Prop,(∃ p,f 0 p acc b s)/\LCW1 r q tt o l (λac k G=>∃ e,e<m/\W (i+1) e ac k G) f))
theorem gR {X:Cx}{elt tg iter P B:Expr}{o:Option Expr}{scope:Scope}{pos ba:Pos}{wi bu:TI}{g g1:TG}{tt:TT}{te:TE}{N':List Str}{cap:List (Option Nat)}{use:Option (Value->Sem Unit)}{Q0:Value->Shared->Prop}(hc:X.calm=true)(hi:PI X tg iter wi)(ck:CapOk X.N N' X.env.scope scope cap)(hg:∀ C s₀ H₀ fp pins,PG (yN X N' scope C s₀ H₀ fp pins) tg g)(ct:∀ C s₀ H₀ fp pins,PI (yN X N' scope C s₀ H₀ fp pins) P B bu)(cx:∀ C s₀ H₀ fp pins,PG (yN X N' scope C s₀ H₀ fp pins) P g1)(ht:∀ C s₀ H₀ fp pins,PTo (yN X N' scope C s₀ H₀ fp pins) o tt)(he:∀ C s₀ H₀ fp pins,PE (yN X N' scope C s₀ H₀ fp pins) elt te)(hs:∀ x,foldedSetIterable iter X.env x=pure x)(cc:∀ C x,foldedSetIterable B (compEnvC scope (wY X.env.cells scope.names []) C X.env) x=pure x){pins:List (Addr × Obj)}{s:Shared}{σ:St}{H:Hp}{Q:VK}(I:Inv X pins σ H s)(h:aI cap wi g bu g1 tt te σ H Q)(fin:∀ (l C:Addr) (H4:Hp) (s5:Shared) (m:Str->Option Value),Inv X pins σ H4 s5->Q (.ref l) H4->s5.heap.Ns C m->FpOk X pins H4 C->compPost (model X.prog X.w) X.A X.xe use Q0 (.ref l) C (.ok .next) s5) :
  wpAny (model X.prog X.w) X.A (comprehension (.ListComp elt [⟨tg,iter,[],0⟩,⟨P,B,o.toList,0⟩] scope pos) scope X.env ba (newList []) false (eval iter X.env) use) Q0 X.xe s:=by
 have N:∀ y∈scope.names,y.2=.free->∃ c,X.env.cells.lookup y.1=some c:=λy hy hf=>I.ok.has y.1 (ck.free y hy hf);refine wpAny_comprehension_free (use:=use) rfl hs (wv N) ck.kind ck.names (thn (hi pins s σ H _ I h) λv s1 h1=>thn h1 λdn F h2=>?_);obtain⟨it,fp,tn,J,H2,e,I2,T,b1,f2,body⟩:=h2;subst e;have bq:H2 F.heap.objs.size=none:=I2.hok.fresh (Jc _);obtain⟨W,⟨m0,w0⟩,turn⟩:=body F.heap.objs.size bq;have A:Inv X pins σ (upd H2 F.heap.objs.size (.lst [])) { F with heap:=F.heap.push { cls:=.type "list",data:=.seq ([]:List Value).toArray },toks:=F.toks }:=I2.lnew (its:=[]) (t':=F.toks) .nil (JN _);refine JQ (wpAny_newFunctionEnv ck.nocell (by intro y hy;simp at hy) (λE M L=>?_) ck.kind);dsimp only at M L ⊢;generalize hl:F.heap.objs.size=l at *;generalize hP:F.heap.push { cls:=.type "list",dict:=none,data:=.seq ([]:List Value).toArray }=P2 at *;generalize c0:upd H2 l (.lst [])=H3 at *;have old:∀ b o,P2.get? b=some o->E.get? b=some o:=λb o e=>L.extBut b o (JC (Jp e)) (J7 _ e);have bo:∀ b o,F.heap.get? b=some o->P2.get? b=some o:=λb o e=>hP ▸ J7 _ e
 have b6:∀ b∈fp,b<l:=λb a=>by
  obtain⟨o,e,_⟩:=T.obj _ _ b1 b a;rw[<- hl];exact Jp e
 have c2:∀ b∈fp,H3 b=none:=λb a=>by
  rw[<- c0,zJ (JC (b6 b a))];exact(f2 b a).1
 have cX:P2.objs.size=l+1:=by rw[<- hP,YQ,hl]
 have D:∀ x c,(wY X.env.cells scope.names []).lookup x=some c->X.env.cells.lookup x=some c:=λx c e=>wO _ _ x c N (λ_ _ z=>by simp at z) e;generalize b3:({ F with heap:=P2,toks:=F.toks }:Shared)=s3 at *;have w:s3.heap=P2:=by rw[<- b3]
 let Y:=yN X N' scope P2.objs.size s3 H3 fp pins
 have K:Y.Ok:=by
  refine⟨A.ok.mod,ck.kind,A.ok.glob,A.ok.blt,by show s3.heap.objs.size<=P2.objs.size;rw[w];exact Jc _,λx y c e1 e2=>A.ok.inj x y c (D x c e1) (D y c e2),λx hx=>?_,λx c hx=>absurd (show false=true from hx) Jj,A.ok.hd,A.ok.frames,.inl rfl,λb a=>⟨?_,λx c e=>?_⟩,A.bs,
   JK A.ok.bsz A.sz,λb o e a=>?_,λb a hz=>?_,A.stack,A.stkFree⟩
  ·have cb:scope.names.lookup x=some .free:=by
    rcases hx with hx|hx
    ·rcases yo hx with z|z
     ·exact absurd rfl (ck.nocell _ (wC z))
     ·exact z.2
    ·rcases yo hx with z|z
     ·exact z
     ·exact z.2
   exact xH _ _ x cb
  ·exact JC (by show b<P2.objs.size;rw[cX];exact ZF (b6 b a))
  ·exact(f2 b a).2.2.2.2.1 x c (D x c e)
  ·rcases (f2 b a).2.2.2.1 with z|z
   ·exact A.ok.noex b o e z
   ·exact absurd (JF (Jp e) (JK A.ok.bsz z)) (YC _)
  ·rcases Jq.mp (A.stkSub b hz) with z|z
   ·exact(f2 b a).2.1 z
   ·exact(f2 b a).2.2.1 z
 have cP:Inv Y [] (qP cap σ) H3 { F with heap:=E,toks:=F.toks }:=by
  refine⟨K,by show F.os=s3.os;rw[<- b3],I2.bare,by show Un _ _ _ _ s3.heap E;rw[w];exact Un.kept old,⟨_,M,λj x v e1 e2 e3=>?_⟩,λx c e=>?_,?_,λx c e=>A.freeC x c (D x c e),λp hp=>?_,λb o e=>?_,?_⟩
  ·have c5:N'[j]?=some x:=e1
   unfold qP at e2;rw[JZ]at e2
   cases ec:cap[j]? with
   | none=>rw[ec]at e2;cases e2
   | some oc =>
    rw[ec]at e2
    cases oc with
    | none=>cases e2
    | some i =>
     have c3:σ[i]?=some (some v):=by
      cases ei:σ[i]? with
      | none=>simp[ei]at e2
      | some v' =>
       simp[ei]at e2;rw[e2]
     have hz:(x,some i)∈N'.zip cap:=by
      refine JB (i:=j) ?_;rw[Zu];exact⟨c5,ec⟩
     obtain⟨hN,hf,hk⟩:=ck.cap _ hz i rfl;obtain⟨m,hn,cf⟩:=A.loc;obtain⟨u,r,lk⟩:=cf i x v hN c3 (by rcases hk with z|z;exact .inr (.inl z);exact .inr (.inr z));refine⟨u,r,.inr ⟨?_,?_⟩⟩
     ·exact x8 hf
     ·rcases lk with ⟨z,_⟩|⟨_,c,cH,aT⟩
      ·have z':X.env.scope.names.lookup x=some .local:=z
       rcases hk with q|q
       ·rw[q]at z';cases z'
       ·rw[q]at z';cases z'
      ·obtain⟨c',b4⟩:=xH (cells:=X.env.cells) scope.names [] x hf
       have:=D x c' b4;rw[cH]at this;cases this;obtain⟨ob,e,d⟩:=aT;rw[w]at e;exact⟨c,b4,ob,old c ob e,d⟩
  ·obtain⟨v,ob,e',d⟩:=A.cell x c (D x c e)
   rw[w]at e';exact⟨v,ob,old c ob e',d⟩
  ·refine A.hok.fresh ?_
   rw[w];exact Jc _
  ·have a8:p∈X.pn++pins:=(Ju.mp hp).elim (λz=>z) (λz=>nomatch z)
   obtain⟨e,n,ne,nf,d⟩:=A.pin p a8;rw[w]at e;refine⟨old _ _ e,n,JC (Jp e),λz=>?_,d⟩;rcases Jq.mp (A.stkSub _ z) with q|q
   ·exact ne q
   ·exact nf q
  ·have:=A.hok.kept (h':=E) (λb u q=>old b u (by rw[<- w];exact q))
   exact this b o e
  ·show (cap.map _).length=N'.length
   rw[Jn,ck.len]
 have S:∀ {t:Hp},(∀ b∈fp,t b=none)->∀ b∈fp,FpOk Y [] t b:=λ{t} hn b a=>by
  refine⟨hn b a,(K.exf b a).1,K.exfs b a,.inl a,(K.exf b a).2,λp hp=>?_⟩;have a8:p∈X.pn++pins:=(Ju.mp hp).elim (λz=>z) (λz=>nomatch z);exact(f2 b a).2.2.2.2.2 p a8
 have b2:tn 0 E:=T.keep 0 _ _ b1 λb a o e=>old b o (bo b o e)
 have loop:codeAny (model X.prog X.w) X.A (.compLoop (.ListComp elt [⟨tg,iter,[],0⟩,⟨P,B,o.toList,0⟩] scope pos) 0 (.ref it) (.ref l) Y.env) (compPost (model X.prog X.w) X.A X.xe use Q0 (.ref l) P2.objs.size) { F with heap:=E,toks:=F.toks }:=by
  refine lW (λn s'=>∃ i acc f t,Inv Y [] f t s'/\tn i s'.heap/\(∀ b∈fp,t b=none)/\W i n acc f t) ?_ m0 ⟨0,[],_,H3,cP,b2,c2,w0⟩ (cc _);rintro n s4 ⟨i,acc,a5,H4,I4,b0,b5,w4⟩;obtain⟨dd,q4⟩:=turn i n acc a5 H4 w4;rcases q4 with ⟨stop,qn⟩|⟨go,step⟩
  ·refine thn (T.done Y rfl rfl rfl hc i [] s4 a5 H4 Y.xe I4 (S b5) b0 stop) λr s5 ⟨hr,I5⟩=>?_
   subst hr;obtain⟨m,hn,_⟩:=id I5.loc;have un:Un (frs X.stack) fp H3 H4 s3.heap s5.heap:=I5.base;have b7:s3.heap.objs.size<=P2.objs.size:=by rw[w];exact Jc _
   have IX:Inv X pins σ H4 s5:=A.call' (ch:=fp) I5.os un I5.hok I5.bare λb a=>⟨(f2 b a).2.2.2.1,(f2 b a).2.1,(f2 b a).2.2.2.2.1,(f2 b a).2.2.2.2.2⟩;exact fin l P2.objs.size H4 s5 m IX qn hn (A.fpOk b7 I5.free)
  ·refine thn (T.item Y rfl rfl rfl hc i [] s4 a5 H4 Y.xe I4 (S b5) b0 go) λr s5 ⟨u,hr,h5⟩=>?_
   subst hr;refine thn h5 λ_ s6 ⟨x,H6,I6,r6,y6,a7,c1⟩=>?_;have c8:=I6.pinned (S c1) (T.obj _ _ a7);refine thn (hg _ _ _ _ _ _ s6 a5 H6 x u _ c8 r6 (step x H6 y6)) λ_ s7 ⟨bt,H7,I7,q7⟩=>?_
   have again:∀ {a4:St}{H9:Hp}{s9:Shared}{U:List V},Inv Y ([]++wA fp s6.heap) a4 H9 s9->(∃ m',m'<n/\W (i+1) m' U a4 H9)->∃ m,m<n/\∃ i acc f t,Inv Y [] f t s9/\tn i s9.heap/\(∀ b∈fp,t b=none)/\W i m acc f t:=λ{a4 H9 s9 U} I9 ⟨m',hm,w9⟩=>by
    refine⟨m',hm,i+1,U,a4,H9,I9.unpinned,T.keep _ _ _ a7 λb a o e=>(I9.pin (b,o) (JE _ (JE _ (yX a e)))).1,λb a=>?_,w9⟩;obtain⟨o,e,d⟩:=T.obj _ _ a7 b a;exact(I9.pin (b,o) (JE _ (JE _ (yX a e)))).2.1
   generalize ([]++wA fp s6.heap:List (Addr × Obj))=pz at again I7;refine thn (ct _ _ _ _ _ _ s7 bt H7 _ I7 q7) λv1 s8 h8=>thn h8 λc9 s9 h9=>?_;obtain⟨b8,R,bB,J1,H9,e1,I9,T1,bS,f9,W1,⟨m1,w1⟩,ab⟩:=h9;subst e1;have G:∀ {t:Hp},(∀ b∈R,t b=none)->∀ b∈R,FpOk Y pz t b:=λhn b a=>⟨hn b a,(f9 b a).2⟩
   have Z:codeAny (model X.prog X.w) X.A (.compLoop (.ListComp elt [⟨tg,iter,[],0⟩,⟨P,B,o.toList,0⟩] scope pos) 1 (.ref b8) (.ref l) Y.env) (λr z=>match r with|.ok _=>∃ m,m<n/\∃ i acc f t,Inv Y [] f t z/\tn i z.heap/\(∀ b∈fp,t b=none)/\W i m acc f t|.error _=>False) s9:=by
    refine lV (λn s'=>∃ i acc f t,Inv Y pz f t s'/\bB i s'.heap/\(∀ b∈R,t b=none)/\W1 i n acc f t) ?_ m1 ⟨0,acc,bt,H9,I9,bS,λb a=>(f9 b a).1,w1⟩;rintro k t4 ⟨j,ac,a3,G4,K4,u4,v4,z4⟩;obtain⟨dk,p4⟩:=ab j k ac a3 G4 z4;rcases p4 with ⟨ao,pn⟩|⟨go1,ax⟩
    ·refine thn (T1.done Y rfl rfl rfl hc j pz t4 a3 G4 Y.xe K4 (G v4) u4 ao) λr t5 ⟨hr,K5⟩=>?_
     subst hr;exact again K5 pn
    ·refine thn (T1.item Y rfl rfl rfl hc j pz t4 a3 G4 Y.xe K4 (G v4) u4 go1) λr t5 ⟨u,hr,h5⟩=>?_
     subst hr;refine thn h5 λ_ t6 ⟨y,G6,K6,e6,d6,u6,v6⟩=>?_;have c6:=K6.pinned (G v6) (T1.obj _ _ u6);refine thn (cx _ _ _ _ _ _ t6 a3 G6 y u _ c6 e6 (ax y G6 d6)) λ_ t7 ⟨a6,G7,K7,p7⟩=>?_;refine qd (ht _ _ _ _ _ _ t7 a6 G7 _ K7 p7) λb t8 ⟨G8,K8,p8⟩=>?_
     have O:∀ {a0:St}{G9:Hp}{t9:Shared}{a9:List V},Inv Y (pz++wA R t6.heap) a0 G9 t9->(∃ m',m'<k/\W1 (j+1) m' a9 a0 G9)->∃ m,m<k/\∃ i acc f t,Inv Y pz f t t9/\bB i t9.heap/\(∀ b∈R,t b=none)/\W1 i m acc f t:=λ{a0 G9 t9 a9} K9 ⟨m',hm,z9⟩=>by
      refine⟨m',hm,j+1,a9,a0,G9,K9.unpinned,T1.keep _ _ _ u6 λb a o e=>(K9.pin (b,o) (JE _ (JE _ (yX a e)))).1,λb a=>?_,z9⟩;obtain⟨o,e,d⟩:=T1.obj _ _ u6 b a;exact(K9.pin (b,o) (JE _ (JE _ (yX a e)))).2.1
     cases b with
     | false =>
      rw[Je Jj]at p8 ⊢
      exact O K8 p8
     | true =>
      rw[Jg rfl]at p8 ⊢;refine thn (he _ _ _ _ _ _ t8 a6 G8 _ K8 p8) λyv t9 ⟨yy,G9,K9,e9,cm,b9,p9⟩=>?_;refine thn (xQ (X:=Y) _ t9 a6 G9 (.ref l) [yy] (.ref l) [yv] (λ_ t=>t=upd G9 l (.lst (ac++[yy]))) K9 rfl (.cons e9 .nil) ⟨l,ac,yy,rfl,rfl,cm,b9,rfl⟩) λ_ dm ⟨_,dq,c7,_,c4⟩=>?_;subst c4;exact O c7 p9
   exact oR Z (T1.self X.A 0 _ _ _ bS Z)
 exact codeAny_compStart_list loop (T.self X.A 0 _ _ _ b2 loop)
theorem cy {X:Cx}{elt tg iter b a:Expr}{o:Option Expr}{scope:Scope}{pos:Pos}{j c:TI}{g n:TG}{tt:TT}{k:TE}{N':List Str}{cap:List (Option Nat)}(y:X.calm=true)(hi:PI X tg iter j)(z:CapOk X.N N' X.env.scope scope cap)(v:∀ C s₀ H₀ fp pins,PG (yN X N' scope C s₀ H₀ fp pins) tg g)(e:∀ C s₀ H₀ fp pins,PI (yN X N' scope C s₀ H₀ fp pins) b a c)(i:∀ C s₀ H₀ fp pins,PG (yN X N' scope C s₀ H₀ fp pins) b n)(r:∀ C s₀ H₀ fp pins,PTo (yN X N' scope C s₀ H₀ fp pins) o tt)(w:∀ C s₀ H₀ fp pins,PE (yN X N' scope C s₀ H₀ fp pins) elt k)(t:∀ x,foldedSetIterable iter X.env x=pure x:=by intro _;rfl)(d:∀ C x,foldedSetIterable a (compEnvC scope (wY X.env.cells scope.names []) C X.env) x=pure x:=by intro _ _;rfl) :
  PE X (.ListComp elt [⟨tg,iter,[],0⟩,⟨b,a,o.toList,0⟩] scope pos) (aI cap j g c n tt k):=by
 intro pins s σ H Q I h;rw[eval_ListComp];exact gR (use:=none) y hi z v e i r w t d I h λl C B D m A q u f=>⟨m,u,λE p=>⟨.ref l,B,A.gone f p,rfl,q⟩⟩
end L2
namespace Bn
open PySem L2 Own
noncomputable def pw (e:Nat):Int:=((2 ^ e:Nat):Int)
noncomputable def xt:Nat->List Nat->List Fk
 | 0,_=>[]
 | m+1,row=>if row.length<2 then [] else (row.take (row.length / 2)).zip row.reverse++xt m (row.take (row.length / 2))++xt m (row.drop (row.length / 2))
noncomputable def x6 (k:Nat):Nt:=⟨2 ^ k,(List.replicate k (xt k (List.range (2 ^ k)))).flatten,List.range (2 ^ k)⟩
theorem nB:∀ k,k<5->(x6 k).forks.length<=128/\∀ f∈(x6 k).forks,f.1<2 ^ k/\f.2<2 ^ k/\f.1≠f.2:=by decide +kernel
theorem kF {k:Nat}(h:k<5):(x6 k).Ok:=by
 obtain⟨a,b⟩:=nB k h;refine⟨ZD,?_,a,b,.refl _⟩;show 2 ^ k<=2 ^ 4;exact Z4 (show 0<2 by decide) (show k<=4 by lia)
theorem xw:∀ (m:Nat) (row:List Nat),(xt m row).length<=m*row.length
 | 0,_=>JN _
 | m+1,row=>by
  unfold xt;split
  ·exact JN _
  ·rw[Jb,Jb,ZA,Js]
   have a:=xw m (row.take (row.length / 2));have b:=xw m (row.drop (row.length / 2));rw[Js]at a;rw[Y9]at b
   have c:m*min (row.length / 2) row.length+m*(row.length-row.length / 2)=m*row.length:=by
    rw[<- Nat.mul_add];congr 1;lia
   rw[Nat.succ_mul]
   grind
end Bn
namespace L2
open PySem PySem.Spec PyProof.Rows Own
theorem eW {K:PySem.W.Frag}{a:Addr}{zs:List V}{g:TG}{h:TE}{l:Addr}{ac:List V}{σ:St}{H:Hp}{Q:List V->St->Hp->Prop}(b:Nat->List V->St->Hp->Prop)(q:b 0 ac σ H)(o:∀ i acc σ H,b i acc σ H->H l=some (.lst acc)/\SqT K H a zs)(n:∀ i x acc σ H,zs[i]?=some x->b i acc σ H->g x σ H λc r=>h c r λy j=>j l=some (.lst acc)/\acc.length<sizeLine/\Nx zs.length i (b (i+1) (acc++[y]) c (upd j l (.lst (acc++[y])))))(hd:∀ acc σ H,b zs.length acc σ H->Q acc σ H):∃ W:Nat->Nat->List V->St->Hp->Prop,(∃ m,W 0 m ac σ H)/\LCW1 (Itt K a) g fH h l Q W:=by
 refine⟨λi m acc σ H=>m=zs.length-i/\i<=zs.length/\b i acc σ H,⟨_,rfl,JN _,q⟩,?_⟩;rintro i m acc σ H ⟨rfl,hi,p⟩;obtain⟨k,d⟩:=o i acc σ H p;refine⟨k,?_⟩;by_cases f:i<zs.length
 ·refine .inr ⟨⟨zs,zs[i],d,J9 f⟩,λx s ⟨e,y⟩=>?_⟩
  subst e;exact n i x acc σ _ (y zs d) p
 ·obtain rfl:i=zs.length:=by lia
  exact .inl ⟨⟨zs,d,Jc _⟩,hd acc σ H p⟩
noncomputable def yY {α:Type}(xs ys:List α):List α:=(xs.zip ys).flatMap λp=>[p.1,p.2]
theorem xS {α:Type}:∀ (xs ys:List α),xs.length=ys.length->(yY xs ys).length=2*xs.length
 | [],[],_=>rfl
 | x::xs,y::ys,h=>by
  have h':xs.length=ys.length:=by simpa using h
  have:=xS xs ys h';show (yY xs ys).length+2=2*(xs.length+1);rw[this];lia
theorem wM {α β:Type}{f g:α->Option β}:∀ (l:List α),(∀ x∈l,f x=g x)->l.filterMap f=l.filterMap g
 | [],_=>rfl
 | x::l,h=>by
  have e:=wM l λy a=>h y (JG _ a);simp only[ZX,h x JL,e]
noncomputable def by2 {α:Type}(off:Nat)(xs:List α):List α:=(List.range ((xs.length+1-off) / 2)).filterMap λk=>xs[off+2*k]?
theorem qT {α:Type}(off:Nat)(a:off<=1)(xs:List α):(by2 off xs).length=(xs.length+1-off) / 2:=by
 unfold by2
 have e:(List.range ((xs.length+1-off) / 2)).filterMap (λk=>xs[off+2*k]?)=(List.range ((xs.length+1-off) / 2)).pmap (λk (h:k<(xs.length+1-off) / 2)=>xs[off+2*k]'(by omega)) (λk h=>YN.mp h):=by
  rw[List.pmap_eq_map_attach,<- List.filterMap_eq_map]
  conv=>lhs;rw[<- List.attach_map_subtype_val (List.range ((xs.length+1-off) / 2)),Za]
  refine wM _ λk b=>?_;have:=YN.mp k.2;show xs[off+2*k.1]?=some _;rw[J9 (by omega)]
 rw[e,List.length_pmap,YU]
theorem dY {α β:Type}(f:α->β)(off:Nat)(xs:List α):by2 off (xs.map f)=(by2 off xs).map f:=by
 unfold by2;rw[Jn,List.map_filterMap];refine wM _ λk _=>?_;rw[JZ]
theorem lU {xs:List V}{us:List Value}(r:Vals xs us)(a:List Nat):Vals (a.filterMap λk=>xs[k]?) (a.filterMap λk=>us[k]?):=by
 induction a with
 | nil=>exact .nil
 | cons i a ih =>
  cases e:xs[i]? with
  | none =>
   have e2:us[i]?=none:=List.getElem?_eq_none_iff.mpr (by rw[<- r.length];exact List.getElem?_eq_none_iff.mp e)
   rw[List.filterMap_cons_none e,List.filterMap_cons_none e2];exact ih
  | some x =>
   obtain⟨u,e2,b⟩:=r.get e;rw[List.filterMap_cons_some e,List.filterMap_cons_some e2];exact .cons b ih
theorem iX (items:Array Value):slicePick items none none (some 2)=((List.range ((items.size+1) / 2)).filterMap λk=>items.toList[2*k]?).toArray:=by
 have b:sliceBounds none none (some 2) items.size=(0,(items.size:Int),2):=rfl
 have c:sliceRange 0 (items.size:Int) 2=(List.range ((items.size+1) / 2)).map λk=>2*k:=by
  unfold sliceRange;have a:(2:Int) > 0:=by decide
  by_cases h:(0:Int)<items.size
  ·have e:(((items.size:Int)-0+2-1) / 2).toNat=(items.size+1) / 2:=by lia
   simp only[a,Yu,h,e];apply Zw;intro k _;lia
  ·have e:items.size=0:=by simp_all
   rw[e];rfl
 unfold slicePick;rw[b];show ((sliceRange 0 (items.size:Int) 2).filterMap (items[·]?)).toArray=_;rw[c,Za];refine JS List.toArray (wM _ λk _=>?_);simp
theorem kJ (items:Array Value):slicePick items (some 1) none (some 2)=((List.range (items.size / 2)).filterMap λk=>items.toList[1+2*k]?).toArray:=by
 have b:sliceBounds (some 1) none (some 2) items.size=(max 0 (min 1 (items.size:Int)),(items.size:Int),2):=rfl
 have c:sliceRange (max 0 (min 1 (items.size:Int))) (items.size:Int) 2=(List.range (items.size / 2)).map λk=>1+2*k:=by
  unfold sliceRange;have a:(2:Int) > 0:=by decide
  by_cases h:(1:Int)<items.size
  ·have m:max 0 (min 1 (items.size:Int))=1:=by lia
   rw[m];have e:(((items.size:Int)-1+2-1) / 2).toNat=items.size / 2:=by lia
   simp only[a,Yu,h,e];apply Zw;intro k _;lia
  ·have e:items.size=0\/items.size=1:=by lia
   rcases e with e|e<;>rw[e]<;>rfl
 unfold slicePick;rw[b];show ((sliceRange (max 0 (min 1 (items.size:Int))) (items.size:Int) 2).filterMap (items[·]?)).toArray=_;rw[c,Za];refine JS List.toArray (wM _ λk _=>?_);simp
noncomputable def zam (K:PySem.W.Frag)(e:TE)(d ts:TO):TE:=λσ H Q=>e σ H λx g=>d σ g λlo f=>ts σ f λo b=>o=some 2/\∃ off a c,((lo=none/\off=0)\/(lo=some 1/\off=1))/\x=.ref a/\SqL K b a c/\∀ p,b p=none->Q (.ref p) (upd b p (.lst (by2 off c)))
theorem qD {X:Cx}{e st:Expr}{lo:Option Expr}{p:TE}{n ts:TO}{t pos:Pos}(L:PE X e p)(K:PO X lo n)(G:PO X (some st) ts):PE X (.Subscript e (.Slice lo none (some st) t) pos) (zam X.K p n ts):=by
 intro pins s σ H Q I h;refine Subscript_ (thn (L pins s σ H _ I h) λv y ⟨x,R,N,A,C⟩=>wpAny_Slice (thn (K pins y σ R _ N C) λm z ⟨ol,S,O,E,D⟩=>?_));rw[evalPart_none];refine J8 (thn (G pins z σ S _ O D) λg d ⟨o,P,M,po,B⟩=>?_);obtain⟨rfl,off,a,l,f,rfl,J,k⟩:=B;cases A;have i:Inv X pins σ P { d with heap:=d.heap.push { cls:=.type "slice",data:=.fields #[m,.none,g] } }:=M.kept (t':=d.toks) λb ob q=>J7 _ q;obtain⟨c,r,u,T⟩:=i.list J;have hlen:=r.length;show wpAny (model X.prog X.w) X.A (subscriptTail e (.Slice lo none (some st) t) (.ref a) (.ref d.heap.objs.size)) (EP X pins σ Q) X.xe { d with heap:=d.heap.push { cls:=.type "slice",data:=.fields #[m,.none,g] } };refine tail_any (ops:=[.ref a,.ref d.heap.objs.size]) u.isList.typeIs slot_list_getitem.lookup (wpAny_getItem_list_slice u.isList (Heap.IsSliceOf.new ..) E .none po (by simp) ?_ (by rw[Jm]<;>simp_all)) (by with_unfolding_all rfl)
 have F:slicePick c.toArray ol none (some 2)=((List.range ((c.length+1-off) / 2)).filterMap λk=>c[off+2*k]?).toArray:=by
  rcases f with ⟨rfl,rfl⟩|⟨rfl,rfl⟩
  ·rw[iX];simp only[Jm,Nat.sub_zero,Yz]
  ·rw[kJ];simp only[Jm,Nat.add_sub_cancel]
 rw[F];have j:off<=1:=by rcases f with ⟨_,rfl⟩|⟨_,rfl⟩<;>decide
 have w:Vals (by2 off l) ((List.range ((c.length+1-off) / 2)).filterMap λk=>c[off+2*k]?):=by
  have:=lU r ((List.range ((c.length+1-off) / 2)).map λk=>off+2*k);rw[Za,Za]at this;unfold by2;rw[hlen];exact this
 refine⟨.ref _,_,i.laid (t':=d.toks) (o:=.lst (by2 off l)) (λb ob q=>J7 _ q) (Jc _) ⟨by rw[qT off j];omega,_,0,w,?_⟩,rfl,k _ (i.hok.fresh (Jc _))⟩;exact Jv _ rfl
end L2
namespace L2
open PySem PySem.Spec PyProof.Rows Own Bn
noncomputable def vn (ts:List Int):Int:=ts.foldl (λa t=>2*a+t) 0
noncomputable def vg (a:Int)(xs:List Int):Int:=xs.foldl (λa x=>1000*a+x) a
noncomputable def Bits (ts:List Int):Prop:=∀ t∈ts,t=0\/t=1
noncomputable def Small (xs:List Int):Prop:=∀ x∈xs,0<=x/\x<1000
theorem jX {a b c d m:Int}(e:0<m)(j:0<=c)(i:c<m)(g:0<=d)(f:d<m):compare (m*a+c) (m*b+d)=(compare a b).then (compare c d):=by
 rcases Int.lt_trichotomy a b with h|h|h
 ·have:m*a+c<m*b+d:=by
   have:=Int.mul_le_mul_of_nonneg_left (show a+1<=b by lia) (Int.le_of_lt e);rw[Int.mul_add,Int.mul_one]at this;lia
  rw[ZJ.mpr this,ZJ.mpr h];rfl
 ·subst h
  rw[Wa.mpr (rfl:a=a)];show _=compare c d;rcases Int.lt_trichotomy c d with z|z|z
  ·rw[ZJ.mpr z,ZJ.mpr (by simp_all)]
  ·rw[z]
   rw[Wa.mpr (rfl:d=d),Wa.mpr rfl]
  ·rw[ZK.mpr z,ZK.mpr (by simp_all)]
 ·have:m*b+d<m*a+c:=by
   have:=Int.mul_le_mul_of_nonneg_left (show b+1<=a by lia) (Int.le_of_lt e);rw[Int.mul_add,Int.mul_one]at this;lia
  rw[ZK.mpr this,ZK.mpr h];rfl
theorem tR {m:Int}(d:0<m):∀ {x y:List Int}{a b:Int},x.length=y.length->(∀ t∈x,0<=t/\t<m)->(∀ t∈y,0<=t/\t<m)->compare (x.foldl (λa t=>m*a+t) a) (y.foldl (λa t=>m*a+t) b)=(compare a b).then (cmpR x y)
 | [],[],a,b,_,_,_=>by
  show compare a b=(compare a b).then .eq
  cases compare a b<;>rfl
 | s::x,t::y,a,b,l,f,e=>by
  have h:=f s (.head _);have g:=e t (.head _);show compare (x.foldl _ (m*a+s)) (y.foldl _ (m*b+t))=(compare a b).then ((compare s t).then (cmpR x y));rw[tR d (by simpa using l) (λu c=>f u (.tail _ c)) λu c=>e u (.tail _ c),jX d h.1 h.2 g.1 g.2];cases compare a b<;>rfl
theorem lP {x:List Int}(h:Bits x):∀ t∈x,0<=t/\t<2:=λt a=>by rcases h t a with e|e<;>simp_all
theorem gq {x y:List Int}(l:x.length=y.length)(b:Bits x)(a:Bits y):compare (vn x) (vn y)=cmpR x y:=by
 unfold vn;rw[tR (by decide) l (lP b) (lP a)];rfl
theorem gp {a b:Int}{x y:List Int}(l:x.length=y.length)(d:Small x)(c:Small y):compare (vg a x) (vg b y)=(compare a b).then (cmpR x y):=tR (by decide) l d c
noncomputable def stK (ts is:List Int):KN:=.inr ts::is.map Sum.inl
structure StOk (F c:Nat) (k:KN):Prop where
 ex:∃ ts is,k=stK ts is/\ts.length=F/\Bits ts/\is.length=c/\Small is
noncomputable def tQ:KN->Int
 | .inr ts::r=>vg (vn ts) (r.map λx=>match x with|.inl i=>i|.inr _=>0)
 | _=>0
theorem qO (ts is:List Int):tQ (stK ts is)=vg (vn ts) is:=by
 unfold stK tQ;show vg _ ((is.map Sum.inl).map _)=_;rw[YX]
 congr 1
 exact List.map_id is
noncomputable def rkH (H:Hp):V->Int
 | .ref a=>match H a with
  | some (.tup (b::r))=>vg (vn (kE H b)) (r.map sv)
  | _=>0
 | _=>0
theorem w8 {H:Hp}{ts is:List Int}{b:Addr}(h:NKey H (stK ts is) b):∃ t,H b=some (.tup (.ref t::is.map V.int))/\H t=some (.tup (ts.map V.int)):=by
 obtain⟨d,j,a⟩:=h;obtain⟨v,r,e,⟨t,c,f⟩,g⟩:=(show ∃ v r,d=v::r/\(∃ t,v=.ref t/\H t=some (.tup (ts.map V.int)))/\NIvs H (is.map Sum.inl) r from a)
 have key:∀ {is:List Int}{r:List V},NIvs H (is.map Sum.inl) r->r=is.map V.int:=by
  intro is
  induction is with
  | nil=>intro r h;exact h
  | cons i is ih =>
   intro r h;obtain⟨v,q,e,c,a⟩:=(show ∃ v q,r=v::q/\v=.int i/\NIvs H (is.map Sum.inl) q from h);rw[e,c,ih a];rfl
 exact⟨t,by rw[j,e,c,key g],f⟩
theorem tU {H:Hp}{ts is:List Int}{b t:Addr}(c:H b=some (.tup (.ref t::is.map V.int)))(a:H t=some (.tup (ts.map V.int))):NKey H (stK ts is) b:=by
 have key:∀ is:List Int,NIvs H (is.map Sum.inl) (is.map V.int):=by
  intro is
  induction is with
  | nil=>exact rfl
  | cons i is ih=>exact⟨_,_,rfl,rfl,ih⟩
 exact⟨_,c,⟨_,_,rfl,⟨t,rfl,a⟩,key is⟩⟩
theorem rh {H:Hp}{ts is:List Int}{b:Addr}(h:NKey H (stK ts is) b):rkH H (.ref b)=tQ (stK ts is):=by
 obtain⟨t,c,a⟩:=w8 h
 show (match H b with
  | some (.tup (b::r))=>vg (vn (kE H b)) (r.map sv)
  | _=>0)=_
 rw[c];show vg (vn (kE H (.ref t))) ((is.map V.int).map sv)=_;rw[vB a,qO,YX]
 congr 1
 exact List.map_id is
theorem ae {H:Hp}{F c:Nat}{x y:KN}{a b:Addr}(r:StOk F c x)(o:StOk F c y)(ha:NKey H x a)(hb:NKey H y b):Lx H 2 (.ref a) (.ref b) (compare (rkH H (.ref a)) (rkH H (.ref b))):=by
 obtain⟨k,is,rfl,E,v,D,s⟩:=r.ex;obtain⟨j,h,rfl,I,z,G,w⟩:=o.ex;rw[rh ha,rh hb,qO,qO,gp (by lia) s w,gq (by lia) v z];obtain⟨t,C,e2⟩:=w8 ha;obtain⟨u,B,A⟩:=w8 hb;have l:is.length=h.length:=by lia
 rw[show (cmpR k j).then (cmpR is h)=(cmpR k j::List.zipWith compare is h).foldr Ordering.then .eq by rw[List.foldr_cons,va l]];refine .row C B (by rw[JV,JV,Jn,List.length_zipWith];simp_all) (by rw[JV,JV,Jn,List.length_zipWith];simp_all) λi p q d f e g=>?_
 cases i with
 | zero=>cases f;cases e;cases g;exact md e2 A (by lia)
 | succ i =>
  rw[List.getElem?_cons_succ]at f e g;rw[JZ]at f e;obtain⟨p,n,rfl⟩:=Y6.mp f;obtain⟨q,m,rfl⟩:=Y6.mp e;rw[List.getElem?_zipWith,n,m]at g;cases g;exact .int 1 p q
noncomputable def KeysAt (H:Hp)(bs:List Addr)(ks:List KN):Prop:=Paired (λb k=>NKey H k b) bs ks
theorem KeysAt.tups {H H':Hp}(t:Tups H H'){bs:List Addr}{ks:List KN}(h:KeysAt H bs ks):KeysAt H' bs ks:=xF (λ_ _ z=>z.tups t) h
theorem KeysAt.mem {H:Hp}{bs:List Addr}{ks:List KN}(h:KeysAt H bs ks):∀ b∈bs,∃ k∈ks,NKey H k b:=by
 induction h with
 | nil=>intro b a;cases a
 | cons q _ ih =>
  intro b a;rcases Jq.mp a with rfl|z
  ·exact⟨_,.head _,q⟩
  ·obtain⟨k,c,e⟩:=ih b z
   exact⟨k,.tail _ c,e⟩
theorem LvE.keys {H:Hp}{xs:KVN}{ps:LvL}(h:LvE H xs ps):KeysAt H (xs.map λp=>p.2.1) (ps.map (·.1)):=by
 obtain⟨b,pr⟩:=h
 induction pr with
 | nil=>exact .nil
 | @cons x p xs ps a t ih =>
  refine .cons ?_ (ih λy c=>b y (.tail _ c));show NKey H p.1 x.2.1;rw[<- a.1];exact b x (.head _)
theorem jI {H:Hp}{bs cs:List Addr}(p:cs.Perm bs):∀ {ks:List KN},KeysAt H bs ks->∃ a,KeysAt H cs a/\a.Perm ks:=by
 induction p with
 | nil=>intro ks h;exact⟨ks,h,.refl _⟩
 | cons b _ ih =>
  intro ks h
  cases h with
  | cons q t =>
   obtain⟨a,e,d⟩:=ih t
   exact⟨_,.cons q e,d.cons _⟩
 | swap b c l =>
  intro ks h
  cases h with
  | cons q t=>cases t with
   | cons i t=>exact⟨_,.cons i (.cons q t),.swap _ _ _⟩
 | trans _ _ g f =>
  intro ks h;obtain⟨a,e,d⟩:=f h;obtain⟨is,k,j⟩:=g e;exact⟨is,k,j.trans d⟩
theorem oA {H:Hp}{F c:Nat}{bs:List Addr}{ks:List KN}(h:KeysAt H bs ks)(ok:∀ k∈ks,StOk F c k)(s:(bs.map V.ref).Pairwise λx y=>rkH H x<=rkH H y):ks.Pairwise λx y=>tQ x<=tQ y:=by
 induction h with
 | nil=>exact .nil
 | @cons b k bs ks q t ih =>
  rw[Y1,List.pairwise_cons]at s;refine List.pairwise_cons.mpr ⟨λj a=>?_,ih (λj a=>ok j (.tail _ a)) s.2⟩
  have back:∀ {bs:List Addr}{ks:List KN},KeysAt H bs ks->∀ j∈ks,∃ b∈bs,NKey H j b:=by
   intro bs ks h
   induction h with
   | nil=>intro j a;cases a
   | cons q _ ih =>
    intro j a;rcases Jq.mp a with rfl|z
    ·exact⟨_,.head _,q⟩
    ·obtain⟨b,g,e⟩:=ih j z
     exact⟨b,.tail _ g,e⟩
  obtain⟨d,f,e⟩:=back t j a;have:=s.1 (.ref d) (JA.mpr ⟨d,f,rfl⟩);obtain⟨l,is,rfl,_⟩:=(ok k (.head _)).ex;obtain⟨i,m,rfl,_⟩:=(ok j (.tail _ a)).ex
  rwa [rh q,rh e]at this
noncomputable def cu (P:Program)(w:World):List V->Hp->VK->Prop:=λe H Q=>∃ a b d,e=[.ref a]/\H a=some (DN P w a b)/\b.length<=10000/\RkN H (b.map λp=>.ref p.2.1) d/\∀ (l:Addr) (c:List V),H l=none->c.Perm (b.map λp=>.ref p.2.1)->c.Pairwise (λx y=>d x<=d y)->Q (.ref l) (upd H l (.lst c))
theorem tw {X:Cx}(b:X.calm=true)(a:X.A.units+64<cLine):CallR X (.builtin "sorted") (cu X.prog X.w):=qR b a
theorem iQ {H:Hp}{F c:Nat}{xs:KVN}{lv:LvL}(h:LvE H xs lv)(ok:∀ p∈lv,StOk F c p.1):RkN H (xs.map λp=>.ref p.2.1) (rkH H):=by
 refine⟨2,by decide,λx a=>?_⟩
 have at_:∀ x∈xs.map λp=>V.ref p.2.1,∃ b k,x=.ref b/\NKey H k b/\StOk F c k:=λx a=>by
  obtain⟨p,o,rfl⟩:=JA.mp a;obtain⟨k,r,e⟩:=h.keys.mem p.2.1 (JA.mpr ⟨p,o,rfl⟩);obtain⟨q,n,rfl⟩:=JA.mp r;exact⟨_,_,rfl,e,ok q n⟩
 obtain⟨b,k,rfl,g,f⟩:=at_ x a;refine⟨?_,λy m=>?_⟩
 ·obtain⟨v,is,rfl,_⟩:=f.ex
  obtain⟨t,u,s⟩:=w8 g;exact⟨b,t,_,_,rfl,u,s⟩
 ·obtain⟨d,j,rfl,l,i⟩:=at_ y m
  exact ae f i g l
theorem LvE.len_le {H:Hp}{xs:KVN}{ps:LvL}(h:LvE H xs ps){n:Nat}(l:ps.length<=n):xs.length<=n:=by rw[h.len];exact l
theorem nK {α β:Type}{f:α->β}{ys l:List β}(p:ys.Perm l):∀ {zs:List α},l=zs.map f->∃ cs:List α,ys=cs.map f/\cs.Perm zs:=by
 induction p with
 | nil=>intro zs e;cases zs with
  | nil=>exact⟨[],rfl,.refl _⟩
  | cons a b=>cases e
 | cons b _ ih =>
  intro zs e
  cases zs with
  | nil=>cases e
  | cons a zs =>
   injection e with i e2;obtain⟨cs,h,g⟩:=ih e2
   exact⟨a::cs,by rw[h,i];rfl,g.cons _⟩
 | swap b c l =>
  intro zs e
  cases zs with
  | nil=>cases e
  | cons a zs=>cases zs with
   | nil=>cases e
   | cons d zs =>
    injection e with i e2;injection e2 with e2 o
    exact⟨d::a::zs,by rw[i,e2,o];rfl,.swap _ _ _⟩
 | trans _ _ k j =>
  intro zs e;obtain⟨cs,h,g⟩:=j e;obtain⟨ds,n,m⟩:=k h;exact⟨ds,n,m.trans g⟩
end L2
namespace L2
open PySem PySem.Spec PyProof.Rows Own
theorem aj {P:Program}{w:World}{d:Addr}{o:Obj}{xs:KVN}{g:TG}{tt:TT}{e:TE}{l:Addr}{σ:St}{H:Hp}{Q:VK}(c:Nat->List V->St->Hp->Prop)(s:c 0 [] σ H)(r:∀ i acc σ H,c i acc σ H->H l=some (.lst acc)/\H d=some (.frz o (DN P w d xs)))(n:∀ (i:Nat) acc σ H p,xs[i]?=some p->c i acc σ H->g (.ref p.2.1) σ H λa u=>tt a u λb j=>if b=true then e a j λz h=>h l=some (.lst acc)/\acc.length<sizeLine/\Nx xs.length i (c (i+1) (acc++[z]) a (upd h l (.lst (acc++[z])))) else Nx xs.length i (c (i+1) acc a j))(hd:∀ acc σ H,c xs.length acc σ H->Q (.ref l) H):∃ W:Nat->Nat->List V->St->Hp->Prop,(∃ m,W 0 m [] σ H)/\LCW (Itn P w d o xs) g tt e l Q W:=by
 refine⟨λi m acc σ H=>m=xs.length-i/\i<=xs.length/\c i acc σ H,⟨_,rfl,JN _,s⟩,λi m acc σ H ⟨em,hi,pv⟩=>?_⟩;subst em;obtain⟨k,f⟩:=r i acc σ H pv;refine⟨k,?_⟩;by_cases lt:i<xs.length
 ·refine .inr ⟨⟨f,lt⟩,λx v ⟨t,p,q,e2⟩=>?_⟩
  subst t e2;exact n i acc σ _ p q pv
 ·obtain rfl:i=xs.length:=by lia
  exact .inl ⟨⟨f,rfl⟩,hd acc σ H pv⟩
theorem sH (p:KN × Addr × V)(xs:KVN)(k:KN):yb (p::xs) k=if p.1=k then some p.2.2 else yb xs k:=by
 unfold yb;rw[ZU];by_cases z:p.1=k
 ·rw[Jx z,Jg z];rfl
 ·rw[Jr z,Je z]
theorem kG (xs:KVN)(k:KN)(b:Addr)(v:V):(yx xs k b v).map (·.1)=if (yb xs k).isSome then xs.map (·.1) else xs.map (·.1)++[k]:=by
 unfold yx;by_cases z:(yb xs k).isSome=true
 ·rw[Jg z,Jg z,YX]
  refine Zw λy _=>?_;show (if y.1=k then (y.1,y.2.1,v) else y).1=y.1;split<;>rfl
 ·rw[Je z,Je z,JU];rfl
theorem yu {xs:KVN}{k:KN}:(yb xs k).isSome=true↔k∈xs.map (·.1):=by
 induction xs with
 | nil=>exact⟨λh=>(nomatch h),λh=>(nomatch h)⟩
 | cons p xs ih =>
  rw[sH,Y1,Jq];by_cases z:p.1=k
  ·rw[Jg z];exact⟨λ_=>.inl z.symm,λ_=>rfl⟩
  ·rw[Je z,ih]
   exact⟨.inr,λh=>h.elim (λq=>absurd q.symm z) id⟩
theorem KsIn.put {H:Hp}{xs:KVN}{k:KN}{b:Addr}{v:V}(h:KsIn H xs)(hb:NKey H k b):KsIn H (yx xs k b v):=by
 intro x a;unfold yx at a;split at a
 ·obtain⟨y,c,rfl⟩:=JA.mp a
  split
  ·exact h y c
  ·exact h y c
 ·rcases Ju.mp a with z|z
  ·exact h x z
  ·rw[Jd.mp z];exact hb
end L2
namespace Bn
open PySem PySem.Spec PyProof.Rows L2 Own
noncomputable abbrev Ent:=(Nat × Nat) × Int
noncomputable def rkK (k:Nat × Nat):Int:=(k.1:Int)*1000+(k.2:Int)
noncomputable def EntAt (H:Hp)(x:V)(e:Ent):Prop:=∃ a b,x=.ref a/\H a=some (.tup [.ref b,.int e.2])/\H b=some (.tup [.int (e.1.1:Nat),.int (e.1.2:Nat)])
open Classical in
noncomputable def rkE (H:Hp)(x:V):Int:=if h:∃ e,EntAt H x e then rkK h.choose.1 else 0
end Bn
namespace L2
open PySem PySem.Spec PyProof.Rows Own Bn
inductive PlO:HO->Prop
 | tup (xs:List V):PlO (.tup xs)
 | lst (xs:List V):PlO (.lst xs)
 | dK:PlO (.dK [])
noncomputable def KpN (H H':Hp):Prop:=∀ b o,H b=some o->PlO o->H' b=some o
theorem KpN.same {H H':Hp}(s:Same H H'):KpN H H':=λb o e _=>s b o e
theorem KpN.trans {H c a:Hp}(x:KpN H c)(y:KpN c a):KpN H a:=λb o e n=>y b o (x b o e n) n
theorem KpN.but {P:Addr}{q:Array Value}{H H':Hp}(b:But P H H')(a:H P=some (.tbl q)):KpN H H':=λc o e n=>b c o e (yh e a λz=>by subst z;cases n)
theorem KpN.strip {H:Hp}{cl:List (Str × Addr)}(fz:CellsFz cl H):KpN H (strip cl H):=λb o e n=>by
 rw[yF]
 ·exact e
 ·intro a
  obtain⟨u,q⟩:=fz b a;rw[e]at q;cases q;cases n
theorem KpN.tups {H H':Hp}(k:KpN H H'):Tups H H':=λb a e=>k b _ e (.tup a)
noncomputable instance memN (k:KN) (ks:List KN):Decidable (k∈ks):=decidable_of_iff (ks.any (λx=>decide (x=k))=true) (by simp)
noncomputable def ddN (ks:List KN)(k:KN):List KN:=if k∈ks then ks else ks++[k]
noncomputable def ddL (ss:List KN):List KN:=ss.foldl ddN []
theorem oN (ss:List KN)(s:KN):ddL (ss++[s])=ddN (ddL ss) s:=by unfold ddL;rw[List.foldl_append];rfl
theorem lI (ss:List KN):(∀ x,x∈ddL ss↔x∈ss)/\(ddL ss).length<=ss.length/\((ddL ss).length=ss.length↔ss.Nodup):=by
 rcases List.eq_nil_or_concat ss with rfl|⟨ss,s,rfl⟩
 ·exact⟨λx=>Iff.rfl,Jc _,⟨λ_=>Zp,λ_=>rfl⟩⟩
 ·rw[List.concat_eq_append]
  obtain⟨b,k,j⟩:=lI ss;rw[oN]
  have f:(ss++[s]).Nodup↔ss.Nodup/\s∉ss:=by
   rw[W9];constructor
   ·rintro⟨a,_,c⟩
    exact⟨a,λz=>c s z s (.head _) rfl⟩
   ·rintro⟨a,c⟩
    exact⟨a,JY.mpr ⟨JJ,Zp⟩,λx i y g e=>c (by rw[<- Jd.mp g,<- e];exact i)⟩
  unfold ddN;by_cases c:s∈ddL ss
  ·rw[Jg c]
   have d:=(b s).mp c;refine⟨λx=>?_,by rw[Jb];show _<=_+1;lia,?_⟩
   ·rw[b,Ju,Jd]
    exact⟨.inl,λz=>z.elim id λy=>y ▸ d⟩
   ·rw[f,Jb]
    exact⟨λz=>by have:(ddL ss).length=ss.length+1:=z;lia,λz=>absurd d z.2⟩
  ·rw[Je c]
   have d:s∉ss:=λz=>c ((b s).mpr z);refine⟨λx=>?_,by rw[Jb,Jb];show _+1<=_+1;lia,?_⟩
   ·rw[Ju,Ju,b]
   ·rw[f,Jb,Jb,<- j]
    exact⟨λz=>⟨by have:(ddL ss).length+1=ss.length+1:=z;lia,d⟩,λz=>by rw[z.1]⟩
termination_by ss.length
decreasing_by rename_i h;rw[h,List.length_concat];exact Nat.lt_succ_self _
noncomputable def xa (a:V->Option KN)(xs:List V)(b:KN)(moves:List Nat)(step:KN->Nat->Option KN):Bool:=match xs.mapM a with
 | none=>false
 | some ss=>(decide ss.Nodup && decide (b∈ss)) && ss.all λs=>moves.all λm=>match step s m with|none=>false|some t=>decide (t∈ss)
theorem xZ {a:V->Option KN}{xs:List V}{b:KN}{moves:List Nat}{step:KN->Nat->Option KN}(h:xs.mapM a=none):xa a xs b moves step=false:=by
 unfold xa;rw[h]
theorem xD {a:V->Option KN}{xs:List V}{ss:List KN}{b:KN}{moves:List Nat}{step:KN->Nat->Option KN}(h:xs.mapM a=some ss):xa a xs b moves step=((decide ss.Nodup && decide (b∈ss)) && ss.all λs=>moves.all λm=>match step s m with|none=>false|some t=>decide (t∈ss)):=by
 unfold xa;rw[h]
theorem sZ {α β:Type}{f:α->Option β}{xs:List α}:xs.mapM f=none↔∃ x∈xs,f x=none:=by
 induction xs with
 | nil=>simp
 | cons x xs ih =>
  rw[List.mapM_cons]
  cases e:f x with
  | none=>exact⟨λ_=>⟨x,.head _,e⟩,λ_=>rfl⟩
  | some y =>
   cases g:xs.mapM f with
   | none =>
    obtain⟨z,a,q⟩:=ih.mp g
    exact⟨λ_=>⟨z,.tail _ a,q⟩,λ_=>rfl⟩
   | some b =>
    refine⟨λz=>(by cases z),λ⟨z,a,q⟩=>?_⟩;rcases Jq.mp a with rfl|w
    ·rw[e]at q;cases q
    ·rw[ih.mpr ⟨z,w,q⟩]at g;cases g
theorem xC {α β:Type}{f:α->Option β}:∀ {xs:List α}{ys:List β},xs.mapM f=some ys->xs.length=ys.length/\∀ (i:Nat) x,xs[i]?=some x->∃ y,ys[i]?=some y/\f x=some y
 | [],ys,h=>by
  rw[List.mapM_nil]at h;cases h
  exact⟨rfl,λi x e=>by cases e⟩
 | x::xs,ys,h=>by
  rw[List.mapM_cons]at h
  cases e:f x with
  | none=>rw[e]at h;cases h
  | some y =>
   rw[e]at h
   cases g:xs.mapM f with
   | none=>rw[g]at h;cases h
   | some zs =>
    rw[g]at h;cases h;obtain⟨c,b⟩:=xC g;refine⟨JS (· + 1) c,λi u a=>?_⟩
    cases i with
    | zero=>cases a;exact⟨y,rfl,e⟩
    | succ i=>exact b i u a
section
variable {K:PySem.W.Frag}{a:Addr}{xs:List V}{g g1:TG}{wi1:TI}{tt:TT}{te tk tv:TE}{l:Addr}{σ:St}{H:Hp}{Q:VK}
theorem eV (c:Nat->List V->St->Hp->Prop)(z:c 0 [] σ H)(w:∀ i acc σ H,c i acc σ H->H l=some (.lst acc)/\SqT K H a xs)(v:∀ i acc σ H x,xs[i]?=some x->c i acc σ H->g x σ H λb q=>wi1 b q λn o =>
   ∃ d:Nat->Nat->List V->St->Hp->Prop,(∃ k,d 0 k acc b o)/\LCW1 n g1 tt te l (λac h G=>Nx xs.length i (c (i+1) ac h G)) d)(hd:∀ acc σ H,c xs.length acc σ H->Q (.ref l) H):∃ W:Nat->Nat->List V->St->Hp->Prop,(∃ m,W 0 m [] σ H) /\
   ∀ i m acc f H',W i m acc f H'->H' l=some (.lst acc)/\(((Itt K a).stop i H'/\Q (.ref l) H')\/((Itt K a).go i H'/\∀ x r,(Itt K a).yld i H' x r->g x f r λb q=>wi1 b q λn o =>
    ∃ d:Nat->Nat->List V->St->Hp->Prop,(∃ k,d 0 k acc b o)/\LCW1 n g1 tt te l (λac h G=>∃ t,t<m/\W (i+1) t ac h G) d)):=by
 refine⟨λi m acc σ H=>m=xs.length-i/\i<=xs.length/\c i acc σ H,⟨xs.length,by simp,JN _,z⟩,?_⟩;rintro i m acc σ H ⟨rfl,hi,p⟩;obtain⟨u,j⟩:=w i acc σ H p;refine⟨u,?_⟩;by_cases s:i<xs.length
 ·refine .inr ⟨⟨xs,xs[i],j,J9 s⟩,λx r ⟨e,y⟩=>?_⟩
  subst e;exact v i acc σ _ x (y xs j) p
 ·obtain rfl:i=xs.length:=by lia
  exact .inl ⟨⟨xs,j,Jc _⟩,hd acc σ H p⟩
theorem bn {P:Program}{w:World}(d:Nat->KVN->St->Hp->Prop)(q:d 0 [] σ H)(o:∀ i acc σ H,d i acc σ H->SqT K H a xs)(n:∀ i x acc σ H,xs[i]?=some x->d i acc σ H->g x σ H λc s=>tk c s λy r=>tv c r λv f=>∃ b k,y=.ref b/\f l=some (DN P w l acc)/\KsIn f acc/\NKey f k b/\acc.length<sizeLine/\Nx xs.length i (d (i+1) (yx acc k b v) c (upd f l (DN P w l (yx acc k b v)))))(hd:∀ acc σ H,d xs.length acc σ H->Q (.ref l) H):∃ W:Nat->Nat->KVN->St->Hp->Prop,(∃ m,W 0 m [] σ H)/\DCW P w (Itt K a) g tk tv l Q W:=by
 refine⟨λi m acc σ H=>m=xs.length-i/\i<=xs.length/\d i acc σ H,⟨_,rfl,JN _,q⟩,?_⟩;rintro i m acc σ H ⟨rfl,hi,p⟩;have h:=o i acc σ H p;by_cases j:i<xs.length
 ·refine .inr ⟨⟨xs,xs[i],h,J9 j⟩,λx t ⟨e,y⟩=>?_⟩
  subst e;exact n i x acc σ _ (y xs h) p
 ·obtain rfl:i=xs.length:=by lia
  exact .inl ⟨⟨xs,h,Jc _⟩,hd acc σ H p⟩
end
noncomputable def uV (P:Program)(w:World)(K:PySem.W.Frag)(q:Lam)(i:List Str)(g:LSpc)(L:Lam)(fr:List Str)(lsp:LSpc):Sp:=λp H Q _=>∃ x fs k mv f e a j moves cl vals step Ok n c,
 p=[x,.ref fs,.ref k,.ref mv,.ref f]/\e.map (·.1)=i/\LamAt H fs q e a/\NKey H j k/\Way K H mv f L fr lsp cl vals step Ok moves n/\moves.length<=16/\AnyT K H x /\
 (∀ d,zY H x=some d->d.length<=500000/\∀ y∈d,(∀ h (l:VK),KpN H h->(∀ m,Same h m->l (.bl (c y).isSome) m)->g a [y] h l E0)/\∀ s,c y=some s->Ok s/\∃ b,y=.ref b/\NKey H s b) /\
 ∀ o,Same H o->Q (.bl (match zY H x with|none=>false|some d=>xa c d j moves step)) o
end L2
namespace Bn
open PySem L2 Own
noncomputable def Deep (K:PySem.W.Frag)(H:Hp):Nat->V->Prop
 | 0,x=>AnyT K H x
 | n+1,x=>AnyT K H x/\∀ xs,zY H x=some xs->xs.length<=1000/\∀ y∈xs,Deep K H n y
theorem Deep.any {K:PySem.W.Frag}{H:Hp}:∀ {n:Nat}{x:V},Deep K H n x->AnyT K H x
 | 0,_,h=>h
 | _+1,_,h=>h.1
theorem iP {K:PySem.W.Frag}{H H':Hp}{x:V}(s:Same H H')(a:AnyT K H x):zY H' x=zY H x:=by
 cases z:zY H x with
 | some e =>
  obtain⟨b,rfl,c⟩:=yI z
  exact yi (s _ _ c)
 | none =>
  cases y:zY H' x with
  | none=>rfl
  | some d =>
   obtain⟨b,rfl,c⟩:=yI y;obtain⟨T,ty,_⟩:=a
   cases ty with
   | tup h=>rw[yi h]at z;cases z
   | lst h=>rw[s _ _ h]at c;cases c
   | frz h=>rw[s _ _ h]at c;cases c
   | dK h=>rw[s _ _ h]at c;cases c
   | dT h=>rw[s _ _ h]at c;cases c
   | ins h=>rw[s _ _ h]at c;cases c
noncomputable def yL (H:Hp)(many b:Int)(x:V):Bool:=match zY H x with
 | some a=>decide ((a.length:Int)=many) && a.all (yn b)
 | none=>false
end Bn
namespace L2
open PySem PySem.Spec PyProof.Rows Own
theorem jG {P:Program}{w:World}{K:PySem.W.Frag}{mg mb:Str->Option Value}{CX:CXT}{k:Nat}{U a:Addr}{fd:FuncData}{x:Str}{sp:Sp}{f:Shared}{vs:List Value}{ns:List Int}(ts:List Addr)
  (W:K.In f.heap) (J:f.heap.Ns mainGlobals mg) (hb:f.heap.Ns builtinsNs mb) (ab:∀ x:Str,x≠"__name__"->mb x=bootBuiltins x) (Q:f.heap.NoLimit) (hg:f.gens = #[])
  (ha:f.heap.get? a=some { cls:=.type "list",data:=.seq vs.toArray }) (hi:IntsAre vs ns) (hl:ns.length<=sizeLine) (hr:Room k callerA)
  (B:∀ p∈ts,f.heap.get? p=some (PySem.W.tabObj #[])/\K.lookup p=none/\∃ c,PySem.W.codeHdIn K c p=true)
  (Z:∃ bm ob,mg "__builtins__" = some (.ref bm)/\bm≠builtinsNs/\f.heap.get? bm=some ob/\ob.cls=.type "module"/\ob.dict=some builtinsNs/\ob.data=.plain)
  (F:∀ base:Heap,K.In base->base.Ns mainGlobals mg->(∀ p∈ts,base.BuiltinsAt mg p)->FnOk P w K mg base CX k U fd [x] sp) (L:∀ (s:Shared) (u:Value),BindsTo s fd ⟨[u],[]⟩ [(x,u)])
  (Y:∀ H:Hp,SqL K H a (ns.map V.int)->(∀ p∈ts,H p=some (.tbl #[]))->sp [.ref a] H (λv _=>v=.bl true) λ_ _ _=>False)
  (ao:∀ H e i,CX [] H f (λ_ _ _=>False) e i->False) :
  codeAny (model P w) callerA (.call (.ref U) ⟨[.ref a],[]⟩) (λr i=>r=.ok (.ret (.bool true))/\OldK f.heap i.heap/\i.os=f.os/\AllBare i.gens) f:=by
 have rv:=sD hi;have O:=hi.length
 have aT:a∉ts:=λh=>by
  have:=(B a h).1;rw[ha]at this;cases this
 have core:∀ H:Hp,(∀ b,H b=none\/(b=a/\∃ o S,H b=some (.frz o (.lst S)))\/(b∈ts/\H b=some (.tbl #[])))->(∀ p∈ts,H p=some (.tbl #[]))->SqL K H a (ns.map V.int)->HOk P w H f.heap->(H a≠none->K.lookup a=none) ->
   codeAny (model P w) callerA (.call (.ref U) ⟨[.ref a],[]⟩) (λr i=>r=.ok (.ret (.bool true))/\OldK f.heap i.heap/\i.os=f.os/\AllBare i.gens) f:=by
  intro H R hT hS M hK;have g:∀ {b:Addr}{o:Obj},f.heap.get? b=some o->H b=none->(tZ f.heap H).get? b=some o:=λe n=>gX e n
  have X:∀ {b:Addr}{o:Obj}{D:Array DictEntry}{E:Nat},f.heap.get? b=some o->o.data=.dict D E->H b=none:=λ{b o D E} e d=>by
   rcases R b with z|⟨z,_⟩|⟨z,_⟩
   ·exact z
   ·rw[z,ha]at e
    cases e;cases (show Data.seq vs.toArray _=Data.dict D E from d)
   ·rw[(B b z).1]at e
    cases e;cases (show Data.fields #[]=Data.dict D E from d)
  have l:∀ {b:Addr}{m:Str->Option Value},f.heap.Ns b m->(tZ f.heap H).Ns b m:=λ{b m} ⟨o,D,E,e,d,r⟩=>⟨o,D,E,g e (X e d),d,r⟩
  have N:K.In (tZ f.heap H):=λb o e=>g (W b o e) (by
   rcases R b with z|⟨z,y⟩|⟨z,_⟩
   ·exact z
   ·obtain⟨o',S,q⟩:=y
    rw[z]at e q;rw[hK (by rw[q];simp)]at e;cases e
   ·rw[(B b z).2.1]at e;cases e)
  have hM:Mod K mg (tZ f.heap H):=⟨N,l J,⟨mb,l hb,ab⟩,let ⟨mc,h1,h2⟩:=Q;⟨mc,l h1,h2⟩⟩;have e0:Env0 P w K mg (tZ f.heap H) callerA [] f H:=⟨rfl,hM,λb o e=>eL e,Nat.le_of_eq (jO _ _),trivial,λb hb=>absurd (show b∈([]:List Addr) from hb) (by simp),M,.of_eq hg⟩
  have hB:∀ p∈ts,(tZ f.heap H).BuiltinsAt mg p:=λp C=>by
   obtain⟨bm,ob,b1,b2,I,b4,b5,t⟩:=Z;refine⟨bm,ob,b1,b2,λz=>?_,λz=>?_,g I ?_,b4,b5,t⟩
   ·obtain⟨og,D,E,e,d,_⟩:=J
    rw[<- z,I]at e;rw[<- Jt e,t]at d;cases d
   ·have e:=(B p C).1
    rw[<- z,I]at e;rw[Jt e]at t;cases t
   ·rcases R bm with z|⟨z,_⟩|⟨z,_⟩
    ·exact z
    ·rw[z,ha]at I
     rw[<- Jt I]at t;cases t
    ·rw[(B bm z).1]at I
     rw[<- Jt I]at t;cases t
  refine codeAny_mono ((F _ N (l J) hB).run callerA [] f H ⟨[.ref a],[]⟩ [.ref a] [.ref a] _ _ hr e0 (L f (.ref a)) (.cons rfl .nil) (Y H hS hT)) λr i h=>?_
  cases r with
  | error e=>exact(ao H e i h).elim
  | ok fl =>
   cases fl with
   | next=>exact False.elim h
   | brk=>exact False.elim h
   | cont=>exact False.elim h
   | ret u =>
    obtain⟨v,H',os,bare,un,A,r',q⟩:=h;have q':v=.bl true:=q;subst q';obtain rfl:u=Value.bool true:=r'
    have kept:∀ b o,f.heap.get? b=some o->b∉ts->i.heap.get? b=some o:=λb o e nb=>by
     rcases R b with z|⟨_,ob,S,z⟩|⟨z,_⟩
     ·exact un.keep b o e z (λy=>absurd (show b∈([]:List Addr) from y) (by simp)) (by simp)
     ·have z2:=un.frzs b ob _ z
      obtain⟨e1,_⟩:=M b _ z;obtain⟨e2,_⟩:=A b _ z2;rw[e]at e1;cases e1;exact e2
     ·exact absurd z nb
    have tabs:∀ b∈ts,∃ more,i.heap.get? b=some (PySem.W.tabObj (#[]++more)):=λb hb=>by
     obtain⟨more,z⟩:=un.tbls b _ (hT b hb);exact⟨more,A b _ z⟩
    refine⟨rfl,⟨λb o e=>?_,λb o e=>un.there b o e (by simp)⟩,os,bare⟩;by_cases hb:b∈ts
    ·obtain⟨t1,_,c,t3⟩:=B b hb
     rw[t1]at e;cases e;obtain⟨o2,ws,_,_,_,_,_,_,_,g1,g2,g3,g4,_⟩:=PySem.W.codeHd_of_K W t3;obtain⟨more,z⟩:=tabs b hb;exact .inr (.inl ⟨⟨c,o2,ws,g1,g2,g3,g4⟩,rfl,#[],more,rfl,z⟩)
    ·exact .inl (kept b o e hb)
 have tab:∀ {H:Hp}{p:Addr},p∈ts->ObjOk P w H f.heap p (.tbl #[]):=λC=>(B _ C).1
 cases T:K.lookup a with
 | some o =>
  have e:=W a o T;rw[ha]at e;cases e;refine core (λb=>if b∈ts then some (.tbl #[]) else none) (λb=>?_) (λp C=>Jg C) (.inr ⟨_,vs.toArray,_,T,rfl,rfl,rfl,by rw[Jm,O];exact hl,by simpa using rv⟩) (λb u z=>?_) λz=>absurd (Je aT) z
  ·by_cases hb:b∈ts
   ·exact .inr (.inr ⟨hb,Jg hb⟩)
   ·exact .inl (Je hb)
  ·by_cases hb:b∈ts
   ·have j:=(Jg hb).symm.trans z
    cases j;exact tab hb
   ·have j:=(Je hb).symm.trans z
    cases j
 | none =>
  refine core (λb=>if b∈ts then some (.tbl #[]) else if b=a then some (.frz { cls:=.type "list",data:=.seq vs.toArray } (.lst (ns.map V.int))) else none) (λb=>?_) (λp C=>Jg C) (.inl (.inr ⟨{ cls:=.type "list",data:=.seq vs.toArray },(Je aT).trans (Jg rfl)⟩)) (λb u z=>?_) λ_=>T
  ·by_cases hb:b∈ts
   ·exact .inr (.inr ⟨hb,Jg hb⟩)
   ·by_cases G:b=a
    ·exact .inr (.inl ⟨G,_,_,(Je hb).trans (Jg G)⟩)
    ·exact .inl ((Je hb).trans (Je G))
  ·by_cases hb:b∈ts
   ·have j:=(Jg hb).symm.trans z
    cases j;exact tab hb
   ·by_cases G:b=a
    ·have j:=((Je hb).trans (Jg G)).symm.trans z
     cases j;subst G;exact⟨ha,by rw[Jn];exact hl,vs,_,rv,ha⟩
    ·have j:=((Je hb).trans (Je G)).symm.trans z
     cases j
theorem jy {l:PySem.W.OpenLaw}{n k:Nat}{q:Program}{loose:List Str}{R:(Str->Option Value)->Heap->Prop}{C:World->Heap->Prop}{d:DefRec}{K:Params->PySem.W.Frag}{CX:CXT}{sp:PySem.W.Frag->Sp}{x:Str}(ts:List Addr)(hn:l.most=some n)(t:n<=sizeLine)(z:d.params.defaults=[])(J:Room k callerA)(N:∀ (w:World) (h:Heap),C w h->(K w.params).In h/\∀ p∈ts,h.get? p=some (PySem.W.tabObj #[]))(F:∀ (w:World) (mg:Str->Option Value) (i:Addr) (h:Heap),(K w.params).In h->h.Ns mainGlobals mg->mg d.name=some (.ref i)->(∀ p∈ts,(K w.params).lookup p=none/\∃ c,PySem.W.codeHdIn (K w.params) c p=true) /\
   ∃ fd:FuncData,(∀ (s:Shared) (u:Value),BindsTo s fd ⟨[u],[]⟩ [(x,u)]) /\
    ∀ base:Heap,(K w.params).In base->base.Ns mainGlobals mg->(∀ p∈ts,base.BuiltinsAt mg p)->FnOk l.prog w (K w.params) mg base CX k i fd [x] (sp (K w.params)))(r:∀ (K:PySem.W.Frag) (H:Hp) (a:Addr) (ns:List Int),ns.length<=n->SqL K H a (ns.map V.int)->(∀ p∈ts,H p=some (.tbl #[]))->sp K [.ref a] H (λv _=>v=.bl true) λ_ _ _=>False)(A:∀ (H:Hp) (s:Shared) (e:Value) (j:Shared),CX [] H s (λ_ _ _=>False) e j->False) :
  PySem.W.WalkO q loose R C l.row.toRowW d [] (λf vs=>PySem.call f vs):=by
 refine Att.attach_call hn z λw E b mg T i o pm cd doc a vs ns G Y U W S y g hints hlen L=>?_;obtain⟨D,I⟩:=N w _ Y;obtain⟨B,fd,M,Q⟩:=F w mg i _ D G.T.g y;exact jG ts D G.T.g G.T.b G.T.builtins G.T.nolimit L g hints (JK hlen t) J (λp m=>⟨I p m,(B p m).1,(B p m).2⟩) G.T.bmain Q M (λH P O=>r (K w.params) H a ns hlen P O) λH e j=>A H b e j
structure FunC (K:PySem.W.Frag) (x qual:Str) (st:Stmt) (f:Addr) (fd:FuncData) (c:Addr):Prop where
 ex:∃ (oc:Value) (od:Option Addr) (kV doc pm:Value) (an:Option Addr) (ct:Value) (osl:Array (Option Value)),
  fd=PySem.W.fnOf x qual (xP st) (yk st) (zN st) .none kV doc pm an (.ref c) ct/\K.lookup f=some ⟨oc,od,.func fd,osl⟩/\PySem.W.codeIn K (.ref c) qual=true
 kp:PySem.W.keepIn K (.ref f)=true
theorem FunC.ok {P:Program}{w:World}{K:PySem.W.Frag}{mg:Str->Option Value}{base:Heap}{x qual:Str}{st:Stmt}{f c:Addr}{fd:FuncData}{N ps:List Str}{k:Nat}{sp:Sp}(F:FunC K x qual st f fd c)(S:FnScope N ps (zN st))(len:∀ vs H Q E,sp vs H Q E->vs.length=ps.length)(a:∀ (A:Around) (outer:List Env) (s:Shared) (H:Hp) (vs:List V) (Q:VK) (E:XK),Room k (A.deeper (envOfC qual (zN st) s.heap.objs.size f (.ref c)))->sp vs H Q E ->
   ∃ t,PSs (oO CX0 P w K mg base N qual (zN st) f (.ref c) A outer s H E).nox (yk st) t/\t { nx:=λ_ i=>Q .non i,rt:=Q } (start N vs) H):FnOk P w K mg base CX0 (k+1) f fd ps sp:=by
 obtain⟨m,l,kV,doc,pm,an,n,j,rfl,e,d⟩:=F.ex;refine du e d S len λA outer s H vs Q E g b=>?_;obtain⟨t,h,q⟩:=a A outer s H vs Q E g b;exact⟨t,h.nox,q⟩
end L2
namespace L2
open PySem PySem.Spec PyProof.Rows Own Bn
noncomputable def xM (N:Nt)(ts:List Int)(lane:Nat):List Int:=(yP false N.forks ts lane N.forks.length).1
noncomputable def passE (N:Nt)(ts:List Int)(lane:Nat):Nat:=N.ends.idxOf (yP false N.forks ts lane N.forks.length).2
noncomputable def yS (N:Nt):KN->Nat->Option KN
 | [.inr ts,.inl r],m=>if ((passE N ts m:Nat):Int)=r then some (stK (xM N ts m) [(r+1)%(N.lanes:Nat)]) else none
 | _,_=>none
noncomputable def OkP (N:Nt)(k:KN):Prop:=∃ (a:List Int) (r:Nat),k=stK a [(r:Nat)]/\a.length=N.forks.length/\Bits a/\r<N.lanes
theorem OkP.st {N:Nt}(ok:Nt.Ok N){k:KN}(h:OkP N k):StOk N.forks.length 1 k:=by
 obtain⟨a,r,rfl,d,c,e⟩:=h;refine⟨a,[(r:Nat)],rfl,d,c,rfl,λx b=>?_⟩;rw[Jd.mp b];have:=ok.l16;lia
theorem sO (N:Nt)(ts:List Int)(lane:Nat):(xM N ts lane).length=ts.length:=wQ _
theorem ui {N:Nt}{ts:List Int}{lane:Nat}(h:Bits ts):Bits (xM N ts lane):=x4 h _
theorem qg {N:Nt}(ok:Nt.Ok N){s t:KN}{m:Nat}(h:OkP N s)(e:yS N s m=some t):OkP N t:=by
 obtain⟨a,r,rfl,d,c,f⟩:=h;have b:(if ((passE N a m:Nat):Int)=(r:Nat) then some (stK (xM N a m) [((r:Nat)+1)%(N.lanes:Nat)]) else none)=some t:=e;split at b
 ·cases b
  refine⟨xM N a m,(r+1)%N.lanes,?_,(sO _ _ _).trans d,ui c,Nat.mod_lt _ (by have:=ok.l1;lia)⟩;rw[Int.natCast_emod];rfl
 ·cases b
noncomputable def uA:Sp:=λe H Q _=>∃ r fr g f N b k,∃ a:Nat,e=[.ref r,.ref b,.int (a:Nat)]/\Nt.Ok N/\NetAt H r fr g f N/\NKey H k b/\OkP N k/\a<N.lanes /\
 (∀ c,Same H c->yS N k a=none->Q .non c)/\(∀ c d t,Same H c->yS N k a=some t->NKey c t d->Q (.ref d) c)
noncomputable def vH:LSpc:=λvals c H Q E=>∃ r b,∃ a:Nat,vals=[.ref r]/\c=[.ref b,.int (a:Nat)]/\uA [.ref r,.ref b,.int (a:Nat)] H Q E
theorem gN {H:Hp}{r fr er:Addr}{ps:List V}{N:Nt}{moves:List Nat}(ok:Nt.Ok N)(na:NetAt H r fr er ps N)(lt:∀ m∈moves,m<N.lanes):Led vH [.ref r] (yS N) (OkP N) moves H:=λf s b m Q t os d e c a =>
 ⟨r,b,m,rfl,rfl,r,fr,er,ps,N,b,s,m,rfl,ok,na.tups t,e,os,lt m d,c,a⟩
noncomputable def TabQ (q:Str)(Pt:Addr)(H:Hp):Prop:=∃ l,H Pt=some (.tbl (triples l).toArray)/\TabOk H q l
theorem TabQ.keep {q:Str}{Pt:Addr}{H H':Hp}(t:TabQ q Pt H)(k:∀ b o,H b=some o->(∃ ps,o=.tbl ps)\/(∃ u v,o=.frz u v)->H' b=some o):TabQ q Pt H':=by
 obtain⟨l,c,a⟩:=t;exact⟨l,k _ _ c (.inl ⟨_,rfl⟩),a.frz λb o u e=>k _ _ e (.inr ⟨_,_,rfl⟩)⟩
theorem TabQ.same {q:Str}{Pt:Addr}{H H':Hp}(t:TabQ q Pt H)(s:Same H H'):TabQ q Pt H':=t.keep λb o e _=>s b o e
theorem TabQ.but {q:Str}{Pt l:Addr}{H H':Hp}{xs:List V}(t:TabQ q Pt H)(b:But l H H')(h:H l=some (.lst xs)):TabQ q Pt H':=t.keep λc o e z=>b c o e λy=>by
 rw[y,h]at e;cases e;rcases z with ⟨_,z⟩|⟨_,_,z⟩<;>cases z
noncomputable def uW:Sp:=λb H Q _=>∃ r fr d c N,b=[.ref r]/\Nt.Ok N/\NetAt H r fr d c N/\∀ p a,Same H a->a p=some (.tup ((List.replicate N.forks.length (0:Int)).map V.int))->Q (.ref p) a
noncomputable def y4:Sp:=λb H Q _=>∃ r fr d c N,b=[.ref r]/\Nt.Ok N/\NetAt H r fr d c N/\∀ p a,Same H a->NKey a (stK (List.replicate N.forks.length 0) [0]) p->Q (.ref p) a
theorem wS {N:Nt}(ok:Nt.Ok N):OkP N (stK (List.replicate N.forks.length 0) [0]):=⟨_,0,rfl,ZL,λt a=>.inl (List.eq_of_mem_replicate a),ok.l1⟩
noncomputable def An (H:Hp)(x:V):Prop:=Flat x\/∃ a,x=.ref a/\((∃ b,H a=some (.tup b))\/(∃ b,H a=some (.lst b))\/H a=some (.dK []))
theorem An.any {K:PySem.W.Frag}{H:Hp}{x:V}(h:An H x):AnyT K H x:=by
 rcases h with h|⟨a,rfl,⟨b,h⟩|⟨b,h⟩|h⟩
 ·exact(Good.flat (D:=λ_=>True) h).any
 ·exact⟨_,.tup h,_,rfl⟩
 ·exact⟨_,.lst h,_,rfl⟩
 ·exact⟨_,.dK h,_,rfl⟩
theorem An.kp {H H':Hp}{x:V}(k:KpN H H')(h:An H x):An H' x:=by
 rcases h with h|⟨a,e,⟨b,h⟩|⟨b,h⟩|h⟩
 ·exact .inl h
 ·exact .inr ⟨a,e,.inl ⟨b,k _ _ h (.tup _)⟩⟩
 ·exact .inr ⟨a,e,.inr (.inl ⟨b,k _ _ h (.lst _)⟩)⟩
 ·exact .inr ⟨a,e,.inr (.inr (k _ _ h .dK))⟩
theorem An.row {H H':Hp}{x:V}(k:KpN H H')(h:An H x):zY H' x=zY H x:=by
 rcases h with h|⟨a,e,⟨c,h⟩|⟨c,h⟩|h⟩
 ·cases x<;>first|rfl|exact h.elim
 ·subst e;rw[yi h,yi (k _ _ h (.tup _))]
 ·subst e
  have b:=k _ _ h (.lst _);simp only[zY,h,b]
 ·subst e
  have b:=k _ _ h .dK;simp only[zY,h,b]
noncomputable def Dp (H:Hp):Nat->V->Prop
 | 0,x=>An H x
 | n+1,x=>An H x/\∀ xs,zY H x=some xs->xs.length<=1000/\∀ y∈xs,Dp H n y
theorem Dp.an {H:Hp}:∀ {n:Nat}{x:V},Dp H n x->An H x
 | 0,_,h=>h
 | _+1,_,h=>h.1
theorem Dp.deep {K:PySem.W.Frag}{H:Hp}:∀ {n:Nat}{x:V},Dp H n x->Deep K H n x
 | 0,_,h=>h.any
 | _+1,_,h=>⟨h.1.any,λxs e=>⟨(h.2 xs e).1,λy a=>((h.2 xs e).2 y a).deep⟩⟩
theorem Dp.kp {H H':Hp}(k:KpN H H'):∀ {n:Nat}{x:V},Dp H n x->Dp H' n x
 | 0,_,h=>An.kp k h
 | _+1,_,h=>⟨h.1.kp k,λxs e=>by
  rw[h.1.row k]at e
  exact⟨(h.2 xs e).1,λy a=>((h.2 xs e).2 y a).kp k⟩⟩
noncomputable def oC (xs:List V):List Int:=xs.filterMap λx=>match x with|.int i=>some i|_=>none
theorem gU {xs:List V}(h:∀ x∈xs,oZ x=true):xs=(oC xs).map V.int:=by
 induction xs with
 | nil=>rfl
 | cons x xs ih =>
  have e:=h x (.head _)
  cases x with
  | int i=>show V.int i::xs=V.int i::(oC xs).map V.int;rw[<- ih λy a=>h y (.tail _ a)]
  | _=>cases e
noncomputable def fj (H:Hp)(x:V):List Int:=oC ((zY H x).getD [])
theorem qU {x:V}{b:Int}(h:yn b x=true):oZ x=true:=by
 cases x with
 | int i=>rfl
 | _=>cases h
theorem rg {H H':Hp}{x:V}{n:Nat}(k:KpN H H')(d:Dp H n x):zY H' x=zY H x:=d.an.row k
end L2
namespace K39
open PySem L2 Own Bn
noncomputable abbrev vP:Stmt:=top 4
noncomputable def rT (K:PySem.W.Frag):Sp:=λc H Q _=>∃ x,∃ many b:Int,c=[x,.int many,.int b]/\Deep K H 1 x/\∀ a,Same H a->Q (.bl (yL H many b x)) a
theorem gg {K:PySem.W.Frag}{H H':Hp}(s:Same H H'):∀ {n:Nat}{x:V},Deep K H n x->Deep K H' n x
 | 0,_,h=>AnyT.same s h
 | n+1,x,h=>⟨AnyT.same s h.1,λxs e=>by
  rw[iP s h.1]at e
  exact⟨(h.2 xs e).1,λy a=>gg s ((h.2 xs e).2 y a)⟩⟩
section
variable {P:Program}{w:World}{K:PySem.W.Frag}{mg:Str->Option Value}{base:Heap}
theorem zaB:FnScope ["thing","many","bound"] ["thing","many","bound"] (zN vP):=by trivial
theorem pN {f L M:Addr}{fd N O:FuncData}(F:Fun K "are_below" "are_below" vP f fd) (G:Mgs mg) (m:Use P w K mg base "is_row" ["thing","many"] 1 (uB K) L N) (n:Use P w K mg base "is_below" ["thing","bound"] 2 (uF K) M O):FnOk P w K mg base CX0 3 f fd ["thing","many","bound"] (rT K):=by
 refine F.ok zaB (λJ H Q E h=>?_) (λR A outer s H J Q E B h=>?_)
 ·obtain⟨x,many,b,rfl,_⟩:=h
  rfl
 obtain⟨x,many,b,rfl,r,k⟩:=h;have t:Room 1 _:=B.mono (by decide);refine⟨_,(@zK _ _ _ (@zU _ _ _ _ (@wI _ _ _ _ _ _ _ (@zL _ _ _ _ _ _ _ _ _ _ _ _ _ _ _ _ m.ok t (by rfl) m.m m.kp m.b .nil zW (@zA _ _ _ _ _ (@qv _ 0 _ _ (by trivial)) (@zA _ _ _ _ _ (@qv _ 1 _ _ (by trivial)) zB (by rfl)) (by rfl)) (by decide) (by rfl) (by rfl)) (@vR _ _ _ _ _ (@zM _ _ _ _ _ _ _ _ _ (wW rfl true) (by rfl) G.all (by rfl) (@zA _ _ _ _ _ (@pC _ _ _ _ none _ _ _ _ _ _ ["number","bound"] [none,some 2] rfl (@xk _ _ _ _ (@qv _ 0 _ _ (by trivial))) (CapOk.of (by kernel_rfl)) (λ_ _ _ _ _=>(@zP _ _ 0 _ (show (["number","bound"]:List Str).Nodup from by decide +kernel) rfl (.inl rfl) (.inr rfl))) (λ_ _ _ _ _=>x9) (λ_ _ _ _ _=>(@zL _ _ _ _ _ _ _ _ _ _ _ _ _ _ _ _ n.ok B (by rfl) n.m n.kp n.b .nil zW (@zA _ _ _ _ _ (@qv _ 0 _ _ (by trivial)) (@zA _ _ _ _ _ (@qv _ 1 _ _ (by trivial)) zB (by rfl)) (by rfl)) (by decide) (by rfl) (by rfl))) (by intro _;rfl)) zB (by rfl)) (by decide) (by decide) (by rfl) (by rfl)))))),?_⟩;refine⟨_,rfl,_,rfl,x,many,rfl,r.any,_,rfl,?_⟩
 cases z:zY H x with
 | none =>
  have e:vQ H many x=false:=by unfold vQ;rw[z]
  have e2:yL H many b x=false:=by unfold yL;rw[z]
  rw[e];rw[e2]at k
  exact zx (k H (Same.refl H))
 | some xs =>
  have e:vQ H many x=decide ((xs.length:Int)=many):=by unfold vQ;rw[z]
  have e2:yL H many b x=(decide ((xs.length:Int)=many) && xs.all (yn b)):=by unfold yL;rw[z]
  rw[e];rw[e2]at k;obtain⟨a,rfl,D⟩:=yI z;by_cases lm:(xs.length:Int)=many
  ·rw[Jx lm]at k ⊢
   refine yJ ⟨_,rfl,a,rfl,⟨_,SqT.of D⟩,λl C=>?_⟩;refine qH (K:=K) (a:=a) (xs:=xs) (λi acc σ d=>(∃ v,σ=[v,some (.int b)])/\Same H d/\d l=some (.lst acc)/\acc=((xs.take i).map (yn b)).map V.bl) ⟨⟨_,rfl⟩,zC C _,zD,rfl⟩ (λi acc σ d q=>⟨q.2.2.1,SqT.of (q.2.1 _ _ D)⟩) ?_ ?_
   ·rintro i y acc σ d p ⟨⟨v,rfl⟩,g,j,rfl⟩
    have u:=(Ja.mp p).1;refine⟨_,rfl,_,rfl,y,b,rfl,AnyT.same g (((r.2 xs z).2 y (JB p))),?_⟩;refine⟨j,?_,nx u ⟨⟨_,rfl⟩,λc o e=>?_,zD,?_⟩⟩
    ·rw[Jn,Jn,Js];exact Nat.lt_of_le_of_lt (Nat.min_le_left _ _) (JF (show i<1000 by have:=(r.2 xs z).1;lia) (by decide))
    ·rw[zJ (zH e C)];exact g c o e
    ·have I:xs[i]=y:=(Ja.mp p).2
     rw[Yr u,JU,JU,I];rfl
   ·rintro acc σ d ⟨⟨v,rfl⟩,g,j,rfl⟩
    rw[Ya]at j;refine⟨l,xs.map (yn b),rfl,SqL.of j,?_⟩;rw[List.all_map];exact k d g
  ·rw[Jr lm]at k ⊢
   exact zx (k H (Same.refl H))
end
end K39
namespace L2
open PySem PySem.Spec PyProof.Rows Own Bn
noncomputable def whB (lo hi:Int):V->Bool
 | .int i=>decide (lo<=i) && decide (i<=hi)
 | _=>false
theorem jw (x:V):whB 0 1 x=yn 2 x:=by
 cases x with
 | int i =>
  show (decide (0<=i) && decide (i<=1))=(decide (0<=i) && decide (i<2))
  congr 1
  exact decide_eq_decide.mpr ⟨λz=>by lia,λz=>by lia⟩
 | _=>rfl
noncomputable def mF (K:PySem.W.Frag):Sp:=λa H Q _=>∃ x,∃ lo hi:Int,a=[x,.int lo,.int hi]/\AnyT K H x/\Q (.bl (whB lo hi x)) H
noncomputable def uM (K:PySem.W.Frag):Sp:=λb H Q _=>∃ r fr d c N x,b=[.ref r,x]/\Nt.Ok N/\NetAt H r fr d c N/\Deep K H 1 x/\∀ a,Same H a->Q (.bl (yL H (N.forks.length:Nat) 2 x)) a
end L2
namespace K39
open PySem L2 Own Bn
noncomputable abbrev cR:Stmt:=top 33
noncomputable abbrev rX:Stmt:=top 34
section
variable {P:Program}{w:World}{K:PySem.W.Frag}{mg:Str->Option Value}{base:Heap}
theorem zat:FnScope ["_law_thing","_law_least","_law_most"] ["_law_thing","_law_least","_law_most"] (zN cR):=by trivial
theorem bF {f:Addr}{fd:FuncData}(F:Fun K "_law_whole" "_law_whole" cR f fd) (G:Mgs mg):FnOk P w K mg base CX0 1 f fd ["_law_thing","_law_least","_law_most"] (mF K):=by
 refine F.ok zat (λa H Q E h=>?_) (λd A outer s H a Q E g h=>?_)
 ·obtain⟨x,lo,hi,rfl,_⟩:=h
  rfl
 obtain⟨x,lo,hi,rfl,c,k⟩:=h;refine⟨_,(@zK _ _ _ (@zU _ _ _ _ (@wI _ _ _ _ _ _ _ (@zM _ _ _ _ _ _ _ _ _ ya (by rfl) G.isi (by rfl) (@zA _ _ _ _ _ (@qv _ 0 _ _ (by trivial)) (@zA _ _ _ _ _ (@yp _ _ (.ty "int") (.type "int") _ (by rfl) G.int (by rfl) rfl (by decide) (by decide)) zB (by rfl)) (by rfl)) (by decide) (by decide) (by rfl) (by rfl)) (@wI _ _ _ _ _ _ _ (@ig _ _ _ _ (@zM _ _ _ _ _ _ _ _ _ ya (by rfl) G.isi (by rfl) (@zA _ _ _ _ _ (@qv _ 0 _ _ (by trivial)) (@zA _ _ _ _ _ (@yp _ _ (.ty "bool") (.type "bool") _ (by rfl) G.bool (by rfl) rfl (by decide) (by decide)) zB (by rfl)) (by rfl)) (by decide) (by decide) (by rfl) (by rfl))) (@vR _ _ _ _ _ (@pF _ _ _ _ _ _ _ _ _ _ _ _ mT mT (@qv _ 1 _ _ (by trivial)) (@qv _ 0 _ _ (by trivial)) (@qv _ 2 _ _ (by trivial)) (by with_unfolding_all rfl))))))),?_⟩;obtain⟨t,I⟩:=c.isi;refine⟨_,rfl,_,"int",_,_,rfl,I.ty,I.int,_,rfl,?_⟩
 cases x with
 | int i =>
  refine yJ ⟨_,rfl,_,"bool",_,_,rfl,I.ty,I.bool,_,rfl,_,rfl,yJ ⟨_,rfl,_,rfl,_,_,rfl,rfl,_,rfl,?_⟩⟩;have e:whB lo hi (.int i)=(decide (lo<=i) && decide (i<=hi)):=rfl;rw[e]at k;by_cases z:lo<=i
  ·rw[Jx z]at k ⊢
   exact yJ ⟨_,rfl,_,_,rfl,rfl,k⟩
  ·rw[Jr z]at k ⊢
   exact zx k
 | bl b =>
  refine yJ ⟨_,rfl,_,"bool",_,_,rfl,I.ty,I.bool,_,rfl,_,rfl,?_⟩
  exact zx k
 | non=>exact zx k
 | str z=>exact zx k
 | flt z=>exact zx k
 | byt z=>exact zx k
 | ref z=>exact zx k
 | ty z=>exact zx k
theorem zas:FnScope ["_law_net","_law_thing"] ["_law_net","_law_thing"] (zN rX):=by trivial
theorem kQ {f M:Addr}{fd R:FuncData}(F:Fun K "_law_are_turns" "_law_are_turns" rX f fd) (G:Mgs mg) (j:Use P w K mg base "_law_whole" ["_law_thing","_law_least","_law_most"] 1 (mF K) M R):FnOk P w K mg base CX0 2 f fd ["_law_net","_law_thing"] (uM K):=by
 refine F.ok zas (λJ H Q E h=>?_) (λS A outer s H J Q E L h=>?_)
 ·obtain⟨r,fr,O,m,N,x,rfl,_⟩:=h
  rfl
 obtain⟨r,fr,O,m,N,x,rfl,ok,na,u,k⟩:=h;refine⟨_,(@zG _ _ _ _ _ (@yT _ _ _ _ _ _ _ _ (@vf _ _ _ _ _ _ _ (@wH _ _ _ _ (@xj _ _ _ (@zM _ _ _ _ _ _ _ _ _ ya (by rfl) G.isi (by rfl) (@zA _ _ _ _ _ (@qv _ 1 _ _ (by trivial)) (@zA _ _ _ _ _ (@yp _ _ (.ty "tuple") (.type "tuple") _ (by rfl) G.tuple (by rfl) rfl (by decide) (by decide)) zB (by rfl)) (by rfl)) (by decide) (by decide) (by rfl) (by rfl)) (by intro _;rfl))) (@wn _ _ _ _ (@zt _ _ _ _ _ _ _ _ uj (@zM _ _ _ _ _ _ _ _ _ zT (by rfl) G.len JT (@zA _ _ _ _ _ (@qv _ 1 _ _ (by trivial)) zB (by rfl)) (by decide) (by decide) (by rfl) (by rfl)) (@zM _ _ _ _ _ _ _ _ _ zT (by rfl) G.len JT (@zA _ _ _ _ _ (@zj _ _ _ _ _ _ _ yB (@qv _ 0 _ _ (by trivial)) zE (λ_ _=>rfl)) zB (by rfl)) (by decide) (by decide) (by rfl) (by rfl)) (yE _)))).pt (@zK _ _ _ (@zU _ _ _ _ xA)) zp) (@zK _ _ _ (@zU _ _ _ _ (@zM _ _ _ _ _ _ _ _ _ (wW rfl true) (by rfl) G.all (by rfl) (@zA _ _ _ _ _ (@pC _ _ _ _ none _ _ _ _ _ _ ["_law_turn"] [none] rfl (@xk _ _ _ _ (@qv _ 1 _ _ (by trivial))) (CapOk.of (by kernel_rfl)) (λ_ _ _ _ _=>(@zP _ _ 0 _ (show (["_law_turn"]:List Str).Nodup from by decide +kernel) rfl (.inl rfl) (.inr rfl))) (λ_ _ _ _ _=>x9) (λ_ _ _ _ _=>(@zL _ _ _ _ _ _ _ _ _ _ _ _ _ _ _ _ j.ok L (by rfl) j.m j.kp j.b .nil zW (@zA _ _ _ _ _ (@qv _ 0 _ _ (by trivial)) (@zA _ _ _ _ _ zE (@zA _ _ _ _ _ zE zB (by rfl)) (by rfl)) (by rfl)) (by decide) (by rfl) (by rfl))) (by intro _;rfl)) zB (by rfl)) (by decide) (by decide) (by rfl) (by rfl))))),?_⟩;obtain⟨t,I⟩:=u.any.isi;have B:=na.prs.len;refine⟨_,rfl,_,"tuple",_,_,rfl,I.ty,I.tup,_,rfl,?_⟩
 cases z:zY H x with
 | none =>
  have e2:yL H (N.forks.length:Nat) 2 x=false:=by unfold yL;rw[z]
  rw[e2]at k
  exact yJ (yJ (k H (Same.refl H)))
 | some xs =>
  have e2:yL H (N.forks.length:Nat) 2 x=(decide ((xs.length:Int)=(N.forks.length:Nat)) && xs.all (yn 2)):=by unfold yL;rw[z]
  rw[e2]at k;obtain⟨a,rfl,p⟩:=yI z;refine zx ⟨_,rfl,_,_,rfl,.inr (SqT.of p),_,rfl,r,_,_,_,rfl,rfl,SqT.of na.net,rfl,fr,m,rfl,.inr (SqT.of na.forks),rfl,_,rfl,?_⟩;show if (!decide (V.int ((xs.length:Nat):Int)=V.int ((m.length:Nat):Int)))=true then _ else _;by_cases lm:(xs.length:Int)=(N.forks.length:Nat)
  ·rw[Jx lm]at k
   rw[Jx (JS V.int (by rw[B];exact lm))];refine zx ⟨_,rfl,a,rfl,⟨_,SqT.of p⟩,λl D=>?_⟩;refine qH (K:=K) (a:=a) (xs:=xs) (λi acc σ b=>(∃ v,σ=[v])/\Same H b/\b l=some (.lst acc)/\acc=((xs.take i).map (yn 2)).map V.bl) ⟨⟨_,rfl⟩,zC D _,zD,rfl⟩ (λi acc σ b q=>⟨q.2.2.1,SqT.of (q.2.1 _ _ p)⟩) ?_ ?_
   ·rintro i y acc σ b n ⟨⟨v,rfl⟩,d,g,rfl⟩
    have C:=(Ja.mp n).1;refine⟨_,rfl,y,0,1,rfl,AnyT.same d (((u.2 xs z).2 y (JB n))),?_⟩;refine⟨g,?_,nx C ⟨⟨_,rfl⟩,λc o e=>?_,zD,?_⟩⟩
    ·rw[Jn,Jn,Js];exact Nat.lt_of_le_of_lt (Nat.min_le_left _ _) (JF (show i<1000 by have:=(u.2 xs z).1;lia) (by decide))
    ·rw[zJ (zH e D)];exact d c o e
    ·rw[Yr C,JU,JU,(Ja.mp n).2,jw];rfl
   ·rintro acc σ b ⟨⟨v,rfl⟩,d,g,rfl⟩
    rw[Ya]at g;refine⟨l,xs.map (yn 2),rfl,SqL.of g,?_⟩;rw[List.all_map];exact k b d
  ·rw[Jr lm]at k
   rw[Jr λy=>lm (by injection y with y;rw[B]at y;exact y)];refine yJ ?_;exact k H (Same.refl H)
noncomputable abbrev cj:Stmt:=top 6
noncomputable abbrev rY:Stmt:=top 11
noncomputable abbrev cT:Stmt:=top 12
theorem gW (h a b:Nat):inV (V.int h) [V.int a,V.int b]=decide (h=a\/h=b):=by
 rw[Yj,decide_eq_true_iff];simp[inV,eqV];lia
theorem scD:FnScope ["net","lane"] ["net","lane"] (zN cj):=by trivial
theorem bM {f:Addr}{fd:FuncData}(F:Fun K "end_of" "end_of" cj f fd):FnOk P w K mg base CX0 1 f fd ["net","lane"] iG:=by
 refine F.ok scD (λd H Q E h=>?_) (λj A outer s H d Q E g h=>?_)
 ·obtain⟨r,fr,c,e,N,a,rfl,_⟩:=h
  rfl
 obtain⟨r,fr,c,e,N,a,rfl,ok,na,i,k⟩:=h;refine⟨_,(@zK _ _ _ (@zU _ _ _ _ (@mO _ _ _ _ _ _ _ g.units (@zj _ _ _ _ _ _ _ yB (@qv _ 0 _ _ (by trivial)) zE (λ_ _=>rfl)) (@zA _ _ _ _ _ (@qv _ 1 _ _ (by trivial)) zB (by rfl)) (by rfl) (by rfl) (by rfl) (by rfl)))),?_⟩;have b:=na.ends;rw[pO]at b;refine⟨_,rfl,r,_,_,_,rfl,rfl,SqT.of na.net,rfl,c,_,rfl,b,_,rfl,(a:Int),rfl,b,?_,?_⟩
 ·exact JA.mpr ⟨a,ok.en.mem_iff.mpr (YN.mpr i),rfl⟩
 ·rw[tG];exact k
theorem scR:FnScope ["net","turns","lane","back","behind","here","number","fork","turn"] ["net","turns","lane","back"] (zN cT):=by trivial
theorem bG {f fD:Addr}{fd dD:FuncData}(F:Fun K "run_through" "run_through" cT f fd) (G:Mgs mg) (M:Use P w K mg base "end_of" ["net","lane"] 1 iG fD dD):FnOk P w K mg base CX0 2 f fd ["net","turns","lane","back"] iD:=by
 refine F.ok scR (λvs H Q E h=>?_) (λab A outer s H vs Q E hr h=>?_)
 ·obtain⟨us,back,rfl,r,fr,er,J,N,D,ts,lane,rfl,_⟩:=h
  rfl
 obtain⟨us,back,rfl,r,fr,er,J,N,D,ts,lane,rfl,ok,na,S,tl,bits,hl,k⟩:=h;refine⟨_,(@zG _ _ _ _ _ (@zo _ _ 4 _ _ _ _ scR.nd rfl (.inl rfl) (@zr _ _ _ _ _ _ _ _ _ yt (by rfl) G.list (by rfl) (@zA _ _ _ _ _ (@qv _ 1 _ _ (by trivial)) zB (by rfl)) (by decide) (by decide) (by rfl) (by rfl)) (by rfl) (by trivial)) (@zG _ _ _ _ _ (@zo _ _ 5 _ _ _ _ scR.nd rfl (.inl rfl) (@qv _ 2 _ _ (by trivial)) (by rfl) (by trivial)) (@zG _ _ _ _ _ (@y7 _ _ _ _ _ _ _ _ Ye rfl (@mN _ _ _ _ _ _ _ _ false rfl G.enum (@zA _ _ _ _ _ (@zj _ _ _ _ _ _ _ yB (@qv _ 0 _ _ (by trivial)) zE (λ_ _=>rfl)) zB (by rfl)) (by rfl)) (@yU _ _ _ _ _ _ rfl (@zQ _ _ _ _ _ (@zP _ _ 6 _ scR.nd rfl (.inl rfl) (by trivial)) (@zQ _ _ _ _ _ (@zP _ _ 7 _ scR.nd rfl (.inl rfl) (by trivial)) yH (by rfl)) (by rfl)) (by rfl) (by rfl)) (@zK _ _ _ (@yT _ _ _ _ _ _ _ _ (@zt _ _ _ _ _ _ _ _ sQ (@qv _ 5 _ _ (by trivial)) (@qv _ 7 _ _ (by trivial)) (by rfl)) (@zG _ _ _ _ _ (@zo _ _ 8 _ _ _ _ scR.nd rfl (.inl rfl) (@zj _ _ _ _ _ _ _ zw (@qv _ 4 _ _ (by trivial)) (@qv _ 6 _ _ (by trivial)) (λ_ _=>rfl)) (by rfl) (by trivial)) (@zG _ _ _ _ _ (@yZ _ _ _ _ _ _ (@zS _ _ _ _ _ _ _ _ vT zE (@qv _ 8 _ _ (by trivial))) (@wo _ _ _ _ _ _ _ (@qv _ 4 _ _ (by trivial)) (@qv _ 6 _ _ (by trivial)) xV (by intro _;rfl)) (by rfl) (by rfl) (by rfl)) (@zK _ _ _ (@zo _ _ 5 _ _ _ _ scR.nd rfl (.inl rfl) (@zj _ _ _ _ _ _ _ yB (@qv _ 7 _ _ (by trivial)) (@pD _ _ _ _ _ _ _ _ (@xj _ _ _ (@qv _ 3 _ _ (by trivial)) (by intro _;rfl)) (@zS _ _ _ _ _ _ _ _ vT zE (@qv _ 8 _ _ (by trivial))) (@qv _ 8 _ _ (by trivial))) (λ_ _=>rfl)) (by rfl) (by trivial))))) zp)) (by intro _;rfl)) (@zK _ _ _ (@zU _ _ _ _ (@zX _ _ _ _ _ (@zA _ _ _ _ _ (@zr _ _ _ _ _ _ _ _ _ zz (by rfl) G.tuple (by rfl) (@zA _ _ _ _ _ (@qv _ 4 _ _ (by trivial)) zB (by rfl)) (by decide) (by decide) (by rfl) (by rfl)) (@zA _ _ _ _ _ (@zL _ _ _ _ _ _ _ _ _ _ _ _ _ _ _ _ M.ok hr (by rfl) M.m M.kp M.b .nil zW (@zA _ _ _ _ _ (@qv _ 0 _ _ (by trivial)) (@zA _ _ _ _ _ (@qv _ 5 _ _ (by trivial)) zB (by rfl)) (by rfl)) (by decide) (by rfl) (by rfl)) zB (by rfl)) (by rfl)))))))),?_⟩;refine⟨_,rfl,D,_,rfl,.inr (SqT.of S),λd I=>⟨_,rfl,?_⟩⟩;have O:=zC I (.lst (ts.map V.int));refine⟨_,rfl,r,_,_,_,rfl,rfl,SqT.of (O _ _ na.net),rfl,fr,J,rfl,SqT.of (O _ _ na.forks),?_⟩
 refine oI (K:=K) (b:=false) (a:=fr) (xs:=J) (λi σ m=>(∃ C B y,σ=[some (.ref r),some (.ref D),some (.int lane),some (.bl back),some (.ref d),some (.int (yP back N.forks ts lane i).2),C,B,y])/\Same H m/\m d=some (.lst ((yP back N.forks ts lane i).1.map V.int)))
  ⟨⟨_,_,_,rfl⟩,O,zD⟩ (λi σ m _ q=>SqT.of (q.2.1 _ _ na.forks)) ?_ ?_
 ·rintro i x σ m T hx hT ⟨⟨C,B,y,rfl⟩,v,n⟩
  obtain⟨a,g,rfl,eg,L⟩:=(na.prs.tups (Tups.of v)).get hx;have gi:i<N.forks.length:=(Ja.mp eg).1;have gd:N.forks.getD i (0,0)=g:=by rw[Jz,eg];rfl
  have rs:yP back N.forks ts lane (i+1)=yK back (yP back N.forks ts lane i) i g:=by show yK _ _ _ _=_;rw[gd]
  have rl:=wQ (back:=back) (fs:=N.forks) (ts:=ts) (lane:=lane) i;have rb:=x4 (back:=back) (fs:=N.forks) (lane:=lane) bits i;generalize yP back N.forks ts lane i=st at *;have u:=zC hT (.tup [.int i,.ref a]);have lT:d≠T:=zH n hT;refine⟨T,_,rfl,SqT.of zD,rfl,_,_,rfl,_,_,rfl,rfl,?_⟩;refine⟨_,rfl,_,rfl,a,_,rfl,.inr (SqT.of (u _ _ L)),rfl,rfl,_,rfl,?_⟩;show if (if false=true then !inV (V.int (st.2:Nat)) [V.int (g.1:Nat),V.int (g.2:Nat)] else inV (V.int (st.2:Nat)) [V.int (g.1:Nat),V.int (g.2:Nat)])=true then _ else _;rw[Je Jj,gW];by_cases on:st.2=g.1\/st.2=g.2
  ·rw[Jx on]
   refine yJ ?_;have c:yK back st i g=(st.1.set i (1-st.1.getD i 0),if (if back then 1-st.1.getD i 0 else st.1.getD i 0)=0 then g.1 else g.2):=by unfold yK;rw[Jg on]
   have R:i<st.1.length:=by simp_all
   have U:=rb _ (L2.tN R);have Z:=u _ _ n;refine⟨_,rfl,_,rfl,d,_,_,_,rfl,rfl,SqL.of Z,tV R,?_⟩;refine⟨_,rfl,_,_,rfl,rfl,_,rfl,_,rfl,d,_,_,i,rfl,rfl,Z,mw (by rw[Jn];exact R),?_⟩
   have l:upd (upd m T (.tup [.int i,.ref a])) d (.lst ((st.1.map V.int).set i (.int (1-st.1.getD i 0)))) a=some (.tup [.int g.1,.int g.2]):=by
    rw[zJ (by rintro rfl;rw[n]at L;cases L)];exact u _ _ L
   have fin:∀ nx:Nat,nx=(yK back st i g).2->(∃ C B y,([some (.ref r),some (.ref D),some (.int lane),some (.bl back),some (.ref d),some (.int nx),some (.int i),some (.ref a),some (.int (st.1.getD i 0))]:List (Option V))=[some (.ref r),some (.ref D),some (.int lane),some (.bl back),some (.ref d),some (.int (yP back N.forks ts lane (i+1)).2),C,B,y]) /\
     Same H (upd (upd m T (.tup [.int i,.ref a])) d (.lst ((st.1.map V.int).set i (.int (1-st.1.getD i 0)))))/\upd (upd m T (.tup [.int i,.ref a])) d (.lst ((st.1.map V.int).set i (.int (1-st.1.getD i 0)))) d=some (.lst ((yP back N.forks ts lane (i+1)).1.map V.int)):=λnx en=>by
    refine⟨⟨_,_,_,by rw[rs,en]⟩,λb o e=>?_,?_⟩
    ·rw[zJ (zH e I)];exact u _ _ (v b o e)
    ·rw[zD,rs,c,qi]
   cases back with
   | false =>
    rcases U with z|z
    ·exact⟨_,rfl,_,rfl,_,rfl,zx ⟨_,rfl,a,_,_,_,rfl,rfl,SqT.of l,by rw[z];exact yM (j:=0) rfl,fin g.1 (by rw[c,z];rfl)⟩⟩
    ·exact⟨_,rfl,_,rfl,_,rfl,zx ⟨_,rfl,a,_,_,_,rfl,rfl,SqT.of l,by rw[z];exact yM (j:=1) rfl,fin g.2 (by rw[c,z];rfl)⟩⟩
   | true =>
    rcases U with z|z
    ·exact⟨_,rfl,_,rfl,_,rfl,yJ ⟨_,rfl,_,_,rfl,rfl,a,_,_,_,rfl,rfl,SqT.of l,by rw[z];exact yM (j:=1) rfl,fin g.2 (by rw[c,z];rfl)⟩⟩
    ·exact⟨_,rfl,_,rfl,_,rfl,yJ ⟨_,rfl,_,_,rfl,rfl,a,_,_,_,rfl,rfl,SqT.of l,by rw[z];exact yM (j:=0) rfl,fin g.1 (by rw[c,z];rfl)⟩⟩
  ·rw[Jr on]
   have c:yK back st i g=st:=by unfold yK;rw[Je on]
   exact zx ⟨⟨_,_,_,by rw[rs,c];rfl⟩,v.trans u,by rw[rs,c];exact u _ _ n⟩
 ·rintro σ m ⟨⟨C,B,y,rfl⟩,v,n⟩
  have X:=na.prs.len;rw[X]at n;have hh:=wm (back:=back) (ts:=ts) ok.fk hl N.forks.length (Jc _);refine⟨_,rfl,d,_,rfl,.inl ⟨SqL.of n,λt ht=>?_⟩⟩;have W:=zC ht (.tup ((yP back N.forks ts lane N.forks.length).1.map V.int));refine⟨_,rfl,_,rfl,r,fr,er,J,N,_,by rw[X];rfl,ok,na.tups (Tups.of (v.trans W)),hh,(by show 2<=sizeLine;decide),λp Y=>?_⟩;exact k p t _ ((v.trans W).trans (zC Y _)) zD (zC Y _ _ _ zD)
theorem scP:FnScope ["net","turns","lane"] ["net","turns","lane"] (zN rY):=by trivial
theorem kU {f k:Addr}{fd l:FuncData}(F:Fun K "passed" "passed" rY f fd) (b:Use P w K mg base "run_through" ["net","turns","lane","back"] 2 iD k l):FnOk P w K mg base CX0 3 f fd ["net","turns","lane"] (wj false):=by
 refine F.ok scP (λi H Q E h=>?_) (λm A outer s H i Q E j h=>?_)
 ·obtain⟨r,fr,g,e,N,c,d,a,rfl,_⟩:=h
  rfl
 obtain⟨r,fr,g,e,N,c,d,a,rfl,q⟩:=h;refine⟨_,(@zK _ _ _ (@zU _ _ _ _ (@zL _ _ _ _ _ _ _ _ _ _ _ _ _ _ _ _ b.ok j (by rfl) b.m b.kp b.b .nil zW (@zA _ _ _ _ _ (@qv _ 0 _ _ (by trivial)) (@zA _ _ _ _ _ (@qv _ 1 _ _ (by trivial)) (@zA _ _ _ _ _ (@qv _ 2 _ _ (by trivial)) (@zA _ _ _ _ _ xA zB (by rfl)) (by rfl)) (by rfl)) (by rfl)) (by decide) (by rfl) (by rfl)))),?_⟩;exact⟨_,rfl,_,rfl,_,rfl,[.ref r,.ref c,.int a],false,rfl,r,fr,g,e,N,c,d,a,rfl,q⟩
noncomputable abbrev cU:Stmt:=top 29
noncomputable abbrev cV:Stmt:=top 30
noncomputable abbrev cg:Stmt:=top 31
noncomputable def iE:Sp:=λd H Q _=>∃ a b,∃ (place:Nat),d=[.ref a,.int (place:Nat)]/\H a=some (.tup (List.map V.int b))/\place<b.length/\b.length<=1000/\∀ p c,Same H c->c p=some (.tup ((yz b place).map V.int))->Q (.ref p) c
theorem iJ:FnScope ["_law_net","_law_turns","_law_lane","_law_row","_law_k","_law_fork"] ["_law_net","_law_turns","_law_lane"] (zN cU):=by trivial
theorem bH {f:Addr}{fd:FuncData}(F:Fun K "_law_passed" "_law_passed" cU f fd) (G:Mgs mg):FnOk P w K mg base CX0 1 f fd ["_law_net","_law_turns","_law_lane"] (wj false):=by
 refine F.ok iJ (λZ H Q E h=>?_) (λab A outer s H Z Q E hr h=>?_)
 ·obtain⟨r,fr,X,B,N,J,ts,lane,rfl,_⟩:=h
  rfl
 obtain⟨r,fr,X,B,N,J,ts,lane,rfl,ok,na,S,tl,bits,hl,k⟩:=h;refine⟨_,(@zG _ _ _ _ _ (@zo _ _ 3 _ _ _ _ iJ.nd rfl (.inl rfl) (@zr _ _ _ _ _ _ _ _ _ yt (by rfl) G.list (by rfl) (@zA _ _ _ _ _ (@qv _ 1 _ _ (by trivial)) zB (by rfl)) (by decide) (by decide) (by rfl) (by rfl)) (by rfl) (by trivial)) (@zG _ _ _ _ _ (@y7 _ _ _ _ _ _ _ _ Ye rfl (@mN _ _ _ _ _ _ _ _ false rfl G.enum (@zA _ _ _ _ _ (@zj _ _ _ _ _ _ _ yB (@qv _ 0 _ _ (by trivial)) zE (λ_ _=>rfl)) zB (by rfl)) (by rfl)) (@yU _ _ _ _ _ _ rfl (@zQ _ _ _ _ _ (@zP _ _ 4 _ iJ.nd rfl (.inl rfl) (by trivial)) (@zQ _ _ _ _ _ (@zP _ _ 5 _ iJ.nd rfl (.inl rfl) (by trivial)) yH (by rfl)) (by rfl)) (by rfl) (by rfl)) (@zK _ _ _ (@yT _ _ _ _ _ _ _ _ (@zt _ _ _ _ _ _ _ _ sQ (@qv _ 2 _ _ (by trivial)) (@qv _ 5 _ _ (by trivial)) (by rfl)) (@zG _ _ _ _ _ (@zo _ _ 2 _ _ _ _ iJ.nd rfl (.inl rfl) (@zj _ _ _ _ _ _ _ yB (@qv _ 5 _ _ (by trivial)) (@zj _ _ _ _ _ _ _ zw (@qv _ 3 _ _ (by trivial)) (@qv _ 4 _ _ (by trivial)) (λ_ _=>rfl)) (λ_ _=>rfl)) (by rfl) (by trivial)) (@zK _ _ _ (@yZ _ _ _ _ _ _ (@zS _ _ _ _ _ _ _ _ vT zE (@zj _ _ _ _ _ _ _ zw (@qv _ 3 _ _ (by trivial)) (@qv _ 4 _ _ (by trivial)) (λ_ _=>rfl))) (@wo _ _ _ _ _ _ _ (@qv _ 3 _ _ (by trivial)) (@qv _ 4 _ _ (by trivial)) xV (by intro _;rfl)) (by rfl) (by rfl) (by rfl)))) zp)) (by intro _;rfl)) (@zK _ _ _ (@zU _ _ _ _ (@zX _ _ _ _ _ (@zA _ _ _ _ _ (@zr _ _ _ _ _ _ _ _ _ zz (by rfl) G.tuple (by rfl) (@zA _ _ _ _ _ (@qv _ 3 _ _ (by trivial)) zB (by rfl)) (by decide) (by decide) (by rfl) (by rfl)) (@zA _ _ _ _ _ (@mO _ _ _ _ _ _ _ hr.units (@zj _ _ _ _ _ _ _ yB (@qv _ 0 _ _ (by trivial)) zE (λ_ _=>rfl)) (@zA _ _ _ _ _ (@qv _ 2 _ _ (by trivial)) zB (by rfl)) (by rfl) (by rfl) (by rfl) (by rfl)) zB (by rfl)) (by rfl))))))),?_⟩;refine⟨_,rfl,J,_,rfl,.inr (SqT.of S),λm y=>?_⟩;have L:=zC y (.lst (ts.map V.int));refine⟨_,rfl,r,_,_,_,rfl,rfl,SqT.of (L _ _ na.net),rfl,fr,B,rfl,SqT.of (L _ _ na.forks),?_⟩
 refine oI (K:=K) (b:=false) (a:=fr) (xs:=B) (λi σ v=>(∃ I D,σ=[some (.ref r),some (.ref J),some (.int (yP false N.forks ts lane i).2),some (.ref m),I,D])/\Same H v/\v m=some (.lst ((yP false N.forks ts lane i).1.map V.int)))
  ⟨⟨_,_,rfl⟩,L,zD⟩ (λi σ v _ q=>SqT.of (q.2.1 _ _ na.forks)) ?_ ?_
 ·rintro i x σ v T hx hT ⟨⟨I,D,rfl⟩,n,u⟩
  obtain⟨a,g,rfl,Y,W⟩:=(na.prs.tups (Tups.of n)).get hx;have gi:i<N.forks.length:=(Ja.mp Y).1;have gd:N.forks.getD i (0,0)=g:=by rw[Jz,Y];rfl
  have rs:yP false N.forks ts lane (i+1)=yK false (yP false N.forks ts lane i) i g:=by show yK _ _ _ _=_;rw[gd]
  have rl:=wQ (back:=false) (fs:=N.forks) (ts:=ts) (lane:=lane) i;have rb:=x4 (back:=false) (fs:=N.forks) (lane:=lane) bits i;generalize yP false N.forks ts lane i=st at *;have l:=zC hT (.tup [.int i,.ref a]);refine⟨T,_,rfl,SqT.of zD,rfl,_,_,rfl,_,_,rfl,rfl,?_⟩;refine⟨_,rfl,_,rfl,a,_,rfl,.inr (SqT.of (l _ _ W)),rfl,rfl,_,rfl,?_⟩;show if (if false=true then !inV (V.int (st.2:Nat)) [V.int (g.1:Nat),V.int (g.2:Nat)] else inV (V.int (st.2:Nat)) [V.int (g.1:Nat),V.int (g.2:Nat)])=true then _ else _;rw[Je Jj,gW];by_cases on:st.2=g.1\/st.2=g.2
  ·rw[Jx on]
   refine yJ ?_;have c:yK false st i g=(st.1.set i (1-st.1.getD i 0),if st.1.getD i 0=0 then g.1 else g.2):=by unfold yK;rw[Jg on];rfl
   have C:i<st.1.length:=by simp_all
   have R:=l _ _ u
   obtain⟨d,en,ex⟩:∃ d:Nat,d=(yK false st i g).2/\atI [V.int (g.1:Nat),V.int (g.2:Nat)] (st.1.getD i 0)=some (.int (d:Nat)):=by
    rcases rb _ (L2.tN C) with z|z
    ·exact⟨g.1,by rw[c,z];rfl,by rw[z];exact yM (j:=0) rfl⟩
    ·exact⟨g.2,by rw[c,z];rfl,by rw[z];exact yM (j:=1) rfl⟩
   refine⟨_,rfl,_,rfl,_,rfl,m,_,_,_,rfl,rfl,SqL.of R,tV C,a,_,_,_,rfl,rfl,SqT.of (l _ _ W),ex,?_⟩;refine⟨_,rfl,_,rfl,m,_,_,_,rfl,rfl,SqL.of R,tV C,_,_,rfl,rfl,_,rfl,_,rfl,m,_,_,i,rfl,rfl,R,mw (by rw[Jn];exact C),⟨_,_,by rw[rs,<- en];rfl⟩,λb o e=>?_,?_⟩
   ·rw[zJ (zH e y)];exact l _ _ (n b o e)
   ·rw[zD,rs,c,qi]
  ·rw[Jr on]
   have c:yK false st i g=st:=by unfold yK;rw[Je on]
   exact zx ⟨⟨_,_,by rw[rs,c];rfl⟩,n.trans l,by rw[rs,c];exact l _ _ u⟩
 ·rintro σ v ⟨⟨I,D,rfl⟩,n,u⟩
  have M:=na.prs.len;rw[M]at u;have hh:=wm (back:=false) (ts:=ts) ok.fk hl N.forks.length (Jc _);refine⟨_,rfl,m,_,rfl,.inl ⟨SqL.of u,λt ht=>?_⟩⟩;have s3:=zC ht (.tup ((yP false N.forks ts lane N.forks.length).1.map V.int));have u3:=n.trans s3;have O:=u3 _ _ na.ends;rw[pO]at O;refine⟨_,rfl,r,_,_,_,rfl,rfl,SqT.of (u3 _ _ na.net),rfl,X,_,rfl,O,_,rfl,(((yP false N.forks ts lane B.length).2:Nat):Int),rfl,O,?_,?_⟩
  ·rw[M];exact JA.mpr ⟨_,ok.en.mem_iff.mpr (YN.mpr hh),rfl⟩
  ·rw[tG,M]
   exact⟨by show 2<=sizeLine;decide,λp U=>k p t _ (u3.trans (zC U _)) zD (zC U _ _ _ zD)⟩
theorem zap:FnScope ["_law_counts","_law_lane"] ["_law_counts","_law_lane"] (zN cV):=by trivial
theorem bI {f:Addr}{fd:FuncData}(F:Fun K "_law_more" "_law_more" cV f fd):FnOk P w K mg base CX0 1 f fd ["_law_counts","_law_lane"] iE:=by
 refine F.ok zap (λn H Q E h=>?_) (λC A outer s H n Q E I h=>?_)
 ·obtain⟨a,b,place,rfl,_⟩:=h
  rfl
 obtain⟨a,b,place,rfl,c,j,D,k⟩:=h;refine⟨_,(@zK _ _ _ (@zU _ _ _ _ (@zS _ _ _ _ _ _ _ _ yc (@zS _ _ _ _ _ _ _ _ yc (@zu _ _ _ _ _ _ _ _ _ _ yV (@qv _ 0 _ _ (by trivial)) yD (@zi _ _ _ (@qv _ 1 _ _ (by trivial)))) (@zX _ _ _ _ _ (@zA _ _ _ _ _ (@zS _ _ _ _ _ _ _ _ yW (@zj _ _ _ _ _ _ _ yB (@qv _ 0 _ _ (by trivial)) (@qv _ 1 _ _ (by trivial)) (λ_ _=>rfl)) zE) zB (by rfl)))) (@zu _ _ _ _ _ _ _ _ _ _ yV (@qv _ 0 _ _ (by trivial)) (@zi _ _ _ (@zS _ _ _ _ _ _ _ _ yW (@qv _ 1 _ _ (by trivial)) zE)) yD)))),?_⟩;have G:(b.map V.int).length=b.length:=Jn _;refine⟨_,rfl,_,rfl,_,rfl,a,_,rfl,c,λv M i m=>?_⟩;rw[vI _ place (by lia)]at m;refine⟨_,rfl,_,rfl,a,_,_,_,rfl,rfl,SqT.of (i _ _ c),tV j,_,_,rfl,rfl,(by show 1<=sizeLine;decide),λu d=>?_⟩;have g:=zC d (.tup [.int (b.getD place 0+1)]);refine⟨v,u,_,_,rfl,rfl,g _ _ m,zD,?_,λt L p y=>?_⟩
 ·rw[Js,JH];show _+1<=_;grind
 have u3:=(i.trans g).trans p;refine⟨_,rfl,_,rfl,_,_,rfl,rfl,_,rfl,a,_,rfl,u3 _ _ c,λr J e l=>?_⟩;rw[show ((place:Int)+1)=((place+1:Nat):Int) from rfl,oQ _ (place+1) (by lia)]at l;refine⟨t,r,_,_,rfl,rfl,e _ _ y,l,?_,λq B o x=>?_⟩
 ·rw[Jb,Js,Y9,JH];show _+1+_<=_;grind
 refine k q B ((u3.trans e).trans o) ?_;rw[x];exact JS (λz=>some (HO.tup z)) (fc b place _ j)
theorem zaA:FnScope ["_law_net"] ["_law_net"] (zN cg):=by trivial
theorem bL {f:Addr}{fd:FuncData}(F:Fun K "_law_first" "_law_first" cg f fd) (G:Mgs mg):FnOk P w K mg base CX0 1 f fd ["_law_net"] y4:=by
 refine F.ok zaA (λd H Q E h=>?_) (λn A outer s H d Q E o h=>?_)
 ·obtain⟨r,fr,m,b,N,rfl,_⟩:=h
  rfl
 obtain⟨r,fr,m,b,N,rfl,ok,na,k⟩:=h;refine⟨_,(@zK _ _ _ (@zU _ _ _ _ (@zX _ _ _ _ _ (@zA _ _ _ _ _ (@zS _ _ _ _ _ _ _ _ uH (@zX _ _ _ _ _ (@zA _ _ _ _ _ zE zB (by rfl))) (@zM _ _ _ _ _ _ _ _ _ zT (by rfl) G.len JT (@zA _ _ _ _ _ (@zj _ _ _ _ _ _ _ yB (@qv _ 0 _ _ (by trivial)) zE (λ_ _=>rfl)) zB (by rfl)) (by decide) (by decide) (by rfl) (by rfl))) (@zA _ _ _ _ _ zE zB (by rfl)) (by rfl))))),?_⟩;refine⟨by show 1<=sizeLine;decide,λt i=>?_⟩;have a:=zC i (.tup [.int 0]);have g:=na.prs.len;have u:=ok.fm;refine⟨_,rfl,r,_,_,_,rfl,rfl,SqT.of (a _ _ na.net),rfl,fr,b,rfl,.inr (SqT.of (a _ _ na.forks)),t,_,b.length,rfl,rfl,zD,by lia,λq v e l=>⟨by show 2<=sizeLine;decide,λp j=>?_⟩⟩;have c:=zC j (.tup [.ref q,.int 0]);refine k p _ ((a.trans e).trans c) (tU (is:=[0]) (t:=q) zD (c _ _ ?_));rw[l,g,<- List.map_replicate]
end
end K39
namespace L2
open PySem
theorem qJ {c:TT}{d b u:TS}{D:Ends}{σ:St}{H:Hp}(I:St->Hp->Prop)(key:∀ σ H,I σ H->u D σ H)(h:∀ a:Ends,(∀ σ H,I σ H->a.nx σ H)->a.rt=D.rt->cG c d b a σ H):vK (cG c d b) u D σ H:=h { D with nx:=u D } key rfl
theorem zab {v:V}{i:Nat}{u:TS}{D:Ends}{σ:St}{H:Hp}(h:u D (σ.set i (some v)) H):vK (fU (tC v) (wL i)) u D σ H:=h
theorem wJ {H H':Hp}{x:Addr}(s:Same H H')(h:H' x=none):H x=none:=by
 cases e:H x with
 | none=>rfl
 | some o=>rw[s _ _ e]at h;cases h
noncomputable def dh (K:PySem.W.Frag):List V->Hp->VK->Prop:=λb H Q=>∃ p a,b=[V.ref p]/\(SqL K H p a\/SqT K H p a)/\Q (V.int a.length) H
theorem jc {X:Cx}:CallR X (.builtin "len") (dh X.K):=zT
end L2
namespace Bn
open PySem L2 Own
structure Pk3 (H:Hp) (l:Addr):Prop where
 ex:∃ a b c:Int,H l=some (.lst [.int a,.int b,.int c])/\0<=a/\0<=b/\b<2 ^ 31
theorem Pk3.keep {H H':Hp}{l:Addr}(S:Pk3 H l)(s:Same H H'):Pk3 H' l:=by
 obtain⟨a,b,c,h,r⟩:=S.ex;exact⟨a,b,c,s _ _ h,r⟩
theorem Pk3.lst {H:Hp}{l:Addr}(S:Pk3 H l):∃ xs,H l=some (.lst xs):=by
 obtain⟨a,b,c,h,_⟩:=S.ex;exact⟨_,h⟩
theorem Pk3.ne {H:Hp}{l p:Addr}(S:Pk3 H l)(h:H p=none):l≠p:=by
 obtain⟨a,e⟩:=S.lst;exact zH e h
theorem Pk3.upd {H:Hp}{l p:Addr}{o:HO}(S:Pk3 H l)(h:l≠p):Pk3 (upd H p o) l:=by
 obtain⟨a,b,c,e,r⟩:=S.ex;exact⟨a,b,c,by rw[zJ h];exact e,r⟩
theorem But.tups3 {H H':Hp}{l:Addr}(x:But l H H')(S:Pk3 H l):Tups H H':=λa b e=>x a _ e (by
 rintro rfl;obtain⟨_,z⟩:=S.lst
 rw[z]at e;cases e)
noncomputable def rS (K:PySem.W.Frag):Sp:=λc H Q _=>∃ (a:Addr) (ns:List Int) (k:Int),c=[.ref a,.int k]/\SqL K H a (ns.map V.int)/\ns.length<=63/\0<=k/\k<=1000/\∀ l b,H l=none->Same H b->Pk3 b l->Q (.ref l) b
noncomputable def xN:Sp:=λa H Q _=>∃ (l:Addr) (m:Int),a=[.ref l,.int m]/\0<m/\m<1073741824/\Pk3 H l/\∀ (v:Nat) H',(v:Int)<m->Pk3 H' l->But l H H'->Q (.int v) H'
end Bn
namespace L2
open PySem PySem.Spec PyProof.Rows Own Bn
noncomputable def Sm (b:Nat):V->Prop
 | .int i=>i.natAbs<=10 ^ 29+b
 | _=>True
theorem Sm.more {b a:Nat}(hb:b<=a){x:V}(s:Sm b x):Sm a x:=by
 cases x with
 | int i=>exact JK s (Nat.add_le_add_left hb _)
 | _=>trivial
noncomputable def Ma (H:Hp)(b:Nat):Nat->V->Prop
 | 0,x=>(An H x/\Sm b x)/\zY H x=none
 | h+1,x=>(An H x/\Sm b x)/\∀ xs,zY H x=some xs->xs.length<=b/\∀ y∈xs,Ma H b h y
theorem Ma.an {H:Hp}{b:Nat}:∀ {h:Nat}{x:V},Ma H b h x->An H x
 | 0,_,m=>m.1.1
 | _+1,_,m=>m.1.1
theorem Ma.sm {H:Hp}{b:Nat}:∀ {h:Nat}{x:V},Ma H b h x->Sm b x
 | 0,_,m=>m.1.2
 | _+1,_,m=>m.1.2
theorem Ma.dp {H:Hp}{b:Nat}(hb:b<=1000):∀ {h:Nat}(n:Nat) {x:V},Ma H b h x->Dp H n x
 | 0,0,_,m=>m.1.1
 | _+1,0,_,m=>m.1.1
 | 0,n+1,_,m=>⟨m.1.1,λxs e=>absurd (m.2.symm.trans e) nofun⟩
 | h+1,n+1,_,m=>⟨m.1.1,λxs e=>⟨JK (m.2 xs e).1 hb,λy a=>Ma.dp hb n ((m.2 xs e).2 y a)⟩⟩
theorem Ma.via {H H':Hp}{b:Nat}(A:∀ {x:V},An H x->An H' x/\zY H' x=zY H x):∀ {h:Nat}{x:V},Ma H b h x->Ma H' b h x
 | 0,_,m=>⟨⟨(A m.1.1).1,m.1.2⟩,(A m.1.1).2.trans m.2⟩
 | _+1,_,m=>⟨⟨(A m.1.1).1,m.1.2⟩,λxs e=>by
  rw[(A m.1.1).2]at e
  exact⟨(m.2 xs e).1,λy a=>Ma.via A ((m.2 xs e).2 y a)⟩⟩
theorem Ma.same {H H':Hp}{b h:Nat}{x:V}(s:Same H H')(m:Ma H b h x):Ma H' b h x :=
 m.via λa=>⟨a.kp (KpN.same s),a.row (KpN.same s)⟩
theorem x5 {H:Hp}{a:Addr}{xs:List V}(e:H a=some (.lst xs)):zY H (.ref a)=none:=by simp only[zY,e]
theorem Ma.but {H H':Hp}{l:Addr}{b h:Nat}{x:V}(B:But l H H')(S:Pk3 H l)(j:Pk3 H' l)(m:Ma H b h x):Ma H' b h x:=by
 obtain⟨n,f⟩:=S.lst;obtain⟨k,g⟩:=j.lst;refine m.via λ{x} a=>?_;rcases a with a|⟨c,rfl,⟨i,e⟩|⟨i,e⟩|e⟩
 ·exact⟨.inl a,by cases x<;>first|rfl|exact a.elim⟩
 ·have d:=B _ _ e (by rintro rfl;rw[f]at e;cases e)
  exact⟨.inr ⟨_,rfl,.inl ⟨_,d⟩⟩,by rw[yi e,yi d]⟩
 ·by_cases z:c=l
  ·rw[z];exact⟨.inr ⟨_,rfl,.inr (.inl ⟨_,g⟩)⟩,by rw[x5 f,x5 g]⟩
  ·have d:=B _ _ e z
   exact⟨.inr ⟨_,rfl,.inr (.inl ⟨_,d⟩)⟩,by rw[x5 e,x5 d]⟩
 ·have d:=B _ _ e (by rintro rfl;rw[f]at e;cases e)
  exact⟨.inr ⟨_,rfl,.inr (.inr d)⟩,by simp only[zY,e,d]⟩
theorem Ma.more {H:Hp}{b a:Nat}(hb:b<=a):∀ {h h':Nat}{x:V},h<=h'->Ma H b h x->Ma H a h' x
 | 0,0,_,_,m=>⟨⟨m.1.1,m.1.2.more hb⟩,m.2⟩
 | 0,_+1,_,_,m=>⟨⟨m.1.1,m.1.2.more hb⟩,λxs e=>absurd (m.2.symm.trans e) nofun⟩
 | _+1,0,_,le,_=>absurd le (Nat.not_succ_le_zero _)
 | _+1,_+1,_,le,m=>⟨⟨m.1.1,m.1.2.more hb⟩,λxs e=>⟨JK (m.2 xs e).1 hb,λy c=>Ma.more hb (Nat.le_of_succ_le_succ le) ((m.2 xs e).2 y c)⟩⟩
theorem Ma.zero {H:Hp}{b h:Nat}{x:V}(a:An H x)(r:zY H x=none)(s:Sm b x:=by trivial):Ma H b h x:=by
 cases h with
 | zero=>exact⟨⟨a,s⟩,r⟩
 | succ h=>exact⟨⟨a,s⟩,λc e=>absurd (r.symm.trans e) nofun⟩
theorem Ma.non {H:Hp}{b h:Nat}:Ma H b h .non:=.zero (.inl trivial) rfl
theorem Ma.bl {H:Hp}{b h:Nat}(x:Bool):Ma H b h (.bl x):=.zero (.inl trivial) rfl
theorem Ma.int {H:Hp}{b h:Nat}(x:Int)(s:x.natAbs<=10 ^ 29+b:=by lia):Ma H b h (.int x):=.zero (.inl trivial) rfl s
theorem Ma.str {H:Hp}{b h:Nat}(x:Str):Ma H b h (.str x):=.zero (.inl trivial) rfl
theorem Ma.lst {H:Hp}{b h:Nat}{a:Addr}{xs:List V}(e:H a=some (.lst xs)):Ma H b h (.ref a):=.zero (.inr ⟨_,rfl,.inr (.inl ⟨_,e⟩)⟩) (x5 e)
theorem Ma.dict {H:Hp}{b h:Nat}{a:Addr}(e:H a=some (.dK [])):Ma H b h (.ref a):=.zero (.inr ⟨_,rfl,.inr (.inr e)⟩) (by simp only[zY,e])
theorem Ma.tup {H:Hp}{b h:Nat}{a:Addr}{xs:List V}(e:H a=some (.tup xs))(l:xs.length<=b)(m:∀ y∈xs,Ma H b h y):Ma H b (h+1) (.ref a) :=
 ⟨⟨.inr ⟨_,rfl,.inl ⟨_,e⟩⟩,trivial⟩,λd c=>by
  rw[yi e]at c;obtain rfl:=Jt c
  exact⟨l,m⟩⟩
theorem Ma.new {H:Hp}{b h:Nat}{a:Addr}{xs:List V}(f:H a=none)(l:xs.length<=b)(m:∀ y∈xs,Ma H b h y):Ma (L2.upd H a (.tup xs)) b (h+1) (.ref a) :=
 Ma.tup zD l λy c=>Ma.same (zC f _) (m y c)
theorem Ma.lstN {H:Hp}{a:Addr}(f:H a=none)(xs:List V){b h:Nat}:Ma (L2.upd H a (.lst xs)) b h (.ref a):=Ma.lst zD
theorem Ma.dictN {H:Hp}{a:Addr}(f:H a=none){b h:Nat}:Ma (L2.upd H a (.dK [])) b h (.ref a):=Ma.dict zD
theorem Ma.kids {H:Hp}{b h:Nat}{x:V}{xs:List V}(m:Ma H b h x)(e:zY H x=some xs):xs.length<=b/\∃ h',h=h'+1/\∀ y∈xs,Ma H b h' y:=by
 cases h with
 | zero=>exact absurd (m.2.symm.trans e) nofun
 | succ h'=>exact⟨(m.2 xs e).1,h',rfl,(m.2 xs e).2⟩
noncomputable def uT:Sp:=λb H Q _=>∃ l,b=[.ref l]/\Pk3 H l/\∀ y a,Ma a 3 2 y->Pk3 a l->But l H a->Q y a
noncomputable def uD (h:Nat):Sp:=λc H Q _=>∃ l x b,c=[.ref l,x]/\Pk3 H l/\b<=900/\Ma H b h x/\∀ y a,Ma a (b+3) (h+2) y->Pk3 a l->But l H a->Q y a
end L2
namespace L2
open PySem PySem.Spec PyProof PyProof.Rows Own Bn
noncomputable def nO:V->Option Int
 | .int i=>some i
 | .bl b=>some (PyProof.Rows.b2i b)
 | _=>none
theorem qN {xs:List V}{lo hi:Option Int}{y:V}(h:y∈yq xs lo hi):y∈xs:=Zn (YS h)
theorem qM (xs:List V)(lo hi:Option Int):(yq xs lo hi).length<=xs.length:=by
 unfold yq;rw[Js,Y9];lia
theorem oP (xs:List V)(n:Nat):(yq xs (some (n:Int)) none).length<=xs.length-n:=by
 unfold yq;rw[Js,Y9,HT.sIx_nat,HT.sIx_none];lia
theorem lK (xs:List V)(v:Nat):(yq xs (some (v:Int)) (some ((v:Int)+1))).length<=1:=by
 unfold yq;rw[Js];refine JK (Nat.min_le_left _ _) ?_;show HT.sIx xs.length xs.length (some ((v+1:Nat):Int))-HT.sIx xs.length 0 (some (v:Int))<=1;rw[HT.sIx_nat,HT.sIx_nat];lia
section
variable {X:Cx}
theorem eF:OpR X (binaryOp .Add) (λx y H Q=>∃ i j,nO x=some i/\y=.int j/\Q (.int (i+j)) H):=by
 intro pins s σ H x y v u Q I a c ⟨i,j,e,e2,q⟩;subst e2;obtain⟨d,rfl⟩:=c
 cases x with
 | int k =>
  cases e;obtain⟨t,rfl⟩:=a
  exact add_int ⟨.int _,H,I.tok _,⟨_,rfl⟩,q⟩
 | bl b =>
  cases e;cases a
  exact PySem.IntBool.add_bool_int ⟨.int _,H,I.tok _,⟨_,rfl⟩,q⟩
 | _=>cases e
theorem mR:OpR X (binaryOp .Sub) (λx y H Q=>∃ i j,nO x=some i/\nO y=some j/\((∃ k,x=.int k)\/∃ k,y=.int k)/\Q (.int (i-j)) H):=by
 intro pins s σ H x y v u Q I c a ⟨i,j,e,e2,w,q⟩
 cases x with
 | int k =>
  cases e;obtain⟨t,rfl⟩:=c
  cases y with
  | int l =>
   cases e2;obtain⟨d,rfl⟩:=a
   exact sub_int ⟨.int _,H,I.tok _,⟨_,rfl⟩,q⟩
  | bl b =>
   cases e2;cases a
   exact PySem.IntBool.sub_int_bool ⟨.int _,H,I.tok _,⟨_,rfl⟩,q⟩
  | _=>cases e2
 | bl b =>
  cases e;cases c
  cases y with
  | int l =>
   cases e2;obtain⟨d,rfl⟩:=a
   exact PySem.IntBool.sub_bool_int ⟨.int _,H,I.tok _,⟨_,rfl⟩,q⟩
  | bl b=>rcases w with ⟨k,w⟩|⟨k,w⟩<;>cases w
  | _=>cases e2
 | _=>cases e
theorem n9:CallR X (.type "bool") (λxs H Q=>∃ x i,xs=[x]/\nO x=some i/\∀ b,Q (.bl b) H):=by
 rintro pins s σ H xs a Q I r ⟨x,i,rfl,e,q⟩
 cases x with
 | int k=>exact tT pins s σ H _ a Q I r (.inl ⟨_,rfl,q _⟩)
 | bl b=>exact tT pins s σ H _ a Q I r (.inr ⟨_,rfl,q _⟩)
 | _=>cases e
theorem eD (n:X.A.units<cLine):OpR X (compareOp .NotEq) (λx y H Q=>∃ a b xs,x=.ref a/\y=.ref b/\H a=some (.tup xs)/\H b=some (.tup [])/\Q (.bl (!xs.isEmpty)) H):=by
 intro pins s σ H x y v u Q I g f ⟨a,b,xs,r,e2,p,o,q⟩;subst r e2;cases g;cases f;obtain⟨c,d,m,_⟩:=I.tuple (SqT.of p);obtain⟨t,i,k,_⟩:=I.tuple (SqT.of o);cases i;refine SeqAt.RcNeAt.tuples (e:=λ_=>true) m k n (λj _ h=>absurd h (Nat.not_lt_zero _)) X.prog X.w _ _ ?_
 have e:(!((List.range (min c.toArray.size ([]:List Value).toArray.size)).all (λ_=>true) && c.toArray.size == ([]:List Value).toArray.size)) = !xs.isEmpty:=by
  have l:=d.length
  cases xs with
  | nil=>cases d;rfl
  | cons z w=>cases d;simp
 exact⟨.bl _,H,I,JS Value.bool e,q⟩
theorem jY:CallR X (.type "str") (λxs H Q=>∃ x i,xs=[x]/\nO x=some i/\i.natAbs<=10 ^ 30/\∀ z,Q (.str z) H):=by
 rintro pins s σ H xs c Q I r ⟨x,i,rfl,e,b,q⟩;obtain⟨u,rfl,a⟩:=wa r
 cases x with
 | int k =>
  cases e;obtain⟨t,rfl⟩:=a;refine PySem.P.str_of_int ?_ ⟨.str _,H,I.tok _,⟨_,rfl⟩,q _⟩;by_cases z:i.natAbs=0
  ·rw[z];decide
  ·rw[Nat.log2_lt z]
   exact Nat.lt_of_le_of_lt b (by decide)
 | bl b =>
  cases a
  exact PySem.P.str_of_bool ⟨.str _,H,I.tok _,⟨_,rfl⟩,q _⟩
 | _=>cases e
end
end L2
namespace L2
open PySem PySem.Spec PyProof.Rows Own Bn
theorem lN:∀ {x y:List Int},cmpR x y=.eq->x=y
 | [],[],_=>rfl
 | [],_::_,h=>by cases h
 | _::_,[],h=>by cases h
 | a::x,b::y,h=>by
  have h':(compare a b).then (cmpR x y)=.eq:=h
  cases z:compare a b with
  | lt=>rw[z]at h';cases h'
  | gt=>rw[z]at h';cases h'
  | eq=>rw[z]at h';rw[Wa.mp z,lN h']
theorem rG:∀ x y:List Int,cmpR y x=(cmpR x y).swap
 | [],[]=>rfl
 | [],_::_=>rfl
 | _::_,[]=>rfl
 | a::x,b::y=>by
  show (compare b a).then (cmpR y x)=((compare a b).then (cmpR x y)).swap;rw[rG x y];rcases Int.lt_trichotomy a b with h|h|h
  ·rw[ZJ.mpr h,ZK.mpr h];rfl
  ·subst h
   rw[Wa.mpr (rfl:a=a)];rfl
  ·rw[ZK.mpr h,ZJ.mpr h];rfl
section
variable {n:Nat}
theorem tL:∀ {ps:LvL},LvNd ps->∀ {s:KN}{c:List Int},(s,c)∈ps->yw ps s=some c
 | [],_,s,c,h=>by cases h
 | p::ps,nd,s,c,h=>by
  unfold LvNd at nd;rw[Y1,JY]at nd;unfold yw;rw[ZU];rcases Jq.mp h with z|z
  ·rw[<- z]
   show (match decide (s=s) with|true=>some (s,c)|false=>_:Option (KN × List Int)).map _=_;rw[Jx rfl];rfl
  ·have n:¬ p.1=s:=λy=>nd.1 (JA.mpr ⟨_,z,y.symm⟩)
   rw[Jr n];exact tL nd.2 z
end
theorem tK {ps:LvL}{s:KN}:(yw ps s).isSome=true↔s∈ps.map (·.1):=by
 constructor
 ·intro h
  obtain⟨r,a⟩:=jR h;exact JA.mpr ⟨_,a,rfl⟩
 ·intro h
  obtain⟨p,b,rfl⟩:=JA.mp h;exact oD b
section
theorem mj {α:Type}[DecidableEq α]:∀ {l ks:List α},l.Nodup->(∀ x∈l,x∈ks)->l.length<=ks.length
 | [],_,_,_=>JN _
 | a::l,ks,nd,h=>by
  rw[JY]at nd;have ha:=h a (.head _);have:=mj (l:=l) (ks:=ks.erase a) nd.2 λx b=>(List.mem_erase_of_ne λ(z:x=a)=>nd.1 (z ▸ b)).mpr (h x (.tail _ b));rw[List.length_erase_of_mem ha]at this;have:0<ks.length:=List.length_pos_of_mem ha;rw[JV];lia
end
noncomputable def zF (N:Nt):List Int:=List.replicate N.forks.length 0
noncomputable def k0P (N:Nt):KN:=stK (zF N) [0]
noncomputable def xB (N:Nt):KN->Nat->KN
 | [.inr ts,.inl r],m=>stK (xM N ts m) [(r+1)%(N.lanes:Nat)]
 | k,_=>k
theorem j9 {N:Nt}{s t:KN}{m:Nat}(h:yS N s m=some t):t=xB N s m:=by
 unfold yS at h;split at h
 ·split at h
  ·exact(Jt h).symm
  ·cases h
 ·cases h
theorem bO {N:Nt}(ok:Nt.Ok N){s:KN}{m:Nat}(h:OkP N s):OkP N (xB N s m):=by
 obtain⟨a,r,rfl,c,b,d⟩:=h;refine⟨xM N a m,(r+1)%N.lanes,?_,(sO _ _ _).trans c,ui b,Nat.mod_lt _ (by have:=ok.l1;lia)⟩;rw[Int.natCast_emod];rfl
theorem jB (x y:List Int):wB x y=wB y x:=by
 unfold wB;have sw:=rG x y
 cases e:cmpR x y with
 | lt=>rw[sw,e,Je (by decide),Jg rfl]
 | gt=>rw[sw,e,Jg (by rfl),Je (by decide)]
 | eq=>rw[sw,e,Je (by decide),Je (by decide),lN e]
noncomputable def nv (ks:List KN)(k:KN):Bool:=ks.any λx=>decide (x=k)
theorem tJ {ks:List KN}{k:KN}:nv ks k=true↔k∈ks:=by
 unfold nv;rw[List.any_eq_true];exact⟨λ⟨x,a,e⟩=>Ys e ▸ a,λh=>⟨k,h,Jx rfl⟩⟩
section
variable (N:Nt)(ks:List KN)
noncomputable def la1 (s:KN)(c:List Int)(a:LAcc)(m:Nat):LAcc :=
 ⟨if nv ks (xB N s m)=true then a.on else wX a.on (xB N s m) (wB ((yw a.on (xB N s m)).getD (yz c m)) (yz c m)),if yS N s m=none then a.fl++[yz c m] else a.fl⟩
noncomputable def laS (moves:List Nat)(a:LAcc)(p:KN × List Int):LAcc:=moves.foldl (la1 N ks p.1 p.2) a
noncomputable def laL (moves:List Nat)(level:LvL):LAcc:=level.foldl (laS N ks moves) ⟨[],[]⟩
end
section
variable {N:Nt}{seen:LvL}
noncomputable def Lik (A B:LAcc):Prop:=A.fl=B.fl/\(A.fl=[]->A.on=B.on)
theorem bR {A B:LAcc}(h:Lik A B)(s:KN)(c:List Int)(m:Nat):Lik (la1 N (seen.map (·.1)) s c A m) (go1 (yS N) seen s c B m):=by
 obtain⟨a,d⟩:=h;unfold la1 go1
 cases e:yS N s m with
 | none =>
  refine⟨?_,λz=>?_⟩
  ·show (if (none:Option KN)=none then A.fl++[yz c m] else A.fl)=B.fl++[yz c m]
   rw[Jg rfl,a]
  ·have b:(if (none:Option KN)=none then A.fl++[yz c m] else A.fl)=[]:=z
   rw[Jg rfl]at b
   exact absurd (JS List.length b) (by rw[Jb];show _+1≠0;lia)
 | some t =>
  have f:=j9 e;subst f;have nn:¬((some (xB N s m):Option KN)=none):=λz=>by cases z
  dsimp only;rw[Je nn];by_cases g:(yw seen (xB N s m)).isSome=true
  ·rw[Jg g,Jg (tJ.mpr (tK.mp g))]
   exact⟨a,d⟩
  ·rw[Je g,Je (λz=>g (tK.mpr (tJ.mp z)))]
   exact⟨a,λz=>by show wX _ _ _=wX _ _ _;rw[d z,jB]⟩
theorem ah {A B:LAcc}(h:Lik A B)(moves:List Nat)(p:KN × List Int):Lik (laS N (seen.map (·.1)) moves A p) (goS (yS N) seen moves B p):=by
 unfold laS goS
 induction moves generalizing A B with
 | nil=>exact h
 | cons m r ih=>exact ih (bR h p.1 p.2 m)
theorem ai (moves:List Nat)(level:LvL):Lik (laL N (seen.map (·.1)) moves level) (vG (yS N) seen moves level):=by
 unfold laL vG
 have key:∀ (level:LvL) {A B:LAcc},Lik A B->Lik (level.foldl (laS N (seen.map (·.1)) moves) A) (level.foldl (goS (yS N) seen moves) B):=by
  intro level
  induction level with
  | nil=>exact λh=>h
  | cons p r ih=>exact λh=>ih (ah h moves p)
 exact key level ⟨rfl,λ_=>rfl⟩
end
structure AccL (N:Nt) (n m:Nat) (a:LAcc):Prop where
 on:∀ p∈a.on,OkP N p.1/\p.2.length=n
 fl:∀ r∈a.fl,r.length=n
 onl:a.on.length<=m
 fll:a.fl.length<=m
theorem AccL.go {N:Nt}(ok:Nt.Ok N){ks:List KN}{s:KN}{c:List Int}{a:LAcc}{n m k:Nat}(h:AccL N n m a)(i:OkP N s)(o:c.length=n):AccL N n (m+1) (la1 N ks s c a k):=by
 have f:(yz c k).length=n:=by rw[pH,o]
 refine⟨λp l=>?_,λr j=>?_,?_,?_⟩
 ·have d:p∈(if nv ks (xB N s k)=true then a.on else wX a.on (xB N s k) (wB ((yw a.on (xB N s k)).getD (yz c k)) (yz c k))):=l
  split at d
  ·exact h.on p d
  ·rcases uf d with z|z
   ·exact h.on p z
   ·rw[z]
    refine⟨bO ok i,?_⟩;show (wB _ _).length=n;rcases eR ((yw a.on (xB N s k)).getD (yz c k)) (yz c k) with e|e
    ·rw[e]
     cases g:yw a.on (xB N s k) with
     | none=>exact f
     | some r=>exact(h.on _ (tM g)).2
    ·rw[e];exact f
 ·have b:r∈(if yS N s k=none then a.fl++[yz c k] else a.fl):=j
  split at b
  ·rcases Ju.mp b with z|z
   ·exact h.fl r z
   ·rw[Jd.mp z];exact f
  ·exact h.fl r b
 ·show (if nv ks (xB N s k)=true then a.on else wX a.on (xB N s k) (wB ((yw a.on (xB N s k)).getD (yz c k)) (yz c k))).length<=m+1
  have:=h.onl;split
  ·lia
  ·have:=qt a.on (xB N s k) (wB ((yw a.on (xB N s k)).getD (yz c k)) (yz c k));lia
 ·show (if yS N s k=none then a.fl++[yz c k] else a.fl).length<=m+1
  have:=h.fll;split
  ·rw[Jb];show _+1<=_;simp_all
  ·lia
end L2
namespace L2
open PySem PySem.Spec PyProof.Rows Own
section
variable {prog:Program}{w:World}{A:Around}{E:Value->Shared->Prop}
theorem NIs.same {h h':Heap}(t:∀ b o,o.cls=.type "tuple"->h.get? b=some o->h'.get? b=some o) {ks:KN}{a:Addr}(p:NIs prog w h ks a):NIs prog w h' ks a:=by
 have one:∀ {k:KI}{v:Value},NIt prog w h k v->NIt prog w h' k v:=λ{k v} q=>by
  cases k with
  | inl i=>exact q
  | inr u =>
   obtain⟨b,e,o,c,n,j,d,g⟩:=q;exact⟨b,e,o,c,n,t b o d j,d,g⟩
 have all:∀ {ks:KN}{f:List Value},NIts prog w h ks f->NIts prog w h' ks f:=λ{ks}=>by
  induction ks with
  | nil=>exact λq=>q
  | cons k ks ih =>
   intro f q;obtain⟨v,r,e,m,l⟩:=q;exact⟨v,r,e,one m,ih l⟩
 obtain⟨o,c,n,j,d,g,s⟩:=p;exact⟨o,c,n,t a o d j,d,g,all s⟩
variable {d it l:Addr}{its:Array Value}{ps:List (KN × Addr × Value)}{res:Value}
noncomputable def PairsH (P:Program)(w:World)(h:Heap)(its:Array Value)(ps:List (KN × Addr × Value)):Prop :=
 its.size=ps.length/\∀ (i:Nat) (x:Value),its[i]?=some x->∃ t v k b ob m,x=.ref t/\h.get? t=some ob/\ob.cls=.type "tuple"/\ob.data=.seq #[.ref b,v] m/\NIs P w h k b/\ps[i]?=some (k,b,v)
theorem PairsH.same {h h':Heap}(p:PairsH prog w h its ps) (f:∀ b o,o.cls=.type "tuple"->h.get? b=some o->h'.get? b=some o):PairsH prog w h' its ps :=
 ⟨p.1,λi x e=>let ⟨t,v,k,b,ob,m,j,e2,a,g,d,c⟩:=p.2 i x e;⟨t,v,k,b,ob,m,j,f t ob a e2,a,g,d.same f,c⟩⟩
theorem pG {R:Result->Shared->Prop}(hh:A.handled=none)(hu:A.units+3<cLine):∀ (m i:Nat) (s:Shared) (xs:List (KN × Addr × Value)),i+m=its.size->s.heap.IsListIter it l i->s.heap.IsList l its->s.heap.DictOfH (yQ prog w) d xs->PairsH prog w s.heap its ps->it≠d->xs.length+m<=sizeLine ->
  (∀ h' tk,h'.DictOfH (yQ prog w) d (mergeN xs (ps.drop i))->(∀ b o,b≠d->b≠it->s.heap.get? b=some o->h'.get? b=some o)->R (.ok (.ret res)) { s with heap:=h',toks:=tk }) ->
  codeAny (model prog w) A (.builtin "dict.update.loop" ⟨[.ref d,.ref it,rawInt (i:Int),res],[]⟩) R s:=by
 intro m
 induction m with
 | zero =>
  intro i s xs im hit G p n ne hz fin;refine Zd wN ?_;rw[YR y8];show wpAny _ A.in1 (pyNext (Value.ref it) >>= _) _ _ _;refine J0 (wpAny_pyNext_list_end (A:=A.in1) hh hit G (Array.getElem?_eq_none (by simp_all)) λh' j=>?_);refine J0 (J8 (J8 (fin h' s.toks ?_ λb o _ nb e=>j b o nb e)));rw[List.drop_eq_nil_of_le (by rw[<- n.1];simp_all)];obtain⟨o,u,y,e,c,H,O,h,N⟩:=p;refine⟨o,u,y,j d o (Ne.symm ne) e,c,H,O,λx M=>(h x M).same λb o' I X=>j b o' ?_ X,N⟩;rintro rfl;obtain⟨F,e2,a,_⟩:=hit;rw[X]at e2;obtain rfl:=Jt e2
  rw[I]at a;exact absurd (Value.type.inj a) (by decide)
 | succ m ih =>
  intro i s xs im hit G p n ne hz fin;obtain⟨x,ex⟩:∃ x,its[i]?=some x:=⟨_,getElem?_pos its i (by lia)⟩;obtain⟨t,v,k,b,ob,mm,rfl,et,I,dt,hk,V⟩:=n.2 i x ex;refine Zd wN ?_;rw[YR y8];show wpAny _ A.in1 (pyNext (Value.ref it) >>= _) _ _ _;refine J0 (wpAny_pyNext_list_item (A:=A.in1) hit G ex λQ E f=>?_)
  have W:∀ {b:Addr}{o:Obj},o.cls=.type "tuple"->s.heap.get? b=some o->b≠it:=λ{b o} c e z=>by
   obtain⟨F,e2,a,_⟩:=hit;rw[z]at e;rw[e]at e2;obtain rfl:=Jt e2;rw[c]at a;exact absurd (Value.type.inj a) (by decide)
  have Y:∀ {b:Addr}{o:Obj},o.cls=.type "tuple"->s.heap.get? b=some o->b≠d:=λ{b o} c e z=>by
   obtain⟨F,u,y,e2,a,H,_⟩:=p;rw[z]at e;rw[e]at e2;obtain rfl:=Jt e2;have q:=a.1;rw[c]at q;exact absurd (Value.type.inj q) (by decide)
  have L:∀ b o,o.cls=.type "tuple"->s.heap.get? b=some o->Q.get? b=some o:=λb o c e=>(f.2 b (W c e)).trans e;have C:=L t ob I et;have ty:({ s with heap:=Q }:Shared).TypeIs (.ref t) "tuple":=⟨ob,C,I⟩
  have U:Q.DictOfH (yQ prog w) d xs:=by
   obtain⟨o,u,y,e,c,H,O,h,N⟩:=p;exact⟨o,u,y,(f.2 d (Ne.symm ne)).trans e,c,H,O,λx M=>(h x M).same L,N⟩
  refine J0 (Y4 (J0 (W4 ?_)));unfold Builtin.Dict.pairItems;refine J0 (YM ty ?_);rw[Jg (by decide)];refine J0 (Yg C dt (J8 ?_));refine Y4 (wpAny_dictSet_heap (knd:=yQ prog w) (show A.in1.units+2<cLine by rw[Around.in1_units];omega) (hk.same L) U (λP T B=>?_) (by lia));refine J8 ⟨Zf y8 _,?_⟩;have g:∀ b o,b≠d->b≠it->s.heap.get? b=some o->P.get? b=some o:=λb o K J e=>(B.2 b K).trans ((f.2 b J).trans e);have Z:=sI xs (k,b,v)
  have D:P.IsListIter it l (i+1):=by
   obtain⟨o,e,r⟩:=E;exact⟨o,(B.2 it ne).trans e,r⟩
  have S:P.IsList l its:=by
   obtain⟨o,e,c,r⟩:=G;refine⟨o,g l o (λz=>?_) (λz=>?_) e,c,r⟩
   ·obtain⟨F,u,y,e2,a,_⟩:=p
    rw[<- z,e]at e2;obtain rfl:=Jt e2;have q:=a.1;rw[c]at q;exact absurd (Value.type.inj q) (by decide)
   ·obtain⟨F,e2,a,_⟩:=hit
    rw[<- z,e]at e2;obtain rfl:=Jt e2;rw[c]at a;exact absurd (Value.type.inj a) (by decide)
  refine ih (i+1) _ (storedH xs k b v) (by lia) D S T (n.same λb o c e=>g b o (Y c e) (W c e) e) ne (by have:(storedH xs k b v).length<=xs.length+1:=Z;lia) λh' tk d' j=>fin h' tk ?_ λb o K J e=>j b o K J (g b o K J e);have il:i<ps.length:=by rw[<- n.1];lia
  rw[Yx il,show ps[i]=(k,b,v) from (Ja.mp V).2];exact d'
theorem oM {s:Shared}{n:Nat}{Q:Value->Shared->Prop}(y:A.handled=none) (N:A.units+4<cLine) (I:s.heap.get? l=some { cls:=.type "list",data:=.seq its n }) (H:PairsH prog w s.heap its ps) (M:its.size<=sizeLine)
  (h:∀ f k,f.DictOfH (yQ prog w) s.heap.objs.size (mergeN [] ps)->(∀ b o,s.heap.get? b=some o->f.get? b=some o)->Q (.ref s.heap.objs.size) { s with heap:=f,toks:=k }) :
  wpAny (model prog w) A (call (.type "dict") [.ref l]) Q E s:=by
 refine callType_codes (Q₁:=λob v=>ob=.ref s.heap.objs.size/\v={ s with heap:=s.heap.push { cls:=.type "dict",data:=.dict #[] } }) F.kt_called_dict (F.kt_typeCall_dict_1 _) F.entry_dict_init (kt_code_dict_new _ ⟨rfl,rfl⟩) ?_;rintro ob v ⟨rfl,rfl⟩;have nw:(s.heap.push { cls:=.type "dict",data:=.dict #[] }).DictOfH (yQ prog w) s.heap.objs.size []:=Heap.DictOfH.new s.heap;have d:=J7 ({ cls:=.type "dict",data:=.dict #[] }:Obj) I;have B:({ s with heap:=s.heap.push { cls:=.type "dict",data:=.dict #[] } }:Shared).TypeIs (.ref l) "list":=⟨_,d,rfl⟩;refine⟨nw.typeIs,F.args_dict_init_2 _ _,?_⟩;unfold Builtin.«dict.__init__» Builtin.Dict.selfAndRest;refine J0 (J0 (ZP nw.typeIs (J8 ?_)));show wpAny _ _ (Builtin.Dict.updateFrom "dict.__init__" s.heap.objs.size (Value.ref l) [] Value.none) _ _ _;unfold Builtin.Dict.updateFrom;refine J0 (YM B ?_);rw[Jg (by decide)];refine J0 (jE d y λj m c=>?_);rw[Jg (by rfl)];refine J0 (YJ ?_);have g:=c _ _ d;refine J0 (wpAny_pyIter_list ⟨_,g,rfl,_,rfl⟩ ?_);refine J8 ⟨Zf y8 _,?_⟩;have a:∀ b o,(s.heap.push { cls:=.type "dict",data:=.dict #[] }).get? b=some o->(j.push ({ cls:=.type "list_iterator",data:=.fields #[.ref l,.int 0 0] }:Obj)).get? b=some o:=λb o e=>J7 _ (c b o e);obtain⟨C,t,u,z,cd,J,q,L,p⟩:=nw;have dl:s.heap.objs.size<j.objs.size:=Jp (c _ _ z);refine pG (A:=A.in1) (R:=wants (λr i=>r=Value.none/\Q (.ref s.heap.objs.size) i) E) (it:=j.objs.size) (ps:=ps) (l:=l) (its:=its) y (by rw[Around.in1_units];omega) its.size 0 { s with heap:=j.push { cls:=.type "list_iterator",data:=.fields #[.ref l,.int 0 0] },toks:=m } [] (by lia) ⟨_,Jv _ rfl,rfl,rfl⟩ ⟨_,J7 _ g,rfl,_,rfl⟩ ⟨C,t,u,a _ _ z,cd,J,q,λx G=>absurd G JJ,p⟩ (H.same λb o _ e=>a b o (J7 _ e)) (Z2 dl) (by rw[Zz];simp_all) λf k K D=>⟨rfl,h f k K λb o e=>?_⟩;have bl:=Jp e;exact D b o (JC bl) (JC (Nat.lt_trans bl dl)) (a b o (J7 _ e))
end
noncomputable def PrH (H:Hp)(t:V)(p:KN × Addr × V):Prop:=∃ a,t=.ref a/\H a=some (.tup [.ref p.2.1,p.2.2])/\NKey H p.1 p.2.1
section
variable {X:Cx}{pins:List (Addr × Obj)}{σ:St}{H:Hp}{s:Shared}{A:Around}{E:Value->Shared->Prop}
theorem iV (I:Inv X pins σ H s){ts:List V}{xs:KVN}(p:Paired (PrH H) ts xs):∀ {its:List Value},Vals ts its->∃ ps,Paired PrN xs ps/\its.length=ps.length/\∀ (i:Nat) (x:Value),its[i]?=some x->∃ t v k b ob m,x=.ref t/\s.heap.get? t=some ob/\ob.cls=.type "tuple"/\ob.data=.seq #[.ref b,v] m/\NIs X.prog X.w s.heap k b/\ps[i]?=some (k,b,v):=by
 induction p with
 | nil =>
  intro its r;cases r
  exact⟨[],.nil,rfl,λi x e=>by simp at e⟩
 | @cons t q ts xs h _ ih =>
  intro its r
  cases r with
  | cons r rs =>
   obtain⟨ps,rel,len,j⟩:=ih rs;obtain⟨a,rfl,n,l⟩:=h;cases r;obtain⟨c,g,⟨o,u,co,m,w⟩,_⟩:=I.tuple (SqT.of (K:=X.K) n);obtain⟨x,y,rfl,f,d⟩:=mC g;cases f;refine⟨(q.1,q.2.1,y)::ps,.cons ⟨rfl,rfl,d⟩ rel,by simp[len],λi z e=>?_⟩
   cases i with
   | zero =>
    obtain rfl:Value.ref a=z:=by simpa using e
    exact⟨a,y,q.1,q.2.1,o,m,rfl,u,co,w,xO I.hok l,rfl⟩
   | succ i=>exact j i z (by simpa using e)
theorem eP {l:Addr}{ts:List V}{xs:KVN}{Q:Value->Shared->Prop}(k:A.handled=none)(g:A.units+4<cLine)(I:Inv X pins σ H s)(e:H l=some (.lst ts))(p:Paired (PrH H) ts xs)(h:∀ q b,H q=none->Inv X pins σ (upd H q (DN X.prog X.w q (xL [] xs))) b->Q (.ref q) b):wpAny (model X.prog X.w) A (call (.type "dict") [.ref l]) Q E s:=by
 obtain⟨z,t,n,r,m⟩:=I.hok _ _ e;obtain⟨ps,rel,len,j⟩:=iV I p r;have u:=Yc p;refine oM (ps:=ps) k g m ⟨by simpa using len,λi x ex=>j i x (by simpa using ex)⟩ (by rw[Jm,<- r.length];exact z) λv c o f=>?_;have d:=mergeV_len xs [];rw[Zz]at d;exact h _ _ (I.hok.fresh (Jc _)) (I.laid (a:=s.heap.objs.size) (t':=c) f (Jc _) (dn_new (by lia) (YD.mpr (Ne.symm (JC I.big))) (mergeV_rel rel .nil) o))
end
section
variable {X:Cx}
theorem n5 (d:X.calm=true)(c:X.A.units+4<cLine):CallR X (.type "dict") (λvs H Q=>∃ l ts xs,vs=[.ref l]/\H l=some (.lst ts)/\Paired (PrH H) ts xs/\∀ q,H q=none->Q (.ref q) (upd H q (DN X.prog X.w q (xL [] xs)))):=by
 intro pins s σ H vs g Q I r h;obtain⟨l,ts,xs,rfl,e,p,q⟩:=h;obtain⟨u,rfl,a⟩:=wa r;obtain rfl:u=Value.ref l:=a;exact eP (I.ok.hd d) c I e p λx i b f=>⟨.ref x,_,f,rfl,q x b⟩
end
end L2
namespace L2
open PySem PySem.Spec PyProof.Rows Own Bn
theorem rE {P:Program}{w:World}{d:Addr}{o:Obj}{xs:KVN}{g:TG}{h:TS}{D:Ends}{σ:St}{H:Hp}(a:Nat->St->Hp->Prop)(s:a 0 σ H)(n:∀ i σ H,a i σ H->H d=some (.frz o (DN P w d xs)))(l:∀ i p σ H,xs[i]?=some p->a i σ H->g (.ref p.2.1) σ H λc f=>h { D with nx:=a (i+1),ct:=a (i+1),bk:=D.nx } c f)(r:∀ σ H,a xs.length σ H->D.nx σ H) :
  ∃ W:Nat->Nat->St->Hp->Prop,(∃ m,W 0 m σ H)/\∀ i m σ H,W i m σ H ->
   ((Itn P w d o xs).stop i H/\D.nx σ H)\/((Itn P w d o xs).go i H/\∃ N:St->Hp->Prop,(∀ e b,N e b->∃ j,j<m/\W (i+1) j e b)/\∀ x b,(Itn P w d o xs).yld i H x b->g x σ b λc f=>h { D with nx:=N,ct:=N,bk:=D.nx } c f):=by
 refine⟨λi m σ H=>m=xs.length-i/\i<=xs.length/\a i σ H,⟨xs.length,rfl,JN _,s⟩,?_⟩;rintro i m σ H ⟨rfl,hi,pv⟩;have k:=n i σ H pv;rcases Nat.lt_or_ge i xs.length with lt|ge
 ·exact .inr ⟨⟨k,lt⟩,a (i+1),λe b q=>⟨xs.length-(i+1),by lia,rfl,lt,q⟩,λx b ⟨u,p,t,e2⟩=>by rw[u,e2];exact l i p σ H t pv⟩
 ·obtain rfl:i=xs.length:=by lia
  exact .inl ⟨⟨k,rfl⟩,r σ H pv⟩
theorem nA {H:Hp}{F c:Nat}{xs:KVN}{lv:LvL}{ys:List V}(le:LvE H xs lv)(ok:∀ p∈lv,StOk F c p.1)(pm:ys.Perm (xs.map λp=>.ref p.2.1))(so:ys.Pairwise λx y=>rkH H x<=rkH H y):∃ cs a,ys=cs.map V.ref/\KeysAt H cs a/\a.Perm (lv.map (·.1))/\a.Pairwise λx y=>tQ x<=tQ y:=by
 obtain⟨cs,rfl,pc⟩:=nK (f:=V.ref) (zs:=xs.map λp=>p.2.1) pm (by rw[YX];rfl);obtain⟨a,d,b⟩:=jI pc le.keys;refine⟨cs,a,rfl,d,b,oA (F:=F) (c:=c) d (λk g=>?_) so⟩;obtain⟨p,e,rfl⟩:=JA.mp (b.mem_iff.mp g);exact ok p e
theorem dE (ys:KVN)(k:KN):(yb ys k).isSome=nv (ys.map (·.1)) k:=by
 rw[Yj,yu,tJ]
theorem mD:∀ {xs:KVN},(xs.map (·.1)).Nodup->∀ {p:KN × Addr × V},p∈xs->yb xs p.1=some p.2.2
 | [],_,_,h=>by cases h
 | x::xs,nd,p,h=>by
  rw[Y1,JY]at nd;rw[sH];rcases Jq.mp h with rfl|z
  ·exact Jg rfl
  ·rw[Je (λ(e:x.1=p.1)=>nd.1 (by rw[e];exact JA.mpr ⟨p,z,rfl⟩))]
   exact mD nd.2 z
theorem gL {H:Hp}{g q:Addr}{x y:List Int}{n:Nat}(b:H g=some (.tup (x.map V.int)))(a:H q=some (.tup (y.map V.int)))(d:x.length=n)(c:y.length=n):(∀ u∈[V.ref g,V.ref q],∀ v∈[V.ref g,V.ref q],Lx H 1 u v (vw H u v))/\∃ h,xi (vw H) (.ref g) (.ref q)=.ref h/\H h=some (.tup ((wB x y).map V.int)) :=
 ⟨mI (fs:=[g,q]) (rs:=[x,y]) (.cons b (.cons a .nil)) λr e=>by
  rcases Jq.mp e with rfl|z
  ·exact d
  ·rw[Jd.mp z];exact c,oX (fs:=[q]) (rs:=[y]) (.cons a .nil) b⟩
theorem eC {H:Hp}{N:Nt}{ts:List Int}{r lane:Nat}{T t:Addr}(b:H T=some (.tup [.ref t,.int (((r:Nat)+1)%(N.lanes:Nat))]))(a:H t=some (.tup ((xM N ts lane).map V.int))):NKey H (xB N (stK ts [(r:Nat)]) lane) T:=tU (is:=[((r:Nat)+1)%(N.lanes:Nat)]) b a
theorem vd {N:Nt}{ts:List Int}{r lane:Nat}:yS N (stK ts [(r:Nat)]) lane=none↔passE N ts lane≠r:=by
 show (if ((passE N ts lane:Nat):Int)=(r:Nat) then some (stK (xM N ts lane) [((r:Nat)+1)%(N.lanes:Nat)]) else none)=none↔_;by_cases z:passE N ts lane=r
 ·rw[Jg (by simp_all)]
  exact⟨λy=>(nomatch y),λy=>absurd z y⟩
 ·rw[Je (by lia)]
  exact⟨λ_=>z,λ_=>rfl⟩
noncomputable def yg (xs:KVN):KVN:=xs.map λp=>(p.1,p.2.1,V.bl true)
theorem om (xs:KVN):(yg xs).map (·.1)=xs.map (·.1):=by unfold yg;rw[YX];rfl
theorem j3 {H:Hp}{xs:KVN}(h:KsIn H xs):KsIn H (yg xs):=λx a=>by
 obtain⟨p,b,rfl⟩:=JA.mp a;exact h p b
theorem sV {xs ys:KVN}(nd:(ys.map (·.1)).Nodup)(ds:∀ k∈ys.map (·.1),k∉xs.map (·.1)):xL xs ys=xs++ys :=
 sW ys xs nd λy a x b e=>ds y.1 (JA.mpr ⟨y,a,rfl⟩) (e ▸ JA.mpr ⟨x,b,rfl⟩)
noncomputable def RowsK (H:Hp)(as:List Addr)(kss:List (List KN)):Prop:=Paired (λa b=>∃ bs,H a=some (.lst (bs.map V.ref))/\KeysAt H bs b) as kss
theorem RowsK.keep {H H':Hp}{as:List Addr}{kss:List (List KN)}(h:RowsK H as kss)(t:Tups H H')(k:∀ a∈as,∀ xs,H a=some (.lst xs)->H' a=some (.lst xs)):RowsK H' as kss:=by
 unfold RowsK at h ⊢
 induction h with
 | nil=>exact .nil
 | cons q _ ih =>
  obtain⟨bs,e,b⟩:=q;exact .cons ⟨bs,k _ (.head _) _ e,b.tups t⟩ (ih λa c=>k a (.tail _ c))
theorem RowsK.same {H H':Hp}{as:List Addr}{kss:List (List KN)}(h:RowsK H as kss)(s:Same H H'):RowsK H' as kss:=h.keep (Tups.of s) λ_ _ _ e=>s _ _ e
end L2
namespace L2
open PySem PySem.Spec PyProof.Rows Own
theorem FnOk.any {P:Program}{w:World}{K:PySem.W.Frag}{mg:Str->Option Value}{base:Heap}{CX:CXT}{k:Nat}{f:Addr}{fd:FuncData}{ps:List Str}{sp:Nat->Sp}(M:Nat)(F:∀ m,m<=M->FnOk P w K mg base CX k f fd ps (sp m)) :
  FnOk P w K mg base CX k f fd ps (λvs H Q E=>∃ m,m<=M/\sp m vs H Q E) :=
 ⟨λvs H Q E ⟨m,a,q⟩=>(F m a).len vs H Q E q,λA outer s H args b vs Q E d e g c ⟨m,a,q⟩=>(F m a).run A outer s H args b vs Q E d e g c q⟩
end L2
namespace Bn
open PySem L2 Own
noncomputable def xT:Nat->List Nat->List Fk × List Nat
 | 0,row=>([],row)
 | m+1,row=>((row.getD 0 0,row.getD (row.length / 2) 0)::((xT m (row.take (row.length / 2))).1++(xT m (row.drop (row.length / 2))).1),yY (xT m (row.take (row.length / 2))).2 (xT m (row.drop (row.length / 2))).2)
noncomputable def mergeN:Nat->List Nat->List Nat->List Fk × List Nat
 | 0,a,b=>(a.zip b,a++b)
 | m+1,a,b=>((mergeN m (by2 0 a) (by2 1 b)).1++(mergeN m (by2 1 a) (by2 0 b)).1++(mergeN m (by2 0 a) (by2 1 b)).2.zip (mergeN m (by2 1 a) (by2 0 b)).2,yY (mergeN m (by2 0 a) (by2 1 b)).2 (mergeN m (by2 1 a) (by2 0 b)).2)
noncomputable def xK:Nat->List Nat->List Fk × List Nat
 | 0,row=>([],row)
 | m+1,row=>((xK m (row.take (row.length / 2))).1++(xK m (row.drop (row.length / 2))).1++(mergeN m (xK m (row.take (row.length / 2))).2 (xK m (row.drop (row.length / 2))).2).1,(mergeN m (xK m (row.take (row.length / 2))).2 (xK m (row.drop (row.length / 2))).2).2)
theorem ww {m n:Nat}(h:n=2 ^ (m+1)):n / 2=2 ^ m/\n-n / 2=2 ^ m/\n / 2<=n:=by
 rw[Zr]at h;lia
theorem wK {m:Nat}{row:List Nat}(h:row.length=2 ^ (m+1)):(row.take (row.length / 2)).length=2 ^ m/\(row.drop (row.length / 2)).length=2 ^ m:=by
 obtain⟨a,b,c⟩:=ww h;rw[Js,Y9];exact⟨by rw[Ze c];exact a,b⟩
theorem vJ {α:Type}{m:Nat}{a:List α}(h:a.length=2 ^ (m+1)):(by2 0 a).length=2 ^ m/\(by2 1 a).length=2 ^ m:=by
 rw[qT 0 (by decide),qT 1 (by decide),h,Zr];lia
theorem wx:∀ (m:Nat) (row:List Nat),row.length=2 ^ m->(xT m row).2.length=2 ^ m/\(xT m row).1.length+1=2 ^ m
 | 0,row,h=>⟨h,rfl⟩
 | m+1,row,h=>by
  obtain⟨a,b⟩:=wK h;obtain⟨c,f⟩:=wx m _ a;obtain⟨d,e⟩:=wx m _ b;show (yY _ _).length=_/\(_::(_++_)).length+1=_;rw[xS _ _ (c.trans d.symm),JV,Jb,c,Zr];exact⟨by lia,by grind⟩
theorem xR:∀ (m:Nat) (a b:List Nat),a.length=2 ^ m->b.length=2 ^ m->(mergeN m a b).2.length=2 ^ (m+1)/\(mergeN m a b).1.length=(m+1)*2 ^ m
 | 0,a,b,ha,hb=>by
  show (a++b).length=_/\(a.zip b).length=_
  rw[Jb,ZA,ha,hb];exact⟨rfl,rfl⟩
 | m+1,a,b,ha,hb=>by
  obtain⟨j,a1⟩:=vJ ha;obtain⟨i,h⟩:=vJ hb;obtain⟨d,g⟩:=xR m _ _ j h;obtain⟨c,f⟩:=xR m _ _ a1 i;show (yY _ _).length=_/\(_++_++List.zip _ _).length=_;rw[xS _ _ (d.trans c.symm),Jb,Jb,ZA,d,c,g,f,Nat.min_self];have e:(m+1)*2 ^ m+(m+1)*2 ^ m=(m+1)*2 ^ (m+1):=by rw[<- Nat.two_mul,Zr,Nat.mul_left_comm,Nat.mul_comm 2 (2 ^ m)]
  refine⟨by rw[Zr 2 (m+1),Nat.mul_comm],?_⟩;rw[e,<- Nat.succ_mul]
noncomputable def vL:Nat->Nat
 | 0=>0
 | m+1=>vL m+vL m+(m+1)*2 ^ m
theorem w6:∀ m,m<=10->vL m<=100000/\(m+1)*2 ^ m<=20000:=by decide +kernel
theorem wP:∀ (m:Nat) (row:List Nat),row.length=2 ^ m->(xK m row).2.length=2 ^ m/\(xK m row).1.length=vL m
 | 0,row,h=>⟨h,rfl⟩
 | m+1,row,h=>by
  obtain⟨a,b⟩:=wK h;obtain⟨i,g⟩:=wP m _ a;obtain⟨f,e⟩:=wP m _ b;obtain⟨d,c⟩:=xR m _ _ i f;refine⟨d,?_⟩;show (List.append (List.append _ _) _).length=vL m+vL m+(m+1)*2 ^ m;rw[List.append_eq,List.append_eq,Jb,Jb,c,g,e]
noncomputable def uL (k:Nat):Nt:=⟨2 ^ k,(xT k (List.range (2 ^ k))).1,(xT k (List.range (2 ^ k))).2⟩
noncomputable def wf (k:Nat):Nt:=⟨2 ^ k,(xK k (List.range (2 ^ k))).1,(xK k (List.range (2 ^ k))).2⟩
theorem j4:∀ k,k<5->(uL k).forks.length<=128/\(∀ f∈(uL k).forks,f.1<2 ^ k/\f.2<2 ^ k/\f.1≠f.2)/\(uL k).ends.Perm (List.range (2 ^ k)):=by decide +kernel
theorem ly:∀ k,k<5->(wf k).forks.length<=128/\(∀ f∈(wf k).forks,f.1<2 ^ k/\f.2<2 ^ k/\f.1≠f.2)/\(wf k).ends.Perm (List.range (2 ^ k)):=by decide +kernel
theorem wT {k:Nat}(h:k<5):1<=2 ^ k/\2 ^ k<=16:=⟨ZD,Z4 (show 0<2 by decide) (show k<=4 by lia)⟩
theorem fE {k:Nat}(h:k<5):(uL k).Ok:=let ⟨a,b,c⟩:=j4 k h;⟨(wT h).1,(wT h).2,a,b,c⟩
theorem iA {k:Nat}(h:k<5):(wf k).Ok:=let ⟨a,b,c⟩:=ly k h;⟨(wT h).1,(wT h).2,a,b,c⟩
end Bn
namespace L2
open PySem PySem.Spec PyProof.Rows Own
theorem lC {K:PySem.W.Frag}{b1 b2:Bool}{a1 a2:Addr}{xs ys:List V}(w:xs.length=ys.length){g:TG}{h:TS}{D:Ends}{σ:St}{H:Hp}(a:Nat->St->Hp->Prop)(s:a 0 σ H)(o:∀ i σ H,i<=xs.length->a i σ H->SqB b1 K H a1 xs/\SqB b2 K H a2 ys)(n:∀ i x y T σ H,xs[i]?=some x->ys[i]?=some y->H T=none->a i σ H->g (.ref T) σ (upd H T (.tup [x,y])) λc f=>h { D with nx:=a (i+1),ct:=a (i+1),bk:=D.nx } c f)(q:∀ σ H,a xs.length σ H->D.nx σ H) :
  ∃ W:Nat->Nat->St->Hp->Prop,(∃ m,W 0 m σ H)/\∀ i m σ H,W i m σ H ->
   ((Itz K b1 b2 a1 a2).stop i H/\D.nx σ H)\/((Itz K b1 b2 a1 a2).go i H/\∃ N:St->Hp->Prop,(∀ d b,N d b->∃ k,k<m/\W (i+1) k d b)/\∀ x b,(Itz K b1 b2 a1 a2).yld i H x b->g x σ b λc f=>h { D with nx:=N,ct:=N,bk:=D.nx } c f):=by
 refine⟨λi m σ H=>m=xs.length-i/\i<=xs.length/\a i σ H,⟨_,rfl,JN _,s⟩,?_⟩;rintro i m σ H ⟨rfl,hi,p⟩;obtain⟨e,j⟩:=o i σ H hi p;by_cases more:i<xs.length
 ·refine .inr ⟨⟨xs,ys,_,_,e,j,J9 more,J9 (by simp_all)⟩,a (i+1),λd b l=>⟨xs.length-(i+1),by lia,rfl,more,l⟩,λv b ⟨x,y,ex,t,T,r,u,e2⟩=>?_⟩
  subst u e2;exact n i x y T σ H (ex xs e) (t ys j) r p
 ·obtain rfl:i=xs.length:=by lia
  exact .inl ⟨⟨xs,e,rfl⟩,q σ H p⟩
end L2
namespace Bn
open PySem L2 Own
inductive Pln where
 | net (N:Nt)|way (w k:Nat)|dbl (p:Pln)|ren (p:Pln) (ns:List Nat)|bes (p q:Pln)|beh (p q:Pln)
noncomputable def pwr (n:Nat):Nat:=if n=2 then 1 else if n=4 then 2 else if n=8 then 3 else if n=16 then 4 else 0
noncomputable def zac (w k:Nat):Nat:=if w=0 then 2 ^ k*k*(k+1) / 4 else if w=1 then 2 ^ k*k*k / 2 else 2 ^ k*k / 2
namespace Pln
noncomputable def lanes:Pln->Nat
 | .net N=>N.lanes
 | .way _ k=>2 ^ k
 | .dbl p=>2*p.lanes
 | .ren p _=>p.lanes
 | .bes p q=>p.lanes+q.lanes
 | .beh p _=>p.lanes
noncomputable def many:Pln->Nat
 | .net N=>N.forks.length
 | .way w k=>zac w k
 | .dbl p=>2*p.many+p.lanes*pwr (2*p.lanes)
 | .ren p _=>p.many
 | .bes p q=>p.many+q.many
 | .beh p q=>p.many+q.many
noncomputable def hi:Pln->Nat
 | .net _=>1
 | .way _ _=>1
 | .dbl p=>p.hi+1
 | .ren p _=>p.hi+1
 | .bes p q=>max p.hi q.hi+1
 | .beh p q=>max p.hi q.hi+1
end Pln
inductive Kn where
 | no|stair|merges|halves
 deriving DecidableEq
noncomputable def Kn.v:Kn->V
 | .no=>.non
 | .stair=>.str "stair"
 | .merges=>.str "merges"
 | .halves=>.str "halves"
noncomputable def Pln.known:Pln->Kn
 | .net N=>if N.lanes=1 then .stair else .no
 | .way w k=>if w<2 then .stair else if k=1 then .stair else .merges
 | .dbl p=>if p.known=.stair then .stair else .no
 | .ren p _=>if p.known=.merges then .no else p.known
 | .bes p q=>if p.known=.stair/\q.known=.stair/\p.lanes=q.lanes then .halves else .no
 | .beh p q=>if q.known=.stair\/p.known=.halves/\q.known=.merges then .stair else .no
end Bn
namespace L2
open PySem PySem.Spec PyProof.Rows Own Bn
section
variable {stO:V->Option KN}{xs:List V}{k0:KN}{moves:List Nat}{step:KN->Nat->Option KN}{i:Nat}{y:V}{s:KN}{ss:List KN}
theorem gr (hi:xs[i]?=some y)(e:stO y=none):xa stO xs k0 moves step=false :=
 xZ (sZ.mpr ⟨y,JB hi,e⟩)
theorem gv (hi:xs[i]?=some y)(e:(xs.take i).mapM stO=some ss)(v:stO y=some s)(m:s∈ss):xa stO xs k0 moves step=false:=by
 cases g:xs.mapM stO with
 | none=>exact xZ g
 | some a =>
  rw[xD g]
  have b:¬ a.Nodup:=λb=>by
   obtain⟨B,t⟩:=xC e;obtain⟨A,f⟩:=xC g;obtain⟨z,n,e2⟩:=f i y hi;cases v.symm.trans e2;obtain⟨j,p,w⟩:=List.getElem_of_mem m;have d:j<(xs.take i).length:=by lia
   obtain⟨u,l,k⟩:=t j _ (J9 d);rw[J9 p,w]at l;cases l;rw[Js]at d;have o:j<xs.length:=by lia
   obtain⟨u,h,x⟩:=f j _ (J9 o);rw[List.getElem_take]at k;cases k.symm.trans x;have r:i<a.length:=(Ja.mp n).1;have c:j<a.length:=(Ja.mp h).1;have q:j<i:=by lia
   exact List.pairwise_iff_getElem.mp (List.nodup_iff_pairwise_ne.mp b) j i c r q (by rw[(Ja.mp n).2,(Ja.mp h).2])
  rw[Jr b];rfl
theorem rJ {m:Nat}(em:xs.mapM stO=some ss)(pm:s∈ss)(b:m∈moves)(e:∀ t,step s m=some t->t∉ss):xa stO xs k0 moves step=false:=by
 rw[xD em];refine Bool.eq_false_iff.mpr λz=>?_;obtain⟨_,z⟩:=(YA _ _).mp z;have a:=Yw.mp (Yw.mp z _ pm) m b
 cases g:step s m with
 | none=>rw[g]at a;cases a
 | some t=>rw[g]at a;exact e t g (Ys a)
theorem jg (em:xs.mapM stO=some ss)(nd:ss.Nodup)(cl:∀ k∈ss,∀ m∈moves,∃ t,step k m=some t/\t∈ss):xa stO xs k0 moves step=decide (k0∈ss):=by
 rw[xD em,Jx nd,Bool.true_and];have good:∀ F:KN->Bool,(∀ k∈ss,F k=true)->(decide (k0∈ss) && ss.all F)=decide (k0∈ss):=λF h=>by rw[Yw.mpr h,Bool.and_true]
 refine good _ λk c=>Yw.mpr λm b=>?_;obtain⟨t,g,a⟩:=cl k c m b;rw[g];exact Jx a
theorem lw (hi:xs[i]?=some y)(e:(xs.take i).mapM stO=some ss)(a:stO y=some s):(xs.take (i+1)).mapM stO=some (ss++[s]):=by
 rw[List.take_succ,hi];show ((xs.take i)++[y]).mapM stO=_;rw[List.mapM_append,e,List.mapM_cons,a];rfl
end
end L2
namespace L2
open PySem PySem.Spec PyProof.Rows Own Bn
noncomputable def aX:V->Int
 | .int i=>i
 | _=>0
theorem jj {b:Int}{x:V}(h:yn b x=true):∃ i:Nat,x=.int (i:Nat)/\(i:Int)<b:=by
 cases x with
 | int i =>
  obtain⟨p,q⟩:=(YA _ _).mp (show (decide (0<=i) && decide (i<b))=true from h);have p:=Ys p;have q:=Ys q
  exact⟨i.toNat,by rw[Int.toNat_of_nonneg p],by rw[Int.toNat_of_nonneg p];exact q⟩
 | _=>cases h
noncomputable def yj (H:Hp)(a lanes:Int)(x:V):Bool:=match zY H x with
 | some [t,m]=>yL H a 2 t && yn lanes m
 | _=>false
noncomputable def wg (H:Hp)(a lanes:Int)(x:V):Option KN:=if yj H a lanes x=true then match zY H x with
 | some [t,m]=>some (stK (fj H t) [aX m])
 | _=>none else none
theorem mE (H:Hp)(a lanes:Int)(x:V):(wg H a lanes x).isSome=yj H a lanes x:=by
 unfold wg;by_cases c:yj H a lanes x=true
 ·rw[Jg c,c]
  unfold yj at c;split at c
  ·rfl
  ·cases c
 ·rw[Je c,show yj H a lanes x=false by simpa using c];rfl
theorem vz {H:Hp}{a lanes:Int}{x:V}(e:yj H a lanes x=false):wg H a lanes x=none:=by
 unfold wg;rw[e];rfl
theorem fY {H:Hp}{a lanes:Int}{x:V}(e:yj H a lanes x=true):∃ s,wg H a lanes x=some s:=by
 have:=mE H a lanes x;rw[e]at this;exact Option.isSome_iff_exists.mp this
theorem vM {H:Hp}{N:Nt}{x:V}{s:KN}(h:wg H (N.forks.length:Nat) (N.lanes:Nat) x=some s):OkP N s/\∃ b,x=.ref b/\NKey H s b:=by
 unfold wg at h;split at h
 ·rename_i c
  unfold yj at c;split at c
  ·rename_i t m e
   rw[e]at h;cases h;obtain⟨b,rfl,r⟩:=yI e;obtain⟨a,v⟩:=(YA _ _).mp c;obtain⟨i,rfl,B⟩:=jj v;unfold yL at a;split at a
   ·rename_i d g
    obtain⟨w,j⟩:=(YA _ _).mp a;have f:=gU λy l=>qU (Yw.mp j y l);obtain⟨t,rfl,o⟩:=yI g;have k:fj H (.ref t)=oC d:=by unfold fj;rw[g];rfl
    rw[k];have A:(oC d).length=d.length:=by have:=JS List.length f;rw[Jn]at this;exact this.symm
    have z:=Ys w;refine⟨⟨_,i,rfl,by lia,λu n=>?_,by lia⟩,b,rfl,tU r (by rw[<- f];exact o)⟩;have:=Yw.mp j (.int u) (by rw[f];exact JA.mpr ⟨u,n,rfl⟩);obtain⟨p,q⟩:=(YA _ _).mp (show (decide (0<=u) && decide (u<2))=true from this);have p:=Ys p;have q:=Ys q;lia
   ·cases a
  ·cases c
 ·cases h
theorem iu {H H':Hp}{a lanes:Int}{x:V}(k:KpN H H')(d:Dp H 2 x):yj H' a lanes x=yj H a lanes x:=by
 unfold yj;rw[rg k d];split
 ·rename_i t m e
  have b:=(d.2 _ e).2 t (.head _);unfold yL;rw[rg k b]
 ·rfl
theorem kN {H:Hp}{a lanes:Int}{x:V}(e:vQ H 2 x=false):yj H a lanes x=false:=by
 unfold yj;split
 ·rename_i t m z
  unfold vQ at e;rw[z]at e;cases e
 ·rfl
noncomputable def vA (K:PySem.W.Frag):Sp:=λb H Q _=>∃ r fr d c N,∃ x,b=[.ref r,x]/\Nt.Ok N/\NetAt H r fr d c N/\Deep K H 2 x/\∀ a,Same H a->Q (.bl (yj H (N.forks.length:Nat) (N.lanes:Nat) x)) a
noncomputable def uS (K:PySem.W.Frag)(q:Str)(Pt:Addr):Sp:=λc H Q _=>∃ r fr e d N sm,∃ moves:List Nat,∃ x,c=[.ref r,.ref sm,x]/\Nt.Ok N/\NetAt H r fr e d N/\H sm=some (.tup (zV moves))/\(∀ m∈moves,m<N.lanes)/\moves.length<=16 /\
 An H x/\(∀ a,zY H x=some a->a.length<=500000/\∀ y∈a,Dp H 2 y)/\TabQ q Pt H /\
 ∀ b,But Pt H b->TabQ q Pt b->Q (.bl (match zY H x with|none=>false|some a=>xa (wg H (N.forks.length:Nat) (N.lanes:Nat)) a (k0P N) moves (yS N))) b
noncomputable def uR:Sp:=λc H Q _=>∃ r fr e d N sm,∃ moves:List Nat,∃ x,c=[.ref r,.ref sm,x]/\Nt.Ok N/\NetAt H r fr e d N/\H sm=some (.tup (zV moves))/\(∀ m∈moves,m<N.lanes)/\moves.length<=16 /\
 An H x/\(∀ a,zY H x=some a->a.length<=1000/\∀ y∈a,Dp H 2 y) /\
 ∀ b,Same H b->Q (.bl (match zY H x with|none=>false|some a=>xa (wg H (N.forks.length:Nat) (N.lanes:Nat)) a (k0P N) moves (yS N))) b
end L2
namespace K39
open PySem L2 Own Bn
noncomputable abbrev ud:Stmt:=top 35
theorem g9 {xs:KVN}{k:KN}{b:Addr}{v:V}(h:k∉xs.map (·.1)):yx xs k b v=xs++[(k,b,v)]:=by
 unfold yx;rw[Je λz=>h (yu.mp z)]
theorem ju (n:Nat)(x:V):whB 0 ((n:Nat)-1) x=yn (n:Nat) x:=by
 cases x with
 | int i =>
  show (decide (0<=i) && decide (i<=(n:Nat)-1))=(decide (0<=i) && decide (i<(n:Nat)));refine JS (decide (0<=i) && ·) ?_;rw[decide_eq_decide]
  exact⟨λh=>by lia,λh=>by lia⟩
 | _=>rfl
section
variable {P:Program}{w:World}{K:PySem.W.Frag}{mg:Str->Option Value}{base:Heap}
theorem ql:FnScope ["_law_net","_law_some_here","_law_thing","_law_known","_law_pair","_law_turns","_law_rest","_law_lane","_law_later","_law_end"] ["_law_net","_law_some_here","_law_thing"] (zN ud):=by trivial
theorem nM {f fP fF fW fT:Addr}{fd dP dF dW dT:FuncData}(F:Fun K "_law_is_book" "_law_is_book" ud f fd) (G:Mgs mg) (UP:Use P w K mg base "_law_passed" ["_law_net","_law_turns","_law_lane"] 1 (wj false) fP dP) (UF:Use P w K mg base "_law_first" ["_law_net"] 1 y4 fF dF) (UW:Use P w K mg base "_law_whole" ["_law_thing","_law_least","_law_most"] 1 (mF K) fW dW) (UT:Use P w K mg base "_law_are_turns" ["_law_net","_law_thing"] 2 (uM K) fT dT):FnOk P w K mg base CX0 3 f fd ["_law_net","_law_some_here","_law_thing"] uR:=by
 refine F.ok ql (λvs H Q E h=>?_) (λcc A outer s H vs Q E hr h=>?_)
 ·obtain⟨r,fr,er,ps,N,sm,moves,x,rfl,_⟩:=h
  rfl
 obtain⟨r,fr,er,ps,N,sm,moves,x,rfl,ok,na,a8,mlt,ml,ax,dx,q2⟩:=h;have a3:Room 1 _:=hr.mono (by decide);refine⟨_,(@zG _ _ _ _ _ (@yT _ _ _ _ _ _ _ _ (@wH _ _ _ _ (@xj _ _ _ (@zM _ _ _ _ _ _ _ _ _ ya (by rfl) G.isi (by rfl) (@zA _ _ _ _ _ (@qv _ 2 _ _ (by trivial)) (@zA _ _ _ _ _ (@yp _ _ (.ty "tuple") (.type "tuple") _ (by rfl) G.tuple (by rfl) rfl (by decide) (by decide)) zB (by rfl)) (by rfl)) (by decide) (by decide) (by rfl) (by rfl)) (by intro _;rfl))) (@zK _ _ _ (@zU _ _ _ _ xA)) zp) (@zG _ _ _ _ _ (@zo _ _ 3 _ _ _ _ ql.nd rfl (.inl rfl) qC (by rfl) (by trivial)) (@zG _ _ _ _ _ (@y7 _ _ _ _ _ _ _ _ Ye rfl (@xk _ _ _ _ (@qv _ 2 _ _ (by trivial))) (@zP _ _ 4 _ ql.nd rfl (.inl rfl) (by trivial)) (@zG _ _ _ _ _ (@yT _ _ _ _ _ _ _ _ (PW.pt (@vf _ _ _ _ _ _ _ (@wH _ _ _ _ (@xj _ _ _ (@zM _ _ _ _ _ _ _ _ _ ya (by rfl) G.isi (by rfl) (@zA _ _ _ _ _ (@qv _ 4 _ _ (by trivial)) (@zA _ _ _ _ _ (@yp _ _ (.ty "tuple") (.type "tuple") _ (by rfl) G.tuple (by rfl) rfl (by decide) (by decide)) zB (by rfl)) (by rfl)) (by decide) (by decide) (by rfl) (by rfl)) (by intro _;rfl))) (@vf _ _ _ _ _ _ _ (@zt _ _ _ _ _ _ _ _ uj (@zM _ _ _ _ _ _ _ _ _ zT (by rfl) G.len JT (@zA _ _ _ _ _ (@qv _ 4 _ _ (by trivial)) zB (by rfl)) (by decide) (by decide) (by rfl) (by rfl)) zE (yE _)) (@wn _ _ _ _ (@wH _ _ _ _ (@qu _ _ _ (@zL _ _ _ _ _ _ _ _ _ _ _ _ _ _ _ _ UT.ok hr (by rfl) UT.m UT.kp UT.b .nil zW (@zA _ _ _ _ _ (@qv _ 0 _ _ (by trivial)) (@zA _ _ _ _ _ (@zj _ _ _ _ _ _ _ yB (@qv _ 4 _ _ (by trivial)) zE (λ_ _=>rfl)) zB (by rfl)) (by rfl)) (by decide) (by rfl) (by rfl)) (λ_=>rfl))))))) (@zK _ _ _ (@zU _ _ _ _ xA)) zp) (@zG _ _ _ _ _ (@yT _ _ _ _ _ _ _ _ (PW.pt (@vf _ _ _ _ _ _ _ (@wH _ _ _ _ (@qu _ _ _ (@zL _ _ _ _ _ _ _ _ _ _ _ _ _ _ _ _ UW.ok a3 (by rfl) UW.m UW.kp UW.b .nil zW (@zA _ _ _ _ _ (@zj _ _ _ _ _ _ _ yB (@qv _ 4 _ _ (by trivial)) zE (λ_ _=>rfl)) (@zA _ _ _ _ _ zE (@zA _ _ _ _ _ (@zS _ _ _ _ _ _ _ _ vT (@zj _ _ _ _ _ _ _ yB (@qv _ 0 _ _ (by trivial)) zE (λ_ _=>rfl)) zE) zB (by rfl)) (by rfl)) (by rfl)) (by decide) (by rfl) (by rfl)) (λ_=>rfl))) (@wn _ _ _ _ (@rq _ _ _ _ _ _ (cz hr.u3 (@qv _ 4 _ _ (by trivial)) (@qv _ 3 _ _ (by trivial))) (by rfl))))) (@zK _ _ _ (@zU _ _ _ _ xA)) zp) (@zK _ _ _ (mL hr.u3 (@qv _ 3 _ _ (by trivial)) (@qv _ 4 _ _ (by trivial)) xA (by rfl))))) (by intro _;rfl)) (@zG _ _ _ _ _ (qw (@y7 _ _ _ _ _ _ _ _ Ye rfl (ug (@qv _ 3 _ _ (by trivial))) (@yU _ _ _ _ _ _ rfl (@zQ _ _ _ _ _ (@zP _ _ 5 _ ql.nd rfl (.inl rfl) (by trivial)) (@zQ _ _ _ _ _ (@zP _ _ 6 _ ql.nd rfl (.inl rfl) (by trivial)) yH (by rfl)) (by rfl)) (by rfl) (by rfl)) (@zK _ _ _ (@y7 _ _ _ _ _ _ _ _ Ye rfl (@xk _ _ _ _ (@qv _ 1 _ _ (by trivial))) (@zP _ _ 7 _ ql.nd rfl (.inl rfl) (by trivial)) (@zG _ _ _ _ _ (@yZ _ _ _ _ _ _ (@zL _ _ _ _ _ _ _ _ _ _ _ _ _ _ _ _ UP.ok a3 (by rfl) UP.m UP.kp UP.b .nil zW (@zA _ _ _ _ _ (@qv _ 0 _ _ (by trivial)) (@zA _ _ _ _ _ (@qv _ 5 _ _ (by trivial)) (@zA _ _ _ _ _ (@qv _ 7 _ _ (by trivial)) zB (by rfl)) (by rfl)) (by rfl)) (by decide) (by rfl) (by rfl)) (@yU _ _ _ _ _ _ rfl (@zQ _ _ _ _ _ (@zP _ _ 8 _ ql.nd rfl (.inl rfl) (by trivial)) (@zQ _ _ _ _ _ (@zP _ _ 9 _ ql.nd rfl (.inl rfl) (by trivial)) yH (by rfl)) (by rfl)) (by rfl) (by rfl)) (by rfl) (by rfl) (by rfl)) (@zK _ _ _ (@yT _ _ _ _ _ _ _ _ (PW.pt (@vf _ _ _ _ _ _ _ (@zt _ _ _ _ _ _ _ _ uj (@qv _ 9 _ _ (by trivial)) (@qv _ 6 _ _ (by trivial)) (yE _)) (@wn _ _ _ _ (@rq _ _ _ _ _ _ (vS hr.u3 (@zX _ _ _ _ _ (@zA _ _ _ _ _ (@qv _ 8 _ _ (by trivial)) (@zA _ _ _ _ _ (@zS _ _ _ _ _ _ _ _ xX (@zS _ _ _ _ _ _ _ _ yW (@qv _ 6 _ _ (by trivial)) zE) (@zj _ _ _ _ _ _ _ yB (@qv _ 0 _ _ (by trivial)) zE (λ_ _=>rfl))) zB (by rfl)) (by rfl))) (@qv _ 3 _ _ (by trivial))) (by rfl))))) (@zK _ _ _ (@zU _ _ _ _ xA)) zp))) (by intro _;rfl))) (by intro _;rfl))) (@zK _ _ _ (@zU _ _ _ _ (@uG _ _ _ _ _ _ _ _ (iy hr.u3) (@zL _ _ _ _ _ _ _ _ _ _ _ _ _ _ _ _ UF.ok a3 (by rfl) UF.m UF.kp UF.b .nil zW (@zA _ _ _ _ _ (@qv _ 0 _ _ (by trivial)) zB (by rfl)) (by decide) (by rfl) (by rfl)) (@qv _ 3 _ _ (by trivial)) (by rfl)))))))),?_⟩;have cb:=ok.l16;have l1:=ok.l1;have fm:=ok.fm;have pl:=na.prs.len;obtain⟨ty,Iy⟩:=(ax.any (K:=K)).isi;refine⟨_,rfl,_,"tuple",_,_,rfl,Iy.ty,Iy.tup,_,rfl,?_⟩
 cases z:zY H x with
 | none =>
  refine yJ ?_;have:=q2 H (Same.refl H);rw[z]at this
  exact this
 | some xs =>
  obtain⟨a,rfl,ha⟩:=yI z;obtain⟨xl,b7⟩:=dx _ z;rw[z]at q2;dsimp only at q2;refine zx (λn M=>⟨_,rfl,a,rfl,⟨_,SqT.of (zC M (DN P w n []) _ _ ha)⟩,?_⟩);have s1:=zC M (DN P w n [])
  let st:V->Option KN:=wg H (N.forks.length:Nat) (N.lanes:Nat)
  refine qK (K:=K) (a:=a) (xs:=xs) (λi σ L=>∃ g ss v5 Z Y I D v10,σ=[some (.ref r),some (.ref sm),some (.ref a),some (.ref n),v5,Z,Y,I,D,v10]/\Same H L/\L n=some (DN P w n g)/\KsIn L g/\g.map (·.1)=ss/\(xs.take i).mapM st=some ss/\ss.Nodup) ⟨[],[],none,none,none,none,none,none,rfl,s1,zD,λx hx=>(nomatch hx),rfl,rfl,Zp⟩ (λi σ L _ q=>by
   obtain⟨g,ss,v5,Z,Y,I,D,v10,_,s2,_⟩:=q
   exact SqT.of (s2 _ _ ha)) ?_ ?_
  ·rintro i y σ L hy ⟨g,ss,v5,Z,Y,I,D,v10,rfl,s2,hd,kx,R,em,nd⟩
   have dy:=b7 y (JB hy);have il:=(Ja.mp hy).1;have kp:=KpN.same s2;have b6:=dy.kp kp;obtain⟨b9,bo⟩:=(b6.an.any (K:=K)).isi;have ry:zY L y=zY H y:=rg kp dy
   have no:st y=none->∀ H3,Same L H3->Q (.bl false) H3:=λe H3 s3=>by
    have:=q2 H3 (s2.trans s3)
    rwa [gr hy e]at this
   refine⟨_,rfl,_,"tuple",_,_,rfl,bo.ty,bo.tup,_,rfl,?_⟩
   cases zy:zY L y with
   | none =>
    have bq:zY H y=none:=ry ▸ zy
    exact yJ (yJ (no (vz (by unfold yj;rw[bq])) _ (Same.refl _)))
   | some th =>
    obtain⟨b,rfl,hb⟩:=yI zy;have W:zY H (.ref b)=some th:=ry ▸ zy;refine zx ⟨_,rfl,_,_,rfl,.inr (SqT.of hb),rfl,_,rfl,?_⟩;show if (!decide (V.int ((th.length:Nat):Int)=V.int 2))=true then _ else _;by_cases l2:th.length=2
    rotate_left
    ·rw[Jr λe=>l2 (by injection e with e;lia)]
     have e:yj H (N.forks.length:Nat) (N.lanes:Nat) (.ref b)=false:=by
      unfold yj;rw[W]
      match th,l2 with
      | [],_=>rfl
      | [_],_=>rfl
      | [_,_],l=>exact absurd rfl l
      | _::_::_::_,_=>rfl
     exact yJ (yJ (no (vz e) _ (Same.refl _)))
    rw[Jx (show V.int ((th.length:Nat):Int)=V.int 2 by rw[l2];rfl)]
    obtain⟨t,h,rfl⟩:∃ t h,th=[t,h]:=by
     match th,l2 with
     | [t,h],_=>exact⟨t,h,rfl⟩
    clear l2;have ba:=(dy.2 _ W).2 t (.head _);have b8:=(dy.2 _ W).2 h (.tail _ (.head _));have dt:=ba.kp kp;have et:yL L (N.forks.length:Nat) 2 t=yL H (N.forks.length:Nat) 2 t:=by unfold yL;rw[rg kp ba]
    have pv:yj H (N.forks.length:Nat) (N.lanes:Nat) (.ref b)=(yL H (N.forks.length:Nat) 2 t && yn (N.lanes:Nat) h):=by unfold yj;rw[W]
    refine zx ⟨_,rfl,_,rfl,b,_,_,_,rfl,rfl,SqT.of hb,rfl,r,fr,er,ps,N,t,rfl,ok,na.tups kp.tups,dt.deep,λH3 s3=>⟨_,rfl,?_⟩⟩;rw[et]
    cases tb:yL H (N.forks.length:Nat) 2 t with
    | false =>
     refine yJ (no (vz ?_) _ s3)
     rw[pv,tb];rfl
    | true =>
    rw[tb,Bool.true_and]at pv;have u3:=s2.trans s3;have bB:=KpN.same u3;have b5:=s3 _ _ hb;refine zx ⟨_,rfl,b,_,_,_,rfl,rfl,SqT.of b5,rfl,_,rfl,r,_,_,_,rfl,rfl,SqT.of (u3 _ _ na.net),rfl,_,_,rfl,rfl,h,0,_,rfl,(b8.kp bB).an.any,?_⟩;rw[ju];refine⟨_,rfl,?_⟩
    cases a9:yn (N.lanes:Nat) h with
    | false =>
     rw[a9]at pv
     exact yJ (yJ (no (vz pv) _ s3))
    | true =>
    rw[a9]at pv;obtain⟨s,es⟩:=fY pv;obtain⟨_,b',eb,nk⟩:=vM es;cases eb;have ao:=nk.tups (Tups.of u3);have a0:=kx.tups (Tups.of s3);have a4:=s3 _ _ hd;refine zx ⟨_,rfl,_,rfl,n,b,g,s,rfl,rfl,⟨.inl a4,a0⟩,ao,_,rfl,?_⟩;dsimp only;by_cases S:s∈g.map (·.1)
    ·rw[show (yb g s).isSome=true from yu.mpr S]
     have:=q2 H3 u3;rw[gv hy em es (R ▸ S)]at this;exact yJ this
    rw[show (yb g s).isSome=false by
     cases z:(yb g s).isSome with
     | false=>rfl
     | true=>exact absurd (yu.mp z) S]
    have el:g.length<=1000:=by
     have h1:=(xC em).1;have h2:=JS List.length R;rw[Jn]at h2;rw[Js]at h1;lia
    refine zx ⟨_,rfl,_,rfl,n,b,g,s,rfl,rfl,a4,a0,ao,by rw[JH];lia,?_⟩;rw[g9 S];have t6:Tups H3 (L2.upd H3 n (DN P w n (g++[(s,b,.bl true)]))):=λc ws e=>by rw[zJ (yh e a4 λz=>by cases z)];exact e
    refine⟨g++[(s,b,.bl true)],ss++[s],_,_,_,_,_,_,rfl,λc o e=>?_,zD,λx hx=>?_,by rw[JU,R];rfl,lw hy em es,?_⟩
    ·rw[zJ (zH e M)];exact u3 c o e
    ·rcases Ju.mp hx with q|q
     ·exact(a0 x q).tups t6
     ·rw[Jd.mp q];exact ao.tups t6
    ·rw[W9]
     exact⟨nd,JY.mpr ⟨JJ,Zp⟩,λu hu v hv e=>S (by rw[R,<- Jd.mp hv,<- e];exact hu)⟩
  ·rintro σ L ⟨g,ss,v5,Z,Y,I,D,v10,rfl,s2,hd,kx,R,em,nd⟩
   rw[Ya]at em;have len:=(xC em).1;refine⟨_,rfl,n,g,rfl,hd,λob=>?_⟩;have a6:g.length=ss.length:=by rw[<- R,Jn]
   have el:g.length<=1000:=by lia
   refine rE (P:=P) (w:=w) (d:=n) (o:=ob) (xs:=g) (λi σ J=>∃ Z Y I D v10,σ=[some (.ref r),some (.ref sm),some (.ref a),some (.ref n),v5,Z,Y,I,D,v10]/\Same H J/\Tups L J/\J n=some (.frz ob (DN P w n g))/\∀ k∈ss.take i,∀ m∈moves,∃ t,yS N k m=some t/\t∈ss) ⟨_,_,_,_,_,rfl,λc o e=>?_,λc ws e=>?_,zD,λk hk=>nomatch hk⟩ (λi σ J q=>by
    obtain⟨_,_,_,_,_,_,_,_,q,_⟩:=q
    exact q) ?_ ?_
   ·rw[zJ (zH e M)];exact s2 c o e
   ·rw[zJ (yh e hd λz=>by cases z)];exact e
   ·rintro i p σ J hp ⟨Z,Y,I,D,v10,rfl,s6,t6,hf,cl⟩
    have il:i<g.length:=(Ja.mp hp).1;have es:ss[i]?=some p.1:=by rw[<- R,JZ,hp];rfl
    obtain⟨s',e1,e2⟩:=(xC em).2 i _ (J9 (show i<xs.length by lia));cases es.symm.trans e1;obtain⟨⟨B,rest,O,tl,bits,rl⟩,_⟩:=vM e2;have nk:=kx p (JB hp);have pm:stK B [((rest:Nat):Int)]∈ss:=O ▸ JB es;have a7:=nk.tups t6;rw[O]at a7;obtain⟨t',f1,f2⟩:=w8 a7;replace f1:J p.2.1=some (.tup [.ref t',.int (rest:Nat)]):=f1;refine⟨p.2.1,_,rfl,SqT.of f1,rfl,_,_,rfl,_,_,rfl,rfl,?_⟩;refine⟨_,rfl,sm,rfl,⟨_,SqT.of (s6 _ _ a8)⟩,?_⟩
    refine qK (K:=K) (a:=sm) (xs:=zV moves) (λj σ H8=>∃ I D v10,σ=[some (.ref r),some (.ref sm),some (.ref a),some (.ref n),v5,some (.ref t'),some (.int (rest:Nat)),I,D,v10]/\Same H H8/\Tups J H8/\H8 n=some (.frz ob (DN P w n g))/\∀ m∈moves.take j,∃ t,yS N (stK B [((rest:Nat):Int)]) m=some t/\t∈ss) ⟨_,_,_,rfl,s6,Tups.of (Same.refl _),hf,λm hm=>nomatch hm⟩ (λj σ H8 _ z=>by
     obtain⟨_,_,_,_,z,_⟩:=z
     exact SqT.of (z _ _ a8)) ?_ ?_
    ·rintro j x σ H8 hx ⟨I,D,v10,rfl,u8,t8,U,X⟩
     unfold zV at hx;rw[JZ]at hx;obtain⟨C,a5,rfl⟩:=Y6.mp hx;have jl:j<moves.length:=(Ja.mp a5).1;have aT:=JB a5;have lt':=mlt C aT;have bt:=na.tups (Tups.of u8);refine⟨_,rfl,_,rfl,_,rfl,r,fr,er,ps,N,t',B,C,rfl,ok,bt,t8 _ _ f2,tl,bits,lt',λq ab H9 s9 b3 b2=>?_⟩;refine⟨q,_,rfl,SqT.of b3,rfl,_,_,rfl,_,_,rfl,rfl,?_⟩;have st:yS N (stK B [((rest:Nat):Int)]) C=if ((passE N B C:Nat):Int)=(rest:Nat) then some (stK (xM N B C) [((rest:Nat)+1)%(N.lanes:Nat)]) else none:=rfl;have u9:=u8.trans s9;refine⟨_,rfl,_,rfl,rfl,_,rfl,?_⟩;show if (!decide (V.int ((passE N B C:Nat):Int)=V.int ((rest:Nat):Int)))=true then _ else _;by_cases c:((passE N B C:Nat):Int)=(rest:Nat)
     rotate_left
     ·rw[Je c]at st
      rw[show (!decide (V.int ((passE N B C:Nat):Int)=V.int ((rest:Nat):Int)))=true by rw[Jr λe=>c (by injection e)];rfl];have:=q2 _ u9;rw[rJ em pm aT (λt e z=>by rw[st]at e;cases e)]at this;exact yJ (yJ this)
     rw[Jg c]at st;rw[show (!decide (V.int ((passE N B C:Nat):Int)=V.int ((rest:Nat):Int)))=false by rw[Jx (JS V.int c)];rfl];refine zx ⟨_,rfl,_,rfl,_,_,rfl,rfl,_,rfl,r,_,_,_,rfl,rfl,SqT.of (u9 _ _ na.net),rfl,_,_,rfl,rfl,by show (0:Int)<((N.lanes:Nat):Int);lia,by show 2<=sizeLine;decide,λT hT=>?_⟩;have sq:=zC hT (.tup [.ref ab,.int (((rest:Nat)+1)%(N.lanes:Nat))]);have uq:=s9.trans sq;have kk:NKey (L2.upd H9 T (.tup [.ref ab,.int (((rest:Nat)+1)%(N.lanes:Nat))])) (stK (xM N B C) [((rest:Nat)+1)%(N.lanes:Nat)]) T:=tU (is:=[((rest:Nat)+1)%(N.lanes:Nat)]) (t:=ab) zD (sq _ _ b2);have t9:=t8.trans (Tups.of uq);refine⟨_,rfl,n,T,g,_,rfl,rfl,⟨.inr ⟨ob,uq _ _ U⟩,(kx.tups t6).tups t9⟩,kk,_,rfl,?_⟩;by_cases S:stK (xM N B C) [((rest:Nat)+1)%(N.lanes:Nat)]∈g.map (·.1)
     ·rw[show (yb g (stK (xM N B C) [((rest:Nat)+1)%(N.lanes:Nat)])).isSome=true from yu.mpr S]
      refine zx ⟨_,_,_,rfl,u8.trans uq,t9,uq _ _ U,λm hm=>?_⟩;rw[<- Yd jl,(Ja.mp a5).2]at hm;rcases Ju.mp hm with z|z
      ·exact X m z
      ·rw[Jd.mp z]
       exact⟨_,st,R ▸ S⟩
     ·rw[show (yb g (stK (xM N B C) [((rest:Nat)+1)%(N.lanes:Nat)])).isSome=false by
       cases z:(yb g (stK (xM N B C) [((rest:Nat)+1)%(N.lanes:Nat)])).isSome with
       | false=>rfl
       | true=>exact absurd (yu.mp z) S]
      have:=q2 _ (u8.trans uq)
      rw[rJ em pm aT (λt e z=>S (by
       rw[st]at e;cases e
       exact R ▸ z))]at this
      exact yJ this
    ·rintro σ H8 ⟨I,D,v10,rfl,u8,t8,U,X⟩
     rw[zv,Ya]at X;refine⟨_,_,_,_,_,rfl,u8,t6.trans t8,U,λk hk=>?_⟩;have b1:i<ss.length:=by lia
     rw[<- Yd b1,(Ja.mp es).2]at hk;rcases Ju.mp hk with z|z
     ·exact cl k z
     ·rw[Jd.mp z,O];exact X
   ·rintro σ J ⟨Z,Y,I,D,v10,rfl,s6,t6,hf,cl⟩
    rw[a6,Ya]at cl;refine⟨n,ob,g,g,hd,hf,?_⟩;have s7:Same H (L2.upd J n (DN P w n g)):=λc o e=>by rw[zJ (zH e M)];exact s6 c o e
    have t7:Tups J (L2.upd J n (DN P w n g)):=λc ws e=>by rw[zJ (yh e hf λz=>by cases z)];exact e
    have b4:L2.upd J n (DN P w n g) n=some (DN P w n g):=zD;have bu:=(kx.tups t6).tups t7;refine⟨_,rfl,r,fr,er,ps,N,rfl,ok,na.tups (Tups.of s7),λb0 H8 s8 bS=>?_⟩;refine⟨_,rfl,n,g,rfl,⟨.inl (s8 _ _ b4),bu.tups (Tups.of s8)⟩,.inl ⟨b0,_,rfl,bS,?_⟩⟩;have fin:=q2 _ (s7.trans s8);rw[jg em nd cl]at fin
    have e:(yb g (stK (List.replicate N.forks.length 0) [0])).isSome=decide (k0P N∈ss):=by
     rw[Yj,decide_eq_true_iff,yu,R];exact Iff.rfl
    rw[e];exact fin
end
end K39
namespace L2
open PySem PySem.Spec PyProof.Rows Own Bn
theorem zaN {i:Nat}{v:V}{σ:St}{H:Hp}{a u:TS}{D:Ends}(R:VK)(h:vK a u D (σ.set i (some v)) H):(λx b=>wL i x σ b ({ nx:=vK a u D,rt:=R }:Ends).nx) v H:=h
theorem cut_mem {xs:List V}{lo hi:Option Int}{x:V}(h:x∈yq xs lo hi):x∈xs:=Zn (YS h)
end L2
namespace K39
open PySem L2 Own Bn
noncomputable abbrev rc:Stmt:=top 8
noncomputable abbrev re:Stmt:=top 14
noncomputable abbrev o6:Stmt:=top 15
noncomputable abbrev rZ:Stmt:=top 18
theorem gJ (n:Nat):List.replicate n (V.int 0)=(List.replicate n (0:Int)).map V.int:=(List.map_replicate).symm
section
variable {P:Program}{w:World}{K:PySem.W.Frag}{mg:Str->Option Value}{base:Heap}
theorem zay:FnScope ["net"] ["net"] (zN rc):=by trivial
theorem kZ {f:Addr}{fd:FuncData}(F:Fun K "first_turns" "first_turns" rc f fd) (G:Mgs mg):FnOk P w K mg base CX0 1 f fd ["net"] uW:=by
 refine F.ok zay (λc H Q E h=>?_) (λm A outer s H c Q E n h=>?_)
 ·obtain⟨r,fr,j,b,N,rfl,_⟩:=h
  rfl
 obtain⟨r,fr,j,b,N,rfl,ok,na,k⟩:=h;refine⟨_,(@zK _ _ _ (@zU _ _ _ _ (@zS _ _ _ _ _ _ _ _ uH (@zX _ _ _ _ _ (@zA _ _ _ _ _ zE zB (by rfl))) (@zM _ _ _ _ _ _ _ _ _ zT (by rfl) G.len JT (@zA _ _ _ _ _ (@zj _ _ _ _ _ _ _ yB (@qv _ 0 _ _ (by trivial)) zE (λ_ _=>rfl)) zB (by rfl)) (by decide) (by decide) (by rfl) (by rfl))))),?_⟩;refine⟨by show 1<=sizeLine;decide,λt g=>?_⟩;have a:=zC g (.tup [.int 0]);have e:=na.prs.len;have o:=ok.fm;refine⟨_,rfl,r,_,_,_,rfl,rfl,SqT.of (a _ _ na.net),rfl,fr,b,rfl,.inr (SqT.of (a _ _ na.forks)),t,_,b.length,rfl,rfl,zD,by lia,λp l d i=>k p l (a.trans d) ?_⟩;rw[i,gJ,e]
theorem zaz:FnScope ["net"] ["net"] (zN re):=by trivial
theorem ke {f m:Addr}{fd dT:FuncData}(F:Fun K "first_pair" "first_pair" re f fd) (a:Use P w K mg base "first_turns" ["net"] 1 uW m dT):FnOk P w K mg base CX0 2 f fd ["net"] y4:=by
 refine F.ok zaz (λe H Q E h=>?_) (λn A outer s H e Q E i h=>?_)
 ·obtain⟨r,fr,d,c,N,rfl,_⟩:=h
  rfl
 obtain⟨r,fr,d,c,N,rfl,ok,na,k⟩:=h;refine⟨_,(@zK _ _ _ (@zU _ _ _ _ (@zX _ _ _ _ _ (@zA _ _ _ _ _ (@zL _ _ _ _ _ _ _ _ _ _ _ _ _ _ _ _ a.ok i (by rfl) a.m a.kp a.b .nil zW (@zA _ _ _ _ _ (@qv _ 0 _ _ (by trivial)) zB (by rfl)) (by decide) (by rfl) (by rfl)) (@zA _ _ _ _ _ zE zB (by rfl)) (by rfl))))),?_⟩;refine⟨_,rfl,r,fr,d,c,N,rfl,ok,na,λt o g l=>⟨by show 2<=sizeLine;decide,λp j=>?_⟩⟩;have b:=zC j (.tup [.ref t,.int 0]);exact k p _ (g.trans b) (tU (is:=[0]) (t:=t) zD (b _ _ l))
theorem iK:FnScope ["net","pair","lane","turns","rest","onward","end"] ["net","pair","lane"] (zN o6):=by trivial
theorem i8 {f L:Addr}{fd M:FuncData}(F:Fun K "pair_behind" "pair_behind" o6 f fd) (g:Use P w K mg base "passed" ["net","turns","lane"] 3 (wj false) L M):FnOk P w K mg base CX0 4 f fd ["net","pair","lane"] uA:=by
 refine F.ok iK (λo H Q E h=>?_) (λR A outer s H o Q E D h=>?_)
 ·obtain⟨r,fr,n,m,N,b,k,a,rfl,_⟩:=h
  rfl
 obtain⟨r,fr,n,m,N,b,k,a,rfl,ok,na,B,⟨d,rest,rfl,u,bits,S⟩,y,x,v⟩:=h;refine⟨_,(@zG _ _ _ _ _ (@yZ _ _ _ _ _ _ (@qv _ 1 _ _ (by trivial)) (@yU _ _ _ _ _ _ rfl (@zQ _ _ _ _ _ (@zP _ _ 3 _ iK.nd rfl (.inl rfl) (by trivial)) (@zQ _ _ _ _ _ (@zP _ _ 4 _ iK.nd rfl (.inl rfl) (by trivial)) yH (by rfl)) (by rfl)) (by rfl) (by rfl)) (by rfl) (by rfl) (by rfl)) (@zG _ _ _ _ _ (@yZ _ _ _ _ _ _ (@zL _ _ _ _ _ _ _ _ _ _ _ _ _ _ _ _ g.ok D (by rfl) g.m g.kp g.b .nil zW (@zA _ _ _ _ _ (@qv _ 0 _ _ (by trivial)) (@zA _ _ _ _ _ (@qv _ 3 _ _ (by trivial)) (@zA _ _ _ _ _ (@qv _ 2 _ _ (by trivial)) zB (by rfl)) (by rfl)) (by rfl)) (by decide) (by rfl) (by rfl)) (@yU _ _ _ _ _ _ rfl (@zQ _ _ _ _ _ (@zP _ _ 5 _ iK.nd rfl (.inl rfl) (by trivial)) (@zQ _ _ _ _ _ (@zP _ _ 6 _ iK.nd rfl (.inl rfl) (by trivial)) yH (by rfl)) (by rfl)) (by rfl) (by rfl)) (by rfl) (by rfl) (by rfl)) (@zG _ _ _ _ _ (@yT _ _ _ _ _ _ _ _ (@zt _ _ _ _ _ _ _ _ uj (@qv _ 6 _ _ (by trivial)) (@qv _ 4 _ _ (by trivial)) (yE _)) (@zK _ _ _ (@zU _ _ _ _ qB)) zp) (@zK _ _ _ (@zU _ _ _ _ (@zX _ _ _ _ _ (@zA _ _ _ _ _ (@qv _ 5 _ _ (by trivial)) (@zA _ _ _ _ _ (@zS _ _ _ _ _ _ _ _ xX (@zS _ _ _ _ _ _ _ _ yW (@qv _ 4 _ _ (by trivial)) zE) (@zj _ _ _ _ _ _ _ yB (@qv _ 0 _ _ (by trivial)) zE (λ_ _=>rfl))) zB (by rfl)) (by rfl)))))))),?_⟩;obtain⟨t,J,C⟩:=w8 B;refine⟨_,rfl,b,_,rfl,SqT.of J,rfl,_,_,rfl,_,_,rfl,rfl,?_⟩;refine⟨_,rfl,_,rfl,_,rfl,r,fr,n,m,N,t,d,a,rfl,ok,na,C,u,bits,y,λp e T i I j=>?_⟩;refine⟨p,_,rfl,SqT.of I,rfl,_,_,rfl,_,_,rfl,rfl,?_⟩;have st:yS N (stK d [(rest:Nat)]) a=if ((passE N d a:Nat):Int)=(rest:Nat) then some (stK (xM N d a) [((rest:Nat)+1)%(N.lanes:Nat)]) else none:=rfl;refine⟨_,rfl,_,rfl,rfl,_,rfl,?_⟩;by_cases c:((passE N d a:Nat):Int)=(rest:Nat)
 ·rw[Jg c]at st
  have O:((List.idxOf (yP false N.forks d a N.forks.length).snd N.ends:Nat):Int)=(rest:Nat):=c;rw[show (!decide (V.int ↑(List.idxOf (yP false N.forks d a N.forks.length).snd N.ends)=V.int ↑rest))=false from by rw[Jx (JS V.int O)];rfl];refine zx ⟨_,rfl,_,rfl,_,_,rfl,rfl,_,rfl,r,_,_,_,rfl,rfl,SqT.of (i _ _ na.net),rfl,_,_,rfl,rfl,by have:=ok.l1;lia,by show 2<=sizeLine;decide,λq G=>?_⟩;have l:=zC G (.tup [.ref e,.int (((rest:Nat)+1)%(N.lanes:Nat))]);exact v _ q _ (i.trans l) st (tU (is:=[((rest:Nat)+1)%(N.lanes:Nat)]) (t:=e) zD (l _ _ j))
 ·rw[Je c]at st
  rw[show (!decide (V.int ↑(List.idxOf (yP false N.forks d a N.forks.length).snd N.ends)=V.int ↑rest))=true from by rw[Jr (λz=>c (by injection z))];rfl];exact yJ (x _ i st)
theorem zax:FnScope ["net","thing"] ["net","thing"] (zN rZ):=by trivial
theorem kY {f I L J:Addr}{fd S T dL:FuncData}(F:Fun K "is_pair" "is_pair" rZ f fd) (G:Mgs mg) (e:Use P w K mg base "is_row" ["thing","many"] 1 (uB K) I S) (i:Use P w K mg base "are_below" ["thing","many","bound"] 3 (rT K) L T) (g:Use P w K mg base "is_below" ["thing","bound"] 2 (uF K) J dL):FnOk P w K mg base CX0 4 f fd ["net","thing"] (vA K):=by
 refine F.ok zax (λD H Q E h=>?_) (λU A outer s H D Q E n h=>?_)
 ·obtain⟨r,fr,M,u,N,x,rfl,_⟩:=h
  rfl
 obtain⟨r,fr,M,u,N,x,rfl,ok,na,o,k⟩:=h;have q:Room 1 _:=n.mono (by decide);have p:Room 2 _:=n.mono (by decide);refine⟨_,(@zK _ _ _ (@zU _ _ _ _ (@wI _ _ _ _ _ _ _ (@zL _ _ _ _ _ _ _ _ _ _ _ _ _ _ _ _ e.ok q (by rfl) e.m e.kp e.b .nil zW (@zA _ _ _ _ _ (@qv _ 1 _ _ (by trivial)) (@zA _ _ _ _ _ zE zB (by rfl)) (by rfl)) (by decide) (by rfl) (by rfl)) (@wI _ _ _ _ _ _ _ (@zL _ _ _ _ _ _ _ _ _ _ _ _ _ _ _ _ i.ok n (by rfl) i.m i.kp i.b .nil zW (@zA _ _ _ _ _ (@zj _ _ _ _ _ _ _ yB (@qv _ 1 _ _ (by trivial)) zE (λ_ _=>rfl)) (@zA _ _ _ _ _ (@zM _ _ _ _ _ _ _ _ _ zT (by rfl) G.len JT (@zA _ _ _ _ _ (@zj _ _ _ _ _ _ _ yB (@qv _ 0 _ _ (by trivial)) zE (λ_ _=>rfl)) zB (by rfl)) (by decide) (by decide) (by rfl) (by rfl)) (@zA _ _ _ _ _ zE zB (by rfl)) (by rfl)) (by rfl)) (by decide) (by rfl) (by rfl)) (@vR _ _ _ _ _ (@zL _ _ _ _ _ _ _ _ _ _ _ _ _ _ _ _ g.ok p (by rfl) g.m g.kp g.b .nil zW (@zA _ _ _ _ _ (@zj _ _ _ _ _ _ _ yB (@qv _ 1 _ _ (by trivial)) zE (λ_ _=>rfl)) (@zA _ _ _ _ _ (@zj _ _ _ _ _ _ _ yB (@qv _ 0 _ _ (by trivial)) zE (λ_ _=>rfl)) zB (by rfl)) (by rfl)) (by decide) (by rfl) (by rfl))))))),?_⟩;refine⟨_,rfl,x,2,rfl,o.any,_,rfl,?_⟩
 cases c:vQ H 2 x with
 | false =>
  rw[kN c]at k
  exact zx (k H (Same.refl H))
 | true =>
 refine yJ ?_
 obtain⟨t,m,a⟩:∃ t m,zY H x=some [t,m]:=by
  unfold vQ at c;split at c
  ·rename_i C z
   have l:=Ys c
   match C,l,z with
   | [t,m],_,z=>exact⟨t,m,z⟩
   | [],l,_=>cases l
   | [_],l,_=>cases l
   | _::_::_::_,l,_=>simp at l;lia
  ·cases c
 obtain⟨b,rfl,v⟩:=yI a;have O:=(o.2 _ a).2 t (.head _);have R:=(o.2 _ a).2 m (.tail _ (.head _))
 have ev:∀ j,Same H j->Q (.bl (yL H (N.forks.length:Nat) 2 t && yn (N.lanes:Nat) m)) j:=λj s=>by
  have:=k j s;unfold yj at this;rw[a]at this;exact this
 refine⟨_,rfl,b,_,_,_,rfl,rfl,SqT.of v,rfl,?_⟩;refine⟨_,rfl,r,_,_,_,rfl,rfl,SqT.of na.net,rfl,fr,u,rfl,.inr (SqT.of na.forks),t,_,2,rfl,O,λB d=>⟨_,rfl,?_⟩⟩;rw[na.prs.len]
 cases y:yL H (N.forks.length:Nat) 2 t with
 | false =>
  rw[y]at ev
  exact zx (ev B d)
 | true =>
 rw[y]at ev;refine yJ ⟨_,rfl,b,_,_,_,rfl,rfl,SqT.of (d _ _ v),rfl,?_⟩;refine⟨_,rfl,r,_,_,_,rfl,rfl,SqT.of (d _ _ na.net),rfl,m,(N.lanes:Nat),rfl,(gg d R).any,?_⟩;exact ev B d
noncomputable abbrev ra:Stmt:=top 9
theorem aN:FnScope ["thing","is_state","first","moves","led","known"] ["thing","is_state","first","moves","led"] (zN ra):=by trivial
theorem kX {f:Addr}{fd:FuncData}{SL L:Lam}{a7 fr a8 bo:List Str}{ab lsp:LSpc}(F:Fun K "is_book" "is_book" ra f fd) (G:Mgs mg) (LS:LamQ CX0 P w K mg base 4 SL a7 a8 ab) (LQ:LamQ CX0 P w K mg base 4 L fr bo lsp):FnOk P w K mg base CX0 6 f fd ["thing","is_state","first","moves","led"] (uV P w K SL a7 ab L fr lsp):=by
 refine F.ok aN (λvs H Q E h=>?_) (λb1 A outer s H vs Q E hr h=>?_)
 ·obtain⟨x,fs,b0,mv,f,a3,M,k0,moves,cl,vals,step,Ok,n,B,rfl,_⟩:=h
  rfl
 obtain⟨x,fs,b0,mv,f,a3,M,k0,moves,cl,vals,step,Ok,n,B,rfl,eS,laS,bq,W,bS,ax,v,k⟩:=h;refine⟨_,(@zG _ _ _ _ _ (@yT _ _ _ _ _ _ _ _ (@vf _ _ _ _ _ _ _ (@wH _ _ _ _ (@xj _ _ _ (@zM _ _ _ _ _ _ _ _ _ ya (by rfl) G.isi (by rfl) (@zA _ _ _ _ _ (@qv _ 0 _ _ (by trivial)) (@zA _ _ _ _ _ (@yp _ _ (.ty "tuple") (.type "tuple") _ (by rfl) G.tuple (by rfl) rfl (by decide) (by decide)) zB (by rfl)) (by rfl)) (by decide) (by decide) (by rfl) (by rfl)) (by intro _;rfl))) (@wn _ _ _ _ (@wH _ _ _ _ (@xj _ _ _ (@zM _ _ _ _ _ _ _ _ _ (wW rfl true) (by rfl) G.all (by rfl) (@zA _ _ _ _ _ (@pC _ _ _ _ none _ _ _ _ _ _ ["state","is_state"] [none,some 1] rfl (@xk _ _ _ _ (@qv _ 0 _ _ (by trivial))) (CapOk.of (by kernel_rfl)) (λ_ _ _ _ _=>(@zP _ _ 0 _ (show (["state","is_state"]:List Str).Nodup from by decide +kernel) rfl (.inl rfl) (.inr rfl))) (λ_ _ _ _ _=>x9) (λ_ _ _ _ _=>(mP LS hr (@qv _ 1 _ _ (by trivial)) zW (@zA _ _ _ _ _ (@qv _ 0 _ _ (by trivial)) zB (by rfl)))) (by intro _;rfl)) zB (by rfl)) (by decide) (by decide) (by rfl) (by rfl)) (by intro _;rfl))))).pt (@zK _ _ _ (@zU _ _ _ _ xA)) zp) (@zG _ _ _ _ _ (@zo _ _ 5 _ _ _ _ aN.nd rfl (.inr rfl) (ip hr.u3 (N':=["state"]) (cap:=[none]) rfl (@xk _ _ _ _ (@qv _ 0 _ _ (by trivial))) (CapOk.of (by kernel_rfl)) (λ_ _ _ _ _=>(@zP _ _ 0 _ (show (["state"]:List Str).Nodup from by decide +kernel) rfl (.inl rfl) (.inr rfl))) (λ_ _ _ _ _=>(@qv _ 0 _ _ (by trivial))) (λ_ _ _ _ _=>xA)) (by rfl) (by trivial)) (@zG _ _ _ _ _ (@yT _ _ _ _ _ _ _ _ (@vf _ _ _ _ _ _ _ (@zt _ _ _ _ _ _ _ _ uj (@zM _ _ _ _ _ _ _ _ _ rH (by rfl) G.len JT (@zA _ _ _ _ _ (@qv _ 5 _ _ (by trivial)) zB (by rfl)) (by decide) (by decide) (by rfl) (by rfl)) (@zM _ _ _ _ _ _ _ _ _ zT (by rfl) G.len JT (@zA _ _ _ _ _ (@qv _ 0 _ _ (by trivial)) zB (by rfl)) (by decide) (by decide) (by rfl) (by rfl)) (yE _)) (@wn _ _ _ _ (@rq _ _ _ _ _ _ (vS hr.u3 (@qv _ 2 _ _ (by trivial)) (@qv _ 5 _ _ (by trivial))) (by rfl)))).pt (@zK _ _ _ (@zU _ _ _ _ xA)) zp) (@zK _ _ _ (@zU _ _ _ _ (@zM _ _ _ _ _ _ _ _ _ (wW rfl true) (by rfl) G.all (by rfl) (@zA _ _ _ _ _ (@cy _ _ _ _ _ _ none _ _ _ (am K (fI 4)) _ _ _ _ ["state","move","known","led","moves"] [none,none,some 5,some 4,some 3] rfl (@xk _ _ _ _ (@qv _ 0 _ _ (by trivial))) (CapOk.of (by kernel_rfl)) (λ_ _ _ _ _=>(@zP _ _ 0 _ (show (["state","move","known","led","moves"]:List Str).Nodup from by decide +kernel) rfl (.inl rfl) (.inr rfl))) (λ_ _ _ _ _=>(@xk _ _ _ _ (@qv _ 4 _ _ (by trivial)))) (λ_ _ _ _ _=>(@zP _ _ 1 _ (show (["state","move","known","led","moves"]:List Str).Nodup from by decide +kernel) rfl (.inl rfl) (.inr rfl))) (λ_ _ _ _ _=>x9) (λ_ _ _ _ _=>(@uG _ _ _ _ _ _ _ (aQ P w) (iy hr.u3) (mP LQ hr (@qv _ 3 _ _ (by trivial)) zW (@zA _ _ _ _ _ (@qv _ 0 _ _ (by trivial)) (@zA _ _ _ _ _ (@qv _ 1 _ _ (by trivial)) zB (by rfl)) (by rfl))) (@qv _ 2 _ _ (by trivial)) (by rfl))) (by intro _;rfl) (by intro _ _;rfl)) zB (by rfl)) (by decide) (by decide) (by rfl) (by rfl))))))),?_⟩;obtain⟨t,I⟩:=ax.isi;refine⟨_,rfl,_,"tuple",_,_,rfl,I.ty,I.tup,_,rfl,?_⟩
 cases Y:zY H x with
 | none =>
  rw[Y]at k
  exact yJ (yJ (k _ (Same.refl _)))
 | some xs =>
 obtain⟨a,rfl,ha⟩:=yI Y;rw[Y]at k;change ∀ H',Same H H'->Q (.bl (xa B xs k0 moves step)) H' at k;obtain⟨xl,hy⟩:=v xs Y;refine zx ?_;refine⟨_,rfl,a,rfl,⟨_,SqT.of ha⟩,λl hl=>?_⟩;have sl:=zC hl (.lst []);refine qH (K:=K) (a:=a) (xs:=xs) (λj acc σ N=>(∃ J,σ=[J,some (.ref fs)])/\Same H N/\N l=some (.lst acc)/\acc=(xs.take j).map λy=>V.bl (B y).isSome) ⟨⟨_,rfl⟩,sl,zD,rfl⟩ (λj acc σ N z=>⟨z.2.2.1,SqT.of (z.2.1 _ _ ha)⟩) ?_ ?_
 ·rintro j x acc σ N v ⟨⟨J,rfl⟩,s2,h2,rfl⟩
  have jl:j<xs.length:=(Ja.mp v).1;have xm:x∈xs:=JB v;have ao:=laS.frz λb o u e=>s2 _ _ e;obtain⟨pm,cc,ct,oc,fz,tk,aT,_⟩:=ao.ex;refine⟨fs,rfl,⟨_,_,_,_,aT⟩,_,rfl,a3,M,eS,ao,(hy x xm).1 _ _ ((KpN.same s2).trans (KpN.strip ao.fz)) λC s3 low=>?_⟩;have s4:=vO s3;generalize back a3 N C=H4 at s4 ⊢;have u4:=s2.trans s4;refine⟨s4 _ _ h2,by rw[Jn,Js,JH];lia,nx jl ⟨⟨_,rfl⟩,λb o e=>?_,zD,?_⟩⟩
  ·rw[zJ (zH e hl)];exact u4 b o e
  ·rw[<- Yd jl,JU,(Ja.mp v).2];rfl
 rintro acc σ N ⟨⟨J,rfl⟩,s2,h2,rfl⟩;rw[Ya]at h2;refine⟨l,xs.map λy=>(B y).isSome,rfl,.inl (.inl (by rw[YX];exact h2)),_,rfl,?_⟩
 cases hm:xs.mapM B with
 | none =>
  obtain⟨y,ym,bB⟩:=sZ.mp hm;have e:(xs.map λy=>(B y).isSome).all id=false:=List.all_eq_false.mpr ⟨false,JA.mpr ⟨y,ym,by rw[bB];rfl⟩,by simp⟩;have z:=k _ s2;rw[xZ hm]at z;rw[e]
  exact yJ z
 | some ss =>
 obtain⟨a4,hs⟩:=xC hm
 have e:(xs.map λy=>(B y).isSome).all id=true:=Yw.mpr λb hb=>by
  obtain⟨y,ym,rfl⟩:=JA.mp hb;obtain⟨i,il,ei⟩:=YT.mp ym;obtain⟨p,_,e0⟩:=hs i y (by rw[J9 il,ei]);rw[e0];rfl
 rw[e];refine zx ?_;have a6:=s2 _ _ ha;refine⟨_,rfl,a,rfl,⟨_,SqT.of a6⟩,λd hd=>?_⟩;refine bn (K:=K) (a:=a) (xs:=xs) (λj acc σ C=>(∃ J,σ=[J])/\Same N C/\C d=some (DN P w d acc)/\acc.map (·.1)=ddL (ss.take j)/\KsIn C acc/\acc.length<=j) ⟨⟨_,rfl⟩,zC hd _,zD,rfl,λx v=>(nomatch v),JN _⟩ (λj acc σ C z=>SqT.of (z.2.1 _ _ a6)) ?_ ?_
 ·rintro j x acc σ C v ⟨⟨J,rfl⟩,s3,h3,ek,ks,al⟩
  have jl:j<xs.length:=(Ja.mp v).1;obtain⟨p,es,e0⟩:=hs j x v;obtain⟨_,b,rfl,kb⟩:=(hy x (JB v)).2 p e0;have X:=(kb.tups (Tups.of s2)).tups (Tups.of s3);have bt:j<ss.length:=(Ja.mp es).1;have tp:Tups C (L2.upd C d (DN P w d (yx acc p b (.bl true)))):=λc ys e=>by rw[zJ (yh e h3 λz=>by cases z)];exact e
  refine⟨_,rfl,b,p,rfl,h3,ks,X,by rw[JH];lia,nx jl ⟨⟨_,rfl⟩,λc o e=>?_,zD,?_,(ks.put X).tups tp,?_⟩⟩
  ·rw[zJ (zH e hd)];exact s3 c o e
  ·rw[kG,<- Yd bt,oN,(Ja.mp es).2,<- ek]
   unfold ddN;by_cases c:p∈acc.map (·.1)
   ·rw[Jg c,Jg (yu.mpr c)]
   ·rw[Je c,Je λz=>c (yu.mp z)]
  ·have:=vC acc p b (.bl true)
   lia
 rintro acc σ C ⟨⟨J,rfl⟩,s3,h3,ek,ks,al⟩;rw[a4,Ya]at ek;obtain⟨dm,dl,dn⟩:=lI ss;rw[<- ek]at dm dl dn;rw[Jn]at dl dn;have u3:=s2.trans s3;have a0:=u3 _ _ ha;have X:=bq.tups (Tups.of u3);have z:=k;rw[xD hm]at z;refine⟨_,rfl,d,acc,rfl,.inl h3,_,rfl,a,xs,rfl,.inr (SqT.of a0),rfl,_,rfl,?_⟩;by_cases nd:ss.Nodup
 rotate_left
 ·rw[show (!decide (V.int (acc.length:Nat)=V.int (xs.length:Nat)))=true from by
   rw[qI,Jr λ(e:((acc.length:Nat):Int)=(xs.length:Nat))=>nd (dn.mp (by lia))];rfl]
  rw[Jr nd]at z;exact yJ (yJ (z _ u3))
 rw[show (!decide (V.int (acc.length:Nat)=V.int (xs.length:Nat)))=false from by
   rw[qI,Jx (show ((acc.length:Nat):Int)=(xs.length:Nat) by have:=dn.mpr nd;lia)];rfl]
 refine zx ⟨_,rfl,_,rfl,d,b0,acc,k0,rfl,rfl,⟨.inl h3,ks⟩,X,_,rfl,?_⟩
 have vi:∀ t,(yb acc t).isSome=decide (t∈ss):=λt=>by
  rw[Yj,decide_eq_true_iff,yu,dm]
 rw[vi];rw[Jx nd]at z;by_cases c0:k0∈ss
 rotate_left
 ·rw[Jr c0]at z ⊢
  exact yJ (z _ u3)
 rw[Jx c0]at z ⊢;refine zx ?_
 let T:KN->Nat->Bool:=λs m=>match step s m with|none=>false|some t=>decide (t∈ss)
 let g:Nat->List Bool:=λi=>(ss.take i).flatMap λs=>moves.map (T s)
 have acl:∀ i,(g i).length<=i*16:=λi=>by
  show ((ss.take i).flatMap λs=>moves.map (T s)).length<=_
  have key:∀ rs:List KN,(rs.flatMap λs=>moves.map (T s)).length<=rs.length*16:=λrs=>by
   induction rs with
   | nil=>exact Jc _
   | cons r rs ih =>
    rw[List.flatMap_cons,Jb,Jn,JV,Nat.add_mul];lia
  have:=key (ss.take i);rw[Js]at this;lia
 refine⟨_,rfl,a,rfl,⟨_,SqT.of a0⟩,λl2 a5=>?_⟩;refine eV (K:=K) (a:=a) (xs:=xs) (Q:=λx H1=>cE (List.set (L2.start ["thing","is_state","first","moves","led","known"] [V.ref a,V.ref fs,V.ref b0,V.ref mv,V.ref f]) 5 (some (V.ref d))) H1 λvs N=>∃ a bs,x::vs=[V.ref a]/\SqB true K N a (List.map V.bl bs)/\Q (V.bl (bs.all id)) N) (λi ac σ H4=>(∃ J O,σ=[J,O,some (.ref d),some (.ref f),some (.ref mv)])/\Same C H4/\H4 l2=some (.lst ac)/\ac=(g i).map V.bl) ⟨⟨_,_,rfl⟩,zC a5 _,zD,rfl⟩ (λi ac σ H4 z=>⟨z.2.2.1,SqT.of (z.2.1 _ _ a0)⟩) ?_ ?_
 ·rintro i ac σ H4 x v ⟨⟨J,O,rfl⟩,s4,h4,rfl⟩
  have il:i<xs.length:=(Ja.mp v).1;obtain⟨p,es,e0⟩:=hs i x v;obtain⟨a9,b,rfl,kb⟩:=(hy x (JB v)).2 p e0;have bu:i<ss.length:=(Ja.mp es).1
  have ba:g (i+1)=g i++moves.map (T p):=by
   show (ss.take (i+1)).flatMap _=_;rw[<- Yd bu,List.flatMap_append,(Ja.mp es).2,List.flatMap_singleton]
  have u4:=u3.trans s4;refine⟨_,rfl,mv,rfl,⟨_,(W.mv.tups (Tups.of u4)).sq⟩,?_⟩;refine eW (K:=K) (a:=mv) (zs:=moves.map λm=>V.int (m:Nat)) (λj ac σ S=>(∃ O,σ=[some (.ref b),O,some (.ref d),some (.ref f),some (.ref mv)])/\Same C S/\S l2=some (.lst ac)/\ac=(g i++(moves.take j).map (T p)).map V.bl) ⟨⟨_,rfl⟩,s4,h4,by rw[W3,List.map_nil,Yt]⟩ (λj ac σ S z=>⟨z.2.2.1,(W.mv.tups (Tups.of (u3.trans z.2.1))).sq⟩) ?_ ?_
  ·rintro j x ac σ S v ⟨⟨O,rfl⟩,Z,h5,rfl⟩
   rw[JZ]at v;obtain⟨m,em,rfl⟩:=Y6.mp v;have jl:j<moves.length:=(Ja.mp em).1;have u5:=u3.trans Z;have U:=W.la.frz λb o u e=>u5 _ _ e;obtain⟨pm,cc,ct,oc,fz,tk,aT,_⟩:=U.ex
   have tj:(moves.take (j+1)).map (T p)=(moves.take j).map (T p)++[T p m]:=by
    rw[<- Yd jl,JU,(Ja.mp em).2];rfl
   have fin:∀ (R:Hp) (q:Bool),Same S R->q=T p m->R l2=some (.lst ((g i++(moves.take j).map (T p)).map V.bl))/\((g i++(moves.take j).map (T p)).map V.bl).length<sizeLine/\Nx (moves.map λm=>V.int (m:Nat)).length j ((∃ O,[some (V.ref b),some (V.int (m:Nat)),some (.ref d),some (.ref f),some (.ref mv)]=[some (.ref b),O,some (.ref d),some (.ref f),some (.ref mv)])/\Same C (L2.upd R l2 (.lst ((g i++(moves.take j).map (T p)).map V.bl++[V.bl q])))/\L2.upd R l2 (.lst ((g i++(moves.take j).map (T p)).map V.bl++[V.bl q])) l2=some (.lst ((g i++(moves.take j).map (T p)).map V.bl++[V.bl q]))/\(g i++(moves.take j).map (T p)).map V.bl++[V.bl q]=(g i++(moves.take (j+1)).map (T p)).map V.bl):=λR q D eq=>by
    subst eq;refine⟨D _ _ h5,?_,nx (by rw[Jn];exact jl) ⟨⟨_,rfl⟩,λb o e=>?_,zD,?_⟩⟩
    ·have:=acl i
     rw[Jn,Jb,Jn,Js,JH];lia
    ·rw[zJ (zH e a5)];exact D _ _ (Z b o e)
    ·rw[tj,<- Y2,JU (l₂:=[_])];rfl
   refine⟨f,rfl,⟨_,_,_,_,aT⟩,_,rfl,_,rfl,cl,vals,W.fr,U,W.ld _ p b m _ ((Tups.of u5).trans (uK U.fz)) a9 (JB em) ((kb.tups (Tups.of u5)).tups (uK U.fz)) (λH6 s6 e low=>?_) (λH6 b' t s6 e kt low=>?_)⟩
   ·have D:=vO s6
    generalize back cl S H6=R at D ⊢;exact⟨_,rfl,d,acc,rfl,⟨.inl (D _ _ (Z _ _ h3)),ks.tups (Tups.of (Z.trans D))⟩,.inr ⟨rfl,fin R _ D (by show false=match step p m with|none=>false|some t=>decide (t∈ss);rw[e])⟩⟩
   ·have D:=vO s6
    have k7:=kt.tups (lj (H:=S) low);generalize back cl S H6=R at D k7 ⊢;exact⟨_,rfl,d,acc,rfl,⟨.inl (D _ _ (Z _ _ h3)),ks.tups (Tups.of (Z.trans D))⟩,.inl ⟨b',t,rfl,k7,fin R _ D (by rw[vi];show _=match step p m with|none=>false|some t=>decide (t∈ss);rw[e])⟩⟩
  ·rintro ac σ S ⟨⟨O,rfl⟩,Z,h5,rfl⟩
   rw[Jn,Ya]at h5 ⊢;rw[<- ba]at h5 ⊢;exact nx il ⟨⟨_,_,rfl⟩,Z,h5,rfl⟩
 ·rintro ac σ H4 ⟨⟨J,O,rfl⟩,s4,h4,rfl⟩
  rw[a4]at h4;refine⟨l2,g ss.length,rfl,.inl (.inl h4),?_⟩
  have e:(g ss.length).all id=ss.all λs=>moves.all λm=>match step s m with|none=>false|some t=>decide (t∈ss):=by
   show ((ss.take ss.length).flatMap λs=>moves.map (T s)).all id=_;rw[Ya,List.all_flatMap]
   congr 1
   funext s
   rw[List.all_map];rfl
  rw[e];exact z _ (u3.trans s4)
noncomputable abbrev xy:Stmt:=top 17
theorem mh {l:List (Str × NameKind)}{x:Str}{k:NameKind}(h:l.lookup x=some k):(x,k)∈l:=by
 obtain⟨a,c,e,_⟩:=List.lookup_eq_some_iff.mp h;rw[e];exact Ju.mpr (.inr (.head _))
noncomputable def bU (q:Str):Stmt->Lam
 | .Return (some (.Call _ (_::.Lambda p b s _::_) _ _)) _=>⟨p,b,s,q⟩
 | _=>⟨⟨[],[],none,[],[],none,[]⟩,.Name "" ⟨0,0,0,0⟩,zN xy,q⟩
noncomputable def bV (q:Str):Stmt->Lam
 | .Return (some (.Call _ (_::_::_::_::.Lambda p b s _::_) _ _)) _=>⟨p,b,s,q⟩
 | _=>⟨⟨[],[],none,[],[],none,[]⟩,.Name "" ⟨0,0,0,0⟩,zN xy,q⟩
noncomputable def sk (q:Str):Lam:=bU q ((yk xy).getD 0 (.Pass ⟨0,0,0,0⟩))
noncomputable def uw (q:Str):Lam:=bV q ((yk xy).getD 0 (.Pass ⟨0,0,0,0⟩))
noncomputable def ni (K:PySem.W.Frag):LSpc:=λvals a H Q E=>∃ r,∃ x,vals=[.ref r]/\a=[x]/\vA K [.ref r,x] H Q E
theorem zaq:LamScope ["pair"] ["net"] (sk "").scope:=⟨rfl,rfl,rfl,by decide +kernel,by decide +kernel,by decide +kernel,by decide +kernel,λx a=>(show ∀ y∈(sk "").scope.names,y.2=.free->y.1∈[("net":Str)] from by decide +kernel) _ (mh a) rfl⟩
theorem zar:LamScope ["pair","lane"] ["net"] (uw "").scope:=⟨rfl,rfl,rfl,by decide +kernel,by decide +kernel,by decide +kernel,by decide +kernel,λx a=>(show ∀ y∈(uw "").scope.names,y.2=.free->y.1∈[("net":Str)] from by decide +kernel) _ (mh a) rfl⟩
theorem bD {us:List Value}(h:us.length=1):∃ u,us=[u]:=by
 match us,h with
 | [u],_=>exact⟨u,rfl⟩
theorem cA {us:List Value}(h:us.length=2):∃ u v,us=[u,v]:=by
 match us,h with
 | [u,v],_=>exact⟨u,v,rfl⟩
theorem eY (q:Str) {f:Addr}{fd:FuncData}(a:Use P w K mg base "is_pair" ["net","thing"] 4 (vA K) f fd):LamQ CX0 P w K mg base 4 (sk q) ["net"] ["pair"] (ni K):=by
 refine⟨zaq,λvals b H Q E h=>?_,λcl i e pm g l=>by obtain⟨u,rfl⟩:=bD e;rfl,λcl j c A outer s H vals b Q E k d fz h=>?_⟩
 ·obtain⟨r,x,_,rfl,_⟩:=h
  rfl
 obtain⟨r,x,rfl,rfl,h⟩:=h;refine⟨_,zL a.ok d (by rfl) a.m a.kp a.b .nil zW (zA (pv 1) (zA (pv 0) zB)),?_⟩;exact⟨_,rfl,_,rfl,h⟩
theorem bT (q:Str) {f:Addr}{fd:FuncData}(a:Use P w K mg base "pair_behind" ["net","pair","lane"] 4 uA f fd):LamQ CX0 P w K mg base 4 (uw q) ["net"] ["pair","lane"] vH:=by
 refine⟨zar,λvals d H Q E h=>?_,λcl j g pm i n=>by obtain⟨u,v,rfl⟩:=cA g;rfl,λcl l c A outer s H vals d Q E m e fz h=>?_⟩
 ·obtain⟨r,b,h,_,rfl,_⟩:=h
  rfl
 obtain⟨r,b,k,rfl,rfl,h⟩:=h;refine⟨_,zL a.ok e (by rfl) a.m a.kp a.b .nil zW (zA (pv 2) (zA (pv 0) (zA (pv 1) zB))),?_⟩;exact⟨_,rfl,_,rfl,_,rfl,h⟩
theorem ga {sc:Scope}{l:List Str}{env:Env}(h:(sc.names.filter λy=>y.2 == .free).map (·.1)=l)(k:∀ x∈l,env.kindOf x=some .cell):∀ x,(x,NameKind.free)∈sc.names->env.kindOf x=some .cell\/env.kindOf x=some .free:=λx a =>
 .inl (k x (by rw[<- h];exact JA.mpr ⟨_,List.mem_filter.mpr ⟨a,rfl⟩,rfl⟩))
theorem oG {sc:Scope}{x0:Str}{env:Env}(h:(sc.names.filter λy=>y.2 == .free).map (·.1)=[x0])(a:env.kindOf x0=some .cell):∀ x,(x,NameKind.free)∈sc.names->env.kindOf x=some .cell\/env.kindOf x=some .free:=ga h λx b=>by
 rw[Jd.mp b];exact a
theorem bf {X:Cx}{x:Str}{i:Nat}(d:X.N[i]?=some x)(c:X.env.scope.names.lookup x=some .cell)(b:X.fn x=true):∀ p∈[(x,i)],X.N[p.2]?=some p.1/\X.env.scope.names.lookup p.1=some .cell/\X.fn p.1=true:=λp a=>by
 rw[Jd.mp a];exact⟨d,c,b⟩
theorem uk {cs:List (Str × Addr)}{x:Str}(h:cs.map (·.1)=[x]):∃ c,cs=[(x,c)]:=by
 match cs,h with
 | [(y,c)],h=>exact⟨c,by rw[show y=x from (List.cons.inj h).1]⟩
noncomputable def qS:Str:=("shows_stair":Str)++(".<locals>.":Str)++("<lambda>":Str)
theorem zao:FnScope ["net","some","thing"] ["net","some","thing"] (zN xy):=by trivial
theorem kT {f fB fF c Pt:Addr}{fd dB dF:FuncData}(F:FunC K "shows_stair" "shows_stair" xy f fd c) (CK:CodeK K mg base c Pt) (UB:Use P w K mg base "is_book" ["thing","is_state","first","moves","led"] 6 (uV P w K (sk qS) ["net"] (ni K) (uw qS) ["net"] vH) fB dB) (UF:Use P w K mg base "first_pair" ["net"] 2 y4 fF dF):FnOk P w K mg base CX0 7 f fd ["net","some","thing"] (uS K qS Pt):=by
 refine F.ok zao (λvs H Q E h=>?_) (λA outer s H vs Q E hr h=>?_)
 ·obtain⟨r,fr,er,ps,N,sm,moves,x,rfl,_⟩:=h
  rfl
 obtain⟨r,fr,er,ps,N,sm,moves,x,rfl,ok,na,bo,mlt,ml,ax,g,tab,k⟩:=h;refine⟨_,(@zK _ _ _ (@zU _ _ _ _ (iq (E:=E0) UB.ok hr (by rfl) UB.m UB.kp UB.b [("net",0)] (by decide) (bf rfl rfl rfl) (@zA _ _ _ _ _ (@qv _ 2 _ _ (by trivial)) (@zA _ _ _ _ _ (io (fr:=["net"]) CK rfl rfl (oG (x0:="net") rfl rfl) rfl) (@zA _ _ _ _ _ (@zL _ _ _ _ _ _ _ _ _ _ _ _ _ _ _ _ UF.ok (hr.mono (by decide)) (by rfl) UF.m UF.kp UF.b .nil zW (@zA _ _ _ _ _ (@qv _ 0 _ _ (by trivial)) zB (by rfl)) (by decide) (by rfl) (by rfl)) (@zA _ _ _ _ _ (@qv _ 1 _ _ (by trivial)) (@zA _ _ _ _ _ (io (fr:=["net"]) CK rfl rfl (oG (x0:="net") rfl rfl) rfl) zB (by rfl)) (by rfl)) (by rfl)) (by rfl)) (by rfl))))),?_⟩;have bu:=ok.l16;obtain⟨l,hP,tok⟩:=id tab;refine⟨_,rfl,l,hP,tok,λf1 b5 l1 H1 a4 a6 bS a0 I ao U=>?_⟩;have a8:=na.tups (KpN.tups (KpN.but (λb o e n=>U b o e n) hP));refine⟨_,rfl,r,fr,er,ps,N,rfl,ok,a8,λb0 H2 D k2=>?_⟩;refine⟨_,rfl,l1,D _ _ I,ao.frz (λb o u e=>D _ _ e),λf2 b4 l2 H3 a3 a5 bB aT bq ab T=>?_⟩;refine⟨[.ref r],rfl,λj x i v g p=>?_,λcs G bt C nd ca out X=>?_⟩
 ·match j,g,p with
  | 0,g,p=>cases g;cases p;rfl
  | j+1,g,p=>cases g
 obtain⟨c1,rfl⟩:=uk a4;obtain⟨B,rfl⟩:=uk a3;obtain⟨c3,rfl⟩:=uk bt;have e1:c1=c3:=Jt ((a6 _ (.head _)).symm.trans (C _ (.head _)));have e3:B=c3:=Jt ((a5 _ (.head _)).symm.trans (C _ (.head _)));subst e1 e3;have b1:But Pt H H1:=λb o e n=>U b o e n;have b3:But Pt H2 H3:=λb o e n=>T b o e n;have a7:But Pt H H3:=(b1.trans (But.of D)).trans b3
 have d:Same H3 G:=λb o e=>by
  rw[out b λM=>by rw[X b M]at e;cases e];exact e
 have a:KpN H G:=(KpN.but a7 hP).trans (KpN.same d);have R:=na.tups a.tups;have ba:KpN H2 G:=(KpN.but b3 (D _ _ I)).trans (KpN.same d);have Y:∀ b o u,H1 b=some (.frz o u)->G b=some (.frz o u):=λb o u e=>d _ _ (T _ _ (D _ _ e) (yh (D _ _ e) (D _ _ I) λz=>by cases z))
 have L:LamRaw G f1 (sk qS) [("net",B)]:=by
  obtain⟨pm,cd,ct,oc,fs,tk,L,J,r3,r4⟩:=a0.ex;exact⟨pm,cd,ct,oc,fs,tk,Y _ _ _ L,Y _ _ _ J,r3,r4⟩
 have J:LamRaw G f2 (uw qS) [("net",B)]:=by
  obtain⟨pm,cd,ct,oc,fs,tk,L,J,r3,r4⟩:=aT.ex;exact⟨pm,cd,ct,oc,fs,tk,d _ _ L,d _ _ J,r3,r4⟩
 have nd1:[("net":Str)].Nodup:=by decide
 have la1:=L.at_ (ws:=[.ref r]) ca nd1 nd rfl λi x c v g p=>⟨i,g,p⟩;have a9:=J.at_ (ws:=[.ref r]) ca nd1 nd rfl λi x c v g p=>⟨i,g,p⟩;have W:Way K G sm f2 (uw qS) ["net"] vH [("net",B)] [.ref r] (yS N) (OkP N) moves N.lanes:=⟨.inl (a.tups _ _ bo),rfl,a9,gN ok R mlt,mlt,λs m t os _ e=>qg ok os e,by lia⟩;have Z:=ax.row a;refine⟨x,f1,b0,sm,f2,[("net",B)],[.ref r],_,moves,[("net",B)],[.ref r],yS N,OkP N,N.lanes,wg H (N.forks.length:Nat) (N.lanes:Nat),rfl,rfl,la1,k2.tups ba.tups,W,ml,(ax.kp a).any,λxs V=>?_,λH5 s5=>?_⟩
 ·rw[Z]at V
  obtain⟨x1,x2⟩:=g xs V;refine⟨x1,λy ym=>⟨λH5 Q1 k5 q=>?_,λs hs=>?_⟩⟩
  ·have S:=a.trans k5
   refine⟨r,y,rfl,rfl,r,fr,er,ps,N,y,rfl,ok,R.tups k5.tups,((x2 y ym).kp S).deep,λH6 s6=>?_⟩;rw[iu S (x2 y ym),<- mE];exact q H6 s6
  ·obtain⟨o1,b,e,kb⟩:=vM hs
   exact⟨o1,b,e,kb.tups a.tups⟩
 rw[Z]
 have b2:CellsFz [("net",B)] H5:=λb M=>by
  obtain⟨o,z⟩:=ca.fz b M;exact⟨o,s5 _ _ z⟩
 have O:Same H3 (strip [("net",B)] H5):=λb o e=>by
  rw[yF λM=>by rw[X b M]at e;cases e];exact s5 _ _ (d _ _ e)
 exact k _ (a7.trans (But.of O)) (TabQ.same ⟨l2,bq,ab⟩ O)
end
end K39
namespace L2
open PySem PySem.Spec PyProof.Rows Own
section
variable {prog:Program}{w:World}{A:Around}{E:Value->Shared->Prop}{s:Shared}{a b:Addr}{oa ob:Obj}{es:Array DictEntry}{ea eb:Nat}
theorem o0 {nm:String}{Q:Bool->Shared->Prop}(ha:(a == sysModules)=false)(hb:(b == sysModules)=false)(f:s.heap.get? a=some oa)(g:oa.data=.dict es ea)(k:s.heap.get? b=some ob)(m:ob.data=.dict #[] eb)(h:Q es.isEmpty s):wpAny (model prog w) A (Builtin.Dict.samePairs nm a b) Q E s:=by
 unfold Builtin.Dict.samePairs
 have c:∀ {d:Addr}{R:Unit->Shared->Prop},(d == sysModules)=false->R () s->wpAny (model prog w) A (Builtin.Dict.showsAll d) R E s:=λ{d R} j q=>by
  unfold Builtin.Dict.showsAll;rw[j];exact J8 q
 refine J0 (c ha (J0 (c hb (J0 (Yb f g (J0 (Yb k m ?_)))))));dsimp only;by_cases z:es.size=0
 ·have e:es = #[]:=Array.eq_empty_of_size_eq_zero z
  subst e;rw[Je (by decide)];refine J0 (Yk f g (J0 ?_));have l:List.range' [:(#[]:Array DictEntry).size].start [:(#[]:Array DictEntry).size].size [:(#[]:Array DictEntry).size].step=[]:=rfl;rw[Zk,l,Z8];exact J8 (Q:=_) (J8 (by exact h))
 ·rw[Jg (by simpa using z)]
  have i:es.isEmpty=false:=by simpa [Array.isEmpty] using z
  exact J0 (YJ (J8 (i ▸ h)))
end
section
variable {X:Cx}
theorem bC (w:X.A.units<cLine):OpR X (compareOp .NotEq) (λx y H Q=>∃ a b xs,x=.ref a/\y=.ref b/\H a=some (DN X.prog X.w a xs)/\H b=some (DN X.prog X.w b [])/\Q (.bl (!xs.isEmpty)) H):=by
 intro pins s σ H x y v u Q I m l h;obtain⟨a,b,xs,rfl,rfl,B,A,q⟩:=h;cases m;cases l;obtain⟨⟨z,C,ws,r,o,c,S,j,F,E,D,P⟩,_,_⟩:=(show ObjOk X.prog X.w H s.heap a (DN X.prog X.w a xs) from I.hok a _ B);obtain⟨⟨O,e,M,n,t,f,N,k,K,J,G,R⟩,_,_⟩:=(show ObjOk X.prog X.w H s.heap b (DN X.prog X.w b []) from I.hok b _ A);cases n
 have L:f = #[]:=by
  apply Array.eq_empty_of_size_eq_zero;rw[Z1 G];rfl
 subst L;have d:s.TypeIs (.ref a) "dict":=⟨o,j,F.1⟩;have g:s.TypeIs (.ref b) "dict":=⟨t,k,K.1⟩
 have em:c.isEmpty=xs.isEmpty:=by
  have i:c.size=xs.length:=by rw[Z1 D,<- Yc r]
  cases xs with
  | nil =>
   have:c = #[]:=Array.eq_empty_of_size_eq_zero i
   rw[this];rfl
  | cons p xs =>
   rw[JV]at i;show decide (c.size=0)=false;exact Jr (by simp_all)
 refine wpAny_richCompare_same_room (op:=.NotEq) d g PySem.F.slot_dict_ne (Yf PySem.F.slot_dict_ne d PySem.F.entry_dict_ne ?_ (PySem.F.args_dict_ne_2 _ _)) w;refine J0 ?_;unfold Builtin.Dict.dictSlotArgs;refine J0 (ZP d ?_);dsimp only;refine J0 (J8 (Q:=_) (J8 (Q:=_) ?_));refine J0 (ZQ (b:=true) g (by rfl) ?_);rw[Je (by decide)];refine J0 (J8 (J0 (J8 (J0 (o0 C e j E k J ?_)))));rw[em];refine J8 ⟨_,rfl,(λz=>by cases z),.bl _,H,I,rfl,?_⟩;have eq:(List.isEmpty xs == false) = !List.isEmpty xs:=by cases List.isEmpty xs<;>rfl
 rw[eq];exact q
noncomputable def cD (P:Program)(w:World)(t:TE):TE:=λσ H Q=>t σ H λx c=>∃ d o b a,H d=some (DN P w d a)/\c d=some (.frz o (DN P w d b))/\Q x (upd c d (DN P w d b))
theorem ic {e:Expr}{t:TE}(h:PE X e t):PE X e (cD X.prog X.w t):=by
 intro pins s σ H Q I c;refine thn (h pins s σ H _ I c) λv k q=>?_;obtain⟨x,l,g,a,d,o,j,i,f,b,q⟩:=q;exact⟨x,_,g.thawN b (I.meltedN f),a,q⟩
end
end L2
namespace K39
open PySem L2 Own Bn
noncomputable abbrev cW:Stmt:=top 32
structure KsOk (N:Nt) (kss:List (List KN)) (n:Nat):Prop where
 sum:(kss.map List.length).sum=n
 all:∀ ks∈kss,∀ k∈ks,OkP N k
theorem KsOk.snoc {N:Nt}{kss:List (List KN)}{a:List KN}{lv seen:LvL}(h:KsOk N kss seen.length)(c:a.Perm (lv.map (·.1)))(ok:∀ p∈lv,OkP N p.1):KsOk N (kss++[a]) (seen++lv).length:=by
 refine⟨?_,λd f k b=>?_⟩
 ·rw[JU,List.sum_append,h.sum,Jb]
  show _+(a.length+0)=_;rw[c.length_eq,Jn,Zc]
 ·rcases Ju.mp f with z|z
  ·exact h.all d z k b
  ·rw[Jd.mp z]at b
   obtain⟨p,e,rfl⟩:=JA.mp (c.mem_iff.mp b);exact ok p e
noncomputable def TellR (H:Hp)(p:Addr)(N:Nt)(most:Nat):Prop:=∃ b c x as a n,H p=some (.tup [.ref b,.ref c,x])/\H b=some (.lst (as.map V.ref))/\RowsK H as a/\KsOk N a n/\n<=most/\as≠[]
noncomputable def iF (P:Program)(w:World):Sp:=λb H Q _=>∃ r fr d c N sm,∃ (moves:List Nat) (most:Nat),b=[.ref r,.ref sm,.int (most:Nat)]/\Nt.Ok N/\NetAt H r fr d c N/\H sm=some (.tup (zV moves))/\(∀ m∈moves,m<N.lanes)/\moves.length<=16/\0<most/\most<=10000 /\
 ∀ p a,Same H a->TellR a p N most->Q (.ref p) a
section
variable {P:Program}{w:World}{K:PySem.W.Frag}{mg:Str->Option Value}{base:Heap}
theorem vq:FnScope ["_law_net","_law_some_here","_law_most","_law_level","_law_met","_law_rows","_law_further","_law_bad","_law_turns","_law_rest","_law_lane","_law_later","_law_end","_law_pair","_law_counts"] ["_law_net","_law_some_here","_law_most"] (zN cW):=by trivial
theorem bJ {f fF fP fM:Addr}{fd dF dP dM:FuncData}(F:Fun K "_law_levels" "_law_levels" cW f fd) (G:Mgs mg) (GD:MgD mg) (UF:Use P w K mg base "_law_first" ["_law_net"] 1 y4 fF dF) (UP:Use P w K mg base "_law_passed" ["_law_net","_law_turns","_law_lane"] 1 (wj false) fP dP) (UM:Use P w K mg base "_law_more" ["_law_counts","_law_lane"] 1 iE fM dM):FnOk P w K mg base CX0 2 f fd ["_law_net","_law_some_here","_law_most"] (iF P w):=by
 refine F.ok vq (λvs H Q E h=>?_) (λhR A outer s H vs Q E hr h=>?_)
 ·obtain⟨r,fr,er,ps,N,sm,moves,most,rfl,_⟩:=h
  rfl
 obtain⟨r,fr,er,ps,N,sm,moves,most,rfl,ok,na,hu,mlt,ml,mp,mb,k⟩:=h;refine⟨_,(@zG _ _ _ _ _ (@r0 _ _ 3 4 _ _ _ _ _ _ _ _ _ _ _ rfl vq.nd rfl rfl (by decide) rfl rfl (@zA _ _ _ _ _ (pB hr.u3 (@zL _ _ _ _ _ _ _ _ _ _ _ _ _ _ _ _ UF.ok hr (by rfl) UF.m UF.kp UF.b .nil zW (@zA _ _ _ _ _ (@qv _ 0 _ _ (by trivial)) zB (by rfl)) (by decide) (by rfl) (by rfl)) (@zS _ _ _ _ _ _ _ _ uH (@zX _ _ _ _ _ (@zA _ _ _ _ _ zE zB (by rfl))) (@zj _ _ _ _ _ _ _ yB (@qv _ 0 _ _ (by trivial)) zE (λ_ _=>rfl)))) (@zA _ _ _ _ _ (pB hr.u3 (@zL _ _ _ _ _ _ _ _ _ _ _ _ _ _ _ _ UF.ok hr (by rfl) UF.m UF.kp UF.b .nil zW (@zA _ _ _ _ _ (@qv _ 0 _ _ (by trivial)) zB (by rfl)) (by decide) (by rfl) (by rfl)) xA) zB (by rfl)) (by rfl)) (by rfl) (by rfl)) (@zG _ _ _ _ _ (@zo _ _ 5 _ _ _ _ vq.nd rfl (.inl rfl) (@yG _ _ _ _ zB) (by rfl) (by trivial)) (@zG _ _ _ _ _ (@iU _ _ _ _ _ _ Ye (@nH _ _ _ _ _ _ _ (@zt _ _ _ _ _ _ _ _ (bC hr.units0) (@qv _ 3 _ _ (by trivial)) qC (yE _)) (@mK _ _ _ _ (@zt _ _ _ _ _ _ _ _ mT (@zM _ _ _ _ _ _ _ _ _ rH (by rfl) G.len JT (@zA _ _ _ _ _ (@qv _ 4 _ _ (by trivial)) zB (by rfl)) (by decide) (by decide) (by rfl) (by rfl)) (@qv _ 2 _ _ (by trivial)) (yE _)))).pt (@zG _ _ _ _ _ (@xh _ _ _ _ (@uh _ _ _ _ _ _ _ _ _ _ _ _ YV Wc Wd xQ (@qv _ 5 _ _ (by trivial)) (@zA _ _ _ _ _ (@zM _ _ _ _ _ _ _ _ _ (tw rfl hr.units) (by rfl) G.sorted (by rfl) (@zA _ _ _ _ _ (@qv _ 3 _ _ (by trivial)) zB (by rfl)) (by decide) (by decide) (by rfl) (by rfl)) zB (by rfl)) (by rfl) (by rfl) (by rfl) (by rfl) (by rfl)) (by rfl)) (@zG _ _ _ _ _ (@r0 _ _ 6 7 _ _ _ _ _ _ _ _ _ _ _ rfl vq.nd rfl rfl (by decide) rfl rfl (@zA _ _ _ _ _ qC (@zA _ _ _ _ _ (@yG _ _ _ _ zB) zB (by rfl)) (by rfl)) (by rfl) (by rfl)) (@zG _ _ _ _ _ (qw (@y7 _ _ _ _ _ _ _ _ Ye rfl (ug (@qv _ 3 _ _ (by trivial))) (@yU _ _ _ _ _ _ rfl (@zQ _ _ _ _ _ (@zP _ _ 8 _ vq.nd rfl (.inl rfl) (by trivial)) (@zQ _ _ _ _ _ (@zP _ _ 9 _ vq.nd rfl (.inl rfl) (by trivial)) yH (by rfl)) (by rfl)) (by rfl) (by rfl)) (@zK _ _ _ (@y7 _ _ _ _ _ _ _ _ Ye rfl (@xk _ _ _ _ (@qv _ 1 _ _ (by trivial))) (@zP _ _ 10 _ vq.nd rfl (.inl rfl) (by trivial)) (@zG _ _ _ _ _ (@yZ _ _ _ _ _ _ (@zL _ _ _ _ _ _ _ _ _ _ _ _ _ _ _ _ UP.ok hr (by rfl) UP.m UP.kp UP.b .nil zW (@zA _ _ _ _ _ (@qv _ 0 _ _ (by trivial)) (@zA _ _ _ _ _ (@qv _ 8 _ _ (by trivial)) (@zA _ _ _ _ _ (@qv _ 10 _ _ (by trivial)) zB (by rfl)) (by rfl)) (by rfl)) (by decide) (by rfl) (by rfl)) (@yU _ _ _ _ _ _ rfl (@zQ _ _ _ _ _ (@zP _ _ 11 _ vq.nd rfl (.inl rfl) (by trivial)) (@zQ _ _ _ _ _ (@zP _ _ 12 _ vq.nd rfl (.inl rfl) (by trivial)) yH (by rfl)) (by rfl)) (by rfl) (by rfl)) (by rfl) (by rfl) (by rfl)) (@zG _ _ _ _ _ (@zo _ _ 13 _ _ _ _ vq.nd rfl (.inl rfl) (@zX _ _ _ _ _ (@zA _ _ _ _ _ (@qv _ 11 _ _ (by trivial)) (@zA _ _ _ _ _ (@zS _ _ _ _ _ _ _ _ xX (@zS _ _ _ _ _ _ _ _ yW (@qv _ 9 _ _ (by trivial)) zE) (@zj _ _ _ _ _ _ _ yB (@qv _ 0 _ _ (by trivial)) zE (λ_ _=>rfl))) zB (by rfl)) (by rfl))) (by rfl) (by trivial)) (@zG _ _ _ _ _ (@zo _ _ 14 _ _ _ _ vq.nd rfl (.inl rfl) (@zL _ _ _ _ _ _ _ _ _ _ _ _ _ _ _ _ UM.ok hr (by rfl) UM.m UM.kp UM.b .nil zW (@zA _ _ _ _ _ (eB hr.u3 (@qv _ 3 _ _ (by trivial)) (@zX _ _ _ _ _ (@zA _ _ _ _ _ (@qv _ 8 _ _ (by trivial)) (@zA _ _ _ _ _ (@qv _ 9 _ _ (by trivial)) zB (by rfl)) (by rfl))) (λ_ _=>rfl)) (@zA _ _ _ _ _ (@qv _ 10 _ _ (by trivial)) zB (by rfl)) (by rfl)) (by decide) (by rfl) (by rfl)) (by rfl) (by trivial)) (@zG _ _ _ _ _ (@yT _ _ _ _ _ _ _ _ (@zt _ _ _ _ _ _ _ _ uj (@qv _ 12 _ _ (by trivial)) (@qv _ 9 _ _ (by trivial)) (yE _)) (@zK _ _ _ (@xh _ _ _ _ (@uh _ _ _ _ _ _ _ _ _ _ _ _ YV Wc Wd xQ (@qv _ 7 _ _ (by trivial)) (@zA _ _ _ _ _ (@qv _ 14 _ _ (by trivial)) zB (by rfl)) (by rfl) (by rfl) (by rfl) (by rfl) (by rfl)) (by rfl))) zp) (@zK _ _ _ (@yT _ _ _ _ _ _ _ _ (@rq _ _ _ _ _ _ (vS hr.u3 (@qv _ 13 _ _ (by trivial)) (@qv _ 4 _ _ (by trivial))) (by rfl)) (@zK _ _ _ (mL hr.u3 (@qv _ 6 _ _ (by trivial)) (@qv _ 13 _ _ (by trivial)) (@zM _ _ _ _ _ _ _ _ _ (n4 rfl hr.units) (by rfl) G.min (by rfl) (@zA _ _ _ _ _ (ii hr.u3 (@qv _ 6 _ _ (by trivial)) (@qv _ 13 _ _ (by trivial)) (@qv _ 14 _ _ (by trivial)) ⟨rfl,rfl,rfl,rfl⟩) (@zA _ _ _ _ _ (@qv _ 14 _ _ (by trivial)) zB (by rfl)) (by rfl)) (by decide) (by decide) (by rfl) (by rfl)) (by rfl))) zp)))))) (by intro _;rfl))) (by intro _;rfl))) (@zG _ _ _ _ _ (@yT _ _ _ _ _ _ _ _ (@zt _ _ _ _ _ _ _ _ (iw hr.units0) (@qv _ 7 _ _ (by trivial)) (@yG _ _ _ _ zB) (yE _)) (@zK _ _ _ (@zU _ _ _ _ (@zX _ _ _ _ _ (@zA _ _ _ _ _ (@qv _ 5 _ _ (by trivial)) (@zA _ _ _ _ _ (@qv _ 4 _ _ (by trivial)) (@zA _ _ _ _ _ (@zM _ _ _ _ _ _ _ _ _ (jZ rfl true hr.units) (by rfl) G.min (by rfl) (@zA _ _ _ _ _ (@qv _ 7 _ _ (by trivial)) zB (by rfl)) (by decide) (by decide) (by rfl) (by rfl)) zB (by rfl)) (by rfl)) (by rfl))))) zp) (@zG _ _ _ _ _ (@xh _ _ _ _ (eA hr.u3 (@qv _ 4 _ _ (by trivial)) (@zr _ _ _ _ _ _ _ _ _ (n5 rfl (Nat.lt_of_le_of_lt (Nat.add_le_add_left (by decide) _) hr.units)) (by rfl) GD.dict (by rfl) (@zA _ _ _ _ _ (ic (@pC _ _ _ _ none _ _ _ _ _ _ ["_law_pair"] [none] rfl (ug (@qv _ 6 _ _ (by trivial))) (CapOk.of (by kernel_rfl)) (λ_ _ _ _ _=>(@zP _ _ 0 _ (show (["_law_pair"]:List Str).Nodup from by decide +kernel) rfl (.inl rfl) (.inr rfl))) (λ_ _ _ _ _=>x9) (λ_ _ _ _ _=>(@zX _ _ _ _ _ (@zA _ _ _ _ _ (@qv _ 0 _ _ (by trivial)) (@zA _ _ _ _ _ xA zB (by rfl)) (by rfl)))) (by intro _;rfl))) zB (by rfl)) (by decide) (by decide) (by rfl) (by rfl)) ⟨rfl,rfl,rfl,rfl⟩) (by rfl)) (@zK _ _ _ (@zo _ _ 3 _ _ _ _ vq.nd rfl (.inl rfl) (@qv _ 6 _ _ (by trivial)) (by rfl) (by trivial))))))))) (@zK _ _ _ (@zU _ _ _ _ (@zX _ _ _ _ _ (@zA _ _ _ _ _ (@qv _ 5 _ _ (by trivial)) (@zA _ _ _ _ _ (@qv _ 4 _ _ (by trivial)) (@zA _ _ _ _ _ qB zB (by rfl)) (by rfl)) (by rfl)))))))),?_⟩;have hO:=ok.l16;have l1:=ok.l1
 let k0:KN:=stK (List.replicate N.forks.length 0) [0]
 refine yA (λDz hy=>?_);refine λdl eh=>?_;have s1:=zC eh (DN P w dl []);refine⟨_,rfl,r,fr,er,ps,N,rfl,ok,na.tups (Tups.of s1),λb0 H1 s2 fB=>?_⟩;have u2:=s1.trans s2;refine⟨by show 1<=sizeLine;decide,λt1 fD=>?_⟩;have s3:=zC fD (.tup [.int 0]);have u3:=u2.trans s3;refine⟨_,rfl,r,_,_,_,rfl,rfl,SqT.of (u3 _ _ na.net),rfl,t1,_,N.lanes,rfl,rfl,zD,by lia,λc0 X s4 h4=>?_⟩;rw[<- List.map_replicate]at h4;have u4:=u3.trans s4;have W:=s4 _ _ (s3 _ _ (s2 _ _ (zD (H:=H) (o:=DN P w dl []) (a:=dl))));have k4:=fB.tups (Tups.of (s3.trans s4));refine⟨b0,k0,rfl,W,k4,λn ba=>?_⟩;replace ba:L2.upd X dl (DN P w dl [(k0,b0,.ref c0)]) n=none:=ba;have s5:Same H (L2.upd X dl (DN P w dl [(k0,b0,.ref c0)])):=λb u e=>by rw[zJ (zH e eh)];exact u4 b u e
 have t5:Tups X (L2.upd X dl (DN P w dl [(k0,b0,.ref c0)])):=λb xs e=>by rw[zJ (yh e W λz=>by cases z)];exact e
 have ei:L2.upd X dl (DN P w dl [(k0,b0,.ref c0)]) dl=some (DN P w dl [(k0,b0,.ref c0)]):=zD;have k5:=k4.tups t5;have c5:=t5 _ _ h4;show df y4 [] E0 _ _ (L2.upd (L2.upd X dl (DN P w dl [(k0,b0,.ref c0)])) n (DN P w n [])) _;generalize L2.upd X dl (DN P w dl [(k0,b0,.ref c0)])=HA at *;have d6:=zC ba (DN P w n []);refine⟨_,rfl,r,fr,er,ps,N,rfl,ok,na.tups (Tups.of (s5.trans d6)),λb1 H3 s6 kb1=>?_⟩;have ed:=s6 _ _ (zD (H:=HA) (o:=DN P w n []) (a:=n));have u6:=d6.trans s6
 have dH:H n=none:=by
  cases e:H n with
  | none=>rfl
  | some o=>rw[s5 _ _ e]at ba;cases ba
 have gP:dl≠n:=zH ei ba;refine⟨b1,k0,rfl,ed,kb1,_,_,rfl,hy _ _ ⟨by show 0<=sizeLine;decide,λJ cb=>?_⟩⟩;replace cb:L2.upd H3 n (DN P w n [(k0,b1,.bl true)]) J=none:=cb;have q7:∀ {b u},HA b=some u->L2.upd H3 n (DN P w n [(k0,b1,.bl true)]) b=some u:=λ{b u} e=>by rw[zJ (zH e ba)];exact u6 b u e
 have t7:Tups H3 (L2.upd H3 n (DN P w n [(k0,b1,.bl true)])):=λb xs e=>by rw[zJ (yh e ed λz=>by cases z)];exact e
 have s7:Same HA (L2.upd H3 n (DN P w n [(k0,b1,.bl true)])):=λb u e=>q7 e;have fT:L2.upd H3 n (DN P w n [(k0,b1,.bl true)]) n=some (DN P w n [(k0,b1,.bl true)]):=zD;have fy:=kb1.tups t7;show vK _ _ _ _ (L2.upd (L2.upd H3 n (DN P w n [(k0,b1,.bl true)])) J (.lst []));generalize L2.upd H3 n (DN P w n [(k0,b1,.bl true)])=HB at *;have s8:=zC cb (.lst []);have sX:=(s5.trans s7).trans s8;have fV:L2.upd HB J (.lst []) J=some (.lst []):=zD;have f5:=s8 _ _ (q7 ei);have fR:=s8 _ _ fT;have fx:=k5.tups (Tups.of (s7.trans s8));have cX:=s8 _ _ (q7 c5);have fk:=fy.tups (Tups.of s8)
 have hh:H J=none:=by
  cases e:H J with
  | none=>rfl
  | some o=>rw[q7 (s5 _ _ e)]at cb;cases cb
 generalize L2.upd HB J (.lst [])=HX at *;clear s8 s7 t7 q7 fT fy u6 s6 ed kb1 d6 c5 k5 ei s5 t5 u4 k4 W h4 s4 u3 s3 fD cb ba u2 s2 fB s1 H1 X H3 HA HB t1
 refine⟨λm σ X=>∃ dl xs ys level seen as a5 v6 v7 v8 v9 v10 v11 T S R,σ=[some (.ref r),some (.ref sm),some (.int (most:Nat)),some (.ref dl),some (.ref n),some (.ref J),v6,v7,v8,v9,v10,v11,T,S,R]/\Same H X/\X dl=some (DN P w dl xs)/\LvE X xs level/\X n=some (DN P w n ys)/\KsIn X ys/\ys.map (·.1)=(seen++level).map (·.1)/\dl≠n/\X J=some (.lst (as.map V.ref))/\RowsK X as a5/\KsOk N a5 seen.length/\(as=[]->seen=[]/\level.length=1)/\J∉as /\
  as.length<=seen.length/\LvNd level/\(∀ p∈level,yw seen p.1=none)/\(∀ p∈level,OkP N p.1/\p.2.length=N.lanes)/\seen.length<=most/\(0<seen.length+level.length)/\level.length<=16*most+1/\most+1<=m+seen.length,⟨most+1,?_⟩,?_⟩
 ·exact⟨dl,_,_,[(k0,List.replicate N.lanes 0)],[],[],[],_,_,_,_,_,_,_,_,_,rfl,sX,f5,⟨λx hx=>by rw[Jd.mp hx];exact fx,.cons ⟨rfl,c0,rfl,cX⟩ .nil⟩,fR,λx hx=>by rw[Jd.mp hx];exact fk,rfl,gP,fV,.nil,⟨rfl,λks h=>(nomatch h)⟩,λ_=>⟨rfl,rfl⟩,JJ,Jc _,JY.mpr ⟨JJ,Zp⟩,λp D=>rfl,λp D=>by rw[Jd.mp D];exact⟨wS ok,ZL⟩,JN _,Nat.one_pos,by show 1<=_;lia,Jc _⟩
 clear fV f5 fR fx cX fk sX eh gP HX b0 b1 c0 dl;rintro m σ X ⟨dl,xs,ys,level,seen,as,a5,v6,v7,v8,v9,v10,v11,T,S,R,rfl,s2,ej,ea,ee,fv,ek,hJ,U,dT,d9,nz,fa,hS,nd,new,c1,e4,pos,hM,em⟩
 have e0:(!xs.isEmpty) = !level.isEmpty:=by
  have:=ea.len;cases xs<;>cases level<;>first|rfl|cases this
 have yl:ys.length=seen.length+level.length:=by
  have:=JS List.length ek
  rwa [Jn,Jn,Jb]at this
 obtain⟨m,rfl⟩:∃ m',m=m'+1:=⟨m-1,by lia⟩;refine⟨_,rfl,λe he=>?_⟩;have sE:=zC he (DN P w e []);refine⟨dl,e,xs,rfl,rfl,sE _ _ ej,zD,_,rfl,?_⟩;rw[e0];by_cases le:level=[]
 ·rw[le]
  refine zx (zx ?_);refine⟨_,rfl,_,rfl,by show 3<=sizeLine;decide,λp D=>?_⟩;have s3:=zC D (.tup [.ref J,.ref n,.non]);have u3:=sE.trans s3;refine k p _ (s2.trans u3) ?_;exact⟨J,n,.non,as,a5,_,zD,u3 _ _ U,dT.same u3,d9,e4,λz=>by have:=(nz z).2;rw[le]at this;cases this⟩
 rw[show (!level.isEmpty)=true by cases level;exact absurd rfl le;rfl];refine yJ ?_;refine⟨_,rfl,n,ys,rfl,.inl (sE _ _ ee),_,rfl,_,_,rfl,rfl,_,rfl,?_⟩;by_cases mo:most<seen.length+level.length
 ·rw[Jr (by rw[yl];lia)]
  refine zx ?_;refine⟨_,rfl,_,rfl,by show 3<=sizeLine;decide,λp D=>?_⟩;have s3:=zC D (.tup [.ref J,.ref n,.non]);have u3:=sE.trans s3;refine k p _ (s2.trans u3) ?_;exact⟨J,n,.non,as,a5,_,zD,u3 _ _ U,dT.same u3,d9,e4,λz=>by obtain⟨a,b⟩:=nz z;rw[a,b]at mo;replace mo:most<0+1:=mo;lia⟩
 rw[Jx (by rw[yl];lia)];refine yJ ⟨_,λhK H' hN=>⟨m,Nat.lt_succ_self _,hN⟩,?_⟩;have lp:0<level.length:=List.length_pos_iff.mpr le;have d3:=sE _ _ ej;have cH:=ea.keep sE;have eb:=sE _ _ ee;have fl:=fv.tups (Tups.of sE);have bu:=sE _ _ U;have rkE:=dT.same sE;have uE:=s2.trans sE;show vK _ _ _ _ (L2.upd X e (DN P w e []));generalize L2.upd X e (DN P w e [])=HE at *;clear sE s2 ej ea ee fv U dT he e X;refine yA (λDy hz=>?_);refine⟨_,rfl,.inl ⟨rfl,_,SqL.of bu⟩,_,rfl,dl,xs,rkH HE,rfl,d3,cH.len_le (by lia),iQ cH (λp D=>((c1 p D).1).st ok),λq v hq pm so=>?_⟩;obtain⟨cs,js,rfl,kj,pj,sj⟩:=nA cH (λp D=>((c1 p D).1).st ok) pm so;have s3:=zC hq (.lst (cs.map V.ref));have fW:=s3 _ _ bu;refine⟨J,_,_,rfl,rfl,fW,by rw[Jn,JH];lia,?_⟩;have lq:q≠J:=λz=>by rw[z,bu]at hq;cases hq
 have q4:∀ {b:Addr}{u:HO},HE b=some u->b≠J->L2.upd (L2.upd HE q (.lst (cs.map V.ref))) J (.lst (as.map V.ref++[.ref q])) b=some u:=λh ne=>by rw[zJ ne];exact s3 _ _ h
 have t4:Tups HE (L2.upd (L2.upd HE q (.lst (cs.map V.ref))) J (.lst (as.map V.ref++[.ref q]))):=λb ws h=>q4 h (yh h bu λz=>by cases z);have fL:L2.upd (L2.upd HE q (.lst (cs.map V.ref))) J (.lst (as.map V.ref++[.ref q])) q=some (.lst (cs.map V.ref)):=by rw[zJ lq];exact zD
 have eg:L2.upd (L2.upd HE q (.lst (cs.map V.ref))) J (.lst (as.map V.ref++[.ref q])) J=some (.lst ((as++[q]).map V.ref)):=by rw[JU];exact zD
 have W:=q4 d3 (yh d3 bu λz=>by cases z);have b7:=q4 eb (yh eb bu λz=>by cases z);have s4:Same H (L2.upd (L2.upd HE q (.lst (cs.map V.ref))) J (.lst (as.map V.ref++[.ref q]))):=λb u h=>q4 (uE b u h) (zH h hh);have e6:RowsK (L2.upd (L2.upd HE q (.lst (cs.map V.ref))) J (.lst (as.map V.ref++[.ref q]))) (as++[q]) (a5++[js]):=Paired.snoc (rkE.keep t4 λa ha ws h=>q4 h λz=>fa (z ▸ ha)) ⟨cs,fL,kj.tups t4⟩;have e7:KsOk N (a5++[js]) (seen++level).length:=d9.snoc pj λp D=>(c1 p D).1
 have ew:J∉as++[q]:=λz=>by
  rcases Ju.mp z with y|y
  ·exact fa y
  ·exact lq (Jd.mp y).symm
 have cP:=cH.tups t4;have fo:=fl.tups t4;refine hz _ _ ?_;show vK _ _ _ _ (L2.upd (L2.upd HE q (.lst (cs.map V.ref))) J (.lst (as.map V.ref++[.ref q])));generalize L2.upd (L2.upd HE q (.lst (cs.map V.ref))) J (.lst (as.map V.ref++[.ref q]))=H4 at *;clear q4 t4 fL fW s3 d3 cH eb fl bu rkE uE hq pm so kj pj sj;refine yA (λDx hC=>?_);refine λo ho=>⟨by show 0<=sizeLine;decide,λl hl=>⟨_,_,rfl,?_⟩⟩;replace ho:H4 o=none:=ho;replace hl:L2.upd H4 o (DN P w o []) l=none:=hl;have s5:=zC ho (DN P w o []);have s6:=zC hl (.lst []);have u6:=s5.trans s6;have ol:o≠l:=λz=>by rw[<- z,zD]at hl;cases hl
 have f3:H4 l=none:=by rwa [zJ ol.symm]at hl
 have et:dl≠o:=zH W ho;have eu:dl≠l:=zH W f3;have gs:n≠o:=zH b7 ho;have gd:L2.upd (L2.upd H4 o (DN P w o [])) l (.lst []) o=some (DN P w o []):=by rw[zJ ol];exact zD
 have gi:L2.upd (L2.upd H4 o (DN P w o [])) l (.lst []) l=some (.lst []):=zD;refine hC _ _ ?_;refine yA (λDw hD=>?_);refine⟨_,rfl,dl,xs,rfl,u6 _ _ W,λob=>?_⟩
 let I:Nat->LAcc:=λi=>(level.take i).foldl (laS N ((seen++level).map (·.1)) moves) ⟨[],[]⟩
 have ll:xs.length=level.length:=cP.len;refine rE (P:=P) (w:=w) (d:=dl) (o:=ob) (xs:=xs) (λi σ H6=>(∃ v8 v9 v10 v11 T S R,σ=[some (.ref r),some (.ref sm),some (.int (most:Nat)),some (.ref dl),some (.ref n),some (.ref J),some (.ref o),some (.ref l),v8,v9,v10,v11,T,S,R])/\But dl H4 H6/\H6 dl=some (.frz ob (DN P w dl xs))/\∃ v fs,H6 o=some (DN P w o v)/\LvE H6 v (I i).on/\H6 l=some (.lst (fs.map V.ref))/\RowsAt H6 fs (I i).fl/\AccL N N.lanes (i*moves.length) (I i)) ?_ (λi σ H6 z=>z.2.2.1) ?_ ?_
 ·refine⟨⟨_,_,_,_,_,_,_,rfl⟩,λb u h ne=>?_,zD,[],[],?_,LvE.nil,?_,.nil,⟨λp D=>(nomatch D),λp D=>(nomatch D),JN _,JN _⟩⟩
  ·rw[zJ ne];exact u6 b u h
  ·rw[zJ et.symm];exact gd
  ·rw[zJ eu.symm];exact gi
 ·rintro i p σ H6 D ⟨⟨v8,v9,v10,v11,T,S,R,rfl⟩,bt,c3,v,fs,d0,cx,d1,rws,c6⟩
  have tb:∀ {H7:Hp},But dl H4 H7->Tups H4 H7:=λB c ws h=>B c _ h λz=>by
   rw[z,W]at h;cases h
  have il:i<level.length:=by rw[<- ll];exact(Ja.mp D).1
  obtain⟨c,ca,ep,kb,hI,hc⟩:=cP.at_ D;have pin:(p.1,c)∈level:=JB ep;obtain⟨d8,cl⟩:=c1 _ pin;replace cl:c.length=N.lanes:=cl
  have vx:yb xs p.1=some (.ref ca):=by
   rcases ng cP.pr p.1 with ⟨_,z⟩|⟨_,_,z,_,_⟩
   ·rw[tL nd pin]at z;cases z
   ·have hn:(xs.map (·.1)).Nodup:=by rw[mf cP.pr];exact nd
    rw[<- hI];exact mD hn (JB D)
  obtain⟨ts,rest,cf,tl,bits,rl⟩:=d8;have d8:OkP N p.1:=⟨ts,rest,cf,tl,bits,rl⟩;rw[cf]at kb;obtain⟨t0,el,fK⟩:=w8 kb;replace el:H4 p.2.1=some (.tup [.ref t0,.int (rest:Nat)]):=el;refine⟨p.2.1,_,rfl,SqT.of (tb bt _ _ el),rfl,_,_,rfl,_,_,rfl,rfl,?_⟩;have dt:=s4 _ _ hu;refine⟨_,rfl,sm,rfl,⟨_,SqT.of (tb bt _ _ dt)⟩,?_⟩
  have g6:I (i+1)=laS N ((seen++level).map (·.1)) moves (I i) (p.1,c):=by
   show List.foldl _ _ (level.take (i+1))=_;rw[<- Yd il,List.foldl_append,show level[i]=(p.1,c) from (Ja.mp ep).2];rfl
  generalize hA:I i=a0 at *
  let C:Nat->LAcc:=λj=>(moves.take j).foldl (la1 N ((seen++level).map (·.1)) p.1 c) a0
  have fin:C moves.length=I (i+1):=by rw[g6];show List.foldl _ _ (moves.take moves.length)=_;rw[Ya];rfl
  have e8:(zV moves).length=moves.length:=Jn _;refine qK (K:=K) (a:=sm) (xs:=zV moves) (λj σ H7=>(∃ v10 v11 T S R,σ=[some (.ref r),some (.ref sm),some (.int (most:Nat)),some (.ref dl),some (.ref n),some (.ref J),some (.ref o),some (.ref l),some (.ref t0),some (.int (rest:Nat)),v10,v11,T,S,R])/\But dl H4 H7/\H7 dl=some (.frz ob (DN P w dl xs))/\∃ v fs,H7 o=some (DN P w o v)/\LvE H7 v (C j).on/\H7 l=some (.lst (fs.map V.ref))/\RowsAt H7 fs (C j).fl/\AccL N N.lanes (i*moves.length+j) (C j)) ?_ (λj σ H7 _ z=>SqT.of (tb z.2.1 _ _ dt)) ?_ ?_
  ·exact⟨⟨_,_,_,_,_,rfl⟩,bt,c3,v,fs,d0,cx,d1,rws,c6⟩
  ·rintro j x σ H7 hx ⟨⟨v10,v11,T,S,R,rfl⟩,ck,c4,a3,cc,bq,a9,bB,a4,M⟩
   rw[zV,JZ]at hx;obtain⟨lane,es,rfl⟩:=Y6.mp hx;have jl:j<moves.length:=(Ja.mp es).1;have lt:=mlt lane (JB es)
   have ct:C (j+1)=la1 N ((seen++level).map (·.1)) p.1 c (C j) lane:=by
    show List.foldl _ _ (moves.take (j+1))=_;rw[<- Yd jl,List.foldl_append,show moves[j]=lane from (Ja.mp es).2];rfl
   have b5:=M.go ok (ks:=(seen++level).map (·.1)) (s:=p.1) (k:=lane) d8 cl;rw[<- ct]at b5
   have hQ:i*moves.length+j<=160000:=by
    have h1:(i+1)*moves.length<=level.length*moves.length:=Nat.mul_le_mul_right _ il;have h2:level.length*moves.length<=10000*16:=Nat.mul_le_mul (by lia) ml;rw[Nat.add_mul,Nat.one_mul]at h1;lia
   have hL:=M.onl;have hP:=M.fll;generalize hB:C j=a1 at *;have t7:=tb ck;refine lS (λD0 f9=>?_);refine yA (λDa hG=>?_);refine⟨_,rfl,_,rfl,_,rfl,r,fr,er,ps,N,t0,ts,lane,rfl,ok,(na.tups (Tups.of s4)).tups t7,t7 _ _ fK,tl,bits,lt,λp1 tr H8 s8 fO fC=>?_⟩;refine⟨p1,_,rfl,SqT.of fO,rfl,_,_,rfl,_,_,rfl,rfl,hG _ _ ?_⟩;refine yA (λDb hF=>?_);have gV:=ck.trans (But.of (l:=dl) s8);refine⟨_,rfl,_,rfl,_,_,rfl,rfl,_,rfl,r,_,_,_,rfl,rfl,SqT.of (tb gV _ _ (s4 _ _ na.net)),rfl,_,_,rfl,rfl,by lia,by show 2<=sizeLine;decide,λT2 f7=>?_⟩;have s9:=zC f7 (.tup [.ref tr,.int (((rest:Nat)+1)%(N.lanes:Nat))]);have dk:=eC (N:=N) (ts:=ts) (r:=rest) (lane:=lane) (t:=tr) (zD (H:=H8) (a:=T2) (o:=.tup [.ref tr,.int (((rest:Nat)+1)%(N.lanes:Nat))])) (s9 _ _ fC);refine hF _ _ ?_;refine yA (λDc hE=>?_);refine⟨_,rfl,_,rfl,_,rfl,by show 2<=sizeLine;decide,λT3 f6=>?_⟩;have O:=zC f6 (.tup [.ref t0,.int (rest:Nat)]);have a7:=(s8.trans s9).trans O;have b4:=ck.trans (But.of (l:=dl) a7);have tt:=tb b4;have bo:=dk.tups (Tups.of O)
   have kx:NKey (L2.upd (L2.upd H8 T2 (.tup [.ref tr,.int (((rest:Nat)+1)%(N.lanes:Nat))])) T3 (.tup [.ref t0,.int (rest:Nat)])) p.1 T3:=by
    rw[cf];exact tU (is:=[((rest:Nat):Int)]) zD (tt _ _ fK)
   refine⟨dl,T3,xs,p.1,_,rfl,rfl,⟨.inr ⟨ob,a7 _ _ c4⟩,cP.ks.tups tt⟩,kx,vx,?_⟩;have dK:=a7 _ _ c4;have dr:=a7 _ _ bq;have dd:=a9.keep a7;have dB:=a7 _ _ bB;have c8:=a4.tups (Tups.of a7);have eN:=tt _ _ hc;show j8 _ _ _ (L2.upd (L2.upd H8 T2 (.tup [.ref tr,.int (((rest:Nat)+1)%(N.lanes:Nat))])) T3 (.tup [.ref t0,.int (rest:Nat)])) _;generalize L2.upd (L2.upd H8 T2 (.tup [.ref tr,.int (((rest:Nat)+1)%(N.lanes:Nat))])) T3 (.tup [.ref t0,.int (rest:Nat)])=HC at *;clear a7 O s9 dk s8 gV f7 f6 fO fC kx ck c4 bq a9 bB a4 t7 tt;refine⟨_,rfl,ca,c,lane,rfl,eN,by simp_all,by lia,λq cm a8 b3=>?_⟩;have dO:=b4.trans (But.of (l:=dl) a8);have dn:=a8 _ _ dr;have c9:=dd.keep a8;have a6:=a8 _ _ dB;have b2:=c8.tups (Tups.of a8);have dD:=a8 _ _ dK;have dR:=bo.tups (Tups.of a8);clear b4 dr dd dB c8 dK bo a8;refine hE _ _ ?_;refine yA (λD1 hH=>?_);have e5:(yz c lane).length=N.lanes:=by rw[pH];exact cl
   have tail:∀ L ax,But dl H4 L->L dl=some (.frz ob (DN P w dl xs))->L o=some (DN P w o a3)->LvE L a3 a1.on->L l=some (.lst (ax.map V.ref))->RowsAt L ax (C (j+1)).fl->NKey L (xB N p.1 lane) T2->L q=some (.tup ((yz c lane).map V.int))->D1.nx [some (.ref r),some (.ref sm),some (.int (most:Nat)),some (.ref dl),some (.ref n),some (.ref J),some (.ref o),some (.ref l),some (.ref t0),some (.int (rest:Nat)),some (.int (lane:Nat)),some (.ref tr),some (.int ((passE N ts lane:Nat):Int)),some (.ref T2),some (.ref q)] L:=by
    intro L ax d4 dC ao Y dy c7 ab dx;refine hH _ _ ?_;have ey:L n=some (DN P w n ys):=d4 _ _ b7 hJ.symm;refine⟨_,rfl,_,rfl,n,T2,ys,_,rfl,rfl,⟨.inl ey,fo.tups (tb d4)⟩,ab,_,rfl,?_⟩;rw[dE,ek]
    cases hk:nv ((seen++level).map (·.1)) (xB N p.1 lane) with
    | true =>
     refine zx ?_;have e1:(C (j+1)).on=a1.on:=by rw[ct];exact Jg hk
     exact f9 _ _ ⟨⟨_,_,_,_,_,rfl⟩,d4,dC,a3,ax,ao,e1 ▸ Y,dy,c7,b5⟩
    | false =>
     refine yJ ?_
     have e1:(C (j+1)).on=wX a1.on (xB N p.1 lane) (wB ((yw a1.on (xB N p.1 lane)).getD (yz c lane)) (yz c lane)):=by
      rw[ct];exact Je (by rw[hk];decide)
     refine⟨_,rfl,o,rfl,⟨_,.inl ao⟩,_,rfl,_,rfl,T2,a3,_,rfl,⟨.inl ao,Y.ks⟩,ab,?_⟩
     have le2:∃ g sr,(yb a3 (xB N p.1 lane)).getD (.ref q)=.ref g/\(yw a1.on (xB N p.1 lane)).getD (yz c lane)=sr/\L g=some (.tup (sr.map V.int))/\sr.length=N.lanes:=by
      rcases ng Y.pr (xB N p.1 lane) with ⟨y1,y2⟩|⟨g,sr,y1,y2,y3⟩
      ·exact⟨q,yz c lane,by rw[y1];rfl,by rw[y2];rfl,dx,e5⟩
      ·exact⟨g,sr,by rw[y1];rfl,by rw[y2];rfl,y3,(M.on _ (tM y2)).2⟩
     obtain⟨g,sr,g1,g2,g3,g4⟩:=le2;obtain⟨lx,h,p1,p2⟩:=gL g3 dx g4 e5;rw[g1];refine⟨_,rfl,_,_,1,vw L,rfl,by decide,lx,?_⟩;rw[p1];refine⟨_,rfl,_,rfl,o,T2,a3,_,rfl,rfl,ao,Y.ks,ab,by rw[Y.len,JH];grind,?_⟩;have tq:Tups L (L2.upd L o (DN P w o (yx a3 (xB N p.1 lane) T2 (.ref h)))):=λb ws z=>by rw[zJ (yh z ao λy=>by cases y)];exact z
     refine f9 _ _ ⟨⟨_,_,_,_,_,rfl⟩,λb u z ne=>?_,?_,_,ax,zD,?_,?_,c7.tups tq,b5⟩
     ·rw[zJ (zH z ho)];exact d4 b u z ne
     ·rw[zJ et];exact dC
     ·rw[e1,g2];exact(Y.put ab p2).tups tq
     ·rw[zJ ol.symm];exact dy
   refine⟨_,rfl,_,rfl,rfl,_,rfl,?_⟩;show if (!decide (V.int ((passE N ts lane:Nat):Int)=V.int (rest:Nat)))=true then _ else _;have aT:NKey cm (xB N p.1 lane) T2:=by rw[cf];exact dR
   by_cases z:passE N ts lane=rest
   ·rw[Jx (by rw[z])]
    have e2:(C (j+1)).fl=a1.fl:=by
     rw[ct];exact Je (by rw[cf,vd];exact λy=>y z)
    exact zx (tail cm cc dO dD dn c9 a6 (e2 ▸ b2) aT b3)
   ·rw[Jr (λy=>z (by injection y with y;lia))]
    have e2:(C (j+1)).fl=a1.fl++[yz c lane]:=by
     rw[ct];exact Jg (by rw[cf,vd];exact z)
    refine yJ ?_;refine⟨_,rfl,.inl ⟨rfl,_,SqL.of a6⟩,_,rfl,l,_,_,rfl,rfl,a6,by rw[Jn,Yc b2,JH];lia,?_⟩;have lq:∀ {b:Addr}{u:HO},cm b=some u->b≠l->L2.upd cm l (.lst (cc.map V.ref++[.ref q])) b=some u:=λh ne=>by rw[zJ ne];exact h
    have tq:Tups cm (L2.upd cm l (.lst (cc.map V.ref++[.ref q]))):=λb ws h=>lq h (yh h a6 λy=>by cases y);refine tail _ (cc++[q]) (λb u h ne=>lq (dO b u h ne) (zH h f3)) (lq dD eu) (lq dn ol) (c9.tups tq) ?_ ?_ (aT.tups tq) (tq _ _ b3)
    ·rw[JU];exact zD
    ·rw[e2];exact Paired.snoc (b2.tups tq) (tq _ _ b3)
  ·rintro σ H7 ⟨⟨v10,v11,T,S,R,rfl⟩,ck,c4,a3,cc,bq,a9,bB,a4,M⟩
   have eS:C (zV moves).length=I (i+1):=by rw[e8];exact fin
   rw[eS]at a9 a4 M;refine⟨⟨_,_,_,_,_,_,_,rfl⟩,ck,c4,a3,cc,bq,a9,bB,a4,?_⟩;rw[e8]at M;rw[Nat.add_mul,Nat.one_mul];exact M
 ·rintro σ H6 ⟨⟨v8,v9,v10,v11,T,S,R,rfl⟩,bt,c3,v,fs,d0,cx,d1,rws,c6⟩
  have e1:I xs.length=laL N ((seen++level).map (·.1)) moves level:=by show List.foldl _ _ (level.take xs.length)=_;rw[ll,Ya];rfl
  rw[e1]at cx rws c6
  clear_value I
  clear e1 I;refine⟨dl,ob,xs,xs,u6 _ _ W,c3,hD _ _ ?_⟩
  have sT:Same H4 (L2.upd H6 dl (DN P w dl xs)):=λb u h=>by
   by_cases z:b=dl
   ·rw[z]at h ⊢;rw[W]at h;rw[<- h];exact zD
   ·rw[zJ z];exact bt b u h z
  have tz:Tups H6 (L2.upd H6 dl (DN P w dl xs)):=λb ws h=>by rw[zJ (yh h c3 λz=>by cases z)];exact h
  have bq:L2.upd H6 dl (DN P w dl xs) o=some (DN P w o v):=by rw[zJ et.symm];exact d0
  have bB:L2.upd H6 dl (DN P w dl xs) l=some (.lst (fs.map V.ref)):=by rw[zJ eu.symm];exact d1
  have a9:=cx.tups tz;have a4:=rws.tups tz;show vK _ _ _ _ (L2.upd H6 dl (DN P w dl xs));generalize L2.upd H6 dl (DN P w dl xs)=H7 at *;clear tz cx rws d1 d0 c3 bt u6 gi gd s5 s6 hl H6;have e9:=ai (N:=N) (seen:=seen++level) moves level;have eo:=Yc a4;refine⟨_,rfl,by show 0<=sizeLine;decide,λe he=>?_⟩;have s8:=zC he (.lst []);have u8:=sT.trans s8;have ef:=s8 _ _ bB;have c2:=s8 _ _ bq;have b6:=a9.keep s8;have d7:=a4.tups (Tups.of s8);refine⟨l,e,_,rfl,rfl,SqL.of ef,SqL.of zD,_,rfl,?_⟩;by_cases fe:(laL N ((seen++level).map (·.1)) moves level).fl=[]
  ·have f0:fs=[]:=by rw[fe]at eo;exact List.length_eq_zero_iff.mp eo
   rw[f0];refine zx ?_;have fN:(vG (yS N) (seen++level) moves level).fl=[]:=e9.1 ▸ fe;have on:=e9.2 fe;have nw:=eM (step:=yS N) (seen:=seen++level) (moves:=moves) (Ok:=OkP N) level λp D m hm t h=>qg ok (c1 p D).1 h;have fw:=gB (yS N) (seen++level) moves level;have f2:level.length*moves.length<=level.length*16:=Nat.mul_le_mul_left _ ml;rw[on]at b6;have g5:∀ p∈(vG (yS N) (seen++level) moves level).on,p.2.length=N.lanes:=λp D=>(c6.on p (on ▸ D)).2;show vK _ _ _ _ (L2.upd H7 e (.lst []));have ec:=u8 _ _ b7;have hj:=fo.tups (Tups.of u8);have o8:H4 o=none:=ho;generalize L2.upd H7 e (.lst [])=H8 at *;clear s8 ef d7 he bB bq a9 a4 sT;refine⟨_,rfl,n,rfl,⟨_,.inl ec⟩,_,rfl,o,v,rfl,c2,λdW l2 U=>?_⟩;have b8:But o H8 (L2.upd H8 o (.frz dW (DN P w o v))):=λb u h ne=>by rw[zJ ne];exact h
   have sl:=zC U (.lst []);have zl:v.length=(vG (yS N) (seen++level) moves level).on.length:=b6.len;have tz:∀ {Z:Hp},But o H8 Z->Tups H8 Z:=λB b ws h=>B b _ h λz=>by rw[z,c2]at h;cases h
   have fb:H8 l2=none:=by
    have ne:l2≠o:=λz=>by rw[z,zD]at U;cases U
    rwa [zJ ne]at U
   refine aj (P:=P) (w:=w) (d:=o) (o:=dW) (xs:=v) (λi acc σ Z=>(∃ v0,σ=[v0])/\But o H8 Z/\Z l2=some (.lst acc)/\Z o=some (.frz dW (DN P w o v))/\Paired (PrH Z) acc (yg (v.take i))) ⟨⟨_,rfl⟩,b8.trans (But.of sl),zD,sl _ _ zD,.nil⟩ (λi acc σ Z z=>⟨z.2.2.1,z.2.2.2.1⟩) ?_ ?_
   ·rintro i acc σ Z p D ⟨⟨v0,rfl⟩,b9,h9,bS,pr⟩
    have il:i<v.length:=(Ja.mp D).1;have tk:v.take (i+1)=v.take i++[p]:=by rw[Yr il,(Ja.mp D).2]
    have al:=Yc pr;have hT:(yg (v.take i)).length<=i:=by unfold yg;rw[Jn,Js];lia
    refine⟨_,rfl,by show 2<=sizeLine;decide,λt ht=>?_⟩;have O:=zC ht (.tup [.ref p.2.1,.bl true]);have en:=O _ _ h9;refine⟨en,by rw[JH];lia,nx il ⟨⟨_,rfl⟩,λb u h ne=>?_,zD,?_,?_⟩⟩
    ·rw[zJ (zH h fb)];exact O _ _ (b9 b u h ne)
    ·rw[zJ (yh (O _ _ bS) en λz=>by cases z)];exact O _ _ bS
    ·have dS:Tups _ (L2.upd (L2.upd Z t (.tup [.ref p.2.1,.bl true])) l2 (.lst (acc++[.ref t]))):=Tups.lst en
     have kz:NKey H8 p.1 p.2.1:=b6.ks p (JB D);rw[tk];unfold yg;rw[JU];refine Paired.snoc (xF (λx y ⟨a,h1,h2,h3⟩=>⟨a,h1,dS _ _ (O _ _ h2),(h3.tups (Tups.of O)).tups dS⟩) pr) ⟨t,rfl,dS _ _ zD,((kz.tups (tz b9)).tups (Tups.of O)).tups dS⟩
   ·rintro acc σ Z ⟨⟨v0,rfl⟩,b9,h9,bS,pr⟩
    rw[Ya]at pr;refine⟨o,dW,v,v,c2,bS,?_⟩
    have sB:Same H8 (L2.upd Z o (DN P w o v)):=λb u h=>by
     by_cases z:b=o
     ·rw[z]at h ⊢;rw[c2]at h;rw[<- h];exact zD
     ·rw[zJ z];exact b9 b u h z
    have tB:Tups Z (L2.upd Z o (DN P w o v)):=λb ws h=>by rw[zJ (yh h bS λz=>by cases z)];exact h
    have hv:L2.upd Z o (DN P w o v) l2=some (.lst acc):=by rw[zJ (yh h9 bS λz=>by cases z)];exact h9
    have g0:Paired (PrH (L2.upd Z o (DN P w o v))) acc (yg v):=xF (λx y ⟨a,h1,h2,h3⟩=>⟨a,h1,tB _ _ h2,h3.tups tB⟩) pr;show cE _ (L2.upd Z o (DN P w o v)) _;generalize L2.upd Z o (DN P w o v)=HB at *;clear tB b9 h9 bS pr Z b8 sl fb U tz;refine⟨l2,acc,yg v,rfl,hv,g0,λdq d2=>?_⟩;replace d2:HB dq=none:=d2;have zk:(yg v).map (·.1)=((vG (yS N) (seen++level) moves level).on).map (·.1):=by rw[om,mf b6.pr]
    have e3:((yg v).map (·.1)).Nodup:=by rw[zk];exact nw.nd
    have m0:xL [] (yg v)=yg v:=sV e3 λk hk z=>(nomatch z)
    have m1:xL ys (yg v)=ys++yg v:=sV e3 λk1 hk z=>by
     rw[zk]at hk;obtain⟨p,D,rfl⟩:=JA.mp hk;rw[ek]at z;have:=tK.mpr z;rw[nw.new p D]at this;cases this
    rw[m0];have sC:=zC d2 (DN P w dq (yg v));have uC:=sB.trans sC;have fS:=uC _ _ ec;have fm:=hj.tups (Tups.of uC);have ff:=j3 (b6.ks.tups (Tups.of uC));have tl:(yg v).length=v.length:=Jn _;have hb:n≠dq:=zH (sB _ _ ec) d2;refine⟨dq,ys,yg v,rfl,hb,fS,fm,⟨.inl zD,ff⟩,by rw[JH];lia,.inl (λz=>by rw[z]at yl;simp at yl;simp_all),?_⟩;rw[m1];have hs:=uC _ _ c2;have hg:=b6.keep uC;have d5:Tups (L2.upd HB dq (DN P w dq (yg v))) (L2.upd (L2.upd HB dq (DN P w dq (yg v))) n (DN P w n (ys++yg v))):=λb ws h=>by rw[zJ (yh h fS λz=>by cases z)];exact h
    have dV:∀ {b:Addr}{u:HO},H4 b=some u->b≠n->L2.upd (L2.upd HB dq (DN P w dq (yg v))) n (DN P w n (ys++yg v)) b=some u:=λh ne=>by rw[zJ ne];exact uC _ _ (u8 _ _ h)
    refine⟨_,rfl,?_⟩;refine⟨o,v,ys++yg v,_,seen++level,as++[q],a5++[js],_,_,_,_,_,_,_,_,_,rfl,λb u h=>dV (s4 b u h) (zH h dH),?_,hg.tups d5,zD,?_,?_,gs.symm,?_,?_,e7,λz=>absurd (List.append_eq_nil_iff.mp z).2 (by intro y;cases y),ew,?_,nw.nd,nw.new,λp D=>⟨nw.ok p D,g5 p D⟩,by rw[Jb];simp_all,?_,by lia,by rw[Jb];lia⟩
    ·show L2.upd _ n (DN P w n (ys++yg v)) o=_
     rw[zJ gs.symm];exact hs
    ·exact λx hx=>by
      rcases Ju.mp hx with z|z
      ·exact(fm x z).tups d5
      ·exact(ff x z).tups d5
    ·rw[JU,ek,zk];exact JU.symm
    ·exact dV eg (yh eg b7 λz=>by cases z)
    ·exact e6.keep (λb ws h=>dV h (yh h b7 λz=>by cases z)) λa _ ws h=>dV h (yh h b7 λz=>by cases z)
    ·rw[Jb,Jb];show as.length+1<=_;lia
    ·rw[Jb];lia
  ·have fp:0<(fs.map V.ref).length:=by
    rw[Jn,eo];exact List.length_pos_iff.mpr fe
   rw[show (!(fs.map V.ref).isEmpty)=true by
    cases fs with
    | nil=>exact absurd fp (by simp)
    | cons a b=>rfl]
   refine yJ ?_;obtain⟨g,g1,g2⟩:=gw d7 fe;refine⟨_,rfl,_,rfl,_,rfl,l,_,1,vw _,rfl,SqL.of ef,fp,by decide,mI d7 c6.fl,?_⟩;rw[g1];refine⟨by show 3<=sizeLine;decide,λp D=>?_⟩;have s9:=zC D (.tup [.ref J,.ref n,.ref g]);refine k p _ ((s4.trans u8).trans s9) ?_;exact⟨J,n,.ref g,as++[q],a5++[js],_,zD,s9 _ _ (u8 _ _ eg),e6.same (u8.trans s9),e7,by rw[Jb];lia,λz=>absurd (List.append_eq_nil_iff.mp z).2 (by intro y;cases y)⟩
noncomputable abbrev iO:Stmt:=top 20
noncomputable abbrev iL:Stmt:=top 21
theorem scK:FnScope ["_law_left_here","_law_many","_law_digit"] ["_law_left_here","_law_many"] (zN iL):=by trivial
theorem eH {f:Addr}{fd:FuncData}(F:Fun K "_law_pick" "_law_pick" iL f fd):FnOk P w K mg base CX0 1 f fd ["_law_left_here","_law_many"] xN:=by
 refine F.ok scK (λy H Q E h=>?_) (λL A outer s H y Q E M h=>?_)
 ·obtain⟨l,m,rfl,_⟩:=h
  rfl
 obtain⟨l,m,rfl,g,z,S,k⟩:=h;obtain⟨a,b,c,d,r,D,C⟩:=S.ex;refine⟨_,(@zG _ _ _ _ _ (@yT _ _ _ _ _ _ _ _ (@zt _ _ _ _ _ _ _ _ iz (@zj _ _ _ _ _ _ _ zw (@qv _ 0 _ _ (by trivial)) zE (λ_ _=>rfl)) zE (yE _)) (@zG _ _ _ _ _ (@zo _ _ 2 _ _ _ _ scK.nd rfl (.inl rfl) (@zS _ _ _ _ _ _ _ _ xX (@zj _ _ _ _ _ _ _ zw (@qv _ 0 _ _ (by trivial)) zE (λ_ _=>rfl)) (@qv _ 1 _ _ (by trivial))) (by rfl) (by trivial)) (@zG _ _ _ _ _ (@yZ _ _ _ _ _ _ (@zS _ _ _ _ _ _ _ _ vF (@zj _ _ _ _ _ _ _ zw (@qv _ 0 _ _ (by trivial)) zE (λ_ _=>rfl)) (@qv _ 1 _ _ (by trivial))) (@wo _ _ _ _ _ _ _ (@qv _ 0 _ _ (by trivial)) zE xV (by intro _;rfl)) (by rfl) (by rfl) (by rfl)) (@zK _ _ _ (@zU _ _ _ _ (@qv _ 2 _ _ (by trivial)))))) zp) (@zG _ _ _ _ _ (@yZ _ _ _ _ _ _ (@zS _ _ _ _ _ _ _ _ yW (@zj _ _ _ _ _ _ _ zw (@qv _ 0 _ _ (by trivial)) zE (λ_ _=>rfl)) zE) (@wo _ _ _ _ _ _ _ (@qv _ 0 _ _ (by trivial)) zE xV (by intro _;rfl)) (by rfl) (by rfl) (by rfl)) (@zG _ _ _ _ _ (@yZ _ _ _ _ _ _ (@zS _ _ _ _ _ _ _ _ xX (@zS _ _ _ _ _ _ _ _ yW (@zS _ _ _ _ _ _ _ _ yW (@zS _ _ _ _ _ _ _ _ vU (@zj _ _ _ _ _ _ _ zw (@qv _ 0 _ _ (by trivial)) zE (λ_ _=>rfl)) zE) zE) (@zj _ _ _ _ _ _ _ zw (@qv _ 0 _ _ (by trivial)) zE (λ_ _=>rfl))) zE) (@wo _ _ _ _ _ _ _ (@qv _ 0 _ _ (by trivial)) zE xV (by intro _;rfl)) (by rfl) (by rfl) (by rfl)) (@zK _ _ _ (@zU _ _ _ _ (@zS _ _ _ _ _ _ _ _ xX (@zS _ _ _ _ _ _ _ _ vF (@zS _ _ _ _ _ _ _ _ xX (@zS _ _ _ _ _ _ _ _ vU (@zj _ _ _ _ _ _ _ zw (@qv _ 0 _ _ (by trivial)) zE (λ_ _=>rfl)) (@zj _ _ _ _ _ _ _ zw (@qv _ 0 _ _ (by trivial)) zE (λ_ _=>rfl))) zE) zE) (@qv _ 1 _ _ (by trivial)))))))),?_⟩
 have fin:∀ (x:Int) (i:Hp),0<=x->x<m->Pk3 i l->But l H i->Q (.int x) i:=λx i u t G J=>by
  obtain⟨v,rfl⟩:=Int.eq_ofNat_of_zero_le u;exact k v i t G J
 refine⟨_,rfl,l,_,_,_,rfl,rfl,SqL.of d,rfl,_,_,rfl,rfl,_,rfl,oB (λq=>?_) (λq=>?_)⟩
 ·refine⟨_,rfl,l,_,_,_,rfl,rfl,SqL.of d,rfl,_,rfl,_,_,rfl,rfl,g,?_⟩
  refine⟨_,rfl,l,_,_,_,rfl,rfl,SqL.of d,rfl,_,rfl,_,_,rfl,rfl,⟨g,z⟩,_,rfl,l,_,_,0,rfl,rfl,d,rfl,_,rfl,?_⟩;exact fin _ _ (ZW _ (by lia)) (W5 _ g) ⟨a / m,b,c,zD,Int.ediv_nonneg r (by lia),D,C⟩ λx o e ne=>by rw[zJ ne];exact e
 ·refine⟨_,rfl,l,_,_,_,rfl,rfl,SqL.of d,rfl,_,_,rfl,rfl,_,rfl,l,_,_,2,rfl,rfl,d,rfl,?_⟩
  have n:L2.upd H l (.lst ([V.int a,V.int b,V.int c].set 2 (V.int (c+1)))) l=some (.lst [.int a,.int b,.int (c+1)]):=zD;have I:But l H (L2.upd H l (.lst ([V.int a,V.int b,V.int c].set 2 (V.int (c+1))))):=λx o e ne=>by rw[zJ ne];exact e
  show vK _ _ _ _ (L2.upd H l (.lst ([V.int a,V.int b,V.int c].set 2 (V.int (c+1)))));generalize L2.upd H l (.lst ([V.int a,V.int b,V.int c].set 2 (V.int (c+1))))=H1 at *;refine⟨_,rfl,l,_,_,_,rfl,rfl,SqL.of n,rfl,_,_,rfl,rfl,.inr ⟨by decide,by decide⟩,_,_,rfl,rfl,_,rfl,l,_,_,_,rfl,rfl,SqL.of n,rfl,_,_,rfl,rfl,_,_,rfl,rfl,(by show (0:Int)<2147483647;decide),_,rfl,l,_,_,1,rfl,rfl,n,rfl,?_⟩;have B:0<=(b*48271+12345+(c+1))%2147483647:=ZW _ (by decide);have N:(b*48271+12345+(c+1))%2147483647<2147483647:=W5 _ (by decide);generalize p:L2.upd H1 l (HO.lst ([V.int a,V.int b,V.int (c+1)].set 1 (V.int ((b*48271+12345+(c+1))%2147483647))))=H2;have j:H2 l=some (.lst [.int a,.int ((b*48271+12345+(c+1))%2147483647),.int (c+1)]):=by rw[<- p];exact zD
  refine⟨_,rfl,l,_,_,_,rfl,rfl,SqL.of j,rfl,_,rfl,l,_,_,_,rfl,rfl,SqL.of j,rfl,_,_,rfl,rfl,.inl ⟨by grind,by grind⟩,_,_,rfl,rfl,(by show (0:Int)<1999999973;decide),_,_,rfl,rfl,⟨by decide,by decide⟩,_,rfl,_,_,rfl,rfl,g,?_⟩;exact fin _ _ (ZW _ (by lia)) (W5 _ g) ⟨a,_,_,j,r,B,by grind⟩ λx o e ne=>by rw[<- p,zJ ne];exact I x o e ne
theorem scL:FnScope ["_law_script","_law_k","_law_cell","_law_digits"] ["_law_script","_law_k"] (zN iO):=by trivial
theorem eK {f:Addr}{fd:FuncData}(F:Fun K "_law_left" "_law_left" iO f fd) (G:Mgs mg):FnOk P w K mg base CX0 1 f fd ["_law_script","_law_k"] (rS K):=by
 refine F.ok scL (λn H Q E h=>?_) (λy A outer s H n Q E I h=>?_)
 ·obtain⟨a,ns,k,rfl,_⟩:=h
  rfl
 obtain⟨a,ns,k,rfl,e,v,C,B,q⟩:=h;refine⟨_,(@zG _ _ _ _ _ (@zo _ _ 2 _ _ _ _ scL.nd rfl (.inl rfl) zE (by rfl) (by trivial)) (@zG _ _ _ _ _ (@yT _ _ _ _ _ _ _ _ (@zt _ _ _ _ _ _ _ _ iz (@zM _ _ _ _ _ _ _ _ _ zT (by rfl) G.len JT (@zA _ _ _ _ _ (@qv _ 0 _ _ (by trivial)) zB (by rfl)) (by decide) (by decide) (by rfl) (by rfl)) zE (yE _)) (@zK _ _ _ (@zo _ _ 2 _ _ _ _ scL.nd rfl (.inl rfl) (@zj _ _ _ _ _ _ _ zw (@qv _ 0 _ _ (by trivial)) (@zS _ _ _ _ _ _ _ _ xX (@qv _ 1 _ _ (by trivial)) (@zM _ _ _ _ _ _ _ _ _ zT (by rfl) G.len JT (@zA _ _ _ _ _ (@qv _ 0 _ _ (by trivial)) zB (by rfl)) (by decide) (by decide) (by rfl) (by rfl))) (λ_ _=>rfl)) (by rfl) (by trivial))) zp) (@zG _ _ _ _ _ (@zo _ _ 3 _ _ _ _ scL.nd rfl (.inl rfl) (@zS _ _ _ _ _ _ _ _ vU (@zS _ _ _ _ _ _ _ _ xX (@zM _ _ _ _ _ _ _ _ _ oV (by rfl) G.abs (by rfl) (@zA _ _ _ _ _ (@qv _ 2 _ _ (by trivial)) zB (by rfl)) (by decide) (by decide) (by rfl) (by rfl)) (@zS _ _ _ _ _ _ _ _ nL zE zE)) (@zr _ _ _ _ _ _ _ _ _ je (by rfl) G.int (by rfl) (@zA _ _ _ _ _ (@uG _ _ _ _ _ _ _ _ aV (@zM _ _ _ _ _ _ _ _ _ oV (by rfl) G.abs (by rfl) (@zA _ _ _ _ _ (@qv _ 2 _ _ (by trivial)) zB (by rfl)) (by decide) (by decide) (by rfl) (by rfl)) (@zS _ _ _ _ _ _ _ _ nL zE zE) (yE _)) zB (by rfl)) (by decide) (by decide) (by rfl) (by rfl))) (by rfl) (by trivial)) (@zK _ _ _ (@zU _ _ _ _ (@yG _ _ _ _ (@zA _ _ _ _ _ (@qv _ 3 _ _ (by trivial)) (@zA _ _ _ _ _ (@zS _ _ _ _ _ _ _ _ xX (@zS _ _ _ _ _ _ _ _ vU (@zS _ _ _ _ _ _ _ _ yW (@zS _ _ _ _ _ _ _ _ yW (@zS _ _ _ _ _ _ _ _ xX (@qv _ 2 _ _ (by trivial)) zE) (@zS _ _ _ _ _ _ _ _ vU (@zS _ _ _ _ _ _ _ _ vU zE (@qv _ 1 _ _ (by trivial))) (@qv _ 1 _ _ (by trivial)))) zE) zE) zE) (@zA _ _ _ _ _ zE zB (by rfl)) (by rfl)) (by rfl)))))))),?_⟩;have d:(ns.map V.int).length=ns.length:=Jn _;refine zab ?_;refine qJ (λσ m=>m=H/\∃ x:Int,σ=[some (.ref a),some (.int k),some (.int x),none]) ?_ λD c _=>?_
 ·rintro σ m ⟨rfl,x,rfl⟩
  have o:=ZW ((x%2305843009213693951+7919*k*k+11)*48271) (show (2147483647:Int)≠0 by decide);have J:=W5 ((x%2305843009213693951+7919*k*k+11)*48271) (show (0:Int)<2147483647 by decide);have u:∀ b:Bool,(0:Int)<=(if b=true then (1:Int) else 0):=by decide
  have t:∀ b:Bool,-(2 ^ 64)<(if b=true then (1:Int) else 0)/\(if b=true then (1:Int) else 0)<2 ^ 64:=by decide
  refine⟨_,rfl,_,rfl,_,_,rfl,rfl,⟨by decide,by decide,by decide⟩,_,_,rfl,rfl,(by show (0:Int)<10 ^ 60;decide),?_⟩;refine⟨_,rfl,_,rfl,_,_,rfl,rfl,⟨by decide,by decide,by decide⟩,_,_,rfl,rfl,.inr ⟨_,rfl,_,_,rfl,rfl,.inr (t _),?_⟩⟩;refine⟨_,rfl,_,rfl,_,_,rfl,rfl,(by show (0:Int)<2305843009213693951;decide),_,rfl,_,_,rfl,rfl,.inl ⟨by decide,by decide⟩,_,rfl,_,_,rfl,rfl,.inr ⟨by lia,by lia⟩,_,_,rfl,rfl,_,_,rfl,rfl,_,_,rfl,rfl,.inr ⟨by decide,by decide⟩,_,_,rfl,rfl,(by show (0:Int)<2147483647;decide),(by show 3<=sizeLine;decide),λl g=>?_⟩;refine q l _ g (zC g _) ⟨_,_,_,zD,Int.mul_nonneg (ZW _ (by decide)) (u _),o,by grind⟩
 refine⟨_,rfl,a,_,rfl,.inl e,_,_,rfl,rfl,_,rfl,oB (λz=>?_) (λz=>?_)⟩
 ·have np:0<ns.length:=by
   have:=Ys z;rw[d]at this;simp_all
  refine⟨_,rfl,_,rfl,_,rfl,a,_,rfl,.inl e,_,_,rfl,rfl,by rw[d];simp_all,?_⟩;have r:=ZW k (show ((ns.length:Nat):Int)≠0 by lia);have p:=W5 k (show (0:Int)<(ns.length:Nat) by simp_all);rw[d];obtain⟨j,i⟩:=Int.eq_ofNat_of_zero_le r;rw[i]at p;exact⟨a,_,k%(ns.length:Nat),_,rfl,rfl,e,(by rw[i];exact tV (by simp_all)),c _ _ ⟨rfl,_,rfl⟩⟩
 ·exact c _ _ ⟨rfl,0,rfl⟩
noncomputable abbrev qp:Stmt:=top 22
noncomputable def uU (m:Nat):Sp:=λh H Q _=>∃ g f a b,h=[.ref g,.ref f]/\H g=some (.lst (zV a))/\H f=some (.lst (zV b))/\a.length=2 ^ m/\b.length=2 ^ m/\m<=8/\∀ c lf le e d,Same H d->H lf=none->d c=some (.tup [.ref lf,.ref le])->d lf=some (.lst e)->Prs d e (Bn.mergeN m a b).1->d le=some (.lst (zV (Bn.mergeN m a b).2))->Q (.ref c) d
theorem nX (row:List Nat)(i:Nat)(h:i<=row.length):yq (zV row) none (some (i:Int))=zV (row.take i):=by
 rw[vI _ _ (by rw[zv];exact h)];unfold zV;rw[List.map_take]
theorem nY (row:List Nat)(i:Nat)(h:i<=row.length):yq (zV row) (some (i:Int)) none=zV (row.drop i):=by
 rw[oQ _ _ (by rw[zv];exact h)];unfold zV;rw[List.map_drop]
theorem ma (off:Nat)(a:List Nat):by2 off (zV a)=zV (by2 off a):=by unfold zV;exact dY _ off a
theorem gK (a b:List Nat):zV a++zV b=zV (a++b):=by unfold zV;exact(JU ..).symm
theorem nZ (row:List Nat)(i:Nat)(h:i<row.length):(zV row)[i]?=some (.int ((row.getD i 0:Nat):Int)):=by
 unfold zV;rw[JZ,J9 h,Jz,J9 h];rfl
theorem wd:∀ (a b:List Nat) (j:Nat),j<a.length->j<b.length->yY (a.take (j+1)) (b.take (j+1))=yY (a.take j) (b.take j)++[a.getD j 0,b.getD j 0]
 | x::a,y::b,0,_,_=>by rw[Zx,Zx,W3,W3];rfl
 | x::a,y::b,j+1,ha,hb=>by
  rw[Zx,Zx,Zx,Zx];show x::y::yY (a.take (j+1)) (b.take (j+1))=x::y::(yY (a.take j) (b.take j)++[a.getD j 0,b.getD j 0]);rw[wd a b j (by simpa using ha) (by simpa using hb)]
theorem qX {a b:List Nat}{j:Nat}(ha:j<a.length)(hb:j<b.length):(a.zip b).take (j+1)=(a.zip b).take j++[(a.getD j 0,b.getD j 0)]:=by
 rw[Yr (by rw[ZA];lia),List.getElem_zip,Jz,J9 ha,Jz,J9 hb];rfl
theorem qE {a:List Nat}{j:Nat}{x:V}(h:(zV a)[j]?=some x):j<a.length/\x=.int ((a.getD j 0:Nat):Int):=by
 have b:j<a.length:=by rw[<- zv a];exact(Ja.mp h).1
 rw[nZ a j b]at h;exact⟨b,(Jt h).symm⟩
theorem qk:FnScope ["_law_one","_law_other","_law_forks","_law_first_here","_law_more_here","_law_second","_law_ends","_law_x","_law_y"] ["_law_one","_law_other"] (zN qp):=by trivial
theorem pK {f:Addr}{fd:FuncData}(F:Fun K "_law_merger" "_law_merger" qp f fd) (G:Mgs mg) (bS:Binds K fd ["_law_one","_law_other"] []) (mS:mg "_law_merger" = some (.ref f)) (n:Nat)
  (GS:FnOk P w K mg base CX0 n f fd ["_law_one","_law_other"] (λvs H Q E=>∃ m,n=m+1/\uU m vs H Q E)):FnOk P w K mg base CX0 (n+1) f fd ["_law_one","_law_other"] (uU n):=by
 have D:Use P w K mg base "_law_merger" ["_law_one","_law_other"] n (λvs H Q E=>∃ m,n=m+1/\uU m vs H Q E) f fd:=⟨GS,bS,F.kp,mS⟩;refine F.ok qk (λvs H Q E h=>?_) (λcH A outer s H vs Q E hr h=>?_)
 ·obtain⟨L,U,a,b,rfl,_⟩:=h
  rfl
 obtain⟨L,U,a,b,rfl,h1,h2,al,bl,bu,k⟩:=h;refine⟨_,(@zG _ _ _ _ _ (@yT _ _ _ _ _ _ _ _ (@zt _ _ _ _ _ _ _ _ xv (@zM _ _ _ _ _ _ _ _ _ zT (by rfl) G.len JT (@zA _ _ _ _ _ (@qv _ 0 _ _ (by trivial)) zB (by rfl)) (by decide) (by decide) (by rfl) (by rfl)) zE (yE _)) (@zK _ _ _ (@zU _ _ _ _ (@zX _ _ _ _ _ (@zA _ _ _ _ _ (@yG _ _ _ _ (@zA _ _ _ _ _ (@zX _ _ _ _ _ (@zA _ _ _ _ _ (@zj _ _ _ _ _ _ _ zw (@qv _ 0 _ _ (by trivial)) zE (λ_ _=>rfl)) (@zA _ _ _ _ _ (@zj _ _ _ _ _ _ _ zw (@qv _ 1 _ _ (by trivial)) zE (λ_ _=>rfl)) zB (by rfl)) (by rfl))) zB (by rfl))) (@zA _ _ _ _ _ (@yG _ _ _ _ (@zA _ _ _ _ _ (@zj _ _ _ _ _ _ _ zw (@qv _ 0 _ _ (by trivial)) zE (λ_ _=>rfl)) (@zA _ _ _ _ _ (@zj _ _ _ _ _ _ _ zw (@qv _ 1 _ _ (by trivial)) zE (λ_ _=>rfl)) zB (by rfl)) (by rfl))) zB (by rfl)) (by rfl))))) zp) (@zG _ _ _ _ _ (@yZ _ _ _ _ _ _ (@zL _ _ _ _ _ _ _ _ _ _ _ _ _ _ _ _ D.ok hr (by rfl) D.m D.kp D.b .nil zW (@zA _ _ _ _ _ (@qD _ _ _ _ _ _ _ _ _ (@qv _ 0 _ _ (by trivial)) yD (@zi _ _ _ zE)) (@zA _ _ _ _ _ (@qD _ _ _ _ _ _ _ _ _ (@qv _ 1 _ _ (by trivial)) (@zi _ _ _ zE) (@zi _ _ _ zE)) zB (by rfl)) (by rfl)) (by decide) (by rfl) (by rfl)) (@yU _ _ _ _ _ _ rfl (@zQ _ _ _ _ _ (@zP _ _ 2 _ qk.nd rfl (.inl rfl) (by trivial)) (@zQ _ _ _ _ _ (@zP _ _ 3 _ qk.nd rfl (.inl rfl) (by trivial)) yH (by rfl)) (by rfl)) (by rfl) (by rfl)) (by rfl) (by rfl) (by rfl)) (@zG _ _ _ _ _ (@yZ _ _ _ _ _ _ (@zL _ _ _ _ _ _ _ _ _ _ _ _ _ _ _ _ D.ok hr (by rfl) D.m D.kp D.b .nil zW (@zA _ _ _ _ _ (@qD _ _ _ _ _ _ _ _ _ (@qv _ 0 _ _ (by trivial)) (@zi _ _ _ zE) (@zi _ _ _ zE)) (@zA _ _ _ _ _ (@qD _ _ _ _ _ _ _ _ _ (@qv _ 1 _ _ (by trivial)) yD (@zi _ _ _ zE)) zB (by rfl)) (by rfl)) (by decide) (by rfl) (by rfl)) (@yU _ _ _ _ _ _ rfl (@zQ _ _ _ _ _ (@zP _ _ 4 _ qk.nd rfl (.inl rfl) (by trivial)) (@zQ _ _ _ _ _ (@zP _ _ 5 _ qk.nd rfl (.inl rfl) (by trivial)) yH (by rfl)) (by rfl)) (by rfl) (by rfl)) (by rfl) (by rfl) (by rfl)) (@zG _ _ _ _ _ (@r0 _ _ 2 6 _ _ _ _ _ _ _ _ _ _ _ rfl qk.nd rfl rfl (by decide) rfl rfl (@zA _ _ _ _ _ (@zS _ _ _ _ _ _ _ _ xn (@qv _ 2 _ _ (by trivial)) (@qv _ 4 _ _ (by trivial))) (@zA _ _ _ _ _ (@yG _ _ _ _ zB) zB (by rfl)) (by rfl)) (by rfl) (by rfl)) (@zG _ _ _ _ _ (@y7 _ _ _ _ _ _ _ _ Ye rfl (@iZ _ _ _ _ _ _ _ _ _ true true rfl G.zip (@zA _ _ _ _ _ (@qv _ 3 _ _ (by trivial)) (@zA _ _ _ _ _ (@qv _ 5 _ _ (by trivial)) zB (by rfl)) (by rfl)) (by rfl) (by rfl)) (@yU _ _ _ _ _ _ rfl (@zQ _ _ _ _ _ (@zP _ _ 7 _ qk.nd rfl (.inl rfl) (by trivial)) (@zQ _ _ _ _ _ (@zP _ _ 8 _ qk.nd rfl (.inl rfl) (by trivial)) yH (by rfl)) (by rfl)) (by rfl) (by rfl)) (@zG _ _ _ _ _ (@xh _ _ _ _ (@uh _ _ _ _ _ _ _ _ _ _ _ _ YV Wc Wd xQ (@qv _ 2 _ _ (by trivial)) (@zA _ _ _ _ _ (@zX _ _ _ _ _ (@zA _ _ _ _ _ (@qv _ 7 _ _ (by trivial)) (@zA _ _ _ _ _ (@qv _ 8 _ _ (by trivial)) zB (by rfl)) (by rfl))) zB (by rfl)) (by rfl) (by rfl) (by rfl) (by rfl) (by rfl)) (by rfl)) (@zK _ _ _ (@xh _ _ _ _ (@uh _ _ _ _ _ _ _ _ _ _ _ _ YV PySem.F.slot_list_extend PySem.F.type_list_extend vV (@qv _ 6 _ _ (by trivial)) (@zA _ _ _ _ _ (@yG _ _ _ _ (@zA _ _ _ _ _ (@qv _ 7 _ _ (by trivial)) (@zA _ _ _ _ _ (@qv _ 8 _ _ (by trivial)) zB (by rfl)) (by rfl))) zB (by rfl)) (by rfl) (by rfl) (by rfl) (by rfl) (by rfl)) (by rfl)))) (by intro _;rfl)) (@zK _ _ _ (@zU _ _ _ _ (@zX _ _ _ _ _ (@zA _ _ _ _ _ (@qv _ 2 _ _ (by trivial)) (@zA _ _ _ _ _ (@qv _ 6 _ _ (by trivial)) zB (by rfl)) (by rfl)))))))))),?_⟩;have na:=zv a;have nb:=zv b;have p8:2 ^ n<=2 ^ 8:=Z4 (by decide) bu;have e8:2 ^ 8=256:=rfl;refine⟨_,rfl,L,_,rfl,.inl (SqL.of h1),rfl,_,rfl,?_⟩
 cases n with
 | zero =>
  have a9:a.length=1:=al;have cm:b.length=1:=bl;rw[Jx (show V.int (((zV a).length:Nat):Int)=V.int 1 by rw[na,a9];rfl)];obtain⟨x,rfl⟩:=List.length_eq_one_iff.mp a9;obtain⟨y,rfl⟩:=List.length_eq_one_iff.mp cm;refine yJ ⟨_,rfl,L,_,0,_,rfl,rfl,SqL.of h1,rfl,_,rfl,U,_,0,_,rfl,rfl,SqL.of h2,rfl,(by show 2<=sizeLine;decide),λt ht=>⟨(by show 1<=sizeLine;decide),λlf hf=>?_⟩⟩;have Z:=zC ht (.tup [.int x,.int y]);have Y:=zC hf (.lst [.ref t]);have u2:=Z.trans Y;refine⟨_,rfl,L,_,0,_,rfl,rfl,SqL.of (u2 _ _ h1),rfl,_,rfl,U,_,0,_,rfl,rfl,SqL.of (u2 _ _ h2),rfl,(by show 2<=sizeLine;decide),λle he=>⟨(by show 2<=sizeLine;decide),λc hc=>?_⟩⟩;have X:=zC he (.lst [.int x,.int y]);have J:=zC hc (.tup [.ref lf,.ref le])
  exact k c lf le [.ref t] _ ((u2.trans X).trans J) (wJ Z hf) (zZ hc _) (J _ _ (X _ _ (zZ hf _))) ⟨⟨t,rfl,J _ _ (X _ _ (Y _ _ (zZ ht _)))⟩,trivial⟩ (J _ _ (zZ he _))
 | succ m =>
  obtain⟨a0,a1⟩:=vJ al;obtain⟨b0,b1⟩:=vJ bl;have pw:2 ^ (m+1)=2 ^ m*2:=Zr ..;have p0:=ZD (n:=m);rw[Jr (show ¬ V.int (((zV a).length:Nat):Int)=V.int 1 by intro z;injection z with z;lia)];refine zx ⟨_,rfl,2,rfl,rfl,0,L,_,.inl ⟨rfl,rfl⟩,rfl,SqL.of h1,λq1 a6=>?_⟩;rw[ma];have Z:=zC a6 (.lst (zV (by2 0 a)));refine⟨_,rfl,1,rfl,2,rfl,rfl,1,U,_,.inr ⟨rfl,rfl⟩,rfl,SqL.of (Z _ _ h2),λq2 a5=>?_⟩;rw[ma];have Y:=zC a5 (.lst (zV (by2 1 b)));refine⟨m,rfl,q1,q2,by2 0 a,by2 1 b,rfl,Y _ _ (zZ a6 _),zZ a5 _,a0,b1,by lia,λc3 bB i N H3 X _ b9 b6 ax b7=>?_⟩;have u3:=(Z.trans Y).trans X;refine⟨c3,_,rfl,SqT.of b9,rfl,_,_,rfl,_,_,rfl,rfl,?_⟩;refine⟨_,rfl,1,rfl,2,rfl,rfl,1,L,_,.inr ⟨rfl,rfl⟩,rfl,SqL.of (u3 _ _ h1),λq4 a4=>?_⟩;rw[ma];have J:=zC a4 (.lst (zV (by2 1 a)));refine⟨_,rfl,2,rfl,rfl,0,U,_,.inl ⟨rfl,rfl⟩,rfl,SqL.of (J _ _ (u3 _ _ h2)),λq5 a3=>?_⟩;rw[ma];have s5:=zC a3 (.lst (zV (by2 0 b)));refine⟨m,rfl,q4,q5,by2 1 a,by2 0 b,rfl,s5 _ _ (zZ a4 _),zZ a3 _,a1,b0,by lia,λc6 aT g M H6 s6 _ b8 b5 ao R=>?_⟩;have u6:=(J.trans s5).trans s6;refine⟨c6,_,rfl,SqT.of b8,rfl,_,_,rfl,_,_,rfl,rfl,?_⟩;obtain⟨xl,xf⟩:=xR m _ _ a0 b1;obtain⟨yl,yf⟩:=xR m _ _ a1 b0;have bd:=(w6 m (by lia)).2;have cx:=ax.len;have ct:=ao.len;have O:=u3.trans u6;have B:=u6 _ _ b7;refine⟨_,rfl,_,rfl,bB,aT,_,_,rfl,rfl,u6 _ _ b6,b5,by rw[JH];lia,λd p=>⟨(by show 0<=sizeLine;decide),λu l=>⟨_,_,rfl,?_⟩⟩⟩;have I:=zC p (.lst (N++M));have W:=zC l (.lst []);have a8:d≠u:=zH (zZ p (.lst (N++M))) l;have bo:=(Prs.app (ax.tups (Tups.of u6)) ao).tups (Tups.of (I.trans W));have a7:H d=none:=wJ O p;have b4:H u=none:=wJ (O.trans I) l;generalize hF:(Bn.mergeN m (by2 0 a) (by2 1 b)).2=fst at *;generalize hS:(Bn.mergeN m (by2 1 a) (by2 0 b)).2=snd at *;have e3:=W _ _ (I _ _ B);have e6:=W _ _ (I _ _ R);have n3:i≠d:=zH B p;have n6:g≠d:=zH R p;have bt:i≠u:=zH (I _ _ B) l;have bq:g≠u:=zH (I _ _ R) l;refine⟨_,rfl,_,rfl,i,g,_,_,rfl,SqL.of e3,SqL.of e6,?_⟩;refine lC (K:=K) (b1:=true) (b2:=true) (a1:=i) (a2:=g) (xs:=zV fst) (ys:=zV snd) (by rw[zv,zv,xl,yl]) (λj σ C=>(∃ v7 v8,σ=[some (.ref L),some (.ref U),some (.ref d),some (.ref i),some (.ref aT),some (.ref g),some (.ref u),v7,v8])/\Same H C/\C i=some (.lst (zV fst))/\C g=some (.lst (zV snd))/\(∃ r,C d=some (.lst r)/\Prs C r ((Bn.mergeN m (by2 0 a) (by2 1 b)).1++(Bn.mergeN m (by2 1 a) (by2 0 b)).1++(fst.zip snd).take j))/\C u=some (.lst (zV (yY (fst.take j) (snd.take j))))) ?_ (λj σ C _ z=>⟨SqL.of z.2.2.1,SqL.of z.2.2.2.1⟩) ?_ ?_
  ·refine⟨⟨_,_,rfl⟩,(O.trans I).trans W,e3,e6,⟨N++M,W _ _ (zZ p _),?_⟩,zZ l _⟩
   rw[W3,Yt];exact bo
  ·rintro j x y T σ C hx hy hT ⟨⟨v7,v8,rfl⟩,s9,e3,e6,⟨r,h7,v⟩,h8⟩
   obtain⟨j1,rfl⟩:=qE hx;obtain⟨j2,rfl⟩:=qE hy;have pl:=v.len;rw[Jb,Jb,Js,ZA]at pl;have sT:=zC hT (.tup [.int ((fst.getD j 0:Nat):Int),.int ((snd.getD j 0:Nat):Int)]);refine⟨T,_,rfl,SqT.of zD,rfl,_,_,rfl,_,_,rfl,rfl,?_⟩;refine⟨_,rfl,.inl ⟨rfl,_,SqL.of (sT _ _ h7)⟩,_,rfl,_,rfl,(by show 2<=sizeLine;decide),λt ht=>?_⟩;have st:=zC ht (.tup [.int ((fst.getD j 0:Nat):Int),.int ((snd.getD j 0:Nat):Int)]);have ut:=sT.trans st;refine⟨d,r,_,rfl,rfl,ut _ _ h7,by rw[JH];lia,?_⟩;have b3:=zZ ht (.tup [.int ((fst.getD j 0:Nat):Int),.int ((snd.getD j 0:Nat):Int)]);have cc:=ut _ _ h7;have cb:=ut _ _ h8;have ck:=ut _ _ e3;have cf:=ut _ _ e6;have ba:=s9.trans ut;have ab:=v.tups (Tups.of ut);generalize L2.upd (L2.upd C T (.tup [.int ((fst.getD j 0:Nat):Int),.int ((snd.getD j 0:Nat):Int)])) t (.tup [.int ((fst.getD j 0:Nat):Int),.int ((snd.getD j 0:Nat):Int)])=H9 at *;have tq:=Tups.lst (ys:=r++[.ref t]) cc;have S:L2.upd H9 d (.lst (r++[.ref t])) u=some (.lst (zV (yY (fst.take j) (snd.take j)))):=by rw[zJ a8.symm];exact cb
   refine⟨_,rfl,.inl ⟨rfl,_,SqL.of S⟩,_,rfl,_,rfl,(by show 2<=sizeLine;decide),λq hq=>?_⟩;have sq:=zC hq (.lst [.int ((fst.getD j 0:Nat):Int),.int ((snd.getD j 0:Nat):Int)]);have tl:=xS (fst.take j) (snd.take j) (by rw[Js,Js];lia);rw[Js]at tl;refine⟨u,q,_,_,rfl,rfl,sq _ _ S,zZ hq _,by rw[zv,JH,tl];show _+2<=_;lia,?_⟩;have n8:∀ {c:Addr}{o:HO},L2.upd H9 d (.lst (r++[.ref t])) c=some o->c≠u->L2.upd (L2.upd (L2.upd H9 d (.lst (r++[.ref t]))) q (.lst [.int ((fst.getD j 0:Nat):Int),.int ((snd.getD j 0:Nat):Int)])) u (.lst (zV (yY (fst.take j) (snd.take j))++[.int ((fst.getD j 0:Nat):Int),.int ((snd.getD j 0:Nat):Int)])) c=some o:=λe ne=>by rw[zJ ne];exact sq _ _ e
   refine⟨⟨_,_,rfl⟩,λc o e=>n8 (by rw[zJ (zH e a7)];exact ba c o e) (zH e b4),n8 (by rw[zJ n3];exact ck) bt,n8 (by rw[zJ n6];exact cf) bq,⟨r++[.ref t],n8 zD a8,?_⟩,?_⟩
   ·rw[qX j1 j2,<- Y2]
    have tz:Tups (L2.upd H9 d (.lst (r++[.ref t]))) _:=λc xs e=>n8 e (yh e S (λz=>by cases z));exact(Prs.add (f:=(fst.getD j 0,snd.getD j 0)) (tq _ _ b3) (ab.tups tq)).tups tz
   ·rw[wd fst snd j j1 j2]
    have e:zV (yY (fst.take j) (snd.take j)++[fst.getD j 0,snd.getD j 0])=zV (yY (fst.take j) (snd.take j))++[.int ((fst.getD j 0:Nat):Int),.int ((snd.getD j 0:Nat):Int)]:=by rw[<- gK];rfl
    rw[e];exact zD
  ·rintro σ C ⟨⟨v7,v8,rfl⟩,s9,e3,e6,⟨r,h7,v⟩,h8⟩
   refine⟨_,rfl,_,rfl,(by show 2<=sizeLine;decide),λc hc=>?_⟩;have sc:=zC hc (.tup [.ref d,.ref u]);have eN:Bn.mergeN (m+1) a b=((Bn.mergeN m (by2 0 a) (by2 1 b)).1++(Bn.mergeN m (by2 1 a) (by2 0 b)).1++fst.zip snd,yY fst snd):=by rw[<- hF,<- hS];rfl
   refine k c d u r _ (s9.trans sc) a7 (zZ hc _) (sc _ _ h7) ?_ ?_
   ·rw[eN]
    rw[JR (by rw[zv,ZA];simp_all)]at v;exact v.tups (Tups.of sc)
   ·rw[eN]
    rw[JR (by rw[zv];exact Jc _),JR (by rw[zv];simp_all)]at h8;exact sc _ _ h8
theorem mW {f:Addr}{fd:FuncData}(F:Fun K "_law_merger" "_law_merger" qp f fd) (G:Mgs mg) (b:Binds K fd ["_law_one","_law_other"] []) (a:mg "_law_merger" = some (.ref f)):∀ n:Nat,FnOk P w K mg base CX0 (n+1) f fd ["_law_one","_law_other"] (uU n)
 | 0=>pK F G b a 0 ⟨λvs H Q E ⟨m,h,_⟩=>by simp_all,λA outer s H args us vs Q E _ _ _ _ ⟨m,h,_⟩=>by simp_all⟩
 | m+1=>pK F G b a (m+1) ((mW F G b a m).imp λvs H Q E ⟨c,h,q⟩=>by cases h;exact q)
noncomputable abbrev wG:Sp:=λa H Q E=>∃ m,m<=4/\uU m a H Q E
theorem kW {f:Addr}{fd:FuncData}(F:Fun K "_law_merger" "_law_merger" qp f fd) (G:Mgs mg) (b:Binds K fd ["_law_one","_law_other"] []) (a:mg "_law_merger" = some (.ref f)):FnOk P w K mg base CX0 5 f fd ["_law_one","_law_other"] wG :=
 FnOk.any 4 λm c=>(mW F G b a m).mono (by simp_all)
structure Few (l f:Nat) (N:Nt):Prop where
 ok:N.Ok
 ln:N.lanes<=l
 fk:N.forks.length<=f
noncomputable abbrev cn:Stmt:=top 27
noncomputable def iH:Sp:=λi H Q _=>∃ l r fr k j N h b,i=[.ref l,.ref r]/\Pk3 H l/\Few h b N/\b<=100/\NetAt H r fr k j N/\∀ g e f d c a,Few h (b+1) c->c.lanes=N.lanes->NetAt a g e f d c->Pk3 a l->But l H a->Q (.ref g) a
theorem dv (xs:List V)(i j:Nat):yq xs (some (i:Int)) (some (j:Int))=(xs.drop i).take (j-i):=by
 unfold yq;rw[HT.sIx_nat,HT.sIx_nat];by_cases c:i<=xs.length
 ·rw[Ze c]
  by_cases d:j<=xs.length
  ·rw[Ze d]
  ·rw[Nat.min_eq_right (by lia),JR (by rw[Y9];lia),JR (by rw[Y9];lia)]
 ·rw[List.drop_of_length_le (show xs.length<=i by lia),List.drop_of_length_le (by lia),List.take_nil,List.take_nil]
theorem lM (xs:List V)(i:Nat):yq xs (some (i:Int)) none=xs.drop i:=by
 unfold yq;rw[HT.sIx_none,HT.sIx_nat];by_cases c:i<=xs.length
 ·rw[Ze c]
  exact JR (by rw[Y9];exact Jc _)
 ·rw[List.drop_of_length_le (show xs.length<=i by lia),List.drop_of_length_le (by lia),List.take_nil]
theorem lJ (xs:List V)(i:Nat):yq xs none (some (i:Int))=xs.take i:=by
 unfold yq;rw[HT.sIx_none,HT.sIx_nat,ZG,Nat.sub_zero];by_cases c:i<=xs.length
 ·rw[Ze c]
 ·rw[JR (by lia),JR (by lia)]
theorem vD {H:Hp}:∀ {ps:List V}{fs:List (Nat × Nat)}(n:Nat),Prs H ps fs->Prs H (ps.take n) (fs.take n)
 | [],[],n,_=>by rw[List.take_nil,List.take_nil];trivial
 | _::_,_::_,0,_=>trivial
 | _::_,_::_,n+1,⟨x,r⟩=>⟨x,vD n r⟩
theorem xW {H:Hp}:∀ {ps:List V}{fs:List (Nat × Nat)}(n:Nat),Prs H ps fs->Prs H (ps.drop n) (fs.drop n)
 | [],[],n,_=>by rw[List.drop_nil,List.drop_nil];trivial
 | _::_,_::_,0,h=>h
 | _::_,_::_,n+1,⟨_,r⟩=>xW n r
noncomputable def FksOk (lanes:Nat)(a:List (Nat × Nat)):Prop:=∀ f∈a,f.1<lanes/\f.2<lanes/\f.1≠f.2
theorem FksOk.app {lanes:Nat}{a b:List (Nat × Nat)}(x:FksOk lanes a)(y:FksOk lanes b):FksOk lanes (a++b):=λf c=>(Ju.mp c).elim (x f) (y f)
theorem FksOk.take {lanes:Nat}{a:List (Nat × Nat)}(x:FksOk lanes a)(n:Nat):FksOk lanes (a.take n):=λf b=>x f (YS b)
theorem FksOk.drop {lanes:Nat}{a:List (Nat × Nat)}(x:FksOk lanes a)(n:Nat):FksOk lanes (a.drop n):=λf b=>x f (Zn b)
theorem oz:FnScope ["_law_left_here","_law_net","_law_lanes","_law_forks","_law_ends","_law_way","_law_at","_law_k","_law_here","_law_row"] ["_law_left_here","_law_net"] (zN cn):=by trivial
theorem bN {f fK:Addr}{fd dK:FuncData}(F:Fun K "_law_changed" "_law_changed" cn f fd) (G:Mgs mg) (W:Use P w K mg base "_law_pick" ["_law_left_here","_law_many"] 1 xN fK dK):FnOk P w K mg base CX0 2 f fd ["_law_left_here","_law_net"] iH:=by
 refine F.ok oz (λvs H Q E h=>?_) (λb6 A outer s H vs Q E hr h=>?_)
 ·obtain⟨l,r,fr,er,C,N,lb,fb,rfl,_⟩:=h
  rfl
 obtain⟨l,r,fr,er,C,N,lb,fb,rfl,S,a5,b5,na,k⟩:=h;refine⟨_,(@zG _ _ _ _ _ (@yZ _ _ _ _ _ _ (@qv _ 1 _ _ (by trivial)) (@yU _ _ _ _ _ _ rfl (@zQ _ _ _ _ _ (@zP _ _ 2 _ oz.nd rfl (.inl rfl) (by trivial)) (@zQ _ _ _ _ _ (@zP _ _ 3 _ oz.nd rfl (.inl rfl) (by trivial)) (@zQ _ _ _ _ _ (@zP _ _ 4 _ oz.nd rfl (.inl rfl) (by trivial)) yH (by rfl)) (by rfl)) (by rfl)) (by rfl) (by rfl)) (by rfl) (by rfl) (by rfl)) (@zG _ _ _ _ _ (ft (i:=5) (j:=6) (k:=7) rfl oz.nd rfl rfl rfl (by decide) (by decide) (by decide) rfl rfl rfl (@zA _ _ _ _ _ (@zL _ _ _ _ _ _ _ _ _ _ _ _ _ _ _ _ W.ok hr (by rfl) W.m W.kp W.b .nil zW (@zA _ _ _ _ _ (@qv _ 0 _ _ (by trivial)) (@zA _ _ _ _ _ zE zB (by rfl)) (by rfl)) (by decide) (by rfl) (by rfl)) (@zA _ _ _ _ _ (@zL _ _ _ _ _ _ _ _ _ _ _ _ _ _ _ _ W.ok hr (by rfl) W.m W.kp W.b .nil zW (@zA _ _ _ _ _ (@qv _ 0 _ _ (by trivial)) (@zA _ _ _ _ _ (@zS _ _ _ _ _ _ _ _ yW (@zM _ _ _ _ _ _ _ _ _ zT (by rfl) G.len JT (@zA _ _ _ _ _ (@qv _ 3 _ _ (by trivial)) zB (by rfl)) (by decide) (by decide) (by rfl) (by rfl)) zE) zB (by rfl)) (by rfl)) (by decide) (by rfl) (by rfl)) (@zA _ _ _ _ _ (@zL _ _ _ _ _ _ _ _ _ _ _ _ _ _ _ _ W.ok hr (by rfl) W.m W.kp W.b .nil zW (@zA _ _ _ _ _ (@qv _ 0 _ _ (by trivial)) (@zA _ _ _ _ _ (@qv _ 2 _ _ (by trivial)) zB (by rfl)) (by rfl)) (by decide) (by rfl) (by rfl)) zB (by rfl)) (by rfl)) (by rfl)) (by rfl)) (@zG _ _ _ _ _ (@zo _ _ 8 _ _ _ _ oz.nd rfl (.inl rfl) (@zu _ _ _ _ _ _ _ _ _ _ yV (@qv _ 3 _ _ (by trivial)) (@zi _ _ _ (@qv _ 6 _ _ (by trivial))) (@zi _ _ _ (@zS _ _ _ _ _ _ _ _ yW (@qv _ 6 _ _ (by trivial)) zE))) (by rfl) (by trivial)) (@zG _ _ _ _ _ (@yT _ _ _ _ _ _ _ _ (@zt _ _ _ _ _ _ _ _ xv (@qv _ 5 _ _ (by trivial)) zE (yE _)) (@zK _ _ _ (@zU _ _ _ _ (@zX _ _ _ _ _ (@zA _ _ _ _ _ (@qv _ 2 _ _ (by trivial)) (@zA _ _ _ _ _ (@zS _ _ _ _ _ _ _ _ yc (@zS _ _ _ _ _ _ _ _ yc (@zu _ _ _ _ _ _ _ _ _ _ yV (@qv _ 3 _ _ (by trivial)) yD (@zi _ _ _ (@qv _ 6 _ _ (by trivial)))) (@zr _ _ _ _ _ _ _ _ _ zz (by rfl) G.tuple (by rfl) (@zA _ _ _ _ _ (@pC _ _ _ _ none _ _ _ (av K 2 (gZ (wL 0) (gZ (wL 1) aw))) _ _ ["_law_a","_law_b"] [none,none] rfl (@xk _ _ _ _ (@qv _ 8 _ _ (by trivial))) (CapOk.of (by kernel_rfl)) (λ_ _ _ _ _=>(@yU _ _ _ _ _ _ rfl (@zQ _ _ _ _ _ (@zP _ _ 0 _ (show (["_law_a","_law_b"]:List Str).Nodup from by decide +kernel) rfl (.inl rfl) (.inr rfl)) (@zQ _ _ _ _ _ (@zP _ _ 1 _ (show (["_law_a","_law_b"]:List Str).Nodup from by decide +kernel) rfl (.inl rfl) (.inr rfl)) yH (by rfl)) (by rfl)) (by rfl) (by rfl))) (λ_ _ _ _ _=>x9) (λ_ _ _ _ _=>(@zX _ _ _ _ _ (@zA _ _ _ _ _ (@qv _ 1 _ _ (by trivial)) (@zA _ _ _ _ _ (@qv _ 0 _ _ (by trivial)) zB (by rfl)) (by rfl)))) (by intro _;rfl)) zB (by rfl)) (by decide) (by decide) (by rfl) (by rfl))) (@zu _ _ _ _ _ _ _ _ _ _ yV (@qv _ 3 _ _ (by trivial)) (@zi _ _ _ (@zS _ _ _ _ _ _ _ _ yW (@qv _ 6 _ _ (by trivial)) zE)) yD)) (@zA _ _ _ _ _ (@qv _ 4 _ _ (by trivial)) zB (by rfl)) (by rfl)) (by rfl))))) zp) (@zG _ _ _ _ _ (@yT _ _ _ _ _ _ _ _ (@zt _ _ _ _ _ _ _ _ xv (@qv _ 5 _ _ (by trivial)) zE (yE _)) (@zK _ _ _ (@zU _ _ _ _ (@zX _ _ _ _ _ (@zA _ _ _ _ _ (@qv _ 2 _ _ (by trivial)) (@zA _ _ _ _ _ (@zS _ _ _ _ _ _ _ _ yc (@zu _ _ _ _ _ _ _ _ _ _ yV (@qv _ 3 _ _ (by trivial)) yD (@zi _ _ _ (@qv _ 6 _ _ (by trivial)))) (@zu _ _ _ _ _ _ _ _ _ _ yV (@qv _ 3 _ _ (by trivial)) (@zi _ _ _ (@zS _ _ _ _ _ _ _ _ yW (@qv _ 6 _ _ (by trivial)) zE)) yD)) (@zA _ _ _ _ _ (@qv _ 4 _ _ (by trivial)) zB (by rfl)) (by rfl)) (by rfl))))) zp) (@zG _ _ _ _ _ (@yT _ _ _ _ _ _ _ _ (@zt _ _ _ _ _ _ _ _ xv (@qv _ 5 _ _ (by trivial)) zE (yE _)) (@zK _ _ _ (@zU _ _ _ _ (@zX _ _ _ _ _ (@zA _ _ _ _ _ (@qv _ 2 _ _ (by trivial)) (@zA _ _ _ _ _ (@zS _ _ _ _ _ _ _ _ yc (@zS _ _ _ _ _ _ _ _ yc (@zu _ _ _ _ _ _ _ _ _ _ yV (@qv _ 3 _ _ (by trivial)) yD (@zi _ _ _ (@qv _ 6 _ _ (by trivial)))) (@qv _ 8 _ _ (by trivial))) (@zu _ _ _ _ _ _ _ _ _ _ yV (@qv _ 3 _ _ (by trivial)) (@zi _ _ _ (@qv _ 6 _ _ (by trivial))) yD)) (@zA _ _ _ _ _ (@qv _ 4 _ _ (by trivial)) zB (by rfl)) (by rfl)) (by rfl))))) zp) (@zG _ _ _ _ _ (@yT _ _ _ _ _ _ _ _ (@zt _ _ _ _ _ _ _ _ xv (@qv _ 5 _ _ (by trivial)) zE (yE _)) (@zK _ _ _ (@zU _ _ _ _ (@zX _ _ _ _ _ (@zA _ _ _ _ _ (@qv _ 2 _ _ (by trivial)) (@zA _ _ _ _ _ (@zS _ _ _ _ _ _ _ _ yc (@zS _ _ _ _ _ _ _ _ yc (@zS _ _ _ _ _ _ _ _ yc (@zu _ _ _ _ _ _ _ _ _ _ yV (@qv _ 3 _ _ (by trivial)) yD (@zi _ _ _ (@qv _ 6 _ _ (by trivial)))) (@zu _ _ _ _ _ _ _ _ _ _ yV (@qv _ 3 _ _ (by trivial)) (@zi _ _ _ (@zS _ _ _ _ _ _ _ _ yW (@qv _ 6 _ _ (by trivial)) zE)) (@zi _ _ _ (@zS _ _ _ _ _ _ _ _ yW (@qv _ 6 _ _ (by trivial)) zE)))) (@qv _ 8 _ _ (by trivial))) (@zu _ _ _ _ _ _ _ _ _ _ yV (@qv _ 3 _ _ (by trivial)) (@zi _ _ _ (@zS _ _ _ _ _ _ _ _ yW (@qv _ 6 _ _ (by trivial)) zE)) yD)) (@zA _ _ _ _ _ (@qv _ 4 _ _ (by trivial)) zB (by rfl)) (by rfl)) (by rfl))))) zp) (@zG _ _ _ _ _ (@zo _ _ 9 _ _ _ _ oz.nd rfl (.inl rfl) (@zr _ _ _ _ _ _ _ _ _ yt (by rfl) G.list (by rfl) (@zA _ _ _ _ _ (@qv _ 4 _ _ (by trivial)) zB (by rfl)) (by decide) (by decide) (by rfl) (by rfl)) (by rfl) (by trivial)) (@zG _ _ _ _ _ (@yZ _ _ _ _ _ _ (@zX _ _ _ _ _ (@zA _ _ _ _ _ (@zj _ _ _ _ _ _ _ yB (@qv _ 4 _ _ (by trivial)) (@qv _ 7 _ _ (by trivial)) (λ_ _=>rfl)) (@zA _ _ _ _ _ (@zj _ _ _ _ _ _ _ yB (@qv _ 4 _ _ (by trivial)) zE (λ_ _=>rfl)) zB (by rfl)) (by rfl))) (@yU _ _ _ _ _ _ rfl (@zQ _ _ _ _ _ (@wo _ _ _ _ _ _ _ (@qv _ 9 _ _ (by trivial)) zE xV (by intro _;rfl)) (@zQ _ _ _ _ _ (@wo _ _ _ _ _ _ _ (@qv _ 9 _ _ (by trivial)) (@qv _ 7 _ _ (by trivial)) xV (by intro _;rfl)) yH (by rfl)) (by rfl)) (by rfl) (by rfl)) (by rfl) (by rfl) (by rfl)) (@zK _ _ _ (@zU _ _ _ _ (@zX _ _ _ _ _ (@zA _ _ _ _ _ (@qv _ 2 _ _ (by trivial)) (@zA _ _ _ _ _ (@qv _ 3 _ _ (by trivial)) (@zA _ _ _ _ _ (@zr _ _ _ _ _ _ _ _ _ zz (by rfl) G.tuple (by rfl) (@zA _ _ _ _ _ (@qv _ 9 _ _ (by trivial)) zB (by rfl)) (by decide) (by decide) (by rfl) (by rfl)) zB (by rfl)) (by rfl)) (by rfl)))))))))))))),?_⟩;have ok:=a5.ok;have a9:=ok.l16;have l1:=ok.l1;have fk:=a5.fk;have pl:=na.prs.len;refine⟨_,rfl,r,_,rfl,SqT.of na.net,rfl,_,_,rfl,_,_,rfl,_,_,rfl,rfl,?_⟩;refine⟨_,rfl,l,5,rfl,by decide,by decide,S,λway H1 hw S1 B1=>?_⟩;have aT:=na.tups (B1.tups3 S);refine⟨_,rfl,_,rfl,fr,C,rfl,.inr (SqT.of aT.forks),_,_,rfl,rfl,l,_,rfl,by simp_all,by lia,S1,λd H2 b2 S2 B2=>?_⟩;refine⟨_,rfl,_,rfl,l,_,rfl,by lia,by lia,S2,λL H3 hk S3 B3=>⟨_,_,_,rfl,?_⟩⟩;have y:=(aT.tups (B2.tups3 S1)).tups (B3.tups3 S2);have B':But l H H3:=(B1.trans B2).trans B3;clear aT B1 B2 B3 S1 S2;have p2:d<=C.length:=by lia
 refine⟨_,rfl,_,rfl,_,rfl,_,rfl,_,_,rfl,rfl,_,rfl,fr,C,rfl,y.forks,λhh H4 s4 ax=>?_⟩;have e1:((d:Nat):Int)+1=((d+1:Nat):Int):=rfl;have e2:((d:Nat):Int)+2=((d+2:Nat):Int):=rfl;rw[e1,dv,show d+1-d=1 by simp_all]at ax;have v:FksOk N.lanes N.forks:=ok.fk;have a8:=a5.ln;have bl:N.forks.length<=100:=by lia
 have fin:∀ (a:Addr) (qs:List V) (gs:List (Nat × Nat)) (Y:Hp),Same H3 Y->Y a=some (.tup qs)->Prs Y qs gs->FksOk N.lanes gs->gs.length<=fb+1->∀ q,Y q=none->Q (.ref q) (L2.upd Y q (.tup [.int (N.lanes:Nat),.ref a,.ref er])):=λa qs gs Y J ha pr go gl q hq=>by
  have U:=zC hq (.tup [.int (N.lanes:Nat),.ref a,.ref er]);have u:=J.trans U;exact k q a er qs ⟨N.lanes,gs,N.ends⟩ _ ⟨⟨l1,a9,by show gs.length<=128;lia,go,ok.en⟩,a8,gl⟩ rfl ⟨zZ hq _,U _ _ ha,pr.tups (Tups.of U),u _ _ y.ends⟩ (S3.keep u) (B'.trans (But.of u))
 have I:=y.prs;have f4:=s4 _ _ y.forks;have b3:((C.drop d).take 1).length<=1:=by rw[Js];lia
 have ab:=vD 1 (xW d I);have b4:((N.forks.drop d).take 1).length<=1:=by rw[Js];simp_all
 have pA:=vD d I;have lA:(N.forks.take d).length=d:=by rw[Js];simp_all
 have b1:(C.take d).length=d:=by rw[Js];lia
 have lD:∀ n,(N.forks.drop n).length=N.forks.length-n:=λn=>Y9;have ao:∀ n,(C.drop n).length=N.forks.length-n:=λn=>by rw[Y9,pl]
 dsimp only[wL];refine⟨_,rfl,rfl,_,rfl,oB (λ_=>?_) (λ_=>?_)⟩
 ·refine⟨_,rfl,_,rfl,_,rfl,_,rfl,fr,C,rfl,f4,λp1 Y J X=>?_⟩
  rw[lJ]at X;have Z:=s4.trans J;have bo:=J _ _ ax;have bu:=ab.tups (Tups.of Z);refine⟨_,rfl,hh,rfl,⟨_,SqT.of bo⟩,λlc a4=>?_⟩;have U:=zC a4 (.lst []);refine qH (K:=K) (a:=hh) (xs:=(C.drop d).take 1) (λi acc σ H6=>(∃ v0 v1,σ=[v0,v1])/\Same Y H6/\H6 lc=some (.lst acc)/\acc.length=i/\Prs H6 acc ((((N.forks.drop d).take 1).take i).map λg=>(g.2,g.1))) ⟨⟨_,_,rfl⟩,U,zZ a4 _,rfl,trivial⟩ (λi acc σ H6 z=>⟨z.2.2.1,SqT.of (z.2.1 _ _ bo)⟩) ?_ ?_
  ·rintro i x acc σ H6 hx ⟨⟨v0,v1,rfl⟩,s7,h7,al,p7⟩
   obtain⟨a,g,rfl,eg,ha⟩:=(bu.tups (Tups.of s7)).get hx;have gi:=(Ja.mp eg).1;refine⟨a,_,rfl,SqT.of ha,rfl,_,_,rfl,_,_,rfl,rfl,?_⟩;refine⟨_,rfl,_,rfl,(by show 2<=sizeLine;decide),λt ht=>?_⟩;have s8:=zC ht (.tup [.int (g.2:Nat),.int (g.1:Nat)]);have h8:=s8 _ _ h7;refine⟨h8,by rw[JH];lia,nx (Ja.mp hx).1 ⟨⟨_,_,rfl⟩,λb o e=>?_,zD,by rw[Jb,al];rfl,?_⟩⟩
   ·rw[zJ (zH e a4)];exact s8 _ _ (s7 b o e)
   ·rw[<- Yd gi,JU,(Ja.mp eg).2]
    exact Prs.add (f:=(g.2,g.1)) (Tups.lst h8 _ _ (zZ ht _)) ((p7.tups (Tups.of s8)).tups (Tups.lst h8))
  rintro acc σ H6 ⟨⟨v0,v1,rfl⟩,s7,h7,al,p7⟩;rw[JR (by rw[ab.len];exact Jc _)]at p7;refine⟨lc,_,rfl,.inl ⟨SqL.of h7,λt8 ba=>?_⟩⟩;have s8:=zC ba (.tup acc);refine⟨p1,t8,_,_,rfl,rfl,s8 _ _ (s7 _ _ X),zZ ba _,by rw[JH];lia,λp9 H9 s9 h9=>?_⟩;have u9:=((Z.trans s7).trans s8).trans s9;refine⟨_,rfl,_,rfl,_,_,rfl,rfl,_,rfl,fr,C,rfl,u9 _ _ y.forks,λO a7 p B=>?_⟩;rw[e1,lM]at B;refine⟨p9,O,_,_,rfl,rfl,p _ _ h9,B,by rw[JH,Jb,ao (d+1)];lia,λM a6 D R=>?_⟩;have m:=(u9.trans p).trans D;refine⟨_,rfl,(by show 3<=sizeLine;decide),fin M _ _ _ m R (Prs.app (Prs.app (pA.tups (Tups.of m)) (p7.tups (Tups.of (((s8.trans s9).trans p).trans D)))) ((xW (d+1) I).tups (Tups.of m))) ?_ ?_⟩
  ·refine((v.take _).app λf hf=>?_).app (v.drop _)
   obtain⟨g,hg,rfl⟩:=JA.mp hf;obtain⟨a,b,c⟩:=v g (Zn (YS hg));exact⟨b,a,c.symm⟩
  ·rw[Jb,Jb,Jn,lA,lD];lia
 refine⟨_,rfl,rfl,_,rfl,oB (λ_=>?_) (λ_=>?_)⟩
 ·refine⟨_,rfl,_,rfl,_,rfl,_,rfl,fr,C,rfl,f4,λp1 Y J X=>?_⟩
  rw[lJ]at X;have Z:=s4.trans J;refine⟨_,rfl,_,rfl,_,_,rfl,rfl,_,rfl,fr,C,rfl,Z _ _ y.forks,λO a7 p B=>?_⟩;rw[e1,lM]at B;refine⟨p1,O,_,_,rfl,rfl,p _ _ X,B,by rw[JH,ao (d+1)];lia,λM a6 D R=>?_⟩;have m:=(Z.trans p).trans D;refine⟨_,rfl,(by show 3<=sizeLine;decide),fin M _ _ _ m R (Prs.app (pA.tups (Tups.of m)) ((xW (d+1) I).tups (Tups.of m))) ((v.take _).app (v.drop _)) ?_⟩;rw[Jb,lA,lD];lia
 refine⟨_,rfl,rfl,_,rfl,oB (λ_=>?_) (λ_=>?_)⟩
 ·refine⟨_,rfl,_,rfl,_,rfl,_,rfl,fr,C,rfl,f4,λp1 Y J X=>?_⟩
  rw[lJ]at X;have Z:=s4.trans J;refine⟨_,rfl,p1,hh,_,_,rfl,rfl,X,J _ _ ax,by rw[JH];lia,λp9 H9 s9 h9=>?_⟩;have u9:=Z.trans s9;refine⟨_,rfl,_,rfl,_,rfl,fr,C,rfl,u9 _ _ y.forks,λO a7 p B=>?_⟩;rw[lM]at B;refine⟨p9,O,_,_,rfl,rfl,p _ _ h9,B,by rw[JH,Jb,ao d];lia,λM a6 D R=>?_⟩;have m:=(u9.trans p).trans D;refine⟨_,rfl,(by show 3<=sizeLine;decide),fin M _ _ _ m R (Prs.app (Prs.app (pA.tups (Tups.of m)) (ab.tups (Tups.of m))) ((xW d I).tups (Tups.of m))) (((v.take _).app ((v.drop _).take _)).app (v.drop _)) ?_⟩;rw[Jb,Jb,lA,lD];lia
 refine⟨_,rfl,rfl,_,rfl,oB (λ_=>?_) (λ_=>?_)⟩
 ·refine⟨_,rfl,_,rfl,_,rfl,_,rfl,fr,C,rfl,f4,λp1 Y J X=>?_⟩
  rw[lJ]at X;have Z:=s4.trans J;refine⟨_,rfl,_,rfl,_,_,rfl,rfl,_,rfl,_,rfl,_,_,rfl,rfl,_,rfl,fr,C,rfl,Z _ _ y.forks,λp6 H6 U h6=>?_⟩;rw[e1,e2,dv,show d+2-(d+1)=1 by simp_all]at h6;have l6:((C.drop (d+1)).take 1).length<=1:=by rw[Js];lia
  have g6:((N.forks.drop (d+1)).take 1).length<=1:=by rw[Js];simp_all
  refine⟨p1,p6,_,_,rfl,rfl,U _ _ X,h6,by rw[JH];lia,λp7 H7 s7 h7=>?_⟩;have u7:=(Z.trans U).trans s7;refine⟨_,rfl,p7,hh,_,_,rfl,rfl,h7,s7 _ _ (U _ _ (J _ _ ax)),by rw[JH,Jb];lia,λp9 H9 s9 h9=>?_⟩;have u9:=u7.trans s9;refine⟨_,rfl,_,rfl,_,_,rfl,rfl,_,rfl,fr,C,rfl,u9 _ _ y.forks,λO a7 p B=>?_⟩;rw[e2,lM]at B;refine⟨p9,O,_,_,rfl,rfl,p _ _ h9,B,by rw[JH,Jb,Jb,ao (d+2)];lia,λM a6 D R=>?_⟩;have m:=(u9.trans p).trans D;refine⟨_,rfl,(by show 3<=sizeLine;decide),fin M _ _ _ m R (Prs.app (Prs.app (Prs.app (pA.tups (Tups.of m)) ((vD 1 (xW (d+1) I)).tups (Tups.of m))) (ab.tups (Tups.of m))) ((xW (d+2) I).tups (Tups.of m))) ((((v.take _).app ((v.drop _).take _)).app ((v.drop _).take _)).app (v.drop _)) ?_⟩;have c6:((N.forks.drop (d+1)).take 1).length=min 1 (N.forks.length-(d+1)):=by rw[Js,lD]
  have c7:((N.forks.drop d).take 1).length=min 1 (N.forks.length-d):=by rw[Js,lD]
  rw[Jb,Jb,Jb,lA,lD,c6,c7];lia
 have bt:=s4 _ _ y.ends;have el:N.ends.length=N.lanes:=by rw[ok.en.length_eq,YU]
 have b0:=zv N.ends;have k1:L<N.ends.length:=by simp_all
 refine⟨_,rfl,er,_,rfl,.inr (SqT.of bt),λlr a3=>?_⟩;have J:=zC a3 (.lst (zV N.ends));have bq:=J _ _ bt;have a1:=yM (nZ N.ends L k1);have a0:=yM (j:=0) (nZ N.ends 0 (by lia));refine⟨_,rfl,_,rfl,er,_,_,_,rfl,rfl,SqT.of bq,a1,_,rfl,er,_,0,_,rfl,rfl,SqT.of bq,a0,(by show 2<=sizeLine;decide),λT hT=>?_⟩;have U:=zC hT (.tup [.int ((N.ends.getD L 0:Nat):Int),.int ((N.ends.getD 0 0:Nat):Int)]);have h6:=U _ _ (zZ a3 (.lst (zV N.ends)));refine⟨T,_,rfl,SqT.of zD,rfl,_,_,rfl,?_⟩;have u6:=(s4.trans J).trans U
 let d1:List Nat:=N.ends.set 0 (N.ends.getD L 0)
 let d2:List Nat:=d1.set L (N.ends.getD 0 0)
 have z1:(zV N.ends).set 0 (.int ((N.ends.getD L 0:Nat):Int))=zV d1:=List.map_set.symm;have z2:(zV d1).set L (.int ((N.ends.getD 0 0:Nat):Int))=zV d2:=List.map_set.symm;have bS:(zV d1).length=N.ends.length:=by rw[zv];exact List.length_set
 have pd:d2.Perm N.ends:=by
  have:=List.set_set_perm (as:=N.ends) (i:=0) (j:=L) (by lia) k1;have g1:N.ends.getD L 0=N.ends[L]:=by rw[Jz,J9 k1];rfl
  have g0:N.ends.getD 0 0=N.ends[0]:=by rw[Jz,J9 (by lia)];rfl
  show ((N.ends.set 0 (N.ends.getD L 0)).set L (N.ends.getD 0 0)).Perm N.ends;rw[g1,g0];exact this
 refine⟨_,rfl,lr,_,0,0,rfl,rfl,h6,mw (i:=0) (by lia),?_⟩;rw[z1];have bB:L2.upd (L2.upd (L2.upd H4 lr (.lst (zV N.ends))) T (.tup [.int ((N.ends.getD L 0:Nat):Int),.int ((N.ends.getD 0 0:Nat):Int)])) lr (.lst (zV d1)) lr=some (.lst (zV d1)):=zD;have n3:H3 lr=none:=wJ s4 a3
 have sm:∀ (xs ys:List V),Same H3 (L2.upd (L2.upd (L2.upd (L2.upd H4 lr (.lst (zV N.ends))) T (.tup [.int ((N.ends.getD L 0:Nat):Int),.int ((N.ends.getD 0 0:Nat):Int)])) lr (.lst xs)) lr (.lst ys)):=λxs ys b o e=>by
  rw[zJ (zH e n3),zJ (zH e n3)];exact u6 b o e
 refine⟨_,_,rfl,_,rfl,_,rfl,lr,_,_,L,rfl,rfl,bB,by rw[bS];exact mw k1,?_⟩;rw[z2];refine⟨rfl,_,rfl,_,rfl,_,rfl,lr,_,rfl,.inl ⟨SqL.of zD,λt ht=>⟨(by show 3<=sizeLine;decide),λq hq=>?_⟩⟩⟩;have s7:=zC ht (.tup (zV d2));have s8:=zC hq (.tup [.int (N.lanes:Nat),.ref fr,.ref t]);have u:=((sm (zV d1) (zV d2)).trans s7).trans s8;exact k q fr t C ⟨N.lanes,N.forks,d2⟩ _ ⟨⟨l1,a9,ok.fm,ok.fk,pd.trans ok.en⟩,a8,by show N.forks.length<=fb+1;lia⟩ rfl ⟨zZ hq _,u _ _ y.forks,I.tups (Tups.of u),s8 _ _ (zZ ht _)⟩ (S3.keep u) (B'.trans (But.of u))
noncomputable abbrev o5:Stmt:=top 28
structure Lns (lanes:Nat) (moves:List Nat):Prop where
 ne:moves≠[]
 lt:∀ m∈moves,m<lanes
 up:moves.Pairwise (· < ·)
noncomputable def rR:Sp:=λb H Q _=>∃ l r fr d c N,b=[.ref l,.ref r]/\Pk3 H l/\Nt.Ok N/\NetAt H r fr d c N/\∀ p moves a,Lns N.lanes moves->a p=some (.tup (zV moves))->Pk3 a l->But l H a->Q (.ref p) a
theorem Lns.all {lanes:Nat}(h:1<=lanes):Lns lanes (List.range lanes):=⟨λz=>by have:=JS List.length z;rw[YU,Zz]at this;simp_all,λm a=>YN.mp a,List.pairwise_lt_range⟩
theorem aM:FnScope ["_law_left_here","_law_net","_law_some_here"] ["_law_left_here","_law_net"] (zN o5):=by trivial
theorem i7 {f fK:Addr}{fd dK:FuncData}(F:Fun K "_law_some" "_law_some" o5 f fd) (G:Mgs mg) (d:Use P w K mg base "_law_pick" ["_law_left_here","_law_many"] 1 xN fK dK):FnOk P w K mg base CX0 2 f fd ["_law_left_here","_law_net"] rR:=by
 refine F.ok aM (λvs H Q E h=>?_) (λa4 A outer s H vs Q E hr h=>?_)
 ·obtain⟨l,r,fr,er,ps,N,rfl,_⟩:=h
  rfl
 obtain⟨l,r,fr,er,ps,N,rfl,S,ok,na,k⟩:=h;have a3:=ok.l16;have l1:=ok.l1;refine⟨_,(@zG _ _ _ _ _ (@qy _ 2 _ _ _ _ (some _) _ _ _ _ _ _ _ _ ["_law_lane","_law_left_here"] [none,some 0] aM.nd rfl rfl rfl (@xu _ _ _ _ _ _ rfl G.range (@zA _ _ _ _ _ (@zj _ _ _ _ _ _ _ yB (@qv _ 1 _ _ (by trivial)) zE (λ_ _=>rfl)) zB (by rfl)) (by rfl)) (CapOk.of (by kernel_rfl)) (λ_ _ _ _ _=>(@zP _ _ 0 _ (show (["_law_lane","_law_left_here"]:List Str).Nodup from by decide +kernel) rfl (.inl rfl) (.inr rfl))) (λ_ _ _ _ _=>(@fq _ _ _ (@zt _ _ _ _ _ _ _ _ xv (@zL _ _ _ _ _ _ _ _ _ _ _ _ _ _ _ _ d.ok hr (by rfl) d.m d.kp d.b .nil zW (@zA _ _ _ _ _ (@qv _ 1 _ _ (by trivial)) (@zA _ _ _ _ _ zE zB (by rfl)) (by rfl)) (by decide) (by rfl) (by rfl)) zE (yE _)))) (λ_ _ _ _ _=>(@qv _ 0 _ _ (by trivial))) (by intro _;rfl) (by with_unfolding_all rfl)) (@zK _ _ _ (@zU _ _ _ _ (@zj _ _ _ _ _ _ _ zw (@yG _ _ _ _ (@zA _ _ _ _ _ (@kL _ _ _ _ _ _ _ rfl (by rfl) G.tuple (by rfl) G.range (@zA _ _ _ _ _ (@zj _ _ _ _ _ _ _ yB (@qv _ 1 _ _ (by trivial)) zE (λ_ _=>rfl)) zB (by rfl)) (by rfl) (by rfl)) (@zA _ _ _ _ _ (@pD _ _ _ _ _ _ _ _ (@zt _ _ _ _ _ _ _ _ (iw hr.units0) (@qv _ 2 _ _ (by trivial)) (@yG _ _ _ _ zB) (yE _)) (@zr _ _ _ _ _ _ _ _ _ zz (by rfl) G.tuple (by rfl) (@zA _ _ _ _ _ (@qv _ 2 _ _ (by trivial)) zB (by rfl)) (by decide) (by decide) (by rfl) (by rfl)) (@zX _ _ _ _ _ (@zA _ _ _ _ _ (@zL _ _ _ _ _ _ _ _ _ _ _ _ _ _ _ _ d.ok hr (by rfl) d.m d.kp d.b .nil zW (@zA _ _ _ _ _ (@qv _ 0 _ _ (by trivial)) (@zA _ _ _ _ _ (@zj _ _ _ _ _ _ _ yB (@qv _ 1 _ _ (by trivial)) zE (λ_ _=>rfl)) zB (by rfl)) (by rfl)) (by decide) (by rfl) (by rfl)) zB (by rfl)))) zB (by rfl)) (by rfl))) (@zL _ _ _ _ _ _ _ _ _ _ _ _ _ _ _ _ d.ok hr (by rfl) d.m d.kp d.b .nil zW (@zA _ _ _ _ _ (@qv _ 0 _ _ (by trivial)) (@zA _ _ _ _ _ zE zB (by rfl)) (by rfl)) (by decide) (by rfl) (by rfl)) (λ_ _=>rfl))))),?_⟩;refine⟨_,rfl,r,_,_,_,rfl,rfl,SqT.of na.net,rfl,_,rfl,by simp_all,by lia,λlc B=>?_⟩;have O:=S.ne B;have a0:Frs l H lc:=λb o e _=>zH e B;refine jF (lo:=0) (n:=((N.lanes:Nat):Int).toNat) (λi acc σ D=>(∃ v0,σ=[v0,some (.ref l)])/\Pk3 D l/\But l H D/\D lc=some (.lst acc)/\∃ ms:List Nat,acc=zV ms/\ms.length<=i/\(∀ m∈ms,m<i)/\ms.Pairwise (· < ·)) ⟨⟨_,rfl⟩,S.upd O,But.of (zC B _),zZ B _,[],rfl,Jc _,λm L=>(nomatch L),.nil⟩ (λi acc σ D z=>z.2.2.2.1) ?_ ?_
 ·rintro i acc σ D hi ⟨⟨v0,rfl⟩,S2,Y,W,ms,rfl,ml,mlt,mp⟩
  refine⟨_,rfl,l,2,rfl,by decide,by decide,S2,λv H3 hv S3 B3=>⟨rfl,_,rfl,?_⟩⟩;have h3:=B3 lc _ W O.symm;have e0:(0:Int)+((i:Nat):Int)=((i:Nat):Int):=Int.zero_add _;refine oB (λ_=>?_) (λ_=>?_)
  ·refine⟨_,rfl,h3,by rw[zv,JH];lia,nx (by omega) ⟨⟨_,rfl⟩,S3.upd O,(Y.trans B3).upd a0,zD,ms++[i],?_,by rw[Jb];show _+1<=_;simp_all,λm L=>?_,?_⟩⟩
   ·rw[<- gK,e0];rfl
   ·rcases Ju.mp L with y|y
    ·have:=mlt m y;lia
    ·rw[Jd.mp y];simp_all
   ·refine Yh.mpr ⟨mp,List.pairwise_singleton _ _,λa ha b hb=>?_⟩
    rw[Jd.mp hb];exact mlt a ha
  ·exact nx (by omega) ⟨⟨_,rfl⟩,S3,Y.trans B3,h3,ms,rfl,by lia,λm L=>by have:=mlt m L;lia,mp⟩
 rintro acc σ D ⟨⟨v0,rfl⟩,S2,Y,W,ms,rfl,ml,mlt,mp⟩;rw[Yp]at ml mlt;have R:=na.tups (Y.tups3 S);refine⟨_,rfl,r,_,_,_,rfl,rfl,SqT.of R.net,rfl,N.lanes,rfl,by lia,λI T=>?_⟩;have Z:=zC T (.tup (zV (List.range N.lanes)));have h1:=zZ T (.tup (zV (List.range N.lanes)));have U:=Z _ _ W;have S1:=S2.keep Z;have B1:=Y.trans (But.of (l:=l) Z);have ab:=R.tups (Tups.of Z);show j8 _ _ _ (L2.upd D I (.tup (zV (List.range N.lanes)))) _;generalize L2.upd D I (.tup (zV (List.range N.lanes)))=H3 at *;clear W Z S2 Y R T;refine⟨_,rfl,(by show 0<=sizeLine;decide),λe he=>?_⟩;have J:=zC he (.lst []);refine⟨lc,e,_,rfl,rfl,SqL.of (J _ _ U),SqL.of (zZ he _),_,rfl,?_⟩;have aT:=J _ _ U;have ao:=J _ _ h1;have S4:=S1.keep J;have B4:=B1.trans (But.of (l:=l) J);have ax:=ab.tups (Tups.of J);generalize L2.upd H3 e (.lst [])=H4 at *;clear U h1 S1 B1 ab J he
 have fin:∀ (q:Addr) (moves:List Nat) (C:Hp),Lns N.lanes moves->C q=some (.tup (zV moves))->C I=some (.tup (zV (List.range N.lanes)))->Pk3 C l->But l H C->∀ t,C t=none->∀ (v:Nat) (g:Hp),(v:Int)<2->Pk3 g l->But l (L2.upd C t (.lst [.ref I,.ref q])) g->∃ a xs j x,V.ref t=.ref a/\V.int (v:Nat)=.int j/\SqL K g a xs/\atI xs j=some x/\Q x g:=λq moves C ln W h1 S5 B5 t c v g hv X M=>by
  have s5:=zC c (.lst [.ref I,.ref q]);have t6:=(Tups.of s5).trans (M.tups3 (S5.keep s5));have B':=(B5.trans (But.of (l:=l) s5)).trans M
  have hx:∃ x,[V.ref I,V.ref q][v]?=some x/\Q x g:=by
   rcases v with _|_|v
   ·exact⟨_,rfl,k I _ g (Lns.all l1) (t6 _ _ h1) X B'⟩
   ·exact⟨_,rfl,k q moves g ln (t6 _ _ W) X B'⟩
   ·lia
  obtain⟨x,ex,qx⟩:=hx;exact⟨t,_,_,x,rfl,rfl,SqL.of (M t _ (zZ c _) (S5.ne c).symm),yM ex,qx⟩
 by_cases un:ms=[]
 ·rw[show (!(zV ms).isEmpty)=false by rw[un];rfl]
  refine zx ⟨_,rfl,_,rfl,r,_,_,_,rfl,rfl,SqT.of ax.net,rfl,l,_,rfl,by lia,by lia,S4,λone C ho S5 B5=>⟨(by show 1<=sizeLine;decide),λq p=>?_⟩⟩;have u:=zC p (.tup [.int (one:Nat)]);have t5:=B5.tups3 S4;refine⟨(by show 2<=sizeLine;decide),λt c=>⟨_,rfl,l,2,rfl,by decide,by decide,(S5.keep u).keep (zC c _),λv g hv X M=>?_⟩⟩;exact fin q [one] _ ⟨by simp,λm L=>by rw[Jd.mp L];simp_all,List.pairwise_singleton _ _⟩ (zZ p _) (u _ _ (t5 _ _ ao)) (S5.keep u) ((B4.trans B5).trans (But.of u)) t c v g hv X M
 ·rw[show (!(zV ms).isEmpty)=true by cases ms with
   | nil=>exact absurd rfl un
   | cons a b=>rfl]
  refine yJ ⟨_,rfl,lc,_,rfl,.inl ⟨SqL.of aT,λq p=>?_⟩⟩;have u:=zC p (.tup (zV ms));refine⟨(by show 2<=sizeLine;decide),λt c=>⟨_,rfl,l,2,rfl,by decide,by decide,(S4.keep u).keep (zC c _),λv g hv X M=>?_⟩⟩;exact fin q ms _ ⟨un,mlt,mp⟩ (zZ p _) (u _ _ ao) (S4.keep u) (B4.trans (But.of u)) t c v g hv X M
noncomputable abbrev qo:Stmt:=top 23
noncomputable def uP (m:Nat):Sp:=λd H Q _=>∃ p row,d=[.ref p]/\H p=some (.lst (zV row))/\row.length=2 ^ m/\m<=4/\∀ c lf le b a,Same H a->a c=some (.tup [.ref lf,.ref le])->a lf=some (.lst b)->Prs a b (xK m row).1->a le=some (.lst (zV (xK m row).2))->Q (.ref c) a
theorem qj:FnScope ["_law_row","_law_half","_law_forks","_law_one","_law_more_here","_law_other","_law_last","_law_ends"] ["_law_row"] (zN qo):=by trivial
theorem pJ {f fB:Addr}{fd dB:FuncData}(F:Fun K "_law_stairway" "_law_stairway" qo f fd) (G:Mgs mg) (D:Use P w K mg base "_law_merger" ["_law_one","_law_other"] 5 wG fB dB) (bS:Binds K fd ["_law_row"] []) (mS:mg "_law_stairway" = some (.ref f)) (n:Nat)
  (GS:FnOk P w K mg base CX0 (n+5) f fd ["_law_row"] (λvs H Q E=>∃ m,n=m+1/\uP m vs H Q E)):FnOk P w K mg base CX0 (n+6) f fd ["_law_row"] (uP n):=by
 have a:Use P w K mg base "_law_stairway" ["_law_row"] (n+5) (λvs H Q E=>∃ m,n=m+1/\uP m vs H Q E) f fd:=⟨GS,bS,F.kp,mS⟩;refine F.ok qj (λvs H Q E h=>?_) (λa9 A outer s H vs Q E M h=>?_)
 ·obtain⟨p,row,rfl,_⟩:=h
  rfl
 obtain⟨p,row,rfl,e,L,S,k⟩:=h;have Y:Room 5 _:=M.mono (by lia);refine⟨_,(@zG _ _ _ _ _ (@yT _ _ _ _ _ _ _ _ (@zt _ _ _ _ _ _ _ _ xv (@zM _ _ _ _ _ _ _ _ _ zT (by rfl) G.len JT (@zA _ _ _ _ _ (@qv _ 0 _ _ (by trivial)) zB (by rfl)) (by decide) (by decide) (by rfl) (by rfl)) zE (yE _)) (@zK _ _ _ (@zU _ _ _ _ (@zX _ _ _ _ _ (@zA _ _ _ _ _ (@yG _ _ _ _ zB) (@zA _ _ _ _ _ (@zr _ _ _ _ _ _ _ _ _ yt (by rfl) G.list (by rfl) (@zA _ _ _ _ _ (@qv _ 0 _ _ (by trivial)) zB (by rfl)) (by decide) (by decide) (by rfl) (by rfl)) zB (by rfl)) (by rfl))))) zp) (@zG _ _ _ _ _ (@zo _ _ 1 _ _ _ _ qj.nd rfl (.inl rfl) (@zS _ _ _ _ _ _ _ _ vF (@zM _ _ _ _ _ _ _ _ _ zT (by rfl) G.len JT (@zA _ _ _ _ _ (@qv _ 0 _ _ (by trivial)) zB (by rfl)) (by decide) (by decide) (by rfl) (by rfl)) zE) (by rfl) (by trivial)) (@zG _ _ _ _ _ (@yZ _ _ _ _ _ _ (@zL _ _ _ _ _ _ _ _ _ _ _ _ _ _ _ _ a.ok M (by rfl) a.m a.kp a.b .nil zW (@zA _ _ _ _ _ (@zu _ _ _ _ _ _ _ _ _ _ xx (@qv _ 0 _ _ (by trivial)) yD (@zi _ _ _ (@qv _ 1 _ _ (by trivial)))) zB (by rfl)) (by decide) (by rfl) (by rfl)) (@yU _ _ _ _ _ _ rfl (@zQ _ _ _ _ _ (@zP _ _ 2 _ qj.nd rfl (.inl rfl) (by trivial)) (@zQ _ _ _ _ _ (@zP _ _ 3 _ qj.nd rfl (.inl rfl) (by trivial)) yH (by rfl)) (by rfl)) (by rfl) (by rfl)) (by rfl) (by rfl) (by rfl)) (@zG _ _ _ _ _ (@yZ _ _ _ _ _ _ (@zL _ _ _ _ _ _ _ _ _ _ _ _ _ _ _ _ a.ok M (by rfl) a.m a.kp a.b .nil zW (@zA _ _ _ _ _ (@zu _ _ _ _ _ _ _ _ _ _ xx (@qv _ 0 _ _ (by trivial)) (@zi _ _ _ (@qv _ 1 _ _ (by trivial))) yD) zB (by rfl)) (by decide) (by rfl) (by rfl)) (@yU _ _ _ _ _ _ rfl (@zQ _ _ _ _ _ (@zP _ _ 4 _ qj.nd rfl (.inl rfl) (by trivial)) (@zQ _ _ _ _ _ (@zP _ _ 5 _ qj.nd rfl (.inl rfl) (by trivial)) yH (by rfl)) (by rfl)) (by rfl) (by rfl)) (by rfl) (by rfl) (by rfl)) (@zG _ _ _ _ _ (@yZ _ _ _ _ _ _ (@zL _ _ _ _ _ _ _ _ _ _ _ _ _ _ _ _ D.ok Y (by rfl) D.m D.kp D.b .nil zW (@zA _ _ _ _ _ (@qv _ 3 _ _ (by trivial)) (@zA _ _ _ _ _ (@qv _ 5 _ _ (by trivial)) zB (by rfl)) (by rfl)) (by decide) (by rfl) (by rfl)) (@yU _ _ _ _ _ _ rfl (@zQ _ _ _ _ _ (@zP _ _ 6 _ qj.nd rfl (.inl rfl) (by trivial)) (@zQ _ _ _ _ _ (@zP _ _ 7 _ qj.nd rfl (.inl rfl) (by trivial)) yH (by rfl)) (by rfl)) (by rfl) (by rfl)) (by rfl) (by rfl) (by rfl)) (@zK _ _ _ (@zU _ _ _ _ (@zX _ _ _ _ _ (@zA _ _ _ _ _ (@zS _ _ _ _ _ _ _ _ xn (@zS _ _ _ _ _ _ _ _ xn (@qv _ 2 _ _ (by trivial)) (@qv _ 4 _ _ (by trivial))) (@qv _ 6 _ _ (by trivial))) (@zA _ _ _ _ _ (@qv _ 7 _ _ (by trivial)) zB (by rfl)) (by rfl)))))))))),?_⟩;have nl:=zv row;have p8:2 ^ n<=2 ^ 4:=Z4 (by decide) S;have e8:2 ^ 4=16:=rfl;refine⟨_,rfl,p,_,rfl,.inl (SqL.of e),rfl,_,rfl,?_⟩
 cases n with
 | zero =>
  have O:row.length=1:=L;rw[Jx (show V.int (((zV row).length:Nat):Int)=V.int 1 by rw[nl,O];rfl)];refine yJ ⟨(by show 0<=sizeLine;decide),λl N=>⟨_,rfl,p,_,rfl,.inl (SqL.of (zC N _ _ _ e)),λle hle=>⟨(by show 2<=sizeLine;decide),λc g=>?_⟩⟩⟩;have J:=zC N (.lst []);have C:=zC hle (.lst (zV row));have d:=zC g (.tup [.ref l,.ref le])
  exact k c l le [] _ ((J.trans C).trans d) (zZ g _) (d _ _ (C _ _ (zZ N _))) trivial (d _ _ (zZ hle _))
 | succ m =>
  obtain⟨t1,t2,t3⟩:=ww L;obtain⟨la,lb⟩:=wK L;have pw:2 ^ (m+1)=2 ^ m*2:=Zr ..;have p0:=ZD (n:=m);rw[Jr (show ¬ V.int (((zV row).length:Nat):Int)=V.int 1 by intro z;injection z with z;lia)];refine zx ⟨_,rfl,p,_,rfl,.inl (SqL.of e),_,_,rfl,rfl,⟨by decide,by decide⟩,?_⟩;have eh:(((zV row).length:Nat):Int) / 2=((row.length / 2:Nat):Int):=by rw[nl];lia
  simp only[eh];refine⟨_,rfl,_,rfl,_,rfl,p,_,rfl,SqL.of e,λp1 v=>?_⟩;rw[nX row _ t3];have J:=zC v (.lst (zV (row.take (row.length / 2))));refine⟨m,rfl,p1,row.take (row.length / 2),rfl,zZ v _,la,by lia,λc2 W le2 j H2 C a5 ao r a0=>?_⟩;have u2:=J.trans C;refine⟨c2,_,rfl,SqT.of a5,rfl,_,_,rfl,_,_,rfl,rfl,?_⟩;refine⟨_,rfl,_,rfl,_,rfl,p,_,rfl,SqL.of (u2 _ _ e),λp3 u=>?_⟩;rw[nY row _ t3];have d:=zC u (.lst (zV (row.drop (row.length / 2))));refine⟨m,rfl,p3,row.drop (row.length / 2),rfl,zZ u _,lb,by lia,λc4 U X i H4 s4 a4 ab q aT=>?_⟩;have B:=d.trans s4;refine⟨c4,_,rfl,SqT.of a4,rfl,_,_,rfl,_,_,rfl,rfl,?_⟩;obtain⟨xl,xf⟩:=wP m _ la;obtain⟨yl,yf⟩:=wP m _ lb;obtain⟨zl,zf⟩:=xR m _ _ xl yl;have a8:=r.len;have a7:=q.len;obtain⟨bo,ba⟩:=w6 m (by lia);refine⟨_,rfl,_,rfl,m,by lia,le2,X,_,_,rfl,B _ _ a0,aT,xl,yl,by lia,λc6 T t R H6 b _ a3 Z o ax=>?_⟩;refine⟨c6,_,rfl,SqT.of a3,rfl,_,_,rfl,_,_,rfl,rfl,?_⟩;have a6:=o.len;refine⟨_,rfl,_,rfl,W,U,_,_,rfl,rfl,b _ _ (B _ _ ao),b _ _ ab,by rw[JH];lia,λl7 y=>?_⟩;have s7:=zC y (.lst (j++i));refine⟨_,rfl,l7,T,_,_,rfl,rfl,zZ y _,s7 _ _ Z,by rw[JH,Jb];lia,λl8 x=>?_⟩;have s8:=zC x (.lst ((j++i)++R));refine⟨_,rfl,(by show 2<=sizeLine;decide),λc g=>?_⟩;have s9:=zC g (.tup [.ref l8,.ref t]);have I:=(s7.trans s8).trans s9;refine k c l8 t _ _ ((u2.trans B).trans (b.trans I)) (zZ g _) (s9 _ _ (zZ x _)) ?_ (I _ _ ax);refine Prs.tups (Tups.of I) ?_;exact Prs.app (Prs.app ((r.tups (Tups.of B)).tups (Tups.of b)) (q.tups (Tups.of b))) o
theorem mV {f d:Addr}{fd e:FuncData}(F:Fun K "_law_stairway" "_law_stairway" qo f fd) (G:Mgs mg) (c:Use P w K mg base "_law_merger" ["_law_one","_law_other"] 5 wG d e) (b:Binds K fd ["_law_row"] []) (a:mg "_law_stairway" = some (.ref f)):∀ n:Nat,FnOk P w K mg base CX0 (n+6) f fd ["_law_row"] (uP n)
 | 0=>pJ F G c b a 0 ⟨λvs H Q E ⟨m,h,_⟩=>by simp_all,λA outer s H args us vs Q E _ _ _ _ ⟨m,h,_⟩=>by simp_all⟩
 | m+1=>pJ F G c b a (m+1) ((mV F G c b a m).imp λvs H Q E ⟨g,h,q⟩=>by cases h;exact q)
noncomputable abbrev uQ:Sp:=λa H Q E=>∃ m,m<=4/\uP m a H Q E
theorem kS {f b:Addr}{fd c:FuncData}(F:Fun K "_law_stairway" "_law_stairway" qo f fd) (G:Mgs mg) (e:Use P w K mg base "_law_merger" ["_law_one","_law_other"] 5 wG b c) (d:Binds K fd ["_law_row"] []) (a:mg "_law_stairway" = some (.ref f)):FnOk P w K mg base CX0 10 f fd ["_law_row"] uQ :=
 FnOk.any 4 λm g=>(mV F G e d a m).mono (by simp_all)
noncomputable abbrev qm:Stmt:=top 25
noncomputable def uN (m:Nat):Sp:=λd H Q _=>∃ p row,d=[.ref p]/\H p=some (.lst (zV row))/\row.length=2 ^ m/\m<=4/\∀ c lf le b a,Same H a->a c=some (.tup [.ref lf,.ref le])->a lf=some (.lst b)->Prs a b (xT m row).1->a le=some (.lst (zV (xT m row).2))->Q (.ref c) a
theorem rW:FnScope ["_law_row","_law_half","_law_forks","_law_one","_law_more_here","_law_other","_law_ends","_law_x","_law_y"] ["_law_row"] (zN qm):=by trivial
theorem pI {f:Addr}{fd:FuncData}(F:Fun K "_law_tree" "_law_tree" qm f fd) (G:Mgs mg) (bS:Binds K fd ["_law_row"] []) (mS:mg "_law_tree" = some (.ref f)) (n:Nat)
  (GS:FnOk P w K mg base CX0 n f fd ["_law_row"] (λvs H Q E=>∃ m,n=m+1/\uN m vs H Q E)):FnOk P w K mg base CX0 (n+1) f fd ["_law_row"] (uN n):=by
 have u:Use P w K mg base "_law_tree" ["_law_row"] n (λvs H Q E=>∃ m,n=m+1/\uN m vs H Q E) f fd:=⟨GS,bS,F.kp,mS⟩;refine F.ok rW (λvs H Q E h=>?_) (λb3 A outer s H vs Q E hr h=>?_)
 ·obtain⟨p,row,rfl,_⟩:=h
  rfl
 obtain⟨p,row,rfl,D,rl,a5,k⟩:=h;refine⟨_,(@zG _ _ _ _ _ (@yT _ _ _ _ _ _ _ _ (@zt _ _ _ _ _ _ _ _ xv (@zM _ _ _ _ _ _ _ _ _ zT (by rfl) G.len JT (@zA _ _ _ _ _ (@qv _ 0 _ _ (by trivial)) zB (by rfl)) (by decide) (by decide) (by rfl) (by rfl)) zE (yE _)) (@zK _ _ _ (@zU _ _ _ _ (@zX _ _ _ _ _ (@zA _ _ _ _ _ (@yG _ _ _ _ zB) (@zA _ _ _ _ _ (@zr _ _ _ _ _ _ _ _ _ yt (by rfl) G.list (by rfl) (@zA _ _ _ _ _ (@qv _ 0 _ _ (by trivial)) zB (by rfl)) (by decide) (by decide) (by rfl) (by rfl)) zB (by rfl)) (by rfl))))) zp) (@zG _ _ _ _ _ (@zo _ _ 1 _ _ _ _ rW.nd rfl (.inl rfl) (@zS _ _ _ _ _ _ _ _ vF (@zM _ _ _ _ _ _ _ _ _ zT (by rfl) G.len JT (@zA _ _ _ _ _ (@qv _ 0 _ _ (by trivial)) zB (by rfl)) (by decide) (by decide) (by rfl) (by rfl)) zE) (by rfl) (by trivial)) (@zG _ _ _ _ _ (@yZ _ _ _ _ _ _ (@zL _ _ _ _ _ _ _ _ _ _ _ _ _ _ _ _ u.ok hr (by rfl) u.m u.kp u.b .nil zW (@zA _ _ _ _ _ (@zu _ _ _ _ _ _ _ _ _ _ xx (@qv _ 0 _ _ (by trivial)) yD (@zi _ _ _ (@qv _ 1 _ _ (by trivial)))) zB (by rfl)) (by decide) (by rfl) (by rfl)) (@yU _ _ _ _ _ _ rfl (@zQ _ _ _ _ _ (@zP _ _ 2 _ rW.nd rfl (.inl rfl) (by trivial)) (@zQ _ _ _ _ _ (@zP _ _ 3 _ rW.nd rfl (.inl rfl) (by trivial)) yH (by rfl)) (by rfl)) (by rfl) (by rfl)) (by rfl) (by rfl) (by rfl)) (@zG _ _ _ _ _ (@yZ _ _ _ _ _ _ (@zL _ _ _ _ _ _ _ _ _ _ _ _ _ _ _ _ u.ok hr (by rfl) u.m u.kp u.b .nil zW (@zA _ _ _ _ _ (@zu _ _ _ _ _ _ _ _ _ _ xx (@qv _ 0 _ _ (by trivial)) (@zi _ _ _ (@qv _ 1 _ _ (by trivial))) yD) zB (by rfl)) (by decide) (by rfl) (by rfl)) (@yU _ _ _ _ _ _ rfl (@zQ _ _ _ _ _ (@zP _ _ 4 _ rW.nd rfl (.inl rfl) (by trivial)) (@zQ _ _ _ _ _ (@zP _ _ 5 _ rW.nd rfl (.inl rfl) (by trivial)) yH (by rfl)) (by rfl)) (by rfl) (by rfl)) (by rfl) (by rfl) (by rfl)) (@zG _ _ _ _ _ (@zo _ _ 6 _ _ _ _ rW.nd rfl (.inl rfl) (@yG _ _ _ _ zB) (by rfl) (by trivial)) (@zG _ _ _ _ _ (@y7 _ _ _ _ _ _ _ _ Ye rfl (@iZ _ _ _ _ _ _ _ _ _ true true rfl G.zip (@zA _ _ _ _ _ (@qv _ 3 _ _ (by trivial)) (@zA _ _ _ _ _ (@qv _ 5 _ _ (by trivial)) zB (by rfl)) (by rfl)) (by rfl) (by rfl)) (@yU _ _ _ _ _ _ rfl (@zQ _ _ _ _ _ (@zP _ _ 7 _ rW.nd rfl (.inl rfl) (by trivial)) (@zQ _ _ _ _ _ (@zP _ _ 8 _ rW.nd rfl (.inl rfl) (by trivial)) yH (by rfl)) (by rfl)) (by rfl) (by rfl)) (@zK _ _ _ (@xh _ _ _ _ (@uh _ _ _ _ _ _ _ _ _ _ _ _ YV PySem.F.slot_list_extend PySem.F.type_list_extend vV (@qv _ 6 _ _ (by trivial)) (@zA _ _ _ _ _ (@yG _ _ _ _ (@zA _ _ _ _ _ (@qv _ 7 _ _ (by trivial)) (@zA _ _ _ _ _ (@qv _ 8 _ _ (by trivial)) zB (by rfl)) (by rfl))) zB (by rfl)) (by rfl) (by rfl) (by rfl) (by rfl) (by rfl)) (by rfl))) (by intro _;rfl)) (@zK _ _ _ (@zU _ _ _ _ (@zX _ _ _ _ _ (@zA _ _ _ _ _ (@zS _ _ _ _ _ _ _ _ xn (@zS _ _ _ _ _ _ _ _ xn (@yG _ _ _ _ (@zA _ _ _ _ _ (@zX _ _ _ _ _ (@zA _ _ _ _ _ (@zj _ _ _ _ _ _ _ zw (@qv _ 0 _ _ (by trivial)) zE (λ_ _=>rfl)) (@zA _ _ _ _ _ (@zj _ _ _ _ _ _ _ zw (@qv _ 0 _ _ (by trivial)) (@qv _ 1 _ _ (by trivial)) (λ_ _=>rfl)) zB (by rfl)) (by rfl))) zB (by rfl))) (@qv _ 2 _ _ (by trivial))) (@qv _ 4 _ _ (by trivial))) (@zA _ _ _ _ _ (@qv _ 6 _ _ (by trivial)) zB (by rfl)) (by rfl))))))))))),?_⟩;have nl:=zv row;have p8:2 ^ n<=2 ^ 4:=Z4 (by decide) a5;have e8:2 ^ 4=16:=rfl;refine⟨_,rfl,p,_,rfl,.inl (SqL.of D),rfl,_,rfl,?_⟩
 cases n with
 | zero =>
  have a3:row.length=1:=rl;rw[Jx (show V.int (((zV row).length:Nat):Int)=V.int 1 by rw[nl,a3];rfl)];refine yJ ⟨(by show 0<=sizeLine;decide),λl hl=>⟨_,rfl,p,_,rfl,.inl (SqL.of (zC hl _ _ _ D)),λle hle=>⟨(by show 2<=sizeLine;decide),λc J=>?_⟩⟩⟩;have s1:=zC hl (.lst []);have s2:=zC hle (.lst (zV row));have I:=zC J (.tup [.ref l,.ref le])
  exact k c l le [] _ ((s1.trans s2).trans I) (zZ J _) (I _ _ (s2 _ _ (zZ hl _))) trivial (I _ _ (zZ hle _))
 | succ m =>
  obtain⟨t1,t2,t3⟩:=ww rl;obtain⟨la,lb⟩:=wK rl;have pw:2 ^ (m+1)=2 ^ m*2:=Zr ..;have p0:=ZD (n:=m);rw[Jr (show ¬ V.int (((zV row).length:Nat):Int)=V.int 1 by intro z;injection z with z;lia)];refine zx ⟨_,rfl,p,_,rfl,.inl (SqL.of D),_,_,rfl,rfl,⟨by decide,by decide⟩,?_⟩;have eh:(((zV row).length:Nat):Int) / 2=((row.length / 2:Nat):Int):=by rw[nl];lia
  simp only[eh];refine⟨_,rfl,_,rfl,_,rfl,p,_,rfl,SqL.of D,λp1 ax=>?_⟩;rw[nX row _ t3];have s1:=zC ax (.lst (zV (row.take (row.length / 2))));refine⟨m,rfl,p1,row.take (row.length / 2),rfl,zZ ax _,la,by lia,λc2 W le2 O H2 s2 bo a8 S a9=>?_⟩;have u2:=s1.trans s2;refine⟨c2,_,rfl,SqT.of bo,rfl,_,_,rfl,_,_,rfl,rfl,?_⟩;refine⟨_,rfl,_,rfl,_,rfl,p,_,rfl,SqL.of (u2 _ _ D),λp3 Z=>?_⟩;rw[nY row _ t3];have I:=zC Z (.lst (zV (row.drop (row.length / 2))));refine⟨m,rfl,p3,row.drop (row.length / 2),rfl,zZ Z _,lb,by lia,λc4 U g a4 H4 s4 ba a7 R C=>?_⟩;have u4:=I.trans s4;refine⟨c4,_,rfl,SqT.of ba,rfl,_,_,rfl,_,_,rfl,rfl,?_⟩;have B:=u2.trans u4;obtain⟨xl,xf⟩:=wx m _ la;obtain⟨yl,yf⟩:=wx m _ lb;have bt:=S.len;have bq:=R.len;have b:=u4 _ _ a9;have ao:=u4 _ _ a8;have ab:=S.tups (Tups.of u4);have a6:=B _ _ D;generalize hF:(xT m (row.take (row.length / 2))).2=fst at *;generalize hS:(xT m (row.drop (row.length / 2))).2=snd at *;refine⟨(by show 0<=sizeLine;decide),λr a=>?_⟩;have s8:=zC a (.lst []);have b0:H r=none:=wJ B a;have bB:le2≠r:=zH b a;have bu:g≠r:=zH C a;refine⟨_,rfl,_,rfl,le2,g,_,_,rfl,SqL.of (s8 _ _ b),SqL.of (s8 _ _ C),?_⟩;refine lC (K:=K) (b1:=true) (b2:=true) (a1:=le2) (a2:=g) (xs:=zV fst) (ys:=zV snd) (by rw[zv,zv,xl,yl]) (λj σ M=>(∃ v7 v8,σ=[some (.ref p),some (.int ((row.length / 2:Nat):Int)),some (.ref W),some (.ref le2),some (.ref U),some (.ref g),some (.ref r),v7,v8])/\Same H4 M/\M r=some (.lst (zV (yY (fst.take j) (snd.take j))))) ⟨⟨_,_,rfl⟩,s8,zZ a _⟩ (λj σ M _ z=>⟨SqL.of (z.2.1 _ _ b),SqL.of (z.2.1 _ _ C)⟩) ?_ ?_
  ·rintro j x y T σ M hx hy hT ⟨⟨v7,v8,rfl⟩,i,L⟩
   obtain⟨j1,rfl⟩:=qE hx;obtain⟨j2,rfl⟩:=qE hy;have sT:=zC hT (.tup [.int ((fst.getD j 0:Nat):Int),.int ((snd.getD j 0:Nat):Int)]);refine⟨T,_,rfl,SqT.of zD,rfl,_,_,rfl,_,_,rfl,rfl,?_⟩;refine⟨_,rfl,.inl ⟨rfl,_,SqL.of (sT _ _ L)⟩,_,rfl,_,rfl,(by show 2<=sizeLine;decide),λq hq=>?_⟩;have sq:=zC hq (.lst [.int ((fst.getD j 0:Nat):Int),.int ((snd.getD j 0:Nat):Int)]);have tl:=xS (fst.take j) (snd.take j) (by rw[Js,Js];lia);rw[Js]at tl;refine⟨r,q,_,_,rfl,rfl,sq _ _ (sT _ _ L),zZ hq _,by rw[zv,JH,tl];show _+2<=_;grind,?_⟩;refine⟨⟨_,_,rfl⟩,λc o e=>?_,?_⟩
   ·rw[zJ (zH e a)];exact sq _ _ (sT _ _ (i c o e))
   ·rw[wd fst snd j j1 j2]
    have e:zV (yY (fst.take j) (snd.take j)++[fst.getD j 0,snd.getD j 0])=zV (yY (fst.take j) (snd.take j))++[.int ((fst.getD j 0:Nat):Int),.int ((snd.getD j 0:Nat):Int)]:=by rw[<- gK];rfl
    rw[e];exact zD
  ·rintro σ M ⟨⟨v7,v8,rfl⟩,i,L⟩
   rw[JR (by rw[zv];exact Jc _),JR (by rw[zv];simp_all)]at L;have Y:=i _ _ a6;refine⟨_,rfl,p,_,0,_,rfl,rfl,SqL.of Y,yM (j:=0) (nZ row 0 (by lia)),?_⟩;refine⟨_,rfl,_,rfl,p,_,_,_,rfl,rfl,SqL.of Y,yM (nZ row (row.length / 2) (by lia)),(by show 2<=sizeLine;decide),λt ht=>?_⟩;have s5:=zC ht (.tup [.int ((row.getD 0 0:Nat):Int),.int ((row.getD (row.length / 2) 0:Nat):Int)]);refine⟨(by show 1<=sizeLine;decide),λl6 a0=>?_⟩;have s6:=zC a0 (.lst [.ref t]);refine⟨_,rfl,l6,W,_,_,rfl,rfl,zZ a0 _,s6 _ _ (s5 _ _ (i _ _ ao)),by rw[JH];simp only[JV,Zz];lia,λl7 aT=>?_⟩;have s7:=zC aT (.lst ([.ref t]++O));refine⟨_,rfl,l7,U,_,_,rfl,rfl,zZ aT _,s7 _ _ (s6 _ _ (s5 _ _ (i _ _ a7))),by rw[JH,Jb];simp only[JV,Zz];lia,λX v=>?_⟩;have N:=zC v (.lst (([.ref t]++O)++a4));have u8:=((s5.trans s6).trans s7).trans N;refine⟨_,rfl,(by show 2<=sizeLine;decide),λc J=>?_⟩;have d:=zC J (.tup [.ref X,.ref r]);have t8:=N _ _ (s7 _ _ (s6 _ _ (zZ ht (.tup [.int ((row.getD 0 0:Nat):Int),.int ((row.getD (row.length / 2) 0:Nat):Int)]))));have eN:xT (m+1) row=((row.getD 0 0,row.getD (row.length / 2) 0)::((xT m (row.take (row.length / 2))).1++(xT m (row.drop (row.length / 2))).1),yY fst snd):=by rw[<- hF,<- hS];rfl
   refine k c X r _ _ (B.trans (i.trans (u8.trans d))) (zZ J _) (d _ _ (zZ v _)) ?_ (by rw[eN];exact d _ _ (u8 _ _ L));refine Prs.tups (Tups.of d) ?_;rw[Y2,eN];exact Prs.app (ps:=[.ref t]) (fs:=[(row.getD 0 0,row.getD (row.length / 2) 0)]) (show Prs _ [.ref t] [(row.getD 0 0,row.getD (row.length / 2) 0)] from⟨⟨t,rfl,t8⟩,trivial⟩) (Prs.app ((ab.tups (Tups.of i)).tups (Tups.of u8)) ((R.tups (Tups.of i)).tups (Tups.of u8)))
theorem mU {f:Addr}{fd:FuncData}(F:Fun K "_law_tree" "_law_tree" qm f fd) (G:Mgs mg) (b:Binds K fd ["_law_row"] []) (a:mg "_law_tree" = some (.ref f)):∀ n:Nat,FnOk P w K mg base CX0 (n+1) f fd ["_law_row"] (uN n)
 | 0=>pI F G b a 0 ⟨λvs H Q E ⟨m,h,_⟩=>by simp_all,λA outer s H args us vs Q E _ _ _ _ ⟨m,h,_⟩=>by simp_all⟩
 | m+1=>pI F G b a (m+1) ((mU F G b a m).imp λvs H Q E ⟨c,h,q⟩=>by cases h;exact q)
noncomputable abbrev uO:Sp:=λa H Q E=>∃ m,m<=4/\uN m a H Q E
theorem kR {f:Addr}{fd:FuncData}(F:Fun K "_law_tree" "_law_tree" qm f fd) (G:Mgs mg) (b:Binds K fd ["_law_row"] []) (a:mg "_law_tree" = some (.ref f)):FnOk P w K mg base CX0 5 f fd ["_law_row"] uO :=
 FnOk.any 4 λm c=>(mU F G b a m).mono (by simp_all)
end
end K39
namespace K39
open PySem L2 Own Bn
noncomputable abbrev qr:Stmt:=top 24
noncomputable def uX (m:Nat):Sp:=λc H Q _=>∃ p row,c=[.ref p]/\H p=some (.lst (zV row))/\row.length=2 ^ m/\m<=4/\∀ l b a,Same H a->a l=some (.lst b)->Prs a b (xt m row)->Q (.ref l) a
theorem cq (row:List Nat)(j:Nat)(h:j<row.length):row.reverse.getD j 0=row.getD (row.length-1-j) 0:=by
 rw[Jz,List.getElem?_reverse h,Jz]
section
variable {P:Program}{w:World}{K:PySem.W.Frag}{mg:Str->Option Value}{base:Heap}
theorem cQ:FnScope ["_law_row","_law_half","_law_forks"] ["_law_row"] (zN qr):=by trivial
theorem pL {f:Addr}{fd:FuncData}(F:Fun K "_law_block" "_law_block" qr f fd) (G:Mgs mg) (bS:Binds K fd ["_law_row"] []) (mS:mg "_law_block" = some (.ref f)) (n:Nat)
  (GS:FnOk P w K mg base CX0 n f fd ["_law_row"] (λvs H Q E=>∃ m,n=m+1/\uX m vs H Q E)):FnOk P w K mg base CX0 (n+1) f fd ["_law_row"] (uX n):=by
 have d:Use P w K mg base "_law_block" ["_law_row"] n (λvs H Q E=>∃ m,n=m+1/\uX m vs H Q E) f fd:=⟨GS,bS,F.kp,mS⟩;refine F.ok cQ (λvs H Q E h=>?_) (λa6 A outer s H vs Q E hr h=>?_)
 ·obtain⟨p,row,rfl,_⟩:=h
  rfl
 obtain⟨p,row,rfl,v,W,aT,k⟩:=h;refine⟨_,(@zG _ _ _ _ _ (@yT _ _ _ _ _ _ _ _ (@zt _ _ _ _ _ _ _ _ xv (@zM _ _ _ _ _ _ _ _ _ zT (by rfl) G.len JT (@zA _ _ _ _ _ (@qv _ 0 _ _ (by trivial)) zB (by rfl)) (by decide) (by decide) (by rfl) (by rfl)) zE (yE _)) (@zK _ _ _ (@zU _ _ _ _ (@yG _ _ _ _ zB))) zp) (@zG _ _ _ _ _ (@zo _ _ 1 _ _ _ _ cQ.nd rfl (.inl rfl) (@zS _ _ _ _ _ _ _ _ vF (@zM _ _ _ _ _ _ _ _ _ zT (by rfl) G.len JT (@zA _ _ _ _ _ (@qv _ 0 _ _ (by trivial)) zB (by rfl)) (by decide) (by decide) (by rfl) (by rfl)) zE) (by rfl) (by trivial)) (@zG _ _ _ _ _ (@qy _ 2 _ _ _ _ none _ _ _ _ _ _ _ _ ["_law_i","_law_row"] [none,some 0] cQ.nd rfl rfl rfl (@xu _ _ _ _ _ _ rfl G.range (@zA _ _ _ _ _ (@qv _ 1 _ _ (by trivial)) zB (by rfl)) (by rfl)) (CapOk.of (by kernel_rfl)) (λ_ _ _ _ _=>(@zP _ _ 0 _ (show (["_law_i","_law_row"]:List Str).Nodup from by decide +kernel) rfl (.inl rfl) (.inr rfl))) (λ_ _ _ _ _=>x9) (λ_ _ _ _ _=>(@zX _ _ _ _ _ (@zA _ _ _ _ _ (@zj _ _ _ _ _ _ (cv K) zw (@qv _ 1 _ _ (by trivial)) (@qv _ 0 _ _ (by trivial)) (λ_ _=>rfl)) (@zA _ _ _ _ _ (@zj _ _ _ _ _ _ (cv K) zw (@qv _ 1 _ _ (by trivial)) (@zS _ _ _ _ _ _ _ _ vT (@zS _ _ _ _ _ _ _ _ vT (@zM _ _ _ _ _ _ _ _ (dh K) jc (by rfl) G.len JT (@zA _ _ _ _ _ (@qv _ 1 _ _ (by trivial)) zB (by rfl)) (by decide) (by decide) (by rfl) (by rfl)) zE) (@qv _ 0 _ _ (by trivial))) (λ_ _=>rfl)) zB (by rfl)) (by rfl)))) (by intro _;rfl) (by with_unfolding_all rfl)) (@zK _ _ _ (@zU _ _ _ _ (@zS _ _ _ _ _ _ _ _ xn (@zS _ _ _ _ _ _ _ _ xn (@qv _ 2 _ _ (by trivial)) (@zL _ _ _ _ _ _ _ _ _ _ _ _ _ _ _ _ d.ok hr (by rfl) d.m d.kp d.b .nil zW (@zA _ _ _ _ _ (@zu _ _ _ _ _ _ _ _ _ _ xx (@qv _ 0 _ _ (by trivial)) yD (@zi _ _ _ (@qv _ 1 _ _ (by trivial)))) zB (by rfl)) (by decide) (by rfl) (by rfl))) (@zL _ _ _ _ _ _ _ _ _ _ _ _ _ _ _ _ d.ok hr (by rfl) d.m d.kp d.b .nil zW (@zA _ _ _ _ _ (@zu _ _ _ _ _ _ _ _ _ _ xx (@qv _ 0 _ _ (by trivial)) (@zi _ _ _ (@qv _ 1 _ _ (by trivial))) yD) zB (by rfl)) (by decide) (by rfl) (by rfl)))))))),?_⟩;have nl:=zv row;have p8:2 ^ n<=2 ^ 4:=Z4 (by decide) aT;have e8:2 ^ 4=16:=rfl;refine⟨_,rfl,p,_,rfl,.inl (SqL.of v),rfl,_,rfl,?_⟩
 cases n with
 | zero =>
  have ao:row.length=1:=W;rw[Jx (show V.int (((zV row).length:Nat):Int)=V.int 1 by rw[nl,ao];rfl)]
  exact yJ ⟨(by show 0<=sizeLine;decide),λl hl=>k l [] _ (zC hl _) (zZ hl _) trivial⟩
 | succ m =>
  obtain⟨t1,t2,t3⟩:=ww W;obtain⟨la,lb⟩:=wK W;have pw:2 ^ (m+1)=2 ^ m*2:=Zr ..;have p0:=ZD (n:=m);rw[Jr (show ¬ V.int (((zV row).length:Nat):Int)=V.int 1 by intro z;injection z with z;lia)];refine zx ⟨_,rfl,p,_,rfl,.inl (SqL.of v),_,_,rfl,rfl,⟨by decide,by decide⟩,?_⟩;have eh:(((zV row).length:Nat):Int) / 2=((row.length / 2:Nat):Int):=by rw[nl];lia
  simp only[eh];refine⟨_,rfl,((row.length / 2:Nat):Int),rfl,by lia,by lia,λlc J=>?_⟩;refine gO (lo:=0) (n:=((row.length / 2:Nat):Int).toNat) (λj acc σ r=>(∃ N,σ=[N,some (.ref p)])/\Same H r/\r lc=some (.lst acc)/\acc.length=j/\Prs r acc (((row.take (row.length / 2)).zip row.reverse).take j)) ⟨⟨_,rfl⟩,zC J _,zD,rfl,trivial⟩ (λj acc σ r z=>z.2.2.1) ?_ ?_
  ·rintro j acc σ r hj ⟨⟨N,rfl⟩,u,Y,al,a⟩
   have jl:j<row.length / 2:=by lia
   have b:=u _ _ v;have e0:(0:Int)+((j:Nat):Int)=((j:Nat):Int):=Int.zero_add _;refine⟨_,rfl,_,rfl,p,_,_,_,rfl,rfl,SqL.of b,(by rw[e0];exact yM (nZ row j (by grind))),?_⟩;refine⟨_,rfl,_,rfl,p,_,rfl,.inl (SqL.of b),_,_,rfl,rfl,_,rfl,_,_,rfl,rfl,?_⟩;have ei:(((zV row).length:Nat):Int)-1-(0+((j:Nat):Int))=((row.length-1-j:Nat):Int):=by rw[nl];grind
   refine⟨p,_,_,_,rfl,rfl,SqL.of b,(by rw[ei];exact yM (nZ row (row.length-1-j) (by lia))),?_⟩;rw[<- cq row j (by grind)];refine⟨(by show 2<=sizeLine;decide),λt ht=>?_⟩;have U:=zC ht (.tup [.int ((row.getD j 0:Nat):Int),.int ((row.reverse.getD j 0:Nat):Int)]);have X:=U _ _ Y;refine⟨X,by rw[JH];lia,nx hj ⟨⟨_,rfl⟩,λc o e=>?_,zD,by rw[Jb,al];rfl,?_⟩⟩
   ·rw[zJ (zH e J)];exact U _ _ (u c o e)
   ·rw[qX (by rw[Js];simp_all) (by rw[Z7];grind)]
    refine Prs.add (f:=((row.take (row.length / 2)).getD j 0,row.reverse.getD j 0)) ?_ ((a.tups (Tups.of U)).tups (Tups.lst X));rw[Tups.lst X _ _ (zZ ht _),Jz (l:=row.take _),Z5 jl,<- Jz]
  rintro acc σ r ⟨⟨N,rfl⟩,u,Y,al,a⟩;rw[Yp]at al a;rw[JR (by rw[ZA,Js,Z7];simp_all)]at a;have b:=u _ _ v;refine⟨_,rfl,_,rfl,_,rfl,_,rfl,p,_,rfl,SqL.of b,λp5 I=>?_⟩;rw[nX row _ t3];have s5:=zC I (.lst (zV (row.take (row.length / 2))));refine⟨m,rfl,p5,row.take (row.length / 2),rfl,zZ I _,la,by lia,λl6 q H7 ab a3 g=>?_⟩;have S:=s5.trans ab;have b6:=xw m (row.take (row.length / 2));rw[la]at b6;have a7:m*2 ^ m<=4*16:=Nat.mul_le_mul (by lia) (by lia);have a5:=g.len;refine⟨lc,l6,_,_,rfl,rfl,S _ _ Y,a3,by rw[JH];lia,λl7 L=>?_⟩;have T:=zC L (.lst (acc++q));have B:=(Prs.app (a.tups (Tups.of S)) g).tups (Tups.of T);have R:=u.trans (S.trans T);have D:=R _ _ v;have h8:=zZ L (.lst (acc++q));generalize L2.upd H7 l7 _=H8 at T B R D h8 ⊢;refine⟨_,rfl,_,rfl,_,rfl,p,_,rfl,SqL.of D,λp9 C=>?_⟩;rw[nY row _ t3];have s9:=zC C (.lst (zV (row.drop (row.length / 2))));refine⟨m,rfl,p9,row.drop (row.length / 2),rfl,zZ C _,lb,by lia,λl9 ax H9 Z h9 y=>?_⟩;have O:=s9.trans Z;have b9:=xw m (row.drop (row.length / 2));rw[lb]at b9;have a4:=y.len;refine⟨l7,l9,_,_,rfl,rfl,O _ _ h8,h9,by rw[Jb,JH];lia,λa0 i=>?_⟩;have x:=zC i (.lst ((acc++q)++ax));have M:=(Prs.app (B.tups (Tups.of O)) y).tups (Tups.of x);refine k a0 _ _ (R.trans (O.trans x)) (zZ i _) ?_
  have e:xt (m+1) row=(row.take (row.length / 2)).zip row.reverse++xt m (row.take (row.length / 2))++xt m (row.drop (row.length / 2)):=by
   conv=>lhs;unfold xt
   rw[Je (by lia)]
  rw[e];exact M
theorem mY {f:Addr}{fd:FuncData}(F:Fun K "_law_block" "_law_block" qr f fd) (G:Mgs mg) (b:Binds K fd ["_law_row"] []) (a:mg "_law_block" = some (.ref f)):∀ n:Nat,FnOk P w K mg base CX0 (n+1) f fd ["_law_row"] (uX n)
 | 0=>pL F G b a 0 ⟨λvs H Q E ⟨m,h,_⟩=>by simp_all,λA outer s H args us vs Q E _ _ _ _ ⟨m,h,_⟩=>by simp_all⟩
 | m+1=>pL F G b a (m+1) ((mY F G b a m).imp λvs H Q E ⟨c,h,q⟩=>by cases h;exact q)
noncomputable abbrev uY:Sp:=λa H Q E=>∃ m,m<=4/\uX m a H Q E
theorem kf {f:Addr}{fd:FuncData}(F:Fun K "_law_block" "_law_block" qr f fd) (G:Mgs mg) (b:Binds K fd ["_law_row"] []) (a:mg "_law_block" = some (.ref f)):FnOk P w K mg base CX0 5 f fd ["_law_row"] uY :=
 FnOk.any 4 λm c=>(mY F G b a m).mono (by simp_all)
noncomputable abbrev iN:Stmt:=top 26
noncomputable def xG (way k:Nat):Nt:=if way=0 then wf k else if way=1 then uL k else x6 k
theorem mZ {way k:Nat}(h:k<5):(xG way k).Ok:=by
 unfold xG;split
 ·exact iA h
 ·split
  ·exact fE h
  ·exact kF h
theorem nW (way k:Nat):(xG way k).lanes=2 ^ k:=by
 unfold xG;split
 ·rfl
 ·split<;>rfl
noncomputable def ou:Sp:=λb H Q _=>∃ way k:Nat,b=[.int (way:Nat),.int (k:Nat)]/\k<5/\∀ r fr d c a,Same H a->NetAt a r fr d c (xG way k)->Q (.ref r) a
theorem qA {H:Hp}{ps:List V}{fs:List Fk}(h:Prs H ps fs):∀ n:Nat,Prs H (List.replicate n ps).flatten (List.replicate n fs).flatten
 | 0=>trivial
 | n+1=>by
  rw[Ym,Ym,ZE,ZE];exact Prs.app h (qA h n)
theorem ow:FnScope ["_law_way","_law_k","_law_row","_law_forks","_law_ends"] ["_law_way","_law_k"] (zN iN):=by trivial
theorem eJ {f fB fS fT:Addr}{fd dB dS dT:FuncData}(F:Fun K "_law_made" "_law_made" iN f fd) (G:Mgs mg) (UB:Use P w K mg base "_law_block" ["_law_row"] 5 uY fB dB) (US:Use P w K mg base "_law_stairway" ["_law_row"] 10 uQ fS dS) (Z:Use P w K mg base "_law_tree" ["_law_row"] 5 uO fT dT):FnOk P w K mg base CX0 11 f fd ["_law_way","_law_k"] ou:=by
 refine F.ok ow (λvs H Q E h=>?_) (λax A outer s H vs Q E hr h=>?_)
 ·obtain⟨way,k,rfl,_⟩:=h
  rfl
 obtain⟨way,k,rfl,k5,q⟩:=h;have L:Room 5 _:=hr.mono (by decide);refine⟨_,(@zG _ _ _ _ _ (@zo _ _ 2 _ _ _ _ ow.nd rfl (.inl rfl) (@kM _ _ _ _ _ _ _ rfl (by rfl) G.list (by rfl) G.range (@zA _ _ _ _ _ (@zj _ _ _ _ _ _ _ zw (@yG _ _ _ _ (@zA _ _ _ _ _ zE (@zA _ _ _ _ _ zE (@zA _ _ _ _ _ zE (@zA _ _ _ _ _ zE (@zA _ _ _ _ _ zE zB (by rfl)) (by rfl)) (by rfl)) (by rfl)) (by rfl))) (@qv _ 1 _ _ (by trivial)) (λ_ _=>rfl)) zB (by rfl)) (by rfl) (by rfl)) (by rfl) (by trivial)) (@zG _ _ _ _ _ (@r0 _ _ 3 4 _ _ _ _ _ _ _ _ _ _ _ rfl ow.nd rfl rfl (by decide) rfl rfl (@zA _ _ _ _ _ (@zS _ _ _ _ _ _ _ _ bA (@zL _ _ _ _ _ _ _ _ _ _ _ _ _ _ _ _ UB.ok L (by rfl) UB.m UB.kp UB.b .nil zW (@zA _ _ _ _ _ (@qv _ 2 _ _ (by trivial)) zB (by rfl)) (by decide) (by rfl) (by rfl)) (@qv _ 1 _ _ (by trivial))) (@zA _ _ _ _ _ (@qv _ 2 _ _ (by trivial)) zB (by rfl)) (by rfl)) (by rfl) (by rfl)) (@zG _ _ _ _ _ (@yT _ _ _ _ _ _ _ _ (@zt _ _ _ _ _ _ _ _ xv (@qv _ 0 _ _ (by trivial)) zE (yE _)) (@zK _ _ _ (@yZ _ _ _ _ _ _ (@zL _ _ _ _ _ _ _ _ _ _ _ _ _ _ _ _ US.ok hr (by rfl) US.m US.kp US.b .nil zW (@zA _ _ _ _ _ (@qv _ 2 _ _ (by trivial)) zB (by rfl)) (by decide) (by rfl) (by rfl)) (@yU _ _ _ _ _ _ rfl (@zQ _ _ _ _ _ (@zP _ _ 3 _ ow.nd rfl (.inl rfl) (by trivial)) (@zQ _ _ _ _ _ (@zP _ _ 4 _ ow.nd rfl (.inl rfl) (by trivial)) yH (by rfl)) (by rfl)) (by rfl) (by rfl)) (by rfl) (by rfl) (by rfl))) zp) (@zG _ _ _ _ _ (@yT _ _ _ _ _ _ _ _ (@zt _ _ _ _ _ _ _ _ xv (@qv _ 0 _ _ (by trivial)) zE (yE _)) (@zK _ _ _ (@yZ _ _ _ _ _ _ (@zL _ _ _ _ _ _ _ _ _ _ _ _ _ _ _ _ Z.ok L (by rfl) Z.m Z.kp Z.b .nil zW (@zA _ _ _ _ _ (@qv _ 2 _ _ (by trivial)) zB (by rfl)) (by decide) (by rfl) (by rfl)) (@yU _ _ _ _ _ _ rfl (@zQ _ _ _ _ _ (@zP _ _ 3 _ ow.nd rfl (.inl rfl) (by trivial)) (@zQ _ _ _ _ _ (@zP _ _ 4 _ ow.nd rfl (.inl rfl) (by trivial)) yH (by rfl)) (by rfl)) (by rfl) (by rfl)) (by rfl) (by rfl) (by rfl))) zp) (@zK _ _ _ (@zU _ _ _ _ (@zX _ _ _ _ _ (@zA _ _ _ _ _ (@zM _ _ _ _ _ _ _ _ _ zT (by rfl) G.len JT (@zA _ _ _ _ _ (@qv _ 2 _ _ (by trivial)) zB (by rfl)) (by decide) (by decide) (by rfl) (by rfl)) (@zA _ _ _ _ _ (@zr _ _ _ _ _ _ _ _ _ zz (by rfl) G.tuple (by rfl) (@zA _ _ _ _ _ (@qv _ 3 _ _ (by trivial)) zB (by rfl)) (by decide) (by decide) (by rfl) (by rfl)) (@zA _ _ _ _ _ (@zr _ _ _ _ _ _ _ _ _ zz (by rfl) G.tuple (by rfl) (@zA _ _ _ _ _ (@qv _ 4 _ _ (by trivial)) zB (by rfl)) (by decide) (by decide) (by rfl) (by rfl)) zB (by rfl)) (by rfl)) (by rfl))))))))),?_⟩;have ab:2 ^ k<=2 ^ 4:=Z4 (by decide) (by lia);have ao:2 ^ 4=16:=rfl
 have O:atI [V.int 1,V.int 2,V.int 4,V.int 8,V.int 16] ((k:Nat):Int)=some (.int ((2 ^ k:Nat):Int)):=by
  have:∀ k,k<5->atI [V.int 1,V.int 2,V.int 4,V.int 8,V.int 16] ((k:Nat):Int)=some (.int ((2 ^ k:Nat):Int)):=by decide
  exact this k k5
 refine⟨(by show 5<=sizeLine;decide),λt ht=>?_⟩;have s0:=zC ht (.lst [.int 1,.int 2,.int 4,.int 8,.int 16]);refine⟨_,rfl,t,_,_,_,rfl,rfl,SqL.of zD,O,?_⟩;refine⟨2 ^ k,rfl,by lia,λp hp=>?_⟩;have s1:=zC hp (.lst (zV (List.range (2 ^ k))));have u1:=s0.trans s1;have g:=zZ hp (.lst (zV (List.range (2 ^ k))));show vK _ _ _ _ (L2.upd _ p (.lst (zV (List.range (2 ^ k)))));generalize L2.upd _ p (.lst (zV (List.range (2 ^ k))))=H1 at u1 g ⊢;clear s0 s1 hp;refine⟨_,rfl,k,by lia,p,List.range (2 ^ k),rfl,g,YU,by lia,λl T H2 i hl pr=>?_⟩;have pl:=pr.len;have bl:=xw k (List.range (2 ^ k));rw[YU]at bl;have b2:k*2 ^ k<=4*2 ^ 4:=Nat.mul_le_mul (by lia) ab;have b3:T.length*k<=(4*2 ^ 4)*4:=Nat.mul_le_mul (by lia) (by lia);refine⟨_,rfl,l,k,T,rfl,rfl,hl,by simp_all,by lia,by rw[Yp,JH];lia,λW x=>?_⟩;rw[Yp];have m:=zC x (.lst (List.replicate k T).flatten);refine⟨_,rfl,_,_,rfl,?_⟩
 let I:Nt->St->Hp->Prop:=λN σ G=>∃ lf le n,σ=[some (.int (way:Nat)),some (.int (k:Nat)),some (.ref p),some (.ref lf),some (.ref le)]/\Same H G/\G p=some (.lst (zV (List.range (2 ^ k))))/\G lf=some (.lst n)/\Prs G n N.forks/\G le=some (.lst (zV N.ends))
 have i0:I (x6 k) [some (.int (way:Nat)),some (.int (k:Nat)),some (.ref p),some (.ref W),some (.ref p)] (L2.upd H2 W (.lst (List.replicate k T).flatten)):=⟨W,p,_,rfl,(u1.trans i).trans m,m _ _ (i _ _ g),zZ x _,(qA pr k).tups (Tups.of m),m _ _ (i _ _ g)⟩;dsimp only;refine qJ (I (if way=0 then wf k else x6 k)) ?_ λD j _=>?_
 ·rintro σ G ⟨lf,le,n,rfl,C,d,X,U,Y⟩
  refine qJ (I (xG way k)) ?_ λD j _=>?_
  ·rintro σ G ⟨lf,le,n,rfl,C,d,X,U,Y⟩
   refine⟨_,rfl,p,_,rfl,.inl (SqL.of d),_,rfl,lf,_,rfl,.inl ⟨SqL.of X,λa ha=>?_⟩⟩;have s4:=zC ha (.tup n);refine⟨_,rfl,le,_,rfl,.inl ⟨SqL.of (s4 _ _ Y),λb hb=>?_⟩⟩;have s5:=zC hb (.tup (zV (xG way k).ends));refine⟨(by show 3<=sizeLine;decide),λr M=>?_⟩;rw[zv,YU];have S:=zC M (.tup [.int ((2 ^ k:Nat):Int),.ref a,.ref b]);refine q r a b n _ (((C.trans s4).trans s5).trans S) ⟨?_,S _ _ (s5 _ _ (zZ ha _)),U.tups (Tups.of ((s4.trans s5).trans S)),S _ _ (zZ hb _)⟩;rw[nW];exact zZ M _
  ·refine⟨_,rfl,rfl,_,rfl,?_⟩
   by_cases R:way=1
   ·rw[Jx (show V.int ((way:Nat):Int)=V.int 1 by rw[R];rfl)]
    refine yJ ⟨_,rfl,k,by lia,p,List.range (2 ^ k),rfl,d,YU,by lia,λc v le2 o G2 i hc y u B=>?_⟩;refine⟨c,_,rfl,SqT.of hc,rfl,_,_,rfl,_,_,rfl,rfl,?_⟩;refine j _ _ ⟨v,le2,o,rfl,C.trans i,i _ _ d,y,?_,?_⟩
    ·rw[show xG way k=uL k from by unfold xG;rw[Je (by lia),Jg R]];exact u
    ·rw[show xG way k=uL k from by unfold xG;rw[Je (by lia),Jg R]];exact B
   ·rw[Jr (show ¬ V.int ((way:Nat):Int)=V.int 1 by intro z;injection z with z;lia)]
    have e:xG way k=if way=0 then wf k else x6 k:=by unfold xG;rw[Je R]
    refine zx (j _ _ ⟨lf,le,n,rfl,C,d,X,?_,?_⟩)
    ·rw[e];exact U
    ·rw[e];exact Y
 ·obtain⟨lf,le,n,e,C,d,X,U,Y⟩:=i0
  refine⟨_,rfl,rfl,_,rfl,?_⟩;by_cases J:way=0
  ·rw[Jx (show V.int ((way:Nat):Int)=V.int 0 by rw[J];rfl)]
   refine yJ ⟨_,rfl,k,by lia,p,List.range (2 ^ k),rfl,d,YU,by lia,λc v le2 o G2 i hc y u B=>?_⟩;refine⟨c,_,rfl,SqT.of hc,rfl,_,_,rfl,_,_,rfl,rfl,?_⟩;refine j _ _ ⟨v,le2,o,rfl,C.trans i,i _ _ d,y,?_,?_⟩
   ·rw[Jg J];exact u
   ·rw[Jg J];exact B
  ·rw[Jr (show ¬ V.int ((way:Nat):Int)=V.int 0 by intro z;injection z with z;simp_all)]
   refine zx (j _ _ ⟨W,p,_,rfl,(u1.trans i).trans m,m _ _ (i _ _ g),zZ x _,?_,?_⟩)
   ·rw[Je J];exact(qA pr k).tups (Tups.of m)
   ·rw[Je J];exact m _ _ (i _ _ g)
noncomputable abbrev iM:Stmt:=top 36
theorem cO:FnScope ["_law_left_here","_law_some_here"] ["_law_left_here"] (zN iM):=by trivial
theorem eI {f fK:Addr}{fd dK:FuncData}(F:Fun K "_law_odd" "_law_odd" iM f fd) (G:Mgs mg) (L:Use P w K mg base "_law_pick" ["_law_left_here","_law_many"] 1 xN fK dK):FnOk P w K mg base CX0 2 f fd ["_law_left_here"] uT:=by
 refine F.ok cO (λvs H Q E h=>?_) (λaT A outer s H vs Q E hr h=>?_)
 ·obtain⟨l,rfl,_⟩:=h
  rfl
 obtain⟨l,rfl,S,k⟩:=h;refine⟨_,(@zG _ _ _ _ _ (@zo _ _ 1 _ _ _ _ cO.nd rfl (.inl rfl) (@yG _ _ _ _ (@zA _ _ _ _ _ qB (@zA _ _ _ _ _ xA (@zA _ _ _ _ _ xA (@zA _ _ _ _ _ zE (@zA _ _ _ _ _ zE (@zA _ _ _ _ _ zE (@zA _ _ _ _ _ (@di _ _ _ _ _ _ jz zE) (@zA _ _ _ _ _ ie (@zA _ _ _ _ _ ie (@zA _ _ _ _ _ (@zX _ _ _ _ _ zB) (@zA _ _ _ _ _ (@yG _ _ _ _ zB) (@zA _ _ _ _ _ pE (@zA _ _ _ _ _ (@zX _ _ _ _ _ (@zA _ _ _ _ _ (@zX _ _ _ _ _ zB) zB (by rfl))) (@zA _ _ _ _ _ (@zX _ _ _ _ _ (@zA _ _ _ _ _ (@zX _ _ _ _ _ zB) (@zA _ _ _ _ _ zE zB (by rfl)) (by rfl))) (@zA _ _ _ _ _ (@zX _ _ _ _ _ (@zA _ _ _ _ _ zE (@zA _ _ _ _ _ zE zB (by rfl)) (by rfl))) zB (by rfl)) (by rfl)) (by rfl)) (by rfl)) (by rfl)) (by rfl)) (by rfl)) (by rfl)) (by rfl)) (by rfl)) (by rfl)) (by rfl)) (by rfl)) (by rfl)) (by rfl))) (by rfl) (by trivial)) (@zG _ _ _ _ _ (@zo _ _ 1 _ _ _ _ cO.nd rfl (.inl rfl) (@zS _ _ _ _ _ _ _ _ xn (@qv _ 1 _ _ (by trivial)) (@yG _ _ _ _ (@zA _ _ _ _ _ (@yG _ _ _ _ (@zA _ _ _ _ _ zE zB (by rfl))) (@zA _ _ _ _ _ (@zS _ _ _ _ _ _ _ _ nL zE zE) (@zA _ _ _ _ _ (@zX _ _ _ _ _ (@zA _ _ _ _ _ xA (@zA _ _ _ _ _ xA zB (by rfl)) (by rfl))) zB (by rfl)) (by rfl)) (by rfl)))) (by rfl) (by trivial)) (@zK _ _ _ (@zU _ _ _ _ (@zj _ _ _ _ _ _ _ zw (@qv _ 1 _ _ (by trivial)) (@zL _ _ _ _ _ _ _ _ _ _ _ _ _ _ _ _ L.ok hr (by rfl) L.m L.kp L.b .nil zW (@zA _ _ _ _ _ (@qv _ 0 _ _ (by trivial)) (@zA _ _ _ _ _ (@zM _ _ _ _ _ _ _ _ _ zT (by rfl) G.len JT (@zA _ _ _ _ _ (@qv _ 1 _ _ (by trivial)) zB (by rfl)) (by decide) (by decide) (by rfl) (by rfl)) zB (by rfl)) (by rfl)) (by decide) (by rfl) (by rfl)) (λ_ _=>rfl)))))),?_⟩;refine⟨_,rfl,?_⟩;refine⟨(by show 0<=sizeLine;decide),λD h1=>?_⟩;have s1:=zC h1 (.tup []);have m1:Ma _ 3 1 (.ref D):=Ma.new (xs:=[]) h1 (by show 0<=3;decide) (λy a=>nomatch a);refine⟨(by show 0<=sizeLine;decide),λC h2=>?_⟩;have s2:=zC h2 (.lst []);have m2:Ma _ 3 0 (.ref C):=Ma.lstN h2 [];refine λB h3=>?_;have R:=zC h3 (.dK []);have m3:Ma _ 3 0 (.ref B):=Ma.dictN h3;refine⟨(by show 0<=sizeLine;decide),λO h4=>?_⟩;have J:=zC h4 (.tup []);have m4:Ma _ 3 1 (.ref O):=Ma.new (xs:=[]) h4 (by show 0<=3;decide) (λy a=>nomatch a);refine⟨(by show 1<=sizeLine;decide),λx h5=>?_⟩;have I:=zC h5 (.tup [.ref O])
 have m5:Ma _ 3 2 (.ref x):=Ma.new (xs:=[.ref O]) h5 (by show 1<=3;decide) (λy a=>by
   rw[Jd.mp a]
   exact(Ma.more (Jc _) (by decide) m4))
 refine⟨(by show 0<=sizeLine;decide),λN h6=>?_⟩;have m:=zC h6 (.tup []);have m6:Ma _ 3 1 (.ref N):=Ma.new (xs:=[]) h6 (by show 0<=3;decide) (λy a=>nomatch a);refine⟨(by show 2<=sizeLine;decide),λu h7=>?_⟩;have j:=zC h7 (.tup [.ref N,.int 0])
 have m7:Ma _ 3 2 (.ref u):=Ma.new (xs:=[.ref N,.int 0]) h7 (by show 2<=3;decide) (λy a=>by
   simp only[Jq,Zs,YH]at a;rcases a with rfl|rfl
   ·exact(Ma.more (Jc _) (by decide) m6)
   ·exact Ma.int _)
 refine⟨(by show 2<=sizeLine;decide),λt h8=>?_⟩;have i:=zC h8 (.tup [.int 0,.int 0])
 have m8:Ma _ 3 1 (.ref t):=Ma.new (xs:=[.int 0,.int 0]) h8 (by show 2<=3;decide) (λy a=>by
   simp only[Jq,Zs,YH]at a;rcases a with rfl|rfl
   ·exact Ma.int _
   ·exact Ma.int _)
 refine⟨(by show 15<=sizeLine;decide),λt9 h9=>?_⟩;have b:=zC h9 (.lst [.non,.bl true,.bl false,.int 0,.int 1,.int 2,.int (-1),.str "",.str "stair",.ref D,.ref C,.ref B,.ref x,.ref u,.ref t])
 have g0:∀ y∈([.non,.bl true,.bl false,.int 0,.int 1,.int 2,.int (-1),.str "",.str "stair",.ref D,.ref C,.ref B,.ref x,.ref u,.ref t]:List V),Ma _ 3 2 y:=(λy a=>by
  simp only[Jq,Zs,YH]at a;rcases a with rfl|rfl|rfl|rfl|rfl|rfl|rfl|rfl|rfl|rfl|rfl|rfl|rfl|rfl|rfl
  ·exact(Ma.same b (Ma.non))
  ·exact(Ma.same b (Ma.bl _))
  ·exact(Ma.same b (Ma.bl _))
  ·exact(Ma.same b (Ma.int _))
  ·exact(Ma.same b (Ma.int _))
  ·exact(Ma.same b (Ma.int _))
  ·exact(Ma.same b (Ma.int _))
  ·exact(Ma.same b (Ma.str _))
  ·exact(Ma.same b (Ma.str _))
  ·exact(Ma.more (Jc _) (by decide) (Ma.same (((((((s2.trans R).trans J).trans I).trans m).trans j).trans i).trans b) m1))
  ·exact(Ma.more (Jc _) (by decide) (Ma.same ((((((R.trans J).trans I).trans m).trans j).trans i).trans b) m2))
  ·exact(Ma.more (Jc _) (by decide) (Ma.same (((((J.trans I).trans m).trans j).trans i).trans b) m3))
  ·exact(Ma.more (Jc _) (by decide) (Ma.same (((m.trans j).trans i).trans b) m5))
  ·exact(Ma.more (Jc _) (by decide) (Ma.same (i.trans b) m7))
  ·exact(Ma.more (Jc _) (by decide) (Ma.same b m8)))
 have n0:=zZ h9 (.lst [.non,.bl true,.bl false,.int 0,.int 1,.int 2,.int (-1),.str "",.str "stair",.ref D,.ref C,.ref B,.ref x,.ref u,.ref t]);have u0:=((((((((s1.trans s2).trans R).trans J).trans I).trans m).trans j).trans i).trans b);have q0:∃ X:List V,X.length=15/\_=some (HO.lst X)/\∀ y∈X,Ma _ 3 2 y:=⟨_,rfl,n0,g0⟩;obtain⟨U,c0,a0,b0⟩:=q0;refine⟨_,rfl,?_⟩;refine⟨(by show 1<=sizeLine;decide),λd q=>?_⟩;have Z:=zC q (.lst [.int 0]);have ao:Ma _ 3 0 (.ref d):=Ma.lstN q [.int 0];refine⟨_,_,rfl,rfl,⟨by decide,by decide⟩,?_⟩;refine⟨(by show 2<=sizeLine;decide),λc o=>?_⟩;have n:=zC o (.tup [.bl true,.bl false])
 have ab:Ma _ 3 1 (.ref c):=Ma.new (xs:=[.bl true,.bl false]) o (by show 2<=3;decide) (λy a=>by
   simp only[Jq,Zs,YH]at a;rcases a with rfl|rfl
   ·exact Ma.bl _
   ·exact Ma.bl _)
 refine⟨(by show 3<=sizeLine;decide),λY ax=>?_⟩;have g:=zC ax (.lst [.ref d,.int (10 ^ 29),.ref c])
 have g1:∀ y∈([.ref d,.int (10 ^ 29),.ref c]:List V),Ma _ 3 2 y:=(λy a=>by
  simp only[Jq,Zs,YH]at a;rcases a with rfl|rfl|rfl
  ·exact(Ma.more (Jc _) (by decide) (Ma.same (n.trans g) ao))
  ·exact(Ma.same g (Ma.int _ (by decide)))
  ·exact(Ma.more (Jc _) (by decide) (Ma.same g ab)))
 have r:=((Z.trans n).trans g);refine⟨t9,Y,U,_,rfl,rfl,r _ _ a0,zD,JK (show _+3<=1000 by lia) (by decide),λp T=>?_⟩;have M:=zC T (.lst (U++([.ref d,.int (10 ^ 29),.ref c]:List V)));have uu:=(u0.trans r).trans M;have q1:∃ X:List V,X.length=18/\_=some (HO.lst X)/\∀ y∈X,Ma _ 3 2 y:=⟨U++([.ref d,.int (10 ^ 29),.ref c]:List V),by rw[Jb,c0];rfl,zZ T _,λy a=>(Ju.mp a).elim (λz=>Ma.same (r.trans M) (b0 y z)) (λz=>Ma.same M (g1 y z))⟩;obtain⟨X,c1,a1,b1⟩:=q1;have nl:=S.keep uu
 have np:p≠l:=by
  rintro rfl;obtain⟨_,e⟩:=S.lst;exact absurd (T.symm.trans ((u0.trans r) _ _ e)) nofun
 refine⟨_,rfl,_,rfl,_,rfl,p,X,rfl,.inl (SqL.of a1),l,_,rfl,by lia,by lia,nl,λv H2 vl S2 W=>?_⟩;have vx:v<X.length:=by lia
 refine⟨p,_,_,_,rfl,rfl,SqL.of (W _ _ a1 np),yM (J9 vx),?_⟩;exact k _ _ (Ma.but W nl S2 (b1 _ (YB vx))) S2 ((But.of uu).trans W)
noncomputable abbrev wk:Stmt:=top 37
theorem fh:FnScope ["_law_left_here","_law_thing","_law_at","_law_some_here"] ["_law_left_here","_law_thing"] (zN wk):=by trivial
theorem sR {f fK fO:Addr}{fd dK dO:FuncData}(F:Fun K "_law_bent" "_law_bent" wk f fd) (G:Mgs mg) (d:Use P w K mg base "_law_pick" ["_law_left_here","_law_many"] 1 xN fK dK) (J:Use P w K mg base "_law_odd" ["_law_left_here"] 2 uT fO dO) (h:Nat)
  (UB:Use P w K mg base "_law_bent" ["_law_left_here","_law_thing"] (h+2) (λvs H Q E=>∃ m,h=m+1/\uD m vs H Q E) f fd):FnOk P w K mg base CX0 (h+3) f fd ["_law_left_here","_law_thing"] (uD h):=by
 refine F.ok fh (λvs H Q E h=>?_) (λcb A outer s H vs Q E hr hh=>?_)
 ·obtain⟨l,x,b,rfl,_⟩:=h
  rfl
 obtain⟨l,x,b,rfl,S,hb,mx,k⟩:=hh;have O:Room 1 _:=hr.mono (by lia);have ab:Room 2 _:=hr.mono (by lia);have odd:∀ {H':Hp}{y:V},Ma H' 3 2 y->Ma H' (b+3) (h+2) y:=λm=>Ma.more (by lia) (by lia) m
 obtain⟨tE,hE,ao⟩:∃ t',PSs (oO CX0 P w K mg base ["_law_left_here","_law_thing","_law_at","_law_some_here"] "_law_bent" (zN wk) f cb A outer s H E).nox ((yk wk).drop 1) t' /\
   ∀ (H1:Hp),But l H H1->Pk3 H1 l->t' { nx:=λ_ H'=>Q .non H',rt:=Q } [some (.ref l),some x,none,none] H1:=by
  refine⟨_,(@zG _ _ _ _ _ (@yT _ _ _ _ _ _ _ _ (@xj _ _ _ (@zM _ _ _ _ _ _ _ _ _ ya (by rfl) G.isi (by rfl) (@zA _ _ _ _ _ (@qv _ 1 _ _ (by trivial)) (@zA _ _ _ _ _ (@yp _ _ (.ty "tuple") (.type "tuple") _ (by rfl) G.tuple (by rfl) rfl (by decide) (by decide)) zB (by rfl)) (by rfl)) (by decide) (by decide) (by rfl) (by rfl)) (by intro _;rfl)) (@zG _ _ _ _ _ (@zo _ _ 2 _ _ _ _ fh.nd rfl (.inl rfl) (@zL _ _ _ _ _ _ _ _ _ _ _ _ _ _ _ _ d.ok O (by rfl) d.m d.kp d.b .nil zW (@zA _ _ _ _ _ (@qv _ 0 _ _ (by trivial)) (@zA _ _ _ _ _ (@zS _ _ _ _ _ _ _ _ yW (@zM _ _ _ _ _ _ _ _ _ zT (by rfl) G.len JT (@zA _ _ _ _ _ (@qv _ 1 _ _ (by trivial)) zB (by rfl)) (by decide) (by decide) (by rfl) (by rfl)) zE) zB (by rfl)) (by rfl)) (by decide) (by rfl) (by rfl)) (by rfl) (by trivial)) (@zG _ _ _ _ _ (@zo _ _ 3 _ _ _ _ fh.nd rfl (.inl rfl) (@yG _ _ _ _ (@zA _ _ _ _ _ (@zS _ _ _ _ _ _ _ _ yc (@zu _ _ _ _ _ _ _ _ _ _ yV (@qv _ 1 _ _ (by trivial)) yD (@zi _ _ _ (@qv _ 2 _ _ (by trivial)))) (@zu _ _ _ _ _ _ _ _ _ _ yV (@qv _ 1 _ _ (by trivial)) (@zi _ _ _ (@zS _ _ _ _ _ _ _ _ yW (@qv _ 2 _ _ (by trivial)) zE)) yD)) (@zA _ _ _ _ _ (@zS _ _ _ _ _ _ _ _ yc (@qv _ 1 _ _ (by trivial)) (@zu _ _ _ _ _ _ _ _ _ _ yV (@qv _ 1 _ _ (by trivial)) (@zi _ _ _ (@qv _ 2 _ _ (by trivial))) (@zi _ _ _ (@zS _ _ _ _ _ _ _ _ yW (@qv _ 2 _ _ (by trivial)) zE)))) (@zA _ _ _ _ _ (@zr _ _ _ _ _ _ _ _ _ yt (by rfl) G.list (by rfl) (@zA _ _ _ _ _ (@qv _ 1 _ _ (by trivial)) zB (by rfl)) (by decide) (by decide) (by rfl) (by rfl)) (@zA _ _ _ _ _ (@ir _ _ _ _ _ _ _ (@qv _ 1 _ _ (by trivial)) (@zi _ _ _ (@di _ _ _ _ _ _ jz zE))) (@zA _ _ _ _ _ (@zS _ _ _ _ _ _ _ _ yc (@qv _ 1 _ _ (by trivial)) (@zX _ _ _ _ _ (@zA _ _ _ _ _ zE zB (by rfl)))) zB (by rfl)) (by rfl)) (by rfl)) (by rfl)) (by rfl))) (by rfl) (by trivial)) (@zK _ _ _ (@zU _ _ _ _ (@zj _ _ _ _ _ _ _ zw (@zS _ _ _ _ _ _ _ _ xn (@qv _ 3 _ _ (by trivial)) (@yG _ _ _ _ (@zA _ _ _ _ _ (@zL _ _ _ _ _ _ _ _ _ _ _ _ _ _ _ _ J.ok ab (by rfl) J.m J.kp J.b .nil zW (@zA _ _ _ _ _ (@qv _ 0 _ _ (by trivial)) zB (by rfl)) (by decide) (by rfl) (by rfl)) zB (by rfl)))) (@zL _ _ _ _ _ _ _ _ _ _ _ _ _ _ _ _ d.ok O (by rfl) d.m d.kp d.b .nil zW (@zA _ _ _ _ _ (@qv _ 0 _ _ (by trivial)) (@zA _ _ _ _ _ zE zB (by rfl)) (by rfl)) (by decide) (by rfl) (by rfl)) (λ_ _=>rfl)))))) zp) (@zG _ _ _ _ _ (@yT _ _ _ _ _ _ _ _ (@xj _ _ _ (@zM _ _ _ _ _ _ _ _ _ ya (by rfl) G.isi (by rfl) (@zA _ _ _ _ _ (@qv _ 1 _ _ (by trivial)) (@zA _ _ _ _ _ (@yp _ _ (.ty "int") (.type "int") _ (by rfl) G.int (by rfl) rfl (by decide) (by decide)) zB (by rfl)) (by rfl)) (by decide) (by decide) (by rfl) (by rfl)) (by intro _;rfl)) (@zK _ _ _ (@zU _ _ _ _ (@zj _ _ _ _ _ _ _ zw (@yG _ _ _ _ (@zA _ _ _ _ _ (@zS _ _ _ _ _ _ _ _ eF (@qv _ 1 _ _ (by trivial)) zE) (@zA _ _ _ _ _ (@zS _ _ _ _ _ _ _ _ mR (@qv _ 1 _ _ (by trivial)) zE) (@zA _ _ _ _ _ (@zr _ _ _ _ _ _ _ _ _ n9 (by rfl) G.bool (by rfl) (@zA _ _ _ _ _ (@qv _ 1 _ _ (by trivial)) zB (by rfl)) (by decide) (by decide) (by rfl) (by rfl)) (@zA _ _ _ _ _ (@zS _ _ _ _ _ _ _ _ mR zE (@qv _ 1 _ _ (by trivial))) (@zA _ _ _ _ _ (@zr _ _ _ _ _ _ _ _ _ jY (by rfl) G.str (by rfl) (@zA _ _ _ _ _ (@qv _ 1 _ _ (by trivial)) zB (by rfl)) (by decide) (by decide) (by rfl) (by rfl)) (@zA _ _ _ _ _ (@zL _ _ _ _ _ _ _ _ _ _ _ _ _ _ _ _ J.ok ab (by rfl) J.m J.kp J.b .nil zW (@zA _ _ _ _ _ (@qv _ 0 _ _ (by trivial)) zB (by rfl)) (by decide) (by rfl) (by rfl)) zB (by rfl)) (by rfl)) (by rfl)) (by rfl)) (by rfl)) (by rfl))) (@zL _ _ _ _ _ _ _ _ _ _ _ _ _ _ _ _ d.ok O (by rfl) d.m d.kp d.b .nil zW (@zA _ _ _ _ _ (@qv _ 0 _ _ (by trivial)) (@zA _ _ _ _ _ zE zB (by rfl)) (by rfl)) (by decide) (by rfl) (by rfl)) (λ_ _=>rfl)))) zp) (@zK _ _ _ (@zU _ _ _ _ (@zL _ _ _ _ _ _ _ _ _ _ _ _ _ _ _ _ J.ok ab (by rfl) J.m J.kp J.b .nil zW (@zA _ _ _ _ _ (@qv _ 0 _ _ (by trivial)) zB (by rfl)) (by decide) (by rfl) (by rfl)))))),?_⟩;intro H1 B1 T;have a7:=mx.but B1 S T;obtain⟨ty,Iy⟩:=(a7.an.any (K:=K)).isi;refine⟨_,rfl,_,"tuple",_,_,rfl,Iy.ty,Iy.tup,_,rfl,?_⟩
  cases z:zY H1 x with
  | none =>
   obtain⟨c,hc,kc⟩:∃ c,PySem.W.kitOne K ty (.type "int")=some c/\c=(nO x).isSome:=⟨_,Iy.int,by cases x<;>rfl⟩;refine zx ⟨_,rfl,_,"int",_,_,rfl,Iy.ty,hc,_,rfl,?_⟩;rw[kc]
   cases nx:nO x with
   | none =>
    refine zx ⟨_,rfl,l,rfl,T,λy H2 my R U=>?_⟩
    exact k y H2 (odd my) R (B1.trans U)
   | some i =>
    have bi:i.natAbs<=10 ^ 29+b+1:=by
     cases x with
     | int j=>cases nx;exact Nat.le_succ_of_le mx.sm
     | bl c =>
      cases nx;cases c
      ·exact JN _
      ·exact Nat.succ_le_succ (JN _)
     | _=>cases nx
    refine yJ ⟨_,rfl,i,1,nx,rfl,_,rfl,i,1,nx,rfl,.inr ⟨_,rfl⟩,_,rfl,x,i,rfl,nx,λc0=>⟨_,rfl,1,i,rfl,nx,.inl ⟨_,rfl⟩,_,rfl,x,i,rfl,nx,by lia,λw0=>⟨_,rfl,l,rfl,T,λy H2 my R U=>⟨by show 6<=sizeLine;decide,λt ht=>?_⟩⟩⟩⟩;have L:=zC ht (.lst [.int (i+1),.int (i-1),.bl c0,.int (1-i),.str w0,y]);have S3:=R.keep L;have nt:=R.ne ht;refine⟨_,rfl,l,6,rfl,by decide,by decide,S3,λv H4 vl S4 B4=>⟨t,_,_,_,rfl,rfl,SqL.of (B4 _ _ zD nt.symm),yM (J9 (show v<6 by lia)),?_⟩⟩;refine k _ _ (Ma.but B4 S3 S4 ?_) S4 (B1.trans (U.trans ((But.of L).trans B4)))
    have m:∀ x'∈([.int (i+1),.int (i-1),.bl c0,.int (1-i),.str w0,y]:List V),Ma (L2.upd H2 t (.lst [.int (i+1),.int (i-1),.bl c0,.int (1-i),.str w0,y])) (b+3) (h+2) x':=λx' hx=>by
     simp only[Jq,Zs,YH]at hx;rcases hx with rfl|rfl|rfl|rfl|rfl|rfl
     ·exact Ma.int _
     ·exact Ma.int _
     ·exact Ma.bl _
     ·exact Ma.int _
     ·exact Ma.str _
     ·exact Ma.same L (odd my)
    exact m _ (YB _)
  | some a =>
   obtain⟨lx,M,rfl,mk⟩:=Ma.kids a7 z;obtain⟨o,rfl,hx⟩:=yI z;refine yJ ⟨_,rfl,_,rfl,o,a,rfl,.inr (SqT.of hx),_,_,rfl,rfl,l,_,rfl,by lia,by lia,T,λv H2 vl R U=>?_⟩;have I:=U.tups3 T _ _ hx;refine⟨_,rfl,_,rfl,_,rfl,o,a,rfl,I,λt1 H3 L h3=>?_⟩;have bo:=L _ _ I;refine⟨_,rfl,_,rfl,_,_,rfl,rfl,_,rfl,o,a,rfl,bo,λt2 H4 s4 h4=>?_⟩;refine⟨t1,t2,_,_,rfl,rfl,s4 _ _ h3,h4,?_,λt3 H5 s5 h5=>?_⟩
   ·have a1:=qM a none (some (v:Int))
    have a2:=qM a (some ((v:Int)+1)) none;exact JK (show _<=10000 by lia) (by decide)
   have Z:=s5 _ _ (s4 _ _ bo);refine⟨_,rfl,_,rfl,_,rfl,_,rfl,_,rfl,_,_,rfl,rfl,_,rfl,o,a,rfl,Z,λt4 H6 s6 h6=>?_⟩;have ba:=s6 _ _ Z;refine⟨o,t4,_,_,rfl,rfl,ba,h6,?_,λt5 H7 s7 h7=>?_⟩
   ·have a1:=lK a v
    exact JK (show _<=10000 by lia) (by decide)
   have a9:=s7 _ _ ba;refine⟨_,rfl,o,a,rfl,.inr (SqT.of a9),λt6 f6=>?_⟩;have s8:=zC f6 (.lst a);have a8:=s8 _ _ a9;refine⟨_,rfl,_,rfl,_,rfl,rfl,o,a,rfl,SqT.of a8,λt7 f7=>?_⟩;have s9:=zC f7 (.tup a.reverse);have b6:=s9 _ _ a8;refine⟨_,rfl,by show 1<=sizeLine;decide,λt8 f8=>?_⟩;have D:=zC f8 (.tup [.int 0]);refine⟨o,t8,a,_,rfl,rfl,D _ _ b6,zD,JK (show _+1<=10000 by lia) (by decide),λt9 cP N b8=>?_⟩;refine⟨by show 5<=sizeLine;decide,λa6 aT=>?_⟩;have C:=zC aT (.lst [.ref t3,.ref t5,.ref t6,.ref t7,.ref t9]);have a5:=(((((((L.trans s4).trans s5).trans s6).trans s7).trans s8).trans s9).trans D).trans N;have r:=a5.trans C;have bS:=R.keep r;have cf:=B1.trans (U.trans (But.of r));have n:∀ {H':Hp},Same H2 H'->∀ y∈a,Ma H' (b+3) M y:=λs' y g=>Ma.more (by lia) (Jc _) (Ma.same s' ((mk y g).but U T R))
   have b4:∃ X:List V,X.length=5/\_=some (HO.lst X)/\∀ y∈X,Ma _ (b+3) (M+1+2) y:=⟨_,rfl,zZ aT (.lst [.ref t3,.ref t5,.ref t6,.ref t7,.ref t9]),λy g=>by
    simp only[Jq,Zs,YH]at g;rcases g with rfl|rfl|rfl|rfl|rfl
    ·have w':=((((((s6.trans s7).trans s8).trans s9).trans D).trans N).trans C)
     refine Ma.more (Jc _) (by lia) (Ma.tup (h:=M) (w' _ _ h5) ?_ λy g=>n r y ?_)
     ·have a2:=oP a (v+1)
      rw[vI a v (by lia),show ((v:Int)+1)=((v+1:Nat):Int) from rfl,Jb,Js];lia
     ·exact(Ju.mp g).elim qN qN
    ·have w':=(((((s8.trans s9).trans D).trans N).trans C))
     refine Ma.more (Jc _) (by lia) (Ma.tup (h:=M) (w' _ _ h7) ?_ λy g=>n r y ?_)
     ·have a1:=lK a v
      rw[Jb];lia
     ·exact(Ju.mp g).elim id qN
    ·have w':=((((s9.trans D).trans N).trans C))
     exact Ma.same w' (Ma.lst zD)
    ·have w':=(((D.trans N).trans C))
     exact Ma.more (Jc _) (by lia) (Ma.tup (h:=M) (w' _ _ zD) (by rw[Z7];lia) λy g=>n r y (List.mem_reverse.mp g))
    ·refine Ma.more (Jc _) (by lia) (Ma.tup (h:=M) (C _ _ b8) (by rw[Jb];show _+1<=_;lia) λy g=>?_)
     rcases Ju.mp g with q|q
     ·exact n r y q
     ·rw[Jd.mp q];exact Ma.int _⟩
   obtain⟨X,c1,a1,b1⟩:=b4
   have np:a6≠l:=by
    rintro rfl;obtain⟨_,e⟩:=R.lst;exact absurd (aT.symm.trans (a5 _ _ e)) nofun
   refine⟨_,rfl,_,rfl,l,rfl,bS,λy cH my a0 a4=>⟨by show 1<=sizeLine;decide,λb3 b9=>?_⟩⟩;have B:=zC b9 (.lst [y]);have cc:=B _ _ (a4 _ _ a1 np);refine⟨a6,b3,X,_,rfl,rfl,cc,zD,JK (show _+1<=1000 by lia) (by decide),λp fp=>?_⟩;have Y:=zC fp (.lst (X++[y]));have bB:=(a0.keep B).keep Y;have b5:=(a0.keep B).ne fp;refine⟨_,rfl,l,6,rfl,by decide,by decide,bB,λu cx ul bu a3=>?_⟩;have ux:u<(X++[y]).length:=by rw[Jb,c1];show u<6;lia
   refine⟨p,_,_,_,rfl,rfl,SqL.of (a3 _ _ zD b5.symm),yM (J9 ux),?_⟩
   have mX:∀ y'∈X++[y],Ma _ (b+3) (M+1+2) y':=λy' g=>by
    rcases Ju.mp g with q|q
    ·exact Ma.same Y (Ma.same B ((b1 y' q).but a4 bS a0))
    ·rw[Jd.mp q];exact Ma.same Y (Ma.same B (odd my))
   exact k _ _ (Ma.but a3 bB bu (mX _ (YB ux))) bu (cf.trans (a4.trans ((But.of (B.trans Y)).trans a3)))
 refine⟨_,(@zG _ _ _ _ _ (@yT _ _ _ _ _ _ _ _ (@nH _ _ _ _ _ _ _ (@xj _ _ _ (@zM _ _ _ _ _ _ _ _ _ ya (by rfl) G.isi (by rfl) (@zA _ _ _ _ _ (@qv _ 1 _ _ (by trivial)) (@zA _ _ _ _ _ (@yp _ _ (.ty "tuple") (.type "tuple") _ (by rfl) G.tuple (by rfl) rfl (by decide) (by decide)) zB (by rfl)) (by rfl)) (by decide) (by decide) (by rfl) (by rfl)) (by intro _;rfl)) (@nH _ _ _ _ _ _ _ (@zt _ _ _ _ _ _ _ _ (eD hr.units0) (@qv _ 1 _ _ (by trivial)) (@zX _ _ _ _ _ zB) (yE _)) (@mK _ _ _ _ (@zt _ _ _ _ _ _ _ _ iz (@zL _ _ _ _ _ _ _ _ _ _ _ _ _ _ _ _ d.ok O (by rfl) d.m d.kp d.b .nil zW (@zA _ _ _ _ _ (@qv _ 0 _ _ (by trivial)) (@zA _ _ _ _ _ zE zB (by rfl)) (by rfl)) (by decide) (by rfl) (by rfl)) zE (yE _))))).pt (@zG _ _ _ _ _ (@zo _ _ 2 _ _ _ _ fh.nd rfl (.inl rfl) (@zL _ _ _ _ _ _ _ _ _ _ _ _ _ _ _ _ d.ok O (by rfl) d.m d.kp d.b .nil zW (@zA _ _ _ _ _ (@qv _ 0 _ _ (by trivial)) (@zA _ _ _ _ _ (@zM _ _ _ _ _ _ _ _ _ zT (by rfl) G.len JT (@zA _ _ _ _ _ (@qv _ 1 _ _ (by trivial)) zB (by rfl)) (by decide) (by decide) (by rfl) (by rfl)) zB (by rfl)) (by rfl)) (by decide) (by rfl) (by rfl)) (by rfl) (by trivial)) (@zK _ _ _ (@zU _ _ _ _ (@zS _ _ _ _ _ _ _ _ yc (@zS _ _ _ _ _ _ _ _ yc (@zu _ _ _ _ _ _ _ _ _ _ yV (@qv _ 1 _ _ (by trivial)) yD (@zi _ _ _ (@qv _ 2 _ _ (by trivial)))) (@zX _ _ _ _ _ (@zA _ _ _ _ _ (@zL _ _ _ _ _ _ _ _ _ _ _ _ _ _ _ _ UB.ok hr (by rfl) UB.m UB.kp UB.b .nil zW (@zA _ _ _ _ _ (@qv _ 0 _ _ (by trivial)) (@zA _ _ _ _ _ (@zj _ _ _ _ _ _ _ yB (@qv _ 1 _ _ (by trivial)) (@qv _ 2 _ _ (by trivial)) (λ_ _=>rfl)) zB (by rfl)) (by rfl)) (by decide) (by rfl) (by rfl)) zB (by rfl)))) (@zu _ _ _ _ _ _ _ _ _ _ yV (@qv _ 1 _ _ (by trivial)) (@zi _ _ _ (@zS _ _ _ _ _ _ _ _ yW (@qv _ 2 _ _ (by trivial)) zE)) yD))))) zp) @hE),?_⟩;obtain⟨ty,Iy⟩:=(mx.an.any (K:=K)).isi;refine⟨_,rfl,_,"tuple",_,_,rfl,Iy.ty,Iy.tup,_,rfl,?_⟩
 cases z:zY H x with
 | none=>exact zx (zx (ao H (But.of (Same.refl H)) S))
 | some a =>
  obtain⟨lx,M,rfl,mk⟩:=Ma.kids mx z;obtain⟨o,rfl,hx⟩:=yI z;refine yJ ⟨_,rfl,by show 0<=sizeLine;decide,λt0 f0=>?_⟩;have s0:=zC f0 (.tup []);have S0:=S.keep s0;have bt:=s0 _ _ hx;have B0:But l H (L2.upd H t0 (.tup [])):=But.of s0;refine⟨o,t0,a,rfl,rfl,bt,zD,_,rfl,?_⟩
  cases a with
  | nil=>exact zx (zx (ao _ B0 S0))
  | cons y0 ys =>
   have p0:0<(y0::ys).length:=Nat.succ_pos _;refine yJ ?_;generalize y0::ys=a at *;refine⟨_,rfl,l,4,rfl,by decide,by decide,S0,λv H1 vl T B1=>⟨_,_,rfl,rfl,_,rfl,?_⟩⟩;have b2:=B0.trans B1;have bq:=B1.tups3 S0 _ _ bt;show if decide ((0:Int)<((v:Nat):Int))=true then _ else _;by_cases vp:(0:Int)<(v:Int)
   ·rw[Jx vp]
    refine yJ ?_;refine⟨_,rfl,_,rfl,o,a,rfl,.inr (SqT.of bq),l,_,rfl,by lia,by lia,T,λW H2 ct R U=>?_⟩;have I:=U.tups3 T _ _ bq;have cm:=b2.trans U;refine⟨_,rfl,_,rfl,_,rfl,o,a,rfl,I,λt1 H3 L h3=>?_⟩;have S3:=R.keep L;have b0:=cm.trans (But.of L);have vb:W<a.length:=by lia
    refine⟨_,rfl,_,rfl,_,rfl,o,_,_,_,rfl,rfl,SqT.of (L _ _ I),yM (J9 vb),M,rfl,l,_,b,rfl,S3,hb,(mk _ (YB vb)).but b0 S S3,λy H4 my S4 B4=>?_⟩;refine⟨by show 1<=sizeLine;decide,λt2 f2=>?_⟩;have s5:=zC f2 (.tup [y]);have S5:=S4.keep s5;have ck:=b0.trans (B4.trans (But.of s5));have b7:=s5 _ _ (B4.tups3 S3 _ _ h3);have Z:=s5 _ _ (B4.tups3 S3 _ _ (L _ _ I));refine⟨t1,t2,_,_,rfl,rfl,b7,zD,?_,λt3 H6 s6 h6=>?_⟩
    ·have:=qM a none (some (W:Int))
     exact JK (show _+1<=10000 by lia) (by decide)
    refine⟨_,rfl,_,rfl,_,_,rfl,rfl,_,rfl,o,a,rfl,s6 _ _ Z,λt4 H7 s7 h7=>?_⟩;have c2:=oP a (W+1);rw[show ((W:Int)+1)=((W+1:Nat):Int) from rfl]at h7;rw[vI a W (by lia)]at h6
    have l2:(a.take W++[y]).length+(yq a (some ((W+1:Nat):Int)) none).length<=b:=by
     rw[Jb,Js];show min W a.length+1+_<=b;lia
    refine⟨t3,t4,_,_,rfl,rfl,s7 _ _ h6,h7,JK l2 (JK hb (by decide)),λt5 H8 s8 h8=>?_⟩;have u8:=(s6.trans s7).trans s8;have S8:=S5.keep u8;have B8:=ck.trans (But.of u8);refine k _ _ (Ma.tup (h:=M+2) h8 (by rw[Jb];lia) λz hz=>?_) S8 B8;have n:∀ y'∈a,Ma H8 (b+3) (M+2) y':=λy' g=>Ma.more (by lia) (by lia) ((mk y' g).but B8 S S8);rcases Ju.mp hz with q|q
    ·rcases Ju.mp q with q1|q1
     ·exact n z (YS q1)
     ·rw[Jd.mp q1];exact Ma.same (s5.trans u8) my
    ·exact n z (qN q)
   ·rw[Jr vp]
    exact zx (ao _ b2 T)
theorem pM {f g e:Addr}{fd dK i:FuncData}(F:Fun K "_law_bent" "_law_bent" wk f fd) (G:Mgs mg) (d:Use P w K mg base "_law_pick" ["_law_left_here","_law_many"] 1 xN g dK) (c:Use P w K mg base "_law_odd" ["_law_left_here"] 2 uT e i) (b:Binds K fd ["_law_left_here","_law_thing"] []) (a:mg "_law_bent" = some (.ref f)):∀ h:Nat,FnOk P w K mg base CX0 (h+3) f fd ["_law_left_here","_law_thing"] (uD h)
 | 0=>sR F G d c 0 ⟨⟨λvs H Q E ⟨m,h,_⟩=>by lia,λA outer s H args us vs Q E _ _ _ _ ⟨m,h,_⟩=>by lia⟩,b,F.kp,a⟩
 | m+1=>sR F G d c (m+1) ⟨((pM F G d c b a m).imp λvs H Q E ⟨j,h,q⟩=>by cases h;exact q),b,F.kp,a⟩
noncomputable def vN:Sp:=λa H Q E=>∃ m,m<=7/\uD m a H Q E
theorem nN {f c b:Addr}{fd dK d:FuncData}(F:Fun K "_law_bent" "_law_bent" wk f fd) (G:Mgs mg) (h:Use P w K mg base "_law_pick" ["_law_left_here","_law_many"] 1 xN c dK) (g:Use P w K mg base "_law_odd" ["_law_left_here"] 2 uT b d) (e:Binds K fd ["_law_left_here","_law_thing"] []) (a:mg "_law_bent" = some (.ref f)):FnOk P w K mg base CX0 10 f fd ["_law_left_here","_law_thing"] vN :=
 FnOk.any 7 λm i=>(pM F G h g e a m).mono (by lia)
end
end K39
namespace L2
open PySem PySem.Spec PyProof.Rows Own Bn
structure KpM (H H':Hp):Prop where
 tup:∀ b xs,H b=some (.tup xs)->H' b=some (.tup xs)
 lst:∀ b xs,H b=some (.lst xs)->∃ ys,H' b=some (.lst ys)
 dict:∀ b,H b=some (.dK [])->H' b=some (.dK [])
theorem KpM.same {H H':Hp}(s:Same H H'):KpM H H':=⟨λb a e=>s b _ e,λb a e=>⟨a,s b _ e⟩,λb e=>s b _ e⟩
theorem KpM.refl (H:Hp):KpM H H:=.same (Same.refl H)
theorem KpM.trans {H d c:Hp}(x:KpM H d)(y:KpM d c):KpM H c:=⟨λb a e=>y.tup b a (x.tup b a e),λb a e=>by
 obtain⟨f,g⟩:=x.lst b a e
 exact y.lst b f g,λb e=>y.dict b (x.dict b e)⟩
theorem KpM.kpn {H H':Hp}(k:KpN H H'):KpM H H':=⟨λb a e=>k b _ e (.tup a),λb a e=>⟨a,k b _ e (.lst a)⟩,λb e=>k b _ e .dK⟩
theorem KpM.list {H:Hp}{l:Addr}{ys zs:List V}(e:H l=some (.lst ys)):KpM H (L2.upd H l (.lst zs)):=by
 refine⟨λb a h=>?_,λb a h=>?_,λb h=>?_⟩
 ·rw[zJ];· exact h
  ·rintro rfl;rw[e]at h;cases h
 ·by_cases z:b=l
  ·rw[z];exact⟨zs,zD⟩
  ·rw[zJ z];exact⟨a,h⟩
 ·rw[zJ];· exact h
  ·rintro rfl;rw[e]at h;cases h
theorem KpM.but {H H':Hp}{l:Addr}(B:But l H H')(S:Pk3 H l)(f:Pk3 H' l):KpM H H':=by
 obtain⟨g,c⟩:=S.lst;obtain⟨d,e⟩:=f.lst;refine⟨λb a h=>B _ _ h ?_,λb a h=>?_,λb h=>B _ _ h ?_⟩
 ·rintro rfl;rw[c]at h;cases h
 ·by_cases z:b=l
  ·rw[z];exact⟨d,e⟩
  ·exact⟨a,B _ _ h z⟩
 ·rintro rfl;rw[c]at h;cases h
theorem KpM.tab {H H':Hp}{q:Str}{Pt:Addr}(t:TabQ q Pt H)(B:But Pt H H'):KpM H H':=by
 obtain⟨ls,a,_⟩:=t;exact .kpn (KpN.but B a)
theorem KpM.tups {H H':Hp}(k:KpM H H'):Tups H H':=λb a e=>k.tup b a e
theorem KpM.an {H H':Hp}(k:KpM H H'){x:V}(a:An H x):An H' x/\zY H' x=zY H x:=by
 rcases a with a|⟨c,rfl,⟨d,e⟩|⟨d,e⟩|e⟩
 ·exact⟨.inl a,by cases x<;>first|rfl|exact a.elim⟩
 ·have b:=k.tup _ _ e
  exact⟨.inr ⟨_,rfl,.inl ⟨_,b⟩⟩,by rw[yi e,yi b]⟩
 ·obtain⟨f,b⟩:=k.lst _ _ e
  exact⟨.inr ⟨_,rfl,.inr (.inl ⟨_,b⟩)⟩,by rw[x5 e,x5 b]⟩
 ·have b:=k.dict _ e
  exact⟨.inr ⟨_,rfl,.inr (.inr b)⟩,by simp only[zY,e,b]⟩
theorem Ma.kpm {H H':Hp}(k:KpM H H'){b h:Nat}{x:V}(m:Ma H b h x):Ma H' b h x:=m.via λa=>k.an a
theorem sY {A B:Type}{f g:A->Option B}:∀ {xs:List A},(∀ x∈xs,f x=g x)->xs.mapM f=xs.mapM g
 | [],_=>rfl
 | x::xs,h=>by
  rw[List.mapM_cons,List.mapM_cons,h x (.head _),sY λy a=>h y (.tail _ a)]
theorem gu {f g:V->Option KN}{xs:List V}{a:KN}{moves:List Nat}{step:KN->Nat->Option KN}(h:∀ x∈xs,f x=g x):xa f xs a moves step=xa g xs a moves step:=by
 have e:=sY h
 cases c:xs.mapM g with
 | none=>rw[xZ c,xZ (e.trans c)]
 | some ss=>rw[xD c,xD (e.trans c)]
theorem dG {i:Nat}{b c:Bool}{σ:St}{H:Hp}{Q:St->Hp->Prop}(e:b=c)(h:wL i (.bl c) σ H Q):wL i (.bl b) σ H Q:=e ▸ h
theorem aY {a b c:Bool}{H:Hp}{Q:VK}(e:b=c)(h:rNe (.bl a) (.bl c) H Q):rNe (.bl a) (.bl b) H Q:=e ▸ h
end L2
namespace K39
open PySem L2 Own Bn
noncomputable abbrev cY:Stmt:=top 38
noncomputable def mG (K:PySem.W.Frag)(Pt:Addr):Sp:=λb H Q _=>∃ (a:Addr) (ns:List Int),b=[.ref a]/\SqL K H a (ns.map V.int)/\ns.length<=63/\H Pt=some (.tbl #[])/\∀ c,Q (.bl true) c
noncomputable def Scr (K:PySem.W.Frag)(a:Addr)(xs:List V)(H:Hp):Prop:=H a=some (.lst xs)\/(∃ o,H a=some (.frz o (.lst xs)))\/∀ b,SqL K b a xs
theorem Scr.of {K:PySem.W.Frag}{a:Addr}{xs:List V}{H:Hp}(h:SqL K H a xs):Scr K a xs H:=by
 rcases h with (h|h)|h
 ·exact .inl h
 ·exact .inr (.inl h)
 ·exact .inr (.inr λb=>.inr h)
theorem Scr.sq {K:PySem.W.Frag}{a:Addr}{xs:List V}{H:Hp}(h:Scr K a xs H):SqL K H a xs:=by
 rcases h with h|h|h
 ·exact .inl (.inl h)
 ·exact .inl (.inr h)
 ·exact h H
theorem Scr.keep {K:PySem.W.Frag}{a:Addr}{xs:List V}{H H':Hp}(h:Scr K a xs H)(k:∀ o,H a=some o->(o=.lst xs\/∃ u,o=.frz u (.lst xs))->(∀ H',SqL K H' a xs)\/H' a=some o):Scr K a xs H':=by
 rcases h with h|⟨o,h⟩|h
 ·rcases k _ h (.inl rfl) with z|z
  ·exact .inr (.inr z)
  ·exact .inl z
 ·rcases k _ h (.inr ⟨o,rfl⟩) with z|z
  ·exact .inr (.inr z)
  ·exact .inr (.inl ⟨o,z⟩)
 ·exact .inr (.inr h)
structure LE (K:PySem.W.Frag) (a l Pt:Addr) (xs:List V) (H:Hp):Prop where
 S:Pk3 H l
 tab:TabQ qS Pt H
 scr:Scr K a xs H
 al:a≠l\/∀ H',SqL K H' a xs
section
variable {K:PySem.W.Frag}{a l Pt:Addr}{xs:List V}{H H':Hp}
theorem LE.same (h:LE K a l Pt xs H)(s:Same H H'):LE K a l Pt xs H':=⟨h.S.keep s,h.tab.same s,h.scr.keep λo e _=>.inr (s _ _ e),h.al⟩
theorem LE.pick (h:LE K a l Pt xs H)(d:Pk3 H' l)(b:But l H H'):LE K a l Pt xs H':=by
 obtain⟨f,c⟩:=h.S.lst;refine⟨d,h.tab.but b c,h.scr.keep λo e _=>?_,h.al⟩;rcases h.al with z|z
 ·exact .inr (b _ _ e z)
 ·exact .inl z
theorem LE.ver (h:LE K a l Pt xs H)(t:TabQ qS Pt H')(b:But Pt H H'):LE K a l Pt xs H':=by
 obtain⟨ls,f,_⟩:=h.tab;obtain⟨x,y,z,d,r⟩:=h.S.ex;refine⟨⟨x,y,z,b _ _ d (yh d f λq=>by cases q),r⟩,t,h.scr.keep λo e c=>.inr (b _ _ e λq=>?_),h.al⟩;rw[q,f]at e;cases e;rcases c with c|⟨u,c⟩<;>cases c
theorem gQ {lc:Addr}(h:LE K a l Pt xs H)(n:H lc=none):a≠lc\/∀ H',SqL K H' a xs:=by
 rcases h.scr with z|⟨o,z⟩|z
 ·exact .inl (zH z n)
 ·exact .inl (zH z n)
 ·exact .inr z
theorem LE.list {lc:Addr}{ys zs:List V}(h:LE K a l Pt xs H)(e:H lc=some (.lst ys))(n:lc≠l)(ac:a≠lc\/∀ H',SqL K H' a xs):LE K a l Pt xs (L2.upd H lc (.lst zs)):=by
 refine⟨h.S.upd n.symm,h.tab.keep λb o q z=>?_,h.scr.keep λo q _=>?_,h.al⟩
 ·rw[zJ];· exact q
  ·intro y
   rw[y,e]at q;cases q;rcases z with ⟨_,z⟩|⟨_,_,z⟩<;>cases z
 ·rcases ac with z|z
  ·exact .inr (by rw[zJ z];exact q)
  ·exact .inl z
end
theorem Lns.len {lanes:Nat}{moves:List Nat}(h:Lns lanes moves):moves.length<=lanes:=by
 have:=mj (l:=moves) (ks:=List.range lanes) (h.up.imp λz=>JC z) λx a=>YN.mpr (h.lt x a)
 rwa [YU]at this
theorem sP {α β:Type}{F:α->β->Prop}{xs:List α}{ys:List β}(h:Paired F xs ys):∀ {i:Nat}{a:α},xs[i]?=some a->∃ b,ys[i]?=some b/\F a b:=by
 induction h with
 | nil=>intro i a e;cases e
 | cons q _ ih =>
  intro i a e
  cases i with
  | zero=>cases Jt e;exact⟨_,rfl,q⟩
  | succ i=>exact ih e
theorem qf {α:Type}(ls:List (List α))(i:Nat):((ls.take i).map List.length).sum<=(ls.map List.length).sum:=by
 have:=JS (λz=>(z.map List.length).sum) (ZN i ls);simp only[JU,List.sum_append]at this;lia
theorem kO {H H':Hp}{a lanes:Int}{x:V}(k:KpM H H')(d:Dp H 2 x):yj H' a lanes x=yj H a lanes x:=by
 unfold yj;rw[(k.an d.an).2];split
 ·rename_i t h e
  unfold yL;rw[(k.an ((d.2 _ e).2 t (.head _)).an).2]
 ·rfl
theorem iB {H H':Hp}{a lanes:Int}{x:V}(k:KpM H H')(d:Dp H 2 x):wg H' a lanes x=wg H a lanes x:=by
 unfold wg;rw[kO k d,(k.an d.an).2];by_cases c:yj H a lanes x=true
 ·rw[Jg c,Jg c]
  split
  ·rename_i t h e
   unfold fj;rw[(k.an ((d.2 _ e).2 t (.head _)).an).2]
  ·rfl
 ·rw[Je c,Je c]
noncomputable def bkP (N:Nt)(moves:List Nat)(H:Hp)(x:V):Bool:=match zY H x with
 | none=>false
 | some a=>xa (wg H (N.forks.length:Nat) (N.lanes:Nat)) a (k0P N) moves (yS N)
theorem dZ {N:Nt}{moves:List Nat}{H H':Hp}{x:V}(k:KpM H H')(a:An H x)(d:∀ xs,zY H x=some xs->∀ y∈xs,Dp H 2 y):bkP N moves H' x=bkP N moves H x:=by
 unfold bkP;rw[(k.an a).2]
 cases z:zY H x with
 | none=>rfl
 | some xs=>exact gu λy b=>iB k (d _ z y b)
theorem Ma.pr {N:Nt}{H:Hp}{b:Addr}{k:KN}(d:Nt.Ok N)(ok:OkP N k)(h:NKey H k b):Ma H 250 2 (.ref b):=by
 obtain⟨g,r,rfl,l,e,j⟩:=ok;obtain⟨t,c,e2⟩:=w8 h;replace c:H b=some (.tup [.ref t,.int (r:Nat)]):=c;have m:=d.fm;have f:=d.l16;refine .tup c (show 2<=250 by decide) λy a=>?_;rcases Jq.mp a with rfl|z
 ·refine .tup e2 (by rw[Jn];lia) λy a=>?_
  obtain⟨i,hi,rfl⟩:=JA.mp a;refine .int _ ?_;rcases e i hi with q|q<;>rw[q]<;>decide
 ·rw[Jd.mp z]
  refine .int _ ?_;have:(10001:Nat)<=10 ^ 29:=by decide
  lia
section
variable {P:Program}{w:World}{K:PySem.W.Frag}{mg:Str->Option Value}{base:Heap}
theorem wD:FnScope ["_law_script","_law_k","_law_left_here","_law_net","_law_some_here","_law_rows","_law_book","_law_row","_law_other","_law_things","_law_turn","_law_thing","_law_more_here","_law_found"] ["_law_script"] (zN cY):=by trivial
theorem bK {f fL fK fM fC fS fV fF fB fR fW Pt:Addr}{fd dL dK dM dC dS dV dF dB dR dW:FuncData}(F:Fun K "law" "law" cY f fd) (G:Mgs mg) (UL:Use P w K mg base "_law_left" ["_law_script","_law_k"] 1 (rS K) fL dL) (C:Use P w K mg base "_law_pick" ["_law_left_here","_law_many"] 1 xN fK dK) (UM:Use P w K mg base "_law_made" ["_law_way","_law_k"] 11 ou fM dM) (UC:Use P w K mg base "_law_changed" ["_law_left_here","_law_net"] 2 iH fC dC) (US:Use P w K mg base "_law_some" ["_law_left_here","_law_net"] 2 rR fS dS)
  (UV:Use P w K mg base "_law_levels" ["_law_net","_law_some_here","_law_most"] 2 (iF P w) fV dV) (UF:Use P w K mg base "_law_first" ["_law_net"] 1 y4 fF dF) (UB:Use P w K mg base "_law_bent" ["_law_left_here","_law_thing"] 10 vN fB dB) (UR:Use P w K mg base "shows_stair" ["net","some","thing"] 7 (uS K qS Pt) fR dR) (UW:Use P w K mg base "_law_is_book" ["_law_net","_law_some_here","_law_thing"] 3 uR fW dW):FnOk P w K mg base CX0 14 f fd ["_law_script"] (mG K Pt):=by
 refine F.ok wD (λvs H Q E h=>?_) (λi1 A outer s H vs Q E hr h=>?_)
 ·obtain⟨a,ns,rfl,_⟩:=h
  rfl
 obtain⟨a,ns,rfl,hS,h5,hO,k⟩:=h;have tab:TabQ qS Pt H:=⟨[],hO,λp hp=>absurd hp JJ⟩;have J:Room 1 _:=hr.mono (by decide);have cb:Room 2 _:=hr.mono (by decide);have hI:Room 3 _:=hr.mono (by decide);have hH:Room 7 _:=hr.mono (by decide);have eb:Room 10 _:=hr.mono (by decide);have bS:Room 11 _:=hr.mono (by decide);refine⟨_,(@zG _ _ _ _ _ (@y7 _ _ _ _ _ _ _ _ Ye rfl (@xu _ _ _ _ _ _ rfl G.range (@zA _ _ _ _ _ (@zM _ _ _ _ _ _ _ _ _ (jb rfl) (by rfl) G.max (by rfl) (@zA _ _ _ _ _ zE (@zA _ _ _ _ _ (@zM _ _ _ _ _ _ _ _ _ (ja rfl) (by rfl) G.min (by rfl) (@zA _ _ _ _ _ (@zM _ _ _ _ _ _ _ _ _ zT (by rfl) G.len JT (@zA _ _ _ _ _ (@qv _ 0 _ _ (by trivial)) zB (by rfl)) (by decide) (by decide) (by rfl) (by rfl)) (@zA _ _ _ _ _ zE zB (by rfl)) (by rfl)) (by decide) (by decide) (by rfl) (by rfl)) zB (by rfl)) (by rfl)) (by decide) (by decide) (by rfl) (by rfl)) zB (by rfl)) (by rfl)) (@zP _ _ 1 _ wD.nd rfl (.inl rfl) (by trivial)) (@zG _ _ _ _ _ (@zo _ _ 2 _ _ _ _ wD.nd rfl (.inl rfl) (@zL _ _ _ _ _ _ _ _ _ _ _ _ _ _ _ _ UL.ok J (by rfl) UL.m UL.kp UL.b .nil zW (@zA _ _ _ _ _ (@qv _ 0 _ _ (by trivial)) (@zA _ _ _ _ _ (@qv _ 1 _ _ (by trivial)) zB (by rfl)) (by rfl)) (by decide) (by rfl) (by rfl)) (by rfl) (by trivial)) (@zG _ _ _ _ _ (@zo _ _ 3 _ _ _ _ wD.nd rfl (.inl rfl) (@zL _ _ _ _ _ _ _ _ _ _ _ _ _ _ _ _ UM.ok bS (by rfl) UM.m UM.kp UM.b .nil zW (@zA _ _ _ _ _ (@zL _ _ _ _ _ _ _ _ _ _ _ _ _ _ _ _ C.ok J (by rfl) C.m C.kp C.b .nil zW (@zA _ _ _ _ _ (@qv _ 2 _ _ (by trivial)) (@zA _ _ _ _ _ zE zB (by rfl)) (by rfl)) (by decide) (by rfl) (by rfl)) (@zA _ _ _ _ _ (@zL _ _ _ _ _ _ _ _ _ _ _ _ _ _ _ _ C.ok J (by rfl) C.m C.kp C.b .nil zW (@zA _ _ _ _ _ (@qv _ 2 _ _ (by trivial)) (@zA _ _ _ _ _ zE zB (by rfl)) (by rfl)) (by decide) (by rfl) (by rfl)) zB (by rfl)) (by rfl)) (by decide) (by rfl) (by rfl)) (by rfl) (by trivial)) (@zG _ _ _ _ _ (@yT _ _ _ _ _ _ _ _ (@zt _ _ _ _ _ _ _ _ xv (@zL _ _ _ _ _ _ _ _ _ _ _ _ _ _ _ _ C.ok J (by rfl) C.m C.kp C.b .nil zW (@zA _ _ _ _ _ (@qv _ 2 _ _ (by trivial)) (@zA _ _ _ _ _ zE zB (by rfl)) (by rfl)) (by decide) (by rfl) (by rfl)) zE (yE _)) (@zK _ _ _ (@zo _ _ 3 _ _ _ _ wD.nd rfl (.inl rfl) (@zL _ _ _ _ _ _ _ _ _ _ _ _ _ _ _ _ UC.ok cb (by rfl) UC.m UC.kp UC.b .nil zW (@zA _ _ _ _ _ (@qv _ 2 _ _ (by trivial)) (@zA _ _ _ _ _ (@qv _ 3 _ _ (by trivial)) zB (by rfl)) (by rfl)) (by decide) (by rfl) (by rfl)) (by rfl) (by trivial))) zp) (@zG _ _ _ _ _ (@zo _ _ 4 _ _ _ _ wD.nd rfl (.inl rfl) (@zL _ _ _ _ _ _ _ _ _ _ _ _ _ _ _ _ US.ok cb (by rfl) US.m US.kp US.b .nil zW (@zA _ _ _ _ _ (@qv _ 2 _ _ (by trivial)) (@zA _ _ _ _ _ (@qv _ 3 _ _ (by trivial)) zB (by rfl)) (by rfl)) (by decide) (by rfl) (by rfl)) (by rfl) (by trivial)) (@zG _ _ _ _ _ (@zo _ _ 5 _ _ _ _ wD.nd rfl (.inl rfl) (@zj _ _ _ _ _ _ _ yB (@zL _ _ _ _ _ _ _ _ _ _ _ _ _ _ _ _ UV.ok cb (by rfl) UV.m UV.kp UV.b .nil zW (@zA _ _ _ _ _ (@qv _ 3 _ _ (by trivial)) (@zA _ _ _ _ _ (@qv _ 4 _ _ (by trivial)) (@zA _ _ _ _ _ zE zB (by rfl)) (by rfl)) (by rfl)) (by decide) (by rfl) (by rfl)) zE (λ_ _=>rfl)) (by rfl) (by trivial)) (@zG _ _ _ _ _ (@zo _ _ 6 _ _ _ _ wD.nd rfl (.inl rfl) (@yG _ _ _ _ zB) (by rfl) (by trivial)) (@zG _ _ _ _ _ (@y7 _ _ _ _ _ _ _ _ Ye rfl (@mM _ _ _ _ (@qv _ 5 _ _ (by trivial))) (@zP _ _ 7 _ wD.nd rfl (.inl rfl) (by trivial)) (@zK _ _ _ (@xh _ _ _ _ (@uh _ _ _ _ _ _ _ _ _ _ _ _ YV PySem.F.slot_list_extend PySem.F.type_list_extend vV (@qv _ 6 _ _ (by trivial)) (@zA _ _ _ _ _ (@qv _ 7 _ _ (by trivial)) zB (by rfl)) (by rfl) (by rfl) (by rfl) (by rfl) (by rfl)) (by rfl))) (by intro _;rfl)) (@zG _ _ _ _ _ (@zo _ _ 8 _ _ _ _ wD.nd rfl (.inl rfl) (@zL _ _ _ _ _ _ _ _ _ _ _ _ _ _ _ _ UM.ok bS (by rfl) UM.m UM.kp UM.b .nil zW (@zA _ _ _ _ _ (@zL _ _ _ _ _ _ _ _ _ _ _ _ _ _ _ _ C.ok J (by rfl) C.m C.kp C.b .nil zW (@zA _ _ _ _ _ (@qv _ 2 _ _ (by trivial)) (@zA _ _ _ _ _ zE zB (by rfl)) (by rfl)) (by decide) (by rfl) (by rfl)) (@zA _ _ _ _ _ (@zL _ _ _ _ _ _ _ _ _ _ _ _ _ _ _ _ C.ok J (by rfl) C.m C.kp C.b .nil zW (@zA _ _ _ _ _ (@qv _ 2 _ _ (by trivial)) (@zA _ _ _ _ _ zE zB (by rfl)) (by rfl)) (by decide) (by rfl) (by rfl)) zB (by rfl)) (by rfl)) (by decide) (by rfl) (by rfl)) (by rfl) (by trivial)) (@zG _ _ _ _ _ (@zo _ _ 9 _ _ _ _ wD.nd rfl (.inl rfl) (@yG _ _ _ _ (@zA _ _ _ _ _ (@zr _ _ _ _ _ _ _ _ _ zz (by rfl) G.tuple (by rfl) (@zA _ _ _ _ _ (@qv _ 6 _ _ (by trivial)) zB (by rfl)) (by decide) (by decide) (by rfl) (by rfl)) (@zA _ _ _ _ _ (@zr _ _ _ _ _ _ _ _ _ zz (by rfl) G.tuple (by rfl) (@zA _ _ _ _ _ (@zu _ _ _ _ _ _ _ _ _ _ xx (@qv _ 6 _ _ (by trivial)) (@zi _ _ _ zE) yD) zB (by rfl)) (by decide) (by decide) (by rfl) (by rfl)) (@zA _ _ _ _ _ (@zr _ _ _ _ _ _ _ _ _ zz (by rfl) G.tuple (by rfl) (@zA _ _ _ _ _ (@zj _ _ _ _ _ _ _ zw (@zj _ _ _ _ _ _ _ yB (@zL _ _ _ _ _ _ _ _ _ _ _ _ _ _ _ _ UV.ok cb (by rfl) UV.m UV.kp UV.b .nil zW (@zA _ _ _ _ _ (@qv _ 8 _ _ (by trivial)) (@zA _ _ _ _ _ (@zX _ _ _ _ _ (@zA _ _ _ _ _ zE zB (by rfl))) (@zA _ _ _ _ _ zE zB (by rfl)) (by rfl)) (by rfl)) (by decide) (by rfl) (by rfl)) zE (λ_ _=>rfl)) zE (λ_ _=>rfl)) zB (by rfl)) (by decide) (by decide) (by rfl) (by rfl)) (@zA _ _ _ _ _ (@zX _ _ _ _ _ zB) (@zA _ _ _ _ _ qB (@zA _ _ _ _ _ pE (@zA _ _ _ _ _ (@qv _ 6 _ _ (by trivial)) zB (by rfl)) (by rfl)) (by rfl)) (by rfl)) (by rfl)) (by rfl)) (by rfl))) (by rfl) (by trivial)) (@zG _ _ _ _ _ (@zo _ _ 9 _ _ _ _ wD.nd rfl (.inl rfl) (@zS _ _ _ _ _ _ _ _ xn (@qv _ 9 _ _ (by trivial)) (@yG _ _ _ _ (@zA _ _ _ _ _ (@zX _ _ _ _ _ (@zA _ _ _ _ _ (@zL _ _ _ _ _ _ _ _ _ _ _ _ _ _ _ _ UF.ok J (by rfl) UF.m UF.kp UF.b .nil zW (@zA _ _ _ _ _ (@qv _ 3 _ _ (by trivial)) zB (by rfl)) (by decide) (by rfl) (by rfl)) zB (by rfl))) (@zA _ _ _ _ _ (@zS _ _ _ _ _ _ _ _ uH (@zX _ _ _ _ _ (@zA _ _ _ _ _ (@zL _ _ _ _ _ _ _ _ _ _ _ _ _ _ _ _ UF.ok J (by rfl) UF.m UF.kp UF.b .nil zW (@zA _ _ _ _ _ (@qv _ 3 _ _ (by trivial)) zB (by rfl)) (by decide) (by rfl) (by rfl)) zB (by rfl))) zE) (@zA _ _ _ _ _ (@zX _ _ _ _ _ (@zA _ _ _ _ _ (@zX _ _ _ _ _ zB) zB (by rfl))) (@zA _ _ _ _ _ (@zX _ _ _ _ _ (@zA _ _ _ _ _ (@zX _ _ _ _ _ (@zA _ _ _ _ _ (@zj _ _ _ _ _ _ _ yB (@zL _ _ _ _ _ _ _ _ _ _ _ _ _ _ _ _ UF.ok J (by rfl) UF.m UF.kp UF.b .nil zW (@zA _ _ _ _ _ (@qv _ 3 _ _ (by trivial)) zB (by rfl)) (by decide) (by rfl) (by rfl)) zE (λ_ _=>rfl)) zB (by rfl))) zB (by rfl))) zB (by rfl)) (by rfl)) (by rfl)) (by rfl)))) (by rfl) (by trivial)) (@zG _ _ _ _ _ (@y7 _ _ _ _ _ _ _ _ Ye rfl (@xu _ _ _ _ _ _ rfl G.range (@zA _ _ _ _ _ zE zB (by rfl)) (by rfl)) (@zP _ _ 10 _ wD.nd rfl (.inl rfl) (by trivial)) (@zG _ _ _ _ _ (@zo _ _ 11 _ _ _ _ wD.nd rfl (.inl rfl) (@zr _ _ _ _ _ _ _ _ _ zz (by rfl) G.tuple (by rfl) (@zA _ _ _ _ _ (@qv _ 6 _ _ (by trivial)) zB (by rfl)) (by decide) (by decide) (by rfl) (by rfl)) (by rfl) (by trivial)) (@zG _ _ _ _ _ (@y7 _ _ _ _ _ _ _ _ Ye rfl (@xu _ _ _ _ _ _ rfl G.range (@zA _ _ _ _ _ (@zj _ _ _ _ _ _ _ zw (@yG _ _ _ _ (@zA _ _ _ _ _ zE (@zA _ _ _ _ _ zE (@zA _ _ _ _ _ zE (@zA _ _ _ _ _ zE zB (by rfl)) (by rfl)) (by rfl)) (by rfl))) (@zL _ _ _ _ _ _ _ _ _ _ _ _ _ _ _ _ C.ok J (by rfl) C.m C.kp C.b .nil zW (@zA _ _ _ _ _ (@qv _ 2 _ _ (by trivial)) (@zA _ _ _ _ _ zE zB (by rfl)) (by rfl)) (by decide) (by rfl) (by rfl)) (λ_ _=>rfl)) zB (by rfl)) (by rfl)) (@zP _ _ 12 _ wD.nd rfl (.inl rfl) (by trivial)) (@zK _ _ _ (@zo _ _ 11 _ _ _ _ wD.nd rfl (.inl rfl) (@zL _ _ _ _ _ _ _ _ _ _ _ _ _ _ _ _ UB.ok eb (by rfl) UB.m UB.kp UB.b .nil zW (@zA _ _ _ _ _ (@qv _ 2 _ _ (by trivial)) (@zA _ _ _ _ _ (@qv _ 11 _ _ (by trivial)) zB (by rfl)) (by rfl)) (by decide) (by rfl) (by rfl)) (by rfl) (by trivial))) (by intro _;rfl)) (@zK _ _ _ (@xh _ _ _ _ (@uh _ _ _ _ _ _ _ _ _ _ _ _ YV Wc Wd xQ (@qv _ 9 _ _ (by trivial)) (@zA _ _ _ _ _ (@qv _ 11 _ _ (by trivial)) zB (by rfl)) (by rfl) (by rfl) (by rfl) (by rfl) (by rfl)) (by rfl))))) (by intro _;rfl)) (@zK _ _ _ (@y7 _ _ _ _ _ _ _ _ Ye rfl (@mM _ _ _ _ (@qv _ 9 _ _ (by trivial))) (@zP _ _ 11 _ wD.nd rfl (.inl rfl) (by trivial)) (@zG _ _ _ _ _ (@zo _ _ 13 _ _ _ _ wD.nd rfl (.inl rfl) (@zL _ _ _ _ _ _ _ _ _ _ _ _ _ _ _ _ UR.ok hH (by rfl) UR.m UR.kp UR.b .nil zW (@zA _ _ _ _ _ (@qv _ 3 _ _ (by trivial)) (@zA _ _ _ _ _ (@qv _ 4 _ _ (by trivial)) (@zA _ _ _ _ _ (@qv _ 11 _ _ (by trivial)) zB (by rfl)) (by rfl)) (by rfl)) (by decide) (by rfl) (by rfl)) (by rfl) (by trivial)) (@zK _ _ _ (@yT _ _ _ _ _ _ _ _ (@vf _ _ _ _ _ _ _ (@wH _ _ _ _ (@xj _ _ _ (@zM _ _ _ _ _ _ _ _ _ ya (by rfl) G.isi (by rfl) (@zA _ _ _ _ _ (@qv _ 13 _ _ (by trivial)) (@zA _ _ _ _ _ (@yp _ _ (.ty "bool") (.type "bool") _ (by rfl) G.bool (by rfl) rfl (by decide) (by decide)) zB (by rfl)) (by rfl)) (by decide) (by decide) (by rfl) (by rfl)) (by intro _;rfl))) (@wn _ _ _ _ (@zt _ _ _ _ _ _ _ _ uj (@qv _ 13 _ _ (by trivial)) (@zL _ _ _ _ _ _ _ _ _ _ _ _ _ _ _ _ UW.ok hI (by rfl) UW.m UW.kp UW.b .nil zW (@zA _ _ _ _ _ (@qv _ 3 _ _ (by trivial)) (@zA _ _ _ _ _ (@qv _ 4 _ _ (by trivial)) (@zA _ _ _ _ _ (@qv _ 11 _ _ (by trivial)) zB (by rfl)) (by rfl)) (by rfl)) (by decide) (by rfl) (by rfl)) (yE _)))).pt (@zK _ _ _ (@zU _ _ _ _ xA)) zp))) (by intro _;rfl)))))))))))))) (by intro _;rfl)) (@zK _ _ _ (@zU _ _ _ _ xA))),?_⟩;have ml:(ns.map V.int).length=ns.length:=Jn _;refine⟨_,rfl,a,_,rfl,.inl hS,_,_,rfl,_,_,rfl,?_⟩;rw[ml]
 have e6:(if (if (5:Int)<(ns.length:Nat) then (5:Int) else (ns.length:Nat)) > 1 then (if (5:Int)<(ns.length:Nat) then (5:Int) else (ns.length:Nat)) else 1)<=5/\(1:Int)<=(if (if (5:Int)<(ns.length:Nat) then (5:Int) else (ns.length:Nat)) > 1 then (if (5:Int)<(ns.length:Nat) then (5:Int) else (ns.length:Nat)) else 1):=by
  split<;>split at *<;>lia
 refine⟨_,rfl,by lia,by lia,?_⟩;generalize (if (if (5:Int)<(ns.length:Nat) then (5:Int) else (ns.length:Nat)) > 1 then (if (5:Int)<(ns.length:Nat) then (5:Int) else (ns.length:Nat)) else 1)=cnt at e6;refine vX (lo:=0) (n:=cnt.toNat) (λi σ H2=>(∃ v1 v2 v3 v4 v5 v6 v7 v8 v9 v10 v11 a6 a5,σ=[some (.ref a),v1,v2,v3,v4,v5,v6,v7,v8,v9,v10,v11,a6,a5])/\Scr K a (ns.map V.int) H2/\TabQ qS Pt H2) ⟨⟨_,_,_,_,_,_,_,_,_,_,_,_,_,rfl⟩,Scr.of hS,tab⟩ ?_ ?_
 rotate_left
 ·rintro σ H2 ⟨⟨v1,v2,v3,v4,v5,v6,v7,v8,v9,v10,v11,a6,a5,rfl⟩,a7,tab⟩
  exact k _
 rintro i σ H2 hi ⟨⟨v1,v2,v3,v4,v5,v6,v7,v8,v9,v10,v11,a6,a5,rfl⟩,a7,tab⟩;have i6:i<5:=by lia
 refine lS (λD0 h4=>?_);refine yA (λD1 hZ=>?_);refine⟨_,rfl,_,rfl,a,ns,_,rfl,a7.sq,h5,by lia,by lia,λl H3 hl s3 S3=>?_⟩
 have dn:LE K a l Pt (ns.map V.int) H3:=⟨S3,tab.same s3,a7.keep λo e _=>.inr (s3 _ _ e),by
  rcases a7 with z|⟨o,z⟩|z
  ·exact .inl (zH z hl)
  ·exact .inl (zH z hl)
  ·exact .inr z⟩
 clear a7 tab s3 hl;refine hZ _ _ ?_;refine yA (λD2 hY=>?_);refine⟨_,rfl,l,3,rfl,by decide,by decide,dn.S,λwy H4 ik S4 B4=>⟨_,rfl,l,3,rfl,by decide,by decide,S4,λkk H5 k3 S5 B5=>⟨wy,kk,rfl,by lia,λr fr er ps H6 s6 na=>?_⟩⟩⟩;have a0:=((dn.pick S4 B4).pick S5 B5).same s6;have c7:=mZ (way:=wy) (k:=kk) (by lia);clear S4 B4 S5 B5 s6 S3 dn;refine hY _ _ ?_;refine qJ (λσ HX=>∃ rn R S O N,σ=[some (.ref a),some (.int (0+(i:Nat))),some (.ref l),some (.ref rn),v4,v5,v6,v7,v8,v9,v10,v11,a6,a5]/\LE K a l Pt (ns.map V.int) HX/\NetAt HX rn R S O N/\Nt.Ok N) ?_ λD ej rt=>?_
 rotate_left
 ·refine⟨_,rfl,l,3,rfl,by decide,by decide,a0.S,λv H7 hv S7 B7=>⟨rfl,_,rfl,oB (λ_=>?_) λ_=>ej _ _ ⟨r,fr,er,ps,_,rfl,a0.pick S7 B7,na.tups (B7.tups3 a0.S),c7⟩⟩⟩
  have fk:(xG wy kk).forks.length<=100:=(by decide +kernel:∀ w,w<3->∀ k,k<3->(xG w k).forks.length<=100) wy (by lia) kk (by lia);exact⟨_,rfl,_,rfl,l,r,fr,er,ps,_,(xG wy kk).lanes,100,rfl,S7,⟨c7,Jc _,fk⟩,Jc _,na.tups (B7.tups3 a0.S),λr' h7 ia hh N' H' h8 _ ho S' B'=>ej _ _ ⟨r',h7,ia,hh,N',rfl,(a0.pick S7 B7).pick S' B',ho,h8.ok⟩⟩
 rintro σ HX ⟨rn,R,S,O,N,rfl,b6,c8,ok⟩;clear na c7 a0;refine yA (λD3 hX=>?_);refine⟨_,rfl,_,rfl,l,rn,R,S,O,N,rfl,b6.S,ok,c8,λp moves H7 ln hp S7 B7=>?_⟩;have eN:=b6.pick S7 B7;have c9:=c8.tups (B7.tups3 b6.S);have ij:=ln.len;have iv:=ok.l16;clear B7 S7 c8 b6;refine hX _ _ ?_;refine yA (λD4 hW=>?_);refine⟨_,rfl,_,rfl,rn,R,S,O,N,p,moves,300,rfl,ok,c9,hp,ln.lt,by lia,by decide,by decide,λpl H8 s8 ⟨lr,dm,x0,as,a3,n,e0,cc,rws,b9,n3,_⟩=>?_⟩;refine⟨pl,_,_,_,rfl,rfl,SqT.of e0,rfl,hW _ _ ?_⟩;have b8:=eN.same s8;have eu:=c9.tups (Tups.of s8);have fo:=s8 _ _ hp;clear s8 hp c9 eN e0;refine⟨by show 0<=sizeLine;decide,λI a4=>?_⟩;have s9:=zC a4 (.lst []);refine zaN (λ_ _=>True) ?_;refine yA (λD5 hV=>?_);refine⟨_,rfl,lr,rfl,⟨_,SqL.of (s9 _ _ cc)⟩,?_⟩;have aT:I≠l:=(b8.S.ne a4).symm;have ac:=gQ b8 a4;have kl:=Yc rws
 refine oH (K:=K) (a:=lr) (xs:=as.map V.ref) (λj σ Y=>∃ cs w7,σ=[some (.ref a),some (.int (0+(i:Nat))),some (.ref l),some (.ref rn),some (.ref p),some (.ref lr),some (.ref I),w7,v8,v9,v10,v11,a6,a5]/\LE K a l Pt (ns.map V.int) Y/\KpM H8 Y/\But I H8 Y/\Y I=some (.lst (cs.map V.ref))/\cs.length=((a3.take j).map List.length).sum/\∀ c∈cs,Ma H8 250 2 (.ref c)) ⟨[],_,rfl,b8.same s9,KpM.same s9,But.of s9,zD,rfl,λc hc=>(nomatch hc)⟩ (λj σ Y _ z=>by
  obtain⟨cs,w7,_,_,_,B,_⟩:=z
  exact SqL.of (B _ _ cc (zH cc a4))) ?_ ?_
 ·rintro j x σ Y hx ⟨cs,w7,rfl,t,kA,BA,ao,cl,cm⟩
  rw[JZ]at hx;obtain⟨a1,ea,rfl⟩:=Y6.mp hx;obtain⟨ks,ek,bs,f7,kb⟩:=sP rws ea;have jl:j<a3.length:=(Ja.mp ek).1;have bl:bs.length=ks.length:=Yc kb;have tk:a3.take (j+1)=a3.take j++[ks]:=by rw[Yr jl,(Ja.mp ek).2]
  have tl:=qf a3 (j+1)
  have sj:((a3.take (j+1)).map List.length).sum=cs.length+bs.length:=by
   rw[tk,JU,List.sum_append,<- cl,bl];rfl
  rw[b9.sum,sj]at tl;refine⟨_,rfl,.inl ⟨rfl,_,SqL.of ao⟩,_,rfl,I,a1,cs.map V.ref,bs.map V.ref,rfl,rfl,ao,BA _ _ f7 (zH f7 a4),by rw[Jn,Jn,JH];lia,?_⟩;refine⟨cs++bs,_,rfl,t.list ao aT ac,kA.trans (KpM.list ao),λb o e ne=>?_,?_,?_,λc hc=>?_⟩
  ·rw[zJ ne];exact BA b o e ne
  ·rw[JU];exact zD
  ·rw[sj,Jb]
  ·rcases Ju.mp hc with z|z
   ·exact cm c z
   ·obtain⟨k1,k2,k3⟩:=kb.mem c z
    exact Ma.pr ok (b9.all ks (JB ek) k1 k2) k3
 rintro σ Y ⟨cs,w7,rfl,t,kA,BA,ao,cl,cm⟩;rw[Jn,kl,Ya,b9.sum]at cl;replace cl:cs.length<=300:=by lia
 refine hV _ _ ?_;refine yA (λD6 hU=>?_);refine⟨_,rfl,l,3,rfl,by decide,by decide,t.S,λc3 H1 wz S1 B1=>⟨_,rfl,l,3,rfl,by decide,by decide,S1,λdt H2 kz S2 B2=>⟨c3,dt,rfl,by lia,λro h6 h9 hg H3 s3 el=>?_⟩⟩⟩;have leB:=((t.pick S1 B1).pick S2 B2).same s3;have kB:=((kA.trans (KpM.but B1 t.S S1)).trans (KpM.but B2 S1 S2)).trans (KpM.same s3);have ct:=s3 _ _ (B2 _ _ (B1 _ _ ao aT) aT);have es:=eu.tups kB.tups;have fl:=kB.tups _ _ fo;have cx:∀ c∈cs,Ma H3 250 2 (.ref c):=λc hc=>Ma.kpm kB (cm c hc);have b5:=mZ (way:=c3) (k:=dt) (by lia);clear s3 B2 S2 B1 S1 ao BA kA t cm b9 rws cc fo eu b8 n3 kl s9 a4;generalize xG c3 dt=No at *;refine hU _ _ ?_;refine yA (λD7 hT=>?_);refine⟨_,rfl,I,cs.map V.ref,rfl,.inl ⟨SqL.of ct,λp0 fy=>?_⟩⟩;have s0:=zC fy (.tup (cs.map V.ref));refine⟨_,rfl,_,rfl,I,cs.map V.ref,rfl,SqL.of (s0 _ _ ct),λq1 hJ=>⟨q1,_,rfl,.inl ⟨SqL.of zD,λp1 fx=>?_⟩⟩⟩;have b4:=zC hJ (.lst (yq (cs.map V.ref) (some 1) none));have c5:=zC fx (.tup (yq (cs.map V.ref) (some 1) none));have s1:=(s0.trans b4).trans c5;refine⟨_,rfl,by show 1<=sizeLine;decide,λt0 hG=>?_⟩;have s2:=zC hG (.tup [.int 0]);have lo:=b5.l1;refine⟨ro,h6,h9,hg,No,t0,[0],300,rfl,b5,(el.tups (Tups.of s1)).tups (Tups.of s2),zD,λm hm=>by rw[Jd.mp hm];lia,by decide,by decide,by decide,λhk H4 s4 ⟨hB,i0,x2,g6,ax,n2,ec,ed,d9,bB,il,ne2⟩=>?_⟩
 obtain⟨a2,cP,rfl⟩:∃ a2 cP,g6=a2::cP:=by
  cases g6 with
  | nil=>exact absurd rfl ne2
  | cons a2 cP=>exact⟨a2,cP,rfl⟩
 obtain⟨dr,d6,cH,ee,kb2⟩:=sP d9 (i:=0) rfl;refine⟨hk,_,_,_,rfl,rfl,SqT.of ec,rfl,hB,_,_,_,rfl,rfl,SqL.of ed,yM (j:=0) rfl,a2,cH.map V.ref,rfl,.inl ⟨SqL.of ee,λp2 fw=>?_⟩⟩
 have i2:cH.length<=300:=by
  have h1:=Yc kb2;have h2:=qf ax 1
  have h3:(ax.take 1).map List.length=[dr.length]:=by
   cases ax with
   | nil=>cases d6
   | cons c d=>cases d6;rfl
  rw[h3,bB.sum]at h2;replace h2:dr.length+0<=n2:=h2;lia
 have g5:∀ b∈cH,Ma H4 250 2 (.ref b):=λb hb=>by
  obtain⟨k1,k2,k3⟩:=kb2.mem b hb;exact Ma.pr b5 (bB.all dr (JB d6) k1 k2) k3
 have s5:=zC fw (.tup (cH.map V.ref));refine⟨by show 0<=sizeLine;decide,λp3 fv=>λp4 fp=>⟨_,rfl,by show 7<=sizeLine;decide,λlt dx=>?_⟩⟩;have s6:=zC fv (.tup []);have s7:=zC fp (.dK []);have q7:=s7;have q6:=s6.trans q7;have q5:=s5.trans q6;have q4:=s4.trans q5;have q2:=s2.trans q4;have ei:=c5.trans q2;have c6:=b4.trans ei;have q0:=s0.trans c6
 have b3:(yq (cs.map V.ref) (some 1) none).length<=310:=by
  have h:=Jn (as:=cs) V.ref
  have:(yq (cs.map V.ref) (some 1) none).length<=(cs.map V.ref).length:=by
   unfold yq;rw[Js,Y9];lia
  lia
 have f0:Ma _ 310 9 (.ref p0):=Ma.same c6 (Ma.new fy (by rw[Jn];lia) λy g=>by
  obtain⟨bq,ab,rfl⟩:=JA.mp g
  exact Ma.more (by decide) (by decide) (cx bq ab))
 have f1:Ma _ 310 9 (.ref p1):=Ma.same q2 (Ma.new fx b3 λy g=>by
  obtain⟨bq,ab,rfl⟩:=JA.mp (cut_mem g)
  exact Ma.same (s0.trans b4) (Ma.more (by decide) (by decide) (cx bq ab)))
 have f2:Ma _ 310 9 (.ref p2):=Ma.same q6 (Ma.new fw (by rw[Jn];lia) λy g=>by
  obtain⟨bq,ab,rfl⟩:=JA.mp g
  exact Ma.more (by decide) (by decide) (g5 bq ab))
 have f3:Ma _ 310 9 (.ref p3):=Ma.same q7 (Ma.new (xs:=[]) fv (show 0<=310 by decide) λy g=>(nomatch g));have f4:Ma _ 310 9 (.ref p4):=Ma.dictN fp;have dk:=leB.same q0;have ep:=es.tups (Tups.of q0);have ff:=q0 _ _ fl;have ck:=q0 _ _ ct;have g4:∀ c∈cs,Ma _ 250 2 (.ref c):=λc hc=>Ma.same q0 (cx c hc);clear g5 b3 q0 c6 ei q2 q4 q5 q6 s7 s6 s5 s4 s2 s1 b4 c5 s0 cx ct fl es leB el b5;refine hT _ _ ?_;refine yA (λD8 hR=>?_);generalize L2.upd _ p4 (.dK [])=HC at *;have L:=zC dx (.lst [.ref p0,.ref p1,.ref p2,.ref p3,.non,.ref p4,.ref I]);have hu:lt≠l:=(dk.S.ne dx).symm;have hA:I≠lt:=zH ck dx;have ey:=dk.same L;have a8:=ep.tups (Tups.of L);have fe:=L _ _ ff;have gi:=L _ _ ck;have gV:∀ c∈cs,Ma _ 250 2 (.ref c):=λc hc=>Ma.same L (g4 c hc)
 have tD:∀ y∈[V.ref p0,.ref p1,.ref p2,.ref p3,.non,.ref p4,.ref I],Ma _ 310 9 y:=λy g=>by
  simp only[Jq,JJ,YH]at g;rcases g with rfl|rfl|rfl|rfl|rfl|rfl|rfl
  ·exact Ma.same L f0
  ·exact Ma.same L f1
  ·exact Ma.same L f2
  ·exact Ma.same L f3
  ·exact Ma.non
  ·exact Ma.same L f4
  ·exact Ma.same L (Ma.lst ck)
 have fP:L2.upd HC lt (.lst [.ref p0,.ref p1,.ref p2,.ref p3,.non,.ref p4,.ref I]) lt=some (.lst [.ref p0,.ref p1,.ref p2,.ref p3,.non,.ref p4,.ref I]):=zD;have c4:[V.ref p0,.ref p1,.ref p2,.ref p3,.non,.ref p4,.ref I].length=7:=rfl;clear L f0 f1 f2 f3 f4 g4 ck ff ep dk;generalize L2.upd HC lt (.lst [.ref p0,.ref p1,.ref p2,.ref p3,.non,.ref p4,.ref I])=HD at *;generalize [V.ref p0,.ref p1,.ref p2,.ref p3,.non,.ref p4,.ref I]=M at *;refine⟨_,rfl,_,rfl,rn,R,S,O,N,rfl,ok,a8,λb0 E1 e1 k1=>⟨by show 1<=sizeLine;decide,λc0 d2=>?_⟩⟩;have e2:=zC d2 (.tup [.ref b0]);have u2:=e1.trans e2;refine⟨_,rfl,rn,R,S,O,N,rfl,ok,a8.tups (Tups.of u2),λb1 E3 e3 k2=>⟨by show 1<=sizeLine;decide,λc1 f6=>?_⟩⟩;have e4:=zC f6 (.tup [.ref b1]);refine⟨c1,.ref b1,2,rfl,rfl,zD,by decide,λc2 E5 e5 f5=>⟨by show 0<=sizeLine;decide,λd0 dT=>⟨by show 1<=sizeLine;decide,λd1 dP=>?_⟩⟩⟩;have e6:=zC dT (.tup []);have e7:=zC dP (.tup [.ref d0]);have u7:=(((u2.trans e3).trans e4).trans e5).trans (e6.trans e7);refine⟨_,rfl,rn,R,S,O,N,rfl,ok,a8.tups (Tups.of u7),λb2 E8 e8 k3=>?_⟩;obtain⟨t3,bu,hF⟩:=w8 k3;replace bu:E8 b2=some (.tup [.ref t3,.int 0]):=bu;refine⟨b2,_,_,_,rfl,rfl,SqT.of bu,rfl,by show 1<=sizeLine;decide,λg0 dO=>⟨by show 1<=sizeLine;decide,λg1 dH=>⟨by show 4<=sizeLine;decide,λl2 fT=>?_⟩⟩⟩;have e9:=zC dO (.tup [.ref t3]);have d7:=zC dH (.tup [.ref g0]);have X:=(u7.trans e8).trans (e9.trans d7);have v10:=e9.trans d7;have W:=e8.trans v10;have cX:=(e6.trans e7).trans W;have ef:=(e4.trans e5).trans cX
 have m0:Ma _ 310 9 (.ref c0):=Ma.same (e3.trans ef) (Ma.new d2 (show 1<=310 by decide) λy g=>by
  rw[Jd.mp g];exact Ma.more (b:=250) (h:=2) (by decide) (by decide) (Ma.pr ok (wS ok) k1))
 have m2:Ma _ 310 9 (.ref c2):=Ma.same cX (Ma.tup (h:=8) f5 (by rw[ZL];decide) λy g=>by
  rw[List.eq_of_mem_replicate g];exact Ma.more (b:=250) (h:=2) (by decide) (by decide) (Ma.same (e4.trans e5) (Ma.pr ok (wS ok) k2)))
 have m1:Ma _ 310 9 (.ref d1):=Ma.same W (Ma.new dP (show 1<=310 by decide) λy g=>by
  rw[Jd.mp g];exact Ma.new (xs:=[]) (h:=7) dT (show 0<=310 by decide) λy g=>(nomatch g))
 have m3:Ma _ 310 9 (.ref g1):=Ma.new (xs:=[.ref g0]) dH (show 1<=310 by decide) λy g=>by
  rw[Jd.mp g];refine Ma.new (xs:=[.ref t3]) dO (show 1<=310 by decide) λy g=>?_;rw[Jd.mp g];obtain⟨_,h',e1,km⟩:=Ma.kids (Ma.pr ok (wS ok) k3) (yi bu);exact Ma.more (by decide) (by lia) (km _ (.head _))
 have b7:=ey.same X;have eo:=a8.tups (Tups.of X);have fb:=X _ _ fe;have d3:=X _ _ gi;have gP:∀ c∈cs,Ma _ 250 2 (.ref c):=λc hc=>Ma.same X (gV c hc);have tE:∀ y∈M,Ma _ 310 9 y:=λy g=>Ma.same X (tD y g);have fO:=X _ _ fP;generalize L2.upd _ g1 (.tup [.ref g0])=HE at *;clear ef cX W v10 X d7 e9 bu hF k3 e8 u7 e7 e6 e5 e4 e3 u2 e2 k1 k2 dH dO dP dT f5 f6 d2 gV tD fP gi fe a8 ey e1;have L:=zC fT (.lst [.ref c0,.ref c2,.ref d1,.ref g1]);refine⟨lt,l2,M,_,rfl,rfl,L _ _ fO,zD,by rw[c4,JH];show 7+4<=16777216;decide,λlc ba=>?_⟩;have sc:=zC ba (.lst (M++[.ref c0,.ref c2,.ref d1,.ref g1]));have ss:=L.trans sc;have ew:=b7.same ss;have dq:lc≠l:=((b7.same L).S.ne ba).symm;have acc:=gQ (b7.same L) ba;have eS:I≠lc:=zH (L _ _ d3) ba;have en:=eo.tups (Tups.of ss);have fa:=ss _ _ fb;have gd:=ss _ _ d3;have gs:∀ c∈cs,Ma _ 250 2 (.ref c):=λc hc=>Ma.same ss (gP c hc)
 have tF:∀ y∈M++[V.ref c0,.ref c2,.ref d1,.ref g1],Ma _ 310 9 y:=λy g=>Ma.same ss (by
  rcases Ju.mp g with z|z
  ·exact tE y z
  ·simp only[Jq,JJ,YH]at z
   rcases z with rfl|rfl|rfl|rfl
   ·exact m0
   ·exact m2
   ·exact m1
   ·exact m3)
 have fN:L2.upd (L2.upd HE l2 (.lst [.ref c0,.ref c2,.ref d1,.ref g1])) lc (.lst (M++[.ref c0,.ref c2,.ref d1,.ref g1])) lc=some (.lst (M++[.ref c0,.ref c2,.ref d1,.ref g1])):=zD;have eh:(M++[V.ref c0,.ref c2,.ref d1,.ref g1]).length<=11:=by rw[Jb,c4];exact Jc _
 refine hR _ _ ?_;generalize L2.upd (L2.upd HE l2 (.lst [.ref c0,.ref c2,.ref d1,.ref g1])) lc (.lst (M++[.ref c0,.ref c2,.ref d1,.ref g1]))=HF at *;generalize M++[V.ref c0,.ref c2,.ref d1,.ref g1]=ts1 at *;clear ss sc L tE gP d3 fb eo b7 fO m0 m1 m2 m3 ba fT c4;refine yA (λD9 hQ=>?_);refine⟨_,rfl,by decide,by decide,?_⟩;refine vX (lo:=0) (n:=(12:Int).toNat) (λj σ HZ=>∃ ts W Z U T,σ=[some (.ref a),some (.int (0+(i:Nat))),some (.ref l),some (.ref rn),some (.ref p),some (.ref lr),some (.ref I),w7,some (.ref ro),some (.ref lc),W,Z,U,T]/\LE K a l Pt (ns.map V.int) HZ/\KpM HF HZ/\HZ lc=some (.lst ts)/\ts.length<=11+j/\(∀ y∈ts,Ma HZ 310 9 y)/\HZ I=some (.lst (cs.map V.ref))) ⟨_,_,_,_,_,rfl,ew,KpM.refl _,fN,eh,tF,gd⟩ ?_ ?_
 ·rintro j σ HZ hj ⟨ts,W,Z,U,T,rfl,leZ,kz,bo,tl,tm,bt⟩
  refine lS (λG0 d5=>?_);refine yA (λG1 d4=>?_);refine⟨_,rfl,I,cs.map V.ref,rfl,.inl ⟨SqL.of bt,λq hq=>?_⟩⟩;have sq:=zC hq (.tup (cs.map V.ref))
  have mq:Ma (L2.upd HZ q (.tup (cs.map V.ref))) 300 3 (.ref q):=Ma.new hq (by rw[Jn];exact cl) λy g=>by
   obtain⟨bq,ab,rfl⟩:=JA.mp g;exact Ma.more (b:=250) (h:=2) (by decide) (by decide) (Ma.kpm kz (gs bq ab))
  have a9:=leZ.same sq;have fD:=sq _ _ bo;have f9:=sq _ _ bt;have eg:∀ y∈ts,Ma _ 310 9 y:=λy g=>Ma.same sq (tm y g);have ky:=kz.trans (KpM.same sq);refine d4 _ _ ?_;refine yA (λG2 hP=>?_);generalize L2.upd HZ q (.tup (cs.map V.ref))=HY at *;clear sq hq bo bt leZ tm kz;refine⟨by show 4<=sizeLine;decide,λli dy=>?_⟩;have si:=zC dy (.lst [.int 1,.int 1,.int 2,.int 3]);refine⟨_,rfl,l,4,rfl,by decide,by decide,a9.S.keep si,λv H1 hv S1 B1=>?_⟩;have n1:li≠l:=(a9.S.ne dy).symm
  obtain⟨m,em,m3⟩:∃ m:Nat,([.int 1,.int 1,.int 2,.int 3]:List V)[v]?=some (.int (m:Nat))/\m<=3:=by
   rcases (by lia:v=0\/v=1\/v=2\/v=3) with rfl|rfl|rfl|rfl
   ·exact⟨1,rfl,by decide⟩
   ·exact⟨1,rfl,by decide⟩
   ·exact⟨2,rfl,by decide⟩
   ·exact⟨3,rfl,by decide⟩
  have hD:=(a9.same si).pick S1 B1;have k1:=(KpM.same si).trans (KpM.but B1 (a9.S.keep si) S1);refine⟨li,_,_,_,rfl,rfl,SqL.of (B1 _ _ zD n1),yM em,_,rfl,by lia,by lia,?_⟩;have hL:=B1 _ _ (si _ _ fD) dq;have hN:=B1 _ _ (si _ _ f9) aT;have ht:=Ma.kpm k1 mq;have ha:∀ y∈ts,Ma _ 310 9 y:=λy g=>Ma.kpm k1 (eg y g);have hE:=ky.trans k1;clear k1 si dy B1 fD f9 mq eg ky a9 em n1;refine vX (lo:=0) (n:=((m:Nat):Int).toNat) (λj2 σ HW=>∃ y U,σ=[some (.ref a),some (.int (0+(i:Nat))),some (.ref l),some (.ref rn),some (.ref p),some (.ref lr),some (.ref I),w7,some (.ref ro),some (.ref lc),some (.int (0+(j:Nat))),some y,U,T]/\Pk3 HW l/\But l H1 HW/\Ma HW (300+3*j2) (3+2*j2) y) ⟨_,_,rfl,S1,But.of (Same.refl _),ht⟩ ?_ ?_
  ·rintro j2 σ HW ix ⟨y,U,rfl,SW,BW,my⟩
   exact⟨_,rfl,_,rfl,3+2*j2,by lia,l,y,300+3*j2,rfl,SW,by lia,my,λy' HV hs SV BV=>⟨y',_,rfl,SV,BW.trans BV,Ma.more (by lia) (by lia) hs⟩⟩
  rintro σ HW ⟨y,U,rfl,SW,BW,my⟩;refine hP _ _ ?_;have hC:=hD.pick SW BW;have kw:=KpM.but BW S1 SW;have cf:=BW _ _ hL dq;have hM:=BW _ _ hN aT;refine⟨_,rfl,.inl ⟨rfl,_,SqL.of cf⟩,_,rfl,lc,ts,y,rfl,rfl,cf,by rw[JH];have:j<12:=hj;lia,?_⟩;have kq:=(KpM.list (zs:=ts++[y]) cf);refine d5 _ _ ⟨ts++[y],_,_,_,_,rfl,hC.list cf dq acc,(hE.trans kw).trans kq,zD,by rw[Jb];show _+1<=_;lia,λz hz=>?_,by rw[zJ eS];exact hM⟩;rcases Ju.mp hz with u|u
  ·exact Ma.kpm (kw.trans kq) (ha z u)
  ·rw[Jd.mp u];exact Ma.more (by lia) (by lia) (Ma.kpm kq my)
 rintro σ HZ ⟨ts,W,Z,U,T,rfl,leZ,kz,bo,tl,tm,bt⟩;have hn:=en.tups kz.tups;have hK:=kz.tups _ _ fa;clear bt kz en fa gd gs fN tF eh ew cl acc eS aT ac hA hu;refine hQ _ _ ?_;refine⟨_,rfl,lc,rfl,⟨_,SqL.of bo⟩,?_⟩
 refine oH (K:=K) (a:=lc) (xs:=ts) (λj σ Y=>∃ Z T,σ=[some (.ref a),some (.int (0+(i:Nat))),some (.ref l),some (.ref rn),some (.ref p),some (.ref lr),some (.ref I),w7,some (.ref ro),some (.ref lc),W,Z,U,T]/\LE K a l Pt (ns.map V.int) Y/\KpM HZ Y/\Y lc=some (.lst ts)) ⟨_,_,rfl,leZ,KpM.refl _,bo⟩ (λj σ Y _ z=>by
  obtain⟨_,_,_,_,_,z⟩:=z
  exact SqL.of z) ?_ ?_
 rotate_left
 ·rintro σ Y ⟨Z,T,rfl,t,kA,dD⟩
  exact h4 _ _ ⟨⟨_,_,_,_,_,_,_,_,_,_,_,_,_,rfl⟩,t.scr,t.tab⟩
 rintro j x σ Y hx ⟨Z,T,rfl,t,kA,dD⟩;have mx:=Ma.kpm kA (tm x (JB hx));have et:=hn.tups kA.tups;have fm:=kA.tups _ _ hK
 have rows:∀ {HQ:Hp},Ma HQ 310 9 x->∀ xs,zY HQ x=some xs->xs.length<=310/\∀ y∈xs,Dp HQ 2 y:=λmm xs e=>by
  obtain⟨c1,h',_,q⟩:=mm.kids e;exact⟨c1,λy g=>Ma.dp (by decide) 2 (q y g)⟩
 refine lS (λG0 d5=>?_);refine yA (λG1 d4=>?_);refine⟨_,rfl,_,rfl,_,rfl,rn,R,S,O,N,p,moves,x,rfl,ok,et,fm,ln.lt,by lia,mx.an,λxs e=>⟨JK (rows mx xs e).1 (by decide),(rows mx xs e).2⟩,t.tab,λH2 B2 d8=>?_⟩;have k2:=KpM.tab t.tab B2;have dd:=Ma.kpm k2 mx;have le2:=t.ver d8 B2;have ib:=dZ (N:=N) (moves:=moves) k2 mx.an λxs e=>(rows mx xs e).2;refine dG (c:=bkP N moves Y x) rfl ?_;refine d4 _ _ ?_;generalize bkP N moves Y x=found at *;refine⟨_,rfl,_,"bool",_,true,rfl,.bl found,rfl,_,rfl,zx ⟨_,rfl,_,rfl,_,rfl,_,rfl,rn,R,S,O,N,p,moves,x,rfl,ok,et.tups k2.tups,k2.tups _ _ fm,ln.lt,by lia,dd.an,λxs e=>⟨JK (rows dd xs e).1 (by decide),(rows dd xs e).2⟩,λH3 s3=>?_⟩⟩;refine aY (c:=found) ib ?_;refine⟨rfl,_,rfl,?_⟩;rw[show (!decide (V.bl found=V.bl found))=false by rw[Jx rfl];rfl];exact zx (d5 _ _ ⟨_,_,rfl,le2.same s3,((kA.trans k2).trans (KpM.same s3)),s3 _ _ (B2 _ _ dD (yh dD t.tab.choose_spec.1 λz=>by cases z))⟩)
end
structure FnAt (K:PySem.W.Frag) (x:Str) (st:Stmt) (f:Addr) (fd:FuncData):Prop where
 ns:PySem.W.nsIn K mainGlobals x=some (some (.ref f))
 fn:Fun K x x st f fd
theorem yR {K:PySem.W.Frag}{x:Str}{st:Stmt}{f:Addr}{oc:Value}{od an:Option Addr}{osl:Array (Option Value)}{kV doc pm cdv ct:Value}(a:PySem.W.nsIn K mainGlobals x=some (some (.ref f)))(l:K.lookup f=some ⟨oc,od,.func (PySem.W.fnOf x x (xP st) (yk st) (zN st) .none kV doc pm an cdv ct),osl⟩)(c:PySem.W.codeIn K cdv x=true)(k:PySem.W.keepIn K (.ref f)=true):FnAt K x st f (PySem.W.fnOf x x (xP st) (yk st) (zN st) .none kV doc pm an cdv ct):=⟨a,bg l c k⟩
structure FnAtC (K:PySem.W.Frag) (x:Str) (st:Stmt) (f:Addr) (fd:FuncData) (c:Addr):Prop where
 ns:PySem.W.nsIn K mainGlobals x=some (some (.ref f))
 fn:FunC K x x st f fd c
theorem bh {K:PySem.W.Frag}{x:Str}{st:Stmt}{f c:Addr}{oc:Value}{od an:Option Addr}{osl:Array (Option Value)}{kV doc pm ct:Value}(a:PySem.W.nsIn K mainGlobals x=some (some (.ref f)))(l:K.lookup f=some ⟨oc,od,.func (PySem.W.fnOf x x (xP st) (yk st) (zN st) .none kV doc pm an (.ref c) ct),osl⟩)(cd:PySem.W.codeIn K (.ref c) x=true)(k:PySem.W.keepIn K (.ref f)=true):FnAtC K x st f (PySem.W.fnOf x x (xP st) (yk st) (zN st) .none kV doc pm an (.ref c) ct) c:=⟨a,⟨⟨_,_,_,_,_,_,_,_,rfl,l,cd⟩,k⟩⟩
theorem _root_.L2.FunC.fun {K:PySem.W.Frag}{x qual:Str}{st:Stmt}{f:Addr}{fd:FuncData}{c:Addr}(F:FunC K x qual st f fd c):Fun K x qual st f fd:=by
 obtain⟨d,b,kV,doc,pm,an,g,a,e,l,q⟩:=F.ex;exact⟨⟨d,b,kV,doc,pm,an,.ref c,g,a,e,l,q⟩,F.kp⟩
theorem jW {K:PySem.W.Frag}{c P:Addr}{od:Option Addr}{vs:Array Value}{osl:Array (Option Value)}(l:K.lookup c=some ⟨.type "code",od,.fields vs,osl⟩) (e:PySem.W.codeHdIn [(c,⟨.type "code",od,.fields vs,osl⟩)] c P=true):PySem.W.codeHdIn K c P=true:=by
 have q:List.lookup c [(c,(⟨.type "code",od,.fields vs,osl⟩:Obj))]=some ⟨.type "code",od,.fields vs,osl⟩:=by rw[Yv,beq_self_eq_true]
 unfold PySem.W.codeHdIn at e ⊢;rw[q]at e;rw[l];exact e
theorem us1 {us:List Value}(h:us.length=1):∃ a,us=[a]:=by
 match us,h with
 | [a],_=>exact⟨a,rfl⟩
theorem us2 {us:List Value}(h:us.length=2):∃ b a,us=[b,a]:=by
 match us,h with
 | [b,a],_=>exact⟨b,a,rfl⟩
theorem us3 {us:List Value}(h:us.length=3):∃ c b a,us=[c,b,a]:=by
 match us,h with
 | [c,b,a],_=>exact⟨c,b,a,rfl⟩
theorem us4 {us:List Value}(h:us.length=4):∃ c b a u3,us=[c,b,a,u3]:=by
 match us,h with
 | [c,b,a,u3],_=>exact⟨c,b,a,u3,rfl⟩
theorem us5 {us:List Value}(h:us.length=5):∃ d c b u3 a,us=[d,c,b,u3,a]:=by
 match us,h with
 | [d,c,b,u3,a],_=>exact⟨d,c,b,u3,a,rfl⟩
set_option maxHeartbeats 4000001 in
theorem bv {l:PySem.W.OpenLaw}{w:World}{K:PySem.W.Frag}{h:Heap}{mg:Str->Option Value}{fa f1 f2 f3 f4 f5 f6 f7 f8 f9 bS bu bt bq bo ba a9 a8 a7 a6 a5 a4 a3 a0 aT ax ao ab Z Y W V er:Addr}{d1 d2 d3 d4 d5 d6 d7 d8 d9 dn dm dk dd c9 c8 c7 c6 c5 c4 c3 c2 c1 c0 cX cP cx cm ck cf cc cb b0:FuncData}(X:K.In h) (G:h.Ns mainGlobals mg) (ep:mg "law" = some (.ref fa))
  {g Pt:Addr}
  (A1:FnAt K "is_whole" o4 f1 d1)
  (A2:FnAt K "is_below" o9 f2 d2)
  (A3:FnAt K "is_row" o7 f3 d3)
  (A4:FnAt K "are_below" vP f4 d4)
  (A5:FnAt K "end_of" cj f5 d5)
  (A6:FnAt K "run_through" cT f6 d6)
  (A7:FnAt K "passed" rY f7 d7)
  (A8:FnAt K "first_turns" rc f8 d8)
  (A9:FnAt K "is_book" ra f9 d9)
  (N:FnAt K "first_pair" re bS dn)
  (L:FnAt K "pair_behind" o6 bu dm)
  (J:FnAt K "is_pair" rZ bt dk)
  (I:FnAtC K "shows_stair" xy bq dd g)
  (H:FnAt K "_law_left" iO bo c9)
  (F:FnAt K "_law_pick" iL ba c8)
  (E:FnAt K "_law_merger" qp a9 c7)
  (D:FnAt K "_law_stairway" qo a8 c6)
  (C:FnAt K "_law_block" qr a7 c5)
  (B:FnAt K "_law_tree" qm a6 c4)
  (A:FnAt K "_law_made" iN a5 c3)
  (z:FnAt K "_law_changed" cn a4 c2)
  (y:FnAt K "_law_some" o5 a3 c1)
  (x:FnAt K "_law_passed" cU a0 c0)
  (u:FnAt K "_law_more" cV aT cX)
  (t:FnAt K "_law_first" cg ax cP)
  (r:FnAt K "_law_levels" cW ao cx)
  (q:FnAt K "_law_whole" cR ab cm)
  (o:FnAt K "_law_are_turns" rX Z ck)
  (n:FnAt K "_law_is_book" ud Y cf)
  (m:FnAt K "_law_odd" iM W cc)
  (k:FnAt K "_law_bent" wk V cb)
  (P:FnAt K "law" cY er b0)
  (z1:PySem.W.nsIn K mainGlobals "len" = some none)
  (z2:PySem.W.nsIn K mainGlobals "range" = some none)
  (z3:PySem.W.nsIn K mainGlobals "tuple" = some none)
  (z4:PySem.W.nsIn K mainGlobals "enumerate" = some none)
  (z5:PySem.W.nsIn K mainGlobals "abs" = some none)
  (z6:PySem.W.nsIn K mainGlobals "zip" = some none)
  (z7:PySem.W.nsIn K mainGlobals "isinstance" = some none)
  (z8:PySem.W.nsIn K mainGlobals "all" = some none)
  (z9:PySem.W.nsIn K mainGlobals "sum" = some none)
  (dR:PySem.W.nsIn K mainGlobals "bool" = some none)
  (dP:PySem.W.nsIn K mainGlobals "int" = some none)
  (dO:PySem.W.nsIn K mainGlobals "str" = some none)
  (dM:PySem.W.nsIn K mainGlobals "max" = some none)
  (dK:PySem.W.nsIn K mainGlobals "min" = some none)
  (dH:PySem.W.nsIn K mainGlobals "sorted" = some none)
  (dF:PySem.W.nsIn K mainGlobals "list" = some none)
  (dD:PySem.W.nsIn K mainGlobals "dict" = some none)
  (cH:PySem.W.codeHdIn K g Pt=true) (dS:mainGlobals≠Pt) (kP:K.lookup Pt=none)
  : (K.lookup Pt=none/\∃ c,PySem.W.codeHdIn K c Pt=true)/\∃ fd:FuncData,(∀ (s:Shared) (v:Value),BindsTo s fd ⟨[v],[]⟩ [("_law_script",v)])/\∀ base:Heap,K.In base->base.Ns mainGlobals mg->(∀ p∈[Pt],base.BuiltinsAt mg p)->FnOk l.prog w K mg base CX0 14 fa fd ["_law_script"] (mG K Pt):=by
 have e:=ep.symm.trans (JP X G P.ns);cases e;have M:Mgs mg:=⟨Y0 X G z1,Y0 X G z2,Y0 X G z3,Y0 X G z4,Y0 X G z5,Y0 X G z6,Y0 X G z7,Y0 X G z8,Y0 X G z9,Y0 X G dR,Y0 X G dP,Y0 X G dO,Y0 X G dM,Y0 X G dK,Y0 X G dH,Y0 X G dF⟩;have M2:MgD mg:=⟨Y0 X G dD⟩;have b1:=A1.fn.binds (ps:=["thing"]) λ_ _ _ _ _ _ b a=>by obtain⟨d,rfl⟩:=us1 a;rfl
 have m1:=JP X G A1.ns;have b2:=A2.fn.binds (ps:=["thing","bound"]) λ_ _ _ _ _ _ b a=>by obtain⟨d,f,rfl⟩:=us2 a;rfl
 have m2:=JP X G A2.ns;have b3:=A3.fn.binds (ps:=["thing","many"]) λ_ _ _ _ _ _ b a=>by obtain⟨d,f,rfl⟩:=us2 a;rfl
 have m3:=JP X G A3.ns;have b4:=A4.fn.binds (ps:=["thing","many","bound"]) λ_ _ _ _ _ _ b a=>by obtain⟨d,f,j,rfl⟩:=us3 a;rfl
 have m4:=JP X G A4.ns;have b5:=A5.fn.binds (ps:=["net","lane"]) λ_ _ _ _ _ _ b a=>by obtain⟨d,f,rfl⟩:=us2 a;rfl
 have m5:=JP X G A5.ns;have b6:=A6.fn.binds (ps:=["net","turns","lane","back"]) λ_ _ _ _ _ _ b a=>by obtain⟨d,f,j,u3,rfl⟩:=us4 a;rfl
 have m6:=JP X G A6.ns;have b7:=A7.fn.binds (ps:=["net","turns","lane"]) λ_ _ _ _ _ _ b a=>by obtain⟨d,f,j,rfl⟩:=us3 a;rfl
 have m7:=JP X G A7.ns;have b8:=A8.fn.binds (ps:=["net"]) λ_ _ _ _ _ _ b a=>by obtain⟨d,rfl⟩:=us1 a;rfl
 have m8:=JP X G A8.ns;have b9:=A9.fn.binds (ps:=["thing","is_state","first","moves","led"]) λ_ _ _ _ _ _ b a=>by obtain⟨d,f,j,u3,u4,rfl⟩:=us5 a;rfl
 have m9:=JP X G A9.ns;have fb:=N.fn.binds (ps:=["net"]) λ_ _ _ _ _ _ b a=>by obtain⟨d,rfl⟩:=us1 a;rfl
 have eo:=JP X G N.ns;have e9:=L.fn.binds (ps:=["net","pair","lane"]) λ_ _ _ _ _ _ b a=>by obtain⟨d,f,j,rfl⟩:=us3 a;rfl
 have en:=JP X G L.ns;have e8:=J.fn.binds (ps:=["net","thing"]) λ_ _ _ _ _ _ b a=>by obtain⟨d,f,rfl⟩:=us2 a;rfl
 have el:=JP X G J.ns;have e7:=I.fn.fun.binds (ps:=["net","some","thing"]) λ_ _ _ _ _ _ b a=>by obtain⟨d,f,j,rfl⟩:=us3 a;rfl
 have ek:=JP X G I.ns;have e6:=H.fn.binds (ps:=["_law_script","_law_k"]) λ_ _ _ _ _ _ b a=>by obtain⟨d,f,rfl⟩:=us2 a;rfl
 have ej:=JP X G H.ns;have e5:=F.fn.binds (ps:=["_law_left_here","_law_many"]) λ_ _ _ _ _ _ b a=>by obtain⟨d,f,rfl⟩:=us2 a;rfl
 have ei:=JP X G F.ns;have dy:=E.fn.binds (ps:=["_law_one","_law_other"]) λ_ _ _ _ _ _ b a=>by obtain⟨d,f,rfl⟩:=us2 a;rfl
 have U:=JP X G E.ns;have dx:=D.fn.binds (ps:=["_law_row"]) λ_ _ _ _ _ _ b a=>by obtain⟨d,rfl⟩:=us1 a;rfl
 have T:=JP X G D.ns;have dt:=C.fn.binds (ps:=["_law_row"]) λ_ _ _ _ _ _ b a=>by obtain⟨d,rfl⟩:=us1 a;rfl
 have S:=JP X G C.ns;have dr:=B.fn.binds (ps:=["_law_row"]) λ_ _ _ _ _ _ b a=>by obtain⟨d,rfl⟩:=us1 a;rfl
 have R:=JP X G B.ns;have e4:=A.fn.binds (ps:=["_law_way","_law_k"]) λ_ _ _ _ _ _ b a=>by obtain⟨d,f,rfl⟩:=us2 a;rfl
 have eh:=JP X G A.ns;have e3:=z.fn.binds (ps:=["_law_left_here","_law_net"]) λ_ _ _ _ _ _ b a=>by obtain⟨d,f,rfl⟩:=us2 a;rfl
 have eg:=JP X G z.ns;have e1:=y.fn.binds (ps:=["_law_left_here","_law_net"]) λ_ _ _ _ _ _ b a=>by obtain⟨d,f,rfl⟩:=us2 a;rfl
 have ef:=JP X G y.ns;have e0:=x.fn.binds (ps:=["_law_net","_law_turns","_law_lane"]) λ_ _ _ _ _ _ b a=>by obtain⟨d,f,j,rfl⟩:=us3 a;rfl
 have ee:=JP X G x.ns;have eS:=u.fn.binds (ps:=["_law_counts","_law_lane"]) λ_ _ _ _ _ _ b a=>by obtain⟨d,f,rfl⟩:=us2 a;rfl
 have ec:=JP X G u.ns;have eN:=t.fn.binds (ps:=["_law_net"]) λ_ _ _ _ _ _ b a=>by obtain⟨d,rfl⟩:=us1 a;rfl
 have eb:=JP X G t.ns;have ey:=r.fn.binds (ps:=["_law_net","_law_some_here","_law_most"]) λ_ _ _ _ _ _ b a=>by obtain⟨d,f,j,rfl⟩:=us3 a;rfl
 have ea:=JP X G r.ns;have ew:=q.fn.binds (ps:=["_law_thing","_law_least","_law_most"]) λ_ _ _ _ _ _ b a=>by obtain⟨d,f,j,rfl⟩:=us3 a;rfl
 have d0:=JP X G q.ns;have eu:=o.fn.binds (ps:=["_law_net","_law_thing"]) λ_ _ _ _ _ _ b a=>by obtain⟨d,f,rfl⟩:=us2 a;rfl
 have dW:=JP X G o.ns;have et:=n.fn.binds (ps:=["_law_net","_law_some_here","_law_thing"]) λ_ _ _ _ _ _ b a=>by obtain⟨d,f,j,rfl⟩:=us3 a;rfl
 have dV:=JP X G n.ns;have es:=m.fn.binds (ps:=["_law_left_here"]) λ_ _ _ _ _ _ b a=>by obtain⟨d,rfl⟩:=us1 a;rfl
 have dT:=JP X G m.ns;have dq:=k.fn.binds (ps:=["_law_left_here","_law_thing"]) λ_ _ _ _ _ _ b a=>by obtain⟨d,f,rfl⟩:=us2 a;rfl
 have Q:=JP X G k.ns;obtain⟨oc,od,kV,doc,pm,an,fO,ct,fN,ed,_,_⟩:=id P.fn.ex;refine⟨⟨kP,g,cH⟩,b0,λs v=>by rw[ed];exact .of_eq rfl,λbase _ _ bB=>?_⟩;have CK:CodeK K mg base g Pt:=⟨cH,bB Pt (.head _),dS⟩;have U1:Use l.prog w K mg base "is_whole" ["thing"] 1 (rQ K) f1 d1:=⟨i5 A1.fn M,b1,A1.fn.kp,m1⟩;have U2:Use l.prog w K mg base "is_below" ["thing","bound"] 2 (uF K) f2 d2:=⟨gA A2.fn M U1,b2,A2.fn.kp,m2⟩;have U3:Use l.prog w K mg base "is_row" ["thing","many"] 1 (uB K) f3 d3:=⟨i9 A3.fn M,b3,A3.fn.kp,m3⟩;have U4:Use l.prog w K mg base "are_below" ["thing","many","bound"] 3 (rT K) f4 d4:=⟨pN A4.fn M U3 U2,b4,A4.fn.kp,m4⟩;have U5:Use l.prog w K mg base "end_of" ["net","lane"] 1 iG f5 d5:=⟨bM A5.fn,b5,A5.fn.kp,m5⟩;have U6:Use l.prog w K mg base "run_through" ["net","turns","lane","back"] 2 iD f6 d6:=⟨bG A6.fn M U5,b6,A6.fn.kp,m6⟩;have U7:Use l.prog w K mg base "passed" ["net","turns","lane"] 3 (wj false) f7 d7:=⟨kU A7.fn U6,b7,A7.fn.kp,m7⟩;have U8:Use l.prog w K mg base "first_turns" ["net"] 1 uW f8 d8:=⟨kZ A8.fn M,b8,A8.fn.kp,m8⟩;have fM:Use l.prog w K mg base "first_pair" ["net"] 2 y4 bS dn:=⟨ke N.fn U8,fb,N.fn.kp,eo⟩;have fL:Use l.prog w K mg base "pair_behind" ["net","pair","lane"] 4 uA bu dm:=⟨i8 L.fn U7,e9,L.fn.kp,en⟩;have fK:Use l.prog w K mg base "is_pair" ["net","thing"] 4 (vA K) bt dk:=⟨kY J.fn M U3 U4 U2,e8,J.fn.kp,el⟩;have U9:Use l.prog w K mg base "is_book" ["thing","is_state","first","moves","led"] 6 (uV l.prog w K (sk qS) ["net"] (ni K) (uw qS) ["net"] vH) f9 d9:=⟨kX A9.fn M (eY qS fK) (bT qS fL),b9,A9.fn.kp,m9⟩;have fF:Use l.prog w K mg base "shows_stair" ["net","some","thing"] 7 (uS K qS Pt) bq dd:=⟨kT I.fn CK U9 fM,e7,I.fn.kp,ek⟩;have fD:Use l.prog w K mg base "_law_left" ["_law_script","_law_k"] 1 (rS K) bo c9:=⟨eK H.fn M,e6,H.fn.kp,ej⟩;have i:Use l.prog w K mg base "_law_pick" ["_law_left_here","_law_many"] 1 xN ba c8:=⟨eH F.fn,e5,F.fn.kp,ei⟩;have fC:Use l.prog w K mg base "_law_merger" ["_law_one","_law_other"] 5 wG a9 c7:=⟨kW E.fn M dy U,dy,E.fn.kp,U⟩;have fB:Use l.prog w K mg base "_law_stairway" ["_law_row"] 10 uQ a8 c6:=⟨kS D.fn M fC dx T,dx,D.fn.kp,T⟩;have fy:Use l.prog w K mg base "_law_block" ["_law_row"] 5 uY a7 c5:=⟨kf C.fn M dt S,dt,C.fn.kp,S⟩;have fx:Use l.prog w K mg base "_law_tree" ["_law_row"] 5 uO a6 c4:=⟨kR B.fn M dr R,dr,B.fn.kp,R⟩;have fw:Use l.prog w K mg base "_law_made" ["_law_way","_law_k"] 11 ou a5 c3:=⟨eJ A.fn M fy fB fx,e4,A.fn.kp,eh⟩;have fv:Use l.prog w K mg base "_law_changed" ["_law_left_here","_law_net"] 2 iH a4 c2:=⟨bN z.fn M i,e3,z.fn.kp,eg⟩;have fp:Use l.prog w K mg base "_law_some" ["_law_left_here","_law_net"] 2 rR a3 c1:=⟨i7 y.fn M i,e1,y.fn.kp,ef⟩;have dC:Use l.prog w K mg base "_law_passed" ["_law_net","_law_turns","_law_lane"] 1 (wj false) a0 c0:=⟨bH x.fn M,e0,x.fn.kp,ee⟩;have fo:Use l.prog w K mg base "_law_more" ["_law_counts","_law_lane"] 1 iE aT cX:=⟨bI u.fn,eS,u.fn.kp,ec⟩;have O:Use l.prog w K mg base "_law_first" ["_law_net"] 1 y4 ax cP:=⟨bL t.fn M,eN,t.fn.kp,eb⟩;have fm:Use l.prog w K mg base "_law_levels" ["_law_net","_law_some_here","_law_most"] 2 (iF l.prog w) ao cx:=⟨bJ r.fn M M2 O dC fo,ey,r.fn.kp,ea⟩;have dB:Use l.prog w K mg base "_law_whole" ["_law_thing","_law_least","_law_most"] 1 (mF K) ab cm:=⟨bF q.fn M,ew,q.fn.kp,d0⟩;have fl:Use l.prog w K mg base "_law_are_turns" ["_law_net","_law_thing"] 2 (uM K) Z ck:=⟨kQ o.fn M dB,eu,o.fn.kp,dW⟩;have fk:Use l.prog w K mg base "_law_is_book" ["_law_net","_law_some_here","_law_thing"] 3 uR Y cf:=⟨nM n.fn M dC O dB fl,et,n.fn.kp,dV⟩;have ff:Use l.prog w K mg base "_law_odd" ["_law_left_here"] 2 uT W cc:=⟨eI m.fn M i,es,m.fn.kp,dT⟩;have fe:Use l.prog w K mg base "_law_bent" ["_law_left_here","_law_thing"] 10 vN V cb:=⟨nN k.fn M i ff dq Q,dq,k.fn.kp,Q⟩;exact bK P.fn M fD i fw fv fp fm O fe fF fk
theorem zad {l:PySem.W.OpenLaw}{q:Program}{loose:List Str}{v:(Str->Option Value)->Heap->Prop}{i:World->Heap->Prop}{d:DefRec}{K:Params->PySem.W.Frag}{Pt:Addr}(hn:l.most=some 63) (g:d.params.defaults=[])
  (r:∀ (w:World) (h:Heap),i w h->(K w.params).In h/\∀ p∈[Pt],h.get? p=some (PySem.W.tabObj #[]))
  (F:∀ (w:World) (mg:Str->Option Value) (e:Addr) (h:Heap),(K w.params).In h->h.Ns mainGlobals mg->mg d.name=some (.ref e)->((K w.params).lookup Pt=none/\∃ c,PySem.W.codeHdIn (K w.params) c Pt=true) /\
   ∃ fd:FuncData,(∀ (s:Shared) (u:Value),BindsTo s fd ⟨[u],[]⟩ [("_law_script",u)])/\∀ base:Heap,(K w.params).In base->base.Ns mainGlobals mg->(∀ p∈[Pt],base.BuiltinsAt mg p)->FnOk l.prog w (K w.params) mg base CX0 14 e fd ["_law_script"] (mG (K w.params) Pt)) :
  PySem.W.WalkO q loose v i l.row.toRowW d [] (λf vs=>PySem.call f vs) :=
 L2.jy (n:=63) (k:=14) (x:="_law_script") (CX:=CX0) (sp:=λK=>mG K Pt) [Pt] hn (by decide) g ⟨rfl,by decide,by decide,rfl⟩ r (λw mg e h a b c=>⟨λp m=>Jd.mp m ▸ (F w mg e h a b c).1,(F w mg e h a b c).2⟩) (λ_ _ a ns o t j=>⟨a,ns,rfl,t,o,j Pt (.head _),λ_=>rfl⟩) λ_ _ _ _ z=>z
end K39
theorem PySem.W.Fast.tw16568991265830424272:True:=trivial
theorem PySem.W.Fast.tw7785972979450028804:True:=trivial
theorem PySem.W.Fast.tw8920764193619035013:True:=trivial
theorem PySem.W.Fast.tw8960049499553570485:True:=trivial
theorem PySem.W.Fast.tw2907550624170551323:True:=trivial
theorem PySem.W.Fast.tw6972829847773887113:True:=trivial
theorem PySem.W.Fast.tw14664483403174713327:True:=trivial
theorem PySem.W.Fast.tw18323262915019096314:True:=trivial
theorem PySem.W.Fast.tw18046780803928362425:True:=trivial
theorem PySem.W.Fast.tw4960340072286675076:True:=trivial
theorem PySem.W.Fast.tw10293485429553985948:True:=trivial
theorem PySem.W.Fast.tw12413764774267539434:True:=trivial
theorem PySem.W.Fast.tw14700985924942547078:True:=trivial
theorem PySem.W.Fast.tw3909396929723831149:True:=trivial
theorem PySem.W.Fast.tw10935764023315300407:True:=trivial
theorem PySem.W.Fast.tw9531550442865355918:True:=trivial
theorem PySem.W.Fast.tw235333684697853443:True:=trivial
theorem PySem.W.Fast.tw2689536975533170877:True:=trivial
theorem PySem.W.Fast.tw6384544210902997175:True:=trivial
theorem PySem.W.Fast.tw1776512294414862492:True:=trivial
theorem PySem.W.Fast.tw4757626739012592217:True:=trivial
theorem PySem.W.Fast.tw8208918872466366725:True:=trivial
theorem PySem.W.Fast.tw1791826624378935380:True:=trivial
theorem PySem.W.Fast.tw31040623278454168:True:=trivial
theorem PySem.W.Fast.tw1455775601459824787:True:=trivial
theorem PySem.W.Fast.tw4533277826569030631:True:=trivial
theorem PySem.W.Fast.tw5949947375171730180:True:=trivial
theorem PySem.W.Fast.tw2088955270605262937:True:=trivial
theorem PySem.W.Fast.tw17788825483985537952:True:=trivial
theorem PySem.W.Fast.tw17627947669411423614:True:=trivial
theorem PySem.W.Fast.tw15527692174039832220:True:=trivial
theorem PySem.W.Fast.tw12084559769252562874:True:=trivial
theorem PySem.W.Fast.tw5496849042342929611:True:=trivial
theorem PySem.W.Fast.tw393394396654350905:True:=trivial
open PySem PySem.W PyProof.Rows
set_option maxRecDepth 100000 in
set_option maxHeartbeats 0 in
theorem PySem.Challenge.cw_stairlanes_k39_books_spoilt_holds : PySem.Challenge.rw_stairlanes_k39_books_spoilt.Holds := by
 w_on;o_law;k_head;(case hw=>w_witness2)
 k_fill
 refine K39.zad (l:=PySem.Challenge.rw_stairlanes_k39_books_spoilt) rfl rfl (fun w h Y=>⟨PySem.W.km_in_of Y,PySem.W.km_tabs_of Y⟩) ?F
 case F =>
  intro w mg fa h KX G hmg
  refine' K39.bv KX G hmg (K39.yR ?a1 ?l1 ?c1 ?k1) (K39.yR ?a2 ?l2 ?c2 ?k2) (K39.yR ?a3 ?l3 ?c3 ?k3) (K39.yR ?a4 ?l4 ?c4 ?k4) (K39.yR ?a5 ?l5 ?c5 ?k5) (K39.yR ?a6 ?l6 ?c6 ?k6) (K39.yR ?a7 ?l7 ?c7 ?k7) (K39.yR ?a8 ?l8 ?c8 ?k8) (K39.yR ?a9 ?l9 ?c9 ?k9) (K39.yR ?a10 ?l10 ?c10 ?k10) (K39.yR ?a11 ?l11 ?c11 ?k11) (K39.yR ?a12 ?l12 ?c12 ?k12) (K39.bh ?a13 ?l13 ?c13 ?k13) (K39.yR ?a14 ?l14 ?c14 ?k14) (K39.yR ?a15 ?l15 ?c15 ?k15) (K39.yR ?a16 ?l16 ?c16 ?k16) (K39.yR ?a17 ?l17 ?c17 ?k17) (K39.yR ?a18 ?l18 ?c18 ?k18) (K39.yR ?a19 ?l19 ?c19 ?k19) (K39.yR ?a20 ?l20 ?c20 ?k20) (K39.yR ?a21 ?l21 ?c21 ?k21) (K39.yR ?a22 ?l22 ?c22 ?k22) (K39.yR ?a23 ?l23 ?c23 ?k23) (K39.yR ?a24 ?l24 ?c24 ?k24) (K39.yR ?a25 ?l25 ?c25 ?k25) (K39.yR ?a26 ?l26 ?c26 ?k26) (K39.yR ?a27 ?l27 ?c27 ?k27) (K39.yR ?a28 ?l28 ?c28 ?k28) (K39.yR ?a29 ?l29 ?c29 ?k29) (K39.yR ?a30 ?l30 ?c30 ?k30) (K39.yR ?a31 ?l31 ?c31 ?k31) (K39.yR ?a32 ?l32 ?c32 ?k32) ?z1 ?z2 ?z3 ?z4 ?z5 ?z6 ?z7 ?z8 ?z9 ?z10 ?z11 ?z12 ?z13 ?z14 ?z15 ?z16 ?z17 (K39.jW ?lH2 ?eH2) ?nB4 ?kP
  (case a1=>k_is);(case l1=>k_is);(case c1=>k_is);(case k1=>k_is)
  (case a2=>k_is);(case l2=>k_is);(case c2=>k_is);(case k2=>k_is)
  (case a3=>k_is);(case l3=>k_is);(case c3=>k_is);(case k3=>k_is)
  (case a4=>k_is);(case l4=>k_is);(case c4=>k_is);(case k4=>k_is)
  (case a5=>k_is);(case l5=>k_is);(case c5=>k_is);(case k5=>k_is)
  (case a6=>k_is);(case l6=>k_is);(case c6=>k_is);(case k6=>k_is)
  (case a7=>k_is);(case l7=>k_is);(case c7=>k_is);(case k7=>k_is)
  (case a8=>k_is);(case l8=>k_is);(case c8=>k_is);(case k8=>k_is)
  (case a9=>k_is);(case l9=>k_is);(case c9=>k_is);(case k9=>k_is)
  (case a10=>k_is);(case l10=>k_is);(case c10=>k_is);(case k10=>k_is)
  (case a11=>k_is);(case l11=>k_is);(case c11=>k_is);(case k11=>k_is)
  (case a12=>k_is);(case l12=>k_is);(case c12=>k_is);(case k12=>k_is)
  (case a13=>k_is);(case l13=>k_is);(case c13=>k_is);(case k13=>k_is)
  (case a14=>k_is);(case l14=>k_is);(case c14=>k_is);(case k14=>k_is)
  (case a15=>k_is);(case l15=>k_is);(case c15=>k_is);(case k15=>k_is)
  (case a16=>k_is);(case l16=>k_is);(case c16=>k_is);(case k16=>k_is)
  (case a17=>k_is);(case l17=>k_is);(case c17=>k_is);(case k17=>k_is)
  (case a18=>k_is);(case l18=>k_is);(case c18=>k_is);(case k18=>k_is)
  (case a19=>k_is);(case l19=>k_is);(case c19=>k_is);(case k19=>k_is)
  (case a20=>k_is);(case l20=>k_is);(case c20=>k_is);(case k20=>k_is)
  (case a21=>k_is);(case l21=>k_is);(case c21=>k_is);(case k21=>k_is)
  (case a22=>k_is);(case l22=>k_is);(case c22=>k_is);(case k22=>k_is)
  (case a23=>k_is);(case l23=>k_is);(case c23=>k_is);(case k23=>k_is)
  (case a24=>k_is);(case l24=>k_is);(case c24=>k_is);(case k24=>k_is)
  (case a25=>k_is);(case l25=>k_is);(case c25=>k_is);(case k25=>k_is)
  (case a26=>k_is);(case l26=>k_is);(case c26=>k_is);(case k26=>k_is)
  (case a27=>k_is);(case l27=>k_is);(case c27=>k_is);(case k27=>k_is)
  (case a28=>k_is);(case l28=>k_is);(case c28=>k_is);(case k28=>k_is)
  (case a29=>k_is);(case l29=>k_is);(case c29=>k_is);(case k29=>k_is)
  (case a30=>k_is);(case l30=>k_is);(case c30=>k_is);(case k30=>k_is)
  (case a31=>k_is);(case l31=>k_is);(case c31=>k_is);(case k31=>k_is)
  (case a32=>k_is);(case l32=>k_is);(case c32=>k_is);(case k32=>k_is)
  (case z1=>k_is)
  (case z2=>k_is)
  (case z3=>k_is)
  (case z4=>k_is)
  (case z5=>k_is)
  (case z6=>k_is)
  (case z7=>k_is)
  (case z8=>k_is)
  (case z9=>k_is)
  (case z10=>k_is)
  (case z11=>k_is)
  (case z12=>k_is)
  (case z13=>k_is)
  (case z14=>k_is)
  (case z15=>k_is)
  (case z16=>k_is)
  (case z17=>k_is)
  (case lH2=>k_is);(case eH2=>rfl);(case nB4=>decide);(case kP=>rfl)
